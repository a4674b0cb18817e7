/- ValueMembers answers true for every list of keys, every list of values and every int. -/
import Derived.Test.YtgdnkankleoaoaaMemP
import Derived.Test.YtgdnkankleoaoaaG5
import Derived.Test.YtgdnkankleoaoaaZMake
import Derived.Test.YtgdnkankleoaoaaRGet
import Derived.Test.YtgdnkankleoaoaaG3
import Derived.Test.YtgdnkankleoaoaaVLimits
import Derived.Deep.RegionHeld3
import Derived.Deep.CutBlock
import Derived.Deep.DeepCutAuto
set_option linter.unusedVariables false
set_option linter.unusedSimpArgs false
namespace Go.Proofs.Ytgdnkankleoaoaa
open Go.RowKit Go.Sort
theorem SliceK.take {w : World} {A : Option Addr} {a : Nat} {ks : List ByteArray} (h : SliceK w A a ks) (n : Nat) : SliceK w A a (ks.take n) :=
  ⟨by have := h.rs.take n; rw [kv, ← List.map_take] at this; exact this, h.nil, by have := h.le; simp; omega, h.cap, fun k hk => h.each k (List.mem_of_mem_take hk), by have := h.lim; simp; omega⟩
theorem SliceV.take {w : World} {A : Option Addr} {c : Nat} {l : List V} {xs : List Value} (h : SliceV w A c l xs) (n : Nat) : SliceV w A c (l.take n) (xs.take (n * 5)) :=
  ⟨⟨h.row.rs.take _, h.row.lies.take n⟩, h.nil, by have := h.le; simp; omega, h.cap, by have := h.lim; simp; omega⟩
theorem get_openF {f : FuncId} {args : Array Value} {w : World} {v : V} (h : Calls Try.prog f args w (GetPostF (some v) w)) :
    Calls Try.prog f args w fun e w' => ∃ (k n : Int) (s : ByteArray) (ks : List ByteArray) (es : List V) (A : Option Addr) (a : Nat) (C : Option Addr) (c : Nat), e = .returned (.tuple #[.agg #[.int .i64 k, .int .i64 n, .string s, .slice A ks.length a, .slice C es.length c], .bool true]) ∧ Below w.heap.size w w' ∧
      Lies w' (fun b => w.heap.size ≤ b ∧ b < w'.heap.size) v [.int .i64 k, .int .i64 n, .string s, .slice A ks.length a, .slice C es.length c] := by
  refine h.mono fun e w' hp => ?_
  obtain ⟨hb, ds, rfl, hl⟩ := hp
  simp only [Option.getD_some] at hl
  obtain ⟨k, n, s, ks, es⟩ := v
  have hl2 := hl
  rw [Lies] at hl2
  obtain ⟨_, A, a, C, c, ys, rfl, _⟩ := hl2
  exact ⟨k, n, s, ks, es, A, a, C, c, rfl, hb, hl⟩
/-- A box that was laid and then filled. -/
theorem vb_filled {w : World} {g : Nat} {v : V} {u0 u1 u2 u3 u4 x0 x1 x2 x3 x4 : Value} {S : Nat → Prop} (hb : Box w g 28 #[u0, u1, u2, u3, u4]) (hl : Lies w S v [x0, x1, x2, x3, x4]) (hS : ∀ b, S b → b < w.heap.size ∧ b ≠ g) :
    Vb (((((w.setCell ⟨g, 0, none⟩ x0).setCell ⟨g, 1, none⟩ x1).setCell ⟨g, 2, none⟩ x2).setCell ⟨g, 3, none⟩ x3).setCell ⟨g, 4, none⟩ x4) g v [x0, x1, x2, x3, x4] := by
  refine ⟨((((hb.put 0 x0).put 1 x1).put 2 x2).put 3 x3).put 4 x4, hl.move fun b hb => ⟨by have := (hS b hb).1; simp [World.setCell]; omega, ?_⟩⟩
  have hne := (hS b hb).2
  rw [Below.heap_setCell _ _ _ _ (by simpa using hne), Below.heap_setCell _ _ _ _ (by simpa using hne), Below.heap_setCell _ _ _ _ (by simpa using hne), Below.heap_setCell _ _ _ _ (by simpa using hne), Below.heap_setCell _ _ _ _ (by simpa using hne)]
/-- What stands behind the call of Get. -/
def Got (W4 : World) (v : V) (t14 t15 : Value) (wx : World) : Prop := Below W4.heap.size W4 wx ∧ t15 = .bool true ∧ ∃ (g5 : Nat) (cs : List Value), t14 = .pointer (some ⟨g5, 0, none⟩) ∧ Vb wx g5 v cs
/-- What stands behind the second call of Obj. -/
def Made (W4 : World) (v : V) (t9 t17 : Value) (wx : World) : Prop := Below W4.heap.size W4 wx ∧ t9 = .int .i64 0 ∧ ∃ (g6 : Nat) (cs : List Value), t17 = .pointer (some ⟨g6, 0, none⟩) ∧ Vb wx g6 v cs
def DB (ms : List Mb) (i : Nat) (v : Value) : Prop := ∃ db : Bool, v = .bool db ∧ (db = true ↔ DBefore ms i)
def DI (ms : List Mb) (i k : Nat) (v : Value) : Prop := ∃ db : Bool, v = .bool db ∧ (db = true ↔ (DBefore ms i ∧ DFrom ms i k))
theorem DB.start (ms : List Mb) : DB ms 0 (.bool true) := ⟨true, rfl, fun _ p x hp => absurd hp (Nat.not_lt_zero _), fun _ => rfl⟩
theorem DB.inner {ms : List Mb} {i : Nat} {v : Value} (h : DB ms i v) : DI ms i (i + 1) v := by
  obtain ⟨db, rfl, h⟩ := h
  exact ⟨db, rfl, h.trans ⟨fun h => ⟨h, fun x hx q y h1 h2 => by omega⟩, fun h => h.1⟩⟩
theorem DI.outer {ms : List Mb} {i n : Nat} {v : Value} (h : DI ms i n v) (hn : ms.length ≤ n) : DB ms (i + 1) v := by
  obtain ⟨db, rfl, h⟩ := h
  exact ⟨db, rfl, h.trans (dbefore_step hn)⟩
theorem DI.same {ms : List Mb} {i k : Nat} {v : Value} {x y : Mb} (h : DI ms i k v) (hx : ms[i]? = some x) (hy : ms[k]? = some y) (hik : i < k) (e : y.key = x.key) : DI ms i (k + 1) (.bool false) :=
  ⟨false, rfl, (fun h => by cases h), fun h => absurd e ((dfrom_step hx hy hik).1 h.2).2⟩
theorem DI.other {ms : List Mb} {i k : Nat} {v : Value} {x y : Mb} (h : DI ms i k v) (hx : ms[i]? = some x) (hy : ms[k]? = some y) (hik : i < k) (e : y.key ≠ x.key) : DI ms i (k + 1) v := by
  obtain ⟨db, rfl, h⟩ := h
  refine ⟨db, rfl, h.trans ?_⟩
  rw [dfrom_step hx hy hik]
  exact ⟨fun h => ⟨h.1, h.2, e⟩, fun h => ⟨h.1, h.2.1⟩⟩
set_option maxHeartbeats 20000000 in
set_option maxRecDepth 100000 in
theorem valueMembers_walk (A : Option Addr) (a : Nat) (ks : List ByteArray) (B : Option Addr) (c : Nat) (l : List V) (xs : List Value) (z : Int) (w : World) (hk : SliceK w A a ks) (hl : SliceV w B c l xs) :
    Calls Try.prog 3 #[.slice A ks.length a, .slice B l.length c, .int .i64 z] w fun e w' => e = .returned (.bool true) ∧ Below w.heap.size w w' := by
  have haw := Lib.hid (fun W => awake_any W)
  obtain ⟨n, hn⟩ : ∃ n, n = min (min ks.length l.length) 10 := ⟨_, rfl⟩
  have hn10 : n ≤ 10 := by omega
  have hnk : n ≤ ks.length := by omega
  have hnl : n ≤ l.length := by omega
  have hkl : ks.length ≤ 140737488355328 := hk.lim
  have hll : l.length ≤ 140737488355328 := hl.lim
  have hka : n ≤ a := by have := hk.le; omega
  have hlc : n ≤ c := by have := hl.le; omega
  have hac : a ≤ 9223372036854775807 := by have := hk.cap; unfold maxLen at this; omega
  have hcc : c ≤ 9223372036854775807 := by have := hl.cap; unfold maxLen at this; omega
  have HK := Lib.hid (hk.take n)
  have HL := Lib.hid (hl.take n)
  have hsl1 : ∀ X, (Instr.sliceAt 22 (.slice A ks.length a) none (some (.int .i64 (n : Int))) none).run Try.prog X = .ok (.slice A n a) X := fun X => slice_to (e := 9) Try.underlying22 ⟨1, size_string⟩ hka hk.nil
  have hsl2 : ∀ X, (Instr.sliceAt 23 (.slice B l.length c) none (some (.int .i64 (n : Int))) none).run Try.prog X = .ok (.slice B n c) X := fun X => slice_to (e := 28) Try.underlying23 ⟨5, size_value⟩ hlc hl.nil
  have hknl : (ks.take n).length = n := by simp; omega
  have hlnl : (l.take n).length = n := by simp; omega
  have HKN := Lib.hid hknl
  have HLN := Lib.hid hlnl
  generalize ks.take n = kn at *
  generalize l.take n = ln at *
  generalize xs.take (n * 5) = xn at *
  clear hk hl hknl hlnl
  have HN := Lib.hid hn
  clear hn
  go_enter Try.func3, Try.ntmps3
  go_upto_region 1 with (fail)
  go_cut [7] (fun t wx => wx = w ∧ t = .int .i64 (n : Int))
  case first =>
    have hn := HN.out
    clear hsl1 hsl2
    by_cases h1 : ks.length ≤ l.length
    · by_cases h2 : ks.length ≤ 10
      all_goals
        first | (have he : Hid (n = ks.length) := Lib.hid (by omega)) | (have he : Hid (n = 10) := Lib.hid (by omega))
        clear hn
        go_wp2_with fail
        go_meet
        refine ⟨rfl, ?_⟩
        rw [he.out]
        try (first | rfl | (simp; done) | (simp; omega))
    · by_cases h2 : l.length ≤ 10
      all_goals
        first | (have he : Hid (n = l.length) := Lib.hid (by omega)) | (have he : Hid (n = 10) := Lib.hid (by omega))
        clear hn
        go_wp2_with fail
        go_meet
        refine ⟨rfl, ?_⟩
        rw [he.out]
        try (first | rfl | (simp; done) | (simp; omega))
  case rest =>
    obtain ⟨hweq, rfl⟩ := hcut
    have hweq := hweq.symm
    subst hweq
    have hi0 : (0 : Int) ≤ (n : Int) := by omega
    have hi1 : (n : Int) ≤ (a : Int) := by omega
    have hi2 : (n : Int) ≤ (c : Int) := by omega
    go_wp2_with fail
    go_quiet (fail)
    clear hweq hsl1 hsl2
    obtain ⟨w1, hw1⟩ : ∃ X, X = w.drewN nq := ⟨_, rfl⟩
    have hb1 : Below w.heap.size w w1 := by rw [hw1]; exact below_drewN1 w nq
    rw [← hw1]
    clear hw1
    have HB1 := Lib.hid hb1
    have hsh := short_any 20 A a kn _ w1 (HK.out.below HB1.out).rs (by have := HKN.out; unfold maxLen; omega) HK.out.each (by omega) (by omega)
    rw [HKN.out] at hsh
    have HSH := Lib.hid hsh
    clear hb1 hsh
    have HSM : Hid (shortP 20 kn = true → ∀ k ∈ kn, k.size ≤ 1048576) := Lib.hid fun h k hk => by have := shortP_mem h k hk; omega
    generalize shortP 20 kn = sb at HSH HSM
    go_wp2_with fail
    refine HSH.out.mono ?_
    rintro e2 w2 ⟨rfl, hb2⟩
    have HB2 := Lib.hid (chain HB1.out hb2)
    clear hb2 HSH HB1
    cases sb with
    | false =>
      go_wp2_with fail
      refine (haw.out _).mono ?_
      rintro e3 w3 ⟨rfl, hb3⟩
      go_wp2_with fail
      go_ret
      exact ⟨rfl, chain HB2.out hb3⟩
    | true =>
      have HKS := Lib.hid (HSM.out rfl)
      have hsm := small_any 50 ln B c xn w2 (HL.out.row.below HB2.out) HL.out.lim (by omega) (by omega)
      rw [HLN.out] at hsm
      have HSM2 := Lib.hid hsm
      clear hsm HSM
      generalize smallP 50 ln = sm at HSM2
      go_wp2_with fail
      refine HSM2.out.mono ?_
      rintro e3 w3 ⟨rfl, hb3⟩
      have HB3 := Lib.hid (chain HB2.out hb3)
      clear hb3 HSM2 HB2
      cases sm with
      | false =>
        go_wp2_with fail
        refine (haw.out _).mono ?_
        rintro e4 w4 ⟨rfl, hb4⟩
        go_wp2_with fail
        go_ret
        exact ⟨rfl, chain HB3.out hb4⟩
      | true =>
        obtain ⟨ms, hmn, hmk, hmv, hmat⟩ := members_of (HKN.out.trans HLN.out.symm) HL.out.row
        rw [HLN.out] at hmn
        have HMK := Lib.hid hmk
        have HMV := Lib.hid hmv
        have HMN := Lib.hid hmn
        have HMAT := Lib.hid hmat
        have HMS : Hid (∀ m ∈ ms, m.key.size ≤ 140737488355328) := Lib.hid fun m hm => by have := HKS.out m.key (by rw [← HMK.out]; exact List.mem_map_of_mem hm); omega
        have HOBJ : Hid (∀ W, Below w.heap.size w W → Calls Try.prog 9 #[.slice A n a, .slice B n c] W (OpenedPost (objR ms) (objE ms) W)) := Lib.hid fun W hW => by
          have hW1 := (HK.out.below hW).rs
          have hW2 := HL.out.row.below hW
          rw [← HMK.out] at hW1
          rw [← HMV.out] at hW2
          have := opened_p (obj_any ms A B a c xn W hW1 hW2 (fun i m hm => (HMAT.out i m hm).below hW) (by have := HMN.out; omega) HMS.out)
          rw [HMN.out] at this
          exact this
        have HOK := Lib.hid (fun h => objE_ok (ms := ms) h)
        clear hmk hmv hmn hmat
        go_wp2_with fail
        have HO1 := Lib.hid (HOBJ.out _ HB3.out)
        generalize hee : objE ms = er at HO1 HOK
        have HEE := Lib.hid hee
        clear hee
        generalize hvr : objR ms = vr at HO1 HOK
        refine HO1.out.mono ?_
        rintro e4 w4 ⟨k4, n4, s4, ks4, es4, A4, a4, C4, c4, rfl, hb4, hl4⟩
        have HV4 := Lib.hid (Vb.new hl4)
        have HB4 := Lib.hid (chain HB3.out (chain hb4 (below1 w4 (.cells #[.int .i64 k4, .int .i64 n4, .string s4, .slice A4 ks4.length a4, .slice C4 es4.length c4] 28))))
        have HVR := Lib.hid hvr
        clear hb4 hl4 HO1 hvr
        by_cases her : er = 0
        · subst her
          by_cases hn0 : n = 0
          · have hq : ((n : Int) == 0) = true := by simp [hn0]
            clear hn0
            go_wp2_with fail
            refine (haw.out _).mono ?_
            rintro e5 w5 ⟨rfl, hb5⟩
            go_wp2_with fail
            go_ret
            exact ⟨rfl, chain HB4.out hb5⟩
          · have hq : ((n : Int) == 0) = false := by simp; omega
            have hnp : 0 < n := by omega
            clear hn0
            obtain ⟨hv1, hv2⟩ := HOK.out rfl
            subst hv1
            have HVAL := Lib.hid hv2
            clear hv2 HOK
            obtain ⟨W4, hW4⟩ : ∃ X, X = w4.alloc (.cells #[.int .i64 k4, .int .i64 n4, .string s4, .slice A4 ks4.length a4, .slice C4 es4.length c4] 28) := ⟨_, rfl⟩
            obtain ⟨g, hg⟩ : ∃ g, w4.heap.size = g := ⟨_, rfl⟩
            have hv4 := HV4.out
            have hb4 := HB4.out
            rw [← hW4] at hv4 hb4
            rw [hg] at hv4
            have HV := Lib.hid hv4
            have HB := Lib.hid hb4
            have HG := Lib.hid hg
            have HWE := Lib.hid hW4
            clear hv4 hb4 hg hW4 HV4 HB4
            have hkat : Hid (∀ i m, ms[i]? = some m → ∃ b0 o0, A = some ⟨b0, o0, none⟩ ∧ b0 < w.heap.size ∧ w.cell? ⟨b0, o0 + i, none⟩ = some (.string m.key)) := Lib.hid fun i m hm => by
              have hki : kn[i]? = some m.key := by rw [← HMK.out]; simp [hm]
              exact HK.out.rs.at_ (kv_at hki)
            go_wp2_with fail
            rw [← HWE.out]
            simp only [HG.out]
            go_loopw [10, 11] (fun td ti wr => ∃ i : Nat, i ≤ n ∧ ti = .int .i64 i ∧ DB ms i td ∧ Below W4.heap.size W4 wr) (fun _ ti _ => n - (intOf ti).toNat)
            case atStart => exact ⟨0, Nat.zero_le _, rfl, DB.start ms, Below.refl _ _⟩
            case round =>
              obtain ⟨i, hi, rfl, hdb, hbel⟩ := hrel
              have HDB := Lib.hid hdb
              have HBEL := Lib.hid hbel
              clear hdb hbel
              by_cases hlt : i < n
              · have hil : i < ms.length := by have := HMN.out; omega
                obtain ⟨m, hm⟩ : ∃ m, ms[i]? = some m := ⟨_, List.getElem?_eq_getElem hil⟩
                have HM := Lib.hid hm
                clear hm hil
                obtain ⟨db, rfl, hdbi⟩ := HDB.out
                have HDI := Lib.hid (HDB.out.inner)
                clear hdbi HDB
                go_wp2_with fail
                go_loopw [10, 12, 13] (fun td tl tk wr => ∃ k L : Nat, i + 1 ≤ k ∧ k ≤ n ∧ tk = .int .i64 k ∧ tl = .int .i64 L ∧ LastIn ms i k L ∧ DI ms i k td ∧ Below W4.heap.size W4 wr) (fun _ _ tk _ => n - (intOf tk).toNat)
                case atStart => exact ⟨i + 1, i, Nat.le_refl _, hlt, by go_num, rfl, lastIn_start ms i, HDI.out, HBEL.out⟩
                case round =>
                  clear HDI HBEL
                  obtain ⟨k, L, hk1, hk2, rfl, rfl, hlast, hdi, hbel⟩ := hrel
                  have HLA := Lib.hid hlast
                  have HDI := Lib.hid hdi
                  have HBEL := Lib.hid hbel
                  clear hlast hdi hbel
                  by_cases hkn : k < n
                  · obtain ⟨y, hy⟩ : ∃ y, ms[k]? = some y := ⟨_, List.getElem?_eq_getElem (by have := HMN.out; omega)⟩
                    obtain ⟨b0, o0, hAe, hb0, hc0⟩ := hkat.out i m HM.out
                    obtain ⟨b1, o1, hAe2, hb1, hc1⟩ := hkat.out k y hy
                    rw [hAe] at hAe2
                    injection hAe2 with hAe2
                    injection hAe2 with e1 e2
                    subst e1; subst e2
                    have hbw := chain HB.out HBEL.out
                    have c0 := below_cell hbw hb0 hc0
                    have c1 := below_cell hbw hb0 hc1
                    have hi0' : (0 : Int) ≤ (i : Int) := by omega
                    have hi1' : (i : Int) < (n : Int) := by omega
                    have hk0' : (0 : Int) ≤ (k : Int) := by omega
                    have hk1' : (k : Int) < (n : Int) := by omega
                    have HY := Lib.hid hy
                    have hse := same_eq y.key m.key
                    subst hAe
                    clear hbw hc0 hc1 hy
                    by_cases e : y.key = m.key
                    · have hbq : (y.key.toList == m.key.toList) = true := by rw [hse, (scmp_zero _ _).2 e]; rfl
                      have HL2 := Lib.hid (lastIn_same HLA.out HM.out HY.out e (by omega))
                      have HD2 := Lib.hid (HDI.out.same HM.out HY.out (by omega) e)
                      clear e hse
                      go_wp2_with fail
                      go_quiet (fail)
                      go_wp2_with fail
                      go_roundw
                      case rel => exact ⟨k + 1, k, by omega, by omega, by go_num, rfl, HL2.out, HD2.out, below_drewN HBEL.out _⟩
                      case measure => simp [intOf]; omega
                    · have hbq : (y.key.toList == m.key.toList) = false := by rw [hse, decide_eq_false (fun h => e ((scmp_zero _ _).1 h))]
                      have HL2 := Lib.hid (lastIn_other HLA.out HM.out HY.out e)
                      have HD2 := Lib.hid (HDI.out.other HM.out HY.out (by omega) e)
                      clear e hse
                      go_wp2_with fail
                      go_quiet (fail)
                      go_wp2_with fail
                      go_roundw
                      case rel => exact ⟨k + 1, L, by omega, by omega, by go_num, rfl, HL2.out, HD2.out, below_drewN HBEL.out _⟩
                      case measure => simp [intOf]; omega
                  · have hke : n = k := by omega
                    subst hke
                    obtain ⟨mL, hmL⟩ : ∃ mL, ms[L]? = some mL := ⟨_, List.getElem?_eq_getElem (by have := HMN.out; have := HLA.out.2.1; omega)⟩
                    have hlv := lastIn_value HLA.out (by have := HMN.out; omega) HM.out hmL
                    have HGET : Hid (∀ W, Below W4.heap.size W4 W → Calls Try.prog 10 #[.agg #[.int .i64 k4, .int .i64 n4, .string s4, .slice A4 ks4.length a4, .slice C4 es4.length c4], .string m.key] W _) := Lib.hid fun W hW => by
                      have h := get_fresh (objL (putAll ms)) m.key _ W (HV.out.next hW).lies
                      rw [get_made HVAL.out, hlv] at h
                      exact get_openF h
                    have HML := Lib.hid hmL
                    have hLn := HLA.out.2.1
                    clear hmL hlv
                    obtain ⟨b0, o0, hAe, hb0, hc0⟩ := hkat.out i m HM.out
                    have HKC : Hid (∀ X, Below W4.heap.size W4 X → X.cell? ⟨b0, o0 + i, none⟩ = some (.string m.key)) := Lib.hid fun X hX => below_cell (chain HB.out hX) hb0 hc0
                    subst hAe
                    clear hc0
                    go_upto_region 18 with (fail)
                    go_cut [14, 15] (fun t14 t15 wx => Got W4 mL.v t14 t15 wx)
                    case first =>
                      rename_i Jm Km hRJ hMet
                      obtain ⟨t0, t1, t2, t3, t4⟩ := box5 (HV.out.next HBEL.out).box
                      have kc := HKC.out wr HBEL.out
                      have hi0' : (0 : Int) ≤ (i : Int) := by omega
                      have hi1' : (i : Int) < (n : Int) := by omega
                      have keepS : Hid (∀ X, Below wr.heap.size wr X → X.cell? ⟨g, 0, none⟩ = some (.int .i64 k4) ∧ X.cell? ⟨g, 1, none⟩ = some (.int .i64 n4) ∧ X.cell? ⟨g, 2, none⟩ = some (.string s4) ∧ X.cell? ⟨g, 3, none⟩ = some (.slice A4 ks4.length a4) ∧ X.cell? ⟨g, 4, none⟩ = some (.slice C4 es4.length c4) ∧ X.cell? ⟨b0, o0 + i, none⟩ = some (.string m.key)) := Lib.hid fun X hX => by
                        obtain ⟨y0, y1, y2, y3, y4⟩ := box5 (HV.out.next (chain HBEL.out hX)).box
                        exact ⟨y0, y1, y2, y3, y4, HKC.out X (chain HBEL.out hX)⟩
                      have hWa : Hid (Below W4.heap.size W4 wr.drew) := Lib.hid (below_drew' HBEL.out)
                      have hWb : Hid (Below W4.heap.size W4 (wr.alloc (.cells #[.int .i64 0, .int .i64 0, .string ⟨#[]⟩, .slice none 0 0, .slice none 0 0] 28)).drew) := Lib.hid (below_drew' (chain HBEL.out (below1 _ _)))
                      have kb0 : Hid (Below wr.heap.size wr (wr.alloc (.cells #[.int .i64 0, .int .i64 0, .string ⟨#[]⟩, .slice none 0 0, .slice none 0 0] 28)).drew) := Lib.hid (below_drew' (below1 _ _))
                      have zb0 : Hid (Box (wr.alloc (.cells #[.int .i64 0, .int .i64 0, .string ⟨#[]⟩, .slice none 0 0, .slice none 0 0] 28)).drew wr.heap.size 28 #[.int .i64 0, .int .i64 0, .string ⟨#[]⟩, .slice none 0 0, .slice none 0 0]) := Lib.hid (Box.laid wr _ _)
                      have hglt := (HV.out.next HBEL.out).box.lt
                      go_region_held3 (fun w' => w'.cell? ⟨g, 0, none⟩ = some (.int .i64 k4) ∧ w'.cell? ⟨g, 1, none⟩ = some (.int .i64 n4) ∧ w'.cell? ⟨g, 2, none⟩ = some (.string s4) ∧ w'.cell? ⟨g, 3, none⟩ = some (.slice A4 ks4.length a4) ∧ w'.cell? ⟨g, 4, none⟩ = some (.slice C4 es4.length c4) ∧ w'.cell? ⟨b0, o0 + i, none⟩ = some (.string m.key)) (first | exact keepS.out _ hb5 | exact keepS.out _ (chain hb5 (below1 _ _)) | exact keepS.out _ kb0.out | exact keepS.out _ (below_five_at (Nat.le_refl _) hb5 _ _ _ _ _) | go_keep)
                        (first
                          | (go_at_call 10; refine (HGET.out _ (by exact hWa.out)).mono ?_; rintro e5 w5 ⟨rk, rn, rs, rks, res, RA, ra, RC, rc, rfl, hb5', hl5⟩; have hb5 := below_of_drew hb5')
                          | (go_at_call 10; refine (HGET.out _ (by exact hWb.out)).mono ?_; rintro e5 w5 ⟨rk, rn, rs, rks, res, RA, ra, RC, rc, rfl, hb5', hl5⟩; have hb5 := kb0.out.trans (hb5'.mono kb0.out.size); have zb5 := zb0.out.below hb5' zb0.out.lt; obtain ⟨y0, y1, y2, y3, y4⟩ := box5 zb5; have z0 := zb5.free 0; have z1 := zb5.free 1; have z2 := zb5.free 2; have z3 := zb5.free 3; have z4 := zb5.free 4))
                      all_goals
                        refine hMet _ _ (Met.intro (hRJ _ _ ?_))
                        (repeat apply Exists.intro)
                        refine ⟨?_, rfl⟩
                        first
                          | exact ⟨chain HBEL.out (chain hb5 (below1 _ _)), rfl, _, _, rfl, Vb.new (hl5.move fun b hb => ⟨hb.2, rfl⟩)⟩
                          | exact ⟨chain HBEL.out (below_five_at (Nat.le_refl _) hb5 _ _ _ _ _), rfl, _, _, rfl, vb_filled zb5 hl5 (fun b hb => ⟨hb.2, by have := hb.1; simp at this; omega⟩)⟩
                    case rest =>
                      obtain ⟨hbw, rfl, g5, cs5, rfl, hvb⟩ := hcut
                      obtain ⟨lkey, lk, lnn, ls, lks, les, lA, la, lB, lb⟩ := mL
                      obtain ⟨⟨b1, o1, hBe, hb1, c0, c1, c2, c3, c4⟩, hml⟩ := HMAT.out L _ HML.out
                      simp only [Mb.v, Mb.five] at hvb c0 c1 c2 c3 c4 hml
                      have hvl := hvb.lies
                      obtain ⟨A5, a5, C5, c5, xs5, rfl, _⟩ := lies_open hvl
                      subst hBe
                      have hbww := chain HB.out hbw
                      have d0 := below_cell hbww hb1 c0
                      have d1 := below_cell hbww hb1 c1
                      have d2 := below_cell hbww hb1 c2
                      have d3 := below_cell hbww hb1 c3
                      have d4 := below_cell hbww hb1 c4
                      have hltb : b1 < wc.heap.size := by have := hbww.size; omega
                      obtain ⟨r0, r1, r2, r3, r4⟩ := box5 hvb.box
                      have hltg := hvb.box.lt
                      have k0 := fun u : Calm wc.heap.size wc => u.cell hltg r0
                      have k1 := fun u : Calm wc.heap.size wc => u.cell hltg r1
                      have k2' := fun u : Calm wc.heap.size wc => u.cell hltg r2
                      have k3' := fun u : Calm wc.heap.size wc => u.cell hltg r3
                      have k4' := fun u : Calm wc.heap.size wc => u.cell hltg r4
                      have j0 := fun u : Calm wc.heap.size wc => u.cell hltb d0
                      have j1 := fun u : Calm wc.heap.size wc => u.cell hltb d1
                      have j2 := fun u : Calm wc.heap.size wc => u.cell hltb d2
                      have j3 := fun u : Calm wc.heap.size wc => u.cell hltb d3
                      have j4 := fun u : Calm wc.heap.size wc => u.cell hltb d4
                      have HSA := Lib.hid (fun u : Calm wc.heap.size wc => same_self (below_lies u.below hvl) (below_lies u.below (below_lies hbww hml)))
                      have HBW := Lib.hid hbw
                      have hL0 : (0 : Int) ≤ (L : Int) := by omega
                      have hL1 : (L : Int) < (n : Int) := by omega
                      clear r0 r1 r2 r3 r4 c0 c1 c2 c3 c4 d0 d1 d2 d3 d4 hvb hvl hml hbww hbw
                      go_wp2_with fail
                      refine wp_region_calm (w0 := wc) (B := wc.heap.size) (by kernel_rfl) (by kernel_rfl) (Below.refl _ _) ?_
                      repeat (go_big_quiet_step (first
                        | (go_at_call 11; with_reducible refine Calm.call (Nat.le_refl _) (HSA.out _))))
                      refine wpQuiet_nil ?_
                      intro _ hw'
                      obtain ⟨u, rfl⟩ := hw'
                      have hbu := u.below
                      clear k0 k1 k2' k3' k4' j0 j1 j2 j3 j4
                      go_wp2_with fail
                      go_roundw
                      case rel => exact ⟨i + 1, by omega, by go_num, HDI.out.outer (by have := HMN.out; omega), chain HBW.out hbu⟩
                      case measure => simp [intOf]; omega
              · have hie : n = i := by omega
                subst hie
                obtain ⟨db, rfl, hdb⟩ := HDB.out
                have hkl4 : ks4.length = (putAll ms).length := by
                  have h := HV.out.lies
                  unfold objL at h
                  obtain ⟨_, _, _, _, _, hcs, _⟩ := lies_open h
                  simp only [List.cons.injEq, Value.slice.injEq] at hcs
                  have := hcs.2.2.2.1.2.1
                  rw [this, List.length_map]
                have hdist : db = true ↔ Dist ms := by rw [← dbefore_all, HMN.out]; exact hdb
                obtain ⟨t0, t1, t2, t3, t4⟩ := box5 (HV.out.next HBEL.out).box
                cases db with
                | false =>
                  have hlt2 : ks4.length < n := by
                    have hnd : ¬ Dist ms := fun h => by have := hdist.2 h; cases this
                    have := dup_len ms hnd
                    have := HMN.out
                    omega
                  have hq2 : decide ((ks4.length : Int) < (n : Int)) = true := by simp; omega
                  clear hdist hdb HDB hkl4
                  go_wp2_with fail
                  refine (haw.out _).mono ?_
                  rintro e6 w6 ⟨rfl, hb6⟩
                  go_wp2_with fail
                  go_ret
                  exact ⟨rfl, chain HB.out (chain HBEL.out hb6)⟩
                | true =>
                  have hds := hdist.1 rfl
                  have hle2 : ks4.length = n := by rw [hkl4, dist_len ms hds, HMN.out]
                  have HDS := Lib.hid hds
                  have HLE := Lib.hid hle2
                  clear hdist hdb HDB hkl4 hds hle2
                  obtain ⟨d, hdn, hmod⟩ := kmod_nat z n hnp (by omega)
                  have HMOD := Lib.hid hmod
                  clear hmod
                  go_wp2_with fail
                  refine (HMOD.out _).mono ?_
                  rintro e6 w6 ⟨rfl, rfl⟩
                  clear t0 t1 t2 t3 t4
                  go_upto_region 24 with (fail)
                  go_cut [9, 17] (fun t9 t17 wx => Made W4 (objL (putAll ms)) t9 t17 wx)
                  case first =>
                    rename_i Jm Km hRJ hMet
                    have hdn' : d ≤ n := Nat.le_of_lt hdn
                    have hsa : ∀ X, (Instr.sliceAt 22 (.slice A n a) (some (.int .i64 (d : Int))) none none).run Try.prog X = .ok (.slice (dropA A a d 1) (n - d) (a - d)) X := fun X => slice_from (e := 9) Try.underlying22 size_string hdn'
                    have hsb : ∀ X, (Instr.sliceAt 22 (.slice A n a) none (some (.int .i64 (d : Int))) none).run Try.prog X = .ok (.slice A d a) X := fun X => slice_to (e := 9) Try.underlying22 ⟨1, size_string⟩ (by omega) HK.out.nil
                    have hsc : ∀ X, (Instr.sliceAt 23 (.slice B n c) (some (.int .i64 (d : Int))) none none).run Try.prog X = .ok (.slice (dropA B c d 5) (n - d) (c - d)) X := fun X => slice_from (e := 28) Try.underlying23 size_value hdn'
                    have hsd : ∀ X, (Instr.sliceAt 23 (.slice B n c) none (some (.int .i64 (d : Int))) none).run Try.prog X = .ok (.slice B d c) X := fun X => slice_to (e := 28) Try.underlying23 ⟨5, size_value⟩ (by omega) HL.out.nil
                    have HSa := Lib.hid (src_kd HB.out HK.out HKN.out hka hdn')
                    have HSb := Lib.hid (src_kt HB.out HK.out HKN.out hka hdn')
                    have HSc := Lib.hid (src_ed HB.out HL.out HLN.out hlc hdn')
                    have HSd := Lib.hid (src_et HB.out HL.out HLN.out hlc hdn')
                    have HM1 : Hid (0 + (n - d) ≤ 100) := Lib.hid (by omega)
                    have HM2 : Hid (n - d + d ≤ 100) := Lib.hid (by omega)
                    have HSUB : Hid (n - d + d = n) := Lib.hid (Nat.sub_add_cancel hdn')
                    have HROT := Lib.hid (rot_st ms kn ln xn d n w W4 _ HMK.out HMV.out HDS.out HMN.out hn10 hdn' HB.out HL.out.row.lies HMS.out HVR.out HEE.out)
                    have hd0 : (0 : Int) ≤ (d : Int) := by omega
                    have hd1 : (d : Int) ≤ (n : Int) := by omega
                    have hd2 : (d : Int) ≤ (a : Int) := by omega
                    have hd3 : (d : Int) ≤ (c : Int) := by omega
                    have st0 := Mk2.start HBEL.out
                    go_region_held3 (fun _ => True) (exact trivial)
                      (first
                        | (apply step_st_k (s := .tmp 108) (x := .tmp 111); (focus (as_aux_lemma => rfl)); (focus (as_aux_lemma => rfl)); (focus exact HSa.out); (focus (as_aux_lemma => rfl)); (focus ((conv => lhs; whnf); try rfl)); (focus (repeat (first | (with_reducible assumption) | (with_reducible apply Mk2.drew) | (with_reducible apply Mk2.litk) | (with_reducible apply Mk2.lite) | (with_reducible apply Mk2.zbox) | (with_reducible rfl) | (focus (simp only [szA, szD]; done)))); done); (focus exact HM1.out); intro v4 w4 st4; (try simp only [szA, szD, Nat.zero_add, List.nil_append] at st4))
                        | (apply step_st_k (s := .tmp 112) (x := .tmp 115); (focus (as_aux_lemma => rfl)); (focus (as_aux_lemma => rfl)); (focus exact HSb.out); (focus (as_aux_lemma => rfl)); (focus ((conv => lhs; whnf); try rfl)); (focus (repeat (first | (with_reducible assumption) | (with_reducible apply Mk2.drew) | (with_reducible apply Mk2.litk) | (with_reducible apply Mk2.lite) | (with_reducible apply Mk2.zbox) | (with_reducible rfl) | (focus (simp only [szA, szD]; done)))); done); (focus exact HM2.out); intro v5 w5 st5; (try simp only [szA, szD, Nat.zero_add, List.nil_append] at st5); rw [HSUB.out] at st5)
                        | (apply step_st_e (s := .tmp 117) (x := .tmp 120); (focus (as_aux_lemma => rfl)); (focus (as_aux_lemma => rfl)); (focus exact HSc.out); (focus (as_aux_lemma => rfl)); (focus ((conv => lhs; whnf); try rfl)); (focus (repeat (first | (with_reducible assumption) | (with_reducible apply Mk2.drew) | (with_reducible apply Mk2.litk) | (with_reducible apply Mk2.lite) | (with_reducible apply Mk2.zbox) | (with_reducible rfl) | (focus (simp only [szA, szD]; done)))); done); (focus exact HM1.out); intro v6 w6 st6; (try simp only [szA, szD, Nat.zero_add, List.nil_append] at st6))
                        | (apply step_st_e (s := .tmp 121) (x := .tmp 124); (focus (as_aux_lemma => rfl)); (focus (as_aux_lemma => rfl)); (focus exact HSd.out); (focus (as_aux_lemma => rfl)); (focus ((conv => lhs; whnf); try rfl)); (focus (repeat (first | (with_reducible assumption) | (with_reducible apply Mk2.drew) | (with_reducible apply Mk2.litk) | (with_reducible apply Mk2.lite) | (with_reducible apply Mk2.zbox) | (with_reducible rfl) | (focus (simp only [szA, szD]; done)))); done); (focus exact HM2.out); intro v7 w7 st7; (try simp only [szA, szD, Nat.zero_add, List.nil_append] at st7); rw [HSUB.out] at st7)
                        | (go_at_call 9; apply Calls.mono; (focus (apply HROT.out; (focus (repeat (first | (with_reducible assumption) | (with_reducible apply Mk2.drew) | (with_reducible apply Mk2.litk) | (with_reducible apply Mk2.lite) | (with_reducible apply Mk2.zbox) | (with_reducible rfl) | (focus (simp only [szA, szD]; done)))); done))); rintro e8 w8 ⟨rk, rn, rs, rks, res, RA, ra, RC, rc, hrv, rfl, hb8, hl8, hz8⟩; (try simp only [szA, szD] at hz8); (try simp only [szA, szD] at hl8); (first | (obtain ⟨hp8, zz⟩ := hz8 _ rfl; obtain ⟨y0, y1, y2, y3, y4⟩ := box5 zz; have z0 := zz.free 0; have z1 := zz.free 1; have z2 := zz.free 2; have z3 := zz.free 3; have z4 := zz.free 4) | skip)))
                    all_goals
                      as_aux_lemma =>
                        refine hMet _ _ (Met.intro (hRJ _ _ ?_))
                        (repeat apply Exists.intro)
                        refine ⟨?_, rfl⟩
                        first
                          | exact ⟨below_five_at hp8 hb8 _ _ _ _ _, rfl, _, _, rfl, vb_filled zz hl8 (fun b hb => ⟨hb.2, hb.1 _ rfl⟩)⟩
                          | exact ⟨chain hb8 (below1 _ _), rfl, _, _, rfl, Vb.new (hl8.move fun b hb => ⟨hb.2, rfl⟩)⟩
                  case rest =>
                    obtain ⟨hbw, rfl, g6, cs6, rfl, hvb⟩ := hcut
                    have hvl := hvb.lies
                    have hvl2 := hvl
                    unfold objL at hvl2
                    obtain ⟨A6, a6, C6, c6, xs6, rfl, _⟩ := lies_open hvl2
                    simp only [List.length_map] at hvb hvl
                    obtain ⟨t0, t1, t2, t3, t4⟩ := box5 (HV.out.next hbw).box
                    obtain ⟨r0, r1, r2, r3, r4⟩ := box5 hvb.box
                    have hl4 := (HV.out.next hbw).lies
                    have HSAME := Lib.hid (same_self hl4 hvl)
                    have HBW := Lib.hid hbw
                    have hq3 : (((ks4.length : Nat) : Int) == ((n : Nat) : Int)) = true := by rw [HLE.out]; simp
                    clear hvl2 hvl hl4
                    go_wp2_with fail
                    refine HSAME.out.mono ?_
                    rintro e7 w7 ⟨rfl, hb7⟩
                    obtain ⟨y0, y1, y2, y3, y4⟩ := box5 (HV.out.next (chain HBW.out hb7)).box
                    clear t0 t1 t2 t3 t4 r0 r1 r2 r3 r4
                    go_wp2_with fail
                    refine (haw.out _).mono ?_
                    rintro e8 w8 ⟨rfl, hb8⟩
                    go_wp2_with fail
                    go_ret
                    exact ⟨rfl, chain HB.out (chain HBW.out (chain hb7 hb8))⟩
        · have hq : (er != 0) = true := by simp [her]
          clear her
          go_wp2_with fail
          refine (haw.out _).mono ?_
          rintro e5 w5 ⟨rfl, hb5⟩
          go_wp2_with fail
          go_ret
          exact ⟨rfl, chain HB4.out hb5⟩
end Go.Proofs.Ytgdnkankleoaoaa

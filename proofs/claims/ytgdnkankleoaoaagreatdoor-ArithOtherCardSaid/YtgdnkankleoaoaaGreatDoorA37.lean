/- arith.repeat at every string and number; products of strings and numbers. keep.Count and keep.Small: what a value takes. keep.Small: some answer, and nothing that was there has turned. keep.Mod: the remainder that is not negative. ArithCompare answers true for every two values and every int. -/
import Derived.Test.YtgdnkankleoaoaaGreatDoorA30
import Derived.Test.YtgdnkankleoaoaaGreatDoorA36
import Derived.Test.YtgdnkankleoaoaaGreatDoorA35
import Derived.Test.YtgdnkankleoaoaaGreatDoorRows
import Derived.Test.YtgdnkankleoaoaaGreatDoorA01
import Derived.Lib.Hide
import Derived.WalkSpells
import Derived.WalkLawsBesides
import Derived.Outline
import Derived.Test.YtgdnkankleoaoaaGreatDoorA28
import Derived.WalkKit
import Derived.Test.YtgdnkankleoaoaaGreatDoorA02
import Derived.Test.YtgdnkankleoaoaaGreatDoorA06
import Derived.Test.YtgdnkankleoaoaaGreatDoorA07
import Derived.Test.YtgdnkankleoaoaaGreatDoorA03
import Derived.Deep.RegionHeld3
import Derived.Deep.DeepCutAuto
set_option linter.unusedVariables false
set_option linter.unusedSimpArgs false
namespace Go.Proofs.YtgdnkankleoaoaaGreatDoor
open Go.RowKit Go.Sort
set_option maxHeartbeats 4000000 in
set_option maxRecDepth 100000 in
theorem repeat_any (s : ByteArray) (n : Int) (w : World) (hs : s.size ≤ 4096) : Calls Tryz.prog 195 #[.string s, .int .i64 n] w (RetPost (repR s n).1 (repR s n).2 w) := by
  have hE : s.toList.isEmpty = decide (s.size = 0) := by
    rw [Lib.toList_data, Lib.size_eq]
    cases s.data.toList <;> simp
  unfold repR
  by_cases h1 : n < 1
  · rw [if_pos h1]
    go_enter Tryz.func195, Tryz.ntmps195
    go_wp2_with fail
    refine bodyPost_ret (v := .tuple #[.agg #[.int .i64 0, .int .i64 0, .string ⟨#[]⟩, .slice none 0 0, .slice none 0 0], .int .i64 0]) (by simp [results, Tryz.results195, go_sem]) rfl ?_
    exact ret_of (ds := [.int .i64 0, .int .i64 0, .string ⟨#[]⟩, .slice none 0 0, .slice none 0 0]) ((Below.refl _ _).alloc (Nat.le_refl _) _) (lies_null _ _)
  · rw [if_neg h1]
    by_cases h0 : s.size = 0
    · rw [if_pos h0]
      rw [decide_eq_true h0] at hE
      have HC := Lib.hid (fun W => ret_open (str_any ⟨#[]⟩ W (by decide)))
      generalize strR ⟨#[]⟩ = r at HC ⊢
      generalize strE ⟨#[]⟩ = er at HC ⊢
      go_enter Tryz.func195, Tryz.ntmps195
      go_wp2_with fail
      refine (HC.out _).mono ?_
      rintro e1 w1 ⟨rk, rn, rs, rks, res, RA, ra, RC, rc, hrv, rfl, hb1, hl1⟩
      have H1 : Hid (Below w.heap.size w w1 ∧ Box w1 w.heap.size 25 #[.int .i64 0, .int .i64 0, .string ⟨#[]⟩, .slice none 0 0, .slice none 0 0]) := Lib.hid ⟨(chain (below1 w _) hb1), ((Box.laid w _ _).below hb1 (by simp))⟩
      have HL := Lib.hid hl1
      clear hb1 hl1 hrv
      obtain ⟨t0, t1, t2, t3, t4⟩ := box5 H1.out.2
      have z0 := H1.out.2.free 0
      have z1 := H1.out.2.free 1
      have z2 := H1.out.2.free 2
      have z3 := H1.out.2.free 3
      have z4 := H1.out.2.free 4
      go_wp2_with fail
      refine bodyPost_ret (v := .tuple #[.agg #[.int .i64 rk, .int .i64 rn, .string rs, .slice RA rks.length ra, .slice RC res.length rc], .int .i64 er]) (by simp [results, Tryz.results195, go_sem, t0, t1, t2, t3, t4]) rfl ?_
      exact ret_put H1.out.1 (Nat.le_refl _) H1.out.2.lt (HL.out.move fun b hb => ⟨⟨by have := hb.1; simp at this; omega, hb.2, by have := hb.1; simp at this; omega⟩, rfl⟩)
    · rw [if_neg h0]
      rw [decide_eq_false h0] at hE
      have hd : (4096 : Int) / (s.size : Int) = ((4096 / s.size : Nat) : Int) := by rw [Int.natCast_ediv]; rfl
      have hd2 : 4096 / s.size ≤ 4096 := Nat.div_le_self _ _
      have hpos : 1 ≤ s.size := by omega
      have hT : Int.tdiv 4096 (s.size : Int) = ((4096 / s.size : Nat) : Int) := by rw [← hd]; exact Int.tdiv_eq_ediv_of_nonneg (by decide)
      rw [hd]
      by_cases hb : n > ((4096 / s.size : Nat) : Int)
      · rw [if_pos hb]
        have HB := Lib.hid hb
        have hz : ((s.size : Int) == 0) = false := beq_eq_false_iff_ne.2 (by omega)
        have hz2 : ¬ ((s.size : Int) = 0) := by omega
        generalize hq : 4096 / s.size = q at *
        have hb' : (q : Int) < n := hb
        go_enter Tryz.func195, Tryz.ntmps195
        go_wp2_with fail
        refine bodyPost_ret (v := .tuple #[.agg #[.int .i64 0, .int .i64 0, .string ⟨#[]⟩, .slice none 0 0, .slice none 0 0], .int .i64 2]) (by simp [results, Tryz.results195, go_sem]) rfl ?_
        exact ret_of (ds := [.int .i64 0, .int .i64 0, .string ⟨#[]⟩, .slice none 0 0, .slice none 0 0]) ((Below.refl _ _).alloc (Nat.le_refl _) _) (lies_null _ _)
      · rw [if_neg hb]
        obtain ⟨m, rfl⟩ : ∃ m : Nat, n = m := ⟨n.toNat, by omega⟩
        have hle : m ≤ 4096 / s.size := by omega
        have hm2 : s.size * m ≤ 4096 := by
          have h3 : m * s.size ≤ 4096 / s.size * s.size := Nat.mul_le_mul_right _ hle
          have h4 := Nat.div_mul_le_self 4096 s.size
          rw [Nat.mul_comm]
          omega
        have hR := Lib.hid (fun W => repeat_lib s m W (by omega) (by omega))
        rw [Int.toNat_natCast]
        have hsz := rep_size s m
        have HC := Lib.hid (fun W => ret_open (str_any (rep s m) W (by omega)))
        generalize strR (rep s m) = r at HC ⊢
        generalize strE (rep s m) = er at HC ⊢
        generalize rep s m = u at *
        have hz : ((s.size : Int) == 0) = false := beq_eq_false_iff_ne.2 (by omega)
        have hz2 : ¬ ((s.size : Int) = 0) := by omega
        generalize hq : 4096 / s.size = q at *
        have hb' : ¬ ((q : Int) < (m : Int)) := hb
        clear hsz hm2
        go_enter Tryz.func195, Tryz.ntmps195
        go_wp2_with fail
        refine (hR.out _).mono ?_
        rintro e0 w0 ⟨rfl, hb0⟩
        have HB0 := Lib.hid hb0
        clear hb0
        go_wp2_with fail
        refine (HC.out _).mono ?_
        rintro e1 w1 ⟨rk, rn, rs, rks, res, RA, ra, RC, rc, hrv, rfl, hb1, hl1⟩
        have H1 : Hid (Below w.heap.size w w1 ∧ Box w1 w.heap.size 25 #[.int .i64 0, .int .i64 0, .string ⟨#[]⟩, .slice none 0 0, .slice none 0 0]) := Lib.hid ⟨(chain (below1 w _) (chain HB0.out hb1)), ((Box.laid w _ _).below (chain HB0.out hb1) (by simp))⟩
        have HL := Lib.hid hl1
        have hz0 : w.heap.size + 1 ≤ w0.heap.size := by have := HB0.out.size; simpa using this
        clear hb1 hl1 hrv
        obtain ⟨t0, t1, t2, t3, t4⟩ := box5 H1.out.2
        have z0 := H1.out.2.free 0
        have z1 := H1.out.2.free 1
        have z2 := H1.out.2.free 2
        have z3 := H1.out.2.free 3
        have z4 := H1.out.2.free 4
        go_wp2_with fail
        refine bodyPost_ret (v := .tuple #[.agg #[.int .i64 rk, .int .i64 rn, .string rs, .slice RA rks.length ra, .slice RC res.length rc], .int .i64 er]) (by simp [results, Tryz.results195, go_sem, t0, t1, t2, t3, t4]) rfl ?_
        exact ret_put H1.out.1 (Nat.le_refl _) H1.out.2.lt (HL.out.move fun b hb => ⟨⟨by have := hb.1; omega, hb.2, by have := hb.1; omega⟩, rfl⟩)

set_option maxHeartbeats 4000000 in
set_option maxRecDepth 100000 in
theorem mul_sn (n n2 : Int) (s s2 : ByteArray) (A B A2 B2 : Option Addr) (la a lb b la2 a2 lb2 b2 : Nat) (w : World) (r : V) (er : Int) (hc : ∀ W, Below w.heap.size w W → Calls Tryz.prog 195 #[.string s, .int .i64 n2] W (RetPost r er W)) :
    Calls Tryz.prog 108 #[.agg #[.int .i64 4, .int .i64 n, .string s, .slice A la a, .slice B lb b], .agg #[.int .i64 3, .int .i64 n2, .string s2, .slice A2 la2 a2, .slice B2 lb2 b2]] w (RetPost r er w) := by
  have EQ := eq_pair
  have HC := Lib.hid (fun W hW => ret_open (hc W hW))
  have H0 := Lib.hid (B3.start w #[.int .i64 4, .int .i64 n, .string s, .slice A la a, .slice B lb b] #[.int .i64 3, .int .i64 n2, .string s2, .slice A2 la2 a2, .slice B2 lb2 b2])
  clear hc
  go_enter Tryz.func108, Tryz.ntmps108
  go_wp2_with fail
  refine (HC.out _ H0.out.below).mono ?_
  rintro e1 w1 ⟨rk, rn, rs, rks, res, RA, ra, RC, rc, hrv, rfl, hb1, hl1⟩
  have H1 := Lib.hid (H0.out.next hb1)
  have HL := Lib.hid hl1
  have hs2 := H0.out.r.lt
  have hs3 := H0.out.below.size
  clear hb1 hl1 hrv
  obtain ⟨t0, t1, t2, t3, t4⟩ := box5 H1.out.r
  have z0 := H1.out.r.free 0
  have z1 := H1.out.r.free 1
  have z2 := H1.out.r.free 2
  have z3 := H1.out.r.free 3
  have z4 := H1.out.r.free 4
  go_wp2_with fail
  refine bodyPost_ret (v := .tuple #[.agg #[.int .i64 rk, .int .i64 rn, .string rs, .slice RA rks.length ra, .slice RC res.length rc], .int .i64 er]) (by simp [results, Tryz.results108, go_sem, t0, t1, t2, t3, t4]) rfl ?_
  exact ret_put H1.out.below (by omega) H1.out.r.lt (HL.out.move fun b hb => ⟨⟨by omega, hb.2, by omega⟩, rfl⟩)
set_option maxHeartbeats 4000000 in
set_option maxRecDepth 100000 in
theorem mul_ns (n n2 : Int) (s s2 : ByteArray) (A B A2 B2 : Option Addr) (la a lb b la2 a2 lb2 b2 : Nat) (w : World) (r : V) (er : Int) (hc : ∀ W, Below w.heap.size w W → Calls Tryz.prog 195 #[.string s2, .int .i64 n] W (RetPost r er W)) :
    Calls Tryz.prog 108 #[.agg #[.int .i64 3, .int .i64 n, .string s, .slice A la a, .slice B lb b], .agg #[.int .i64 4, .int .i64 n2, .string s2, .slice A2 la2 a2, .slice B2 lb2 b2]] w (RetPost r er w) := by
  have EQ := eq_pair
  have HC := Lib.hid (fun W hW => ret_open (hc W hW))
  have H0 := Lib.hid (B3.start w #[.int .i64 3, .int .i64 n, .string s, .slice A la a, .slice B lb b] #[.int .i64 4, .int .i64 n2, .string s2, .slice A2 la2 a2, .slice B2 lb2 b2])
  clear hc
  go_enter Tryz.func108, Tryz.ntmps108
  go_wp2_with fail
  refine (HC.out _ H0.out.below).mono ?_
  rintro e1 w1 ⟨rk, rn, rs, rks, res, RA, ra, RC, rc, hrv, rfl, hb1, hl1⟩
  have H1 := Lib.hid (H0.out.next hb1)
  have HL := Lib.hid hl1
  have hs2 := H0.out.r.lt
  have hs3 := H0.out.below.size
  clear hb1 hl1 hrv
  obtain ⟨t0, t1, t2, t3, t4⟩ := box5 H1.out.r
  have z0 := H1.out.r.free 0
  have z1 := H1.out.r.free 1
  have z2 := H1.out.r.free 2
  have z3 := H1.out.r.free 3
  have z4 := H1.out.r.free 4
  go_wp2_with fail
  refine bodyPost_ret (v := .tuple #[.agg #[.int .i64 rk, .int .i64 rn, .string rs, .slice RA rks.length ra, .slice RC res.length rc], .int .i64 er]) (by simp [results, Tryz.results108, go_sem, t0, t1, t2, t3, t4]) rfl ?_
  exact ret_put H1.out.below (by omega) H1.out.r.lt (HL.out.move fun b hb => ⟨⟨by omega, hb.2, by omega⟩, rfl⟩)
end Go.Proofs.YtgdnkankleoaoaaGreatDoor
namespace Go.Proofs.YtgdnkankleoaoaaGreatDoor
open Go.RowKit
mutual
/-- What Count counts: at most a little more than m. -/
def cnt : V → Int → Int
  | .mk _ _ s ks es, m => cntL es m (cntK ks m (1 + s.size))
def cntL : List V → Int → Int → Int
  | [], _, n => n
  | e :: es, m, n => if n ≤ m then cntL es m (n + cnt e (m - n)) else n
def cntK : List ByteArray → Int → Int → Int
  | [], _, n => n
  | x :: ks, m, n => if n ≤ m then cntK ks m (n + (1 + x.size)) else n
end
theorem cntK_drop {ks : List ByteArray} {i : Nat} {x : ByteArray} (hi : ks[i]? = some x) {m q : Int} (hq : q ≤ m) : cntK (ks.drop i) m q = cntK (ks.drop (i + 1)) m (q + (1 + x.size)) := by
  obtain ⟨hl, rfl⟩ := List.getElem?_eq_some_iff.1 hi
  rw [List.drop_eq_getElem_cons hl, cntK, if_pos hq]
theorem cntK_end {ks : List ByteArray} {i : Nat} {m q : Int} (h : ¬ (i < ks.length ∧ q ≤ m)) : cntK (ks.drop i) m q = q := by
  cases hd : ks.drop i with
  | nil => rw [cntK]
  | cons x r =>
    rw [cntK, if_neg]
    intro hq
    refine h ⟨?_, hq⟩
    have := congrArg List.length hd
    simp at this
    omega
theorem cntL_drop {es : List V} {i : Nat} {e : V} (hi : es[i]? = some e) {m q : Int} (hq : q ≤ m) : cntL (es.drop i) m q = cntL (es.drop (i + 1)) m (q + cnt e (m - q)) := by
  obtain ⟨hl, rfl⟩ := List.getElem?_eq_some_iff.1 hi
  rw [List.drop_eq_getElem_cons hl, cntL, if_pos hq]
theorem cntL_end {es : List V} {i : Nat} {m q : Int} (h : ¬ (i < es.length ∧ q ≤ m)) : cntL (es.drop i) m q = q := by
  cases hd : es.drop i with
  | nil => rw [cntL]
  | cons x r =>
    rw [cntL, if_neg]
    intro hq
    refine h ⟨?_, hq⟩
    have := congrArg List.length hd
    simp at this
    omega
theorem cntK_bd (ks : List ByteArray) (hk : ∀ x ∈ ks, x.size ≤ 140737488355328) (m n : Int) (hm : 0 ≤ m) (h1 : 1 ≤ n) (hn : n ≤ m + 281474976710656) : 1 ≤ cntK ks m n ∧ cntK ks m n ≤ m + 281474976710656 := by
  induction ks generalizing n with
  | nil => rw [cntK]; exact ⟨h1, hn⟩
  | cons x r ih =>
    rw [cntK]
    have := hk x (by simp)
    split
    · exact ih (fun y hy => hk y (by simp [hy])) _ (by omega) (by omega)
    · exact ⟨h1, hn⟩
theorem cnt_bd : ∀ v : V, v.Fit → ∀ m : Int, 0 ≤ m → 1 ≤ cnt v m ∧ cnt v m ≤ m + 281474976710656 := by
  refine V.ind fun k n s ks es ih hf m hm => ?_
  rw [V.Fit] at hf
  obtain ⟨h1, h2, h3, h4, hL⟩ := hf
  rw [cnt]
  have hK := cntK_bd ks h2 m (1 + s.size) hm (by omega) (by omega)
  generalize cntK ks m (1 + s.size) = q at hK
  clear h4
  induction es generalizing q with
  | nil => rw [cntL]; exact hK
  | cons e es ihl =>
    rw [V.FitL] at hL
    rw [cntL]
    split
    · have := ih e (by simp) hL.1 (m - q) (by omega)
      exact ihl (fun u hu => ih u (by simp [hu])) hL.2 _ ⟨by omega, by omega⟩
    · exact hK
set_option maxHeartbeats 1000000 in
theorem count_any : ∀ v : V, ∀ (cs : List Value) (w : World) (m : Int), Lies w (· < w.heap.size) v cs → 0 ≤ m → m ≤ 1000000 →
    Calls Tryz.prog 104 #[.agg cs.toArray, .int .i64 m] w fun e w' => e = .returned (.int .i64 (cnt v m)) ∧ Below w.heap.size w w' := by
  refine V.ind fun k n s ks es ih cs w m h hm0 hm1 => ?_
  have hf := lies_fit _ _ h
  rw [V.Fit] at hf
  obtain ⟨h1, h2, h3, h4, hFL⟩ := hf
  obtain ⟨A, a, B, b, xs, rfl, hAn, hBn, ⟨ha1, ha2⟩, ⟨hb1, hb2⟩, hA, hB, hL⟩ := lies_open h
  have HA := Lib.hid hA
  have HB := Lib.hid hB
  have HL := Lib.hid hL
  have IH := Lib.hid ih
  have H2 := Lib.hid h2
  have HF := Lib.hid hFL
  clear hA hB hL ih h2 hFL h hAn hBn
  show Calls _ _ #[.agg #[.int .i64 k, .int .i64 n, .string s, .slice A ks.length a, .slice B es.length b], .int .i64 m] w _
  go_enter Tryz.func104, Tryz.ntmps104
  go_wp2
  unfold maxLen at ha2 hb2
  go_loop [5, 6] (fun c t => ∃ (i : Nat) (q : Int), i ≤ ks.length ∧ t = .int .i64 i ∧ c = .int .i64 q ∧ 1 ≤ q ∧ q ≤ m + 281474976710656 ∧ cntK ks m (1 + s.size) = cntK (ks.drop i) m q) (fun _ t => ks.length - (intOf t).toNat)
  case atStart => exact ⟨0, _, Nat.zero_le _, rfl, rfl, by omega, by omega, rfl⟩
  case round =>
    obtain ⟨i, q, hi, rfl, rfl, hq1, hq2, hK0⟩ := hrel
    have hK := Lib.hid hK0
    clear hK0
    by_cases hgo : i < ks.length ∧ q ≤ m
    · obtain ⟨hlt, hqm⟩ := hgo
      obtain ⟨x, hx⟩ : ∃ x, ks[i]? = some x := ⟨_, List.getElem?_eq_getElem hlt⟩
      have hxs := H2.out x (List.mem_of_getElem? hx)
      obtain ⟨b0, o0, rfl, hb0, hc0⟩ := HA.out.at_ (kv_at hx)
      have hstep := Lib.hid (hK.out.trans (cntK_drop hx hqm))
      have hX := Lib.hid hx
      clear hx
      go_wp2
      go_round
      case rel => exact ⟨i + 1, _, by omega, by go_num, rfl, by omega, by omega, hstep.out⟩
      case measure => simp [intOf]; omega
    · have hkk := Lib.hid (hK.out.trans (cntK_end hgo))
      by_cases hlt : i < ks.length
      all_goals
        go_wp2
        go_loopw [5, 7] (fun c t wr => ∃ (i : Nat) (q : Int), i ≤ es.length ∧ t = .int .i64 i ∧ c = .int .i64 q ∧ 1 ≤ q ∧ q ≤ m + 281474976710656 ∧ cnt (.mk k n s ks es) m = cntL (es.drop i) m q ∧ Below (w.heap.size + 1) (w.alloc (.cells #[.int .i64 k, .int .i64 n, .string s, .slice A ks.length a, .slice B es.length b] 25)) wr) (fun _ t _ => es.length - (intOf t).toNat)
        case atStart => exact ⟨0, _, Nat.zero_le _, rfl, rfl, hq1, hq2, by rw [cnt, hkk.out]; rfl, Below.refl _ _⟩
        case round =>
          clear hK hkk hlt hgo hi hq1 hq2
          obtain ⟨i, q, hi, rfl, rfl, hq1, hq2, hK0, hbel⟩ := hrel
          have hK := Lib.hid hK0
          clear hK0
          have hbox := box_cell hbel 4 _ rfl
          by_cases hgo : i < es.length ∧ q ≤ m
          · obtain ⟨hlt, hqm⟩ := hgo
            obtain ⟨e, he⟩ : ∃ e, es[i]? = some e := ⟨_, List.getElem?_eq_getElem hlt⟩
            obtain ⟨b0, o0, v0, v1, v2, v3, v4, rfl, hb0, hle, c0, c1, c2, c3, c4⟩ := elem_cells HB.out HL.out he
            have d0 := old_cell hbel hb0 c0
            have d1 := old_cell hbel hb0 c1
            have d2 := old_cell hbel hb0 c2
            have d3 := old_cell hbel hb0 c3
            have d4 := old_cell hbel hb0 c4
            clear c0 c1 c2 c3 c4
            have hstep := Lib.hid (hK.out.trans (cntL_drop he hqm))
            have hcb := cnt_bd e (fitL_mem HF.out (List.mem_of_getElem? he)) (m - q) (by omega)
            have hcall := Lib.hid (IH.out e (List.mem_of_getElem? he) [v0, v1, v2, v3, v4] wr (m - q) (old_lies hbel hle) (by omega) (by omega))
            have hX := Lib.hid he
            clear he hle
            go_wp2_with fail
            refine hcall.out.mono ?_
            rintro e' w' ⟨rfl, hb⟩
            go_wp2
            go_roundw
            case rel => exact ⟨i + 1, _, by omega, by go_num, rfl, by omega, by omega, hstep.out, hbel.trans (hb.mono (by have := hbel.size; simp at this; omega))⟩
            case measure => simp [intOf]; omega
          · have hkk := Lib.hid (hK.out.trans (cntL_end hgo))
            by_cases hlt : i < es.length
            all_goals
              go_wp2
              go_ret
              exact ⟨ret_int hkk.out.symm, below_old hbel⟩
end Go.Proofs.YtgdnkankleoaoaaGreatDoor
namespace Go.Proofs.YtgdnkankleoaoaaGreatDoor
open Go.RowKit Go.Sort
/-- What Small answers. -/
def smallP (m : Int) (l : List V) : Bool := l.all fun v => decide (cnt v m ≤ m)
def smallFrom (m : Int) (l : List V) (i : Nat) : Prop := smallP m l = smallP m (l.drop i)
theorem small_step {m : Int} {l : List V} {i : Nat} {e : V} (he : l[i]? = some e) (h : smallFrom m l i) : smallP m l = (decide (cnt e m ≤ m) && smallP m (l.drop (i + 1))) := by
  obtain ⟨h1, rfl⟩ := List.getElem?_eq_some_iff.1 he
  unfold smallFrom at h
  rw [h, List.drop_eq_getElem_cons h1]
  rfl
set_option maxHeartbeats 1000000 in
set_option maxRecDepth 100000 in
theorem small_any (m : Int) (l : List V) (A : Option Addr) (c : Nat) (xs : List Value) (w : World) (h : Row w A l xs) (hn : l.length ≤ 140737488355328) (hm0 : 0 ≤ m) (hm1 : m ≤ 1000000) :
    Calls Tryz.prog 11 #[.int .i64 m, .slice A l.length c] w fun e w' => e = .returned (.bool (smallP m l)) ∧ Below w.heap.size w w' := by
  have HR := Lib.hid h
  clear h
  go_enter Tryz.func11, Tryz.ntmps11
  go_wp2_with fail
  go_loopw [5] (fun t wr => ∃ i : Nat, i ≤ l.length ∧ t = .int .i64 i ∧ smallFrom m l i ∧ Below w.heap.size w wr) (fun t _ => l.length - (intOf t).toNat)
  case atStart => exact ⟨0, Nat.zero_le _, rfl, by unfold smallFrom; rw [List.drop_zero], Below.refl _ _⟩
  case round =>
    obtain ⟨i, hi, rfl, he0, hbel⟩ := hrel
    have HE := Lib.hid he0
    clear he0
    by_cases hlt : i < l.length
    · obtain ⟨e, he⟩ : ∃ e, l[i]? = some e := ⟨_, List.getElem?_eq_getElem hlt⟩
      have hst := Lib.hid (small_step he HE.out)
      have hv := count_any e
      obtain ⟨ek, en, es', eks, ees⟩ := e
      obtain ⟨bq, oq, A1, a1, C1, c1, rfl, hbq, hle, d0, d1, d2, d3, d4⟩ := elem_open HR.out.rs HR.out.lies he
      have q0 := below_cell hbel hbq d0
      have q1 := below_cell hbel hbq d1
      have q2 := below_cell hbel hbq d2
      have q3 := below_cell hbel hbq d3
      have q4 := below_cell hbel hbq d4
      clear d0 d1 d2 d3 d4
      have HC := Lib.hid (hv [.int .i64 ek, .int .i64 en, .string es', .slice A1 eks.length a1, .slice C1 ees.length c1] wr m (below_lies hbel hle) hm0 hm1)
      clear hv he hle
      generalize cnt (.mk ek en es' eks ees) m = x at HC hst
      by_cases hx : x ≤ m
      · have hst2 : Hid (smallFrom m l (i + 1)) := Lib.hid (by unfold smallFrom; rw [hst.out, decide_eq_true hx, Bool.true_and])
        have hx2 : ¬ m < x := by omega
        clear hst
        go_wp2_with fail
        refine HC.out.mono ?_
        rintro e1 w1 ⟨rfl, hb1⟩
        go_wp2_with fail
        go_roundw
        case rel => exact ⟨i + 1, by omega, by go_num, hst2.out, chain hbel hb1⟩
        case measure => simp [intOf]; omega
      · have hst2 : Hid (smallP m l = false) := Lib.hid (by rw [hst.out, decide_eq_false hx, Bool.false_and])
        have hx2 : m < x := by omega
        clear hst
        go_wp2_with fail
        refine HC.out.mono ?_
        rintro e1 w1 ⟨rfl, hb1⟩
        go_wp2_with fail
        go_ret
        exact ⟨ret_bool hst2.out.symm, chain hbel hb1⟩
    · have hend : Hid (smallP m l = true) := Lib.hid (by
        have := HE.out
        unfold smallFrom at this
        rw [this, List.drop_eq_nil_of_le (by omega)]
        rfl)
      go_wp2_with fail
      go_ret
      exact ⟨ret_bool hend.out.symm, hbel⟩
end Go.Proofs.YtgdnkankleoaoaaGreatDoor
namespace Go.Proofs.YtgdnkankleoaoaaGreatDoor
open Go.RowKit
theorem retm {k : IntKind} {a b : Int} (h : a = b) : Ending.returned (.int k a) = .returned (.int k b) := by rw [h]
theorem mod_fix' (x n : Int) (hn : 0 < n) : (if x.tmod n < 0 then x.tmod n + n else x.tmod n) = x % n := by
  have h1 := Int.tmod_add_mul_tdiv x n
  have h2 := Int.lt_tmod_of_pos x hn
  have h3 := Int.tmod_lt_of_pos x hn
  split
  · rename_i h
    have : (x.tmod n + n) % n = x % n := by
      conv => rhs; rw [← h1]
      simp
    rw [← this, Int.emod_eq_of_lt (by omega) (by omega)]
  · rename_i h
    have : (x.tmod n) % n = x % n := by
      conv => rhs; rw [← h1]
      simp
    rw [← this, Int.emod_eq_of_lt (by omega) (by omega)]
set_option maxHeartbeats 400000 in
theorem kmod_any (x n : Int) (hn : 0 < n) (hn2 : n ≤ 4611686018427387903) (w : World) :
    Calls Tryz.prog 28 #[.int .i64 x, .int .i64 n] w fun e w' => e = .returned (.int .i64 (x % n)) ∧ w = w' := by
  have hf := Lib.hid (mod_fix' x n hn)
  have hb : Hid (-n < x.tmod n ∧ x.tmod n < n) := Lib.hid (by
    have h1 := Int.lt_tmod_of_pos x hn
    have h2 := Int.tmod_lt_of_pos x hn
    exact ⟨h1, h2⟩)
  have hne : (n == 0) = false := by simp; omega
  have hne1 : n ≠ 0 := by omega
  obtain ⟨hb1, hb2⟩ := hb.out
  by_cases hs : x.tmod n < 0
  · have he : Hid (x.tmod n + n = x % n) := Lib.hid (by rw [← hf.out, if_pos hs])
    go_enter Tryz.func28, Tryz.ntmps28
    go_wp2
    go_ret
    exact ⟨retm he.out, rfl⟩
  · have he : Hid (x.tmod n = x % n) := Lib.hid (by rw [← hf.out, if_neg hs])
    go_enter Tryz.func28, Tryz.ntmps28
    go_wp2
    go_ret
    exact ⟨retm he.out, rfl⟩
/-- Mod as a number of its own. -/
theorem kmod_nat (x : Int) (n : Nat) (hn : 0 < n) (hn2 : n ≤ 1000000) : ∃ d : Nat, d < n ∧ ∀ w, Calls Tryz.prog 28 #[.int .i64 x, .int .i64 (n : Int)] w fun e w' => e = .returned (.int .i64 (d : Int)) ∧ w = w' := by
  have h1 := Int.emod_nonneg x (b := (n : Int)) (by omega)
  have h2 := Int.emod_lt_of_pos x (b := (n : Int)) (by omega)
  refine ⟨(x % n).toNat, by omega, fun w => ?_⟩
  rw [Int.toNat_of_nonneg h1]
  exact kmod_any x n (by omega) (by omega) w
end Go.Proofs.YtgdnkankleoaoaaGreatDoor
namespace Go.Proofs.YtgdnkankleoaoaaGreatDoor
open Go.RowKit Go.Sort
/-- The operators of comparisons. -/
def cmpOp (i : Nat) : ByteArray := if i = 0 then ⟨#[61, 61]⟩ else if i = 1 then ⟨#[33, 61]⟩ else if i = 2 then ⟨#[60]⟩ else if i = 3 then ⟨#[60, 61]⟩ else if i = 4 then ⟨#[62]⟩ else ⟨#[62, 61]⟩
/-- What they answer. -/
def cmpB (i : Nat) (c : Int) : Bool := if i = 0 then decide (c = 0) else if i = 1 then !decide (c = 0) else if i = 2 then decide (c < 0) else if i = 3 then decide (c ≤ 0) else if i = 4 then decide (0 < c) else decide (0 ≤ c)
theorem cmp_at (i : Nat) (c : Int) (w : World) : Calls Tryz.prog 111 #[.string (cmpOp i), .int .i64 c] w (RetPost (boolV (cmpB i c)) 0 w) := by
  unfold cmpOp cmpB
  (repeat' split)
  · exact cmpop_eq c w
  · exact cmpop_ne c w
  · exact cmpop_lt c w
  · exact cmpop_le c w
  · exact cmpop_gt c w
  · exact cmpop_ge c w
theorem cmpOp_ne (i : Nat) : ((cmpOp i).toList == [43]) = false ∧ ((cmpOp i).toList == [45]) = false ∧ ((cmpOp i).toList == [42]) = false ∧ ((cmpOp i).toList == [47]) = false ∧ ((cmpOp i).toList == [37]) = false := by
  unfold cmpOp
  (repeat' split) <;> decide +kernel
set_option maxHeartbeats 1000000 in
set_option maxRecDepth 100000 in
theorem bin_cmp (i : Nat) (v u : V) (cs ds : List Value) (w : World) (h : Lies w (· < w.heap.size) v cs) (h' : Lies w (· < w.heap.size) u ds) (hv : valid v = true) (hu : valid u = true) :
    Calls Tryz.prog 14 #[.string (cmpOp i), .agg cs.toArray, .agg ds.toArray] w (RetPost (boolV (cmpB i (cmpV v u))) 0 w) := by
  have HV := Lib.hid (fun W (hW : Below w.heap.size w W) => valid_any v cs W (below_lies hW h))
  have HU := Lib.hid (fun W (hW : Below w.heap.size w W) => valid_any u ds W (below_lies hW h'))
  have HQ := Lib.hid (fun W (hW : Below w.heap.size w W) => cmp_any v u cs ds W (below_lies hW h) (below_lies hW h'))
  rw [hv] at HV
  rw [hu] at HU
  obtain ⟨n1, n2, n3, n4, n5⟩ := cmpOp_ne i
  generalize cmpV v u = q at HQ ⊢
  have HC := Lib.hid (fun W => ret_open (cmp_at i q W))
  generalize cmpB i q = bb at HC ⊢
  generalize cmpOp i = op at n1 n2 n3 n4 n5 HC ⊢
  obtain ⟨k, n, s, ks, es⟩ := v
  obtain ⟨A, a, B, b, xs, rfl, _⟩ := lies_open h
  obtain ⟨k2, m2, s2, ks2, es2⟩ := u
  obtain ⟨A2, a2, B2, b2, xs2, rfl, _⟩ := lies_open h'
  clear h h' hv hu
  generalize ks.length = l1 at *
  generalize es.length = l2 at *
  generalize ks2.length = l3 at *
  generalize es2.length = l4 at *
  show Calls _ _ #[_, .agg #[.int .i64 k, .int .i64 n, .string s, .slice A l1 a, .slice B l2 b], .agg #[.int .i64 k2, .int .i64 m2, .string s2, .slice A2 l3 a2, .slice B2 l4 b2]] w _
  have H0 := Lib.hid (B3.start w #[.int .i64 k, .int .i64 n, .string s, .slice A l1 a, .slice B l2 b] #[.int .i64 k2, .int .i64 m2, .string s2, .slice A2 l3 a2, .slice B2 l4 b2])
  go_enter Tryz.func14, Tryz.ntmps14
  go_wp2_with fail
  refine (HV.out _ H0.out.below).mono ?_
  rintro e1 w1 ⟨rfl, hb1⟩
  have H1 := Lib.hid (H0.out.next hb1)
  obtain ⟨y0, y1, y2, y3, y4⟩ := box5 H1.out.y
  clear hb1 H0
  go_wp2_with fail
  refine (HU.out _ H1.out.below).mono ?_
  rintro e2 w2 ⟨rfl, hb2⟩
  have H2 := Lib.hid (H1.out.next hb2)
  clear hb2 H1 y0 y1 y2 y3 y4
  obtain ⟨x0, x1, x2, x3, x4⟩ := box5 H2.out.x
  obtain ⟨y0, y1, y2, y3, y4⟩ := box5 H2.out.y
  go_wp2_with fail
  refine (HQ.out _ H2.out.below).mono ?_
  rintro e3 w3 ⟨rfl, hb3⟩
  have H3 := Lib.hid (H2.out.next hb3)
  clear hb3 x0 x1 x2 x3 x4 y0 y1 y2 y3 y4 H2
  go_wp2_with fail
  refine (HC.out _).mono ?_
  rintro e4 w4 ⟨rk, rn, rs, rks, res, RA, ra, RC, rc, hrv, rfl, hb4, hl4⟩
  have H4 := Lib.hid (H3.out.next hb4)
  have HL := Lib.hid hl4
  have hs3 := H3.out.r.lt
  have hs4 := H3.out.below.size
  clear hb4 hl4 hrv
  obtain ⟨t0, t1, t2, t3, t4⟩ := box5 H4.out.r
  have z0 := H4.out.r.free 0
  have z1 := H4.out.r.free 1
  have z2 := H4.out.r.free 2
  have z3 := H4.out.r.free 3
  have z4 := H4.out.r.free 4
  go_wp2_with fail
  refine bodyPost_ret (v := .tuple #[.agg #[.int .i64 rk, .int .i64 rn, .string rs, .slice RA rks.length ra, .slice RC res.length rc], .int .i64 0]) (by simp [results, Tryz.results14, go_sem, t0, t1, t2, t3, t4]) rfl ?_
  exact ret_put H4.out.below (by omega) H4.out.r.lt (HL.out.move fun b hb => ⟨⟨by omega, hb.2, by omega⟩, rfl⟩)
end Go.Proofs.YtgdnkankleoaoaaGreatDoor

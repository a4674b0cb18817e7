/- text.numbers. text.onStrings: the functions on strings, by their list. -/
import Derived.Test.YtfmpdcmedaiooaaGreatDoorU39
set_option linter.unusedVariables false
set_option linter.unusedSimpArgs false
namespace Go.Proofs.YtfmpdcmedaiooaaGreatDoor
open Go.RowKit Go.Shelf Go.Sort
/-- The cells of a number as a value. -/
def numF (n : Int) : Fv := ⟨3, n, ⟨#[]⟩, none, 0, 0, none, 0, 0⟩
/-- Between two rounds. -/
structure NsSt (g n : Nat) (ps : List Int) (w0 w : World) (i : Nat) (ys : List Fv) : Prop where
  own : w.ownsRow w0.heap.size 25 5 (.slice (some ⟨g, 0, none⟩) n n) n (ys.flatMap Fv.cs)
  len : ys.length = n
  head : ys.take i = (ps.take i).map numF
  res : Box w w0.heap.size 25 #[.int .i64 0, .int .i64 0, .string ⟨#[]⟩, .slice none 0 0, .slice none 0 0]
  ne : w0.heap.size < g
  below : Below w0.heap.size w0 w
theorem NsSt.next {g n i : Nat} {ps : List Int} {w0 w w2 : World} {ys : List Fv} (h : NsSt g n ps w0 w i ys) (hb : Below w.heap.size w w2) : NsSt g n ps w0 w2 i ys :=
  ⟨own_belowV h.own hb, h.len, h.head, h.res.below hb h.res.lt, h.ne, chain h.below hb⟩
theorem NsSt.put {g n i : Nat} {ps : List Int} {w0 w : World} {ys : List Fv} {s : Int} (h : NsSt g n ps w0 w i ys) (hs : ps[i]? = some s) (hi : i < n) :
    NsSt g n ps w0 (((((w.setCell ⟨g, i * 5, none⟩ (.int .i64 3)).setCell ⟨g, i * 5 + 1, none⟩ (.int .i64 s)).setCell ⟨g, i * 5 + 2, none⟩ (.string ⟨#[]⟩)).setCell ⟨g, i * 5 + 3, none⟩ (.slice none 0 0)).setCell ⟨g, i * 5 + 4, none⟩ (.slice none 0 0)) (i + 1) (ys.set i (numF s)) := by
  have hl := h.len
  have hg : w0.heap.size ≤ g := Nat.le_of_lt h.ne
  have hne : w0.heap.size ≠ g := Nat.ne_of_lt h.ne
  refine ⟨?_, by rw [List.length_set]; exact hl, ?_, ((((h.res.far hne _).far hne _).far hne _).far hne _).far hne _, h.ne, ((((h.below.setCell hg _).setCell hg _).setCell hg _).setCell hg _).setCell hg _⟩
  · rw [← flat_set (numF s) ys i (by omega)]
    exact own_set (own_set (own_set (own_set (own_set h.own (i := i * 5) (by omega) _) (i := i * 5 + 1) (by omega) _) (i := i * 5 + 2) (by omega) _) (i := i * 5 + 3) (by omega) _) (i := i * 5 + 4) (by omega) _
  · rw [List.take_add_one, List.getElem?_set_self (by omega), List.take_set_of_le (Nat.le_refl _), h.head, List.take_add_one, hs, List.map_append]
    rfl
theorem NsSt.free {g n i : Nat} {ps : List Int} {w0 w : World} {ys : List Fv} (h : NsSt g n ps w0 w i ys) (k : Nat) : w.frozen? ⟨g, k, none⟩ = false := by
  rcases h.own.2 with ⟨h0, _⟩ | ⟨g', cap', cur, hv, hbg, hgg, _⟩
  · cases h0
  · cases hv
    exact (show Box w g _ cur from hgg).free k
theorem NsSt.there {g n i : Nat} {ps : List Int} {w0 w : World} {ys : List Fv} (h : NsSt g n ps w0 w i ys) (k : Nat) (hk : k < n * 5) : ∃ u, w.cell? ⟨g, k, none⟩ = some u := by
  have h1 := h.own.1
  rw [h.own.cellAt k hk]
  exact ⟨_, List.getElem?_eq_getElem (by omega)⟩
def zvs (zs : List Int) : List Value := zs.map (Value.int .i64)
theorem zvs_at {zs : List Int} {i : Nat} {x : Int} (h : zs[i]? = some x) : (zvs zs)[i]? = some (.int .i64 x) := by simp [zvs, h]
set_option maxHeartbeats 4000000 in
set_option maxRecDepth 100000 in
theorem numbers_any (A : Option Addr) (c n : Nat) (ps : List Int) (w : World) (hA : Rs w (· < w.heap.size) A (zvs ps)) (hn : ps.length = n) (hps : n ≤ 1000000) :
    Calls Tryz.prog 41 #[.slice A n c] w (RetPost (arrR (ps.map numV)) (arrE (ps.map numV)) w) := by
  have hmk := made_nulls n hps
  have hnum := Lib.hid (fun (n : Int) W => num_any n W)
  have HA := Lib.hid hA
  have HN := Lib.hid hn
  clear hA hn
  go_enter Tryz.func41, Tryz.ntmps41
  go_wp2_with fail
  obtain ⟨w1, hw1⟩ : ∃ X, X = (w.alloc (.cells #[.int .i64 0, .int .i64 0, .string ⟨#[]⟩, .slice none 0 0, .slice none 0 0] 25)).alloc (.cells (zl n).toArray 25) := ⟨_, rfl⟩
  have HS : Hid (NsSt (w.heap.size + 1) n ps w w1 0 (List.replicate n fvZero)) := Lib.hid (by
    refine ⟨⟨by rw [flat_len, List.length_replicate], .inr ⟨w.heap.size + 1, n, (zl n).toArray, rfl, by omega, ?_, Nat.le_refl _, by unfold maxLen; omega, by rw [List.size_toArray, zl_flat, flat_len, List.length_replicate], ?_⟩⟩, List.length_replicate, rfl, ?_, by omega, ?_⟩
    · rw [hw1]
      have := Box.laid (w.alloc (.cells #[.int .i64 0, .int .i64 0, .string ⟨#[]⟩, .slice none 0 0, .slice none 0 0] 25)) 25 (zl n).toArray
      have e : (w.alloc (.cells #[.int .i64 0, .int .i64 0, .string ⟨#[]⟩, .slice none 0 0, .slice none 0 0] 25)).heap.size = w.heap.size + 1 := by simp
      rw [e] at this
      exact this
    · rw [List.toList_toArray, ← zl_flat, List.take_of_length_le (by rw [zl_flat, flat_len, List.length_replicate]; exact Nat.le_refl _)]
    · rw [hw1]; exact (Box.laid w _ _).alloc _
    · rw [hw1]; exact ((Go.RowKit.Below.refl _ w).alloc (Nat.le_refl _) _).alloc (by simp) _)
  rw [← hw1]
  clear hw1 hmk
  go_loopg [5, 6, 12] n (fun gg _ _ s12 wr => ∃ (i : Nat) (ys : List Fv), s12 = .int .i64 i ∧ i ≤ n ∧ n - i ≤ gg ∧ Hid (NsSt (w.heap.size + 1) n ps w wr i ys))
  case atStart => exact ⟨0, _, rfl, Nat.zero_le _, by omega, HS⟩
  case round =>
    clear HS
    obtain ⟨i, ys, rfl, hin, hg, HS⟩ := hrel
    by_cases hlt : i < n
    · obtain ⟨s, hs⟩ : ∃ s, ps[i]? = some s := ⟨_, List.getElem?_eq_getElem (by rw [HN.out]; exact hlt)⟩
      obtain ⟨b, o, rfl, hb, hc⟩ := HA.out.at_ (zvs_at hs)
      have hcr := (HS.out.below.cell (p := ⟨b, o + i, none⟩) hb).trans hc
      have hi0 : (0 : Int) ≤ (i : Int) := by omega
      have hil : (i : Int) < (n : Int) := by omega
      clear hb hc
      go_wp2_with fail
      refine (hnum.out _ _).mono ?_
      rintro e2 w2 ⟨rfl, hb2⟩
      have HS2 := Lib.hid (HS.out.next hb2)
      clear HS hb2
      obtain ⟨y0, hy0⟩ := HS2.out.there (i * 5) (by omega)
      obtain ⟨y1, hy1⟩ := HS2.out.there (i * 5 + 1) (by omega)
      obtain ⟨y2, hy2⟩ := HS2.out.there (i * 5 + 2) (by omega)
      obtain ⟨y3, hy3⟩ := HS2.out.there (i * 5 + 3) (by omega)
      obtain ⟨y4, hy4⟩ := HS2.out.there (i * 5 + 4) (by omega)
      have z0 := HS2.out.free (i * 5)
      have z1 := HS2.out.free (i * 5 + 1)
      have z2 := HS2.out.free (i * 5 + 2)
      have z3 := HS2.out.free (i * 5 + 3)
      have z4 := HS2.out.free (i * 5 + 4)
      have HD3 := HS2.out.put hs hlt
      clear hs hcr
      go_wp2_with fail
      generalize (((((w2.setCell ⟨w.heap.size + 1, i * 5, none⟩ (.int .i64 3)).setCell ⟨w.heap.size + 1, i * 5 + 1, none⟩ (.int .i64 s)).setCell ⟨w.heap.size + 1, i * 5 + 2, none⟩ (.string ⟨#[]⟩)).setCell ⟨w.heap.size + 1, i * 5 + 3, none⟩ (.slice none 0 0)).setCell ⟨w.heap.size + 1, i * 5 + 4, none⟩ (.slice none 0 0)) = W9 at HD3 ⊢
      have HD4 := Lib.hid HD3
      clear HD3 HS2 hy0 hy1 hy2 hy3 hy4 z0 z1 z2 z3 z4
      go_roundg (n - (i + 1))
      case measure => omega
      case rel => exact ⟨i + 1, _, by first | rfl | go_num, by omega, Nat.le_refl _, HD4⟩
    · obtain rfl : i = n := by omega
      have hil : ¬ ((i : Int) < (i : Int)) := by omega
      have hys : ys = ps.map numF := by
        have := HS.out.head
        rw [List.take_of_length_le (by rw [HS.out.len]; exact Nat.le_refl _), List.take_of_length_le (by rw [HN.out]; exact Nat.le_refl _)] at this
        exact this
      subst hys
      obtain ⟨D', d', he, hdn, hdl, hdm, hrs⟩ := own_open HS.out.own
      cases he
      have hm : (ps.map fun s => (numV s, numF s)).map Prod.fst = ps.map numV := by rw [List.map_map]; rfl
      have hm2 : (ps.map fun s => (numV s, numF s)).map Prod.snd = ps.map numF := by rw [List.map_map]; rfl
      have hsl : SliceV wr (some ⟨w.heap.size + 1, 0, none⟩) i (ps.map numV) ((ps.map numF).flatMap Fv.cs) :=
        ⟨⟨hrs.move fun x hx => ⟨hx.2.1, rfl⟩, by rw [← hm, ← hm2]; exact liesL_of _ fun p hp => by obtain ⟨s, hs, rfl⟩ := List.mem_map.1 hp; exact lies_numv _ _ s⟩, hdn, by rw [List.length_map, HN.out]; exact Nat.le_refl _, hdm, by rw [List.length_map, HN.out]; omega⟩
      have har := arr_any _ _ _ _ _ hsl
      rw [List.length_map, HN.out] at har
      have HC := Lib.hid (ret_open har)
      clear hdn hdl hdm hrs hm hm2 hsl har
      go_wp2_with fail
      refine HC.out.mono ?_
      rintro e2 w2 ⟨rk, rn, rs, rks, res, RA, ra, RC, rc, hrv, rfl, hb2, hl2⟩
      have HB := Lib.hid (HS.out.below.trans (hb2.mono HS.out.below.size))
      have HR := Lib.hid (HS.out.res.below hb2 HS.out.res.lt)
      have HL := Lib.hid hl2
      have hs2 := HS.out.res.lt
      clear hb2 hl2 hrv
      obtain ⟨t0, t1, t2, t3, t4⟩ := box5 HR.out
      have z0 := HR.out.free 0
      have z1 := HR.out.free 1
      have z2 := HR.out.free 2
      have z3 := HR.out.free 3
      have z4 := HR.out.free 4
      go_wp2_with fail
      refine bodyPost_ret (v := .tuple #[.agg #[.int .i64 rk, .int .i64 rn, .string rs, .slice RA rks.length ra, .slice RC res.length rc], .int .i64 (arrE (ps.map numV))]) (by simp [results, Tryz.results41, go_sem, t0, t1, t2, t3, t4]) rfl ?_
      exact ret_put HB.out (Nat.le_refl _) HR.out.lt (HL.out.move fun b hb => ⟨⟨by omega, hb.2, by omega⟩, rfl⟩)
end Go.Proofs.YtfmpdcmedaiooaaGreatDoor
namespace Go.Proofs.YtfmpdcmedaiooaaGreatDoor
open Go.RowKit Go.Sort
/-- The list of the functions on the strings s and t. -/
def fnCells (s t : ByteArray) : Array Value := #[.func (.func 47) #[.agg #[.string s, .string t]] #[], .func (.func 48) #[.agg #[.string s, .string t]] #[], .func (.func 49) #[.agg #[.string s, .string t]] #[], .func (.func 50) #[.agg #[.string s, .string t]] #[], .func (.func 51) #[.agg #[.string s, .string t]] #[], .func (.func 52) #[.agg #[.string s, .string t]] #[], .func (.func 53) #[.agg #[.string s, .string t]] #[], .func (.func 54) #[.agg #[.string s, .string t]] #[], .func (.func 55) #[.agg #[.string s, .string t]] #[], .func (.func 56) #[.agg #[.string s, .string t]] #[], .func (.func 57) #[.agg #[.string s, .string t]] #[], .func (.func 58) #[.agg #[.string s, .string t]] #[]]
set_option maxHeartbeats 4000000 in
set_option maxRecDepth 100000 in
theorem flist_any (s t : ByteArray) (w : World) : Calls Tryz.prog 39 #[.agg #[.string s, .string t]] w fun e w' => ∃ g, w.heap.size ≤ g ∧ e = .returned (.slice (some ⟨g, 0, none⟩) 12 12) ∧ Below w.heap.size w w' ∧ Box w' g 62 (fnCells s t) := by
  have hmf : ∀ (fn : Fn) (first cap : Array Value) (w : World), (Instr.makeFunc fn first cap).run Tryz.prog w = .ok (.func fn first cap) w := fun _ _ _ _ => rfl
  go_enter Tryz.func39, Tryz.ntmps39
  go_wp2_with fail
  go_ret
  refine ⟨w.heap.size + 1, by omega, rfl, ((Below.refl _ _).alloc (Nat.le_refl _) _).alloc (by simp) _, ?_⟩
  exact box_at _ _ _ _ (by simp)
/-- What a function of the list gives, its arguments judged. -/
def onR (v u : V) (R : V × Int) : V × Int := if valid v = true then (if valid u = true then (if kd v = 4 then (if kd u = 4 then R else (vnull, 12)) else (vnull, 12)) else (vnull, 1)) else (vnull, 1)
set_option maxHeartbeats 4000000 in
set_option maxRecDepth 100000 in
theorem on_bad (i : Int) (v u : V) (R : V × Int) (cs ds : List Value) (w : World) (h : Lies w (· < w.heap.size) v cs) (h' : Lies w (· < w.heap.size) u ds) (hbad : ¬ (valid v = true ∧ valid u = true ∧ kd v = 4 ∧ kd u = 4)) :
    Calls Tryz.prog 26 #[.int .i64 i, .agg cs.toArray, .agg ds.toArray] w (RetPost (onR v u R).1 (onR v u R).2 w) := by
  have HV := Lib.hid (fun W (hW : Below w.heap.size w W) => valid_any v cs W (below_lies hW h))
  have HU := Lib.hid (fun W (hW : Below w.heap.size w W) => valid_any u ds W (below_lies hW h'))
  unfold onR
  obtain ⟨k, n, s, ks, es⟩ := v
  obtain ⟨k2, n2, s2, ks2, es2⟩ := u
  obtain ⟨A, a, B, b, xs, rfl, _⟩ := lies_open h
  obtain ⟨A2, a2, B2, b2', ys, rfl, _⟩ := lies_open h'
  clear h h'
  have H0 := Lib.hid (B3.start w #[.int .i64 k, .int .i64 n, .string s, .slice A ks.length a, .slice B es.length b] #[.int .i64 k2, .int .i64 n2, .string s2, .slice A2 ks2.length a2, .slice B2 es2.length b2'])
  have hkd : kd (V.mk k n s ks es) = k := rfl
  have hkd2 : kd (V.mk k2 n2 s2 ks2 es2) = k2 := rfl
  rw [hkd, hkd2]
  rw [hkd, hkd2] at hbad
  clear hkd hkd2
  by_cases hv : valid (V.mk k n s ks es) = true
  · rw [if_pos hv]
    by_cases hu : valid (V.mk k2 n2 s2 ks2 es2) = true
    · rw [if_pos hu]
      have hb2 : ¬ (k = 4 ∧ k2 = 4) := fun q => hbad ⟨hv, hu, q.1, q.2⟩
      rw [hv] at HV
      rw [hu] at HU
      clear hv hu hbad
      by_cases c6 : k = 4
      · rw [if_pos c6]
        have c62 : ¬ k2 = 4 := fun q => hb2 ⟨c6, q⟩
        rw [if_neg c62]
        have q : (k2 == 4) = false := by simpa using c62
        have q2 : (k2 != 4) = true := by simp [c62]
        subst c6
        clear hb2
        go_enter Tryz.func26, Tryz.ntmps26
        go_wp2_with fail
        refine (HV.out _ H0.out.below).mono ?_
        rintro e1 w1 ⟨rfl, hb1⟩
        have H1 := Lib.hid (H0.out.next hb1)
        clear hb1
        obtain ⟨y0, y1, y2, y3, y4⟩ := box5 H1.out.r
        have z0 := H1.out.r.free 0
        have z1 := H1.out.r.free 1
        have z2 := H1.out.r.free 2
        have z3 := H1.out.r.free 3
        have z4 := H1.out.r.free 4
        obtain ⟨t0, t1, t2, t3, t4⟩ := box5 H1.out.x
        obtain ⟨u0, u1, u2, u3, u4⟩ := box5 H1.out.y
        go_wp2_with fail
        refine (HU.out _ H1.out.below).mono ?_
        rintro e2 w2 ⟨rfl, hb2⟩
        have H2 := Lib.hid (H1.out.next hb2)
        clear hb2 y0 y1 y2 y3 y4 z0 z1 z2 z3 z4 t0 t1 t2 t3 t4 u0 u1 u2 u3 u4
        obtain ⟨y0, y1, y2, y3, y4⟩ := box5 H2.out.r
        have z0 := H2.out.r.free 0
        have z1 := H2.out.r.free 1
        have z2 := H2.out.r.free 2
        have z3 := H2.out.r.free 3
        have z4 := H2.out.r.free 4
        obtain ⟨t0, t1, t2, t3, t4⟩ := box5 H2.out.x
        obtain ⟨u0, u1, u2, u3, u4⟩ := box5 H2.out.y
        go_wp2_with fail
        refine bodyPost_ret (v := .tuple #[.agg #[.int .i64 0, .int .i64 0, .string ⟨#[]⟩, .slice none 0 0, .slice none 0 0], .int .i64 12]) (by simp [results, Tryz.results26, go_sem, y0, y1, y2, y3, y4]) rfl ?_
        exact ret_put H2.out.below (by omega) H2.out.r.lt (lies_null _ _)
      · rw [if_neg c6]
        have q : (k == 4) = false := by simpa using c6
        have q2 : (k != 4) = true := by simp [c6]
        clear hb2
        go_enter Tryz.func26, Tryz.ntmps26
        go_wp2_with fail
        refine (HV.out _ H0.out.below).mono ?_
        rintro e1 w1 ⟨rfl, hb1⟩
        have H1 := Lib.hid (H0.out.next hb1)
        clear hb1
        obtain ⟨y0, y1, y2, y3, y4⟩ := box5 H1.out.r
        have z0 := H1.out.r.free 0
        have z1 := H1.out.r.free 1
        have z2 := H1.out.r.free 2
        have z3 := H1.out.r.free 3
        have z4 := H1.out.r.free 4
        obtain ⟨t0, t1, t2, t3, t4⟩ := box5 H1.out.x
        obtain ⟨u0, u1, u2, u3, u4⟩ := box5 H1.out.y
        go_wp2_with fail
        refine (HU.out _ H1.out.below).mono ?_
        rintro e2 w2 ⟨rfl, hb2⟩
        have H2 := Lib.hid (H1.out.next hb2)
        clear hb2 y0 y1 y2 y3 y4 z0 z1 z2 z3 z4 t0 t1 t2 t3 t4 u0 u1 u2 u3 u4
        obtain ⟨y0, y1, y2, y3, y4⟩ := box5 H2.out.r
        have z0 := H2.out.r.free 0
        have z1 := H2.out.r.free 1
        have z2 := H2.out.r.free 2
        have z3 := H2.out.r.free 3
        have z4 := H2.out.r.free 4
        obtain ⟨t0, t1, t2, t3, t4⟩ := box5 H2.out.x
        obtain ⟨u0, u1, u2, u3, u4⟩ := box5 H2.out.y
        go_wp2_with fail
        refine bodyPost_ret (v := .tuple #[.agg #[.int .i64 0, .int .i64 0, .string ⟨#[]⟩, .slice none 0 0, .slice none 0 0], .int .i64 12]) (by simp [results, Tryz.results26, go_sem, y0, y1, y2, y3, y4]) rfl ?_
        exact ret_put H2.out.below (by omega) H2.out.r.lt (lies_null _ _)
    · rw [if_neg hu]
      have hu2 : valid (V.mk k2 n2 s2 ks2 es2) = false := by simpa using hu
      rw [hv] at HV
      rw [hu2] at HU
      clear hv hu hu2 hbad
      go_enter Tryz.func26, Tryz.ntmps26
      go_wp2_with fail
      refine (HV.out _ H0.out.below).mono ?_
      rintro e1 w1 ⟨rfl, hb1⟩
      have H1 := Lib.hid (H0.out.next hb1)
      clear hb1
      obtain ⟨y0, y1, y2, y3, y4⟩ := box5 H1.out.r
      have z0 := H1.out.r.free 0
      have z1 := H1.out.r.free 1
      have z2 := H1.out.r.free 2
      have z3 := H1.out.r.free 3
      have z4 := H1.out.r.free 4
      obtain ⟨t0, t1, t2, t3, t4⟩ := box5 H1.out.x
      obtain ⟨u0, u1, u2, u3, u4⟩ := box5 H1.out.y
      go_wp2_with fail
      refine (HU.out _ H1.out.below).mono ?_
      rintro e2 w2 ⟨rfl, hb2⟩
      have H2 := Lib.hid (H1.out.next hb2)
      clear hb2 y0 y1 y2 y3 y4 z0 z1 z2 z3 z4 t0 t1 t2 t3 t4 u0 u1 u2 u3 u4
      obtain ⟨y0, y1, y2, y3, y4⟩ := box5 H2.out.r
      have z0 := H2.out.r.free 0
      have z1 := H2.out.r.free 1
      have z2 := H2.out.r.free 2
      have z3 := H2.out.r.free 3
      have z4 := H2.out.r.free 4
      obtain ⟨t0, t1, t2, t3, t4⟩ := box5 H2.out.x
      obtain ⟨u0, u1, u2, u3, u4⟩ := box5 H2.out.y
      go_wp2_with fail
      refine bodyPost_ret (v := .tuple #[.agg #[.int .i64 0, .int .i64 0, .string ⟨#[]⟩, .slice none 0 0, .slice none 0 0], .int .i64 1]) (by simp [results, Tryz.results26, go_sem, y0, y1, y2, y3, y4]) rfl ?_
      exact ret_put H2.out.below (by omega) H2.out.r.lt (lies_null _ _)
  · rw [if_neg hv]
    have hv2 : valid (V.mk k n s ks es) = false := by simpa using hv
    rw [hv2] at HV
    clear hv hv2 hbad
    go_enter Tryz.func26, Tryz.ntmps26
    go_wp2_with fail
    refine (HV.out _ H0.out.below).mono ?_
    rintro e1 w1 ⟨rfl, hb1⟩
    have H1 := Lib.hid (H0.out.next hb1)
    clear hb1
    obtain ⟨y0, y1, y2, y3, y4⟩ := box5 H1.out.r
    have z0 := H1.out.r.free 0
    have z1 := H1.out.r.free 1
    have z2 := H1.out.r.free 2
    have z3 := H1.out.r.free 3
    have z4 := H1.out.r.free 4
    obtain ⟨t0, t1, t2, t3, t4⟩ := box5 H1.out.x
    obtain ⟨u0, u1, u2, u3, u4⟩ := box5 H1.out.y
    go_wp2_with fail
    refine bodyPost_ret (v := .tuple #[.agg #[.int .i64 0, .int .i64 0, .string ⟨#[]⟩, .slice none 0 0, .slice none 0 0], .int .i64 1]) (by simp [results, Tryz.results26, go_sem, y0, y1, y2, y3, y4]) rfl ?_
    exact ret_put H1.out.below (by omega) H1.out.r.lt (lies_null _ _)
set_option maxHeartbeats 4000000 in
set_option maxRecDepth 100000 in
/-- cutPrefix. -/
theorem on_cutPrefix (v u : V) (R : V × Int) (cs ds : List Value) (w : World) (h : Lies w (· < w.heap.size) v cs) (h' : Lies w (· < w.heap.size) u ds)
    (HF : valid v = true → valid u = true → kd v = 4 → kd u = 4 → ∀ W, Calls Tryz.prog 55 #[.agg #[.string (stv v), .string (stv u)]] W (RetPost R.1 R.2 W)) :
    Calls Tryz.prog 26 #[.int .i64 8, .agg cs.toArray, .agg ds.toArray] w (RetPost (onR v u R).1 (onR v u R).2 w) := by
  by_cases hgood : valid v = true ∧ valid u = true ∧ kd v = 4 ∧ kd u = 4
  · obtain ⟨hv, hu, k4, k42⟩ := hgood
    have HV := Lib.hid (fun W (hW : Below w.heap.size w W) => valid_any v cs W (below_lies hW h))
    have HU := Lib.hid (fun W (hW : Below w.heap.size w W) => valid_any u ds W (below_lies hW h'))
    have HM := Lib.hid (fun W => ret_open (HF hv hu k4 k42 W))
    unfold onR
    rw [if_pos hv, if_pos hu, if_pos k4, if_pos k42]
    rw [hv] at HV
    rw [hu] at HU
    clear HF hv hu
    obtain ⟨k, n, s, ks, es⟩ := v
    obtain ⟨k2, n2, t, ks2, es2⟩ := u
    obtain ⟨A, a, B, b, xs, rfl, _⟩ := lies_open h
    obtain ⟨A2, a2, B2, b2', ys, rfl, _⟩ := lies_open h'
    clear h h'
    have H0 := Lib.hid (B3.start w #[.int .i64 k, .int .i64 n, .string s, .slice A ks.length a, .slice B es.length b] #[.int .i64 k2, .int .i64 n2, .string t, .slice A2 ks2.length a2, .slice B2 es2.length b2'])
    have hkd : kd (V.mk k n s ks es) = k := rfl
    have hkd2 : kd (V.mk k2 n2 t ks2 es2) = k2 := rfl
    have hst : stv (V.mk k n s ks es) = s := rfl
    have hst2 : stv (V.mk k2 n2 t ks2 es2) = t := rfl
    rw [hkd] at k4
    rw [hkd2] at k42
    rw [hst, hst2] at HM
    clear hkd hkd2 hst hst2
    subst k4 k42
    have HLI := Lib.hid (fun W => flist_any s t W)
    go_enter Tryz.func26, Tryz.ntmps26
    go_wp2_with fail
    refine (HV.out _ H0.out.below).mono ?_
    rintro e1 w1 ⟨rfl, hb1⟩
    have H1 := Lib.hid (H0.out.next hb1)
    clear hb1
    obtain ⟨y0, y1, y2, y3, y4⟩ := box5 H1.out.r
    have z0 := H1.out.r.free 0
    have z1 := H1.out.r.free 1
    have z2 := H1.out.r.free 2
    have z3 := H1.out.r.free 3
    have z4 := H1.out.r.free 4
    obtain ⟨t0, t1, t2, t3, t4⟩ := box5 H1.out.x
    obtain ⟨u0, u1, u2, u3, u4⟩ := box5 H1.out.y
    go_wp2_with fail
    refine (HU.out _ H1.out.below).mono ?_
    rintro e2 w2 ⟨rfl, hb2⟩
    have H2 := Lib.hid (H1.out.next hb2)
    clear hb2 y0 y1 y2 y3 y4 z0 z1 z2 z3 z4 t0 t1 t2 t3 t4 u0 u1 u2 u3 u4
    obtain ⟨y0, y1, y2, y3, y4⟩ := box5 H2.out.r
    have z0 := H2.out.r.free 0
    have z1 := H2.out.r.free 1
    have z2 := H2.out.r.free 2
    have z3 := H2.out.r.free 3
    have z4 := H2.out.r.free 4
    obtain ⟨t0, t1, t2, t3, t4⟩ := box5 H2.out.x
    obtain ⟨u0, u1, u2, u3, u4⟩ := box5 H2.out.y
    go_wp2_with fail
    refine (HLI.out _).mono ?_
    rintro e3 w3 ⟨g3, hg3, rfl, hb3, hx3⟩
    have H3 := Lib.hid (H2.out.next hb3)
    have hc3 : w3.cell? ⟨g3, 8, none⟩ = some (.func (.func 55) #[.agg #[.string s, .string t]] #[]) := hx3.cell rfl
    clear hb3 hx3 H2 y0 y1 y2 y3 y4 z0 z1 z2 z3 z4 t0 t1 t2 t3 t4 u0 u1 u2 u3 u4
    go_wp2_with fail
    refine (HM.out _).mono ?_
    rintro e4 w4 ⟨rk, rn, rs, rks, res, RA, ra, RC, rc, hrv, rfl, hb4, hl4⟩
    have H4 := Lib.hid (H3.out.next hb4)
    have HL := Lib.hid hl4
    have hs3 := H3.out.r.lt
    have hs4 := H3.out.below.size
    clear hb4 hl4 hrv hc3
    obtain ⟨y0, y1, y2, y3, y4⟩ := box5 H4.out.r
    have z0 := H4.out.r.free 0
    have z1 := H4.out.r.free 1
    have z2 := H4.out.r.free 2
    have z3 := H4.out.r.free 3
    have z4 := H4.out.r.free 4
    obtain ⟨t0, t1, t2, t3, t4⟩ := box5 H4.out.x
    obtain ⟨u0, u1, u2, u3, u4⟩ := box5 H4.out.y
    go_wp2_with fail
    refine bodyPost_ret (v := .tuple #[.agg #[.int .i64 rk, .int .i64 rn, .string rs, .slice RA rks.length ra, .slice RC res.length rc], .int .i64 R.2]) (by simp [results, Tryz.results26, go_sem, y0, y1, y2, y3, y4]) rfl ?_
    exact ret_put H4.out.below (by omega) H4.out.r.lt (HL.out.move fun b hb => ⟨⟨by omega, hb.2, by omega⟩, rfl⟩)
  · exact on_bad _ v u R cs ds w h h' hgood
set_option maxHeartbeats 4000000 in
set_option maxRecDepth 100000 in
/-- indices. -/
theorem on_indices (v u : V) (R : V × Int) (cs ds : List Value) (w : World) (h : Lies w (· < w.heap.size) v cs) (h' : Lies w (· < w.heap.size) u ds)
    (HF : valid v = true → valid u = true → kd v = 4 → kd u = 4 → ∀ W, Calls Tryz.prog 58 #[.agg #[.string (stv v), .string (stv u)]] W (RetPost R.1 R.2 W)) :
    Calls Tryz.prog 26 #[.int .i64 11, .agg cs.toArray, .agg ds.toArray] w (RetPost (onR v u R).1 (onR v u R).2 w) := by
  by_cases hgood : valid v = true ∧ valid u = true ∧ kd v = 4 ∧ kd u = 4
  · obtain ⟨hv, hu, k4, k42⟩ := hgood
    have HV := Lib.hid (fun W (hW : Below w.heap.size w W) => valid_any v cs W (below_lies hW h))
    have HU := Lib.hid (fun W (hW : Below w.heap.size w W) => valid_any u ds W (below_lies hW h'))
    have HM := Lib.hid (fun W => ret_open (HF hv hu k4 k42 W))
    unfold onR
    rw [if_pos hv, if_pos hu, if_pos k4, if_pos k42]
    rw [hv] at HV
    rw [hu] at HU
    clear HF hv hu
    obtain ⟨k, n, s, ks, es⟩ := v
    obtain ⟨k2, n2, t, ks2, es2⟩ := u
    obtain ⟨A, a, B, b, xs, rfl, _⟩ := lies_open h
    obtain ⟨A2, a2, B2, b2', ys, rfl, _⟩ := lies_open h'
    clear h h'
    have H0 := Lib.hid (B3.start w #[.int .i64 k, .int .i64 n, .string s, .slice A ks.length a, .slice B es.length b] #[.int .i64 k2, .int .i64 n2, .string t, .slice A2 ks2.length a2, .slice B2 es2.length b2'])
    have hkd : kd (V.mk k n s ks es) = k := rfl
    have hkd2 : kd (V.mk k2 n2 t ks2 es2) = k2 := rfl
    have hst : stv (V.mk k n s ks es) = s := rfl
    have hst2 : stv (V.mk k2 n2 t ks2 es2) = t := rfl
    rw [hkd] at k4
    rw [hkd2] at k42
    rw [hst, hst2] at HM
    clear hkd hkd2 hst hst2
    subst k4 k42
    have HLI := Lib.hid (fun W => flist_any s t W)
    go_enter Tryz.func26, Tryz.ntmps26
    go_wp2_with fail
    refine (HV.out _ H0.out.below).mono ?_
    rintro e1 w1 ⟨rfl, hb1⟩
    have H1 := Lib.hid (H0.out.next hb1)
    clear hb1
    obtain ⟨y0, y1, y2, y3, y4⟩ := box5 H1.out.r
    have z0 := H1.out.r.free 0
    have z1 := H1.out.r.free 1
    have z2 := H1.out.r.free 2
    have z3 := H1.out.r.free 3
    have z4 := H1.out.r.free 4
    obtain ⟨t0, t1, t2, t3, t4⟩ := box5 H1.out.x
    obtain ⟨u0, u1, u2, u3, u4⟩ := box5 H1.out.y
    go_wp2_with fail
    refine (HU.out _ H1.out.below).mono ?_
    rintro e2 w2 ⟨rfl, hb2⟩
    have H2 := Lib.hid (H1.out.next hb2)
    clear hb2 y0 y1 y2 y3 y4 z0 z1 z2 z3 z4 t0 t1 t2 t3 t4 u0 u1 u2 u3 u4
    obtain ⟨y0, y1, y2, y3, y4⟩ := box5 H2.out.r
    have z0 := H2.out.r.free 0
    have z1 := H2.out.r.free 1
    have z2 := H2.out.r.free 2
    have z3 := H2.out.r.free 3
    have z4 := H2.out.r.free 4
    obtain ⟨t0, t1, t2, t3, t4⟩ := box5 H2.out.x
    obtain ⟨u0, u1, u2, u3, u4⟩ := box5 H2.out.y
    go_wp2_with fail
    refine (HLI.out _).mono ?_
    rintro e3 w3 ⟨g3, hg3, rfl, hb3, hx3⟩
    have H3 := Lib.hid (H2.out.next hb3)
    have hc3 : w3.cell? ⟨g3, 11, none⟩ = some (.func (.func 58) #[.agg #[.string s, .string t]] #[]) := hx3.cell rfl
    clear hb3 hx3 H2 y0 y1 y2 y3 y4 z0 z1 z2 z3 z4 t0 t1 t2 t3 t4 u0 u1 u2 u3 u4
    go_wp2_with fail
    refine (HM.out _).mono ?_
    rintro e4 w4 ⟨rk, rn, rs, rks, res, RA, ra, RC, rc, hrv, rfl, hb4, hl4⟩
    have H4 := Lib.hid (H3.out.next hb4)
    have HL := Lib.hid hl4
    have hs3 := H3.out.r.lt
    have hs4 := H3.out.below.size
    clear hb4 hl4 hrv hc3
    obtain ⟨y0, y1, y2, y3, y4⟩ := box5 H4.out.r
    have z0 := H4.out.r.free 0
    have z1 := H4.out.r.free 1
    have z2 := H4.out.r.free 2
    have z3 := H4.out.r.free 3
    have z4 := H4.out.r.free 4
    obtain ⟨t0, t1, t2, t3, t4⟩ := box5 H4.out.x
    obtain ⟨u0, u1, u2, u3, u4⟩ := box5 H4.out.y
    go_wp2_with fail
    refine bodyPost_ret (v := .tuple #[.agg #[.int .i64 rk, .int .i64 rn, .string rs, .slice RA rks.length ra, .slice RC res.length rc], .int .i64 R.2]) (by simp [results, Tryz.results26, go_sem, y0, y1, y2, y3, y4]) rfl ?_
    exact ret_put H4.out.below (by omega) H4.out.r.lt (HL.out.move fun b hb => ⟨⟨by omega, hb.2, by omega⟩, rfl⟩)
  · exact on_bad _ v u R cs ds w h h' hgood
end Go.Proofs.YtfmpdcmedaiooaaGreatDoor

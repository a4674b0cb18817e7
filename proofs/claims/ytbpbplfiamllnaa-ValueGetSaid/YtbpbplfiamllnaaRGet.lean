/- The reference's Get. -/
import Derived.Test.YtbpbplfiamllnaaGet
import Derived.Test.YtbpbplfiamllnaaRef3
set_option linter.unusedVariables false
set_option linter.unusedSimpArgs false
namespace Go.Proofs.Ytbpbplfiamllnaa
open Go.RowKit Go.Sort
/-- No key among the first i is the one that is sought. -/
def Miss (ks : List ByteArray) (key : ByteArray) (i : Nat) : Prop := ∀ j, j < i → ks[j]? ≠ some key
theorem Miss.start (ks : List ByteArray) (key : ByteArray) : Miss ks key 0 := fun j h => absurd h (Nat.not_lt_zero _)
theorem Miss.step {ks : List ByteArray} {key : ByteArray} {i : Nat} (h : Miss ks key i) {x : ByteArray} (hx : ks[i]? = some x) (hn : ¬ scmp x key = 0) : Miss ks key (i + 1) := by
  intro j hj
  rcases Nat.lt_or_ge j i with h1 | h1
  · exact h j h1
  · have : j = i := by omega
    subst this
    rw [hx]
    intro e
    injection e with e
    exact hn ((scmp_zero _ _).2 e)
theorem Miss.all {ks : List ByteArray} {key : ByteArray} {i : Nat} (h : Miss ks key i) (hi : ks.length ≤ i) : idxOf ks key = none := by
  refine idxOf_miss fun j hj => ?_
  exact h j (by have := (List.getElem?_eq_some_iff.1 hj).1; omega) hj
set_option maxHeartbeats 2000000 in
set_option maxRecDepth 100000 in
theorem rget_any (v : V) (key : ByteArray) (cs : List Value) (w : World) (h : Lies w (· < w.heap.size) v cs) :
    Calls Try.prog 39 #[.agg cs.toArray, .string key] w (GetPost (getP v key) w) := by
  have HV := Lib.hid (fun W (hW : Below w.heap.size w W) => by
    have := rvalid_any v cs W (below_lies hW h)
    rw [valid_same] at this
    exact this)
  have HL := Lib.hid h
  obtain ⟨k, n, s, ks, es⟩ := v
  obtain ⟨A, a, B, b, xs, rfl, _, _, _, _, hA, hB, hLL⟩ := lies_open h
  clear h
  show Calls _ _ #[.agg #[.int .i64 k, .int .i64 n, .string s, .slice A ks.length a, .slice B es.length b], .string key] w _
  have hb2 : Hid (∀ W, Below (w.heap.size + 2) ((w.alloc (.cells #[.int .i64 k, .int .i64 n, .string s, .slice A ks.length a, .slice B es.length b] 25)).alloc (.cells #[.int .i64 0, .int .i64 0, .string ⟨#[]⟩, .slice none 0 0, .slice none 0 0] 25)) W →
      Box W (w.heap.size + 1) 25 #[.int .i64 0, .int .i64 0, .string ⟨#[]⟩, .slice none 0 0, .slice none 0 0]) := Lib.hid fun W hW => by
    have h1 := Box.laid (w.alloc (.cells #[.int .i64 k, .int .i64 n, .string s, .slice A ks.length a, .slice B es.length b] 25)) 25 #[.int .i64 0, .int .i64 0, .string ⟨#[]⟩, .slice none 0 0, .slice none 0 0]
    have e : (w.alloc (.cells #[.int .i64 k, .int .i64 n, .string s, .slice A ks.length a, .slice B es.length b] 25)).heap.size = w.heap.size + 1 := by simp
    rw [e] at h1
    exact h1.below hW (by omega)
  cases hx : valid (.mk k n s ks es) with
  | false =>
    have ho := Lib.hid (getP_no (key := key) (show ¬ (valid (.mk k n s ks es) = true ∧ k = 6) by rw [hx]; simp))
    rw [hx] at HV
    clear hx
    go_enter Try.func39, Try.ntmps39
    go_wp2_with fail
    refine (HV.out _ (below2 _ _ _)).mono ?_
    rintro e1 w1 ⟨rfl, hb1⟩
    have hB1 := Lib.hid (two_step (Below.refl _ _) hb1)
    have hres := Lib.hid (hb2.out _ hB1.out)
    obtain ⟨t0, t1, t2, t3, t4⟩ := box5 hres.out
    have z0 := hres.out.free 0
    have z1 := hres.out.free 1
    have z2 := hres.out.free 2
    have z3 := hres.out.free 3
    have z4 := hres.out.free 4
    go_wp2_with fail
    refine bodyPost_ret (v := .tuple #[.agg #[.int .i64 0, .int .i64 0, .string ⟨#[]⟩, .slice none 0 0, .slice none 0 0], .bool false]) (by simp [results, Try.results39, go_sem, t0, t1, t2, t3, t4]) rfl ?_
    exact get_none ho.out ((((((below_two hB1.out).setCell (by simp) _).setCell (by simp) _).setCell (by simp) _).setCell (by simp) _).setCell (by simp) _)
  | true =>
    by_cases c6 : k = 6
    · have hq : (k != 6) = false := by simp [c6]
      have ho := Lib.hid (getP_yes (key := key) hx c6)
      obtain ⟨hasc, hkl, hk1, he1⟩ := valid_keys hx
      have HLN := Lib.hid (hkl c6)
      rw [hx] at HV
      clear hx c6 hasc hkl
      go_enter Try.func39, Try.ntmps39
      go_wp2_with fail
      refine (HV.out _ (below2 _ _ _)).mono ?_
      rintro e1 w1 ⟨rfl, hb1⟩
      have hB1 := Lib.hid (two_step (Below.refl _ _) hb1)
      have m0 := (box_two hB1.out 0).1
      have m3 := (box_two hB1.out 3).1
      have m4 := (box_two hB1.out 4).1
      simp only [List.getElem?_toArray, List.getElem?_cons_succ, List.getElem?_cons_zero] at m0 m3 m4
      have hw1 : w.heap.size + 2 ≤ w1.heap.size := by have := hB1.out.size; simp at this; omega
      go_wp2_with fail
      go_loopw [6] (fun t wr => ∃ i : Nat, i ≤ ks.length ∧ t = .int .i64 i ∧ Miss ks key i ∧ Below w1.heap.size w1 wr) (fun t _ => ks.length - (intOf t).toNat)
      case atStart => exact ⟨0, Nat.zero_le _, rfl, Miss.start _ _, Below.refl _ _⟩
      case round =>
        obtain ⟨i, hi, rfl, hm0, hbel⟩ := hrel
        have HM := Lib.hid hm0
        clear hm0
        have n3 := below_cell hbel (by omega) m3
        have n4 := below_cell hbel (by omega) m4
        have hBr := Lib.hid (two_step hB1.out hbel)
        by_cases hlt : i < ks.length
        · obtain ⟨x, hx⟩ : ∃ x, ks[i]? = some x := ⟨_, List.getElem?_eq_getElem hlt⟩
          obtain ⟨b0, o0, hAe, hb0, hc0⟩ := hA.at_ (kv_at hx)
          have hc1 := below_cell (below_two hBr.out) hb0 hc0
          clear hc0
          subst hAe
          have hse := same_eq x key
          by_cases hxk : scmp x key = 0
          · have hbq : (x.toList == key.toList) = true := by rw [hse, decide_eq_true hxk]
            have hxe : x = key := (scmp_zero _ _).1 hxk
            have hio := Lib.hid (idxOf_hit HM.out (hxe ▸ hx))
            have hil : i < es.length := by have := HLN.out; omega
            have he : es[i]? = some es[i] := List.getElem?_eq_getElem hil
            have ho2 : Hid (getP (.mk k n s ks es) key = some es[i]) := Lib.hid (by rw [ho.out, hio.out]; exact he)
            generalize es[i] = e at he ho2
            obtain ⟨ek, en, es', eks, ees⟩ := e
            obtain ⟨bq, oq, A1, a1, C1, c1, rfl, hbq, hle, d0, d1, d2, d3, d4⟩ := elem_open hB hLL he
            have q0 := below_cell (below_two hBr.out) hbq d0
            have q1 := below_cell (below_two hBr.out) hbq d1
            have q2 := below_cell (below_two hBr.out) hbq d2
            have q3 := below_cell (below_two hBr.out) hbq d3
            have q4 := below_cell (below_two hBr.out) hbq d4
            have HLE := Lib.hid hle
            have hres := Lib.hid (hb2.out _ hBr.out)
            obtain ⟨t0, t1, t2, t3, t4⟩ := box5 hres.out
            have z0 := hres.out.free 0
            have z1 := hres.out.free 1
            have z2 := hres.out.free 2
            have z3 := hres.out.free 3
            have z4 := hres.out.free 4
            clear d0 d1 d2 d3 d4 he hle hxe hxk hse hx m0 m3 m4
            go_wp2_with fail
            refine bodyPost_ret (v := .tuple #[.agg #[.int .i64 ek, .int .i64 en, .string es', .slice A1 eks.length a1, .slice C1 ees.length c1], .bool true]) (by simp [results, Try.results39, go_sem, t0, t1, t2, t3, t4]) rfl ?_
            have hfin := ((((((below_two hBr.out).setCell (p := ⟨w.heap.size + 1, 0, none⟩) (by simp) (.int .i64 ek)).setCell (p := ⟨w.heap.size + 1, 1, none⟩) (by simp) (.int .i64 en)).setCell (p := ⟨w.heap.size + 1, 2, none⟩) (by simp) (.string es')).setCell (p := ⟨w.heap.size + 1, 3, none⟩) (by simp) (.slice A1 eks.length a1)).setCell (p := ⟨w.heap.size + 1, 4, none⟩) (by simp) (.slice C1 ees.length c1))
            exact get_some (ds := [.int .i64 ek, .int .i64 en, .string es', .slice A1 eks.length a1, .slice C1 ees.length c1]) ho2.out hfin (below_lies hfin HLE.out)
          · have hbq : (x.toList == key.toList) = false := by rw [hse, decide_eq_false hxk]
            have HM2 := Lib.hid (HM.out.step hx hxk)
            clear hxk hse hx m0 m3 m4
            go_wp2_with fail
            go_roundw
            case rel => exact ⟨i + 1, by omega, by go_num, HM2.out, hbel⟩
            case measure => simp [intOf]; omega
        · have ho2 : Hid (getP (.mk k n s ks es) key = none) := Lib.hid (by rw [ho.out, HM.out.all (by omega)]; rfl)
          have hres := Lib.hid (hb2.out _ hBr.out)
          obtain ⟨t0, t1, t2, t3, t4⟩ := box5 hres.out
          have z0 := hres.out.free 0
          have z1 := hres.out.free 1
          have z2 := hres.out.free 2
          have z3 := hres.out.free 3
          have z4 := hres.out.free 4
          clear m0 m3 m4
          go_wp2_with fail
          refine bodyPost_ret (v := .tuple #[.agg #[.int .i64 0, .int .i64 0, .string ⟨#[]⟩, .slice none 0 0, .slice none 0 0], .bool false]) (by simp [results, Try.results39, go_sem, t0, t1, t2, t3, t4]) rfl ?_
          exact get_none ho2.out ((((((below_two hBr.out).setCell (by simp) _).setCell (by simp) _).setCell (by simp) _).setCell (by simp) _).setCell (by simp) _)
    · have ho := Lib.hid (getP_no (n := n) (s := s) (ks := ks) (es := es) (key := key) (show ¬ (valid (.mk k n s ks es) = true ∧ k = 6) from fun h => c6 h.2))
      have hq : (k != 6) = true := by simp [c6]
      rw [hx] at HV
      clear c6 hx
      go_enter Try.func39, Try.ntmps39
      go_wp2_with fail
      refine (HV.out _ (below2 _ _ _)).mono ?_
      rintro e1 w1 ⟨rfl, hb1⟩
      have hB1 := Lib.hid (two_step (Below.refl _ _) hb1)
      have m0 := (box_two hB1.out 0).1
      simp only [List.getElem?_toArray, List.getElem?_cons_succ, List.getElem?_cons_zero] at m0
      have hres := Lib.hid (hb2.out _ hB1.out)
      obtain ⟨t0, t1, t2, t3, t4⟩ := box5 hres.out
      have z0 := hres.out.free 0
      have z1 := hres.out.free 1
      have z2 := hres.out.free 2
      have z3 := hres.out.free 3
      have z4 := hres.out.free 4
      go_wp2_with fail
      refine bodyPost_ret (v := .tuple #[.agg #[.int .i64 0, .int .i64 0, .string ⟨#[]⟩, .slice none 0 0, .slice none 0 0], .bool false]) (by simp [results, Try.results39, go_sem, t0, t1, t2, t3, t4]) rfl ?_
      exact get_none ho.out ((((((below_two hB1.out).setCell (by simp) _).setCell (by simp) _).setCell (by simp) _).setCell (by simp) _).setCell (by simp) _)
end Go.Proofs.Ytbpbplfiamllnaa

/- keep.Same and keep.Values: two values are the same. -/
import Derived.Test.YtnokmlclephjgaaStrs
import Derived.StillTailTactics
set_option linter.unusedVariables false
set_option linter.unusedSimpArgs false
namespace Go.Proofs.Ytnokmlclephjgaa
open Go.RowKit
mutual
def same : V → V → Bool
  | .mk k n s ks es, .mk k' n' s' ks' es' => decide (k = k') && decide (n = n') && decide (s = s') && decide (ks = ks') && sameL es es'
def sameL : List V → List V → Bool
  | [], [] => true
  | e :: es, f :: fs => same e f && sameL es fs
  | [], _ :: _ => false
  | _ :: _, [] => false
end
theorem same_iff : ∀ v u : V, same v u = true ↔ v = u := by
  refine V.ind fun k n s ks es ih u => ?_
  cases u with
  | mk k' n' s' ks' es' =>
    have hL : ∀ fs, sameL es fs = true ↔ es = fs := by
      clear n n' s s' ks ks' es' k k'
      induction es with
      | nil => intro fs; cases fs <;> simp [sameL]
      | cons e es ihl =>
        intro fs
        cases fs with
        | nil => simp [sameL]
        | cons f fs =>
          rw [sameL, Bool.and_eq_true, ih e (by simp), ihl (fun x hx => ih x (by simp [hx])), List.cons.injEq]
    rw [same]
    simp [hL, and_assoc]
theorem sameL_iff : ∀ es fs : List V, sameL es fs = true ↔ es = fs
  | [], [] => by simp [sameL]
  | [], _ :: _ => by simp [sameL]
  | _ :: _, [] => by simp [sameL]
  | e :: es, f :: fs => by rw [sameL, Bool.and_eq_true, same_iff, sameL_iff es fs, List.cons.injEq]
theorem sameL_step {es fs : List V} {i : Nat} {x y : V} (hx : es[i]? = some x) (hy : fs[i]? = some y) : sameL (es.drop i) (fs.drop i) = (same x y && sameL (es.drop (i + 1)) (fs.drop (i + 1))) := by
  obtain ⟨h1, rfl⟩ := List.getElem?_eq_some_iff.1 hx
  obtain ⟨h2, rfl⟩ := List.getElem?_eq_some_iff.1 hy
  rw [List.drop_eq_getElem_cons h1, List.drop_eq_getElem_cons h2, sameL]
def SameOk (v : V) : Prop := ∀ (u : V) (cs ds : List Value) (w : World), Lies w (· < w.heap.size) v cs → Lies w (· < w.heap.size) u ds →
  Calls Try.prog 13 #[.agg cs.toArray, .agg ds.toArray] w fun e w' => e = .returned (.bool (same v u)) ∧ Below w.heap.size w w'
theorem below2 (w : World) (o p : Obj) : Below w.heap.size w ((w.alloc o).alloc p) := ((Below.refl _ _).alloc (Nat.le_refl _) o).alloc (by simp) p
set_option maxHeartbeats 1000000 in
set_option maxRecDepth 100000 in
theorem values_of (es fs : List V) (ih : ∀ e ∈ es, SameOk e) (A B : Option Addr) (a b : Nat) (xs ys : List Value) (w : World) (hA : Rs w (· < w.heap.size) A xs) (hL : LiesL w (· < w.heap.size) es xs) (hB : Rs w (· < w.heap.size) B ys) (hM : LiesL w (· < w.heap.size) fs ys)
    (hn : es.length ≤ 140737488355328) :
    Calls Try.prog 29 #[.slice A es.length a, .slice B fs.length b] w fun e w' => e = .returned (.bool (sameL es fs)) ∧ Below w.heap.size w w' := by
  have HA := Lib.hid hA
  have HB := Lib.hid hB
  have HL := Lib.hid hL
  have HM := Lib.hid hM
  have IH := Lib.hid ih
  clear hA hB hL hM ih
  by_cases hl : es.length = fs.length
  · have hbq : (((es.length : Nat) : Int) != ((fs.length : Nat) : Int)) = false := by simp [hl]
    have HE := Lib.hid hl
    clear hl
    go_enter Try.func29, Try.ntmps29
    go_wp2
    go_loopw [5] (fun t wr => ∃ i : Nat, i ≤ es.length ∧ t = .int .i64 i ∧ sameL es fs = sameL (es.drop i) (fs.drop i) ∧ Below w.heap.size w wr) (fun t _ => es.length - (intOf t).toNat)
    case atStart => exact ⟨0, Nat.zero_le _, rfl, rfl, Below.refl _ _⟩
    case round =>
      obtain ⟨i, hi, rfl, heq0, hbel⟩ := hrel
      have heq := Lib.hid heq0
      clear heq0
      by_cases hlt : i < es.length
      · have hltb : i < fs.length := by have := HE.out; omega
        obtain ⟨x, hx⟩ : ∃ x, es[i]? = some x := ⟨_, List.getElem?_eq_getElem hlt⟩
        obtain ⟨y, hy⟩ : ∃ y, fs[i]? = some y := ⟨_, List.getElem?_eq_getElem hltb⟩
        obtain ⟨b0, o0, v0, v1, v2, v3, v4, rfl, hb0, hle, c0, c1, c2, c3, c4⟩ := elem_cells HA.out HL.out hx
        obtain ⟨b1, o1, u0, u1, u2, u3, u4, rfl, hb1, hlf, d0, d1, d2, d3, d4⟩ := elem_cells HB.out HM.out hy
        have c0' := below_cell hbel hb0 c0
        have c1' := below_cell hbel hb0 c1
        have c2' := below_cell hbel hb0 c2
        have c3' := below_cell hbel hb0 c3
        have c4' := below_cell hbel hb0 c4
        have d0' := below_cell hbel hb1 d0
        have d1' := below_cell hbel hb1 d1
        have d2' := below_cell hbel hb1 d2
        have d3' := below_cell hbel hb1 d3
        have d4' := below_cell hbel hb1 d4
        clear c0 c1 c2 c3 c4 d0 d1 d2 d3 d4
        have hst := Lib.hid (heq.out.trans (sameL_step hx hy))
        have hcall := Lib.hid (fun W (hW : Below wr.heap.size wr W) => IH.out x (List.mem_of_getElem? hx) y [v0, v1, v2, v3, v4] [u0, u1, u2, u3, u4] W (below_lies (chain hbel hW) hle) (below_lies (chain hbel hW) hlf))
        have hi1 : (i : Int) < (es.length : Int) := by omega
        have hi2 : (i : Int) < (fs.length : Int) := by omega
        clear hle hlf hx hy
        cases hsm : same x y with
        | true =>
          rw [hsm] at hcall hst
          clear hsm
          go_wp2_with fail
          go_still_tail 8, (by kernel_rfl)
          change wpList _ _ _ _ _ wr.drew
          go_wp2_with fail
          refine (hcall.out _ ((Below.refl _ _).drew)).mono ?_
          rintro e' w' ⟨rfl, hb⟩
          have hb' := below_of_drew hb
          go_wp2
          go_roundw
          case rel => exact ⟨i + 1, by omega, by go_num, by rw [hst.out, Bool.true_and], chain hbel hb'⟩
          case measure => simp [intOf]; omega
        | false =>
          rw [hsm] at hcall hst
          clear hsm
          go_wp2_with fail
          go_still_tail 8, (by kernel_rfl)
          change wpList _ _ _ _ _ wr.drew
          go_wp2_with fail
          refine (hcall.out _ ((Below.refl _ _).drew)).mono ?_
          rintro e' w' ⟨rfl, hb⟩
          have hb' := below_of_drew hb
          go_wp2
          go_ret
          exact ⟨ret_bool (by rw [hst.out, Bool.false_and]), chain hbel hb'⟩
      · have he : Hid (sameL es fs = true) := Lib.hid (by
          rw [heq.out, List.drop_eq_nil_of_le (by omega), List.drop_eq_nil_of_le (by have := HE.out; omega), sameL])
        go_wp2
        go_ret
        exact ⟨ret_bool he.out.symm, hbel⟩
  · have hbq : (((es.length : Nat) : Int) != ((fs.length : Nat) : Int)) = true := by simp; omega
    have hne : Hid (sameL es fs = false) := Lib.hid (by
      rw [Bool.eq_false_iff]
      exact fun h => hl (by rw [(sameL_iff es fs).1 h]))
    clear hl
    go_enter Try.func29, Try.ntmps29
    go_wp2
    go_ret
    exact ⟨ret_bool hne.out.symm, Below.refl _ _⟩
set_option maxHeartbeats 1000000 in
set_option maxRecDepth 100000 in
theorem same_any : ∀ v : V, SameOk v := by
  refine V.ind fun k n s ks es ih u cs ds w h1 h2 => ?_
  cases u with
  | mk k' n' s' ks' es' =>
    have hf := lies_fit _ _ h1
    have hg := lies_fit _ _ h2
    rw [V.Fit] at hf hg
    obtain ⟨_, _, f3, f4, _⟩ := hf
    obtain ⟨_, _, g3, g4, _⟩ := hg
    obtain ⟨A, a, B, b, xs, rfl, _, _, _, _, hA, hB, hL⟩ := lies_open h1
    obtain ⟨A', a', B', b', ys, rfl, _, _, _, _, hA', hB', hL'⟩ := lies_open h2
    have HS := Lib.hid (fun (W : World) (hb : Below w.heap.size w W) => strings_any A A' a a' ks ks' (· < w.heap.size) (· < w.heap.size) W (hA.move fun b h => ⟨h, hb.block b h⟩) (hA'.move fun b h => ⟨h, hb.block b h⟩) (by unfold maxLen; omega))
    have HV := Lib.hid (fun (W : World) (hb : Below w.heap.size w W) => values_of es es' ih B B' b b' xs ys W (hB.move fun b h => ⟨Nat.lt_of_lt_of_le h hb.size, hb.block b h⟩) (hL.move fun b h => ⟨Nat.lt_of_lt_of_le h hb.size, hb.block b h⟩) (hB'.move fun b h => ⟨Nat.lt_of_lt_of_le h hb.size, hb.block b h⟩) (hL'.move fun b h => ⟨Nat.lt_of_lt_of_le h hb.size, hb.block b h⟩) f4)
    have hv : Hid (same (.mk k n s ks es) (.mk k' n' s' ks' es') = (decide (k = k') && decide (n = n') && decide (s = s') && decide (ks = ks') && sameL es es')) := Lib.hid (by rw [same])
    clear hA hB hL hA' hB' hL' h1 h2 ih
    show Calls _ _ #[.agg #[.int .i64 k, .int .i64 n, .string s, .slice A ks.length a, .slice B es.length b], .agg #[.int .i64 k', .int .i64 n', .string s', .slice A' ks'.length a', .slice B' es'.length b']] w _
    have hse := same_eq s s'
    by_cases c1 : k = k'
    · subst c1
      by_cases c2 : n = n'
      · subst c2
        by_cases c3 : s = s'
        · subst c3
          clear hse
          by_cases c4 : ks = ks'
          · have hz := Lib.hid (hv.out.trans (by rw [decide_eq_true rfl, decide_eq_true rfl, decide_eq_true rfl, decide_eq_true c4, Bool.true_and, Bool.true_and, Bool.true_and, Bool.true_and]))
            have HS' := Lib.hid (fun (W : World) (hb : Below w.heap.size w W) => by have := HS.out W hb; rw [decide_eq_true c4] at this; exact this)
            clear c4 HS
            go_enter Try.func13, Try.ntmps13
            go_wp2_with fail
            refine (HS'.out _ (below2 _ _ _)).mono ?_
            rintro e' w' ⟨rfl, m, rfl⟩
            go_wp2_with fail
            refine (HV.out _ (below_drewN (below2 _ _ _) m)).mono ?_
            rintro e' w' ⟨rfl, hb⟩
            go_wp2_with fail
            go_ret
            exact ⟨ret_bool hz.out.symm, chain (below_drewN (below2 _ _ _) m) hb⟩
          · have hz := Lib.hid (hv.out.trans (by rw [decide_eq_true rfl, decide_eq_true rfl, decide_eq_true rfl, decide_eq_false c4, Bool.and_false, Bool.false_and]))
            have HS' := Lib.hid (fun (W : World) (hb : Below w.heap.size w W) => by have := HS.out W hb; rw [decide_eq_false c4] at this; exact this)
            clear c4 HS
            go_enter Try.func13, Try.ntmps13
            go_wp2_with fail
            refine (HS'.out _ (below2 _ _ _)).mono ?_
            rintro e' w' ⟨rfl, m, rfl⟩
            go_wp2_with fail
            go_ret
            exact ⟨ret_bool hz.out.symm, below_drewN (below2 _ _ _) m⟩
        · have hq : (s.toList == s'.toList) = false := by rw [hse]; exact decide_eq_false fun h => c3 ((scmp_zero s s').1 h)
          have hz := Lib.hid (hv.out.trans (by rw [decide_eq_true rfl, decide_eq_true rfl, decide_eq_false c3, Bool.and_false, Bool.false_and, Bool.false_and]))
          clear c3 hse
          go_enter Try.func13, Try.ntmps13
          go_wp2_with fail
          go_ret
          exact ⟨ret_bool hz.out.symm, below2 _ _ _⟩
      · have hq : (n == n') = false := by simp [c2]
        have hz := Lib.hid (hv.out.trans (by rw [decide_eq_false c2, Bool.and_false, Bool.false_and, Bool.false_and, Bool.false_and]))
        clear c2 hse
        go_enter Try.func13, Try.ntmps13
        go_wp2_with fail
        go_ret
        exact ⟨ret_bool hz.out.symm, below2 _ _ _⟩
    · have hq : (k == k') = false := by simp [c1]
      have hz := Lib.hid (hv.out.trans (by rw [decide_eq_false c1, Bool.false_and, Bool.false_and, Bool.false_and, Bool.false_and]))
      clear c1 hse
      go_enter Try.func13, Try.ntmps13
      go_wp2_with fail
      go_ret
      exact ⟨ret_bool hz.out.symm, below2 _ _ _⟩
end Go.Proofs.Ytnokmlclephjgaa

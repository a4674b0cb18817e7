/- The contracts of the reference's Runes, Valid and Count, and of the comparison of lists. -/
import Derived.Test.YtfabdodkjohldaaUtf4
import Derived.Deep.QuietTactic
import Derived.BigQuiet
namespace Go.Proofs.Ytfabdodkjohldaa
open Go.RowKit
set_option maxHeartbeats 1000000 in
theorem rrunes_any (s : ByteArray) (hs : s.size ≤ 1048576) (w : World) :
    Calls Try.prog 15 #[.string s] w fun e w' => RunesPost (runes s.data.toList) w e w' := by
  have hs2 : Hid (s.size ≤ maxLen) := Lib.hid (by unfold maxLen; omega)
  have hlen : Hid (s.data.toList.length = s.size) := Lib.hid (by simp)
  obtain ⟨i0, hi, hz0, hz1, hz2⟩ := info_parts inf_int
  go_enter Try.func15, Try.ntmps15
  go_wp2
  go_loopw [4, 5] (fun v t wr => ∃ (k : Nat) (xs : List Nat), k ≤ s.size ∧ xs.length ≤ k ∧ t = .int .i64 k ∧ wr.ownsRow w.heap.size 3 1 v xs.length (iv xs) ∧ Below w.heap.size w wr ∧ Scan s.data.toList k xs) (fun _ t _ => s.size - (intOf t).toNat)
  case atStart => exact ⟨0, [], Nat.zero_le _, Nat.le_refl _, rfl, World.ownsRow_nil _ _ _ _, Below.refl _ _, Scan.start _⟩
  case round =>
    obtain ⟨k, xs, hk, hxk, rfl, hown, hbel, hsc0⟩ := hrel
    have hsc := Lib.hid hsc0
    clear hsc0
    by_cases hlt : k < s.size
    · cases hx : dec (s.data.toList.drop k) with
      | none =>
        have hX := Lib.hid hx
        clear hx
        have hv := Lib.hid (hsc.out.fail (by rw [hlen.out]; exact hlt) hX.out)
        go_wp2_with (go_at_call 11; refine (dec_none_of (rdec_any s k hs2.out _) hX.out).mono ?_; rintro e w' ⟨rfl, rfl⟩)
        go_ret2
        rw [hv.out]
        exact RunesPost.none_ hbel rfl
      | some rn =>
        obtain ⟨r, n⟩ := rn
        have hX := Lib.hid hx
        clear hx
        obtain ⟨_, hn1, hn4, hnl⟩ := dec_some_cp hX.out
        rw [List.length_drop, hlen.out] at hnl
        have hkn : k + n ≤ s.size := by omega
        clear hnl
        go_wp2_with (first
          | (go_at_call 11; refine (dec_some_of (rdec_any s k hs2.out _) r n hX.out).mono ?_; rintro e w' ⟨rfl, rfl⟩)
          | (at_builtin; refine wpList_append_own _ rfl _ _ 27 rfl w.heap.size 3 i0 (.int .i64 0) 1 8 Try.underlying27 hi hz0 hz1 hz2 rfl (by decide) _ _ _ rfl (hown.alloc _) ⟨wr.heap.size, 0, none⟩ 1 1 [.int .i64 r] rfl rfl ?c1 ?c2 ?c3 ?c4 ?c5 ?_))
        case c1 =>
          intro j u hj
          match j, hj with
          | 0, hj => simp at hj; subst hj; simp [Addr.add]
        case c2 => intro u hu; simp at hu; subst hu; rfl
        case c3 => unfold maxLen; omega
        case c4 => omega
        case c5 => have := hbel.size; simp; omega
        intro v' w1 hown' hgrow _
        have hB : Below w.heap.size w w1 := (hbel.alloc hbel.size _).grown hgrow (by have := hbel.size; simp; omega) (fun j hj => (hown.lt j hj).1)
        clear hgrow hown hbel
        go_wp2
        go_roundw
        case rel => exact ⟨k + n, xs ++ [r], by omega, by simp; omega, by go_num, by rw [iv_snoc]; simpa using hown', hB, hsc.out.step hX.out⟩
        case measure => simp [intOf]; omega
    · have hv := Lib.hid (hsc.out.done (by rw [hlen.out]; exact hlt))
      go_wp2
      go_ret2
      rw [hv.out]
      exact RunesPost.some_ hbel rfl hown

theorem runes_none_of {f : FuncId} {args : Array Value} {w : World} {o : Option (List Nat)} (h : Calls Try.prog f args w fun e w' => RunesPost o w e w') (ho : o = none) :
    Calls Try.prog f args w fun e w' => e = .returned (.tuple #[.slice none 0 0, .bool false]) ∧ Below w.heap.size w w' := by
  subst ho; exact h.mono fun e w' h => ⟨h.2, h.1⟩
theorem runes_some_of {f : FuncId} {args : Array Value} {w : World} {o : Option (List Nat)} (h : Calls Try.prog f args w fun e w' => RunesPost o w e w') (xs : List Nat) (ho : o = some xs) :
    Calls Try.prog f args w fun e w' => ∃ A c, e = .returned (.tuple #[.slice A xs.length c, .bool true]) ∧ Rd w' w'.heap.size A (iv xs) ∧ Below w.heap.size w w' := by
  subst ho
  refine h.mono fun e w' h => ?_
  obtain ⟨hb, v, rfl, hown⟩ := h
  obtain ⟨A, c, rfl, _, hr⟩ := own_slice hown
  exact ⟨A, c, rfl, hr, hb⟩
set_option maxHeartbeats 400000 in
theorem rval_any (s : ByteArray) (hs : s.size ≤ 1048576) (w : World) :
    Calls Try.prog 17 #[.string s] w fun e w' => e = .returned (.bool (runes s.data.toList).isSome) ∧ Below w.heap.size w w' := by
  have HR := Lib.hid (fun w => rrunes_any s hs w)
  clear hs
  cases hx : runes s.data.toList with
  | none =>
    have hX := Lib.hid hx
    clear hx
    go_enter Try.func17, Try.ntmps17
    go_wp2_with (go_at_call 15; refine (runes_none_of (HR.out _) hX.out).mono ?_; rintro e w' ⟨rfl, hb⟩)
    go_ret
    exact ⟨rfl, hb⟩
  | some xs =>
    have hX := Lib.hid hx
    clear hx
    go_enter Try.func17, Try.ntmps17
    go_wp2_with (go_at_call 15; refine (runes_some_of (HR.out _) xs hX.out).mono ?_; rintro e w' ⟨A, c, rfl, hr, hb⟩)
    go_ret
    exact ⟨rfl, hb⟩
set_option maxHeartbeats 400000 in
theorem rcnt_any (s : ByteArray) (hs : s.size ≤ 1048576) (w : World) :
    Calls Try.prog 13 #[.string s] w fun e w' => e = .returned (cntV (runes s.data.toList)) ∧ Below w.heap.size w w' := by
  have HR := Lib.hid (fun w => rrunes_any s hs w)
  clear hs
  cases hx : runes s.data.toList with
  | none =>
    have hX := Lib.hid hx
    clear hx
    go_enter Try.func13, Try.ntmps13
    go_wp2_with (go_at_call 15; refine (runes_none_of (HR.out _) hX.out).mono ?_; rintro e w' ⟨rfl, hb⟩)
    go_ret2
    exact ⟨rfl, hb⟩
  | some xs =>
    have hX := Lib.hid hx
    clear hx
    go_enter Try.func13, Try.ntmps13
    go_wp2_with (go_at_call 15; refine (runes_some_of (HR.out _) xs hX.out).mono ?_; rintro e w' ⟨A, c, rfl, hr, hb⟩)
    go_ret2
    exact ⟨rfl, hb⟩
/-- A list of ints us values. -/
def zv (zs : List Int) : List Value := zs.map (Value.int .i64)
theorem iv_zv (xs : List Nat) : iv xs = zv (xs.map Int.ofNat) := by simp [iv, zv]
theorem take_eq_step {us vs : List Int} {k : Nat} {x y : Int} (ha : us[k]? = some x) (hb : vs[k]? = some y) (h : us.take k = vs.take k) (hxy : x = y) : us.take (k + 1) = vs.take (k + 1) := by
  rw [List.take_add_one, List.take_add_one, ha, hb, h, hxy]
set_option maxHeartbeats 1000000 in
theorem ints_any (A B : Option Addr) (c d : Nat) (us vs : List Int) (BA BB : Nat) (w : World) (ha : Rd w BA A (zv us)) (hb : Rd w BB B (zv vs)) (hla : us.length ≤ maxLen) :
    Calls Try.prog 18 #[.slice A us.length c, .slice B vs.length d] w fun e w' => e = .returned (.bool (decide (us = vs))) ∧ Below w.heap.size w w' := by
  unfold maxLen at hla
  have HA := Lib.hid ha
  have HB := Lib.hid hb
  clear ha hb
  by_cases hl : us.length = vs.length
  · have hbq : (((us.length : Nat) : Int) != ((vs.length : Nat) : Int)) = false := by simp [hl]
    have HL := Lib.hid hl
    clear hl
    go_enter Try.func18, Try.ntmps18
    go_wp2
    go_loopw [5] (fun i wr => ∃ (k : Nat), k ≤ us.length ∧ i = .int .i64 k ∧ us.take k = vs.take k ∧ ∃ m, wr = w.drewN m) (fun i _ => us.length - (intOf i).toNat)
    case atStart => exact ⟨0, Nat.zero_le _, rfl, rfl, 0, rfl⟩
    case round =>
      obtain ⟨k, hk, rfl, heq0, m, rfl⟩ := hrel
      have heq := Lib.hid heq0
      clear heq0
      by_cases hlt : k < us.length
      · have e1 : us[k]? = some us[k] := List.getElem?_eq_getElem hlt
        have hltb : k < vs.length := by have := HL.out; omega
        have e2 : vs[k]? = some vs[k] := List.getElem?_eq_getElem hltb
        obtain ⟨x, hx⟩ : ∃ x, us[k]? = some x := ⟨_, e1⟩
        obtain ⟨y, hy⟩ : ∃ y, vs[k]? = some y := ⟨_, e2⟩
        have HX := Lib.hid hx
        have HY := Lib.hid hy
        clear e1 e2 hx hy
        obtain ⟨b1, o1, rfl, _, hc1⟩ := HA.out.at_ (j := k) (u := .int .i64 x) (by simp [zv, HX.out])
        obtain ⟨b2, o2, rfl, _, hc2⟩ := HB.out.at_ (j := k) (u := .int .i64 y) (by simp [zv, HY.out])
        have hi1 : (k : Int) < (us.length : Int) := by omega
        have hi2 : (k : Int) < (vs.length : Int) := by omega
        by_cases hxy : x = y
        · have hq : (x != y) = false := by simp [hxy]
          have HQ := Lib.hid hxy
          clear hxy
          go_wp2
          go_quiet (fail)
          go_wp2
          go_roundw
          case rel => exact ⟨k + 1, by omega, by go_num, take_eq_step HX.out HY.out heq.out HQ.out, _, rfl⟩
          case measure => simp [intOf]; omega
        · have hq : (x != y) = true := by simp [hxy]
          have hne : Hid (decide (us = vs) = false) := Lib.hid (by
            refine decide_eq_false fun h => hxy ?_
            have h1 := HX.out
            rw [h, HY.out] at h1
            injection h1 with h1
            exact h1.symm)
          clear hxy
          go_wp2
          go_quiet (fail)
          go_wp2
          go_ret
          exact ⟨congrArg (fun b => Ending.returned (.bool b)) hne.out.symm, below_drewN (below_drewN (Below.refl _ _) _) _⟩
      · have he : Hid (decide (us = vs) = true) := Lib.hid (by
          refine decide_eq_true ?_
          have := heq.out
          rw [List.take_of_length_le (by omega), List.take_of_length_le (by have := HL.out; omega)] at this
          exact this)
        go_wp2
        go_ret
        exact ⟨congrArg (fun b => Ending.returned (.bool b)) he.out.symm, below_drewN (Below.refl _ _) m⟩
  · have hbq : (((us.length : Nat) : Int) != ((vs.length : Nat) : Int)) = true := by simp; omega
    have he : Hid (decide (us = vs) = false) := Lib.hid (decide_eq_false fun h => hl (by rw [h]))
    clear hl
    go_enter Try.func18, Try.ntmps18
    go_wp2
    go_ret
    exact ⟨congrArg (fun b => Ending.returned (.bool b)) he.out.symm, Below.refl _ _⟩
end Go.Proofs.Ytfabdodkjohldaa

/- The contracts of the reference's Runes and Valid. -/
import Derived.Test.YtkohnkofnobakaaGreatDoorUtf3
import Derived.Deep.QuietTactic
import Derived.BigQuiet
set_option linter.unusedVariables false
set_option linter.unusedSimpArgs false
namespace Go.Proofs.YtkohnkofnobakaaGreatDoor
open Go.RowKit
theorem inf_int : (Tryz.prog.info? 3).map (fun i => (i.zero, i.size, i.bytes)) = some (some (.int .i64 0), 1, 8) := by kernel_rfl
/-- A list of code points as values. -/
def iv (xs : List Nat) : List Value := xs.map fun (r : Nat) => Value.int .i64 (r : Int)
/-- What Runes leaves: nil and false, or a slice of its own that reads as the list. -/
def RunesPost (o : Option (List Nat)) (w : World) (e : Ending) (w' : World) : Prop :=
  Below w.heap.size w w' ∧ match o with
  | none => e = .returned (.tuple #[.slice none 0 0, .bool false])
  | some xs => ∃ v, e = .returned (.tuple #[v, .bool true]) ∧ w'.ownsRow w.heap.size 3 1 v xs.length (iv xs)
theorem RunesPost.none_ {w w' : World} {e : Ending} (hb : Below w.heap.size w w') (he : e = .returned (.tuple #[.slice none 0 0, .bool false])) : RunesPost none w e w' := ⟨hb, he⟩
theorem RunesPost.some_ {w w' : World} {e : Ending} {xs : List Nat} (hb : Below w.heap.size w w') {v : Value} (he : e = .returned (.tuple #[v, .bool true])) (ho : w'.ownsRow w.heap.size 3 1 v xs.length (iv xs)) : RunesPost (some xs) w e w' := ⟨hb, v, he, ho⟩
theorem iv_snoc (xs : List Nat) (r : Nat) : iv (xs ++ [r]) = iv xs ++ [.int .i64 r] := by simp [iv]
set_option maxHeartbeats 1000000 in
theorem rrunes_any (s : ByteArray) (hs : s.size ≤ 1048576) (w : World) :
    Calls Tryz.prog 69 #[.string s] w fun e w' => RunesPost (runes s.data.toList) w e w' := by
  have hs2 : Hid (s.size ≤ maxLen) := Lib.hid (by unfold maxLen; omega)
  have hlen : Hid (s.data.toList.length = s.size) := Lib.hid (by simp)
  obtain ⟨i0, hi, hz0, hz1, hz2⟩ := info_parts inf_int
  go_enter Tryz.func69, Tryz.ntmps69
  go_wp2
  go_loopw [4, 5] (fun v t wr => ∃ (k : Nat) (xs : List Nat), k ≤ s.size ∧ xs.length ≤ k ∧ t = .int .i64 k ∧ wr.ownsRow w.heap.size 3 1 v xs.length (iv xs) ∧ Below w.heap.size w wr ∧ Scan s.data.toList k xs) (fun _ t _ => s.size - (intOf t).toNat)
  case atStart => exact ⟨0, [], Nat.zero_le _, Nat.le_refl _, rfl, World.ownsRow_nil _ _ _ _, Below.refl _ _, Scan.start _⟩
  case round =>
    obtain ⟨k, xs, hk, hxk, rfl, hown, hbel, hsc0⟩ := hrel
    have hsc := Lib.hid hsc0
    clear hsc0
    by_cases hlt : k < s.size
    · cases hx : dec (s.data.toList.drop k) with
      | none =>
        have hX := Lib.hid hx
        clear hx
        have hv := Lib.hid (hsc.out.fail (by rw [hlen.out]; exact hlt) hX.out)
        go_wp2_with (go_at_call 100; refine (dec_none_of (rdec_any s k hs2.out _) hX.out).mono ?_; rintro e w' ⟨rfl, rfl⟩)
        go_ret2
        rw [hv.out]
        exact RunesPost.none_ hbel rfl
      | some rn =>
        obtain ⟨r, n⟩ := rn
        have hX := Lib.hid hx
        clear hx
        obtain ⟨_, hn1, hn4, hnl⟩ := dec_some_cp hX.out
        rw [List.length_drop, hlen.out] at hnl
        have hkn : k + n ≤ s.size := by omega
        clear hnl
        go_wp2_with (first
          | (go_at_call 100; refine (dec_some_of (rdec_any s k hs2.out _) r n hX.out).mono ?_; rintro e w' ⟨rfl, rfl⟩)
          | (at_builtin; refine wpList_append_own _ rfl _ _ 76 rfl w.heap.size 3 i0 (.int .i64 0) 1 8 Tryz.underlying76 hi hz0 hz1 hz2 rfl (by decide) _ _ _ rfl (hown.alloc _) ⟨wr.heap.size, 0, none⟩ 1 1 [.int .i64 r] rfl rfl ?c1 ?c2 ?c3 ?c4 ?c5 ?_))
        case c1 =>
          intro j u hj
          match j, hj with
          | 0, hj => simp at hj; subst hj; simp [Addr.add]
        case c2 => intro u hu; simp at hu; subst hu; rfl
        case c3 => unfold maxLen; omega
        case c4 => omega
        case c5 => have := hbel.size; simp; omega
        intro v' w1 hown' hgrow _
        have hB : Below w.heap.size w w1 := (hbel.alloc hbel.size _).grown hgrow (by have := hbel.size; simp; omega) (fun j hj => (hown.lt j hj).1)
        clear hgrow hown hbel
        go_wp2
        go_roundw
        case rel => exact ⟨k + n, xs ++ [r], by omega, by simp; omega, by go_num, by rw [iv_snoc]; simpa using hown', hB, hsc.out.step hX.out⟩
        case measure => simp [intOf]; omega
    · have hv := Lib.hid (hsc.out.done (by rw [hlen.out]; exact hlt))
      go_wp2
      go_ret2
      rw [hv.out]
      exact RunesPost.some_ hbel rfl hown

theorem runes_none_of {f : FuncId} {args : Array Value} {w : World} {o : Option (List Nat)} (h : Calls Tryz.prog f args w fun e w' => RunesPost o w e w') (ho : o = none) :
    Calls Tryz.prog f args w fun e w' => e = .returned (.tuple #[.slice none 0 0, .bool false]) ∧ Below w.heap.size w w' := by
  subst ho; exact h.mono fun e w' h => ⟨h.2, h.1⟩
theorem runes_some_of {f : FuncId} {args : Array Value} {w : World} {o : Option (List Nat)} (h : Calls Tryz.prog f args w fun e w' => RunesPost o w e w') (xs : List Nat) (ho : o = some xs) :
    Calls Tryz.prog f args w fun e w' => ∃ A c, e = .returned (.tuple #[.slice A xs.length c, .bool true]) ∧ Rd w' w'.heap.size A (iv xs) ∧ Below w.heap.size w w' := by
  subst ho
  refine h.mono fun e w' h => ?_
  obtain ⟨hb, v, rfl, hown⟩ := h
  obtain ⟨A, c, rfl, _, hr⟩ := own_slice hown
  exact ⟨A, c, rfl, hr, hb⟩
set_option maxHeartbeats 400000 in
theorem rval_any (s : ByteArray) (hs : s.size ≤ 1048576) (w : World) :
    Calls Tryz.prog 70 #[.string s] w fun e w' => e = .returned (.bool (runes s.data.toList).isSome) ∧ Below w.heap.size w w' := by
  have HR := Lib.hid (fun w => rrunes_any s hs w)
  clear hs
  cases hx : runes s.data.toList with
  | none =>
    have hX := Lib.hid hx
    clear hx
    go_enter Tryz.func70, Tryz.ntmps70
    go_wp2_with (go_at_call 69; refine (runes_none_of (HR.out _) hX.out).mono ?_; rintro e w' ⟨rfl, hb⟩)
    go_ret
    exact ⟨rfl, hb⟩
  | some xs =>
    have hX := Lib.hid hx
    clear hx
    go_enter Tryz.func70, Tryz.ntmps70
    go_wp2_with (go_at_call 69; refine (runes_some_of (HR.out _) xs hX.out).mono ?_; rintro e w' ⟨A, c, rfl, hr, hb⟩)
    go_ret
    exact ⟨rfl, hb⟩
end Go.Proofs.YtkohnkofnobakaaGreatDoor

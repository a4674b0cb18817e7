/- The contracts of Count, Valid, Runes, and of the reference's. The contracts of the reference's Runes and Valid. The program's fieldsFit, addString and addKeys. -/
import Derived.Test.YtjafmdngbphacaaGreatDoorC12
import Derived.Lib.Hide
import Derived.Deep.CutBlock
import Derived.Deep.DeepCutAuto
import Derived.Test.YtjafmdngbphacaaGreatDoorC01
import Derived.Deep.QuietTactic
import Derived.BigQuiet
import Derived.Test.YtjafmdngbphacaaGreatDoorC11
import Derived.Test.YtjafmdngbphacaaGreatDoorC09
import Derived.Test.YtjafmdngbphacaaGreatDoorC07
set_option linter.unusedVariables false
set_option linter.unusedSimpArgs false
namespace Go.Proofs.YtjafmdngbphacaaGreatDoor
open Go.RowKit
def cntV : Option (List Nat) → Value
  | none => .tuple #[.int .i64 0, .bool false]
  | some xs => .tuple #[.int .i64 xs.length, .bool true]
set_option maxHeartbeats 400000 in
theorem cnt_any (s : ByteArray) (hs : s.size ≤ maxLen) (w : World) :
    Calls Tryz.prog 138 #[.string s] w fun e w' => e = .returned (cntV (runes s.data.toList)) ∧ w = w' := by
  have hs2 := Lib.hid hs
  have hlen : Hid (s.data.toList.length = s.size) := Lib.hid (by simp)
  unfold maxLen at hs
  go_enter Tryz.func138, Tryz.ntmps138
  go_wp2
  go_loop [4, 5] (fun c t => ∃ (k : Nat) (xs : List Nat), k ≤ s.size ∧ xs.length ≤ k ∧ t = .int .i64 k ∧ c = .int .i64 xs.length ∧ Scan s.data.toList k xs) (fun _ t => s.size - (intOf t).toNat)
  case atStart => exact ⟨0, [], Nat.zero_le _, Nat.le_refl _, rfl, rfl, Scan.start _⟩
  case round =>
    obtain ⟨k, xs, hk, hxk, rfl, rfl, hsc0⟩ := hrel
    have hsc := Lib.hid hsc0
    clear hsc0
    by_cases hlt : k < s.size
    · cases hx : dec (s.data.toList.drop k) with
      | none =>
        have hX := Lib.hid hx
        clear hx
        have hv : Hid (cntV (runes s.data.toList) = .tuple #[.int .i64 0, .bool false]) := Lib.hid (by rw [hsc.out.fail (by rw [hlen.out]; exact hlt) hX.out]; rfl)
        go_wp2_with (go_at_call 177; refine (dec_none_of (dec_any s k hs2.out _) hX.out).mono ?_; rintro e w' ⟨rfl, rfl⟩)
        go_ret2
        exact ⟨congrArg Ending.returned hv.out.symm, rfl⟩
      | some rn =>
        obtain ⟨r, n⟩ := rn
        have hX := Lib.hid hx
        clear hx
        obtain ⟨_, hn1, hn4, hnl⟩ := dec_some_cp hX.out
        rw [List.length_drop, hlen.out] at hnl
        go_wp2_with (go_at_call 177; refine (dec_some_of (dec_any s k hs2.out _) r n hX.out).mono ?_; rintro e w' ⟨rfl, rfl⟩)
        go_round
        case rel => exact ⟨k + n, xs ++ [r], by omega, by simp; omega, by go_num, by simp, hsc.out.step hX.out⟩
        case measure => simp [intOf]; omega
    · have hv : Hid (cntV (runes s.data.toList) = .tuple #[.int .i64 xs.length, .bool true]) := Lib.hid (by rw [hsc.out.done (by rw [hlen.out]; exact hlt)]; rfl)
      go_wp2
      go_ret2
      exact ⟨congrArg Ending.returned hv.out.symm, rfl⟩
set_option maxHeartbeats 400000 in
theorem val_any (s : ByteArray) (hs : s.size ≤ maxLen) (w : World) :
    Calls Tryz.prog 90 #[.string s] w fun e w' => e = .returned (.bool (runes s.data.toList).isSome) ∧ w = w' := by
  cases hx : runes s.data.toList with
  | none =>
    have hc : ∀ w : World, Calls Tryz.prog 138 #[.string s] w fun e w' => e = .returned (.tuple #[.int .i64 0, .bool false]) ∧ w = w' := fun w => by
      have := cnt_any s hs w; rw [hx] at this; exact this
    have HC := Lib.hid hc
    clear hc hx hs
    go_enter Tryz.func90, Tryz.ntmps90
    go_wp2_with (go_at_call 138; refine (HC.out _).mono ?_; rintro e w' ⟨rfl, rfl⟩)
    go_ret
    exact ⟨rfl, rfl⟩
  | some xs =>
    have hc : ∀ w : World, Calls Tryz.prog 138 #[.string s] w fun e w' => e = .returned (.tuple #[.int .i64 xs.length, .bool true]) ∧ w = w' := fun w => by
      have := cnt_any s hs w; rw [hx] at this; exact this
    have HC := Lib.hid hc
    clear hc hx hs
    go_enter Tryz.func90, Tryz.ntmps90
    go_wp2_with (go_at_call 138; refine (HC.out _).mono ?_; rintro e w' ⟨rfl, rfl⟩)
    go_ret
    exact ⟨rfl, rfl⟩
end Go.Proofs.YtjafmdngbphacaaGreatDoor
namespace Go.Proofs.YtjafmdngbphacaaGreatDoor
open Go.RowKit
theorem inf_int : (Tryz.prog.info? 3).map (fun i => (i.zero, i.size, i.bytes)) = some (some (.int .i64 0), 1, 8) := by kernel_rfl
/-- A list of code points as values. -/
def iv (xs : List Nat) : List Value := xs.map fun (r : Nat) => Value.int .i64 (r : Int)
/-- What Runes leaves: nil and false, or a slice of its own that reads as the list. -/
def RunesPost (o : Option (List Nat)) (w : World) (e : Ending) (w' : World) : Prop :=
  Below w.heap.size w w' ∧ match o with
  | none => e = .returned (.tuple #[.slice none 0 0, .bool false])
  | some xs => ∃ v, e = .returned (.tuple #[v, .bool true]) ∧ w'.ownsRow w.heap.size 3 1 v xs.length (iv xs)
theorem RunesPost.none_ {w w' : World} {e : Ending} (hb : Below w.heap.size w w') (he : e = .returned (.tuple #[.slice none 0 0, .bool false])) : RunesPost none w e w' := ⟨hb, he⟩
theorem RunesPost.some_ {w w' : World} {e : Ending} {xs : List Nat} (hb : Below w.heap.size w w') {v : Value} (he : e = .returned (.tuple #[v, .bool true])) (ho : w'.ownsRow w.heap.size 3 1 v xs.length (iv xs)) : RunesPost (some xs) w e w' := ⟨hb, v, he, ho⟩
theorem iv_snoc (xs : List Nat) (r : Nat) : iv (xs ++ [r]) = iv xs ++ [.int .i64 r] := by simp [iv]
end Go.Proofs.YtjafmdngbphacaaGreatDoor
namespace Go.Proofs.YtjafmdngbphacaaGreatDoor
open Go.RowKit
theorem size_empty (s : ByteArray) : s.toList.isEmpty = decide (s.size = 0) := by
  rw [Lib.toList_data]
  obtain ⟨⟨l⟩⟩ := s
  cases l <;> simp [ByteArray.size]
theorem natz (n : Nat) : ((n : Int) == 0) = decide (n = 0) := by rw [Bool.eq_iff_iff]; simp
theorem nateq (a b : Nat) : ((a : Int) == (b : Int)) = decide (a = b) := by rw [Bool.eq_iff_iff]; simp; omega
set_option maxHeartbeats 4000000 in
set_option maxRecDepth 100000 in
theorem fits_any (k n : Int) (s : ByteArray) (A B : Option Addr) (nk ne a b : Nat) (w : World) (hs : s.size ≤ 140737488355328) (hk : nk ≤ 140737488355328) (he : ne ≤ 140737488355328) :
    Calls Tryz.prog 181 #[.agg #[.int .i64 k, .int .i64 n, .string s, .slice A nk a, .slice B ne b]] w fun e w' => e = .returned (.bool (fits k n s nk ne)) ∧ Below w.heap.size w w' := by
  have hse := size_empty s
  generalize hq : fits k n s nk ne = r
  have HQ := Lib.hid hq
  clear hq
  go_enter Tryz.func181, Tryz.ntmps181
  go_wp2
  go_quiet (fail)
  go_wp2
  go_quiet (fail)
  go_wp2
  all_goals
    go_ret
    refine ⟨ret_bool (Eq.trans ?_ HQ.out), below_drewN ((Below.refl _ _).alloc (Nat.le_refl _) _) _⟩
    simp_all [fits, natz, nateq]
set_option maxHeartbeats 1000000 in
set_option maxRecDepth 100000 in
theorem addString_any (g : Nat) (d m b : Int) (s : ByteArray) (w : World) (hbox : Box w g 68 #[.int .i64 d, .int .i64 m, .int .i64 b]) (hs : s.size ≤ 140737488355328) (h0 : 0 ≤ b) (h1 : b ≤ 65536) :
    Calls Tryz.prog 182 #[.pointer (some ⟨g, 0, none⟩), .string s] w fun e w' => e = .returned (.bool (strOk s b)) ∧ w' = w.setCell ⟨g, 2, none⟩ (.int .i64 (b + s.size)) := by
  have c2 := hbox.cell (i := 2) rfl
  have f2 := hbox.free 2
  have HB := Lib.hid hbox
  clear hbox
  have n2 : (w.setCell ⟨g, 2, none⟩ (.int .i64 (b + s.size))).cell? ⟨g, 2, none⟩ = some (.int .i64 (b + s.size)) := (HB.out.put 2 _).cell rfl
  have hm : s.size ≤ maxLen := by unfold maxLen; omega
  have HM := Lib.hid hm
  generalize hq : strOk s b = r
  have HQ := Lib.hid hq
  clear hq hm
  by_cases hz : s.size ≤ 4096
  · by_cases hy : b + s.size ≤ 65536
    · have hv := Lib.hid (fun w => val_any s HM.out w)
      have hr : Hid (okS s = r) := Lib.hid (by rw [← HQ.out, strOk, decide_eq_true hz, decide_eq_true hy]; rfl)
      go_enter Tryz.func182, Tryz.ntmps182
      go_wp2_with (go_at_call 90; refine (hv.out _).mono ?_; rintro e w' ⟨rfl, rfl⟩)
      go_ret
      exact ⟨ret_bool hr.out, rfl⟩
    · have hr : Hid (false = r) := Lib.hid (by rw [← HQ.out, strOk, decide_eq_true hz, decide_eq_false hy]; rfl)
      go_enter Tryz.func182, Tryz.ntmps182
      go_wp2_with fail
      go_ret
      exact ⟨ret_bool hr.out, rfl⟩
  · have hr : Hid (false = r) := Lib.hid (by rw [← HQ.out, strOk, decide_eq_false hz]; rfl)
    go_enter Tryz.func182, Tryz.ntmps182
    go_wp2_with fail
    go_ret
    exact ⟨ret_bool hr.out, rfl⟩
end Go.Proofs.YtjafmdngbphacaaGreatDoor

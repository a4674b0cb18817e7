/- The sanity check of the statements, and the walk of UtfDecode. -/
import Derived.Test.YtfabdodkjohldaaUtf5
namespace Go.Proofs.Ytfabdodkjohldaa
open Go.RowKit
set_option maxHeartbeats 400000 in
theorem awake_any (w : World) : Calls Try.prog 9 #[] w fun e w' => e = .returned (.bool true) ∧ w = w' := by
  have hd : ∀ w : World, Calls Try.prog 10 #[.string ⟨#[195, 169]⟩, .int .i64 0] w fun e w' => e = .returned (.tuple #[.int .i64 233, .int .i64 2, .bool true]) ∧ w = w' := fun w => by
    have h := dec_any ⟨#[195, 169]⟩ 0 (by unfold maxLen; decide) w
    rw [show dec (([195, 169] : List UInt8).drop 0) = some (233, 2) from by decide +kernel] at h
    exact h
  have HD := Lib.hid hd
  clear hd
  go_enter Try.func9, Try.ntmps9
  go_wp2_with (go_at_call 10; refine (HD.out _).mono ?_; rintro e w' ⟨rfl, rfl⟩)
  all_goals go_ret
  all_goals exact ⟨rfl, rfl⟩
theorem zints_any (A B : Option Addr) (c d : Nat) (xs : List Nat) (BA BB : Nat) (w : World) (ha : Rd w BA A (iv xs)) (hb : Rd w BB B (iv xs)) (hla : xs.length ≤ maxLen) :
    Calls Try.prog 18 #[.slice A xs.length c, .slice B xs.length d] w fun e w' => e = .returned (.bool true) ∧ Below w.heap.size w w' := by
  have h := ints_any A B c d (xs.map Int.ofNat) (xs.map Int.ofNat) BA BB w (by rw [← iv_zv]; exact ha) (by rw [← iv_zv]; exact hb) (by simpa using hla)
  simp only [List.length_map, decide_true] at h
  exact h
theorem chain {a b c : World} (h : Below a.heap.size a b) (k : Below b.heap.size b c) : Below a.heap.size a c := h.trans (k.mono h.size)
def dAt (s : ByteArray) (k : Int) : Option (Nat × Nat) := if k < 0 then none else dec (s.data.toList.drop k.toNat)
theorem dec_int (s : ByteArray) (k : Int) (hs : s.size ≤ maxLen) (w : World) :
    Calls Try.prog 10 #[.string s, .int .i64 k] w fun e w' => e = .returned (decV (dAt s k)) ∧ w = w' := by
  unfold dAt
  by_cases hk : k < 0
  · rw [if_pos hk]; exact dec_neg s k hk w
  · rw [if_neg hk]
    have h := dec_any s k.toNat hs w
    rw [show ((k.toNat : Nat) : Int) = k from by omega] at h; exact h
theorem rdec_int (s : ByteArray) (k : Int) (hs : s.size ≤ maxLen) (w : World) :
    Calls Try.prog 11 #[.string s, .int .i64 k] w fun e w' => e = .returned (decV (dAt s k)) ∧ w = w' := by
  unfold dAt
  by_cases hk : k < 0
  · rw [if_pos hk]; exact rdec_neg s k hk w
  · rw [if_neg hk]
    have h := rdec_any s k.toNat hs w
    rw [show ((k.toNat : Nat) : Int) = k from by omega] at h; exact h
theorem cnt_none_of {f : FuncId} {args : Array Value} {w : World} {R : World → World → Prop} {o : Option (List Nat)} (h : Calls Try.prog f args w fun e w' => e = .returned (cntV o) ∧ R w w') (ho : o = none) :
    Calls Try.prog f args w fun e w' => e = .returned (.tuple #[.int .i64 0, .bool false]) ∧ R w w' := by subst ho; exact h
theorem cnt_some_of {f : FuncId} {args : Array Value} {w : World} {R : World → World → Prop} {o : Option (List Nat)} (h : Calls Try.prog f args w fun e w' => e = .returned (cntV o) ∧ R w w') (xs : List Nat) (ho : o = some xs) :
    Calls Try.prog f args w fun e w' => e = .returned (.tuple #[.int .i64 xs.length, .bool true]) ∧ R w w' := by subst ho; exact h
theorem runes_length {l : List UInt8} {xs : List Nat} (h : runes l = some xs) : xs.length ≤ l.length := by
  have key : ∀ (m : Nat) (l : List UInt8), l.length ≤ m → ∀ xs, runes l = some xs → xs.length ≤ l.length := by
    intro m
    induction m with
    | zero =>
      intro l hl xs h
      have : l = [] := List.eq_nil_of_length_eq_zero (by omega)
      subst this; rw [runes_nil] at h; injection h with h; subst h; simp
    | succ m ih =>
      intro l hl xs h
      cases l with
      | nil => rw [runes_nil] at h; injection h with h; subst h; simp
      | cons b t =>
        cases hd : dec (b :: t) with
        | none => rw [runes_none (by simp) hd] at h; cases h
        | some rn =>
          obtain ⟨r, n⟩ := rn
          obtain ⟨_, h1, _, h4⟩ := dec_some_cp hd
          rw [runes_some hd] at h
          cases hr : runes ((b :: t).drop n) with
          | none => rw [hr] at h; cases h
          | some ys =>
            rw [hr] at h; injection h with h; subst h
            have := ih _ (by rw [List.length_drop]; omega) ys hr
            rw [List.length_drop] at this
            simp only [List.length_cons] at *; omega
  exact key _ l (Nat.le_refl _) xs h
set_option maxHeartbeats 2000000 in
theorem decode_walk (s : ByteArray) (k : Int) (hs : s.size ≤ maxLen) (w : World) :
    Calls Try.prog 3 #[.string s, .int .i64 k] w fun e w' => e = .returned (.bool true) ∧ Below w.heap.size w w' := by
  by_cases hbig : 200 < s.size
  · clear hs
    go_enter Try.func3, Try.ntmps3
    go_wp2_with (go_at_call 9; refine (awake_any _).mono ?_; rintro e w' ⟨rfl, rfl⟩)
    go_ret
    exact ⟨rfl, Below.refl _ _⟩
  · have hs1 : Hid (s.size ≤ 1048576) := Lib.hid (by omega)
    have HS := Lib.hid hs
    clear hs
    cases hx : dAt s k with
    | none =>
      have hX := Lib.hid hx
      clear hx
      cases hy : runes s.data.toList with
      | none =>
        have hY := Lib.hid hy
        clear hy
        have hV := Lib.hid (fun w => by have h := val_any s HS.out w; rw [hY.out] at h; exact h)
        have hW := Lib.hid (fun w => by have h := rval_any s hs1.out w; rw [hY.out] at h; exact h)
        go_enter Try.func3, Try.ntmps3
        go_wp2_with (first
          | (go_at_call 10; refine (dec_none_of (dec_int s k HS.out _) hX.out).mono ?_; rintro e w' ⟨rfl, rfl⟩)
          | (go_at_call 11; refine (dec_none_of (rdec_int s k HS.out _) hX.out).mono ?_; rintro e w' ⟨rfl, rfl⟩)
          | (go_at_call 12; refine (cnt_none_of (cnt_any s HS.out _) hY.out).mono ?_; rintro e w' ⟨rfl, rfl⟩)
          | (go_at_call 13; refine (cnt_none_of (R := fun w w' => Below w.heap.size w w') (rcnt_any s hs1.out _) hY.out).mono ?_; rintro e w1 ⟨rfl, hb1⟩)
          | (go_at_call 14; refine (runes_none_of (runes_any s hs1.out _) hY.out).mono ?_; rintro e w2 ⟨rfl, hb2⟩)
          | (go_at_call 15; refine (runes_none_of (rrunes_any s hs1.out _) hY.out).mono ?_; rintro e w3 ⟨rfl, hb3⟩)
          | (go_at_call 16; refine (hV.out _).mono ?_; rintro e w' ⟨rfl, rfl⟩)
          | (go_at_call 17; refine (hW.out _).mono ?_; rintro e w4 ⟨rfl, hb4⟩)
          | (go_at_call 18; refine (zints_any none none 0 0 [] 0 0 _ (Rd.nil _ _ _) (Rd.nil _ _ _) (Nat.zero_le _)).mono ?_; rintro e w5 ⟨rfl, hb5⟩)
          | (go_at_call 9; refine (awake_any _).mono ?_; rintro e w' ⟨rfl, rfl⟩))
        go_ret
        exact ⟨rfl, chain (chain (chain (chain hb1 hb2) hb3) hb4) hb5⟩
      | some xs =>
        have hY := Lib.hid hy
        clear hy
        have hln : Hid (xs.length ≤ maxLen) := Lib.hid (by have h1 := runes_length hY.out; have h2 := hs1.out; simp at h1; unfold maxLen; omega)
        have hV := Lib.hid (fun w => by have h := val_any s HS.out w; rw [hY.out] at h; exact h)
        have hW := Lib.hid (fun w => by have h := rval_any s hs1.out w; rw [hY.out] at h; exact h)
        go_enter Try.func3, Try.ntmps3
        go_wp2_with (first
          | (go_at_call 10; refine (dec_none_of (dec_int s k HS.out _) hX.out).mono ?_; rintro e w' ⟨rfl, rfl⟩)
          | (go_at_call 11; refine (dec_none_of (rdec_int s k HS.out _) hX.out).mono ?_; rintro e w' ⟨rfl, rfl⟩)
          | (go_at_call 12; refine (cnt_some_of (cnt_any s HS.out _) xs hY.out).mono ?_; rintro e w' ⟨rfl, rfl⟩)
          | (go_at_call 13; refine (cnt_some_of (R := fun w w' => Below w.heap.size w w') (rcnt_any s hs1.out _) xs hY.out).mono ?_; rintro e w1 ⟨rfl, hb1⟩)
          | (go_at_call 14; refine (runes_some_of (runes_any s hs1.out _) xs hY.out).mono ?_; rintro e w2 ⟨A2, c2, rfl, hr2, hb2⟩)
          | (go_at_call 15; refine (runes_some_of (rrunes_any s hs1.out _) xs hY.out).mono ?_; rintro e w3 ⟨A3, c3, rfl, hr3, hb3⟩)
          | (go_at_call 16; refine (hV.out _).mono ?_; rintro e w' ⟨rfl, rfl⟩)
          | (go_at_call 17; refine (hW.out _).mono ?_; rintro e w4 ⟨rfl, hb4⟩)
          | (go_at_call 18; refine (zints_any A2 A3 c2 c3 xs _ _ _ ((hr2.below hb3 (Nat.le_refl _)).below hb4 hb3.size) (hr3.below hb4 (Nat.le_refl _)) hln.out).mono ?_; rintro e w5 ⟨rfl, hb5⟩)
          | (go_at_call 9; refine (awake_any _).mono ?_; rintro e w' ⟨rfl, rfl⟩))
        go_ret
        exact ⟨rfl, chain (chain (chain (chain hb1 hb2) hb3) hb4) hb5⟩
    | some rn =>
      obtain ⟨r, n⟩ := rn
      have hX := Lib.hid hx
      clear hx
      cases hy : runes s.data.toList with
      | none =>
        have hY := Lib.hid hy
        clear hy
        have hV := Lib.hid (fun w => by have h := val_any s HS.out w; rw [hY.out] at h; exact h)
        have hW := Lib.hid (fun w => by have h := rval_any s hs1.out w; rw [hY.out] at h; exact h)
        go_enter Try.func3, Try.ntmps3
        go_wp2_with (first
          | (go_at_call 10; refine (dec_some_of (dec_int s k HS.out _) r n hX.out).mono ?_; rintro e w' ⟨rfl, rfl⟩)
          | (go_at_call 11; refine (dec_some_of (rdec_int s k HS.out _) r n hX.out).mono ?_; rintro e w' ⟨rfl, rfl⟩)
          | (go_at_call 12; refine (cnt_none_of (cnt_any s HS.out _) hY.out).mono ?_; rintro e w' ⟨rfl, rfl⟩)
          | (go_at_call 13; refine (cnt_none_of (R := fun w w' => Below w.heap.size w w') (rcnt_any s hs1.out _) hY.out).mono ?_; rintro e w1 ⟨rfl, hb1⟩)
          | (go_at_call 14; refine (runes_none_of (runes_any s hs1.out _) hY.out).mono ?_; rintro e w2 ⟨rfl, hb2⟩)
          | (go_at_call 15; refine (runes_none_of (rrunes_any s hs1.out _) hY.out).mono ?_; rintro e w3 ⟨rfl, hb3⟩)
          | (go_at_call 16; refine (hV.out _).mono ?_; rintro e w' ⟨rfl, rfl⟩)
          | (go_at_call 17; refine (hW.out _).mono ?_; rintro e w4 ⟨rfl, hb4⟩)
          | (go_at_call 18; refine (zints_any none none 0 0 [] 0 0 _ (Rd.nil _ _ _) (Rd.nil _ _ _) (Nat.zero_le _)).mono ?_; rintro e w5 ⟨rfl, hb5⟩)
          | (go_at_call 9; refine (awake_any _).mono ?_; rintro e w' ⟨rfl, rfl⟩))
        go_ret
        exact ⟨rfl, chain (chain (chain (chain hb1 hb2) hb3) hb4) hb5⟩
      | some xs =>
        have hY := Lib.hid hy
        clear hy
        have hln : Hid (xs.length ≤ maxLen) := Lib.hid (by have h1 := runes_length hY.out; have h2 := hs1.out; simp at h1; unfold maxLen; omega)
        have hV := Lib.hid (fun w => by have h := val_any s HS.out w; rw [hY.out] at h; exact h)
        have hW := Lib.hid (fun w => by have h := rval_any s hs1.out w; rw [hY.out] at h; exact h)
        go_enter Try.func3, Try.ntmps3
        go_wp2_with (first
          | (go_at_call 10; refine (dec_some_of (dec_int s k HS.out _) r n hX.out).mono ?_; rintro e w' ⟨rfl, rfl⟩)
          | (go_at_call 11; refine (dec_some_of (rdec_int s k HS.out _) r n hX.out).mono ?_; rintro e w' ⟨rfl, rfl⟩)
          | (go_at_call 12; refine (cnt_some_of (cnt_any s HS.out _) xs hY.out).mono ?_; rintro e w' ⟨rfl, rfl⟩)
          | (go_at_call 13; refine (cnt_some_of (R := fun w w' => Below w.heap.size w w') (rcnt_any s hs1.out _) xs hY.out).mono ?_; rintro e w1 ⟨rfl, hb1⟩)
          | (go_at_call 14; refine (runes_some_of (runes_any s hs1.out _) xs hY.out).mono ?_; rintro e w2 ⟨A2, c2, rfl, hr2, hb2⟩)
          | (go_at_call 15; refine (runes_some_of (rrunes_any s hs1.out _) xs hY.out).mono ?_; rintro e w3 ⟨A3, c3, rfl, hr3, hb3⟩)
          | (go_at_call 16; refine (hV.out _).mono ?_; rintro e w' ⟨rfl, rfl⟩)
          | (go_at_call 17; refine (hW.out _).mono ?_; rintro e w4 ⟨rfl, hb4⟩)
          | (go_at_call 18; refine (zints_any A2 A3 c2 c3 xs _ _ _ ((hr2.below hb3 (Nat.le_refl _)).below hb4 hb3.size) (hr3.below hb4 (Nat.le_refl _)) hln.out).mono ?_; rintro e w5 ⟨rfl, hb5⟩)
          | (go_at_call 9; refine (awake_any _).mono ?_; rintro e w' ⟨rfl, rfl⟩))
        go_ret
        exact ⟨rfl, chain (chain (chain (chain hb1 hb2) hb3) hb4) hb5⟩
end Go.Proofs.Ytfabdodkjohldaa

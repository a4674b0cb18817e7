/- The walk of UtfRoundTrip. -/
import Derived.Test.YtfabdodkjohldaaEncode
namespace Go.Proofs.Ytfabdodkjohldaa
open Go.RowKit
theorem zv_toNat {zs : List Int} (h : allCp zs = true) : iv (zs.map Int.toNat) = zv zs := by
  have h2 := List.all_eq_true.1 h
  simp only [iv, zv, List.map_map]
  refine List.map_congr_left fun z hz => ?_
  have := cp_range_int (h2 z hz)
  show Value.int .i64 ((z.toNat : Nat) : Int) = _
  rw [show ((z.toNat : Nat) : Int) = z from by omega]
theorem cp_toNat {zs : List Int} (h : allCp zs = true) : ∀ r ∈ zs.map Int.toNat, cp (r : Int) = true := by
  intro r hr
  obtain ⟨z, hz, rfl⟩ := List.mem_map.1 hr
  have h2 := List.all_eq_true.1 h z hz
  have := cp_range_int h2
  rw [show ((z.toNat : Nat) : Int) = z from by omega]; exact h2
theorem allCp_nat {xs : List Nat} (h : ∀ r ∈ xs, cp (r : Int) = true) : allCp (xs.map Int.ofNat) = true := by
  refine List.all_eq_true.2 fun z hz => ?_
  obtain ⟨r, hr, rfl⟩ := List.mem_map.1 hz
  exact h r hr
theorem toNat_ofNat_map (xs : List Nat) : (xs.map Int.ofNat).map Int.toNat = xs := by
  rw [List.map_map]
  conv => rhs; rw [← List.map_id xs]
  exact List.map_congr_left fun r _ => by simp
/-- FromRunes of code points that were read. -/
theorem from_back (A : Option Addr) (c : Nat) (xs : List Nat) (B : Nat) (w : World) (hr : Rd w B A (iv xs)) (hB : B ≤ w.heap.size) (hlen : xs.length ≤ 16777216) (hcp : ∀ r ∈ xs, cp (r : Int) = true) (s : ByteArray) (hs : encs xs = s.data.toList) :
    Calls Try.prog 21 #[.slice A xs.length c] w fun e w' => e = .returned (.tuple #[.string s, .bool true]) ∧ Below w.heap.size w w' := by
  have h := from_any A c (xs.map Int.ofNat) B w (by rw [← iv_zv]; exact hr) hB (by simpa using hlen)
  rw [List.length_map, frV_true (allCp_nat hcp), toNat_ofNat_map, hs] at h
  exact h
/-- Runes of the encodings of code points. -/
theorem runes_back (zs : List Int) (h : allCp zs = true) (hlen : zs.length ≤ 200) (w : World) :
    Calls Try.prog 14 #[.string ⟨(encs (zs.map Int.toNat)).toArray⟩] w fun e w' => ∃ A c, e = .returned (.tuple #[.slice A zs.length c, .bool true]) ∧ Rd w' w'.heap.size A (zv zs) ∧ Below w.heap.size w w' := by
  have hl := (encs_len (zs.map Int.toNat)).2
  rw [List.length_map] at hl
  have h1 := runes_any ⟨(encs (zs.map Int.toNat)).toArray⟩ (by rw [arr_size]; omega) w
  have h2 := runes_some_of h1 (zs.map Int.toNat) (runes_encs (cp_toNat h))
  rw [List.length_map] at h2
  simp only [zv_toNat h] at h2
  exact h2
theorem val_back (zs : List Int) (h : allCp zs = true) (hlen : zs.length ≤ 200) (w : World) :
    Calls Try.prog 16 #[.string ⟨(encs (zs.map Int.toNat)).toArray⟩] w fun e w' => e = .returned (.bool true) ∧ w = w' := by
  have hl := (encs_len (zs.map Int.toNat)).2
  rw [List.length_map] at hl
  have h1 := val_any ⟨(encs (zs.map Int.toNat)).toArray⟩ (by rw [arr_size]; unfold maxLen; omega) w
  rw [show runes ((⟨(encs (zs.map Int.toNat)).toArray⟩ : ByteArray).data.toList) = some (zs.map Int.toNat) from runes_encs (cp_toNat h)] at h1
  exact h1
theorem ints_same (A B : Option Addr) (c d : Nat) (us : List Int) (BA BB : Nat) (w : World) (ha : Rd w BA A (zv us)) (hb : Rd w BB B (zv us)) (hla : us.length ≤ maxLen) :
    Calls Try.prog 18 #[.slice A us.length c, .slice B us.length d] w fun e w' => e = .returned (.bool true) ∧ Below w.heap.size w w' := by
  have h := ints_any A B c d us us BA BB w ha hb hla
  rw [decide_eq_true (p := us = us) rfl] at h
  exact h
set_option maxRecDepth 100000 in
set_option maxHeartbeats 2000000 in
theorem trip_ff (s : ByteArray) (A : Option Addr) (c : Nat) (zs : List Int) (w : World) (hs : s.size ≤ 200) (hz : zs.length ≤ 100) (hr : Rd w w.heap.size A (zv zs)) (hd : allCp zs = false) (hy : runes s.data.toList = none) :
    Calls Try.prog 6 #[.string s, .slice A zs.length c] w fun e w' => e = .returned (.bool true) ∧ Below w.heap.size w w' := by
  have hR := Lib.hid hr
  have hY := Lib.hid hy
  have hD := Lib.hid hd
  have hs1 : Hid (s.size ≤ 1048576) := Lib.hid (by omega)
  have hs2 : Hid (s.size ≤ maxLen) := Lib.hid (by unfold maxLen; omega)
  have hF : Hid (frV zs = .tuple #[.string ⟨#[]⟩, .bool false]) := Lib.hid (frV_false hd)
  clear hr hy hd
  go_enter Try.func6, Try.ntmps6
  go_wp2_with fail
  refine (from_any A c zs w.heap.size _ hR.out (Nat.le_refl _) (by omega)).mono ?_
  rintro e w1 ⟨rfl, hb1⟩
  rw [hF.out]
  go_wp2_with fail
  have hb := hb1
  clear hb1
  refine (runes_none_of (runes_any s hs1.out _) hY.out).mono ?_
  rintro e w5 ⟨rfl, hb5⟩
  have hB := chain hb hb5
  clear hb hb5
  go_wp2_with fail
  refine (val_false s hs2.out hY.out _).mono ?_
  rintro e w' ⟨rfl, rfl⟩
  go_wp2_with (go_at_call 9; refine (awake_any _).mono ?_; rintro e w' ⟨rfl, rfl⟩)
  go_ret
  exact ⟨rfl, hB⟩
set_option maxRecDepth 100000 in
set_option maxHeartbeats 2000000 in
theorem trip_fs (s : ByteArray) (A : Option Addr) (c : Nat) (zs : List Int) (w : World) (hs : s.size ≤ 200) (hz : zs.length ≤ 100) (hr : Rd w w.heap.size A (zv zs)) (hd : allCp zs = false) (ys : List Nat) (hy : runes s.data.toList = some ys) :
    Calls Try.prog 6 #[.string s, .slice A zs.length c] w fun e w' => e = .returned (.bool true) ∧ Below w.heap.size w w' := by
  have hR := Lib.hid hr
  have hY := Lib.hid hy
  have hD := Lib.hid hd
  have hs1 : Hid (s.size ≤ 1048576) := Lib.hid (by omega)
  have hs2 : Hid (s.size ≤ maxLen) := Lib.hid (by unfold maxLen; omega)
  have hF : Hid (frV zs = .tuple #[.string ⟨#[]⟩, .bool false]) := Lib.hid (frV_false hd)
  have hEn := Lib.hid (encs_runes _ _ (Nat.le_refl _) ys hy)
  have hyl : Hid (ys.length ≤ 16777216) := Lib.hid (by have h1 := runes_length hy; simp at h1; omega)
  clear hr hy hd
  go_enter Try.func6, Try.ntmps6
  go_wp2_with fail
  refine (from_any A c zs w.heap.size _ hR.out (Nat.le_refl _) (by omega)).mono ?_
  rintro e w1 ⟨rfl, hb1⟩
  rw [hF.out]
  go_wp2_with fail
  have hb := hb1
  clear hb1
  refine (runes_some_of (runes_any s hs1.out _) ys hY.out).mono ?_
  rintro e w5 ⟨A5, c5, rfl, hr5, hb5⟩
  have HR5 := Lib.hid hr5
  have hB := chain hb hb5
  clear hr5 hb hb5
  go_wp2_with fail
  refine (from_back A5 c5 ys _ _ HR5.out (Nat.le_refl _) hyl.out hEn.out.2 s hEn.out.1).mono ?_
  rintro e w6 ⟨rfl, hb6⟩
  have hB2 := chain hB hb6
  clear hB hb6
  go_wp2_with (go_at_call 9; refine (awake_any _).mono ?_; rintro e w' ⟨rfl, rfl⟩)
  go_ret
  exact ⟨rfl, hB2⟩
set_option maxRecDepth 100000 in
set_option maxHeartbeats 2000000 in
theorem trip_tf (s : ByteArray) (A : Option Addr) (c : Nat) (zs : List Int) (w : World) (hs : s.size ≤ 200) (hz : zs.length ≤ 100) (hr : Rd w w.heap.size A (zv zs)) (hd : allCp zs = true) (hy : runes s.data.toList = none) :
    Calls Try.prog 6 #[.string s, .slice A zs.length c] w fun e w' => e = .returned (.bool true) ∧ Below w.heap.size w w' := by
  have hR := Lib.hid hr
  have hY := Lib.hid hy
  have hD := Lib.hid hd
  have hs1 : Hid (s.size ≤ 1048576) := Lib.hid (by omega)
  have hs2 : Hid (s.size ≤ maxLen) := Lib.hid (by unfold maxLen; omega)
  have hF : Hid (frV zs = .tuple #[.string ⟨(encs (zs.map Int.toNat)).toArray⟩, .bool true]) := Lib.hid (frV_true hd)
  clear hr hy hd
  go_enter Try.func6, Try.ntmps6
  go_wp2_with fail
  refine (from_any A c zs w.heap.size _ hR.out (Nat.le_refl _) (by omega)).mono ?_
  rintro e w1 ⟨rfl, hb1⟩
  rw [hF.out]
  go_wp2_with fail
  refine (runes_back zs hD.out (by omega) _).mono ?_
  rintro e w2 ⟨A2, c2, rfl, hr2, hb2⟩
  have HR2 := Lib.hid hr2
  clear hr2
  go_wp2_with fail
  refine (ints_same A2 A c2 c zs _ _ _ HR2.out ((hR.out.below hb1 (Nat.le_refl _)).below hb2 hb1.size) (by unfold maxLen; omega)).mono ?_
  rintro e w3 ⟨rfl, hb3⟩
  go_wp2_with fail
  refine (val_back zs hD.out (by omega) _).mono ?_
  rintro e w' ⟨rfl, rfl⟩
  go_wp2_with fail
  have hb := chain hb1 (chain hb2 hb3)
  clear hb1 hb2 hb3
  refine (runes_none_of (runes_any s hs1.out _) hY.out).mono ?_
  rintro e w5 ⟨rfl, hb5⟩
  have hB := chain hb hb5
  clear hb hb5
  go_wp2_with fail
  refine (val_false s hs2.out hY.out _).mono ?_
  rintro e w' ⟨rfl, rfl⟩
  go_wp2_with (go_at_call 9; refine (awake_any _).mono ?_; rintro e w' ⟨rfl, rfl⟩)
  go_ret
  exact ⟨rfl, hB⟩
set_option maxRecDepth 100000 in
set_option maxHeartbeats 2000000 in
theorem trip_ts (s : ByteArray) (A : Option Addr) (c : Nat) (zs : List Int) (w : World) (hs : s.size ≤ 200) (hz : zs.length ≤ 100) (hr : Rd w w.heap.size A (zv zs)) (hd : allCp zs = true) (ys : List Nat) (hy : runes s.data.toList = some ys) :
    Calls Try.prog 6 #[.string s, .slice A zs.length c] w fun e w' => e = .returned (.bool true) ∧ Below w.heap.size w w' := by
  have hR := Lib.hid hr
  have hY := Lib.hid hy
  have hD := Lib.hid hd
  have hs1 : Hid (s.size ≤ 1048576) := Lib.hid (by omega)
  have hs2 : Hid (s.size ≤ maxLen) := Lib.hid (by unfold maxLen; omega)
  have hF : Hid (frV zs = .tuple #[.string ⟨(encs (zs.map Int.toNat)).toArray⟩, .bool true]) := Lib.hid (frV_true hd)
  have hEn := Lib.hid (encs_runes _ _ (Nat.le_refl _) ys hy)
  have hyl : Hid (ys.length ≤ 16777216) := Lib.hid (by have h1 := runes_length hy; simp at h1; omega)
  clear hr hy hd
  go_enter Try.func6, Try.ntmps6
  go_wp2_with fail
  refine (from_any A c zs w.heap.size _ hR.out (Nat.le_refl _) (by omega)).mono ?_
  rintro e w1 ⟨rfl, hb1⟩
  rw [hF.out]
  go_wp2_with fail
  refine (runes_back zs hD.out (by omega) _).mono ?_
  rintro e w2 ⟨A2, c2, rfl, hr2, hb2⟩
  have HR2 := Lib.hid hr2
  clear hr2
  go_wp2_with fail
  refine (ints_same A2 A c2 c zs _ _ _ HR2.out ((hR.out.below hb1 (Nat.le_refl _)).below hb2 hb1.size) (by unfold maxLen; omega)).mono ?_
  rintro e w3 ⟨rfl, hb3⟩
  go_wp2_with fail
  refine (val_back zs hD.out (by omega) _).mono ?_
  rintro e w' ⟨rfl, rfl⟩
  go_wp2_with fail
  have hb := chain hb1 (chain hb2 hb3)
  clear hb1 hb2 hb3
  refine (runes_some_of (runes_any s hs1.out _) ys hY.out).mono ?_
  rintro e w5 ⟨A5, c5, rfl, hr5, hb5⟩
  have HR5 := Lib.hid hr5
  have hB := chain hb hb5
  clear hr5 hb hb5
  go_wp2_with fail
  refine (from_back A5 c5 ys _ _ HR5.out (Nat.le_refl _) hyl.out hEn.out.2 s hEn.out.1).mono ?_
  rintro e w6 ⟨rfl, hb6⟩
  have hB2 := chain hB hb6
  clear hB hb6
  go_wp2_with (go_at_call 9; refine (awake_any _).mono ?_; rintro e w' ⟨rfl, rfl⟩)
  go_ret
  exact ⟨rfl, hB2⟩
theorem trip_walk (s : ByteArray) (A : Option Addr) (c : Nat) (zs : List Int) (hs : s.size ≤ maxLen) (w : World) (hr : Rd w w.heap.size A (zv zs)) (hzm : zs.length ≤ maxLen) :
    Calls Try.prog 6 #[.string s, .slice A zs.length c] w fun e w' => e = .returned (.bool true) ∧ Below w.heap.size w w' := by
  by_cases hbig : 200 < s.size
  · unfold maxLen at hs hzm
    clear hr
    go_enter Try.func6, Try.ntmps6
    go_wp2_with (go_at_call 9; refine (awake_any _).mono ?_; rintro e w' ⟨rfl, rfl⟩)
    go_ret
    exact ⟨rfl, Below.refl _ _⟩
  by_cases hbig2 : 100 < zs.length
  · unfold maxLen at hs hzm
    clear hr
    go_enter Try.func6, Try.ntmps6
    go_wp2_with (go_at_call 9; refine (awake_any _).mono ?_; rintro e w' ⟨rfl, rfl⟩)
    go_ret
    exact ⟨rfl, Below.refl _ _⟩
  cases hd : allCp zs with
  | false =>
    cases hy : runes s.data.toList with
    | none => exact trip_ff s A c zs w (by omega) (by omega) hr hd hy
    | some ys => exact trip_fs s A c zs w (by omega) (by omega) hr hd ys hy
  | true =>
    cases hy : runes s.data.toList with
    | none => exact trip_tf s A c zs w (by omega) (by omega) hr hd hy
    | some ys => exact trip_ts s A c zs w (by omega) (by omega) hr hd ys hy
end Go.Proofs.Ytfabdodkjohldaa

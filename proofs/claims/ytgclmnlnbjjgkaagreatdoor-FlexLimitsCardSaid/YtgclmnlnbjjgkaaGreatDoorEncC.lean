/- The contracts of the reference's Encode and FromRunes. -/
import Derived.Test.YtgclmnlnbjjgkaaGreatDoorEncB
set_option linter.unusedVariables false
set_option linter.unusedSimpArgs false
namespace Go.Proofs.YtgclmnlnbjjgkaaGreatDoor
open Go.RowKit
theorem zand63 (z : Int) (h0 : 0 ≤ z) (h1 : z < 4294967296) : bits .and .i64 z 63 = z % 64 := by
  obtain ⟨r, rfl⟩ := Int.eq_ofNat_of_zero_le h0
  rw [and63 r (by omega)]; omega
theorem zor (k a : Nat) (z : Int) (hk : k ≤ 8) (ha : a < 256) (h0 : 0 ≤ z) (h1 : z < ((2 ^ k : Nat) : Int)) : bits .or .i64 ((2 ^ k * a : Nat) : Int) z = ((2 ^ k * a : Nat) : Int) + z := by
  obtain ⟨r, rfl⟩ := Int.eq_ofNat_of_zero_le h0
  rw [i64or k a r hk ha (by omega)]; omega
theorem zor192 (z : Int) (h0 : 0 ≤ z) (h1 : z < 64) : bits .or .i64 192 z = 192 + z := zor 6 3 z (by omega) (by omega) h0 h1
theorem zor224 (z : Int) (h0 : 0 ≤ z) (h1 : z < 32) : bits .or .i64 224 z = 224 + z := zor 5 7 z (by omega) (by omega) h0 h1
theorem zor240 (z : Int) (h0 : 0 ≤ z) (h1 : z < 16) : bits .or .i64 240 z = 240 + z := zor 4 15 z (by omega) (by omega) h0 h1
theorem zor128 (z : Int) (h0 : 0 ≤ z) (h1 : z < 128) : bits .or .i64 128 z = 128 + z := zor 7 1 z (by omega) (by omega) h0 h1
def EncPost (z : Int) (w : World) (e : Ending) (w' : World) : Prop :=
  match cp z with
  | false => e = .returned (.tuple #[.slice none 0 0, .bool false]) ∧ w = w'
  | true => e = .returned (.tuple #[.slice (some ⟨w.heap.size, 0, none⟩) (enc z.toNat).length (enc z.toNat).length, .bool true]) ∧ w' = w.alloc (.cells (bv (enc z.toNat)).toArray 5)
theorem sz_val (z : Int) (hc : cp z = true) : sz z = (enc z.toNat).length := by
  have h := cp_range_int hc
  have e := sz_enc (r := z.toNat) (by rw [show ((z.toNat : Nat) : Int) = z from by omega]; exact hc)
  rw [show ((z.toNat : Nat) : Int) = z from by omega] at e
  exact e
set_option maxRecDepth 100000 in
set_option maxHeartbeats 1000000 in
theorem renc_1 (r : Int) (hc : cp r = true) (h0 : 0 ≤ r) (h1 : r < 128) (w : World) :
    Calls Tryz.prog 67 #[.int .i64 r] w fun e w' => EncPost r w e w' := by
  have he : enc r.toNat = [UInt8.ofNat r.toNat] := by
    unfold enc; rw [if_pos (by omega)]
  have hl : Hid (([.int .u8 (r)] : List Value) = bv (enc r.toNat)) := Lib.hid (by
    rw [he]
    simp only [bv, List.map_cons, List.map_nil]
    rw [u8v (n := r.toNat) (z := r) (by omega) (by omega)])
  have hk : Hid ((enc r.toNat).length = 1) := Lib.hid (by rw [he]; rfl)
  have hsz : sz r = 1 := by rw [sz_val r hc, hk.out]
  have hs1 : (((sz r : Nat) : Int) == 1) = true := by rw [hsz]; rfl
  have HC := Lib.hid hc

  clear he hsz hc
  go_enter Tryz.func67, Tryz.ntmps67
  go_wp2_with (go_at_call 80; refine (size_any _ _).mono ?_; rintro e w' ⟨rfl, rfl⟩)
  go_ret2
  unfold EncPost
  rw [HC.out]
  simp only []
  rw [hk.out, ← hl.out]
  exact ⟨rfl, rfl⟩
set_option maxRecDepth 100000 in
set_option maxHeartbeats 1000000 in
theorem renc_2 (r : Int) (hc : cp r = true) (h1 : 128 ≤ r) (h2 : r < 2048) (w : World) :
    Calls Tryz.prog 67 #[.int .i64 r] w fun e w' => EncPost r w e w' := by
  have he : enc r.toNat = [UInt8.ofNat (192 + r.toNat / 64), UInt8.ofNat (128 + r.toNat % 64)] := by
    unfold enc; rw [if_neg (by omega), if_pos (by omega)]
  have hl : Hid (([.int .u8 (192 + r / 64), .int .u8 (128 + r % 64)] : List Value) = bv (enc r.toNat)) := Lib.hid (by
    rw [he]
    simp only [bv, List.map_cons, List.map_nil]
    rw [u8v (n := 192 + r.toNat / 64) (z := 192 + r / 64) (by omega) (by omega), u8v (n := 128 + r.toNat % 64) (z := 128 + r % 64) (by omega) (by omega)])
  have hk : Hid ((enc r.toNat).length = 2) := Lib.hid (by rw [he]; rfl)
  have hsz : sz r = 2 := by rw [sz_val r hc, hk.out]
  have hs1 : (((sz r : Nat) : Int) == 1) = false := by rw [hsz]; rfl
  have hs2 : (((sz r : Nat) : Int) == 2) = true := by rw [hsz]; rfl
  have HC := Lib.hid hc
  have f1 := zand63 r (by omega) (by omega)
  have f2 := zor192 (r / 64) (by omega) (by omega)
  have f3 := zor128 (r % 64) (by omega) (by omega)
  clear he hsz hc
  go_enter Tryz.func67, Tryz.ntmps67
  go_wp2_with (go_at_call 80; refine (size_any _ _).mono ?_; rintro e w' ⟨rfl, rfl⟩)
  go_ret2
  unfold EncPost
  rw [HC.out]
  simp only []
  rw [hk.out, ← hl.out]
  exact ⟨rfl, rfl⟩
set_option maxRecDepth 100000 in
set_option maxHeartbeats 1000000 in
theorem renc_3 (r : Int) (hc : cp r = true) (h2 : 2048 ≤ r) (h3 : r < 65536) (w : World) :
    Calls Tryz.prog 67 #[.int .i64 r] w fun e w' => EncPost r w e w' := by
  have he : enc r.toNat = [UInt8.ofNat (224 + r.toNat / 4096), UInt8.ofNat (128 + r.toNat / 64 % 64), UInt8.ofNat (128 + r.toNat % 64)] := by
    unfold enc; rw [if_neg (by omega), if_neg (by omega), if_pos (by omega)]
  have hl : Hid (([.int .u8 (224 + r / 4096), .int .u8 (128 + r / 64 % 64), .int .u8 (128 + r % 64)] : List Value) = bv (enc r.toNat)) := Lib.hid (by
    rw [he]
    simp only [bv, List.map_cons, List.map_nil]
    rw [u8v (n := 224 + r.toNat / 4096) (z := 224 + r / 4096) (by omega) (by omega), u8v (n := 128 + r.toNat / 64 % 64) (z := 128 + r / 64 % 64) (by omega) (by omega), u8v (n := 128 + r.toNat % 64) (z := 128 + r % 64) (by omega) (by omega)])
  have hk : Hid ((enc r.toNat).length = 3) := Lib.hid (by rw [he]; rfl)
  have hsz : sz r = 3 := by rw [sz_val r hc, hk.out]
  have hs1 : (((sz r : Nat) : Int) == 1) = false := by rw [hsz]; rfl
  have hs2 : (((sz r : Nat) : Int) == 2) = false := by rw [hsz]; rfl
  have hs3 : (((sz r : Nat) : Int) == 3) = true := by rw [hsz]; rfl
  have HC := Lib.hid hc
  have f1 := zand63 r (by omega) (by omega)
  have f2 := zor224 (r / 4096) (by omega) (by omega)
  have f3 := zor128 (r % 64) (by omega) (by omega)
  have f4 := zand63 (r / 64) (by omega) (by omega)
  have f5 := zor128 (r / 64 % 64) (by omega) (by omega)
  clear he hsz hc
  go_enter Tryz.func67, Tryz.ntmps67
  go_wp2_with (go_at_call 80; refine (size_any _ _).mono ?_; rintro e w' ⟨rfl, rfl⟩)
  go_ret2
  unfold EncPost
  rw [HC.out]
  simp only []
  rw [hk.out, ← hl.out]
  exact ⟨rfl, rfl⟩
set_option maxRecDepth 100000 in
set_option maxHeartbeats 1000000 in
theorem renc_4 (r : Int) (hc : cp r = true) (h3 : 65536 ≤ r) (hr : r ≤ 1114111) (w : World) :
    Calls Tryz.prog 67 #[.int .i64 r] w fun e w' => EncPost r w e w' := by
  have he : enc r.toNat = [UInt8.ofNat (240 + r.toNat / 262144), UInt8.ofNat (128 + r.toNat / 4096 % 64), UInt8.ofNat (128 + r.toNat / 64 % 64), UInt8.ofNat (128 + r.toNat % 64)] := by
    unfold enc; rw [if_neg (by omega), if_neg (by omega), if_neg (by omega)]
  have hl : Hid (([.int .u8 (240 + r / 262144), .int .u8 (128 + r / 4096 % 64), .int .u8 (128 + r / 64 % 64), .int .u8 (128 + r % 64)] : List Value) = bv (enc r.toNat)) := Lib.hid (by
    rw [he]
    simp only [bv, List.map_cons, List.map_nil]
    rw [u8v (n := 240 + r.toNat / 262144) (z := 240 + r / 262144) (by omega) (by omega), u8v (n := 128 + r.toNat / 4096 % 64) (z := 128 + r / 4096 % 64) (by omega) (by omega), u8v (n := 128 + r.toNat / 64 % 64) (z := 128 + r / 64 % 64) (by omega) (by omega), u8v (n := 128 + r.toNat % 64) (z := 128 + r % 64) (by omega) (by omega)])
  have hk : Hid ((enc r.toNat).length = 4) := Lib.hid (by rw [he]; rfl)
  have hsz : sz r = 4 := by rw [sz_val r hc, hk.out]
  have hs1 : (((sz r : Nat) : Int) == 1) = false := by rw [hsz]; rfl
  have hs2 : (((sz r : Nat) : Int) == 2) = false := by rw [hsz]; rfl
  have hs3 : (((sz r : Nat) : Int) == 3) = false := by rw [hsz]; rfl
  have hs4 : (((sz r : Nat) : Int) == 4) = true := by rw [hsz]; rfl
  have HC := Lib.hid hc
  have f1 := zand63 r (by omega) (by omega)
  have f2 := zor240 (r / 262144) (by omega) (by omega)
  have f3 := zor128 (r % 64) (by omega) (by omega)
  have f4 := zand63 (r / 64) (by omega) (by omega)
  have f5 := zor128 (r / 64 % 64) (by omega) (by omega)
  have f6 := zand63 (r / 4096) (by omega) (by omega)
  have f7 := zor128 (r / 4096 % 64) (by omega) (by omega)
  clear he hsz hc
  go_enter Tryz.func67, Tryz.ntmps67
  go_wp2_with (go_at_call 80; refine (size_any _ _).mono ?_; rintro e w' ⟨rfl, rfl⟩)
  go_ret2
  unfold EncPost
  rw [HC.out]
  simp only []
  rw [hk.out, ← hl.out]
  exact ⟨rfl, rfl⟩
set_option maxRecDepth 100000 in
set_option maxHeartbeats 1000000 in
theorem renc_no (r : Int) (hc : cp r = false) (w : World) :
    Calls Tryz.prog 67 #[.int .i64 r] w fun e w' => EncPost r w e w' := by
  have hsz : sz r = 0 := by unfold sz; rw [if_pos hc]
  have hs1 : (((sz r : Nat) : Int) == 1) = false := by rw [hsz]; rfl
  have hs2 : (((sz r : Nat) : Int) == 2) = false := by rw [hsz]; rfl
  have hs3 : (((sz r : Nat) : Int) == 3) = false := by rw [hsz]; rfl
  have hs4 : (((sz r : Nat) : Int) == 4) = false := by rw [hsz]; rfl
  have HC := Lib.hid hc
  clear hsz hc
  go_enter Tryz.func67, Tryz.ntmps67
  go_wp2_with (go_at_call 80; refine (size_any _ _).mono ?_; rintro e w' ⟨rfl, rfl⟩)
  go_ret2
  unfold EncPost
  rw [HC.out]
  exact ⟨rfl, rfl⟩
theorem renc_any (r : Int) (w : World) : Calls Tryz.prog 67 #[.int .i64 r] w fun e w' => EncPost r w e w' := by
  cases hc : cp r with
  | false => exact renc_no r hc w
  | true =>
    have h := cp_range_int hc
    by_cases h1 : r < 128
    · exact renc_1 r hc h.1 h1 w
    by_cases h2 : r < 2048
    · exact renc_2 r hc (by omega) h2 w
    by_cases h3 : r < 65536
    · exact renc_3 r hc (by omega) h3 w
    · exact renc_4 r hc (by omega) h.2 w
theorem renc_true (r : Int) (hc : cp r = true) (w : World) : Calls Tryz.prog 67 #[.int .i64 r] w fun e w' =>
    e = .returned (.tuple #[.slice (some ⟨w.heap.size, 0, none⟩) (enc r.toNat).length (enc r.toNat).length, .bool true]) ∧ w' = w.alloc (.cells (bv (enc r.toNat)).toArray 5) := by
  refine (renc_any r w).mono fun e w' h => ?_
  unfold EncPost at h; rw [hc] at h; exact h
end Go.Proofs.YtgclmnlnbjjgkaaGreatDoor

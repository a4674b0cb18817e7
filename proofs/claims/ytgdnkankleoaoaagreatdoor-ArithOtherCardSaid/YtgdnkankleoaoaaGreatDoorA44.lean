/- The contracts of the functions that append encodings. The contracts of FromRunes. The contracts of the reference's Encode and FromRunes. The texts of errors: the program's and the reference's. The reference's Get. ValueGet answers true for every value and every key. The wrap of a law whose row lists variables, the world's shape kept. Nothing of the program is named here. The last step of a law's row: the call has answered true, and nothing that was there has changed. Nothing of the program is named here. -/
import Derived.Test.YtgdnkankleoaoaaGreatDoorA04
import Derived.Test.YtgdnkankleoaoaaGreatDoorA42
import Derived.Test.YtgdnkankleoaoaaGreatDoorA03
import Derived.Test.YtgdnkankleoaoaaGreatDoorA41
import Derived.Test.YtgdnkankleoaoaaGreatDoorA16
import Derived.Test.YtgdnkankleoaoaaGreatDoorA37
import Derived.SizedLaws
import Derived.Handed
import Derived.HandedShaped
import Derived.Test.YtgdnkankleoaoaaGreatDoorA01
import Derived.WalkKit
import Derived.ProofKit
import Derived.OpenShut
import Derived.Carry
import Derived.KernelRfl
set_option linter.unusedVariables false
set_option linter.unusedSimpArgs false
namespace Go.Proofs.YtgdnkankleoaoaaGreatDoor
open Go.RowKit
/-- Bytes as values. -/
def bv (l : List UInt8) : List Value := l.map fun b => Value.int .u8 (b.toNat : Int)
theorem u8v {n : Nat} {z : Int} (h : n < 256) (hz : z = n) : Value.int .u8 z = Value.int .u8 ((UInt8.ofNat n).toNat : Int) := by
  rw [toNat_ofNat h, hz]
/-- What an append onto a row of the call's own leaves. -/
def AppPost (B : Nat) (base : Nat) (n : Nat) (xs : List Value) (w : World) (e : Ending) (w' : World) : Prop :=
  ∃ v', e = .returned v' ∧ w'.ownsRow base 5 1 v' n xs ∧ Below B w w' 
theorem AppPost.mk {B base n : Nat} {xs : List Value} {w w' : World} {e : Ending} {v' : Value} (he : e = .returned v') (ho : w'.ownsRow base 5 1 v' n xs) (hb : Below B w w') : AppPost B base n xs w e w' := ⟨v', he, ho, hb⟩
end Go.Proofs.YtgdnkankleoaoaaGreatDoor
namespace Go.Proofs.YtgdnkankleoaoaaGreatDoor
open Go.RowKit
theorem conv_nil {P : Program} (w : World) (src dst e : TypeId) (c : Nat) (hs : P.underlying src = some (.slice e)) (he : P.underlying e = some (.int .u8)) (hd : P.underlying dst = some .string) :
    (convert src dst (.slice none 0 c)).run P w = .ok (.string ⟨#[]⟩) w := by
  rw [run_convert_bytes_string w src dst e none 0 c hs he hd]
  simp [Conv.bytesToString]; rfl
theorem conv_rd {P : Program} {w : World} {B : Nat} {A : Option Addr} {l : List UInt8} (h : Rd w B A (bv l)) (src dst e : TypeId) (c : Nat) (hs : P.underlying src = some (.slice e)) (he : P.underlying e = some (.int .u8)) (hd : P.underlying dst = some .string) :
    (convert src dst (.slice A l.length c)).run P w = .ok (.string ⟨l.toArray⟩) w := by
  cases A with
  | none =>
    cases l with
    | nil => exact conv_nil w src dst e c hs he hd
    | cons b t => obtain ⟨b1, o, h1, _⟩ := h 0 (.int .u8 b.toNat) (by simp [bv]); cases h1
  | some a =>
    refine run_convert_bytes_back w src dst e a c l hs he hd fun j hj => ?_
    obtain ⟨b, o, h1, _, h2⟩ := h j (.int .u8 l[j].toNat) (by simp [bv, hj])
    injection h1 with h1
    subst h1
    have h3 : ((⟨b, o, none⟩ : Addr).add j) = ⟨b, o + j, none⟩ := by
      unfold Addr.add
      by_cases h : j = 0 <;> simp [h]
    rw [h3, h2]
/-- The encodings of the first k elements. -/
def pre (zs : List Int) (k : Nat) : List UInt8 := encs ((zs.take k).map Int.toNat)
theorem cp_range_int {z : Int} (h : cp z = true) : 0 ≤ z ∧ z ≤ 1114111 := by
  unfold cp at h; simp at h; omega
end Go.Proofs.YtgdnkankleoaoaaGreatDoor
namespace Go.Proofs.YtgdnkankleoaoaaGreatDoor
open Go.RowKit
theorem zand63 (z : Int) (h0 : 0 ≤ z) (h1 : z < 4294967296) : bits .and .i64 z 63 = z % 64 := by
  obtain ⟨r, rfl⟩ := Int.eq_ofNat_of_zero_le h0
  rw [and63 r (by omega)]; omega
theorem zor (k a : Nat) (z : Int) (hk : k ≤ 8) (ha : a < 256) (h0 : 0 ≤ z) (h1 : z < ((2 ^ k : Nat) : Int)) : bits .or .i64 ((2 ^ k * a : Nat) : Int) z = ((2 ^ k * a : Nat) : Int) + z := by
  obtain ⟨r, rfl⟩ := Int.eq_ofNat_of_zero_le h0
  rw [i64or k a r hk ha (by omega)]; omega
theorem zor192 (z : Int) (h0 : 0 ≤ z) (h1 : z < 64) : bits .or .i64 192 z = 192 + z := zor 6 3 z (by omega) (by omega) h0 h1
theorem zor224 (z : Int) (h0 : 0 ≤ z) (h1 : z < 32) : bits .or .i64 224 z = 224 + z := zor 5 7 z (by omega) (by omega) h0 h1
theorem zor240 (z : Int) (h0 : 0 ≤ z) (h1 : z < 16) : bits .or .i64 240 z = 240 + z := zor 4 15 z (by omega) (by omega) h0 h1
theorem zor128 (z : Int) (h0 : 0 ≤ z) (h1 : z < 128) : bits .or .i64 128 z = 128 + z := zor 7 1 z (by omega) (by omega) h0 h1
def EncPost (z : Int) (w : World) (e : Ending) (w' : World) : Prop :=
  match cp z with
  | false => e = .returned (.tuple #[.slice none 0 0, .bool false]) ∧ w = w'
  | true => e = .returned (.tuple #[.slice (some ⟨w.heap.size, 0, none⟩) (enc z.toNat).length (enc z.toNat).length, .bool true]) ∧ w' = w.alloc (.cells (bv (enc z.toNat)).toArray 5)
theorem sz_val (z : Int) (hc : cp z = true) : sz z = (enc z.toNat).length := by
  have h := cp_range_int hc
  have e := sz_enc (r := z.toNat) (by rw [show ((z.toNat : Nat) : Int) = z from by omega]; exact hc)
  rw [show ((z.toNat : Nat) : Int) = z from by omega] at e
  exact e
set_option maxRecDepth 100000 in
set_option maxHeartbeats 1000000 in
theorem renc_1 (r : Int) (hc : cp r = true) (h0 : 0 ≤ r) (h1 : r < 128) (w : World) :
    Calls Tryz.prog 129 #[.int .i64 r] w fun e w' => EncPost r w e w' := by
  have he : enc r.toNat = [UInt8.ofNat r.toNat] := by
    unfold enc; rw [if_pos (by omega)]
  have hl : Hid (([.int .u8 (r)] : List Value) = bv (enc r.toNat)) := Lib.hid (by
    rw [he]
    simp only [bv, List.map_cons, List.map_nil]
    rw [u8v (n := r.toNat) (z := r) (by omega) (by omega)])
  have hk : Hid ((enc r.toNat).length = 1) := Lib.hid (by rw [he]; rfl)
  have hsz : sz r = 1 := by rw [sz_val r hc, hk.out]
  have hs1 : (((sz r : Nat) : Int) == 1) = true := by rw [hsz]; rfl
  have HC := Lib.hid hc

  clear he hsz hc
  go_enter Tryz.func129, Tryz.ntmps129
  go_wp2_with (go_at_call 202; refine (size_any _ _).mono ?_; rintro e w' ⟨rfl, rfl⟩)
  go_ret2
  unfold EncPost
  rw [HC.out]
  simp only []
  rw [hk.out, ← hl.out]
  exact ⟨rfl, rfl⟩
set_option maxRecDepth 100000 in
set_option maxHeartbeats 1000000 in
theorem renc_2 (r : Int) (hc : cp r = true) (h1 : 128 ≤ r) (h2 : r < 2048) (w : World) :
    Calls Tryz.prog 129 #[.int .i64 r] w fun e w' => EncPost r w e w' := by
  have he : enc r.toNat = [UInt8.ofNat (192 + r.toNat / 64), UInt8.ofNat (128 + r.toNat % 64)] := by
    unfold enc; rw [if_neg (by omega), if_pos (by omega)]
  have hl : Hid (([.int .u8 (192 + r / 64), .int .u8 (128 + r % 64)] : List Value) = bv (enc r.toNat)) := Lib.hid (by
    rw [he]
    simp only [bv, List.map_cons, List.map_nil]
    rw [u8v (n := 192 + r.toNat / 64) (z := 192 + r / 64) (by omega) (by omega), u8v (n := 128 + r.toNat % 64) (z := 128 + r % 64) (by omega) (by omega)])
  have hk : Hid ((enc r.toNat).length = 2) := Lib.hid (by rw [he]; rfl)
  have hsz : sz r = 2 := by rw [sz_val r hc, hk.out]
  have hs1 : (((sz r : Nat) : Int) == 1) = false := by rw [hsz]; rfl
  have hs2 : (((sz r : Nat) : Int) == 2) = true := by rw [hsz]; rfl
  have HC := Lib.hid hc
  have f1 := zand63 r (by omega) (by omega)
  have f2 := zor192 (r / 64) (by omega) (by omega)
  have f3 := zor128 (r % 64) (by omega) (by omega)
  clear he hsz hc
  go_enter Tryz.func129, Tryz.ntmps129
  go_wp2_with (go_at_call 202; refine (size_any _ _).mono ?_; rintro e w' ⟨rfl, rfl⟩)
  go_ret2
  unfold EncPost
  rw [HC.out]
  simp only []
  rw [hk.out, ← hl.out]
  exact ⟨rfl, rfl⟩
set_option maxRecDepth 100000 in
set_option maxHeartbeats 1000000 in
theorem renc_3 (r : Int) (hc : cp r = true) (h2 : 2048 ≤ r) (h3 : r < 65536) (w : World) :
    Calls Tryz.prog 129 #[.int .i64 r] w fun e w' => EncPost r w e w' := by
  have he : enc r.toNat = [UInt8.ofNat (224 + r.toNat / 4096), UInt8.ofNat (128 + r.toNat / 64 % 64), UInt8.ofNat (128 + r.toNat % 64)] := by
    unfold enc; rw [if_neg (by omega), if_neg (by omega), if_pos (by omega)]
  have hl : Hid (([.int .u8 (224 + r / 4096), .int .u8 (128 + r / 64 % 64), .int .u8 (128 + r % 64)] : List Value) = bv (enc r.toNat)) := Lib.hid (by
    rw [he]
    simp only [bv, List.map_cons, List.map_nil]
    rw [u8v (n := 224 + r.toNat / 4096) (z := 224 + r / 4096) (by omega) (by omega), u8v (n := 128 + r.toNat / 64 % 64) (z := 128 + r / 64 % 64) (by omega) (by omega), u8v (n := 128 + r.toNat % 64) (z := 128 + r % 64) (by omega) (by omega)])
  have hk : Hid ((enc r.toNat).length = 3) := Lib.hid (by rw [he]; rfl)
  have hsz : sz r = 3 := by rw [sz_val r hc, hk.out]
  have hs1 : (((sz r : Nat) : Int) == 1) = false := by rw [hsz]; rfl
  have hs2 : (((sz r : Nat) : Int) == 2) = false := by rw [hsz]; rfl
  have hs3 : (((sz r : Nat) : Int) == 3) = true := by rw [hsz]; rfl
  have HC := Lib.hid hc
  have f1 := zand63 r (by omega) (by omega)
  have f2 := zor224 (r / 4096) (by omega) (by omega)
  have f3 := zor128 (r % 64) (by omega) (by omega)
  have f4 := zand63 (r / 64) (by omega) (by omega)
  have f5 := zor128 (r / 64 % 64) (by omega) (by omega)
  clear he hsz hc
  go_enter Tryz.func129, Tryz.ntmps129
  go_wp2_with (go_at_call 202; refine (size_any _ _).mono ?_; rintro e w' ⟨rfl, rfl⟩)
  go_ret2
  unfold EncPost
  rw [HC.out]
  simp only []
  rw [hk.out, ← hl.out]
  exact ⟨rfl, rfl⟩
set_option maxRecDepth 100000 in
set_option maxHeartbeats 1000000 in
theorem renc_4 (r : Int) (hc : cp r = true) (h3 : 65536 ≤ r) (hr : r ≤ 1114111) (w : World) :
    Calls Tryz.prog 129 #[.int .i64 r] w fun e w' => EncPost r w e w' := by
  have he : enc r.toNat = [UInt8.ofNat (240 + r.toNat / 262144), UInt8.ofNat (128 + r.toNat / 4096 % 64), UInt8.ofNat (128 + r.toNat / 64 % 64), UInt8.ofNat (128 + r.toNat % 64)] := by
    unfold enc; rw [if_neg (by omega), if_neg (by omega), if_neg (by omega)]
  have hl : Hid (([.int .u8 (240 + r / 262144), .int .u8 (128 + r / 4096 % 64), .int .u8 (128 + r / 64 % 64), .int .u8 (128 + r % 64)] : List Value) = bv (enc r.toNat)) := Lib.hid (by
    rw [he]
    simp only [bv, List.map_cons, List.map_nil]
    rw [u8v (n := 240 + r.toNat / 262144) (z := 240 + r / 262144) (by omega) (by omega), u8v (n := 128 + r.toNat / 4096 % 64) (z := 128 + r / 4096 % 64) (by omega) (by omega), u8v (n := 128 + r.toNat / 64 % 64) (z := 128 + r / 64 % 64) (by omega) (by omega), u8v (n := 128 + r.toNat % 64) (z := 128 + r % 64) (by omega) (by omega)])
  have hk : Hid ((enc r.toNat).length = 4) := Lib.hid (by rw [he]; rfl)
  have hsz : sz r = 4 := by rw [sz_val r hc, hk.out]
  have hs1 : (((sz r : Nat) : Int) == 1) = false := by rw [hsz]; rfl
  have hs2 : (((sz r : Nat) : Int) == 2) = false := by rw [hsz]; rfl
  have hs3 : (((sz r : Nat) : Int) == 3) = false := by rw [hsz]; rfl
  have hs4 : (((sz r : Nat) : Int) == 4) = true := by rw [hsz]; rfl
  have HC := Lib.hid hc
  have f1 := zand63 r (by omega) (by omega)
  have f2 := zor240 (r / 262144) (by omega) (by omega)
  have f3 := zor128 (r % 64) (by omega) (by omega)
  have f4 := zand63 (r / 64) (by omega) (by omega)
  have f5 := zor128 (r / 64 % 64) (by omega) (by omega)
  have f6 := zand63 (r / 4096) (by omega) (by omega)
  have f7 := zor128 (r / 4096 % 64) (by omega) (by omega)
  clear he hsz hc
  go_enter Tryz.func129, Tryz.ntmps129
  go_wp2_with (go_at_call 202; refine (size_any _ _).mono ?_; rintro e w' ⟨rfl, rfl⟩)
  go_ret2
  unfold EncPost
  rw [HC.out]
  simp only []
  rw [hk.out, ← hl.out]
  exact ⟨rfl, rfl⟩
set_option maxRecDepth 100000 in
set_option maxHeartbeats 1000000 in
theorem renc_no (r : Int) (hc : cp r = false) (w : World) :
    Calls Tryz.prog 129 #[.int .i64 r] w fun e w' => EncPost r w e w' := by
  have hsz : sz r = 0 := by unfold sz; rw [if_pos hc]
  have hs1 : (((sz r : Nat) : Int) == 1) = false := by rw [hsz]; rfl
  have hs2 : (((sz r : Nat) : Int) == 2) = false := by rw [hsz]; rfl
  have hs3 : (((sz r : Nat) : Int) == 3) = false := by rw [hsz]; rfl
  have hs4 : (((sz r : Nat) : Int) == 4) = false := by rw [hsz]; rfl
  have HC := Lib.hid hc
  clear hsz hc
  go_enter Tryz.func129, Tryz.ntmps129
  go_wp2_with (go_at_call 202; refine (size_any _ _).mono ?_; rintro e w' ⟨rfl, rfl⟩)
  go_ret2
  unfold EncPost
  rw [HC.out]
  exact ⟨rfl, rfl⟩
theorem renc_any (r : Int) (w : World) : Calls Tryz.prog 129 #[.int .i64 r] w fun e w' => EncPost r w e w' := by
  cases hc : cp r with
  | false => exact renc_no r hc w
  | true =>
    have h := cp_range_int hc
    by_cases h1 : r < 128
    · exact renc_1 r hc h.1 h1 w
    by_cases h2 : r < 2048
    · exact renc_2 r hc (by omega) h2 w
    by_cases h3 : r < 65536
    · exact renc_3 r hc (by omega) h3 w
    · exact renc_4 r hc (by omega) h.2 w
theorem renc_false (r : Int) (hc : cp r = false) (w : World) : Calls Tryz.prog 129 #[.int .i64 r] w fun e w' => e = .returned (.tuple #[.slice none 0 0, .bool false]) ∧ w = w' := by
  refine (renc_any r w).mono fun e w' h => ?_
  unfold EncPost at h; rw [hc] at h; exact h
theorem renc_true (r : Int) (hc : cp r = true) (w : World) : Calls Tryz.prog 129 #[.int .i64 r] w fun e w' =>
    e = .returned (.tuple #[.slice (some ⟨w.heap.size, 0, none⟩) (enc r.toNat).length (enc r.toNat).length, .bool true]) ∧ w' = w.alloc (.cells (bv (enc r.toNat)).toArray 5) := by
  refine (renc_any r w).mono fun e w' h => ?_
  unfold EncPost at h; rw [hc] at h; exact h
end Go.Proofs.YtgdnkankleoaoaaGreatDoor
namespace Go.Proofs.YtgdnkankleoaoaaGreatDoor
open Go.RowKit
/-- The text of an error. -/
def msgP (e : Int) : ByteArray := if e = 12 then ⟨#[116, 121, 112, 101, 32, 101, 114, 114, 111, 114]⟩ else if e = 13 then ⟨#[100, 105, 118, 105, 115, 105, 111, 110, 32, 98, 121, 32, 122, 101, 114, 111]⟩ else if e = 2 then ⟨#[108, 105, 109, 105, 116, 32, 101, 120, 99, 101, 101, 100, 101, 100]⟩ else if e = 3 then ⟨#[114, 97, 110, 103, 101, 32, 101, 114, 114, 111, 114]⟩ else if e = 14 then ⟨#[112, 97, 116, 104, 32, 101, 114, 114, 111, 114]⟩ else if e = 8 then ⟨#[100, 101, 112, 116, 104, 32, 101, 120, 99, 101, 101, 100, 101, 100]⟩ else if e = 7 then ⟨#[110, 117, 109, 98, 101, 114, 32, 101, 114, 114, 111, 114]⟩ else if e = 4 then ⟨#[115, 121, 110, 116, 97, 120, 32, 101, 114, 114, 111, 114]⟩ else if e = 5 then ⟨#[115, 121, 110, 116, 97, 120, 32, 101, 114, 114, 111, 114]⟩ else if e = 6 then ⟨#[115, 121, 110, 116, 97, 120, 32, 101, 114, 114, 111, 114]⟩ else ⟨#[]⟩
set_option maxHeartbeats 2000000 in
theorem msg_any (e : Int) (w : World) : Calls Tryz.prog 25 #[.int .i64 e] w fun x w' => x = .returned (.string (msgP e)) ∧ w' = w := by
  by_cases h12 : e = 12
  · subst h12
    go_enter Tryz.func25, Tryz.ntmps25
    go_wp2_with fail
    go_ret
    exact ⟨rfl, rfl⟩
  have b12 : (e == 12) = false := by simpa using h12
  by_cases h13 : e = 13
  · subst h13
    go_enter Tryz.func25, Tryz.ntmps25
    go_wp2_with fail
    go_ret
    exact ⟨rfl, rfl⟩
  have b13 : (e == 13) = false := by simpa using h13
  by_cases h2 : e = 2
  · subst h2
    go_enter Tryz.func25, Tryz.ntmps25
    go_wp2_with fail
    go_ret
    exact ⟨rfl, rfl⟩
  have b2 : (e == 2) = false := by simpa using h2
  by_cases h3 : e = 3
  · subst h3
    go_enter Tryz.func25, Tryz.ntmps25
    go_wp2_with fail
    go_ret
    exact ⟨rfl, rfl⟩
  have b3 : (e == 3) = false := by simpa using h3
  by_cases h14 : e = 14
  · subst h14
    go_enter Tryz.func25, Tryz.ntmps25
    go_wp2_with fail
    go_ret
    exact ⟨rfl, rfl⟩
  have b14 : (e == 14) = false := by simpa using h14
  by_cases h8 : e = 8
  · subst h8
    go_enter Tryz.func25, Tryz.ntmps25
    go_wp2_with fail
    go_ret
    exact ⟨rfl, rfl⟩
  have b8 : (e == 8) = false := by simpa using h8
  by_cases h7 : e = 7
  · subst h7
    go_enter Tryz.func25, Tryz.ntmps25
    go_wp2_with fail
    go_ret
    exact ⟨rfl, rfl⟩
  have b7 : (e == 7) = false := by simpa using h7
  by_cases h4 : e = 4
  · subst h4
    go_enter Tryz.func25, Tryz.ntmps25
    go_wp2_with fail
    go_ret
    exact ⟨rfl, rfl⟩
  have b4 : (e == 4) = false := by simpa using h4
  by_cases h5 : e = 5
  · subst h5
    go_enter Tryz.func25, Tryz.ntmps25
    go_wp2_with fail
    go_ret
    exact ⟨rfl, rfl⟩
  have b5 : (e == 5) = false := by simpa using h5
  by_cases h6 : e = 6
  · subst h6
    go_enter Tryz.func25, Tryz.ntmps25
    go_wp2_with fail
    go_ret
    exact ⟨rfl, rfl⟩
  have b6 : (e == 6) = false := by simpa using h6
  have hm : msgP e = ⟨#[]⟩ := by unfold msgP; simp [h12, h13, h2, h3, h14, h8, h7, h4, h5, h6]
  rw [hm]
  go_enter Tryz.func25, Tryz.ntmps25
  go_wp2_with fail
  go_ret
  exact ⟨rfl, rfl⟩
set_option maxHeartbeats 2000000 in
theorem rmsg_any (e : Int) (w : World) : Calls Tryz.prog 26 #[.int .i64 e] w fun x w' => x = .returned (.string (msgP e)) ∧ w' = w := by
  by_cases h12 : e = 12
  · subst h12
    go_enter Tryz.func26, Tryz.ntmps26
    go_wp2_with fail
    go_ret
    exact ⟨rfl, rfl⟩
  have b12 : (e == 12) = false := by simpa using h12
  by_cases h13 : e = 13
  · subst h13
    go_enter Tryz.func26, Tryz.ntmps26
    go_wp2_with fail
    go_ret
    exact ⟨rfl, rfl⟩
  have b13 : (e == 13) = false := by simpa using h13
  by_cases h2 : e = 2
  · subst h2
    go_enter Tryz.func26, Tryz.ntmps26
    go_wp2_with fail
    go_ret
    exact ⟨rfl, rfl⟩
  have b2 : (e == 2) = false := by simpa using h2
  by_cases h3 : e = 3
  · subst h3
    go_enter Tryz.func26, Tryz.ntmps26
    go_wp2_with fail
    go_ret
    exact ⟨rfl, rfl⟩
  have b3 : (e == 3) = false := by simpa using h3
  by_cases h14 : e = 14
  · subst h14
    go_enter Tryz.func26, Tryz.ntmps26
    go_wp2_with fail
    go_ret
    exact ⟨rfl, rfl⟩
  have b14 : (e == 14) = false := by simpa using h14
  by_cases h8 : e = 8
  · subst h8
    go_enter Tryz.func26, Tryz.ntmps26
    go_wp2_with fail
    go_ret
    exact ⟨rfl, rfl⟩
  have b8 : (e == 8) = false := by simpa using h8
  by_cases h7 : e = 7
  · subst h7
    go_enter Tryz.func26, Tryz.ntmps26
    go_wp2_with fail
    go_ret
    exact ⟨rfl, rfl⟩
  have b7 : (e == 7) = false := by simpa using h7
  by_cases h4 : e = 4
  · subst h4
    go_enter Tryz.func26, Tryz.ntmps26
    go_wp2_with fail
    go_ret
    exact ⟨rfl, rfl⟩
  have b4 : (e == 4) = false := by simpa using h4
  by_cases h5 : e = 5
  · subst h5
    go_enter Tryz.func26, Tryz.ntmps26
    go_wp2_with fail
    go_ret
    exact ⟨rfl, rfl⟩
  have b5 : (e == 5) = false := by simpa using h5
  by_cases h6 : e = 6
  · subst h6
    go_enter Tryz.func26, Tryz.ntmps26
    go_wp2_with fail
    go_ret
    exact ⟨rfl, rfl⟩
  have b6 : (e == 6) = false := by simpa using h6
  have hm : msgP e = ⟨#[]⟩ := by unfold msgP; simp [h12, h13, h2, h3, h14, h8, h7, h4, h5, h6]
  rw [hm]
  go_enter Tryz.func26, Tryz.ntmps26
  go_wp2_with fail
  go_ret
  exact ⟨rfl, rfl⟩
end Go.Proofs.YtgdnkankleoaoaaGreatDoor
namespace Go.Proofs.YtgdnkankleoaoaaGreatDoor
open Go.RowKit Go.Sort
/-- No key among the first i is the one that is sought. -/
def Miss (ks : List ByteArray) (key : ByteArray) (i : Nat) : Prop := ∀ j, j < i → ks[j]? ≠ some key
theorem Miss.start (ks : List ByteArray) (key : ByteArray) : Miss ks key 0 := fun j h => absurd h (Nat.not_lt_zero _)
theorem Miss.step {ks : List ByteArray} {key : ByteArray} {i : Nat} (h : Miss ks key i) {x : ByteArray} (hx : ks[i]? = some x) (hn : ¬ scmp x key = 0) : Miss ks key (i + 1) := by
  intro j hj
  rcases Nat.lt_or_ge j i with h1 | h1
  · exact h j h1
  · have : j = i := by omega
    subst this
    rw [hx]
    intro e
    injection e with e
    exact hn ((scmp_zero _ _).2 e)
theorem Miss.all {ks : List ByteArray} {key : ByteArray} {i : Nat} (h : Miss ks key i) (hi : ks.length ≤ i) : idxOf ks key = none := by
  refine idxOf_miss fun j hj => ?_
  exact h j (by have := (List.getElem?_eq_some_iff.1 hj).1; omega) hj
end Go.Proofs.YtgdnkankleoaoaaGreatDoor
namespace Go.Proofs.YtgdnkankleoaoaaGreatDoor
open Go.RowKit Go.Sort
/-- What Get hands back, written out. -/
theorem get_open {f : FuncId} {args : Array Value} {w : World} {o : Option V} (h : Calls Tryz.prog f args w (GetPost o w)) :
    Calls Tryz.prog f args w fun e w' => ∃ (k n : Int) (s : ByteArray) (ks : List ByteArray) (es : List V) (A : Option Addr) (a : Nat) (C : Option Addr) (c : Nat), e = .returned (.tuple #[.agg #[.int .i64 k, .int .i64 n, .string s, .slice A ks.length a, .slice C es.length c], .bool o.isSome]) ∧ Below w.heap.size w w' ∧
      Lies w' (· < w'.heap.size) (o.getD vnull) [.int .i64 k, .int .i64 n, .string s, .slice A ks.length a, .slice C es.length c] := by
  refine h.mono fun e w' hp => ?_
  obtain ⟨hb, ds, rfl, hl⟩ := hp
  generalize hv : o.getD vnull = v at hl
  obtain ⟨k, n, s, ks, es⟩ := v
  have hl2 := hl
  rw [Lies] at hl2
  obtain ⟨_, A, a, C, c, ys, rfl, _⟩ := hl2
  exact ⟨k, n, s, ks, es, A, a, C, c, rfl, hb, hl⟩
end Go.Proofs.YtgdnkankleoaoaaGreatDoor
namespace Go.Proofs.YtgdnkankleoaoaaGreatDoor
section
variable {H : Type} {enc : TypeId × Value → H}
theorem returnsInHanded_and_shape {a : Assume} {C : Checked} {os : Os} {f : FuncId} {fn : Func} {s : ChangeSpec} {conds : List PathCond} {apart fresh handsOn again : Bool} {X : World → Array Value → Prop}
    (hX : ∀ (w w' : World) (args : Array Value), w.heap = w'.heap → X w args → X w' args)
    (own : ownKnob C.prog.godebug = none) (started : os.Started) (noInit : C.prog.inits.idxOf? f = none) (hfn : C.prog.funcs[f]? = some fn)
    (witness : ∃ (w : World) (tape : Tape) (i : Input), w.os = os ∧ (w.forCall tape i).Shaped C.prog ∧ i.vars = [] ∧ Input.okWide C.prog (w.forCall tape i) .any w.heap.size f i ∧
      ((s.pre enc C.prog fn conds apart (w.forCall tape i).memory i.args ∧ X (w.forCall tape i).memory i.args) ∧ sizedMet enc C.prog fn (OpenSpec.ofChange s) apart (w.forCall tape i).memory i.args) ∧ a.holds C.prog (lone (Frame.enter C.prog f i.args .normal) [] (w.forCall tape i)))
    (contract : ∀ (W : World) (base : Nat) (args : Array Value) (ds gs : List (DataW H)) (before : List MemPlace),
      (∀ (j : Nat) t v, fn.params[j]? = some t → args[j]? = some v → Value.okWide C.prog W .any base t v) →
      DataW.Whole enc C.prog fn.params.toList s.vars apart W args.toList ds gs before →
      (DataW.weightsEach C.prog (fn.params.toList ++ s.plain.varTypes C.prog) (ds ++ gs)).all (· ≤ reachBytes) = true → X W args → W.ShapedOpen C.prog →
      Calls C.prog f args W fun e W' => ∃ v, e = .returned v ∧ s.post enc C.prog fn apart fresh handsOn again W args v W') :
    ReturnsInHanded a C os f .any (fun w args => (s.pre enc C.prog fn conds apart w args ∧ X w args) ∧ sizedMet enc C.prog fn (OpenSpec.ofChange s) apart w args) (s.post enc C.prog fn apart fresh handsOn again) := by
  refine returnsInHanded_of_calls own started noInit witness ?_
  intro w tape i _ hsh _ hok hpre _
  obtain ⟨_, _, _, fn', hfn', _, _, _, _, hval⟩ := hok
  have e : fn' = fn := Option.some.inj (hfn'.symm.trans hfn)
  subst e
  obtain ⟨⟨⟨ds, gs, before, hw, _⟩, hx⟩, hz⟩ := hpre
  have hw' := DataW.Whole.of_heap (w' := w.forCall tape i) (by rfl) hw
  refine (contract (w.forCall tape i) w.heap.size i.args ds gs before hval hw' (hz.weights hw) (hX _ _ _ (by rfl) hx) hsh).mono fun e W' ⟨v, he, hp⟩ => ?_
  subst he
  exact ChangeSpec.post_blind hp
end
end Go.Proofs.YtgdnkankleoaoaaGreatDoor
namespace Go.Proofs.YtgdnkankleoaoaaGreatDoor
open Go.ChangeShapes Go.WideShapes Go.ChangeAt Go.RowKit
section
variable {H : Type} {enc : TypeId × Value → H} {P : Program}
theorem trodAll_stays (hl : laidOutB P = true) {W W' : World} (hb : Below W.heap.size W W') :
    ∀ {ts : List TypeId} {vs : List Value} {ds : List (DataW H)} {ps : List MemPlace}, (∀ t ∈ ts, P.readableRec t = true ∧ t < P.types.size) →
      DataW.TrodAll enc P W 0 (fun _ => true) true ts vs ds ps → (∀ x ∈ ps, x.block < W.heap.size) → DataW.TrodAll enc P W' 0 (fun b => decide (b < W.heap.size)) true ts vs ds ps := by
  intro ts
  induction ts with
  | nil =>
    intro vs ds ps _ h _
    obtain ⟨rfl, rfl, rfl⟩ := trodAll_nil h
    exact trodAll_mk0
  | cons t ts ih =>
    intro vs ds ps ht h hlt
    obtain ⟨v, vs', d, ds', p, q, rfl, rfl, rfl, h0, h1⟩ := trodAll_cons h
    have t0 := ht t (by simp)
    exact trodAll_cons_mk (Below.trod hl t0.1 t0.2 h0 hb (fun x hx => hlt x (by simp [hx]))) (ih (fun u hu => ht u (by simp [hu])) h1 (fun x hx => hlt x (by simp [hx])))
/-- One closed fact: the parameters' types can be read and are rows of the table. -/
def parsRowed (P : Program) (f : Func) : Bool := f.params.toList.all fun t => P.readableRec t && decide (t < P.types.size)
theorem law_post {f : Func} {s : ChangeSpec} {W W' : World} {args : Array Value} {ds gs : List (DataW H)} {before : List MemPlace} {tb : TypeId}
    (hW : DataW.Whole enc P f.params.toList s.vars false W args.toList ds gs before) (hvars : s.vars = [])
    (hres : (s.fn H (ds ++ gs)).results = [.lit (.bool true)]) (hargs : (s.fn H (ds ++ gs)).args = ds) (hsv : (s.fn H (ds ++ gs)).vars = [])
    (hrt : f.resultTypes = #[tb]) (hbt : P.underlying tb = some .bool) (hl : laidOutB P = true) (hp : parsRowed P f = true) (hB : Below W.heap.size W W') :
    s.post enc P f false true false false W args (.bool true) W' := by
  have hlt : ∀ x ∈ before, x.block < W.heap.size := fun x hx => hW.lt x hx
  have hW2 := hW
  obtain ⟨p, q, hA, hV, rfl, hfz, hnd⟩ := hW2
  rw [hvars] at hV
  obtain ⟨rfl, rfl⟩ := trodVars_none hV
  have hp2 : ∀ t ∈ f.params.toList, P.readableRec t = true ∧ t < P.types.size := by
    intro t ht
    have := List.all_eq_true.1 hp t ht
    simpa using this
  refine ⟨ds, [], p ++ [], [], p, [], hW, ?_, ?_, ?_, hB.frame _ |> World.keptBut_mono (fun x hx => ⟨hx, Or.inr (Or.inl (by simpa using hx))⟩), fun h => by cases h⟩
  · rw [hres, hrt]
    exact trodAll_cons_mk (shut_bool hbt true) trodAll_mk0
  · rw [hargs]
    exact trodAll_stays hl hB hp2 hA (fun x hx => hlt x (by simp [hx]))
  · rw [hsv, hvars]
    exact rfl
/-- A slice of ints that came in. -/
theorem open_ints_rd {w : World} {r : Reach} {b0 : Nat} {t e : TypeId} {k : IntKind} {v : Value} {d : DataW H} {ps : List MemPlace} (ht : P.underlying t = some (.slice e)) (he : P.underlying e = some (.int k)) (hc : P.cellsOf e = 1)
    (hval : Value.okWide P w r b0 t v) (h : DataW.Trod enc P w 0 (fun _ => true) true t v d ps) :
    ∃ (A : Option Addr) (c : Nat) (zs : List Int), v = .slice A zs.length c ∧ Rd w w.heap.size A (zs.map (Value.int k)) ∧ (A = none → c = 0) ∧ zs.length ≤ maxLen ∧ ∀ n ∈ zs, (Lit.int k n).wf = true := by
  obtain ⟨a0, len, cap, rfl⟩ := okWide_slice ht hval
  obtain ⟨fuel, hf⟩ := h
  rcases open_ints ht he hc hf with ⟨hcs, hx⟩ | ⟨a, len', cap', zs, hcs, _, hl, hm, hz, hx, hcell, hw⟩
  · simp [Value.cells] at hcs
    obtain ⟨rfl, rfl, rfl⟩ := hcs
    exact ⟨none, 0, [], rfl, Rd.nil _ _ _, fun _ => rfl, Nat.zero_le _, by simp⟩
  · simp [Value.cells] at hcs
    obtain ⟨rfl, rfl, rfl⟩ := hcs
    have hzl : len ≤ zs.length := by rw [hz]; split <;> omega
    have htl : (zs.take len).length = len := by rw [List.length_take]; omega
    refine ⟨some a, cap, zs.take len, by rw [htl], ?_, (fun h => by cases h), by rw [htl]; omega, fun n hn => hw n (List.mem_of_mem_take hn)⟩
    intro j u hj
    have hjl : j < len := by
      rcases Nat.lt_or_ge j len with h1 | h1
      · exact h1
      · rw [List.getElem?_eq_none (by simp; omega)] at hj; cases hj
    have hcj := hcell j (by omega)
    have hc0 := hcell 0 (by omega)
    obtain ⟨b, o, sp⟩ := a
    have hsp : sp = none := by simpa [Addr.add] using World.cell?_spot hc0
    subst hsp
    have h3 : ((⟨b, o, none⟩ : Addr).add j) = ⟨b, o + j, none⟩ := by
      unfold Addr.add
      by_cases h : j = 0 <;> simp [h]
    rw [h3] at hcj
    refine ⟨b, o, rfl, World.block_lt_of_cell? w _ hcj, ?_⟩
    rw [hcj]
    have hjz : j < zs.length := by omega
    simp only [List.getElem?_map, List.getElem?_take, hjl, if_true] at hj
    rw [List.getElem?_eq_getElem hjz] at hj
    injection hj with hj
    subst hj
    simp [List.getElem?_eq_getElem hjz]
end
end Go.Proofs.YtgdnkankleoaoaaGreatDoor

/- The contracts of the functions that append encodings. The contracts of FromRunes. The contracts of Append and of the reference's Append. The end of a string, and what an escape appends. -/
import Derived.Test.YtmfjpcmbdgbjjaaGreatDoorQ06
import Derived.Lib.Hide
import Derived.Deep.CutBlock
import Derived.Deep.DeepCutAuto
import Derived.Test.YtmfjpcmbdgbjjaaGreatDoorQ02
import Derived.Lib.AppendStr
set_option linter.unusedVariables false
set_option linter.unusedSimpArgs false
namespace Go.Proofs.YtmfjpcmbdgbjjaaGreatDoor
open Go.RowKit
theorem inf_u8 : (Tryz.prog.info? 5).map (fun i => (i.zero, i.size, i.bytes)) = some (some (.int .u8 0), 1, 1) := by kernel_rfl
/-- Bytes as values. -/
def bv (l : List UInt8) : List Value := l.map fun b => Value.int .u8 (b.toNat : Int)
theorem bv_append (l m : List UInt8) : bv (l ++ m) = bv l ++ bv m := by simp [bv]
theorem bv_length (l : List UInt8) : (bv l).length = l.length := by simp [bv]
theorem bv_one (l : List UInt8) : ∀ u ∈ bv l, u.oneCell' = true := by
  intro u hu; simp only [bv, List.mem_map] at hu; obtain ⟨b, _, rfl⟩ := hu; rfl
theorem tail_z (z : Int) (h0 : 0 ≤ z) (h1 : z < 4294967296) (w : World) :
    Calls Tryz.prog 69 #[.int .i64 z] w fun e w' => e = .returned (.int .u8 (128 + z % 64)) ∧ w = w' := by
  obtain ⟨r, rfl⟩ := Int.eq_ofNat_of_zero_le h0
  have h := tail_any r (by omega) w
  rw [show ((128 + r % 64 : Nat) : Int) = 128 + (r : Int) % 64 from by omega] at h
  exact h
theorem u8v {n : Nat} {z : Int} (h : n < 256) (hz : z = n) : Value.int .u8 z = Value.int .u8 ((UInt8.ofNat n).toNat : Int) := by
  rw [toNat_ofNat h, hz]
theorem new_cells (w : World) (t : TypeId) (l : List Value) : ∀ (j : Nat) (u : Value), l[j]? = some u → (w.alloc (.cells l.toArray t)).cell? ((⟨w.heap.size, 0, none⟩ : Addr).add j) = some u := by
  intro j u hj
  have h1 : (w.alloc (.cells l.toArray t)).heap[w.heap.size]? = some (.cells l.toArray t) := by
    exact (MapKept.heap_alloc w _).1
  have h2 := cell_of_row (w.alloc (.cells l.toArray t)) w.heap.size j l.toArray t (0, 0) h1
  have h3 : ((⟨w.heap.size, 0, none⟩ : Addr).add j) = ⟨w.heap.size, j, none⟩ := by
    unfold Addr.add
    by_cases h : j = 0 <;> simp [h]
  rw [h3, h2]
  simpa using hj
/-- What an append onto a row of the call's own leaves. -/
def AppPost (B : Nat) (base : Nat) (n : Nat) (xs : List Value) (w : World) (e : Ending) (w' : World) : Prop :=
  ∃ v', e = .returned v' ∧ w'.ownsRow base 5 1 v' n xs ∧ Below B w w' 
theorem AppPost.mk {B base n : Nat} {xs : List Value} {w w' : World} {e : Ending} {v' : Value} (he : e = .returned v') (ho : w'.ownsRow base 5 1 v' n xs) (hb : Below B w w') : AppPost B base n xs w e w' := ⟨v', he, ho, hb⟩
set_option maxRecDepth 100000 in
set_option maxHeartbeats 1000000 in
theorem app_1 (sl : Value) (r : Int) (h0 : 0 ≤ r) (h1 : r < 128) (w : World) (base n : Nat) (xs : List Value) (hown : w.ownsRow base 5 1 sl n xs) (hn : n ≤ 4294967296) (hB : base ≤ w.heap.size) :
    Calls Tryz.prog 49 #[sl, .int .i64 r] w fun e w' => AppPost base base (n + (enc r.toNat).length) (xs ++ bv (enc r.toNat)) w e w' := by
  have he : enc r.toNat = [UInt8.ofNat r.toNat] := by
    unfold enc; rw [if_pos (by omega)]
  have hl : Hid (([.int .u8 (r)] : List Value) = bv (enc r.toNat)) := Lib.hid (by
    rw [he]
    simp only [bv, List.map_cons, List.map_nil]
    rw [u8v (n := r.toNat) (z := r) (by omega) (by omega)])
  have hk : Hid ((enc r.toNat).length = 1) := Lib.hid (by rw [he]; rfl)
  clear he
  obtain ⟨i0, hi, hz0, hz1, hz2⟩ := info_parts inf_u8
  have HO := Lib.hid hown
  clear hown
  go_enter Tryz.func49, Tryz.ntmps49
  go_wp2_with (first
    | (go_at_call 69; refine (tail_z _ (by omega) (by omega) _).mono ?_; rintro e w' ⟨rfl, rfl⟩)
    | (at_builtin; refine wpList_append_own _ rfl _ _ 47 rfl base 5 i0 (.int .u8 0) 1 1 Tryz.underlying47 hi hz0 hz1 hz2 rfl (by decide) _ _ _ rfl (HO.out.alloc _) ⟨w.heap.size, 0, none⟩ 1 1 [.int .u8 (r)] rfl rfl (new_cells w 5 [.int .u8 (r)]) ?c2 ?c3 ?c4 ?c5 ?_))
  case c2 => rw [hl.out]; exact bv_one _
  case c3 => unfold maxLen; omega
  case c4 => omega
  case c5 => simp; omega
  intro v' w1 hown' hgrow _
  have hb : Below base w w1 := ((Below.refl base w).alloc hB _).grown hgrow (by simp; omega) (fun j hj => (HO.out.lt j hj).1)
  rw [hl.out] at hown'
  clear hgrow
  have HO2 := Lib.hid hown'
  have HB := Lib.hid hb
  clear hown' hb
  go_wp2
  go_ret
  rw [hk.out]
  exact AppPost.mk rfl HO2.out HB.out
set_option maxRecDepth 100000 in
set_option maxHeartbeats 1000000 in
theorem app_2 (sl : Value) (r : Int) (h1 : 128 ≤ r) (h2 : r < 2048) (w : World) (base n : Nat) (xs : List Value) (hown : w.ownsRow base 5 1 sl n xs) (hn : n ≤ 4294967296) (hB : base ≤ w.heap.size) :
    Calls Tryz.prog 49 #[sl, .int .i64 r] w fun e w' => AppPost base base (n + (enc r.toNat).length) (xs ++ bv (enc r.toNat)) w e w' := by
  have he : enc r.toNat = [UInt8.ofNat (192 + r.toNat / 64), UInt8.ofNat (128 + r.toNat % 64)] := by
    unfold enc; rw [if_neg (by omega), if_pos (by omega)]
  have hl : Hid (([.int .u8 (192 + r / 64), .int .u8 (128 + r % 64)] : List Value) = bv (enc r.toNat)) := Lib.hid (by
    rw [he]
    simp only [bv, List.map_cons, List.map_nil]
    rw [u8v (n := 192 + r.toNat / 64) (z := 192 + r / 64) (by omega) (by omega), u8v (n := 128 + r.toNat % 64) (z := 128 + r % 64) (by omega) (by omega)])
  have hk : Hid ((enc r.toNat).length = 2) := Lib.hid (by rw [he]; rfl)
  clear he
  obtain ⟨i0, hi, hz0, hz1, hz2⟩ := info_parts inf_u8
  have HO := Lib.hid hown
  clear hown
  go_enter Tryz.func49, Tryz.ntmps49
  go_wp2_with (first
    | (go_at_call 69; refine (tail_z _ (by omega) (by omega) _).mono ?_; rintro e w' ⟨rfl, rfl⟩)
    | (at_builtin; refine wpList_append_own _ rfl _ _ 47 rfl base 5 i0 (.int .u8 0) 1 1 Tryz.underlying47 hi hz0 hz1 hz2 rfl (by decide) _ _ _ rfl (HO.out.alloc _) ⟨w.heap.size, 0, none⟩ 2 2 [.int .u8 (192 + r / 64), .int .u8 (128 + r % 64)] rfl rfl (new_cells w 5 [.int .u8 (192 + r / 64), .int .u8 (128 + r % 64)]) ?c2 ?c3 ?c4 ?c5 ?_))
  case c2 => rw [hl.out]; exact bv_one _
  case c3 => unfold maxLen; omega
  case c4 => omega
  case c5 => simp; omega
  intro v' w1 hown' hgrow _
  have hb : Below base w w1 := ((Below.refl base w).alloc hB _).grown hgrow (by simp; omega) (fun j hj => (HO.out.lt j hj).1)
  rw [hl.out] at hown'
  clear hgrow
  have HO2 := Lib.hid hown'
  have HB := Lib.hid hb
  clear hown' hb
  go_wp2
  go_ret
  rw [hk.out]
  exact AppPost.mk rfl HO2.out HB.out
set_option maxRecDepth 100000 in
set_option maxHeartbeats 1000000 in
theorem app_3 (sl : Value) (r : Int) (h2 : 2048 ≤ r) (h3 : r < 65536) (w : World) (base n : Nat) (xs : List Value) (hown : w.ownsRow base 5 1 sl n xs) (hn : n ≤ 4294967296) (hB : base ≤ w.heap.size) :
    Calls Tryz.prog 49 #[sl, .int .i64 r] w fun e w' => AppPost base base (n + (enc r.toNat).length) (xs ++ bv (enc r.toNat)) w e w' := by
  have he : enc r.toNat = [UInt8.ofNat (224 + r.toNat / 4096), UInt8.ofNat (128 + r.toNat / 64 % 64), UInt8.ofNat (128 + r.toNat % 64)] := by
    unfold enc; rw [if_neg (by omega), if_neg (by omega), if_pos (by omega)]
  have hl : Hid (([.int .u8 (224 + r / 4096), .int .u8 (128 + r / 64 % 64), .int .u8 (128 + r % 64)] : List Value) = bv (enc r.toNat)) := Lib.hid (by
    rw [he]
    simp only [bv, List.map_cons, List.map_nil]
    rw [u8v (n := 224 + r.toNat / 4096) (z := 224 + r / 4096) (by omega) (by omega), u8v (n := 128 + r.toNat / 64 % 64) (z := 128 + r / 64 % 64) (by omega) (by omega), u8v (n := 128 + r.toNat % 64) (z := 128 + r % 64) (by omega) (by omega)])
  have hk : Hid ((enc r.toNat).length = 3) := Lib.hid (by rw [he]; rfl)
  clear he
  obtain ⟨i0, hi, hz0, hz1, hz2⟩ := info_parts inf_u8
  have HO := Lib.hid hown
  clear hown
  go_enter Tryz.func49, Tryz.ntmps49
  go_wp2_with (first
    | (go_at_call 69; refine (tail_z _ (by omega) (by omega) _).mono ?_; rintro e w' ⟨rfl, rfl⟩)
    | (at_builtin; refine wpList_append_own _ rfl _ _ 47 rfl base 5 i0 (.int .u8 0) 1 1 Tryz.underlying47 hi hz0 hz1 hz2 rfl (by decide) _ _ _ rfl (HO.out.alloc _) ⟨w.heap.size, 0, none⟩ 3 3 [.int .u8 (224 + r / 4096), .int .u8 (128 + r / 64 % 64), .int .u8 (128 + r % 64)] rfl rfl (new_cells w 5 [.int .u8 (224 + r / 4096), .int .u8 (128 + r / 64 % 64), .int .u8 (128 + r % 64)]) ?c2 ?c3 ?c4 ?c5 ?_))
  case c2 => rw [hl.out]; exact bv_one _
  case c3 => unfold maxLen; omega
  case c4 => omega
  case c5 => simp; omega
  intro v' w1 hown' hgrow _
  have hb : Below base w w1 := ((Below.refl base w).alloc hB _).grown hgrow (by simp; omega) (fun j hj => (HO.out.lt j hj).1)
  rw [hl.out] at hown'
  clear hgrow
  have HO2 := Lib.hid hown'
  have HB := Lib.hid hb
  clear hown' hb
  go_wp2
  go_ret
  rw [hk.out]
  exact AppPost.mk rfl HO2.out HB.out
set_option maxRecDepth 100000 in
set_option maxHeartbeats 1000000 in
theorem app_4 (sl : Value) (r : Int) (h3 : 65536 ≤ r) (hr : r ≤ 1114111) (w : World) (base n : Nat) (xs : List Value) (hown : w.ownsRow base 5 1 sl n xs) (hn : n ≤ 4294967296) (hB : base ≤ w.heap.size) :
    Calls Tryz.prog 49 #[sl, .int .i64 r] w fun e w' => AppPost base base (n + (enc r.toNat).length) (xs ++ bv (enc r.toNat)) w e w' := by
  have he : enc r.toNat = [UInt8.ofNat (240 + r.toNat / 262144), UInt8.ofNat (128 + r.toNat / 4096 % 64), UInt8.ofNat (128 + r.toNat / 64 % 64), UInt8.ofNat (128 + r.toNat % 64)] := by
    unfold enc; rw [if_neg (by omega), if_neg (by omega), if_neg (by omega)]
  have hl : Hid (([.int .u8 (240 + r / 262144), .int .u8 (128 + r / 4096 % 64), .int .u8 (128 + r / 64 % 64), .int .u8 (128 + r % 64)] : List Value) = bv (enc r.toNat)) := Lib.hid (by
    rw [he]
    simp only [bv, List.map_cons, List.map_nil]
    rw [u8v (n := 240 + r.toNat / 262144) (z := 240 + r / 262144) (by omega) (by omega), u8v (n := 128 + r.toNat / 4096 % 64) (z := 128 + r / 4096 % 64) (by omega) (by omega), u8v (n := 128 + r.toNat / 64 % 64) (z := 128 + r / 64 % 64) (by omega) (by omega), u8v (n := 128 + r.toNat % 64) (z := 128 + r % 64) (by omega) (by omega)])
  have hk : Hid ((enc r.toNat).length = 4) := Lib.hid (by rw [he]; rfl)
  clear he
  obtain ⟨i0, hi, hz0, hz1, hz2⟩ := info_parts inf_u8
  have HO := Lib.hid hown
  clear hown
  go_enter Tryz.func49, Tryz.ntmps49
  go_wp2_with (first
    | (go_at_call 69; refine (tail_z _ (by omega) (by omega) _).mono ?_; rintro e w' ⟨rfl, rfl⟩)
    | (at_builtin; refine wpList_append_own _ rfl _ _ 47 rfl base 5 i0 (.int .u8 0) 1 1 Tryz.underlying47 hi hz0 hz1 hz2 rfl (by decide) _ _ _ rfl (HO.out.alloc _) ⟨w.heap.size, 0, none⟩ 4 4 [.int .u8 (240 + r / 262144), .int .u8 (128 + r / 4096 % 64), .int .u8 (128 + r / 64 % 64), .int .u8 (128 + r % 64)] rfl rfl (new_cells w 5 [.int .u8 (240 + r / 262144), .int .u8 (128 + r / 4096 % 64), .int .u8 (128 + r / 64 % 64), .int .u8 (128 + r % 64)]) ?c2 ?c3 ?c4 ?c5 ?_))
  case c2 => rw [hl.out]; exact bv_one _
  case c3 => unfold maxLen; omega
  case c4 => omega
  case c5 => simp; omega
  intro v' w1 hown' hgrow _
  have hb : Below base w w1 := ((Below.refl base w).alloc hB _).grown hgrow (by simp; omega) (fun j hj => (HO.out.lt j hj).1)
  rw [hl.out] at hown'
  clear hgrow
  have HO2 := Lib.hid hown'
  have HB := Lib.hid hb
  clear hown' hb
  go_wp2
  go_ret
  rw [hk.out]
  exact AppPost.mk rfl HO2.out HB.out
theorem app_any (sl : Value) (r : Int) (h0 : 0 ≤ r) (hr : r ≤ 1114111) (w : World) (base n : Nat) (xs : List Value) (hown : w.ownsRow base 5 1 sl n xs) (hn : n ≤ 4294967296) (hB : base ≤ w.heap.size) :
    Calls Tryz.prog 49 #[sl, .int .i64 r] w fun e w' => AppPost base base (n + (enc r.toNat).length) (xs ++ bv (enc r.toNat)) w e w' := by
  by_cases h1 : r < 128
  · exact app_1 sl r h0 h1 w base n xs hown hn hB
  by_cases h2 : r < 2048
  · exact app_2 sl r (by omega) h2 w base n xs hown hn hB
  by_cases h3 : r < 65536
  · exact app_3 sl r (by omega) h3 w base n xs hown hn hB
  · exact app_4 sl r (by omega) hr w base n xs hown hn hB
end Go.Proofs.YtmfjpcmbdgbjjaaGreatDoor
namespace Go.Proofs.YtmfjpcmbdgbjjaaGreatDoor
open Go.RowKit
theorem conv_nil {P : Program} (w : World) (src dst e : TypeId) (c : Nat) (hs : P.underlying src = some (.slice e)) (he : P.underlying e = some (.int .u8)) (hd : P.underlying dst = some .string) :
    (convert src dst (.slice none 0 c)).run P w = .ok (.string ⟨#[]⟩) w := by
  rw [run_convert_bytes_string w src dst e none 0 c hs he hd]
  simp [Conv.bytesToString]; rfl
theorem conv_rd {P : Program} {w : World} {B : Nat} {A : Option Addr} {l : List UInt8} (h : Rd w B A (bv l)) (src dst e : TypeId) (c : Nat) (hs : P.underlying src = some (.slice e)) (he : P.underlying e = some (.int .u8)) (hd : P.underlying dst = some .string) :
    (convert src dst (.slice A l.length c)).run P w = .ok (.string ⟨l.toArray⟩) w := by
  cases A with
  | none =>
    cases l with
    | nil => exact conv_nil w src dst e c hs he hd
    | cons b t => obtain ⟨b1, o, h1, _⟩ := h 0 (.int .u8 b.toNat) (by simp [bv]); cases h1
  | some a =>
    refine run_convert_bytes_back w src dst e a c l hs he hd fun j hj => ?_
    obtain ⟨b, o, h1, _, h2⟩ := h j (.int .u8 l[j].toNat) (by simp [bv, hj])
    injection h1 with h1
    subst h1
    have h3 : ((⟨b, o, none⟩ : Addr).add j) = ⟨b, o + j, none⟩ := by
      unfold Addr.add
      by_cases h : j = 0 <;> simp [h]
    rw [h3, h2]
/-- string(b), b a row of the call's own. -/
theorem conv_own {w : World} {base n : Nat} {v : Value} {l : List UInt8} (h : w.ownsRow base 5 1 v n (bv l)) : (convert 47 9 v).run Tryz.prog w = .ok (.string ⟨l.toArray⟩) w := by
  obtain ⟨A, c, rfl, hl, hr⟩ := own_slice h
  rw [bv_length] at hl
  subst hl
  exact conv_rd hr _ _ 5 c Tryz.underlying47 Tryz.underlying5 Tryz.underlying9
/-- The encodings of the first k elements. -/
def pre (zs : List Int) (k : Nat) : List UInt8 := encs ((zs.take k).map Int.toNat)
theorem cp_range_int {z : Int} (h : cp z = true) : 0 ≤ z ∧ z ≤ 1114111 := by
  unfold cp at h; simp at h; omega
end Go.Proofs.YtmfjpcmbdgbjjaaGreatDoor
namespace Go.Proofs.YtmfjpcmbdgbjjaaGreatDoor
open Go.RowKit
/-- What Append leaves. -/
def AppendPost (l : List UInt8) (r : Int) (w : World) (e : Ending) (w' : World) : Prop :=
  Below w.heap.size w w' ∧ match cp r with
  | false => e = .returned (.tuple #[.slice none 0 0, .bool false])
  | true => ∃ v, e = .returned (.tuple #[v, .bool true]) ∧ w'.ownsRow w.heap.size 5 1 v (l ++ enc r.toNat).length (bv (l ++ enc r.toNat))
theorem AppendPost.no {l : List UInt8} {r : Int} {w w' : World} {e : Ending} (hc : cp r = false) (hb : Below w.heap.size w w') (he : e = .returned (.tuple #[.slice none 0 0, .bool false])) : AppendPost l r w e w' := by
  refine ⟨hb, ?_⟩; rw [hc]; exact he
theorem AppendPost.yes {l : List UInt8} {r : Int} {w w' : World} {e : Ending} (hc : cp r = true) (hb : Below w.heap.size w w') {v : Value} (he : e = .returned (.tuple #[v, .bool true]))
    (ho : w'.ownsRow w.heap.size 5 1 v (l.length + (enc r.toNat).length) (bv l ++ bv (enc r.toNat))) : AppendPost l r w e w' := by
  refine ⟨hb, ?_⟩; rw [hc]; exact ⟨v, he, by rw [List.length_append, bv_append]; exact ho⟩
set_option maxRecDepth 100000 in
set_option maxHeartbeats 1000000 in
theorem append_any (A : Option Addr) (c : Nat) (l : List UInt8) (r : Int) (B : Nat) (w : World) (hr : Rd w B A (bv l)) (hB : B ≤ w.heap.size) (hnil : A = none → c = 0) (hlen : l.length ≤ 16777216) :
    Calls Tryz.prog 140 #[.slice A l.length c, .int .i64 r] w fun e w' => AppendPost l r w e w' := by
  have HR := Lib.hid hr
  have HN := Lib.hid hnil
  clear hr hnil
  obtain ⟨i0, hi, hz0, hz1, hz2⟩ := info_parts inf_u8
  cases hc : cp r with
  | false =>
    go_enter Tryz.func140, Tryz.ntmps140
    go_wp2_with (go_at_call 48; refine (isCp _ _).mono ?_; rintro e w' ⟨rfl, rfl⟩)
    go_ret2
    exact AppendPost.no hc (Below.refl _ _) rfl
  | true =>
    have hcr := cp_range_int hc
    have hlb := bv_length l
    have HL := Lib.hid hlb
    clear hlb
    go_enter Tryz.func140, Tryz.ntmps140
    go_wp2_with (first
      | (go_at_call 48; refine (isCp _ _).mono ?_; rintro e w' ⟨rfl, rfl⟩)
      | (at_make; refine wpList_make_own _ rfl _ _ 47 rfl w.heap.size 5 i0 (.int .u8 0) 1 Tryz.underlying47 hi hz0 hz1 .i64 .i64 _ (l.length + 4) rfl rfl (by omega) (by rw [hz2]; omega) (by unfold maxLen; omega) (Nat.le_refl _) ?_; intro w0 hown0 hgrow0)
      | (at_builtin; refine wpList_append_rd _ rfl _ _ 47 rfl w.heap.size 5 i0 (.int .u8 0) 1 Tryz.underlying47 hi hz0 hz1 hz2 rfl _ _ _ rfl hown0 B A c (bv l) (by rw [HL.out]; rfl) (HR.out.grown hgrow0 hB (fun _ h => by cases h)) HN.out (bv_one _) (by rw [HL.out]; unfold maxLen; omega) (by rw [HL.out]; omega) hgrow0.size ?_; intro v1 w1 hown1 hgrow1))
    have hb0 : Below w.heap.size w w0 := (Below.refl _ _).grown hgrow0 (Nat.le_refl _) (fun _ h => by cases h)
    have hb1 : Below w.heap.size w w1 := hb0.grown hgrow1 hgrow0.size (fun j hj => (hown0.lt j hj).1)
    rw [HL.out] at hown1
    simp only [Nat.zero_add, List.nil_append] at hown1
    clear hgrow0 hgrow1 hown0 hb0
    refine (app_any v1 r hcr.1 hcr.2 _ w.heap.size l.length (bv l) hown1 (by omega) hb1.size).mono ?_
    rintro e w2 ⟨v2, rfl, hown2, hb2⟩
    have hb3 := hb1.trans hb2
    clear hown1 hb1 hb2
    go_wp2
    go_ret2
    exact AppendPost.yes hc hb3 rfl hown2
end Go.Proofs.YtmfjpcmbdgbjjaaGreatDoor
namespace Go.Proofs.YtmfjpcmbdgbjjaaGreatDoor
open Go.RowKit
theorem own_belowJ {w w' : World} {base : Nat} {e : TypeId} {size n : Nat} {v : Value} {xs : List Value} (h : w.ownsRow base e size v n xs) (hb : Below w.heap.size w w') : w'.ownsRow base e size v n xs :=
  h.kept (below_grown hb none) (by cases v.ownBlock <;> simp)
def strEj (k t : Nat) (out : List UInt8) : Lx := if out.length ≤ 4096 then okX 4 k t 0 0 ⟨out.toArray⟩ else noX k 2
set_option maxHeartbeats 2000000 in
set_option maxRecDepth 100000 in
theorem finish_str (v : Value) (out : List UInt8) (k t base : Nat) (w : World) (hown : w.ownsRow base 5 1 v out.length (bv out)) (hlen : out.length ≤ 16777216) :
    Calls Tryz.prog 111 #[v, .int .i64 k, .int .i64 t] w (LexPost (strEj k t out) w) := by
  obtain ⟨W1, hW1⟩ : ∃ X, X = w.alloc (.cells #[.int .i64 0, .int .i64 0, .int .i64 0, .int .u8 0, .int .i64 0, .string ⟨#[]⟩] 44) := ⟨_, rfl⟩
  have hc := conv_own (w := W1) (by rw [hW1]; exact hown.alloc _)
  have HBX : Hid (Box W1 w.heap.size 44 #[.int .i64 0, .int .i64 0, .int .i64 0, .int .u8 0, .int .i64 0, .string ⟨#[]⟩]) := Lib.hid (by rw [hW1]; exact Box.laid w _ _)
  have HBL : Hid (Below w.heap.size w W1) := Lib.hid (by rw [hW1]; exact (Below.refl _ _).alloc (Nat.le_refl _) _)
  obtain ⟨A, c, rfl, hl, hr⟩ := own_slice hown
  have HW1 := Lib.hid hW1
  clear hW1 hl hr hown
  by_cases h : out.length ≤ 4096
  · have hx : strEj k t out = okX 4 k t 0 0 ⟨out.toArray⟩ := if_pos h
    rw [hx]
    clear hx
    have hi : ¬ (4096 : Int) < (out.length : Int) := by omega
    go_enter Tryz.func111, Tryz.ntmps111
    go_upto_region 1 with fail
    rw [← HW1.out]
    go_wp2_with (go_at_call 76; refine (found_any _ _ _ _ _ _ _).mono ?_; rintro e w' ⟨rfl, hb'⟩; have bx := HBX.out.below hb' HBX.out.lt; obtain ⟨t0, t1, t2, t3, t4, t5⟩ := box6 bx; obtain ⟨f0, f1, f2, f3, f4, f5⟩ := free6 bx)
    exact lex_ret Tryz.results111 rfl rfl rfl rfl (put6 bx _ _ _ _ _ _) (below_six (Nat.le_refl _) (HBL.out.trans (hb'.mono HBL.out.size)) _ _ _ _ _ _)
  · have hx : strEj k t out = noX k 2 := if_neg h
    rw [hx]
    clear hx
    have hi : (4096 : Int) < (out.length : Int) := by omega
    go_enter Tryz.func111, Tryz.ntmps111
    go_upto_region 1 with fail
    rw [← HW1.out]
    go_wp2_with (go_at_call 74; refine (fail_any _ _ _).mono ?_; rintro e w' ⟨rfl, hb'⟩; have bx := HBX.out.below hb' HBX.out.lt; obtain ⟨t0, t1, t2, t3, t4, t5⟩ := box6 bx; obtain ⟨f0, f1, f2, f3, f4, f5⟩ := free6 bx)
    exact lex_ret Tryz.results111 rfl rfl rfl rfl (put6 bx _ _ _ _ _ _) (below_six (Nat.le_refl _) (HBL.out.trans (hb'.mono HBL.out.size)) _ _ _ _ _ _)
theorem own_nil {w : World} {base n : Nat} {e : TypeId} {A : Option Addr} {m c : Nat} {xs : List Value} (h : w.ownsRow base e 1 (.slice A m c) n xs) : A = none → c = 0 := fun h0 => by
  subst h0
  rcases h.2 with ⟨h1, h2⟩ | ⟨g, cap, cur, h1, _⟩
  · first | (injection h1 with _ _ h3; exact h3) | (injection h2 with _ _ h3; exact h3) | (cases h1; rfl) | (cases h2; rfl)
  · cases h1
def PointPost (base : Nat) (out : List UInt8) (w : World) (e : Ending) (w' : World) : Prop := ∃ v, e = .returned v ∧ w'.ownsRow base 5 1 v out.length (bv out) ∧ Below base w w'
set_option maxHeartbeats 2000000 in
set_option maxRecDepth 100000 in
theorem point_any (v : Value) (out : List UInt8) (r base : Nat) (hc : cp (r : Int) = true) (w : World) (hown : w.ownsRow base 5 1 v out.length (bv out)) (hlen : out.length ≤ 16777216) (hB : base ≤ w.heap.size) :
    Calls Tryz.prog 113 #[v, .int .i64 r] w (PointPost base (out ++ enc r) w) := by
  have hA : Calls Tryz.prog 140 #[.slice none 0 0, .int .i64 r] w fun e w' => ∃ v, e = .returned (.tuple #[v, .bool true]) ∧ w'.ownsRow w.heap.size 5 1 v (enc r).length (bv (enc r)) ∧ Below w.heap.size w w' := by
    refine (append_any none 0 [] r w.heap.size w (Rd.nil _ _ _) (Nat.le_refl _) (fun _ => rfl) (by simp)).mono fun e w' h => ?_
    obtain ⟨hb, h⟩ := h
    rw [hc] at h
    obtain ⟨v, h1, h2⟩ := h
    exact ⟨v, h1, h2, hb⟩
  have HA := Lib.hid hA
  obtain ⟨A0, c0, rfl, hl0, -⟩ := own_slice hown
  have HO := Lib.hid hown
  clear hl0
  obtain ⟨i0, hi, hz0, hz1, hz2⟩ := info_parts inf_u8
  have hel := enc_len r
  clear hA hown
  go_enter Tryz.func113, Tryz.ntmps113
  go_wp2_with (first
    | (go_at_call 140; refine HA.out.mono ?_; rintro e w1 ⟨v1, rfl, hown1, hb1⟩; obtain ⟨A1, c1, rfl, hl1, hr1⟩ := own_slice hown1; have HO1 := Lib.hid (own_belowJ HO.out hb1); have HR := Lib.hid hr1; have HN := Lib.hid (own_nil hown1); have HLB := Lib.hid (bv_length (enc r)); have hB1 : base ≤ w1.heap.size := Nat.le_trans hB hb1.size; have HBL := Lib.hid (hb1.mono hB); clear hown1 hr1 hl1 hb1)
    | (at_builtin; refine wpList_append_rd _ rfl _ _ 47 rfl base 5 i0 (.int .u8 0) 1 Tryz.underlying47 hi hz0 hz1 hz2 rfl (.slice A0 out.length c0) out.length (bv out) rfl HO1.out w1.heap.size A1 c1 (bv (enc r)) (by rw [HLB.out]; rfl) HR.out HN.out (bv_one _) (by rw [HLB.out]; unfold maxLen; omega) (by rw [HLB.out]; omega) hB1 ?_; intro v2 w2 hown2 hgrow2; rw [HLB.out] at hown2))
  go_ret
  exact ⟨_, rfl, by rw [List.length_append, bv_append]; exact hown2, HBL.out.grown hgrow2 hB1 (fun j hj => (HO1.out.lt j hj).1)⟩
end Go.Proofs.YtmfjpcmbdgbjjaaGreatDoor

/- The contracts of the functions that append encodings. -/
import Derived.Test.YtgclmnlnbjjgkaaDoorUtf1
import Derived.Lib.Hide
import Derived.Deep.CutBlock
import Derived.Deep.DeepCutAuto
import Derived.Test.YtgclmnlnbjjgkaaDoorEncPlain
set_option linter.unusedVariables false
set_option linter.unusedSimpArgs false
namespace Go.Proofs.YtgclmnlnbjjgkaaDoor
open Go.RowKit
theorem inf_u8 : (Tryd.prog.info? 5).map (fun i => (i.zero, i.size, i.bytes)) = some (some (.int .u8 0), 1, 1) := by kernel_rfl
/-- Bytes as values. -/
def bv (l : List UInt8) : List Value := l.map fun b => Value.int .u8 (b.toNat : Int)
theorem bv_append (l m : List UInt8) : bv (l ++ m) = bv l ++ bv m := by simp [bv]
theorem bv_length (l : List UInt8) : (bv l).length = l.length := by simp [bv]
theorem bv_one (l : List UInt8) : ∀ u ∈ bv l, u.oneCell' = true := by
  intro u hu; simp only [bv, List.mem_map] at hu; obtain ⟨b, _, rfl⟩ := hu; rfl
theorem tail_z (z : Int) (h0 : 0 ≤ z) (h1 : z < 4294967296) (w : World) :
    Calls Tryd.prog 70 #[.int .i64 z] w fun e w' => e = .returned (.int .u8 (128 + z % 64)) ∧ w = w' := by
  obtain ⟨r, rfl⟩ := Int.eq_ofNat_of_zero_le h0
  have h := tail_any r (by omega) w
  rw [show ((128 + r % 64 : Nat) : Int) = 128 + (r : Int) % 64 from by omega] at h
  exact h
theorem u8v {n : Nat} {z : Int} (h : n < 256) (hz : z = n) : Value.int .u8 z = Value.int .u8 ((UInt8.ofNat n).toNat : Int) := by
  rw [toNat_ofNat h, hz]
theorem new_cells (w : World) (t : TypeId) (l : List Value) : ∀ (j : Nat) (u : Value), l[j]? = some u → (w.alloc (.cells l.toArray t)).cell? ((⟨w.heap.size, 0, none⟩ : Addr).add j) = some u := by
  intro j u hj
  have h1 : (w.alloc (.cells l.toArray t)).heap[w.heap.size]? = some (.cells l.toArray t) := by
    exact (MapKept.heap_alloc w _).1
  have h2 := cell_of_row (w.alloc (.cells l.toArray t)) w.heap.size j l.toArray t (0, 0) h1
  have h3 : ((⟨w.heap.size, 0, none⟩ : Addr).add j) = ⟨w.heap.size, j, none⟩ := by
    unfold Addr.add
    by_cases h : j = 0 <;> simp [h]
  rw [h3, h2]
  simpa using hj
/-- What an append onto a row of the call's own leaves. -/
def AppPost (B : Nat) (base : Nat) (n : Nat) (xs : List Value) (w : World) (e : Ending) (w' : World) : Prop :=
  ∃ v', e = .returned v' ∧ w'.ownsRow base 5 1 v' n xs ∧ Below B w w' 
theorem AppPost.mk {B base n : Nat} {xs : List Value} {w w' : World} {e : Ending} {v' : Value} (he : e = .returned v') (ho : w'.ownsRow base 5 1 v' n xs) (hb : Below B w w') : AppPost B base n xs w e w' := ⟨v', he, ho, hb⟩
set_option maxRecDepth 100000 in
set_option maxHeartbeats 1000000 in
theorem app_1 (sl : Value) (r : Int) (h0 : 0 ≤ r) (h1 : r < 128) (w : World) (base n : Nat) (xs : List Value) (hown : w.ownsRow base 5 1 sl n xs) (hn : n ≤ 4294967296) (hB : base ≤ w.heap.size) :
    Calls Tryd.prog 66 #[sl, .int .i64 r] w fun e w' => AppPost base base (n + (enc r.toNat).length) (xs ++ bv (enc r.toNat)) w e w' := by
  have he : enc r.toNat = [UInt8.ofNat r.toNat] := by
    unfold enc; rw [if_pos (by omega)]
  have hl : Hid (([.int .u8 (r)] : List Value) = bv (enc r.toNat)) := Lib.hid (by
    rw [he]
    simp only [bv, List.map_cons, List.map_nil]
    rw [u8v (n := r.toNat) (z := r) (by omega) (by omega)])
  have hk : Hid ((enc r.toNat).length = 1) := Lib.hid (by rw [he]; rfl)
  clear he
  obtain ⟨i0, hi, hz0, hz1, hz2⟩ := info_parts inf_u8
  have HO := Lib.hid hown
  clear hown
  go_enter Tryd.func66, Tryd.ntmps66
  go_wp2_with (first
    | (go_at_call 70; refine (tail_z _ (by omega) (by omega) _).mono ?_; rintro e w' ⟨rfl, rfl⟩)
    | (at_builtin; refine wpList_append_own _ rfl _ _ 56 rfl base 5 i0 (.int .u8 0) 1 1 Tryd.underlying56 hi hz0 hz1 hz2 rfl (by decide) _ _ _ rfl (HO.out.alloc _) ⟨w.heap.size, 0, none⟩ 1 1 [.int .u8 (r)] rfl rfl (new_cells w 5 [.int .u8 (r)]) ?c2 ?c3 ?c4 ?c5 ?_))
  case c2 => rw [hl.out]; exact bv_one _
  case c3 => unfold maxLen; omega
  case c4 => omega
  case c5 => simp; omega
  intro v' w1 hown' hgrow _
  have hb : Below base w w1 := ((Below.refl base w).alloc hB _).grown hgrow (by simp; omega) (fun j hj => (HO.out.lt j hj).1)
  rw [hl.out] at hown'
  clear hgrow
  have HO2 := Lib.hid hown'
  have HB := Lib.hid hb
  clear hown' hb
  go_wp2
  go_ret
  rw [hk.out]
  exact AppPost.mk rfl HO2.out HB.out
set_option maxRecDepth 100000 in
set_option maxHeartbeats 1000000 in
theorem app_2 (sl : Value) (r : Int) (h1 : 128 ≤ r) (h2 : r < 2048) (w : World) (base n : Nat) (xs : List Value) (hown : w.ownsRow base 5 1 sl n xs) (hn : n ≤ 4294967296) (hB : base ≤ w.heap.size) :
    Calls Tryd.prog 66 #[sl, .int .i64 r] w fun e w' => AppPost base base (n + (enc r.toNat).length) (xs ++ bv (enc r.toNat)) w e w' := by
  have he : enc r.toNat = [UInt8.ofNat (192 + r.toNat / 64), UInt8.ofNat (128 + r.toNat % 64)] := by
    unfold enc; rw [if_neg (by omega), if_pos (by omega)]
  have hl : Hid (([.int .u8 (192 + r / 64), .int .u8 (128 + r % 64)] : List Value) = bv (enc r.toNat)) := Lib.hid (by
    rw [he]
    simp only [bv, List.map_cons, List.map_nil]
    rw [u8v (n := 192 + r.toNat / 64) (z := 192 + r / 64) (by omega) (by omega), u8v (n := 128 + r.toNat % 64) (z := 128 + r % 64) (by omega) (by omega)])
  have hk : Hid ((enc r.toNat).length = 2) := Lib.hid (by rw [he]; rfl)
  clear he
  obtain ⟨i0, hi, hz0, hz1, hz2⟩ := info_parts inf_u8
  have HO := Lib.hid hown
  clear hown
  go_enter Tryd.func66, Tryd.ntmps66
  go_wp2_with (first
    | (go_at_call 70; refine (tail_z _ (by omega) (by omega) _).mono ?_; rintro e w' ⟨rfl, rfl⟩)
    | (at_builtin; refine wpList_append_own _ rfl _ _ 56 rfl base 5 i0 (.int .u8 0) 1 1 Tryd.underlying56 hi hz0 hz1 hz2 rfl (by decide) _ _ _ rfl (HO.out.alloc _) ⟨w.heap.size, 0, none⟩ 2 2 [.int .u8 (192 + r / 64), .int .u8 (128 + r % 64)] rfl rfl (new_cells w 5 [.int .u8 (192 + r / 64), .int .u8 (128 + r % 64)]) ?c2 ?c3 ?c4 ?c5 ?_))
  case c2 => rw [hl.out]; exact bv_one _
  case c3 => unfold maxLen; omega
  case c4 => omega
  case c5 => simp; omega
  intro v' w1 hown' hgrow _
  have hb : Below base w w1 := ((Below.refl base w).alloc hB _).grown hgrow (by simp; omega) (fun j hj => (HO.out.lt j hj).1)
  rw [hl.out] at hown'
  clear hgrow
  have HO2 := Lib.hid hown'
  have HB := Lib.hid hb
  clear hown' hb
  go_wp2
  go_ret
  rw [hk.out]
  exact AppPost.mk rfl HO2.out HB.out
set_option maxRecDepth 100000 in
set_option maxHeartbeats 1000000 in
theorem app_3 (sl : Value) (r : Int) (h2 : 2048 ≤ r) (h3 : r < 65536) (w : World) (base n : Nat) (xs : List Value) (hown : w.ownsRow base 5 1 sl n xs) (hn : n ≤ 4294967296) (hB : base ≤ w.heap.size) :
    Calls Tryd.prog 66 #[sl, .int .i64 r] w fun e w' => AppPost base base (n + (enc r.toNat).length) (xs ++ bv (enc r.toNat)) w e w' := by
  have he : enc r.toNat = [UInt8.ofNat (224 + r.toNat / 4096), UInt8.ofNat (128 + r.toNat / 64 % 64), UInt8.ofNat (128 + r.toNat % 64)] := by
    unfold enc; rw [if_neg (by omega), if_neg (by omega), if_pos (by omega)]
  have hl : Hid (([.int .u8 (224 + r / 4096), .int .u8 (128 + r / 64 % 64), .int .u8 (128 + r % 64)] : List Value) = bv (enc r.toNat)) := Lib.hid (by
    rw [he]
    simp only [bv, List.map_cons, List.map_nil]
    rw [u8v (n := 224 + r.toNat / 4096) (z := 224 + r / 4096) (by omega) (by omega), u8v (n := 128 + r.toNat / 64 % 64) (z := 128 + r / 64 % 64) (by omega) (by omega), u8v (n := 128 + r.toNat % 64) (z := 128 + r % 64) (by omega) (by omega)])
  have hk : Hid ((enc r.toNat).length = 3) := Lib.hid (by rw [he]; rfl)
  clear he
  obtain ⟨i0, hi, hz0, hz1, hz2⟩ := info_parts inf_u8
  have HO := Lib.hid hown
  clear hown
  go_enter Tryd.func66, Tryd.ntmps66
  go_wp2_with (first
    | (go_at_call 70; refine (tail_z _ (by omega) (by omega) _).mono ?_; rintro e w' ⟨rfl, rfl⟩)
    | (at_builtin; refine wpList_append_own _ rfl _ _ 56 rfl base 5 i0 (.int .u8 0) 1 1 Tryd.underlying56 hi hz0 hz1 hz2 rfl (by decide) _ _ _ rfl (HO.out.alloc _) ⟨w.heap.size, 0, none⟩ 3 3 [.int .u8 (224 + r / 4096), .int .u8 (128 + r / 64 % 64), .int .u8 (128 + r % 64)] rfl rfl (new_cells w 5 [.int .u8 (224 + r / 4096), .int .u8 (128 + r / 64 % 64), .int .u8 (128 + r % 64)]) ?c2 ?c3 ?c4 ?c5 ?_))
  case c2 => rw [hl.out]; exact bv_one _
  case c3 => unfold maxLen; omega
  case c4 => omega
  case c5 => simp; omega
  intro v' w1 hown' hgrow _
  have hb : Below base w w1 := ((Below.refl base w).alloc hB _).grown hgrow (by simp; omega) (fun j hj => (HO.out.lt j hj).1)
  rw [hl.out] at hown'
  clear hgrow
  have HO2 := Lib.hid hown'
  have HB := Lib.hid hb
  clear hown' hb
  go_wp2
  go_ret
  rw [hk.out]
  exact AppPost.mk rfl HO2.out HB.out
set_option maxRecDepth 100000 in
set_option maxHeartbeats 1000000 in
theorem app_4 (sl : Value) (r : Int) (h3 : 65536 ≤ r) (hr : r ≤ 1114111) (w : World) (base n : Nat) (xs : List Value) (hown : w.ownsRow base 5 1 sl n xs) (hn : n ≤ 4294967296) (hB : base ≤ w.heap.size) :
    Calls Tryd.prog 66 #[sl, .int .i64 r] w fun e w' => AppPost base base (n + (enc r.toNat).length) (xs ++ bv (enc r.toNat)) w e w' := by
  have he : enc r.toNat = [UInt8.ofNat (240 + r.toNat / 262144), UInt8.ofNat (128 + r.toNat / 4096 % 64), UInt8.ofNat (128 + r.toNat / 64 % 64), UInt8.ofNat (128 + r.toNat % 64)] := by
    unfold enc; rw [if_neg (by omega), if_neg (by omega), if_neg (by omega)]
  have hl : Hid (([.int .u8 (240 + r / 262144), .int .u8 (128 + r / 4096 % 64), .int .u8 (128 + r / 64 % 64), .int .u8 (128 + r % 64)] : List Value) = bv (enc r.toNat)) := Lib.hid (by
    rw [he]
    simp only [bv, List.map_cons, List.map_nil]
    rw [u8v (n := 240 + r.toNat / 262144) (z := 240 + r / 262144) (by omega) (by omega), u8v (n := 128 + r.toNat / 4096 % 64) (z := 128 + r / 4096 % 64) (by omega) (by omega), u8v (n := 128 + r.toNat / 64 % 64) (z := 128 + r / 64 % 64) (by omega) (by omega), u8v (n := 128 + r.toNat % 64) (z := 128 + r % 64) (by omega) (by omega)])
  have hk : Hid ((enc r.toNat).length = 4) := Lib.hid (by rw [he]; rfl)
  clear he
  obtain ⟨i0, hi, hz0, hz1, hz2⟩ := info_parts inf_u8
  have HO := Lib.hid hown
  clear hown
  go_enter Tryd.func66, Tryd.ntmps66
  go_wp2_with (first
    | (go_at_call 70; refine (tail_z _ (by omega) (by omega) _).mono ?_; rintro e w' ⟨rfl, rfl⟩)
    | (at_builtin; refine wpList_append_own _ rfl _ _ 56 rfl base 5 i0 (.int .u8 0) 1 1 Tryd.underlying56 hi hz0 hz1 hz2 rfl (by decide) _ _ _ rfl (HO.out.alloc _) ⟨w.heap.size, 0, none⟩ 4 4 [.int .u8 (240 + r / 262144), .int .u8 (128 + r / 4096 % 64), .int .u8 (128 + r / 64 % 64), .int .u8 (128 + r % 64)] rfl rfl (new_cells w 5 [.int .u8 (240 + r / 262144), .int .u8 (128 + r / 4096 % 64), .int .u8 (128 + r / 64 % 64), .int .u8 (128 + r % 64)]) ?c2 ?c3 ?c4 ?c5 ?_))
  case c2 => rw [hl.out]; exact bv_one _
  case c3 => unfold maxLen; omega
  case c4 => omega
  case c5 => simp; omega
  intro v' w1 hown' hgrow _
  have hb : Below base w w1 := ((Below.refl base w).alloc hB _).grown hgrow (by simp; omega) (fun j hj => (HO.out.lt j hj).1)
  rw [hl.out] at hown'
  clear hgrow
  have HO2 := Lib.hid hown'
  have HB := Lib.hid hb
  clear hown' hb
  go_wp2
  go_ret
  rw [hk.out]
  exact AppPost.mk rfl HO2.out HB.out
theorem app_any (sl : Value) (r : Int) (h0 : 0 ≤ r) (hr : r ≤ 1114111) (w : World) (base n : Nat) (xs : List Value) (hown : w.ownsRow base 5 1 sl n xs) (hn : n ≤ 4294967296) (hB : base ≤ w.heap.size) :
    Calls Tryd.prog 66 #[sl, .int .i64 r] w fun e w' => AppPost base base (n + (enc r.toNat).length) (xs ++ bv (enc r.toNat)) w e w' := by
  by_cases h1 : r < 128
  · exact app_1 sl r h0 h1 w base n xs hown hn hB
  by_cases h2 : r < 2048
  · exact app_2 sl r (by omega) h2 w base n xs hown hn hB
  by_cases h3 : r < 65536
  · exact app_3 sl r (by omega) h3 w base n xs hown hn hB
  · exact app_4 sl r (by omega) hr w base n xs hown hn hB
end Go.Proofs.YtgclmnlnbjjgkaaDoor

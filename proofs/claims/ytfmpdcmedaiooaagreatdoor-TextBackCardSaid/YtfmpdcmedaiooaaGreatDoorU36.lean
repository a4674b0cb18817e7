/- jsonwrite's appendCode, appendByte and appendString, onto a row of the call's own. The last step of a law's row: the call has answered true, and nothing that was there has changed. Nothing of the program is named here. A value that came in reads as a tree. An api.Value that came in reads as a tree. The numbers of a value that came in lie in the range of 64 bits. -/
import Derived.Test.YtfmpdcmedaiooaaGreatDoorU35
import Derived.Test.YtfmpdcmedaiooaaGreatDoorU01
import Derived.WalkKit
import Derived.ProofKit
import Derived.OpenShut
import Derived.Carry
import Derived.KernelRfl
import Derived.SliceStrings
import Derived.SizedLaws
import Derived.Test.YtfmpdcmedaiooaaGreatDoorRows
import Derived.Test.YtfmpdcmedaiooaaGreatDoorU09
set_option linter.unusedVariables false
set_option linter.unusedSimpArgs false
namespace Go.Proofs.YtfmpdcmedaiooaaGreatDoor
open Go.RowKit
set_option maxHeartbeats 4000000 in
set_option maxRecDepth 100000 in
theorem code_any (x : Int) (hx0 : 0 ≤ x) (hx1 : x ≤ 255) (base n c : Nat) (A : Option Addr) (out : List UInt8) (w : World) (hown : w.ownsRow base 5 1 (.slice A n c) n (bv out)) (hb : base ≤ w.heap.size) (hn : n ≤ 268435456) (ht : TabB base w) :
    Calls Tryz.prog 143 #[.slice A n c, .int .u8 x] w (AppC base w (out ++ [92, 117, 48, 48, hx (x / 16).toNat, hx (x % 16).toNat])) := by
  obtain ⟨i0, hi, hz0, hz1, hz2⟩ := info_parts inf_u8
  have HO := Lib.hid hown
  have HT := Lib.hid ht
  clear hown ht
  have hd0 : 0 ≤ x / 16 := by omega
  have hd1 : x / 16 < 16 := by omega
  have hm0 : 0 ≤ x % 16 := by omega
  have hm1 : x % 16 < 16 := by omega
  have han := band15 hx0 hx1
  have HSZ : Hid ((⟨#[92, 117, 48, 48]⟩ : ByteArray).size = 4) := Lib.hid rfl
  have HQV : Hid (Lib.strCells ⟨#[92, 117, 48, 48]⟩ = bv [92, 117, 48, 48]) := Lib.hid rfl
  go_enter Tryz.func143, Tryz.ntmps143
  go_wp2_with (first
    | (at_builtin; refine wpList_app_string _ rfl _ _ 55 9 rfl base 5 i0 Tryz.underlying55 Tryz.underlying9 hi hz0 hz1 hz2 (.slice A n c) n (bv out) rfl HO.out ⟨#[92, 117, 48, 48]⟩ rfl (by rw [HSZ.out]; omega) (by omega) 4 (bv [92, 117, 48, 48]) HSZ.out HQV.out ?_; intro A1 c1 w1 hown1 hbel1; rw [← bv_append] at hown1; replace hbel1 := hbel1.below (base := base) (by omega) (own_ge HO.out); have hle1 : base ≤ w1.heap.size := Nat.le_trans hb hbel1.size)
    | (go_at_call 175; (with_reducible refine (appendHex_any (x / 16) hd0 hd1 base _ _ _ _ _ hown1 hle1 (by omega) (HT.out.on hbel1)).mono ?_); rintro e w2 ⟨A2, n2, c2, rfl, hown2, hbel2⟩; have hln2 := own_len hown2; simp only [List.length_append, List.length_cons, List.length_nil] at hln2; have hln1 := own_len hown1; simp only [List.length_append, List.length_cons, List.length_nil] at hln1; have hle2 : base ≤ w2.heap.size := Nat.le_trans hle1 hbel2.size; have hn2 : n2 ≤ 536870912 := (by omega); clear hln1 hln2)
    | (go_at_call 175; (with_reducible refine (appendHex_any (x % 16) hm0 hm1 base _ _ _ _ _ hown2 hle2 hn2 ((HT.out.on hbel1).on hbel2)).mono ?_); rintro e w3 ⟨A3, n3, c3, rfl, hown3, hbel3⟩))
  go_ret
  refine ⟨A3, n3, c3, rfl, ?_, (hbel1.trans hbel2).trans hbel3⟩
  have e : out ++ [92, 117, 48, 48] ++ [hx (x / 16).toNat] ++ [hx (x % 16).toNat] = out ++ [92, 117, 48, 48, hx (x / 16).toNat, hx (x % 16).toNat] := by simp
  rw [← e]
  exact hown3
set_option maxHeartbeats 8000000 in
set_option maxRecDepth 100000 in
theorem byte_any (b : UInt8) (base n c : Nat) (A : Option Addr) (out : List UInt8) (w : World) (hown : w.ownsRow base 5 1 (.slice A n c) n (bv out)) (hb : base ≤ w.heap.size) (hn : n ≤ 268435456) (ht : TabB base w) :
    Calls Tryz.prog 100 #[.slice A n c, .int .u8 b.toNat] w (AppC base w (out ++ qb b)) := by
  obtain ⟨i0, hi, hz0, hz1, hz2⟩ := info_parts inf_u8
  have HO := Lib.hid hown
  have HT := Lib.hid ht
  clear hown ht
  have hb255 : b.toNat ≤ 255 := by have := b.toNat_lt; omega
  obtain ⟨x, hxx⟩ : ∃ x : Int, (b.toNat : Int) = x := ⟨_, rfl⟩
  have hx0 : 0 ≤ x := by omega
  have hx255 : x ≤ 255 := by omega
  have HQ := Lib.hid (qb_of hxx)
  have HX := Lib.hid hxx
  rw [hxx]
  clear hb255 hxx
  by_cases h34 : x = 34
  · subst h34
    have HQB : Hid (qb b = [92, b]) := Lib.hid (by rw [HQ.out]; exact if_pos (.inl rfl))
    have HQV : Hid (([.int .u8 (92), .int .u8 (34)] : List Value) = bv (qb b)) := Lib.hid (by rw [HQB.out]; simp only [bv, List.map_cons, List.map_nil, HX.out]; rfl)
    go_enter Tryz.func100, Tryz.ntmps100
    go_wp2_with (at_builtin; refine wpList_app_cells _ rfl _ _ 55 rfl base 5 i0 (.int .u8 0) Tryz.underlying55 hi hz0 hz1 hz2 rfl (.slice A n c) n (bv out) rfl (HO.out.alloc _) ⟨w.heap.size, 0, none⟩ 2 2 [.int .u8 (92), .int .u8 (34)] rfl rfl (new_cells w 5 [.int .u8 (92), .int .u8 (34)]) (by omega) (by simp; omega) (bv (qb b)) HQV.out (bv_one _) ?_; intro A2 c2 w2 hown2 happ2; rw [← bv_append] at hown2; replace happ2 := (happ2.pre (Below.alloc (Below.refl _ _) (Nat.le_refl _) _)).below (base := base) (by omega) (own_ge HO.out))
    go_ret
    exact ⟨A2, _, c2, rfl, hown2, happ2⟩
  have q34 : (x == 34) = false := beq_eq_false_iff_ne.2 h34
  by_cases h92 : x = 92
  · subst h92
    clear q34
    have HQB : Hid (qb b = [92, b]) := Lib.hid (by rw [HQ.out]; exact if_pos (.inr rfl))
    have HQV : Hid (([.int .u8 (92), .int .u8 (92)] : List Value) = bv (qb b)) := Lib.hid (by rw [HQB.out]; simp only [bv, List.map_cons, List.map_nil, HX.out]; rfl)
    go_enter Tryz.func100, Tryz.ntmps100
    go_wp2_with (at_builtin; refine wpList_app_cells _ rfl _ _ 55 rfl base 5 i0 (.int .u8 0) Tryz.underlying55 hi hz0 hz1 hz2 rfl (.slice A n c) n (bv out) rfl (HO.out.alloc _) ⟨w.heap.size, 0, none⟩ 2 2 [.int .u8 (92), .int .u8 (92)] rfl rfl (new_cells w 5 [.int .u8 (92), .int .u8 (92)]) (by omega) (by simp; omega) (bv (qb b)) HQV.out (bv_one _) ?_; intro A2 c2 w2 hown2 happ2; rw [← bv_append] at hown2; replace happ2 := (happ2.pre (Below.alloc (Below.refl _ _) (Nat.le_refl _) _)).below (base := base) (by omega) (own_ge HO.out))
    go_ret
    exact ⟨A2, _, c2, rfl, hown2, happ2⟩
  have q92 : (x == 92) = false := beq_eq_false_iff_ne.2 h92
  by_cases h8 : x = 8
  · subst h8
    have HQB : Hid (qb b = [92, 98]) := Lib.hid (by rw [HQ.out, if_neg (by omega), if_pos rfl])
    have HSZ : Hid ((⟨#[92, 98]⟩ : ByteArray).size = 2) := Lib.hid rfl
    have HQV : Hid (Lib.strCells ⟨#[92, 98]⟩ = bv (qb b)) := Lib.hid (by rw [HQB.out]; rfl)
    go_enter Tryz.func100, Tryz.ntmps100
    go_wp2_with (at_builtin; refine wpList_app_string _ rfl _ _ 55 9 rfl base 5 i0 Tryz.underlying55 Tryz.underlying9 hi hz0 hz1 hz2 (.slice A n c) n (bv out) rfl HO.out ⟨#[92, 98]⟩ rfl (by rw [HSZ.out]; omega) (by omega) 2 (bv (qb b)) HSZ.out HQV.out ?_; intro A2 c2 w2 hown2 happ2; rw [← bv_append] at hown2; replace happ2 := happ2.below (base := base) (by omega) (own_ge HO.out))
    go_ret
    exact ⟨A2, _, c2, rfl, hown2, happ2⟩
  have q8 : (x == 8) = false := beq_eq_false_iff_ne.2 h8
  by_cases h9 : x = 9
  · subst h9
    have HQB : Hid (qb b = [92, 116]) := Lib.hid (by rw [HQ.out, if_neg (by omega), if_neg (by omega), if_pos rfl])
    have HSZ : Hid ((⟨#[92, 116]⟩ : ByteArray).size = 2) := Lib.hid rfl
    have HQV : Hid (Lib.strCells ⟨#[92, 116]⟩ = bv (qb b)) := Lib.hid (by rw [HQB.out]; rfl)
    go_enter Tryz.func100, Tryz.ntmps100
    go_wp2_with (at_builtin; refine wpList_app_string _ rfl _ _ 55 9 rfl base 5 i0 Tryz.underlying55 Tryz.underlying9 hi hz0 hz1 hz2 (.slice A n c) n (bv out) rfl HO.out ⟨#[92, 116]⟩ rfl (by rw [HSZ.out]; omega) (by omega) 2 (bv (qb b)) HSZ.out HQV.out ?_; intro A2 c2 w2 hown2 happ2; rw [← bv_append] at hown2; replace happ2 := happ2.below (base := base) (by omega) (own_ge HO.out))
    go_ret
    exact ⟨A2, _, c2, rfl, hown2, happ2⟩
  have q9 : (x == 9) = false := beq_eq_false_iff_ne.2 h9
  by_cases h10 : x = 10
  · subst h10
    have HQB : Hid (qb b = [92, 110]) := Lib.hid (by rw [HQ.out, if_neg (by omega), if_neg (by omega), if_neg (by omega), if_pos rfl])
    have HSZ : Hid ((⟨#[92, 110]⟩ : ByteArray).size = 2) := Lib.hid rfl
    have HQV : Hid (Lib.strCells ⟨#[92, 110]⟩ = bv (qb b)) := Lib.hid (by rw [HQB.out]; rfl)
    go_enter Tryz.func100, Tryz.ntmps100
    go_wp2_with (at_builtin; refine wpList_app_string _ rfl _ _ 55 9 rfl base 5 i0 Tryz.underlying55 Tryz.underlying9 hi hz0 hz1 hz2 (.slice A n c) n (bv out) rfl HO.out ⟨#[92, 110]⟩ rfl (by rw [HSZ.out]; omega) (by omega) 2 (bv (qb b)) HSZ.out HQV.out ?_; intro A2 c2 w2 hown2 happ2; rw [← bv_append] at hown2; replace happ2 := happ2.below (base := base) (by omega) (own_ge HO.out))
    go_ret
    exact ⟨A2, _, c2, rfl, hown2, happ2⟩
  have q10 : (x == 10) = false := beq_eq_false_iff_ne.2 h10
  by_cases h12 : x = 12
  · subst h12
    have HQB : Hid (qb b = [92, 102]) := Lib.hid (by rw [HQ.out, if_neg (by omega), if_neg (by omega), if_neg (by omega), if_neg (by omega), if_pos rfl])
    have HSZ : Hid ((⟨#[92, 102]⟩ : ByteArray).size = 2) := Lib.hid rfl
    have HQV : Hid (Lib.strCells ⟨#[92, 102]⟩ = bv (qb b)) := Lib.hid (by rw [HQB.out]; rfl)
    go_enter Tryz.func100, Tryz.ntmps100
    go_wp2_with (at_builtin; refine wpList_app_string _ rfl _ _ 55 9 rfl base 5 i0 Tryz.underlying55 Tryz.underlying9 hi hz0 hz1 hz2 (.slice A n c) n (bv out) rfl HO.out ⟨#[92, 102]⟩ rfl (by rw [HSZ.out]; omega) (by omega) 2 (bv (qb b)) HSZ.out HQV.out ?_; intro A2 c2 w2 hown2 happ2; rw [← bv_append] at hown2; replace happ2 := happ2.below (base := base) (by omega) (own_ge HO.out))
    go_ret
    exact ⟨A2, _, c2, rfl, hown2, happ2⟩
  have q12 : (x == 12) = false := beq_eq_false_iff_ne.2 h12
  by_cases h13 : x = 13
  · subst h13
    have HQB : Hid (qb b = [92, 114]) := Lib.hid (by rw [HQ.out, if_neg (by omega), if_neg (by omega), if_neg (by omega), if_neg (by omega), if_neg (by omega), if_pos rfl])
    have HSZ : Hid ((⟨#[92, 114]⟩ : ByteArray).size = 2) := Lib.hid rfl
    have HQV : Hid (Lib.strCells ⟨#[92, 114]⟩ = bv (qb b)) := Lib.hid (by rw [HQB.out]; rfl)
    go_enter Tryz.func100, Tryz.ntmps100
    go_wp2_with (at_builtin; refine wpList_app_string _ rfl _ _ 55 9 rfl base 5 i0 Tryz.underlying55 Tryz.underlying9 hi hz0 hz1 hz2 (.slice A n c) n (bv out) rfl HO.out ⟨#[92, 114]⟩ rfl (by rw [HSZ.out]; omega) (by omega) 2 (bv (qb b)) HSZ.out HQV.out ?_; intro A2 c2 w2 hown2 happ2; rw [← bv_append] at hown2; replace happ2 := happ2.below (base := base) (by omega) (own_ge HO.out))
    go_ret
    exact ⟨A2, _, c2, rfl, hown2, happ2⟩
  have q13 : (x == 13) = false := beq_eq_false_iff_ne.2 h13
  by_cases hlow : x < 32
  · have HQB : Hid (qb b = [92, 117, 48, 48, hx (x / 16).toNat, hx (x % 16).toNat]) := Lib.hid (by
      rw [HQ.out, if_neg (by omega), if_neg (by omega), if_neg (by omega), if_neg (by omega), if_neg (by omega), if_neg (by omega), if_pos hlow]
      have e1 : b.toNat / 16 = (x / 16).toNat := by have := HX.out; omega
      have e2 : b.toNat % 16 = (x % 16).toNat := by have := HX.out; omega
      rw [e1, e2])
    rw [HQB.out]
    have HC := Lib.hid (code_any x hx0 hx255 base n c A out w HO.out hb hn HT.out)
    go_enter Tryz.func100, Tryz.ntmps100
    go_wp2_with (go_at_call 143; refine HC.out.mono ?_; rintro e w2 ⟨A2, n2, c2, rfl, hown2, hbel2⟩)
    go_ret
    exact ⟨A2, n2, c2, rfl, hown2, hbel2⟩
  · have HQB : Hid (qb b = [b]) := Lib.hid (by rw [HQ.out, if_neg (by omega), if_neg (by omega), if_neg (by omega), if_neg (by omega), if_neg (by omega), if_neg (by omega), if_neg hlow])
    have HQV : Hid (([.int .u8 (x)] : List Value) = bv (qb b)) := Lib.hid (by rw [HQB.out]; simp only [bv, List.map_cons, List.map_nil, HX.out])
    go_enter Tryz.func100, Tryz.ntmps100
    go_wp2_with (at_builtin; refine wpList_app_cells _ rfl _ _ 55 rfl base 5 i0 (.int .u8 0) Tryz.underlying55 hi hz0 hz1 hz2 rfl (.slice A n c) n (bv out) rfl (HO.out.alloc _) ⟨w.heap.size, 0, none⟩ 1 1 [.int .u8 (x)] rfl rfl (new_cells w 5 [.int .u8 (x)]) (by omega) (by simp; omega) (bv (qb b)) HQV.out (bv_one _) ?_; intro A2 c2 w2 hown2 happ2; rw [← bv_append] at hown2; replace happ2 := (happ2.pre (Below.alloc (Below.refl _ _) (Nat.le_refl _) _)).below (base := base) (by omega) (own_ge HO.out))
    go_ret
    exact ⟨A2, _, c2, rfl, hown2, happ2⟩
set_option maxHeartbeats 8000000 in
set_option maxRecDepth 100000 in
theorem wstring_any (s : ByteArray) (hs : s.size ≤ 16777216) (base n c : Nat) (A : Option Addr) (out0 : List UInt8) (w : World) (hown0 : w.ownsRow base 5 1 (.slice A n c) n (bv out0)) (hbase : base ≤ w.heap.size) (hn : n ≤ 134217728) (ht : TabB base w) :
    Calls Tryz.prog 71 #[.slice A n c, .string s] w (AppC base w (out0 ++ qt s.data.toList)) := by
  obtain ⟨i0, hi, hz0, hz1, hz2⟩ := info_parts inf_u8
  have hl : s.data.toList.length = s.size := by simp
  have HL := Lib.hid hl
  have HO0 := Lib.hid hown0
  have HT := Lib.hid ht
  clear hl hown0 ht
  have H34 : Hid (([.int .u8 (34)] : List Value) = bv [34]) := Lib.hid rfl
  go_enter Tryz.func71, Tryz.ntmps71
  go_wp2_with (at_builtin; refine wpList_app_cells _ rfl _ _ 55 rfl base 5 i0 (.int .u8 0) Tryz.underlying55 hi hz0 hz1 hz2 rfl (.slice A n c) n (bv out0) rfl (HO0.out.alloc _) ⟨w.heap.size, 0, none⟩ 1 1 [.int .u8 (34)] rfl rfl (new_cells w 5 [.int .u8 (34)]) (by omega) (by simp; omega) (bv [34]) H34.out (bv_one _) ?_; intro A2 c2 w2 hown2 happ2; rw [← bv_append] at hown2; replace happ2 := (happ2.pre (Below.alloc (Below.refl _ _) (Nat.le_refl _) _)).below (base := base) (by omega) (own_ge HO0.out))
  go_loopw [0, 5, 11] (fun tb _ ti wr => ∃ (A' : Option Addr) (c' m i : Nat) (out : List UInt8), tb = .slice A' m c' ∧ ti = .int .i64 i ∧ wr.ownsRow base 5 1 (.slice A' m c') m (bv out) ∧ Below base w wr ∧ i ≤ s.size ∧ m ≤ n + 1 + 6 * i ∧ Hid (out = out0 ++ 34 :: qbs (s.data.toList.take i))) (fun _ _ ti _ => s.size - (intOf ti).toNat)
  case atStart => exact ⟨A2, c2, _, 0, _, rfl, rfl, hown2, happ2, Nat.zero_le _, by omega, Lib.hid (by simp [qbs_nil])⟩
  case round =>
    clear hown2 happ2 HO0
    obtain ⟨A', c', m, i, out, rfl, rfl, hown, hbel, hil, hol, HOU⟩ := hrel
    have HO := Lib.hid hown
    have HBE := Lib.hid hbel
    have hbw : base ≤ wr.heap.size := Nat.le_trans hbase hbel.size
    clear hown hbel
    by_cases hlt : i < s.size
    · obtain ⟨b, hb⟩ : ∃ b, s[i] = b := ⟨_, rfl⟩
      have HN : Hid (out ++ qb b = out0 ++ 34 :: qbs (s.data.toList.take (i + 1))) := Lib.hid (by
        have h := at_byte hlt hb
        rw [HOU.out, List.take_add_one, h, qbs_append]
        simp [qbs_cons, qbs_nil])
      have HBY := Lib.hid (byte_any b base m c' A' out wr HO.out hbw (by omega) (HT.out.on HBE.out))
      go_wp2_with (go_at_call 100; refine HBY.out.mono ?_; rintro e w2 ⟨A2, n2, c2, rfl, hown2, hbel2⟩; have hl2 := own_len hown2; have hl1 := own_len HO.out; have hl3 := qb_len b; rw [List.length_append] at hl2; have hn2 : n2 ≤ n + 1 + 6 * (i + 1) := (by omega); clear hl1 hl2 hl3)
      go_roundw
      case rel => exact ⟨A2, c2, n2, i + 1, out ++ qb b, rfl, by first | rfl | go_num, hown2, HBE.out.trans hbel2, by omega, hn2, HN⟩
      case measure => simp [intOf]; omega
    · have hie : i = s.size := by omega
      have hfull : out ++ [34] = out0 ++ qt s.data.toList := by
        have h := HOU.out
        rw [hie, ← HL.out, List.take_length] at h
        rw [h]
        simp [qt]
      have HF := Lib.hid hfull
      subst hie
      clear hfull
      go_wp2_with (at_builtin; refine wpList_app_cells _ rfl _ _ 55 rfl base 5 i0 (.int .u8 0) Tryz.underlying55 hi hz0 hz1 hz2 rfl (.slice A' m c') m (bv out) rfl (HO.out.alloc _) ⟨wr.heap.size, 0, none⟩ 1 1 [.int .u8 (34)] rfl rfl (new_cells wr 5 [.int .u8 (34)]) (by omega) (by simp; omega) (bv [34]) H34.out (bv_one _) ?_; intro A2 c2 w2 hown2 happ2; rw [← bv_append] at hown2; replace happ2 := (happ2.pre (Below.alloc (Below.refl _ _) (Nat.le_refl _) _)).below (base := base) (by omega) (own_ge HO.out))
      go_ret
      rw [HF.out] at hown2
      exact ⟨A2, _, c2, rfl, hown2, HBE.out.trans happ2⟩
end Go.Proofs.YtfmpdcmedaiooaaGreatDoor
namespace Go.Proofs.YtfmpdcmedaiooaaGreatDoor
open Go.ChangeShapes Go.WideShapes Go.ChangeAt Go.RowKit
section
variable {H : Type} {enc : TypeId × Value → H} {P : Program}
theorem trodAll_stays (hl : laidOutB P = true) {W W' : World} (hb : Below W.heap.size W W') :
    ∀ {ts : List TypeId} {vs : List Value} {ds : List (DataW H)} {ps : List MemPlace}, (∀ t ∈ ts, P.readableRec t = true ∧ t < P.types.size) →
      DataW.TrodAll enc P W 0 (fun _ => true) true ts vs ds ps → (∀ x ∈ ps, x.block < W.heap.size) → DataW.TrodAll enc P W' 0 (fun b => decide (b < W.heap.size)) true ts vs ds ps := by
  intro ts
  induction ts with
  | nil =>
    intro vs ds ps _ h _
    obtain ⟨rfl, rfl, rfl⟩ := trodAll_nil h
    exact trodAll_mk0
  | cons t ts ih =>
    intro vs ds ps ht h hlt
    obtain ⟨v, vs', d, ds', p, q, rfl, rfl, rfl, h0, h1⟩ := trodAll_cons h
    have t0 := ht t (by simp)
    exact trodAll_cons_mk (Below.trod hl t0.1 t0.2 h0 hb (fun x hx => hlt x (by simp [hx]))) (ih (fun u hu => ht u (by simp [hu])) h1 (fun x hx => hlt x (by simp [hx])))
/-- One closed fact: the parameters' types can be read and are rows of the table. -/
def parsRowed (P : Program) (f : Func) : Bool := f.params.toList.all fun t => P.readableRec t && decide (t < P.types.size)
theorem law_post {f : Func} {s : ChangeSpec} {W W' : World} {args : Array Value} {ds gs : List (DataW H)} {before : List MemPlace} {tb : TypeId}
    (hW : DataW.Whole enc P f.params.toList s.vars false W args.toList ds gs before) (hvars : s.vars = [])
    (hres : (s.fn H (ds ++ gs)).results = [.lit (.bool true)]) (hargs : (s.fn H (ds ++ gs)).args = ds) (hsv : (s.fn H (ds ++ gs)).vars = [])
    (hrt : f.resultTypes = #[tb]) (hbt : P.underlying tb = some .bool) (hl : laidOutB P = true) (hp : parsRowed P f = true) (hB : Below W.heap.size W W') :
    s.post enc P f false true false false W args (.bool true) W' := by
  have hlt : ∀ x ∈ before, x.block < W.heap.size := fun x hx => hW.lt x hx
  have hW2 := hW
  obtain ⟨p, q, hA, hV, rfl, hfz, hnd⟩ := hW2
  rw [hvars] at hV
  obtain ⟨rfl, rfl⟩ := trodVars_none hV
  have hp2 : ∀ t ∈ f.params.toList, P.readableRec t = true ∧ t < P.types.size := by
    intro t ht
    have := List.all_eq_true.1 hp t ht
    simpa using this
  refine ⟨ds, [], p ++ [], [], p, [], hW, ?_, ?_, ?_, hB.frame _ |> World.keptBut_mono (fun x hx => ⟨hx, Or.inr (Or.inl (by simpa using hx))⟩), fun h => by cases h⟩
  · rw [hres, hrt]
    exact trodAll_cons_mk (shut_bool hbt true) trodAll_mk0
  · rw [hargs]
    exact trodAll_stays hl hB hp2 hA (fun x hx => hlt x (by simp [hx]))
  · rw [hsv, hvars]
    exact rfl
/-- A slice of ints that came in. -/
theorem open_ints_rd {w : World} {r : Reach} {b0 : Nat} {t e : TypeId} {k : IntKind} {v : Value} {d : DataW H} {ps : List MemPlace} (ht : P.underlying t = some (.slice e)) (he : P.underlying e = some (.int k)) (hc : P.cellsOf e = 1)
    (hval : Value.okWide P w r b0 t v) (h : DataW.Trod enc P w 0 (fun _ => true) true t v d ps) :
    ∃ (A : Option Addr) (c : Nat) (zs : List Int), v = .slice A zs.length c ∧ Rd w w.heap.size A (zs.map (Value.int k)) ∧ (A = none → c = 0) ∧ zs.length ≤ maxLen ∧ ∀ n ∈ zs, (Lit.int k n).wf = true := by
  obtain ⟨a0, len, cap, rfl⟩ := okWide_slice ht hval
  obtain ⟨fuel, hf⟩ := h
  rcases open_ints ht he hc hf with ⟨hcs, hx⟩ | ⟨a, len', cap', zs, hcs, _, hl, hm, hz, hx, hcell, hw⟩
  · simp [Value.cells] at hcs
    obtain ⟨rfl, rfl, rfl⟩ := hcs
    exact ⟨none, 0, [], rfl, Rd.nil _ _ _, fun _ => rfl, Nat.zero_le _, by simp⟩
  · simp [Value.cells] at hcs
    obtain ⟨rfl, rfl, rfl⟩ := hcs
    have hzl : len ≤ zs.length := by rw [hz]; split <;> omega
    have htl : (zs.take len).length = len := by rw [List.length_take]; omega
    refine ⟨some a, cap, zs.take len, by rw [htl], ?_, (fun h => by cases h), by rw [htl]; omega, fun n hn => hw n (List.mem_of_mem_take hn)⟩
    intro j u hj
    have hjl : j < len := by
      rcases Nat.lt_or_ge j len with h1 | h1
      · exact h1
      · rw [List.getElem?_eq_none (by simp; omega)] at hj; cases hj
    have hcj := hcell j (by omega)
    have hc0 := hcell 0 (by omega)
    obtain ⟨b, o, sp⟩ := a
    have hsp : sp = none := by simpa [Addr.add] using World.cell?_spot hc0
    subst hsp
    have h3 : ((⟨b, o, none⟩ : Addr).add j) = ⟨b, o + j, none⟩ := by
      unfold Addr.add
      by_cases h : j = 0 <;> simp [h]
    rw [h3] at hcj
    refine ⟨b, o, rfl, World.block_lt_of_cell? w _ hcj, ?_⟩
    rw [hcj]
    have hjz : j < zs.length := by omega
    simp only [List.getElem?_map, List.getElem?_take, hjl, if_true] at hj
    rw [List.getElem?_eq_getElem hjz] at hj
    injection hj with hj
    subst hj
    simp [List.getElem?_eq_getElem hjz]
end
end Go.Proofs.YtfmpdcmedaiooaaGreatDoor
namespace Go.Proofs.YtfmpdcmedaiooaaGreatDoor
open Go.ChangeShapes Go.WideShapes Go.ChangeAt Go.RowKit
section
variable {H : Type} {enc : TypeId × Value → H} {w : World}
theorem weightsAll_mem {P : Program} {e : TypeId} {d : DataW H} : ∀ {l : List (DataW H)}, d ∈ l → ∀ n ∈ d.weights P e, n ∈ DataW.weightsAll P e l
  | [], h, _, _ => by cases h
  | x :: r, h, n, hn => by
    rw [DataW.weightsAll, List.mem_append]
    rcases List.mem_cons.1 h with rfl | h
    · exact .inl hn
    · exact .inr (weightsAll_mem h n hn)
/-- No string and no slice of the data takes more than the reach. -/
def Slim (P : Program) (t : TypeId) (d : DataW H) : Prop := ∀ n ∈ d.weights P t, n ≤ 140737488355328
theorem add_off (b o j : Nat) : ((⟨b, o, none⟩ : Addr).add j) = ⟨b, o + j, none⟩ := by
  unfold Addr.add
  by_cases h : j = 0 <;> simp [h]
theorem liesL_range {S : Nat → Prop} {Vf : Nat → V} {C : Nat → List Value} : ∀ len : Nat, (∀ i, i < len → Lies w S (Vf i) (C i)) → LiesL w S ((List.range len).map Vf) ((List.range len).flatMap C)
  | 0, _ => by simp [LiesL]
  | len + 1, h => by
    rw [List.range_succ, List.map_append, List.flatMap_append]
    have := LiesL.snoc (liesL_range len fun i hi => h i (by omega)) (h len (by omega))
    simpa using this
theorem rs_range {S : Nat → Prop} {b o : Nat} {C : Nat → List Value} (hb : ∀ i, S b ∨ i = i + 1) : ∀ len : Nat, (∀ i, i < len → (C i).length = 5 ∧ ∀ r, r < 5 → w.cell? ⟨b, o + i * 5 + r, none⟩ = (C i)[r]?) →
    ((List.range len).flatMap C).length = len * 5 ∧ ∀ j u, ((List.range len).flatMap C)[j]? = some u → w.cell? ⟨b, o + j, none⟩ = some u
  | 0, _ => by simp
  | len + 1, h => by
    obtain ⟨h1, h2⟩ := rs_range hb len fun i hi => h i (by omega)
    obtain ⟨h3, h4⟩ := h len (by omega)
    rw [List.range_succ, List.flatMap_append]
    have e : [len].flatMap C = C len := by simp
    rw [e]
    refine ⟨by rw [List.length_append, h1, h3]; omega, fun j u hj => ?_⟩
    by_cases hlt : j < len * 5
    · rw [List.getElem?_append_left (by omega)] at hj
      exact h2 j u hj
    · rw [List.getElem?_append_right (by omega), h1] at hj
      obtain ⟨hr, -⟩ := List.getElem?_eq_some_iff.1 hj
      have := h4 (j - len * 5) (by omega)
      rw [hj] at this
      rw [← this]
      congr 2
      omega
/-- A slice of strings that came in, in cells. -/
theorem open_keys {P : Program} {t e : TypeId} {fuel : Nat} {cs : List Value} {x : DataW H × List MemPlace} (ht : P.underlying t = some (.slice e)) (he : P.underlying e = some .string) (hc : P.cellsOf e = 1) (hby : 1 ≤ P.bytesOf e)
    (h : DataW.trod enc P w 0 (fun _ => true) true fuel t cs = some x) (hs : Slim P t x.1) :
    ∃ (A : Option Addr) (a : Nat) (ks : List ByteArray), cs = [.slice A ks.length a] ∧ (A = none → a = 0) ∧ (ks.length ≤ a ∧ a ≤ maxLen) ∧ Rs w (· < w.heap.size) A (kv ks) ∧ (∀ k ∈ ks, k.size ≤ 140737488355328) ∧ ks.length ≤ 140737488355328 := by
  rcases open_strings ht he hc h with ⟨rfl, rfl⟩ | ⟨a, len, cap, ss, rfl, -, hl, hm, hsl, rfl, hcell, -⟩
  · exact ⟨none, 0, [], rfl, fun _ => rfl, ⟨Nat.le_refl _, Nat.zero_le _⟩, Rs.nil _ _ _, by simp, Nat.zero_le _⟩
  · simp only [if_true] at hsl
    have htl : (ss.take len).length = len := by rw [List.length_take]; omega
    have hw := hs
    unfold Slim at hw
    simp only [DataW.weights, ht] at hw
    have hn := hw _ List.mem_cons_self
    refine ⟨some a, cap, ss.take len, by rw [htl], (fun h => by cases h), ⟨by omega, hm⟩, ?_, ?_, ?_⟩
    · intro j u hj
      have hjl : j < len := by
        rcases Nat.lt_or_ge j len with h1 | h1
        · exact h1
        · rw [List.getElem?_eq_none (by rw [kv_length]; omega)] at hj; cases hj
      have hcj := hcell j (by omega)
      have hc0 := hcell 0 (by omega)
      obtain ⟨b, o, sp⟩ := a
      have hsp : sp = none := by simpa [Addr.add] using World.cell?_spot hc0
      subst hsp
      rw [add_off] at hcj
      refine ⟨b, o, rfl, World.block_lt_of_cell? w _ hcj, ?_⟩
      rw [hcj]
      have hjz : j < ss.length := by omega
      simp only [kv, List.getElem?_map, List.getElem?_take, hjl, if_true] at hj
      rw [List.getElem?_eq_getElem hjz] at hj
      injection hj with hj
      subst hj
      simp [List.getD, List.getElem?_eq_getElem hjz]
    · intro k hk
      have := hw k.data.toList.length (List.mem_cons_of_mem _ (List.mem_append_left _ (weightsAll_mem (d := .lit (.string k.data.toList)) (by simp only [strs, List.mem_map]; exact ⟨k, hk, rfl⟩) _ (by simp [DataW.weights]))))
      simpa using this
    · rw [htl]
      have h0 : (strs (H := H) (ss.take len)).length + (strs (H := H) (ss.drop len)).length = ss.length := by simp [strs]; omega
      rw [h0] at hn
      have := Nat.mul_le_mul_left ss.length hby
      omega
end
end Go.Proofs.YtfmpdcmedaiooaaGreatDoor
namespace Go.Proofs.YtfmpdcmedaiooaaGreatDoor
open Go.ChangeShapes Go.WideShapes Go.ChangeAt Go.RowKit
section
variable {H : Type} {enc : TypeId × Value → H} {w : World}
theorem struct_value : ∃ f0 f1 f2 f3 f4 : Field, Tryz.prog.underlying 25 = some (.struct #[f0, f1, f2, f3, f4]) ∧ (f0.type = 3 ∧ f0.offset = 0) ∧ (f1.type = 2 ∧ f1.offset = 1) ∧ (f2.type = 9 ∧ f2.offset = 2) ∧ (f3.type = 22 ∧ f3.offset = 3) ∧ (f4.type = 23 ∧ f4.offset = 4) :=
  ⟨_, _, _, _, _, Tryz.underlying25, ⟨rfl, rfl⟩, ⟨rfl, rfl⟩, ⟨rfl, rfl⟩, ⟨rfl, rfl⟩, ⟨rfl, rfl⟩⟩
theorem cells_facts : Tryz.prog.cellsOf 3 = 1 ∧ Tryz.prog.cellsOf 2 = 1 ∧ Tryz.prog.cellsOf 9 = 1 ∧ Tryz.prog.cellsOf 22 = 1 ∧ Tryz.prog.cellsOf 23 = 1 ∧ Tryz.prog.cellsOf 25 = 5 :=
  ⟨by kernel_rfl, by kernel_rfl, by kernel_rfl, by kernel_rfl, by kernel_rfl, by kernel_rfl⟩
theorem bytes_facts : Tryz.prog.bytesOf 9 = 16 ∧ Tryz.prog.bytesOf 25 = 80 := ⟨by kernel_rfl, by kernel_rfl⟩
/-- A slice of values that came in, where each value is known to read as a tree. -/
theorem open_elems {n0 : Nat} (ih : ∀ n, n < n0 → ∀ (cs : List Value) (x : DataW H × List MemPlace), DataW.trod enc Tryz.prog w 0 (fun _ => true) true n 25 cs = some x → Slim Tryz.prog 25 x.1 → ∃ v, Lies w (· < w.heap.size) v cs)
    {cs : List Value} {x : DataW H × List MemPlace} (h : DataW.trod enc Tryz.prog w 0 (fun _ => true) true n0 23 cs = some x) (hs : Slim Tryz.prog 23 x.1) :
    ∃ (B : Option Addr) (b : Nat) (es : List V) (xs : List Value), cs = [.slice B es.length b] ∧ (B = none → b = 0) ∧ (es.length ≤ b ∧ b ≤ maxLen) ∧ Rs w (· < w.heap.size) B xs ∧ LiesL w (· < w.heap.size) es xs ∧ es.length ≤ 140737488355328 := by
  rcases DataW.trod_slice Tryz.underlying23 h with ⟨rfl, rfl⟩ | ⟨a, len, cap, elems, rest, n, rfl, rfl, rfl, -, hl, hm, hlen, hel, hsp, -⟩
  · exact ⟨none, 0, [], [], rfl, fun _ => rfl, ⟨Nat.le_refl _, Nat.zero_le _⟩, Rs.nil _ _ _, by rw [LiesL], Nat.zero_le _⟩
  · have hw := hs
    unfold Slim at hw
    simp only [DataW.weights, Tryz.underlying23] at hw
    have hn := hw _ List.mem_cons_self
    rw [bytes_facts.2] at hn
    simp only [List.length_map] at hn
    have hlenb : len ≤ 140737488355328 := by omega
    have hone : ∀ i, i < len → ∃ (v : V) (c : List Value), Lies w (· < w.heap.size) v c ∧ c.length = 5 ∧ ∀ r, r < 5 → w.cell? ((a.add (i * 5)).add r) = c[r]? := by
      intro i hi
      obtain ⟨y, hy⟩ : ∃ y, elems[i]? = some y := ⟨_, List.getElem?_eq_getElem (by omega)⟩
      have h1 := hel i hi
      rw [hy, cells_facts.2.2.2.2.2] at h1
      obtain ⟨c, hc, ht⟩ := Option.bind_eq_some_iff.1 h1
      obtain ⟨v, hv⟩ := ih n (by omega) c y ht (fun q hq => hw q (List.mem_cons_of_mem _ (List.mem_append_left _ (weightsAll_mem (d := y.1) (List.mem_map.2 ⟨y, List.mem_of_getElem? hy, rfl⟩) q hq))))
      obtain ⟨-, h5, hcell⟩ := World.cells?_some hc
      exact ⟨v, c, hv, h5, hcell⟩
    by_cases hz : len = 0
    · subst hz
      exact ⟨some a, cap, [], [], rfl, (fun h => by cases h), ⟨hl, hm⟩, Rs.nil _ _ _, by rw [LiesL], Nat.zero_le _⟩
    · obtain ⟨b, o, sp⟩ := a
      have hsp : sp = none ∧ b < w.heap.size := by
        obtain ⟨v, c, -, h5, hc⟩ := hone 0 (by omega)
        have h0 := hc 0 (by omega)
        rw [List.getElem?_eq_getElem (by omega)] at h0
        exact ⟨by simpa [Addr.add] using World.cell?_spot h0, by have := World.block_lt_of_cell? w _ h0; simpa [Addr.add] using this⟩
      obtain ⟨rfl, hblt⟩ := hsp
      have hex : ∀ i : Nat, ∃ p : V × List Value, i < len → Lies w (· < w.heap.size) p.1 p.2 ∧ p.2.length = 5 ∧ ∀ r, r < 5 → w.cell? ⟨b, o + i * 5 + r, none⟩ = p.2[r]? := by
        intro i
        by_cases hi : i < len
        · obtain ⟨v, c, h1, h2, h3⟩ := hone i hi
          refine ⟨(v, c), fun _ => ⟨h1, h2, fun r hr => ?_⟩⟩
          have := h3 r hr
          rw [add_off, add_off] at this
          exact this
        · exact ⟨(.mk 0 0 ⟨#[]⟩ [] [], []), fun h => absurd h hi⟩
      obtain ⟨f, hf⟩ := Classical.axiomOfChoice hex
      have hr := rs_range (w := w) (S := fun _ => True) (b := b) (o := o) (C := fun i => (f i).2) (fun _ => .inl trivial) len (fun i hi => ⟨(hf i hi).2.1, (hf i hi).2.2⟩)
      refine ⟨some ⟨b, o, none⟩, cap, (List.range len).map fun i => (f i).1, (List.range len).flatMap fun i => (f i).2, by simp, (fun h => by cases h), ⟨by simpa using hl, hm⟩, ?_, liesL_range len (fun i hi => (hf i hi).1), by simpa using hlenb⟩
      exact fun j u hj => ⟨b, o, rfl, hblt, hr.2 j u hj⟩
set_option maxRecDepth 100000 in
/-- An api.Value that came in. -/
theorem open_value_at : ∀ m n0 : Nat, n0 ≤ m → ∀ (cs : List Value) (x : DataW H × List MemPlace), DataW.trod enc Tryz.prog w 0 (fun _ => true) true n0 25 cs = some x → Slim Tryz.prog 25 x.1 → ∃ v, Lies w (· < w.heap.size) v cs := by
  intro m
  induction m with
  | zero =>
    intro n0 h0 cs x h _
    obtain rfl : n0 = 0 := by omega
    simp [DataW.trod] at h
  | succ m ihm =>
    intro n0 h0 cs x h hs
    obtain ⟨f0, f1, f2, f3, f4, hU, ⟨t0, o0⟩, ⟨t1, o1⟩, ⟨t2, o2⟩, ⟨t3, o3⟩, ⟨t4, o4⟩⟩ := struct_value
    obtain ⟨c0, c1, c2, c3, c4, c5⟩ := cells_facts
    obtain ⟨xs, n, rfl, rfl, hl, hlen, hf⟩ := DataW.trod_struct hU h
    rw [c5] at hl
    match cs, hl, xs, hlen with
    | [a0, a1, a2, a3, a4], _, [y0, y1, y2, y3, y4], _ =>
      have g0 := hf 0 f0 rfl
      have g1 := hf 1 f1 rfl
      have g2 := hf 2 f2 rfl
      have g3 := hf 3 f3 rfl
      have g4 := hf 4 f4 rfl
      rw [t0, o0, c0] at g0
      rw [t1, o1, c1] at g1
      rw [t2, o2, c2] at g2
      rw [t3, o3, c3] at g3
      rw [t4, o4, c4] at g4
      simp only [List.drop_zero, List.drop_succ_cons, List.take_succ_cons, List.take_zero, List.getElem?_cons_zero, List.getElem?_cons_succ] at g0 g1 g2 g3 g4
      have hsl : ∀ (j : Nat) (t : TypeId) (d : DataW H), [f0.type, f1.type, f2.type, f3.type, f4.type][j]? = some t → [y0.1, y1.1, y2.1, y3.1, y4.1][j]? = some d → Slim Tryz.prog t d := by
        intro j t d ht hd q hq
        refine hs q ?_
        have e : (DataW.agg [y0.1, y1.1, y2.1, y3.1, y4.1]).weights Tryz.prog 25 = DataW.weightsEach Tryz.prog [f0.type, f1.type, f2.type, f3.type, f4.type] [y0.1, y1.1, y2.1, y3.1, y4.1] := by
          simp only [DataW.weights, hU]
          rfl
        show q ∈ (DataW.agg [y0.1, y1.1, y2.1, y3.1, y4.1]).weights Tryz.prog 25
        rw [e]
        exact DataW.weights_mem_each ht hd q hq
      obtain ⟨k, e0, -, -⟩ := DataW.trod_int Tryz.underlying3 g0
      obtain ⟨z, e1, -, -⟩ := DataW.trod_int Tryz.underlying2 g1
      obtain ⟨s, e2, ed2, -⟩ := DataW.trod_string Tryz.underlying9 g2
      obtain ⟨A, a, ks, e3, ha0, hka, hRA, hks, hkl⟩ := open_keys Tryz.underlying22 Tryz.underlying9 c2 (by rw [bytes_facts.1]; omega) g3 (hsl 3 22 y3.1 (by rw [← t3]; rfl) rfl)
      obtain ⟨B, b, es, ys, e4, hb0, heb, hRB, hL, hel⟩ := open_elems (fun n' hn' => ihm n' (by omega)) g4 (hsl 4 23 y4.1 (by rw [← t4]; rfl) rfl)
      have hss : s.size ≤ 140737488355328 := by
        have := hsl 2 9 y2.1 (by rw [← t2]; rfl) rfl s.data.toList.length (by rw [ed2]; simp [DataW.weights])
        simpa using this
      simp only [List.cons.injEq, and_true] at e0 e1 e2 e3 e4
      subst e0 e1 e2 e3 e4
      exact ⟨.mk k z s ks es, by rw [Lies]; exact ⟨⟨hss, hks, hkl, hel⟩, A, a, B, b, ys, rfl, ha0, hb0, hka, heb, hRA, hRB, hL⟩⟩
theorem open_value {v : Value} {d : DataW H} {ps : List MemPlace} (h : DataW.Trod enc Tryz.prog w 0 (fun _ => true) true 25 v d ps) (hs : Slim Tryz.prog 25 d) : ∃ u, Lies w (· < w.heap.size) u v.cells.toList := by
  obtain ⟨fuel, hf⟩ := h
  exact open_value_at fuel fuel (Nat.le_refl _) _ _ hf hs
end
end Go.Proofs.YtfmpdcmedaiooaaGreatDoor
namespace Go.Proofs.YtfmpdcmedaiooaaGreatDoor
open Go.ChangeShapes Go.WideShapes Go.ChangeAt Go.RowKit
def in64 (n : Int) : Prop := -9223372036854775808 ≤ n ∧ n ≤ 9223372036854775807
mutual
/-- All numbers of a value lie in the range of 64 bits. -/
def rng : V → Prop
  | .mk _ n _ _ es => in64 n ∧ rngL es
def rngL : List V → Prop
  | [] => True
  | e :: es => rng e ∧ rngL es
end
theorem rngL_iff {es : List V} : rngL es ↔ ∀ e ∈ es, rng e := by
  induction es with
  | nil => simp [rngL]
  | cons e es ih => rw [rngL, ih]; simp
section
variable {H : Type} {enc : TypeId × Value → H} {w : World}
end
end Go.Proofs.YtfmpdcmedaiooaaGreatDoor

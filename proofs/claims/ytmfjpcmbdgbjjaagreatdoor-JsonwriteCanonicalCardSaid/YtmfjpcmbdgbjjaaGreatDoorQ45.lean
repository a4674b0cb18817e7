/- jsonwrite's appendCode, appendByte and appendString, onto a row of the call's own. The last step of a law's row: the call has answered true, and nothing that was there has changed. Nothing of the program is named here. The numbers of a value that came in lie in the range of 64 bits. -/
import Derived.Test.YtmfjpcmbdgbjjaaGreatDoorQ44
import Derived.Test.YtmfjpcmbdgbjjaaGreatDoorQ01
import Derived.WalkKit
import Derived.ProofKit
import Derived.OpenShut
import Derived.Carry
import Derived.KernelRfl
import Derived.SliceStrings
import Derived.SizedLaws
import Derived.Test.YtmfjpcmbdgbjjaaGreatDoorRows
import Derived.Test.YtmfjpcmbdgbjjaaGreatDoorQ11
set_option linter.unusedVariables false
set_option linter.unusedSimpArgs false
namespace Go.Proofs.YtmfjpcmbdgbjjaaGreatDoor
open Go.RowKit
set_option maxHeartbeats 4000000 in
set_option maxRecDepth 100000 in
theorem code_any (x : Int) (hx0 : 0 ≤ x) (hx1 : x ≤ 255) (base n c : Nat) (A : Option Addr) (out : List UInt8) (w : World) (hown : w.ownsRow base 5 1 (.slice A n c) n (bv out)) (hb : base ≤ w.heap.size) (hn : n ≤ 268435456) (ht : TabB base w) :
    Calls Tryz.prog 115 #[.slice A n c, .int .u8 x] w (AppC base w (out ++ [92, 117, 48, 48, hx (x / 16).toNat, hx (x % 16).toNat])) := by
  obtain ⟨i0, hi, hz0, hz1, hz2⟩ := info_parts inf_u8
  have HO := Lib.hid hown
  have HT := Lib.hid ht
  clear hown ht
  have hd0 : 0 ≤ x / 16 := by omega
  have hd1 : x / 16 < 16 := by omega
  have hm0 : 0 ≤ x % 16 := by omega
  have hm1 : x % 16 < 16 := by omega
  have han := band15 hx0 hx1
  have HSZ : Hid ((⟨#[92, 117, 48, 48]⟩ : ByteArray).size = 4) := Lib.hid rfl
  have HQV : Hid (Lib.strCells ⟨#[92, 117, 48, 48]⟩ = bv [92, 117, 48, 48]) := Lib.hid rfl
  go_enter Tryz.func115, Tryz.ntmps115
  go_wp2_with (first
    | (at_builtin; refine wpList_app_string _ rfl _ _ 47 9 rfl base 5 i0 Tryz.underlying47 Tryz.underlying9 hi hz0 hz1 hz2 (.slice A n c) n (bv out) rfl HO.out ⟨#[92, 117, 48, 48]⟩ rfl (by rw [HSZ.out]; omega) (by omega) 4 (bv [92, 117, 48, 48]) HSZ.out HQV.out ?_; intro A1 c1 w1 hown1 hbel1; rw [← bv_append] at hown1; replace hbel1 := hbel1.below (base := base) (by omega) (own_ge HO.out); have hle1 : base ≤ w1.heap.size := Nat.le_trans hb hbel1.size)
    | (go_at_call 145; (with_reducible refine (appendHex_any (x / 16) hd0 hd1 base _ _ _ _ _ hown1 hle1 (by omega) (HT.out.on hbel1)).mono ?_); rintro e w2 ⟨A2, n2, c2, rfl, hown2, hbel2⟩; have hln2 := own_len hown2; simp only [List.length_append, List.length_cons, List.length_nil] at hln2; have hln1 := own_len hown1; simp only [List.length_append, List.length_cons, List.length_nil] at hln1; have hle2 : base ≤ w2.heap.size := Nat.le_trans hle1 hbel2.size; have hn2 : n2 ≤ 536870912 := (by omega); clear hln1 hln2)
    | (go_at_call 145; (with_reducible refine (appendHex_any (x % 16) hm0 hm1 base _ _ _ _ _ hown2 hle2 hn2 ((HT.out.on hbel1).on hbel2)).mono ?_); rintro e w3 ⟨A3, n3, c3, rfl, hown3, hbel3⟩))
  go_ret
  refine ⟨A3, n3, c3, rfl, ?_, (hbel1.trans hbel2).trans hbel3⟩
  have e : out ++ [92, 117, 48, 48] ++ [hx (x / 16).toNat] ++ [hx (x % 16).toNat] = out ++ [92, 117, 48, 48, hx (x / 16).toNat, hx (x % 16).toNat] := by simp
  rw [← e]
  exact hown3
set_option maxHeartbeats 8000000 in
set_option maxRecDepth 100000 in
theorem byte_any (b : UInt8) (base n c : Nat) (A : Option Addr) (out : List UInt8) (w : World) (hown : w.ownsRow base 5 1 (.slice A n c) n (bv out)) (hb : base ≤ w.heap.size) (hn : n ≤ 268435456) (ht : TabB base w) :
    Calls Tryz.prog 84 #[.slice A n c, .int .u8 b.toNat] w (AppC base w (out ++ qb b)) := by
  obtain ⟨i0, hi, hz0, hz1, hz2⟩ := info_parts inf_u8
  have HO := Lib.hid hown
  have HT := Lib.hid ht
  clear hown ht
  have hb255 : b.toNat ≤ 255 := by have := b.toNat_lt; omega
  obtain ⟨x, hxx⟩ : ∃ x : Int, (b.toNat : Int) = x := ⟨_, rfl⟩
  have hx0 : 0 ≤ x := by omega
  have hx255 : x ≤ 255 := by omega
  have HQ := Lib.hid (qb_of hxx)
  have HX := Lib.hid hxx
  rw [hxx]
  clear hb255 hxx
  by_cases h34 : x = 34
  · subst h34
    have HQB : Hid (qb b = [92, b]) := Lib.hid (by rw [HQ.out]; exact if_pos (.inl rfl))
    have HQV : Hid (([.int .u8 (92), .int .u8 (34)] : List Value) = bv (qb b)) := Lib.hid (by rw [HQB.out]; simp only [bv, List.map_cons, List.map_nil, HX.out]; rfl)
    go_enter Tryz.func84, Tryz.ntmps84
    go_wp2_with (at_builtin; refine wpList_app_cells _ rfl _ _ 47 rfl base 5 i0 (.int .u8 0) Tryz.underlying47 hi hz0 hz1 hz2 rfl (.slice A n c) n (bv out) rfl (HO.out.alloc _) ⟨w.heap.size, 0, none⟩ 2 2 [.int .u8 (92), .int .u8 (34)] rfl rfl (new_cells w 5 [.int .u8 (92), .int .u8 (34)]) (by omega) (by simp; omega) (bv (qb b)) HQV.out (bv_one _) ?_; intro A2 c2 w2 hown2 happ2; rw [← bv_append] at hown2; replace happ2 := (happ2.pre (Below.alloc (Below.refl _ _) (Nat.le_refl _) _)).below (base := base) (by omega) (own_ge HO.out))
    go_ret
    exact ⟨A2, _, c2, rfl, hown2, happ2⟩
  have q34 : (x == 34) = false := beq_eq_false_iff_ne.2 h34
  by_cases h92 : x = 92
  · subst h92
    clear q34
    have HQB : Hid (qb b = [92, b]) := Lib.hid (by rw [HQ.out]; exact if_pos (.inr rfl))
    have HQV : Hid (([.int .u8 (92), .int .u8 (92)] : List Value) = bv (qb b)) := Lib.hid (by rw [HQB.out]; simp only [bv, List.map_cons, List.map_nil, HX.out]; rfl)
    go_enter Tryz.func84, Tryz.ntmps84
    go_wp2_with (at_builtin; refine wpList_app_cells _ rfl _ _ 47 rfl base 5 i0 (.int .u8 0) Tryz.underlying47 hi hz0 hz1 hz2 rfl (.slice A n c) n (bv out) rfl (HO.out.alloc _) ⟨w.heap.size, 0, none⟩ 2 2 [.int .u8 (92), .int .u8 (92)] rfl rfl (new_cells w 5 [.int .u8 (92), .int .u8 (92)]) (by omega) (by simp; omega) (bv (qb b)) HQV.out (bv_one _) ?_; intro A2 c2 w2 hown2 happ2; rw [← bv_append] at hown2; replace happ2 := (happ2.pre (Below.alloc (Below.refl _ _) (Nat.le_refl _) _)).below (base := base) (by omega) (own_ge HO.out))
    go_ret
    exact ⟨A2, _, c2, rfl, hown2, happ2⟩
  have q92 : (x == 92) = false := beq_eq_false_iff_ne.2 h92
  by_cases h8 : x = 8
  · subst h8
    have HQB : Hid (qb b = [92, 98]) := Lib.hid (by rw [HQ.out, if_neg (by omega), if_pos rfl])
    have HSZ : Hid ((⟨#[92, 98]⟩ : ByteArray).size = 2) := Lib.hid rfl
    have HQV : Hid (Lib.strCells ⟨#[92, 98]⟩ = bv (qb b)) := Lib.hid (by rw [HQB.out]; rfl)
    go_enter Tryz.func84, Tryz.ntmps84
    go_wp2_with (at_builtin; refine wpList_app_string _ rfl _ _ 47 9 rfl base 5 i0 Tryz.underlying47 Tryz.underlying9 hi hz0 hz1 hz2 (.slice A n c) n (bv out) rfl HO.out ⟨#[92, 98]⟩ rfl (by rw [HSZ.out]; omega) (by omega) 2 (bv (qb b)) HSZ.out HQV.out ?_; intro A2 c2 w2 hown2 happ2; rw [← bv_append] at hown2; replace happ2 := happ2.below (base := base) (by omega) (own_ge HO.out))
    go_ret
    exact ⟨A2, _, c2, rfl, hown2, happ2⟩
  have q8 : (x == 8) = false := beq_eq_false_iff_ne.2 h8
  by_cases h9 : x = 9
  · subst h9
    have HQB : Hid (qb b = [92, 116]) := Lib.hid (by rw [HQ.out, if_neg (by omega), if_neg (by omega), if_pos rfl])
    have HSZ : Hid ((⟨#[92, 116]⟩ : ByteArray).size = 2) := Lib.hid rfl
    have HQV : Hid (Lib.strCells ⟨#[92, 116]⟩ = bv (qb b)) := Lib.hid (by rw [HQB.out]; rfl)
    go_enter Tryz.func84, Tryz.ntmps84
    go_wp2_with (at_builtin; refine wpList_app_string _ rfl _ _ 47 9 rfl base 5 i0 Tryz.underlying47 Tryz.underlying9 hi hz0 hz1 hz2 (.slice A n c) n (bv out) rfl HO.out ⟨#[92, 116]⟩ rfl (by rw [HSZ.out]; omega) (by omega) 2 (bv (qb b)) HSZ.out HQV.out ?_; intro A2 c2 w2 hown2 happ2; rw [← bv_append] at hown2; replace happ2 := happ2.below (base := base) (by omega) (own_ge HO.out))
    go_ret
    exact ⟨A2, _, c2, rfl, hown2, happ2⟩
  have q9 : (x == 9) = false := beq_eq_false_iff_ne.2 h9
  by_cases h10 : x = 10
  · subst h10
    have HQB : Hid (qb b = [92, 110]) := Lib.hid (by rw [HQ.out, if_neg (by omega), if_neg (by omega), if_neg (by omega), if_pos rfl])
    have HSZ : Hid ((⟨#[92, 110]⟩ : ByteArray).size = 2) := Lib.hid rfl
    have HQV : Hid (Lib.strCells ⟨#[92, 110]⟩ = bv (qb b)) := Lib.hid (by rw [HQB.out]; rfl)
    go_enter Tryz.func84, Tryz.ntmps84
    go_wp2_with (at_builtin; refine wpList_app_string _ rfl _ _ 47 9 rfl base 5 i0 Tryz.underlying47 Tryz.underlying9 hi hz0 hz1 hz2 (.slice A n c) n (bv out) rfl HO.out ⟨#[92, 110]⟩ rfl (by rw [HSZ.out]; omega) (by omega) 2 (bv (qb b)) HSZ.out HQV.out ?_; intro A2 c2 w2 hown2 happ2; rw [← bv_append] at hown2; replace happ2 := happ2.below (base := base) (by omega) (own_ge HO.out))
    go_ret
    exact ⟨A2, _, c2, rfl, hown2, happ2⟩
  have q10 : (x == 10) = false := beq_eq_false_iff_ne.2 h10
  by_cases h12 : x = 12
  · subst h12
    have HQB : Hid (qb b = [92, 102]) := Lib.hid (by rw [HQ.out, if_neg (by omega), if_neg (by omega), if_neg (by omega), if_neg (by omega), if_pos rfl])
    have HSZ : Hid ((⟨#[92, 102]⟩ : ByteArray).size = 2) := Lib.hid rfl
    have HQV : Hid (Lib.strCells ⟨#[92, 102]⟩ = bv (qb b)) := Lib.hid (by rw [HQB.out]; rfl)
    go_enter Tryz.func84, Tryz.ntmps84
    go_wp2_with (at_builtin; refine wpList_app_string _ rfl _ _ 47 9 rfl base 5 i0 Tryz.underlying47 Tryz.underlying9 hi hz0 hz1 hz2 (.slice A n c) n (bv out) rfl HO.out ⟨#[92, 102]⟩ rfl (by rw [HSZ.out]; omega) (by omega) 2 (bv (qb b)) HSZ.out HQV.out ?_; intro A2 c2 w2 hown2 happ2; rw [← bv_append] at hown2; replace happ2 := happ2.below (base := base) (by omega) (own_ge HO.out))
    go_ret
    exact ⟨A2, _, c2, rfl, hown2, happ2⟩
  have q12 : (x == 12) = false := beq_eq_false_iff_ne.2 h12
  by_cases h13 : x = 13
  · subst h13
    have HQB : Hid (qb b = [92, 114]) := Lib.hid (by rw [HQ.out, if_neg (by omega), if_neg (by omega), if_neg (by omega), if_neg (by omega), if_neg (by omega), if_pos rfl])
    have HSZ : Hid ((⟨#[92, 114]⟩ : ByteArray).size = 2) := Lib.hid rfl
    have HQV : Hid (Lib.strCells ⟨#[92, 114]⟩ = bv (qb b)) := Lib.hid (by rw [HQB.out]; rfl)
    go_enter Tryz.func84, Tryz.ntmps84
    go_wp2_with (at_builtin; refine wpList_app_string _ rfl _ _ 47 9 rfl base 5 i0 Tryz.underlying47 Tryz.underlying9 hi hz0 hz1 hz2 (.slice A n c) n (bv out) rfl HO.out ⟨#[92, 114]⟩ rfl (by rw [HSZ.out]; omega) (by omega) 2 (bv (qb b)) HSZ.out HQV.out ?_; intro A2 c2 w2 hown2 happ2; rw [← bv_append] at hown2; replace happ2 := happ2.below (base := base) (by omega) (own_ge HO.out))
    go_ret
    exact ⟨A2, _, c2, rfl, hown2, happ2⟩
  have q13 : (x == 13) = false := beq_eq_false_iff_ne.2 h13
  by_cases hlow : x < 32
  · have HQB : Hid (qb b = [92, 117, 48, 48, hx (x / 16).toNat, hx (x % 16).toNat]) := Lib.hid (by
      rw [HQ.out, if_neg (by omega), if_neg (by omega), if_neg (by omega), if_neg (by omega), if_neg (by omega), if_neg (by omega), if_pos hlow]
      have e1 : b.toNat / 16 = (x / 16).toNat := by have := HX.out; omega
      have e2 : b.toNat % 16 = (x % 16).toNat := by have := HX.out; omega
      rw [e1, e2])
    rw [HQB.out]
    have HC := Lib.hid (code_any x hx0 hx255 base n c A out w HO.out hb hn HT.out)
    go_enter Tryz.func84, Tryz.ntmps84
    go_wp2_with (go_at_call 115; refine HC.out.mono ?_; rintro e w2 ⟨A2, n2, c2, rfl, hown2, hbel2⟩)
    go_ret
    exact ⟨A2, n2, c2, rfl, hown2, hbel2⟩
  · have HQB : Hid (qb b = [b]) := Lib.hid (by rw [HQ.out, if_neg (by omega), if_neg (by omega), if_neg (by omega), if_neg (by omega), if_neg (by omega), if_neg (by omega), if_neg hlow])
    have HQV : Hid (([.int .u8 (x)] : List Value) = bv (qb b)) := Lib.hid (by rw [HQB.out]; simp only [bv, List.map_cons, List.map_nil, HX.out])
    go_enter Tryz.func84, Tryz.ntmps84
    go_wp2_with (at_builtin; refine wpList_app_cells _ rfl _ _ 47 rfl base 5 i0 (.int .u8 0) Tryz.underlying47 hi hz0 hz1 hz2 rfl (.slice A n c) n (bv out) rfl (HO.out.alloc _) ⟨w.heap.size, 0, none⟩ 1 1 [.int .u8 (x)] rfl rfl (new_cells w 5 [.int .u8 (x)]) (by omega) (by simp; omega) (bv (qb b)) HQV.out (bv_one _) ?_; intro A2 c2 w2 hown2 happ2; rw [← bv_append] at hown2; replace happ2 := (happ2.pre (Below.alloc (Below.refl _ _) (Nat.le_refl _) _)).below (base := base) (by omega) (own_ge HO.out))
    go_ret
    exact ⟨A2, _, c2, rfl, hown2, happ2⟩
set_option maxHeartbeats 8000000 in
set_option maxRecDepth 100000 in
theorem wstring_any (s : ByteArray) (hs : s.size ≤ 16777216) (base n c : Nat) (A : Option Addr) (out0 : List UInt8) (w : World) (hown0 : w.ownsRow base 5 1 (.slice A n c) n (bv out0)) (hbase : base ≤ w.heap.size) (hn : n ≤ 134217728) (ht : TabB base w) :
    Calls Tryz.prog 57 #[.slice A n c, .string s] w (AppC base w (out0 ++ qt s.data.toList)) := by
  obtain ⟨i0, hi, hz0, hz1, hz2⟩ := info_parts inf_u8
  have hl : s.data.toList.length = s.size := by simp
  have HL := Lib.hid hl
  have HO0 := Lib.hid hown0
  have HT := Lib.hid ht
  clear hl hown0 ht
  have H34 : Hid (([.int .u8 (34)] : List Value) = bv [34]) := Lib.hid rfl
  go_enter Tryz.func57, Tryz.ntmps57
  go_wp2_with (at_builtin; refine wpList_app_cells _ rfl _ _ 47 rfl base 5 i0 (.int .u8 0) Tryz.underlying47 hi hz0 hz1 hz2 rfl (.slice A n c) n (bv out0) rfl (HO0.out.alloc _) ⟨w.heap.size, 0, none⟩ 1 1 [.int .u8 (34)] rfl rfl (new_cells w 5 [.int .u8 (34)]) (by omega) (by simp; omega) (bv [34]) H34.out (bv_one _) ?_; intro A2 c2 w2 hown2 happ2; rw [← bv_append] at hown2; replace happ2 := (happ2.pre (Below.alloc (Below.refl _ _) (Nat.le_refl _) _)).below (base := base) (by omega) (own_ge HO0.out))
  go_loopw [0, 5, 11] (fun tb _ ti wr => ∃ (A' : Option Addr) (c' m i : Nat) (out : List UInt8), tb = .slice A' m c' ∧ ti = .int .i64 i ∧ wr.ownsRow base 5 1 (.slice A' m c') m (bv out) ∧ Below base w wr ∧ i ≤ s.size ∧ m ≤ n + 1 + 6 * i ∧ Hid (out = out0 ++ 34 :: qbs (s.data.toList.take i))) (fun _ _ ti _ => s.size - (intOf ti).toNat)
  case atStart => exact ⟨A2, c2, _, 0, _, rfl, rfl, hown2, happ2, Nat.zero_le _, by omega, Lib.hid (by simp [qbs_nil])⟩
  case round =>
    clear hown2 happ2 HO0
    obtain ⟨A', c', m, i, out, rfl, rfl, hown, hbel, hil, hol, HOU⟩ := hrel
    have HO := Lib.hid hown
    have HBE := Lib.hid hbel
    have hbw : base ≤ wr.heap.size := Nat.le_trans hbase hbel.size
    clear hown hbel
    by_cases hlt : i < s.size
    · obtain ⟨b, hb⟩ : ∃ b, s[i] = b := ⟨_, rfl⟩
      have HN : Hid (out ++ qb b = out0 ++ 34 :: qbs (s.data.toList.take (i + 1))) := Lib.hid (by
        have h := at_byte hlt hb
        rw [HOU.out, List.take_add_one, h, qbs_append]
        simp [qbs_cons, qbs_nil])
      have HBY := Lib.hid (byte_any b base m c' A' out wr HO.out hbw (by omega) (HT.out.on HBE.out))
      go_wp2_with (go_at_call 84; refine HBY.out.mono ?_; rintro e w2 ⟨A2, n2, c2, rfl, hown2, hbel2⟩; have hl2 := own_len hown2; have hl1 := own_len HO.out; have hl3 := qb_len b; rw [List.length_append] at hl2; have hn2 : n2 ≤ n + 1 + 6 * (i + 1) := (by omega); clear hl1 hl2 hl3)
      go_roundw
      case rel => exact ⟨A2, c2, n2, i + 1, out ++ qb b, rfl, by first | rfl | go_num, hown2, HBE.out.trans hbel2, by omega, hn2, HN⟩
      case measure => simp [intOf]; omega
    · have hie : i = s.size := by omega
      have hfull : out ++ [34] = out0 ++ qt s.data.toList := by
        have h := HOU.out
        rw [hie, ← HL.out, List.take_length] at h
        rw [h]
        simp [qt]
      have HF := Lib.hid hfull
      subst hie
      clear hfull
      go_wp2_with (at_builtin; refine wpList_app_cells _ rfl _ _ 47 rfl base 5 i0 (.int .u8 0) Tryz.underlying47 hi hz0 hz1 hz2 rfl (.slice A' m c') m (bv out) rfl (HO.out.alloc _) ⟨wr.heap.size, 0, none⟩ 1 1 [.int .u8 (34)] rfl rfl (new_cells wr 5 [.int .u8 (34)]) (by omega) (by simp; omega) (bv [34]) H34.out (bv_one _) ?_; intro A2 c2 w2 hown2 happ2; rw [← bv_append] at hown2; replace happ2 := (happ2.pre (Below.alloc (Below.refl _ _) (Nat.le_refl _) _)).below (base := base) (by omega) (own_ge HO.out))
      go_ret
      rw [HF.out] at hown2
      exact ⟨A2, _, c2, rfl, hown2, HBE.out.trans happ2⟩
end Go.Proofs.YtmfjpcmbdgbjjaaGreatDoor
namespace Go.Proofs.YtmfjpcmbdgbjjaaGreatDoor
open Go.ChangeShapes Go.WideShapes Go.ChangeAt Go.RowKit
section
variable {H : Type} {enc : TypeId × Value → H} {P : Program}
theorem trodAll_stays (hl : laidOutB P = true) {W W' : World} (hb : Below W.heap.size W W') :
    ∀ {ts : List TypeId} {vs : List Value} {ds : List (DataW H)} {ps : List MemPlace}, (∀ t ∈ ts, P.readableRec t = true ∧ t < P.types.size) →
      DataW.TrodAll enc P W 0 (fun _ => true) true ts vs ds ps → (∀ x ∈ ps, x.block < W.heap.size) → DataW.TrodAll enc P W' 0 (fun b => decide (b < W.heap.size)) true ts vs ds ps := by
  intro ts
  induction ts with
  | nil =>
    intro vs ds ps _ h _
    obtain ⟨rfl, rfl, rfl⟩ := trodAll_nil h
    exact trodAll_mk0
  | cons t ts ih =>
    intro vs ds ps ht h hlt
    obtain ⟨v, vs', d, ds', p, q, rfl, rfl, rfl, h0, h1⟩ := trodAll_cons h
    have t0 := ht t (by simp)
    exact trodAll_cons_mk (Below.trod hl t0.1 t0.2 h0 hb (fun x hx => hlt x (by simp [hx]))) (ih (fun u hu => ht u (by simp [hu])) h1 (fun x hx => hlt x (by simp [hx])))
/-- One closed fact: the parameters' types can be read and are rows of the table. -/
def parsRowed (P : Program) (f : Func) : Bool := f.params.toList.all fun t => P.readableRec t && decide (t < P.types.size)
theorem law_post {f : Func} {s : ChangeSpec} {W W' : World} {args : Array Value} {ds gs : List (DataW H)} {before : List MemPlace} {tb : TypeId}
    (hW : DataW.Whole enc P f.params.toList s.vars false W args.toList ds gs before) (hvars : s.vars = [])
    (hres : (s.fn H (ds ++ gs)).results = [.lit (.bool true)]) (hargs : (s.fn H (ds ++ gs)).args = ds) (hsv : (s.fn H (ds ++ gs)).vars = [])
    (hrt : f.resultTypes = #[tb]) (hbt : P.underlying tb = some .bool) (hl : laidOutB P = true) (hp : parsRowed P f = true) (hB : Below W.heap.size W W') :
    s.post enc P f false true false false W args (.bool true) W' := by
  have hlt : ∀ x ∈ before, x.block < W.heap.size := fun x hx => hW.lt x hx
  have hW2 := hW
  obtain ⟨p, q, hA, hV, rfl, hfz, hnd⟩ := hW2
  rw [hvars] at hV
  obtain ⟨rfl, rfl⟩ := trodVars_none hV
  have hp2 : ∀ t ∈ f.params.toList, P.readableRec t = true ∧ t < P.types.size := by
    intro t ht
    have := List.all_eq_true.1 hp t ht
    simpa using this
  refine ⟨ds, [], p ++ [], [], p, [], hW, ?_, ?_, ?_, hB.frame _ |> World.keptBut_mono (fun x hx => ⟨hx, Or.inr (Or.inl (by simpa using hx))⟩), fun h => by cases h⟩
  · rw [hres, hrt]
    exact trodAll_cons_mk (shut_bool hbt true) trodAll_mk0
  · rw [hargs]
    exact trodAll_stays hl hB hp2 hA (fun x hx => hlt x (by simp [hx]))
  · rw [hsv, hvars]
    exact rfl
end
end Go.Proofs.YtmfjpcmbdgbjjaaGreatDoor
namespace Go.Proofs.YtmfjpcmbdgbjjaaGreatDoor
open Go.ChangeShapes Go.WideShapes Go.ChangeAt Go.RowKit
def in64 (n : Int) : Prop := -9223372036854775808 ≤ n ∧ n ≤ 9223372036854775807
mutual
/-- All numbers of a value lie in the range of 64 bits. -/
def rng : V → Prop
  | .mk _ n _ _ es => in64 n ∧ rngL es
def rngL : List V → Prop
  | [] => True
  | e :: es => rng e ∧ rngL es
end
theorem rngL_iff {es : List V} : rngL es ↔ ∀ e ∈ es, rng e := by
  induction es with
  | nil => simp [rngL]
  | cons e es ih => rw [rngL, ih]; simp
section
variable {H : Type} {enc : TypeId × Value → H} {w : World}
end
end Go.Proofs.YtmfjpcmbdgbjjaaGreatDoor

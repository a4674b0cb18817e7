/- The reference's quoted text of a string, onto a row of the call's own. -/
import Derived.Test.YtacnpligpbiamaaDoorG2
import Derived.Test.YtacnpligpbiamaaDoorG5
import Derived.Test.YtacnpligpbiamaaDoorG1
import Derived.StillTailTactics
import Derived.Deep.CutBlock
import Derived.Deep.DeepCutAuto
import Derived.Deep.RegionHeld3
set_option linter.unusedVariables false
set_option linter.unusedSimpArgs false
namespace Go.Proofs.YtacnpligpbiamaaDoor
open Go.RowKit
theorem qb_of {b : UInt8} {x : Int} (h : (b.toNat : Int) = x) : qb b = (if x = 34 ∨ x = 92 then [92, b] else if x = 8 then [92, 98] else if x = 9 then [92, 116] else if x = 10 then [92, 110]
  else if x = 12 then [92, 102] else if x = 13 then [92, 114] else if x < 32 then [92, 117, 48, 48, hx (b.toNat / 16), hx (b.toNat % 16)] else [b]) := by
  subst h
  unfold qb
  have e : ∀ k : Nat, ((b.toNat : Int) = (k : Int)) = (b.toNat = k) := fun k => by rw [Int.natCast_inj]
  have e2 : ((b.toNat : Int) < 32) = (b.toNat < 32) := by apply propext; omega
  simp only [show ((b.toNat : Int) = 34) = (b.toNat = 34) from e 34, show ((b.toNat : Int) = 92) = (b.toNat = 92) from e 92, show ((b.toNat : Int) = 8) = (b.toNat = 8) from e 8, show ((b.toNat : Int) = 9) = (b.toNat = 9) from e 9, show ((b.toNat : Int) = 10) = (b.toNat = 10) from e 10, show ((b.toNat : Int) = 12) = (b.toNat = 12) from e 12, show ((b.toNat : Int) = 13) = (b.toNat = 13) from e 13, e2]
theorem at_byte {s : ByteArray} {i : Nat} (h : i < s.size) {b : UInt8} (hb : s[i] = b) : s.data.toList[i]? = some b := by
  rw [← hb, List.getElem?_eq_getElem (by simpa using h)]
  simp
  rfl
/-- What an append onto the row v leaves: a slice that owns out. -/
def AppB (base : Nat) (w : World) (v : Value) (out : List UInt8) (e : Ending) (w' : World) : Prop := ∃ (A : Option Addr) (n c : Nat), e = .returned (.slice A n c) ∧ w'.ownsRow base 5 1 (.slice A n c) n (bv out) ∧ App w v w' (.slice A n c)
theorem own_len {w : World} {base n : Nat} {e : TypeId} {v : Value} {out : List UInt8} (h : w.ownsRow base e 1 v n (bv out)) : out.length = n := by
  have := h.1
  rw [bv_length] at this
  omega
theorem own_ge {w : World} {base n : Nat} {e : TypeId} {v : Value} {xs : List Value} (h : w.ownsRow base e 1 v n xs) : ∀ g, v.ownBlock = some g → base ≤ g := fun g hg => (h.lt g hg).1
theorem band15 {x : Int} (h0 : 0 ≤ x) (h1 : x ≤ 255) : bits .and .u8 x 15 = x % 16 := by
  have h : ∀ n : Fin 256, bits .and .u8 (n.val : Int) 15 = (n.val : Int) % 16 := by decide +kernel
  have h2 := h ⟨x.toNat, by omega⟩
  have e : ((x.toNat : Nat) : Int) = x := by omega
  simp only [e] at h2
  exact h2
set_option maxRecDepth 100000 in
theorem hex_at {i : Int} (h0 : 0 ≤ i) (h1 : i < 16) (w : World) : (Instr.index 9 (.string ⟨#[48, 49, 50, 51, 52, 53, 54, 55, 56, 57, 97, 98, 99, 100, 101, 102]⟩) (.int .u8 i)).run Tryd.prog w = .ok (.int .u8 ((hx i.toNat).toNat : Int)) w := by
  have h : i = 0 ∨ i = 1 ∨ i = 2 ∨ i = 3 ∨ i = 4 ∨ i = 5 ∨ i = 6 ∨ i = 7 ∨ i = 8 ∨ i = 9 ∨ i = 10 ∨ i = 11 ∨ i = 12 ∨ i = 13 ∨ i = 14 ∨ i = 15 := by omega
  rcases h with rfl | rfl | rfl | rfl | rfl | rfl | rfl | rfl | rfl | rfl | rfl | rfl | rfl | rfl | rfl | rfl <;> rfl
set_option maxHeartbeats 20000000 in
set_option maxRecDepth 100000 in
theorem quote_any (s : ByteArray) (hs : s.size ≤ 1048576) (base n c : Nat) (A : Option Addr) (out0 : List UInt8) (w : World) (hown0 : w.ownsRow base 5 1 (.slice A n c) n (bv out0)) (hn : n ≤ 536870912) (hbase : base ≤ w.heap.size) :
    Calls Tryd.prog 26 #[.slice A n c, .string s] w (AppB base w (.slice A n c) (out0 ++ qt s.data.toList)) := by
  obtain ⟨i0, hi, hz0, hz1, hz2⟩ := info_parts inf_u8
  have hl : s.data.toList.length = s.size := by simp
  have HL := Lib.hid hl
  have HO0 := Lib.hid hown0
  clear hl hown0
  have H34 : Hid (([.int .u8 (34)] : List Value) = bv [34]) := Lib.hid rfl
  have hs2 : w.heap.size ≤ w.heap.size := Nat.le_refl _
  go_enter Tryd.func26, Tryd.ntmps26
  go_wp2_with (at_builtin; refine wpList_app_cells _ rfl _ _ 39 rfl base 5 i0 (.int .u8 0) Tryd.underlying39 hi hz0 hz1 hz2 rfl (.slice A n c) n (bv out0) rfl (HO0.out.alloc _) ⟨w.heap.size, 0, none⟩ 1 1 [.int .u8 (34)] rfl rfl (new_cells w 5 [.int .u8 (34)]) (by omega) (by simp; omega) (bv [34]) H34.out (bv_one _) ?_; intro A2 c2 w2 hown2 happ2; rw [← bv_append] at hown2; replace happ2 := happ2.pre (Below.alloc (Below.refl _ _) (Nat.le_refl _) _))
  go_loopw [0, 5] (fun tb ti wr => ∃ (A' : Option Addr) (c' m i : Nat) (out : List UInt8), tb = .slice A' m c' ∧ ti = .int .i64 i ∧ wr.ownsRow base 5 1 (.slice A' m c') m (bv out) ∧ App w (.slice A n c) wr (.slice A' m c') ∧ i ≤ s.size ∧ m ≤ n + 1 + 6 * i ∧ Hid (out = out0 ++ 34 :: qbs (s.data.toList.take i))) (fun _ ti _ => s.size - (intOf ti).toNat)
  case atStart => exact ⟨A2, c2, _, 0, _, rfl, rfl, hown2, happ2, Nat.zero_le _, by omega, Lib.hid (by simp [qbs_nil])⟩
  case round =>
    clear hown2 happ2 HO0
    obtain ⟨A', c', m, i, out, rfl, rfl, hown, happ, hil, hol, HOU⟩ := hrel
    have HO := Lib.hid hown
    have HAP := Lib.hid happ
    have hbw : base ≤ wr.heap.size := Nat.le_trans hbase happ.grow.size
    clear hown happ
    by_cases hlt : i < s.size
    · obtain ⟨b, hb⟩ : ∃ b, s[i] = b := ⟨_, rfl⟩
      have HN : Hid (out ++ qb b = out0 ++ 34 :: qbs (s.data.toList.take (i + 1))) := Lib.hid (by
        have h := at_byte hlt hb
        rw [HOU.out, List.take_add_one, h, qbs_append]
        simp [qbs_cons, qbs_nil])
      have hb255 : b.toNat ≤ 255 := by have := b.toNat_lt; omega
      obtain ⟨x, hxx⟩ : ∃ x : Int, (b.toNat : Int) = x := ⟨_, rfl⟩
      have hx0 : 0 ≤ x := by omega
      have hx255 : x ≤ 255 := by omega
      have HQ := Lib.hid (qb_of hxx)
      have HX := Lib.hid hxx
      clear hb255
      by_cases h34 : x = 34
      · subst h34
        have HQB : Hid (qb b = [92, b]) := Lib.hid (by rw [HQ.out]; exact if_pos (.inl rfl))
        have HQV : Hid (([.int .u8 (92), .int .u8 (34)] : List Value) = bv (qb b)) := Lib.hid (by rw [HQB.out]; simp only [bv, List.map_cons, List.map_nil, HX.out]; rfl)
        go_wp2_with (at_builtin; refine wpList_app_cells _ rfl _ _ 39 rfl base 5 i0 (.int .u8 0) Tryd.underlying39 hi hz0 hz1 hz2 rfl (.slice A' m c') m (bv out) rfl (HO.out.alloc _) ⟨wr.heap.size, 0, none⟩ 2 2 [.int .u8 (92), .int .u8 (34)] rfl rfl (new_cells wr 5 [.int .u8 (92), .int .u8 (34)]) (by omega) (by simp; omega) (bv (qb b)) HQV.out (bv_one _) ?_; intro A2 c2 w2 hown2 happ2; rw [← bv_append] at hown2; replace happ2 := happ2.pre (Below.alloc (Below.refl _ _) (Nat.le_refl _) _))
        go_roundw
        case rel => exact ⟨A2, c2, _, i + 1, out ++ qb b, rfl, by first | rfl | go_num, hown2, HAP.out.trans happ2, by omega, by omega, HN⟩
        case measure => simp [intOf]; omega
      have q34 : (x == 34) = false := beq_eq_false_iff_ne.2 h34
      by_cases h92 : x = 92
      · subst h92
        clear q34
        have HQB : Hid (qb b = [92, b]) := Lib.hid (by rw [HQ.out]; exact if_pos (.inr rfl))
        have HQV : Hid (([.int .u8 (92), .int .u8 (92)] : List Value) = bv (qb b)) := Lib.hid (by rw [HQB.out]; simp only [bv, List.map_cons, List.map_nil, HX.out]; rfl)
        go_wp2_with (at_builtin; refine wpList_app_cells _ rfl _ _ 39 rfl base 5 i0 (.int .u8 0) Tryd.underlying39 hi hz0 hz1 hz2 rfl (.slice A' m c') m (bv out) rfl (HO.out.alloc _) ⟨wr.heap.size, 0, none⟩ 2 2 [.int .u8 (92), .int .u8 (92)] rfl rfl (new_cells wr 5 [.int .u8 (92), .int .u8 (92)]) (by omega) (by simp; omega) (bv (qb b)) HQV.out (bv_one _) ?_; intro A2 c2 w2 hown2 happ2; rw [← bv_append] at hown2; replace happ2 := happ2.pre (Below.alloc (Below.refl _ _) (Nat.le_refl _) _))
        go_roundw
        case rel => exact ⟨A2, c2, _, i + 1, out ++ qb b, rfl, by first | rfl | go_num, hown2, HAP.out.trans happ2, by omega, by omega, HN⟩
        case measure => simp [intOf]; omega
      have q92 : (x == 92) = false := beq_eq_false_iff_ne.2 h92
      by_cases h8 : x = 8
      · subst h8
        have HQB : Hid (qb b = [92, 98]) := Lib.hid (by rw [HQ.out, if_neg (by omega), if_pos rfl])
        have HSZ : Hid ((⟨#[92, 98]⟩ : ByteArray).size = 2) := Lib.hid rfl
        have HQV : Hid (Lib.strCells ⟨#[92, 98]⟩ = bv (qb b)) := Lib.hid (by rw [HQB.out]; rfl)
        go_wp2_with (at_builtin; refine wpList_app_string _ rfl _ _ 39 9 rfl base 5 i0 Tryd.underlying39 Tryd.underlying9 hi hz0 hz1 hz2 (.slice A' m c') m (bv out) rfl HO.out ⟨#[92, 98]⟩ rfl (by rw [HSZ.out]; omega) (by omega) 2 (bv (qb b)) HSZ.out HQV.out ?_; intro A2 c2 w2 hown2 happ2; rw [← bv_append] at hown2)
        go_roundw
        case rel => exact ⟨A2, c2, _, i + 1, out ++ qb b, rfl, by first | rfl | go_num, hown2, HAP.out.trans happ2, by omega, by omega, HN⟩
        case measure => simp [intOf]; omega
      have q8 : (x == 8) = false := beq_eq_false_iff_ne.2 h8
      by_cases h9 : x = 9
      · subst h9
        have HQB : Hid (qb b = [92, 116]) := Lib.hid (by rw [HQ.out, if_neg (by omega), if_neg (by omega), if_pos rfl])
        have HSZ : Hid ((⟨#[92, 116]⟩ : ByteArray).size = 2) := Lib.hid rfl
        have HQV : Hid (Lib.strCells ⟨#[92, 116]⟩ = bv (qb b)) := Lib.hid (by rw [HQB.out]; rfl)
        go_wp2_with (at_builtin; refine wpList_app_string _ rfl _ _ 39 9 rfl base 5 i0 Tryd.underlying39 Tryd.underlying9 hi hz0 hz1 hz2 (.slice A' m c') m (bv out) rfl HO.out ⟨#[92, 116]⟩ rfl (by rw [HSZ.out]; omega) (by omega) 2 (bv (qb b)) HSZ.out HQV.out ?_; intro A2 c2 w2 hown2 happ2; rw [← bv_append] at hown2)
        go_roundw
        case rel => exact ⟨A2, c2, _, i + 1, out ++ qb b, rfl, by first | rfl | go_num, hown2, HAP.out.trans happ2, by omega, by omega, HN⟩
        case measure => simp [intOf]; omega
      have q9 : (x == 9) = false := beq_eq_false_iff_ne.2 h9
      by_cases h10 : x = 10
      · subst h10
        have HQB : Hid (qb b = [92, 110]) := Lib.hid (by rw [HQ.out, if_neg (by omega), if_neg (by omega), if_neg (by omega), if_pos rfl])
        have HSZ : Hid ((⟨#[92, 110]⟩ : ByteArray).size = 2) := Lib.hid rfl
        have HQV : Hid (Lib.strCells ⟨#[92, 110]⟩ = bv (qb b)) := Lib.hid (by rw [HQB.out]; rfl)
        go_wp2_with (at_builtin; refine wpList_app_string _ rfl _ _ 39 9 rfl base 5 i0 Tryd.underlying39 Tryd.underlying9 hi hz0 hz1 hz2 (.slice A' m c') m (bv out) rfl HO.out ⟨#[92, 110]⟩ rfl (by rw [HSZ.out]; omega) (by omega) 2 (bv (qb b)) HSZ.out HQV.out ?_; intro A2 c2 w2 hown2 happ2; rw [← bv_append] at hown2)
        go_roundw
        case rel => exact ⟨A2, c2, _, i + 1, out ++ qb b, rfl, by first | rfl | go_num, hown2, HAP.out.trans happ2, by omega, by omega, HN⟩
        case measure => simp [intOf]; omega
      have q10 : (x == 10) = false := beq_eq_false_iff_ne.2 h10
      by_cases h12 : x = 12
      · subst h12
        have HQB : Hid (qb b = [92, 102]) := Lib.hid (by rw [HQ.out, if_neg (by omega), if_neg (by omega), if_neg (by omega), if_neg (by omega), if_pos rfl])
        have HSZ : Hid ((⟨#[92, 102]⟩ : ByteArray).size = 2) := Lib.hid rfl
        have HQV : Hid (Lib.strCells ⟨#[92, 102]⟩ = bv (qb b)) := Lib.hid (by rw [HQB.out]; rfl)
        go_wp2_with (at_builtin; refine wpList_app_string _ rfl _ _ 39 9 rfl base 5 i0 Tryd.underlying39 Tryd.underlying9 hi hz0 hz1 hz2 (.slice A' m c') m (bv out) rfl HO.out ⟨#[92, 102]⟩ rfl (by rw [HSZ.out]; omega) (by omega) 2 (bv (qb b)) HSZ.out HQV.out ?_; intro A2 c2 w2 hown2 happ2; rw [← bv_append] at hown2)
        go_roundw
        case rel => exact ⟨A2, c2, _, i + 1, out ++ qb b, rfl, by first | rfl | go_num, hown2, HAP.out.trans happ2, by omega, by omega, HN⟩
        case measure => simp [intOf]; omega
      have q12 : (x == 12) = false := beq_eq_false_iff_ne.2 h12
      by_cases h13 : x = 13
      · subst h13
        have HQB : Hid (qb b = [92, 114]) := Lib.hid (by rw [HQ.out, if_neg (by omega), if_neg (by omega), if_neg (by omega), if_neg (by omega), if_neg (by omega), if_pos rfl])
        have HSZ : Hid ((⟨#[92, 114]⟩ : ByteArray).size = 2) := Lib.hid rfl
        have HQV : Hid (Lib.strCells ⟨#[92, 114]⟩ = bv (qb b)) := Lib.hid (by rw [HQB.out]; rfl)
        go_wp2_with (at_builtin; refine wpList_app_string _ rfl _ _ 39 9 rfl base 5 i0 Tryd.underlying39 Tryd.underlying9 hi hz0 hz1 hz2 (.slice A' m c') m (bv out) rfl HO.out ⟨#[92, 114]⟩ rfl (by rw [HSZ.out]; omega) (by omega) 2 (bv (qb b)) HSZ.out HQV.out ?_; intro A2 c2 w2 hown2 happ2; rw [← bv_append] at hown2)
        go_roundw
        case rel => exact ⟨A2, c2, _, i + 1, out ++ qb b, rfl, by first | rfl | go_num, hown2, HAP.out.trans happ2, by omega, by omega, HN⟩
        case measure => simp [intOf]; omega
      have q13 : (x == 13) = false := beq_eq_false_iff_ne.2 h13
      by_cases hlow : x < 32
      · skip
        have hd0 : 0 ≤ x / 16 := by omega
        have hd1 : x / 16 < 16 := by omega
        have hm0 : 0 ≤ x % 16 := by omega
        have hm1 : x % 16 < 16 := by omega
        have HQB : Hid (qb b = [92, 117, 48, 48, hx (x / 16).toNat, hx (x % 16).toNat]) := Lib.hid (by
          rw [HQ.out, if_neg (by omega), if_neg (by omega), if_neg (by omega), if_neg (by omega), if_neg (by omega), if_neg (by omega), if_pos hlow]
          have e1 : b.toNat / 16 = (x / 16).toNat := by have := HX.out; omega
          have e2 : b.toNat % 16 = (x % 16).toNat := by have := HX.out; omega
          rw [e1, e2])
        have HQV : Hid (([.int .u8 92, .int .u8 117, .int .u8 48, .int .u8 48, .int .u8 ((hx (x / 16).toNat).toNat : Int), .int .u8 ((hx (x % 16).toNat).toNat : Int)] : List Value) = bv (qb b)) := Lib.hid (by rw [HQB.out]; rfl)
        have han := band15 hx0 hx255
        have hi1 := fun W => hex_at hd0 hd1 W
        have hi2 := fun W => hex_at hm0 hm1 W
        have HA := Lib.hid (fun C => show ((wr.alloc C).drew).ownsRow base 5 1 (.slice A' m c') m (bv out) from HO.out.alloc C)
        have HC := Lib.hid (fun (L : List Value) j u (h : L[j]? = some u) => show ((wr.alloc (.cells L.toArray 5)).drew).cell? ((⟨wr.heap.size, 0, none⟩ : Addr).add j) = some u from new_cells wr 5 L j u h)
        go_upto_region 20 with fail
        go_wp2_with fail
        go_region_held3 (fun _ => True) (exact trivial) ((refine step_app_cells _ rfl (.tmp 62) (.tmp 69) 39 (by rfl) base 5 i0 (.int .u8 0) Tryd.underlying39 hi hz0 hz1 hz2 rfl (.slice A' m c') m (bv out) (by rfl) (HA.out _) ⟨wr.heap.size, 0, none⟩ 6 6 [.int .u8 92, .int .u8 117, .int .u8 48, .int .u8 48, .int .u8 ((hx (x / 16).toNat).toNat : Int), .int .u8 ((hx (x % 16).toNat).toNat : Int)] (by rfl) rfl (HC.out _) (by omega) (by first | (simp; omega) | omega) (bv (qb b)) HQV.out (bv_one _) ?_; intro A2 c2 w2 hown2 happ2))
        all_goals
          rw [← bv_append] at hown2
          replace happ2 := happ2.pre ((Below.alloc (Below.refl _ _) (Nat.le_refl _) _).drew)
          go_wp2_with fail
          go_roundw
          case rel => exact ⟨A2, c2, _, i + 1, out ++ qb b, rfl, by first | rfl | go_num, hown2, HAP.out.trans happ2, by omega, by omega, HN⟩
          case measure => simp [intOf]; omega
      · skip
        have HQB : Hid (qb b = [b]) := Lib.hid (by rw [HQ.out, if_neg (by omega), if_neg (by omega), if_neg (by omega), if_neg (by omega), if_neg (by omega), if_neg (by omega), if_neg hlow])
        have HQV : Hid (([.int .u8 (x)] : List Value) = bv (qb b)) := Lib.hid (by rw [HQB.out]; simp only [bv, List.map_cons, List.map_nil, HX.out])
        go_wp2_with (at_builtin; refine wpList_app_cells _ rfl _ _ 39 rfl base 5 i0 (.int .u8 0) Tryd.underlying39 hi hz0 hz1 hz2 rfl (.slice A' m c') m (bv out) rfl (HO.out.alloc _) ⟨wr.heap.size, 0, none⟩ 1 1 [.int .u8 (x)] rfl rfl (new_cells wr 5 [.int .u8 (x)]) (by omega) (by simp; omega) (bv (qb b)) HQV.out (bv_one _) ?_; intro A2 c2 w2 hown2 happ2; rw [← bv_append] at hown2; replace happ2 := happ2.pre (Below.alloc (Below.refl _ _) (Nat.le_refl _) _))
        go_roundw
        case rel => exact ⟨A2, c2, _, i + 1, out ++ qb b, rfl, by first | rfl | go_num, hown2, HAP.out.trans happ2, by omega, by omega, HN⟩
        case measure => simp [intOf]; omega
    · have hie : i = s.size := by omega
      have hfull : out ++ [34] = out0 ++ qt s.data.toList := by
        have h := HOU.out
        rw [hie, ← HL.out, List.take_length] at h
        rw [h]
        simp [qt]
      have HF := Lib.hid hfull
      subst hie
      clear hfull
      go_wp2_with (at_builtin; refine wpList_app_cells _ rfl _ _ 39 rfl base 5 i0 (.int .u8 0) Tryd.underlying39 hi hz0 hz1 hz2 rfl (.slice A' m c') m (bv out) rfl (HO.out.alloc _) ⟨wr.heap.size, 0, none⟩ 1 1 [.int .u8 (34)] rfl rfl (new_cells wr 5 [.int .u8 (34)]) (by omega) (by simp; omega) (bv [34]) H34.out (bv_one _) ?_; intro A2 c2 w2 hown2 happ2; rw [← bv_append] at hown2; replace happ2 := happ2.pre (Below.alloc (Below.refl _ _) (Nat.le_refl _) _))
      go_ret
      rw [HF.out] at hown2
      exact ⟨A2, _, c2, rfl, hown2, HAP.out.trans happ2⟩
end Go.Proofs.YtacnpligpbiamaaDoor

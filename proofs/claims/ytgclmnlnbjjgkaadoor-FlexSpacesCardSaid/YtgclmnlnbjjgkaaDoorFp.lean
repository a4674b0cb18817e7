/- FlexSpaces answers true for every string and every list of ints. -/
import Derived.Test.YtgclmnlnbjjgkaaDoorFo
import Derived.Test.YtgclmnlnbjjgkaaDoorFxU
import Derived.Test.YtgclmnlnbjjgkaaDoorKmod
import Derived.Test.YtgclmnlnbjjgkaaDoorLaw
import Derived.Deep.CutBlock
import Derived.Deep.DeepCutAuto
set_option linter.unusedVariables false
set_option linter.unusedSimpArgs false
namespace Go.Proofs.YtgclmnlnbjjgkaaDoor
open Go.RowKit
def gapS (g : Nat) : ByteArray := bsF (gapL g)
theorem upto_step {l : List UInt8} {vs : List Fk} {zs : List Int} {s S : ByteArray} {i p q : Nat} (hl : s.data.toList = l) (h : S.data.toList = upto l vs zs i) (hp : posF vs l.length i = p) (hq : posF vs l.length (i + 1) = q) :
    (S ++ (s.extract p q ++ gapS (gsel zs i))).data.toList = upto l vs zs (i + 1) := by
  rw [ByteArray.data_append, Array.toList_append, ByteArray.data_append, Array.toList_append, h, ext_subd, hl, upto]
  unfold piece gapS
  rw [bsF_list, hp, hq]
theorem str_len (x : ByteArray) : x.size = x.data.toList.length := by simp
theorem drewN_two10 (w : World) (m n : Nat) : (w.drewN m).drewN n = w.drewN (m + n) := by simp [World.drewN, Nat.add_assoc]
theorem gsel_lt (zs : List Int) (i : Nat) : gsel zs i < 4 := by
  unfold gsel
  split
  · omega
  · omega
theorem gsel_some {zs : List Int} {i : Nat} {z : Int} (h : zs[i % zs.length]? = some z) : z % 4 = (gsel zs i : Int) := by
  have hne : ¬ zs.length = 0 := by
    intro h0
    have : zs = [] := List.eq_nil_of_length_eq_zero h0
    rw [this] at h
    simp at h
  unfold gsel
  rw [if_neg hne, h]
  show z % 4 = ((z % 4).toNat : Int)
  omega
theorem gsel_nil {zs : List Int} {i : Nat} (h : zs.length = 0) : gsel zs i = 0 := by unfold gsel; rw [if_pos h]
set_option maxHeartbeats 10000000 in
set_option maxRecDepth 100000 in
theorem flexspaces_walk (s : ByteArray) (A1 : Option Addr) (c1 : Nat) (zs : List Int) (w : World) (hE : ErrIn w) (hG : SgIn w) (hR : Rd w w.heap.size A1 (zs.map (Value.int .i64))) (hnil : A1 = none → c1 = 0) (hzl : zs.length ≤ maxLen) (hz : s.size ≤ 140737488355328) :
    Calls Tryd.prog 4 #[.string s, .slice A1 zs.length c1] w fun e w' => e = .returned (.bool true) ∧ Below w.heap.size w w' := by
  have HAW := Lib.hid (fun (W : World) (h : Below w.heap.size w W) => fawake_any W (hE.next h) (hG.next h))
  have HL := Lib.hid (show s.data.toList.length = s.size by simp)
  have HLX := Lib.hid (fun (t : ByteArray) (ht : t.size ≤ 281474976710656) (W : World) (h : Below w.heap.size w W) => flex_any t ht W (hE.next h) (hG.next h))
  have hlx := HLX.out s (by omega) w (Below.refl _ _)
  clear hE hG
  by_cases hgo : s.size ≤ 150 ∧ (lexFP s.data.toList).e = 0
  · obtain ⟨h150, he0⟩ := hgo
    obtain ⟨us, hus⟩ := lexFP_some he0
    obtain ⟨vs, hvs, hO, hT⟩ := lexFP_toks hus
    subst hvs
    have hlen : (vs ++ [endK s.data.toList]).length = vs.length + 1 := by simp
    have hlx2 := hlx.mono fun e w' h => flex_open h hus (by rw [hlen]; omega)
    rw [hlen] at hlx2
    clear hlx hus he0
    have q150 : ¬ (150 : Int) < (s.size : Int) := by omega
    by_cases h60 : vs.length + 1 ≤ 60
    · have hsp := spaces_ok (zs := zs) hO hT (by omega) (by rw [HL.out]; omega)
      obtain ⟨ws, hws, hal⟩ := hsp
      have hwl : ws.length = vs.length + 1 := by rw [hal.1, hlen]
      obtain ⟨n, hn⟩ : ∃ n, vs.length = n := ⟨_, rfl⟩
      have HN := Lib.hid hn
      rw [hn] at hlx2 h60 hwl hws
      obtain ⟨N, hN⟩ : ∃ N, n + 1 = N := ⟨_, rfl⟩
      rw [hN] at hlx2 h60 hwl
      have HX := Lib.hid hlx2
      have HO := Lib.hid hO
      have HT := Lib.hid hT
      have HAL := Lib.hid hal
      have HWS := Lib.hid hws
      have HWL := Lib.hid hwl
      have HRD := Lib.hid hR
      have HNN := Lib.hid hN
      have hN1 : 1 ≤ N := by omega
      have qN : ¬ (60 : Int) < (N : Int) := by omega
      have qN0 : ((N : Int) == 0) = false := beq_eq_false_iff_ne.2 (fun h => by omega)
      clear hlx2 hO hT hal hws hwl hlen hn hN hR hz
      have hzl2 : zs.length ≤ 9223372036854775807 := hzl
      clear hzl
      go_enter Tryd.func4, Tryd.ntmps4
      go_wp2_with (go_at_call 6; (with_reducible refine HX.out.mono ?_); rintro e w1 ⟨hb1, g, c, rfl, -, hg, hc⟩)
      have HB1 := Lib.hid hb1
      have HC1 := Lib.hid hc
      clear hb1 hc
      go_loopw [8, 9] (fun t8 t9 wr => ∃ (S : ByteArray) (i : Nat), t8 = .string S ∧ t9 = .int .i64 i ∧ i < N ∧ S.size ≤ 1000 ∧ Hid (S.data.toList = upto s.data.toList vs zs i) ∧ Hid (Below w1.heap.size w1 wr)) (fun _ t9 _ => N - (intOf t9).toNat)
      case atStart => exact ⟨_, 0, rfl, rfl, by omega, by decide, Lib.hid rfl, Lib.hid (Below.refl _ _)⟩
      case round =>
        obtain ⟨S, i, rfl, rfl, hi, hSs, HS, HB⟩ := hrel
        by_cases hlt : i + 1 < N
        · have hiv : i < vs.length := by have := HN.out; have := HNN.out; omega
          obtain ⟨x, hx⟩ : ∃ x, vs[i]? = some x := ⟨_, List.getElem?_eq_getElem hiv⟩
          obtain ⟨pq1, pq2⟩ := pos_step HO.out hiv
          rw [HL.out] at pq1 pq2
          obtain ⟨p, hp⟩ : ∃ p, posF vs s.size i = p := ⟨_, rfl⟩
          obtain ⟨q, hq⟩ : ∃ q, posF vs s.size (i + 1) = q := ⟨_, rfl⟩
          have hci := (tok_cells (show (vs ++ [endK s.data.toList])[i]? = some x by rw [List.getElem?_append_left hiv]; exact hx) (below_cells HB.out hg HC1.out)).2.1
          rw [show x.o = p by rw [← hp, posF_in hx]] at hci
          have hcj : wr.cell? ⟨g, (i + 1) * 4 + 1, none⟩ = some (.int .i64 q) := by
            by_cases hj : i + 1 < vs.length
            · obtain ⟨y, hy⟩ : ∃ y, vs[i + 1]? = some y := ⟨_, List.getElem?_eq_getElem hj⟩
              have h := (tok_cells (show (vs ++ [endK s.data.toList])[i + 1]? = some y by rw [List.getElem?_append_left hj]; exact hy) (below_cells HB.out hg HC1.out)).2.1
              rw [h, ← hq, posF_in hy]
            · have hj2 : i + 1 = vs.length := by omega
              have h := (tok_cells (show (vs ++ [endK s.data.toList])[i + 1]? = some (endK s.data.toList) by rw [hj2, List.getElem?_append_right (Nat.le_refl _)]; simp) (below_cells HB.out hg HC1.out)).2.1
              rw [h, ← hq, posF_out (by omega)]
              unfold endK
              rw [HL.out]
          rw [hp, hq] at pq1
          rw [hq] at pq2
          have HST := Lib.hid (upto_step (l := s.data.toList) (vs := vs) (zs := zs) (s := s) (S := S) (i := i) (p := p) (q := q) rfl HS.out (by rw [HL.out]; exact hp) (by rw [HL.out]; exact hq))
          have hgl := gsel_lt zs i
          have hsz2 : (upto s.data.toList vs zs (i + 1)).length ≤ 1000 := by
            have h := upto_len (zs := zs) HO.out (i + 1) (by omega)
            have h2 := posF_le HO.out (i + 1)
            rw [HL.out] at h h2
            have := HN.out
            have := HNN.out
            omega
          have HSZ := Lib.hid hsz2
          have hgi : (zs.length = 0 ∧ gsel zs i = 0) ∨ ∃ z, zs[i % zs.length]? = some z ∧ z % 4 = (gsel zs i : Int) := by
            by_cases h0 : zs.length = 0
            · exact .inl ⟨h0, gsel_nil h0⟩
            · have hlt2 := Nat.mod_lt i (show 0 < zs.length by omega)
              exact .inr ⟨_, List.getElem?_eq_getElem hlt2, gsel_some (List.getElem?_eq_getElem hlt2)⟩
          obtain ⟨G, hG⟩ : ∃ G, gsel zs i = G := ⟨_, rfl⟩
          rw [hG] at hgl hgi HST
          have q1 : decide ((p : Int) < 0) = false := by rw [decide_eq_false_iff_not]; omega
          have q2 : decide ((q : Int) < (p : Int)) = false := by rw [decide_eq_false_iff_not]; omega
          have q3 : decide ((s.size : Int) < (q : Int)) = false := by rw [decide_eq_false_iff_not]; omega
          have q2n : decide (q < p) = false := by rw [decide_eq_false_iff_not]; omega
          have q3n : decide (s.size < q) = false := by rw [decide_eq_false_iff_not]; omega
          clear hx hp hq hsz2 hG hiv
          rcases hgi with ⟨hz0, hG0⟩ | ⟨z, hz, hzG⟩
          · subst hG0
            have qz : decide ((0 : Int) < (zs.length : Int)) = false := by rw [decide_eq_false_iff_not]; omega
            have qz2 : decide (0 < zs.length) = false := by rw [decide_eq_false_iff_not]; omega
            clear hgl HRD hz0
            go_wp2_with fail
            go_quiet (fail)
            obtain ⟨W3, hW3⟩ : ∃ X, X = wr.drewN nq := ⟨_, rfl⟩
            rw [← hW3]
            have ci : W3.cell? ⟨g, i * 4 + 1, none⟩ = some (.int .i64 p) := by rw [hW3]; exact hci
            have cj : W3.cell? ⟨g, (i + 1) * 4 + 1, none⟩ = some (.int .i64 q) := by rw [hW3]; exact hcj
            have HB3 := Lib.hid (show Below w1.heap.size w1 W3 by rw [hW3]; exact below_drewN10 HB.out _)
            clear hW3 hci hcj
            have hgW : g < W3.heap.size := Nat.lt_of_lt_of_le hg HB3.out.size
            have hgn : ¬ g = W3.heap.size := by omega
            have e1 : (s.extract p q).size = q - p := by rw [ByteArray.size_extract]; omega
            have qa : ¬ ((s.extract p q).size + 1 > 9223372036854775807) := by omega
            have qb : ¬ (S.size + (s.extract p q ++ ⟨#[10]⟩).size > 9223372036854775807) := by
              rw [ByteArray.size_append, e1]
              show ¬ (S.size + (q - p + 1) > _)
              omega
            have HE1 := Lib.hid e1
            clear e1
            go_wp2_with fail
            go_region
            go_wp2_with fail
            go_roundw
            case rel => exact ⟨S ++ (s.extract p q ++ ⟨#[10]⟩), i + 1, rfl, by go_num, hlt, by rw [str_len, show (S ++ (s.extract p q ++ (⟨#[10]⟩ : ByteArray))).data.toList = _ from HST.out]; exact HSZ.out, Lib.hid HST.out, Lib.hid (HB3.out.alloc HB3.out.size _).drew⟩
            case measure => simp [intOf]; omega
          · have hzlen : 0 < zs.length := by
              rcases Nat.eq_zero_or_pos zs.length with h | h
              · rw [List.eq_nil_of_length_eq_zero h] at hz
                simp at hz
              · exact h
            obtain ⟨m, hm⟩ : ∃ m, zs.length = m := ⟨_, rfl⟩
            rw [hm] at hz hzlen hzl2
            obtain ⟨r, hr⟩ : ∃ r, i % m = r := ⟨_, rfl⟩
            rw [hr] at hz
            have hrm : r < m := by rw [← hr]; exact Nat.mod_lt _ hzlen
            obtain ⟨bA, oA, hA, hbA, hcA⟩ := HRD.out.at_ (j := r) (u := .int .i64 z) (by rw [List.getElem?_map, hz]; rfl)
            have HBA := Lib.hid (show ∀ W, Below w.heap.size w W → W.cell? ⟨bA, oA + r, none⟩ = some (.int .i64 z) from fun W hW => (hW.cell (p := ⟨bA, oA + r, none⟩) hbA).trans hcA)
            have htm : (i : Int).tmod (m : Int) = (r : Int) := by
              rw [Int.tmod_eq_emod_of_nonneg (by omega), ← hr]
              rfl
            have hmd := fun W => kmod_any z 4 (by omega) (by omega) W
            rw [hzG] at hmd
            have HMD := Lib.hid hmd
            have qz : decide ((0 : Int) < (zs.length : Int)) = true := by rw [decide_eq_true_eq, hm]; omega
            have htm2 : (i : Int).tmod (zs.length : Int) = (r : Int) := by rw [hm]; exact htm
            have qz0 : ((zs.length : Int) == 0) = false := beq_eq_false_iff_ne.2 (fun h => by omega)
            have hrz : (r : Int) < (zs.length : Int) := by rw [hm]; omega
            have hrz2 : r < zs.length := by rw [hm]; exact hrm
            have HHM := Lib.hid hm
            clear hz hr hmd hzG htm hm hcA hbA
            have hG4 : G = 0 ∨ G = 1 ∨ G = 2 ∨ G = 3 := by omega
            subst hA
            clear hgl hnil
            rcases hG4 with rfl | rfl | rfl | rfl
            · go_wp2_with fail
              go_quiet (fail)
              obtain ⟨W3, hW3⟩ : ∃ X, X = wr.drewN nq := ⟨_, rfl⟩
              rw [← hW3]
              have ci : W3.cell? ⟨g, i * 4 + 1, none⟩ = some (.int .i64 p) := by rw [hW3]; exact hci
              have cj : W3.cell? ⟨g, (i + 1) * 4 + 1, none⟩ = some (.int .i64 q) := by rw [hW3]; exact hcj
              have HB3 := Lib.hid (show Below w1.heap.size w1 W3 by rw [hW3]; exact below_drewN10 HB.out _)
              have ca : W3.cell? ⟨bA, oA + r, none⟩ = some (.int .i64 z) := HBA.out W3 (chain HB1.out HB3.out)
              clear hW3 hci hcj
              have hgW : g < W3.heap.size := Nat.lt_of_lt_of_le hg HB3.out.size
              have hgn : ¬ g = W3.heap.size := by omega
              go_upto_region 13 with (go_at_call 9; refine (HMD.out _).mono ?_; rintro e w' ⟨rfl, rfl⟩)
              have e1 : (s.extract p q).size = q - p := by rw [ByteArray.size_extract]; omega
              have qa : ¬ ((s.extract p q).size + 1 > 9223372036854775807) := by omega
              have qb : ¬ (S.size + (s.extract p q ++ ⟨#[10]⟩).size > 9223372036854775807) := by
                rw [ByteArray.size_append, e1]
                show ¬ (S.size + (q - p + 1) > _)
                omega
              have HE1 := Lib.hid e1
              clear e1
              go_wp2_with fail
              go_region
              go_wp2_with fail
              go_roundw
              case rel => exact ⟨S ++ (s.extract p q ++ ⟨#[10]⟩), i + 1, rfl, by go_num, hlt, by rw [str_len, show (S ++ (s.extract p q ++ (⟨#[10]⟩ : ByteArray))).data.toList = _ from HST.out]; exact HSZ.out, Lib.hid HST.out, Lib.hid (HB3.out.alloc HB3.out.size _).drew⟩
              case measure => simp [intOf]; omega
            · go_wp2_with fail
              go_quiet (fail)
              obtain ⟨W3, hW3⟩ : ∃ X, X = wr.drewN nq := ⟨_, rfl⟩
              rw [← hW3]
              have ci : W3.cell? ⟨g, i * 4 + 1, none⟩ = some (.int .i64 p) := by rw [hW3]; exact hci
              have cj : W3.cell? ⟨g, (i + 1) * 4 + 1, none⟩ = some (.int .i64 q) := by rw [hW3]; exact hcj
              have HB3 := Lib.hid (show Below w1.heap.size w1 W3 by rw [hW3]; exact below_drewN10 HB.out _)
              have ca : W3.cell? ⟨bA, oA + r, none⟩ = some (.int .i64 z) := HBA.out W3 (chain HB1.out HB3.out)
              clear hW3 hci hcj
              have hgW : g < W3.heap.size := Nat.lt_of_lt_of_le hg HB3.out.size
              have hgn : ¬ g = W3.heap.size := by omega
              go_upto_region 13 with (go_at_call 9; refine (HMD.out _).mono ?_; rintro e w' ⟨rfl, rfl⟩)
              have e1 : (s.extract p q).size = q - p := by rw [ByteArray.size_extract]; omega
              have qa : ¬ ((s.extract p q).size + 2 > 9223372036854775807) := by omega
              have qb : ¬ (S.size + (s.extract p q ++ ⟨#[10, 32]⟩).size > 9223372036854775807) := by
                rw [ByteArray.size_append, e1]
                show ¬ (S.size + (q - p + 2) > _)
                omega
              have HE1 := Lib.hid e1
              clear e1
              go_wp2_with fail
              go_region
              go_wp2_with fail
              go_roundw
              case rel => exact ⟨S ++ (s.extract p q ++ ⟨#[10, 32]⟩), i + 1, rfl, by go_num, hlt, by rw [str_len, show (S ++ (s.extract p q ++ (⟨#[10, 32]⟩ : ByteArray))).data.toList = _ from HST.out]; exact HSZ.out, Lib.hid HST.out, Lib.hid (HB3.out.alloc HB3.out.size _).drew⟩
              case measure => simp [intOf]; omega
            · go_wp2_with fail
              go_quiet (fail)
              obtain ⟨W3, hW3⟩ : ∃ X, X = wr.drewN nq := ⟨_, rfl⟩
              rw [← hW3]
              have ci : W3.cell? ⟨g, i * 4 + 1, none⟩ = some (.int .i64 p) := by rw [hW3]; exact hci
              have cj : W3.cell? ⟨g, (i + 1) * 4 + 1, none⟩ = some (.int .i64 q) := by rw [hW3]; exact hcj
              have HB3 := Lib.hid (show Below w1.heap.size w1 W3 by rw [hW3]; exact below_drewN10 HB.out _)
              have ca : W3.cell? ⟨bA, oA + r, none⟩ = some (.int .i64 z) := HBA.out W3 (chain HB1.out HB3.out)
              clear hW3 hci hcj
              have hgW : g < W3.heap.size := Nat.lt_of_lt_of_le hg HB3.out.size
              have hgn : ¬ g = W3.heap.size := by omega
              go_upto_region 13 with (go_at_call 9; refine (HMD.out _).mono ?_; rintro e w' ⟨rfl, rfl⟩)
              have e1 : (s.extract p q).size = q - p := by rw [ByteArray.size_extract]; omega
              have qa : ¬ ((s.extract p q).size + 3 > 9223372036854775807) := by omega
              have qb : ¬ (S.size + (s.extract p q ++ ⟨#[10, 9, 13]⟩).size > 9223372036854775807) := by
                rw [ByteArray.size_append, e1]
                show ¬ (S.size + (q - p + 3) > _)
                omega
              have HE1 := Lib.hid e1
              clear e1
              go_wp2_with fail
              go_region
              go_wp2_with fail
              go_roundw
              case rel => exact ⟨S ++ (s.extract p q ++ ⟨#[10, 9, 13]⟩), i + 1, rfl, by go_num, hlt, by rw [str_len, show (S ++ (s.extract p q ++ (⟨#[10, 9, 13]⟩ : ByteArray))).data.toList = _ from HST.out]; exact HSZ.out, Lib.hid HST.out, Lib.hid (HB3.out.alloc HB3.out.size _).drew⟩
              case measure => simp [intOf]; omega
            · go_wp2_with fail
              go_quiet (fail)
              obtain ⟨W3, hW3⟩ : ∃ X, X = wr.drewN nq := ⟨_, rfl⟩
              rw [← hW3]
              have ci : W3.cell? ⟨g, i * 4 + 1, none⟩ = some (.int .i64 p) := by rw [hW3]; exact hci
              have cj : W3.cell? ⟨g, (i + 1) * 4 + 1, none⟩ = some (.int .i64 q) := by rw [hW3]; exact hcj
              have HB3 := Lib.hid (show Below w1.heap.size w1 W3 by rw [hW3]; exact below_drewN10 HB.out _)
              have ca : W3.cell? ⟨bA, oA + r, none⟩ = some (.int .i64 z) := HBA.out W3 (chain HB1.out HB3.out)
              clear hW3 hci hcj
              have hgW : g < W3.heap.size := Nat.lt_of_lt_of_le hg HB3.out.size
              have hgn : ¬ g = W3.heap.size := by omega
              go_upto_region 13 with (go_at_call 9; refine (HMD.out _).mono ?_; rintro e w' ⟨rfl, rfl⟩)
              have e1 : (s.extract p q).size = q - p := by rw [ByteArray.size_extract]; omega
              have qa : ¬ ((s.extract p q).size + 9 > 9223372036854775807) := by omega
              have qb : ¬ (S.size + (s.extract p q ++ ⟨#[10, 35, 32, 120, 32, 124, 32, 121, 10]⟩).size > 9223372036854775807) := by
                rw [ByteArray.size_append, e1]
                show ¬ (S.size + (q - p + 9) > _)
                omega
              have HE1 := Lib.hid e1
              clear e1
              go_wp2_with fail
              go_region
              go_wp2_with fail
              go_roundw
              case rel => exact ⟨S ++ (s.extract p q ++ ⟨#[10, 35, 32, 120, 32, 124, 32, 121, 10]⟩), i + 1, rfl, by go_num, hlt, by rw [str_len, show (S ++ (s.extract p q ++ (⟨#[10, 35, 32, 120, 32, 124, 32, 121, 10]⟩ : ByteArray))).data.toList = _ from HST.out]; exact HSZ.out, Lib.hid HST.out, Lib.hid (HB3.out.alloc HB3.out.size _).drew⟩
              case measure => simp [intOf]; omega
        · have hie : i = n := by have := HNN.out; omega
          subst hie
          have hS2 : S.data.toList = upto s.data.toList vs zs vs.length := by rw [HN.out]; exact HS.out
          obtain ⟨wo, hwo⟩ : ∃ wo : World, wo = wr := ⟨_, rfl⟩
          subst hwo
          have HBW := Lib.hid (chain HB1.out HB.out)
          have hl2 := (HLX.out S (by omega) wo HBW.out).mono fun e w' h => flex_open h (by rw [hS2, HN.out]; exact HWS.out) (by rw [HWL.out]; omega)
          rw [HWL.out] at hl2
          have HX2 := Lib.hid hl2
          have HG := Lib.hid (below_cells HB.out hg HC1.out)
          clear hl2 hS2
          go_upto_region 15 with (go_at_call 6; (with_reducible refine HX2.out.mono ?_); rintro e w2 ⟨hb2, g2, c2, rfl, -, hg2, hc2⟩)
          have HC2 := Lib.hid hc2
          have HC3 := Lib.hid (below_cells hb2 (Nat.lt_of_lt_of_le hg HB.out.size) HG.out)
          have HBX := Lib.hid (chain HBW.out hb2)
          clear hb2 hc2
          go_wp2_with fail
          go_loopw [14] (fun t14 wx => ∃ j m : Nat, t14 = .int .i64 j ∧ j ≤ N ∧ Hid (wx = w2.drewN m)) (fun t14 _ => N - (intOf t14).toNat)
          case atStart => exact ⟨0, 0, rfl, by omega, Lib.hid rfl⟩
          case round =>
            obtain ⟨j, m, rfl, hj, HWX⟩ := hrel
            by_cases hjl : j < N
            · obtain ⟨t, ht⟩ : ∃ t, (vs ++ [endK s.data.toList])[j]? = some t := ⟨_, List.getElem?_eq_getElem (by simp; have := HN.out; have := HNN.out; omega)⟩
              obtain ⟨t', ht', hk1, hk2, hk3⟩ := HAL.out.2 j t ht
              obtain ⟨a0, a1, a2, a3⟩ := tok_cells ht HC3.out
              obtain ⟨b0, b1, b2, b3⟩ := tok_cells ht' HC2.out
              rw [hk1] at b0
              rw [hk2] at b2
              rw [hk3] at b3
              have A0 : wr.cell? ⟨g, j * 4, none⟩ = some (.int .i64 t.k) := by rw [HWX.out]; exact a0
              have A2 : wr.cell? ⟨g, j * 4 + 2, none⟩ = some (.string t.s) := by rw [HWX.out]; exact a2
              have A3 : wr.cell? ⟨g, j * 4 + 3, none⟩ = some (.int .i64 t.i) := by rw [HWX.out]; exact a3
              have B0 : wr.cell? ⟨g2, j * 4, none⟩ = some (.int .i64 t.k) := by rw [HWX.out]; exact b0
              have B2 : wr.cell? ⟨g2, j * 4 + 2, none⟩ = some (.string t.s) := by rw [HWX.out]; exact b2
              have B3 : wr.cell? ⟨g2, j * 4 + 3, none⟩ = some (.int .i64 t.i) := by rw [HWX.out]; exact b3
              clear a0 a1 a2 a3 b0 b1 b2 b3 ht ht' hk1 hk2 hk3
              go_wp2_with fail
              go_quiet (fail)
              go_wp2_with fail
              go_roundw
              case rel => exact ⟨j + 1, m + nq, by go_num, by omega, Lib.hid (by rw [HWX.out, drewN_two10])⟩
              case measure => simp [intOf]; omega
            · have HBZ := Lib.hid (show Below w.heap.size w wr by rw [HWX.out]; exact below_drewN10 HBX.out m)
              go_wp2_with (go_at_call 7; refine (HAW.out _ HBZ.out).mono ?_; rintro e w5 ⟨rfl, hb5⟩)
              all_goals go_ret
              all_goals exact ⟨rfl, chain HBZ.out hb5⟩
    · have q60 : (60 : Int) < ((vs.length + 1 : Nat) : Int) := by omega
      obtain ⟨N, hN⟩ : ∃ N, vs.length + 1 = N := ⟨_, rfl⟩
      rw [hN] at hlx2 q60
      have HX := Lib.hid hlx2
      clear hlx2 hO hT hlen hN hR h60
      go_enter Tryd.func4, Tryd.ntmps4
      go_wp2_with (first
        | (go_at_call 6; (with_reducible refine HX.out.mono ?_); rintro e w1 ⟨hb1, g, c, rfl, -, hg, hc⟩)
        | (go_at_call 7; refine (HAW.out _ hb1).mono ?_; rintro e w3 ⟨rfl, hb3⟩))
      all_goals go_ret
      all_goals exact ⟨rfl, chain hb1 hb3⟩
  · by_cases h150 : s.size ≤ 150
    · have he : ¬ (lexFP s.data.toList).e = 0 := fun h => hgo ⟨h150, h⟩
      obtain ⟨R, hR2⟩ : ∃ R, lexFP s.data.toList = R := ⟨_, rfl⟩
      rw [hR2] at hlx he
      have HX := Lib.hid hlx
      have qe : ((R.e : Int) != 0) = true := by rw [bne_iff_ne]; omega
      have q150 : ¬ (150 : Int) < (s.size : Int) := by omega
      clear hlx hgo hR2 hR
      go_enter Tryd.func4, Tryd.ntmps4
      go_wp2_with (first
        | (go_at_call 6; refine HX.out.mono ?_; rintro e w1 ⟨hb1, A, n, c, rfl, -⟩)
        | (go_at_call 7; refine (HAW.out _ hb1).mono ?_; rintro e w3 ⟨rfl, hb3⟩))
      all_goals go_ret
      all_goals exact ⟨rfl, chain hb1 hb3⟩
    · have HX := Lib.hid hlx
      have q150 : (150 : Int) < (s.size : Int) := by omega
      generalize lexFP s.data.toList = R at HX
      clear hlx hgo hR
      go_enter Tryd.func4, Tryd.ntmps4
      go_wp2_with (first
        | (go_at_call 6; refine HX.out.mono ?_; rintro e w1 ⟨hb1, A, n, c, rfl, -⟩)
        | (go_at_call 7; refine (HAW.out _ hb1).mono ?_; rintro e w3 ⟨rfl, hb3⟩))
      all_goals go_ret
      all_goals exact ⟨rfl, chain hb1 hb3⟩
end Go.Proofs.YtgclmnlnbjjgkaaDoor

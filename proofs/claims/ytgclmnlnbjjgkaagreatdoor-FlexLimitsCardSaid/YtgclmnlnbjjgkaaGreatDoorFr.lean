/- keep.Mod: the remainder that is not negative. FlexLimits answers true for every two ints. -/
import Derived.Test.YtgclmnlnbjjgkaaGreatDoorRows
import Derived.WalkKit
import Derived.Lib.Hide
import Derived.WalkSpells
import Derived.WalkLawsBesides
import Derived.Test.YtgclmnlnbjjgkaaGreatDoorFq
import Derived.Deep.CutBlock
import Derived.Deep.DeepCutAuto
import Derived.Deep.OwnRows
import Derived.Laws.MakeOwn
set_option linter.unusedVariables false
set_option linter.unusedSimpArgs false
namespace Go.Proofs.YtgclmnlnbjjgkaaGreatDoor
open Go.RowKit
theorem retm {k : IntKind} {a b : Int} (h : a = b) : Ending.returned (.int k a) = .returned (.int k b) := by rw [h]
theorem mod_fix' (x n : Int) (hn : 0 < n) : (if x.tmod n < 0 then x.tmod n + n else x.tmod n) = x % n := by
  have h1 := Int.tmod_add_mul_tdiv x n
  have h2 := Int.lt_tmod_of_pos x hn
  have h3 := Int.tmod_lt_of_pos x hn
  split
  · rename_i h
    have : (x.tmod n + n) % n = x % n := by
      conv => rhs; rw [← h1]
      simp
    rw [← this, Int.emod_eq_of_lt (by omega) (by omega)]
  · rename_i h
    have : (x.tmod n) % n = x % n := by
      conv => rhs; rw [← h1]
      simp
    rw [← this, Int.emod_eq_of_lt (by omega) (by omega)]
set_option maxHeartbeats 400000 in
theorem kmod_any (x n : Int) (hn : 0 < n) (hn2 : n ≤ 4611686018427387903) (w : World) :
    Calls Tryz.prog 14 #[.int .i64 x, .int .i64 n] w fun e w' => e = .returned (.int .i64 (x % n)) ∧ w = w' := by
  have hf := Lib.hid (mod_fix' x n hn)
  have hb : Hid (-n < x.tmod n ∧ x.tmod n < n) := Lib.hid (by
    have h1 := Int.lt_tmod_of_pos x hn
    have h2 := Int.tmod_lt_of_pos x hn
    exact ⟨h1, h2⟩)
  have hne : (n == 0) = false := by simp; omega
  have hne1 : n ≠ 0 := by omega
  obtain ⟨hb1, hb2⟩ := hb.out
  by_cases hs : x.tmod n < 0
  · have he : Hid (x.tmod n + n = x % n) := Lib.hid (by rw [← hf.out, if_pos hs])
    go_enter Tryz.func14, Tryz.ntmps14
    go_wp2
    go_ret
    exact ⟨retm he.out, rfl⟩
  · have he : Hid (x.tmod n = x % n) := Lib.hid (by rw [← hf.out, if_neg hs])
    go_enter Tryz.func14, Tryz.ntmps14
    go_wp2
    go_ret
    exact ⟨retm he.out, rfl⟩
/-- Mod as a number of its own. -/
theorem kmod_nat (x : Int) (n : Nat) (hn : 0 < n) (hn2 : n ≤ 1000000) : ∃ d : Nat, d < n ∧ ∀ w, Calls Tryz.prog 14 #[.int .i64 x, .int .i64 (n : Int)] w fun e w' => e = .returned (.int .i64 (d : Int)) ∧ w = w' := by
  have h1 := Int.emod_nonneg x (b := (n : Int)) (by omega)
  have h2 := Int.emod_lt_of_pos x (b := (n : Int)) (by omega)
  refine ⟨(x % n).toNat, by omega, fun w => ?_⟩
  rw [Int.toNat_of_nonneg h1]
  exact kmod_any x n (by omega) (by omega) w
end Go.Proofs.YtgclmnlnbjjgkaaGreatDoor
namespace Go.Proofs.YtgclmnlnbjjgkaaGreatDoor
open Go.RowKit
theorem inf_by10 : (Tryz.prog.info? 5).map (fun i => (i.zero, i.size, i.bytes)) = some (some (.int .u8 0), 1, 1) := by kernel_rfl
theorem made_bytes10 (n : Nat) (x : Int) (hx : x = (n : Int)) (hn : n ≤ 1000000) : ∀ W, (Instr.makeSlice 33 (.int .i64 x) (.int .i64 x)).run Tryz.prog W = .ok (.slice (some ⟨W.heap.size, 0, none⟩) n n) (W.alloc (.cells (madeCells #[.int .u8 0] n) 5)) := by
  subst hx
  obtain ⟨i, hi, hz, hs, hb⟩ := info_parts inf_by10
  intro W
  have := run_make W 33 5 i (.int .u8 0) Tryz.underlying33 hi hz .i64 .i64 n n (by omega) (by omega) (by rw [hb]; omega) (by omega)
  rw [hs] at this
  simp only [Int.toNat_natCast, Nat.mul_one] at this
  exact this
/-- The bytes of which the first i are written. -/
def yf (i : Nat) (j : Nat) : Value := if j < i then .int .u8 32 else .int .u8 0
theorem yf_made {w : World} {b n : Nat} (h : w.rowIs b 5 n (fun _ => .int .u8 0)) : w.rowIs b 5 n (yf 0) := h.congr fun i _ => by unfold yf; rw [if_neg (by omega)]
theorem yf_step {w : World} {b n i : Nat} (h : w.rowIs b 5 n (yf i)) : (w.setCell ⟨b, i, none⟩ (.int .u8 32)).rowIs b 5 n (yf (i + 1)) :=
  (h.set i (.int .u8 32)).congr fun j _ => by
    unfold yf
    by_cases e : j = i
    · rw [if_pos e, if_pos (by omega)]
    · rw [if_neg e]
      by_cases h : j < i
      · rw [if_pos h, if_pos (by omega)]
      · rw [if_neg h, if_neg (by omega)]
def spS (n : Nat) : ByteArray := ⟨(List.replicate n (32 : UInt8)).toArray⟩
theorem spS_size (n : Nat) : (spS n).size = n := by unfold spS; simp [ByteArray.size]
theorem yf_conv {w : World} {b n : Nat} (h : w.rowIs b 5 n (yf n)) : (convert 33 9 (.slice (some ⟨b, 0, none⟩) n n)).run Tryz.prog w = .ok (.string (spS n)) w := by
  have h1 := run_convert_bytes_back w 33 9 5 ⟨b, 0, none⟩ n (List.replicate n (32 : UInt8)) Tryz.underlying33 Tryz.underlying5 Tryz.underlying9 (fun j hj => by
    have hjn : j < n := by simpa using hj
    have h3 : ((⟨b, 0, none⟩ : Addr).add j) = ⟨b, j, none⟩ := by
      unfold Addr.add
      by_cases h : j = 0 <;> simp [h]
    rw [h3, h.cell hjn]
    unfold yf
    rw [if_pos hjn]
    simp)
  rw [List.length_replicate] at h1
  exact h1
/-- The state of the loop that writes the blanks. -/
structure YSt (w : World) (N i : Nat) (wr : World) : Prop where
  below : Below w.heap.size w wr
  row : wr.rowIs w.heap.size 5 N (yf i)
theorem YSt.start (w : World) (N : Nat) : YSt w N 0 (w.alloc (.cells (madeCells #[.int .u8 0] N) 5)) :=
  ⟨(Below.refl _ _).alloc (Nat.le_refl _) _, yf_made (World.rowIs_made w (.int .u8 0) N 5)⟩
theorem YSt.step {w wr : World} {N i : Nat} (h : YSt w N i wr) : YSt w N (i + 1) (wr.setCell ⟨w.heap.size, i, none⟩ (.int .u8 32)) :=
  ⟨h.below.setCell (Nat.le_refl _) _, yf_step h.row⟩
set_option maxHeartbeats 10000000 in
set_option maxRecDepth 100000 in
theorem flexlimits_walk (x y : Int) (w : World) (hE : ErrIn w) (hG : SgIn w) : Calls Tryz.prog 4 #[.int .i64 x, .int .i64 y] w fun e w' => e = .returned (.bool true) ∧ Below w.heap.size w w' := by
  have HAW := Lib.hid (fun (W : World) (h : Below w.heap.size w W) => fawake_any W (hE.next h) (hG.next h))
  have HLX := Lib.hid (fun (s : ByteArray) (hs : s.size ≤ 281474976710656) => both_lex s hs w hE hG)
  obtain ⟨d, hd, hmd⟩ := kmod_nat x 7 (by omega) (by omega)
  obtain ⟨k, hk, hmk⟩ := kmod_nat y 4 (by omega) (by omega)
  rw [show ((7 : Nat) : Int) = 7 from rfl] at hmd
  rw [show ((4 : Nat) : Int) = 4 from rfl] at hmk
  have HMD := Lib.hid hmd
  have HMK := Lib.hid hmk
  clear hE hG hmd hmk
  go_enter Tryz.func4, Tryz.ntmps4
  go_upto_block 0 with (first
    | (go_at_call 14; (with_reducible refine (HMD.out _).mono ?_); rintro e w' ⟨rfl, rfl⟩)
    | (go_at_call 14; (with_reducible refine (HMK.out _).mono ?_); rintro e w' ⟨rfl, rfl⟩))
  go_cut [5] (fun t5 wx => ∃ S : ByteArray, t5 = .string S ∧ S.size ≤ 10000 ∧ Below w.heap.size w wx)
  case first => as_aux_lemma =>
    clear HAW HLX HMD HMK
    have hk4 : k = 0 ∨ k = 1 ∨ k = 2 ∨ k = 3 := by omega
    clear hk
    rcases hk4 with rfl | rfl | rfl | rfl
    · obtain ⟨d3, hd3, hm3⟩ := kmod_nat ((d : Int) - 3) 3 (by omega) (by omega)
      rw [show ((3 : Nat) : Int) = 3 from rfl] at hm3
      have HM3 := Lib.hid hm3
      clear hm3
      have hd4 : d3 = 0 ∨ d3 = 1 ∨ d3 = 2 := by omega
      clear hd3
      rcases hd4 with rfl | rfl | rfl
      all_goals
        go_wp2_with (go_at_call 14; (with_reducible refine (HM3.out _).mono ?_); rintro e w' ⟨rfl, rfl⟩)
        go_loop [5, 6] (fun t5 t6 => ∃ (S : ByteArray) (i : Nat), t5 = .string S ∧ t6 = .int .i64 i ∧ i ≤ 29 + d ∧ S.size ≤ 1 + i) (fun _ t6 => 29 + d - (intOf t6).toNat)
        case atStart => exact ⟨_, 0, rfl, rfl, by omega, by decide⟩
        case round =>
          obtain ⟨S, i, rfl, rfl, hi, hS⟩ := hrel
          by_cases hlt : i < 29 + d
          · have q1 : (i : Int) < 32 + ((d : Int) - 3) := by omega
            have qs : ¬ (S.size + 1 > 9223372036854775807) := by omega
            go_wp2_with fail
            go_round
            case rel => exact ⟨S ++ ⟨#[97]⟩, i + 1, rfl, by go_num, by omega, by rw [ByteArray.size_append]; show S.size + 1 ≤ _; omega⟩
            case measure => simp [intOf]; omega
          · have q1 : ¬ (i : Int) < 32 + ((d : Int) - 3) := by omega
            go_wp2_with fail
            go_meet
            exact ⟨S, rfl, by omega, (Below.refl _ _).alloc (Nat.le_refl _) _⟩
    · go_wp2_with fail
      go_loopw [5, 7] (fun t5 t7 wr => ∃ (S : ByteArray) (i : Nat), t5 = .string S ∧ t7 = .int .i64 i ∧ i ≤ 2045 + d ∧ S.size ≤ 2 * i ∧ Hid (Below w.heap.size w wr)) (fun _ t7 _ => 2045 + d - (intOf t7).toNat)
      case atStart => exact ⟨_, 0, rfl, rfl, by omega, by decide, Lib.hid (Below.refl _ _)⟩
      case round =>
        obtain ⟨S, i, rfl, rfl, hi, hS, HB⟩ := hrel
        by_cases hlt : i < 2045 + d
        · have q1 : (i : Int) < 2048 + ((d : Int) - 3) := by omega
          have qs : ¬ (S.size + 2 > 9223372036854775807) := by omega
          obtain ⟨r, hr⟩ : ∃ r : Int, (i : Int).tmod 3 = r := ⟨_, rfl⟩
          have hr2 : r = 0 ∨ r = 1 ∨ r = 2 := by
            rw [← hr, Int.tmod_eq_emod_of_nonneg (by omega)]
            omega
          rcases hr2 with rfl | rfl | rfl
          all_goals
            go_wp2_with fail
            go_roundw
            case rel => exact ⟨_, i + 1, rfl, by go_num, by omega, by rw [ByteArray.size_append]; show S.size + 2 ≤ _; omega, Lib.hid (HB.out.alloc HB.out.size _)⟩
            case measure => simp [intOf]; omega
        · have q1 : ¬ (i : Int) < 2048 + ((d : Int) - 3) := by omega
          go_wp2_with fail
          go_meet
          exact ⟨S, rfl, by omega, HB.out⟩
    · have hmk := made_bytes10 (8189 + d) (8192 + ((d : Int) - 3)) (by omega) (by omega)
      have HY := Lib.hid (YSt.start w (8189 + d))
      obtain ⟨N, hN⟩ : ∃ N, 8189 + d = N := ⟨_, rfl⟩
      rw [hN] at hmk HY
      have hN2 : N ≤ 8195 := by omega
      have HN := Lib.hid hN
      clear hN
      go_wp2_with fail
      go_loopw [9] (fun t9 wr => ∃ i : Nat, t9 = .int .i64 i ∧ i ≤ N ∧ Hid (YSt w N i wr)) (fun t9 _ => N - (intOf t9).toNat)
      case atStart => exact ⟨0, rfl, by omega, HY⟩
      case round =>
        obtain ⟨i, rfl, hi, HS⟩ := hrel
        by_cases hlt : i < N
        · have c0 := HS.out.row.cell hlt
          have f0 := HS.out.row.frozen i
          go_wp2_with fail
          go_roundw
          case rel => exact ⟨i + 1, by go_num, by omega, Lib.hid HS.out.step⟩
          case measure => simp [intOf]; omega
        · have hie : i = N := by omega
          subst hie
          have hcv := yf_conv HS.out.row
          go_wp2_with fail
          go_meet
          exact ⟨spS i, rfl, by rw [spS_size]; omega, HS.out.below⟩
    · go_wp2_with fail
      all_goals go_meet
      all_goals exact ⟨_, rfl, by decide, Below.refl _ _⟩
  case rest =>
    obtain ⟨S, rfl, hS, hB⟩ := hcut
    obtain ⟨ts, p, q, h1, h2⟩ := HLX.out S (by omega)
    have HL1 := Lib.hid h1
    have HL2 := Lib.hid h2
    have HBW := Lib.hid hB
    clear h1 h2 hB
    go_upto_region 26 with (go_at_call 7; refine (HL1.out _ HBW.out).mono ?_; rintro e w2 ⟨A, n, c, rfl, hb2, hn, hr⟩)
    have HB2 := Lib.hid (chain HBW.out hb2)
    have HR := Lib.hid hr
    clear hb2 hr
    go_upto_region 27 with (go_at_call 8; refine (HL2.out _).mono ?_; rintro e w3 ⟨B, m, d2, rfl, hb3, hm, hr3⟩)
    have HB3 := Lib.hid (chain HB2.out hb3)
    have HT := Lib.hid (tokens_any A B n m c d2 ts w3 (by omega) (HR.out.below hb3) hr3)
    clear hb3 hr3
    go_wp2_with (first
      | (go_at_call 9; refine HT.out.mono ?_; rintro e w' ⟨rfl, q0, rfl⟩)
      | (go_at_call 6; refine (HAW.out _ (below_drewN10 HB3.out q0)).mono ?_; rintro e w5 ⟨rfl, hb5⟩))
    all_goals go_ret
    all_goals exact ⟨rfl, chain (below_drewN10 HB3.out q0) hb5⟩
end Go.Proofs.YtgclmnlnbjjgkaaGreatDoor

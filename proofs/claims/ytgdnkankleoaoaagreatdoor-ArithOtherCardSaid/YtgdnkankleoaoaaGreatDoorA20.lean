/- slices.Grow and slices.Concat of two slices, of strings and of values. -/
import Derived.Test.YtgdnkankleoaoaaGreatDoorA19
import Derived.Test.YtgdnkankleoaoaaGreatDoorA03
import Derived.Lib.AppendZerosOnto
import Derived.WalkSpells
import Derived.WalkLawsBesides
import Derived.Outline
set_option linter.unusedVariables false
set_option linter.unusedSimpArgs false
namespace Go.Proofs.YtgdnkankleoaoaaGreatDoor
open Go.RowKit
def GrowPostS (w : World) (e : Ending) (w' : World) : Prop := Below w.heap.size w w' ∧ ∃ v, e = .returned v ∧ w'.ownsRow w.heap.size 9 1 v 0 []
set_option maxHeartbeats 2000000 in
set_option maxRecDepth 100000 in
theorem growS_nil (n : Nat) (w : World) (hn : n ≤ 2000000) : Calls Tryz.prog 287 #[.slice none 0 0, .int .i64 n] w (GrowPostS w) := by
  obtain ⟨i0, hi, hz0, hz1, hz2⟩ := info_parts inf_string
  by_cases hz : n = 0
  · subst hz
    go_enter Tryz.func287, Tryz.ntmps287
    go_wp2_with fail
    go_ret
    exact ⟨Below.refl _ _, _, rfl, World.ownsRow_nil _ _ _ _⟩
  · have hz' : 0 < n := by omega
    have hold : (Builtin.firstCells i0.size 0 (.slice none 0 0)).run Tryz.prog w.drew = .ok ([] : List Value).toArray w.drew := run_firstCells_none w.drew i0.size 0 0 0
    have hrz : ∀ ty, (Builtin.append_ #[22, 3] ty #[.slice none 0 0, .int .i64 (n : Int)]).run Tryz.prog w =
        .ok (.slice (some ⟨w.heap.size, 0, none⟩) (0 + n) (grownCap w (0 + n) 0 9)) (w.drew.alloc (.cells (([] : List Value).toArray ++ Builtin.zeroCells (Value.string ⟨#[]⟩).cells n ++ Builtin.zeroCells (Value.string ⟨#[]⟩).cells (grownCap w (0 + n) 0 9 - (0 + n))) 9)) := fun ty => by
      exact Lib.run_append_grow_zeros w 22 3 ty 9 i0 (.string ⟨#[]⟩) .i64 .i64 Tryz.underlying22 Tryz.underlying3 hi hz0 none 0 0 ([] : List Value) hold n hz' (by rw [hz1]; omega) (by omega) (by omega)
        (by rw [hz2]; omega) (growslice_fits (by omega) (by rw [hz2]; omega))
    have hGn : 0 + n ≤ grownCap w (0 + n) 0 9 := grownCap_ge w _ _ _
    have hG63 : grownCap w (0 + n) 0 9 ≤ maxLen := grownCap_le_maxLen w (0 + n) 0 9 (by unfold maxLen; omega)
    generalize hG : grownCap w (0 + n) 0 9 = G at hrz hGn hG63
    have hG63' : G ≤ 9223372036854775807 := by unfold maxLen at hG63; omega
    have HM := Lib.hid hG63
    clear hold hG hG63
    obtain ⟨C, hC⟩ : ∃ C : Array Value, C = ([] : List Value).toArray ++ Builtin.zeroCells (Value.string ⟨#[]⟩).cells n ++ Builtin.zeroCells (Value.string ⟨#[]⟩).cells (G - (0 + n)) := ⟨_, rfl⟩
    have hsz : Hid (C.size = G * 1) := Lib.hid (by
      rw [hC, Array.size_append, Array.size_append, size_zeroCells, size_zeroCells, show (Value.string ⟨#[]⟩).cells.size = 1 from rfl]
      simp
      omega)
    rw [← hC] at hrz
    have HRZ := Lib.hid hrz
    clear hrz hC
    go_enter Tryz.func287, Tryz.ntmps287
    go_wp2_with (at_builtin; refine Lib.wpList_append_run _ rfl _ _ _ _ rfl _ _ rfl rfl _ _ (HRZ.out _) ?_)
    go_ret
    refine ⟨((Below.refl _ _).drew).alloc (Nat.le_refl _) _, _, rfl, ?_⟩
    exact World.ownsRow_made (base := w.heap.size) (e := 9) (size := 1) w.drew C G (Nat.le_refl _) HM.out hsz.out
/-- The first loop: how much has been counted. -/
def CStC (n0 n1 : Nat) (t3 t11 : Value) : Prop := (t11 = .int .i64 0 ∧ t3 = .int .i64 0) ∨ (t11 = .int .i64 1 ∧ t3 = .int .i64 n0) ∨ (t11 = .int .i64 2 ∧ t3 = .int .i64 ((n0 : Int) + n1))
/-- What a concatenation of two slices hands back: a row of its own. -/
def CatPost (base : Nat) (ty : TypeId) (size : Nat) (w : World) (n : Nat) (xs : List Value) (e : Ending) (w' : World) : Prop :=
  ∃ v, e = .returned v ∧ w'.ownsRow base ty size v n xs ∧ Below base w w'
theorem own_ge' {w : World} {base n size : Nat} {e : TypeId} {v : Value} {xs : List Value} (h : w.ownsRow base e size v n xs) : ∀ g, v.ownBlock = some g → base ≤ g := fun g hg => (h.lt g hg).1
/-- The second loop: what has been put. -/
def DStC (ty : TypeId) (size : Nat) (W : World) (n0 n1 : Nat) (l0 l1 : List Value) (t6 t27 : Value) (wr : World) : Prop := ∃ (n : Nat) (out : List Value), wr.ownsRow W.heap.size ty size t6 n out ∧ Below W.heap.size W wr ∧
  ((t27 = .int .i64 0 ∧ out = [] ∧ n = 0) ∨ (t27 = .int .i64 1 ∧ out = l0 ∧ n = n0) ∨ (t27 = .int .i64 2 ∧ out = l0 ++ l1 ∧ n = n0 + n1))
set_option maxHeartbeats 4000000 in
set_option maxRecDepth 100000 in
theorem concatS_any (g : Nat) (A0 A1 : Option Addr) (n0 n1 c0 c1 : Nat) (l0 l1 : List Value) (w : World) (h0 : w.cell? ⟨g, 0, none⟩ = some (.slice A0 n0 c0)) (h1 : w.cell? ⟨g, 1, none⟩ = some (.slice A1 n1 c1))
    (hr0 : Rs w (· < w.heap.size) A0 l0) (hr1 : Rs w (· < w.heap.size) A1 l1) (hc0 : A0 = none → c0 = 0) (hc1 : A1 = none → c1 = 0) (hl0 : l0.length = n0 * 1) (hl1 : l1.length = n1 * 1) (hn0 : n0 ≤ 500000) (hn1 : n1 ≤ 500000) (ho0 : ∀ u ∈ l0, u.oneCell' = true) (ho1 : ∀ u ∈ l1, u.oneCell' = true) :
    Calls Tryz.prog 238 #[.slice (some ⟨g, 0, none⟩) 2 2] w (CatPost w.heap.size 9 1 w (n0 + n1) (l0 ++ l1)) := by
  obtain ⟨i0, hi, hz0, hz1, hz2⟩ := info_parts inf_string
  have hg : g < w.heap.size := World.block_lt_of_cell? w _ h0
  have HR0 := Lib.hid hr0
  have HR1 := Lib.hid hr1
  have HC0 := Lib.hid hc0
  have HC1 := Lib.hid hc1
  have H0 := Lib.hid h0
  have H1 := Lib.hid h1
  have HL0 := Lib.hid hl0
  have HL1 := Lib.hid hl1
  have HO0 := Lib.hid ho0
  have HO1 := Lib.hid ho1
  clear hr0 hr1 hc0 hc1 hl0 hl1 ho0 ho1
  go_enter Tryz.func238, Tryz.ntmps238
  go_wp2_with fail
  go_loop [3, 5, 11] (fun t3 _ t11 => CStC n0 n1 t3 t11) (fun _ _ t11 => 2 - (intOf t11).toNat)
  case atStart => exact .inl ⟨rfl, rfl⟩
  case round =>
    rcases hrel with ⟨rfl, rfl⟩ | ⟨rfl, rfl⟩ | ⟨rfl, rfl⟩
    · go_wp2_with fail
      go_round
      case rel => exact .inr (.inl ⟨rfl, rfl⟩)
      case measure => simp [intOf]
    · go_wp2_with fail
      go_round
      case rel => exact .inr (.inr ⟨rfl, rfl⟩)
      case measure => simp [intOf]
    · go_wp2_with (go_at_call 287; (refine (growS_nil (n0 + n1) _ (by omega)).mono ?_); rintro e w1 ⟨hb1, gv, rfl, hown1⟩)
      go_loopw [6, 8, 27] (fun t6 _ t27 wr => DStC 9 1 w n0 n1 l0 l1 t6 t27 wr) (fun _ _ t27 _ => 2 - (intOf t27).toNat)
      case atStart => exact ⟨0, [], hown1, hb1, .inl ⟨rfl, rfl, rfl⟩⟩
      case round =>
        clear hown1 hb1 h0 h1
        obtain ⟨m, out, hown, hbel, hcase⟩ := hrel
        have HO := Lib.hid hown
        have HBE := Lib.hid hbel
        clear hown hbel
        rcases hcase with ⟨rfl, rfl, rfl⟩ | ⟨rfl, rfl, rfl⟩ | ⟨rfl, rfl, rfl⟩
        · have q := (HBE.out.cell (p := ⟨g, 0, none⟩) hg).trans H0.out
          go_wp2_with (at_builtin; refine wpList_append_rs _ rfl (.tmp 31) (.tmp 32) 22 rfl w.heap.size 9 i0 (.string ⟨#[]⟩) 1 16 Tryz.underlying22 hi hz0 hz1 hz2 rfl (by omega) _ 0 [] rfl HO.out (· < w.heap.size) A0 n0 c0 l0 rfl HL0.out (HR0.out.move fun b hb => ⟨hb, HBE.out.block b hb⟩) HC0.out HO0.out (by unfold maxLen; omega) (by omega) HBE.out.size ?_; intro v2 w2 hown2 hgrow2; have hb2 := HBE.out.grown hgrow2 HBE.out.size (own_ge' HO.out); clear q hgrow2)
          go_roundw
          case rel => exact ⟨_, _, hown2, hb2, .inr (.inl ⟨rfl, List.nil_append _, Nat.zero_add _⟩)⟩
          case measure => simp [intOf]
        · have q := (HBE.out.cell (p := ⟨g, 1, none⟩) hg).trans H1.out
          go_wp2_with (at_builtin; refine wpList_append_rs _ rfl (.tmp 31) (.tmp 32) 22 rfl w.heap.size 9 i0 (.string ⟨#[]⟩) 1 16 Tryz.underlying22 hi hz0 hz1 hz2 rfl (by omega) _ _ _ rfl HO.out (· < w.heap.size) A1 n1 c1 l1 rfl HL1.out (HR1.out.move fun b hb => ⟨hb, HBE.out.block b hb⟩) HC1.out HO1.out (by unfold maxLen; omega) (by omega) HBE.out.size ?_; intro v2 w2 hown2 hgrow2; have hb2 := HBE.out.grown hgrow2 HBE.out.size (own_ge' HO.out); clear q hgrow2)
          go_roundw
          case rel => exact ⟨_, _, hown2, hb2, .inr (.inr ⟨rfl, rfl, rfl⟩)⟩
          case measure => simp [intOf]
        · go_wp2_with fail
          go_ret
          exact ⟨_, rfl, HO.out, HBE.out⟩
set_option maxHeartbeats 4000000 in
set_option maxRecDepth 100000 in
theorem concatV_any (g : Nat) (A0 A1 : Option Addr) (n0 n1 c0 c1 : Nat) (l0 l1 : List Value) (w : World) (h0 : w.cell? ⟨g, 0, none⟩ = some (.slice A0 n0 c0)) (h1 : w.cell? ⟨g, 1, none⟩ = some (.slice A1 n1 c1))
    (hr0 : Rs w (· < w.heap.size) A0 l0) (hr1 : Rs w (· < w.heap.size) A1 l1) (hc0 : A0 = none → c0 = 0) (hc1 : A1 = none → c1 = 0) (hl0 : l0.length = n0 * 5) (hl1 : l1.length = n1 * 5) (hn0 : n0 ≤ 500000) (hn1 : n1 ≤ 500000) (ho0 : ∀ u ∈ l0, u.oneCell' = true) (ho1 : ∀ u ∈ l1, u.oneCell' = true) :
    Calls Tryz.prog 184 #[.slice (some ⟨g, 0, none⟩) 2 2] w (CatPost w.heap.size 25 5 w (n0 + n1) (l0 ++ l1)) := by
  obtain ⟨i0, hi, hz0, hz1, hz2⟩ := info_parts inf_value
  have hg : g < w.heap.size := World.block_lt_of_cell? w _ h0
  have HR0 := Lib.hid hr0
  have HR1 := Lib.hid hr1
  have HC0 := Lib.hid hc0
  have HC1 := Lib.hid hc1
  have H0 := Lib.hid h0
  have H1 := Lib.hid h1
  have HL0 := Lib.hid hl0
  have HL1 := Lib.hid hl1
  have HO0 := Lib.hid ho0
  have HO1 := Lib.hid ho1
  clear hr0 hr1 hc0 hc1 hl0 hl1 ho0 ho1
  go_enter Tryz.func184, Tryz.ntmps184
  go_wp2_with fail
  go_loop [3, 5, 11] (fun t3 _ t11 => CStC n0 n1 t3 t11) (fun _ _ t11 => 2 - (intOf t11).toNat)
  case atStart => exact .inl ⟨rfl, rfl⟩
  case round =>
    rcases hrel with ⟨rfl, rfl⟩ | ⟨rfl, rfl⟩ | ⟨rfl, rfl⟩
    · go_wp2_with fail
      go_round
      case rel => exact .inr (.inl ⟨rfl, rfl⟩)
      case measure => simp [intOf]
    · go_wp2_with fail
      go_round
      case rel => exact .inr (.inr ⟨rfl, rfl⟩)
      case measure => simp [intOf]
    · go_wp2_with (go_at_call 232; (refine (grow_nil (n0 + n1) _ (by omega)).mono ?_); rintro e w1 ⟨hb1, gv, rfl, hown1⟩)
      go_loopw [6, 8, 27] (fun t6 _ t27 wr => DStC 25 5 w n0 n1 l0 l1 t6 t27 wr) (fun _ _ t27 _ => 2 - (intOf t27).toNat)
      case atStart => exact ⟨0, [], hown1, hb1, .inl ⟨rfl, rfl, rfl⟩⟩
      case round =>
        clear hown1 hb1 h0 h1
        obtain ⟨m, out, hown, hbel, hcase⟩ := hrel
        have HO := Lib.hid hown
        have HBE := Lib.hid hbel
        clear hown hbel
        rcases hcase with ⟨rfl, rfl, rfl⟩ | ⟨rfl, rfl, rfl⟩ | ⟨rfl, rfl, rfl⟩
        · have q := (HBE.out.cell (p := ⟨g, 0, none⟩) hg).trans H0.out
          go_wp2_with (at_builtin; refine wpList_append_rs _ rfl (.tmp 31) (.tmp 32) 23 rfl w.heap.size 25 i0 zeroVal 5 80 Tryz.underlying23 hi hz0 hz1 hz2 rfl (by omega) _ 0 [] rfl HO.out (· < w.heap.size) A0 n0 c0 l0 rfl HL0.out (HR0.out.move fun b hb => ⟨hb, HBE.out.block b hb⟩) HC0.out HO0.out (by unfold maxLen; omega) (by omega) HBE.out.size ?_; intro v2 w2 hown2 hgrow2; have hb2 := HBE.out.grown hgrow2 HBE.out.size (own_ge' HO.out); clear q hgrow2)
          go_roundw
          case rel => exact ⟨_, _, hown2, hb2, .inr (.inl ⟨rfl, List.nil_append _, Nat.zero_add _⟩)⟩
          case measure => simp [intOf]
        · have q := (HBE.out.cell (p := ⟨g, 1, none⟩) hg).trans H1.out
          go_wp2_with (at_builtin; refine wpList_append_rs _ rfl (.tmp 31) (.tmp 32) 23 rfl w.heap.size 25 i0 zeroVal 5 80 Tryz.underlying23 hi hz0 hz1 hz2 rfl (by omega) _ _ _ rfl HO.out (· < w.heap.size) A1 n1 c1 l1 rfl HL1.out (HR1.out.move fun b hb => ⟨hb, HBE.out.block b hb⟩) HC1.out HO1.out (by unfold maxLen; omega) (by omega) HBE.out.size ?_; intro v2 w2 hown2 hgrow2; have hb2 := HBE.out.grown hgrow2 HBE.out.size (own_ge' HO.out); clear q hgrow2)
          go_roundw
          case rel => exact ⟨_, _, hown2, hb2, .inr (.inr ⟨rfl, rfl, rfl⟩)⟩
          case measure => simp [intOf]
        · go_wp2_with fail
          go_ret
          exact ⟨_, rfl, HO.out, HBE.out⟩
end Go.Proofs.YtgdnkankleoaoaaGreatDoor

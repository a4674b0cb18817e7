/- TableTranspose's walk. -/
import Derived.Test.YtnokmlclephjgaaTH
import Derived.Test.YtnokmlclephjgaaTG
import Derived.Test.YtnokmlclephjgaaAw9
import Derived.Test.YtnokmlclephjgaaKmod
import Derived.Deep.RegionHeld3
import Derived.Deep.AppendLies
import Derived.Deep.CutBlock
import Derived.Deep.DeepCutAuto
import Derived.BigQuiet
set_option linter.unusedVariables false
set_option linter.unusedSimpArgs false
namespace Go.Proofs.Ytnokmlclephjgaa
open Go.RowKit
/-- Between two rows. -/
structure TtSt (g5 : Nat) (f : Nat → Nat → Int) (N r : Nat) (w wr : World) (V : Value) : Prop where
  box : Box wr g5 27 #[.int .i64 5, .int .i64 0, .string ⟨#[]⟩, .slice none 0 0, V]
  own : ∃ xs, wr.ownsRow w.heap.size 27 5 V r xs ∧ LiesL wr (fun b => w.heap.size ≤ b ∧ b < wr.heap.size ∧ b ≠ g5 ∧ V.ownBlock ≠ some b) (matV f r N) xs
  off : V.ownBlock ≠ some g5
  ge : w.heap.size ≤ g5
  below : Below w.heap.size w wr
/-- Within a row. -/
structure TuSt (ps : Nat → Int) (k : Nat) (wq wr : World) (U : Value) : Prop where
  box : Box wr wq.heap.size 27 #[.int .i64 5, .int .i64 0, .string ⟨#[]⟩, .slice none 0 0, U]
  own : wr.ownsRow wq.heap.size 27 5 U k (((List.range k).map ps).flatMap numC)
  off : U.ownBlock ≠ some wq.heap.size
  below : Below wq.heap.size wq wr
theorem setFour {w : World} {g : Nat} {t : TypeId} {a b c d e : Value} (h : Box w g t #[a, b, c, d, e]) (u : Value) : Box (w.setCell ⟨g, 4, none⟩ u) g t #[a, b, c, d, u] := h.put 4 u
theorem own_off {w4 : World} {base g g5 n cap size : Nat} {e : TypeId} {xs : List Value} (ho : w4.ownsRow base e size (.slice (some ⟨g, 0, none⟩) n cap) n xs) (hne : g ≠ g5) (u : Value) : (w4.setCell ⟨g5, 4, none⟩ u).ownsRow base e size (.slice (some ⟨g, 0, none⟩) n cap) n xs :=
  own_still ho fun b hb' => by
    have e : g = b := by injection hb'
    exact Below.heap_setCell _ _ _ _ (by show b ≠ g5; omega)
theorem TtSt.nextB {g5 : Nat} {f : Nat → Nat → Int} {N r : Nat} {w wr w2 : World} {V : Value} (h : TtSt g5 f N r w wr V) (hb : Below wr.heap.size wr w2) : TtSt g5 f N r w w2 V := by
  obtain ⟨xs, h1, h2⟩ := h.own
  exact ⟨h.box.below hb h.box.lt, ⟨xs, own_belowV h1 hb, h2.move fun b hb' => ⟨⟨hb'.1, Nat.lt_of_lt_of_le hb'.2.1 hb.size, hb'.2.2⟩, hb.block b hb'.2.1⟩⟩, h.off, h.ge, h.below.trans (hb.mono h.below.size)⟩
theorem TtSt.put {g5 : Nat} {f : Nat → Nat → Int} {N r g cap : Nat} {w wr wm w4 : World} {V : Value} {xs c : List Value} (h : TtSt g5 f N r w wr V) (ho0 : wr.ownsRow w.heap.size 27 5 V r xs) (hl0 : LiesL wr (fun b => w.heap.size ≤ b ∧ b < wr.heap.size ∧ b ≠ g5 ∧ V.ownBlock ≠ some b) (matV f r N) xs)
    (hc : Lies wr (fun b => w.heap.size ≤ b ∧ b < wr.heap.size ∧ b ≠ g5 ∧ V.ownBlock ≠ some b) (arrV (((List.range N).map fun i => f r i).map numV)) c) (hb : Below wr.heap.size wr wm) (ho : w4.ownsRow w.heap.size 27 5 (.slice (some ⟨g, 0, none⟩) (r + 1) cap) (r + 1) (xs ++ c)) (hg : wm.grownBy w4 V.ownBlock) (hor : V.ownBlock = some g ∨ g = wm.heap.size) :
    Box w4 g5 27 #[.int .i64 5, .int .i64 0, .string ⟨#[]⟩, .slice none 0 0, V] ∧ TtSt g5 f N (r + 1) w (w4.setCell ⟨g5, 4, none⟩ (.slice (some ⟨g, 0, none⟩) (r + 1) cap)) (.slice (some ⟨g, 0, none⟩) (r + 1) cap) := by
  have hbx : Box w4 g5 27 #[.int .i64 5, .int .i64 0, .string ⟨#[]⟩, .slice none 0 0, V] := (h.box.below hb h.box.lt).grown hg (fun e => h.off e.symm)
  have hg5 : g ≠ g5 := fun e => by
    rcases hor with h1 | h1
    · exact h.off (by rw [h1, e])
    · have := h.box.lt
      have := hb.size
      omega
  have hB4 : Below w.heap.size w w4 := grown_belowL hg (h.below.trans (hb.mono h.below.size)) fun k hk => (ho0.lt k hk).1
  refine ⟨hbx, setFour hbx _, ⟨xs ++ c, own_off ho hg5 _, ?_⟩, fun e => hg5 (by injection e), h.ge, hB4.setCell h.ge _⟩
  rw [matV_succ]
  refine (liesL_snoc hl0 hc).move fun b hb' => ?_
  obtain ⟨h1, h2, h3, h4⟩ := hb'
  have hbm : b < wm.heap.size := Nat.lt_of_lt_of_le h2 hb.size
  refine ⟨⟨h1, by simp [World.setCell]; exact Nat.lt_of_lt_of_le hbm hg.size, h3, fun e => ?_⟩, ?_⟩
  · have e : g = b := by injection e
    rcases hor with h5 | h5
    · exact h4 (by rw [h5, e])
    · omega
  · rw [Below.heap_setCell _ _ _ _ (by simpa using h3)]
    exact (hg.block b hbm (fun e => h4 e.symm)).trans (hb.block b h2)
theorem TuSt.nextB {ps : Nat → Int} {k : Nat} {wq wr w2 : World} {U : Value} (h : TuSt ps k wq wr U) (hb : Below wr.heap.size wr w2) : TuSt ps k wq w2 U :=
  ⟨h.box.below hb h.box.lt, own_belowV h.own hb, h.off, h.below.trans (hb.mono h.below.size)⟩
theorem TuSt.start (ps : Nat → Int) (wq : World) : TuSt ps 0 wq (wq.alloc (.cells #[.int .i64 5, .int .i64 0, .string ⟨#[]⟩, .slice none 0 0, .slice none 0 0] 27)) (.slice none 0 0) :=
  ⟨Box.laid _ _ _, World.ownsRow_nil _ _ _ _, (fun e => by cases e), below1 _ _⟩
theorem TuSt.put {ps : Nat → Int} {k g cap : Nat} {wq wr wm w4 : World} {U : Value} (h : TuSt ps k wq wr U) (hb : Below wr.heap.size wr wm) (ho : w4.ownsRow wq.heap.size 27 5 (.slice (some ⟨g, 0, none⟩) (k + 1) cap) (k + 1) (((List.range k).map ps).flatMap numC ++ numC (ps k))) (hg : wm.grownBy w4 U.ownBlock) (hor : U.ownBlock = some g ∨ g = wm.heap.size) :
    Box w4 wq.heap.size 27 #[.int .i64 5, .int .i64 0, .string ⟨#[]⟩, .slice none 0 0, U] ∧ TuSt ps (k + 1) wq (w4.setCell ⟨wq.heap.size, 4, none⟩ (.slice (some ⟨g, 0, none⟩) (k + 1) cap)) (.slice (some ⟨g, 0, none⟩) (k + 1) cap) ∧ Below wq.heap.size wq w4 := by
  have hbx : Box w4 wq.heap.size 27 #[.int .i64 5, .int .i64 0, .string ⟨#[]⟩, .slice none 0 0, U] := (h.box.below hb h.box.lt).grown hg (fun e => h.off e.symm)
  have hg5 : g ≠ wq.heap.size := fun e => by
    rcases hor with h1 | h1
    · exact h.off (by rw [h1, e])
    · have := h.box.lt
      have := hb.size
      omega
  have hB4 : Below wq.heap.size wq w4 := grown_belowL hg (h.below.trans (hb.mono h.below.size)) fun k hk => (h.own.lt k hk).1
  refine ⟨hbx, ⟨setFour hbx _, own_off ?_ hg5 _, fun e => hg5 (by injection e), hB4.setCell (Nat.le_refl _) _⟩, hB4⟩
  rw [List.range_succ, List.map_append, List.flatMap_append]
  exact (by simpa using ho)
/-- What the row's end gives. -/
theorem TuSt.lies {ps : Nat → Int} {k : Nat} {wq wr : World} {U : Value} (h : TuSt ps k wq wr U) (hk : k ≤ 24) {S : Nat → Prop} (hS : ∀ b, wq.heap.size < b → b < wr.heap.size → S b) : Lies wr S (arrV (((List.range k).map ps).map numV)) [.int .i64 5, .int .i64 0, .string ⟨#[]⟩, .slice none 0 0, U] := by
  obtain ⟨A, c, rfl, h0, hc, hm, hr⟩ := own_open h.own
  have hoff := h.off
  unfold arrV
  rw [Lies]
  refine ⟨⟨Nat.zero_le _, by simp, Nat.zero_le _, by simp; omega⟩, none, 0, A, c, _, by simp, fun _ => rfl, h0, ⟨Nat.le_refl _, Nat.zero_le _⟩, ⟨by simpa using hc, hm⟩, Rs.nil _ _ _, hr.move fun b hb => ⟨hS b ?_ hb.2.1, rfl⟩, numsL _ _ _⟩
  have h1 : b ≠ wq.heap.size := fun e => hoff (by rw [← e]; exact hb.2.2)
  have h2 := hb.1
  omega
theorem add_small {t k M : Nat} (h : t + k < M) (hM : M ≤ 24) : IntKind.i64.wrap ((t : Int) + (k : Int)) = (t : Int) + (k : Int) ∧ (0 : Int) ≤ (t : Int) + (k : Int) ∧ ((t : Int) + (k : Int)).toNat = t + k := by
  have h1 : wrap64 ((t : Int) + (k : Int)) = (t : Int) + (k : Int) := by
    unfold wrap64
    omega
  exact ⟨(IntWalk.i64_left _).trans h1, by omega, by omega⟩
/-- The cells of a row that has just been laid. -/
theorem laid_cells (w : World) (t : TypeId) (new : List Value) : ∀ j u, new[j]? = some u → (w.alloc (.cells new.toArray t)).cell? ((⟨w.heap.size, 0, none⟩ : Addr).add j) = some u := fun j u hj => by
  have h3 : ((⟨w.heap.size, 0, none⟩ : Addr).add j) = ⟨w.heap.size, j, none⟩ := by
    unfold Addr.add
    by_cases h : j = 0 <;> simp [h]
  rw [h3]
  exact (Box.laid w t new.toArray).cell (by simpa using hj)
set_option maxHeartbeats 8000000 in
set_option maxRecDepth 100000 in
theorem tableTranspose_walk (A : Option Addr) (c : Nat) (zs : List Int) (n0 : Int) (w : World) (hR : Rd w w.heap.size A (zs.map (Value.int .i64))) :
    Calls Try.prog 4 #[.slice A zs.length c, .int .i64 n0] w fun e w' => e = .returned (.bool true) ∧ Below w.heap.size w w' := by
  have HAW := Lib.hid (fun W => awake9_any W)
  obtain ⟨d, hd, HD0⟩ := kmod_nat n0 4 (by decide) (by decide)
  have HMO := Lib.hid HD0
  clear HD0
  have hd0 : (0 : Int) ≤ (d : Int) := by omega
  have hd4 : (d : Int) < 4 := by omega
  by_cases hbig : 24 < zs.length
  · have hbi : (24 : Int) < (zs.length : Int) := by omega
    generalize zs.length = n at *
    go_enter Try.func4, Try.ntmps4
    go_wp2_with fail
    refine (HMO.out _).mono ?_
    rintro e0 w0 ⟨rfl, rfl⟩
    go_wp2_with fail
    refine (HAW.out _).mono ?_
    rintro e1 w1 ⟨rfl, hb1⟩
    go_wp2_with fail
    go_ret
    exact ⟨rfl, hb1⟩
  · have hbi : ¬ (24 : Int) < (zs.length : Int) := by omega
    have HN := Lib.hid (fun (n : Int) W => lnum_any n W)
    have HLL := Lib.hid (fun (A : Option Addr) (n c : Nat) W => llist_any A n c W)
    obtain ⟨f, hf⟩ : ∃ f : Nat → Nat → Int, f = fun q i => zs.getD (q * (d + 1) + i) 0 := ⟨_, rfl⟩
    have HZ : Hid (∀ q i, q * (d + 1) + i < zs.length → ∃ b o, A = some ⟨b, o, none⟩ ∧ b < w.heap.size ∧ w.cell? ⟨b, o + (q * (d + 1) + i), none⟩ = some (.int .i64 (f q i))) := Lib.hid fun q i hqi => by
      have hz : zs[q * (d + 1) + i]? = some (f q i) := by
        rw [hf]
        simp [List.getD, List.getElem?_eq_getElem hqi]
      exact hR.at_ (by rw [List.getElem?_map, hz]; rfl)
    obtain ⟨i0, hi, hz0, hz1, hz2⟩ := info_parts inf_value
    generalize hM : zs.length = M at *
    have hM24 : M ≤ 24 := by omega
    clear hR hf hM zs hbig
    go_enter Try.func4, Try.ntmps4
    go_wp2_with fail
    refine (HMO.out _).mono ?_
    rintro e0 w0 ⟨rfl, rfl⟩
    go_wp2_with fail
    refine (HLL.out _ _ _ _).mono ?_
    rintro e1 w1 ⟨rfl, hb1⟩
    have HS0 : Hid (TtSt w1.heap.size f (d + 1) 0 w (w1.alloc (.cells #[.int .i64 5, .int .i64 0, .string ⟨#[]⟩, .slice none 0 0, .slice none 0 0] 27)) (.slice none 0 0)) := Lib.hid ⟨Box.laid _ _ _, ⟨[], World.ownsRow_nil _ _ _ _, by unfold matV; rw [List.range_zero, List.map_nil, LiesL]⟩, (fun e => by cases e), hb1.size, hb1.trans ((below1 w1 _).mono hb1.size)⟩
    clear hb1
    go_wp2_with fail
    generalize w1.heap.size = g5 at HS0 ⊢
    generalize (w1.alloc (.cells #[.int .i64 5, .int .i64 0, .string ⟨#[]⟩, .slice none 0 0, .slice none 0 0] 27)) = w2 at HS0 ⊢
    go_loopg [6] M (fun gg s6 wr => ∃ (r t : Nat) (V : Value), s6 = .int .i64 t ∧ t ≤ M ∧ M - t ≤ gg ∧ Hid (t = r * (d + 1)) ∧ Hid (TtSt g5 f (d + 1) r w wr V))
    case atStart => exact ⟨0, 0, _, rfl, Nat.zero_le _, by omega, Lib.hid (by omega), HS0⟩
    case round =>
      clear HS0
      obtain ⟨r, t, V, rfl, htM, hg, HT, HS⟩ := hrel
      by_cases hlt : t + (d + 1) ≤ M
      · have hil : (t : Int) + ((d : Int) + 1) ≤ (M : Int) := by omega
        have ht0 : (0 : Int) ≤ (t : Int) := by omega
        go_wp2_with fail
        refine (HLL.out _ _ _ _).mono ?_
        rintro e2 wq ⟨rfl, hbq⟩
        have HSQ := Lib.hid (HS.out.nextB hbq)
        have HU0 := Lib.hid (TuSt.start (f r) wq)
        clear hbq HS
        go_wp2_with fail
        generalize (wq.alloc (.cells #[.int .i64 5, .int .i64 0, .string ⟨#[]⟩, .slice none 0 0, .slice none 0 0] 27)) = wu at HU0 ⊢
        go_loopg [8] (d + 1) (fun gg s8 wr => ∃ (k : Nat) (U : Value), s8 = .int .i64 k ∧ k ≤ d + 1 ∧ d + 1 - k ≤ gg ∧ Hid (TuSt (f r) k wq wr U))
        case atStart => exact ⟨0, _, rfl, Nat.zero_le _, by omega, HU0⟩
        case round =>
          clear HU0
          obtain ⟨k, U, rfl, hkd, hg2, HU⟩ := hrel
          by_cases hk : k < d + 1
          · obtain ⟨b, o, rfl, hb, hcz⟩ := HZ.out r k (by rw [← HT.out]; omega)
            rw [← HT.out] at hcz
            have HZC : Hid (∀ X, Below w.heap.size w X → X.cell? ⟨b, o + (t + k), none⟩ = some (.int .i64 (f r k))) := Lib.hid fun X hX => (hX.cell (p := ⟨b, o + (t + k), none⟩) hb).trans hcz
            have HBW : Hid (Below w.heap.size w wr) := Lib.hid (HSQ.out.below.trans (HU.out.below.mono HSQ.out.below.size))
            obtain ⟨c0, c1, c2, c3, c4⟩ := box5 HU.out.box
            have hk0 : (0 : Int) ≤ (k : Int) := by omega
            have hkl : (k : Int) < (d : Int) + 1 := by omega
            have htk : (t : Int) + (k : Int) < (M : Int) := by omega
            obtain ⟨hwr, htk0, htk1⟩ := add_small (t := t) (k := k) (M := M) (by omega) hM24
            clear hcz c0 c1 c2 c3
            go_upto_region 12 with fail
            refine wp_region_noPanic ?_
            refine wp_region_held_drew (S := fun X : World => Below w.heap.size w X) (by kernel_rfl) HBW.out.drew (fun hHeld => ?_)
            refine wpAnyH_take (i := 0) (v := ?_) rfl (by kernel_rfl) (by kernel_rfl) (by kernel_rfl) (fun _ _ _ h => h) (Or.inl ⟨by rfl, ?ytk1⟩) (by assumption) ?_
            case ytk1 => (intro w hSw; (try dsimp only at hSw); go_simp <;> with_reducible rfl)
            try simp only [List.getElem_toArray, List.getElem_cons_succ, List.getElem_cons_zero, Act.put, List.setIfInBounds_toArray, List.set_cons_zero, List.set_cons_succ]
            refine wpAnyH_take (i := 2) (v := ?_) rfl (by kernel_rfl) (by kernel_rfl) (by kernel_rfl) (fun _ _ _ h => h) (Or.inl ⟨by rfl, ?ytk2⟩) (by assumption) ?_
            case ytk2 => (intro w hSw; (try dsimp only at hSw); go_simp <;> with_reducible rfl)
            try simp only [List.getElem_toArray, List.getElem_cons_succ, List.getElem_cons_zero, Act.put, List.setIfInBounds_toArray, List.set_cons_zero, List.set_cons_succ]
            refine wpAnyH_take (i := 3) (v := ?_) rfl (by kernel_rfl) (by kernel_rfl) (by kernel_rfl) (fun _ _ _ h => h) (Or.inl ⟨by rfl, ?ytk3⟩) (by assumption) ?_
            case ytk3 => (intro w hSw; (try dsimp only at hSw); go_simp <;> with_reducible rfl)
            try simp only [List.getElem_toArray, List.getElem_cons_succ, List.getElem_cons_zero, Act.put, List.setIfInBounds_toArray, List.set_cons_zero, List.set_cons_succ]
            refine wpAnyH_take (i := 4) (v := ?_) rfl (by kernel_rfl) (by kernel_rfl) (by kernel_rfl) (fun _ _ _ h => h) (Or.inl ⟨by rfl, ?ytk4⟩) (by assumption) ?_
            case ytk4 => (intro w hSw; (try dsimp only at hSw); go_simp <;> with_reducible rfl)
            try simp only [List.getElem_toArray, List.getElem_cons_succ, List.getElem_cons_zero, Act.put, List.setIfInBounds_toArray, List.set_cons_zero, List.set_cons_succ]
            refine wpAnyH_take (i := 5) (v := ?_) rfl (by kernel_rfl) (by kernel_rfl) (by kernel_rfl) (fun _ _ _ h => h) (Or.inl ⟨by rfl, ?ytk5⟩) (by assumption) ?_
            case ytk5 => (intro w hSw; (try dsimp only at hSw); go_simp <;> with_reducible rfl)
            try simp only [List.getElem_toArray, List.getElem_cons_succ, List.getElem_cons_zero, Act.put, List.setIfInBounds_toArray, List.set_cons_zero, List.set_cons_succ]
            refine wpAnyH_take (i := 6) (v := ?_) rfl (by kernel_rfl) (by kernel_rfl) (by kernel_rfl) (fun _ _ _ h => h) (Or.inl ⟨by rfl, ?ytk6⟩) (by assumption) ?_
            case ytk6 => (intro w hSw; (try dsimp only at hSw); go_simp <;> with_reducible rfl)
            try simp only [List.getElem_toArray, List.getElem_cons_succ, List.getElem_cons_zero, Act.put, List.setIfInBounds_toArray, List.set_cons_zero, List.set_cons_succ]
            refine wpAnyH_take (i := 7) (v := ?_) rfl (by kernel_rfl) (by kernel_rfl) (by kernel_rfl) (fun _ _ _ h => h) (Or.inl ⟨by rfl, ?ytk7⟩) (by assumption) ?_
            case ytk7 => (intro w hSw; (try dsimp only at hSw); have q0 := HZC.out w hSw; go_simp <;> with_reducible rfl)
            try simp only [List.getElem_toArray, List.getElem_cons_succ, List.getElem_cons_zero, Act.put, List.setIfInBounds_toArray, List.set_cons_zero, List.set_cons_succ]
            refine wpAnyH_ready (rs := [1, 8]) (by kernel_rfl) (by simp) ?_
            refine AllReadyH.cons rfl (fun Kc hK => ?_) (AllReadyH.cons rfl (fun Kc hK => ?_) (AllReadyH.nil))
            · skip
              go_simp
              refine hK.out _ _ (HBW.out.drew) (fun hHeld => ?_)
              clear hK Kc
              try simp only [List.getElem_toArray, List.getElem_cons_succ, List.getElem_cons_zero, Act.put, List.setIfInBounds_toArray, List.set_cons_zero, List.set_cons_succ]
              refine wpAnyH_ready (rs := [8]) (by kernel_rfl) (by simp) ?_
              refine AllReadyH.cons rfl (fun Kc hK => ?_) (AllReadyH.nil)
              go_simp
              refine (HN.out _ _).mono ?_
              rintro e3 w3 ⟨rfl, h3⟩
              have HU3 := Lib.hid (HU.out.nextB (below_of_drew h3))
              have HB3 : Hid (Below w.heap.size w w3) := Lib.hid (HBW.out.trans ((below_of_drew h3).mono HBW.out.size))
              obtain ⟨m0, m1, m2, m3, m4⟩ := box5 HU3.out.box
              clear h3 HU HBW c4 m0 m1 m2 m3
              refine hK.out _ _ (HB3.out) (fun hHeld => ?_)
              clear hK Kc
              try simp only [List.getElem_toArray, List.getElem_cons_succ, List.getElem_cons_zero, Act.put, List.setIfInBounds_toArray, List.set_cons_zero, List.set_cons_succ]
              refine wpAnyH_ready (rs := [9]) (by kernel_rfl) (by simp) ?_
              refine AllReadyH.cons rfl (fun Kc hK => ?_) (AllReadyH.nil)
              go_simp
              refine hK.out _ _ (HB3.out.alloc HB3.out.size _) (fun hHeld => ?_)
              clear hK Kc
              try simp only [List.getElem_toArray, List.getElem_cons_succ, List.getElem_cons_zero, Act.put, List.setIfInBounds_toArray, List.set_cons_zero, List.set_cons_succ]
              have HU9 : Hid (TuSt (f r) k wq (w3.alloc (.cells #[.int .i64 3, .int .i64 (f r k), .string ⟨#[]⟩, .slice none 0 0, .slice none 0 0] 27)) U) := Lib.hid (HU3.out.nextB (below1 _ _))
              obtain ⟨n0', n1, n2, n3, n4⟩ := box5 HU9.out.box
              clear m4 n0' n1 n2 n3
              refine wpAnyH_ready (rs := [10]) (by kernel_rfl) (by simp) ?_
              refine AllReadyH.cons rfl (fun Kc hK => ?_) (AllReadyH.nil)
              refine step_append_lies _ rfl (.tmp 45) (.tmp 53) 24 rfl wq.heap.size 27 i0 zeroVal 5 80 Try.underlying24 hi hz0 hz1 hz2 rfl (by decide) U k (((List.range k).map (f r)).flatMap numC) rfl HU9.out.own ⟨w3.heap.size, 0, none⟩ 1 1 (numC (f r k)) rfl rfl (laid_cells w3 27 (numC (f r k))) (numC_one _) (by decide) (by unfold maxLen; omega) (by omega) HU9.out.below.size _ rfl ?_
              intro g4 cap4 w4 ho4 hg4 hor4 hlt4
              have HP := Lib.hid (HU3.out.put (below1 _ _) ho4 hg4 hor4)
              have HB4 : Hid (Below w.heap.size w w4) := Lib.hid (HSQ.out.below.trans (HP.out.2.2.mono HSQ.out.below.size))
              obtain ⟨p0, p1, p2, p3, p4⟩ := box5 HP.out.1
              have pz := HP.out.1.free 4
              have hgw : w.heap.size ≤ wq.heap.size := HSQ.out.below.size
              clear ho4 hg4 hor4 hlt4 HU3 HU9 HB3 n4 p0 p1 p2 p3
              refine hK.out _ _ (HB4.out) (fun hHeld => ?_)
              clear hK Kc
              try simp only [List.getElem_toArray, List.getElem_cons_succ, List.getElem_cons_zero, Act.put, List.setIfInBounds_toArray, List.set_cons_zero, List.set_cons_succ]
              refine wpAnyH_take (i := 11) (v := ?_) rfl (by kernel_rfl) (by kernel_rfl) (by kernel_rfl) (fun _ _ _ h => h) (Or.inl ⟨by rfl, ?ytk8⟩) (by assumption) ?_
              case ytk8 => (intro w hSw; (try dsimp only at hSw); go_simp <;> with_reducible rfl)
              try simp only [List.getElem_toArray, List.getElem_cons_succ, List.getElem_cons_zero, Act.put, List.setIfInBounds_toArray, List.set_cons_zero, List.set_cons_succ]
              refine wpAnyH_ready (rs := [12]) (by kernel_rfl) (by simp) ?_
              refine AllReadyH.cons rfl (fun Kc hK => ?_) (AllReadyH.nil)
              go_simp
              refine hK.out _ _ (HB4.out.setCell hgw _) (fun hHeld => ?_)
              clear hK Kc
              try simp only [List.getElem_toArray, List.getElem_cons_succ, List.getElem_cons_zero, Act.put, List.setIfInBounds_toArray, List.set_cons_zero, List.set_cons_succ]
              refine wpAnyH_done (by kernel_rfl) ?_ _
              refine NoPanic.normal ?_
              have HU5 := Lib.hid HP.out.2.1
              generalize (w4.setCell ⟨wq.heap.size, 4, none⟩ (.slice (some ⟨g4, 0, none⟩) (k + 1) cap4)) = W9 at HU5 ⊢
              clear hHeld HP HB4 p4 pz HZC
              go_wp2_with fail
              go_roundg (d + 1 - (k + 1))
              case measure => omega
              case rel => exact ⟨k + 1, _, by first | rfl | go_num, by omega, Nat.le_refl _, HU5⟩
            · skip
              go_simp
              refine (HN.out _ _).mono ?_
              rintro e3 w3 ⟨rfl, h3⟩
              have HU3 := Lib.hid (HU.out.nextB (below_of_drew h3))
              have HB3 : Hid (Below w.heap.size w w3) := Lib.hid (HBW.out.trans ((below_of_drew h3).mono HBW.out.size))
              obtain ⟨m0, m1, m2, m3, m4⟩ := box5 HU3.out.box
              clear h3 HU HBW c4 m0 m1 m2 m3
              refine hK.out _ _ (HB3.out) (fun hHeld => ?_)
              clear hK Kc
              try simp only [List.getElem_toArray, List.getElem_cons_succ, List.getElem_cons_zero, Act.put, List.setIfInBounds_toArray, List.set_cons_zero, List.set_cons_succ]
              refine wpAnyH_ready (rs := [1, 9]) (by kernel_rfl) (by simp) ?_
              refine AllReadyH.cons rfl (fun Kc hK => ?_) (AllReadyH.cons rfl (fun Kc hK => ?_) (AllReadyH.nil))
              · skip
                go_simp
                refine hK.out _ _ (HB3.out) (fun hHeld => ?_)
                clear hK Kc
                try simp only [List.getElem_toArray, List.getElem_cons_succ, List.getElem_cons_zero, Act.put, List.setIfInBounds_toArray, List.set_cons_zero, List.set_cons_succ]
                refine wpAnyH_ready (rs := [9]) (by kernel_rfl) (by simp) ?_
                refine AllReadyH.cons rfl (fun Kc hK => ?_) (AllReadyH.nil)
                go_simp
                refine hK.out _ _ (HB3.out.alloc HB3.out.size _) (fun hHeld => ?_)
                clear hK Kc
                try simp only [List.getElem_toArray, List.getElem_cons_succ, List.getElem_cons_zero, Act.put, List.setIfInBounds_toArray, List.set_cons_zero, List.set_cons_succ]
                have HU9 : Hid (TuSt (f r) k wq (w3.alloc (.cells #[.int .i64 3, .int .i64 (f r k), .string ⟨#[]⟩, .slice none 0 0, .slice none 0 0] 27)) U) := Lib.hid (HU3.out.nextB (below1 _ _))
                obtain ⟨n0', n1, n2, n3, n4⟩ := box5 HU9.out.box
                clear m4 n0' n1 n2 n3
                refine wpAnyH_ready (rs := [10]) (by kernel_rfl) (by simp) ?_
                refine AllReadyH.cons rfl (fun Kc hK => ?_) (AllReadyH.nil)
                refine step_append_lies _ rfl (.tmp 45) (.tmp 53) 24 rfl wq.heap.size 27 i0 zeroVal 5 80 Try.underlying24 hi hz0 hz1 hz2 rfl (by decide) U k (((List.range k).map (f r)).flatMap numC) rfl HU9.out.own ⟨w3.heap.size, 0, none⟩ 1 1 (numC (f r k)) rfl rfl (laid_cells w3 27 (numC (f r k))) (numC_one _) (by decide) (by unfold maxLen; omega) (by omega) HU9.out.below.size _ rfl ?_
                intro g4 cap4 w4 ho4 hg4 hor4 hlt4
                have HP := Lib.hid (HU3.out.put (below1 _ _) ho4 hg4 hor4)
                have HB4 : Hid (Below w.heap.size w w4) := Lib.hid (HSQ.out.below.trans (HP.out.2.2.mono HSQ.out.below.size))
                obtain ⟨p0, p1, p2, p3, p4⟩ := box5 HP.out.1
                have pz := HP.out.1.free 4
                have hgw : w.heap.size ≤ wq.heap.size := HSQ.out.below.size
                clear ho4 hg4 hor4 hlt4 HU3 HU9 HB3 n4 p0 p1 p2 p3
                refine hK.out _ _ (HB4.out) (fun hHeld => ?_)
                clear hK Kc
                try simp only [List.getElem_toArray, List.getElem_cons_succ, List.getElem_cons_zero, Act.put, List.setIfInBounds_toArray, List.set_cons_zero, List.set_cons_succ]
                refine wpAnyH_take (i := 11) (v := ?_) rfl (by kernel_rfl) (by kernel_rfl) (by kernel_rfl) (fun _ _ _ h => h) (Or.inl ⟨by rfl, ?ytk9⟩) (by assumption) ?_
                case ytk9 => (intro w hSw; (try dsimp only at hSw); go_simp <;> with_reducible rfl)
                try simp only [List.getElem_toArray, List.getElem_cons_succ, List.getElem_cons_zero, Act.put, List.setIfInBounds_toArray, List.set_cons_zero, List.set_cons_succ]
                refine wpAnyH_ready (rs := [12]) (by kernel_rfl) (by simp) ?_
                refine AllReadyH.cons rfl (fun Kc hK => ?_) (AllReadyH.nil)
                go_simp
                refine hK.out _ _ (HB4.out.setCell hgw _) (fun hHeld => ?_)
                clear hK Kc
                try simp only [List.getElem_toArray, List.getElem_cons_succ, List.getElem_cons_zero, Act.put, List.setIfInBounds_toArray, List.set_cons_zero, List.set_cons_succ]
                refine wpAnyH_done (by kernel_rfl) ?_ _
                refine NoPanic.normal ?_
                have HU5 := Lib.hid HP.out.2.1
                generalize (w4.setCell ⟨wq.heap.size, 4, none⟩ (.slice (some ⟨g4, 0, none⟩) (k + 1) cap4)) = W9 at HU5 ⊢
                clear hHeld HP HB4 p4 pz HZC
                go_wp2_with fail
                go_roundg (d + 1 - (k + 1))
                case measure => omega
                case rel => exact ⟨k + 1, _, by first | rfl | go_num, by omega, Nat.le_refl _, HU5⟩
              · skip
                go_simp
                refine hK.out _ _ (HB3.out.alloc HB3.out.size _) (fun hHeld => ?_)
                clear hK Kc
                try simp only [List.getElem_toArray, List.getElem_cons_succ, List.getElem_cons_zero, Act.put, List.setIfInBounds_toArray, List.set_cons_zero, List.set_cons_succ]
                have HU9 : Hid (TuSt (f r) k wq (w3.alloc (.cells #[.int .i64 3, .int .i64 (f r k), .string ⟨#[]⟩, .slice none 0 0, .slice none 0 0] 27)) U) := Lib.hid (HU3.out.nextB (below1 _ _))
                obtain ⟨n0', n1, n2, n3, n4⟩ := box5 HU9.out.box
                clear m4 n0' n1 n2 n3
                refine wpAnyH_ready (rs := [1]) (by kernel_rfl) (by simp) ?_
                refine AllReadyH.cons rfl (fun Kc hK => ?_) (AllReadyH.nil)
                go_simp
                refine hK.out _ _ (HB3.out.alloc HB3.out.size _) (fun hHeld => ?_)
                clear hK Kc
                try simp only [List.getElem_toArray, List.getElem_cons_succ, List.getElem_cons_zero, Act.put, List.setIfInBounds_toArray, List.set_cons_zero, List.set_cons_succ]
                refine wpAnyH_ready (rs := [10]) (by kernel_rfl) (by simp) ?_
                refine AllReadyH.cons rfl (fun Kc hK => ?_) (AllReadyH.nil)
                refine step_append_lies _ rfl (.tmp 45) (.tmp 53) 24 rfl wq.heap.size 27 i0 zeroVal 5 80 Try.underlying24 hi hz0 hz1 hz2 rfl (by decide) U k (((List.range k).map (f r)).flatMap numC) rfl HU9.out.own ⟨w3.heap.size, 0, none⟩ 1 1 (numC (f r k)) rfl rfl (laid_cells w3 27 (numC (f r k))) (numC_one _) (by decide) (by unfold maxLen; omega) (by omega) HU9.out.below.size _ rfl ?_
                intro g4 cap4 w4 ho4 hg4 hor4 hlt4
                have HP := Lib.hid (HU3.out.put (below1 _ _) ho4 hg4 hor4)
                have HB4 : Hid (Below w.heap.size w w4) := Lib.hid (HSQ.out.below.trans (HP.out.2.2.mono HSQ.out.below.size))
                obtain ⟨p0, p1, p2, p3, p4⟩ := box5 HP.out.1
                have pz := HP.out.1.free 4
                have hgw : w.heap.size ≤ wq.heap.size := HSQ.out.below.size
                clear ho4 hg4 hor4 hlt4 HU3 HU9 HB3 n4 p0 p1 p2 p3
                refine hK.out _ _ (HB4.out) (fun hHeld => ?_)
                clear hK Kc
                try simp only [List.getElem_toArray, List.getElem_cons_succ, List.getElem_cons_zero, Act.put, List.setIfInBounds_toArray, List.set_cons_zero, List.set_cons_succ]
                refine wpAnyH_take (i := 11) (v := ?_) rfl (by kernel_rfl) (by kernel_rfl) (by kernel_rfl) (fun _ _ _ h => h) (Or.inl ⟨by rfl, ?ytk10⟩) (by assumption) ?_
                case ytk10 => (intro w hSw; (try dsimp only at hSw); go_simp <;> with_reducible rfl)
                try simp only [List.getElem_toArray, List.getElem_cons_succ, List.getElem_cons_zero, Act.put, List.setIfInBounds_toArray, List.set_cons_zero, List.set_cons_succ]
                refine wpAnyH_ready (rs := [12]) (by kernel_rfl) (by simp) ?_
                refine AllReadyH.cons rfl (fun Kc hK => ?_) (AllReadyH.nil)
                go_simp
                refine hK.out _ _ (HB4.out.setCell hgw _) (fun hHeld => ?_)
                clear hK Kc
                try simp only [List.getElem_toArray, List.getElem_cons_succ, List.getElem_cons_zero, Act.put, List.setIfInBounds_toArray, List.set_cons_zero, List.set_cons_succ]
                refine wpAnyH_done (by kernel_rfl) ?_ _
                refine NoPanic.normal ?_
                have HU5 := Lib.hid HP.out.2.1
                generalize (w4.setCell ⟨wq.heap.size, 4, none⟩ (.slice (some ⟨g4, 0, none⟩) (k + 1) cap4)) = W9 at HU5 ⊢
                clear hHeld HP HB4 p4 pz HZC
                go_wp2_with fail
                go_roundg (d + 1 - (k + 1))
                case measure => omega
                case rel => exact ⟨k + 1, _, by first | rfl | go_num, by omega, Nat.le_refl _, HU5⟩
          · obtain rfl : k = d + 1 := by omega
            have hkl : ¬ (((d + 1 : Nat) : Int) < (d : Int) + 1) := by omega
            have HSW := Lib.hid (HSQ.out.nextB HU.out.below)
            have hgq : g5 < wq.heap.size := HSQ.out.box.lt
            have hwq : w.heap.size ≤ wq.heap.size := HSQ.out.below.size
            obtain ⟨xs0, hoq, -⟩ := HSQ.out.own
            have HVL : Hid (∀ b, V.ownBlock = some b → b < wq.heap.size) := Lib.hid fun b hb => (hoq.lt b hb).2
            obtain ⟨A7, c7, hU, -⟩ := own_open HU.out.own
            subst hU
            obtain ⟨xs, ho, hl⟩ := HSW.out.own
            obtain ⟨A5, c5, hV, -⟩ := own_open ho
            have HC : Hid (Lies wr (fun b => w.heap.size ≤ b ∧ b < wr.heap.size ∧ b ≠ g5 ∧ V.ownBlock ≠ some b) (arrV (((List.range (d + 1)).map fun i => f r i).map numV)) [.int .i64 5, .int .i64 0, .string ⟨#[]⟩, .slice none 0 0, .slice A7 (d + 1) c7]) := Lib.hid (HU.out.lies (by omega) fun b h1 h2 => ⟨by omega, h2, by omega, fun e => by have := HVL.out b e; omega⟩)
            subst hV
            have HO := Lib.hid ho
            have HL := Lib.hid hl
            have hbw := HSW.out.below.size
            have htr : r ≤ 24 := by
              have h1 := HT.out
              have h2 : r * 1 ≤ r * (d + 1) := Nat.mul_le_mul_left r (by omega)
              omega
            obtain ⟨c0, c1, c2, c3, c4⟩ := box5 HU.out.box
            obtain ⟨v0, v1, v2, v3, v4⟩ := box5 HSW.out.box
            have HO1 := Lib.hid (own_belowV HO.out (below1 wr (.cells #[.int .i64 5, .int .i64 0, .string ⟨#[]⟩, .slice none 0 0, .slice A7 (d + 1) c7] 27)))
            clear HU HSQ HVL hoq ho hl
            go_wp2_with (at_builtin; refine wpList_append_lies _ rfl (.tmp 57) (.tmp 59) 24 rfl w.heap.size 27 i0 zeroVal 5 80 Try.underlying24 hi hz0 hz1 hz2 rfl (by decide) (.slice A5 r c5) r xs rfl HO1.out ⟨wr.heap.size, 0, none⟩ 1 1 [.int .i64 5, .int .i64 0, .string ⟨#[]⟩, .slice none 0 0, .slice A7 (d + 1) c7] rfl rfl (laid_cells wr 27 [.int .i64 5, .int .i64 0, .string ⟨#[]⟩, .slice none 0 0, .slice A7 (d + 1) c7]) (Fv.one ⟨5, 0, ⟨#[]⟩, none, 0, 0, A7, d + 1, c7⟩) (by decide) (by unfold maxLen; omega) (by omega) (by simp; omega) _ rfl ?_; intro g4 cap4 w4 ho4 hg4 hor4 hlt4; have HP := Lib.hid (HSW.out.put HO.out HL.out HC.out (below1 _ _) ho4 hg4 hor4); obtain ⟨p0, p1, p2, p3, p4⟩ := box5 HP.out.1; have pz := HP.out.1.free 4; clear ho4 hg4 hor4 hlt4)
            have HS5 := Lib.hid HP.out.2
            generalize (w4.setCell ⟨g5, 4, none⟩ (.slice (some ⟨g4, 0, none⟩) (r + 1) cap4)) = W9 at HS5 ⊢
            have HT5 : Hid (t + (d + 1) = (r + 1) * (d + 1)) := Lib.hid (by rw [Nat.add_mul, Nat.one_mul, ← HT.out])
            clear HP HC HO HL HO1 HSW c0 c1 c2 c3 c4 v0 v1 v2 v3 v4 p0 p1 p2 p3 p4 pz HT
            go_roundg (M - (t + (d + 1)))
            case measure => omega
            case rel => exact ⟨r + 1, t + (d + 1), _, by first | rfl | go_num, by omega, Nat.le_refl _, HT5, HS5⟩
      · have hil : ¬ ((t : Int) + ((d : Int) + 1) ≤ (M : Int)) := by omega
        have hrt : r * (d + 1) ≤ 24 := by have := HT.out; omega
        have hr24 : r ≤ 24 := by
          have h2 : r * 1 ≤ r * (d + 1) := Nat.mul_le_mul_left r (by omega)
          omega
        obtain ⟨xs, ho, hl⟩ := HS.out.own
        obtain ⟨A5, c5, hV, h0, hc5, hm5, hr5⟩ := own_open ho
        subst hV
        have HV5 : Hid (Vx wr g5 (arrV (matV f r (d + 1))) [.int .i64 5, .int .i64 0, .string ⟨#[]⟩, .slice none 0 0, .slice A5 r c5]) := Lib.hid ⟨HS.out.box, by
          have hs : SliceV wr A5 c5 (matV f r (d + 1)) xs := ⟨⟨hr5.move fun b hb => ⟨hb.2.1, rfl⟩, hl.move fun b hb => ⟨hb.2.1, rfl⟩⟩, h0, by rw [matV_len]; exact hc5, hm5, by rw [matV_len]; omega⟩
          have := hs.lies
          rw [matV_len] at this
          exact this⟩
        have HB5 := Lib.hid HS.out.below
        obtain ⟨L, hL⟩ : ∃ L, L = if r = 0 then 0 else d + 1 := ⟨_, rfl⟩
        have hLd : L ≤ d + 1 := by rw [hL]; split <;> omega
        have HLR : Hid (r ≠ 0 → L = d + 1) := Lib.hid fun h => by rw [hL, if_neg h]
        have hnr : NumRows (matV f r (d + 1)) := matV_rows (by omega)
        have hnt : NumRows (matV (fun i q => f q i) L r) := matV_rows hr24
        have HC1 : Hid (∀ cs W, Lies W (· < W.heap.size) (arrV (matV f r (d + 1))) cs → Calls Try.prog 10 #[.agg cs.toArray] W (RetPost (arrV (matV (fun i q => f q i) L r)) 0 W)) := Lib.hid fun cs W hcs => by
          have hlg : lng (matV f r (d + 1)) (matV f r (d + 1)).length = L := by rw [matV_len, lng_mat f (d + 1) r r (Nat.le_refl _), hL]
          have hco : colsV (matV f r (d + 1)) L = matV (fun i q => f q i) L r := by
            by_cases h : r = 0
            · have : L = 0 := by rw [hL, if_pos h]
              subst this
              rfl
            · rw [HLR.out h]; exact cols_mat f r (d + 1)
          have h := transpose_any (es := matV f r (d + 1)) hcs (rows_valid hnr (by rw [matV_len]; omega)) matV_kd (by rw [hlg, matV_len]; have := Nat.mul_le_mul hLd hr24; omega) (by rw [hlg]; omega) (by rw [matV_len]; omega)
          rw [hlg, hco, (tab_rows hnt (by rw [matV_len]; omega)).1, (tab_rows hnt (by rw [matV_len]; omega)).2] at h
          exact h
        have HC2 : Hid (∀ cs W, Lies W (· < W.heap.size) (arrV (matV (fun i q => f q i) L r)) cs → Calls Try.prog 10 #[.agg cs.toArray] W (RetPost (arrV (matV f r (d + 1))) 0 W)) := Lib.hid fun cs W hcs => by
          have hlg : lng (matV (fun i q => f q i) L r) (matV (fun i q => f q i) L r).length = r := by
            rw [matV_len, lng_mat (fun i q => f q i) r L L (Nat.le_refl _), hL]
            by_cases h : r = 0
            · simp [h]
            · simp [h]
          have hco : colsV (matV (fun i q => f q i) L r) r = matV f r (d + 1) := by
            by_cases h : r = 0
            · subst h
              rfl
            · rw [HLR.out h]; exact cols_mat (fun i q => f q i) (d + 1) r
          have h := transpose_any (es := matV (fun i q => f q i) L r) hcs (rows_valid hnt (by rw [matV_len]; omega)) matV_kd (by rw [hlg, matV_len]; have := Nat.mul_le_mul hr24 hLd; omega) (by rw [hlg]; omega) (by rw [matV_len]; omega)
          rw [hlg, hco, (tab_rows hnr (by rw [matV_len]; omega)).1, (tab_rows hnr (by rw [matV_len]; omega)).2] at h
          exact h
        have hnv : NumRows (matV f r (d + 1)).reverse := fun e he => hnr e (by simpa using he)
        have HC3 : Hid (∀ cs W, Lies W (· < W.heap.size) (arrV (matV f r (d + 1))) cs → Calls Try.prog 11 #[.agg cs.toArray] W (RetPost (arrV (matV f r (d + 1)).reverse) 0 W)) := Lib.hid fun cs W hcs => by
          have h := tReverse_any (es := matV f r (d + 1)) hcs (rows_valid hnr (by rw [matV_len]; omega)) (by rw [matV_len]; omega)
          rw [(tab_rows hnv (by rw [List.length_reverse, matV_len]; omega)).1, (tab_rows hnv (by rw [List.length_reverse, matV_len]; omega)).2] at h
          exact h
        have HC4 : Hid (∀ cs W, Lies W (· < W.heap.size) (arrV (matV f r (d + 1)).reverse) cs → Calls Try.prog 11 #[.agg cs.toArray] W (RetPost (arrV (matV f r (d + 1))) 0 W)) := Lib.hid fun cs W hcs => by
          have h := tReverse_any (es := (matV f r (d + 1)).reverse) hcs (rows_valid hnv (by rw [List.length_reverse, matV_len]; omega)) (by rw [List.length_reverse, matV_len]; omega)
          rw [List.reverse_reverse, (tab_rows hnr (by rw [matV_len]; omega)).1, (tab_rows hnr (by rw [matV_len]; omega)).2] at h
          exact h
        have hpl := flat_mat_len f (d + 1) r
        obtain ⟨ps, hps⟩ : ∃ ps, ps = (List.range r).flatMap fun q => (List.range (d + 1)).map fun i => f q i := ⟨_, rfl⟩
        rw [← hps] at hpl
        have hfl : (matV f r (d + 1)).flatMap elemsV = ps.map numV := by rw [hps]; exact flat_mat f (d + 1) r
        have HC5 : Hid (∀ cs W, Lies W (· < W.heap.size) (arrV (matV f r (d + 1))) cs → Calls Try.prog 12 #[.agg cs.toArray, .agg #[.int .i64 3, .int .i64 0, .string ⟨#[]⟩, .slice none 0 0, .slice none 0 0]] W (RetPost (arrV (matV f r (d + 1))) 0 W)) := Lib.hid fun cs W hcs => by
          refine tFlatten_any (es := matV f r (d + 1)) (ds := [.int .i64 3, .int .i64 0, .string ⟨#[]⟩, .slice none 0 0, .slice none 0 0]) hcs (lies_numv _ _ 0) (rows_valid hnr (by rw [matV_len]; omega)) (valid_numT 0) (by decide) (m := (matV f r (d + 1)).length) fun W2 hW2 A c xs hR hL => ?_
          have h := flat0_then (c := c) hR hL (by rw [matV_len]; omega)
          rw [(tab_rows hnr (by rw [matV_len]; omega)).1, (tab_rows hnr (by rw [matV_len]; omega)).2] at h
          exact h
        have HC6 : Hid (∀ cs W, Lies W (· < W.heap.size) (arrV (matV f r (d + 1))) cs → Calls Try.prog 12 #[.agg cs.toArray, .agg #[.int .i64 3, .int .i64 1, .string ⟨#[]⟩, .slice none 0 0, .slice none 0 0]] W (RetPost (arrV (ps.map numV)) 0 W)) := Lib.hid fun cs W hcs => by
          refine tFlatten_any (es := matV f r (d + 1)) (ds := [.int .i64 3, .int .i64 1, .string ⟨#[]⟩, .slice none 0 0, .slice none 0 0]) hcs (lies_numv _ _ 1) (rows_valid hnr (by rw [matV_len]; omega)) (valid_numT 1) (by decide) (m := ((matV f r (d + 1)).flatMap elemsV).length) fun W2 hW2 A c xs hR hL => ?_
          have h := flat1_then (c := c) hR hL (by rw [matV_len]; omega) (fun e he => by
            unfold matV at he
            obtain ⟨q, _, rfl⟩ := List.mem_map.1 he
            exact ⟨0, ⟨#[]⟩, [], _, rfl⟩) (by rw [hfl, List.length_map, hpl]; omega)
          rw [hfl, (tab_nums (by omega)).1, (tab_nums (by omega)).2, ← hfl] at h
          rw [hfl] at h ⊢
          exact h
        have HSM := Lib.hid (fun (u v : V) cs ds W h1 h2 => same_any u v cs ds W h1 h2)
        have hsame : Hid (same (arrV (matV f r (d + 1))) (arrV (matV f r (d + 1))) = true) := Lib.hid ((same_iff _ _).2 rfl)
        have HTL : Hid (∀ k n s ks es, arrV (matV (fun i q => f q i) L r) = V.mk k n s ks es → es.length = L) := Lib.hid fun k n s ks es h => by
          unfold arrV at h
          injection h with _ _ _ _ h
          rw [← h, matV_len]
        have HPL : Hid (∀ k n s ks es, arrV (ps.map numV) = V.mk k n s ks es → es.length = r * (d + 1)) := Lib.hid fun k n s ks es h => by
          unfold arrV at h
          injection h with _ _ _ _ h
          rw [← h, List.length_map, hpl]
        clear hL hfl hps hpl hnr hnt hnv ho hl h0 hc5 hm5 hr5 HS HZ
        generalize arrV (matV f r (d + 1)) = VV at *
        generalize arrV (matV (fun i q => f q i) L r) = TT at *
        generalize arrV (matV f r (d + 1)).reverse = RR at *
        generalize arrV (ps.map numV) = YY at *
        have HSV : Hid (∃ z, z = same VV VV) := Lib.hid ⟨_, rfl⟩
        clear HSV
        have HBc := Lib.hid HB5.out
        clear HB5
        obtain ⟨V50, V51, V52, V53, V54⟩ := box5 HV5.out.box
        go_wp2_with fail
        refine (ret_open (HC1.out [.int .i64 5, .int .i64 0, .string ⟨#[]⟩, .slice none 0 0, .slice A5 r c5] wr HV5.out.lies)).mono ?_
        rintro e1 u1 ⟨k1, n1, s1, ks1, es1, A1'', a1, C1, q1, hv1, rfl, hb1, hl1⟩
        have hle1 : es1.length = L := HTL.out _ _ _ _ _ hv1
        rw [hle1] at hl1 ⊢
        clear hle1
        generalize ks1.length = lk1 at *
        have HB1x : Hid (Below w.heap.size w (u1.alloc (.cells #[.int .i64 k1, .int .i64 n1, .string s1, .slice A1'' lk1 a1, .slice C1 L q1] 27))) := Lib.hid (HBc.out.trans ((chain hb1 (below1 _ _)).mono HBc.out.size))
        have HN1 : Hid (Vx (u1.alloc (.cells #[.int .i64 k1, .int .i64 n1, .string s1, .slice A1'' lk1 a1, .slice C1 L q1] 27)) u1.heap.size TT [.int .i64 k1, .int .i64 n1, .string s1, .slice A1'' lk1 a1, .slice C1 L q1]) := Lib.hid (Vx.new (hl1.move fun b hb => ⟨hb.2, rfl⟩))
        have HV5y := Lib.hid (HV5.out.next (chain hb1 (below1 u1 (.cells #[.int .i64 k1, .int .i64 n1, .string s1, .slice A1'' lk1 a1, .slice C1 L q1] 27))))
        clear V50 V51 V52 V53 V54
        clear hv1 hb1 hl1 HBc HV5 HC1
        have HV5 := Lib.hid HV5y.out
        clear HV5y
        have HV9 := Lib.hid HN1.out
        have HBc := Lib.hid HB1x.out
        clear HN1 HB1x
        obtain ⟨V50, V51, V52, V53, V54⟩ := box5 HV5.out.box
        obtain ⟨V90, V91, V92, V93, V94⟩ := box5 HV9.out.box
        go_wp2_with fail
        clear V50 V51 V52 V53 V54 V90 V91 V92 V93 V94
        generalize u1.heap.size = g1 at *
        generalize (u1.alloc (.cells #[.int .i64 k1, .int .i64 n1, .string s1, .slice A1'' lk1 a1, .slice C1 L q1] 27)) = W1 at *
        obtain ⟨V50, V51, V52, V53, V54⟩ := box5 HV5.out.box
        obtain ⟨V90, V91, V92, V93, V94⟩ := box5 HV9.out.box
        refine (ret_open (HC2.out [.int .i64 k1, .int .i64 n1, .string s1, .slice A1'' lk1 a1, .slice C1 L q1] W1 HV9.out.lies)).mono ?_
        rintro e2 u2 ⟨k2, n2, s2, ks2, es2, A2'', a2, C2, q2, hv2, rfl, hb2, hl2⟩
        generalize es2.length = le2 at *
        generalize ks2.length = lk2 at *
        have HB2x : Hid (Below w.heap.size w (u2.alloc (.cells #[.int .i64 k2, .int .i64 n2, .string s2, .slice A2'' lk2 a2, .slice C2 le2 q2] 27))) := Lib.hid (HBc.out.trans ((chain hb2 (below1 _ _)).mono HBc.out.size))
        have HN2 : Hid (Vx (u2.alloc (.cells #[.int .i64 k2, .int .i64 n2, .string s2, .slice A2'' lk2 a2, .slice C2 le2 q2] 27)) u2.heap.size VV [.int .i64 k2, .int .i64 n2, .string s2, .slice A2'' lk2 a2, .slice C2 le2 q2]) := Lib.hid (Vx.new (hl2.move fun b hb => ⟨hb.2, rfl⟩))
        have HV5y := Lib.hid (HV5.out.next (chain hb2 (below1 u2 (.cells #[.int .i64 k2, .int .i64 n2, .string s2, .slice A2'' lk2 a2, .slice C2 le2 q2] 27))))
        have HV9y := Lib.hid (HV9.out.next (chain hb2 (below1 u2 (.cells #[.int .i64 k2, .int .i64 n2, .string s2, .slice A2'' lk2 a2, .slice C2 le2 q2] 27))))
        clear V50 V51 V52 V53 V54 V90 V91 V92 V93 V94
        clear hv2 hb2 hl2 HBc HV5 HV9 HC2
        have HV5 := Lib.hid HV5y.out
        have HV9 := Lib.hid HV9y.out
        clear HV5y HV9y
        have HV11 := Lib.hid HN2.out
        have HBc := Lib.hid HB2x.out
        clear HN2 HB2x
        obtain ⟨V50, V51, V52, V53, V54⟩ := box5 HV5.out.box
        obtain ⟨V90, V91, V92, V93, V94⟩ := box5 HV9.out.box
        obtain ⟨V110, V111, V112, V113, V114⟩ := box5 HV11.out.box
        go_wp2_with fail
        clear V50 V51 V52 V53 V54 V90 V91 V92 V93 V94 V110 V111 V112 V113 V114
        generalize u2.heap.size = g2 at *
        generalize (u2.alloc (.cells #[.int .i64 k2, .int .i64 n2, .string s2, .slice A2'' lk2 a2, .slice C2 le2 q2] 27)) = W2 at *
        obtain ⟨V50, V51, V52, V53, V54⟩ := box5 HV5.out.box
        obtain ⟨V90, V91, V92, V93, V94⟩ := box5 HV9.out.box
        obtain ⟨V110, V111, V112, V113, V114⟩ := box5 HV11.out.box
        refine (ret_open (HC3.out [.int .i64 5, .int .i64 0, .string ⟨#[]⟩, .slice none 0 0, .slice A5 r c5] W2 HV5.out.lies)).mono ?_
        rintro e3 u3 ⟨k3, n3, s3, ks3, es3, A3'', a3, C3, q3, hv3, rfl, hb3, hl3⟩
        generalize es3.length = le3 at *
        generalize ks3.length = lk3 at *
        have HB3x : Hid (Below w.heap.size w (u3.alloc (.cells #[.int .i64 k3, .int .i64 n3, .string s3, .slice A3'' lk3 a3, .slice C3 le3 q3] 27))) := Lib.hid (HBc.out.trans ((chain hb3 (below1 _ _)).mono HBc.out.size))
        have HN3 : Hid (Vx (u3.alloc (.cells #[.int .i64 k3, .int .i64 n3, .string s3, .slice A3'' lk3 a3, .slice C3 le3 q3] 27)) u3.heap.size RR [.int .i64 k3, .int .i64 n3, .string s3, .slice A3'' lk3 a3, .slice C3 le3 q3]) := Lib.hid (Vx.new (hl3.move fun b hb => ⟨hb.2, rfl⟩))
        have HV5y := Lib.hid (HV5.out.next (chain hb3 (below1 u3 (.cells #[.int .i64 k3, .int .i64 n3, .string s3, .slice A3'' lk3 a3, .slice C3 le3 q3] 27))))
        have HV9y := Lib.hid (HV9.out.next (chain hb3 (below1 u3 (.cells #[.int .i64 k3, .int .i64 n3, .string s3, .slice A3'' lk3 a3, .slice C3 le3 q3] 27))))
        have HV11y := Lib.hid (HV11.out.next (chain hb3 (below1 u3 (.cells #[.int .i64 k3, .int .i64 n3, .string s3, .slice A3'' lk3 a3, .slice C3 le3 q3] 27))))
        clear V50 V51 V52 V53 V54 V90 V91 V92 V93 V94 V110 V111 V112 V113 V114
        clear hv3 hb3 hl3 HBc HV5 HV9 HV11 HC3
        have HV5 := Lib.hid HV5y.out
        have HV9 := Lib.hid HV9y.out
        have HV11 := Lib.hid HV11y.out
        clear HV5y HV9y HV11y
        have HV13 := Lib.hid HN3.out
        have HBc := Lib.hid HB3x.out
        clear HN3 HB3x
        obtain ⟨V50, V51, V52, V53, V54⟩ := box5 HV5.out.box
        obtain ⟨V90, V91, V92, V93, V94⟩ := box5 HV9.out.box
        obtain ⟨V110, V111, V112, V113, V114⟩ := box5 HV11.out.box
        obtain ⟨V130, V131, V132, V133, V134⟩ := box5 HV13.out.box
        go_wp2_with fail
        clear V50 V51 V52 V53 V54 V90 V91 V92 V93 V94 V110 V111 V112 V113 V114 V130 V131 V132 V133 V134
        generalize u3.heap.size = g3 at *
        generalize (u3.alloc (.cells #[.int .i64 k3, .int .i64 n3, .string s3, .slice A3'' lk3 a3, .slice C3 le3 q3] 27)) = W3 at *
        obtain ⟨V50, V51, V52, V53, V54⟩ := box5 HV5.out.box
        obtain ⟨V90, V91, V92, V93, V94⟩ := box5 HV9.out.box
        obtain ⟨V110, V111, V112, V113, V114⟩ := box5 HV11.out.box
        obtain ⟨V130, V131, V132, V133, V134⟩ := box5 HV13.out.box
        refine (ret_open (HC4.out [.int .i64 k3, .int .i64 n3, .string s3, .slice A3'' lk3 a3, .slice C3 le3 q3] W3 HV13.out.lies)).mono ?_
        rintro e4 u4 ⟨k4, n4, s4, ks4, es4, A4'', a4, C4, q4, hv4, rfl, hb4, hl4⟩
        generalize es4.length = le4 at *
        generalize ks4.length = lk4 at *
        have HB4x : Hid (Below w.heap.size w (u4.alloc (.cells #[.int .i64 k4, .int .i64 n4, .string s4, .slice A4'' lk4 a4, .slice C4 le4 q4] 27))) := Lib.hid (HBc.out.trans ((chain hb4 (below1 _ _)).mono HBc.out.size))
        have HN4 : Hid (Vx (u4.alloc (.cells #[.int .i64 k4, .int .i64 n4, .string s4, .slice A4'' lk4 a4, .slice C4 le4 q4] 27)) u4.heap.size VV [.int .i64 k4, .int .i64 n4, .string s4, .slice A4'' lk4 a4, .slice C4 le4 q4]) := Lib.hid (Vx.new (hl4.move fun b hb => ⟨hb.2, rfl⟩))
        have HV5y := Lib.hid (HV5.out.next (chain hb4 (below1 u4 (.cells #[.int .i64 k4, .int .i64 n4, .string s4, .slice A4'' lk4 a4, .slice C4 le4 q4] 27))))
        have HV9y := Lib.hid (HV9.out.next (chain hb4 (below1 u4 (.cells #[.int .i64 k4, .int .i64 n4, .string s4, .slice A4'' lk4 a4, .slice C4 le4 q4] 27))))
        have HV11y := Lib.hid (HV11.out.next (chain hb4 (below1 u4 (.cells #[.int .i64 k4, .int .i64 n4, .string s4, .slice A4'' lk4 a4, .slice C4 le4 q4] 27))))
        have HV13y := Lib.hid (HV13.out.next (chain hb4 (below1 u4 (.cells #[.int .i64 k4, .int .i64 n4, .string s4, .slice A4'' lk4 a4, .slice C4 le4 q4] 27))))
        clear V50 V51 V52 V53 V54 V90 V91 V92 V93 V94 V110 V111 V112 V113 V114 V130 V131 V132 V133 V134
        clear hv4 hb4 hl4 HBc HV5 HV9 HV11 HV13 HC4
        have HV5 := Lib.hid HV5y.out
        have HV9 := Lib.hid HV9y.out
        have HV11 := Lib.hid HV11y.out
        have HV13 := Lib.hid HV13y.out
        clear HV5y HV9y HV11y HV13y
        have HV15 := Lib.hid HN4.out
        have HBc := Lib.hid HB4x.out
        clear HN4 HB4x
        obtain ⟨V50, V51, V52, V53, V54⟩ := box5 HV5.out.box
        obtain ⟨V90, V91, V92, V93, V94⟩ := box5 HV9.out.box
        obtain ⟨V110, V111, V112, V113, V114⟩ := box5 HV11.out.box
        obtain ⟨V130, V131, V132, V133, V134⟩ := box5 HV13.out.box
        obtain ⟨V150, V151, V152, V153, V154⟩ := box5 HV15.out.box
        go_upto_region 18 with fail
        clear V50 V51 V52 V53 V54 V90 V91 V92 V93 V94 V110 V111 V112 V113 V114 V130 V131 V132 V133 V134 V150 V151 V152 V153 V154
        generalize u4.heap.size = g4 at *
        generalize (u4.alloc (.cells #[.int .i64 k4, .int .i64 n4, .string s4, .slice A4'' lk4 a4, .slice C4 le4 q4] 27)) = W4 at *
        obtain ⟨V50, V51, V52, V53, V54⟩ := box5 HV5.out.box
        obtain ⟨V90, V91, V92, V93, V94⟩ := box5 HV9.out.box
        obtain ⟨V110, V111, V112, V113, V114⟩ := box5 HV11.out.box
        obtain ⟨V130, V131, V132, V133, V134⟩ := box5 HV13.out.box
        obtain ⟨V150, V151, V152, V153, V154⟩ := box5 HV15.out.box
        clear V50 V51 V52 V53 V54 V90 V91 V92 V93 V94 V110 V111 V112 V113 V114 V130 V131 V132 V133 V134 V150 V151 V152 V153 V154
        refine cut_code (fun vs wx => ∃ tp tq tr tu : Value, vs = [(83, .agg #[.int .i64 5, .int .i64 0, .string ⟨#[]⟩, .slice none 0 0, .slice A5 r c5]), (84, .agg #[.int .i64 3, .int .i64 0, .string ⟨#[]⟩, .slice none 0 0, .slice none 0 0]), (85, tq), (82, tr), (86, tu), (87, .int .i64 0), (17, tp), (18, .int .i64 0)] ∧ GotB W4 VV 0 tp (.int .i64 0) wx) ?_ ?_
        · skip
          have keepS : Hid (∀ X, Below W4.heap.size W4 X → X.cell? ⟨g5, 0, none⟩ = some (.int .i64 5) ∧ X.cell? ⟨g5, 1, none⟩ = some (.int .i64 0) ∧ X.cell? ⟨g5, 2, none⟩ = some (.string ⟨#[]⟩) ∧ X.cell? ⟨g5, 3, none⟩ = some (.slice none 0 0) ∧ X.cell? ⟨g5, 4, none⟩ = some (.slice A5 r c5)) := Lib.hid fun X hX => box5 (HV5.out.box.below hX HV5.out.box.lt) |> fun h => ⟨h.1, h.2.1, h.2.2.1, h.2.2.2.1, h.2.2.2.2⟩
          have HBIN : Hid (∀ z W, Sb W4 W z → Calls Try.prog 12 #[.agg #[.int .i64 5, .int .i64 0, .string ⟨#[]⟩, .slice none 0 0, .slice A5 r c5], .agg #[.int .i64 3, .int .i64 0, .string ⟨#[]⟩, .slice none 0 0, .slice none 0 0]] W (OpS W4 z VV 0)) := Lib.hid fun z W h => opS_of h (HC5.out [.int .i64 5, .int .i64 0, .string ⟨#[]⟩, .slice none 0 0, .slice A5 r c5] W (below_lies h.below HV5.out.lies))
          have st0 := Sb.start W4
          clear HAW HMO HLL HSM hsame
          refine wp_region_noPanic ?_
          refine wp_region_held_drew (S := fun X : World => Below W4.heap.size W4 X) (by kernel_rfl) (Below.refl _ _).drew (fun hHeld => ?_)
          refine wpAnyH_take (i := 0) (v := ?_) rfl (by kernel_rfl) (by kernel_rfl) (by kernel_rfl) (fun _ _ _ h => h) (Or.inl ⟨by rfl, ?ytk11⟩) (by assumption) ?_
          case ytk11 => (intro w hSw; (try dsimp only at hSw); obtain ⟨x0, x1, x2, x3, x4⟩ := keepS.out w hSw; go_simp <;> with_reducible rfl)
          try simp only [List.getElem_toArray, List.getElem_cons_succ, List.getElem_cons_zero, Act.put, List.setIfInBounds_toArray, List.set_cons_zero, List.set_cons_succ]
          refine wpAnyH_ready (rs := [1, 6]) (by kernel_rfl) (by simp) ?_
          refine AllReadyH.cons rfl (fun Kc hK => ?_) (AllReadyH.cons rfl (fun Kc hK => ?_) (AllReadyH.nil))
          · skip
            go_simp
            refine (HN.out _ _).mono ?_
            rintro e5 w5 ⟨rfl, hb5⟩
            have st5 := Sb.call hb5 (Sb.drew st0)
            clear hb5
            refine hK.out _ _ (st5.below) (fun hHeld => ?_)
            clear hK Kc
            try simp only [List.getElem_toArray, List.getElem_cons_succ, List.getElem_cons_zero, Act.put, List.setIfInBounds_toArray, List.set_cons_zero, List.set_cons_succ]
            refine wpAnyH_ready (rs := [2, 6]) (by kernel_rfl) (by simp) ?_
            refine AllReadyH.cons rfl (fun Kc hK => ?_) (AllReadyH.cons rfl (fun Kc hK => ?_) (AllReadyH.nil))
            · skip
              go_simp
              refine (HBIN.out _ _ (st5)).mono ?_
              rintro e6 w7 ⟨k6, n6, s6, A6, la6, a6, C6, lc6, c6, rfl, st6, hl6⟩
              refine hK.out _ _ (st6.below) (fun hHeld => ?_)
              clear hK Kc
              try simp only [List.getElem_toArray, List.getElem_cons_succ, List.getElem_cons_zero, Act.put, List.setIfInBounds_toArray, List.set_cons_zero, List.set_cons_succ]
              refine wpAnyH_take (i := 3) (v := ?_) rfl (by kernel_rfl) (by kernel_rfl) (by kernel_rfl) (fun _ _ _ h => h) (Or.inl ⟨by rfl, ?ytk12⟩) (by assumption) ?_
              case ytk12 => (intro w hSw; (try dsimp only at hSw); go_simp <;> with_reducible rfl)
              try simp only [List.getElem_toArray, List.getElem_cons_succ, List.getElem_cons_zero, Act.put, List.setIfInBounds_toArray, List.set_cons_zero, List.set_cons_succ]
              refine wpAnyH_take (i := 4) (v := ?_) rfl (by kernel_rfl) (by kernel_rfl) (by kernel_rfl) (fun _ _ _ h => h) (Or.inl ⟨by rfl, ?ytk13⟩) (by assumption) ?_
              case ytk13 => (intro w hSw; (try dsimp only at hSw); go_simp <;> with_reducible rfl)
              try simp only [List.getElem_toArray, List.getElem_cons_succ, List.getElem_cons_zero, Act.put, List.setIfInBounds_toArray, List.set_cons_zero, List.set_cons_succ]
              refine wpAnyH_take (i := 5) (v := ?_) rfl (by kernel_rfl) (by kernel_rfl) (by kernel_rfl) (fun _ _ _ h => h) (Or.inl ⟨by rfl, ?ytk14⟩) (by assumption) ?_
              case ytk14 => (intro w hSw; (try dsimp only at hSw); go_simp <;> with_reducible rfl)
              try simp only [List.getElem_toArray, List.getElem_cons_succ, List.getElem_cons_zero, Act.put, List.setIfInBounds_toArray, List.set_cons_zero, List.set_cons_succ]
              refine wpAnyH_ready (rs := [6]) (by kernel_rfl) (by simp) ?_
              refine AllReadyH.cons rfl (fun Kc hK => ?_) (AllReadyH.nil)
              go_simp
              refine hK.out _ _ ((Sb.zbox st6).below) (fun hHeld => ?_)
              clear hK Kc
              try simp only [List.getElem_toArray, List.getElem_cons_succ, List.getElem_cons_zero, Act.put, List.setIfInBounds_toArray, List.set_cons_zero, List.set_cons_succ]
              refine wpAnyH_ready (rs := [7]) (by kernel_rfl) (by simp) ?_
              refine AllReadyH.cons rfl (fun Kc hK => ?_) (AllReadyH.nil)
              go_simp
              refine hK.out _ _ (chain st6.below (below1 _ _)) (fun hHeld => ?_)
              clear hK Kc
              try simp only [List.getElem_toArray, List.getElem_cons_succ, List.getElem_cons_zero, Act.put, List.setIfInBounds_toArray, List.set_cons_zero, List.set_cons_succ]
              refine wpAnyH_take (i := 8) (v := ?_) rfl (by kernel_rfl) (by kernel_rfl) (by kernel_rfl) (fun _ _ _ h => h) (Or.inl ⟨by rfl, ?ytk15⟩) (by assumption) ?_
              case ytk15 => (intro w hSw; (try dsimp only at hSw); go_simp <;> with_reducible rfl)
              try simp only [List.getElem_toArray, List.getElem_cons_succ, List.getElem_cons_zero, Act.put, List.setIfInBounds_toArray, List.set_cons_zero, List.set_cons_succ]
              refine wpAnyH_done (by kernel_rfl) ?_ _
              refine NoPanic.normal ?_
              refine ⟨rfl, [(83, .agg #[.int .i64 5, .int .i64 0, .string ⟨#[]⟩, .slice none 0 0, .slice A5 r c5]), (84, .agg #[.int .i64 3, .int .i64 0, .string ⟨#[]⟩, .slice none 0 0, .slice none 0 0]), (85, .tuple #[.agg #[.int .i64 k6, .int .i64 n6, .string s6, .slice A6 la6 a6, .slice C6 lc6 c6], .int .i64 0]), (82, .tuple #[.agg #[.int .i64 k6, .int .i64 n6, .string s6, .slice A6 la6 a6, .slice C6 lc6 c6], .int .i64 0]), (86, .agg #[.int .i64 k6, .int .i64 n6, .string s6, .slice A6 la6 a6, .slice C6 lc6 c6]), (87, .int .i64 0), (17, .pointer (some ⟨w7.heap.size, 0, none⟩)), (18, .int .i64 0)], ?_, _, _, _, _, rfl, gotB_last st6 hl6⟩
              simp only [putsL_cons, putsL_nil, Act.put, List.setIfInBounds_toArray, List.set_cons_zero, List.set_cons_succ]
            · skip
              go_simp
              refine hK.out _ _ ((Sb.zbox st5).below) (fun hHeld => ?_)
              clear hK Kc
              try simp only [List.getElem_toArray, List.getElem_cons_succ, List.getElem_cons_zero, Act.put, List.setIfInBounds_toArray, List.set_cons_zero, List.set_cons_succ]
              refine wpAnyH_ready (rs := [2]) (by kernel_rfl) (by simp) ?_
              refine AllReadyH.cons rfl (fun Kc hK => ?_) (AllReadyH.nil)
              go_simp
              refine (HBIN.out _ _ (Sb.zbox st5)).mono ?_
              rintro e6 w7 ⟨k6, n6, s6, A6, la6, a6, C6, lc6, c6, rfl, st6, hl6⟩
              refine hK.out _ _ (st6.below) (fun hHeld => ?_)
              clear hK Kc
              try simp only [List.getElem_toArray, List.getElem_cons_succ, List.getElem_cons_zero, Act.put, List.setIfInBounds_toArray, List.set_cons_zero, List.set_cons_succ]
              refine wpAnyH_take (i := 3) (v := ?_) rfl (by kernel_rfl) (by kernel_rfl) (by kernel_rfl) (fun _ _ _ h => h) (Or.inl ⟨by rfl, ?ytk16⟩) (by assumption) ?_
              case ytk16 => (intro w hSw; (try dsimp only at hSw); go_simp <;> with_reducible rfl)
              try simp only [List.getElem_toArray, List.getElem_cons_succ, List.getElem_cons_zero, Act.put, List.setIfInBounds_toArray, List.set_cons_zero, List.set_cons_succ]
              refine wpAnyH_take (i := 4) (v := ?_) rfl (by kernel_rfl) (by kernel_rfl) (by kernel_rfl) (fun _ _ _ h => h) (Or.inl ⟨by rfl, ?ytk17⟩) (by assumption) ?_
              case ytk17 => (intro w hSw; (try dsimp only at hSw); go_simp <;> with_reducible rfl)
              try simp only [List.getElem_toArray, List.getElem_cons_succ, List.getElem_cons_zero, Act.put, List.setIfInBounds_toArray, List.set_cons_zero, List.set_cons_succ]
              refine wpAnyH_take (i := 5) (v := ?_) rfl (by kernel_rfl) (by kernel_rfl) (by kernel_rfl) (fun _ _ _ h => h) (Or.inl ⟨by rfl, ?ytk18⟩) (by assumption) ?_
              case ytk18 => (intro w hSw; (try dsimp only at hSw); go_simp <;> with_reducible rfl)
              try simp only [List.getElem_toArray, List.getElem_cons_succ, List.getElem_cons_zero, Act.put, List.setIfInBounds_toArray, List.set_cons_zero, List.set_cons_succ]
              obtain ⟨hp6, zz⟩ := (st6).box _ rfl
              obtain ⟨y0, y1, y2, y3, y4⟩ := box5 zz
              have z0 := zz.free 0
              have z1 := zz.free 1
              have z2 := zz.free 2
              have z3 := zz.free 3
              have z4 := zz.free 4
              refine wpAnyH_ready (rs := [7]) (by kernel_rfl) (by simp) ?_
              refine AllReadyH.cons rfl (fun Kc hK => ?_) (AllReadyH.nil)
              go_simp
              refine hK.out _ _ (below_five_m hp6 (st6).below _ _ _ _ _) (fun hHeld => ?_)
              clear hK Kc
              try simp only [List.getElem_toArray, List.getElem_cons_succ, List.getElem_cons_zero, Act.put, List.setIfInBounds_toArray, List.set_cons_zero, List.set_cons_succ]
              refine wpAnyH_take (i := 8) (v := ?_) rfl (by kernel_rfl) (by kernel_rfl) (by kernel_rfl) (fun _ _ _ h => h) (Or.inl ⟨by rfl, ?ytk19⟩) (by assumption) ?_
              case ytk19 => (intro w hSw; (try dsimp only at hSw); go_simp <;> with_reducible rfl)
              try simp only [List.getElem_toArray, List.getElem_cons_succ, List.getElem_cons_zero, Act.put, List.setIfInBounds_toArray, List.set_cons_zero, List.set_cons_succ]
              refine wpAnyH_done (by kernel_rfl) ?_ _
              refine NoPanic.normal ?_
              refine ⟨rfl, [(83, .agg #[.int .i64 5, .int .i64 0, .string ⟨#[]⟩, .slice none 0 0, .slice A5 r c5]), (84, .agg #[.int .i64 3, .int .i64 0, .string ⟨#[]⟩, .slice none 0 0, .slice none 0 0]), (85, .tuple #[.agg #[.int .i64 k6, .int .i64 n6, .string s6, .slice A6 la6 a6, .slice C6 lc6 c6], .int .i64 0]), (82, .tuple #[.agg #[.int .i64 k6, .int .i64 n6, .string s6, .slice A6 la6 a6, .slice C6 lc6 c6], .int .i64 0]), (86, .agg #[.int .i64 k6, .int .i64 n6, .string s6, .slice A6 la6 a6, .slice C6 lc6 c6]), (87, .int .i64 0), (17, .pointer (some ⟨w5.heap.size, 0, none⟩)), (18, .int .i64 0)], ?_, _, _, _, _, rfl, gotB_fill (st6) hl6⟩
              simp only [putsL_cons, putsL_nil, Act.put, List.setIfInBounds_toArray, List.set_cons_zero, List.set_cons_succ]
          · skip
            go_simp
            refine hK.out _ _ ((Sb.zbox (Sb.drew st0)).below) (fun hHeld => ?_)
            clear hK Kc
            try simp only [List.getElem_toArray, List.getElem_cons_succ, List.getElem_cons_zero, Act.put, List.setIfInBounds_toArray, List.set_cons_zero, List.set_cons_succ]
            refine wpAnyH_ready (rs := [1]) (by kernel_rfl) (by simp) ?_
            refine AllReadyH.cons rfl (fun Kc hK => ?_) (AllReadyH.nil)
            go_simp
            refine (HN.out _ _).mono ?_
            rintro e5 w5 ⟨rfl, hb5⟩
            have st5 : Sb W4 w5 (some W4.heap.size) := Sb.call hb5 (Sb.zbox (Sb.drew st0))
            clear hb5
            refine hK.out _ _ (st5.below) (fun hHeld => ?_)
            clear hK Kc
            try simp only [List.getElem_toArray, List.getElem_cons_succ, List.getElem_cons_zero, Act.put, List.setIfInBounds_toArray, List.set_cons_zero, List.set_cons_succ]
            refine wpAnyH_ready (rs := [2]) (by kernel_rfl) (by simp) ?_
            refine AllReadyH.cons rfl (fun Kc hK => ?_) (AllReadyH.nil)
            go_simp
            refine (HBIN.out _ _ (st5)).mono ?_
            rintro e6 w7 ⟨k6, n6, s6, A6, la6, a6, C6, lc6, c6, rfl, st6, hl6⟩
            refine hK.out _ _ (st6.below) (fun hHeld => ?_)
            clear hK Kc
            try simp only [List.getElem_toArray, List.getElem_cons_succ, List.getElem_cons_zero, Act.put, List.setIfInBounds_toArray, List.set_cons_zero, List.set_cons_succ]
            refine wpAnyH_take (i := 3) (v := ?_) rfl (by kernel_rfl) (by kernel_rfl) (by kernel_rfl) (fun _ _ _ h => h) (Or.inl ⟨by rfl, ?ytk20⟩) (by assumption) ?_
            case ytk20 => (intro w hSw; (try dsimp only at hSw); go_simp <;> with_reducible rfl)
            try simp only [List.getElem_toArray, List.getElem_cons_succ, List.getElem_cons_zero, Act.put, List.setIfInBounds_toArray, List.set_cons_zero, List.set_cons_succ]
            refine wpAnyH_take (i := 4) (v := ?_) rfl (by kernel_rfl) (by kernel_rfl) (by kernel_rfl) (fun _ _ _ h => h) (Or.inl ⟨by rfl, ?ytk21⟩) (by assumption) ?_
            case ytk21 => (intro w hSw; (try dsimp only at hSw); go_simp <;> with_reducible rfl)
            try simp only [List.getElem_toArray, List.getElem_cons_succ, List.getElem_cons_zero, Act.put, List.setIfInBounds_toArray, List.set_cons_zero, List.set_cons_succ]
            refine wpAnyH_take (i := 5) (v := ?_) rfl (by kernel_rfl) (by kernel_rfl) (by kernel_rfl) (fun _ _ _ h => h) (Or.inl ⟨by rfl, ?ytk22⟩) (by assumption) ?_
            case ytk22 => (intro w hSw; (try dsimp only at hSw); go_simp <;> with_reducible rfl)
            try simp only [List.getElem_toArray, List.getElem_cons_succ, List.getElem_cons_zero, Act.put, List.setIfInBounds_toArray, List.set_cons_zero, List.set_cons_succ]
            obtain ⟨hp6, zz⟩ := (st6).box _ rfl
            obtain ⟨y0, y1, y2, y3, y4⟩ := box5 zz
            have z0 := zz.free 0
            have z1 := zz.free 1
            have z2 := zz.free 2
            have z3 := zz.free 3
            have z4 := zz.free 4
            refine wpAnyH_ready (rs := [7]) (by kernel_rfl) (by simp) ?_
            refine AllReadyH.cons rfl (fun Kc hK => ?_) (AllReadyH.nil)
            go_simp
            refine hK.out _ _ (below_five_m hp6 (st6).below _ _ _ _ _) (fun hHeld => ?_)
            clear hK Kc
            try simp only [List.getElem_toArray, List.getElem_cons_succ, List.getElem_cons_zero, Act.put, List.setIfInBounds_toArray, List.set_cons_zero, List.set_cons_succ]
            refine wpAnyH_take (i := 8) (v := ?_) rfl (by kernel_rfl) (by kernel_rfl) (by kernel_rfl) (fun _ _ _ h => h) (Or.inl ⟨by rfl, ?ytk23⟩) (by assumption) ?_
            case ytk23 => (intro w hSw; (try dsimp only at hSw); go_simp <;> with_reducible rfl)
            try simp only [List.getElem_toArray, List.getElem_cons_succ, List.getElem_cons_zero, Act.put, List.setIfInBounds_toArray, List.set_cons_zero, List.set_cons_succ]
            refine wpAnyH_done (by kernel_rfl) ?_ _
            refine NoPanic.normal ?_
            refine ⟨rfl, [(83, .agg #[.int .i64 5, .int .i64 0, .string ⟨#[]⟩, .slice none 0 0, .slice A5 r c5]), (84, .agg #[.int .i64 3, .int .i64 0, .string ⟨#[]⟩, .slice none 0 0, .slice none 0 0]), (85, .tuple #[.agg #[.int .i64 k6, .int .i64 n6, .string s6, .slice A6 la6 a6, .slice C6 lc6 c6], .int .i64 0]), (82, .tuple #[.agg #[.int .i64 k6, .int .i64 n6, .string s6, .slice A6 la6 a6, .slice C6 lc6 c6], .int .i64 0]), (86, .agg #[.int .i64 k6, .int .i64 n6, .string s6, .slice A6 la6 a6, .slice C6 lc6 c6]), (87, .int .i64 0), (17, .pointer (some ⟨W4.heap.size, 0, none⟩)), (18, .int .i64 0)], ?_, _, _, _, _, rfl, gotB_fill (st6) hl6⟩
            simp only [putsL_cons, putsL_nil, Act.put, List.setIfInBounds_toArray, List.set_cons_zero, List.set_cons_succ]
        · rintro vs wc ⟨tp, tq, tr, tu, rfl, hcut⟩
          simp only [putsL_cons, putsL_nil, Act.put, List.setIfInBounds_toArray, List.set_cons_zero, List.set_cons_succ]
          obtain ⟨hbx35, -, g35, k35, n35, s35, A35'', lk35, a35, C35, le35, q35, rfl, hvx35⟩ := hcut
          have HBd := Lib.hid (HBc.out.trans (hbx35.mono HBc.out.size))
          have HV5y := Lib.hid (HV5.out.next hbx35)
          have HV9y := Lib.hid (HV9.out.next hbx35)
          have HV11y := Lib.hid (HV11.out.next hbx35)
          have HV13y := Lib.hid (HV13.out.next hbx35)
          have HV15y := Lib.hid (HV15.out.next hbx35)
          have HV17 := Lib.hid hvx35
          clear hbx35 hvx35 HBc HV5 HV9 HV11 HV13 HV15
          have HV5 := Lib.hid HV5y.out
          have HV9 := Lib.hid HV9y.out
          have HV11 := Lib.hid HV11y.out
          have HV13 := Lib.hid HV13y.out
          have HV15 := Lib.hid HV15y.out
          have HBc := Lib.hid HBd.out
          clear HBd HV5y HV9y HV11y HV13y HV15y
          generalize wc = W5 at *
          go_upto_region 19 with fail
          refine cut_code (fun vs wx => ∃ tp tq tr tu : Value, vs = [(89, .agg #[.int .i64 5, .int .i64 0, .string ⟨#[]⟩, .slice none 0 0, .slice A5 r c5]), (90, .agg #[.int .i64 3, .int .i64 1, .string ⟨#[]⟩, .slice none 0 0, .slice none 0 0]), (91, tq), (88, tr), (92, tu), (93, .int .i64 0), (19, tp), (20, .int .i64 0)] ∧ GotB W5 YY 0 tp (.int .i64 0) wx) ?_ ?_
          · skip
            have keepS : Hid (∀ X, Below W5.heap.size W5 X → X.cell? ⟨g5, 0, none⟩ = some (.int .i64 5) ∧ X.cell? ⟨g5, 1, none⟩ = some (.int .i64 0) ∧ X.cell? ⟨g5, 2, none⟩ = some (.string ⟨#[]⟩) ∧ X.cell? ⟨g5, 3, none⟩ = some (.slice none 0 0) ∧ X.cell? ⟨g5, 4, none⟩ = some (.slice A5 r c5)) := Lib.hid fun X hX => box5 (HV5.out.box.below hX HV5.out.box.lt) |> fun h => ⟨h.1, h.2.1, h.2.2.1, h.2.2.2.1, h.2.2.2.2⟩
            have HBIN : Hid (∀ z W, Sb W5 W z → Calls Try.prog 12 #[.agg #[.int .i64 5, .int .i64 0, .string ⟨#[]⟩, .slice none 0 0, .slice A5 r c5], .agg #[.int .i64 3, .int .i64 1, .string ⟨#[]⟩, .slice none 0 0, .slice none 0 0]] W (OpS W5 z YY 0)) := Lib.hid fun z W h => opS_of h (HC6.out [.int .i64 5, .int .i64 0, .string ⟨#[]⟩, .slice none 0 0, .slice A5 r c5] W (below_lies h.below HV5.out.lies))
            have st0 := Sb.start W5
            clear HAW HMO HLL HSM hsame
            refine wp_region_noPanic ?_
            refine wp_region_held_drew (S := fun X : World => Below W5.heap.size W5 X) (by kernel_rfl) (Below.refl _ _).drew (fun hHeld => ?_)
            refine wpAnyH_take (i := 0) (v := ?_) rfl (by kernel_rfl) (by kernel_rfl) (by kernel_rfl) (fun _ _ _ h => h) (Or.inl ⟨by rfl, ?ytk24⟩) (by assumption) ?_
            case ytk24 => (intro w hSw; (try dsimp only at hSw); obtain ⟨x0, x1, x2, x3, x4⟩ := keepS.out w hSw; go_simp <;> with_reducible rfl)
            try simp only [List.getElem_toArray, List.getElem_cons_succ, List.getElem_cons_zero, Act.put, List.setIfInBounds_toArray, List.set_cons_zero, List.set_cons_succ]
            refine wpAnyH_ready (rs := [1, 6]) (by kernel_rfl) (by simp) ?_
            refine AllReadyH.cons rfl (fun Kc hK => ?_) (AllReadyH.cons rfl (fun Kc hK => ?_) (AllReadyH.nil))
            · skip
              go_simp
              refine (HN.out _ _).mono ?_
              rintro e5 w5 ⟨rfl, hb5⟩
              have st5 := Sb.call hb5 (Sb.drew st0)
              clear hb5
              refine hK.out _ _ (st5.below) (fun hHeld => ?_)
              clear hK Kc
              try simp only [List.getElem_toArray, List.getElem_cons_succ, List.getElem_cons_zero, Act.put, List.setIfInBounds_toArray, List.set_cons_zero, List.set_cons_succ]
              refine wpAnyH_ready (rs := [2, 6]) (by kernel_rfl) (by simp) ?_
              refine AllReadyH.cons rfl (fun Kc hK => ?_) (AllReadyH.cons rfl (fun Kc hK => ?_) (AllReadyH.nil))
              · skip
                go_simp
                refine (HBIN.out _ _ (st5)).mono ?_
                rintro e6 w7 ⟨k6, n6, s6, A6, la6, a6, C6, lc6, c6, rfl, st6, hl6⟩
                refine hK.out _ _ (st6.below) (fun hHeld => ?_)
                clear hK Kc
                try simp only [List.getElem_toArray, List.getElem_cons_succ, List.getElem_cons_zero, Act.put, List.setIfInBounds_toArray, List.set_cons_zero, List.set_cons_succ]
                refine wpAnyH_take (i := 3) (v := ?_) rfl (by kernel_rfl) (by kernel_rfl) (by kernel_rfl) (fun _ _ _ h => h) (Or.inl ⟨by rfl, ?ytk25⟩) (by assumption) ?_
                case ytk25 => (intro w hSw; (try dsimp only at hSw); go_simp <;> with_reducible rfl)
                try simp only [List.getElem_toArray, List.getElem_cons_succ, List.getElem_cons_zero, Act.put, List.setIfInBounds_toArray, List.set_cons_zero, List.set_cons_succ]
                refine wpAnyH_take (i := 4) (v := ?_) rfl (by kernel_rfl) (by kernel_rfl) (by kernel_rfl) (fun _ _ _ h => h) (Or.inl ⟨by rfl, ?ytk26⟩) (by assumption) ?_
                case ytk26 => (intro w hSw; (try dsimp only at hSw); go_simp <;> with_reducible rfl)
                try simp only [List.getElem_toArray, List.getElem_cons_succ, List.getElem_cons_zero, Act.put, List.setIfInBounds_toArray, List.set_cons_zero, List.set_cons_succ]
                refine wpAnyH_take (i := 5) (v := ?_) rfl (by kernel_rfl) (by kernel_rfl) (by kernel_rfl) (fun _ _ _ h => h) (Or.inl ⟨by rfl, ?ytk27⟩) (by assumption) ?_
                case ytk27 => (intro w hSw; (try dsimp only at hSw); go_simp <;> with_reducible rfl)
                try simp only [List.getElem_toArray, List.getElem_cons_succ, List.getElem_cons_zero, Act.put, List.setIfInBounds_toArray, List.set_cons_zero, List.set_cons_succ]
                refine wpAnyH_ready (rs := [6]) (by kernel_rfl) (by simp) ?_
                refine AllReadyH.cons rfl (fun Kc hK => ?_) (AllReadyH.nil)
                go_simp
                refine hK.out _ _ ((Sb.zbox st6).below) (fun hHeld => ?_)
                clear hK Kc
                try simp only [List.getElem_toArray, List.getElem_cons_succ, List.getElem_cons_zero, Act.put, List.setIfInBounds_toArray, List.set_cons_zero, List.set_cons_succ]
                refine wpAnyH_ready (rs := [7]) (by kernel_rfl) (by simp) ?_
                refine AllReadyH.cons rfl (fun Kc hK => ?_) (AllReadyH.nil)
                go_simp
                refine hK.out _ _ (chain st6.below (below1 _ _)) (fun hHeld => ?_)
                clear hK Kc
                try simp only [List.getElem_toArray, List.getElem_cons_succ, List.getElem_cons_zero, Act.put, List.setIfInBounds_toArray, List.set_cons_zero, List.set_cons_succ]
                refine wpAnyH_take (i := 8) (v := ?_) rfl (by kernel_rfl) (by kernel_rfl) (by kernel_rfl) (fun _ _ _ h => h) (Or.inl ⟨by rfl, ?ytk28⟩) (by assumption) ?_
                case ytk28 => (intro w hSw; (try dsimp only at hSw); go_simp <;> with_reducible rfl)
                try simp only [List.getElem_toArray, List.getElem_cons_succ, List.getElem_cons_zero, Act.put, List.setIfInBounds_toArray, List.set_cons_zero, List.set_cons_succ]
                refine wpAnyH_done (by kernel_rfl) ?_ _
                refine NoPanic.normal ?_
                refine ⟨rfl, [(89, .agg #[.int .i64 5, .int .i64 0, .string ⟨#[]⟩, .slice none 0 0, .slice A5 r c5]), (90, .agg #[.int .i64 3, .int .i64 1, .string ⟨#[]⟩, .slice none 0 0, .slice none 0 0]), (91, .tuple #[.agg #[.int .i64 k6, .int .i64 n6, .string s6, .slice A6 la6 a6, .slice C6 lc6 c6], .int .i64 0]), (88, .tuple #[.agg #[.int .i64 k6, .int .i64 n6, .string s6, .slice A6 la6 a6, .slice C6 lc6 c6], .int .i64 0]), (92, .agg #[.int .i64 k6, .int .i64 n6, .string s6, .slice A6 la6 a6, .slice C6 lc6 c6]), (93, .int .i64 0), (19, .pointer (some ⟨w7.heap.size, 0, none⟩)), (20, .int .i64 0)], ?_, _, _, _, _, rfl, gotB_last st6 hl6⟩
                simp only [putsL_cons, putsL_nil, Act.put, List.setIfInBounds_toArray, List.set_cons_zero, List.set_cons_succ]
              · skip
                go_simp
                refine hK.out _ _ ((Sb.zbox st5).below) (fun hHeld => ?_)
                clear hK Kc
                try simp only [List.getElem_toArray, List.getElem_cons_succ, List.getElem_cons_zero, Act.put, List.setIfInBounds_toArray, List.set_cons_zero, List.set_cons_succ]
                refine wpAnyH_ready (rs := [2]) (by kernel_rfl) (by simp) ?_
                refine AllReadyH.cons rfl (fun Kc hK => ?_) (AllReadyH.nil)
                go_simp
                refine (HBIN.out _ _ (Sb.zbox st5)).mono ?_
                rintro e6 w7 ⟨k6, n6, s6, A6, la6, a6, C6, lc6, c6, rfl, st6, hl6⟩
                refine hK.out _ _ (st6.below) (fun hHeld => ?_)
                clear hK Kc
                try simp only [List.getElem_toArray, List.getElem_cons_succ, List.getElem_cons_zero, Act.put, List.setIfInBounds_toArray, List.set_cons_zero, List.set_cons_succ]
                refine wpAnyH_take (i := 3) (v := ?_) rfl (by kernel_rfl) (by kernel_rfl) (by kernel_rfl) (fun _ _ _ h => h) (Or.inl ⟨by rfl, ?ytk29⟩) (by assumption) ?_
                case ytk29 => (intro w hSw; (try dsimp only at hSw); go_simp <;> with_reducible rfl)
                try simp only [List.getElem_toArray, List.getElem_cons_succ, List.getElem_cons_zero, Act.put, List.setIfInBounds_toArray, List.set_cons_zero, List.set_cons_succ]
                refine wpAnyH_take (i := 4) (v := ?_) rfl (by kernel_rfl) (by kernel_rfl) (by kernel_rfl) (fun _ _ _ h => h) (Or.inl ⟨by rfl, ?ytk30⟩) (by assumption) ?_
                case ytk30 => (intro w hSw; (try dsimp only at hSw); go_simp <;> with_reducible rfl)
                try simp only [List.getElem_toArray, List.getElem_cons_succ, List.getElem_cons_zero, Act.put, List.setIfInBounds_toArray, List.set_cons_zero, List.set_cons_succ]
                refine wpAnyH_take (i := 5) (v := ?_) rfl (by kernel_rfl) (by kernel_rfl) (by kernel_rfl) (fun _ _ _ h => h) (Or.inl ⟨by rfl, ?ytk31⟩) (by assumption) ?_
                case ytk31 => (intro w hSw; (try dsimp only at hSw); go_simp <;> with_reducible rfl)
                try simp only [List.getElem_toArray, List.getElem_cons_succ, List.getElem_cons_zero, Act.put, List.setIfInBounds_toArray, List.set_cons_zero, List.set_cons_succ]
                obtain ⟨hp6, zz⟩ := (st6).box _ rfl
                obtain ⟨y0, y1, y2, y3, y4⟩ := box5 zz
                have z0 := zz.free 0
                have z1 := zz.free 1
                have z2 := zz.free 2
                have z3 := zz.free 3
                have z4 := zz.free 4
                refine wpAnyH_ready (rs := [7]) (by kernel_rfl) (by simp) ?_
                refine AllReadyH.cons rfl (fun Kc hK => ?_) (AllReadyH.nil)
                go_simp
                refine hK.out _ _ (below_five_m hp6 (st6).below _ _ _ _ _) (fun hHeld => ?_)
                clear hK Kc
                try simp only [List.getElem_toArray, List.getElem_cons_succ, List.getElem_cons_zero, Act.put, List.setIfInBounds_toArray, List.set_cons_zero, List.set_cons_succ]
                refine wpAnyH_take (i := 8) (v := ?_) rfl (by kernel_rfl) (by kernel_rfl) (by kernel_rfl) (fun _ _ _ h => h) (Or.inl ⟨by rfl, ?ytk32⟩) (by assumption) ?_
                case ytk32 => (intro w hSw; (try dsimp only at hSw); go_simp <;> with_reducible rfl)
                try simp only [List.getElem_toArray, List.getElem_cons_succ, List.getElem_cons_zero, Act.put, List.setIfInBounds_toArray, List.set_cons_zero, List.set_cons_succ]
                refine wpAnyH_done (by kernel_rfl) ?_ _
                refine NoPanic.normal ?_
                refine ⟨rfl, [(89, .agg #[.int .i64 5, .int .i64 0, .string ⟨#[]⟩, .slice none 0 0, .slice A5 r c5]), (90, .agg #[.int .i64 3, .int .i64 1, .string ⟨#[]⟩, .slice none 0 0, .slice none 0 0]), (91, .tuple #[.agg #[.int .i64 k6, .int .i64 n6, .string s6, .slice A6 la6 a6, .slice C6 lc6 c6], .int .i64 0]), (88, .tuple #[.agg #[.int .i64 k6, .int .i64 n6, .string s6, .slice A6 la6 a6, .slice C6 lc6 c6], .int .i64 0]), (92, .agg #[.int .i64 k6, .int .i64 n6, .string s6, .slice A6 la6 a6, .slice C6 lc6 c6]), (93, .int .i64 0), (19, .pointer (some ⟨w5.heap.size, 0, none⟩)), (20, .int .i64 0)], ?_, _, _, _, _, rfl, gotB_fill (st6) hl6⟩
                simp only [putsL_cons, putsL_nil, Act.put, List.setIfInBounds_toArray, List.set_cons_zero, List.set_cons_succ]
            · skip
              go_simp
              refine hK.out _ _ ((Sb.zbox (Sb.drew st0)).below) (fun hHeld => ?_)
              clear hK Kc
              try simp only [List.getElem_toArray, List.getElem_cons_succ, List.getElem_cons_zero, Act.put, List.setIfInBounds_toArray, List.set_cons_zero, List.set_cons_succ]
              refine wpAnyH_ready (rs := [1]) (by kernel_rfl) (by simp) ?_
              refine AllReadyH.cons rfl (fun Kc hK => ?_) (AllReadyH.nil)
              go_simp
              refine (HN.out _ _).mono ?_
              rintro e5 w5 ⟨rfl, hb5⟩
              have st5 : Sb W5 w5 (some W5.heap.size) := Sb.call hb5 (Sb.zbox (Sb.drew st0))
              clear hb5
              refine hK.out _ _ (st5.below) (fun hHeld => ?_)
              clear hK Kc
              try simp only [List.getElem_toArray, List.getElem_cons_succ, List.getElem_cons_zero, Act.put, List.setIfInBounds_toArray, List.set_cons_zero, List.set_cons_succ]
              refine wpAnyH_ready (rs := [2]) (by kernel_rfl) (by simp) ?_
              refine AllReadyH.cons rfl (fun Kc hK => ?_) (AllReadyH.nil)
              go_simp
              refine (HBIN.out _ _ (st5)).mono ?_
              rintro e6 w7 ⟨k6, n6, s6, A6, la6, a6, C6, lc6, c6, rfl, st6, hl6⟩
              refine hK.out _ _ (st6.below) (fun hHeld => ?_)
              clear hK Kc
              try simp only [List.getElem_toArray, List.getElem_cons_succ, List.getElem_cons_zero, Act.put, List.setIfInBounds_toArray, List.set_cons_zero, List.set_cons_succ]
              refine wpAnyH_take (i := 3) (v := ?_) rfl (by kernel_rfl) (by kernel_rfl) (by kernel_rfl) (fun _ _ _ h => h) (Or.inl ⟨by rfl, ?ytk33⟩) (by assumption) ?_
              case ytk33 => (intro w hSw; (try dsimp only at hSw); go_simp <;> with_reducible rfl)
              try simp only [List.getElem_toArray, List.getElem_cons_succ, List.getElem_cons_zero, Act.put, List.setIfInBounds_toArray, List.set_cons_zero, List.set_cons_succ]
              refine wpAnyH_take (i := 4) (v := ?_) rfl (by kernel_rfl) (by kernel_rfl) (by kernel_rfl) (fun _ _ _ h => h) (Or.inl ⟨by rfl, ?ytk34⟩) (by assumption) ?_
              case ytk34 => (intro w hSw; (try dsimp only at hSw); go_simp <;> with_reducible rfl)
              try simp only [List.getElem_toArray, List.getElem_cons_succ, List.getElem_cons_zero, Act.put, List.setIfInBounds_toArray, List.set_cons_zero, List.set_cons_succ]
              refine wpAnyH_take (i := 5) (v := ?_) rfl (by kernel_rfl) (by kernel_rfl) (by kernel_rfl) (fun _ _ _ h => h) (Or.inl ⟨by rfl, ?ytk35⟩) (by assumption) ?_
              case ytk35 => (intro w hSw; (try dsimp only at hSw); go_simp <;> with_reducible rfl)
              try simp only [List.getElem_toArray, List.getElem_cons_succ, List.getElem_cons_zero, Act.put, List.setIfInBounds_toArray, List.set_cons_zero, List.set_cons_succ]
              obtain ⟨hp6, zz⟩ := (st6).box _ rfl
              obtain ⟨y0, y1, y2, y3, y4⟩ := box5 zz
              have z0 := zz.free 0
              have z1 := zz.free 1
              have z2 := zz.free 2
              have z3 := zz.free 3
              have z4 := zz.free 4
              refine wpAnyH_ready (rs := [7]) (by kernel_rfl) (by simp) ?_
              refine AllReadyH.cons rfl (fun Kc hK => ?_) (AllReadyH.nil)
              go_simp
              refine hK.out _ _ (below_five_m hp6 (st6).below _ _ _ _ _) (fun hHeld => ?_)
              clear hK Kc
              try simp only [List.getElem_toArray, List.getElem_cons_succ, List.getElem_cons_zero, Act.put, List.setIfInBounds_toArray, List.set_cons_zero, List.set_cons_succ]
              refine wpAnyH_take (i := 8) (v := ?_) rfl (by kernel_rfl) (by kernel_rfl) (by kernel_rfl) (fun _ _ _ h => h) (Or.inl ⟨by rfl, ?ytk36⟩) (by assumption) ?_
              case ytk36 => (intro w hSw; (try dsimp only at hSw); go_simp <;> with_reducible rfl)
              try simp only [List.getElem_toArray, List.getElem_cons_succ, List.getElem_cons_zero, Act.put, List.setIfInBounds_toArray, List.set_cons_zero, List.set_cons_succ]
              refine wpAnyH_done (by kernel_rfl) ?_ _
              refine NoPanic.normal ?_
              refine ⟨rfl, [(89, .agg #[.int .i64 5, .int .i64 0, .string ⟨#[]⟩, .slice none 0 0, .slice A5 r c5]), (90, .agg #[.int .i64 3, .int .i64 1, .string ⟨#[]⟩, .slice none 0 0, .slice none 0 0]), (91, .tuple #[.agg #[.int .i64 k6, .int .i64 n6, .string s6, .slice A6 la6 a6, .slice C6 lc6 c6], .int .i64 0]), (88, .tuple #[.agg #[.int .i64 k6, .int .i64 n6, .string s6, .slice A6 la6 a6, .slice C6 lc6 c6], .int .i64 0]), (92, .agg #[.int .i64 k6, .int .i64 n6, .string s6, .slice A6 la6 a6, .slice C6 lc6 c6]), (93, .int .i64 0), (19, .pointer (some ⟨W5.heap.size, 0, none⟩)), (20, .int .i64 0)], ?_, _, _, _, _, rfl, gotB_fill (st6) hl6⟩
              simp only [putsL_cons, putsL_nil, Act.put, List.setIfInBounds_toArray, List.set_cons_zero, List.set_cons_succ]
          · rintro vs wc ⟨tp, tq, tr, tu, rfl, hcut⟩
            simp only [putsL_cons, putsL_nil, Act.put, List.setIfInBounds_toArray, List.set_cons_zero, List.set_cons_succ]
            obtain ⟨hbx36, -, g36, k36, n36, s36, A36'', lk36, a36, C36, le36, q36, rfl, hvx36⟩ := hcut
            have HBd := Lib.hid (HBc.out.trans (hbx36.mono HBc.out.size))
            have HV5y := Lib.hid (HV5.out.next hbx36)
            have HV9y := Lib.hid (HV9.out.next hbx36)
            have HV11y := Lib.hid (HV11.out.next hbx36)
            have HV13y := Lib.hid (HV13.out.next hbx36)
            have HV15y := Lib.hid (HV15.out.next hbx36)
            have HV17y := Lib.hid (HV17.out.next hbx36)
            have HV19 := Lib.hid hvx36
            clear hbx36 hvx36 HBc HV5 HV9 HV11 HV13 HV15 HV17
            have HV5 := Lib.hid HV5y.out
            have HV9 := Lib.hid HV9y.out
            have HV11 := Lib.hid HV11y.out
            have HV13 := Lib.hid HV13y.out
            have HV15 := Lib.hid HV15y.out
            have HV17 := Lib.hid HV17y.out
            have HBc := Lib.hid HBd.out
            clear HBd HV5y HV9y HV11y HV13y HV15y HV17y
            generalize wc = W6 at *
            have hYl : Hid (le36 = r * (d + 1)) := Lib.hid (by
              obtain ⟨yk, yn, ys, yks, yes⟩ := YY
              obtain ⟨A1, a1', B1, b1', xs1, hcs, -⟩ := lies_open HV19.out.lies
              simp only [List.cons.injEq, and_true, Value.slice.injEq] at hcs
              rw [hcs.2.2.2.2.2.1]
              exact HPL.out _ _ _ _ _ rfl)
            have hmul : ((d : Int) + 1) * (r : Int) = (le36 : Int) := by
              rw [hYl.out, Int.mul_comm]
              simp
            have hle6 : (le36 : Int) ≤ 24 := by have := hYl.out; omega
            have hle60 : (0 : Int) ≤ (le36 : Int) := by omega
            obtain ⟨V50, V51, V52, V53, V54⟩ := box5 HV5.out.box
            obtain ⟨V90, V91, V92, V93, V94⟩ := box5 HV9.out.box
            obtain ⟨V110, V111, V112, V113, V114⟩ := box5 HV11.out.box
            obtain ⟨V130, V131, V132, V133, V134⟩ := box5 HV13.out.box
            obtain ⟨V150, V151, V152, V153, V154⟩ := box5 HV15.out.box
            obtain ⟨V170, V171, V172, V173, V174⟩ := box5 HV17.out.box
            obtain ⟨V190, V191, V192, V193, V194⟩ := box5 HV19.out.box
            go_wp2_with fail
            clear V50 V51 V52 V53 V54 V90 V91 V92 V93 V94 V110 V111 V112 V113 V114 V130 V131 V132 V133 V134 V150 V151 V152 V153 V154 V170 V171 V172 V173 V174 V190 V191 V192 V193 V194
            have HQ21 := Lib.hid (HSM.out VV VV [.int .i64 k4, .int .i64 n4, .string s4, .slice A4'' lk4 a4, .slice C4 le4 q4] [.int .i64 5, .int .i64 0, .string ⟨#[]⟩, .slice none 0 0, .slice A5 r c5] W6 HV15.out.lies HV5.out.lies)
            rw [hsame.out] at HQ21
            refine HQ21.out.mono ?_
            rintro e21 w21 ⟨rfl, hbs21⟩
            have HBd := Lib.hid (HBc.out.trans (hbs21.mono HBc.out.size))
            have HV5y := Lib.hid (HV5.out.next hbs21)
            have HV9y := Lib.hid (HV9.out.next hbs21)
            have HV11y := Lib.hid (HV11.out.next hbs21)
            have HV13y := Lib.hid (HV13.out.next hbs21)
            have HV15y := Lib.hid (HV15.out.next hbs21)
            have HV17y := Lib.hid (HV17.out.next hbs21)
            have HV19y := Lib.hid (HV19.out.next hbs21)
            clear hbs21 HQ21 HBc HV5 HV9 HV11 HV13 HV15 HV17 HV19
            have HV5 := Lib.hid HV5y.out
            have HV9 := Lib.hid HV9y.out
            have HV11 := Lib.hid HV11y.out
            have HV13 := Lib.hid HV13y.out
            have HV15 := Lib.hid HV15y.out
            have HV17 := Lib.hid HV17y.out
            have HV19 := Lib.hid HV19y.out
            have HBc := Lib.hid HBd.out
            clear HBd HV5y HV9y HV11y HV13y HV15y HV17y HV19y
            obtain ⟨V50, V51, V52, V53, V54⟩ := box5 HV5.out.box
            obtain ⟨V90, V91, V92, V93, V94⟩ := box5 HV9.out.box
            obtain ⟨V110, V111, V112, V113, V114⟩ := box5 HV11.out.box
            obtain ⟨V130, V131, V132, V133, V134⟩ := box5 HV13.out.box
            obtain ⟨V150, V151, V152, V153, V154⟩ := box5 HV15.out.box
            obtain ⟨V170, V171, V172, V173, V174⟩ := box5 HV17.out.box
            obtain ⟨V190, V191, V192, V193, V194⟩ := box5 HV19.out.box
            go_wp2_with fail
            clear V50 V51 V52 V53 V54 V90 V91 V92 V93 V94 V110 V111 V112 V113 V114 V130 V131 V132 V133 V134 V150 V151 V152 V153 V154 V170 V171 V172 V173 V174 V190 V191 V192 V193 V194
            have HQ22 := Lib.hid (HSM.out VV VV [.int .i64 k35, .int .i64 n35, .string s35, .slice A35'' lk35 a35, .slice C35 le35 q35] [.int .i64 5, .int .i64 0, .string ⟨#[]⟩, .slice none 0 0, .slice A5 r c5] w21 HV17.out.lies HV5.out.lies)
            rw [hsame.out] at HQ22
            refine HQ22.out.mono ?_
            rintro e22 w22 ⟨rfl, hbs22⟩
            have HBd := Lib.hid (HBc.out.trans (hbs22.mono HBc.out.size))
            have HV5y := Lib.hid (HV5.out.next hbs22)
            have HV9y := Lib.hid (HV9.out.next hbs22)
            have HV11y := Lib.hid (HV11.out.next hbs22)
            have HV13y := Lib.hid (HV13.out.next hbs22)
            have HV15y := Lib.hid (HV15.out.next hbs22)
            have HV17y := Lib.hid (HV17.out.next hbs22)
            have HV19y := Lib.hid (HV19.out.next hbs22)
            clear hbs22 HQ22 HBc HV5 HV9 HV11 HV13 HV15 HV17 HV19
            have HV5 := Lib.hid HV5y.out
            have HV9 := Lib.hid HV9y.out
            have HV11 := Lib.hid HV11y.out
            have HV13 := Lib.hid HV13y.out
            have HV15 := Lib.hid HV15y.out
            have HV17 := Lib.hid HV17y.out
            have HV19 := Lib.hid HV19y.out
            have HBc := Lib.hid HBd.out
            clear HBd HV5y HV9y HV11y HV13y HV15y HV17y HV19y
            obtain ⟨V50, V51, V52, V53, V54⟩ := box5 HV5.out.box
            obtain ⟨V90, V91, V92, V93, V94⟩ := box5 HV9.out.box
            obtain ⟨V110, V111, V112, V113, V114⟩ := box5 HV11.out.box
            obtain ⟨V130, V131, V132, V133, V134⟩ := box5 HV13.out.box
            obtain ⟨V150, V151, V152, V153, V154⟩ := box5 HV15.out.box
            obtain ⟨V170, V171, V172, V173, V174⟩ := box5 HV17.out.box
            obtain ⟨V190, V191, V192, V193, V194⟩ := box5 HV19.out.box
            by_cases hr0 : r = 0
            · have hrb : ((r : Int) == 0) = true := by simp [hr0]
              clear hr0
              go_wp2_with fail
              refine (HAW.out _).mono ?_
              rintro e9 w9 ⟨rfl, h9⟩
              have hfin := HBc.out.trans (h9.mono HBc.out.size)
              clear h9
              go_wp2_with fail
              go_ret
              exact ⟨rfl, hfin⟩
            · have hrb : ((r : Int) == 0) = false := by simp [hr0]
              have hLb : ((L : Int) == (d : Int) + 1) = true := by rw [HLR.out hr0]; simp
              clear hr0
              go_wp2_with fail
              clear V50 V51 V52 V53 V54 V90 V91 V92 V93 V94 V110 V111 V112 V113 V114 V130 V131 V132 V133 V134 V150 V151 V152 V153 V154 V170 V171 V172 V173 V174 V190 V191 V192 V193 V194
              have HQ23 := Lib.hid (HSM.out VV VV [.int .i64 k2, .int .i64 n2, .string s2, .slice A2'' lk2 a2, .slice C2 le2 q2] [.int .i64 5, .int .i64 0, .string ⟨#[]⟩, .slice none 0 0, .slice A5 r c5] w22 HV11.out.lies HV5.out.lies)
              rw [hsame.out] at HQ23
              refine HQ23.out.mono ?_
              rintro e23 w23 ⟨rfl, hbs23⟩
              have HBd := Lib.hid (HBc.out.trans (hbs23.mono HBc.out.size))
              have HV5y := Lib.hid (HV5.out.next hbs23)
              have HV9y := Lib.hid (HV9.out.next hbs23)
              have HV11y := Lib.hid (HV11.out.next hbs23)
              have HV13y := Lib.hid (HV13.out.next hbs23)
              have HV15y := Lib.hid (HV15.out.next hbs23)
              have HV17y := Lib.hid (HV17.out.next hbs23)
              have HV19y := Lib.hid (HV19.out.next hbs23)
              clear hbs23 HQ23 HBc HV5 HV9 HV11 HV13 HV15 HV17 HV19
              have HV5 := Lib.hid HV5y.out
              have HV9 := Lib.hid HV9y.out
              have HV11 := Lib.hid HV11y.out
              have HV13 := Lib.hid HV13y.out
              have HV15 := Lib.hid HV15y.out
              have HV17 := Lib.hid HV17y.out
              have HV19 := Lib.hid HV19y.out
              have HBc := Lib.hid HBd.out
              clear HBd HV5y HV9y HV11y HV13y HV15y HV17y HV19y
              obtain ⟨V50, V51, V52, V53, V54⟩ := box5 HV5.out.box
              obtain ⟨V90, V91, V92, V93, V94⟩ := box5 HV9.out.box
              obtain ⟨V110, V111, V112, V113, V114⟩ := box5 HV11.out.box
              obtain ⟨V130, V131, V132, V133, V134⟩ := box5 HV13.out.box
              obtain ⟨V150, V151, V152, V153, V154⟩ := box5 HV15.out.box
              obtain ⟨V170, V171, V172, V173, V174⟩ := box5 HV17.out.box
              obtain ⟨V190, V191, V192, V193, V194⟩ := box5 HV19.out.box
              go_wp2_with fail
              refine (HAW.out _).mono ?_
              rintro e9 w9 ⟨rfl, h9⟩
              have hfin := HBc.out.trans (h9.mono HBc.out.size)
              clear h9
              go_wp2_with fail
              go_ret
              exact ⟨rfl, hfin⟩
end Go.Proofs.Ytnokmlclephjgaa

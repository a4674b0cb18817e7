/- TableStable, plain: arrays of numbers are valid, and what the order of their keys says. TableStable's walk. -/
import Derived.Test.YtnokmlclephjgaaAw9
import Derived.Test.YtnokmlclephjgaaIxQ
import Derived.Test.YtnokmlclephjgaaAgree2
import Derived.Test.YtnokmlclephjgaaTD
import Derived.Test.YtnokmlclephjgaaKmod
import Derived.Deep.RegionHeld3
import Derived.Deep.AppendLies
import Derived.Deep.CutBlock
import Derived.Deep.DeepCutAuto
import Derived.BigQuiet
set_option linter.unusedVariables false
set_option linter.unusedSimpArgs false
namespace Go.Proofs.Ytnokmlclephjgaa
open Go.RowKit
theorem valid_numT (n : Int) : valid (numV n) = true := by
  rw [valid_iff]
  unfold numV
  refine ⟨?_, ?_, ?_, ?_⟩
  · rw [good, goodL]
    have h1 : fits 3 n ⟨#[]⟩ ([] : List ByteArray).length ([] : List V).length = true := rfl
    rw [h1]
    decide +kernel
  · rw [dep]; simp
  · rw [V.sz, V.szL]; decide
  · rw [vbyt, vbytL]; decide
theorem nums_goodT : ∀ ps : List Int, goodL (ps.map numV) = true ∧ depL (ps.map numV) = 0 ∧ V.szL (ps.map numV) = ps.length ∧ vbytL (ps.map numV) = 0
  | [] => ⟨rfl, rfl, rfl, rfl⟩
  | x :: r => by
    obtain ⟨a, b, c, d⟩ := nums_goodT r
    have g := (valid_iff (numV x)).1 (valid_numT x)
    rw [List.map_cons]
    refine ⟨?_, ?_, ?_, ?_⟩
    · rw [goodL, g.1, a]; rfl
    · rw [depL, b]; unfold numV; rw [dep]; simp
    · rw [V.szL, c]; unfold numV; rw [V.sz, V.szL]; simp; omega
    · rw [vbytL, d]
      unfold numV; rw [vbyt, vbytL]; simp [kb]; rfl
theorem arr_numsT {ps : List Int} (hn : ps.length ≤ 1024) : valid (arrV (ps.map numV)) = true := by
  obtain ⟨a, b, c, d⟩ := nums_goodT ps
  have hz : (⟨#[]⟩ : ByteArray).size = 0 := rfl
  rw [valid_iff]
  unfold arrV
  refine ⟨?_, ?_, ?_, ?_⟩
  · rw [good, a]
    have h1 : fits 5 0 (⟨#[]⟩ : ByteArray) ([] : List ByteArray).length (ps.map numV).length = true := by unfold fits; simp; rfl
    rw [h1]
    have h2 : okS (⟨#[]⟩ : ByteArray) = true := by decide +kernel
    rw [h2]
    simp [keysOk]
    omega
  · rw [dep, b]; simp
  · rw [V.sz, c]; omega
  · rw [vbyt, kb, d]; simp; omega
theorem all_numsT (ps : List Int) : (ps.map numV).all valid = true := by
  rw [List.all_eq_true]
  intro v hv
  obtain ⟨x, _, rfl⟩ := List.mem_map.1 hv
  exact valid_numT x
theorem tab_nums {ps : List Int} (hn : ps.length ≤ 1024) : tabR (ps.map numV) = arrV (ps.map numV) ∧ tabE (ps.map numV) = 0 := by
  have h1 : arrE (ps.map numV) = 0 := by
    unfold arrE finE
    rw [if_pos (all_numsT ps), if_pos (arr_numsT hn)]
  have h2 : arrR (ps.map numV) = arrV (ps.map numV) := by
    unfold arrR finV
    rw [if_pos (all_numsT ps), if_pos (arr_numsT hn)]
  unfold tabR tabE
  rw [if_pos h1, if_pos h1, h2]
  exact ⟨rfl, rfl⟩
def idxI (i : Nat) : List Int := (List.range i).map fun j : Nat => (j : Int)
theorem idxI_len (i : Nat) : (idxI i).length = i := by simp [idxI]
theorem idxI_succ (i : Nat) : idxI (i + 1) = idxI i ++ [(i : Int)] := by simp [idxI, List.range_succ]
/-- The keys of the law. -/
def kyI (zs : List Int) (i : Nat) : List Int := (zs.take i).map fun z => z % 4
theorem kyI_succ {zs : List Int} {i : Nat} {z : Int} (h : zs[i]? = some z) : kyI zs (i + 1) = kyI zs i ++ [z % 4] := by
  unfold kyI
  rw [List.take_add_one, h]
  simp
/-- The order of the keys, as numbers. -/
def ordI (K : List V) : List Int := (Ix.ordL K).map fun a : Nat => (a : Int)
theorem ordI_len (K : List V) : (ordI K).length = K.length := by unfold ordI; rw [List.length_map, Ix.ordL_len]
theorem idxI_at {n a : Nat} (h : a < n) : ((idxI n).map numV)[a]? = some (numV (a : Int)) := by
  unfold idxI
  rw [List.getElem?_map, List.getElem?_map, List.getElem?_range h]
  rfl
theorem sort_nums (n : Nat) (K : List V) (hK : K.length = n) : sortV ((idxI n).map numV) K = (ordI K).map numV := by
  unfold sortV ordI
  have : ∀ I : List Nat, (∀ a ∈ I, a < n) → pickV ((idxI n).map numV) I = (I.map fun a : Nat => (a : Int)).map numV := by
    intro I
    induction I with
    | nil => intro _; rfl
    | cons a I ih =>
      intro h
      unfold pickV at ih ⊢
      rw [List.filterMap_cons, idxI_at (h a (by simp)), List.map_cons, List.map_cons, ih fun b hb => h b (by simp [hb])]
  exact this _ fun a ha => by rw [← hK]; exact Ix.ordL_lt K a ha
theorem vcmp_nums {x y : Int} (h : vcmp (numV x) (numV y) < 0) : x < y := by
  unfold numV at h
  rw [vcmp] at h
  have h1 : icmp (3 : Int) 3 = 0 := by decide
  have h2 : scmp (⟨#[]⟩ : ByteArray) ⟨#[]⟩ = 0 := by decide +kernel
  have h3 : kcmp ([] : List ByteArray) [] = 0 := by rw [kcmp]
  rw [if_pos h1, if_pos h2, if_pos h3, vcmpL] at h
  split at h
  · omega
  · unfold icmp at h
    split at h
    · assumption
    · split at h <;> omega
/-- Neighbors in the order. -/
theorem ord_step {zs : List Int} {n i : Nat} (hn : zs.length = n) (hi : i + 1 < n) : ∃ a b : Nat, ∃ x y : Int, (ordI ((zs.map (· % 4)).map numV))[i]? = some (a : Int) ∧ (ordI ((zs.map (· % 4)).map numV))[i + 1]? = some (b : Int) ∧ a < n ∧ b < n ∧ zs[a]? = some x ∧ zs[b]? = some y ∧ (x % 4 < y % 4 ∨ (x % 4 = y % 4 ∧ a < b)) := by
  have hK : ((zs.map (· % 4)).map numV).length = n := by simp [hn]
  have hp := Ix.ordL_stable ((zs.map (· % 4)).map numV)
  have hl := Ix.ordL_len ((zs.map (· % 4)).map numV)
  rw [hK] at hl
  generalize hL : Ix.ordL ((zs.map (· % 4)).map numV) = L at hp hl
  have h := List.pairwise_iff_getElem.1 hp i (i + 1) (by omega) (by omega) (by omega)
  have hlt : ∀ a ∈ L, a < n := fun a ha => by rw [← hK]; exact Ix.ordL_lt _ a (by rw [hL]; exact ha)
  obtain ⟨u, v, hu, hv, hc⟩ := h
  have ha := hlt _ (List.getElem_mem (show i < L.length by omega))
  have hb := hlt _ (List.getElem_mem (show i + 1 < L.length by omega))
  rw [List.getElem?_map, List.getElem?_map] at hu hv
  obtain ⟨u', hu', rfl⟩ := Option.map_eq_some_iff.1 hu
  obtain ⟨x, hx, rfl⟩ := Option.map_eq_some_iff.1 hu'
  obtain ⟨v', hv', rfl⟩ := Option.map_eq_some_iff.1 hv
  obtain ⟨y, hy, rfl⟩ := Option.map_eq_some_iff.1 hv'
  refine ⟨L[i], L[i + 1], x, y, ?_, ?_, ha, hb, hx, hy, ?_⟩
  · unfold ordI; rw [hL, List.getElem?_map, List.getElem?_eq_getElem (by omega)]; rfl
  · unfold ordI; rw [hL, List.getElem?_map, List.getElem?_eq_getElem (by omega)]; rfl
  · rcases hc with hc | ⟨hc, hc2⟩
    · exact .inl (vcmp_nums hc)
    · refine .inr ⟨?_, hc2⟩
      unfold numV at hc
      injection hc
theorem elem_int {w : World} {S : Nat → Prop} {ps : List Int} {A : Option Addr} {a m : Nat} {k n : Int} {s : ByteArray} {D : Option Addr} {d e : Nat} (h : Lies w S (arrV (ps.map numV)) [.int .i64 k, .int .i64 n, .string s, .slice D d e, .slice A m a]) {i : Nat} {z : Int} (hz : ps[i]? = some z) :
    ∃ b o, A = some ⟨b, o, none⟩ ∧ S b ∧ w.cell? ⟨b, o + (i * 5 + 1), none⟩ = some (.int .i64 z) := by
  unfold arrV at h
  obtain ⟨A', a', B, b, xs, he, -, -, -, -, -, hR, hL⟩ := lies_open h
  simp only [List.cons.injEq, and_true, Value.slice.injEq] at he
  obtain ⟨-, -, -, -, rfl, -⟩ := he
  obtain ⟨c, hc, hat⟩ := hL.at_ (i := i) (e := numV z) (by rw [List.getElem?_map, hz]; rfl)
  unfold numV at hc
  obtain ⟨A3, a3, B3, b3, ys, rfl, _⟩ := lies_open hc
  have h1 := hat 1 (by decide)
  exact hR.at_ (j := i * 5 + 1) (u := .int .i64 z) (by rw [h1]; rfl)
theorem own_numsV {w : World} {base n : Nat} {V : Value} {l : List Int} (h : w.ownsRow base 27 5 V n (l.flatMap numC)) (hl : l.length = n) (hn : n ≤ 1000000) :
    ∃ A c, V = .slice A n c ∧ Hid (Lies w (· < w.heap.size) (arrV (l.map numV)) [.int .i64 5, .int .i64 0, .string ⟨#[]⟩, .slice none 0 0, .slice A n c]) := by
  obtain ⟨A, c, rfl, h0, hc, hm, hr⟩ := own_open h
  refine ⟨A, c, rfl, Lib.hid ?_⟩
  have hs : SliceV w A c (l.map numV) (l.flatMap numC) := ⟨⟨hr.move fun b hb => ⟨hb.2.1, rfl⟩, numsL _ _ l⟩, h0, by rw [List.length_map]; omega, hm, by rw [List.length_map]; omega⟩
  have := hs.lies
  rw [List.length_map, hl] at this
  exact this
end Go.Proofs.Ytnokmlclephjgaa
namespace Go.Proofs.Ytnokmlclephjgaa
open Go.RowKit
theorem numsF_snoc (l : List Int) (z : Int) : (l ++ [z]).flatMap numC = l.flatMap numC ++ numC z := by simp
theorem numC_one (z : Int) : ∀ u ∈ numC z, u.oneCell' = true := by
  intro u hu
  simp only [numC, List.mem_cons, List.not_mem_nil, or_false] at hu
  rcases hu with rfl | rfl | rfl | rfl | rfl <;> rfl
/-- Between two rounds of the first loop. -/
structure TsSt (w : World) (zs : List Int) (V K : Value) (i : Nat) (wr : World) : Prop where
  v : wr.ownsRow w.heap.size 27 5 V i ((idxI i).flatMap numC)
  k : wr.ownsRow w.heap.size 27 5 K i ((kyI zs i).flatMap numC)
  off : ∀ b, V.ownBlock = some b → K.ownBlock ≠ some b
  below : Below w.heap.size w wr
set_option maxHeartbeats 4000000 in
set_option maxRecDepth 100000 in
theorem tableStable_walk (A : Option Addr) (c : Nat) (zs : List Int) (w : World) (hR : Rd w w.heap.size A (zs.map (Value.int .i64))) :
    Calls Try.prog 3 #[.slice A zs.length c] w fun e w' => e = .returned (.bool true) ∧ Below w.heap.size w w' := by
  have HAW := Lib.hid (fun W => awake9_any W)
  by_cases hbig : 20 < zs.length
  · have hbi : (20 : Int) < (zs.length : Int) := by omega
    generalize zs.length = n at *
    go_enter Try.func3, Try.ntmps3
    go_wp2_with fail
    refine (HAW.out _).mono ?_
    rintro e1 w1 ⟨rfl, hb1⟩
    go_wp2_with fail
    go_ret
    exact ⟨rfl, hb1⟩
  · have hbi : ¬ (20 : Int) < (zs.length : Int) := by omega
    have HN := Lib.hid (fun (n : Int) W => lnum_any n W)
    have HM := Lib.hid (fun (x : Int) W => kmod_any x 4 (by decide) (by decide) W)
    have HR := Lib.hid hR
    have HZ := Lib.hid (rfl : zs.length = zs.length)
    have HST : Hid (TsSt w zs (.slice none 0 0) (.slice none 0 0) 0 w) := Lib.hid ⟨World.ownsRow_nil _ _ _ _, World.ownsRow_nil _ _ _ _, (fun b h => by cases h), Below.refl _ _⟩
    obtain ⟨n, hn⟩ : ∃ n, zs.length = n := ⟨_, rfl⟩
    rw [hn] at hbi hbig HZ ⊢
    have HZN := Lib.hid hn
    clear hR hn HZ
    obtain ⟨i0, hi, hz0, hz1, hz2⟩ := info_parts inf_value
    have hn20 : n ≤ 20 := by omega
    go_enter Try.func3, Try.ntmps3
    go_wp2_with fail
    go_loopg [3, 4, 5] n (fun gg s3 s4 s5 wr => ∃ (i : Nat), s5 = .int .i64 i ∧ i ≤ n ∧ n - i ≤ gg ∧ Hid (TsSt w zs s3 s4 i wr))
    case atStart => exact ⟨0, rfl, Nat.zero_le _, by omega, HST⟩
    case round =>
      clear HST
      obtain ⟨i, rfl, hin, hg, HS⟩ := hrel
      by_cases hlt : i < n
      · obtain ⟨z, hz⟩ : ∃ z, zs[i]? = some z := ⟨_, List.getElem?_eq_getElem (by rw [HZN.out]; exact hlt)⟩
        obtain ⟨b, o, rfl, hb, hcz⟩ := HR.out.at_ (j := i) (u := .int .i64 z) (by simp [hz])
        have hcr := (HS.out.below.cell (p := ⟨b, o + i, none⟩) hb).trans hcz
        have hi0 : (0 : Int) ≤ (i : Int) := by omega
        have hil : (i : Int) < (n : Int) := by omega
        have HCZ := Lib.hid hcz
        have HU : Hid (∀ X, Below w.heap.size w X → X.cell? ⟨b, o + i, none⟩ = some (.int .i64 z)) := Lib.hid fun X hX => (hX.cell (p := ⟨b, o + i, none⟩) hb).trans hcz
        clear hcz
        have HL0 : Hid (Lanes 27 w.heap.size 5 0 0 u3 undef undef i ((idxI i).flatMap numC) (numC i) u4 undef undef i ((kyI zs i).flatMap numC) (numC (z % 4)) wr) := Lib.hid (Lanes.start HS.out.v HS.out.k HS.out.off _ _ _ _ _ _)
        have HB0 := Lib.hid HS.out.below
        clear HS
        go_upto_region 7 with fail
        refine wp_region_noPanic ?_
        refine wp_region_held_drew (S := fun X : World => Below w.heap.size w X) (by kernel_rfl) HB0.out.drew (fun hHeld => ?_)
        refine wpAnyH_take (i := 0) (v := ?_) rfl (by kernel_rfl) (by kernel_rfl) (by kernel_rfl) (fun _ _ _ h => h) (Or.inl ⟨by rfl, ?ytk1⟩) (by assumption) ?_
        case ytk1 => (intro w hSw; (try dsimp only at hSw); go_simp <;> with_reducible rfl)
        try simp only [List.getElem_toArray, List.getElem_cons_succ, List.getElem_cons_zero, Act.put, List.setIfInBounds_toArray, List.set_cons_zero, List.set_cons_succ]
        refine wpAnyH_take (i := 1) (v := ?_) rfl (by kernel_rfl) (by kernel_rfl) (by kernel_rfl) (fun _ _ _ h => h) (Or.inl ⟨by rfl, ?ytk2⟩) (by assumption) ?_
        case ytk2 => (intro w hSw; (try dsimp only at hSw); go_simp <;> with_reducible rfl)
        try simp only [List.getElem_toArray, List.getElem_cons_succ, List.getElem_cons_zero, Act.put, List.setIfInBounds_toArray, List.set_cons_zero, List.set_cons_succ]
        refine wpAnyH_take (i := 5) (v := ?_) rfl (by kernel_rfl) (by kernel_rfl) (by kernel_rfl) (fun _ _ _ h => h) (Or.inl ⟨by rfl, ?ytk3⟩) (by assumption) ?_
        case ytk3 => (intro w hSw; (try dsimp only at hSw); go_simp <;> with_reducible rfl)
        try simp only [List.getElem_toArray, List.getElem_cons_succ, List.getElem_cons_zero, Act.put, List.setIfInBounds_toArray, List.set_cons_zero, List.set_cons_succ]
        refine wpAnyH_take (i := 6) (v := ?_) rfl (by kernel_rfl) (by kernel_rfl) (by kernel_rfl) (fun _ _ _ h => h) (Or.inl ⟨by rfl, ?ytk4⟩) (by assumption) ?_
        case ytk4 => (intro w hSw; (try dsimp only at hSw); go_simp <;> with_reducible rfl)
        try simp only [List.getElem_toArray, List.getElem_cons_succ, List.getElem_cons_zero, Act.put, List.setIfInBounds_toArray, List.set_cons_zero, List.set_cons_succ]
        refine wpAnyH_take (i := 7) (v := ?_) rfl (by kernel_rfl) (by kernel_rfl) (by kernel_rfl) (fun _ _ _ h => h) (Or.inl ⟨by rfl, ?ytk5⟩) (by assumption) ?_
        case ytk5 => (intro w hSw; (try dsimp only at hSw); go_simp <;> with_reducible rfl)
        try simp only [List.getElem_toArray, List.getElem_cons_succ, List.getElem_cons_zero, Act.put, List.setIfInBounds_toArray, List.set_cons_zero, List.set_cons_succ]
        refine wpAnyH_take (i := 8) (v := ?_) rfl (by kernel_rfl) (by kernel_rfl) (by kernel_rfl) (fun _ _ _ h => h) (Or.inl ⟨by rfl, ?ytk6⟩) (by assumption) ?_
        case ytk6 => (intro w hSw; (try dsimp only at hSw); go_simp <;> with_reducible rfl)
        try simp only [List.getElem_toArray, List.getElem_cons_succ, List.getElem_cons_zero, Act.put, List.setIfInBounds_toArray, List.set_cons_zero, List.set_cons_succ]
        refine wpAnyH_take (i := 9) (v := ?_) rfl (by kernel_rfl) (by kernel_rfl) (by kernel_rfl) (fun _ _ _ h => h) (Or.inl ⟨by rfl, ?ytk7⟩) (by assumption) ?_
        case ytk7 => (intro w hSw; (try dsimp only at hSw); have q0 := HU.out w hSw; go_simp <;> with_reducible rfl)
        try simp only [List.getElem_toArray, List.getElem_cons_succ, List.getElem_cons_zero, Act.put, List.setIfInBounds_toArray, List.set_cons_zero, List.set_cons_succ]
        refine wpAnyH_ready (rs := [2]) (by kernel_rfl) (by simp) ?_
        refine AllReadyH.cons rfl (fun Kc hK => ?_) (AllReadyH.nil)
        go_simp
        refine (HN.out _ _).mono ?_
        rintro e1 w1 ⟨rfl, h1⟩
        have HL1 := Lib.hid (HL0.out.below (below_of_drew h1))
        have HB1 : Hid (Below w.heap.size w w1) := Lib.hid (HB0.out.trans ((below_of_drew h1).mono HB0.out.size))
        clear h1 HL0 HB0
        refine hK.out _ _ (HB1.out) (fun hHeld => ?_)
        clear hK Kc
        try simp only [List.getElem_toArray, List.getElem_cons_succ, List.getElem_cons_zero, Act.put, List.setIfInBounds_toArray, List.set_cons_zero, List.set_cons_succ]
        refine wpAnyH_ready (rs := [3]) (by kernel_rfl) (by simp) ?_
        refine AllReadyH.cons rfl (fun Kc hK => ?_) (AllReadyH.nil)
        go_simp
        refine hK.out _ _ (HB1.out.alloc HB1.out.size _) (fun hHeld => ?_)
        clear hK Kc
        try simp only [List.getElem_toArray, List.getElem_cons_succ, List.getElem_cons_zero, Act.put, List.setIfInBounds_toArray, List.set_cons_zero, List.set_cons_succ]
        have HL2 : Hid (Lanes 27 w.heap.size 5 1 0 u3 (.slice (some ⟨w1.heap.size, 0, none⟩) 1 1) undef i ((idxI i).flatMap numC) (numC i) u4 undef undef i ((kyI zs i).flatMap numC) (numC (z % 4)) (w1.alloc (.cells #[.int .i64 3, .int .i64 i, .string ⟨#[]⟩, .slice none 0 0, .slice none 0 0] 27))) := Lib.hid (HL1.out.build _ undef rfl)
        have HB2 : Hid (Below w.heap.size w (w1.alloc (.cells #[.int .i64 3, .int .i64 i, .string ⟨#[]⟩, .slice none 0 0, .slice none 0 0] 27))) := Lib.hid (HB1.out.alloc HB1.out.size _)
        generalize hw2 : (w1.alloc (.cells #[.int .i64 3, .int .i64 i, .string ⟨#[]⟩, .slice none 0 0, .slice none 0 0] 27)) = w2 at HL2 HB2 ⊢
        obtain ⟨oA, gA, eA, cA⟩ := HL2.out.a.ask
        injection eA with eA _ _
        injection eA with eA
        injection eA with eA _ _
        subst eA
        clear HL1 HB1 hw2 hHeld
        refine wpAnyH_ready (rs := [4]) (by kernel_rfl) (by simp) ?_
        refine AllReadyH.cons rfl (fun Kc hK => ?_) (AllReadyH.nil)
        refine step_append_lies _ rfl (.tmp 23) (.tmp 26) 24 rfl w.heap.size 27 i0 zeroVal 5 80 Try.underlying24 hi hz0 hz1 hz2 rfl (by decide) u3 i ((idxI i).flatMap numC) rfl oA ⟨w1.heap.size, 0, none⟩ 1 1 (numC i) rfl rfl cA (numC_one _) (by decide) (by unfold maxLen; omega) (by omega) HB2.out.size _ rfl ?_
        intro g3 c3 w3 ho3 hg3 hor3 hlt3
        have HL3 : Hid (Lanes 27 w.heap.size 5 2 0 u3 (.slice (some ⟨w1.heap.size, 0, none⟩) 1 1) (.slice (some ⟨g3, 0, none⟩) (i + 1) c3) i ((idxI i).flatMap numC) (numC i) u4 undef undef i ((kyI zs i).flatMap numC) (numC (z % 4)) w3) := Lib.hid (HL2.out.app ho3 hg3 hor3 _ rfl)
        have HB3 : Hid (Below w.heap.size w w3) := Lib.hid (grown_belowL hg3 HB2.out fun k hk => (oA.lt k hk).1)
        clear ho3 hg3 hor3 hlt3 HL2 HB2 oA cA
        refine hK.out _ _ (HB3.out) (fun hHeld => ?_)
        clear hK Kc
        try simp only [List.getElem_toArray, List.getElem_cons_succ, List.getElem_cons_zero, Act.put, List.setIfInBounds_toArray, List.set_cons_zero, List.set_cons_succ]
        refine wpAnyH_ready (rs := [10]) (by kernel_rfl) (by simp) ?_
        refine AllReadyH.cons rfl (fun Kc hK => ?_) (AllReadyH.nil)
        go_simp
        refine (HM.out _ _).mono ?_
        rintro e4 w4 ⟨rfl, rfl⟩
        refine hK.out _ _ (HB3.out) (fun hHeld => ?_)
        clear hK Kc
        try simp only [List.getElem_toArray, List.getElem_cons_succ, List.getElem_cons_zero, Act.put, List.setIfInBounds_toArray, List.set_cons_zero, List.set_cons_succ]
        refine wpAnyH_ready (rs := [11]) (by kernel_rfl) (by simp) ?_
        refine AllReadyH.cons rfl (fun Kc hK => ?_) (AllReadyH.nil)
        go_simp
        refine (HN.out _ _).mono ?_
        rintro e5 w5 ⟨rfl, h5⟩
        have HL5 := Lib.hid (HL3.out.below h5)
        have HB5 : Hid (Below w.heap.size w w5) := Lib.hid (HB3.out.trans (h5.mono HB3.out.size))
        clear h5 HL3 HB3
        refine hK.out _ _ (HB5.out) (fun hHeld => ?_)
        clear hK Kc
        try simp only [List.getElem_toArray, List.getElem_cons_succ, List.getElem_cons_zero, Act.put, List.setIfInBounds_toArray, List.set_cons_zero, List.set_cons_succ]
        refine wpAnyH_ready (rs := [12]) (by kernel_rfl) (by simp) ?_
        refine AllReadyH.cons rfl (fun Kc hK => ?_) (AllReadyH.nil)
        go_simp
        refine hK.out _ _ (HB5.out.alloc HB5.out.size _) (fun hHeld => ?_)
        clear hK Kc
        try simp only [List.getElem_toArray, List.getElem_cons_succ, List.getElem_cons_zero, Act.put, List.setIfInBounds_toArray, List.set_cons_zero, List.set_cons_succ]
        have HL6 : Hid (Lanes 27 w.heap.size 5 1 2 u4 (.slice (some ⟨w5.heap.size, 0, none⟩) 1 1) undef i ((kyI zs i).flatMap numC) (numC (z % 4)) u3 (.slice (some ⟨w1.heap.size, 0, none⟩) 1 1) (.slice (some ⟨g3, 0, none⟩) (i + 1) c3) i ((idxI i).flatMap numC) (numC i) (w5.alloc (.cells #[.int .i64 3, .int .i64 (z % 4), .string ⟨#[]⟩, .slice none 0 0, .slice none 0 0] 27))) := Lib.hid (HL5.out.swap.build _ undef rfl)
        have HB6 : Hid (Below w.heap.size w (w5.alloc (.cells #[.int .i64 3, .int .i64 (z % 4), .string ⟨#[]⟩, .slice none 0 0, .slice none 0 0] 27))) := Lib.hid (HB5.out.alloc HB5.out.size _)
        generalize hw6 : (w5.alloc (.cells #[.int .i64 3, .int .i64 (z % 4), .string ⟨#[]⟩, .slice none 0 0, .slice none 0 0] 27)) = w6 at HL6 HB6 ⊢
        obtain ⟨oA, gA, eA, cA⟩ := HL6.out.a.ask
        injection eA with eA _ _
        injection eA with eA
        injection eA with eA _ _
        subst eA
        clear HL5 HB5 hw6 hHeld
        refine wpAnyH_ready (rs := [13]) (by kernel_rfl) (by simp) ?_
        refine AllReadyH.cons rfl (fun Kc hK => ?_) (AllReadyH.nil)
        refine step_append_lies _ rfl (.tmp 28) (.tmp 35) 24 rfl w.heap.size 27 i0 zeroVal 5 80 Try.underlying24 hi hz0 hz1 hz2 rfl (by decide) u4 i ((kyI zs i).flatMap numC) rfl oA ⟨w5.heap.size, 0, none⟩ 1 1 (numC (z % 4)) rfl rfl cA (numC_one _) (by decide) (by unfold maxLen; omega) (by omega) HB6.out.size _ rfl ?_
        intro g7 c7 w7 ho7 hg7 hor7 hlt7
        have HL7 := Lib.hid ((HL6.out.app ho7 hg7 hor7 _ rfl).swap.out)
        have HB7 : Hid (Below w.heap.size w w7) := Lib.hid (grown_belowL hg7 HB6.out fun k hk => (oA.lt k hk).1)
        clear ho7 hg7 hor7 hlt7 HL6 HB6 oA cA
        refine hK.out _ _ (HB7.out) (fun hHeld => ?_)
        clear hK Kc
        try simp only [List.getElem_toArray, List.getElem_cons_succ, List.getElem_cons_zero, Act.put, List.setIfInBounds_toArray, List.set_cons_zero, List.set_cons_succ]
        refine wpAnyH_take (i := 14) (v := ?_) rfl (by kernel_rfl) (by kernel_rfl) (by kernel_rfl) (fun _ _ _ h => h) (Or.inl ⟨by rfl, ?ytk8⟩) (by assumption) ?_
        case ytk8 => (intro w hSw; (try dsimp only at hSw); go_simp <;> with_reducible rfl)
        try simp only [List.getElem_toArray, List.getElem_cons_succ, List.getElem_cons_zero, Act.put, List.setIfInBounds_toArray, List.set_cons_zero, List.set_cons_succ]
        refine wpAnyH_take (i := 15) (v := ?_) rfl (by kernel_rfl) (by kernel_rfl) (by kernel_rfl) (fun _ _ _ h => h) (Or.inl ⟨by rfl, ?ytk9⟩) (by assumption) ?_
        case ytk9 => (intro w hSw; (try dsimp only at hSw); go_simp <;> with_reducible rfl)
        try simp only [List.getElem_toArray, List.getElem_cons_succ, List.getElem_cons_zero, Act.put, List.setIfInBounds_toArray, List.set_cons_zero, List.set_cons_succ]
        refine wpAnyH_done (by kernel_rfl) ?_ _
        refine NoPanic.normal ?_
        have HS7 : Hid (TsSt w zs (.slice (some ⟨g3, 0, none⟩) (i + 1) c3) (.slice (some ⟨g7, 0, none⟩) (i + 1) c7) (i + 1) w7) := Lib.hid ⟨by rw [idxI_succ, numsF_snoc]; exact HL7.out.1, by rw [kyI_succ hz, numsF_snoc]; exact HL7.out.2.1, HL7.out.2.2, HB7.out⟩
        clear hHeld HL7 HB7 HU HCZ hcr
        go_wp2_with fail
        go_roundg (n - (i + 1))
        case measure => omega
        case rel => exact ⟨i + 1, by first | rfl | go_num, by omega, Nat.le_refl _, HS7⟩
      · obtain rfl : i = n := by omega
        have hil : ¬ ((i : Int) < (i : Int)) := by omega
        have hky : kyI zs i = zs.map (· % 4) := by unfold kyI; rw [List.take_of_length_le (by rw [HZN.out]; exact Nat.le_refl _)]
        obtain ⟨A1, d1, rfl, HV⟩ := own_numsV HS.out.v (idxI_len i) (by omega)
        obtain ⟨A2, d2, rfl, HK⟩ := own_numsV HS.out.k (by rw [hky, List.length_map]; exact HZN.out) (by omega)
        rw [hky] at HK
        have HB0 := Lib.hid HS.out.below
        have HSORT : Hid (∀ W, Below wr.heap.size wr W → Calls Try.prog 8 #[.agg #[.int .i64 5, .int .i64 0, .string ⟨#[]⟩, .slice none 0 0, .slice A1 i d1], .agg #[.int .i64 5, .int .i64 0, .string ⟨#[]⟩, .slice none 0 0, .slice A2 i d2]] W (RetPost (arrV ((ordI ((zs.map (· % 4)).map numV)).map numV)) 0 W)) := Lib.hid fun W hW => by
          have hKl : ((zs.map (· % 4)).map numV).length = i := by rw [List.length_map, List.length_map, HZN.out]
          have h := sortBy_any (es := (idxI i).map numV) (K := (zs.map (· % 4)).map numV) (below_lies hW HV.out) (below_lies hW HK.out) (arr_numsT (by rw [idxI_len]; omega)) (arr_numsT (by rw [List.length_map, HZN.out]; omega)) (all_numsT _) (by rw [hKl, List.length_map, idxI_len]) (by rw [hKl]; omega)
          rw [sort_nums i _ hKl, (tab_nums (by rw [ordI_len, hKl]; omega)).1, (tab_nums (by rw [ordI_len, hKl]; omega)).2] at h
          exact h
        have HOL : Hid ((ordI ((zs.map (· % 4)).map numV)).length = i) := Lib.hid (by rw [ordI_len, List.length_map, List.length_map, HZN.out])
        have HOS : Hid (∀ j, j + 1 < i → ∃ a b : Nat, ∃ x y : Int, (ordI ((zs.map (· % 4)).map numV))[j]? = some (a : Int) ∧ (ordI ((zs.map (· % 4)).map numV))[j + 1]? = some (b : Int) ∧ a < i ∧ b < i ∧ zs[a]? = some x ∧ zs[b]? = some y ∧ (x % 4 < y % 4 ∨ (x % 4 = y % 4 ∧ a < b))) := Lib.hid fun j hj => ord_step HZN.out hj
        have HLL := Lib.hid (fun (A : Option Addr) (n c : Nat) W => llist_any A n c W)
        clear HS HV HK hky hn20
        generalize ordI ((zs.map (· % 4)).map numV) = OI at HSORT HOL HOS
        have hn20 : i ≤ 20 := by omega
        generalize i = n at *
        go_wp2_with fail
        refine (HLL.out _ _ _ _).mono ?_
        rintro e1 w1 ⟨rfl, h1⟩
        go_wp2_with fail
        refine (HLL.out _ _ _ _).mono ?_
        rintro e2 w2 ⟨rfl, h2⟩
        have hb2 := chain h1 h2
        have HB2 : Hid (Below w.heap.size w w2) := Lib.hid (HB0.out.trans (hb2.mono HB0.out.size))
        have HS2 := Lib.hid (ret_open (HSORT.out w2 hb2))
        clear h1 h2 hb2 HSORT HB0
        go_wp2_with fail
        refine HS2.out.mono ?_
        rintro e3 w3 ⟨rk, rn, rs, rks, res, RA, ra, RC, rc, hrv, rfl, hb3, hl3⟩
        unfold arrV at hrv
        injection hrv with q1 q2 q3 q4 q5
        subst q1 q2 q3 q4 q5
        have hle : (OI.map numV).length = n := by rw [List.length_map]; exact HOL.out
        rw [hle] at hl3 ⊢
        rw [List.length_nil] at hl3 ⊢
        have HEL : Hid (∀ (j : Nat) (z : Int), OI[j]? = some z → ∃ b o, RC = some ⟨b, o, none⟩ ∧ b < w3.heap.size ∧ w3.cell? ⟨b, o + (j * 5 + 1), none⟩ = some (.int .i64 z)) := Lib.hid fun j z hz => by
          obtain ⟨b, o, e1, e2, e3⟩ := elem_int (w := w3) (ps := OI) hl3 hz
          exact ⟨b, o, e1, e2.2, e3⟩
        have HB3 : Hid (Below w.heap.size w w3) := Lib.hid (HB2.out.trans (hb3.mono HB2.out.size))
        have HX3 := Lib.hid (Box.laid w3 27 #[.int .i64 5, .int .i64 0, .string ⟨#[]⟩, .slice RA 0 ra, .slice RC n rc])
        have HBX : Hid (Below w3.heap.size w3 (w3.alloc (.cells #[.int .i64 5, .int .i64 0, .string ⟨#[]⟩, .slice RA 0 ra, .slice RC n rc] 27))) := Lib.hid (below1 _ _)
        clear hb3 hl3 hle HB2 HS2
        obtain ⟨c0, c1, c2, c3, c4⟩ := box5 HX3.out
        go_wp2_with fail
        have HC4 : Hid (∀ X, Below (w3.alloc (.cells #[.int .i64 5, .int .i64 0, .string ⟨#[]⟩, .slice RA 0 ra, .slice RC n rc] 27)).heap.size (w3.alloc (.cells #[.int .i64 5, .int .i64 0, .string ⟨#[]⟩, .slice RA 0 ra, .slice RC n rc] 27)) X → X.cell? ⟨w3.heap.size, 4, none⟩ = some (.slice RC n rc)) := Lib.hid fun X hX => (hX.cell (p := ⟨w3.heap.size, 4, none⟩) HX3.out.lt).trans c4
        generalize (w3.alloc (.cells #[.int .i64 5, .int .i64 0, .string ⟨#[]⟩, .slice RA 0 ra, .slice RC n rc] 27)) = Wb at HX3 HBX HC4 ⊢
        have HEB : Hid (∀ (j : Nat) (z : Int), OI[j]? = some z → ∃ b o, RC = some ⟨b, o, none⟩ ∧ ∀ X, Below Wb.heap.size Wb X → X.cell? ⟨b, o + (j * 5 + 1), none⟩ = some (.int .i64 z)) := Lib.hid fun j z hz => by
          obtain ⟨b, o, e1, e2, e3⟩ := HEL.out j z hz
          exact ⟨b, o, e1, fun X hX => ((HBX.out.trans (hX.mono HBX.out.size)).cell (p := ⟨b, o + (j * 5 + 1), none⟩) e2).trans e3⟩
        have HBW : Hid (∀ X, Below Wb.heap.size Wb X → Below w.heap.size w X) := Lib.hid fun X hX => HB3.out.trans ((HBX.out.trans (hX.mono HBX.out.size)).mono HB3.out.size)
        have HZC : Hid (∀ (a : Nat) (x : Int), zs[a]? = some x → ∃ b o, A = some ⟨b, o, none⟩ ∧ ∀ X, Below Wb.heap.size Wb X → X.cell? ⟨b, o + a, none⟩ = some (.int .i64 x)) := Lib.hid fun a x hx => by
          obtain ⟨b, o, e1, e2, e3⟩ := HR.out.at_ (j := a) (u := .int .i64 x) (by simp [hx])
          exact ⟨b, o, e1, fun X hX => ((HBW.out X hX).cell (p := ⟨b, o + a, none⟩) e2).trans e3⟩
        clear c0 c1 c2 c3 c4 HEL HR HX3 HBX HB3 HN HLL
        have HW0 := Lib.hid (Below.refl Wb.heap.size Wb)
        go_loopg [8] n (fun gg s8 wr => ∃ k : Nat, s8 = .int .i64 ((k : Int) + 1) ∧ (k + 1 ≤ n ∨ k = 0) ∧ n - k ≤ gg ∧ Hid (Below Wb.heap.size Wb wr))
        case atStart => exact ⟨0, rfl, .inr rfl, by omega, HW0⟩
        case round =>
          clear HW0
          obtain ⟨k, rfl, hk, hg, HW⟩ := hrel
          have c4 := HC4.out _ HW.out
          by_cases hlt : k + 1 < n
          · have hk0 : (0 : Int) ≤ (k : Int) := by omega
            have hil : (k : Int) + 1 < (n : Int) := by omega
            obtain ⟨a, b, x, y, hOa, hOb, han, hbn, hza, hzb, hord⟩ := HOS.out k hlt
            obtain ⟨b1, o1, e1, p1⟩ := HEB.out k _ hOa
            obtain ⟨b2, o2, e2, p2⟩ := HEB.out (k + 1) _ hOb
            subst e1
            injection e2 with e2
            injection e2 with e2 e3
            subst e2 e3
            have P1 : wr.cell? ⟨b1, o1 + k * 5 + 1, none⟩ = some (.int .i64 a) := by have := p1 _ HW.out; rwa [← Nat.add_assoc] at this
            have P2 : wr.cell? ⟨b1, o1 + (k + 1) * 5 + 1, none⟩ = some (.int .i64 b) := by have := p2 _ HW.out; rwa [← Nat.add_assoc] at this
            have hk1 : (k : Int) + 1 - 1 = (k : Int) := by omega
            have hkl : (k : Int) < (n : Int) := by omega
            have hk10 : (0 : Int) ≤ (k : Int) + 1 := by omega
            have hkt : ((k : Int) + 1).toNat = k + 1 := by omega
            clear p1 p2 hOa hOb
            go_upto_region 14 with fail
            go_region
            obtain ⟨bz, oz, ez, za⟩ := HZC.out a x hza
            obtain ⟨bz2, oz2, ez2, zb⟩ := HZC.out b y hzb
            subst ez
            injection ez2 with ez2
            injection ez2 with ez2 ez3
            subst ez2 ez3
            have ha0 : ¬ ((a : Int) < 0) := by omega
            have hb0 : ¬ ((b : Int) < 0) := by omega
            have ha1 : ¬ ((n : Int) ≤ (a : Int)) := by omega
            have hb1 : ¬ ((n : Int) ≤ (b : Int)) := by omega
            have haz : (0 : Int) ≤ (a : Int) := by omega
            have hbz : (0 : Int) ≤ (b : Int) := by omega
            have hal : (a : Int) < (n : Int) := by omega
            have hbl : (b : Int) < (n : Int) := by omega
            have HW1 := Lib.hid HW.out.drew
            clear P1 P2 c4 HW hk1 hkl hk10 hkt
            go_upto_region 17 with fail
            refine wp_region_noPanic ?_
            refine wp_region_held_drew (S := fun X : World => Below Wb.heap.size Wb X) (by kernel_rfl) HW1.out.drew (fun hHeld => ?_)
            refine wpAnyH_take (i := 0) (v := ?_) rfl (by kernel_rfl) (by kernel_rfl) (by kernel_rfl) (fun _ _ _ h => h) (Or.inl ⟨by rfl, ?ytk10⟩) (by assumption) ?_
            case ytk10 => (intro w hSw; (try dsimp only at hSw); go_simp <;> with_reducible rfl)
            try simp only [List.getElem_toArray, List.getElem_cons_succ, List.getElem_cons_zero, Act.put, List.setIfInBounds_toArray, List.set_cons_zero, List.set_cons_succ]
            refine wpAnyH_take (i := 1) (v := ?_) rfl (by kernel_rfl) (by kernel_rfl) (by kernel_rfl) (fun _ _ _ h => h) (Or.inl ⟨by rfl, ?ytk11⟩) (by assumption) ?_
            case ytk11 => (intro w hSw; (try dsimp only at hSw); go_simp <;> with_reducible rfl)
            try simp only [List.getElem_toArray, List.getElem_cons_succ, List.getElem_cons_zero, Act.put, List.setIfInBounds_toArray, List.set_cons_zero, List.set_cons_succ]
            refine wpAnyH_take (i := 2) (v := ?_) rfl (by kernel_rfl) (by kernel_rfl) (by kernel_rfl) (fun _ _ _ h => h) (Or.inl ⟨by rfl, ?ytk12⟩) (by assumption) ?_
            case ytk12 => (intro w hSw; (try dsimp only at hSw); go_simp <;> with_reducible rfl)
            try simp only [List.getElem_toArray, List.getElem_cons_succ, List.getElem_cons_zero, Act.put, List.setIfInBounds_toArray, List.set_cons_zero, List.set_cons_succ]
            refine wpAnyH_take (i := 3) (v := ?_) rfl (by kernel_rfl) (by kernel_rfl) (by kernel_rfl) (fun _ _ _ h => h) (Or.inl ⟨by rfl, ?ytk13⟩) (by assumption) ?_
            case ytk13 => (intro w hSw; (try dsimp only at hSw); have q0 := za w hSw; go_simp <;> with_reducible rfl)
            try simp only [List.getElem_toArray, List.getElem_cons_succ, List.getElem_cons_zero, Act.put, List.setIfInBounds_toArray, List.set_cons_zero, List.set_cons_succ]
            refine wpAnyH_take (i := 5) (v := ?_) rfl (by kernel_rfl) (by kernel_rfl) (by kernel_rfl) (fun _ _ _ h => h) (Or.inl ⟨by rfl, ?ytk14⟩) (by assumption) ?_
            case ytk14 => (intro w hSw; (try dsimp only at hSw); go_simp <;> with_reducible rfl)
            try simp only [List.getElem_toArray, List.getElem_cons_succ, List.getElem_cons_zero, Act.put, List.setIfInBounds_toArray, List.set_cons_zero, List.set_cons_succ]
            refine wpAnyH_take (i := 6) (v := ?_) rfl (by kernel_rfl) (by kernel_rfl) (by kernel_rfl) (fun _ _ _ h => h) (Or.inl ⟨by rfl, ?ytk15⟩) (by assumption) ?_
            case ytk15 => (intro w hSw; (try dsimp only at hSw); go_simp <;> with_reducible rfl)
            try simp only [List.getElem_toArray, List.getElem_cons_succ, List.getElem_cons_zero, Act.put, List.setIfInBounds_toArray, List.set_cons_zero, List.set_cons_succ]
            refine wpAnyH_take (i := 7) (v := ?_) rfl (by kernel_rfl) (by kernel_rfl) (by kernel_rfl) (fun _ _ _ h => h) (Or.inl ⟨by rfl, ?ytk16⟩) (by assumption) ?_
            case ytk16 => (intro w hSw; (try dsimp only at hSw); go_simp <;> with_reducible rfl)
            try simp only [List.getElem_toArray, List.getElem_cons_succ, List.getElem_cons_zero, Act.put, List.setIfInBounds_toArray, List.set_cons_zero, List.set_cons_succ]
            refine wpAnyH_take (i := 8) (v := ?_) rfl (by kernel_rfl) (by kernel_rfl) (by kernel_rfl) (fun _ _ _ h => h) (Or.inl ⟨by rfl, ?ytk17⟩) (by assumption) ?_
            case ytk17 => (intro w hSw; (try dsimp only at hSw); have q0 := zb w hSw; go_simp <;> with_reducible rfl)
            try simp only [List.getElem_toArray, List.getElem_cons_succ, List.getElem_cons_zero, Act.put, List.setIfInBounds_toArray, List.set_cons_zero, List.set_cons_succ]
            refine wpAnyH_ready (rs := [4]) (by kernel_rfl) (by simp) ?_
            refine AllReadyH.cons rfl (fun Kc hK => ?_) (AllReadyH.nil)
            go_simp
            refine (HM.out _ _).mono ?_
            rintro e4 w4 ⟨rfl, rfl⟩
            refine hK.out _ _ (HW1.out.drew) (fun hHeld => ?_)
            clear hK Kc
            try simp only [List.getElem_toArray, List.getElem_cons_succ, List.getElem_cons_zero, Act.put, List.setIfInBounds_toArray, List.set_cons_zero, List.set_cons_succ]
            refine wpAnyH_ready (rs := [9]) (by kernel_rfl) (by simp) ?_
            refine AllReadyH.cons rfl (fun Kc hK => ?_) (AllReadyH.nil)
            go_simp
            refine (HM.out _ _).mono ?_
            rintro e5 w5 ⟨rfl, rfl⟩
            refine hK.out _ _ (HW1.out.drew) (fun hHeld => ?_)
            clear hK Kc
            try simp only [List.getElem_toArray, List.getElem_cons_succ, List.getElem_cons_zero, Act.put, List.setIfInBounds_toArray, List.set_cons_zero, List.set_cons_succ]
            refine wpAnyH_take (i := 10) (v := ?_) rfl (by kernel_rfl) (by kernel_rfl) (by kernel_rfl) (fun _ _ _ h => h) (Or.inl ⟨by rfl, ?ytk18⟩) (by assumption) ?_
            case ytk18 => (intro w hSw; (try dsimp only at hSw); go_simp <;> with_reducible rfl)
            try simp only [List.getElem_toArray, List.getElem_cons_succ, List.getElem_cons_zero, Act.put, List.setIfInBounds_toArray, List.set_cons_zero, List.set_cons_succ]
            refine wpAnyH_take (i := 11) (v := ?_) rfl (by kernel_rfl) (by kernel_rfl) (by kernel_rfl) (fun _ _ _ h => h) (Or.inl ⟨by rfl, ?ytk19⟩) (by assumption) ?_
            case ytk19 => (intro w hSw; (try dsimp only at hSw); go_simp <;> with_reducible rfl)
            try simp only [List.getElem_toArray, List.getElem_cons_succ, List.getElem_cons_zero, Act.put, List.setIfInBounds_toArray, List.set_cons_zero, List.set_cons_succ]
            refine wpAnyH_done (by kernel_rfl) ?_ _
            refine NoPanic.normal ?_
            clear hHeld
            have HW2 := Lib.hid HW1.out.drew
            generalize wr.drew.drew = W9 at HW2 ⊢
            clear HW1 za zb hza hzb
            rcases hord with ho | ⟨ho, ho2⟩
            · have ho1 : ¬ (y % 4 < x % 4) := by omega
              have ho3 : ¬ (x % 4 = y % 4) := by omega
              have ho4 : (x % 4 == y % 4) = false := by simpa using ho3
              go_wp2_with fail
              go_roundg (n - (k + 1))
              case measure => omega
              case rel => exact ⟨k + 1, by first | rfl | go_num, .inl (by omega), Nat.le_refl _, HW2⟩
            · have ho1 : ¬ (y % 4 < x % 4) := by omega
              have ho4 : (x % 4 == y % 4) = true := by simpa using ho
              have ho3 : ¬ ((b : Int) ≤ (a : Int)) := by omega
              go_wp2_with fail
              go_roundg (n - (k + 1))
              case measure => omega
              case rel => exact ⟨k + 1, by first | rfl | go_num, .inl (by omega), Nat.le_refl _, HW2⟩
          · have hil : ¬ ((k : Int) + 1 < (n : Int)) := by omega
            go_wp2_with fail
            refine (HAW.out _).mono ?_
            rintro e9 w9 ⟨rfl, h9⟩
            have hfin := HBW.out _ (HW.out.trans (h9.mono HW.out.size))
            clear h9
            go_wp2_with fail
            go_ret
            exact ⟨rfl, hfin⟩
end Go.Proofs.Ytnokmlclephjgaa

/- The sanity check of law 9. -/
import Derived.Test.YtnokmlclephjgaaTC
set_option linter.unusedVariables false
set_option linter.unusedSimpArgs false
namespace Go.Proofs.Ytnokmlclephjgaa
open Go.RowKit
theorem rs_boxV {w : World} {g : Nat} {t : TypeId} {cs : List Value} {S : Nat → Prop} (h : Box w g t cs.toArray) (hg : S g) : Rs w S (some ⟨g, 0, none⟩) cs := fun j u hj => ⟨g, 0, rfl, hg, by rw [Nat.zero_add]; exact h.cell (by simpa using hj)⟩
/-- The cells of a number. -/
def numC (z : Int) : List Value := [.int .i64 3, .int .i64 z, .string ⟨#[]⟩, .slice none 0 0, .slice none 0 0]
theorem numsL (w : World) (S : Nat → Prop) : ∀ zs : List Int, LiesL w S (zs.map numV) (zs.flatMap numC)
  | [] => by rw [List.map_nil, LiesL]; rfl
  | z :: zs => by rw [List.map_cons, LiesL]; exact ⟨numC z, _, rfl, lies_numv _ _ z, numsL w S zs⟩
theorem nums_slice {w : World} {g n : Nat} {zs : List Int} (h : Box w g 27 (zs.flatMap numC).toArray) (hn : zs.length = n) (hl : n ≤ 1000000) : SliceV w (some ⟨g, 0, none⟩) n (zs.map numV) (zs.flatMap numC) :=
  ⟨⟨rs_boxV h h.lt, numsL _ _ zs⟩, (fun h => by cases h), by rw [List.length_map]; omega, by unfold maxLen; omega, by rw [List.length_map]; omega⟩
theorem nums_lies {w : World} {g n : Nat} {zs : List Int} (h : Box w g 27 (zs.flatMap numC).toArray) (hn : zs.length = n) (hl : n ≤ 1000000) : Lies w (· < w.heap.size) (arrV (zs.map numV)) [.int .i64 5, .int .i64 0, .string ⟨#[]⟩, .slice none 0 0, .slice (some ⟨g, 0, none⟩) n n] := by
  have := (nums_slice h hn hl).lies
  rw [List.length_map, hn] at this
  exact this
theorem ord9 : Ix.ordL [numV 1, numV 0, numV 1] = [1, 0, 2] := by decide +kernel
theorem grp9 : groupV [numV 3, numV 1, numV 2] [numV 1, numV 0, numV 1] = [arrV [numV 1], arrV [numV 3, numV 2]] := by
  have h : grpF [numV 1, numV 0, numV 1] [1, 0, 2] 3 = [[1], [0, 2]] := by decide +kernel
  unfold groupV
  rw [ord9]
  show List.map _ (grpF [numV 1, numV 0, numV 1] [1, 0, 2] 3) = _
  rw [h]
  rfl
def gV9 : V := arrV [arrV [numV 1], arrV [numV 3, numV 2]]
theorem tab9 : tabR (groupV [numV 3, numV 1, numV 2] [numV 1, numV 0, numV 1]) = gV9 ∧ tabE (groupV [numV 3, numV 1, numV 2] [numV 1, numV 0, numV 1]) = 0 := by
  rw [grp9]
  unfold tabR tabE gV9
  have h1 : arrE [arrV [numV 1], arrV [numV 3, numV 2]] = 0 := by decide +kernel
  have h2 : arrR [arrV [numV 1], arrV [numV 3, numV 2]] = arrV [arrV [numV 1], arrV [numV 3, numV 2]] := by
    unfold arrR finV
    rw [if_pos (by decide +kernel), if_pos (by decide +kernel)]
  rw [if_pos h1, if_pos h1, h2]
  exact ⟨rfl, rfl⟩
set_option maxHeartbeats 1000000 in
set_option maxRecDepth 100000 in
theorem lnum_any (n : Int) (w : World) : Calls Try.prog 6 #[.int .i64 n] w fun e w' => e = .returned (.agg #[.int .i64 3, .int .i64 n, .string ⟨#[]⟩, .slice none 0 0, .slice none 0 0]) ∧ Below w.heap.size w w' := by
  go_enter Try.func6, Try.ntmps6
  go_wp2_with fail
  refine bodyPost_ret (v := .agg #[.int .i64 3, .int .i64 n, .string ⟨#[]⟩, .slice none 0 0, .slice none 0 0]) (by simp [results, Try.results6, go_sem]) rfl ⟨rfl, ?_⟩
  exact (Below.refl _ _).alloc (Nat.le_refl _) _
set_option maxHeartbeats 1000000 in
set_option maxRecDepth 100000 in
theorem llist_any (A : Option Addr) (n c : Nat) (w : World) : Calls Try.prog 9 #[.slice A n c] w fun e w' => e = .returned (.agg #[.int .i64 5, .int .i64 0, .string ⟨#[]⟩, .slice none 0 0, .slice A n c]) ∧ Below w.heap.size w w' := by
  go_enter Try.func9, Try.ntmps9
  go_wp2_with fail
  refine bodyPost_ret (v := .agg #[.int .i64 5, .int .i64 0, .string ⟨#[]⟩, .slice none 0 0, .slice A n c]) (by simp [results, Try.results9, go_sem]) rfl ⟨rfl, ?_⟩
  exact (Below.refl _ _).alloc (Nat.le_refl _) _
/-- GroupBy of the example. -/
theorem gb9 {w : World} {g1 g2 : Nat} (h1 : Box w g1 27 (([3, 1, 2] : List Int).flatMap numC).toArray) (h2 : Box w g2 27 (([1, 0, 1] : List Int).flatMap numC).toArray) :
    Calls Try.prog 14 #[.agg #[.int .i64 5, .int .i64 0, .string ⟨#[]⟩, .slice none 0 0, .slice (some ⟨g1, 0, none⟩) 3 3], .agg #[.int .i64 5, .int .i64 0, .string ⟨#[]⟩, .slice none 0 0, .slice (some ⟨g2, 0, none⟩) 3 3]] w (RetPost gV9 0 w) := by
  have l1 := nums_lies (n := 3) h1 rfl (by decide)
  have l2 := nums_lies (n := 3) h2 rfl (by decide)
  have h := groupBy_any (es := [numV 3, numV 1, numV 2]) (K := [numV 1, numV 0, numV 1]) l1 l2 (by decide +kernel) (by decide +kernel) (by decide +kernel) rfl (by decide)
  rw [tab9.1, tab9.2] at h
  exact h
theorem gL9 {w : World} {g gA gB : Nat} (h : Box w g 27 #[.int .i64 5, .int .i64 0, .string ⟨#[]⟩, .slice none 0 0, .slice (some ⟨gA, 0, none⟩) 1 1, .int .i64 5, .int .i64 0, .string ⟨#[]⟩, .slice none 0 0, .slice (some ⟨gB, 0, none⟩) 2 2])
    (hA : Box w gA 27 (([1] : List Int).flatMap numC).toArray) (hB : Box w gB 27 (([3, 2] : List Int).flatMap numC).toArray) :
    Lies w (· < w.heap.size) gV9 [.int .i64 5, .int .i64 0, .string ⟨#[]⟩, .slice none 0 0, .slice (some ⟨g, 0, none⟩) 2 2] := by
  have lA := nums_lies (n := 1) hA rfl (by decide)
  have lB := nums_lies (n := 2) hB rfl (by decide)
  have hs : SliceV w (some ⟨g, 0, none⟩) 2 [arrV [numV 1], arrV [numV 3, numV 2]] ([.int .i64 5, .int .i64 0, .string ⟨#[]⟩, .slice none 0 0, .slice (some ⟨gA, 0, none⟩) 1 1] ++ ([.int .i64 5, .int .i64 0, .string ⟨#[]⟩, .slice none 0 0, .slice (some ⟨gB, 0, none⟩) 2 2] ++ [])) :=
    ⟨⟨rs_boxV (cs := [.int .i64 5, .int .i64 0, .string ⟨#[]⟩, .slice none 0 0, .slice (some ⟨gA, 0, none⟩) 1 1, .int .i64 5, .int .i64 0, .string ⟨#[]⟩, .slice none 0 0, .slice (some ⟨gB, 0, none⟩) 2 2]) h h.lt, by
      rw [LiesL]; refine ⟨_, _, rfl, lA, ?_⟩
      rw [LiesL]; refine ⟨_, _, rfl, lB, ?_⟩
      rw [LiesL]⟩, (fun h => by cases h), by decide, by decide, by decide⟩
  exact hs.lies
set_option maxHeartbeats 4000000 in
set_option maxRecDepth 100000 in
theorem awake9_any (w : World) : Calls Try.prog 5 #[] w fun e w' => e = .returned (.bool true) ∧ Below w.heap.size w w' := by
  have HN := Lib.hid (fun (n : Int) W => lnum_any n W)
  have HL := Lib.hid (fun (A : Option Addr) (n c : Nat) W => llist_any A n c W)
  go_enter Try.func5, Try.ntmps5
  go_wp2_with fail
  refine (HN.out _ _).mono ?_
  rintro e1 w1 ⟨rfl, hb1⟩
  go_wp2_with fail
  refine (HN.out _ _).mono ?_
  rintro e2 w2 ⟨rfl, hb2⟩
  go_wp2_with fail
  refine (HN.out _ _).mono ?_
  rintro e3 w3 ⟨rfl, hb3⟩
  have HB3 : Hid (Below w.heap.size w w3) := Lib.hid (chain hb1 (chain hb2 hb3))
  clear hb1 hb2 hb3
  have HX3 := Lib.hid (Box.laid w3 27 (([3, 1, 2] : List Int).flatMap numC).toArray)
  go_wp2_with fail
  refine (HL.out _ _ _ _).mono ?_
  rintro e4 w4 ⟨rfl, hb4⟩
  have HB4 : Hid (Below w.heap.size w w4) := Lib.hid (chain HB3.out (chain (below1 _ _) hb4))
  have HX4 : Hid (Box w4 w3.heap.size 27 (([3, 1, 2] : List Int).flatMap numC).toArray) := Lib.hid (HX3.out.below hb4 HX3.out.lt)
  clear hb4 HX3 HB3
  go_wp2_with fail
  refine (HN.out _ _).mono ?_
  rintro e5 w5 ⟨rfl, hb5⟩
  go_wp2_with fail
  refine (HN.out _ _).mono ?_
  rintro e6 w6 ⟨rfl, hb6⟩
  go_wp2_with fail
  refine (HN.out _ _).mono ?_
  rintro e7 w7 ⟨rfl, hb7⟩
  have HB7 : Hid (Below w.heap.size w w7) := Lib.hid (chain HB4.out (chain hb5 (chain hb6 hb7)))
  have HX7 : Hid (Box w7 w3.heap.size 27 (([3, 1, 2] : List Int).flatMap numC).toArray) := Lib.hid (HX4.out.below (chain hb5 (chain hb6 hb7)) HX4.out.lt)
  clear hb5 hb6 hb7 HX4 HB4
  have HY7 := Lib.hid (Box.laid w7 27 (([1, 0, 1] : List Int).flatMap numC).toArray)
  go_wp2_with fail
  refine (HL.out _ _ _ _).mono ?_
  rintro e8 w8 ⟨rfl, hb8⟩
  have HB8 : Hid (Below w.heap.size w w8) := Lib.hid (chain HB7.out (chain (below1 _ _) hb8))
  have HG := Lib.hid (gb9 ((HX7.out.below (below1 _ _) HX7.out.lt).below hb8 (HX7.out.below (below1 _ _) HX7.out.lt).lt) (HY7.out.below hb8 HY7.out.lt))
  clear hb8 HX7 HY7 HB7
  go_wp2_with fail
  refine HG.out.mono ?_
  rintro e9 w9 ⟨hb9, ds, rfl, hl9⟩
  have HB9 : Hid (Below w.heap.size w w9) := Lib.hid (chain HB8.out hb9)
  have hl9' : Lies w9 (· < w9.heap.size) gV9 ds := hl9.move fun b hb => ⟨hb.2, rfl⟩
  have hl9'' := hl9'
  unfold gV9 arrV at hl9''
  obtain ⟨A9, a9, B9, b9, xs9, rfl, -⟩ := lies_open hl9''
  have HL9 := Lib.hid hl9'
  clear hb9 hl9 hl9' hl9'' HG HB8
  simp only [List.length_nil, List.length_cons, Nat.zero_add, Nat.reduceAdd] at HL9 ⊢
  have HBX : Hid (Below w9.heap.size w9 (w9.alloc (.cells #[.int .i64 5, .int .i64 0, .string ⟨#[]⟩, .slice A9 0 a9, .slice B9 2 b9] 27))) := Lib.hid (below1 _ _)
  have HC := Lib.hid (Box.laid w9 27 #[.int .i64 5, .int .i64 0, .string ⟨#[]⟩, .slice A9 0 a9, .slice B9 2 b9])
  go_upto_region 2 with fail
  generalize (w9.alloc (.cells #[.int .i64 5, .int .i64 0, .string ⟨#[]⟩, .slice A9 0 a9, .slice B9 2 b9] 27)) = W0 at HC HBX ⊢
  have hlt0 := HC.out.lt
  obtain ⟨c0, c1, c2, c3, c4⟩ := box5 HC.out
  have HS := Lib.hid (fun (u v : V) cs ds W h1 h2 => same_any u v cs ds W h1 h2)
  refine wp_region_noPanic ?_
  refine wp_region_held_drew (S := fun X : World => Below W0.heap.size W0 X) (by kernel_rfl) (Below.refl _ _).drew (fun hHeld => ?_)
  refine wpAnyH_take (i := 0) (v := ?_) rfl (by kernel_rfl) (by kernel_rfl) (by kernel_rfl) (fun _ _ _ h => h) (Or.inl ⟨by rfl, ?ytk1⟩) (by assumption) ?_
  case ytk1 => (intro w hSw; (try dsimp only at hSw); go_simp <;> with_reducible rfl)
  try simp only [List.getElem_toArray, List.getElem_cons_succ, List.getElem_cons_zero, Act.put, List.setIfInBounds_toArray, List.set_cons_zero, List.set_cons_succ]
  refine wpAnyH_take (i := 1) (v := ?_) rfl (by kernel_rfl) (by kernel_rfl) (by kernel_rfl) (fun _ _ _ h => h) (Or.inl ⟨by rfl, ?ytk2⟩) (by assumption) ?_
  case ytk2 => (intro w hSw; (try dsimp only at hSw); go_simp <;> with_reducible rfl)
  try simp only [List.getElem_toArray, List.getElem_cons_succ, List.getElem_cons_zero, Act.put, List.setIfInBounds_toArray, List.set_cons_zero, List.set_cons_succ]
  refine wpAnyH_take (i := 2) (v := ?_) rfl (by kernel_rfl) (by kernel_rfl) (by kernel_rfl) (fun _ _ _ h => h) (Or.inl ⟨by rfl, ?ytk3⟩) (by assumption) ?_
  case ytk3 => (intro w hSw; (try dsimp only at hSw); go_simp <;> with_reducible rfl)
  try simp only [List.getElem_toArray, List.getElem_cons_succ, List.getElem_cons_zero, Act.put, List.setIfInBounds_toArray, List.set_cons_zero, List.set_cons_succ]
  refine wpAnyH_take (i := 3) (v := ?_) rfl (by kernel_rfl) (by kernel_rfl) (by kernel_rfl) (fun _ _ _ h => h) (Or.inl ⟨by rfl, ?ytk4⟩) (by assumption) ?_
  case ytk4 => (intro w hSw; (try dsimp only at hSw); have q0 := (hSw.cell (p := ⟨w9.heap.size, 0, none⟩) hlt0).trans c0; have q1 := (hSw.cell (p := ⟨w9.heap.size, 1, none⟩) hlt0).trans c1; have q2 := (hSw.cell (p := ⟨w9.heap.size, 2, none⟩) hlt0).trans c2; have q3 := (hSw.cell (p := ⟨w9.heap.size, 3, none⟩) hlt0).trans c3; have q4 := (hSw.cell (p := ⟨w9.heap.size, 4, none⟩) hlt0).trans c4; go_simp <;> with_reducible rfl)
  try simp only [List.getElem_toArray, List.getElem_cons_succ, List.getElem_cons_zero, Act.put, List.setIfInBounds_toArray, List.set_cons_zero, List.set_cons_succ]
  refine wpAnyH_ready (rs := [4]) (by kernel_rfl) (by simp) ?_
  refine AllReadyH.cons rfl (fun Kc hK => ?_) (AllReadyH.nil)
  go_simp
  refine (HN.out _ _).mono ?_
  rintro ewa wa ⟨rfl, hwa⟩
  have Hwa : Hid (Below W0.heap.size W0 wa) := Lib.hid (below_of_drew hwa)
  refine hK.out _ _ (Hwa.out) (fun hHeld => ?_)
  clear hK Kc
  try simp only [List.getElem_toArray, List.getElem_cons_succ, List.getElem_cons_zero, Act.put, List.setIfInBounds_toArray, List.set_cons_zero, List.set_cons_succ]
  refine wpAnyH_ready (rs := [5]) (by kernel_rfl) (by simp) ?_
  refine AllReadyH.cons rfl (fun Kc hK => ?_) (AllReadyH.nil)
  go_simp
  refine hK.out _ _ (chain Hwa.out (below1 _ _)) (fun hHeld => ?_)
  clear hK Kc
  try simp only [List.getElem_toArray, List.getElem_cons_succ, List.getElem_cons_zero, Act.put, List.setIfInBounds_toArray, List.set_cons_zero, List.set_cons_succ]
  have HXA := Lib.hid (Box.laid wa 27 (([1] : List Int).flatMap numC).toArray)
  refine wpAnyH_ready (rs := [6]) (by kernel_rfl) (by simp) ?_
  refine AllReadyH.cons rfl (fun Kc hK => ?_) (AllReadyH.nil)
  go_simp
  refine (HL.out _ _ _ _).mono ?_
  rintro ewb wb ⟨rfl, hwb⟩
  have Hwb : Hid (Below W0.heap.size W0 wb) := Lib.hid (chain (chain Hwa.out (below1 _ _)) hwb)
  have HXAb : Hid (Box wb wa.heap.size 27 (([1] : List Int).flatMap numC).toArray) := Lib.hid (HXA.out.below hwb HXA.out.lt)
  refine hK.out _ _ (Hwb.out) (fun hHeld => ?_)
  clear hK Kc
  try simp only [List.getElem_toArray, List.getElem_cons_succ, List.getElem_cons_zero, Act.put, List.setIfInBounds_toArray, List.set_cons_zero, List.set_cons_succ]
  refine wpAnyH_ready (rs := [7]) (by kernel_rfl) (by simp) ?_
  refine AllReadyH.cons rfl (fun Kc hK => ?_) (AllReadyH.nil)
  go_simp
  refine (HN.out _ _).mono ?_
  rintro ewc wc ⟨rfl, hwc⟩
  have Hwc : Hid (Below W0.heap.size W0 wc) := Lib.hid (chain (Hwb.out) hwc)
  refine hK.out _ _ (Hwc.out) (fun hHeld => ?_)
  clear hK Kc
  try simp only [List.getElem_toArray, List.getElem_cons_succ, List.getElem_cons_zero, Act.put, List.setIfInBounds_toArray, List.set_cons_zero, List.set_cons_succ]
  refine wpAnyH_ready (rs := [8]) (by kernel_rfl) (by simp) ?_
  refine AllReadyH.cons rfl (fun Kc hK => ?_) (AllReadyH.nil)
  go_simp
  refine (HN.out _ _).mono ?_
  rintro ewd wd ⟨rfl, hwd⟩
  have Hwd : Hid (Below W0.heap.size W0 wd) := Lib.hid (chain (Hwc.out) hwd)
  have HXAd : Hid (Box wd wa.heap.size 27 (([1] : List Int).flatMap numC).toArray) := Lib.hid (HXAb.out.below (chain hwc hwd) HXAb.out.lt)
  refine hK.out _ _ (Hwd.out) (fun hHeld => ?_)
  clear hK Kc
  try simp only [List.getElem_toArray, List.getElem_cons_succ, List.getElem_cons_zero, Act.put, List.setIfInBounds_toArray, List.set_cons_zero, List.set_cons_succ]
  refine wpAnyH_ready (rs := [9]) (by kernel_rfl) (by simp) ?_
  refine AllReadyH.cons rfl (fun Kc hK => ?_) (AllReadyH.nil)
  go_simp
  refine hK.out _ _ (chain Hwd.out (below1 _ _)) (fun hHeld => ?_)
  clear hK Kc
  try simp only [List.getElem_toArray, List.getElem_cons_succ, List.getElem_cons_zero, Act.put, List.setIfInBounds_toArray, List.set_cons_zero, List.set_cons_succ]
  have HXB := Lib.hid (Box.laid wd 27 (([3, 2] : List Int).flatMap numC).toArray)
  refine wpAnyH_ready (rs := [10]) (by kernel_rfl) (by simp) ?_
  refine AllReadyH.cons rfl (fun Kc hK => ?_) (AllReadyH.nil)
  go_simp
  refine (HL.out _ _ _ _).mono ?_
  rintro ewe we ⟨rfl, hwe⟩
  have Hwe : Hid (Below W0.heap.size W0 we) := Lib.hid (chain (chain Hwd.out (below1 _ _)) hwe)
  have HXAe : Hid (Box we wa.heap.size 27 (([1] : List Int).flatMap numC).toArray) := Lib.hid ((HXAd.out.below (below1 _ _) HXAd.out.lt).below hwe (HXAd.out.below (below1 _ _) HXAd.out.lt).lt)
  have HXBe : Hid (Box we wd.heap.size 27 (([3, 2] : List Int).flatMap numC).toArray) := Lib.hid (HXB.out.below hwe HXB.out.lt)
  refine hK.out _ _ (Hwe.out) (fun hHeld => ?_)
  clear hK Kc
  try simp only [List.getElem_toArray, List.getElem_cons_succ, List.getElem_cons_zero, Act.put, List.setIfInBounds_toArray, List.set_cons_zero, List.set_cons_succ]
  refine wpAnyH_ready (rs := [11]) (by kernel_rfl) (by simp) ?_
  refine AllReadyH.cons rfl (fun Kc hK => ?_) (AllReadyH.nil)
  go_simp
  refine hK.out _ _ (chain Hwe.out (below1 _ _)) (fun hHeld => ?_)
  clear hK Kc
  try simp only [List.getElem_toArray, List.getElem_cons_succ, List.getElem_cons_zero, Act.put, List.setIfInBounds_toArray, List.set_cons_zero, List.set_cons_succ]
  have HXG := Lib.hid (Box.laid we 27 #[.int .i64 5, .int .i64 0, .string ⟨#[]⟩, .slice none 0 0, .slice (some ⟨wa.heap.size, 0, none⟩) 1 1, .int .i64 5, .int .i64 0, .string ⟨#[]⟩, .slice none 0 0, .slice (some ⟨wd.heap.size, 0, none⟩) 2 2])
  refine wpAnyH_ready (rs := [12]) (by kernel_rfl) (by simp) ?_
  refine AllReadyH.cons rfl (fun Kc hK => ?_) (AllReadyH.nil)
  go_simp
  refine (HL.out _ _ _ _).mono ?_
  rintro ewf wf ⟨rfl, hwf⟩
  have Hwf : Hid (Below W0.heap.size W0 wf) := Lib.hid (chain (chain Hwe.out (below1 _ _)) hwf)
  have hG : Lies wf (· < wf.heap.size) gV9 _ := gL9 (HXG.out.below hwf HXG.out.lt) ((HXAe.out.below (below1 _ _) HXAe.out.lt).below hwf (HXAe.out.below (below1 _ _) HXAe.out.lt).lt) ((HXBe.out.below (below1 _ _) HXBe.out.lt).below hwf (HXBe.out.below (below1 _ _) HXBe.out.lt).lt)
  have HSM := Lib.hid (HS.out gV9 gV9 _ _ wf (below_lies (chain HBX.out Hwf.out) HL9.out) hG)
  rw [(same_iff gV9 gV9).2 rfl] at HSM
  refine hK.out _ _ (Hwf.out) (fun hHeld => ?_)
  clear hK Kc
  try simp only [List.getElem_toArray, List.getElem_cons_succ, List.getElem_cons_zero, Act.put, List.setIfInBounds_toArray, List.set_cons_zero, List.set_cons_succ]
  refine wpAnyH_ready (rs := [13]) (by kernel_rfl) (by simp) ?_
  refine AllReadyH.cons rfl (fun Kc hK => ?_) (AllReadyH.nil)
  go_simp
  refine (HSM.out).mono ?_
  rintro ewg wg ⟨rfl, hwg⟩
  have Hwg : Hid (Below W0.heap.size W0 wg) := Lib.hid (chain (Hwf.out) hwg)
  refine hK.out _ _ (Hwg.out) (fun hHeld => ?_)
  clear hK Kc
  try simp only [List.getElem_toArray, List.getElem_cons_succ, List.getElem_cons_zero, Act.put, List.setIfInBounds_toArray, List.set_cons_zero, List.set_cons_succ]
  refine wpAnyH_take (i := 14) (v := ?_) rfl (by kernel_rfl) (by kernel_rfl) (by kernel_rfl) (fun _ _ _ h => h) (Or.inl ⟨by rfl, ?ytk5⟩) (by assumption) ?_
  case ytk5 => (intro w hSw; (try dsimp only at hSw); go_simp <;> with_reducible rfl)
  try simp only [List.getElem_toArray, List.getElem_cons_succ, List.getElem_cons_zero, Act.put, List.setIfInBounds_toArray, List.set_cons_zero, List.set_cons_succ]
  refine wpAnyH_take (i := 15) (v := ?_) rfl (by kernel_rfl) (by kernel_rfl) (by kernel_rfl) (fun _ _ _ h => h) (Or.inl ⟨by rfl, ?ytk6⟩) (by assumption) ?_
  case ytk6 => (intro w hSw; (try dsimp only at hSw); go_simp <;> with_reducible rfl)
  try simp only [List.getElem_toArray, List.getElem_cons_succ, List.getElem_cons_zero, Act.put, List.setIfInBounds_toArray, List.set_cons_zero, List.set_cons_succ]
  refine wpAnyH_done (by kernel_rfl) ?_ _
  refine NoPanic.normal ?_
  clear hHeld
  go_wp2_with fail
  go_ret
  exact ⟨rfl, chain HB9.out (chain HBX.out Hwg.out)⟩
end Go.Proofs.Ytnokmlclephjgaa

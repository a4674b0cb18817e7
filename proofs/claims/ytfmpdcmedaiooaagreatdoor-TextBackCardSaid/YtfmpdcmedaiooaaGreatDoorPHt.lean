/- TextBack answers true for every string and every value, which read behind the call as they read before. Condition: the listed package-level variables hold what the program text lays in them. -/
import Derived.Test.YtfmpdcmedaiooaaGreatDoorHw
import Derived.Test.YtfmpdcmedaiooaaGreatDoorHr
import Derived.Test.YtfmpdcmedaiooaaGreatDoorU45
import Derived.Test.YtfmpdcmedaiooaaGreatDoorU36
import Derived.Test.YtfmpdcmedaiooaaGreatDoorCards
import Derived.Test.YtfmpdcmedaiooaaGreatDoorTie
import Derived.SizedLaws
import Derived.Stop.Joined
import Derived.SevenTiedAt
import Derived.Lay
import Derived.LaidMore
import Derived.LaidLaws
import Derived.Stop.LaidErr
set_option linter.unusedVariables false
set_option linter.unusedSimpArgs false
namespace Go.Proofs.YtfmpdcmedaiooaaGreatDoor
open Go.ChangeShapes Go.WideShapes Go.ChangeAt Go.RowKit Go.ChangeMaps
theorem own_knob : ownKnob Tryz.prog.godebug = none := by kernel_rfl
theorem err_inH {W : World} (h : laidMet Tryz.prog Rows.textBackRow.laid W) : ErrIn W := by
  have hL : laidMet Tryz.prog (_ :: _ :: _ :: _ :: _ :: _ :: _ :: []) W := h
  obtain ⟨a, s, hv, -, -, -⟩ := laid_sentinel (g := 5) (ti := 120) (tp := 248) hL.tail.tail.tail.tail (by kernel_rfl) (by kernel_rfl) Tryz.underlying120
    (fun u hu => typeName_ptr_named (nm := "errors.errorString") (by kernel_rfl) (by kernel_rfl) (by decide) u (by refine hu.trans ?_; decide)) Tryz.underlying248 Tryz.underlying250 rfl rfl Tryz.underlying9 (by kernel_rfl) (by kernel_rfl)
  have h0 := World.var?_cell (g := 5) (by kernel_rfl) hv 0
  exact ⟨_, _, by simpa using h0⟩
set_option maxRecDepth 100000 in
theorem tab_inH {W : World} (h : laidMet Tryz.prog Rows.textBackRow.laid W) : TabS W := by
  have h2 : laidMet Tryz.prog (_ :: ("math/bits.deBruijn64tab", Lib.tabData .u8 (Lib.deBruijn64tab.map Int.ofNat)) :: ("internal/strconv.uint64pow10", Lib.tabData .u64 Lib.pow10Tab) :: _ :: _ :: _ :: _ :: []) W := h
  have hp := Lib.tabIs_of_head (g := 3) (t := 209) (e := 152) (n := 20) (by kernel_rfl) (by kernel_rfl) Tryz.underlying209 Tryz.underlying152 (by kernel_rfl) (by kernel_rfl) h2.tail.tail
  have hz := Lib.tabIs_of_head (g := 7) (t := 247) (e := 5) (n := 64) (by kernel_rfl) (by kernel_rfl) Tryz.underlying247 Tryz.underlying5 (by kernel_rfl) (by kernel_rfl) h2.tail
  refine ⟨hp, fun j hj => ?_⟩
  have h3 := hz.cell (g := 7) (by kernel_rfl) j (by simpa using hj)
  rw [h3]
  congr 2
  simp [List.getD, List.getElem?_eq_getElem hj]
theorem door_met (os : Os) (args : Array Value) : laidMet Tryz.prog Rows.textBackRow.laid ((World.laidAll Tryz.prog os Rows.textBackRow.laid).forCall (fun _ _ => 0) ⟨#[], args, []⟩).memory :=
  laidMet_laidAll _ (by kernel_rfl) (by kernel_rfl)
set_option maxRecDepth 100000 in
theorem textBack_lifted (os : Os) (started : os.Started) (H : Type) (enc : TypeId × Value → H) :
    ReturnsInHanded {} Tryz.checked os 3 .any (fun w args => (Rows.textBackSpec.pre enc Tryz.prog Tryz.f3 Rows.textBackRow.domain false w args ∧ laidMet Tryz.prog Rows.textBackRow.laid w) ∧ sizedMet enc Tryz.prog Tryz.f3 (OpenSpec.ofChange Rows.textBackSpec) false w args)
      (Rows.textBackSpec.post enc Tryz.prog Tryz.f3 false true false false) := by
  refine returnsInHanded_and_shape (C := Tryz.checked) (X := (fun w _ => laidMet Tryz.prog Rows.textBackRow.laid w)) (fun _ _ _ hh h => h.of_heap hh) own_knob started (by kernel_rfl) Tryz.func3
    (ChangeSpec.witness_shaped (enc := enc) (C := Tryz.checked) (os := os) (X := (fun w _ => laidMet Tryz.prog Rows.textBackRow.laid w)) false (World.laidAll Tryz.prog os Rows.textBackRow.laid) #[.string ⟨#[]⟩, .agg #[.int .i64 0, .int .i64 0, .string ⟨#[]⟩, .slice none 0 0, .slice none 0 0]] 8 (World.laidAll_os _ _ _) (World.shaped_of_ZipB (by kernel_rfl) (by kernel_rfl)) (by kernel_rfl) (by kernel_rfl) (by kernel_rfl) (door_met os _)) ?_
  intro W base args ds gs before hval0 hW hsz0 hL hsh
  have hval : ∀ (j : Nat) t v, Tryz.f3.params[j]? = some t → args[j]? = some v → Value.okWide Tryz.prog W .any base t v := hval0
  have hW' : DataW.Whole enc Tryz.prog Tryz.f3.params.toList Rows.textBackSpec.vars false W args.toList ds gs before := hW
  obtain ⟨p, q, hA0, hV, rfl, hfz, hnd⟩ := hW
  have hA : DataW.TrodAll enc Tryz.prog W 0 (fun _ => true) true Tryz.f3.params.toList args.toList ds p := hA0
  have hsz : (DataW.weightsEach Tryz.prog (Tryz.f3.params.toList ++ Rows.textBackSpec.plain.varTypes Tryz.prog) (ds ++ gs)).all (· ≤ reachBytes) = true := hsz0
  rw [Tryz.params3] at hA hval hsz
  obtain ⟨v0, v1, d0, d1, p0, p1, rfl, rfl, rfl, h0, h1⟩ := trodAll_two hA
  obtain ⟨rfl, rfl⟩ := trodVars_none hV
  obtain ⟨s0, rfl, rfl, rfl, ws0⟩ := open_string Tryz.underlying9 (hval 0 9 v0 rfl rfl) h0
  have hz0 : s0.size ≤ 140737488355328 := by
    have h1 := sized_string hsz (j := 0) (t := 9) rfl rfl
    have h2 := reachBytes_lt
    have e1 : s0.size = s0.data.size := rfl
    have e2 : s0.data.toList.length = s0.data.size := Array.length_toList
    have e3 : (2 : Nat) ^ 47 = 140737488355328 := by decide
    omega
  obtain ⟨u1, cs1, rfl, hl1⟩ := open_value_arg (hval 1 25 v1 rfl rfl) h1 (slim_of hsz (j := 1) rfl rfl)
  have hr1 : rng u1 := rng_of h1 (by simpa [Value.cells] using hl1)
  have hE : ErrIn W := err_inH hL
  have hG : TabS W := tab_inH hL
  clear hA0 hval0 hsz0
  refine (textBack_walk s0 u1 cs1 W hl1 hr1 hz0 hG hE).mono fun e W' ⟨he, hB⟩ => ?_
  subst he
  exact ⟨_, rfl, law_post hW' rfl rfl rfl rfl rfl Tryz.underlying4 (by kernel_rfl) (by kernel_rfl) hB⟩
theorem and_i {a b : Bool} (ha : a = true) (hb : b = true) : (a && b) = true := by rw [ha, hb]; rfl
set_option maxHeartbeats 40000000 in
theorem textBack_facts : joinedFacts Tryz.prog 3 Tryz.f3 Rows.textBackSpec Rows.textBackRow = true := by
  unfold joinedFacts
  repeat' (with_reducible refine and_i ?_ ?_)
  all_goals as_aux_lemma => kernel_rfl
theorem textBack_row_holds : Rows.TextBackSaid :=
  OpenClaim.holds_of_wide 3 Tryz.f3 rfl rfl rfl rfl rfl rfl rfl ⟨rfl, rfl, rfl, rfl, rfl⟩ rfl rfl rfl rfl rfl (by kernel_rfl) Tryz.func3 textBack_facts
    (of_decide_eq_true (by kernel_rfl)) (by unfold Func.isWrapper; first | (rw [if_pos (by decide +kernel)]; kernel_rfl) | (rw [if_neg (by decide +kernel)]; exact ⟨rfl, rfl⟩))
    (fun os started H enc _ => textBack_lifted os started H enc)
theorem textBack_holds : Rows.TextBackCardSaid :=
  Claim7.holds_tied_plain_at .later [] [.data, .data, .data, .data, .sentinel, .sentinel, .pinned] true _ true
    textBack_row_holds (fun _ h => by cases h) (by as_aux_lemma => kernel_rfl) (fun _ h => by cases h) textBack_row_tie rfl ⟨rfl, rfl⟩ (by as_aux_lemma => kernel_rfl) rfl
    (fun f fn hf hfn => by
      obtain rfl : f = 3 := (Option.some.inj (Eq.trans (Eq.symm (by as_aux_lemma => kernel_rfl)) hf)).symm
      obtain rfl : fn = Tryz.f3 := (Option.some.inj (Tryz.func3.symm.trans hfn)).symm
      exact ⟨by as_aux_lemma => kernel_rfl, fun j t ht => by
        rw [Tryz.params3] at ht
        have hm : t ∈ [9, 25] := by simpa using Array.mem_of_getElem? ht
        have hall : ([9, 25].all fun u => !Tryz.prog.wantsStandIn u) = true := by kernel_rfl
        exact (show Tryz.prog.wantsStandIn t = false by simpa using List.all_eq_true.1 hall t hm)⟩)
    (by as_aux_lemma => kernel_rfl)
end Go.Proofs.YtfmpdcmedaiooaaGreatDoor

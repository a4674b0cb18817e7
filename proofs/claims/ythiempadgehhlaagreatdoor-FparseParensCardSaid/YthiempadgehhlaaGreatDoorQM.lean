/- From a primary up through the levels of the grammar. Nothing of the program is named here. A filter in parentheses, two of them with a bar between: what the parser finds. Nothing of the program is named here. A filter in brackets: what the parser finds. Nothing of the program is named here. The tokens of a filter within another text, a line feed behind it. Nothing of the program is named here. A filter's text in parentheses and in brackets: what the parser finds. Nothing of the program is named here. Two filters' texts in parentheses, a bar between: what the parser finds. Nothing of the program is named here. Two filters' texts in parentheses, a bar between: a pipe. Nothing of the program is named here. The five forms of an object with one entry whose key is a name: their tokens, and what is parsed of them. Nothing of the program is named here. -/
import Derived.Test.YthiempadgehhlaaGreatDoorQL
import Derived.KernelRfl
set_option linter.unusedVariables false
set_option linter.unusedSectionVars false
set_option linter.unusedSimpArgs false
namespace Go.Proofs.YthiempadgehhlaaGreatDoor
open Go.RowKit
/-- No operator under the comma stands here. -/
structure Calm (L : List Fk) (τ : PS) : Prop where
  suf : sufB L τ = false
  as_ : sees L ⟨#[97, 115]⟩ τ = false
  pr : anyP L [(⟨#[42]⟩ : ByteArray), (⟨#[47]⟩ : ByteArray), (⟨#[37]⟩ : ByteArray)] τ = false
  sm : anyP L [(⟨#[43]⟩ : ByteArray), (⟨#[45]⟩ : ByteArray)] τ = false
  cm : anyP L [(⟨#[61, 61]⟩ : ByteArray), (⟨#[33, 61]⟩ : ByteArray), (⟨#[60]⟩ : ByteArray), (⟨#[60, 61]⟩ : ByteArray), (⟨#[62]⟩ : ByteArray), (⟨#[62, 61]⟩ : ByteArray)] τ = false
  an : anyP L [(⟨#[97, 110, 100]⟩ : ByteArray)] τ = false
  or_ : anyP L [(⟨#[111, 114]⟩ : ByteArray)] τ = false
  al : anyP L [(⟨#[47, 47]⟩ : ByteArray)] τ = false
  up : anyP L [(⟨#[61]⟩ : ByteArray), (⟨#[124, 61]⟩ : ByteArray), (⟨#[43, 61]⟩ : ByteArray), (⟨#[45, 61]⟩ : ByteArray), (⟨#[42, 61]⟩ : ByteArray), (⟨#[47, 61]⟩ : ByteArray), (⟨#[37, 61]⟩ : ByteArray)] τ = false
  co : anyP L [(⟨#[44]⟩ : ByteArray)] τ = false
/-- At the end, and at a bar. -/
theorem calm_end {L : List Fk} {τ : PS} (h : (tk L τ.k).k = 0) : Calm L τ ∧ anyP L [(⟨#[124]⟩ : ByteArray)] τ = false := by
  have h2 : isW (tk L τ.k) = false := by unfold isW; rw [h]; rfl
  refine ⟨⟨?_, ?_, ?_, ?_, ?_, ?_, ?_, ?_, ?_, ?_⟩, ?_⟩
  · unfold sufB sees
    rw [h2, h]
    rfl
  all_goals (first | (unfold sees; rw [h2]; rfl) | (unfold anyP; rw [h2]; rfl))
theorem calm_bar {L : List Fk} {τ : PS} (h : (tk L τ.k).k = 7) (hs : (tk L τ.k).s = ⟨#[124]⟩) : Calm L τ ∧ anyP L [(⟨#[124]⟩ : ByteArray)] τ = true := by
  refine ⟨⟨?_, ?_, ?_, ?_, ?_, ?_, ?_, ?_, ?_, ?_⟩, ?_⟩
  · unfold sufB sees isW
    rw [h, hs]
    decide
  all_goals (first | (unfold sees isW; rw [h, hs]; decide) | (unfold anyP isW; rw [h, hs]; decide))
/-- No level above the primary takes the token itself. -/
structure Plain (L : List Fk) (σ : PS) : Prop where
  neg : sees L ⟨#[45]⟩ σ = false
  lab : sees L ⟨#[108, 97, 98, 101, 108]⟩ σ = false
  df : sees L ⟨#[100, 101, 102]⟩ σ = false
theorem chain_one {L : List Fk} {c : PM} {op : Int} {sg : List ByteArray} {n : Nat} {σ τ : PS} {f : Ft} (h : c σ = some (f, τ)) (hs : anyP L sg τ = false) : chainM L c op sg (n + 1) σ = some (f, τ) := by
  unfold chainM
  rw [h]
  show chainL L c op sg (n + 1) f τ = _
  exact if_neg (by rw [hs]; decide)
theorem pair_one {L : List Fk} {c r : PM} {op : Int} {sg : List ByteArray} {σ τ : PS} {f : Ft} (h : c σ = some (f, τ)) (hs : anyP L sg τ = false) : pairM L c r op sg σ = some (f, τ) := by
  unfold pairM
  rw [h]
  exact if_neg (by rw [hs]; decide)
theorem up_comma {L : List Fk} {m : Nat} {σ τ : PS} {f : Ft} (hP : Plain L σ) (hC : Calm L τ) (h : run L (m + 1) .primary σ = some (f, τ)) : run L (m + 12) .comma σ = some (f, τ) := by
  have h1 : run L (m + 2) .post σ = some (f, τ) := by
    show bnd (run L (m + 1) .primary σ) _ = _
    rw [h]
    show postL L (run L (m + 1)) (m + 1) f τ = _
    exact if_neg (by rw [hC.suf]; decide)
  have h2 : run L (m + 3) .operand σ = some (f, τ) := by
    show operM L (run L (m + 2)) (m + 2) σ = _
    unfold operM
    rw [if_neg (by rw [hP.lab]; decide), if_neg (by rw [hP.df]; decide), h1]
    exact if_neg (by rw [hC.as_]; decide)
  have h3 : run L (m + 4) .unary σ = some (f, τ) := by
    show unaryM L (run L (m + 3)) σ = _
    unfold unaryM
    rw [if_neg (by rw [hP.neg]; decide), h2]
  have h4 : run L (m + 5) .product σ = some (f, τ) := chain_one (n := m + 3) h3 hC.pr
  have h5 : run L (m + 6) .sum σ = some (f, τ) := chain_one (n := m + 4) h4 hC.sm
  have h6 : run L (m + 7) .cmp σ = some (f, τ) := pair_one h5 hC.cm
  have h7 : run L (m + 8) .and_ σ = some (f, τ) := chain_one (n := m + 6) h6 hC.an
  have h8 : run L (m + 9) .or_ σ = some (f, τ) := chain_one (n := m + 7) h7 hC.or_
  have h9 : run L (m + 10) .alt σ = some (f, τ) := pair_one h8 hC.al
  have h10 : run L (m + 11) .update σ = some (f, τ) := pair_one h9 hC.up
  exact chain_one (n := m + 10) h10 hC.co
/-- A filter that is a primary alone. -/
theorem up_filter {L : List Fk} {m : Nat} {σ τ : PS} {f : Ft} (hP : Plain L σ) (hC : Calm L τ) (hb : anyP L [(⟨#[124]⟩ : ByteArray)] τ = false) (h : run L (m + 1) .primary σ = some (f, τ)) : run L (m + 13) .filter σ = some (f, τ) := pair_one (up_comma hP hC h) hb
/-- Two primaries with a bar between them. -/
theorem up_pipe {L : List Fk} {m : Nat} {σ τ τ2 : PS} {f u : Ft} (hP : Plain L σ) (hC : Calm L τ) (hb : anyP L [(⟨#[124]⟩ : ByteArray)] τ = true) (h : run L (m + 1) .primary σ = some (f, τ)) (h2 : run L (m + 12) .filter (adv τ) = some (u, τ2)) :
    run L (m + 13) .filter σ = some (joinF 12 (tk L τ.k).s f u, τ2) := by
  show pairM L (run L (m + 12) .comma) (run L (m + 12) .filter) 12 _ σ = _
  unfold pairM
  rw [up_comma hP hC h]
  show (if _ then _ else _) = _
  rw [if_pos hb, h2]
  rfl
/-- A primary in parentheses. -/
theorem paren_prim {L : List Fk} {m : Nat} {σ τ : PS} {f : Ft} (hk : (tk L σ.k).k = 7) (hs : (tk L σ.k).s = ⟨#[40]⟩) (h : run L m .filter (adv σ) = some (f, τ)) (hc : sees L ⟨#[41]⟩ τ = true) : run L (m + 1) .primary σ = some (f, adv τ) := by
  have hr : readP L σ = adv σ := by unfold readP; rw [if_neg (by omega)]
  show primM L (run L m) m σ = _
  unfold primM
  rw [if_neg (by omega), if_neg (by omega), if_neg (by omega), if_neg (by omega), if_neg (by omega), hr]
  unfold writtenM
  rw [hs]
  rw [if_neg (by decide), if_neg (by decide), if_neg (by decide), if_neg (by decide), if_neg (by decide), if_pos rfl]
  unfold beforeM
  rw [h]
  show some (f, needP L ⟨#[41]⟩ τ) = _
  unfold needP
  rw [if_pos hc]
theorem paren_plain {L : List Fk} {σ : PS} (hk : (tk L σ.k).k = 7) (hs : (tk L σ.k).s = ⟨#[40]⟩) : Plain L σ := by
  refine ⟨?_, ?_, ?_⟩ <;> (unfold sees isW; rw [hk, hs]; decide)
end Go.Proofs.YthiempadgehhlaaGreatDoor
namespace Go.Proofs.YthiempadgehhlaaGreatDoor
open Go.RowKit
/-- A filter that parses, within another list behind an open parenthesis: the same tree, and the state stands at the closing one. -/
theorem inner_run {L L' : List Fk} {K d : Nat} {cl : ByteArray} (T : Two L L' K d true cl) (hE : EndL L) (hE' : EndL L') {f : Ft} (hok : parseT L = (f, 0, 0)) {σ' : PS} (hk : σ'.k = d) (he : σ'.e = 0) (hl : σ'.long = false) (hd : K + d < L'.length) {n : Nat} (hn : 40 * (L'.length - 1 - d) + 14 < n) :
    ∃ τ, run L' n .filter σ' = some (f, τ) ∧ τ.k = K + d ∧ τ.e = 0 ∧ τ.long = false := by
  obtain ⟨g, σ, h1, h2⟩ := parse_ends hE
  obtain ⟨g', τ, h3, h4, h5⟩ := tm_run hE' n .filter σ' (by omega) (by rw [hk]; exact hn)
  unfold parseT at hok
  rw [h1] at hok
  dsimp only at hok
  have hgood : ¬ Bad (kindS L 0 σ) ∧ g = f := by
    by_cases he : (kindS L 0 σ).e = 0
    · rw [if_pos he] at hok
      by_cases hl : (kindS L 0 σ).long = true
      · rw [if_pos hl] at hok
        injection hok with e1 e2
        injection e2 with e3 e4
        cases e4
      · rw [if_neg hl] at hok
        injection hok with e1 e2
        refine ⟨fun hb => ?_, e1⟩
        rcases hb with hb | hb
        · exact hb he
        · exact hl hb
    · rw [if_neg he] at hok
      injection hok with e1 e2
      injection e2 with e3 e4
      exact absurd e4 he
  obtain ⟨hgood, rfl⟩ := hgood
  have hs : Sy K d true ⟨0, 0, 0, false, 0⟩ σ' := ⟨rfl, rfl, he, hl, by show σ'.k = 0 + d; omega, by
    by_cases h : 0 < K
    · exact Or.inl h
    · exact Or.inr ⟨rfl, by show 0 = K; omega⟩⟩
  rcases sm_run T hE.none _ _ _ _ _ hs g σ g' τ h1 h3 with h | h | ⟨h, rfl⟩
  · exact absurd (bad_kind h) hgood
  · cases h.1
  · refine ⟨τ, h3, ?_, h.2.2.1, h.2.2.2.1⟩
    have hkK : σ.k = K := by
      rcases h.2.2.2.2.2 with h7 | h7
      · have h0 := (T.same σ.k h7).2.2.2
        refine absurd ?_ hgood
        unfold kindS
        rw [if_neg h0]
        exact fail_bad _ _
      · exact h7.2
    rw [h.2.2.2.2.1, hkK]
theorem sees_close {L L' : List Fk} {K d : Nat} {cl : ByteArray} (T : Two L L' K d true cl) {τ : PS} (h : τ.k = K + d) : sees L' cl τ = true := by
  obtain ⟨-, -, h3, h4⟩ := T.paren rfl
  unfold sees isW
  rw [h, h3, h4]
  simp
theorem parse_end {L : List Fk} {f : Ft} {τ : PS} (h : run L (40 * L.length) .filter ⟨0, 0, 0, false, 0⟩ = some (f, τ)) (hk : (tk L τ.k).k = 0) (he : τ.e = 0) (hl : τ.long = false) : parseT L = (f, 0, 0) := by
  have hr : kindS L 0 τ = τ := by
    unfold kindS readP
    rw [if_pos hk, if_pos hk]
  unfold parseT
  rw [h]
  show (if (kindS L 0 τ).e = 0 then if (kindS L 0 τ).long = true then _ else _ else _) = _
  rw [hr, if_pos he, if_neg (by rw [hl]; decide)]
/-- PARENTHESES CHANGE NOTHING. -/
theorem parens_ok {L L' : List Fk} {K : Nat} {f : Ft} (T : Two L L' K 1 true ⟨#[41]⟩) (hE : EndL L) (hE' : EndL L') (hok : parseT L = (f, 0, 0)) (hlen : L'.length = K + 3) (h0 : (tk L' 0).k = 7) (h1 : (tk L' 0).s = ⟨#[40]⟩) (h2 : (tk L' (K + 2)).k = 0) : parseT L' = (f, 0, 0) := by
  obtain ⟨m, hm⟩ : ∃ m, 40 * L'.length = m + 13 := ⟨40 * L'.length - 13, by omega⟩
  obtain ⟨τ, g1, g2, g3, g4⟩ := inner_run T hE hE' hok (σ' := adv ⟨0, 0, 0, false, 0⟩) rfl rfl rfl (by omega) (n := m) (by omega)
  have g5 := paren_prim h0 h1 g1 (sees_close T g2)
  have hk : (tk L' (adv τ).k).k = 0 := by
    show (tk L' (τ.k + 1)).k = 0
    rw [g2]
    exact h2
  obtain ⟨c1, c2⟩ := calm_end hk
  have g6 := up_filter (paren_plain h0 h1) c1 c2 g5
  rw [← hm] at g6
  exact parse_end g6 hk g3 g4
/-- TWO FILTERS IN PARENTHESES, A BAR BETWEEN THEM: A PIPE. -/
theorem pipe_ok {A B L' : List Fk} {K J : Nat} {f u : Ft} (T : Two A L' K 1 true ⟨#[41]⟩) (T2 : Two B L' J (K + 4) true ⟨#[41]⟩) (hA : EndL A) (hB : EndL B) (hE' : EndL L') (hok : parseT A = (f, 0, 0)) (hok2 : parseT B = (u, 0, 0)) (hlen : L'.length = J + K + 6)
    (h0 : (tk L' 0).k = 7) (h1 : (tk L' 0).s = ⟨#[40]⟩) (h2 : (tk L' (K + 2)).k = 7) (h3 : (tk L' (K + 2)).s = ⟨#[124]⟩) (h4 : (tk L' (K + 3)).k = 7) (h5 : (tk L' (K + 3)).s = ⟨#[40]⟩) (h6 : (tk L' (J + K + 5)).k = 0) : parseT L' = (joinF 12 ⟨#[124]⟩ f u, 0, 0) := by
  obtain ⟨m, hm⟩ : ∃ m, 40 * L'.length = m + 1 + 13 := ⟨40 * L'.length - 14, by omega⟩
  obtain ⟨τ, g1, g2, g3, g4⟩ := inner_run T hA hE' hok (σ' := adv ⟨0, 0, 0, false, 0⟩) rfl rfl rfl (by omega) (n := m + 1) (by omega)
  have g5 := paren_prim h0 h1 g1 (sees_close T g2)
  have hk2 : (adv τ).k = K + 2 := by show τ.k + 1 = _; omega
  have hk3 : (adv (adv τ)).k = K + 3 := by show τ.k + 1 + 1 = _; omega
  obtain ⟨τ2, j1, j2, j3, j4⟩ := inner_run T2 hB hE' hok2 (σ' := adv (adv (adv τ))) (by show τ.k + 1 + 1 + 1 = _; omega) g3 g4 (by omega) (n := m) (by omega)
  have j5 := paren_prim (σ := adv (adv τ)) (by rw [hk3]; exact h4) (by rw [hk3]; exact h5) j1 (sees_close T2 j2)
  have hk6 : (tk L' (adv τ2).k).k = 0 := by
    show (tk L' (τ2.k + 1)).k = 0
    rw [j2, show J + (K + 4) + 1 = J + K + 5 by omega]
    exact h6
  obtain ⟨c1, c2⟩ := calm_end hk6
  have j6 := up_filter (paren_plain (by rw [hk3]; exact h4) (by rw [hk3]; exact h5)) c1 c2 j5
  obtain ⟨d1, d2⟩ := calm_bar (L := L') (τ := adv τ) (by rw [hk2]; exact h2) (by rw [hk2]; exact h3)
  have g6 := up_pipe (m := m + 1) (paren_plain h0 h1) d1 d2 g5 j6
  rw [← hm, hk2, h3] at g6
  exact parse_end g6 hk6 j3 j4
end Go.Proofs.YthiempadgehhlaaGreatDoor
namespace Go.Proofs.YthiempadgehhlaaGreatDoor
open Go.RowKit
/-- Where no primary begins no rule finds a filter. -/
theorem stuck_run {L : List Fk} {σ : PS} (hP : Plain L σ) (hp : ∀ n, All Bad (primM L (run L n) n σ)) : ∀ (n : Nat) (r : Ru), All Bad (run L n r σ)
  | 0, r => All.none
  | n + 1, r => by
    have ih := stuck_run hP hp n
    have hb := ba_run L n
    have pr : ∀ (x y : Ru) (op : Int) (sg : List ByteArray), All Bad (pairM L (run L n x) (run L n y) op sg σ) := fun x y op sg => All.bnd (ih x) fun a σ1 h1 => All.ite (fun _ => All.bnd (hb _ _ (bad_adv h1)) fun u σ2 h2 => All.mk h2) (fun _ => All.mk h1)
    have ch : ∀ (x : Ru) (op : Int) (sg : List ByteArray), All Bad (chainM L (run L n x) op sg n σ) := fun x op sg => All.bnd (ih x) fun a σ1 h1 => ba_chainL L op sg (hb x) n a σ1 h1
    cases r
    · exact pr _ _ _ _
    · exact ch _ _ _
    · exact pr _ _ _ _
    · exact pr _ _ _ _
    · exact ch _ _ _
    · exact ch _ _ _
    · exact pr _ _ _ _
    · exact ch _ _ _
    · exact ch _ _ _
    · exact All.no (by rw [hP.neg]; decide) (ih _)
    · exact All.no (by rw [hP.lab]; decide) (All.no (by rw [hP.df]; decide) (All.bnd (ih _) fun f σ1 h1 => All.ite (fun _ => ba_scope L hb _ _ _ (bad_adv h1)) (fun _ => All.mk h1)))
    · exact All.bnd (ih _) fun f σ1 h1 => ba_post L hb n f σ1 h1
    · exact hp n
    · exact All.bnd (All.bnd (ih _) fun a σ1 h1 => All.mk (bad_need h1)) fun q σ1 h1 => All.bnd (hb _ _ h1) fun a σ2 h2 => All.bnd (ba_other L hb _ h2) fun b σ3 h3 => All.mk h3
theorem ok_good {L : List Fk} (hE : EndL L) {f : Ft} (hok : parseT L = (f, 0, 0)) : ∃ g σ, run L (40 * L.length) .filter ⟨0, 0, 0, false, 0⟩ = some (g, σ) ∧ ¬ Bad σ := by
  obtain ⟨g, σ, h1, h2⟩ := parse_ends hE
  refine ⟨g, σ, h1, fun hb => ?_⟩
  have hk := bad_kind (L := L) (K := 0) hb
  unfold parseT at hok
  rw [h1] at hok
  dsimp only at hok
  by_cases he : (kindS L 0 σ).e = 0
  · rw [if_pos he] at hok
    rcases hk with hk | hk
    · exact hk he
    · rw [if_pos hk] at hok
      injection hok with e1 e2
      injection e2 with e3 e4
      cases e4
  · rw [if_neg he] at hok
    injection hok with e1 e2
    injection e2 with e3 e4
    exact he e4
/-- A filter that parses begins with no closing bracket. -/
theorem no_close {L : List Fk} (hE : EndL L) {f : Ft} (hok : parseT L = (f, 0, 0)) : ¬ sees L ⟨#[93]⟩ ⟨0, 0, 0, false, 0⟩ = true := by
  intro hs
  obtain ⟨g, σ, h1, h2⟩ := ok_good hE hok
  refine h2 (stuck_run ?_ (fun n => ?_) _ _ g σ h1)
  all_goals
    unfold sees at hs
    rw [Bool.and_eq_true, decide_eq_true_eq] at hs
    obtain ⟨hw, ht⟩ := hs
    unfold isW at hw
    have hk : (tk L 0).k = 7 ∨ (tk L 0).k = 2 := by simpa using hw
    have ht' : (tk L 0).s = ⟨#[93]⟩ := ht
  · refine ⟨?_, ?_, ?_⟩ <;> (unfold sees; show (isW (tk L 0) && decide ((tk L 0).s = _)) = false; rw [ht']; simp)
  · have k0 : (tk L (⟨0, 0, 0, false, 0⟩ : PS).k).k = 7 ∨ (tk L (⟨0, 0, 0, false, 0⟩ : PS).k).k = 2 := hk
    refine All.no (by omega) (All.no (by omega) (All.no (by omega) (All.no (by omega) (All.no (by omega) ?_))))
    unfold writtenM
    rw [ht]
    repeat' (refine All.no (by decide) ?_)
    exact All.mk (fail_bad _ _)
theorem array_prim {L : List Fk} {m : Nat} {σ τ : PS} {f : Ft} (hk : (tk L σ.k).k = 7) (hs : (tk L σ.k).s = ⟨#[91]⟩) (hn : ¬ sees L ⟨#[93]⟩ (adv σ) = true) (h : run L m .filter (adv σ) = some (f, τ)) (hc : sees L ⟨#[93]⟩ τ = true) : run L (m + 1) .primary σ = some (nodeF 9 [f], adv τ) := by
  have hr : readP L σ = adv σ := by unfold readP; rw [if_neg (by omega)]
  show primM L (run L m) m σ = _
  unfold primM
  rw [if_neg (by omega), if_neg (by omega), if_neg (by omega), if_neg (by omega), if_neg (by omega), hr]
  unfold writtenM
  rw [hs]
  rw [if_neg (by decide), if_neg (by decide), if_neg (by decide), if_neg (by decide), if_neg (by decide), if_neg (by decide), if_pos rfl]
  unfold arrayM beforeM
  rw [if_neg hn, h]
  show some (nodeF 9 [f], needP L ⟨#[93]⟩ τ) = _
  unfold needP
  rw [if_pos hc]
theorem array_plain {L : List Fk} {σ : PS} (hk : (tk L σ.k).k = 7) (hs : (tk L σ.k).s = ⟨#[91]⟩) : Plain L σ := by
  refine ⟨?_, ?_, ?_⟩ <;> (unfold sees isW; rw [hk, hs]; decide)
/-- A FILTER IN BRACKETS: AN ARRAY OF IT. -/
theorem array_ok {L L' : List Fk} {K : Nat} {f : Ft} (T : Two L L' K 1 true ⟨#[93]⟩) (hE : EndL L) (hE' : EndL L') (hok : parseT L = (f, 0, 0)) (hlen : L'.length = K + 3) (h0 : (tk L' 0).k = 7) (h1 : (tk L' 0).s = ⟨#[91]⟩) (h2 : (tk L' (K + 2)).k = 0) : parseT L' = (nodeF 9 [f], 0, 0) := by
  obtain ⟨m, hm⟩ : ∃ m, 40 * L'.length = m + 13 := ⟨40 * L'.length - 13, by omega⟩
  obtain ⟨τ, g1, g2, g3, g4⟩ := inner_run T hE hE' hok (σ' := adv ⟨0, 0, 0, false, 0⟩) rfl rfl rfl (by omega) (n := m) (by omega)
  have hK : 0 < K := by
    by_cases hK : 0 < K
    · exact hK
    · have h7 := (T.paren rfl).1
      rw [show K = 0 by omega] at h7
      obtain ⟨g, σ, j1, j2⟩ := ok_good hE hok
      exact absurd (ze_run hE.none _ _ ⟨0, 0, 0, false, 0⟩ h7 g σ j1) j2
  have hn : ¬ sees L' ⟨#[93]⟩ (adv ⟨0, 0, 0, false, 0⟩) = true := by
    have hs : Sy K 1 true ⟨0, 0, 0, false, 0⟩ (adv ⟨0, 0, 0, false, 0⟩) := ⟨rfl, rfl, rfl, rfl, rfl, Or.inl hK⟩
    rw [← sees_eq T hs hK]
    exact no_close hE hok
  have g5 := array_prim h0 h1 hn g1 (sees_close T g2)
  have hk : (tk L' (adv τ).k).k = 0 := by
    show (tk L' (τ.k + 1)).k = 0
    rw [g2]
    exact h2
  obtain ⟨c1, c2⟩ := calm_end hk
  have g6 := up_filter (array_plain h0 h1) c1 c2 g5
  rw [← hm] at g6
  exact parse_end g6 hk g3 g4
end Go.Proofs.YthiempadgehhlaaGreatDoor
namespace Go.Proofs.YthiempadgehhlaaGreatDoor
open Go.RowKit
theorem eat_more : ∀ (c : Bool) (x y : List UInt8) (b : UInt8) (r : List UInt8), eat c x = b :: r → eat c (x ++ y) = b :: r ++ y
  | true, [], y, b, r, h => by cases h
  | false, [], y, b, r, h => by cases h
  | true, a :: x, y, b, r, h => by
    rw [eat] at h
    rw [List.cons_append, eat]
    split at h
    · rename_i hb
      rw [if_pos hb]
      exact eat_more false x y b r h
    · rename_i hb
      rw [if_neg hb]
      exact eat_more true x y b r h
  | false, a :: x, y, b, r, h => by
    rw [eat] at h
    rw [List.cons_append, eat]
    split at h
    · rename_i hb
      rw [if_pos hb]
      exact eat_more false x y b r h
    · rename_i hb
      rw [if_neg hb]
      split at h
      · rename_i hc
        rw [if_pos hc]
        exact eat_more true x y b r h
      · rename_i hc
        rw [if_neg hc, ← List.cons_append, h]
section
variable {l X Y : List UInt8}
theorem mid_drop {p : Nat} (hp : p ≤ l.length) : (X ++ (l ++ 10 :: Y)).drop (X.length + p) = l.drop p ++ 10 :: Y := by
  rw [List.drop_append, List.drop_of_length_le (by omega), List.nil_append, Nat.add_sub_cancel_left, List.drop_append_of_le_length hp]
/-- The gap behind an offset of the filter, in the other text. -/
theorem mid_gap {p : Nat} (hp : p ≤ l.length) : gapP (X ++ (l ++ 10 :: Y)) (X.length + p) = if gapP l p < l.length then X.length + gapP l p else (X ++ (l ++ 10 :: Y)).length - (eat false Y).length := by
  have hlen := eat_len false (l.drop p)
  have hlen2 := eat_len false Y
  rw [gapP, mid_drop hp]
  cases he : eat false (l.drop p) with
  | nil =>
    have h1 : gapP l p = l.length := by rw [gapP, he]; rfl
    rw [h1, if_neg (by omega), eat_over false _ _ he]
  | cons b r =>
    have h1 : gapP l p = l.length - (r.length + 1) := by rw [gapP, he]; rfl
    have h2 : r.length + 1 ≤ l.length := by
      rw [he] at hlen
      simp at hlen
      omega
    rw [eat_more false _ _ b r he, h1, if_pos (by omega)]
    simp
    omega
/-- A token of the filter at its place in the other text. -/
def movX (A : Nat) (t : Fk) : Fk := movF t (A + t.o)
variable {vs : List Fk}
/-- Where the token with the number j stands in the other text; the last: what follows the line feed. -/
def midQ (l X Y : List UInt8) (vs : List Fk) (j : Nat) : Nat := if j < vs.length then X.length + posF vs l.length j else (X ++ (l ++ 10 :: Y)).length - (eat false Y).length
theorem mid_at (hO : OAt l l.length vs) (hT : TAt l l.length vs) (h0 : gapP l 0 = posF vs l.length 0) {ts : List Fk} (hn : ts.length + vs.length < 2048) (hs : FAt (X ++ (l ++ 10 :: Y)) (gapP (X ++ (l ++ 10 :: Y)) X.length) ts) :
    ∀ j, j ≤ vs.length → FAt (X ++ (l ++ 10 :: Y)) (midQ l X Y vs j) (ts ++ (vs.take j).map (movX X.length)) := by
  have hq : ∀ j, j ≤ vs.length → (posF vs l.length j < l.length ↔ j < vs.length) := by
    intro j hj
    constructor
    · intro h
      by_cases h1 : j < vs.length
      · exact h1
      · rw [posF_out (by omega)] at h
        omega
    · intro h
      obtain ⟨x, hx⟩ : ∃ x, vs[j]? = some x := ⟨_, List.getElem?_eq_getElem h⟩
      rw [posF_in hx]
      exact (hT j x hx).1
  intro j
  induction j with
  | zero =>
    intro hj
    have h1 := mid_gap (l := l) (X := X) (Y := Y) (p := 0) (Nat.zero_le _)
    rw [Nat.add_zero, h0] at h1
    rw [h1] at hs
    have h2 := hq 0 hj
    unfold midQ
    by_cases h3 : 0 < vs.length
    · rw [if_pos (h2.2 h3)] at hs
      rw [if_pos h3]
      simpa using hs
    · rw [if_neg (fun h => h3 (h2.1 h))] at hs
      rw [if_neg h3]
      simpa using hs
  | succ j ih =>
    intro hj
    have ih := ih (by omega)
    obtain ⟨x, hx⟩ : ∃ x, vs[j]? = some x := ⟨_, List.getElem?_eq_getElem (by omega)⟩
    obtain ⟨h1, h2, h3, h4⟩ := hT j x hx
    obtain ⟨g1, g2⟩ := tok_ok h1 h2
    unfold midQ at ih
    rw [if_pos (by omega), posF_in hx] at ih
    have hC : Copy l (X ++ (l ++ 10 :: Y)) x.o (X.length + x.o) l.length := ⟨Nat.le_refl _, h1, fun i hi => by
      rw [List.getElem?_append_right (by omega), show X.length + x.o + i - X.length = x.o + i by omega, List.getElem?_append_left (by omega)], by
      rw [List.getElem?_append_right (by omega), show X.length + x.o + (l.length - x.o) - X.length = l.length by omega, List.getElem?_append_right (Nat.le_refl _)]
      simp⟩
    have ht := hC.tok h2 g2
    rw [h3] at ht
    have hn2 := ih.next (by simp; omega) (by simp; omega) (by rw [ht])
    rw [ht] at hn2
    dsimp only at hn2
    rw [show X.length + x.o + ((tokP l x.o).p - x.o) = X.length + (tokP l x.o).p by omega, mid_gap g2, h4] at hn2
    have h5 := hq (j + 1) hj
    have h6 := hn2.1
    rw [List.append_assoc] at h6
    have h7 : (vs.take j).map (movX X.length) ++ [movF x (X.length + x.o)] = (vs.take (j + 1)).map (movX X.length) := by
      rw [List.take_add_one, hx]
      simp [movX]
    rw [h7] at h6
    unfold midQ
    by_cases h8 : j + 1 < vs.length
    · rw [if_pos (h5.2 h8)] at h6
      rw [if_pos h8]
      exact h6
    · rw [if_neg (fun h => h8 (h5.1 h))] at h6
      rw [if_neg h8]
      exact h6
end
end Go.Proofs.YthiempadgehhlaaGreatDoor
namespace Go.Proofs.YthiempadgehhlaaGreatDoor
open Go.RowKit
theorem drop_at {T rest : List UInt8} {a : Nat} {c : UInt8} (h : T.drop a = c :: rest) : T[a]? = some c ∧ a < T.length := by
  have h1 : (T.drop a)[0]? = some c := by rw [h]; rfl
  rw [List.getElem?_drop, Nat.add_zero] at h1
  exact ⟨h1, (List.getElem?_eq_some_iff.1 h1).1⟩
/-- A sign that is a token of its own, whatever follows. -/
def loneB (c : UInt8) (rest : List UInt8) : Bool := !nameB c && (!digB c && (!decide (c.toNat = 36) && (!decide (c.toNat = 46) && (!decide (c.toNat = 34) && (signsL.find? (fun t => t.isPrefixOf (c :: rest)) == some [c])))))
theorem sign_tok {T rest : List UInt8} {a : Nat} {c : UInt8} (h : T.drop a = c :: rest) (hc : loneB c rest = true) : tokP T a = ⟨⟨7, a, bsF [c], 0⟩, a + 1, 0⟩ := by
  obtain ⟨h1, h2⟩ := drop_at h
  unfold loneB at hc
  simp only [Bool.and_eq_true, Bool.not_eq_true', decide_eq_false_iff_not, beq_iff_eq] at hc
  obtain ⟨c1, c2, c3, c4, c5, c6⟩ := hc
  have hb : byt T a = c.toNat := by unfold byt; rw [h1]; rfl
  unfold tokP
  rw [atF_at h1, atF_at h1, hb, if_neg (by rw [c1]; decide), if_neg (fun g => c3 g.1), if_neg (fun g => c4 g.1), if_neg (by rw [c2]; decide), if_neg c5]
  unfold signFP
  rw [h, c6]
  rfl
theorem sign_step {T rest : List UInt8} {a : Nat} {c : UInt8} {ts : List Fk} (hF : FAt T a ts) (hn : ts.length < 2048) (h : T.drop a = c :: rest) (hc : loneB c rest = true) : FAt T (gapP T (a + 1)) (ts ++ [⟨7, a, bsF [c], 0⟩]) := by
  have h2 := (drop_at h).2
  have ht := sign_tok h hc
  have := (hF.next h2 (by omega) (by rw [ht])).1
  rw [ht] at this
  exact this
theorem lone40 (r : List UInt8) : loneB 40 r = true := by rfl
theorem lone41 (r : List UInt8) : loneB 41 r = true := by rfl
theorem lone91 (r : List UInt8) : loneB 91 r = true := by rfl
theorem lone93 (r : List UInt8) : loneB 93 r = true := by rfl
theorem lone124 (r : List UInt8) : loneB 124 (32 :: r) = true := by rfl
theorem gap_here {T rest : List UInt8} {a : Nat} {c : UInt8} (h : T.drop a = c :: rest) (h1 : ¬ c.toNat = 35) (h2 : blankB c = false) : gapP T a = a := gap_stop (drop_at h).1 h1 h2
/-- The tokens of a text with one sign before a filter and one behind it. -/
theorem wrap_lex {l : List UInt8} {us : List Fk} {a c : UInt8} (hlex : lexFP l = ⟨some us, 0, 0⟩) (hl : l.length ≤ 1000) (ha : ∀ r, loneB a r = true) (hc : ∀ r, loneB c r = true) (a1 : ¬ a.toNat = 35) (a2 : blankB a = false) (c1 : ¬ c.toNat = 35) (c2 : blankB c = false) :
    ∃ vs, us = vs ++ [endK l] ∧ OAt l l.length vs ∧ lexFP ([a] ++ (l ++ 10 :: [c])) = ⟨some ([⟨7, 0, bsF [a], 0⟩] ++ vs.map (movX 1) ++ [⟨7, l.length + 2, bsF [c], 0⟩] ++ [⟨0, l.length + 3, ⟨#[]⟩, 0⟩]), 0, 0⟩ := by
  have hlen := (lexFP_len hlex).2
  obtain ⟨vs, rfl, hO, hT⟩ := lexFP_toks hlex
  refine ⟨vs, rfl, hO, ?_⟩
  have hv : vs.length ≤ 1000 := by simp at hlen; omega
  have h0 : ([a] ++ (l ++ 10 :: [c])).drop 0 = a :: (l ++ 10 :: [c]) := rfl
  have hs := FAt.start (l := [a] ++ (l ++ 10 :: [c])) (by simp; omega)
  rw [gap_here h0 a1 a2] at hs
  have hs1 := sign_step hs (by simp) h0 (ha _)
  have hm := mid_at (X := [a]) (Y := [c]) hO hT (first_pos hlex) (by simp; omega) hs1 vs.length (Nat.le_refl _)
  unfold midQ at hm
  rw [if_neg (by omega)] at hm
  have he : eat false [c] = [c] := by rw [eat, if_neg (by rw [c2]; decide), if_neg c1]
  rw [he, List.take_length] at hm
  have hq : ([a] ++ (l ++ 10 :: [c])).length - [c].length = l.length + 2 := by simp
  rw [hq] at hm
  have hd : ([a] ++ (l ++ 10 :: [c])).drop (l.length + 2) = c :: [] := by
    have h := mid_drop (l := l) (X := [a]) (Y := [c]) (Nat.le_refl l.length)
    rw [List.drop_length, List.nil_append] at h
    have h2 := congrArg (List.drop 1) h
    rw [List.drop_drop] at h2
    rw [show l.length + 2 = [a].length + l.length + 1 by simp; omega]
    exact h2
  have hf := sign_step hm (by simp; omega) hd (hc _)
  have hT2 : ([a] ++ (l ++ 10 :: [c])).length = l.length + 3 := by simp
  rw [gap_end (by rw [hT2]; omega)] at hf
  have hdn := hf.done (by omega)
  rw [hdn, hT2]
  rfl
/-- The two lists are in step. -/
theorem wrap_two {l : List UInt8} {vs : List Fk} (hO : OAt l l.length vs) {a c : UInt8} (hc : bsF [c] = ⟨#[41]⟩ ∨ bsF [c] = ⟨#[93]⟩) {o n : Nat} : Two (vs ++ [endK l]) ([⟨7, 0, bsF [a], 0⟩] ++ vs.map (movX 1) ++ [⟨7, o, bsF [c], 0⟩] ++ [⟨0, n, ⟨#[]⟩, 0⟩]) vs.length 1 true (bsF [c]) := by
  refine ⟨fun j hj => ?_, fun _ => ?_, hc, (fun h => by cases h)⟩
  · obtain ⟨x, hx⟩ : ∃ x, vs[j]? = some x := ⟨_, List.getElem?_eq_getElem hj⟩
    have h1 : tk (vs ++ [endK l]) j = x := tk_at (by rw [List.getElem?_append_left hj]; exact hx)
    have h2 : tk ([⟨7, 0, bsF [a], 0⟩] ++ vs.map (movX 1) ++ [⟨7, o, bsF [c], 0⟩] ++ [⟨0, n, ⟨#[]⟩, 0⟩]) (j + 1) = movX 1 x := tk_at (by
      rw [List.getElem?_append_left (by simp; omega), List.getElem?_append_left (by simp; omega), List.getElem?_append_right (by simp)]
      simp [hx])
    rw [h1, h2]
    have := (hO j x hx).low
    exact ⟨rfl, rfl, rfl, by omega⟩
  · have h1 : tk (vs ++ [endK l]) vs.length = endK l := tk_last
    have h2 : tk ([⟨7, 0, bsF [a], 0⟩] ++ vs.map (movX 1) ++ [⟨7, o, bsF [c], 0⟩] ++ [⟨0, n, ⟨#[]⟩, 0⟩]) (vs.length + 1) = ⟨7, o, bsF [c], 0⟩ := tk_at (by
      rw [List.getElem?_append_left (by simp), List.getElem?_append_right (by simp)]
      simp)
    rw [h1, h2]
    exact ⟨rfl, rfl, rfl, rfl⟩
theorem parse_lex {l : List UInt8} {us : List Fk} {f : Ft} (hlex : lexFP l = ⟨some us, 0, 0⟩) (hp : parseP l = (f, 0, 0)) : parseT us = (f, 0, 0) := by
  unfold parseP at hp
  rw [hlex] at hp
  exact hp
theorem lex_parse {l : List UInt8} {us : List Fk} {r : Ft × Nat × Nat} (hlex : lexFP l = ⟨some us, 0, 0⟩) (hp : parseT us = r) : parseP l = r := by
  unfold parseP
  rw [hlex]
  exact hp
/-- PARENTHESES AROUND A FILTER'S TEXT CHANGE NOTHING. -/
theorem parens_text {l : List UInt8} {us : List Fk} {f : Ft} (hlex : lexFP l = ⟨some us, 0, 0⟩) (hp : parseP l = (f, 0, 0)) (hl : l.length ≤ 1000) : parseP ([40] ++ (l ++ 10 :: [41])) = (f, 0, 0) := by
  obtain ⟨vs, rfl, hO, h⟩ := wrap_lex hlex hl lone40 lone41 (by decide) (by decide) (by decide) (by decide)
  refine lex_parse h (parens_ok (wrap_two hO (Or.inl rfl)) (lex_tok hlex).1 (lex_tok h).1 (parse_lex hlex hp) (by simp) rfl rfl ?_)
  rw [tk_at (t := ⟨0, l.length + 3, ⟨#[]⟩, 0⟩)]
  rw [List.getElem?_append_right (by simp)]
  simp
/-- BRACKETS AROUND A FILTER'S TEXT MAKE AN ARRAY OF IT. -/
theorem array_text {l : List UInt8} {us : List Fk} {f : Ft} (hlex : lexFP l = ⟨some us, 0, 0⟩) (hp : parseP l = (f, 0, 0)) (hl : l.length ≤ 1000) : parseP ([91] ++ (l ++ 10 :: [93])) = (nodeF 9 [f], 0, 0) := by
  obtain ⟨vs, rfl, hO, h⟩ := wrap_lex hlex hl lone91 lone93 (by decide) (by decide) (by decide) (by decide)
  refine lex_parse h (array_ok (wrap_two hO (Or.inr rfl)) (lex_tok hlex).1 (lex_tok h).1 (parse_lex hlex hp) (by simp) rfl rfl ?_)
  rw [tk_at (t := ⟨0, l.length + 3, ⟨#[]⟩, 0⟩)]
  rw [List.getElem?_append_right (by simp)]
  simp
end Go.Proofs.YthiempadgehhlaaGreatDoor
namespace Go.Proofs.YthiempadgehhlaaGreatDoor
open Go.RowKit
theorem gap_sp {T r : List UInt8} {a : Nat} {c : UInt8} (h : T.drop a = 32 :: c :: r) (c1 : ¬ c.toNat = 35) (c2 : blankB c = false) : gapP T a = a + 1 := by
  have h2 := congrArg List.length h
  rw [List.length_drop, List.length_cons, List.length_cons] at h2
  have he : eat false (32 :: c :: r) = c :: r := by rw [eat, if_pos (by decide), eat, if_neg (by rw [c2]; decide), if_neg c1]
  rw [gapP, h, he, List.length_cons]
  omega
theorem drop_more {T r : List UInt8} {a : Nat} {c : UInt8} (h : T.drop a = c :: r) : T.drop (a + 1) = r := by
  have h2 := congrArg (List.drop 1) h
  rw [List.drop_drop] at h2
  exact h2
def pipeT (l l2 : List UInt8) : List UInt8 := [40] ++ (l ++ 10 :: ([41, 32, 124, 32, 40] ++ (l2 ++ [10, 41])))
def pipeX (l : List UInt8) : List UInt8 := [40] ++ (l ++ 10 :: [41, 32, 124, 32, 40])
theorem pipe_eq (l l2 : List UInt8) : pipeT l l2 = pipeX l ++ (l2 ++ 10 :: [41]) := by simp [pipeT, pipeX]
theorem pipeX_len (l : List UInt8) : (pipeX l).length = l.length + 7 := by simp [pipeX]
theorem pipeT_len (l l2 : List UInt8) : (pipeT l l2).length = l.length + l2.length + 9 := by simp [pipeT]; omega
theorem pipe_lex {l l2 : List UInt8} {us us2 : List Fk} (hlex : lexFP l = ⟨some us, 0, 0⟩) (hlex2 : lexFP l2 = ⟨some us2, 0, 0⟩) (hl : l.length ≤ 500) (hl2 : l2.length ≤ 500) :
    ∃ vs vs2, us = vs ++ [endK l] ∧ us2 = vs2 ++ [endK l2] ∧ OAt l l.length vs ∧ OAt l2 l2.length vs2 ∧
      lexFP (pipeT l l2) = ⟨some ([⟨7, 0, bsF [40], 0⟩] ++ vs.map (movX 1) ++ [⟨7, l.length + 2, bsF [41], 0⟩] ++ [⟨7, l.length + 4, bsF [124], 0⟩] ++ [⟨7, l.length + 6, bsF [40], 0⟩] ++ vs2.map (movX (l.length + 7)) ++ [⟨7, l.length + l2.length + 8, bsF [41], 0⟩] ++ [⟨0, l.length + l2.length + 9, ⟨#[]⟩, 0⟩]), 0, 0⟩ := by
  have hlen := (lexFP_len hlex).2
  have hlen2 := (lexFP_len hlex2).2
  obtain ⟨vs, rfl, hO, hT⟩ := lexFP_toks hlex
  obtain ⟨vs2, rfl, hO2, hT2⟩ := lexFP_toks hlex2
  refine ⟨vs, vs2, rfl, rfl, hO, hO2, ?_⟩
  have hv : vs.length ≤ 500 := by simp at hlen; omega
  have hv2 : vs2.length ≤ 500 := by simp at hlen2; omega
  have hlT := pipeT_len l l2
  have h0 : (pipeT l l2).drop 0 = 40 :: (l ++ 10 :: ([41, 32, 124, 32, 40] ++ (l2 ++ [10, 41]))) := rfl
  have hs := FAt.start (l := pipeT l l2) (by omega)
  rw [gap_here h0 (by decide) (by decide)] at hs
  have hs1 := sign_step hs (by simp) h0 (lone40 _)
  have hm := mid_at (X := [40]) (Y := [41, 32, 124, 32, 40] ++ (l2 ++ [10, 41])) hO hT (first_pos hlex) (by simp; omega) hs1 vs.length (Nat.le_refl _)
  unfold midQ at hm
  rw [if_neg (by omega)] at hm
  have he : eat false ([41, 32, 124, 32, 40] ++ (l2 ++ [10, 41])) = [41, 32, 124, 32, 40] ++ (l2 ++ [10, 41]) := by
    rw [List.cons_append, eat, if_neg (by decide), if_neg (by decide)]
  rw [he, List.take_length] at hm
  have hq : ([40] ++ (l ++ 10 :: ([41, 32, 124, 32, 40] ++ (l2 ++ [10, 41])))).length - ([41, 32, 124, 32, 40] ++ (l2 ++ [10, 41])).length = l.length + 2 := by simp; omega
  rw [hq] at hm
  have hd : (pipeT l l2).drop (l.length + 2) = 41 :: 32 :: 124 :: 32 :: 40 :: (l2 ++ [10, 41]) := by
    have h := mid_drop (l := l) (X := [40]) (Y := [41, 32, 124, 32, 40] ++ (l2 ++ [10, 41])) (Nat.le_refl l.length)
    rw [List.drop_length, List.nil_append] at h
    have h2 := drop_more h
    rw [show l.length + 2 = [40].length + l.length + 1 by simp; omega]
    exact h2
  have f1 := sign_step (T := pipeT l l2) hm (by simp; omega) hd (lone41 _)
  have d1 := drop_more hd
  rw [gap_sp d1 (by decide) (by decide)] at f1
  have d2 := drop_more d1
  have f2 := sign_step f1 (by simp; omega) d2 (lone124 _)
  have d3 := drop_more d2
  rw [gap_sp d3 (by decide) (by decide)] at f2
  have d4 := drop_more d3
  have f3 := sign_step f2 (by simp; omega) d4 (lone40 _)
  have hX : l.length + 2 + 1 + 1 + 1 + 1 + 1 = (pipeX l).length := by rw [pipeX_len]
  rw [hX, pipe_eq] at f3
  have hm2 := mid_at (X := pipeX l) (Y := [41]) hO2 hT2 (first_pos hlex2) (by simp; omega) f3 vs2.length (Nat.le_refl _)
  unfold midQ at hm2
  rw [if_neg (by omega), List.take_length] at hm2
  have he2 : eat false [41] = [41] := rfl
  rw [he2, ← pipe_eq, hlT, pipeX_len] at hm2
  have hd2 : (pipeT l l2).drop (l.length + l2.length + 8) = 41 :: [] := by
    have h := mid_drop (l := l2) (X := pipeX l) (Y := [41]) (Nat.le_refl l2.length)
    rw [List.drop_length, List.nil_append] at h
    have h2 := drop_more h
    rw [← pipe_eq, pipeX_len, show l.length + 7 + l2.length + 1 = l.length + l2.length + 8 by omega] at h2
    exact h2
  rw [show l.length + l2.length + 9 - ([41] : List UInt8).length = l.length + l2.length + 8 by simp] at hm2
  have f4 := sign_step hm2 (by simp; omega) hd2 (lone41 _)
  rw [gap_end (by omega)] at f4
  have hdn := f4.done (by omega)
  rw [hdn, hlT]
  rfl
end Go.Proofs.YthiempadgehhlaaGreatDoor
namespace Go.Proofs.YthiempadgehhlaaGreatDoor
open Go.RowKit
theorem tk_skip (x : Fk) (r : List Fk) (j : Nat) : tk (x :: r) (j + 1) = tk r j := by simp [tk]
theorem tk_left {A B : List Fk} {j : Nat} (h : j < A.length) : tk (A ++ B) j = tk A j := by unfold tk; rw [List.getElem?_append_left h]
theorem tk_right {A B : List Fk} {n : Nat} (hn : A.length = n) (j : Nat) : tk (A ++ B) (n + j) = tk B j := by
  subst hn
  unfold tk
  rw [List.getElem?_append_right (by omega), Nat.add_sub_cancel_left]
theorem tk_map {vs : List Fk} {j n : Nat} {x : Fk} (h : vs[j]? = some x) : tk (vs.map (movX n)) j = movX n x := tk_at (by simp [h])
/-- TWO FILTERS IN PARENTHESES WITH A BAR BETWEEN THEM ARE A PIPE. -/
theorem pipe_text {l l2 : List UInt8} {us us2 : List Fk} {f u : Ft} (hlex : lexFP l = ⟨some us, 0, 0⟩) (hlex2 : lexFP l2 = ⟨some us2, 0, 0⟩) (hp : parseP l = (f, 0, 0)) (hp2 : parseP l2 = (u, 0, 0)) (hl : l.length ≤ 500) (hl2 : l2.length ≤ 500) : parseP (pipeT l l2) = (joinF 12 ⟨#[124]⟩ f u, 0, 0) := by
  obtain ⟨vs, vs2, rfl, rfl, hO, hO2, h⟩ := pipe_lex hlex hlex2 hl hl2
  generalize hM : ([⟨7, 0, bsF [40], 0⟩] ++ vs.map (movX 1) ++ [⟨7, l.length + 2, bsF [41], 0⟩] ++ [⟨7, l.length + 4, bsF [124], 0⟩] ++ [⟨7, l.length + 6, bsF [40], 0⟩] ++ vs2.map (movX (l.length + 7)) ++ [⟨7, l.length + l2.length + 8, bsF [41], 0⟩] ++ [⟨0, l.length + l2.length + 9, ⟨#[]⟩, 0⟩] : List Fk) = M at h
  have hM2 : M = (⟨7, 0, bsF [40], 0⟩ : Fk) :: (vs.map (movX 1) ++ ((⟨7, l.length + 2, bsF [41], 0⟩ : Fk) :: (⟨7, l.length + 4, bsF [124], 0⟩ : Fk) :: (⟨7, l.length + 6, bsF [40], 0⟩ : Fk) :: (vs2.map (movX (l.length + 7)) ++ [⟨7, l.length + l2.length + 8, bsF [41], 0⟩, ⟨0, l.length + l2.length + 9, ⟨#[]⟩, 0⟩]))) := by
    rw [← hM]; simp
  have hlen : M.length = vs2.length + vs.length + 6 := by rw [hM2]; simp; omega
  have hA : (vs.map (movX 1)).length = vs.length := by simp
  have hB : (vs2.map (movX (l.length + 7))).length = vs2.length := by simp
  have t0 : tk M 0 = ⟨7, 0, bsF [40], 0⟩ := by rw [hM2]; rfl
  have tA : ∀ j, j < vs.length → tk M (j + 1) = tk (vs.map (movX 1)) j := fun j hj => by rw [hM2, tk_skip, tk_left (by rw [hA]; exact hj)]
  have t1 : tk M (vs.length + 1) = ⟨7, l.length + 2, bsF [41], 0⟩ := by
    rw [hM2, tk_skip]
    exact tk_right (j := 0) hA
  have t2 : tk M (vs.length + 2) = ⟨7, l.length + 4, bsF [124], 0⟩ := by rw [hM2, show vs.length + 2 = vs.length + 1 + 1 by omega, tk_skip, tk_right hA]; rfl
  have t3 : tk M (vs.length + 3) = ⟨7, l.length + 6, bsF [40], 0⟩ := by rw [hM2, show vs.length + 3 = vs.length + 2 + 1 by omega, tk_skip, tk_right hA]; rfl
  have tB : ∀ j, tk M (j + (vs.length + 4)) = tk (vs2.map (movX (l.length + 7)) ++ [⟨7, l.length + l2.length + 8, bsF [41], 0⟩, ⟨0, l.length + l2.length + 9, ⟨#[]⟩, 0⟩]) j := fun j => by
    rw [hM2, show j + (vs.length + 4) = vs.length + (j + 3) + 1 by omega, tk_skip, tk_right hA, show j + 3 = j + 1 + 1 + 1 by omega, tk_skip, tk_skip, tk_skip]
  have t4 : tk M (vs2.length + (vs.length + 4)) = ⟨7, l.length + l2.length + 8, bsF [41], 0⟩ := by
    have h4 := tB (vs2.length + 0)
    rw [tk_right hB] at h4
    exact h4
  have t5 : tk M (vs2.length + vs.length + 5) = ⟨0, l.length + l2.length + 9, ⟨#[]⟩, 0⟩ := by
    have h4 := tB (vs2.length + 1)
    rw [tk_right hB] at h4
    rw [show vs2.length + vs.length + 5 = vs2.length + 1 + (vs.length + 4) by omega]
    exact h4
  have T1 : Two (vs ++ [endK l]) M vs.length 1 true ⟨#[41]⟩ := by
    refine ⟨fun j hj => ?_, fun _ => ?_, Or.inl rfl, (fun h => by cases h)⟩
    · obtain ⟨x, hx⟩ : ∃ x, vs[j]? = some x := ⟨_, List.getElem?_eq_getElem hj⟩
      have h1 : tk (vs ++ [endK l]) j = x := tk_at (by rw [List.getElem?_append_left hj]; exact hx)
      rw [h1, tA j hj, tk_map hx]
      have := (hO j x hx).low
      exact ⟨rfl, rfl, rfl, by omega⟩
    · rw [tk_last, t1]
      exact ⟨rfl, rfl, rfl, rfl⟩
  have T2 : Two (vs2 ++ [endK l2]) M vs2.length (vs.length + 4) true ⟨#[41]⟩ := by
    refine ⟨fun j hj => ?_, fun _ => ?_, Or.inl rfl, (fun h => by cases h)⟩
    · obtain ⟨x, hx⟩ : ∃ x, vs2[j]? = some x := ⟨_, List.getElem?_eq_getElem hj⟩
      have h1 : tk (vs2 ++ [endK l2]) j = x := tk_at (by rw [List.getElem?_append_left hj]; exact hx)
      rw [h1, tB j, tk_left (by rw [hB]; exact hj), tk_map hx]
      have := (hO2 j x hx).low
      exact ⟨rfl, rfl, rfl, by omega⟩
    · rw [tk_last, t4]
      exact ⟨rfl, rfl, rfl, rfl⟩
  exact lex_parse h (pipe_ok T1 T2 (lex_tok hlex).1 (lex_tok hlex2).1 (lex_tok h).1 (parse_lex hlex hp) (parse_lex hlex2 hp2) hlen (by rw [t0]) (by rw [t0]; rfl) (by rw [t2]) (by rw [t2]; rfl) (by rw [t3]) (by rw [t3]; rfl) (by rw [t5]))
end Go.Proofs.YthiempadgehhlaaGreatDoor
namespace Go.Proofs.YthiempadgehhlaaGreatDoor
open Go.RowKit
theorem name_all {nm : List UInt8} (h : nameS nm = true) : ∀ b ∈ nm, nmdB b = true := by
  intro b hb
  obtain ⟨i, hi, rfl⟩ := List.mem_iff_getElem.1 hb
  have hs := (nameS_split h).2.2
  exact span_all hi (Nat.zero_le _) (by rw [hs]; exact hi)
theorem while_app (p : UInt8 → Bool) : ∀ (nm rest : List UInt8), (∀ b ∈ nm, p b = true) → (∀ c r, rest = c :: r → p c = false) → (nm ++ rest).takeWhile p = nm
  | [], rest, _, hr => by
    cases rest with
    | nil => rfl
    | cons c r => rw [List.nil_append, List.takeWhile_cons, hr c r rfl]; rfl
  | b :: nm, rest, h, hr => by
    rw [List.cons_append, List.takeWhile_cons, if_pos (h b (by simp)), while_app p nm rest (fun x hx => h x (by simp [hx])) hr]
theorem name_span {T nm rest : List UInt8} {a : Nat} (h : T.drop a = nm ++ rest) (hn : nameS nm = true) (hr : ∀ c r, rest = c :: r → nmdB c = false) : span nmdB T a = a + nm.length ∧ sub T a (a + nm.length) = nm ∧ atF nameB T a = true := by
  obtain ⟨h0, h1, h2⟩ := nameS_split hn
  refine ⟨by unfold span; rw [h, while_app nmdB nm rest (name_all hn) hr], by unfold sub; rw [h, Nat.add_sub_cancel_left, List.take_left' rfl], ?_⟩
  obtain ⟨b, hb, hb2⟩ := atF_lt h0
  cases nm with
  | nil => simp at hb
  | cons x r =>
    simp at hb
    subst hb
    rw [atF_at (drop_at (c := x) (rest := r ++ rest) h).1]
    exact hb2
theorem name_tok {T nm rest : List UInt8} {a : Nat} (h : T.drop a = nm ++ rest) (hn : nameS nm = true) (hr : ∀ c r, rest = c :: r → nmdB c = false) : tokP T a = ⟨⟨if kwB nm = true then 2 else 1, a, bsF nm, 0⟩, a + nm.length, 0⟩ := by
  obtain ⟨h1, h2, h3⟩ := name_span h hn hr
  have h4 := (nameS_split hn).2.1
  unfold tokP
  rw [if_pos h3]
  unfold wordFP namedP wordK
  rw [h1, h2, if_neg (by omega)]
  rfl
theorem drop_tail {T r : List UInt8} {a : Nat} {c : UInt8} (h : T.drop a = c :: r) : T.drop (a + 1) = r := drop_more h
theorem var_tok {T nm rest : List UInt8} {a : Nat} (h : T.drop a = 36 :: (nm ++ rest)) (hn : nameS nm = true) (hr : ∀ c r, rest = c :: r → nmdB c = false) : tokP T a = ⟨⟨3, a, bsF nm, 0⟩, a + 1 + nm.length, 0⟩ := by
  have h0 := drop_at h
  obtain ⟨h1, h2, h3⟩ := name_span (drop_tail h) hn hr
  have h4 := (nameS_split hn).2.1
  unfold tokP
  rw [if_neg (by rw [atF_at h0.1]; decide), if_pos ⟨by unfold byt; rw [h0.1]; rfl, h3⟩]
  unfold namedP
  rw [h1, h2, if_neg (by omega)]
  rfl
theorem el_name {b : UInt8} (h : nmdB b = true) (r : List UInt8) : elP (b :: r) = .add b.toNat 1 ∧ enc b.toNat = [b] := by
  have hb : (48 ≤ b.toNat ∧ b.toNat ≤ 57) ∨ (97 ≤ b.toNat ∧ b.toNat ≤ 122) ∨ (65 ≤ b.toNat ∧ b.toNat ≤ 90) ∨ b.toNat = 95 := by
    unfold nmdB nameB digB at h
    simp at h
    omega
  constructor
  · rw [elP, if_neg (by omega), if_neg (by omega), if_neg (by omega)]
    have hd : dec (b :: r) = some (b.toNat, 1) := by
      unfold dec
      simp
      omega
    rw [hd]
  · unfold enc
    rw [if_pos (by omega)]
    simp
theorem scan_name {T : List UInt8} {k : Nat} (rest : List UInt8) : ∀ (nm : List UInt8) (i : Nat) (out : List UInt8), (∀ b ∈ nm, nmdB b = true) → T.drop i = nm ++ 34 :: rest → StrAt T k i out → StrAt T k (i + nm.length) (out ++ nm) ∧ T.drop (i + nm.length) = 34 :: rest
  | [], i, out, _, h, hs => by simpa using ⟨hs, h⟩
  | b :: nm, i, out, hn, h, hs => by
    obtain ⟨h1, h2⟩ := el_name (hn b (by simp)) (nm ++ 34 :: rest)
    have h3 := hs.next (by rw [h]; exact h1)
    rw [h2] at h3
    have h4 := scan_name rest nm (i + 1) (out ++ [b]) (fun x hx => hn x (by simp [hx])) (drop_more h) h3
    rw [List.append_assoc] at h4
    rw [show i + (b :: nm).length = i + 1 + nm.length by simp; omega]
    exact h4
theorem str_tok {T nm rest : List UInt8} {a : Nat} (h : T.drop a = 34 :: (nm ++ 34 :: rest)) (hn : nameS nm = true) : tokP T a = ⟨⟨6, a, bsF nm, 0⟩, a + 1 + nm.length + 1, 0⟩ := by
  have h0 := drop_at h
  have hby : byt T a = 34 := by unfold byt; rw [h0.1]; rfl
  have hlen := (nameS_split hn).2.1
  have hx : lexP T a = okX 4 a (a + 1 + nm.length + 1) 0 0 (bsF nm) := by
    unfold lexP
    rw [if_neg (by omega), Int.toNat_natCast, span_no h0.2 (by rw [(List.getElem?_eq_some_iff.1 h0.1).2]; decide)]
    unfold lexN
    rw [if_neg (by omega), h0.1]
    show (if signB 34 = true then _ else if letB 34 = true then _ else if byt T a = 45 ∨ digB 34 = true then _ else if byt T a = 34 then strP T a else _) = _
    rw [if_neg (by decide), if_neg (by decide), if_neg (by rw [hby]; decide), if_pos hby]
    obtain ⟨h1, h2⟩ := scan_name rest nm (a + 1) [] (name_all hn) (drop_more h) (StrAt.start h0.2)
    rw [h1.step, h2]
    show (if _ then _ else _) = _
    rw [if_pos (by simp; omega)]
    rfl
  unfold tokP
  rw [if_neg (by rw [atF_at h0.1]; decide), if_neg (by rw [hby]; omega), if_neg (by rw [hby]; omega), if_neg (by rw [atF_at h0.1]; decide), if_pos hby]
  unfold strFP
  rw [hx]
  rfl
theorem one_tok {T rest : List UInt8} {a : Nat} (h : T.drop a = 49 :: 125 :: rest) : tokP T a = ⟨⟨5, a, ⟨#[]⟩, 1⟩, a + 1, 0⟩ := by
  have h0 := drop_at h
  have h1 := drop_at (drop_more h)
  have hby : byt T a = 49 := by unfold byt; rw [h0.1]; rfl
  have hby1 : byt T (a + 1) = 125 := by unfold byt; rw [h1.1]; rfl
  have hs : span digB T a = a + 1 := by unfold span; rw [h]; rfl
  have hsub : sub T a (a + 1) = [49] := by unfold sub; rw [h, Nat.add_sub_cancel_left]; rfl
  unfold tokP
  rw [if_neg (by rw [atF_at h0.1]; decide), if_neg (by rw [hby]; omega), if_neg (by rw [hby]; omega), if_pos (by rw [atF_at h0.1]; decide)]
  unfold numFP
  rw [hs, if_neg (by omega), if_neg (by rw [atF_at h1.1]; unfold fracB; rw [hby1, show nameB 125 = false from rfl, decide_eq_false (by omega : ¬ (125 : Nat) = 46), Bool.false_and]; decide), hsub]
  rfl
theorem dot_tok {T rest : List UInt8} {a : Nat} (h : T.drop a = 46 :: 125 :: rest) : tokP T a = ⟨⟨7, a, bsF [46], 0⟩, a + 1, 0⟩ := by
  have h0 := drop_at h
  have h1 := drop_at (drop_more h)
  have hby : byt T a = 46 := by unfold byt; rw [h0.1]; rfl
  unfold tokP
  rw [if_neg (by rw [atF_at h0.1]; decide), if_neg (by rw [hby]; omega), if_neg (by rw [atF_at h1.1]; intro h; exact absurd h.2 (by decide)), if_neg (by rw [atF_at h0.1]; decide), if_neg (by rw [hby]; omega)]
  unfold signFP
  rw [h]
  rfl
theorem tok_step {T : List UInt8} {a q : Nat} {t : Fk} {ts : List Fk} (hF : FAt T a ts) (hn : ts.length < 2048) (ha : a < T.length) (ht : tokP T a = ⟨t, q, 0⟩) : FAt T (gapP T q) (ts ++ [t]) := by
  have h := (hF.next ha (by omega) (by rw [ht])).1
  rw [ht] at h
  exact h
theorem lone123 (r : List UInt8) : loneB 123 r = true := by rfl
theorem lone125 (r : List UInt8) : loneB 125 r = true := by rfl
theorem lone58 (r : List UInt8) : loneB 58 r = true := by rfl
theorem brace_start {r : List UInt8} (h : r.length ≤ 8000) : FAt (123 :: r) (gapP (123 :: r) 1) [⟨7, 0, bsF [123], 0⟩] := by
  have h0 : FAt (123 :: r) (gapP (123 :: r) 0) [] := FAt.start (by simp; omega)
  rw [gap_here (c := 123) (rest := r) rfl (by decide) (by decide)] at h0
  exact sign_step (ts := []) h0 (by simp) (c := 123) (rest := r) rfl (lone123 _)
theorem brace_end {T : List UInt8} {a : Nat} {ts : List Fk} (hF : FAt T a ts) (hn : ts.length < 2048) (h : T.drop a = [125]) : lexFP T = ⟨some (ts ++ [⟨7, a, bsF [125], 0⟩] ++ [⟨0, a + 1, ⟨#[]⟩, 0⟩]), 0, 0⟩ := by
  have hl : T.length = a + 1 := by
    have h1 := congrArg List.length h
    rw [List.length_drop] at h1
    simp at h1
    omega
  have h1 := sign_step hF hn h (lone125 _)
  rw [gap_end (by omega), hl] at h1
  have h2 := h1.done (by omega)
  rw [h2, hl]
theorem not_nmd (c0 : UInt8) (h : nmdB c0 = false) (r0 : List UInt8) : ∀ c r, c0 :: r0 = c :: r → nmdB c = false := by
  intro c r he
  injection he with h1 h2
  rw [← h1]; exact h
def ob0 (nm : List UInt8) : List UInt8 := 123 :: (nm ++ [125])
def ob1 (nm : List UInt8) : List UInt8 := 123 :: (34 :: (nm ++ 34 :: [125]))
def ob2 (nm : List UInt8) : List UInt8 := 123 :: (36 :: (nm ++ [125]))
def ob3 (nm : List UInt8) : List UInt8 := 123 :: (40 :: (34 :: (nm ++ 34 :: [41, 58, 32, 46, 125])))
def ob4 (nm : List UInt8) : List UInt8 := 123 :: (nm ++ [58, 32, 49, 125])
theorem gap_nm {T nm rest : List UInt8} {a : Nat} (h : T.drop a = nm ++ rest) (hn : nameS nm = true) (hr : ∀ c r, rest = c :: r → nmdB c = false) : gapP T a = a := gap_name (name_span h hn hr).2.2
theorem drop_app {T nm rest : List UInt8} {a : Nat} (h : T.drop a = nm ++ rest) : T.drop (a + nm.length) = rest := by
  rw [← List.drop_drop, h, List.drop_left]
theorem lt_of_app {T nm rest : List UInt8} {a : Nat} (h : T.drop a = nm ++ rest) (hn : nameS nm = true) : a < T.length := by
  obtain ⟨b, hb, hb2⟩ := atF_lt (nameS_split hn).1
  cases nm with
  | nil => simp at hb
  | cons x r => exact (drop_at (c := x) (rest := r ++ rest) h).2
section
variable {nm : List UInt8} (hn : nameS nm = true)
include hn
theorem lex_ob0 : lexFP (ob0 nm) = ⟨some [⟨7, 0, bsF [123], 0⟩, ⟨if kwB nm = true then 2 else 1, 1, bsF nm, 0⟩, ⟨7, 1 + nm.length, bsF [125], 0⟩, ⟨0, 1 + nm.length + 1, ⟨#[]⟩, 0⟩], 0, 0⟩ := by
  have hl := (nameS_split hn).2.1
  have h1 := brace_start (r := nm ++ [125]) (by simp; omega)
  have hd : (ob0 nm).drop 1 = nm ++ [125] := rfl
  have hr := not_nmd 125 (by decide) []
  change FAt (ob0 nm) (gapP (ob0 nm) 1) _ at h1
  rw [gap_nm hd hn hr] at h1
  have h2 := tok_step h1 (by simp) (lt_of_app hd hn) (name_tok hd hn hr)
  have hd2 := drop_app hd
  rw [gap_here (c := 125) (rest := []) hd2 (by decide) (by decide)] at h2
  exact brace_end h2 (by simp) hd2
theorem lex_ob1 : lexFP (ob1 nm) = ⟨some [⟨7, 0, bsF [123], 0⟩, ⟨6, 1, bsF nm, 0⟩, ⟨7, 1 + 1 + nm.length + 1, bsF [125], 0⟩, ⟨0, 1 + 1 + nm.length + 1 + 1, ⟨#[]⟩, 0⟩], 0, 0⟩ := by
  have hl := (nameS_split hn).2.1
  have h1 := brace_start (r := 34 :: (nm ++ 34 :: [125])) (by simp; omega)
  have hd : (ob1 nm).drop 1 = 34 :: (nm ++ 34 :: [125]) := rfl
  change FAt (ob1 nm) (gapP (ob1 nm) 1) _ at h1
  rw [gap_here hd (by decide) (by decide)] at h1
  have h2 := tok_step h1 (by simp) (drop_at hd).2 (str_tok hd hn)
  have hd2 := drop_more (drop_app (drop_more hd))
  rw [gap_here (c := 125) (rest := []) hd2 (by decide) (by decide)] at h2
  exact brace_end h2 (by simp) hd2
theorem lex_ob2 : lexFP (ob2 nm) = ⟨some [⟨7, 0, bsF [123], 0⟩, ⟨3, 1, bsF nm, 0⟩, ⟨7, 1 + 1 + nm.length, bsF [125], 0⟩, ⟨0, 1 + 1 + nm.length + 1, ⟨#[]⟩, 0⟩], 0, 0⟩ := by
  have hl := (nameS_split hn).2.1
  have h1 := brace_start (r := 36 :: (nm ++ [125])) (by simp; omega)
  have hd : (ob2 nm).drop 1 = 36 :: (nm ++ [125]) := rfl
  have hr := not_nmd 125 (by decide) []
  change FAt (ob2 nm) (gapP (ob2 nm) 1) _ at h1
  rw [gap_here hd (by decide) (by decide)] at h1
  have h2 := tok_step h1 (by simp) (drop_at hd).2 (var_tok hd hn hr)
  have hd2 := drop_app (drop_more hd)
  rw [gap_here (c := 125) (rest := []) hd2 (by decide) (by decide)] at h2
  exact brace_end h2 (by simp) hd2
theorem lex_ob3 : ∃ a b c d, lexFP (ob3 nm) = ⟨some [⟨7, 0, bsF [123], 0⟩, ⟨7, 1, bsF [40], 0⟩, ⟨6, 2, bsF nm, 0⟩, ⟨7, a, bsF [41], 0⟩, ⟨7, a + 1, bsF [58], 0⟩, ⟨7, b, bsF [46], 0⟩, ⟨7, c, bsF [125], 0⟩, ⟨0, d, ⟨#[]⟩, 0⟩], 0, 0⟩ := by
  have hl := (nameS_split hn).2.1
  have h1 := brace_start (r := 40 :: (34 :: (nm ++ 34 :: [41, 58, 32, 46, 125]))) (by simp; omega)
  have hd : (ob3 nm).drop 1 = 40 :: (34 :: (nm ++ 34 :: [41, 58, 32, 46, 125])) := rfl
  change FAt (ob3 nm) (gapP (ob3 nm) 1) _ at h1
  rw [gap_here hd (by decide) (by decide)] at h1
  have h2 := sign_step h1 (by simp) hd (lone40 _)
  have hd2 := drop_more hd
  rw [gap_here hd2 (by decide) (by decide)] at h2
  have h3 := tok_step h2 (by simp) (drop_at hd2).2 (str_tok hd2 hn)
  have hd3 := drop_more (drop_app (drop_more hd2))
  rw [gap_here hd3 (by decide) (by decide)] at h3
  have h4 := sign_step h3 (by simp) hd3 (lone41 _)
  have hd4 := drop_more hd3
  rw [gap_here hd4 (by decide) (by decide)] at h4
  have h5 := sign_step h4 (by simp) hd4 (lone58 _)
  have hd5 := drop_more hd4
  rw [gap_sp hd5 (by decide) (by decide)] at h5
  have hd6 := drop_more hd5
  have h6 := tok_step h5 (by simp) (drop_at hd6).2 (dot_tok hd6)
  have hd7 := drop_more hd6
  rw [gap_here hd7 (by decide) (by decide)] at h6
  exact ⟨_, _, _, _, brace_end h6 (by simp) hd7⟩
theorem lex_ob4 : ∃ a b c d, lexFP (ob4 nm) = ⟨some [⟨7, 0, bsF [123], 0⟩, ⟨if kwB nm = true then 2 else 1, 1, bsF nm, 0⟩, ⟨7, a, bsF [58], 0⟩, ⟨5, b, ⟨#[]⟩, 1⟩, ⟨7, c, bsF [125], 0⟩, ⟨0, d, ⟨#[]⟩, 0⟩], 0, 0⟩ := by
  have hl := (nameS_split hn).2.1
  have h1 := brace_start (r := nm ++ [58, 32, 49, 125]) (by simp; omega)
  have hd : (ob4 nm).drop 1 = nm ++ [58, 32, 49, 125] := rfl
  have hr := not_nmd 58 (by decide) [32, 49, 125]
  change FAt (ob4 nm) (gapP (ob4 nm) 1) _ at h1
  rw [gap_nm hd hn hr] at h1
  have h2 := tok_step h1 (by simp) (lt_of_app hd hn) (name_tok hd hn hr)
  have hd2 := drop_app hd
  rw [gap_here hd2 (by decide) (by decide)] at h2
  have h3 := sign_step h2 (by simp) hd2 (lone58 _)
  have hd3 := drop_more hd2
  rw [gap_sp hd3 (by decide) (by decide)] at h3
  have hd4 := drop_more hd3
  have h4 := tok_step h3 (by simp) (drop_at hd4).2 (one_tok hd4)
  have hd5 := drop_more hd4
  rw [gap_here hd5 (by decide) (by decide)] at h4
  exact ⟨_, _, _, _, brace_end h4 (by simp) hd5⟩
end
/-- An object of one entry. -/
theorem obj_prim {L : List Fk} {m : Nat} {σ τ : PS} {p : Ft × Ft} (hk : (tk L σ.k).k = 7) (hs : (tk L σ.k).s = ⟨#[123]⟩) (h1 : sees L ⟨#[125]⟩ (adv σ) = false) (h : entryM L (run L (m + 1)) (adv σ) = some (p, τ)) (h2 : sees L ⟨#[44]⟩ τ = false) (h3 : sees L ⟨#[125]⟩ τ = true) :
    run L (m + 2) .primary σ = some (nodeF 10 [p.1, p.2], adv τ) := by
  have hr : readP L σ = adv σ := by unfold readP; rw [if_neg (by omega)]
  show primM L (run L (m + 1)) (m + 1) σ = _
  unfold primM
  rw [if_neg (by omega), if_neg (by omega), if_neg (by omega), if_neg (by omega), if_neg (by omega), hr]
  unfold writtenM
  rw [hs]
  rw [if_neg (by decide), if_neg (by decide), if_neg (by decide), if_neg (by decide), if_neg (by decide), if_neg (by decide), if_neg (by decide), if_pos rfl]
  unfold objectM
  rw [if_neg (by rw [h1]; decide)]
  show bnd (entryM L (run L (m + 1)) (adv σ)) _ = _
  rw [h]
  show (if _ then _ else _) = _
  rw [if_neg (by rw [h2]; decide)]
  unfold needP
  rw [if_pos h3]
  rfl
theorem brace_plain {L : List Fk} {σ : PS} (hk : (tk L σ.k).k = 7) (hs : (tk L σ.k).s = ⟨#[123]⟩) : Plain L σ := by
  refine ⟨?_, ?_, ?_⟩ <;> (unfold sees isW; rw [hk, hs]; decide)
theorem name_not {nm : List UInt8} (hn : nameS nm = true) (c : UInt8) (hc : nameB c = false) : bsF nm ≠ ⟨#[c]⟩ := by
  intro h
  have h1 : (bsF nm).data.toList = (⟨#[c]⟩ : ByteArray).data.toList := by rw [h]
  rw [bsF_list] at h1
  have h2 : nm = [c] := h1
  obtain ⟨b, hb, hb2⟩ := atF_lt (nameS_split hn).1
  rw [h2] at hb
  simp at hb
  rw [← hb, hc] at hb2
  cases hb2
theorem sees_not {L : List Fk} {σ : PS} {x : ByteArray} (h : (tk L σ.k).s ≠ x) : sees L x σ = false := by
  unfold sees
  rw [decide_eq_false h, Bool.and_false]
abbrev oL0 (K n : Nat) (x : ByteArray) : List Fk := [⟨7, 0, bsF [123], 0⟩, ⟨K, 1, x, 0⟩, ⟨7, n, bsF [125], 0⟩, ⟨0, n + 1, ⟨#[]⟩, 0⟩]
abbrev oL4 (K a b c d : Nat) (x : ByteArray) : List Fk := [⟨7, 0, bsF [123], 0⟩, ⟨K, 1, x, 0⟩, ⟨7, a, bsF [58], 0⟩, ⟨5, b, ⟨#[]⟩, 1⟩, ⟨7, c, bsF [125], 0⟩, ⟨0, d, ⟨#[]⟩, 0⟩]
theorem parse_one {L : List Fk} {f : Ft} {τ : PS} {m : Nat} (hm : 40 * L.length = m) (h : run L m .filter ⟨0, 0, 0, false, 0⟩ = some (f, τ)) (h2 : (tk L τ.k).k = 0) (h3 : τ.e = 0) (h4 : τ.long = false) : parseT L = (f, 0, 0) := by
  unfold parseT
  rw [hm, h]
  have hk : kindS L 0 τ = τ := by
    unfold kindS readP
    rw [if_pos h2, if_pos h2]
  show (if (kindS L 0 τ).e = 0 then _ else _) = _
  rw [hk, if_pos h3, if_neg (by rw [h4]; decide)]
section
variable {nm : List UInt8} (hn : nameS nm = true)
include hn
theorem parse_ob0 : parseP (ob0 nm) = (nodeF 10 [textF (bsF nm), fieldF identF (bsF nm)], 0, 0) := by
  refine lex_parse (lex_ob0 hn) ?_
  have x1 := name_not hn 125 (by decide)
  have x2 := name_not hn 40 (by decide)
  obtain ⟨K, hK⟩ : ∃ K : Nat, (if kwB nm = true then 2 else 1) = K := ⟨_, rfl⟩
  have hK2 : K = 1 ∨ K = 2 := by rw [← hK]; split <;> simp
  rw [hK]
  generalize bsF nm = x at *
  generalize 1 + nm.length = n at *
  refine parse_one (m := 147 + 13) rfl (τ := ⟨3, 0, 0, false, 0⟩) (up_filter (m := 147) (τ := ⟨3, 0, 0, false, 0⟩) (brace_plain rfl rfl) (calm_end rfl).1 (calm_end rfl).2 ?_) rfl rfl rfl
  refine obj_prim (m := 146) (τ := ⟨2, 0, 0, false, 0⟩) (p := (textF x, fieldF identF x)) rfl rfl (sees_not x1) ?_ rfl rfl
  unfold entryM
  have y2 : sees (oL0 K n x) ⟨#[40]⟩ (adv ⟨0, 0, 0, false, 0⟩) = false := sees_not x2
  rw [if_neg (by rw [y2]; decide), if_neg (by show ¬ K = 3; omega), if_pos (by show K = 1 ∨ K = 2 ∨ K = 6; omega)]
  have hr : readP (oL0 K n x) (adv ⟨0, 0, 0, false, 0⟩) = ⟨2, 0, 0, false, 0⟩ := by
    unfold readP
    rw [if_neg (by show ¬ K = 0; omega)]
    rfl
  rw [hr]
  rfl
theorem parse_ob1 : parseP (ob1 nm) = (nodeF 10 [textF (bsF nm), fieldF identF (bsF nm)], 0, 0) := by
  refine lex_parse (lex_ob1 hn) ?_
  generalize bsF nm = x at *
  generalize 1 + 1 + nm.length + 1 = n at *
  kernel_rfl
theorem parse_ob2 : parseP (ob2 nm) = (nodeF 10 [textF (bsF nm), varF (bsF nm)], 0, 0) := by
  refine lex_parse (lex_ob2 hn) ?_
  generalize bsF nm = x at *
  generalize 1 + 1 + nm.length = n at *
  kernel_rfl
theorem parse_ob3 : parseP (ob3 nm) = (nodeF 10 [textF (bsF nm), identF], 0, 0) := by
  obtain ⟨a, b, c, d, h⟩ := lex_ob3 hn
  refine lex_parse h ?_
  generalize bsF nm = x at *
  kernel_rfl
theorem parse_ob4 : parseP (ob4 nm) = (nodeF 10 [textF (bsF nm), litF (.mk 3 1 ⟨#[]⟩ [] [])], 0, 0) := by
  obtain ⟨a, b, c, d, h⟩ := lex_ob4 hn
  refine lex_parse h ?_
  have x1 := name_not hn 125 (by decide)
  have x2 := name_not hn 40 (by decide)
  obtain ⟨K, hK⟩ : ∃ K : Nat, (if kwB nm = true then 2 else 1) = K := ⟨_, rfl⟩
  have hK2 : K = 1 ∨ K = 2 := by rw [← hK]; split <;> simp
  rw [hK]
  generalize bsF nm = x at *
  refine parse_one (m := 227 + 13) rfl (τ := ⟨5, 0, 0, false, 0⟩) (up_filter (m := 227) (τ := ⟨5, 0, 0, false, 0⟩) (brace_plain rfl rfl) (calm_end rfl).1 (calm_end rfl).2 ?_) rfl rfl rfl
  refine obj_prim (m := 226) (τ := ⟨4, 0, 0, false, 0⟩) (p := (textF x, litF (.mk 3 1 ⟨#[]⟩ [] []))) rfl rfl (sees_not x1) ?_ rfl rfl
  unfold entryM
  have y2 : sees (oL4 K a b c d x) ⟨#[40]⟩ (adv ⟨0, 0, 0, false, 0⟩) = false := sees_not x2
  rw [if_neg (by rw [y2]; decide), if_neg (by show ¬ K = 3; omega), if_pos (by show K = 1 ∨ K = 2 ∨ K = 6; omega)]
  have hr : readP (oL4 K a b c d x) (adv ⟨0, 0, 0, false, 0⟩) = ⟨2, 0, 0, false, 0⟩ := by
    unfold readP
    rw [if_neg (by show ¬ K = 0; omega)]
    rfl
  have y3 : sees (oL4 K a b c d x) ⟨#[58]⟩ ⟨2, 0, 0, false, 0⟩ = true := rfl
  rw [hr, if_pos y3]
  have hq : run (oL4 K a b c d x) 227 .alt ⟨3, 0, 0, false, 0⟩ = some (litF (.mk 3 1 ⟨#[]⟩ [] []), ⟨4, 0, 0, false, 0⟩) := by kernel_rfl
  show bnd (run _ 227 .alt ⟨3, 0, 0, false, 0⟩) _ = _
  rw [hq]
  rfl
end
end Go.Proofs.YthiempadgehhlaaGreatDoor

/- The parser: foreach. -/
import Derived.Test.YthiempadgehhlaaGreatDoorYf
import Derived.Test.YthiempadgehhlaaGreatDoorYc
set_option linter.unusedVariables false
set_option linter.unusedSectionVars false
set_option linter.unusedSimpArgs false
namespace Go.Proofs.YthiempadgehhlaaGreatDoor
open Go.RowKit
section
variable {S : Nat → Prop} {L : List Fk} {gt C g : Nat} {w w' w0 : World} {σ τ : PS} {bs : List (Nat × Array Value)} {ts : List (Ft × List Value)} {t : Ft} {cs : List Value}
theorem St.set9 {q : Nat} {c0 c1 c2 c3 c4 c5 c6 c7 c8 : Value} (h : St S L gt C g w0 w σ ((q, #[c0, c1, c2, c3, c4, c5, c6, c7, c8]) :: bs) ts) (hne : ∀ x ∈ bs, x.1 ≠ q) (u0 u1 u2 u3 u4 u5 u6 u7 u8 : Value) :
    St S L gt C g w0 (((((((((w.setCell ⟨q, 0, none⟩ u0).setCell ⟨q, 1, none⟩ u1).setCell ⟨q, 2, none⟩ u2).setCell ⟨q, 3, none⟩ u3).setCell ⟨q, 4, none⟩ u4).setCell ⟨q, 5, none⟩ u5).setCell ⟨q, 6, none⟩ u6).setCell ⟨q, 7, none⟩ u7).setCell ⟨q, 8, none⟩ u8) σ ((q, #[u0, u1, u2, u3, u4, u5, u6, u7, u8]) :: bs) ts := by
  have h0 := h.set hne 0 u0 (ds := #[u0, c1, c2, c3, c4, c5, c6, c7, c8]) rfl
  have h1 := h0.set hne 1 u1 (ds := #[u0, u1, c2, c3, c4, c5, c6, c7, c8]) rfl
  have h2 := h1.set hne 2 u2 (ds := #[u0, u1, u2, c3, c4, c5, c6, c7, c8]) rfl
  have h3 := h2.set hne 3 u3 (ds := #[u0, u1, u2, u3, c4, c5, c6, c7, c8]) rfl
  have h4 := h3.set hne 4 u4 (ds := #[u0, u1, u2, u3, u4, c5, c6, c7, c8]) rfl
  have h5 := h4.set hne 5 u5 (ds := #[u0, u1, u2, u3, u4, u5, c6, c7, c8]) rfl
  have h6 := h5.set hne 6 u6 (ds := #[u0, u1, u2, u3, u4, u5, u6, c7, c8]) rfl
  have h7 := h6.set hne 7 u7 (ds := #[u0, u1, u2, u3, u4, u5, u6, u7, c8]) rfl
  have h8 := h7.set hne 8 u8 (ds := #[u0, u1, u2, u3, u4, u5, u6, u7, u8]) rfl
  exact h8
theorem St.boxAt (h : St S L gt C g w0 w σ bs ts) (cs : Array Value) {q : Nat} (hq : w.heap.size = q) : St S L gt C g w0 (w.alloc (.cells cs 32)) σ ((q, cs) :: bs) ts := by subst hq; exact h.box cs
theorem St.only (h : St S L gt C g w0 w σ bs ts) {x : Ft × List Value} (hx : x ∈ ts) : St S L gt C g w0 w σ bs [x] :=
  ⟨h.r, h.hS, h.b, fun y hy => by rw [List.mem_singleton.1 hy]; exact h.t x hx⟩
end
/-- Behind the node of a foreach. -/
def FeSt (L : List Fk) (gt C g : Nat) (w0 : World) (σ : PS) (qq : Nat) (cs : Array Value) (nm : ByteArray) (fs : List Ft) (t5 : Value) (wx : World) : Prop := ∃ q5 h5 : Nat, t5 = .pointer (some ⟨q5, 0, none⟩) ∧ qq < q5 ∧ St noS L gt C g w0 wx σ [(q5, #[.int .i64 21, .string nm, .int .i64 0, .int .i64 0, .string ⟨#[]⟩, .slice none 0 0, .slice none 0 0, .slice none 0 0, .slice (some ⟨h5, 0, none⟩) 3 3]), (qq, cs)] [(.mk 21 nm vz [] fs, [.int .i64 21, .string nm, .int .i64 0, .int .i64 0, .string ⟨#[]⟩, .slice none 0 0, .slice none 0 0, .slice none 0 0, .slice (some ⟨h5, 0, none⟩) 3 3])]
set_option maxHeartbeats 10000000 in
set_option maxRecDepth 100000 in
theorem foreach_any {L : List Fk} (hL : TokL L) {gt C g : Nat} {call : Ru → PM} (hA : OkA L gt C g call) (W : World) (σ τ : PS) (t : Ft) (hP : PAt L gt C g W σ) (hm : foreachM L call σ = some (t, τ)) :
    Calls Tryz.prog 164 #[.pointer (some ⟨g, 0, none⟩)] W (RetF L gt C g W t τ) := by
  obtain ⟨⟨f1, nm⟩, σ1, h1, h2⟩ := bnd_some hm
  obtain ⟨f2, σ2, h3, h4⟩ := bnd_some h2
  obtain ⟨f3, σ3, h5, h6⟩ := bnd_some h4
  have H0 := Lib.hid (St.begin hP)
  have HSZ : Hid (nm.size ≤ 140737488355328) := Lib.hid (source_size hL h1)
  have HC1 := Lib.hid (fun W (h : PAt L gt C g W σ) => source_any hL hA W _ σ1 f1 nm h h1)
  have HC2 := Lib.hid (fun W (h : PAt L gt C g W σ1) => before_any hL hA (⟨#[59]⟩ : ByteArray) W _ σ2 f2 h h3)
  have HC3 := Lib.hid (fun W h => hA .filter W _ f3 σ3 h h5)
  have HC4 := Lib.hid (hA .filter)
  have HID := Lib.hid (fun W => ident_any W)
  have HT := Lib.hid (fun W b hb (h : PAt L gt C g W σ3) => take_any hL (⟨#[59]⟩ : ByteArray) b hb h)
  have HN := Lib.hid (fun W σ (h : PAt L gt C g W σ) => need_any hL (⟨#[41]⟩ : ByteArray) h)
  have HM := Lib.hid h6
  clear hP hA hm h1 h2 h3 h4 h5 h6
  go_enter Tryz.func164, Tryz.ntmps164
  go_wp2_with fail
  refine (HC1.out _ H0.out.r.p).mono ?_
  rintro e w1 ⟨c10, c11, c12, c13, c14, c15, c16, c17, c18, rfl, hg1, hp1, hl1⟩
  obtain ⟨op1, tx1, k1, j1, s1, A1, na1, ma1, B1, nb1, mb1, C1, nc1, mc1, D1, nd1, md1, rfl, rfl, rfl, rfl, rfl, rfl, rfl, rfl, rfl⟩ := liesF_form hl1
  have H1 := Lib.hid ((H0.out.call hg1 hp1 hl1).box #[.int .i64 op1, .string tx1, .int .i64 k1, .int .i64 j1, .string s1, .slice A1 na1 ma1, .slice B1 nb1 mb1, .slice C1 nc1 mc1, .slice D1 nd1 md1])
  clear hg1 hp1 hl1
  go_upto_region 2 with (fail)
  generalize w1.alloc (.cells #[.int .i64 op1, .string tx1, .int .i64 k1, .int .i64 j1, .string s1, .slice A1 na1 ma1, .slice B1 nb1 mb1, .slice C1 nc1 mc1, .slice D1 nd1 md1] 32) = wa at H1 ⊢
  generalize w1.heap.size = qq at H1 ⊢
  have HQ : Hid (W.heap.size < qq) := Lib.hid (by have := (H1.out.b (qq, #[.int .i64 op1, .string tx1, .int .i64 k1, .int .i64 j1, .string s1, .slice A1 na1 ma1, .slice B1 nb1 mb1, .slice C1 nc1 mc1, .slice D1 nd1 md1]) (by simp)).1; exact this)
  go_cut [5] (fun t5 wx => Hid (FeSt L gt C g W σ3 qq #[.int .i64 op1, .string tx1, .int .i64 k1, .int .i64 j1, .string s1, .slice A1 na1 ma1, .slice B1 nb1 mb1, .slice C1 nc1 mc1, .slice D1 nd1 md1] nm [f1, f2, f3] t5 wx))
  case first =>
    rename_i Jm Km hRJ hMet
    have keep : Hid (∀ X σ bs ts, (qq, #[.int .i64 op1, .string tx1, .int .i64 k1, .int .i64 j1, .string s1, .slice A1 na1 ma1, .slice B1 nb1 mb1, .slice C1 nc1 mc1, .slice D1 nd1 md1]) ∈ bs → St noS L gt C g W X σ bs ts → X.cell? ⟨qq, 0, none⟩ = some (.int .i64 op1) ∧ X.cell? ⟨qq, 1, none⟩ = some (.string tx1) ∧ X.cell? ⟨qq, 2, none⟩ = some (.int .i64 k1) ∧ X.cell? ⟨qq, 3, none⟩ = some (.int .i64 j1) ∧ X.cell? ⟨qq, 4, none⟩ = some (.string s1) ∧ X.cell? ⟨qq, 5, none⟩ = some (.slice A1 na1 ma1) ∧ X.cell? ⟨qq, 6, none⟩ = some (.slice B1 nb1 mb1) ∧ X.cell? ⟨qq, 7, none⟩ = some (.slice C1 nc1 mc1) ∧ X.cell? ⟨qq, 8, none⟩ = some (.slice D1 nd1 md1)) := Lib.hid fun X σ bs ts hm hX => box9 (hX.bx hm)
    refine wp_region_noPanic ?_
    refine wp_region_held_drew (S := fun X => X.cell? ⟨qq, 0, none⟩ = some (.int .i64 op1) ∧ X.cell? ⟨qq, 1, none⟩ = some (.string tx1) ∧ X.cell? ⟨qq, 2, none⟩ = some (.int .i64 k1) ∧ X.cell? ⟨qq, 3, none⟩ = some (.int .i64 j1) ∧ X.cell? ⟨qq, 4, none⟩ = some (.string s1) ∧ X.cell? ⟨qq, 5, none⟩ = some (.slice A1 na1 ma1) ∧ X.cell? ⟨qq, 6, none⟩ = some (.slice B1 nb1 mb1) ∧ X.cell? ⟨qq, 7, none⟩ = some (.slice C1 nc1 mc1) ∧ X.cell? ⟨qq, 8, none⟩ = some (.slice D1 nd1 md1)) (by kernel_rfl) (keep.out _ _ _ _ (by simp) H1.out.drew) (fun hHeld => ?_)
    refine wpAnyH_take (i := 0) (v := ?_) rfl (by kernel_rfl) (by kernel_rfl) (by kernel_rfl) (fun _ _ _ h => h) (Or.inl ⟨by rfl, ?ytka0⟩) (by assumption) ?_
    case ytka0 => (intro w hSw; (try dsimp only at hSw); go_simp <;> with_reducible rfl)
    try simp only [Act.put, List.setIfInBounds_toArray, List.set_cons_zero, List.set_cons_succ]
    refine wpAnyH_take (i := 1) (v := ?_) rfl (by kernel_rfl) (by kernel_rfl) (by kernel_rfl) (fun _ _ _ h => h) (Or.inl ⟨by rfl, ?ytka1⟩) (by assumption) ?_
    case ytka1 => (intro w hSw; (try dsimp only at hSw); go_simp <;> with_reducible rfl)
    try simp only [Act.put, List.setIfInBounds_toArray, List.set_cons_zero, List.set_cons_succ]
    refine wpAnyH_take (i := 2) (v := ?_) rfl (by kernel_rfl) (by kernel_rfl) (by kernel_rfl) (fun _ _ _ h => h) (Or.inl ⟨by rfl, ?ytka2⟩) (by assumption) ?_
    case ytka2 => (intro w hSw; (try dsimp only at hSw); go_simp <;> with_reducible rfl)
    try simp only [Act.put, List.setIfInBounds_toArray, List.set_cons_zero, List.set_cons_succ]
    refine wpAnyH_take (i := 4) (v := ?_) rfl (by kernel_rfl) (by kernel_rfl) (by kernel_rfl) (fun _ _ _ h => h) (Or.inl ⟨by rfl, ?ytka3⟩) (by assumption) ?_
    case ytka3 => (intro w hSw; (try dsimp only at hSw); go_simp <;> with_reducible rfl)
    try simp only [Act.put, List.setIfInBounds_toArray, List.set_cons_zero, List.set_cons_succ]
    refine wpAnyH_ready (rs := [3, 8]) (by kernel_rfl) (by simp) ?_
    refine AllReadyH.cons rfl (fun Kc hK => ?_) (AllReadyH.cons rfl (fun Kc hK => ?_) (AllReadyH.nil))
    · skip
      go_simp
      refine (HC2.out _ H1.out.drew.r.p).mono ?_
      rintro e w2 ⟨c20, c21, c22, c23, c24, c25, c26, c27, c28, rfl, hg2, hp2, hl2⟩
      obtain ⟨op2, tx2, k2, j2, s2, A2, na2, ma2, B2, nb2, mb2, C2, nc2, mc2, D2, nd2, md2, rfl, rfl, rfl, rfl, rfl, rfl, rfl, rfl, rfl⟩ := liesF_form hl2
      have H2 := Lib.hid (H1.out.drew.call hg2 hp2 hl2)
      clear hg2 hp2 hl2
      refine hK.out _ _ (keep.out _ _ _ _ (by simp) H2.out) (fun hHeld => ?_)
      clear hK Kc
      try simp only [Act.put, List.setIfInBounds_toArray, List.set_cons_zero, List.set_cons_succ]
      refine wpAnyH_ready (rs := [5, 8]) (by kernel_rfl) (by simp) ?_
      refine AllReadyH.cons rfl (fun Kc hK => ?_) (AllReadyH.cons rfl (fun Kc hK => ?_) (AllReadyH.nil))
      · skip
        go_simp
        refine (HC3.out _ H2.out.r.p).mono ?_
        rintro e w3 ⟨c30, c31, c32, c33, c34, c35, c36, c37, c38, rfl, hg3, hp3, hl3⟩
        obtain ⟨op3, tx3, k3, j3, s3, A3, na3, ma3, B3, nb3, mb3, C3, nc3, mc3, D3, nd3, md3, rfl, rfl, rfl, rfl, rfl, rfl, rfl, rfl, rfl⟩ := liesF_form hl3
        have H3 := Lib.hid (H2.out.call hg3 hp3 hl3)
        clear hg3 hp3 hl3
        refine hK.out _ _ (keep.out _ _ _ _ (by simp) H3.out) (fun hHeld => ?_)
        clear hK Kc
        try simp only [Act.put, List.setIfInBounds_toArray, List.set_cons_zero, List.set_cons_succ]
        refine wpAnyH_ready (rs := [6, 8]) (by kernel_rfl) (by simp) ?_
        refine AllReadyH.cons rfl (fun Kc hK => ?_) (AllReadyH.cons rfl (fun Kc hK => ?_) (AllReadyH.nil))
        · skip
          go_simp
          have H4 := Lib.hid (H3.out.node 21 nm HSZ.out (fs := [f1, f2, f3]) (row := #[.int .i64 op1, .string tx1, .int .i64 k1, .int .i64 j1, .string s1, .slice A1 na1 ma1, .slice B1 nb1 mb1, .slice C1 nc1 mc1, .slice D1 nd1 md1, .int .i64 op2, .string tx2, .int .i64 k2, .int .i64 j2, .string s2, .slice A2 na2 ma2, .slice B2 nb2 mb2, .slice C2 nc2 mc2, .slice D2 nd2 md2, .int .i64 op3, .string tx3, .int .i64 k3, .int .i64 j3, .string s3, .slice A3 na3 ma3, .slice B3 nb3 mb3, .slice C3 nc3 mc3, .slice D3 nd3 md3]) rfl (by simp) (LiesFL.append (LiesFL.one (H3.out.t (f1, [.int .i64 op1, .string tx1, .int .i64 k1, .int .i64 j1, .string s1, .slice A1 na1 ma1, .slice B1 nb1 mb1, .slice C1 nc1 mc1, .slice D1 nd1 md1]) (by simp))) (LiesFL.append (LiesFL.one (H3.out.t (f2, [.int .i64 op2, .string tx2, .int .i64 k2, .int .i64 j2, .string s2, .slice A2 na2 ma2, .slice B2 nb2 mb2, .slice C2 nc2 mc2, .slice D2 nd2 md2]) (by simp))) (LiesFL.one (H3.out.t (f3, [.int .i64 op3, .string tx3, .int .i64 k3, .int .i64 j3, .string s3, .slice A3 na3 ma3, .slice B3 nb3 mb3, .slice C3 nc3 mc3, .slice D3 nd3 md3]) (by simp))))) (q := w3.heap.size) (by simp))
          refine hK.out _ _ (keep.out _ _ _ _ (by simp) H4.out) (fun hHeld => ?_)
          clear hK Kc
          try simp only [Act.put, List.setIfInBounds_toArray, List.set_cons_zero, List.set_cons_succ]
          refine wpAnyH_take (i := 7) (v := ?_) rfl (by kernel_rfl) (by kernel_rfl) (by kernel_rfl) (fun _ _ _ h => h) (Or.inl ⟨by rfl, ?ytkx1⟩) (by assumption) ?_
          case ytkx1 => (intro w hSw; (try dsimp only at hSw); go_simp <;> with_reducible rfl)
          try simp only [Act.put, List.setIfInBounds_toArray, List.set_cons_zero, List.set_cons_succ]
          refine wpAnyH_ready (rs := [8]) (by kernel_rfl) (by simp) ?_
          refine AllReadyH.cons rfl (fun Kc hK => ?_) (AllReadyH.nil)
          go_simp
          have H5 := Lib.hid (H4.out.boxAt #[.int .i64 0, .string ⟨#[]⟩, .int .i64 0, .int .i64 0, .string ⟨#[]⟩, .slice none 0 0, .slice none 0 0, .slice none 0 0, .slice none 0 0] (q := w3.heap.size + 1) (by simp))
          have hq5 : qq < w3.heap.size + 1 := by have := (H4.out.bx (q := qq) (c := #[.int .i64 op1, .string tx1, .int .i64 k1, .int .i64 j1, .string s1, .slice A1 na1 ma1, .slice B1 nb1 mb1, .slice C1 nc1 mc1, .slice D1 nd1 md1]) (by simp)).lt; simpa using this
          refine hK.out _ _ (keep.out _ _ _ _ (by simp) H5.out) (fun hHeld => ?_)
          clear hK Kc
          try simp only [Act.put, List.setIfInBounds_toArray, List.set_cons_zero, List.set_cons_succ]
          refine wpAnyH_ready (rs := [9]) (by kernel_rfl) (by simp) ?_
          refine AllReadyH.cons rfl (fun Kc hK => ?_) (AllReadyH.nil)
          have HS0 := Lib.hid (H3.out.node 21 nm HSZ.out (fs := [f1, f2, f3]) (row := #[.int .i64 op1, .string tx1, .int .i64 k1, .int .i64 j1, .string s1, .slice A1 na1 ma1, .slice B1 nb1 mb1, .slice C1 nc1 mc1, .slice D1 nd1 md1, .int .i64 op2, .string tx2, .int .i64 k2, .int .i64 j2, .string s2, .slice A2 na2 ma2, .slice B2 nb2 mb2, .slice C2 nc2 mc2, .slice D2 nd2 md2, .int .i64 op3, .string tx3, .int .i64 k3, .int .i64 j3, .string s3, .slice A3 na3 ma3, .slice B3 nb3 mb3, .slice C3 nc3 mc3, .slice D3 nd3 md3]) rfl (by simp) (LiesFL.append (LiesFL.one (H3.out.t (f1, [.int .i64 op1, .string tx1, .int .i64 k1, .int .i64 j1, .string s1, .slice A1 na1 ma1, .slice B1 nb1 mb1, .slice C1 nc1 mc1, .slice D1 nd1 md1]) (by simp))) (LiesFL.append (LiesFL.one (H3.out.t (f2, [.int .i64 op2, .string tx2, .int .i64 k2, .int .i64 j2, .string s2, .slice A2 na2 ma2, .slice B2 nb2 mb2, .slice C2 nc2 mc2, .slice D2 nd2 md2]) (by simp))) (LiesFL.one (H3.out.t (f3, [.int .i64 op3, .string tx3, .int .i64 k3, .int .i64 j3, .string s3, .slice A3 na3 ma3, .slice B3 nb3 mb3, .slice C3 nc3 mc3, .slice D3 nd3 md3]) (by simp))))) (q := w3.heap.size) (by simp))
          have H6 := Lib.hid (HS0.out.boxAt #[.int .i64 21, .string nm, .int .i64 0, .int .i64 0, .string ⟨#[]⟩, .slice none 0 0, .slice none 0 0, .slice none 0 0, .slice (some ⟨w3.heap.size, 0, none⟩) 3 3] (q := w3.heap.size + 1) (by simp))
          go_simp
          refine hK.out _ _ (keep.out _ _ _ _ (by simp) H6.out) (fun hHeld => ?_)
          clear hK Kc
          try simp only [Act.put, List.setIfInBounds_toArray, List.set_cons_zero, List.set_cons_succ]
          refine wpAnyH_done (by kernel_rfl) ?_ _
          refine NoPanic.normal ?_
          refine hMet _ _ (Met.intro (hRJ _ _ ?_))
          (repeat apply Exists.intro)
          exact ⟨Lib.hid ⟨_, _, rfl, hq5, H6.out.only (by first | exact List.mem_cons_self | simp)⟩, rfl⟩
        · skip
          go_simp
          have H4 := Lib.hid (H3.out.boxAt #[.int .i64 0, .string ⟨#[]⟩, .int .i64 0, .int .i64 0, .string ⟨#[]⟩, .slice none 0 0, .slice none 0 0, .slice none 0 0, .slice none 0 0] (q := w3.heap.size) (by simp))
          have hq5 : qq < w3.heap.size := by have := (H3.out.bx (q := qq) (c := #[.int .i64 op1, .string tx1, .int .i64 k1, .int .i64 j1, .string s1, .slice A1 na1 ma1, .slice B1 nb1 mb1, .slice C1 nc1 mc1, .slice D1 nd1 md1]) (by simp)).lt; simpa using this
          refine hK.out _ _ (keep.out _ _ _ _ (by simp) H4.out) (fun hHeld => ?_)
          clear hK Kc
          try simp only [Act.put, List.setIfInBounds_toArray, List.set_cons_zero, List.set_cons_succ]
          refine wpAnyH_ready (rs := [6]) (by kernel_rfl) (by simp) ?_
          refine AllReadyH.cons rfl (fun Kc hK => ?_) (AllReadyH.nil)
          go_simp
          have H5 := Lib.hid (H4.out.node 21 nm HSZ.out (fs := [f1, f2, f3]) (row := #[.int .i64 op1, .string tx1, .int .i64 k1, .int .i64 j1, .string s1, .slice A1 na1 ma1, .slice B1 nb1 mb1, .slice C1 nc1 mc1, .slice D1 nd1 md1, .int .i64 op2, .string tx2, .int .i64 k2, .int .i64 j2, .string s2, .slice A2 na2 ma2, .slice B2 nb2 mb2, .slice C2 nc2 mc2, .slice D2 nd2 md2, .int .i64 op3, .string tx3, .int .i64 k3, .int .i64 j3, .string s3, .slice A3 na3 ma3, .slice B3 nb3 mb3, .slice C3 nc3 mc3, .slice D3 nd3 md3]) rfl (by simp) (LiesFL.append (LiesFL.one (H4.out.t (f1, [.int .i64 op1, .string tx1, .int .i64 k1, .int .i64 j1, .string s1, .slice A1 na1 ma1, .slice B1 nb1 mb1, .slice C1 nc1 mc1, .slice D1 nd1 md1]) (by simp))) (LiesFL.append (LiesFL.one (H4.out.t (f2, [.int .i64 op2, .string tx2, .int .i64 k2, .int .i64 j2, .string s2, .slice A2 na2 ma2, .slice B2 nb2 mb2, .slice C2 nc2 mc2, .slice D2 nd2 md2]) (by simp))) (LiesFL.one (H4.out.t (f3, [.int .i64 op3, .string tx3, .int .i64 k3, .int .i64 j3, .string s3, .slice A3 na3 ma3, .slice B3 nb3 mb3, .slice C3 nc3 mc3, .slice D3 nd3 md3]) (by simp))))) (q := w3.heap.size + 1) (by simp))
          refine hK.out _ _ (keep.out _ _ _ _ (by simp) H5.out) (fun hHeld => ?_)
          clear hK Kc
          try simp only [Act.put, List.setIfInBounds_toArray, List.set_cons_zero, List.set_cons_succ]
          refine wpAnyH_take (i := 7) (v := ?_) rfl (by kernel_rfl) (by kernel_rfl) (by kernel_rfl) (fun _ _ _ h => h) (Or.inl ⟨by rfl, ?ytkx2⟩) (by assumption) ?_
          case ytkx2 => (intro w hSw; (try dsimp only at hSw); go_simp <;> with_reducible rfl)
          try simp only [Act.put, List.setIfInBounds_toArray, List.set_cons_zero, List.set_cons_succ]
          refine wpAnyH_ready (rs := [9]) (by kernel_rfl) (by simp) ?_
          refine AllReadyH.cons rfl (fun Kc hK => ?_) (AllReadyH.nil)
          have HS0 := Lib.hid (H3.out.boxAt #[.int .i64 21, .string nm, .int .i64 0, .int .i64 0, .string ⟨#[]⟩, .slice none 0 0, .slice none 0 0, .slice none 0 0, .slice (some ⟨w3.heap.size + 1, 0, none⟩) 3 3] (q := w3.heap.size) (by simp))
          have H6 := Lib.hid (HS0.out.node 21 nm HSZ.out (fs := [f1, f2, f3]) (row := #[.int .i64 op1, .string tx1, .int .i64 k1, .int .i64 j1, .string s1, .slice A1 na1 ma1, .slice B1 nb1 mb1, .slice C1 nc1 mc1, .slice D1 nd1 md1, .int .i64 op2, .string tx2, .int .i64 k2, .int .i64 j2, .string s2, .slice A2 na2 ma2, .slice B2 nb2 mb2, .slice C2 nc2 mc2, .slice D2 nd2 md2, .int .i64 op3, .string tx3, .int .i64 k3, .int .i64 j3, .string s3, .slice A3 na3 ma3, .slice B3 nb3 mb3, .slice C3 nc3 mc3, .slice D3 nd3 md3]) rfl (by simp) (LiesFL.append (LiesFL.one (HS0.out.t (f1, [.int .i64 op1, .string tx1, .int .i64 k1, .int .i64 j1, .string s1, .slice A1 na1 ma1, .slice B1 nb1 mb1, .slice C1 nc1 mc1, .slice D1 nd1 md1]) (by simp))) (LiesFL.append (LiesFL.one (HS0.out.t (f2, [.int .i64 op2, .string tx2, .int .i64 k2, .int .i64 j2, .string s2, .slice A2 na2 ma2, .slice B2 nb2 mb2, .slice C2 nc2 mc2, .slice D2 nd2 md2]) (by simp))) (LiesFL.one (HS0.out.t (f3, [.int .i64 op3, .string tx3, .int .i64 k3, .int .i64 j3, .string s3, .slice A3 na3 ma3, .slice B3 nb3 mb3, .slice C3 nc3 mc3, .slice D3 nd3 md3]) (by simp))))) (q := w3.heap.size + 1) (by simp))
          go_simp
          refine hK.out _ _ (keep.out _ _ _ _ (by simp) H6.out) (fun hHeld => ?_)
          clear hK Kc
          try simp only [Act.put, List.setIfInBounds_toArray, List.set_cons_zero, List.set_cons_succ]
          refine wpAnyH_done (by kernel_rfl) ?_ _
          refine NoPanic.normal ?_
          refine hMet _ _ (Met.intro (hRJ _ _ ?_))
          (repeat apply Exists.intro)
          exact ⟨Lib.hid ⟨_, _, rfl, hq5, H6.out.only (by first | exact List.mem_cons_self | simp)⟩, rfl⟩
      · skip
        go_simp
        have H3 := Lib.hid (H2.out.boxAt #[.int .i64 0, .string ⟨#[]⟩, .int .i64 0, .int .i64 0, .string ⟨#[]⟩, .slice none 0 0, .slice none 0 0, .slice none 0 0, .slice none 0 0] (q := w2.heap.size) (by simp))
        have hq5 : qq < w2.heap.size := by have := (H2.out.bx (q := qq) (c := #[.int .i64 op1, .string tx1, .int .i64 k1, .int .i64 j1, .string s1, .slice A1 na1 ma1, .slice B1 nb1 mb1, .slice C1 nc1 mc1, .slice D1 nd1 md1]) (by simp)).lt; simpa using this
        refine hK.out _ _ (keep.out _ _ _ _ (by simp) H3.out) (fun hHeld => ?_)
        clear hK Kc
        try simp only [Act.put, List.setIfInBounds_toArray, List.set_cons_zero, List.set_cons_succ]
        refine wpAnyH_ready (rs := [5]) (by kernel_rfl) (by simp) ?_
        refine AllReadyH.cons rfl (fun Kc hK => ?_) (AllReadyH.nil)
        go_simp
        refine (HC3.out _ H3.out.r.p).mono ?_
        rintro e w4 ⟨c30, c31, c32, c33, c34, c35, c36, c37, c38, rfl, hg4, hp4, hl4⟩
        obtain ⟨op3, tx3, k3, j3, s3, A3, na3, ma3, B3, nb3, mb3, C3, nc3, mc3, D3, nd3, md3, rfl, rfl, rfl, rfl, rfl, rfl, rfl, rfl, rfl⟩ := liesF_form hl4
        have H4 := Lib.hid (H3.out.call hg4 hp4 hl4)
        clear hg4 hp4 hl4
        refine hK.out _ _ (keep.out _ _ _ _ (by simp) H4.out) (fun hHeld => ?_)
        clear hK Kc
        try simp only [Act.put, List.setIfInBounds_toArray, List.set_cons_zero, List.set_cons_succ]
        refine wpAnyH_ready (rs := [6]) (by kernel_rfl) (by simp) ?_
        refine AllReadyH.cons rfl (fun Kc hK => ?_) (AllReadyH.nil)
        go_simp
        have H5 := Lib.hid (H4.out.node 21 nm HSZ.out (fs := [f1, f2, f3]) (row := #[.int .i64 op1, .string tx1, .int .i64 k1, .int .i64 j1, .string s1, .slice A1 na1 ma1, .slice B1 nb1 mb1, .slice C1 nc1 mc1, .slice D1 nd1 md1, .int .i64 op2, .string tx2, .int .i64 k2, .int .i64 j2, .string s2, .slice A2 na2 ma2, .slice B2 nb2 mb2, .slice C2 nc2 mc2, .slice D2 nd2 md2, .int .i64 op3, .string tx3, .int .i64 k3, .int .i64 j3, .string s3, .slice A3 na3 ma3, .slice B3 nb3 mb3, .slice C3 nc3 mc3, .slice D3 nd3 md3]) rfl (by simp) (LiesFL.append (LiesFL.one (H4.out.t (f1, [.int .i64 op1, .string tx1, .int .i64 k1, .int .i64 j1, .string s1, .slice A1 na1 ma1, .slice B1 nb1 mb1, .slice C1 nc1 mc1, .slice D1 nd1 md1]) (by simp))) (LiesFL.append (LiesFL.one (H4.out.t (f2, [.int .i64 op2, .string tx2, .int .i64 k2, .int .i64 j2, .string s2, .slice A2 na2 ma2, .slice B2 nb2 mb2, .slice C2 nc2 mc2, .slice D2 nd2 md2]) (by simp))) (LiesFL.one (H4.out.t (f3, [.int .i64 op3, .string tx3, .int .i64 k3, .int .i64 j3, .string s3, .slice A3 na3 ma3, .slice B3 nb3 mb3, .slice C3 nc3 mc3, .slice D3 nd3 md3]) (by simp))))) (q := w4.heap.size) (by simp))
        refine hK.out _ _ (keep.out _ _ _ _ (by simp) H5.out) (fun hHeld => ?_)
        clear hK Kc
        try simp only [Act.put, List.setIfInBounds_toArray, List.set_cons_zero, List.set_cons_succ]
        refine wpAnyH_take (i := 7) (v := ?_) rfl (by kernel_rfl) (by kernel_rfl) (by kernel_rfl) (fun _ _ _ h => h) (Or.inl ⟨by rfl, ?ytkx3⟩) (by assumption) ?_
        case ytkx3 => (intro w hSw; (try dsimp only at hSw); go_simp <;> with_reducible rfl)
        try simp only [Act.put, List.setIfInBounds_toArray, List.set_cons_zero, List.set_cons_succ]
        refine wpAnyH_ready (rs := [9]) (by kernel_rfl) (by simp) ?_
        refine AllReadyH.cons rfl (fun Kc hK => ?_) (AllReadyH.nil)
        have HS0 := Lib.hid (H4.out.set9 (by intro x hx; simp at hx; subst hx; exact Nat.ne_of_lt hq5) (.int .i64 21) (.string nm) (.int .i64 0) (.int .i64 0) (.string ⟨#[]⟩) (.slice none 0 0) (.slice none 0 0) (.slice none 0 0) (.slice (some ⟨w4.heap.size, 0, none⟩) 3 3))
        have H6 := Lib.hid (HS0.out.node 21 nm HSZ.out (fs := [f1, f2, f3]) (row := #[.int .i64 op1, .string tx1, .int .i64 k1, .int .i64 j1, .string s1, .slice A1 na1 ma1, .slice B1 nb1 mb1, .slice C1 nc1 mc1, .slice D1 nd1 md1, .int .i64 op2, .string tx2, .int .i64 k2, .int .i64 j2, .string s2, .slice A2 na2 ma2, .slice B2 nb2 mb2, .slice C2 nc2 mc2, .slice D2 nd2 md2, .int .i64 op3, .string tx3, .int .i64 k3, .int .i64 j3, .string s3, .slice A3 na3 ma3, .slice B3 nb3 mb3, .slice C3 nc3 mc3, .slice D3 nd3 md3]) rfl (by simp) (LiesFL.append (LiesFL.one (HS0.out.t (f1, [.int .i64 op1, .string tx1, .int .i64 k1, .int .i64 j1, .string s1, .slice A1 na1 ma1, .slice B1 nb1 mb1, .slice C1 nc1 mc1, .slice D1 nd1 md1]) (by simp))) (LiesFL.append (LiesFL.one (HS0.out.t (f2, [.int .i64 op2, .string tx2, .int .i64 k2, .int .i64 j2, .string s2, .slice A2 na2 ma2, .slice B2 nb2 mb2, .slice C2 nc2 mc2, .slice D2 nd2 md2]) (by simp))) (LiesFL.one (HS0.out.t (f3, [.int .i64 op3, .string tx3, .int .i64 k3, .int .i64 j3, .string s3, .slice A3 na3 ma3, .slice B3 nb3 mb3, .slice C3 nc3 mc3, .slice D3 nd3 md3]) (by simp))))) (q := w4.heap.size) (by rw [size9]))
        obtain ⟨v0, v1, v2, v3, v4, v5, v6, v7, v8⟩ := box9 (H4.out.bx (q := w2.heap.size) (c := #[.int .i64 0, .string ⟨#[]⟩, .int .i64 0, .int .i64 0, .string ⟨#[]⟩, .slice none 0 0, .slice none 0 0, .slice none 0 0, .slice none 0 0]) (by simp))
        obtain ⟨z0, z1, z2, z3, z4, z5, z6, z7, z8⟩ := box9f (H4.out.bx (q := w2.heap.size) (c := #[.int .i64 0, .string ⟨#[]⟩, .int .i64 0, .int .i64 0, .string ⟨#[]⟩, .slice none 0 0, .slice none 0 0, .slice none 0 0, .slice none 0 0]) (by simp))
        have hlq := (H4.out.bx (q := w2.heap.size) (c := #[.int .i64 0, .string ⟨#[]⟩, .int .i64 0, .int .i64 0, .string ⟨#[]⟩, .slice none 0 0, .slice none 0 0, .slice none 0 0, .slice none 0 0]) (by simp)).lt
        go_simp
        refine hK.out _ _ (keep.out _ _ _ _ (by simp) H6.out) (fun hHeld => ?_)
        clear hK Kc
        try simp only [Act.put, List.setIfInBounds_toArray, List.set_cons_zero, List.set_cons_succ]
        refine wpAnyH_done (by kernel_rfl) ?_ _
        refine NoPanic.normal ?_
        refine hMet _ _ (Met.intro (hRJ _ _ ?_))
        (repeat apply Exists.intro)
        exact ⟨Lib.hid ⟨_, _, rfl, hq5, H6.out.only (by first | exact List.mem_cons_self | simp)⟩, rfl⟩
    · skip
      go_simp
      have H2 := Lib.hid (H1.out.drew.boxAt #[.int .i64 0, .string ⟨#[]⟩, .int .i64 0, .int .i64 0, .string ⟨#[]⟩, .slice none 0 0, .slice none 0 0, .slice none 0 0, .slice none 0 0] (q := wa.heap.size) (by simp))
      have hq5 : qq < wa.heap.size := by have := (H1.out.drew.bx (q := qq) (c := #[.int .i64 op1, .string tx1, .int .i64 k1, .int .i64 j1, .string s1, .slice A1 na1 ma1, .slice B1 nb1 mb1, .slice C1 nc1 mc1, .slice D1 nd1 md1]) (by simp)).lt; simpa using this
      refine hK.out _ _ (keep.out _ _ _ _ (by simp) H2.out) (fun hHeld => ?_)
      clear hK Kc
      try simp only [Act.put, List.setIfInBounds_toArray, List.set_cons_zero, List.set_cons_succ]
      refine wpAnyH_ready (rs := [3]) (by kernel_rfl) (by simp) ?_
      refine AllReadyH.cons rfl (fun Kc hK => ?_) (AllReadyH.nil)
      go_simp
      refine (HC2.out _ H2.out.r.p).mono ?_
      rintro e w3 ⟨c20, c21, c22, c23, c24, c25, c26, c27, c28, rfl, hg3, hp3, hl3⟩
      obtain ⟨op2, tx2, k2, j2, s2, A2, na2, ma2, B2, nb2, mb2, C2, nc2, mc2, D2, nd2, md2, rfl, rfl, rfl, rfl, rfl, rfl, rfl, rfl, rfl⟩ := liesF_form hl3
      have H3 := Lib.hid (H2.out.call hg3 hp3 hl3)
      clear hg3 hp3 hl3
      refine hK.out _ _ (keep.out _ _ _ _ (by simp) H3.out) (fun hHeld => ?_)
      clear hK Kc
      try simp only [Act.put, List.setIfInBounds_toArray, List.set_cons_zero, List.set_cons_succ]
      refine wpAnyH_ready (rs := [5]) (by kernel_rfl) (by simp) ?_
      refine AllReadyH.cons rfl (fun Kc hK => ?_) (AllReadyH.nil)
      go_simp
      refine (HC3.out _ H3.out.r.p).mono ?_
      rintro e w4 ⟨c30, c31, c32, c33, c34, c35, c36, c37, c38, rfl, hg4, hp4, hl4⟩
      obtain ⟨op3, tx3, k3, j3, s3, A3, na3, ma3, B3, nb3, mb3, C3, nc3, mc3, D3, nd3, md3, rfl, rfl, rfl, rfl, rfl, rfl, rfl, rfl, rfl⟩ := liesF_form hl4
      have H4 := Lib.hid (H3.out.call hg4 hp4 hl4)
      clear hg4 hp4 hl4
      refine hK.out _ _ (keep.out _ _ _ _ (by simp) H4.out) (fun hHeld => ?_)
      clear hK Kc
      try simp only [Act.put, List.setIfInBounds_toArray, List.set_cons_zero, List.set_cons_succ]
      refine wpAnyH_ready (rs := [6]) (by kernel_rfl) (by simp) ?_
      refine AllReadyH.cons rfl (fun Kc hK => ?_) (AllReadyH.nil)
      go_simp
      have H5 := Lib.hid (H4.out.node 21 nm HSZ.out (fs := [f1, f2, f3]) (row := #[.int .i64 op1, .string tx1, .int .i64 k1, .int .i64 j1, .string s1, .slice A1 na1 ma1, .slice B1 nb1 mb1, .slice C1 nc1 mc1, .slice D1 nd1 md1, .int .i64 op2, .string tx2, .int .i64 k2, .int .i64 j2, .string s2, .slice A2 na2 ma2, .slice B2 nb2 mb2, .slice C2 nc2 mc2, .slice D2 nd2 md2, .int .i64 op3, .string tx3, .int .i64 k3, .int .i64 j3, .string s3, .slice A3 na3 ma3, .slice B3 nb3 mb3, .slice C3 nc3 mc3, .slice D3 nd3 md3]) rfl (by simp) (LiesFL.append (LiesFL.one (H4.out.t (f1, [.int .i64 op1, .string tx1, .int .i64 k1, .int .i64 j1, .string s1, .slice A1 na1 ma1, .slice B1 nb1 mb1, .slice C1 nc1 mc1, .slice D1 nd1 md1]) (by simp))) (LiesFL.append (LiesFL.one (H4.out.t (f2, [.int .i64 op2, .string tx2, .int .i64 k2, .int .i64 j2, .string s2, .slice A2 na2 ma2, .slice B2 nb2 mb2, .slice C2 nc2 mc2, .slice D2 nd2 md2]) (by simp))) (LiesFL.one (H4.out.t (f3, [.int .i64 op3, .string tx3, .int .i64 k3, .int .i64 j3, .string s3, .slice A3 na3 ma3, .slice B3 nb3 mb3, .slice C3 nc3 mc3, .slice D3 nd3 md3]) (by simp))))) (q := w4.heap.size) (by simp))
      refine hK.out _ _ (keep.out _ _ _ _ (by simp) H5.out) (fun hHeld => ?_)
      clear hK Kc
      try simp only [Act.put, List.setIfInBounds_toArray, List.set_cons_zero, List.set_cons_succ]
      refine wpAnyH_take (i := 7) (v := ?_) rfl (by kernel_rfl) (by kernel_rfl) (by kernel_rfl) (fun _ _ _ h => h) (Or.inl ⟨by rfl, ?ytkx4⟩) (by assumption) ?_
      case ytkx4 => (intro w hSw; (try dsimp only at hSw); go_simp <;> with_reducible rfl)
      try simp only [Act.put, List.setIfInBounds_toArray, List.set_cons_zero, List.set_cons_succ]
      refine wpAnyH_ready (rs := [9]) (by kernel_rfl) (by simp) ?_
      refine AllReadyH.cons rfl (fun Kc hK => ?_) (AllReadyH.nil)
      have HS0 := Lib.hid (H4.out.set9 (by intro x hx; simp at hx; subst hx; exact Nat.ne_of_lt hq5) (.int .i64 21) (.string nm) (.int .i64 0) (.int .i64 0) (.string ⟨#[]⟩) (.slice none 0 0) (.slice none 0 0) (.slice none 0 0) (.slice (some ⟨w4.heap.size, 0, none⟩) 3 3))
      have H6 := Lib.hid (HS0.out.node 21 nm HSZ.out (fs := [f1, f2, f3]) (row := #[.int .i64 op1, .string tx1, .int .i64 k1, .int .i64 j1, .string s1, .slice A1 na1 ma1, .slice B1 nb1 mb1, .slice C1 nc1 mc1, .slice D1 nd1 md1, .int .i64 op2, .string tx2, .int .i64 k2, .int .i64 j2, .string s2, .slice A2 na2 ma2, .slice B2 nb2 mb2, .slice C2 nc2 mc2, .slice D2 nd2 md2, .int .i64 op3, .string tx3, .int .i64 k3, .int .i64 j3, .string s3, .slice A3 na3 ma3, .slice B3 nb3 mb3, .slice C3 nc3 mc3, .slice D3 nd3 md3]) rfl (by simp) (LiesFL.append (LiesFL.one (HS0.out.t (f1, [.int .i64 op1, .string tx1, .int .i64 k1, .int .i64 j1, .string s1, .slice A1 na1 ma1, .slice B1 nb1 mb1, .slice C1 nc1 mc1, .slice D1 nd1 md1]) (by simp))) (LiesFL.append (LiesFL.one (HS0.out.t (f2, [.int .i64 op2, .string tx2, .int .i64 k2, .int .i64 j2, .string s2, .slice A2 na2 ma2, .slice B2 nb2 mb2, .slice C2 nc2 mc2, .slice D2 nd2 md2]) (by simp))) (LiesFL.one (HS0.out.t (f3, [.int .i64 op3, .string tx3, .int .i64 k3, .int .i64 j3, .string s3, .slice A3 na3 ma3, .slice B3 nb3 mb3, .slice C3 nc3 mc3, .slice D3 nd3 md3]) (by simp))))) (q := w4.heap.size) (by rw [size9]))
      obtain ⟨v0, v1, v2, v3, v4, v5, v6, v7, v8⟩ := box9 (H4.out.bx (q := wa.heap.size) (c := #[.int .i64 0, .string ⟨#[]⟩, .int .i64 0, .int .i64 0, .string ⟨#[]⟩, .slice none 0 0, .slice none 0 0, .slice none 0 0, .slice none 0 0]) (by simp))
      obtain ⟨z0, z1, z2, z3, z4, z5, z6, z7, z8⟩ := box9f (H4.out.bx (q := wa.heap.size) (c := #[.int .i64 0, .string ⟨#[]⟩, .int .i64 0, .int .i64 0, .string ⟨#[]⟩, .slice none 0 0, .slice none 0 0, .slice none 0 0, .slice none 0 0]) (by simp))
      have hlq := (H4.out.bx (q := wa.heap.size) (c := #[.int .i64 0, .string ⟨#[]⟩, .int .i64 0, .int .i64 0, .string ⟨#[]⟩, .slice none 0 0, .slice none 0 0, .slice none 0 0, .slice none 0 0]) (by simp)).lt
      go_simp
      refine hK.out _ _ (keep.out _ _ _ _ (by simp) H6.out) (fun hHeld => ?_)
      clear hK Kc
      try simp only [Act.put, List.setIfInBounds_toArray, List.set_cons_zero, List.set_cons_succ]
      refine wpAnyH_done (by kernel_rfl) ?_ _
      refine NoPanic.normal ?_
      refine hMet _ _ (Met.intro (hRJ _ _ ?_))
      (repeat apply Exists.intro)
      exact ⟨Lib.hid ⟨_, _, rfl, hq5, H6.out.only (by first | exact List.mem_cons_self | simp)⟩, rfl⟩
  case rest =>
    obtain ⟨q5, h5, rfl, hq5, HS⟩ := hcut.out
    clear hcut H1 HC1 HC2 HC3
    have HS := Lib.hid HS
    have hne65 : ∀ q6, q5 < q6 → ¬ q6 = q5 := fun q6 h => by omega
    have HM2 := HM.out
    obtain ⟨b, hb⟩ : ∃ b, sees L (⟨#[59]⟩ : ByteArray) σ3 = b := ⟨_, rfl⟩
    have HB := Lib.hid hb
    rw [hb] at HM2
    try dsimp only at HM2
    clear hb HM
    cases b with
    | false =>
      rw [if_neg (by decide)] at HM2
      injection HM2 with h1
      injection h1 with h3 h4
      subst h3; subst h4
      go_wp2_with fail
      refine (HID.out _).mono ?_
      rintro e w3 ⟨rfl, hb3⟩
      have hq63 : q5 < w3.heap.size := by have := (HS.out.bx (q := q5) (c := #[.int .i64 21, .string nm, .int .i64 0, .int .i64 0, .string ⟨#[]⟩, .slice none 0 0, .slice none 0 0, .slice none 0 0, .slice (some ⟨h5, 0, none⟩) 3 3]) (by simp)).lt; have := hb3.size; omega
      have H3 := Lib.hid (((HS.out.low hb3).leaf 1 ⟨#[]⟩ 0 0 ⟨#[]⟩ (by decide) (by decide)).box #[.int .i64 1, .string ⟨#[]⟩, .int .i64 0, .int .i64 0, .string ⟨#[]⟩, .slice none 0 0, .slice none 0 0, .slice none 0 0, .slice none 0 0])
      clear hb3
      go_wp2_with fail
      generalize w3.alloc (.cells #[.int .i64 1, .string ⟨#[]⟩, .int .i64 0, .int .i64 0, .string ⟨#[]⟩, .slice none 0 0, .slice none 0 0, .slice none 0 0, .slice none 0 0] 32) = w3a at H3 ⊢
      generalize w3.heap.size = q6 at H3 hq63 ⊢
      refine (HT.out _ _ HB.out H3.out.r.p).mono ?_
      rintro e w4 ⟨rfl, hg4, hp4⟩
      have H4 := Lib.hid (H3.out.next hg4 hp4)
      clear hg4 hp4
      go_wp2_with fail
      refine (HN.out _ _ H4.out.r.p).mono ?_
      rintro e w5 ⟨rfl, hg5, hp5⟩
      have H5 := Lib.hid (H4.out.next hg5 hp5)
      clear hg5 hp5
      obtain ⟨xs, hxl, hfl, -, -, -, hRx, hLx⟩ := H5.out.subs (op := 21) (tx := nm) (fs := [f1, f2, f3]) (A := some ⟨h5, 0, none⟩) (n := 3) (m := 3) (by simp)
      have HAP := Lib.hid (hRx.move (Own.gr H5.out (Gr.one w5 (.cells #[.int .i64 1, .string ⟨#[]⟩, .int .i64 0, .int .i64 0, .string ⟨#[]⟩, .slice none 0 0, .slice none 0 0, .slice none 0 0, .slice none 0 0] 32)))).holds
      have HXL := Lib.hid hxl
      have HG := Lib.hid (fun v w' ho hg => H5.out.grown (w' := w') 21 nm HSZ.out (f := identF) (n := 3) (row := #[.int .i64 1, .string ⟨#[]⟩, .int .i64 0, .int .i64 0, .string ⟨#[]⟩, .slice none 0 0, .slice none 0 0, .slice none 0 0, .slice none 0 0]) (v := v) hfl (by omega) hLx (H5.out.t (identF, [.int .i64 1, .string ⟨#[]⟩, .int .i64 0, .int .i64 0, .string ⟨#[]⟩, .slice none 0 0, .slice none 0 0, .slice none 0 0, .slice none 0 0]) (by first | exact List.mem_cons_self | exact List.mem_cons_of_mem _ List.mem_cons_self | simp)) ho hg)
      obtain ⟨i0, hi, hz0, hz1, hz2⟩ := infoF inf_fi
      obtain ⟨y0, y1, y2, y3, y4, y5, y6, y7, y8⟩ := box9 (H5.out.bx (q := q5) (c := #[.int .i64 21, .string nm, .int .i64 0, .int .i64 0, .string ⟨#[]⟩, .slice none 0 0, .slice none 0 0, .slice none 0 0, .slice (some ⟨h5, 0, none⟩) 3 3]) (by simp))
      obtain ⟨v0, v1, v2, v3, v4, v5, v6, v7, v8⟩ := box9 (H5.out.bx (q := q6) (c := #[.int .i64 1, .string ⟨#[]⟩, .int .i64 0, .int .i64 0, .string ⟨#[]⟩, .slice none 0 0, .slice none 0 0, .slice none 0 0, .slice none 0 0]) (by simp))
      clear hxl hfl hRx hLx
      go_wp2_with (at_builtin; refine wpList_append_grows _ rfl _ _ 30 rfl 32 i0 (.agg #[.int .i64 0, .string ⟨#[]⟩, .int .i64 0, .int .i64 0, .string ⟨#[]⟩, .slice none 0 0, .slice none 0 0, .slice none 0 0, .slice none 0 0]) 9 152 Tryz.underlying30 hi hz0 hz1 hz2 rfl (by decide) (some ⟨h5, 0, none⟩) 3 3 xs rfl (fun e => by simp at e) HXL.out HAP.out ⟨w5.heap.size, 0, none⟩ 1 1 [.int .i64 1, .string ⟨#[]⟩, .int .i64 0, .int .i64 0, .string ⟨#[]⟩, .slice none 0 0, .slice none 0 0, .slice none 0 0, .slice none 0 0] rfl rfl (new9 _ _ #[.int .i64 1, .string ⟨#[]⟩, .int .i64 0, .int .i64 0, .string ⟨#[]⟩, .slice none 0 0, .slice none 0 0, .slice none 0 0, .slice none 0 0] rfl) (one9 _ _ _ _ _ _ _ _ _ _ _ _ _ _ _ _ _) (by omega) (by unfold maxLen; omega) (by omega) ?_; intro v7 w7 hown7 hgr7; obtain ⟨A7, c7, rfl, h7⟩ := HG.out _ _ hown7 hgr7; have H7 := Lib.hid h7; clear h7 hown7 hgr7; obtain ⟨a0, a1, a2, a3, a4, a5, a6, a7, a8⟩ := box9 (H7.out.bx (q := q5) (c := #[.int .i64 21, .string nm, .int .i64 0, .int .i64 0, .string ⟨#[]⟩, .slice none 0 0, .slice none 0 0, .slice none 0 0, .slice (some ⟨h5, 0, none⟩) 3 3]) (by simp)); have f8 := (H7.out.bx (q := q5) (c := #[.int .i64 21, .string nm, .int .i64 0, .int .i64 0, .string ⟨#[]⟩, .slice none 0 0, .slice none 0 0, .slice none 0 0, .slice (some ⟨h5, 0, none⟩) 3 3]) (by simp)).free 8; obtain ⟨⟨x0, x1, x2, x3, x4, x5, x6, x7, x8⟩, z0, z1, z2, z3, z4, z5, z6, z7, z8⟩ := H7.out.r.cells; have hWq : ¬ q5 = W.heap.size := by have := (H7.out.b (q5, #[.int .i64 21, .string nm, .int .i64 0, .int .i64 0, .string ⟨#[]⟩, .slice none 0 0, .slice none 0 0, .slice none 0 0, .slice (some ⟨h5, 0, none⟩) 3 3]) (by simp)).1; dsimp only at this; omega)
      have H8 := Lib.hid ((H7.out.perm (bs' := [(q5, #[.int .i64 21, .string nm, .int .i64 0, .int .i64 0, .string ⟨#[]⟩, .slice none 0 0, .slice none 0 0, .slice none 0 0, .slice (some ⟨h5, 0, none⟩) 3 3]), (q6, #[.int .i64 1, .string ⟨#[]⟩, .int .i64 0, .int .i64 0, .string ⟨#[]⟩, .slice none 0 0, .slice none 0 0, .slice none 0 0, .slice none 0 0]), (qq, #[.int .i64 op1, .string tx1, .int .i64 k1, .int .i64 j1, .string s1, .slice A1 na1 ma1, .slice B1 nb1 mb1, .slice C1 nc1 mc1, .slice D1 nd1 md1])]) (by intro x; simp [or_left_comm])).set (by intro x hx; simp at hx; rcases hx with rfl | rfl; exact hne65 _ hq63; exact Nat.ne_of_lt hq5) 8 (.slice A7 (3 + 1) c7) rfl)
      refine post9 Tryz.results164 rfl rfl (H8.out.r.r.put9z _ _ _ _ _ _ _ _ _) ?_
      exact retF_of (H8.out.close List.mem_cons_self)
    | true =>
      rw [if_pos rfl] at HM2
      obtain ⟨f4, σ4, h1, h2⟩ := bnd_some HM2
      injection h2 with h2
      injection h2 with h3 h4
      subst h3; subst h4
      have HCF := Lib.hid (fun W h => HC4.out W _ f4 σ4 h h1)
      clear HM2 h1
      go_wp2_with fail
      refine (HID.out _).mono ?_
      rintro e w3 ⟨rfl, hb3⟩
      have hq63 : q5 < w3.heap.size := by have := (HS.out.bx (q := q5) (c := #[.int .i64 21, .string nm, .int .i64 0, .int .i64 0, .string ⟨#[]⟩, .slice none 0 0, .slice none 0 0, .slice none 0 0, .slice (some ⟨h5, 0, none⟩) 3 3]) (by simp)).lt; have := hb3.size; omega
      have H3 := Lib.hid (((HS.out.low hb3).leaf 1 ⟨#[]⟩ 0 0 ⟨#[]⟩ (by decide) (by decide)).box #[.int .i64 1, .string ⟨#[]⟩, .int .i64 0, .int .i64 0, .string ⟨#[]⟩, .slice none 0 0, .slice none 0 0, .slice none 0 0, .slice none 0 0])
      clear hb3
      go_wp2_with fail
      generalize w3.alloc (.cells #[.int .i64 1, .string ⟨#[]⟩, .int .i64 0, .int .i64 0, .string ⟨#[]⟩, .slice none 0 0, .slice none 0 0, .slice none 0 0, .slice none 0 0] 32) = w3a at H3 ⊢
      generalize w3.heap.size = q6 at H3 hq63 ⊢
      refine (HT.out _ _ HB.out H3.out.r.p).mono ?_
      rintro e w4 ⟨rfl, hg4, hp4⟩
      have H4 := Lib.hid (H3.out.next hg4 hp4)
      clear hg4 hp4
      have hc6 := H4.out.bx (q := q6) (c := #[.int .i64 1, .string ⟨#[]⟩, .int .i64 0, .int .i64 0, .string ⟨#[]⟩, .slice none 0 0, .slice none 0 0, .slice none 0 0, .slice none 0 0]) (by simp)
      have hlt6 := hc6.lt
      have HC6 := Lib.hid hc6
      clear hc6
      go_wp2_with fail
      refine (HCF.out _ H4.out.r.p).mono ?_
      rintro e w5 ⟨c40, c41, c42, c43, c44, c45, c46, c47, c48, rfl, hg5, hp5, hl5⟩
      obtain ⟨op4, tx4, k4, j4, s4, A4, na4, ma4, B4, nb4, mb4, C4, nc4, mc4, D4, nd4, md4, rfl, rfl, rfl, rfl, rfl, rfl, rfl, rfl, rfl⟩ := liesF_form hl5
      have H5 := Lib.hid (H4.out.call hg5 hp5 hl5)
      obtain ⟨v0, v1, v2, v3, v4, v5, v6, v7, v8⟩ := box9 (H5.out.bx (q := q6) (c := #[.int .i64 1, .string ⟨#[]⟩, .int .i64 0, .int .i64 0, .string ⟨#[]⟩, .slice none 0 0, .slice none 0 0, .slice none 0 0, .slice none 0 0]) (by simp))
      obtain ⟨d0, d1, d2, d3, d4, d5, d6, d7, d8⟩ := box9f (H5.out.bx (q := q6) (c := #[.int .i64 1, .string ⟨#[]⟩, .int .i64 0, .int .i64 0, .string ⟨#[]⟩, .slice none 0 0, .slice none 0 0, .slice none 0 0, .slice none 0 0]) (by simp))
      have H6 := Lib.hid (H5.out.set9 (by intro x hx; simp at hx; rcases hx with rfl | rfl; exact Nat.ne_of_lt hq63; exact Nat.ne_of_lt (Nat.lt_trans hq5 hq63)) (.int .i64 op4) (.string tx4) (.int .i64 k4) (.int .i64 j4) (.string s4) (.slice A4 na4 ma4) (.slice B4 nb4 mb4) (.slice C4 nc4 mc4) (.slice D4 nd4 md4))
      clear hg5 hp5 hl5
      go_wp2_with fail
      refine (HN.out _ _ H6.out.r.p).mono ?_
      rintro e w7' ⟨rfl, hg7, hp7⟩
      have H7' := Lib.hid (H6.out.next hg7 hp7)
      clear hg7 hp7
      obtain ⟨xs, hxl, hfl, -, -, -, hRx, hLx⟩ := H7'.out.subs (op := 21) (tx := nm) (fs := [f1, f2, f3]) (A := some ⟨h5, 0, none⟩) (n := 3) (m := 3) (by simp)
      have HAP := Lib.hid (hRx.move (Own.gr H7'.out (Gr.one w7' (.cells #[.int .i64 op4, .string tx4, .int .i64 k4, .int .i64 j4, .string s4, .slice A4 na4 ma4, .slice B4 nb4 mb4, .slice C4 nc4 mc4, .slice D4 nd4 md4] 32)))).holds
      have HXL := Lib.hid hxl
      have HG := Lib.hid (fun v w' ho hg => H7'.out.grown (w' := w') 21 nm HSZ.out (f := f4) (n := 3) (row := #[.int .i64 op4, .string tx4, .int .i64 k4, .int .i64 j4, .string s4, .slice A4 na4 ma4, .slice B4 nb4 mb4, .slice C4 nc4 mc4, .slice D4 nd4 md4]) (v := v) hfl (by omega) hLx (H7'.out.t (f4, [.int .i64 op4, .string tx4, .int .i64 k4, .int .i64 j4, .string s4, .slice A4 na4 ma4, .slice B4 nb4 mb4, .slice C4 nc4 mc4, .slice D4 nd4 md4]) (by first | exact List.mem_cons_self | exact List.mem_cons_of_mem _ List.mem_cons_self | simp)) ho hg)
      obtain ⟨i0, hi, hz0, hz1, hz2⟩ := infoF inf_fi
      obtain ⟨y0, y1, y2, y3, y4, y5, y6, y7, y8⟩ := box9 (H7'.out.bx (q := q5) (c := #[.int .i64 21, .string nm, .int .i64 0, .int .i64 0, .string ⟨#[]⟩, .slice none 0 0, .slice none 0 0, .slice none 0 0, .slice (some ⟨h5, 0, none⟩) 3 3]) (by simp))
      obtain ⟨v0, v1, v2, v3, v4, v5, v6, v7, v8⟩ := box9 (H7'.out.bx (q := q6) (c := #[.int .i64 op4, .string tx4, .int .i64 k4, .int .i64 j4, .string s4, .slice A4 na4 ma4, .slice B4 nb4 mb4, .slice C4 nc4 mc4, .slice D4 nd4 md4]) (by simp))
      clear hxl hfl hRx hLx
      go_wp2_with (at_builtin; refine wpList_append_grows _ rfl _ _ 30 rfl 32 i0 (.agg #[.int .i64 0, .string ⟨#[]⟩, .int .i64 0, .int .i64 0, .string ⟨#[]⟩, .slice none 0 0, .slice none 0 0, .slice none 0 0, .slice none 0 0]) 9 152 Tryz.underlying30 hi hz0 hz1 hz2 rfl (by decide) (some ⟨h5, 0, none⟩) 3 3 xs rfl (fun e => by simp at e) HXL.out HAP.out ⟨w7'.heap.size, 0, none⟩ 1 1 [.int .i64 op4, .string tx4, .int .i64 k4, .int .i64 j4, .string s4, .slice A4 na4 ma4, .slice B4 nb4 mb4, .slice C4 nc4 mc4, .slice D4 nd4 md4] rfl rfl (new9 _ _ #[.int .i64 op4, .string tx4, .int .i64 k4, .int .i64 j4, .string s4, .slice A4 na4 ma4, .slice B4 nb4 mb4, .slice C4 nc4 mc4, .slice D4 nd4 md4] rfl) (one9 _ _ _ _ _ _ _ _ _ _ _ _ _ _ _ _ _) (by omega) (by unfold maxLen; omega) (by omega) ?_; intro v7 w7 hown7 hgr7; obtain ⟨A7, c7, rfl, h7⟩ := HG.out _ _ hown7 hgr7; have H7q := Lib.hid h7; clear h7 hown7 hgr7; obtain ⟨a0, a1, a2, a3, a4, a5, a6, a7, a8⟩ := box9 (H7q.out.bx (q := q5) (c := #[.int .i64 21, .string nm, .int .i64 0, .int .i64 0, .string ⟨#[]⟩, .slice none 0 0, .slice none 0 0, .slice none 0 0, .slice (some ⟨h5, 0, none⟩) 3 3]) (by simp)); have f8 := (H7q.out.bx (q := q5) (c := #[.int .i64 21, .string nm, .int .i64 0, .int .i64 0, .string ⟨#[]⟩, .slice none 0 0, .slice none 0 0, .slice none 0 0, .slice (some ⟨h5, 0, none⟩) 3 3]) (by simp)).free 8; obtain ⟨⟨x0, x1, x2, x3, x4, x5, x6, x7, x8⟩, z0, z1, z2, z3, z4, z5, z6, z7, z8⟩ := H7q.out.r.cells; have hWq : ¬ q5 = W.heap.size := by have := (H7q.out.b (q5, #[.int .i64 21, .string nm, .int .i64 0, .int .i64 0, .string ⟨#[]⟩, .slice none 0 0, .slice none 0 0, .slice none 0 0, .slice (some ⟨h5, 0, none⟩) 3 3]) (by simp)).1; dsimp only at this; omega)
      have H8 := Lib.hid ((H7q.out.perm (bs' := [(q5, #[.int .i64 21, .string nm, .int .i64 0, .int .i64 0, .string ⟨#[]⟩, .slice none 0 0, .slice none 0 0, .slice none 0 0, .slice (some ⟨h5, 0, none⟩) 3 3]), (q6, #[.int .i64 op4, .string tx4, .int .i64 k4, .int .i64 j4, .string s4, .slice A4 na4 ma4, .slice B4 nb4 mb4, .slice C4 nc4 mc4, .slice D4 nd4 md4]), (qq, #[.int .i64 op1, .string tx1, .int .i64 k1, .int .i64 j1, .string s1, .slice A1 na1 ma1, .slice B1 nb1 mb1, .slice C1 nc1 mc1, .slice D1 nd1 md1])]) (by intro x; simp [or_left_comm])).set (by intro x hx; simp at hx; rcases hx with rfl | rfl; exact hne65 _ hq63; exact Nat.ne_of_lt hq5) 8 (.slice A7 (3 + 1) c7) rfl)
      refine post9 Tryz.results164 rfl rfl (H8.out.r.r.put9z _ _ _ _ _ _ _ _ _) ?_
      exact retF_of (H8.out.close List.mem_cons_self)
end Go.Proofs.YthiempadgehhlaaGreatDoor

/- The parser: conditions and reduce. -/
import Derived.Test.YthiempadgehhlaaGreatDoorYy
import Derived.Test.YthiempadgehhlaaGreatDoorYa
set_option linter.unusedVariables false
set_option linter.unusedSectionVars false
set_option linter.unusedSimpArgs false
namespace Go.Proofs.YthiempadgehhlaaGreatDoor
open Go.RowKit
theorem source_size {L : List Fk} (hL : TokL L) {call : Ru → PM} {σ τ : PS} {f : Ft} {s : ByteArray} (h : sourceM L call σ = some ((f, s), τ)) : s.size ≤ 140737488355328 := by
  obtain ⟨f, σ1, h1, h2⟩ := bnd_some h
  injection h2 with h2
  injection h2 with h3 h4
  injection h3 with h5 h6
  subst h6
  have := hL.size (needP L (⟨#[97, 115]⟩ : ByteArray) σ1).k
  omega
set_option maxHeartbeats 10000000 in
set_option maxRecDepth 100000 in
theorem cond_any {L : List Fk} (hL : TokL L) {gt C g : Nat} {call : Ru → PM} (hA : OkA L gt C g call) : OkF L gt C g 161 (condM L call) := by
  intro W σ t τ hP hm
  obtain ⟨f1, σ1, h1, h2⟩ := bnd_some hm
  obtain ⟨f2, σ2, h3, h4⟩ := bnd_some h2
  obtain ⟨f3, σ3, h5, h6⟩ := bnd_some h4
  injection h6 with h6
  injection h6 with h7 h8
  subst h7; subst h8
  have H0 := Lib.hid (St.begin hP)
  have HC1 := Lib.hid (fun W (h : PAt L gt C g W σ) => before_any hL hA (⟨#[116, 104, 101, 110]⟩ : ByteArray) W _ σ1 f1 h h1)
  have HC2 := Lib.hid (fun W h => hA .filter W _ f2 σ2 h h3)
  have HC3 := Lib.hid (fun W (h : PAt L gt C g W σ2) => other_any hL hA W _ σ3 f3 h h5)
  have HNO := Lib.hid (fun A W => node_any 18 A 3 3 W)
  clear hP hA hm h1 h2 h3 h4 h5
  go_enter Tryz.func161, Tryz.ntmps161
  go_wp2_with fail
  refine (HC1.out _ H0.out.r.p).mono ?_
  rintro e w1 ⟨c10, c11, c12, c13, c14, c15, c16, c17, c18, rfl, hg1, hp1, hl1⟩
  obtain ⟨op1, tx1, k1, j1, s1, A1, na1, ma1, B1, nb1, mb1, C1, nc1, mc1, D1, nd1, md1, rfl, rfl, rfl, rfl, rfl, rfl, rfl, rfl, rfl⟩ := liesF_form hl1
  have H1 := Lib.hid ((H0.out.call hg1 hp1 hl1).box #[.int .i64 op1, .string tx1, .int .i64 k1, .int .i64 j1, .string s1, .slice A1 na1 ma1, .slice B1 nb1 mb1, .slice C1 nc1 mc1, .slice D1 nd1 md1])
  clear hg1 hp1 hl1
  go_upto_region 2 with (fail)
  generalize w1.alloc (.cells #[.int .i64 op1, .string tx1, .int .i64 k1, .int .i64 j1, .string s1, .slice A1 na1 ma1, .slice B1 nb1 mb1, .slice C1 nc1 mc1, .slice D1 nd1 md1] 32) = wa at H1 ⊢
  generalize w1.heap.size = qq at H1 ⊢
  have keep : Hid (∀ X σ ts, St noS L gt C g W X σ [(qq, #[.int .i64 op1, .string tx1, .int .i64 k1, .int .i64 j1, .string s1, .slice A1 na1 ma1, .slice B1 nb1 mb1, .slice C1 nc1 mc1, .slice D1 nd1 md1])] ts → X.cell? ⟨qq, 0, none⟩ = some (.int .i64 op1) ∧ X.cell? ⟨qq, 1, none⟩ = some (.string tx1) ∧ X.cell? ⟨qq, 2, none⟩ = some (.int .i64 k1) ∧ X.cell? ⟨qq, 3, none⟩ = some (.int .i64 j1) ∧ X.cell? ⟨qq, 4, none⟩ = some (.string s1) ∧ X.cell? ⟨qq, 5, none⟩ = some (.slice A1 na1 ma1) ∧ X.cell? ⟨qq, 6, none⟩ = some (.slice B1 nb1 mb1) ∧ X.cell? ⟨qq, 7, none⟩ = some (.slice C1 nc1 mc1) ∧ X.cell? ⟨qq, 8, none⟩ = some (.slice D1 nd1 md1)) := Lib.hid fun X σ ts hX => box9 (hX.bx (by simp))
  obtain ⟨y0, y1, y2, y3, y4, y5, y6, y7, y8⟩ := keep.out _ _ _ H1.out
  go_region_held3 (fun X => X.cell? ⟨qq, 0, none⟩ = some (.int .i64 op1) ∧ X.cell? ⟨qq, 1, none⟩ = some (.string tx1) ∧ X.cell? ⟨qq, 2, none⟩ = some (.int .i64 k1) ∧ X.cell? ⟨qq, 3, none⟩ = some (.int .i64 j1) ∧ X.cell? ⟨qq, 4, none⟩ = some (.string s1) ∧ X.cell? ⟨qq, 5, none⟩ = some (.slice A1 na1 ma1) ∧ X.cell? ⟨qq, 6, none⟩ = some (.slice B1 nb1 mb1) ∧ X.cell? ⟨qq, 7, none⟩ = some (.slice C1 nc1 mc1) ∧ X.cell? ⟨qq, 8, none⟩ = some (.slice D1 nd1 md1))
    (first
      | with_reducible exact keep.out _ _ _ H1.out.drew
      | with_reducible exact keep.out _ _ _ H2.out
      | with_reducible exact keep.out _ _ _ H3.out
      | with_reducible exact keep.out _ _ _ H4.out
      | with_reducible exact keep.out _ _ _ H5.out
      | exact box9 ((H5.out.bx (q := qq) (c := #[.int .i64 op1, .string tx1, .int .i64 k1, .int .i64 j1, .string s1, .slice A1 na1 ma1, .slice B1 nb1 mb1, .slice C1 nc1 mc1, .slice D1 nd1 md1]) (by simp)).far9 (by have := (H5.out.b (qq, #[.int .i64 op1, .string tx1, .int .i64 k1, .int .i64 j1, .string s1, .slice A1 na1 ma1, .slice B1 nb1 mb1, .slice C1 nc1 mc1, .slice D1 nd1 md1]) (by simp)).1; dsimp only at this; omega) _ _ _ _ _ _ _ _ _))
    (first
      | (go_at_call 17; (refine (HC2.out _ H1.out.drew.r.p).mono ?_); rintro e w2 ⟨c20, c21, c22, c23, c24, c25, c26, c27, c28, rfl, hg2, hp2, hl2⟩; obtain ⟨op2, tx2, k2, j2, s2, A2, na2, ma2, B2, nb2, mb2, C2, nc2, mc2, D2, nd2, md2, rfl, rfl, rfl, rfl, rfl, rfl, rfl, rfl, rfl⟩ := liesF_form hl2; have H2 := Lib.hid (H1.out.drew.call hg2 hp2 hl2); clear hg2 hp2 hl2)
      | (go_at_call 166; (refine (HC3.out _ H2.out.r.p).mono ?_); rintro e w3 ⟨c30, c31, c32, c33, c34, c35, c36, c37, c38, rfl, hg3, hp3, hl3⟩; obtain ⟨op3, tx3, k3, j3, s3, A3, na3, ma3, B3, nb3, mb3, C3, nc3, mc3, D3, nd3, md3, rfl, rfl, rfl, rfl, rfl, rfl, rfl, rfl, rfl⟩ := liesF_form hl3; have H3 := Lib.hid (H2.out.call hg3 hp3 hl3); clear hg3 hp3 hl3; have H4 := Lib.hid (H3.out.node 18 ⟨#[]⟩ (by decide) (fs := [f1, f2, f3]) (row := #[.int .i64 op1, .string tx1, .int .i64 k1, .int .i64 j1, .string s1, .slice A1 na1 ma1, .slice B1 nb1 mb1, .slice C1 nc1 mc1, .slice D1 nd1 md1, .int .i64 op2, .string tx2, .int .i64 k2, .int .i64 j2, .string s2, .slice A2 na2 ma2, .slice B2 nb2 mb2, .slice C2 nc2 mc2, .slice D2 nd2 md2, .int .i64 op3, .string tx3, .int .i64 k3, .int .i64 j3, .string s3, .slice A3 na3 ma3, .slice B3 nb3 mb3, .slice C3 nc3 mc3, .slice D3 nd3 md3]) rfl (by simp) (LiesFL.append (LiesFL.one (H3.out.t (f1, [.int .i64 op1, .string tx1, .int .i64 k1, .int .i64 j1, .string s1, .slice A1 na1 ma1, .slice B1 nb1 mb1, .slice C1 nc1 mc1, .slice D1 nd1 md1]) (by simp))) (LiesFL.append (LiesFL.one (H3.out.t (f2, [.int .i64 op2, .string tx2, .int .i64 k2, .int .i64 j2, .string s2, .slice A2 na2 ma2, .slice B2 nb2 mb2, .slice C2 nc2 mc2, .slice D2 nd2 md2]) (by simp))) (LiesFL.one (H3.out.t (f3, [.int .i64 op3, .string tx3, .int .i64 k3, .int .i64 j3, .string s3, .slice A3 na3 ma3, .slice B3 nb3 mb3, .slice C3 nc3 mc3, .slice D3 nd3 md3]) (by simp))))) rfl))
      | (go_at_call 74; (refine (HNO.out _ _).mono ?_); rintro e w5 ⟨rfl, hb5⟩; have H5 := Lib.hid (H4.out.low hb5); clear hb5; obtain ⟨⟨x0, x1, x2, x3, x4, x5, x6, x7, x8⟩, z0, z1, z2, z3, z4, z5, z6, z7, z8⟩ := H5.out.r.cells))
  go_wp2_with fail
  refine post9 Tryz.results161 rfl rfl (H5.out.r.r.put9z _ _ _ _ _ _ _ _ _) ?_
  exact retF_of (H5.out.close (by first | exact List.mem_cons_self | simp))
set_option maxHeartbeats 10000000 in
set_option maxRecDepth 100000 in
theorem reduce_any {L : List Fk} (hL : TokL L) {gt C g : Nat} {call : Ru → PM} (hA : OkA L gt C g call) (W : World) (σ τ : PS) (t : Ft) (hP : PAt L gt C g W σ) (hm : reduceM L call σ = some (t, τ)) :
    Calls Tryz.prog 163 #[.pointer (some ⟨g, 0, none⟩)] W (RetF L gt C g W t τ) := by
  obtain ⟨⟨f1, nm⟩, σ1, h1, h2⟩ := bnd_some hm
  obtain ⟨f2, σ2, h3, h4⟩ := bnd_some h2
  obtain ⟨f3, σ3, h5, h6⟩ := bnd_some h4
  injection h6 with h6
  injection h6 with h7 h8
  subst h7; subst h8
  have H0 := Lib.hid (St.begin hP)
  have HSZ : Hid (nm.size ≤ 140737488355328) := Lib.hid (source_size hL h1)
  have HC1 := Lib.hid (fun W (h : PAt L gt C g W σ) => source_any hL hA W _ σ1 f1 nm h h1)
  have HC2 := Lib.hid (fun W (h : PAt L gt C g W σ1) => before_any hL hA (⟨#[59]⟩ : ByteArray) W _ σ2 f2 h h3)
  have HC3 := Lib.hid (fun W (h : PAt L gt C g W σ2) => before_any hL hA (⟨#[41]⟩ : ByteArray) W _ σ3 f3 h h5)
  clear hP hA hm h1 h2 h3 h4 h5
  dsimp only
  go_enter Tryz.func163, Tryz.ntmps163
  go_wp2_with fail
  refine (HC1.out _ H0.out.r.p).mono ?_
  rintro e w1 ⟨c10, c11, c12, c13, c14, c15, c16, c17, c18, rfl, hg1, hp1, hl1⟩
  obtain ⟨op1, tx1, k1, j1, s1, A1, na1, ma1, B1, nb1, mb1, C1, nc1, mc1, D1, nd1, md1, rfl, rfl, rfl, rfl, rfl, rfl, rfl, rfl, rfl⟩ := liesF_form hl1
  have H1 := Lib.hid ((H0.out.call hg1 hp1 hl1).box #[.int .i64 op1, .string tx1, .int .i64 k1, .int .i64 j1, .string s1, .slice A1 na1 ma1, .slice B1 nb1 mb1, .slice C1 nc1 mc1, .slice D1 nd1 md1])
  clear hg1 hp1 hl1
  go_upto_region 2 with (fail)
  generalize w1.alloc (.cells #[.int .i64 op1, .string tx1, .int .i64 k1, .int .i64 j1, .string s1, .slice A1 na1 ma1, .slice B1 nb1 mb1, .slice C1 nc1 mc1, .slice D1 nd1 md1] 32) = wa at H1 ⊢
  generalize w1.heap.size = qq at H1 ⊢
  have keep : Hid (∀ X σ ts, St noS L gt C g W X σ [(qq, #[.int .i64 op1, .string tx1, .int .i64 k1, .int .i64 j1, .string s1, .slice A1 na1 ma1, .slice B1 nb1 mb1, .slice C1 nc1 mc1, .slice D1 nd1 md1])] ts → X.cell? ⟨qq, 0, none⟩ = some (.int .i64 op1) ∧ X.cell? ⟨qq, 1, none⟩ = some (.string tx1) ∧ X.cell? ⟨qq, 2, none⟩ = some (.int .i64 k1) ∧ X.cell? ⟨qq, 3, none⟩ = some (.int .i64 j1) ∧ X.cell? ⟨qq, 4, none⟩ = some (.string s1) ∧ X.cell? ⟨qq, 5, none⟩ = some (.slice A1 na1 ma1) ∧ X.cell? ⟨qq, 6, none⟩ = some (.slice B1 nb1 mb1) ∧ X.cell? ⟨qq, 7, none⟩ = some (.slice C1 nc1 mc1) ∧ X.cell? ⟨qq, 8, none⟩ = some (.slice D1 nd1 md1)) := Lib.hid fun X σ ts hX => box9 (hX.bx (by simp))
  obtain ⟨y0, y1, y2, y3, y4, y5, y6, y7, y8⟩ := keep.out _ _ _ H1.out
  go_region_held3 (fun X => X.cell? ⟨qq, 0, none⟩ = some (.int .i64 op1) ∧ X.cell? ⟨qq, 1, none⟩ = some (.string tx1) ∧ X.cell? ⟨qq, 2, none⟩ = some (.int .i64 k1) ∧ X.cell? ⟨qq, 3, none⟩ = some (.int .i64 j1) ∧ X.cell? ⟨qq, 4, none⟩ = some (.string s1) ∧ X.cell? ⟨qq, 5, none⟩ = some (.slice A1 na1 ma1) ∧ X.cell? ⟨qq, 6, none⟩ = some (.slice B1 nb1 mb1) ∧ X.cell? ⟨qq, 7, none⟩ = some (.slice C1 nc1 mc1) ∧ X.cell? ⟨qq, 8, none⟩ = some (.slice D1 nd1 md1))
    (first
      | with_reducible exact keep.out _ _ _ H1.out.drew
      | with_reducible exact keep.out _ _ _ H2.out
      | with_reducible exact keep.out _ _ _ H3.out
      | with_reducible exact keep.out _ _ _ H4.out
      | exact box9 ((H4.out.bx (q := qq) (c := #[.int .i64 op1, .string tx1, .int .i64 k1, .int .i64 j1, .string s1, .slice A1 na1 ma1, .slice B1 nb1 mb1, .slice C1 nc1 mc1, .slice D1 nd1 md1]) (by simp)).far9 (by have := (H4.out.b (qq, #[.int .i64 op1, .string tx1, .int .i64 k1, .int .i64 j1, .string s1, .slice A1 na1 ma1, .slice B1 nb1 mb1, .slice C1 nc1 mc1, .slice D1 nd1 md1]) (by simp)).1; dsimp only at this; omega) _ _ _ _ _ _ _ _ _))
    (first
      | (go_at_call 158; (refine (HC3.out _ H2.out.r.p).mono ?_); rintro e w3 ⟨c30, c31, c32, c33, c34, c35, c36, c37, c38, rfl, hg3, hp3, hl3⟩; obtain ⟨op3, tx3, k3, j3, s3, A3, na3, ma3, B3, nb3, mb3, C3, nc3, mc3, D3, nd3, md3, rfl, rfl, rfl, rfl, rfl, rfl, rfl, rfl, rfl⟩ := liesF_form hl3; have H3 := Lib.hid (H2.out.call hg3 hp3 hl3); clear hg3 hp3 hl3; have H4 := Lib.hid (H3.out.node 20 nm HSZ.out (fs := [f1, f2, f3]) (row := #[.int .i64 op1, .string tx1, .int .i64 k1, .int .i64 j1, .string s1, .slice A1 na1 ma1, .slice B1 nb1 mb1, .slice C1 nc1 mc1, .slice D1 nd1 md1, .int .i64 op2, .string tx2, .int .i64 k2, .int .i64 j2, .string s2, .slice A2 na2 ma2, .slice B2 nb2 mb2, .slice C2 nc2 mc2, .slice D2 nd2 md2, .int .i64 op3, .string tx3, .int .i64 k3, .int .i64 j3, .string s3, .slice A3 na3 ma3, .slice B3 nb3 mb3, .slice C3 nc3 mc3, .slice D3 nd3 md3]) rfl (by simp) (LiesFL.append (LiesFL.one (H3.out.t (f1, [.int .i64 op1, .string tx1, .int .i64 k1, .int .i64 j1, .string s1, .slice A1 na1 ma1, .slice B1 nb1 mb1, .slice C1 nc1 mc1, .slice D1 nd1 md1]) (by simp))) (LiesFL.append (LiesFL.one (H3.out.t (f2, [.int .i64 op2, .string tx2, .int .i64 k2, .int .i64 j2, .string s2, .slice A2 na2 ma2, .slice B2 nb2 mb2, .slice C2 nc2 mc2, .slice D2 nd2 md2]) (by simp))) (LiesFL.one (H3.out.t (f3, [.int .i64 op3, .string tx3, .int .i64 k3, .int .i64 j3, .string s3, .slice A3 na3 ma3, .slice B3 nb3 mb3, .slice C3 nc3 mc3, .slice D3 nd3 md3]) (by simp))))) rfl); obtain ⟨⟨x0, x1, x2, x3, x4, x5, x6, x7, x8⟩, z0, z1, z2, z3, z4, z5, z6, z7, z8⟩ := H4.out.r.cells; have hlt4 := H4.out.lt)
      | (go_at_call 158; (refine (HC2.out _ H1.out.drew.r.p).mono ?_); rintro e w2 ⟨c20, c21, c22, c23, c24, c25, c26, c27, c28, rfl, hg2, hp2, hl2⟩; obtain ⟨op2, tx2, k2, j2, s2, A2, na2, ma2, B2, nb2, mb2, C2, nc2, mc2, D2, nd2, md2, rfl, rfl, rfl, rfl, rfl, rfl, rfl, rfl, rfl⟩ := liesF_form hl2; have H2 := Lib.hid (H1.out.drew.call hg2 hp2 hl2); clear hg2 hp2 hl2))
  go_wp2_with fail
  refine post9 Tryz.results163 rfl rfl (H4.out.r.r.put9z _ _ _ _ _ _ _ _ _) ?_
  exact retF_of (H4.out.close (by first | exact List.mem_cons_self | simp))
end Go.Proofs.YthiempadgehhlaaGreatDoor

/- FparseParens answers true for every two strings. -/
import Derived.Test.YthiempadgehhlaaGreatDoorZu0
set_option linter.unusedVariables false
set_option linter.unusedSimpArgs false
set_option linter.unusedSectionVars false
namespace Go.Proofs.YthiempadgehhlaaGreatDoor
open Go.RowKit
set_option maxHeartbeats 20000000 in
set_option maxRecDepth 100000 in
theorem parens_good (s t : ByteArray) (f u : Ft) (w : World) (hE : ErrIn w) (hG : SgIn w) (hs : s.size ≤ 80) (ht : t.size ≤ 80) (hp : parseP s.data.toList = (f, 0, 0)) (hp2 : parseP t.data.toList = (u, 0, 0)) :
    Calls Tryz.prog 4 #[.string s, .string t] w fun e w' => e = .returned (.bool true) ∧ Below w.heap.size w w' := by
  obtain ⟨us, hus⟩ := parse_lexed hp
  obtain ⟨us2, hus2⟩ := parse_lexed hp2
  have hl : s.data.toList.length ≤ 80 := by simpa using hs
  have hl2 : t.data.toList.length ≤ 80 := by simpa using ht
  have hpc := parens_text hus hp (by omega)
  have hpd := pipe_text hus hus2 hp hp2 (by omega) (by omega)
  have hpx := array_text hus hp (by omega)
  have HAW := Lib.hid (fun (W : World) (h : Below w.heap.size w W) => pawake_any W (hE.next h) (hG.next h))
  have HP1 := Lib.hid (fun (W : World) (h : Below w.heap.size w W) => by
    have h := fparse_any s (by omega) W (hE.next h) (hG.next h)
    rw [hp] at h
    exact h)
  have HP2 := Lib.hid (fun (W : World) (h : Below w.heap.size w W) => by
    have h := fparse_any t (by omega) W (hE.next h) (hG.next h)
    rw [hp2] at h
    exact h)
  have z40 : (⟨#[40]⟩ : ByteArray).size = 1 := rfl
  have z91 : (⟨#[91]⟩ : ByteArray).size = 1 := rfl
  have z41 : (⟨#[10, 41]⟩ : ByteArray).size = 2 := rfl
  have z93 : (⟨#[10, 93]⟩ : ByteArray).size = 2 := rfl
  have z6 : (⟨#[10, 41, 32, 124, 32, 40]⟩ : ByteArray).size = 6 := rfl
  have HP3 := Lib.hid (fun (W : World) (h : Below w.heap.size w W) => by
    have h := fparse_any ((⟨#[40]⟩ : ByteArray) ++ s ++ (⟨#[10, 41]⟩ : ByteArray)) (by simp only [ByteArray.size_append, z40, z41]; omega) W (hE.next h) (hG.next h)
    rw [show ((⟨#[40]⟩ : ByteArray) ++ s ++ (⟨#[10, 41]⟩ : ByteArray)).data.toList = [40] ++ (s.data.toList ++ 10 :: [41]) by simp [ByteArray.data_append], hpc] at h
    exact h)
  have HP4 := Lib.hid (fun (W : World) (h : Below w.heap.size w W) => by
    have h := fparse_any ((⟨#[40]⟩ : ByteArray) ++ s ++ (⟨#[10, 41, 32, 124, 32, 40]⟩ : ByteArray) ++ t ++ (⟨#[10, 41]⟩ : ByteArray)) (by simp only [ByteArray.size_append, z40, z41, z6]; omega) W (hE.next h) (hG.next h)
    rw [show ((⟨#[40]⟩ : ByteArray) ++ s ++ (⟨#[10, 41, 32, 124, 32, 40]⟩ : ByteArray) ++ t ++ (⟨#[10, 41]⟩ : ByteArray)).data.toList = pipeT s.data.toList t.data.toList by simp [pipeT, ByteArray.data_append], hpd] at h
    exact h)
  have HP5 := Lib.hid (fun (W : World) (h : Below w.heap.size w W) => by
    have h := fparse_any ((⟨#[91]⟩ : ByteArray) ++ s ++ (⟨#[10, 93]⟩ : ByteArray)) (by simp only [ByteArray.size_append, z91, z93]; omega) W (hE.next h) (hG.next h)
    rw [show ((⟨#[91]⟩ : ByteArray) ++ s ++ (⟨#[10, 93]⟩ : ByteArray)).data.toList = [91] ++ (s.data.toList ++ 10 :: [93]) by simp [ByteArray.data_append], hpx] at h
    exact h)
  have H0 := Lib.hid (TB.start w)
  have HSH := Lib.hid (fun (c : Nat) (W : World) (o : Obj) (T : TypeId) => short80_any s t (W.heap.size + 1) c ((W.alloc o).alloc (.cells #[.string s, .string t] T)) (by omega) (by omega) (two_laid W o T s t).1 (two_laid W o T s t).2)
  rw [decide_eq_true ⟨hs, ht⟩] at HSH
  clear hE hG hp hp2 hus hus2 hpc hpd hpx hl hl2 z40 z91 z41 z93 z6
  go_enter Tryz.func4, Tryz.ntmps4
  go_wp2_with fail
  refine (HP1.out _ H0.out.below).mono ?_
  rintro e1 w1 ⟨c0, c1, c2, c3, c4, c5, c6, c7, c8, rfl, hb1, hl1⟩
  obtain ⟨op1, tx1, k1, j1, s1, A1, na1, ma1, B1, nb1, mb1, C1, nc1, mc1, D1, nd1, md1, rfl, rfl, rfl, rfl, rfl, rfl, rfl, rfl, rfl⟩ := liesF_form hl1
  have H1 := Lib.hid (H0.out.box hb1 hl1)
  clear hb1 hl1
  go_wp2_with fail
  generalize w1.alloc (.cells #[.int .i64 op1, .string tx1, .int .i64 k1, .int .i64 j1, .string s1, .slice A1 na1 ma1, .slice B1 nb1 mb1, .slice C1 nc1 mc1, .slice D1 nd1 md1] 32) = W1 at H1 ⊢
  generalize w1.heap.size = g1 at H1 ⊢
  refine (HP2.out _ H1.out.below).mono ?_
  rintro e2 w2 ⟨c0, c1, c2, c3, c4, c5, c6, c7, c8, rfl, hb2, hl2⟩
  obtain ⟨op2, tx2, k2, j2, s2, A2, na2, ma2, B2, nb2, mb2, C2, nc2, mc2, D2, nd2, md2, rfl, rfl, rfl, rfl, rfl, rfl, rfl, rfl, rfl⟩ := liesF_form hl2
  have H2 := Lib.hid (H1.out.box hb2 hl2)
  clear hb2 hl2
  go_wp2_with (go_at_call 11; (with_reducible refine (HSH.out _ _ _ _).mono ?_); rintro e w' ⟨rfl, rfl⟩)
  generalize w2.alloc (.cells #[.int .i64 op2, .string tx2, .int .i64 k2, .int .i64 j2, .string s2, .slice A2 na2 ma2, .slice B2 nb2 mb2, .slice C2 nc2 mc2, .slice D2 nd2 md2] 32) = W2 at H2 ⊢
  generalize w2.heap.size = g2 at H2 ⊢
  refine (HP3.out _ (H2.out.alloc _).below).mono ?_
  rintro e3 w3 ⟨c0, c1, c2, c3, c4, c5, c6, c7, c8, rfl, hb3, hl3⟩
  obtain ⟨op3, tx3, k3, j3, s3, A3, na3, ma3, B3, nb3, mb3, C3, nc3, mc3, D3, nd3, md3, rfl, rfl, rfl, rfl, rfl, rfl, rfl, rfl, rfl⟩ := liesF_form hl3
  have H3 := Lib.hid ((H2.out.alloc _).box hb3 hl3)
  clear hb3 hl3
  go_wp2_with fail
  generalize w3.alloc (.cells #[.int .i64 op3, .string tx3, .int .i64 k3, .int .i64 j3, .string s3, .slice A3 na3 ma3, .slice B3 nb3 mb3, .slice C3 nc3 mc3, .slice D3 nd3 md3] 32) = W3 at H3 ⊢
  generalize w3.heap.size = g3 at H3 ⊢
  refine (HP4.out _ H3.out.below).mono ?_
  rintro e4 w4 ⟨c0, c1, c2, c3, c4, c5, c6, c7, c8, rfl, hb4, hl4⟩
  obtain ⟨kd, jd, sd, A4, na4, ma4, B4, nb4, mb4, C4, mc4, bd, od, md4, p0, p1, p2, p3, p4, p5, p6, p7, p8, q0, q1, q2, q3, q4, q5, q6, q7, q8, he4, -, hmd, -⟩ := two_subs hl4
  simp only [List.cons.injEq, and_true] at he4
  obtain ⟨rfl, rfl, rfl, rfl, rfl, rfl, rfl, rfl, rfl⟩ := he4
  clear p0 q0 p1 q1 p2 q2 p3 q3 p4 q4 p5 q5 p6 q6 p7 q7 p8 q8
  have H4 := Lib.hid (H3.out.box hb4 hl4)
  clear hb4 hl4
  go_wp2_with fail
  generalize w4.alloc (.cells #[.int .i64 12, .string ⟨#[]⟩, .int .i64 kd, .int .i64 jd, .string sd, .slice A4 na4 ma4, .slice B4 nb4 mb4, .slice C4 0 mc4, .slice (some ⟨bd, od, none⟩) 2 md4] 32) = W4 at H4 ⊢
  generalize w4.heap.size = g4 at H4 ⊢
  refine (HP5.out _ H4.out.below).mono ?_
  rintro e5 w5 ⟨c0, c1, c2, c3, c4, c5, c6, c7, c8, rfl, hb5, hl5⟩
  obtain ⟨kx, jx, sx, A5, na5, ma5, B5, nb5, mb5, C5, mc5, bx, ox, md5, x0, x1, x2, x3, x4, x5, x6, x7, x8, he5, -, hmx, -⟩ := one_sub hl5
  simp only [List.cons.injEq, and_true] at he5
  obtain ⟨rfl, rfl, rfl, rfl, rfl, rfl, rfl, rfl, rfl⟩ := he5
  clear x0 x1 x2 x3 x4 x5 x6 x7 x8
  have H5 := Lib.hid (H4.out.box hb5 hl5)
  clear hb5 hl5
  generalize hW5 : w5.alloc (.cells #[.int .i64 9, .string ⟨#[]⟩, .int .i64 kx, .int .i64 jx, .string sx, .slice A5 na5 ma5, .slice B5 nb5 mb5, .slice C5 0 mc5, .slice (some ⟨bx, ox, none⟩) 1 md5] 32) = W5 at H5
  generalize hg5 : w5.heap.size = g5 at H5
  have A1 := H5.out.b (g1, [.int .i64 op1, .string tx1, .int .i64 k1, .int .i64 j1, .string s1, .slice A1 na1 ma1, .slice B1 nb1 mb1, .slice C1 nc1 mc1, .slice D1 nd1 md1], f) (by simp)
  have A3 := H5.out.b (g3, [.int .i64 op3, .string tx3, .int .i64 k3, .int .i64 j3, .string s3, .slice A3 na3 ma3, .slice B3 nb3 mb3, .slice C3 nc3 mc3, .slice D3 nd3 md3], f) (by simp)
  obtain ⟨y0, y1, y2, y3, y4, y5, y6, y7, y8⟩ := box9 A1.1
  obtain ⟨z0, z1, z2, z3, z4, z5, z6, z7, z8⟩ := box9 A3.1
  have HF0 := Lib.hid (filters_same f _ _ W5 A1.2 A3.2)
  clear A1 A3
  go_wp2_with fail
  refine HF0.out.mono ?_
  rintro e6 w6 ⟨rfl, hb6⟩
  have H6 := Lib.hid (H5.out.next hb6)
  clear hb6 HF0 hW5 hg5 y0 z0 y1 z1 y2 z2 y3 z3 y4 z4 y5 z5 y6 z6 y7 z7 y8 z8
  have BA := H6.out.b _ (List.mem_cons_of_mem _ (List.mem_cons_of_mem _ (List.mem_cons_of_mem _ (List.mem_cons_of_mem _ List.mem_cons_self))))
  have BB := H6.out.b _ (List.mem_cons_of_mem _ (List.mem_cons_of_mem _ (List.mem_cons_of_mem _ List.mem_cons_self)))
  have BD := H6.out.b _ (List.mem_cons_of_mem _ List.mem_cons_self)
  have BX := H6.out.b _ List.mem_cons_self
  obtain ⟨kd', jd', sd', A4', na4', ma4', B4', nb4', mb4', C4', mc4', bd', od', md4', p0, p1, p2, p3, p4, p5, p6, p7, p8, q0, q1, q2, q3, q4, q5, q6, q7, q8, heD, hSd, -, hlp, hlq, hcp, hcq⟩ := two_subs BD.2
  simp only [List.cons.injEq, and_true] at heD
  obtain ⟨-, -, -, -, -, -, -, -, e8⟩ := heD
  injection e8 with e9 _ _
  injection e9 with e9
  injection e9 with e10 e11 _
  subst e10; subst e11
  obtain ⟨kx', jx', sx', A5', na5', ma5', B5', nb5', mb5', C5', mc5', bx', ox', md5', x0, x1, x2, x3, x4, x5, x6, x7, x8, heX, hSx, -, hlx, hcx⟩ := one_sub BX.2
  simp only [List.cons.injEq, and_true] at heX
  obtain ⟨-, -, -, -, -, -, -, -, e8⟩ := heX
  injection e8 with e9 _ _
  injection e9 with e9
  injection e9 with e10 e11 _
  subst e10; subst e11
  obtain ⟨opp, txp, kp, jp, sp, Ap, nap, map, Bp, nbp, mbp, Cp, ncp, mcp, Dp, ndp, mdp, rfl, rfl, rfl, rfl, rfl, rfl, rfl, rfl, rfl⟩ := liesF_form hlp
  obtain ⟨opq, txq, kq, jq, sq, Aq, naq, maq, Bq, nbq, mbq, Cq, ncq, mcq, Dq, ndq, mdq, rfl, rfl, rfl, rfl, rfl, rfl, rfl, rfl, rfl⟩ := liesF_form hlq
  obtain ⟨opx, txx, kx, jx, sx, Ax, nax, max, Bx, nbx, mbx, Cx, ncx, mcx, Dx, ndx, mdx, rfl, rfl, rfl, rfl, rfl, rfl, rfl, rfl, rfl⟩ := liesF_form hlx
  have KP : Hid (∀ X, Below w6.heap.size w6 X → X.cell? ⟨g1, 0, none⟩ = some (.int .i64 op1) ∧ X.cell? ⟨g1, 1, none⟩ = some (.string tx1) ∧ X.cell? ⟨g1, 2, none⟩ = some (.int .i64 k1) ∧ X.cell? ⟨g1, 3, none⟩ = some (.int .i64 j1) ∧ X.cell? ⟨g1, 4, none⟩ = some (.string s1) ∧ X.cell? ⟨g1, 5, none⟩ = some (.slice A1 na1 ma1) ∧ X.cell? ⟨g1, 6, none⟩ = some (.slice B1 nb1 mb1) ∧ X.cell? ⟨g1, 7, none⟩ = some (.slice C1 nc1 mc1) ∧ X.cell? ⟨g1, 8, none⟩ = some (.slice D1 nd1 md1) ∧ X.cell? ⟨g2, 0, none⟩ = some (.int .i64 op2) ∧ X.cell? ⟨g2, 1, none⟩ = some (.string tx2) ∧ X.cell? ⟨g2, 2, none⟩ = some (.int .i64 k2) ∧ X.cell? ⟨g2, 3, none⟩ = some (.int .i64 j2) ∧ X.cell? ⟨g2, 4, none⟩ = some (.string s2) ∧ X.cell? ⟨g2, 5, none⟩ = some (.slice A2 na2 ma2) ∧ X.cell? ⟨g2, 6, none⟩ = some (.slice B2 nb2 mb2) ∧ X.cell? ⟨g2, 7, none⟩ = some (.slice C2 nc2 mc2) ∧ X.cell? ⟨g2, 8, none⟩ = some (.slice D2 nd2 md2) ∧ X.cell? ⟨g4, 8, none⟩ = some (.slice (some ⟨bd, od, none⟩) 2 md4) ∧ X.cell? ⟨g5, 8, none⟩ = some (.slice (some ⟨bx, ox, none⟩) 1 md5) ∧ X.cell? ⟨bd, od, none⟩ = some (.int .i64 opp) ∧ X.cell? ⟨bd, od + 1, none⟩ = some (.string txp) ∧ X.cell? ⟨bd, od + 2, none⟩ = some (.int .i64 kp) ∧ X.cell? ⟨bd, od + 3, none⟩ = some (.int .i64 jp) ∧ X.cell? ⟨bd, od + 4, none⟩ = some (.string sp) ∧ X.cell? ⟨bd, od + 5, none⟩ = some (.slice Ap nap map) ∧ X.cell? ⟨bd, od + 6, none⟩ = some (.slice Bp nbp mbp) ∧ X.cell? ⟨bd, od + 7, none⟩ = some (.slice Cp ncp mcp) ∧ X.cell? ⟨bd, od + 8, none⟩ = some (.slice Dp ndp mdp) ∧ X.cell? ⟨bd, od + 9, none⟩ = some (.int .i64 opq) ∧ X.cell? ⟨bd, od + 9 + 1, none⟩ = some (.string txq) ∧ X.cell? ⟨bd, od + 9 + 2, none⟩ = some (.int .i64 kq) ∧ X.cell? ⟨bd, od + 9 + 3, none⟩ = some (.int .i64 jq) ∧ X.cell? ⟨bd, od + 9 + 4, none⟩ = some (.string sq) ∧ X.cell? ⟨bd, od + 9 + 5, none⟩ = some (.slice Aq naq maq) ∧ X.cell? ⟨bd, od + 9 + 6, none⟩ = some (.slice Bq nbq mbq) ∧ X.cell? ⟨bd, od + 9 + 7, none⟩ = some (.slice Cq ncq mcq) ∧ X.cell? ⟨bd, od + 9 + 8, none⟩ = some (.slice Dq ndq mdq) ∧ X.cell? ⟨bx, ox, none⟩ = some (.int .i64 opx) ∧ X.cell? ⟨bx, ox + 1, none⟩ = some (.string txx) ∧ X.cell? ⟨bx, ox + 2, none⟩ = some (.int .i64 kx) ∧ X.cell? ⟨bx, ox + 3, none⟩ = some (.int .i64 jx) ∧ X.cell? ⟨bx, ox + 4, none⟩ = some (.string sx) ∧ X.cell? ⟨bx, ox + 5, none⟩ = some (.slice Ax nax max) ∧ X.cell? ⟨bx, ox + 6, none⟩ = some (.slice Bx nbx mbx) ∧ X.cell? ⟨bx, ox + 7, none⟩ = some (.slice Cx ncx mcx) ∧ X.cell? ⟨bx, ox + 8, none⟩ = some (.slice Dx ndx mdx)) := Lib.hid fun X hX => by
    have H := H6.out.next hX
    have CA := (H.b _ (List.mem_cons_of_mem _ (List.mem_cons_of_mem _ (List.mem_cons_of_mem _ (List.mem_cons_of_mem _ List.mem_cons_self))))).1
    have CB := (H.b _ (List.mem_cons_of_mem _ (List.mem_cons_of_mem _ (List.mem_cons_of_mem _ List.mem_cons_self)))).1
    have CD := (H.b _ (List.mem_cons_of_mem _ List.mem_cons_self)).1
    have CX := (H.b _ List.mem_cons_self).1
    exact ⟨CA.cell (i := 0) rfl, CA.cell (i := 1) rfl, CA.cell (i := 2) rfl, CA.cell (i := 3) rfl, CA.cell (i := 4) rfl, CA.cell (i := 5) rfl, CA.cell (i := 6) rfl, CA.cell (i := 7) rfl, CA.cell (i := 8) rfl, CB.cell (i := 0) rfl, CB.cell (i := 1) rfl, CB.cell (i := 2) rfl, CB.cell (i := 3) rfl, CB.cell (i := 4) rfl, CB.cell (i := 5) rfl, CB.cell (i := 6) rfl, CB.cell (i := 7) rfl, CB.cell (i := 8) rfl, CD.cell (i := 8) rfl, CX.cell (i := 8) rfl, below_cell hX hSd (hcp 0 _ rfl), below_cell hX hSd (hcp 1 _ rfl), below_cell hX hSd (hcp 2 _ rfl), below_cell hX hSd (hcp 3 _ rfl), below_cell hX hSd (hcp 4 _ rfl), below_cell hX hSd (hcp 5 _ rfl), below_cell hX hSd (hcp 6 _ rfl), below_cell hX hSd (hcp 7 _ rfl), below_cell hX hSd (hcp 8 _ rfl), below_cell hX hSd (hcq 0 _ rfl), below_cell hX hSd (hcq 1 _ rfl), below_cell hX hSd (hcq 2 _ rfl), below_cell hX hSd (hcq 3 _ rfl), below_cell hX hSd (hcq 4 _ rfl), below_cell hX hSd (hcq 5 _ rfl), below_cell hX hSd (hcq 6 _ rfl), below_cell hX hSd (hcq 7 _ rfl), below_cell hX hSd (hcq 8 _ rfl), below_cell hX hSx (hcx 0 _ rfl), below_cell hX hSx (hcx 1 _ rfl), below_cell hX hSx (hcx 2 _ rfl), below_cell hX hSx (hcx 3 _ rfl), below_cell hX hSx (hcx 4 _ rfl), below_cell hX hSx (hcx 5 _ rfl), below_cell hX hSx (hcx 6 _ rfl), below_cell hX hSx (hcx 7 _ rfl), below_cell hX hSx (hcx 8 _ rfl)⟩
  have HF1 := Lib.hid (fun (X : World) (hX : Below w6.heap.size w6 X) => filters_same f _ _ X (below_liesF hX hlp) (below_liesF hX BA.2))
  have HF2 := Lib.hid (fun (X : World) (hX : Below w6.heap.size w6 X) => filters_same u _ _ X (below_liesF hX hlq) (below_liesF hX BB.2))
  have HF3 := Lib.hid (fun (X : World) (hX : Below w6.heap.size w6 X) => filters_same f _ _ X (below_liesF hX hlx) (below_liesF hX BA.2))
  have HA6 := Lib.hid (fun (X : World) (hX : Below w6.heap.size w6 X) => HAW.out X (chain H6.out.below hX))
  have d0 := BD.1.cell (i := 0) rfl
  have d8 := BD.1.cell (i := 8) rfl
  have x0' := BX.1.cell (i := 0) rfl
  have x8' := BX.1.cell (i := 8) rfl
  clear BA BB BD BX hlp hlq hlx hcp hcq hcx hSd hSx
  go_wp2_with fail
  clear d0 d8 x0' x8'
  obtain ⟨a0, a1, a2, a3, a4, a5, a6, a7, a8, b0, b1, b2, b3, b4, b5, b6, b7, b8, dd8, xx8, p0, p1, p2, p3, p4, p5, p6, p7, p8, q0, q1, q2, q3, q4, q5, q6, q7, q8, xx0, x1, x2, x3, x4, x5, x6, x7, x8⟩ := KP.out w6 (Below.refl _ _)
  go_region_held3 (fun X => X.cell? ⟨g1, 0, none⟩ = some (.int .i64 op1) ∧ X.cell? ⟨g1, 1, none⟩ = some (.string tx1) ∧ X.cell? ⟨g1, 2, none⟩ = some (.int .i64 k1) ∧ X.cell? ⟨g1, 3, none⟩ = some (.int .i64 j1) ∧ X.cell? ⟨g1, 4, none⟩ = some (.string s1) ∧ X.cell? ⟨g1, 5, none⟩ = some (.slice A1 na1 ma1) ∧ X.cell? ⟨g1, 6, none⟩ = some (.slice B1 nb1 mb1) ∧ X.cell? ⟨g1, 7, none⟩ = some (.slice C1 nc1 mc1) ∧ X.cell? ⟨g1, 8, none⟩ = some (.slice D1 nd1 md1) ∧ X.cell? ⟨g2, 0, none⟩ = some (.int .i64 op2) ∧ X.cell? ⟨g2, 1, none⟩ = some (.string tx2) ∧ X.cell? ⟨g2, 2, none⟩ = some (.int .i64 k2) ∧ X.cell? ⟨g2, 3, none⟩ = some (.int .i64 j2) ∧ X.cell? ⟨g2, 4, none⟩ = some (.string s2) ∧ X.cell? ⟨g2, 5, none⟩ = some (.slice A2 na2 ma2) ∧ X.cell? ⟨g2, 6, none⟩ = some (.slice B2 nb2 mb2) ∧ X.cell? ⟨g2, 7, none⟩ = some (.slice C2 nc2 mc2) ∧ X.cell? ⟨g2, 8, none⟩ = some (.slice D2 nd2 md2) ∧ X.cell? ⟨g4, 8, none⟩ = some (.slice (some ⟨bd, od, none⟩) 2 md4) ∧ X.cell? ⟨g5, 8, none⟩ = some (.slice (some ⟨bx, ox, none⟩) 1 md5) ∧ X.cell? ⟨bd, od, none⟩ = some (.int .i64 opp) ∧ X.cell? ⟨bd, od + 1, none⟩ = some (.string txp) ∧ X.cell? ⟨bd, od + 2, none⟩ = some (.int .i64 kp) ∧ X.cell? ⟨bd, od + 3, none⟩ = some (.int .i64 jp) ∧ X.cell? ⟨bd, od + 4, none⟩ = some (.string sp) ∧ X.cell? ⟨bd, od + 5, none⟩ = some (.slice Ap nap map) ∧ X.cell? ⟨bd, od + 6, none⟩ = some (.slice Bp nbp mbp) ∧ X.cell? ⟨bd, od + 7, none⟩ = some (.slice Cp ncp mcp) ∧ X.cell? ⟨bd, od + 8, none⟩ = some (.slice Dp ndp mdp) ∧ X.cell? ⟨bd, od + 9, none⟩ = some (.int .i64 opq) ∧ X.cell? ⟨bd, od + 9 + 1, none⟩ = some (.string txq) ∧ X.cell? ⟨bd, od + 9 + 2, none⟩ = some (.int .i64 kq) ∧ X.cell? ⟨bd, od + 9 + 3, none⟩ = some (.int .i64 jq) ∧ X.cell? ⟨bd, od + 9 + 4, none⟩ = some (.string sq) ∧ X.cell? ⟨bd, od + 9 + 5, none⟩ = some (.slice Aq naq maq) ∧ X.cell? ⟨bd, od + 9 + 6, none⟩ = some (.slice Bq nbq mbq) ∧ X.cell? ⟨bd, od + 9 + 7, none⟩ = some (.slice Cq ncq mcq) ∧ X.cell? ⟨bd, od + 9 + 8, none⟩ = some (.slice Dq ndq mdq) ∧ X.cell? ⟨bx, ox, none⟩ = some (.int .i64 opx) ∧ X.cell? ⟨bx, ox + 1, none⟩ = some (.string txx) ∧ X.cell? ⟨bx, ox + 2, none⟩ = some (.int .i64 kx) ∧ X.cell? ⟨bx, ox + 3, none⟩ = some (.int .i64 jx) ∧ X.cell? ⟨bx, ox + 4, none⟩ = some (.string sx) ∧ X.cell? ⟨bx, ox + 5, none⟩ = some (.slice Ax nax max) ∧ X.cell? ⟨bx, ox + 6, none⟩ = some (.slice Bx nbx mbx) ∧ X.cell? ⟨bx, ox + 7, none⟩ = some (.slice Cx ncx mcx) ∧ X.cell? ⟨bx, ox + 8, none⟩ = some (.slice Dx ndx mdx))
    (first
      | with_reducible exact KP.out _ (Below.refl _ _).drew
      | with_reducible exact KP.out _ HB7.out
      | with_reducible exact KP.out _ HB8.out
      | with_reducible exact KP.out _ HB9.out
      | with_reducible exact KP.out _ HB10.out)
    (first
      | (go_at_call 12; (with_reducible refine (HF1.out _ (Below.refl _ _).drew).mono ?_); rintro e w7 ⟨rfl, hb7⟩; have HB7 := Lib.hid (chain ((Below.refl w6.heap.size w6).drew) hb7); clear hb7)
      | (go_at_call 12; (with_reducible refine (HF2.out _ HB7.out).mono ?_); rintro e w8 ⟨rfl, hb8⟩; have HB8 := Lib.hid (chain HB7.out hb8); clear hb8)
      | (go_at_call 12; (with_reducible refine (HF3.out _ HB8.out).mono ?_); rintro e w9 ⟨rfl, hb9⟩; have HB9 := Lib.hid (chain HB8.out hb9); clear hb9)
      | (go_at_call 9; (with_reducible refine (HA6.out _ HB9.out).mono ?_); rintro e w10 ⟨rfl, hb10⟩; have HB10 := Lib.hid (chain HB9.out hb10); clear hb10))
  go_wp2_with fail
  go_ret
  exact ⟨rfl, chain H6.out.below HB10.out⟩
theorem parens_walk (s t : ByteArray) (w : World) (hE : ErrIn w) (hG : SgIn w) (hs : s.size ≤ 140737488355328) (ht : t.size ≤ 140737488355328) : Calls Tryz.prog 4 #[.string s, .string t] w fun e w' => e = .returned (.bool true) ∧ Below w.heap.size w w' := by
  by_cases h : (s.size ≤ 80 ∧ t.size ≤ 80) ∧ (parseP s.data.toList).2.2 = 0 ∧ (parseP t.data.toList).2.2 = 0
  · obtain ⟨f, hf⟩ := parse_zero h.2.1
    obtain ⟨u, hu⟩ := parse_zero h.2.2
    exact parens_good s t f u w hE hG h.1.1 h.1.2 hf hu
  · exact parens_sad s t w hE hG hs ht h
end Go.Proofs.YthiempadgehhlaaGreatDoor

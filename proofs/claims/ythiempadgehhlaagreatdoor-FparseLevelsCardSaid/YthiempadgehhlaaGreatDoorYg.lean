/- The parser: definitions. -/
import Derived.Test.YthiempadgehhlaaGreatDoorYd
set_option linter.unusedVariables false
set_option linter.unusedSectionVars false
set_option linter.unusedSimpArgs false
namespace Go.Proofs.YthiempadgehhlaaGreatDoor
open Go.RowKit
theorem param_size {L : List Fk} (hL : TokL L) {σ τ : PS} {s : ByteArray} (h : paramM L σ = some (s, τ)) : s.size ≤ 140737488355328 := by
  have h1 := hL.size σ.k
  unfold paramM at h
  split at h
  · injection h with h; injection h with h2 h3; subst h2; omega
  · split at h
    · injection h with h; injection h with h2 h3; subst h2; rw [ByteArray.size_append]; show 1 + _ ≤ _; omega
    · injection h with h; injection h with h2 h3; subst h2; decide
theorem paramsL_size {L : List Fk} (hL : TokL L) : ∀ (n : Nat) (l : List ByteArray) (σ : PS) (r : List ByteArray) (τ : PS), (∀ x ∈ l, x.size ≤ 140737488355328) → listL L (paramM L) n l σ = some (r, τ) → ∀ x ∈ r, x.size ≤ 140737488355328
  | 0, l, σ, r, τ, hl, h => by simp [listL] at h
  | n + 1, l, σ, r, τ, hl, h => by
    rw [listL] at h
    dsimp only at h
    by_cases hb : sees L (⟨#[59]⟩ : ByteArray) σ = true
    · rw [if_pos hb] at h
      obtain ⟨a, σ1, h1, h2⟩ := bnd_some h
      refine paramsL_size hL n _ _ _ _ (fun x hx => ?_) h2
      rcases List.mem_append.1 hx with hx | hx
      · exact hl x hx
      · rw [List.mem_singleton.1 hx]; exact param_size hL h1
    · rw [if_neg hb] at h
      injection h with h
      injection h with h1 h2
      subst h1
      exact hl
theorem params_size {L : List Fk} (hL : TokL L) {n : Nat} {σ τ : PS} {r : List ByteArray} (h : listM L (paramM L) n σ = some (r, τ)) : ∀ x ∈ r, x.size ≤ 140737488355328 := by
  obtain ⟨f, σ1, h1, h2⟩ := bnd_some h
  exact paramsL_size hL _ _ _ _ _ (fun x hx => by rw [List.mem_singleton.1 hx]; exact param_size hL h1) h2
section
variable {S : Nat → Prop} {L : List Fk} {gt C g : Nat} {w w' w0 : World} {σ τ : PS} {bs : List (Nat × Array Value)} {ts : List (Ft × List Value)} {t : Ft} {cs : List Value}
/-- Too many parameters are remembered. -/
theorem St.long (h : St S L gt C g w0 w σ bs ts) (o : Nat) : St S L gt C g w0 ((w.setCell ⟨g, 3, none⟩ (.bool true)).setCell ⟨g, 4, none⟩ (.int .i64 o)) { σ with long := true, lo := o } bs ts := by
  have h1 : PAt L gt C g _ { σ with long := true } := h.r.p.own 3 (.bool true) h.r.p.lt rfl
  have h2 : PAt L gt C g _ { σ with long := true, lo := o } := h1.own 4 (.int .i64 o) h1.lt rfl
  exact h.next (((Gr.refl g w).set 3 _).set 4 _) h2
/-- A definition of these parameters, its parts in the newest row. -/
theorem St.defn (h : St S L gt C g w0 w σ bs ts) (op : Int) (tx : ByteArray) {ps : List ByteArray} {A : Option Addr} {np c : Nat} (hx : (Ft.mk op tx vz ps [], [.int .i64 op, .string tx, .int .i64 0, .int .i64 0, .string ⟨#[]⟩, .slice none 0 0, .slice none 0 0, .slice A np c, .slice none 0 0]) ∈ ts)
    {fs : List Ft} {row : Array Value} {n : Nat} (hn : fs.length = n) (hn2 : n ≤ 100) (hL : LiesFL w (Own S w0 w bs) fs row.toList) {q : Nat} (hq : w.heap.size = q) :
    St S L gt C g w0 (w.alloc (.cells row 32)) σ bs ((.mk op tx vz ps fs, [.int .i64 op, .string tx, .int .i64 0, .int .i64 0, .string ⟨#[]⟩, .slice none 0 0, .slice none 0 0, .slice A np c, .slice (some ⟨q, 0, none⟩) n n]) :: ts) := by
  subst hq
  subst hn
  have h2 := h.alloc (.cells row 32)
  have hx2 := h2.t _ hx
  rw [LiesF] at hx2
  obtain ⟨⟨b1, b2, b3, -⟩, -⟩ := hx2
  obtain ⟨v0, v1, v2, v3, v4, A', a, B, b, xs, he, hv, h1, -, h3, -, hA, -, -⟩ := liesF_open (h2.t _ hx)
  simp only [List.cons.injEq, Value.slice.injEq, and_true] at he
  obtain ⟨-, -, rfl, rfl, rfl, rfl, rfl, ⟨rfl, rfl, rfl⟩, -⟩ := he
  exact h2.put (liesF_mk ⟨b1, b2, b3, by omega⟩ hv h1 (fun e => by simp at e) h3 ⟨Nat.le_refl _, by unfold maxLen; omega⟩ hA (rs_box (Box.laid _ _ _) (.inr ⟨h.lt, by simp, fun q hq => by have := (h.b q hq).2.lt; omega⟩)) (LiesFL.move hL fun b hb => Own.gr h (Gr.one _ _) b hb))
end
set_option maxHeartbeats 10000000 in
set_option maxRecDepth 100000 in
theorem defn_any {L : List Fk} (hL : TokL L) {gt C g : Nat} {call : Ru → PM} (n : Nat) (hn : n ≤ 1000000) (hA : OkA L gt C g call) (W : World) (σ τ : PS) (t : Ft) (hP : PAt L gt C g W σ) (hm : defM L call n σ = some (t, τ)) :
    Calls Tryz.prog 140 #[.pointer (some ⟨g, 0, none⟩)] W (RetF L gt C g W t τ) := by
  obtain ⟨ps, σ2, h1, h2⟩ := bnd_some hm
  obtain ⟨f, σ3, h3, h4⟩ := bnd_some h2
  obtain ⟨u, σ4, h5, h6⟩ := bnd_some h4
  injection h6 with h6
  injection h6 with h7 h8
  subst h7; subst h8
  have H0 := Lib.hid (St.begin hP)
  have HK := Lib.hid (fun W (h : PAt L gt C g W σ) => peek_any h)
  have HKK := Lib.hid (fun W (h : PAt L gt C g W σ) => kind_any hL 1 h)
  have HSZ := Lib.hid (hL.size σ.k)
  have HN := Lib.hid (fun σ W (h : PAt L gt C g W σ) => need_any hL (⟨#[58]⟩ : ByteArray) h)
  have HN2 := Lib.hid (fun W (h : PAt L gt C g W σ3) => need_any hL (⟨#[59]⟩ : ByteArray) h)
  have HC := Lib.hid (fun W h => hA .filter W _ f σ3 h h3)
  have HC2 := Lib.hid (fun W h => hA .filter W _ u σ4 h h5)
  have hfo := field_off (tk L σ.k)
  generalize kindS L 1 σ = σ1 at HKK h1
  clear hP hA hm h2 h3 h4 h5
  obtain ⟨b, hb⟩ : ∃ b, sees L (⟨#[40]⟩ : ByteArray) σ1 = b := ⟨_, rfl⟩
  have HT := Lib.hid (fun W (h : PAt L gt C g W σ1) => take_any hL (⟨#[40]⟩ : ByteArray) b hb h)
  unfold paramsM at h1
  rw [hb] at h1
  clear hb
  generalize tk L σ.k = tk0 at HK HKK HSZ HC hfo ⊢
  obtain ⟨k0, o0, S1, i0⟩ := tk0
  dsimp only at HC HSZ hfo ⊢
  cases b with
  | false =>
    rw [if_neg (by decide)] at h1
    injection h1 with h1
    injection h1 with h3 h4
    subst h3; subst h4
    have HLP : longP [] o0 σ1 = σ1 := by unfold longP; rw [if_neg (by simp)]
    rw [HLP] at HC
    clear HLP
    go_enter Tryz.func140, Tryz.ntmps140
    go_wp2_with fail
    refine (HK.out _ H0.out.r.p).mono ?_
    rintro e w1 ⟨rfl, hb1⟩
    have H1 := Lib.hid (H0.out.low hb1)
    clear hb1
    go_wp2_with fail
    refine (HKK.out _ H1.out.r.p).mono ?_
    rintro e w2 ⟨rfl, hg2, hp2⟩
    have H2 := Lib.hid ((H1.out.next hg2 hp2).box #[.int .i64 26, .string S1, .int .i64 0, .int .i64 0, .string ⟨#[]⟩, .slice none 0 0, .slice none 0 0, .slice none 0 0, .slice none 0 0])
    clear hg2 hp2
    go_wp2_with fail
    refine (HT.out _ H2.out.r.p).mono ?_
    rintro e w3 ⟨rfl, hg3, hp3⟩
    have H3 := Lib.hid (H2.out.next hg3 hp3)
    clear hg3 hp3
    have H4 := Lib.hid (H3.out.leaf 26 S1 0 0 ⟨#[]⟩ (by have := HSZ.out; omega) (by decide))
    obtain ⟨y0, y1, y2, y3, y4, y5, y6, y7, y8⟩ := box9 (H4.out.bx (q := w2.heap.size) (c := #[.int .i64 26, .string S1, .int .i64 0, .int .i64 0, .string ⟨#[]⟩, .slice none 0 0, .slice none 0 0, .slice none 0 0, .slice none 0 0]) (by simp))
    go_wp2_with fail
    refine (HN.out _ _ H4.out.r.p).mono ?_
    rintro e w5 ⟨rfl, hg5, hp5⟩
    have H5 := Lib.hid (H4.out.next hg5 hp5)
    clear hg5 hp5
    go_wp2_with fail
    refine (HC.out _ H5.out.r.p).mono ?_
    rintro e w6 ⟨c10, c11, c12, c13, c14, c15, c16, c17, c18, rfl, hg6, hp6, hl6⟩
    obtain ⟨op1, tx1, k1, j1, s1, A1, na1, ma1, B1, nb1, mb1, C1, nc1, mc1, D1, nd1, md1, rfl, rfl, rfl, rfl, rfl, rfl, rfl, rfl, rfl⟩ := liesF_form hl6
    have HGS := Lib.hid hg6.size
    have H6 := Lib.hid ((H5.out.call hg6 hp6 hl6).box #[.int .i64 op1, .string tx1, .int .i64 k1, .int .i64 j1, .string s1, .slice A1 na1 ma1, .slice B1 nb1 mb1, .slice C1 nc1 mc1, .slice D1 nd1 md1])
    clear hg6 hp6 hl6
    go_wp2_with fail
    refine (HN2.out _ H6.out.r.p).mono ?_
    rintro e w7 ⟨rfl, hg7, hp7⟩
    have H7 := Lib.hid (H6.out.next hg7 hp7)
    clear hg7 hp7
    go_upto_region 10 with (fail)
    have hqq := (H7.out.bx (q := w2.heap.size) (c := #[.int .i64 26, .string S1, .int .i64 0, .int .i64 0, .string ⟨#[]⟩, .slice none 0 0, .slice none 0 0, .slice none 0 0, .slice none 0 0]) (by simp)).lt
    have hq12 : w2.heap.size < w6.heap.size := Nat.lt_of_lt_of_le (H5.out.bx (q := w2.heap.size) (c := #[.int .i64 26, .string S1, .int .i64 0, .int .i64 0, .string ⟨#[]⟩, .slice none 0 0, .slice none 0 0, .slice none 0 0, .slice none 0 0]) (by simp)).lt HGS.out
    generalize w6.heap.size = qq at H7 hq12 ⊢
    have hne12 : ¬ qq = w2.heap.size := by omega
    have keep : Hid (∀ X σ ts, St noS L gt C g W X σ [(qq, #[.int .i64 op1, .string tx1, .int .i64 k1, .int .i64 j1, .string s1, .slice A1 na1 ma1, .slice B1 nb1 mb1, .slice C1 nc1 mc1, .slice D1 nd1 md1]), (w2.heap.size, #[.int .i64 26, .string S1, .int .i64 0, .int .i64 0, .string ⟨#[]⟩, .slice none 0 0, .slice none 0 0, .slice none 0 0, .slice none 0 0])] ts → X.cell? ⟨qq, 0, none⟩ = some (.int .i64 op1) ∧ X.cell? ⟨qq, 1, none⟩ = some (.string tx1) ∧ X.cell? ⟨qq, 2, none⟩ = some (.int .i64 k1) ∧ X.cell? ⟨qq, 3, none⟩ = some (.int .i64 j1) ∧ X.cell? ⟨qq, 4, none⟩ = some (.string s1) ∧ X.cell? ⟨qq, 5, none⟩ = some (.slice A1 na1 ma1) ∧ X.cell? ⟨qq, 6, none⟩ = some (.slice B1 nb1 mb1) ∧ X.cell? ⟨qq, 7, none⟩ = some (.slice C1 nc1 mc1) ∧ X.cell? ⟨qq, 8, none⟩ = some (.slice D1 nd1 md1)) := Lib.hid fun X σ ts hX => box9 (hX.bx (by simp))
    obtain ⟨y0, y1, y2, y3, y4, y5, y6, y7, y8⟩ := keep.out _ _ _ H7.out
    go_region_held3 (fun X => X.cell? ⟨qq, 0, none⟩ = some (.int .i64 op1) ∧ X.cell? ⟨qq, 1, none⟩ = some (.string tx1) ∧ X.cell? ⟨qq, 2, none⟩ = some (.int .i64 k1) ∧ X.cell? ⟨qq, 3, none⟩ = some (.int .i64 j1) ∧ X.cell? ⟨qq, 4, none⟩ = some (.string s1) ∧ X.cell? ⟨qq, 5, none⟩ = some (.slice A1 na1 ma1) ∧ X.cell? ⟨qq, 6, none⟩ = some (.slice B1 nb1 mb1) ∧ X.cell? ⟨qq, 7, none⟩ = some (.slice C1 nc1 mc1) ∧ X.cell? ⟨qq, 8, none⟩ = some (.slice D1 nd1 md1))
      (first
        | with_reducible exact keep.out _ _ _ H7.out.drew
        | with_reducible exact keep.out _ _ _ H8.out
        | with_reducible exact keep.out _ _ _ H9.out
        | exact box9 (H10.out.bx (q := qq) (c := #[.int .i64 op1, .string tx1, .int .i64 k1, .int .i64 j1, .string s1, .slice A1 na1 ma1, .slice B1 nb1 mb1, .slice C1 nc1 mc1, .slice D1 nd1 md1]) (by simp)))
      (first
        | (go_at_call 17; (refine (HC2.out _ H7.out.drew.r.p).mono ?_); rintro e w8 ⟨c20, c21, c22, c23, c24, c25, c26, c27, c28, rfl, hg8, hp8, hl8⟩; obtain ⟨op2, tx2, k2, j2, s2, A2, na2, ma2, B2, nb2, mb2, C2, nc2, mc2, D2, nd2, md2, rfl, rfl, rfl, rfl, rfl, rfl, rfl, rfl, rfl⟩ := liesF_form hl8; have H8 := Lib.hid (H7.out.drew.call hg8 hp8 hl8); clear hg8 hp8 hl8; have H9 := Lib.hid (H8.out.defn 26 S1 (ps := []) (A := none) (np := 0) (c := 0) (by first | (simp; done) | simp [vz]) (fs := [f, u]) (row := #[.int .i64 op1, .string tx1, .int .i64 k1, .int .i64 j1, .string s1, .slice A1 na1 ma1, .slice B1 nb1 mb1, .slice C1 nc1 mc1, .slice D1 nd1 md1, .int .i64 op2, .string tx2, .int .i64 k2, .int .i64 j2, .string s2, .slice A2 na2 ma2, .slice B2 nb2 mb2, .slice C2 nc2 mc2, .slice D2 nd2 md2]) rfl (by simp) (LiesFL.append (LiesFL.one (H8.out.t (f, [.int .i64 op1, .string tx1, .int .i64 k1, .int .i64 j1, .string s1, .slice A1 na1 ma1, .slice B1 nb1 mb1, .slice C1 nc1 mc1, .slice D1 nd1 md1]) (by simp))) (LiesFL.one (H8.out.t (u, [.int .i64 op2, .string tx2, .int .i64 k2, .int .i64 j2, .string s2, .slice A2 na2 ma2, .slice B2 nb2 mb2, .slice C2 nc2 mc2, .slice D2 nd2 md2]) (by simp)))) rfl); have HS0 := Lib.hid ((H8.out.perm (bs' := [(w2.heap.size, #[.int .i64 26, .string S1, .int .i64 0, .int .i64 0, .string ⟨#[]⟩, .slice none 0 0, .slice none 0 0, .slice none 0 0, .slice none 0 0]), (qq, #[.int .i64 op1, .string tx1, .int .i64 k1, .int .i64 j1, .string s1, .slice A1 na1 ma1, .slice B1 nb1 mb1, .slice C1 nc1 mc1, .slice D1 nd1 md1])]) (by intro x; simp; exact Or.comm)).set (by intro x hx; simp at hx; subst hx; exact hne12) 8 (.slice (some ⟨w8.heap.size, 0, none⟩) 2 2) rfl); have H10 := Lib.hid (HS0.out.defn 26 S1 (ps := []) (A := none) (np := 0) (c := 0) (by first | (simp; done) | simp [vz]) (fs := [f, u]) (row := #[.int .i64 op1, .string tx1, .int .i64 k1, .int .i64 j1, .string s1, .slice A1 na1 ma1, .slice B1 nb1 mb1, .slice C1 nc1 mc1, .slice D1 nd1 md1, .int .i64 op2, .string tx2, .int .i64 k2, .int .i64 j2, .string s2, .slice A2 na2 ma2, .slice B2 nb2 mb2, .slice C2 nc2 mc2, .slice D2 nd2 md2]) rfl (by simp) (LiesFL.append (LiesFL.one (HS0.out.t (f, [.int .i64 op1, .string tx1, .int .i64 k1, .int .i64 j1, .string s1, .slice A1 na1 ma1, .slice B1 nb1 mb1, .slice C1 nc1 mc1, .slice D1 nd1 md1]) (by simp))) (LiesFL.one (HS0.out.t (u, [.int .i64 op2, .string tx2, .int .i64 k2, .int .i64 j2, .string s2, .slice A2 na2 ma2, .slice B2 nb2 mb2, .slice C2 nc2 mc2, .slice D2 nd2 md2]) (by simp)))) (q := w8.heap.size) (by simp [World.setCell])); have hz8 := (H9.out.bx (q := w2.heap.size) (c := #[.int .i64 26, .string S1, .int .i64 0, .int .i64 0, .string ⟨#[]⟩, .slice none 0 0, .slice none 0 0, .slice none 0 0, .slice none 0 0]) (by simp)).free 8; have hc8 := (H9.out.bx (q := w2.heap.size) (c := #[.int .i64 26, .string S1, .int .i64 0, .int .i64 0, .string ⟨#[]⟩, .slice none 0 0, .slice none 0 0, .slice none 0 0, .slice none 0 0]) (by simp)).cell (i := 8) rfl; have hl8 := (H8.out.bx (q := w2.heap.size) (c := #[.int .i64 26, .string S1, .int .i64 0, .int .i64 0, .string ⟨#[]⟩, .slice none 0 0, .slice none 0 0, .slice none 0 0, .slice none 0 0]) (by simp)).lt; have hd8 := (H8.out.bx (q := w2.heap.size) (c := #[.int .i64 26, .string S1, .int .i64 0, .int .i64 0, .string ⟨#[]⟩, .slice none 0 0, .slice none 0 0, .slice none 0 0, .slice none 0 0]) (by simp)).free 8; have he8 := (H8.out.bx (q := w2.heap.size) (c := #[.int .i64 26, .string S1, .int .i64 0, .int .i64 0, .string ⟨#[]⟩, .slice none 0 0, .slice none 0 0, .slice none 0 0, .slice none 0 0]) (by simp)).cell (i := 8) rfl))
    obtain ⟨⟨x0, x1, x2, x3, x4, x5, x6, x7, x8⟩, z0, z1, z2, z3, z4, z5, z6, z7, z8⟩ := H10.out.r.cells
    have hltf := H10.out.lt
    clear hz8 hc8 hl8 hd8 he8
    obtain ⟨y0, y1, y2, y3, y4, y5, y6, y7, y8⟩ := box9 (H10.out.bx (q := w2.heap.size) (c := #[.int .i64 26, .string S1, .int .i64 0, .int .i64 0, .string ⟨#[]⟩, .slice none 0 0, .slice none 0 0, .slice none 0 0, .slice (some ⟨w8.heap.size, 0, none⟩) 2 2]) (by simp))
    go_wp2_with fail
    refine post9 Tryz.results140 rfl rfl (H10.out.r.r.put9z _ _ _ _ _ _ _ _ _) ?_
    exact retF_of (H10.out.close (by first | exact List.mem_cons_self | simp))
  | true =>
    rw [if_pos rfl] at h1
    have HPS := Lib.hid (params_size hL h1)
    have hpl : ps.length ≤ 1000000 := Nat.le_trans (list_len hL h1) hn
    have HLS := Lib.hid (fun W (h : PAt L gt C g W (adv σ1)) => lists_any hL n hn W _ σ2 ps h h1)
    clear h1 hn
    obtain ⟨np, hnp⟩ : ∃ np, ps.length = np := ⟨_, rfl⟩
    have HNP := Lib.hid hnp
    obtain ⟨lb, hlb⟩ : ∃ lb, σ2.long = lb := ⟨_, rfl⟩
    have HLB := Lib.hid hlb
    rw [hnp] at hpl
    clear hnp hlb
    by_cases h8 : 8 < np
    · have q8 : (8 : Int) < (np : Int) := by omega
      cases lb with
      | false =>
        have HLP : longP ps o0 σ2 = { σ2 with long := true, lo := o0 } := by unfold longP; rw [if_pos ⟨by rw [HNP.out]; exact h8, HLB.out⟩]
        rw [HLP] at HC
        clear HLP h8
        go_enter Tryz.func140, Tryz.ntmps140
        go_wp2_with fail
        refine (HK.out _ H0.out.r.p).mono ?_
        rintro e w1 ⟨rfl, hb1⟩
        have H1 := Lib.hid (H0.out.low hb1)
        clear hb1
        go_wp2_with fail
        refine (HKK.out _ H1.out.r.p).mono ?_
        rintro e w2 ⟨rfl, hg2, hp2⟩
        have H2 := Lib.hid ((H1.out.next hg2 hp2).box #[.int .i64 26, .string S1, .int .i64 0, .int .i64 0, .string ⟨#[]⟩, .slice none 0 0, .slice none 0 0, .slice none 0 0, .slice none 0 0])
        clear hg2 hp2
        go_wp2_with fail
        refine (HT.out _ H2.out.r.p).mono ?_
        rintro e w3 ⟨rfl, hg3, hp3⟩
        have H3 := Lib.hid (H2.out.next hg3 hp3)
        clear hg3 hp3
        go_wp2_with fail
        refine (HLS.out _ H3.out.r.p).mono ?_
        rintro e w4 ⟨A, cp, rfl, a1, a2, a3, hg4, hp4, hR4⟩
        rw [HNP.out] at a2 ⊢
        have H4 := Lib.hid ((H3.out.next hg4 hp4).put (x := (Ft.mk 26 S1 vz ps [], [.int .i64 26, .string S1, .int .i64 0, .int .i64 0, .string ⟨#[]⟩, .slice none 0 0, .slice none 0 0, .slice A np cp, .slice none 0 0])) (HNP.out ▸ liesF_mk (A := A) (B := none) (a := cp) (b := 0) (xs := []) ⟨by have := HSZ.out; omega, HPS.out, by rw [HNP.out]; omega, by simp⟩ (lies_vz _ _) a1 (fun _ => rfl) ⟨by rw [HNP.out]; exact a2, a3⟩ (by simp [maxLen]) (hR4.move fun b hb => ⟨.inr ⟨Nat.lt_of_lt_of_le H3.out.lt hb.1, hb.2, fun q hq => by have := (H3.out.b q hq).2.lt; have := hb.1; omega⟩, rfl⟩) (Rs.nil _ _ _) (LiesFL.nil _ _)))
        have H5 := Lib.hid (H4.out.set (fun x hx => by simp at hx) 7 (.slice A np cp) rfl)
        have f7 := (H4.out.bx (q := w2.heap.size) (c := #[.int .i64 26, .string S1, .int .i64 0, .int .i64 0, .string ⟨#[]⟩, .slice none 0 0, .slice none 0 0, .slice none 0 0, .slice none 0 0]) (by simp)).free 7
        have c7 := (H4.out.bx (q := w2.heap.size) (c := #[.int .i64 26, .string S1, .int .i64 0, .int .i64 0, .string ⟨#[]⟩, .slice none 0 0, .slice none 0 0, .slice none 0 0, .slice none 0 0]) (by simp)).cell (i := 7) rfl
        have l7 := (H4.out.bx (q := w2.heap.size) (c := #[.int .i64 26, .string S1, .int .i64 0, .int .i64 0, .string ⟨#[]⟩, .slice none 0 0, .slice none 0 0, .slice none 0 0, .slice none 0 0]) (by simp)).lt
        obtain ⟨oo, nn, cc, -, -, -, ⟨pb0, pb1, pb2, pb3, pb4⟩, ⟨pf0, pf1, pf2, pf3, pf4⟩, -, hgg, -, -, -⟩ := H4.out.r.p.op
        rw [HLB.out] at pb3
        have hgq : ¬ g = w2.heap.size := by have := (H4.out.b (w2.heap.size, #[.int .i64 26, .string S1, .int .i64 0, .int .i64 0, .string ⟨#[]⟩, .slice none 0 0, .slice none 0 0, .slice none 0 0, .slice none 0 0]) (by simp)).1; have := H4.out.r.g0; dsimp only at *; omega
        clear hg4 hp4 hR4 a1 a2 a3
        have H6 := Lib.hid (H5.out.long o0)
        go_wp2_with fail
        clear f7 c7 l7 pb0 pb1 pb2 pb3 pb4 pf0 pf1 pf2 pf3 pf4 hgg hgq
        refine (HN.out _ _ H6.out.r.p).mono ?_
        rintro e w7 ⟨rfl, hg7, hp7⟩
        have H7 := Lib.hid (H6.out.next hg7 hp7)
        clear hg7 hp7
        go_wp2_with fail
        refine (HC.out _ H7.out.r.p).mono ?_
        rintro e w8 ⟨c10, c11, c12, c13, c14, c15, c16, c17, c18, rfl, hg8, hp8, hl8⟩
        obtain ⟨op1, tx1, k1, j1, s1, A1, na1, ma1, B1, nb1, mb1, C1, nc1, mc1, D1, nd1, md1, rfl, rfl, rfl, rfl, rfl, rfl, rfl, rfl, rfl⟩ := liesF_form hl8
        have HGS := Lib.hid hg8.size
        have H8 := Lib.hid ((H7.out.call hg8 hp8 hl8).box #[.int .i64 op1, .string tx1, .int .i64 k1, .int .i64 j1, .string s1, .slice A1 na1 ma1, .slice B1 nb1 mb1, .slice C1 nc1 mc1, .slice D1 nd1 md1])
        clear hg8 hp8 hl8
        go_wp2_with fail
        refine (HN2.out _ H8.out.r.p).mono ?_
        rintro e w9 ⟨rfl, hg9, hp9⟩
        have H9 := Lib.hid (H8.out.next hg9 hp9)
        clear hg9 hp9
        go_upto_region 10 with (fail)
        have hqq := (H9.out.bx (q := w2.heap.size) (c := #[.int .i64 26, .string S1, .int .i64 0, .int .i64 0, .string ⟨#[]⟩, .slice none 0 0, .slice none 0 0, .slice A np cp, .slice none 0 0]) (by simp)).lt
        have hq12 : w2.heap.size < w8.heap.size := Nat.lt_of_lt_of_le (H7.out.bx (q := w2.heap.size) (c := #[.int .i64 26, .string S1, .int .i64 0, .int .i64 0, .string ⟨#[]⟩, .slice none 0 0, .slice none 0 0, .slice A np cp, .slice none 0 0]) (by simp)).lt HGS.out
        generalize w8.heap.size = qq at H9 hq12 ⊢
        have hne12 : ¬ qq = w2.heap.size := by omega
        have keep : Hid (∀ X σ ts, St noS L gt C g W X σ [(qq, #[.int .i64 op1, .string tx1, .int .i64 k1, .int .i64 j1, .string s1, .slice A1 na1 ma1, .slice B1 nb1 mb1, .slice C1 nc1 mc1, .slice D1 nd1 md1]), (w2.heap.size, #[.int .i64 26, .string S1, .int .i64 0, .int .i64 0, .string ⟨#[]⟩, .slice none 0 0, .slice none 0 0, .slice A np cp, .slice none 0 0])] ts → X.cell? ⟨qq, 0, none⟩ = some (.int .i64 op1) ∧ X.cell? ⟨qq, 1, none⟩ = some (.string tx1) ∧ X.cell? ⟨qq, 2, none⟩ = some (.int .i64 k1) ∧ X.cell? ⟨qq, 3, none⟩ = some (.int .i64 j1) ∧ X.cell? ⟨qq, 4, none⟩ = some (.string s1) ∧ X.cell? ⟨qq, 5, none⟩ = some (.slice A1 na1 ma1) ∧ X.cell? ⟨qq, 6, none⟩ = some (.slice B1 nb1 mb1) ∧ X.cell? ⟨qq, 7, none⟩ = some (.slice C1 nc1 mc1) ∧ X.cell? ⟨qq, 8, none⟩ = some (.slice D1 nd1 md1)) := Lib.hid fun X σ ts hX => box9 (hX.bx (by simp))
        obtain ⟨y0, y1, y2, y3, y4, y5, y6, y7, y8⟩ := keep.out _ _ _ H9.out
        go_region_held3 (fun X => X.cell? ⟨qq, 0, none⟩ = some (.int .i64 op1) ∧ X.cell? ⟨qq, 1, none⟩ = some (.string tx1) ∧ X.cell? ⟨qq, 2, none⟩ = some (.int .i64 k1) ∧ X.cell? ⟨qq, 3, none⟩ = some (.int .i64 j1) ∧ X.cell? ⟨qq, 4, none⟩ = some (.string s1) ∧ X.cell? ⟨qq, 5, none⟩ = some (.slice A1 na1 ma1) ∧ X.cell? ⟨qq, 6, none⟩ = some (.slice B1 nb1 mb1) ∧ X.cell? ⟨qq, 7, none⟩ = some (.slice C1 nc1 mc1) ∧ X.cell? ⟨qq, 8, none⟩ = some (.slice D1 nd1 md1))
          (first
            | with_reducible exact keep.out _ _ _ H9.out.drew
            | with_reducible exact keep.out _ _ _ H10.out
            | with_reducible exact keep.out _ _ _ H11.out
            | exact box9 (H12.out.bx (q := qq) (c := #[.int .i64 op1, .string tx1, .int .i64 k1, .int .i64 j1, .string s1, .slice A1 na1 ma1, .slice B1 nb1 mb1, .slice C1 nc1 mc1, .slice D1 nd1 md1]) (by simp)))
          (first
            | (go_at_call 17; (refine (HC2.out _ H9.out.drew.r.p).mono ?_); rintro e w10 ⟨c20, c21, c22, c23, c24, c25, c26, c27, c28, rfl, hg10, hp10, hl10⟩; obtain ⟨op2, tx2, k2, j2, s2, A2, na2, ma2, B2, nb2, mb2, C2, nc2, mc2, D2, nd2, md2, rfl, rfl, rfl, rfl, rfl, rfl, rfl, rfl, rfl⟩ := liesF_form hl10; have H10 := Lib.hid (H9.out.drew.call hg10 hp10 hl10); clear hg10 hp10 hl10; have H11 := Lib.hid (H10.out.defn 26 S1 (ps := ps) (A := A) (np := np) (c := cp) (by first | (simp; done) | simp [vz]) (fs := [f, u]) (row := #[.int .i64 op1, .string tx1, .int .i64 k1, .int .i64 j1, .string s1, .slice A1 na1 ma1, .slice B1 nb1 mb1, .slice C1 nc1 mc1, .slice D1 nd1 md1, .int .i64 op2, .string tx2, .int .i64 k2, .int .i64 j2, .string s2, .slice A2 na2 ma2, .slice B2 nb2 mb2, .slice C2 nc2 mc2, .slice D2 nd2 md2]) rfl (by simp) (LiesFL.append (LiesFL.one (H10.out.t (f, [.int .i64 op1, .string tx1, .int .i64 k1, .int .i64 j1, .string s1, .slice A1 na1 ma1, .slice B1 nb1 mb1, .slice C1 nc1 mc1, .slice D1 nd1 md1]) (by simp))) (LiesFL.one (H10.out.t (u, [.int .i64 op2, .string tx2, .int .i64 k2, .int .i64 j2, .string s2, .slice A2 na2 ma2, .slice B2 nb2 mb2, .slice C2 nc2 mc2, .slice D2 nd2 md2]) (by simp)))) rfl); have HS0 := Lib.hid ((H10.out.perm (bs' := [(w2.heap.size, #[.int .i64 26, .string S1, .int .i64 0, .int .i64 0, .string ⟨#[]⟩, .slice none 0 0, .slice none 0 0, .slice A np cp, .slice none 0 0]), (qq, #[.int .i64 op1, .string tx1, .int .i64 k1, .int .i64 j1, .string s1, .slice A1 na1 ma1, .slice B1 nb1 mb1, .slice C1 nc1 mc1, .slice D1 nd1 md1])]) (by intro x; simp; exact Or.comm)).set (by intro x hx; simp at hx; subst hx; exact hne12) 8 (.slice (some ⟨w10.heap.size, 0, none⟩) 2 2) rfl); have H12 := Lib.hid (HS0.out.defn 26 S1 (ps := ps) (A := A) (np := np) (c := cp) (by first | (simp; done) | simp [vz]) (fs := [f, u]) (row := #[.int .i64 op1, .string tx1, .int .i64 k1, .int .i64 j1, .string s1, .slice A1 na1 ma1, .slice B1 nb1 mb1, .slice C1 nc1 mc1, .slice D1 nd1 md1, .int .i64 op2, .string tx2, .int .i64 k2, .int .i64 j2, .string s2, .slice A2 na2 ma2, .slice B2 nb2 mb2, .slice C2 nc2 mc2, .slice D2 nd2 md2]) rfl (by simp) (LiesFL.append (LiesFL.one (HS0.out.t (f, [.int .i64 op1, .string tx1, .int .i64 k1, .int .i64 j1, .string s1, .slice A1 na1 ma1, .slice B1 nb1 mb1, .slice C1 nc1 mc1, .slice D1 nd1 md1]) (by simp))) (LiesFL.one (HS0.out.t (u, [.int .i64 op2, .string tx2, .int .i64 k2, .int .i64 j2, .string s2, .slice A2 na2 ma2, .slice B2 nb2 mb2, .slice C2 nc2 mc2, .slice D2 nd2 md2]) (by simp)))) (q := w10.heap.size) (by simp [World.setCell])); have hz8 := (H11.out.bx (q := w2.heap.size) (c := #[.int .i64 26, .string S1, .int .i64 0, .int .i64 0, .string ⟨#[]⟩, .slice none 0 0, .slice none 0 0, .slice A np cp, .slice none 0 0]) (by simp)).free 8; have hc8 := (H11.out.bx (q := w2.heap.size) (c := #[.int .i64 26, .string S1, .int .i64 0, .int .i64 0, .string ⟨#[]⟩, .slice none 0 0, .slice none 0 0, .slice A np cp, .slice none 0 0]) (by simp)).cell (i := 8) rfl; have hl8 := (H10.out.bx (q := w2.heap.size) (c := #[.int .i64 26, .string S1, .int .i64 0, .int .i64 0, .string ⟨#[]⟩, .slice none 0 0, .slice none 0 0, .slice A np cp, .slice none 0 0]) (by simp)).lt; have hd8 := (H10.out.bx (q := w2.heap.size) (c := #[.int .i64 26, .string S1, .int .i64 0, .int .i64 0, .string ⟨#[]⟩, .slice none 0 0, .slice none 0 0, .slice A np cp, .slice none 0 0]) (by simp)).free 8; have he8 := (H10.out.bx (q := w2.heap.size) (c := #[.int .i64 26, .string S1, .int .i64 0, .int .i64 0, .string ⟨#[]⟩, .slice none 0 0, .slice none 0 0, .slice A np cp, .slice none 0 0]) (by simp)).cell (i := 8) rfl))
        obtain ⟨⟨x0, x1, x2, x3, x4, x5, x6, x7, x8⟩, z0, z1, z2, z3, z4, z5, z6, z7, z8⟩ := H12.out.r.cells
        have hltf := H12.out.lt
        clear hz8 hc8 hl8 hd8 he8
        obtain ⟨y0, y1, y2, y3, y4, y5, y6, y7, y8⟩ := box9 (H12.out.bx (q := w2.heap.size) (c := #[.int .i64 26, .string S1, .int .i64 0, .int .i64 0, .string ⟨#[]⟩, .slice none 0 0, .slice none 0 0, .slice A np cp, .slice (some ⟨w10.heap.size, 0, none⟩) 2 2]) (by simp))
        go_wp2_with fail
        refine post9 Tryz.results140 rfl rfl (H12.out.r.r.put9z _ _ _ _ _ _ _ _ _) ?_
        exact retF_of (H12.out.close (by first | exact List.mem_cons_self | simp))
      | true =>
        have HLP : longP ps o0 σ2 = σ2 := by unfold longP; rw [if_neg (fun h => by rw [HLB.out] at h; exact absurd h.2 (by decide))]
        rw [HLP] at HC
        clear HLP h8
        go_enter Tryz.func140, Tryz.ntmps140
        go_wp2_with fail
        refine (HK.out _ H0.out.r.p).mono ?_
        rintro e w1 ⟨rfl, hb1⟩
        have H1 := Lib.hid (H0.out.low hb1)
        clear hb1
        go_wp2_with fail
        refine (HKK.out _ H1.out.r.p).mono ?_
        rintro e w2 ⟨rfl, hg2, hp2⟩
        have H2 := Lib.hid ((H1.out.next hg2 hp2).box #[.int .i64 26, .string S1, .int .i64 0, .int .i64 0, .string ⟨#[]⟩, .slice none 0 0, .slice none 0 0, .slice none 0 0, .slice none 0 0])
        clear hg2 hp2
        go_wp2_with fail
        refine (HT.out _ H2.out.r.p).mono ?_
        rintro e w3 ⟨rfl, hg3, hp3⟩
        have H3 := Lib.hid (H2.out.next hg3 hp3)
        clear hg3 hp3
        go_wp2_with fail
        refine (HLS.out _ H3.out.r.p).mono ?_
        rintro e w4 ⟨A, cp, rfl, a1, a2, a3, hg4, hp4, hR4⟩
        rw [HNP.out] at a2 ⊢
        have H4 := Lib.hid ((H3.out.next hg4 hp4).put (x := (Ft.mk 26 S1 vz ps [], [.int .i64 26, .string S1, .int .i64 0, .int .i64 0, .string ⟨#[]⟩, .slice none 0 0, .slice none 0 0, .slice A np cp, .slice none 0 0])) (HNP.out ▸ liesF_mk (A := A) (B := none) (a := cp) (b := 0) (xs := []) ⟨by have := HSZ.out; omega, HPS.out, by rw [HNP.out]; omega, by simp⟩ (lies_vz _ _) a1 (fun _ => rfl) ⟨by rw [HNP.out]; exact a2, a3⟩ (by simp [maxLen]) (hR4.move fun b hb => ⟨.inr ⟨Nat.lt_of_lt_of_le H3.out.lt hb.1, hb.2, fun q hq => by have := (H3.out.b q hq).2.lt; have := hb.1; omega⟩, rfl⟩) (Rs.nil _ _ _) (LiesFL.nil _ _)))
        have H5 := Lib.hid (H4.out.set (fun x hx => by simp at hx) 7 (.slice A np cp) rfl)
        have f7 := (H4.out.bx (q := w2.heap.size) (c := #[.int .i64 26, .string S1, .int .i64 0, .int .i64 0, .string ⟨#[]⟩, .slice none 0 0, .slice none 0 0, .slice none 0 0, .slice none 0 0]) (by simp)).free 7
        have c7 := (H4.out.bx (q := w2.heap.size) (c := #[.int .i64 26, .string S1, .int .i64 0, .int .i64 0, .string ⟨#[]⟩, .slice none 0 0, .slice none 0 0, .slice none 0 0, .slice none 0 0]) (by simp)).cell (i := 7) rfl
        have l7 := (H4.out.bx (q := w2.heap.size) (c := #[.int .i64 26, .string S1, .int .i64 0, .int .i64 0, .string ⟨#[]⟩, .slice none 0 0, .slice none 0 0, .slice none 0 0, .slice none 0 0]) (by simp)).lt
        obtain ⟨oo, nn, cc, -, -, -, ⟨pb0, pb1, pb2, pb3, pb4⟩, ⟨pf0, pf1, pf2, pf3, pf4⟩, -, hgg, -, -, -⟩ := H4.out.r.p.op
        rw [HLB.out] at pb3
        have hgq : ¬ g = w2.heap.size := by have := (H4.out.b (w2.heap.size, #[.int .i64 26, .string S1, .int .i64 0, .int .i64 0, .string ⟨#[]⟩, .slice none 0 0, .slice none 0 0, .slice none 0 0, .slice none 0 0]) (by simp)).1; have := H4.out.r.g0; dsimp only at *; omega
        clear hg4 hp4 hR4 a1 a2 a3
        go_wp2_with fail
        clear f7 c7 l7 pb0 pb1 pb2 pb3 pb4 pf0 pf1 pf2 pf3 pf4 hgg hgq
        refine (HN.out _ _ H5.out.r.p).mono ?_
        rintro e w6 ⟨rfl, hg6, hp6⟩
        have H6 := Lib.hid (H5.out.next hg6 hp6)
        clear hg6 hp6
        go_wp2_with fail
        refine (HC.out _ H6.out.r.p).mono ?_
        rintro e w7 ⟨c10, c11, c12, c13, c14, c15, c16, c17, c18, rfl, hg7, hp7, hl7⟩
        obtain ⟨op1, tx1, k1, j1, s1, A1, na1, ma1, B1, nb1, mb1, C1, nc1, mc1, D1, nd1, md1, rfl, rfl, rfl, rfl, rfl, rfl, rfl, rfl, rfl⟩ := liesF_form hl7
        have HGS := Lib.hid hg7.size
        have H7 := Lib.hid ((H6.out.call hg7 hp7 hl7).box #[.int .i64 op1, .string tx1, .int .i64 k1, .int .i64 j1, .string s1, .slice A1 na1 ma1, .slice B1 nb1 mb1, .slice C1 nc1 mc1, .slice D1 nd1 md1])
        clear hg7 hp7 hl7
        go_wp2_with fail
        refine (HN2.out _ H7.out.r.p).mono ?_
        rintro e w8 ⟨rfl, hg8, hp8⟩
        have H8 := Lib.hid (H7.out.next hg8 hp8)
        clear hg8 hp8
        go_upto_region 10 with (fail)
        have hqq := (H8.out.bx (q := w2.heap.size) (c := #[.int .i64 26, .string S1, .int .i64 0, .int .i64 0, .string ⟨#[]⟩, .slice none 0 0, .slice none 0 0, .slice A np cp, .slice none 0 0]) (by simp)).lt
        have hq12 : w2.heap.size < w7.heap.size := Nat.lt_of_lt_of_le (H6.out.bx (q := w2.heap.size) (c := #[.int .i64 26, .string S1, .int .i64 0, .int .i64 0, .string ⟨#[]⟩, .slice none 0 0, .slice none 0 0, .slice A np cp, .slice none 0 0]) (by simp)).lt HGS.out
        generalize w7.heap.size = qq at H8 hq12 ⊢
        have hne12 : ¬ qq = w2.heap.size := by omega
        have keep : Hid (∀ X σ ts, St noS L gt C g W X σ [(qq, #[.int .i64 op1, .string tx1, .int .i64 k1, .int .i64 j1, .string s1, .slice A1 na1 ma1, .slice B1 nb1 mb1, .slice C1 nc1 mc1, .slice D1 nd1 md1]), (w2.heap.size, #[.int .i64 26, .string S1, .int .i64 0, .int .i64 0, .string ⟨#[]⟩, .slice none 0 0, .slice none 0 0, .slice A np cp, .slice none 0 0])] ts → X.cell? ⟨qq, 0, none⟩ = some (.int .i64 op1) ∧ X.cell? ⟨qq, 1, none⟩ = some (.string tx1) ∧ X.cell? ⟨qq, 2, none⟩ = some (.int .i64 k1) ∧ X.cell? ⟨qq, 3, none⟩ = some (.int .i64 j1) ∧ X.cell? ⟨qq, 4, none⟩ = some (.string s1) ∧ X.cell? ⟨qq, 5, none⟩ = some (.slice A1 na1 ma1) ∧ X.cell? ⟨qq, 6, none⟩ = some (.slice B1 nb1 mb1) ∧ X.cell? ⟨qq, 7, none⟩ = some (.slice C1 nc1 mc1) ∧ X.cell? ⟨qq, 8, none⟩ = some (.slice D1 nd1 md1)) := Lib.hid fun X σ ts hX => box9 (hX.bx (by simp))
        obtain ⟨y0, y1, y2, y3, y4, y5, y6, y7, y8⟩ := keep.out _ _ _ H8.out
        go_region_held3 (fun X => X.cell? ⟨qq, 0, none⟩ = some (.int .i64 op1) ∧ X.cell? ⟨qq, 1, none⟩ = some (.string tx1) ∧ X.cell? ⟨qq, 2, none⟩ = some (.int .i64 k1) ∧ X.cell? ⟨qq, 3, none⟩ = some (.int .i64 j1) ∧ X.cell? ⟨qq, 4, none⟩ = some (.string s1) ∧ X.cell? ⟨qq, 5, none⟩ = some (.slice A1 na1 ma1) ∧ X.cell? ⟨qq, 6, none⟩ = some (.slice B1 nb1 mb1) ∧ X.cell? ⟨qq, 7, none⟩ = some (.slice C1 nc1 mc1) ∧ X.cell? ⟨qq, 8, none⟩ = some (.slice D1 nd1 md1))
          (first
            | with_reducible exact keep.out _ _ _ H8.out.drew
            | with_reducible exact keep.out _ _ _ H9.out
            | with_reducible exact keep.out _ _ _ H10.out
            | exact box9 (H11.out.bx (q := qq) (c := #[.int .i64 op1, .string tx1, .int .i64 k1, .int .i64 j1, .string s1, .slice A1 na1 ma1, .slice B1 nb1 mb1, .slice C1 nc1 mc1, .slice D1 nd1 md1]) (by simp)))
          (first
            | (go_at_call 17; (refine (HC2.out _ H8.out.drew.r.p).mono ?_); rintro e w9 ⟨c20, c21, c22, c23, c24, c25, c26, c27, c28, rfl, hg9, hp9, hl9⟩; obtain ⟨op2, tx2, k2, j2, s2, A2, na2, ma2, B2, nb2, mb2, C2, nc2, mc2, D2, nd2, md2, rfl, rfl, rfl, rfl, rfl, rfl, rfl, rfl, rfl⟩ := liesF_form hl9; have H9 := Lib.hid (H8.out.drew.call hg9 hp9 hl9); clear hg9 hp9 hl9; have H10 := Lib.hid (H9.out.defn 26 S1 (ps := ps) (A := A) (np := np) (c := cp) (by first | (simp; done) | simp [vz]) (fs := [f, u]) (row := #[.int .i64 op1, .string tx1, .int .i64 k1, .int .i64 j1, .string s1, .slice A1 na1 ma1, .slice B1 nb1 mb1, .slice C1 nc1 mc1, .slice D1 nd1 md1, .int .i64 op2, .string tx2, .int .i64 k2, .int .i64 j2, .string s2, .slice A2 na2 ma2, .slice B2 nb2 mb2, .slice C2 nc2 mc2, .slice D2 nd2 md2]) rfl (by simp) (LiesFL.append (LiesFL.one (H9.out.t (f, [.int .i64 op1, .string tx1, .int .i64 k1, .int .i64 j1, .string s1, .slice A1 na1 ma1, .slice B1 nb1 mb1, .slice C1 nc1 mc1, .slice D1 nd1 md1]) (by simp))) (LiesFL.one (H9.out.t (u, [.int .i64 op2, .string tx2, .int .i64 k2, .int .i64 j2, .string s2, .slice A2 na2 ma2, .slice B2 nb2 mb2, .slice C2 nc2 mc2, .slice D2 nd2 md2]) (by simp)))) rfl); have HS0 := Lib.hid ((H9.out.perm (bs' := [(w2.heap.size, #[.int .i64 26, .string S1, .int .i64 0, .int .i64 0, .string ⟨#[]⟩, .slice none 0 0, .slice none 0 0, .slice A np cp, .slice none 0 0]), (qq, #[.int .i64 op1, .string tx1, .int .i64 k1, .int .i64 j1, .string s1, .slice A1 na1 ma1, .slice B1 nb1 mb1, .slice C1 nc1 mc1, .slice D1 nd1 md1])]) (by intro x; simp; exact Or.comm)).set (by intro x hx; simp at hx; subst hx; exact hne12) 8 (.slice (some ⟨w9.heap.size, 0, none⟩) 2 2) rfl); have H11 := Lib.hid (HS0.out.defn 26 S1 (ps := ps) (A := A) (np := np) (c := cp) (by first | (simp; done) | simp [vz]) (fs := [f, u]) (row := #[.int .i64 op1, .string tx1, .int .i64 k1, .int .i64 j1, .string s1, .slice A1 na1 ma1, .slice B1 nb1 mb1, .slice C1 nc1 mc1, .slice D1 nd1 md1, .int .i64 op2, .string tx2, .int .i64 k2, .int .i64 j2, .string s2, .slice A2 na2 ma2, .slice B2 nb2 mb2, .slice C2 nc2 mc2, .slice D2 nd2 md2]) rfl (by simp) (LiesFL.append (LiesFL.one (HS0.out.t (f, [.int .i64 op1, .string tx1, .int .i64 k1, .int .i64 j1, .string s1, .slice A1 na1 ma1, .slice B1 nb1 mb1, .slice C1 nc1 mc1, .slice D1 nd1 md1]) (by simp))) (LiesFL.one (HS0.out.t (u, [.int .i64 op2, .string tx2, .int .i64 k2, .int .i64 j2, .string s2, .slice A2 na2 ma2, .slice B2 nb2 mb2, .slice C2 nc2 mc2, .slice D2 nd2 md2]) (by simp)))) (q := w9.heap.size) (by simp [World.setCell])); have hz8 := (H10.out.bx (q := w2.heap.size) (c := #[.int .i64 26, .string S1, .int .i64 0, .int .i64 0, .string ⟨#[]⟩, .slice none 0 0, .slice none 0 0, .slice A np cp, .slice none 0 0]) (by simp)).free 8; have hc8 := (H10.out.bx (q := w2.heap.size) (c := #[.int .i64 26, .string S1, .int .i64 0, .int .i64 0, .string ⟨#[]⟩, .slice none 0 0, .slice none 0 0, .slice A np cp, .slice none 0 0]) (by simp)).cell (i := 8) rfl; have hl8 := (H9.out.bx (q := w2.heap.size) (c := #[.int .i64 26, .string S1, .int .i64 0, .int .i64 0, .string ⟨#[]⟩, .slice none 0 0, .slice none 0 0, .slice A np cp, .slice none 0 0]) (by simp)).lt; have hd8 := (H9.out.bx (q := w2.heap.size) (c := #[.int .i64 26, .string S1, .int .i64 0, .int .i64 0, .string ⟨#[]⟩, .slice none 0 0, .slice none 0 0, .slice A np cp, .slice none 0 0]) (by simp)).free 8; have he8 := (H9.out.bx (q := w2.heap.size) (c := #[.int .i64 26, .string S1, .int .i64 0, .int .i64 0, .string ⟨#[]⟩, .slice none 0 0, .slice none 0 0, .slice A np cp, .slice none 0 0]) (by simp)).cell (i := 8) rfl))
        obtain ⟨⟨x0, x1, x2, x3, x4, x5, x6, x7, x8⟩, z0, z1, z2, z3, z4, z5, z6, z7, z8⟩ := H11.out.r.cells
        have hltf := H11.out.lt
        clear hz8 hc8 hl8 hd8 he8
        obtain ⟨y0, y1, y2, y3, y4, y5, y6, y7, y8⟩ := box9 (H11.out.bx (q := w2.heap.size) (c := #[.int .i64 26, .string S1, .int .i64 0, .int .i64 0, .string ⟨#[]⟩, .slice none 0 0, .slice none 0 0, .slice A np cp, .slice (some ⟨w9.heap.size, 0, none⟩) 2 2]) (by simp))
        go_wp2_with fail
        refine post9 Tryz.results140 rfl rfl (H11.out.r.r.put9z _ _ _ _ _ _ _ _ _) ?_
        exact retF_of (H11.out.close (by first | exact List.mem_cons_self | simp))
    · have q8 : ¬ (8 : Int) < (np : Int) := by omega
      have HLP : longP ps o0 σ2 = σ2 := by unfold longP; rw [if_neg (fun h => h8 (by rw [← HNP.out]; exact h.1))]
      rw [HLP] at HC
      clear HLP h8
      go_enter Tryz.func140, Tryz.ntmps140
      go_wp2_with fail
      refine (HK.out _ H0.out.r.p).mono ?_
      rintro e w1 ⟨rfl, hb1⟩
      have H1 := Lib.hid (H0.out.low hb1)
      clear hb1
      go_wp2_with fail
      refine (HKK.out _ H1.out.r.p).mono ?_
      rintro e w2 ⟨rfl, hg2, hp2⟩
      have H2 := Lib.hid ((H1.out.next hg2 hp2).box #[.int .i64 26, .string S1, .int .i64 0, .int .i64 0, .string ⟨#[]⟩, .slice none 0 0, .slice none 0 0, .slice none 0 0, .slice none 0 0])
      clear hg2 hp2
      go_wp2_with fail
      refine (HT.out _ H2.out.r.p).mono ?_
      rintro e w3 ⟨rfl, hg3, hp3⟩
      have H3 := Lib.hid (H2.out.next hg3 hp3)
      clear hg3 hp3
      go_wp2_with fail
      refine (HLS.out _ H3.out.r.p).mono ?_
      rintro e w4 ⟨A, cp, rfl, a1, a2, a3, hg4, hp4, hR4⟩
      rw [HNP.out] at a2 ⊢
      have H4 := Lib.hid ((H3.out.next hg4 hp4).put (x := (Ft.mk 26 S1 vz ps [], [.int .i64 26, .string S1, .int .i64 0, .int .i64 0, .string ⟨#[]⟩, .slice none 0 0, .slice none 0 0, .slice A np cp, .slice none 0 0])) (HNP.out ▸ liesF_mk (A := A) (B := none) (a := cp) (b := 0) (xs := []) ⟨by have := HSZ.out; omega, HPS.out, by rw [HNP.out]; omega, by simp⟩ (lies_vz _ _) a1 (fun _ => rfl) ⟨by rw [HNP.out]; exact a2, a3⟩ (by simp [maxLen]) (hR4.move fun b hb => ⟨.inr ⟨Nat.lt_of_lt_of_le H3.out.lt hb.1, hb.2, fun q hq => by have := (H3.out.b q hq).2.lt; have := hb.1; omega⟩, rfl⟩) (Rs.nil _ _ _) (LiesFL.nil _ _)))
      have H5 := Lib.hid (H4.out.set (fun x hx => by simp at hx) 7 (.slice A np cp) rfl)
      have f7 := (H4.out.bx (q := w2.heap.size) (c := #[.int .i64 26, .string S1, .int .i64 0, .int .i64 0, .string ⟨#[]⟩, .slice none 0 0, .slice none 0 0, .slice none 0 0, .slice none 0 0]) (by simp)).free 7
      have c7 := (H4.out.bx (q := w2.heap.size) (c := #[.int .i64 26, .string S1, .int .i64 0, .int .i64 0, .string ⟨#[]⟩, .slice none 0 0, .slice none 0 0, .slice none 0 0, .slice none 0 0]) (by simp)).cell (i := 7) rfl
      have l7 := (H4.out.bx (q := w2.heap.size) (c := #[.int .i64 26, .string S1, .int .i64 0, .int .i64 0, .string ⟨#[]⟩, .slice none 0 0, .slice none 0 0, .slice none 0 0, .slice none 0 0]) (by simp)).lt
      obtain ⟨oo, nn, cc, -, -, -, ⟨pb0, pb1, pb2, pb3, pb4⟩, ⟨pf0, pf1, pf2, pf3, pf4⟩, -, hgg, -, -, -⟩ := H4.out.r.p.op
      rw [HLB.out] at pb3
      have hgq : ¬ g = w2.heap.size := by have := (H4.out.b (w2.heap.size, #[.int .i64 26, .string S1, .int .i64 0, .int .i64 0, .string ⟨#[]⟩, .slice none 0 0, .slice none 0 0, .slice none 0 0, .slice none 0 0]) (by simp)).1; have := H4.out.r.g0; dsimp only at *; omega
      clear hg4 hp4 hR4 a1 a2 a3
      go_wp2_with fail
      clear f7 c7 l7 pb0 pb1 pb2 pb3 pb4 pf0 pf1 pf2 pf3 pf4 hgg hgq
      refine (HN.out _ _ H5.out.r.p).mono ?_
      rintro e w6 ⟨rfl, hg6, hp6⟩
      have H6 := Lib.hid (H5.out.next hg6 hp6)
      clear hg6 hp6
      go_wp2_with fail
      refine (HC.out _ H6.out.r.p).mono ?_
      rintro e w7 ⟨c10, c11, c12, c13, c14, c15, c16, c17, c18, rfl, hg7, hp7, hl7⟩
      obtain ⟨op1, tx1, k1, j1, s1, A1, na1, ma1, B1, nb1, mb1, C1, nc1, mc1, D1, nd1, md1, rfl, rfl, rfl, rfl, rfl, rfl, rfl, rfl, rfl⟩ := liesF_form hl7
      have HGS := Lib.hid hg7.size
      have H7 := Lib.hid ((H6.out.call hg7 hp7 hl7).box #[.int .i64 op1, .string tx1, .int .i64 k1, .int .i64 j1, .string s1, .slice A1 na1 ma1, .slice B1 nb1 mb1, .slice C1 nc1 mc1, .slice D1 nd1 md1])
      clear hg7 hp7 hl7
      go_wp2_with fail
      refine (HN2.out _ H7.out.r.p).mono ?_
      rintro e w8 ⟨rfl, hg8, hp8⟩
      have H8 := Lib.hid (H7.out.next hg8 hp8)
      clear hg8 hp8
      go_upto_region 10 with (fail)
      have hqq := (H8.out.bx (q := w2.heap.size) (c := #[.int .i64 26, .string S1, .int .i64 0, .int .i64 0, .string ⟨#[]⟩, .slice none 0 0, .slice none 0 0, .slice A np cp, .slice none 0 0]) (by simp)).lt
      have hq12 : w2.heap.size < w7.heap.size := Nat.lt_of_lt_of_le (H6.out.bx (q := w2.heap.size) (c := #[.int .i64 26, .string S1, .int .i64 0, .int .i64 0, .string ⟨#[]⟩, .slice none 0 0, .slice none 0 0, .slice A np cp, .slice none 0 0]) (by simp)).lt HGS.out
      generalize w7.heap.size = qq at H8 hq12 ⊢
      have hne12 : ¬ qq = w2.heap.size := by omega
      have keep : Hid (∀ X σ ts, St noS L gt C g W X σ [(qq, #[.int .i64 op1, .string tx1, .int .i64 k1, .int .i64 j1, .string s1, .slice A1 na1 ma1, .slice B1 nb1 mb1, .slice C1 nc1 mc1, .slice D1 nd1 md1]), (w2.heap.size, #[.int .i64 26, .string S1, .int .i64 0, .int .i64 0, .string ⟨#[]⟩, .slice none 0 0, .slice none 0 0, .slice A np cp, .slice none 0 0])] ts → X.cell? ⟨qq, 0, none⟩ = some (.int .i64 op1) ∧ X.cell? ⟨qq, 1, none⟩ = some (.string tx1) ∧ X.cell? ⟨qq, 2, none⟩ = some (.int .i64 k1) ∧ X.cell? ⟨qq, 3, none⟩ = some (.int .i64 j1) ∧ X.cell? ⟨qq, 4, none⟩ = some (.string s1) ∧ X.cell? ⟨qq, 5, none⟩ = some (.slice A1 na1 ma1) ∧ X.cell? ⟨qq, 6, none⟩ = some (.slice B1 nb1 mb1) ∧ X.cell? ⟨qq, 7, none⟩ = some (.slice C1 nc1 mc1) ∧ X.cell? ⟨qq, 8, none⟩ = some (.slice D1 nd1 md1)) := Lib.hid fun X σ ts hX => box9 (hX.bx (by simp))
      obtain ⟨y0, y1, y2, y3, y4, y5, y6, y7, y8⟩ := keep.out _ _ _ H8.out
      go_region_held3 (fun X => X.cell? ⟨qq, 0, none⟩ = some (.int .i64 op1) ∧ X.cell? ⟨qq, 1, none⟩ = some (.string tx1) ∧ X.cell? ⟨qq, 2, none⟩ = some (.int .i64 k1) ∧ X.cell? ⟨qq, 3, none⟩ = some (.int .i64 j1) ∧ X.cell? ⟨qq, 4, none⟩ = some (.string s1) ∧ X.cell? ⟨qq, 5, none⟩ = some (.slice A1 na1 ma1) ∧ X.cell? ⟨qq, 6, none⟩ = some (.slice B1 nb1 mb1) ∧ X.cell? ⟨qq, 7, none⟩ = some (.slice C1 nc1 mc1) ∧ X.cell? ⟨qq, 8, none⟩ = some (.slice D1 nd1 md1))
        (first
          | with_reducible exact keep.out _ _ _ H8.out.drew
          | with_reducible exact keep.out _ _ _ H9.out
          | with_reducible exact keep.out _ _ _ H10.out
          | exact box9 (H11.out.bx (q := qq) (c := #[.int .i64 op1, .string tx1, .int .i64 k1, .int .i64 j1, .string s1, .slice A1 na1 ma1, .slice B1 nb1 mb1, .slice C1 nc1 mc1, .slice D1 nd1 md1]) (by simp)))
        (first
          | (go_at_call 17; (refine (HC2.out _ H8.out.drew.r.p).mono ?_); rintro e w9 ⟨c20, c21, c22, c23, c24, c25, c26, c27, c28, rfl, hg9, hp9, hl9⟩; obtain ⟨op2, tx2, k2, j2, s2, A2, na2, ma2, B2, nb2, mb2, C2, nc2, mc2, D2, nd2, md2, rfl, rfl, rfl, rfl, rfl, rfl, rfl, rfl, rfl⟩ := liesF_form hl9; have H9 := Lib.hid (H8.out.drew.call hg9 hp9 hl9); clear hg9 hp9 hl9; have H10 := Lib.hid (H9.out.defn 26 S1 (ps := ps) (A := A) (np := np) (c := cp) (by first | (simp; done) | simp [vz]) (fs := [f, u]) (row := #[.int .i64 op1, .string tx1, .int .i64 k1, .int .i64 j1, .string s1, .slice A1 na1 ma1, .slice B1 nb1 mb1, .slice C1 nc1 mc1, .slice D1 nd1 md1, .int .i64 op2, .string tx2, .int .i64 k2, .int .i64 j2, .string s2, .slice A2 na2 ma2, .slice B2 nb2 mb2, .slice C2 nc2 mc2, .slice D2 nd2 md2]) rfl (by simp) (LiesFL.append (LiesFL.one (H9.out.t (f, [.int .i64 op1, .string tx1, .int .i64 k1, .int .i64 j1, .string s1, .slice A1 na1 ma1, .slice B1 nb1 mb1, .slice C1 nc1 mc1, .slice D1 nd1 md1]) (by simp))) (LiesFL.one (H9.out.t (u, [.int .i64 op2, .string tx2, .int .i64 k2, .int .i64 j2, .string s2, .slice A2 na2 ma2, .slice B2 nb2 mb2, .slice C2 nc2 mc2, .slice D2 nd2 md2]) (by simp)))) rfl); have HS0 := Lib.hid ((H9.out.perm (bs' := [(w2.heap.size, #[.int .i64 26, .string S1, .int .i64 0, .int .i64 0, .string ⟨#[]⟩, .slice none 0 0, .slice none 0 0, .slice A np cp, .slice none 0 0]), (qq, #[.int .i64 op1, .string tx1, .int .i64 k1, .int .i64 j1, .string s1, .slice A1 na1 ma1, .slice B1 nb1 mb1, .slice C1 nc1 mc1, .slice D1 nd1 md1])]) (by intro x; simp; exact Or.comm)).set (by intro x hx; simp at hx; subst hx; exact hne12) 8 (.slice (some ⟨w9.heap.size, 0, none⟩) 2 2) rfl); have H11 := Lib.hid (HS0.out.defn 26 S1 (ps := ps) (A := A) (np := np) (c := cp) (by first | (simp; done) | simp [vz]) (fs := [f, u]) (row := #[.int .i64 op1, .string tx1, .int .i64 k1, .int .i64 j1, .string s1, .slice A1 na1 ma1, .slice B1 nb1 mb1, .slice C1 nc1 mc1, .slice D1 nd1 md1, .int .i64 op2, .string tx2, .int .i64 k2, .int .i64 j2, .string s2, .slice A2 na2 ma2, .slice B2 nb2 mb2, .slice C2 nc2 mc2, .slice D2 nd2 md2]) rfl (by simp) (LiesFL.append (LiesFL.one (HS0.out.t (f, [.int .i64 op1, .string tx1, .int .i64 k1, .int .i64 j1, .string s1, .slice A1 na1 ma1, .slice B1 nb1 mb1, .slice C1 nc1 mc1, .slice D1 nd1 md1]) (by simp))) (LiesFL.one (HS0.out.t (u, [.int .i64 op2, .string tx2, .int .i64 k2, .int .i64 j2, .string s2, .slice A2 na2 ma2, .slice B2 nb2 mb2, .slice C2 nc2 mc2, .slice D2 nd2 md2]) (by simp)))) (q := w9.heap.size) (by simp [World.setCell])); have hz8 := (H10.out.bx (q := w2.heap.size) (c := #[.int .i64 26, .string S1, .int .i64 0, .int .i64 0, .string ⟨#[]⟩, .slice none 0 0, .slice none 0 0, .slice A np cp, .slice none 0 0]) (by simp)).free 8; have hc8 := (H10.out.bx (q := w2.heap.size) (c := #[.int .i64 26, .string S1, .int .i64 0, .int .i64 0, .string ⟨#[]⟩, .slice none 0 0, .slice none 0 0, .slice A np cp, .slice none 0 0]) (by simp)).cell (i := 8) rfl; have hl8 := (H9.out.bx (q := w2.heap.size) (c := #[.int .i64 26, .string S1, .int .i64 0, .int .i64 0, .string ⟨#[]⟩, .slice none 0 0, .slice none 0 0, .slice A np cp, .slice none 0 0]) (by simp)).lt; have hd8 := (H9.out.bx (q := w2.heap.size) (c := #[.int .i64 26, .string S1, .int .i64 0, .int .i64 0, .string ⟨#[]⟩, .slice none 0 0, .slice none 0 0, .slice A np cp, .slice none 0 0]) (by simp)).free 8; have he8 := (H9.out.bx (q := w2.heap.size) (c := #[.int .i64 26, .string S1, .int .i64 0, .int .i64 0, .string ⟨#[]⟩, .slice none 0 0, .slice none 0 0, .slice A np cp, .slice none 0 0]) (by simp)).cell (i := 8) rfl))
      obtain ⟨⟨x0, x1, x2, x3, x4, x5, x6, x7, x8⟩, z0, z1, z2, z3, z4, z5, z6, z7, z8⟩ := H11.out.r.cells
      have hltf := H11.out.lt
      clear hz8 hc8 hl8 hd8 he8
      obtain ⟨y0, y1, y2, y3, y4, y5, y6, y7, y8⟩ := box9 (H11.out.bx (q := w2.heap.size) (c := #[.int .i64 26, .string S1, .int .i64 0, .int .i64 0, .string ⟨#[]⟩, .slice none 0 0, .slice none 0 0, .slice A np cp, .slice (some ⟨w9.heap.size, 0, none⟩) 2 2]) (by simp))
      go_wp2_with fail
      refine post9 Tryz.results140 rfl rfl (H11.out.r.r.put9z _ _ _ _ _ _ _ _ _) ?_
      exact retF_of (H11.out.close (by first | exact List.mem_cons_self | simp))
end Go.Proofs.YthiempadgehhlaaGreatDoor

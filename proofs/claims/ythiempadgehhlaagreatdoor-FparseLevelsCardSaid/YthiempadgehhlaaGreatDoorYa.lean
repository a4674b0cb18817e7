/- The parser: point, scope, param, source. -/
import Derived.Test.YthiempadgehhlaaGreatDoorYz
set_option linter.unusedVariables false
set_option linter.unusedSectionVars false
set_option linter.unusedSimpArgs false
namespace Go.Proofs.YthiempadgehhlaaGreatDoor
open Go.RowKit
set_option maxHeartbeats 10000000 in
set_option maxRecDepth 100000 in
theorem ppoint_any {L : List Fk} (hL : TokL L) {gt C g : Nat} (W : World) (σ τ : PS) (t : Ft) (hP : PAt L gt C g W σ) (hm : pointM L σ = some (t, τ)) :
    Calls Tryz.prog 156 #[.pointer (some ⟨g, 0, none⟩)] W (RetF L gt C g W t τ) := by
  have H0 := Lib.hid (St.begin hP)
  have HK := Lib.hid (fun W (h : PAt L gt C g W σ) => peek_any h)
  have HR := Lib.hid (fun W (h : PAt L gt C g W σ) => read_any hL h)
  have HSZ := Lib.hid (hL.size σ.k)
  unfold pointM at hm
  clear hP
  by_cases h6 : (tk L σ.k).k = 6
  · rw [if_pos h6] at hm
    injection hm with hm
    injection hm with h3 h4
    subst h3; subst h4
    have q6 : (((tk L σ.k).k : Int) == 6) = true := by rw [beq_iff_eq]; omega
    generalize tk L σ.k = t at HK HR HSZ q6 h6 ⊢
    generalize readP L σ = τ at HR ⊢
    have hf0 := field_kind t
    have hf2 := field_text t
    have HFD := Lib.hid (fun (U : Nat → Prop) W hU hl => field_any (S := U) (f := identF) (c0 := .int .i64 1) (c1 := .string ⟨#[]⟩) (c2 := .int .i64 0) (c3 := .int .i64 0) (c4 := .string ⟨#[]⟩) (c5 := .slice none 0 0) (c6 := .slice none 0 0) (c7 := .slice none 0 0) (c8 := .slice none 0 0) t.s (by have := HSZ.out; omega) W hU hl)
    clear h6
    go_enter Tryz.func156, Tryz.ntmps156
    go_wp2_with fail
    refine (HK.out _ H0.out.r.p).mono ?_
    rintro e w1 ⟨rfl, hb1⟩
    have H1 := Lib.hid (H0.out.low hb1)
    clear hb1
    go_wp2_with fail
    refine (ident_any _).mono ?_
    rintro e w2 ⟨rfl, hb2⟩
    have H2 := Lib.hid ((H1.out.low hb2).leaf 1 ⟨#[]⟩ 0 0 ⟨#[]⟩ (by decide) (by decide))
    clear hb2
    go_wp2_with fail
    refine (HR.out _ H2.out.r.p).mono ?_
    rintro e w3 ⟨rfl, hg3, hp3⟩
    have H3 := Lib.hid (H2.out.next hg3 hp3)
    clear hg3 hp3
    go_wp2_with fail
    refine (HFD.out (Own noS W w3 []) _ (Own.lt H3.out) (H3.out.t (identF, [.int .i64 1, .string ⟨#[]⟩, .int .i64 0, .int .i64 0, .string ⟨#[]⟩, .slice none 0 0, .slice none 0 0, .slice none 0 0, .slice none 0 0]) List.mem_cons_self)).mono ?_
    rintro e w4 ⟨c10, c11, c12, c13, c14, c15, c16, c17, c18, rfl, hb4, hl4⟩
    obtain ⟨op1, tx1, k1, j1, s1, A1, n1, m1, B1, p1, q1, C1, u1, v1, D1, x1, y1, rfl, rfl, rfl, rfl, rfl, rfl, rfl, rfl, rfl⟩ := liesF_form hl4
    have H4 := Lib.hid (H3.out.maker hb4 hl4)
    clear hb4 hl4
    obtain ⟨⟨x0, x1, x2, x3, x4, x5, x6, x7, x8⟩, z0, z1, z2, z3, z4, z5, z6, z7, z8⟩ := H4.out.r.cells
    go_wp2_with fail
    refine post9 Tryz.results156 rfl rfl (H4.out.r.r.put9z _ _ _ _ _ _ _ _ _) ?_
    exact retF_of (H4.out.close (by first | exact List.mem_cons_self | simp))
  · rw [if_neg h6] at hm
    injection hm with hm
    injection hm with h3 h4
    subst h3; subst h4
    have q6 : (((tk L σ.k).k : Int) == 6) = false := beq_eq_false_iff_ne.2 (by omega)
    generalize tk L σ.k = t at HK q6 h6 ⊢
    have hf0 := field_kind t
    clear h6 HR
    go_enter Tryz.func156, Tryz.ntmps156
    go_wp2_with fail
    refine (HK.out _ H0.out.r.p).mono ?_
    rintro e w1 ⟨rfl, hb1⟩
    have H1 := Lib.hid (H0.out.low hb1)
    clear hb1
    go_wp2_with fail
    refine (ident_any _).mono ?_
    rintro e w2 ⟨rfl, hb2⟩
    have H2 := Lib.hid ((H1.out.low hb2).leaf 1 ⟨#[]⟩ 0 0 ⟨#[]⟩ (by decide) (by decide))
    clear hb2
    obtain ⟨⟨x0, x1, x2, x3, x4, x5, x6, x7, x8⟩, z0, z1, z2, z3, z4, z5, z6, z7, z8⟩ := H2.out.r.cells
    go_wp2_with fail
    refine post9 Tryz.results156 rfl rfl (H2.out.r.r.put9z _ _ _ _ _ _ _ _ _) ?_
    exact retF_of (H2.out.close (by first | exact List.mem_cons_self | simp))
set_option maxHeartbeats 10000000 in
set_option maxRecDepth 100000 in
theorem scope_any {L : List Fk} (hL : TokL L) {gt C g : Nat} {call : Ru → PM} (hA : OkA L gt C g call) {S : Nat → Prop} (op : Int) (ss : List Ft) (A : Option Addr) (n : Nat) (xs : List Value) (hn : ss.length = n) (hn1 : n ≤ 1) (W : World) (σ τ : PS) (t : Ft) (hP : PAt L gt C g W σ) (hS : ∀ b, S b → b < W.heap.size ∧ b ≠ g)
    (hA0 : A = none → n = 0) (hRs : Rs W S A xs) (hLs : LiesFL W S ss xs) (h1c : ∀ u ∈ xs, u.oneCell' = true) (hm : scopeM L call op ss σ = some (t, τ)) :
    Calls Tryz.prog 139 #[.pointer (some ⟨g, 0, none⟩), .int .i64 op, .slice A n n] W (RetU S L gt C g W t τ) := by
  obtain ⟨f, σ1, h1, h2⟩ := bnd_some hm
  injection h2 with h2
  injection h2 with h3 h4
  subst h3; subst h4
  obtain ⟨i0, hi, hz0, hz1, hz2⟩ := infoF inf_fi
  have H0 := Lib.hid (St.start hP hS)
  have HC := Lib.hid (fun W h => hA .filter W _ f σ1 h h1)
  have HK := Lib.hid (fun W (h : PAt L gt C g W σ) => kind_any hL 3 h)
  have HN := Lib.hid (fun W (h : PAt L gt C g W (kindS L 3 σ)) => need_any hL (⟨#[124]⟩ : ByteArray) h)
  have HNO := Lib.hid (fun A n c W => node_any op A n c W)
  have HSZ := Lib.hid (hL.size σ.k)
  have HRW := Lib.hid (And.intro hRs hLs)
  have HXL := Lib.hid (show xs.length = n * 9 by rw [hLs.len, hn])
  have HA0 := Lib.hid hA0
  have HSS := Lib.hid hn
  have H1C := Lib.hid h1c
  generalize (tk L σ.k).s = S3 at HK HSZ ⊢
  clear hP hA hm h1 hRs hLs hA0 hn h1c
  go_enter Tryz.func139, Tryz.ntmps139
  go_wp2_with fail
  refine (HK.out _ H0.out.r.p).mono ?_
  rintro e w1 ⟨rfl, hg1, hp1⟩
  have H1 := Lib.hid (H0.out.next hg1 hp1)
  clear hg1 hp1
  go_wp2_with fail
  refine (HN.out _ H1.out.r.p).mono ?_
  rintro e w2 ⟨rfl, hg2, hp2⟩
  have H2 := Lib.hid (H1.out.next hg2 hp2)
  clear hg2 hp2
  go_wp2_with fail
  refine (HC.out _ H2.out.r.p).mono ?_
  rintro e w3 ⟨c10, c11, c12, c13, c14, c15, c16, c17, c18, rfl, hg3, hp3, hl3⟩
  obtain ⟨op1, tx1, k1, j1, s1, A1, n1, m1, B1, p1, q1, C1, u1, v1, D1, x1, y1, rfl, rfl, rfl, rfl, rfl, rfl, rfl, rfl, rfl⟩ := liesF_form hl3
  have H3 := Lib.hid (H2.out.call hg3 hp3 hl3)
  clear hg3 hp3 hl3
  have HO3 := Lib.hid (Own.lt H3.out)
  have HRW3 : Hid (Rs w3 (Own S W w3 []) A xs ∧ LiesFL w3 (Own S W w3 []) ss xs) := Lib.hid ⟨HRW.out.1.move fun b hb => ⟨.inl hb, H3.out.r.gr.block (hS b hb).1 (hS b hb).2⟩, HRW.out.2.move fun b hb => ⟨.inl hb, H3.out.r.gr.block (hS b hb).1 (hS b hb).2⟩⟩
  have hap : ∀ b, A = some b → ∀ j u, xs[j]? = some u → (w3.alloc (.cells #[.int .i64 op1, .string tx1, .int .i64 k1, .int .i64 j1, .string s1, .slice A1 n1 m1, .slice B1 p1 q1, .slice C1 u1 v1, .slice D1 x1 y1] 32)).cell? (b.add j) = some u := by
    intro b hb j u hj
    obtain ⟨b', o, e, hS', hc⟩ := HRW3.out.1 j u hj
    subst hb
    injection e with e
    subst e
    have h5 : (⟨b', o, none⟩ : Addr).add j = ⟨b', o + j, none⟩ := by unfold Addr.add; by_cases h : j = 0 <;> simp [h]
    rw [h5, World.cell?_alloc_lt _ _ _ (HO3.out b' hS')]
    exact hc
  have HAP := Lib.hid hap
  clear hap
  go_wp2_with (at_builtin; refine wpList_append_grows _ rfl _ _ 30 rfl 32 i0 (.agg #[.int .i64 0, .string ⟨#[]⟩, .int .i64 0, .int .i64 0, .string ⟨#[]⟩, .slice none 0 0, .slice none 0 0, .slice none 0 0, .slice none 0 0]) 9 152 Tryz.underlying30 hi hz0 hz1 hz2 rfl (by decide) A n n xs rfl (fun e => ⟨HA0.out e, HA0.out e⟩) HXL.out HAP.out ⟨w3.heap.size, 0, none⟩ 1 1 [.int .i64 op1, .string tx1, .int .i64 k1, .int .i64 j1, .string s1, .slice A1 n1 m1, .slice B1 p1 q1, .slice C1 u1 v1, .slice D1 x1 y1] rfl rfl (new9 _ _ #[.int .i64 op1, .string tx1, .int .i64 k1, .int .i64 j1, .string s1, .slice A1 n1 m1, .slice B1 p1 q1, .slice C1 u1 v1, .slice D1 x1 y1] rfl) (one9 _ _ _ _ _ _ _ _ _ _ _ _ _ _ _ _ _) (by omega) (by unfold maxLen; omega) (by omega) ?_; intro v4 w4 hown4 hgr4)
  obtain ⟨A4, c4, rfl, a1, a2, a3, a4, a5, a6⟩ := own_open hown4
  have HB4 : Hid (Below w3.heap.size w3 w4) := Lib.hid (((Below.refl _ _).alloc (Nat.le_refl _) (.cells #[.int .i64 op1, .string tx1, .int .i64 k1, .int .i64 j1, .string s1, .slice A1 n1 m1, .slice B1 p1 q1, .slice C1 u1 v1, .slice D1 x1 y1] 32)).trans (((Below.refl _ _).grown hgr4 (Nat.le_refl _) (fun k hk => by simp at hk)).mono (by simp)))
  have HF4 := Lib.hid (H3.out.t (f, [.int .i64 op1, .string tx1, .int .i64 k1, .int .i64 j1, .string s1, .slice A1 n1 m1, .slice B1 p1 q1, .slice C1 u1 v1, .slice D1 x1 y1]) (by simp))
  have H4 := Lib.hid ((H3.out.low HB4.out).own_node op S3 (by have := HSZ.out; omega) (fs := ss ++ [f]) (n := n + 1) (by rw [List.length_append, HSS.out]; rfl) (by omega) a3 a1 a2 (a6.move fun b hb => ⟨.inr ⟨by have h5 := hb.1; have := H3.out.lt; simp at h5; omega, hb.2, fun q hq => by simp at hq⟩, rfl⟩) (LiesFL.append (HRW3.out.2.move (Own.gr H3.out (Gr.below HB4.out))) (LiesFL.one (LiesF.move HF4.out (Own.gr H3.out (Gr.below HB4.out))))))
  clear hown4 hgr4 a1 a2 a3 a4 a5 a6
  go_wp2_with fail
  refine (HNO.out _ _ _ _).mono ?_
  rintro e w5 ⟨rfl, hb5⟩
  have H5 := Lib.hid (H4.out.low hb5)
  clear hb5
  obtain ⟨⟨x0, x1, x2, x3, x4, x5, x6, x7, x8⟩, z0, z1, z2, z3, z4, z5, z6, z7, z8⟩ := H5.out.r.cells
  have hlt5 := H5.out.lt
  go_wp2_with fail
  refine post9 Tryz.results139 rfl rfl ((H5.out.r.r.put9z _ _ _ _ _ _ _ _ _).alloc _) ?_
  exact (H5.out.close (by first | exact List.mem_cons_self | simp)).alloc (fun b hb => by rw [size9]; have := (hS b hb).1; have := H5.out.lt; omega) _
set_option maxHeartbeats 10000000 in
set_option maxRecDepth 100000 in
theorem param_any {L : List Fk} (hL : TokL L) {gt C g : Nat} (W : World) (σ τ : PS) (s : ByteArray) (hP : PAt L gt C g W σ) (hm : paramM L σ = some (s, τ)) :
    Calls Tryz.prog 144 #[.pointer (some ⟨g, 0, none⟩)] W (KindPost L gt C g W s τ) := by
  have HP := Lib.hid hP
  have HR := Lib.hid (fun W (h : PAt L gt C g W σ) => read_any hL h)
  have HF := Lib.hid (fun t W (h : PAt L gt C g W (readP L σ)) => pfail_any hL t h)
  have HSZ := Lib.hid (hL.size σ.k)
  unfold paramM at hm
  clear hP
  by_cases hk : (tk L σ.k).k = 1
  · rw [if_pos hk] at hm
    injection hm with hm
    injection hm with h3 h4
    subst h3; subst h4
    generalize tk L σ.k = t at HR HSZ hk ⊢
    generalize readP L σ = τ at HR HF ⊢
    obtain ⟨k, o, s, i⟩ := t
    dsimp only at hk HSZ ⊢
    subst hk
    go_enter Tryz.func144, Tryz.ntmps144
    go_wp2_with fail
    refine (HR.out _ HP.out).mono ?_
    rintro e w1 ⟨rfl, hg1, hp1⟩
    have H1 := Lib.hid (And.intro (hg1.alloc (.cells #[.int .i64 (1 : Nat), .int .i64 o, .string s, .int .i64 i] 37)) (hp1.alloc (.cells #[.int .i64 (1 : Nat), .int .i64 o, .string s, .int .i64 i] 37)))
    clear hg1 hp1
    go_wp2_with fail
    go_ret
    exact ⟨rfl, H1.out.1, H1.out.2⟩
  rw [if_neg hk] at hm
  by_cases hk3 : (tk L σ.k).k = 3
  · rw [if_pos hk3] at hm
    injection hm with hm
    injection hm with h3 h4
    subst h3; subst h4
    clear hk
    have hk := hk3
    clear hk3
    generalize tk L σ.k = t at HR HSZ hk ⊢
    generalize readP L σ = τ at HR HF ⊢
    obtain ⟨k, o, s, i⟩ := t
    dsimp only at hk HSZ ⊢
    subst hk
    have qa : ¬ (1 + s.size > 9223372036854775807) := by have := HSZ.out; omega
    go_enter Tryz.func144, Tryz.ntmps144
    go_wp2_with fail
    refine (HR.out _ HP.out).mono ?_
    rintro e w1 ⟨rfl, hg1, hp1⟩
    have H1 := Lib.hid (And.intro (hg1.alloc (.cells #[.int .i64 (3 : Nat), .int .i64 o, .string s, .int .i64 i] 37)) (hp1.alloc (.cells #[.int .i64 (3 : Nat), .int .i64 o, .string s, .int .i64 i] 37)))
    clear hg1 hp1
    go_wp2_with fail
    go_ret
    exact ⟨rfl, H1.out.1, H1.out.2⟩
  · rw [if_neg hk3] at hm
    injection hm with hm
    injection hm with h3 h4
    subst h3; subst h4
    have hk : ¬ (tk L σ.k).k = 1 ∧ ¬ (tk L σ.k).k = 3 := ⟨by assumption, hk3⟩
    clear hk3
    generalize tk L σ.k = t at HR HSZ hk ⊢
    generalize readP L σ = τ at HR HF ⊢
    obtain ⟨k, o, s, i⟩ := t
    dsimp only at hk HSZ ⊢
    have q1 : ((k : Int) == 1) = false := beq_eq_false_iff_ne.2 (by omega)
    have q3 : ((k : Int) == 3) = false := beq_eq_false_iff_ne.2 (by omega)
    clear hk
    go_enter Tryz.func144, Tryz.ntmps144
    go_wp2_with fail
    refine (HR.out _ HP.out).mono ?_
    rintro e w1 ⟨rfl, hg1, hp1⟩
    have H1 := Lib.hid (And.intro (hg1.alloc (.cells #[.int .i64 k, .int .i64 o, .string s, .int .i64 i] 37)) (hp1.alloc (.cells #[.int .i64 k, .int .i64 o, .string s, .int .i64 i] 37)))
    clear hg1 hp1
    go_wp2_with fail
    refine (HF.out ⟨k, o, s, i⟩ _ H1.out.2).mono ?_
    rintro e w2 ⟨rfl, hg2, hp2⟩
    have H2 := Lib.hid (And.intro (H1.out.1.trans hg2) hp2)
    clear hg2 hp2
    go_wp2_with fail
    go_ret
    exact ⟨rfl, H2.out.1, H2.out.2⟩
/-- What source hands back. -/
def SrcPost (L : List Fk) (gt C g : Nat) (w : World) (t : Ft) (s : ByteArray) (τ : PS) (e : Ending) (w' : World) : Prop := ∃ c0 c1 c2 c3 c4 c5 c6 c7 c8, e = .returned (.tuple #[.agg #[c0, c1, c2, c3, c4, c5, c6, c7, c8], .string s]) ∧ Gr g w w' ∧ PAt L gt C g w' τ ∧ LiesF w' (Nw w.heap.size w'.heap.size) t [c0, c1, c2, c3, c4, c5, c6, c7, c8]
theorem srcPost_of {L : List Fk} {gt C g : Nat} {w w' : World} {t : Ft} {τ : PS} {c0 c1 c2 c3 c4 c5 c6 c7 c8 : Value} (s : ByteArray) (h : RetU noS L gt C g w t τ (.returned (.agg #[c0, c1, c2, c3, c4, c5, c6, c7, c8])) w') : SrcPost L gt C g w t s τ (.returned (.tuple #[.agg #[c0, c1, c2, c3, c4, c5, c6, c7, c8], .string s])) w' := by
  obtain ⟨d0, d1, d2, d3, d4, d5, d6, d7, d8, h1, h2, h3, h4⟩ := retF_of h
  injection h1 with h1
  injection h1 with h1
  simp only [Array.mk.injEq, List.cons.injEq, and_true] at h1
  obtain ⟨rfl, rfl, rfl, rfl, rfl, rfl, rfl, rfl, rfl⟩ := h1
  exact ⟨_, _, _, _, _, _, _, _, _, rfl, h2, h3, h4⟩
theorem post9s {w : World} {r : Nat} {T : TypeId} {fn : Func} {a : Act} {R : Ending → World → Prop} {slot slot2 : Nat} {s : ByteArray} {c0 c1 c2 c3 c4 c5 c6 c7 c8 : Value} (hres : fn.results = #[ResultVar.cell slot 32, ResultVar.tmp slot2]) (ht : a.tmps.getD slot undef = .pointer (some ⟨r, 0, none⟩)) (ht3 : a.tmps.getD slot2 undef = .string s) (hd : a.defers = [])
    (hB : Box w r T #[c0, c1, c2, c3, c4, c5, c6, c7, c8]) (h : R (.returned (.tuple #[.agg #[c0, c1, c2, c3, c4, c5, c6, c7, c8], .string s])) w) : bodyPost Tryz.prog fn R Exit.ret a w := by
  obtain ⟨y0, y1, y2, y3, y4, y5, y6, y7, y8⟩ := box9 hB
  have ht2 : a.tmps[slot]?.getD undef = .pointer (some ⟨r, 0, none⟩) := by simpa using ht
  have ht4 : a.tmps[slot2]?.getD undef = .string s := by simpa using ht3
  exact bodyPost_ret (v := .tuple #[.agg #[c0, c1, c2, c3, c4, c5, c6, c7, c8], .string s]) (by simp [results, hres, ht2, ht4, go_sem, y0, y1, y2, y3, y4, y5, y6, y7, y8]) hd h
set_option maxHeartbeats 10000000 in
set_option maxRecDepth 100000 in
theorem source_any {L : List Fk} (hL : TokL L) {gt C g : Nat} {call : Ru → PM} (hA : OkA L gt C g call) (W : World) (σ τ : PS) (t : Ft) (s : ByteArray) (hP : PAt L gt C g W σ) (hm : sourceM L call σ = some ((t, s), τ)) :
    Calls Tryz.prog 167 #[.pointer (some ⟨g, 0, none⟩)] W (SrcPost L gt C g W t s τ) := by
  obtain ⟨f, σ1, h1, h2⟩ := bnd_some hm
  injection h2 with h2
  injection h2 with h3 h4
  injection h3 with h5 h6
  subst h4; subst h5; subst h6
  have H0 := Lib.hid (St.begin hP)
  have HC := Lib.hid (fun W h => hA .post W _ f σ1 h h1)
  have HN := Lib.hid (fun W (h : PAt L gt C g W σ1) => need_any hL (⟨#[97, 115]⟩ : ByteArray) h)
  generalize needP L (⟨#[97, 115]⟩ : ByteArray) σ1 = σ2 at HN ⊢
  have HK := Lib.hid (fun W (h : PAt L gt C g W σ2) => kind_any hL 3 h)
  have HN2 := Lib.hid (fun W (h : PAt L gt C g W (kindS L 3 σ2)) => need_any hL (⟨#[40]⟩ : ByteArray) h)
  generalize (tk L σ2.k).s = S3 at HK ⊢
  clear hP hA hm h1
  go_enter Tryz.func167, Tryz.ntmps167
  go_wp2_with fail
  refine (HC.out _ H0.out.r.p).mono ?_
  rintro e w1 ⟨c10, c11, c12, c13, c14, c15, c16, c17, c18, rfl, hg1, hp1, hl1⟩
  obtain ⟨op1, tx1, k1, j1, s1, A1, n1, m1, B1, p1, q1, C1, u1, v1, D1, x1, y1, rfl, rfl, rfl, rfl, rfl, rfl, rfl, rfl, rfl⟩ := liesF_form hl1
  have H1 := Lib.hid ((H0.out.call hg1 hp1 hl1).box #[.int .i64 op1, .string tx1, .int .i64 k1, .int .i64 j1, .string s1, .slice A1 n1 m1, .slice B1 p1 q1, .slice C1 u1 v1, .slice D1 x1 y1])
  clear hg1 hp1 hl1
  go_wp2_with fail
  refine (HN.out _ H1.out.r.p).mono ?_
  rintro e w2 ⟨rfl, hg2, hp2⟩
  have H2 := Lib.hid (H1.out.next hg2 hp2)
  clear hg2 hp2
  go_wp2_with fail
  refine (HK.out _ H2.out.r.p).mono ?_
  rintro e w3 ⟨rfl, hg3, hp3⟩
  have H3 := Lib.hid (H2.out.next hg3 hp3)
  clear hg3 hp3
  go_wp2_with fail
  refine (HN2.out _ H3.out.r.p).mono ?_
  rintro e w4 ⟨rfl, hg4, hp4⟩
  have H4 := Lib.hid (H3.out.next hg4 hp4)
  clear hg4 hp4
  obtain ⟨y0, y1, y2, y3, y4, y5, y6, y7, y8⟩ := box9 (H4.out.bx (q := w1.heap.size) (c := #[.int .i64 op1, .string tx1, .int .i64 k1, .int .i64 j1, .string s1, .slice A1 n1 m1, .slice B1 p1 q1, .slice C1 u1 v1, .slice D1 x1 y1]) (by simp))
  obtain ⟨⟨x0, x1, x2, x3, x4, x5, x6, x7, x8⟩, z0, z1, z2, z3, z4, z5, z6, z7, z8⟩ := H4.out.r.cells
  go_wp2_with fail
  refine post9s Tryz.results167 rfl rfl rfl (H4.out.r.r.put9z _ _ _ _ _ _ _ _ _) ?_
  exact srcPost_of _ (H4.out.close (by first | exact List.mem_cons_self | simp))
end Go.Proofs.YthiempadgehhlaaGreatDoor

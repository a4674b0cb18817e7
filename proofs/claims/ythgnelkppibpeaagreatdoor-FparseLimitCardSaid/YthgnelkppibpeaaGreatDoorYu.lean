/- The parser's methods pair and chain. -/
import Derived.Test.YthgnelkppibpeaaGreatDoorYt
set_option linter.unusedVariables false
set_option linter.unusedSimpArgs false
set_option linter.unusedSectionVars false
namespace Go.Proofs.YthgnelkppibpeaaGreatDoor
open Go.RowKit
/-- A call of the function with this number enters it. -/
def EntF (f : Nat) : Prop := ∀ (args : Array Value) (W : World), Sem.run Tryz.prog (callFunc f args) W = .ok (.enter f args) W
/-- Behind the first call: the tree lies in a box of its own, and the parser stands where it stands. -/
structure FSt (L : List Fk) (gt C g : Nat) (w0 w : World) (σ : PS) (q : Nat) (f : Ft) (cs : Array Value) : Prop where
  s : RSt L gt C g w0 w σ
  bx : Box w q 29 cs
  q0 : w0.heap.size < q
  t : LiesF w (fun b => w0.heap.size < b ∧ b < w.heap.size ∧ ¬ b = q) f cs.toList
section
variable {L : List Fk} {gt C g : Nat} {w w' w0 : World} {σ τ : PS} {q : Nat} {f : Ft} {cs : Array Value}
theorem FSt.start (h : RSt L gt C g w0 w σ) (ht : TreeAt w0 w f cs.toList) : FSt L gt C g w0 (w.alloc (.cells cs 29)) σ w.heap.size f cs :=
  ⟨h.alloc _, Box.laid _ _ _, h.lt, LiesF.move ht fun b hb => ⟨⟨hb.1, by simp; have := hb.2; omega, by have := hb.2; omega⟩, Below.heap_alloc _ _ _ hb.2⟩⟩
theorem FSt.next (h : FSt L gt C g w0 w σ q f cs) (hg : Gr g w w') (hp : PAt L gt C g w' τ) : FSt L gt C g w0 w' τ q f cs :=
  ⟨h.s.next hg hp, h.bx.grown hg (by intro e; injection e with e; have := h.s.g0; have := h.q0; omega), h.q0,
    LiesF.move h.t fun b hb => ⟨⟨hb.1, Nat.lt_of_lt_of_le hb.2.1 hg.size, hb.2.2⟩, hg.block hb.2.1 (by have := hb.1; have := h.s.g0; omega)⟩⟩
theorem FSt.low (h : FSt L gt C g w0 w σ q f cs) (hb : Below w.heap.size w w') : FSt L gt C g w0 w' σ q f cs := h.next (Gr.below hb) (h.s.p.next hb)
theorem FSt.alloc (h : FSt L gt C g w0 w σ q f cs) (o : Obj) : FSt L gt C g w0 (w.alloc o) σ q f cs := h.low ((Below.refl _ _).alloc (Nat.le_refl _) o)
theorem FSt.drew (h : FSt L gt C g w0 w σ q f cs) : FSt L gt C g w0 w.drew σ q f cs := h.low (Below.refl _ _).drew
theorem TreeAt.und {U : Nat → Prop} {W : World} {t : Ft} {xs : List Value} (hl : LiesF w' (Und U W.heap.size w'.heap.size) t xs) (hU : ∀ b, U b → w0.heap.size < b ∧ b < w'.heap.size) (hW : w0.heap.size < W.heap.size) : TreeAt w0 w' t xs :=
  LiesF.move hl fun b hb => ⟨hb.elim (fun h => hU b h) (fun h => ⟨Nat.lt_of_lt_of_le hW h.1, h.2⟩), rfl⟩
theorem Box.far9 {T : TypeId} (h : Box w q T cs) {r : Nat} (hr : ¬ q = r) (u0 u1 u2 u3 u4 u5 u6 u7 u8 : Value) : Box (((((((((w.setCell ⟨r, 0, none⟩ u0).setCell ⟨r, 1, none⟩ u1).setCell ⟨r, 2, none⟩ u2).setCell ⟨r, 3, none⟩ u3).setCell ⟨r, 4, none⟩ u4).setCell ⟨r, 5, none⟩ u5).setCell ⟨r, 6, none⟩ u6).setCell ⟨r, 7, none⟩ u7).setCell ⟨r, 8, none⟩ u8) q T cs := (heap9 w r u0 u1 u2 u3 u4 u5 u6 u7 u8 q hr).trans h
theorem FSt.tree (h : FSt L gt C g w0 w σ q f cs) : TreeAt w0 w f cs.toList := LiesF.move h.t fun b hb => ⟨⟨hb.1, hb.2.1⟩, rfl⟩
end
set_option maxHeartbeats 4000000 in
set_option maxRecDepth 100000 in
theorem pair_any {L : List Fk} (hL : TokL L) {gt C g : Nat} {fl fr : Nat} {l r : PM} (el : EntF fl) (er : EntF fr) (hl : OkF L gt C g fl l) (hr : OkF L gt C g fr r) (op : Int) (sg : List ByteArray) (hsl : sg.length ≤ 100) (h : Nat) (w : World) (σ τ : PS) (t : Ft) (hP : PAt L gt C g w σ) (hs : StrRow w h sg) (hng : h ≠ g) (hm : pairM L l r op sg σ = some (t, τ)) :
    Calls Tryz.prog 29 #[.pointer (some ⟨g, 0, none⟩), .func (.func fl) #[] #[], .func (.func fr) #[] #[], .int .i64 op, .slice (some ⟨h, 0, none⟩) sg.length sg.length] w (RetF L gt C g w t τ) := by
  obtain ⟨f, σ1, h1, h2⟩ := bnd_some hm
  have HL := Lib.hid (fun W (hW : PAt L gt C g W σ) => hl W σ f σ1 hW h1)
  have H0 := Lib.hid (RSt.start hP)
  have HS := Lib.hid hs
  unfold EntF at el er
  have hsz := (hL.size σ1.k)
  obtain ⟨b, hb⟩ : ∃ b, anyP L sg σ1 = b := ⟨_, rfl⟩
  have HT := Lib.hid (fun W (hW : PAt L gt C g W σ1) (hw : StrRow W h sg) => takeAny_any hL h sg hw hsl b hb hW)
  rw [hb] at h2
  clear hb hP hs hm h1 hl hsl
  cases b with
  | false =>
    rw [if_neg (by decide)] at h2
    injection h2 with h2
    injection h2 with h3 h4
    subst h3; subst h4
    clear hr er
    go_enter Tryz.func29, Tryz.ntmps29
    go_wp2_with fail
    refine (HL.out _ H0.out.p).mono ?_
    rintro e w1 ⟨c0, c1, c2, c3, c4, c5, c6, c7, c8, rfl, hg1, hp1, hl1⟩
    have HT1 := Lib.hid (TreeAt.of (w0 := w) hl1 (by simp))
    obtain ⟨op1, tx1, k1, j1, s1, A1, n1, m1, A2, n2, m2, A3, n3, m3, A4, n4, m4, rfl, rfl, rfl, rfl, rfl, rfl, rfl, rfl, rfl⟩ := liesF_form hl1
    have H1 := Lib.hid (FSt.start (cs := #[.int .i64 op1, .string tx1, .int .i64 k1, .int .i64 j1, .string s1, .slice A1 n1 m1, .slice A2 n2 m2, .slice A3 n3 m3, .slice A4 n4 m4]) (H0.out.next hg1 hp1) HT1.out)
    have HS1 := Lib.hid (HS.out.gr (((Gr.one (g := g) w (.cells z9 29)).trans hg1).alloc (.cells #[.int .i64 op1, .string tx1, .int .i64 k1, .int .i64 j1, .string s1, .slice A1 n1 m1, .slice A2 n2 m2, .slice A3 n3 m3, .slice A4 n4 m4] 29)) hng)
    clear hg1 hp1 hl1
    go_wp2_with fail
    refine (HT.out _ H1.out.s.p HS1.out).mono ?_
    rintro e w2 ⟨rfl, hg2, hp2⟩
    have H2 := Lib.hid (H1.out.next hg2 hp2)
    obtain ⟨y0, y1, y2, y3, y4, y5, y6, y7, y8⟩ := box9 H2.out.bx
    obtain ⟨⟨x0, x1, x2, x3, x4, x5, x6, x7, x8⟩, z0, z1, z2, z3, z4, z5, z6, z7, z8⟩ := H2.out.s.cells
    clear hg2 hp2
    go_wp2_with fail
    refine post9 Tryz.results29 rfl rfl (H2.out.s.r.put9z _ _ _ _ _ _ _ _ _) ?_
    exact H2.out.s.close H2.out.tree
  | true =>
    rw [if_pos rfl] at h2
    obtain ⟨u, σ2, h3, h4⟩ := bnd_some h2
    injection h4 with h4
    injection h4 with h5 h6
    subst h5; subst h6
    have HR := Lib.hid (fun W (hW : PAt L gt C g W (adv σ1)) => hr W (adv σ1) u σ2 hW h3)
    generalize (tk L σ1.k).s = S at HT hsz ⊢
    have HJ := Lib.hid (fun (U : Nat → Prop) W (hU : ∀ b, U b → b < W.heap.size) c0 c1 c2 c3 c4 c5 c6 c7 c8 d0 d1 d2 d3 d4 d5 d6 d7 d8 (hf : LiesF W U f [c0, c1, c2, c3, c4, c5, c6, c7, c8]) (hu : LiesF W U u [d0, d1, d2, d3, d4, d5, d6, d7, d8]) => joined_any op S (by omega) W hU hf hu)
    clear hr h2 h3 hsz
    go_enter Tryz.func29, Tryz.ntmps29
    go_wp2_with fail
    refine (HL.out _ H0.out.p).mono ?_
    rintro e w1 ⟨c0, c1, c2, c3, c4, c5, c6, c7, c8, rfl, hg1, hp1, hl1⟩
    have HT1 := Lib.hid (TreeAt.of (w0 := w) hl1 (by simp))
    obtain ⟨op1, tx1, k1, j1, s1, A1, n1, m1, A2, n2, m2, A3, n3, m3, A4, n4, m4, rfl, rfl, rfl, rfl, rfl, rfl, rfl, rfl, rfl⟩ := liesF_form hl1
    have H1 := Lib.hid (FSt.start (cs := #[.int .i64 op1, .string tx1, .int .i64 k1, .int .i64 j1, .string s1, .slice A1 n1 m1, .slice A2 n2 m2, .slice A3 n3 m3, .slice A4 n4 m4]) (H0.out.next hg1 hp1) HT1.out)
    have HS1 := Lib.hid (HS.out.gr (((Gr.one (g := g) w (.cells z9 29)).trans hg1).alloc (.cells #[.int .i64 op1, .string tx1, .int .i64 k1, .int .i64 j1, .string s1, .slice A1 n1 m1, .slice A2 n2 m2, .slice A3 n3 m3, .slice A4 n4 m4] 29)) hng)
    clear hg1 hp1 hl1
    go_wp2_with fail
    refine (HT.out _ H1.out.s.p HS1.out).mono ?_
    rintro e w2 ⟨rfl, hg2, hp2⟩
    have H2 := Lib.hid (H1.out.next hg2 hp2)
    have hsq := H2.out.bx.lt
    generalize w1.heap.size = q at H2 hsq ⊢
    clear hg2 hp2 H1 HS1 HT1
    go_upto_region 4 with (fail)
    have keep : Hid (∀ X τ, FSt L gt C g w X τ q f #[.int .i64 op1, .string tx1, .int .i64 k1, .int .i64 j1, .string s1, .slice A1 n1 m1, .slice A2 n2 m2, .slice A3 n3 m3, .slice A4 n4 m4] → X.cell? ⟨q, 0, none⟩ = some (.int .i64 op1) ∧ X.cell? ⟨q, 1, none⟩ = some (.string tx1) ∧ X.cell? ⟨q, 2, none⟩ = some (.int .i64 k1) ∧ X.cell? ⟨q, 3, none⟩ = some (.int .i64 j1) ∧ X.cell? ⟨q, 4, none⟩ = some (.string s1) ∧ X.cell? ⟨q, 5, none⟩ = some (.slice A1 n1 m1) ∧ X.cell? ⟨q, 6, none⟩ = some (.slice A2 n2 m2) ∧ X.cell? ⟨q, 7, none⟩ = some (.slice A3 n3 m3) ∧ X.cell? ⟨q, 8, none⟩ = some (.slice A4 n4 m4)) := Lib.hid fun X τ hX => box9 hX.bx
    obtain ⟨y0, y1, y2, y3, y4, y5, y6, y7, y8⟩ := keep.out _ _ H2.out
    go_region_held3 (fun X => X.cell? ⟨q, 0, none⟩ = some (.int .i64 op1) ∧ X.cell? ⟨q, 1, none⟩ = some (.string tx1) ∧ X.cell? ⟨q, 2, none⟩ = some (.int .i64 k1) ∧ X.cell? ⟨q, 3, none⟩ = some (.int .i64 j1) ∧ X.cell? ⟨q, 4, none⟩ = some (.string s1) ∧ X.cell? ⟨q, 5, none⟩ = some (.slice A1 n1 m1) ∧ X.cell? ⟨q, 6, none⟩ = some (.slice A2 n2 m2) ∧ X.cell? ⟨q, 7, none⟩ = some (.slice A3 n3 m3) ∧ X.cell? ⟨q, 8, none⟩ = some (.slice A4 n4 m4))
      (first
        | with_reducible exact keep.out _ _ H2.out.drew
        | with_reducible exact keep.out _ _ H3.out
        | with_reducible exact keep.out _ _ H4.out
        | exact box9 (H4.out.bx.far9 (by have := H4.out.q0; omega) _ _ _ _ _ _ _ _ _))
      (first
        | (go_at_call 55; (refine (HJ.out (Nw (w.heap.size + 1) w3.heap.size) _ (fun b hb => hb.2) _ _ _ _ _ _ _ _ _ _ _ _ _ _ _ _ _ _ H3.out.tree HT3.out).mono ?_); rintro e w4 ⟨e0, e1, e2, e3, e4, e5, e6, e7, e8, rfl, hb4, hl4⟩; obtain ⟨op3, tx3, k3, j3, s3, D1, p5, q5, D2, p6, q6, D3, p7, q7, D4, p8, q8, rfl, rfl, rfl, rfl, rfl, rfl, rfl, rfl, rfl⟩ := liesF_form hl4; have H4 := Lib.hid (H3.out.low hb4); have HT4 := Lib.hid (TreeAt.und (w0 := w) hl4 (fun b hb => ⟨hb.1, Nat.lt_of_lt_of_le hb.2 hb4.size⟩) H3.out.s.lt); obtain ⟨⟨x0, x1, x2, x3, x4, x5, x6, x7, x8⟩, z0, z1, z2, z3, z4, z5, z6, z7, z8⟩ := H4.out.s.cells)
        | (refine (HR.out _ H2.out.drew.s.p).mono ?_; rintro e w3 ⟨d0, d1, d2, d3, d4, d5, d6, d7, d8, rfl, hg3, hp3, hl3⟩; obtain ⟨op2, tx2, k2, j2, s2, B1, p1, q1, B2, p2, q2, B3, p3, q3, B4, p4, q4, rfl, rfl, rfl, rfl, rfl, rfl, rfl, rfl, rfl⟩ := liesF_form hl3; have H3 := Lib.hid (H2.out.drew.next hg3 hp3); have HT3 := Lib.hid (TreeAt.of (w0 := w) hl3 H2.out.drew.s.lt)))
    go_wp2_with fail
    refine post9 Tryz.results29 rfl rfl (H4.out.s.r.put9z _ _ _ _ _ _ _ _ _) ?_
    exact H4.out.s.close HT4.out
theorem FSt.form {L : List Fk} {gt C g : Nat} {w w0 : World} {σ : PS} {q : Nat} {f : Ft} {cs : Array Value} (h : FSt L gt C g w0 w σ q f cs) : ∃ (op : Int) (tx : ByteArray) (k n : Int) (s : ByteArray) (A1 : Option Addr) (n1 m1 : Nat) (A2 : Option Addr) (n2 m2 : Nat) (A3 : Option Addr) (n3 m3 : Nat) (A4 : Option Addr) (n4 m4 : Nat),
    cs = #[.int .i64 op, .string tx, .int .i64 k, .int .i64 n, .string s, .slice A1 n1 m1, .slice A2 n2 m2, .slice A3 n3 m3, .slice A4 n4 m4] := by
  obtain ⟨c0, c1, c2, c3, c4, c5, c6, c7, c8, hc⟩ := h.t.cells9
  have ht := h.t
  rw [hc] at ht
  obtain ⟨op, tx, k, n, s, A1, n1, m1, A2, n2, m2, A3, n3, m3, A4, n4, m4, rfl, rfl, rfl, rfl, rfl, rfl, rfl, rfl, rfl⟩ := liesF_form ht
  exact ⟨op, tx, k, n, s, A1, n1, m1, A2, n2, m2, A3, n3, m3, A4, n4, m4, Array.toList_inj.1 (by rw [hc])⟩
/-- A new tree is put into the box. -/
theorem FSt.put {L : List Fk} {gt C g : Nat} {w w0 : World} {σ : PS} {q : Nat} {f t : Ft} {c0 c1 c2 c3 c4 c5 c6 c7 c8 u0 u1 u2 u3 u4 u5 u6 u7 u8 : Value} (h : FSt L gt C g w0 w σ q f #[c0, c1, c2, c3, c4, c5, c6, c7, c8]) (ht : LiesF w (fun b => w0.heap.size < b ∧ b < w.heap.size ∧ ¬ b = q) t [u0, u1, u2, u3, u4, u5, u6, u7, u8]) :
    FSt L gt C g w0 (((((((((w.setCell ⟨q, 0, none⟩ u0).setCell ⟨q, 1, none⟩ u1).setCell ⟨q, 2, none⟩ u2).setCell ⟨q, 3, none⟩ u3).setCell ⟨q, 4, none⟩ u4).setCell ⟨q, 5, none⟩ u5).setCell ⟨q, 6, none⟩ u6).setCell ⟨q, 7, none⟩ u7).setCell ⟨q, 8, none⟩ u8) σ q t #[u0, u1, u2, u3, u4, u5, u6, u7, u8] := by
  have h0 := h.q0
  have hg := h.s.g0
  have hgt := h.s.gt0
  refine ⟨⟨h.s.p.far9 (by omega) (by omega) _ _ _ _ _ _ _ _ _, h.s.gr.put9 (by omega) _ _ _ _ _ _ _ _ _, h.s.r.far9 (by omega) _ _ _ _ _ _ _ _ _, hg, hgt⟩, h.bx.put9 _ _ _ _ _ _ _ _ _, h0, LiesF.move ht fun b hb => ⟨by rw [size9]; exact hb, heap9 _ _ _ _ _ _ _ _ _ _ _ b hb.2.2⟩⟩
/-- The head of chain's loop. -/
def ChSt (L : List Fk) (gt C g : Nat) (w0 : World) (q : Nat) (m : PM) (op : Int) (sg : List ByteArray) (t : Ft) (τ : PS) (gg : Nat) (s10 s11 : Value) (wr : World) : Prop :=
  ∃ (n : Nat) (f : Ft) (σ : PS) (cs : Array Value) (b : Bool), n ≤ gg ∧ chainL L m op sg (n + 1) f σ = some (t, τ) ∧ anyP L sg σ = b ∧ s10 = .string (if b = true then (tk L σ.k).s else ⟨#[]⟩) ∧ s11 = .bool b ∧ FSt L gt C g w0 wr (if b = true then adv σ else σ) q f cs
end Go.Proofs.YthgnelkppibpeaaGreatDoor

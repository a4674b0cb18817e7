import Derived.Test.YtoleoimmpggldaaGreatDoorRV
import Derived.Test.YtoleoimmpggldaaGreatDoorRU
import Derived.Deep.AppendLies
import Derived.Test.YtoleoimmpggldaaGreatDoorYb
set_option linter.unusedVariables false
set_option linter.unusedSimpArgs false
set_option linter.unusedSectionVars false
set_option maxHeartbeats 10000000
set_option maxRecDepth 100000
namespace Go.Proofs.YtoleoimmpggldaaGreatDoor.Rx
open Go.RowKit
structure GrB (B g : Nat) (w w' : World) : Prop where
 os : w'.os = w.os
 tape : w'.tape = w.tape
 output : w'.output = w.output
 size : w.heap.size ≤ w'.heap.size
 block : ∀ b, b < B → b ≠ g → w'.heap[b]? = w.heap[b]?
structure ESt (L : List Fk) (gt C g B : Nat) (w : World) (σ : PS) (l : List Ft) (v : Value) : Prop where
 p : PAt L gt C g w σ
 gB : g < B
 gtB : gt < B
 bw : B ≤ w.heap.size
 row : ∃ xs, w.ownsRow B 29 9 v l.length xs ∧ LiesFL w (fun b => B ≤ b ∧ b < w.heap.size ∧ v.ownBlock ≠ some b) l xs
def NOwn (w0 w : World) (bs : List (Nat × Array Value)) (b : Nat) : Prop := w0.heap.size ≤ b ∧ b < w.heap.size ∧ ∀ q ∈ bs, b ≠ q.1
structure NSt (L : List Fk) (gt C g : Nat) (w0 w : World) (σ : PS) (bs : List (Nat × Array Value)) (ts : List (Ft × List Value)) : Prop where
 p : PAt L gt C g w σ
 gr : Gr g w0 w
 g0 : g < w0.heap.size
 gt0 : gt < w0.heap.size
 b : ∀ q ∈ bs, w0.heap.size ≤ q.1 ∧ ∃ T, Box w q.1 T q.2
 t : ∀ x ∈ ts, LiesF w (NOwn w0 w bs) x.1 x.2
section
variable {L : List Fk} {gt C g : Nat} {w w' w0 : World} {σ τ : PS} {bs : List (Nat × Array Value)} {ts : List (Ft × List Value)} {t : Ft} {cs : List Value}
theorem PAt.grown (h : PAt L gt C g w σ) {row : Option Nat} (hg : w.grownBy w' row) (h1 : row ≠ some g) (h2 : row ≠ some gt) : PAt L gt C g w' σ :=
 ⟨h.lt, h.ne, nT h.gtlt hg.size, h.cap, h.capm, h.box.grown hg (fun e => h1 e.symm), fun j u hj => (World.cell?_of_block (hg.block gt h.gtlt (fun e => h2 e.symm))).trans (h.row j u hj)⟩
theorem GrB.refl (B g : Nat) (w : World) : GrB B g w w := ⟨rfl, rfl, rfl, Nat.le_refl _, fun _ _ _ => rfl⟩
theorem ESt.next {B : Nat} {l : List Ft} {v : Value} (h : ESt L gt C g B w σ l v) (hg : Gr g w w') (hp : PAt L gt C g w' τ) : ESt L gt C g B w' τ l v := by
 obtain ⟨xs, h1, h2⟩ := h.row;have hge := ownBlock_ge h1;have h0 := h.gB;refine ⟨hp, h.gB, h.gtB, Nat.le_trans h.bw hg.size, xs, h1.kept hg ?_, LiesFL.move h2 fun b hb => ⟨⟨hb.1, nT hb.2.1 hg.size, hb.2.2⟩, hg.block hb.2.1 (by have := hb.1; omega)⟩⟩
 cases hv : v.ownBlock with
 | none => exact .inl rfl
 | some b => exact .inr (by intro e; injection e with e; have := (hge b hv).1; omega)
theorem NSt.start (h : PAt L gt C g w σ) : NSt L gt C g w w σ [] [] := ⟨h, Gr.refl g w, h.glt, h.gtlt, fun q hq => by simp at hq, fun x hx => by simp at hx⟩
theorem NOwn.gr (h : NSt L gt C g w0 w σ bs ts) (hg : Gr g w w') : ∀ b, NOwn w0 w bs b → NOwn w0 w' bs b ∧ w'.heap[b]? = w.heap[b]? := fun b hb =>
 ⟨⟨hb.1, nT hb.2.1 hg.size, hb.2.2⟩, hg.block hb.2.1 (by have := h.g0; have := hb.1; omega)⟩
theorem NSt.next (h : NSt L gt C g w0 w σ bs ts) (hg : Gr g w w') (hp : PAt L gt C g w' τ) : NSt L gt C g w0 w' τ bs ts :=
 ⟨hp, h.gr.trans hg, h.g0, h.gt0, fun q hq => ⟨(h.b q hq).1, (h.b q hq).2.imp fun T hT => hT.grown hg (by intro e; injection e with e; have := h.g0; have := (h.b q hq).1; omega)⟩, fun x hx => LiesF.move (h.t x hx) (NOwn.gr h hg)⟩
theorem NSt.low (h : NSt L gt C g w0 w σ bs ts) (hb : Below w.heap.size w w') : NSt L gt C g w0 w' σ bs ts := h.next (Gr.below hb) (h.p.next hb)
theorem NSt.alloc (h : NSt L gt C g w0 w σ bs ts) (o : Obj) : NSt L gt C g w0 (w.alloc o) σ bs ts := h.low ((Below.refl _ _).alloc (Nat.le_refl _) o)
theorem NSt.drew (h : NSt L gt C g w0 w σ bs ts) : NSt L gt C g w0 w.drew σ bs ts := h.low (Below.refl _ _).drew
theorem NSt.boxT (h : NSt L gt C g w0 w σ bs ts) (T : TypeId) (cs : Array Value) : NSt L gt C g w0 (w.alloc (.cells cs T)) σ ((w.heap.size, cs) :: bs) ts := by
 have h2 := h.alloc (.cells cs T);refine ⟨h2.p, h2.gr, h.g0, h.gt0, fun q hq => ?_, fun x hx => LiesF.move (h.t x hx) fun b hb => ⟨⟨hb.1, by have := hb.2.1; simp; omega, fun q hq => ?_⟩, Below.heap_alloc _ _ _ hb.2.1⟩⟩
 · rcases List.mem_cons.1 hq with rfl | hq
   · exact ⟨h.gr.size, _, Box.laid _ _ _⟩
   · exact h2.b q hq
 · rcases List.mem_cons.1 hq with rfl | hq
   · have := hb.2.1; show b ≠ w.heap.size; omega
   · exact hb.2.2 q hq
theorem NSt.box (h : NSt L gt C g w0 w σ bs ts) (cs : Array Value) : NSt L gt C g w0 (w.alloc (.cells cs 29)) σ ((w.heap.size, cs) :: bs) ts := h.boxT _ cs
theorem NSt.put (h : NSt L gt C g w0 w σ bs ts) {x : Ft × List Value} (hx : LiesF w (NOwn w0 w bs) x.1 x.2) : NSt L gt C g w0 w σ bs (x :: ts) :=
 ⟨h.p, h.gr, h.g0, h.gt0, h.b, fun y hy => by
  rcases List.mem_cons.1 hy with rfl | hy
  · exact hx
  · exact h.t y hy⟩
theorem NSt.call (h : NSt L gt C g w0 w σ bs ts) (hg : Gr g w w') (hp : PAt L gt C g w' τ) (hl : LiesF w' (Nw w.heap.size w'.heap.size) t cs) : NSt L gt C g w0 w' τ bs ((t, cs) :: ts) :=
 (h.next hg hp).put (LiesF.move hl fun b hb => ⟨⟨Nat.le_trans h.gr.size hb.1, hb.2, fun q hq => by have := Bx.lt (h.b q hq).2; have := hb.1; omega⟩, rfl⟩)
theorem NSt.leaf (h : NSt L gt C g w0 w σ bs ts) (op : Int) (tx : ByteArray) (k n : Int) (s : ByteArray) (htx : tx.size ≤ 140737488355328) (hs : s.size ≤ 140737488355328) : NSt L gt C g w0 w σ bs ((.mk op tx (.mk k n s [] []) [] [], [ι op, .string tx, ι k, ι n, .string s, nL, nL, nL, nL]) :: ts) :=
 h.put (liesF_leaf _ _ _ _ _ htx (lies_leaf _ _ _ _ _ hs))
theorem NSt.node (h : NSt L gt C g w0 w σ bs ts) (op : Int) (tx : ByteArray) (htx : tx.size ≤ 140737488355328) {fs : List Ft} {row : Array Value} {n : Nat} (hn : fs.length = n) (hn2 : n ≤ 100) (hL : LiesFL w (NOwn w0 w bs) fs row.toList) {q : Nat} (hq : w.heap.size = q) :
 NSt L gt C g w0 (w.alloc (.cells row 29)) σ bs ((.mk op tx vz [] fs, [ι op, .string tx, ι 0, ι 0, eS, nL, nL, nL, .slice (some ⟨q, 0, none⟩) n n]) :: ts) := by
 subst hq;have h2 := h.alloc (.cells row 29);exact h2.put (liesF_node op tx htx hn (by simp) (Nat.le_refl _) (by unfold maxLen; omega) (by omega) (rs_box (Box.laid _ _ _) ⟨h.gr.size, by simp, fun q hq => by have := Bx.lt (h.b q hq).2; omega⟩) (LiesFL.move hL fun b hb => NOwn.gr h (Gr.one _ _) b hb))
theorem NSt.bx (h : NSt L gt C g w0 w σ bs ts) {q : Nat} {c : Array Value} (hq : (q, c) ∈ bs) : Box w q (Classical.choose (h.b _ hq).2) c := Classical.choose_spec (h.b _ hq).2
theorem NSt.push {B : Nat} {l : List Ft} {v : Value} {σ0 : PS} (h : NSt L gt C g w0 w σ bs ts) (hE : ESt L gt C g B w0 σ0 l v) {xs : List Value} (hx : w.ownsRow B 29 9 v l.length xs) (hlx : LiesFL w (fun b => B ≤ b ∧ b < w.heap.size ∧ v.ownBlock ≠ some b) l xs)
 {f u : Ft} {cs ds : List Value} (hf : (f, cs) ∈ ts) (hu : (u, ds) ∈ ts) {row : Array Value} (hr : row.toList = cs ++ ds) {g2 c2 : Nat} (ho : w'.ownsRow B 29 9 (.slice (some ⟨g2, 0, none⟩) (l.length + 2) c2) (l.length + 2) (xs ++ row.toList)) (hg : (w.alloc (.cells row 29)).grownBy w' v.ownBlock) (hor : v.ownBlock = some g2 ∨ g2 = (w.alloc (.cells row 29)).heap.size) :
 ESt L gt C g B w' σ (l ++ [f, u]) (.slice (some ⟨g2, 0, none⟩) (l.length + 2) c2) ∧ GrB B g w0 w' := by
 obtain ⟨xs0, hx0, -⟩ := hE.row;have hge := ownBlock_ge hx;have hge0 := ownBlock_ge hx0;have hgB := hE.gB;have hgtB := hE.gtB;have hbw := hE.bw;have hw : w0.heap.size ≤ w.heap.size := h.gr.size;have hsz : w.heap.size + 1 ≤ w'.heap.size := by have := hg.size; simpa using this
 have hn1 : v.ownBlock ≠ some g := fun e => by have := (hge _ e).1; omega
 have hn2 : v.ownBlock ≠ some gt := fun e => by have := (hge _ e).1; omega
 have hS : ∀ b, (B ≤ b ∧ b < w.heap.size ∧ v.ownBlock ≠ some b) → (B ≤ b ∧ b < w'.heap.size ∧ (Value.slice (some ⟨g2, 0, none⟩) (l.length + 2) c2).ownBlock ≠ some b) ∧ w'.heap[b]? = w.heap[b]? := by
  intro b hb;refine ⟨⟨hb.1, by omega, ?_⟩, (hg.block b (by simp; omega) (fun e => hb.2.2 e.symm)).trans (Below.heap_alloc _ _ _ hb.2.1)⟩;intro e;simp only [Value.ownBlock, Option.some.injEq] at e;subst e;rcases hor with h3 | h3
  · exact hb.2.2 h3
  · have := hb.2.1; simp at h3; omega
 have hN : ∀ b, NOwn w0 w bs b → (B ≤ b ∧ b < w.heap.size ∧ v.ownBlock ≠ some b) := fun b hb => ⟨by have := hb.1; omega, hb.2.1, fun e => by have := (hge0 _ e).2; have := hb.1; omega⟩
 refine ⟨⟨(h.p.alloc _).grown hg hn1 hn2, hgB, hgtB, by omega, xs ++ row.toList, by rw [List.length_append]; exact ho, ?_⟩, ⟨hg.os.trans h.gr.os, hg.tape.trans h.gr.tape, hg.output.trans h.gr.output, by omega, fun b hb hne => ?_⟩⟩
 · rw [hr];exact LiesFL.append (LiesFL.move hlx hS) (LiesFL.append (LiesFL.one (LiesF.move (h.t _ hf) fun b hb => hS b (hN b hb))) (LiesFL.one (LiesF.move (h.t _ hu) fun b hb => hS b (hN b hb))))
 · exact ((hg.block b (by simp; omega) (fun e => by have := (hge b e.symm).1; omega)).trans (Below.heap_alloc _ _ _ (by omega))).trans (World.grownBy.block h.gr b (by omega) (fun e => hne (by injection e)))
end
theorem one18 {xs ys : List Value} (h : ∀ u ∈ xs, u.oneCell' = true) (k : ∀ u ∈ ys, u.oneCell' = true) : ∀ u ∈ xs ++ ys, u.oneCell' = true := fun u hu => (List.mem_append.1 hu).elim (h u) (k u)
def EntPost (L : List Fk) (gt C g B : Nat) (w : World) (l : List Ft) (τ : PS) (e : Ending) (w' : World) : Prop := ∃ v, e = .returned v ∧ GrB B g w w' ∧ ESt L gt C g B w' τ l v
theorem entry_any {L : List Fk} (hL : TokL L) {gt C g : Nat} {call : Ru → PM} (hA : OkA L gt C g call) (l l' : List Ft) (hl : l.length ≤ 1000000) (v : Value) (B : Nat) (W : World) (σ τ : PS) (hE : ESt L gt C g B W σ l v) (hm : entryM L call l σ = some (l', τ)) :
 Calls Tryz.prog 193 #[.pointer (some ⟨g, 0, none⟩), v] W (EntPost L gt C g B W l' τ) := by
 obtain ⟨i0, hi, hz0, hz1, hz2⟩ := infoF inf_fi;have hv : ∃ A c, v = .slice A l.length c := by
  obtain ⟨xs, h1, -⟩ := hE.row;obtain ⟨A, c, h2, -⟩ := own_open h1;exact ⟨A, c, h2⟩
 obtain ⟨A, c, rfl⟩ := hv;have HE := hI hE;have hP := hE.p;obtain ⟨⟨b0, b1, b2, b3⟩, -⟩ := box4' hP.box;have hlg := hP.glt;have hkm := hP.capm;have hkl := hP.lt;have hz := hL.size σ.k;have HNX := hI (fun h => hL.e.next hkl h);have HK := hI (peek_any hP);have H0 := hI (NSt.start hP);unfold entryM at hm;obtain ⟨bb, hbb⟩ : ∃ b, σ.bad = b := ⟨_, rfl⟩
 rw [hbb] at b2 hm;clear hE hP hbb
 cases bb with
 | true =>
  rw [if_pos rfl] at hm;injection hm with hm
  injection hm with h3 h4
  subst h3; subst h4;clear hA
  go_enter Tryz.func193, Tryz.ntmps193
  go_wp2_with fail
  go_ret
  exact ⟨_, rfl, GrB.refl _ _ _, HE.out⟩
 | false =>
  rw [if_neg (by decide)] at hm;obtain ⟨cnd, hcnd⟩ : ∃ b, decide ((tk L σ.k).k = 1 ∨ (tk L σ.k).k = 2 ∨ (tk L σ.k).k = 6) = b := ⟨_, rfl⟩
  have HCN := hI hcnd;clear hcnd;have HM := hI hm;clear hm;generalize tk L σ.k = t0 at *
  obtain ⟨K1, O1, S1, I1⟩ := t0;dsimp only at HM HCN hz HNX
  go_enter Tryz.func193, Tryz.ntmps193
  go_wp2_with fail;refine HK.out.mono ?_;rintro e w1 ⟨rfl, hb1⟩;have H1 := hI ((H0.out.low hb1).boxT 41 #[ι K1, ι O1, .string S1, ι I1]);clear hb1 HK;go_upto_region 4 with (fail)
  generalize w1.alloc (.cells #[ι K1, ι O1, .string S1, ι I1] 41) = w2 at H1 ⊢;generalize w1.heap.size = kq at H1 ⊢;have kc := (H1.out.bx (q := kq) (c := #[ι K1, ι O1, .string S1, ι I1]) (by simp)).cell (i := 0) rfl;clear b0 b1 b2 b3 H0
  go_cut [14] (fun t14 wx => wx = w2 ∧ t14 = .bool cnd)
  case first =>
   have hcnd := HCN.out
   by_cases h1 : K1 = 1
   · have q1 : ((K1 : Int) == 1) = true := by rw [beq_iff_eq]; omega
     rw [decide_eq_true (Or.inl h1)] at hcnd;subst hcnd;clear h1;go_wp2_with fail
     go_meet
     exact ⟨rfl, rfl⟩
   · have q1 : ((K1 : Int) == 1) = false := bF.2 (by omega)
     by_cases h2 : K1 = 2
     · have q2 : ((K1 : Int) == 2) = true := by rw [beq_iff_eq]; omega
       rw [decide_eq_true (Or.inr (Or.inl h2))] at hcnd;subst hcnd;clear h1 h2;go_wp2_with fail
       go_meet
       exact ⟨rfl, rfl⟩
     · have q2 : ((K1 : Int) == 2) = false := bF.2 (by omega)
       by_cases h6 : K1 = 6
       · have q6 : ((K1 : Int) == 6) = true := by rw [beq_iff_eq]; omega
         rw [decide_eq_true (Or.inr (Or.inr h6))] at hcnd;subst hcnd;clear h1 h2 h6;go_wp2_with fail
         go_meet
         exact ⟨rfl, rfl⟩
       · have q6 : ((K1 : Int) == 6) = false := bF.2 (by omega);rw [decide_eq_false (by omega)] at hcnd;subst hcnd;clear h1 h2 h6;go_wp2_with fail
         go_meet
         exact ⟨rfl, rfl⟩
  case rest =>
   obtain ⟨hweq, rfl⟩ := hcut;have hweq := hweq.symm;subst hweq;have hm := HM.out
   cases cnd with
   | true =>
    have hc := of_decide_eq_true HCN.out;rw [if_pos hc] at hm;have hnx := HNX.out (by omega);obtain ⟨b, hb⟩ : ∃ b, sees L (⟨#[58]⟩ : ByteArray) (adv σ) = b := ⟨_, rfl⟩
    rw [hb] at hm;have HT := hI (fun W (h : PAt L gt C g W (adv σ)) => take_any hL (⟨#[58]⟩ : ByteArray) b hb h);clear hb hc HM HCN HNX kc;obtain ⟨⟨b0, b1, b2, b3⟩, f0, f1, f2, f3⟩ := box4' H1.out.p.box;have hlg := H1.out.p.glt;have hk9 : (σ.k : Int) ≤ 4096 := by omega
    have hk0 : 0 ≤ (σ.k : Int) := by omega
    generalize hkk : (σ.k : Int) = kk at b1 hk9 hk0;have H2 := hI (H1.out.next ((Gr.refl g _).set 1 _) (H1.out.p.step hnx (by rw [hkk])));clear hkk;go_wp2_with fail;refine (HT.out _ H2.out.p).mono ?_;rintro e w3 ⟨rfl, hg3, hp3⟩;have H3 := hI (H2.out.next hg3 hp3);clear hg3 hp3
    cases b with
    | true =>
     rw [if_pos rfl] at hm;obtain ⟨u, σ2, h1, h2⟩ := bnd_some hm;injection h2 with h2
     injection h2 with h3 h4
     subst h3; subst h4;have HC := hI (fun W h => hA .alt W _ u σ2 h h1);have HTX := hI (fun W => text_any S1 W);have kx := (H3.out.bx (q := kq) (c := #[ι K1, ι O1, .string S1, ι I1]) (by simp)).cell (i := 2) rfl;clear hA hm h1 b0 b1 b2 b3 f0 f1 f2 f3;go_wp2_with fail;refine (HTX.out _).mono ?_;rintro e w4 ⟨rfl, hb4⟩;have H4 := hI ((H3.out.low hb4).leaf 7 ⟨#[]⟩ 4 0 S1 (by decide) (by omega));clear hb4;go_wp2_with fail;refine (HC.out _ H4.out.p).mono ?_;rintro e w5 hZ;obtain ⟨Z2, rfl, hg5, hp5, hl5⟩ := fr3 hZ;have H5 := hI (H4.out.call hg5 hp5 hl5);clear hg5 hp5 hl5;obtain ⟨xs, hx, hlx⟩ := (HE.out.next H5.out.gr H5.out.p).row;have HXR := hI (And.intro hx hlx);have hbw : B ≤ w5.heap.size := Nat.le_trans HE.out.bw H5.out.gr.size;clear hx hlx
     go_wp2_with (at_builtin; refine wpList_append_lies _ rfl _ _ 27 rfl B 29 i0 (.agg #[ι 0, eS, ι 0, ι 0, eS, nL, nL, nL, nL]) 9 152 Tryz.underlying27 hi hz0 hz1 hz2 rfl (by decide) (.slice A l.length c) l.length xs rfl (own_keepB' HXR.out.1 ((Below.refl _ _).alloc (Nat.le_refl _) _)) ⟨w5.heap.size, 0, none⟩ 2 2 ([ι 7, eS, ι 4, ι 0, .string S1, nL, nL, nL, nL] ++ Z2.l) rfl rfl (new9 _ _ #[ι 7, eS, ι 4, ι 0, .string S1, nL, nL, nL, nL, ι Z2.o, .string Z2.t, ι Z2.k, ι Z2.j, .string Z2.s, .slice Z2.A Z2.a Z2.u, .slice Z2.B Z2.b Z2.v, .slice Z2.C Z2.e Z2.w, .slice Z2.D Z2.d Z2.x] rfl) (one18 (one9 _ _ _ _ _ _ _ _ _ _ _ _ _ _ _ _ _) (one9 _ _ _ _ _ _ _ _ _ _ _ _ _ _ _ _ _)) (by decide) (by unfold maxLen; omega) (by omega) (by simp; omega) _ rfl ?_; intro g4 c4 w9 hown4 hgr4 hor4 hlt4)
     have HPU := hI (H5.out.push (row := #[ι 7, eS, ι 4, ι 0, .string S1, nL, nL, nL, nL, ι Z2.o, .string Z2.t, ι Z2.k, ι Z2.j, .string Z2.s, .slice Z2.A Z2.a Z2.u, .slice Z2.B Z2.b Z2.v, .slice Z2.C Z2.e Z2.w, .slice Z2.D Z2.d Z2.x]) HE.out HXR.out.1 HXR.out.2 (f := textF S1) (u := u) (cs := [ι 7, eS, ι 4, ι 0, .string S1, nL, nL, nL, nL]) (ds := Z2.l) (by first | exact mC | simp [textF, litF, varF, fieldF]) (by first | exact mC | simp [textF, litF, varF, fieldF]) rfl hown4 hgr4 hor4);clear hown4 hgr4 hor4 hlt4
     go_ret
     exact ⟨_, rfl, HPU.out.2, HPU.out.1⟩
    | false =>
     rw [if_neg (by decide)] at hm;injection hm with hm
     injection hm with h3 h4
     subst h3; subst h4;have HTX := hI (fun W => text_any S1 W);have HNO := hI (fun A W => node_any 3 S1 A 1 1 W);clear hA b0 b1 b2 b3 f0 f1 f2 f3;go_upto_region 8 with (fail)
     have keep : Hid (∀ X σ bs ts, (kq, #[ι K1, ι O1, .string S1, ι I1]) ∈ bs → NSt L gt C g W X σ bs ts → X.cell? ⟨kq, 2, none⟩ = some (.string S1)) := hI fun X σ bs ts m1 hX => by
      have a0 := (hX.bx (q := kq) (c := #[ι K1, ι O1, .string S1, ι I1]) (m1)).cell (i := 2) rfl;exact a0
     refine wp_region_noPanic ?_;refine wp_region_held_drew (S := fun X => X.cell? ⟨kq, 2, none⟩ = some (.string S1)) (by kernel_rfl) (keep.out _ _ _ _ (by simp) H3.out.drew) (fun hHeld => ?_);refine wpAnyH_take (i := 0) (v := ?_) rfl (by kernel_rfl) (by kernel_rfl) (by kernel_rfl) (fun _ _ _ h => h) (Or.inl ⟨by rfl, ?ytke0⟩) (by assumption) ?_
     case ytke0 => (intro w hSw; (try dsimp only at hSw); go_simp <;> with_reducible rfl)
     try simp only [Act.put, sA, sZ, sS]
     refine wpAnyH_take (i := 1) (v := ?_) rfl (by kernel_rfl) (by kernel_rfl) (by kernel_rfl) (fun _ _ _ h => h) (Or.inl ⟨by rfl, ?ytke1⟩) (by assumption) ?_
     case ytke1 => (intro w hSw; (try dsimp only at hSw); go_simp <;> with_reducible rfl)
     try simp only [Act.put, sA, sZ, sS]
     refine wpAnyH_take (i := 2) (v := ?_) rfl (by kernel_rfl) (by kernel_rfl) (by kernel_rfl) (fun _ _ _ h => h) (Or.inl ⟨by rfl, ?ytke2⟩) (by assumption) ?_
     case ytke2 => (intro w hSw; (try dsimp only at hSw); go_simp <;> with_reducible rfl)
     try simp only [Act.put, sA, sZ, sS]
     refine wpAnyH_take (i := 4) (v := ?_) rfl (by kernel_rfl) (by kernel_rfl) (by kernel_rfl) (fun _ _ _ h => h) (Or.inl ⟨by rfl, ?ytke4⟩) (by assumption) ?_
     case ytke4 => (intro w hSw; (try dsimp only at hSw); go_simp <;> with_reducible rfl)
     try simp only [Act.put, sA, sZ, sS]
     refine wpAnyH_take (i := 5) (v := ?_) rfl (by kernel_rfl) (by kernel_rfl) (by kernel_rfl) (fun _ _ _ h => h) (Or.inl ⟨by rfl, ?ytke5⟩) (by assumption) ?_
     case ytke5 => (intro w hSw; (try dsimp only at hSw); go_simp <;> with_reducible rfl)
     try simp only [Act.put, sA, sZ, sS]
     refine wpAnyH_ready (rs := [3]) (by kernel_rfl) (by simp) ?_;refine .cons rfl (fun Kc hK => ?_) .nil;go_simp;refine (HTX.out _).mono ?_;rintro e w4 ⟨rfl, hb4⟩;have H4 := hI ((H3.out.drew.low hb4).leaf 7 ⟨#[]⟩ 4 0 S1 (by decide) (by omega));clear hb4;refine hK.out _ _ (keep.out _ _ _ _ (by simp) H4.out) (fun hHeld => ?_);clear hK Kc
     try simp only [Act.put, sA, sZ, sS]
     refine wpAnyH_ready (rs := [6]) (by kernel_rfl) (by simp) ?_;refine .cons rfl (fun Kc hK => ?_) .nil;go_simp;refine (ident_any _).mono ?_;rintro e w5 ⟨rfl, hb5⟩;have H5 := hI ((H4.out.low hb5).leaf 1 ⟨#[]⟩ 0 0 ⟨#[]⟩ (by decide) (by decide));clear hb5;refine hK.out _ _ (keep.out _ _ _ _ (by simp) H5.out) (fun hHeld => ?_);clear hK Kc
     try simp only [Act.put, sA, sZ, sS]
     refine wpAnyH_ready (rs := [7]) (by kernel_rfl) (by simp) ?_;refine .cons rfl (fun Kc hK => ?_) .nil;go_simp;have H6 := hI (H5.out.node 3 S1 (by omega) (fs := [identF]) (row := #[ι 1, eS, ι 0, ι 0, eS, nL, nL, nL, nL]) rfl (by simp) (LiesFL.one (H5.out.t (identF, [ι 1, eS, ι 0, ι 0, eS, nL, nL, nL, nL]) (by first | exact mC | simp [identF, nodeF, vz]))) (q := w5.heap.size) rfl);refine hK.out _ _ (keep.out _ _ _ _ (by simp) H6.out) (fun hHeld => ?_);clear hK Kc
     try simp only [Act.put, sA, sZ, sS]
     refine wpAnyH_ready (rs := [8]) (by kernel_rfl) (by simp) ?_;refine .cons rfl (fun Kc hK => ?_) .nil;go_simp;refine (HNO.out _ _).mono ?_;rintro e w7 ⟨rfl, hb7⟩;have H7 := hI (H6.out.low hb7);clear hb7;refine hK.out _ _ (keep.out _ _ _ _ (by simp) H7.out) (fun hHeld => ?_);clear hK Kc
     try simp only [Act.put, sA, sZ, sS]
     refine wpAnyH_ready (rs := [9]) (by kernel_rfl) (by simp) ?_;refine .cons rfl (fun Kc hK => ?_) .nil;go_simp;obtain ⟨xs, hx, hlx⟩ := (HE.out.next H7.out.gr H7.out.p).row;have HXR := hI (And.intro hx hlx);have hbw : B ≤ w7.heap.size := Nat.le_trans HE.out.bw H7.out.gr.size;clear hx hlx;have H8 := hI (H7.out.alloc (.cells #[ι 7, eS, ι 4, ι 0, .string S1, nL, nL, nL, nL, ι 3, .string S1, ι 0, ι 0, eS, nL, nL, nL, .slice (some ⟨w5.heap.size, 0, none⟩) 1 1] 29));refine hK.out _ _ (keep.out _ _ _ _ (by simp) H8.out) (fun hHeld => ?_);clear hK Kc
     try simp only [Act.put, sA, sZ, sS]
     refine wpAnyH_ready (rs := [10]) (by kernel_rfl) (by simp) ?_;refine .cons rfl (fun Kc hK => ?_) .nil;refine step_append_lies _ rfl (.tmp 45) (.tmp 54) 27 rfl B 29 i0 (.agg #[ι 0, eS, ι 0, ι 0, eS, nL, nL, nL, nL]) 9 152 Tryz.underlying27 hi hz0 hz1 hz2 rfl (by decide) (.slice A l.length c) l.length xs rfl (own_keepB' HXR.out.1 ((Below.refl _ _).alloc (Nat.le_refl _) _)) ⟨w7.heap.size, 0, none⟩ 2 2 ([ι 7, eS, ι 4, ι 0, .string S1, nL, nL, nL, nL] ++ [ι 3, .string S1, ι 0, ι 0, eS, nL, nL, nL, .slice (some ⟨w5.heap.size, 0, none⟩) 1 1]) rfl rfl (new9 _ _ #[ι 7, eS, ι 4, ι 0, .string S1, nL, nL, nL, nL, ι 3, .string S1, ι 0, ι 0, eS, nL, nL, nL, .slice (some ⟨w5.heap.size, 0, none⟩) 1 1] rfl) (one18 (one9 _ _ _ _ _ _ _ _ _ _ _ _ _ _ _ _ _) (one9 _ _ _ _ _ _ _ _ _ _ _ _ _ _ _ _ _)) (by decide) (by unfold maxLen; omega) (by omega) (by simp; omega) _ rfl ?_;intro g4 c4 w9 hown4 hgr4 hor4 hlt4;have HPU := hI (H7.out.push (row := #[ι 7, eS, ι 4, ι 0, .string S1, nL, nL, nL, nL, ι 3, .string S1, ι 0, ι 0, eS, nL, nL, nL, .slice (some ⟨w5.heap.size, 0, none⟩) 1 1]) HE.out HXR.out.1 HXR.out.2 (f := textF S1) (u := fieldF identF S1) (cs := [ι 7, eS, ι 4, ι 0, .string S1, nL, nL, nL, nL]) (ds := [ι 3, .string S1, ι 0, ι 0, eS, nL, nL, nL, .slice (some ⟨w5.heap.size, 0, none⟩) 1 1]) (by first | exact mC | simp [textF, litF, varF, fieldF]) (by first | exact mC | simp [textF, litF, varF, fieldF]) rfl hown4 hgr4 hor4);have HS9 : Hid (w9.cell? ⟨kq, 2, none⟩ = some (.string S1)) := hI (by
      have hbx := ((H7.out.bx (q := kq) (c := #[ι K1, ι O1, .string S1, ι I1]) (by simp)).alloc (.cells #[ι 7, eS, ι 4, ι 0, .string S1, nL, nL, nL, nL, ι 3, .string S1, ι 0, ι 0, eS, nL, nL, nL, .slice (some ⟨w5.heap.size, 0, none⟩) 1 1] 29)).grown hgr4 (fun e => by
       obtain ⟨xs0, hx0, -⟩ := HE.out.row;have h1 := (ownBlock_ge hx0 _ e.symm).2;have h2 := (H7.out.b (kq, #[ι K1, ι O1, .string S1, ι I1]) (by simp)).1;dsimp only at h2;omega)
      exact hbx.cell (i := 2) rfl)
     clear hown4 hgr4 hor4 hlt4;refine hK.out _ _ HS9.out (fun hHeld => ?_);clear hK Kc
     try simp only [List.getElem_toArray, List.getElem_cons_succ, List.getElem_cons_zero, Act.put, sA, sZ, sS]
     refine wpAnyH_take (i := 11) (v := ?_) rfl (by kernel_rfl) (by kernel_rfl) (by kernel_rfl) (fun _ _ _ h => h) (Or.inl ⟨by rfl, ?ytkas11⟩) (by assumption) ?_
     case ytkas11 => (intro w hSw; (try dsimp only at hSw); go_simp <;> with_reducible rfl)
     try simp only [Act.put, sA, sZ, sS]
     try simp only [List.getElem_toArray, List.getElem_cons_succ, List.getElem_cons_zero, Act.put, sA, sZ, sS]
     refine wpAnyH_done (by kernel_rfl) ?_ _;refine NoPanic.normal ?_
     try simp only [List.getElem_toArray, List.getElem_cons_succ, List.getElem_cons_zero, Act.put, sA, sZ, sS]
     go_wp2_with fail
     go_ret
     exact ⟨_, rfl, HPU.out.2, HPU.out.1⟩
   | false =>
    have hc := of_decide_eq_false HCN.out;rw [if_neg hc] at hm
    by_cases h3 : K1 = 3
    · rw [if_pos h3] at hm;injection hm with hm
      injection hm with h5 h6
      subst h5; subst h6;have hnx := HNX.out (by omega);have q3 : ((K1 : Int) == 3) = true := by rw [beq_iff_eq]; omega
      have HTX := hI (fun W => text_any S1 W);have HNO := hI (fun A n W => node_any 8 S1 A n n W);clear hA hc HM HCN HNX h3;obtain ⟨⟨b0, b1, b2, b3⟩, f0, f1, f2, f3⟩ := box4' H1.out.p.box;have hlg := H1.out.p.glt;have hk9 : (σ.k : Int) ≤ 4096 := by omega
      have hk0 : 0 ≤ (σ.k : Int) := by omega
      generalize hkk : (σ.k : Int) = kk at b1 hk9 hk0;have H2 := hI (H1.out.next ((Gr.refl g _).set 1 _) (H1.out.p.step hnx (by rw [hkk])));clear hkk;go_upto_region 11 with (fail)
      have keep : Hid (∀ X σ bs ts, (kq, #[ι K1, ι O1, .string S1, ι I1]) ∈ bs → NSt L gt C g W X σ bs ts → X.cell? ⟨kq, 2, none⟩ = some (.string S1)) := hI fun X σ bs ts m1 hX => by
       have a0 := (hX.bx (q := kq) (c := #[ι K1, ι O1, .string S1, ι I1]) (m1)).cell (i := 2) rfl;exact a0
      refine wp_region_noPanic ?_;refine wp_region_held_drew (S := fun X => X.cell? ⟨kq, 2, none⟩ = some (.string S1)) (by kernel_rfl) (keep.out _ _ _ _ (by simp) H2.out.drew) (fun hHeld => ?_);refine wpAnyH_take (i := 0) (v := ?_) rfl (by kernel_rfl) (by kernel_rfl) (by kernel_rfl) (fun _ _ _ h => h) (Or.inl ⟨by rfl, ?ytkg0⟩) (by assumption) ?_
      case ytkg0 => (intro w hSw; (try dsimp only at hSw); go_simp <;> with_reducible rfl)
      try simp only [Act.put, sA, sZ, sS]
      refine wpAnyH_take (i := 1) (v := ?_) rfl (by kernel_rfl) (by kernel_rfl) (by kernel_rfl) (fun _ _ _ h => h) (Or.inl ⟨by rfl, ?ytkg1⟩) (by assumption) ?_
      case ytkg1 => (intro w hSw; (try dsimp only at hSw); go_simp <;> with_reducible rfl)
      try simp only [Act.put, sA, sZ, sS]
      refine wpAnyH_take (i := 2) (v := ?_) rfl (by kernel_rfl) (by kernel_rfl) (by kernel_rfl) (fun _ _ _ h => h) (Or.inl ⟨by rfl, ?ytkg2⟩) (by assumption) ?_
      case ytkg2 => (intro w hSw; (try dsimp only at hSw); go_simp <;> with_reducible rfl)
      try simp only [Act.put, sA, sZ, sS]
      refine wpAnyH_take (i := 4) (v := ?_) rfl (by kernel_rfl) (by kernel_rfl) (by kernel_rfl) (fun _ _ _ h => h) (Or.inl ⟨by rfl, ?ytkg4⟩) (by assumption) ?_
      case ytkg4 => (intro w hSw; (try dsimp only at hSw); go_simp <;> with_reducible rfl)
      try simp only [Act.put, sA, sZ, sS]
      refine wpAnyH_take (i := 5) (v := ?_) rfl (by kernel_rfl) (by kernel_rfl) (by kernel_rfl) (fun _ _ _ h => h) (Or.inl ⟨by rfl, ?ytkg5⟩) (by assumption) ?_
      case ytkg5 => (intro w hSw; (try dsimp only at hSw); go_simp <;> with_reducible rfl)
      try simp only [Act.put, sA, sZ, sS]
      refine wpAnyH_ready (rs := [3]) (by kernel_rfl) (by simp) ?_;refine .cons rfl (fun Kc hK => ?_) .nil;go_simp;refine (HTX.out _).mono ?_;rintro e w3 ⟨rfl, hb3⟩;have H3 := hI ((H2.out.drew.low hb3).leaf 7 ⟨#[]⟩ 4 0 S1 (by decide) (by omega));clear hb3;refine hK.out _ _ (keep.out _ _ _ _ (by simp) H3.out) (fun hHeld => ?_);clear hK Kc
      try simp only [Act.put, sA, sZ, sS]
      refine wpAnyH_ready (rs := [6]) (by kernel_rfl) (by simp) ?_;refine .cons rfl (fun Kc hK => ?_) .nil;go_simp;refine (HNO.out _ _ _).mono ?_;rintro e w4 ⟨rfl, hb4⟩;have H4 := hI ((H3.out.low hb4).leaf 8 S1 0 0 ⟨#[]⟩ (by omega) (by decide));clear hb4;refine hK.out _ _ (keep.out _ _ _ _ (by simp) H4.out) (fun hHeld => ?_);clear hK Kc
      try simp only [Act.put, sA, sZ, sS]
      refine wpAnyH_ready (rs := [7]) (by kernel_rfl) (by simp) ?_;refine .cons rfl (fun Kc hK => ?_) .nil;go_simp;obtain ⟨xs, hx, hlx⟩ := (HE.out.next H4.out.gr H4.out.p).row;have HXR := hI (And.intro hx hlx);have hbw : B ≤ w4.heap.size := Nat.le_trans HE.out.bw H4.out.gr.size;clear hx hlx;have H5 := hI (H4.out.alloc (.cells #[ι 7, eS, ι 4, ι 0, .string S1, nL, nL, nL, nL, ι 8, .string S1, ι 0, ι 0, eS, nL, nL, nL, nL] 29));refine hK.out _ _ (keep.out _ _ _ _ (by simp) H5.out) (fun hHeld => ?_);clear hK Kc
      try simp only [Act.put, sA, sZ, sS]
      refine wpAnyH_ready (rs := [8]) (by kernel_rfl) (by simp) ?_;refine .cons rfl (fun Kc hK => ?_) .nil;refine step_append_lies _ rfl (.tmp 67) (.tmp 74) 27 rfl B 29 i0 (.agg #[ι 0, eS, ι 0, ι 0, eS, nL, nL, nL, nL]) 9 152 Tryz.underlying27 hi hz0 hz1 hz2 rfl (by decide) (.slice A l.length c) l.length xs rfl (own_keepB' HXR.out.1 ((Below.refl _ _).alloc (Nat.le_refl _) _)) ⟨w4.heap.size, 0, none⟩ 2 2 ([ι 7, eS, ι 4, ι 0, .string S1, nL, nL, nL, nL] ++ [ι 8, .string S1, ι 0, ι 0, eS, nL, nL, nL, nL]) rfl rfl (new9 _ _ #[ι 7, eS, ι 4, ι 0, .string S1, nL, nL, nL, nL, ι 8, .string S1, ι 0, ι 0, eS, nL, nL, nL, nL] rfl) (one18 (one9 _ _ _ _ _ _ _ _ _ _ _ _ _ _ _ _ _) (one9 _ _ _ _ _ _ _ _ _ _ _ _ _ _ _ _ _)) (by decide) (by unfold maxLen; omega) (by omega) (by simp; omega) _ rfl ?_;intro g4 c4 w9 hown4 hgr4 hor4 hlt4;have HPU := hI (H4.out.push (row := #[ι 7, eS, ι 4, ι 0, .string S1, nL, nL, nL, nL, ι 8, .string S1, ι 0, ι 0, eS, nL, nL, nL, nL]) HE.out HXR.out.1 HXR.out.2 (f := textF S1) (u := varF S1) (cs := [ι 7, eS, ι 4, ι 0, .string S1, nL, nL, nL, nL]) (ds := [ι 8, .string S1, ι 0, ι 0, eS, nL, nL, nL, nL]) (by first | exact mC | simp [textF, litF, varF, fieldF]) (by first | exact mC | simp [textF, litF, varF, fieldF]) rfl hown4 hgr4 hor4);have HS9 : Hid (w9.cell? ⟨kq, 2, none⟩ = some (.string S1)) := hI (by
       have hbx := ((H4.out.bx (q := kq) (c := #[ι K1, ι O1, .string S1, ι I1]) (by simp)).alloc (.cells #[ι 7, eS, ι 4, ι 0, .string S1, nL, nL, nL, nL, ι 8, .string S1, ι 0, ι 0, eS, nL, nL, nL, nL] 29)).grown hgr4 (fun e => by
        obtain ⟨xs0, hx0, -⟩ := HE.out.row;have h1 := (ownBlock_ge hx0 _ e.symm).2;have h2 := (H4.out.b (kq, #[ι K1, ι O1, .string S1, ι I1]) (by simp)).1;dsimp only at h2;omega)
       exact hbx.cell (i := 2) rfl)
      clear hown4 hgr4 hor4 hlt4;refine hK.out _ _ HS9.out (fun hHeld => ?_);clear hK Kc
      try simp only [List.getElem_toArray, List.getElem_cons_succ, List.getElem_cons_zero, Act.put, sA, sZ, sS]
      refine wpAnyH_take (i := 9) (v := ?_) rfl (by kernel_rfl) (by kernel_rfl) (by kernel_rfl) (fun _ _ _ h => h) (Or.inl ⟨by rfl, ?ytkas9⟩) (by assumption) ?_
      case ytkas9 => (intro w hSw; (try dsimp only at hSw); go_simp <;> with_reducible rfl)
      try simp only [Act.put, sA, sZ, sS]
      try simp only [List.getElem_toArray, List.getElem_cons_succ, List.getElem_cons_zero, Act.put, sA, sZ, sS]
      refine wpAnyH_done (by kernel_rfl) ?_ _;refine NoPanic.normal ?_
      try simp only [List.getElem_toArray, List.getElem_cons_succ, List.getElem_cons_zero, Act.put, sA, sZ, sS]
      go_wp2_with fail
      go_ret
      exact ⟨_, rfl, HPU.out.2, HPU.out.1⟩
    · rw [if_neg h3] at hm;have q3 : ((K1 : Int) == 3) = false := bF.2 (by omega);obtain ⟨f, σ1, h1, h2⟩ := bnd_some hm;obtain ⟨u, σ2, h5, h6⟩ := bnd_some h2;injection h6 with h6
      injection h6 with h7 h8
      subst h7; subst h8;have HN := hI (fun x σ W (h : PAt L gt C g W σ) => need_any hL x h);have HC := hI (fun W h => hA .filter W _ f σ1 h h1);have HC2 := hI (fun W h => hA .alt W _ u σ2 h h5);clear hA hc HM HCN HNX h3 hm h1 h2 h5;go_wp2_with fail;refine (HN.out _ _ _ H1.out.p).mono ?_;rintro e w3 ⟨rfl, hg3, hp3⟩;have H3 := hI (H1.out.next hg3 hp3);clear hg3 hp3;go_wp2_with fail;refine (HC.out _ H3.out.p).mono ?_;rintro e w4 hZ;obtain ⟨Z2, rfl, hg4, hp4, hl4⟩ := fr3 hZ;have H4 := hI ((H3.out.call hg4 hp4 hl4).box Z2.c);clear hg4 hp4 hl4;go_wp2_with fail;refine (HN.out _ _ _ H4.out.p).mono ?_;rintro e w5 ⟨rfl, hg5, hp5⟩;have H5 := hI (H4.out.next hg5 hp5);clear hg5 hp5;go_wp2_with fail;refine (HN.out _ _ _ H5.out.p).mono ?_;rintro e w6 ⟨rfl, hg6, hp6⟩;have H6 := hI (H5.out.next hg6 hp6);clear hg6 hp6;go_upto_region 16 with (fail)
      generalize w4.heap.size = qq at H6 ⊢;have keep : Hid (∀ X σ bs ts, (qq, Z2.c) ∈ bs → NSt L gt C g W X σ bs ts → X.cell? ⟨qq, 0, none⟩ = some (ι Z2.o) ∧ X.cell? ⟨qq, 1, none⟩ = some (.string Z2.t) ∧ X.cell? ⟨qq, 2, none⟩ = some (ι Z2.k) ∧ X.cell? ⟨qq, 3, none⟩ = some (ι Z2.j) ∧ X.cell? ⟨qq, 4, none⟩ = some (.string Z2.s) ∧ X.cell? ⟨qq, 5, none⟩ = some (.slice Z2.A Z2.a Z2.u) ∧ X.cell? ⟨qq, 6, none⟩ = some (.slice Z2.B Z2.b Z2.v) ∧ X.cell? ⟨qq, 7, none⟩ = some (.slice Z2.C Z2.e Z2.w) ∧ X.cell? ⟨qq, 8, none⟩ = some (.slice Z2.D Z2.d Z2.x)) := hI fun X σ bs ts m1 hX => by
       obtain ⟨a00, a01, a02, a03, a04, a05, a06, a07, a08⟩ := box9 (hX.bx (q := qq) (c := Z2.c) (m1));exact ⟨a00, a01, a02, a03, a04, a05, a06, a07, a08⟩
      refine wp_region_noPanic ?_;refine wp_region_held_drew (S := fun X => X.cell? ⟨qq, 0, none⟩ = some (ι Z2.o) ∧ X.cell? ⟨qq, 1, none⟩ = some (.string Z2.t) ∧ X.cell? ⟨qq, 2, none⟩ = some (ι Z2.k) ∧ X.cell? ⟨qq, 3, none⟩ = some (ι Z2.j) ∧ X.cell? ⟨qq, 4, none⟩ = some (.string Z2.s) ∧ X.cell? ⟨qq, 5, none⟩ = some (.slice Z2.A Z2.a Z2.u) ∧ X.cell? ⟨qq, 6, none⟩ = some (.slice Z2.B Z2.b Z2.v) ∧ X.cell? ⟨qq, 7, none⟩ = some (.slice Z2.C Z2.e Z2.w) ∧ X.cell? ⟨qq, 8, none⟩ = some (.slice Z2.D Z2.d Z2.x)) (by kernel_rfl) (keep.out _ _ _ _ (by simp) H6.out.drew) (fun hHeld => ?_);refine wpAnyH_take (i := 0) (v := ?_) rfl (by kernel_rfl) (by kernel_rfl) (by kernel_rfl) (fun _ _ _ h => h) (Or.inl ⟨by rfl, ?ytkh0⟩) (by assumption) ?_
      case ytkh0 => (intro w hSw; (try dsimp only at hSw); go_simp <;> with_reducible rfl)
      try simp only [Act.put, sA, sZ, sS]
      refine wpAnyH_take (i := 1) (v := ?_) rfl (by kernel_rfl) (by kernel_rfl) (by kernel_rfl) (fun _ _ _ h => h) (Or.inl ⟨by rfl, ?ytkh1⟩) (by assumption) ?_
      case ytkh1 => (intro w hSw; (try dsimp only at hSw); go_simp <;> with_reducible rfl)
      try simp only [Act.put, sA, sZ, sS]
      refine wpAnyH_take (i := 2) (v := ?_) rfl (by kernel_rfl) (by kernel_rfl) (by kernel_rfl) (fun _ _ _ h => h) (Or.inl ⟨by rfl, ?ytkh2⟩) (by assumption) ?_
      case ytkh2 => (intro w hSw; (try dsimp only at hSw); go_simp <;> with_reducible rfl)
      try simp only [Act.put, sA, sZ, sS]
      refine wpAnyH_ready (rs := [3]) (by kernel_rfl) (by simp) ?_;refine .cons rfl (fun Kc hK => ?_) .nil;go_simp;refine (HC2.out _ H6.out.drew.p).mono ?_;rintro e w7 hZ;obtain ⟨Z3, rfl, hg7, hp7, hl7⟩ := fr3 hZ;have H7 := hI (H6.out.drew.call hg7 hp7 hl7);clear hg7 hp7 hl7;refine hK.out _ _ (keep.out _ _ _ _ (by simp) H7.out) (fun hHeld => ?_);clear hK Kc
      try simp only [Act.put, sA, sZ, sS]
      refine wpAnyH_ready (rs := [4]) (by kernel_rfl) (by simp) ?_;refine .cons rfl (fun Kc hK => ?_) .nil;go_simp;obtain ⟨xs, hx, hlx⟩ := (HE.out.next H7.out.gr H7.out.p).row;have HXR := hI (And.intro hx hlx);have hbw : B ≤ w7.heap.size := Nat.le_trans HE.out.bw H7.out.gr.size;clear hx hlx;have H8 := hI (H7.out.alloc (.cells (Z2.cc Z3) 29));refine hK.out _ _ (keep.out _ _ _ _ (by simp) H8.out) (fun hHeld => ?_);clear hK Kc
      try simp only [Act.put, sA, sZ, sS]
      refine wpAnyH_ready (rs := [5]) (by kernel_rfl) (by simp) ?_;refine .cons rfl (fun Kc hK => ?_) .nil;refine step_append_lies _ rfl (.tmp 84) (.tmp 88) 27 rfl B 29 i0 (.agg #[ι 0, eS, ι 0, ι 0, eS, nL, nL, nL, nL]) 9 152 Tryz.underlying27 hi hz0 hz1 hz2 rfl (by decide) (.slice A l.length c) l.length xs rfl (own_keepB' HXR.out.1 ((Below.refl _ _).alloc (Nat.le_refl _) _)) ⟨w7.heap.size, 0, none⟩ 2 2 (Z2.l ++ Z3.l) rfl rfl (new9 _ _ (Z2.cc Z3) rfl) (one18 (one9 _ _ _ _ _ _ _ _ _ _ _ _ _ _ _ _ _) (one9 _ _ _ _ _ _ _ _ _ _ _ _ _ _ _ _ _)) (by decide) (by unfold maxLen; omega) (by omega) (by simp; omega) _ rfl ?_;intro g4 c4 w9 hown4 hgr4 hor4 hlt4;have HPU := hI (H7.out.push (row := (Z2.cc Z3)) HE.out HXR.out.1 HXR.out.2 (f := f) (u := u) (cs := Z2.l) (ds := Z3.l) (by first | exact mC | simp [textF, litF, varF, fieldF]) (by first | exact mC | simp [textF, litF, varF, fieldF]) rfl hown4 hgr4 hor4);have HS9 : Hid (w9.cell? ⟨qq, 0, none⟩ = some (ι Z2.o) ∧ w9.cell? ⟨qq, 1, none⟩ = some (.string Z2.t) ∧ w9.cell? ⟨qq, 2, none⟩ = some (ι Z2.k) ∧ w9.cell? ⟨qq, 3, none⟩ = some (ι Z2.j) ∧ w9.cell? ⟨qq, 4, none⟩ = some (.string Z2.s) ∧ w9.cell? ⟨qq, 5, none⟩ = some (.slice Z2.A Z2.a Z2.u) ∧ w9.cell? ⟨qq, 6, none⟩ = some (.slice Z2.B Z2.b Z2.v) ∧ w9.cell? ⟨qq, 7, none⟩ = some (.slice Z2.C Z2.e Z2.w) ∧ w9.cell? ⟨qq, 8, none⟩ = some (.slice Z2.D Z2.d Z2.x)) := hI (by
       have hbx := ((H7.out.bx (q := qq) (c := Z2.c) (by simp)).alloc (.cells (Z2.cc Z3) 29)).grown hgr4 (fun e => by
        obtain ⟨xs0, hx0, -⟩ := HE.out.row;have h1 := (ownBlock_ge hx0 _ e.symm).2;have h2 := (H7.out.b (qq, Z2.c) (by simp)).1;dsimp only at h2;omega)
       obtain ⟨a0, a1, a2, a3, a4, a5, a6, a7, a8⟩ := box9 hbx;exact ⟨a0, a1, a2, a3, a4, a5, a6, a7, a8⟩)
      clear hown4 hgr4 hor4 hlt4;refine hK.out _ _ HS9.out (fun hHeld => ?_);clear hK Kc
      try simp only [List.getElem_toArray, List.getElem_cons_succ, List.getElem_cons_zero, Act.put, sA, sZ, sS]
      refine wpAnyH_take (i := 6) (v := ?_) rfl (by kernel_rfl) (by kernel_rfl) (by kernel_rfl) (fun _ _ _ h => h) (Or.inl ⟨by rfl, ?ytkas6⟩) (by assumption) ?_
      case ytkas6 => (intro w hSw; (try dsimp only at hSw); go_simp <;> with_reducible rfl)
      try simp only [Act.put, sA, sZ, sS]
      try simp only [List.getElem_toArray, List.getElem_cons_succ, List.getElem_cons_zero, Act.put, sA, sZ, sS]
      refine wpAnyH_done (by kernel_rfl) ?_ _;refine NoPanic.normal ?_
      try simp only [List.getElem_toArray, List.getElem_cons_succ, List.getElem_cons_zero, Act.put, sA, sZ, sS]
      go_wp2_with fail
      go_ret
      exact ⟨_, rfl, HPU.out.2, HPU.out.1⟩

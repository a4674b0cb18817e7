import Derived.Test.YtoleoimmpggldaaGreatDoorYb
import Derived.Test.YtoleoimmpggldaaGreatDoorYy
set_option linter.unusedVariables false
set_option linter.unusedSectionVars false
set_option linter.unusedSimpArgs false
set_option maxHeartbeats 10000000
set_option maxRecDepth 100000
namespace Go.Proofs.YtoleoimmpggldaaGreatDoor
open Go.RowKit
theorem streqc (x : ByteArray) (l : List UInt8) : (x.toList == l) = decide (x = ⟨l.toArray⟩) := by
 rw [Bool.eq_iff_iff, beq_iff_eq, decide_eq_true_eq]
 constructor
 · intro h;rw [ByteArray.toList_eq] at h;apply bytesInj;rw [h]
 · intro h;rw [h, ByteArray.toList_eq]
section
variable {S : Nat → Prop} {L : List Fk} {gt C g : Nat} {w w' w0 : World} {σ τ : PS} {bs : List (Nat × Array Value)} {ts : List (Ft × List Value)} {t : Ft} {cs : List Value}
theorem RetU.base {o : Obj} {e : Ending} (h : RetU S L gt C g (w0.alloc o) t τ e w) : RetU S L gt C g w0 t τ e w := by
 obtain ⟨c0, c1, c2, c3, c4, c5, c6, c7, c8, h1, h2, h3, h4⟩ := h;refine ⟨c0, c1, c2, c3, c4, c5, c6, c7, c8, h1, (Gr.one w0 o).trans h2, h3, LiesF.move h4 fun b hb => ⟨hb.imp id fun a => ⟨by have := a.1; simp at this; omega, a.2⟩, rfl⟩⟩
theorem St.param (hP : PAt L gt C g w σ) (hS : ∀ b, S b → b < w.heap.size ∧ b ≠ g) (hl : LiesF w S t cs) (o : Obj) : St S L gt C g (w.alloc o) ((w.alloc o).alloc (.cells z9 29)) σ [] [(t, cs)] :=
 (St.start (hP.alloc o) fun b hb => ⟨by have := (hS b hb).1; simp; omega, (hS b hb).2⟩).given (LiesF.move hl fun b hb => ⟨hb, Below.heap_alloc _ _ _ (hS b hb).1⟩)
theorem St.pbox {o : Array Value} (h : St S L gt C g (w0.alloc (.cells o 29)) w σ bs ts) (hg : g < w0.heap.size) : Box w w0.heap.size 29 o :=
 (Box.laid w0 29 o).grown h.r.gr (by intro e; injection e with e; omega)
theorem St.listed (h : St S L gt C g w0 w σ bs ts) (h' : St S L gt C g w0 w' τ bs ts) (op : Int) (tx : ByteArray) (htx : tx.size ≤ 140737488355328) {l : List Ft} {A : Option Addr} {c : Nat} {xs : List Value} (hA : A = none → c = 0) (hc : l.length ≤ c) (hcm : c ≤ maxLen) (hR : Rs w' (Nw w.heap.size w'.heap.size) A xs) (hL : LiesFL w' (Nw w.heap.size w'.heap.size) l xs) (hl : l.length ≤ 1000000) :
 St S L gt C g w0 w' τ bs ((.mk op tx vz [] l, [ι op, .string tx, ι 0, ι 0, eS, nL, nL, nL, .slice A l.length c]) :: ts) := by
 have hN : ∀ b, Nw w.heap.size w'.heap.size b → Own S w0 w' bs b ∧ w'.heap[b]? = w'.heap[b]? := fun b hb => ⟨.inr ⟨nT h.lt hb.1, hb.2, fun q hq => by have := (h.b q hq).2.lt; have := hb.1; omega⟩, rfl⟩
 exact h'.own_node op tx htx rfl hl hA hc hcm (hR.move hN) (hL.move hN)
end
theorem listL_len {L : List Fk} {α : Type} {m : PS → Option (α × PS)} : ∀ (n : Nat) (l : List α) (σ : PS) (r : List α) (τ : PS), listL L m n l σ = some (r, τ) → r.length < l.length + n
 | 0, l, σ, r, τ, h => by simp [listL] at h
 | n + 1, l, σ, r, τ, h => by
  rw [listL] at h;dsimp only at h
  by_cases hb : sees L (⟨#[59]⟩ : ByteArray) σ = true
  · rw [if_pos hb] at h;obtain ⟨a, σ1, h1, h2⟩ := bnd_some h;have := listL_len n _ _ _ _ h2;rw [List.length_append] at this;simp at this;omega
  · rw [if_neg hb] at h;injection h with h
    injection h with h1 h2
    subst h1;omega
theorem list_len {L : List Fk} (hL : TokL L) {α : Type} {m : PS → Option (α × PS)} {n : Nat} {σ τ : PS} {r : List α} (h : listM L m n σ = some (r, τ)) : r.length ≤ n := by
 obtain ⟨f, σ1, h1, h2⟩ := bnd_some h;have := listL_len _ _ _ _ _ h2;simp at this;omega
theorem call_any {L : List Fk} (hL : TokL L) {gt C g : Nat} {call : Ru → PM} (n : Nat) (hn : n ≤ 1000000) (hA : OkA L gt C g call) (s : ByteArray) (hs : s.size ≤ 1048576) (W : World) (σ τ : PS) (t : Ft) (hP : PAt L gt C g W σ) (hm : callM L call n s σ = some (t, τ)) :
 Calls Tryz.prog 174 #[.pointer (some ⟨g, 0, none⟩), .string s] W (RetF L gt C g W t τ) := by
 have H0 := hI ((St.begin hP).box #[ι 25, .string s, ι 0, ι 0, eS, nL, nL, nL, nL]);unfold callM at hm;obtain ⟨b, hb⟩ : ∃ b, sees L (⟨#[40]⟩ : ByteArray) σ = b := ⟨_, rfl⟩
 rw [hb] at hm;have HT := hI (fun W (h : PAt L gt C g W σ) => take_any hL (⟨#[40]⟩ : ByteArray) b hb h);have hq0 : (W.alloc (.cells z9 29)).heap.size = W.heap.size + 1 := by simp
 rw [hq0] at H0;clear hP hb hq0
 cases b with
 | true =>
  rw [if_pos rfl] at hm;obtain ⟨l, σ1, h1, h2⟩ := bnd_some hm;injection h2 with h2
  injection h2 with h3 h4
  subst h3; subst h4;have HLL : Hid (l.length ≤ 1000000) := hI (Nat.le_trans (list_len hL h1) hn);have HC := hI (fun W (h : PAt L gt C g W (adv σ)) => list_any hL ent_filter (hA .filter) n hn W _ σ1 l h h1);clear hA hm h1 hn
  go_enter Tryz.func174, Tryz.ntmps174
  go_wp2_with fail;refine (HT.out _ H0.out.r.p).mono ?_;rintro e w1 ⟨rfl, hg1, hp1⟩;have H1 := hI (H0.out.next hg1 hp1);clear hg1 hp1;go_wp2_with fail;refine (HC.out _ H1.out.r.p).mono ?_;rintro e w2 ⟨A, c, xs, rfl, a1, a2, a3, hg2, hp2, hR2, hL2⟩;have H2 := hI (H1.out.listed (H1.out.next hg2 hp2) 25 s (by omega) a1 a2 a3 hR2 hL2 HLL.out);have H3 := hI (H2.out.set (fun x hx => by simp at hx) 8 (.slice A l.length c) rfl);generalize l.length = nl at *
  clear hg2 hp2 hR2 hL2;have y0 := box9 (H2.out.bx (q := W.heap.size + 1) (c := #[ι 25, .string s, ι 0, ι 0, eS, nL, nL, nL, nL]) (by simp));have f8 := (H2.out.bx (q := W.heap.size + 1) (c := #[ι 25, .string s, ι 0, ι 0, eS, nL, nL, nL, nL]) (by simp)).free 8;have hltq := (H2.out.bx (q := W.heap.size + 1) (c := #[ι 25, .string s, ι 0, ι 0, eS, nL, nL, nL, nL]) (by simp)).lt;have x0 := H2.out.r.cells;go_wp2_with fail;refine post9 Tryz.results174 rfl rfl (H3.out.r.r.put9z _ _ _ _ _ _ _ _ _) ?_;exact retF_of (H3.out.close (by first | exact mC | simp))
 | false =>
  rw [if_neg (by decide)] at hm
  by_cases hi : s = (⟨#[105, 110, 112, 117, 116, 115]⟩ : ByteArray)
  · rw [if_pos hi] at hm;injection hm with hm
    injection hm with h3 h4
    subst h3; subst h4;have q := streqc s [105, 110, 112, 117, 116, 115];rw [decide_eq_true hi] at q;have HNO := hI (fun W => node_any 28 none 0 0 W);clear hA hi hs
    go_enter Tryz.func174, Tryz.ntmps174
    go_wp2_with fail;refine (HT.out _ H0.out.r.p).mono ?_;rintro e w1 ⟨rfl, hg1, hp1⟩;have H1 := hI (H0.out.next hg1 hp1);clear hg1 hp1;go_wp2_with fail;refine (HNO.out _).mono ?_;rintro e w2 ⟨rfl, hb2⟩;have H2 := hI ((H1.out.low hb2).leaf 28 ⟨#[]⟩ 0 0 ⟨#[]⟩ (by decide) (by decide));clear hb2;have x0 := H2.out.r.cells;go_wp2_with fail;refine post9 Tryz.results174 rfl rfl (H2.out.r.r.put9z _ _ _ _ _ _ _ _ _) ?_;exact retF_of (H2.out.close (by first | exact mC | simp))
  · rw [if_neg hi] at hm;injection hm with hm
    injection hm with h3 h4
    subst h3; subst h4;have q := streqc s [105, 110, 112, 117, 116, 115];rw [decide_eq_false hi] at q;clear hA hi
    go_enter Tryz.func174, Tryz.ntmps174
    go_wp2_with fail;refine (HT.out _ H0.out.r.p).mono ?_;rintro e w1 ⟨rfl, hg1, hp1⟩;have H1 := hI (H0.out.next hg1 hp1);clear hg1 hp1;have H2 := hI (H1.out.leaf 25 s 0 0 ⟨#[]⟩ (by omega) (by decide));have y0 := box9 (H2.out.bx (q := W.heap.size + 1) (c := #[ι 25, .string s, ι 0, ι 0, eS, nL, nL, nL, nL]) (by simp));have x0 := H2.out.r.cells;go_wp2_with fail;refine post9 Tryz.results174 rfl rfl (H2.out.r.r.put9z _ _ _ _ _ _ _ _ _) ?_;exact retF_of (H2.out.close (by first | exact mC | simp))
theorem bracket_any {L : List Fk} (hL : TokL L) {gt C g : Nat} {call : Ru → PM} (hA : OkA L gt C g call) {S : Nat → Prop} {f : Ft} {c00 c01 c02 c03 c04 c05 c06 c07 c08 : Value} (W : World) (σ τ : PS) (t : Ft) (hP : PAt L gt C g W σ) (hS : ∀ b, S b → b < W.heap.size ∧ b ≠ g) (hl : LiesF W S f [c00, c01, c02, c03, c04, c05, c06, c07, c08]) (hm : bracketM L call f σ = some (t, τ)) :
 Calls Tryz.prog 176 #[.pointer (some ⟨g, 0, none⟩), .agg #[c00, c01, c02, c03, c04, c05, c06, c07, c08]] W (RetU S L gt C g W t τ) := by
 obtain ⟨Z1, rfl, rfl, rfl, rfl, rfl, rfl, rfl, rfl, rfl⟩ := fr9 hl;have H0 := hI (St.param hP hS hl (.cells Z1.c 29));have hg0 := hP.glt;have hS1 : ∀ b, S b → b < W.heap.size := fun b hb => (hS b hb).1
 have HS1 := hI hS1;have keep : Hid (∀ X σ bs ts, St S L gt C g (W.alloc (.cells Z1.c 29)) X σ bs ts → X.cell? ⟨W.heap.size, 0, none⟩ = some (ι Z1.o) ∧ X.cell? ⟨W.heap.size, 1, none⟩ = some (.string Z1.t) ∧ X.cell? ⟨W.heap.size, 2, none⟩ = some (ι Z1.k) ∧ X.cell? ⟨W.heap.size, 3, none⟩ = some (ι Z1.j) ∧ X.cell? ⟨W.heap.size, 4, none⟩ = some (.string Z1.s) ∧ X.cell? ⟨W.heap.size, 5, none⟩ = some (.slice Z1.A Z1.a Z1.u) ∧ X.cell? ⟨W.heap.size, 6, none⟩ = some (.slice Z1.B Z1.b Z1.v) ∧ X.cell? ⟨W.heap.size, 7, none⟩ = some (.slice Z1.C Z1.e Z1.w) ∧ X.cell? ⟨W.heap.size, 8, none⟩ = some (.slice Z1.D Z1.d Z1.x)) := hI fun X σ bs ts hX => box9 (hX.pbox hg0)
 have sz1 : (W.alloc (.cells Z1.c 29)).heap.size = W.heap.size + 1 := by simp
 unfold bracketM at hm;obtain ⟨b, hb⟩ : ∃ b, sees L (⟨#[93]⟩ : ByteArray) σ = b := ⟨_, rfl⟩
 rw [hb] at hm;have HT1 := hI (fun W (h : PAt L gt C g W (σ)) => take_any hL (⟨#[93]⟩ : ByteArray) b hb h);have SZ1 := hI sz1;clear hP hS hl hb hS1 sz1
 cases b with
 | true =>
  rw [if_pos rfl] at hm;injection hm with hm
  injection hm with h3 h4
  subst h3; subst h4;have HNO := hI (fun A W => node_any 6 A 1 1 W);clear hA
  go_enter Tryz.func176, Tryz.ntmps176
  go_wp2_with fail;refine (HT1.out _ H0.out.r.p).mono ?_;rintro e w1 ⟨rfl, hg1, hp1⟩;have H1 := hI (H0.out.next hg1 hp1);clear hg1 hp1;obtain ⟨y0, y1, y2, y3, y4, y5, y6, y7, y8⟩ := keep.out _ _ _ _ H1.out;go_wp2_with fail;have H2 := hI (H1.out.node 6 ⟨#[]⟩ (by decide) (fs := [f]) (row := Z1.c) rfl (by simp) (LiesFL.one (H1.out.t (f, Z1.l) (by simp))) rfl);refine (HNO.out _ _).mono ?_;rintro e w3 ⟨rfl, hb3⟩;have H3 := hI (H2.out.low hb3);clear hb3;have x0 := H3.out.r.cells;rw [SZ1.out] at x0;have hltr3 := H3.out.lt;rw [SZ1.out] at hltr3;go_wp2_with fail;refine post9 Tryz.results176 rfl rfl ((SZ1.out ▸ H3.out.r.r.put9z _ _ _ _ _ _ _ _ _)) ?_;exact RetU.base (SZ1.out ▸ H3.out.close (by first | exact mC | simp))
 | false =>
  rw [if_neg (by decide)] at hm;obtain ⟨b, hb⟩ : ∃ b, sees L (⟨#[58]⟩ : ByteArray) σ = b := ⟨_, rfl⟩
  rw [hb] at hm;have HT2 := hI (fun W (h : PAt L gt C g W (σ)) => take_any hL (⟨#[58]⟩ : ByteArray) b hb h);clear hb
  cases b with
  | true =>
   rw [if_pos rfl] at hm;obtain ⟨f2, σ1, h1, h2⟩ := bnd_some hm;injection h2 with h2
   injection h2 with h3 h4
   subst h3; subst h4;have HC := hI (fun W (h : PAt L gt C g W (adv σ)) => before_any hL hA (⟨#[93]⟩ : ByteArray) W _ σ1 f2 h h1);have HNU := hI (fun W => null_any W);have HNO := hI (fun A W => node_any 5 A 3 3 W);clear hA hm h1
   go_enter Tryz.func176, Tryz.ntmps176
   go_wp2_with fail;refine (HT1.out _ H0.out.r.p).mono ?_;rintro e w1 ⟨rfl, hg1, hp1⟩;have H1 := hI (H0.out.next hg1 hp1);clear hg1 hp1;go_wp2_with fail;refine (HT2.out _ H1.out.r.p).mono ?_;rintro e w2 ⟨rfl, hg2, hp2⟩;have H2 := hI (H1.out.next hg2 hp2);clear hg2 hp2;go_upto_region 4 with (fail)
   obtain ⟨y0, y1, y2, y3, y4, y5, y6, y7, y8⟩ := keep.out _ _ _ _ H2.out
   go_region_held3 (fun X => X.cell? ⟨W.heap.size, 0, none⟩ = some (ι Z1.o) ∧ X.cell? ⟨W.heap.size, 1, none⟩ = some (.string Z1.t) ∧ X.cell? ⟨W.heap.size, 2, none⟩ = some (ι Z1.k) ∧ X.cell? ⟨W.heap.size, 3, none⟩ = some (ι Z1.j) ∧ X.cell? ⟨W.heap.size, 4, none⟩ = some (.string Z1.s) ∧ X.cell? ⟨W.heap.size, 5, none⟩ = some (.slice Z1.A Z1.a Z1.u) ∧ X.cell? ⟨W.heap.size, 6, none⟩ = some (.slice Z1.B Z1.b Z1.v) ∧ X.cell? ⟨W.heap.size, 7, none⟩ = some (.slice Z1.C Z1.e Z1.w) ∧ X.cell? ⟨W.heap.size, 8, none⟩ = some (.slice Z1.D Z1.d Z1.x))
    (first
     | with_reducible exact keep.out _ _ _ _ H2.out.drew
     | with_reducible exact keep.out _ _ _ _ H3.out
     | with_reducible exact keep.out _ _ _ _ H4.out
     | with_reducible exact keep.out _ _ _ _ H5.out
     | with_reducible exact keep.out _ _ _ _ H6.out
     | exact box9 ((H6.out.pbox hg0).far9 (by omega) _ _ _ _ _ _ _ _ _))
    (first
     | (go_at_call 185; (refine (HNU.out _).mono ?_); rintro e w3 ⟨rfl, hb3⟩; have H3 := hI ((H2.out.drew.low hb3).leaf 7 ⟨#[]⟩ 0 0 ⟨#[]⟩ (by decide) (by decide)); clear hb3)
     | (go_at_call 186; (refine (HC.out _ H3.out.r.p).mono ?_); rintro e w4 hZ; obtain ⟨Z2, rfl, hg4, hp4, hl4⟩ := fr3 hZ; have H4 := hI (H3.out.call hg4 hp4 hl4); clear hg4 hp4 hl4; have H5 := hI (H4.out.node 5 ⟨#[]⟩ (by decide) (fs := [f, nullF, f2]) (row := #[ι Z1.o, .string Z1.t, ι Z1.k, ι Z1.j, .string Z1.s, .slice Z1.A Z1.a Z1.u, .slice Z1.B Z1.b Z1.v, .slice Z1.C Z1.e Z1.w, .slice Z1.D Z1.d Z1.x, ι 7, eS, ι 0, ι 0, eS, nL, nL, nL, nL, ι Z2.o, .string Z2.t, ι Z2.k, ι Z2.j, .string Z2.s, .slice Z2.A Z2.a Z2.u, .slice Z2.B Z2.b Z2.v, .slice Z2.C Z2.e Z2.w, .slice Z2.D Z2.d Z2.x]) rfl (by simp) (LiesFL.append (LiesFL.one (H4.out.t (f, Z1.l) (by first | exact mC | simp [nullF, litF, vz]))) (LiesFL.append (LiesFL.one (H4.out.t (nullF, [ι 7, eS, ι 0, ι 0, eS, nL, nL, nL, nL]) (by first | exact mC | simp [nullF, litF, vz]))) (LiesFL.one (H4.out.t (f2, Z2.l) (by first | exact mC | simp [nullF, litF, vz]))))) rfl))
     | (go_at_call 77; (refine (HNO.out _ _).mono ?_); rintro e w6 ⟨rfl, hb6⟩; have H6 := hI (H5.out.low hb6); clear hb6; have x0 := H6.out.r.cells; rw [SZ1.out] at x0; have hltr6 := H6.out.lt; rw [SZ1.out] at hltr6))
   go_wp2_with fail;refine post9 Tryz.results176 rfl rfl ((SZ1.out ▸ H6.out.r.r.put9z _ _ _ _ _ _ _ _ _)) ?_;exact RetU.base (SZ1.out ▸ H6.out.close (by first | exact mC | simp))
  | false =>
   rw [if_neg (by decide)] at hm;obtain ⟨f2, σ1, h1, hm⟩ := bnd_some hm;have HC := hI (fun W h => hA .filter W _ f2 σ1 h h1);obtain ⟨b, hb⟩ : ∃ b, sees L (⟨#[58]⟩ : ByteArray) σ1 = b := ⟨_, rfl⟩
   rw [hb] at hm;have HT3 := hI (fun W (h : PAt L gt C g W (σ1)) => take_any hL (⟨#[58]⟩ : ByteArray) b hb h);clear hb h1
   cases b with
   | false =>
    rw [if_neg (by decide)] at hm;injection hm with hm
    injection hm with h3 h4
    subst h3; subst h4;have HN := hI (fun W (h : PAt L gt C g W σ1) => need_any hL (⟨#[93]⟩ : ByteArray) h);have HNO := hI (fun A W => node_any 4 A 2 2 W);clear hA
    go_enter Tryz.func176, Tryz.ntmps176
    go_wp2_with fail;refine (HT1.out _ H0.out.r.p).mono ?_;rintro e w1 ⟨rfl, hg1, hp1⟩;have H1 := hI (H0.out.next hg1 hp1);clear hg1 hp1;go_wp2_with fail;refine (HT2.out _ H1.out.r.p).mono ?_;rintro e w2 ⟨rfl, hg2, hp2⟩;have H2 := hI (H1.out.next hg2 hp2);clear hg2 hp2;go_wp2_with fail;refine (HC.out _ H2.out.r.p).mono ?_;rintro e w3 hZ;obtain ⟨Z2, rfl, hg3, hp3, hl3⟩ := fr3 hZ;have H3 := hI ((H2.out.call hg3 hp3 hl3).box Z2.c);clear hg3 hp3 hl3;go_wp2_with fail;refine (HT3.out _ H3.out.r.p).mono ?_;rintro e w4 ⟨rfl, hg4, hp4⟩;have H4 := hI (H3.out.next hg4 hp4);clear hg4 hp4;go_wp2_with fail;refine (HN.out _ H4.out.r.p).mono ?_;rintro e w5 ⟨rfl, hg5, hp5⟩;have H5 := hI (H4.out.next hg5 hp5);clear hg5 hp5;obtain ⟨y0, y1, y2, y3, y4, y5, y6, y7, y8⟩ := keep.out _ _ _ _ H5.out;have v0 := box9 (H5.out.bx (q := w3.heap.size) (c := Z2.c) (by simp));go_wp2_with fail;have H6 := hI (H5.out.node 4 ⟨#[]⟩ (by decide) (fs := [f, f2]) (row := (Z1.cc Z2)) rfl (by simp) (LiesFL.append (LiesFL.one (H5.out.t (f, Z1.l) (by first | exact mC | simp [nullF, litF, vz]))) (LiesFL.one (H5.out.t (f2, Z2.l) (by first | exact mC | simp [nullF, litF, vz])))) rfl);refine (HNO.out _ _).mono ?_;rintro e w7 ⟨rfl, hb7⟩;have H7 := hI (H6.out.low hb7);clear hb7;have x0 := H7.out.r.cells;rw [SZ1.out] at x0;have hltr7 := H7.out.lt;rw [SZ1.out] at hltr7;go_wp2_with fail;refine post9 Tryz.results176 rfl rfl ((SZ1.out ▸ H7.out.r.r.put9z _ _ _ _ _ _ _ _ _)) ?_;exact RetU.base (SZ1.out ▸ H7.out.close (by first | exact mC | simp))
   | true =>
    rw [if_pos rfl] at hm;obtain ⟨b, hb⟩ : ∃ b, sees L (⟨#[93]⟩ : ByteArray) (adv σ1) = b := ⟨_, rfl⟩
    rw [hb] at hm;have HT4 := hI (fun W (h : PAt L gt C g W ((adv σ1))) => take_any hL (⟨#[93]⟩ : ByteArray) b hb h);clear hb
    cases b with
    | true =>
     rw [if_pos rfl] at hm;injection hm with hm
     injection hm with h3 h4
     subst h3; subst h4;have HNU := hI (fun W => null_any W);have HNO := hI (fun A W => node_any 5 A 3 3 W);clear hA
     go_enter Tryz.func176, Tryz.ntmps176
     go_wp2_with fail;refine (HT1.out _ H0.out.r.p).mono ?_;rintro e w1 ⟨rfl, hg1, hp1⟩;have H1 := hI (H0.out.next hg1 hp1);clear hg1 hp1;go_wp2_with fail;refine (HT2.out _ H1.out.r.p).mono ?_;rintro e w2 ⟨rfl, hg2, hp2⟩;have H2 := hI (H1.out.next hg2 hp2);clear hg2 hp2;go_wp2_with fail;refine (HC.out _ H2.out.r.p).mono ?_;rintro e w3 hZ;obtain ⟨Z2, rfl, hg3, hp3, hl3⟩ := fr3 hZ;have H3 := hI ((H2.out.call hg3 hp3 hl3).box Z2.c);clear hg3 hp3 hl3;go_wp2_with fail;refine (HT3.out _ H3.out.r.p).mono ?_;rintro e w4 ⟨rfl, hg4, hp4⟩;have H4 := hI (H3.out.next hg4 hp4);clear hg4 hp4;go_wp2_with fail;refine (HT4.out _ H4.out.r.p).mono ?_;rintro e w5 ⟨rfl, hg5, hp5⟩;have H5 := hI (H4.out.next hg5 hp5);clear hg5 hp5;go_upto_region 10 with (fail)
     generalize w3.heap.size = qq at H5 ⊢;have keep2 : Hid (∀ X σ ts, St S L gt C g (W.alloc (.cells Z1.c 29)) X σ [(qq, Z2.c)] ts → X.cell? ⟨W.heap.size, 0, none⟩ = some (ι Z1.o) ∧ X.cell? ⟨W.heap.size, 1, none⟩ = some (.string Z1.t) ∧ X.cell? ⟨W.heap.size, 2, none⟩ = some (ι Z1.k) ∧ X.cell? ⟨W.heap.size, 3, none⟩ = some (ι Z1.j) ∧ X.cell? ⟨W.heap.size, 4, none⟩ = some (.string Z1.s) ∧ X.cell? ⟨W.heap.size, 5, none⟩ = some (.slice Z1.A Z1.a Z1.u) ∧ X.cell? ⟨W.heap.size, 6, none⟩ = some (.slice Z1.B Z1.b Z1.v) ∧ X.cell? ⟨W.heap.size, 7, none⟩ = some (.slice Z1.C Z1.e Z1.w) ∧ X.cell? ⟨W.heap.size, 8, none⟩ = some (.slice Z1.D Z1.d Z1.x) ∧ X.cell? ⟨qq, 0, none⟩ = some (ι Z2.o) ∧ X.cell? ⟨qq, 1, none⟩ = some (.string Z2.t) ∧ X.cell? ⟨qq, 2, none⟩ = some (ι Z2.k) ∧ X.cell? ⟨qq, 3, none⟩ = some (ι Z2.j) ∧ X.cell? ⟨qq, 4, none⟩ = some (.string Z2.s) ∧ X.cell? ⟨qq, 5, none⟩ = some (.slice Z2.A Z2.a Z2.u) ∧ X.cell? ⟨qq, 6, none⟩ = some (.slice Z2.B Z2.b Z2.v) ∧ X.cell? ⟨qq, 7, none⟩ = some (.slice Z2.C Z2.e Z2.w) ∧ X.cell? ⟨qq, 8, none⟩ = some (.slice Z2.D Z2.d Z2.x)) := hI fun X σ ts hX => by
      obtain ⟨a0, a1, a2, a3, a4, a5, a6, a7, a8⟩ := keep.out _ _ _ _ hX;obtain ⟨b0, b1, b2, b3, b4, b5, b6, b7, b8⟩ := box9 (hX.bx (q := qq) (c := Z2.c) (by simp));exact ⟨a0, a1, a2, a3, a4, a5, a6, a7, a8, b0, b1, b2, b3, b4, b5, b6, b7, b8⟩
     obtain ⟨a0, a1, a2, a3, a4, a5, a6, a7, a8, b0, b1, b2, b3, b4, b5, b6, b7, b8⟩ := keep2.out _ _ _ H5.out
     go_region_held3 (fun X => X.cell? ⟨W.heap.size, 0, none⟩ = some (ι Z1.o) ∧ X.cell? ⟨W.heap.size, 1, none⟩ = some (.string Z1.t) ∧ X.cell? ⟨W.heap.size, 2, none⟩ = some (ι Z1.k) ∧ X.cell? ⟨W.heap.size, 3, none⟩ = some (ι Z1.j) ∧ X.cell? ⟨W.heap.size, 4, none⟩ = some (.string Z1.s) ∧ X.cell? ⟨W.heap.size, 5, none⟩ = some (.slice Z1.A Z1.a Z1.u) ∧ X.cell? ⟨W.heap.size, 6, none⟩ = some (.slice Z1.B Z1.b Z1.v) ∧ X.cell? ⟨W.heap.size, 7, none⟩ = some (.slice Z1.C Z1.e Z1.w) ∧ X.cell? ⟨W.heap.size, 8, none⟩ = some (.slice Z1.D Z1.d Z1.x) ∧ X.cell? ⟨qq, 0, none⟩ = some (ι Z2.o) ∧ X.cell? ⟨qq, 1, none⟩ = some (.string Z2.t) ∧ X.cell? ⟨qq, 2, none⟩ = some (ι Z2.k) ∧ X.cell? ⟨qq, 3, none⟩ = some (ι Z2.j) ∧ X.cell? ⟨qq, 4, none⟩ = some (.string Z2.s) ∧ X.cell? ⟨qq, 5, none⟩ = some (.slice Z2.A Z2.a Z2.u) ∧ X.cell? ⟨qq, 6, none⟩ = some (.slice Z2.B Z2.b Z2.v) ∧ X.cell? ⟨qq, 7, none⟩ = some (.slice Z2.C Z2.e Z2.w) ∧ X.cell? ⟨qq, 8, none⟩ = some (.slice Z2.D Z2.d Z2.x))
      (first
       | with_reducible exact keep2.out _ _ _ H5.out.drew
       | with_reducible exact keep2.out _ _ _ H6.out
       | with_reducible exact keep2.out _ _ _ H7.out
       | with_reducible exact keep2.out _ _ _ H8.out
       | (obtain ⟨a0, a1, a2, a3, a4, a5, a6, a7, a8⟩ := box9 ((H8.out.pbox hg0).far9 (r := W.heap.size + 1) (by omega) _ _ _ _ _ _ _ _ _); obtain ⟨b0, b1, b2, b3, b4, b5, b6, b7, b8⟩ := box9 ((H8.out.bx (q := qq) (c := Z2.c) (by simp)).far9 (r := W.heap.size + 1) (by have := (H8.out.b (qq, Z2.c) (by simp)).1; dsimp only at this; rw [SZ1.out] at this; omega) _ _ _ _ _ _ _ _ _); exact ⟨a0, a1, a2, a3, a4, a5, a6, a7, a8, b0, b1, b2, b3, b4, b5, b6, b7, b8⟩))
      (first
       | (go_at_call 185; (refine (HNU.out _).mono ?_); rintro e w6 ⟨rfl, hb6⟩; have H6 := hI ((H5.out.drew.low hb6).leaf 7 ⟨#[]⟩ 0 0 ⟨#[]⟩ (by decide) (by decide)); clear hb6; have H7 := hI (H6.out.node 5 ⟨#[]⟩ (by decide) (fs := [f, f2, nullF]) (row := #[ι Z1.o, .string Z1.t, ι Z1.k, ι Z1.j, .string Z1.s, .slice Z1.A Z1.a Z1.u, .slice Z1.B Z1.b Z1.v, .slice Z1.C Z1.e Z1.w, .slice Z1.D Z1.d Z1.x, ι Z2.o, .string Z2.t, ι Z2.k, ι Z2.j, .string Z2.s, .slice Z2.A Z2.a Z2.u, .slice Z2.B Z2.b Z2.v, .slice Z2.C Z2.e Z2.w, .slice Z2.D Z2.d Z2.x, ι 7, eS, ι 0, ι 0, eS, nL, nL, nL, nL]) rfl (by simp) (LiesFL.append (LiesFL.one (H6.out.t (f, Z1.l) (by first | exact mC | simp [nullF, litF, vz]))) (LiesFL.append (LiesFL.one (H6.out.t (f2, Z2.l) (by first | exact mC | simp [nullF, litF, vz]))) (LiesFL.one (H6.out.t (nullF, [ι 7, eS, ι 0, ι 0, eS, nL, nL, nL, nL]) (by first | exact mC | simp [nullF, litF, vz]))))) rfl))
       | (go_at_call 77; (refine (HNO.out _ _).mono ?_); rintro e w8 ⟨rfl, hb8⟩; have H8 := hI (H7.out.low hb8); clear hb8; have x0 := H8.out.r.cells; rw [SZ1.out] at x0; have hltr8 := H8.out.lt; rw [SZ1.out] at hltr8))
     go_wp2_with fail;refine post9 Tryz.results176 rfl rfl ((SZ1.out ▸ H8.out.r.r.put9z _ _ _ _ _ _ _ _ _)) ?_;exact RetU.base (SZ1.out ▸ H8.out.close (by first | exact mC | simp))
    | false =>
     rw [if_neg (by decide)] at hm;obtain ⟨f3, σ2, h1, h2⟩ := bnd_some hm;injection h2 with h2
     injection h2 with h3 h4
     subst h3; subst h4;have HC2 := hI (fun W (h : PAt L gt C g W (adv σ1)) => before_any hL hA (⟨#[93]⟩ : ByteArray) W _ σ2 f3 h h1);have HNO := hI (fun A W => node_any 5 A 3 3 W);clear hA hm h1
     go_enter Tryz.func176, Tryz.ntmps176
     go_wp2_with fail;refine (HT1.out _ H0.out.r.p).mono ?_;rintro e w1 ⟨rfl, hg1, hp1⟩;have H1 := hI (H0.out.next hg1 hp1);clear hg1 hp1;go_wp2_with fail;refine (HT2.out _ H1.out.r.p).mono ?_;rintro e w2 ⟨rfl, hg2, hp2⟩;have H2 := hI (H1.out.next hg2 hp2);clear hg2 hp2;go_wp2_with fail;refine (HC.out _ H2.out.r.p).mono ?_;rintro e w3 hZ;obtain ⟨Z2, rfl, hg3, hp3, hl3⟩ := fr3 hZ;have H3 := hI ((H2.out.call hg3 hp3 hl3).box Z2.c);clear hg3 hp3 hl3;go_wp2_with fail;refine (HT3.out _ H3.out.r.p).mono ?_;rintro e w4 ⟨rfl, hg4, hp4⟩;have H4 := hI (H3.out.next hg4 hp4);clear hg4 hp4;go_wp2_with fail;refine (HT4.out _ H4.out.r.p).mono ?_;rintro e w5 ⟨rfl, hg5, hp5⟩;have H5 := hI (H4.out.next hg5 hp5);clear hg5 hp5;go_upto_region 11 with (fail)
     generalize w3.heap.size = qq at H5 ⊢;have keep2 : Hid (∀ X σ ts, St S L gt C g (W.alloc (.cells Z1.c 29)) X σ [(qq, Z2.c)] ts → X.cell? ⟨W.heap.size, 0, none⟩ = some (ι Z1.o) ∧ X.cell? ⟨W.heap.size, 1, none⟩ = some (.string Z1.t) ∧ X.cell? ⟨W.heap.size, 2, none⟩ = some (ι Z1.k) ∧ X.cell? ⟨W.heap.size, 3, none⟩ = some (ι Z1.j) ∧ X.cell? ⟨W.heap.size, 4, none⟩ = some (.string Z1.s) ∧ X.cell? ⟨W.heap.size, 5, none⟩ = some (.slice Z1.A Z1.a Z1.u) ∧ X.cell? ⟨W.heap.size, 6, none⟩ = some (.slice Z1.B Z1.b Z1.v) ∧ X.cell? ⟨W.heap.size, 7, none⟩ = some (.slice Z1.C Z1.e Z1.w) ∧ X.cell? ⟨W.heap.size, 8, none⟩ = some (.slice Z1.D Z1.d Z1.x) ∧ X.cell? ⟨qq, 0, none⟩ = some (ι Z2.o) ∧ X.cell? ⟨qq, 1, none⟩ = some (.string Z2.t) ∧ X.cell? ⟨qq, 2, none⟩ = some (ι Z2.k) ∧ X.cell? ⟨qq, 3, none⟩ = some (ι Z2.j) ∧ X.cell? ⟨qq, 4, none⟩ = some (.string Z2.s) ∧ X.cell? ⟨qq, 5, none⟩ = some (.slice Z2.A Z2.a Z2.u) ∧ X.cell? ⟨qq, 6, none⟩ = some (.slice Z2.B Z2.b Z2.v) ∧ X.cell? ⟨qq, 7, none⟩ = some (.slice Z2.C Z2.e Z2.w) ∧ X.cell? ⟨qq, 8, none⟩ = some (.slice Z2.D Z2.d Z2.x)) := hI fun X σ ts hX => by
      obtain ⟨a0, a1, a2, a3, a4, a5, a6, a7, a8⟩ := keep.out _ _ _ _ hX;obtain ⟨b0, b1, b2, b3, b4, b5, b6, b7, b8⟩ := box9 (hX.bx (q := qq) (c := Z2.c) (by simp));exact ⟨a0, a1, a2, a3, a4, a5, a6, a7, a8, b0, b1, b2, b3, b4, b5, b6, b7, b8⟩
     obtain ⟨a0, a1, a2, a3, a4, a5, a6, a7, a8, b0, b1, b2, b3, b4, b5, b6, b7, b8⟩ := keep2.out _ _ _ H5.out
     go_region_held3 (fun X => X.cell? ⟨W.heap.size, 0, none⟩ = some (ι Z1.o) ∧ X.cell? ⟨W.heap.size, 1, none⟩ = some (.string Z1.t) ∧ X.cell? ⟨W.heap.size, 2, none⟩ = some (ι Z1.k) ∧ X.cell? ⟨W.heap.size, 3, none⟩ = some (ι Z1.j) ∧ X.cell? ⟨W.heap.size, 4, none⟩ = some (.string Z1.s) ∧ X.cell? ⟨W.heap.size, 5, none⟩ = some (.slice Z1.A Z1.a Z1.u) ∧ X.cell? ⟨W.heap.size, 6, none⟩ = some (.slice Z1.B Z1.b Z1.v) ∧ X.cell? ⟨W.heap.size, 7, none⟩ = some (.slice Z1.C Z1.e Z1.w) ∧ X.cell? ⟨W.heap.size, 8, none⟩ = some (.slice Z1.D Z1.d Z1.x) ∧ X.cell? ⟨qq, 0, none⟩ = some (ι Z2.o) ∧ X.cell? ⟨qq, 1, none⟩ = some (.string Z2.t) ∧ X.cell? ⟨qq, 2, none⟩ = some (ι Z2.k) ∧ X.cell? ⟨qq, 3, none⟩ = some (ι Z2.j) ∧ X.cell? ⟨qq, 4, none⟩ = some (.string Z2.s) ∧ X.cell? ⟨qq, 5, none⟩ = some (.slice Z2.A Z2.a Z2.u) ∧ X.cell? ⟨qq, 6, none⟩ = some (.slice Z2.B Z2.b Z2.v) ∧ X.cell? ⟨qq, 7, none⟩ = some (.slice Z2.C Z2.e Z2.w) ∧ X.cell? ⟨qq, 8, none⟩ = some (.slice Z2.D Z2.d Z2.x))
      (first
       | with_reducible exact keep2.out _ _ _ H5.out.drew
       | with_reducible exact keep2.out _ _ _ H6.out
       | with_reducible exact keep2.out _ _ _ H7.out
       | with_reducible exact keep2.out _ _ _ H8.out
       | (obtain ⟨a0, a1, a2, a3, a4, a5, a6, a7, a8⟩ := box9 ((H8.out.pbox hg0).far9 (r := W.heap.size + 1) (by omega) _ _ _ _ _ _ _ _ _); obtain ⟨b0, b1, b2, b3, b4, b5, b6, b7, b8⟩ := box9 ((H8.out.bx (q := qq) (c := Z2.c) (by simp)).far9 (r := W.heap.size + 1) (by have := (H8.out.b (qq, Z2.c) (by simp)).1; dsimp only at this; rw [SZ1.out] at this; omega) _ _ _ _ _ _ _ _ _); exact ⟨a0, a1, a2, a3, a4, a5, a6, a7, a8, b0, b1, b2, b3, b4, b5, b6, b7, b8⟩))
      (first
       | (go_at_call 186; (refine (HC2.out _ H5.out.drew.r.p).mono ?_); rintro e w6 hZ; obtain ⟨Z3, rfl, hg6, hp6, hl6⟩ := fr3 hZ; have H6 := hI (H5.out.drew.call hg6 hp6 hl6); clear hg6 hp6 hl6; have H7 := hI (H6.out.node 5 ⟨#[]⟩ (by decide) (fs := [f, f2, f3]) (row := #[ι Z1.o, .string Z1.t, ι Z1.k, ι Z1.j, .string Z1.s, .slice Z1.A Z1.a Z1.u, .slice Z1.B Z1.b Z1.v, .slice Z1.C Z1.e Z1.w, .slice Z1.D Z1.d Z1.x, ι Z2.o, .string Z2.t, ι Z2.k, ι Z2.j, .string Z2.s, .slice Z2.A Z2.a Z2.u, .slice Z2.B Z2.b Z2.v, .slice Z2.C Z2.e Z2.w, .slice Z2.D Z2.d Z2.x, ι Z3.o, .string Z3.t, ι Z3.k, ι Z3.j, .string Z3.s, .slice Z3.A Z3.a Z3.u, .slice Z3.B Z3.b Z3.v, .slice Z3.C Z3.e Z3.w, .slice Z3.D Z3.d Z3.x]) rfl (by simp) (LiesFL.append (LiesFL.one (H6.out.t (f, Z1.l) (by first | exact mC | simp [nullF, litF, vz]))) (LiesFL.append (LiesFL.one (H6.out.t (f2, Z2.l) (by first | exact mC | simp [nullF, litF, vz]))) (LiesFL.one (H6.out.t (f3, Z3.l) (by first | exact mC | simp [nullF, litF, vz]))))) rfl))
       | (go_at_call 77; (refine (HNO.out _ _).mono ?_); rintro e w8 ⟨rfl, hb8⟩; have H8 := hI (H7.out.low hb8); clear hb8; have x0 := H8.out.r.cells; rw [SZ1.out] at x0; have hltr8 := H8.out.lt; rw [SZ1.out] at hltr8))
     go_wp2_with fail;refine post9 Tryz.results176 rfl rfl ((SZ1.out ▸ H8.out.r.r.put9z _ _ _ _ _ _ _ _ _)) ?_;exact RetU.base (SZ1.out ▸ H8.out.close (by first | exact mC | simp))

import Derived.Test.YtoleoimmpggldaaGreatDoorYh
import Derived.Test.YtoleoimmpggldaaGreatDoorYb
set_option linter.unusedVariables false
set_option linter.unusedSectionVars false
set_option linter.unusedSimpArgs false
set_option maxHeartbeats 10000000
set_option maxRecDepth 100000
namespace Go.Proofs.YtoleoimmpggldaaGreatDoor
open Go.RowKit
structure ObSt (L : List Fk) (gt C g : Nat) (w0 w : World) (σ : PS) (q : Nat) (l : List Ft) (A : Option Addr) (n c : Nat) : Prop where
 s : RSt L gt C g w0 w σ
 hn : l.length = n
 hq : q = w0.heap.size + 1
 bx : Box w q 29 #[ι 10, eS, ι 0, ι 0, eS, nL, nL, nL, .slice A n c]
 row : ∃ xs, w.ownsRow (w0.heap.size + 2) 29 9 (.slice A n c) n xs ∧ LiesFL w (fun b => w0.heap.size < b ∧ b < w.heap.size ∧ ¬ b = q ∧ (Value.slice A n c).ownBlock ≠ some b) l xs
section
variable {L : List Fk} {gt C g : Nat} {w w' w0 : World} {σ τ : PS} {q : Nat} {l : List Ft} {A : Option Addr} {n c : Nat}
theorem ObSt.next (h : ObSt L gt C g w0 w σ q l A n c) (hg : Gr g w w') (hp : PAt L gt C g w' τ) : ObSt L gt C g w0 w' τ q l A n c := by
 obtain ⟨xs, h1, h2⟩ := h.row;have hge := ownBlock_ge h1;have hg0 := h.s.g0;have hq := h.hq;refine ⟨h.s.next hg hp, h.hn, h.hq, h.bx.grown hg (by intro e; injection e with e; omega), xs, h1.kept hg ?_, LiesFL.move h2 fun b hb => ⟨⟨hb.1, nT hb.2.1 hg.size, hb.2.2⟩, hg.block hb.2.1 (by have := hb.1; omega)⟩⟩
 cases hv : (Value.slice A n c).ownBlock with
 | none => exact .inl rfl
 | some b => exact .inr (by intro e; injection e with e; have := (hge b hv).1; omega)
theorem ObSt.low (h : ObSt L gt C g w0 w σ q l A n c) (hb : Below w.heap.size w w') : ObSt L gt C g w0 w' σ q l A n c := h.next (Gr.below hb) (h.s.p.next hb)
theorem ObSt.alloc (h : ObSt L gt C g w0 w σ q l A n c) (o : Obj) : ObSt L gt C g w0 (w.alloc o) σ q l A n c := h.low ((Below.refl _ _).alloc (Nat.le_refl _) o)
theorem ObSt.append (h : ObSt L gt C g w0 w σ q l A n c) {f u : Ft} {cs ds : List Value} {row : Array Value} (hr : row.toList = cs ++ ds) (hf : LiesF w (fun b => w0.heap.size < b ∧ b < w.heap.size ∧ ¬ b = q ∧ (Value.slice A n c).ownBlock ≠ some b) f cs) (hu : LiesF w (fun b => w0.heap.size < b ∧ b < w.heap.size ∧ ¬ b = q ∧ (Value.slice A n c).ownBlock ≠ some b) u ds) {xs : List Value} (hx : w.ownsRow (w0.heap.size + 2) 29 9 (.slice A n c) n xs) (hlx : LiesFL w (fun b => w0.heap.size < b ∧ b < w.heap.size ∧ ¬ b = q ∧ (Value.slice A n c).ownBlock ≠ some b) l xs)
 {g2 c2 : Nat} (ho : w'.ownsRow (w0.heap.size + 2) 29 9 (.slice (some ⟨g2, 0, none⟩) (n + 2) c2) (n + 2) (xs ++ row.toList)) (hg : (w.alloc (.cells row 29)).grownBy w' (Value.slice A n c).ownBlock) (hor : (Value.slice A n c).ownBlock = some g2 ∨ g2 = (w.alloc (.cells row 29)).heap.size) :
 ObSt L gt C g w0 (w'.setCell ⟨q, 8, none⟩ (.slice (some ⟨g2, 0, none⟩) (n + 2) c2)) σ q (l ++ [f, u]) (some ⟨g2, 0, none⟩) (n + 2) c2 := by
 have hge := ownBlock_ge hx;have hq := h.hq;have hg0 := h.s.g0;have hgt0 := h.s.gt0;have hlt := h.s.lt;have hqlt := h.bx.lt;have hn1 : ∀ b, b < w0.heap.size + 2 → (Value.slice A n c).ownBlock ≠ some b := fun b hb e => by have := (hge _ e).1; omega
 have hsz : w.heap.size + 1 ≤ w'.heap.size := by have := hg.size; simpa using this
 have hblk : ∀ b, b < w.heap.size → (Value.slice A n c).ownBlock ≠ some b → w'.heap[b]? = w.heap[b]? := fun b hb hne => (hg.block b (by simp; omega) (fun e => hne e.symm)).trans (Below.heap_alloc _ _ _ hb)
 have hg2 : w0.heap.size + 2 ≤ g2 := by rcases hor with h3 | h3; exact (hge _ h3).1; simp at h3; omega
 have hS : ∀ b, (w0.heap.size < b ∧ b < w.heap.size ∧ ¬ b = q ∧ (Value.slice A n c).ownBlock ≠ some b) → (w0.heap.size < b ∧ b < (w'.setCell ⟨q, 8, none⟩ (.slice (some ⟨g2, 0, none⟩) (n + 2) c2)).heap.size ∧ ¬ b = q ∧ (Value.slice (some ⟨g2, 0, none⟩) (n + 2) c2).ownBlock ≠ some b) ∧ (w'.setCell ⟨q, 8, none⟩ (.slice (some ⟨g2, 0, none⟩) (n + 2) c2)).heap[b]? = w.heap[b]? := by
  intro b hb;refine ⟨⟨hb.1, by simp [World.setCell]; omega, hb.2.2.1, ?_⟩, (Below.heap_setCell _ _ _ _ hb.2.2.1).trans (hblk b hb.2.1 hb.2.2.2)⟩;intro e;simp only [Value.ownBlock, Option.some.injEq] at e;subst e;rcases hor with h3 | h3
  · exact hb.2.2.2 h3
  · have := hb.2.1; simp at h3; omega
 have hbx : Box w' q 29 #[ι 10, eS, ι 0, ι 0, eS, nL, nL, nL, .slice A n c] := (hblk q hqlt (hn1 q (by omega))).trans h.bx;have hput := hbx.put 8 (.slice (some ⟨g2, 0, none⟩) (n + 2) c2);have hp : PAt L gt C g w' σ := (h.s.p.alloc _).grown hg (hn1 _ (by omega)) (hn1 _ (by omega));refine ⟨⟨hp.far (by omega) (by omega) 8 _, ⟨?_, ?_, ?_, by simp [World.setCell]; omega, ?_⟩, Box.far (p := ⟨q, 8, none⟩) ((hblk _ hlt (hn1 _ (by omega))).trans h.s.r) (by show _ ≠ q; omega) _, hg0, hgt0⟩, by rw [List.length_append, h.hn]; rfl, hq, hput, xs ++ row.toList, ?_, ?_⟩
 · exact hg.os.trans h.s.gr.os
 · exact hg.tape.trans h.s.gr.tape
 · exact hg.output.trans h.s.gr.output
 · intro b hb hne;rw [Below.heap_setCell _ _ _ _ (by show b ≠ q; omega)];exact (hblk b (by omega) (hn1 b (by omega))).trans (World.grownBy.block h.s.gr b hb hne)
 · exact ho.kept (grown_set w' q 8 _) (.inr (by simp only [Value.ownBlock]; intro e; injection e with e; omega))
 · rw [hr];exact LiesFL.append (LiesFL.move hlx hS) (LiesFL.append (LiesFL.one (LiesF.move hf hS)) (LiesFL.one (LiesF.move hu hS)))
theorem ObSt.tree (h : ObSt L gt C g w0 w σ q l A n c) (hn : n ≤ 1000000) : TreeAt w0 w (nodeF 10 l) [ι 10, eS, ι 0, ι 0, eS, nL, nL, nL, .slice A n c] := by
 obtain ⟨xs, h1, h2⟩ := h.row;obtain ⟨A', c', he, a1, a2, a3, a4, a5, a6⟩ := own_open h1;simp only [Value.slice.injEq, true_and] at he;obtain ⟨rfl, rfl⟩ := he;exact liesF_node 10 ⟨#[]⟩ (by decide) h.hn a3 a1 a2 (by omega) (a6.move fun b hb => ⟨⟨by have := hb.1; omega, hb.2⟩, rfl⟩) (LiesFL.move h2 fun b hb => ⟨⟨hb.1, hb.2.1⟩, rfl⟩)
end
def ObHead (L : List Fk) (call : Ru → PM) (gt C g : Nat) (w0 : World) (q N : Nat) (t : Ft) (τ : PS) (gg : Nat) (s4 : Value) (wr : World) : Prop :=
 ∃ (m n c : Nat) (A : Option Addr) (l : List Ft) (σ : PS) (b : Bool), s4 = .bool b ∧ m ≤ gg ∧ n + 2 * m ≤ N ∧ ObSt L gt C g w0 wr σ q l A n c ∧ (if b = true then objL L call m l σ = some (t, τ) else (t = nodeF 10 l ∧ τ = needP L (⟨#[125]⟩ : ByteArray) σ))
theorem one18 {xs ys : List Value} (h : ∀ u ∈ xs, u.oneCell' = true) (k : ∀ u ∈ ys, u.oneCell' = true) : ∀ u ∈ xs ++ ys, u.oneCell' = true := fun u hu => (List.mem_append.1 hu).elim (h u) (k u)
theorem object_any {L : List Fk} (hL : TokL L) {gt C g : Nat} {call : Ru → PM} (n : Nat) (hn : n ≤ 400000) (hA : OkA L gt C g call) (W : World) (σ τ : PS) (t : Ft) (hP : PAt L gt C g W σ) (hm : objectM L call n σ = some (t, τ)) :
 Calls Tryz.prog 188 #[.pointer (some ⟨g, 0, none⟩)] W (RetF L gt C g W t τ) := by
 have hsz0 : (W.alloc (.cells z9 29)).heap.size = W.heap.size + 1 := by simp
 have H0 := hI ((St.begin hP).box #[ι 10, eS, ι 0, ι 0, eS, nL, nL, nL, nL]);rw [hsz0] at H0;have hB0 : Box ((W.alloc (.cells z9 29)).alloc (.cells #[ι 10, eS, ι 0, ι 0, eS, nL, nL, nL, nL] 29)) (W.heap.size + 1) 29 #[ι 10, eS, ι 0, ι 0, eS, nL, nL, nL, nL] := Box.laidAt _ _ _ hsz0;have HB0 := hI hB0;unfold objectM at hm;obtain ⟨b, hb⟩ : ∃ b, sees L (⟨#[125]⟩ : ByteArray) σ = b := ⟨_, rfl⟩
 rw [hb] at hm;have HT := hI (fun W (h : PAt L gt C g W σ) => take_any hL (⟨#[125]⟩ : ByteArray) b hb h);clear hP hb hsz0 hB0
 cases b with
 | true =>
  rw [if_pos rfl] at hm;injection hm with hm
  injection hm with h3 h4
  subst h3; subst h4;clear hA hn
  go_enter Tryz.func188, Tryz.ntmps188
  go_wp2_with fail;refine (HT.out _ H0.out.r.p).mono ?_;rintro e w1 ⟨rfl, hg1, hp1⟩;have H1 := hI (H0.out.next hg1 hp1);clear hg1 hp1;have H2 := hI (H1.out.leaf 10 ⟨#[]⟩ 0 0 ⟨#[]⟩ (by decide) (by decide));have y0 := box9 (H2.out.bx (q := W.heap.size + 1) (c := #[ι 10, eS, ι 0, ι 0, eS, nL, nL, nL, nL]) (by simp));have x0 := H2.out.r.cells;go_wp2_with fail;refine post9 Tryz.results188 rfl rfl (H2.out.r.r.put9z _ _ _ _ _ _ _ _ _) ?_;exact retF_of (H2.out.close (by first | exact mC | simp))
 | false =>
  rw [if_neg (by decide)] at hm;obtain ⟨i0, hi, hz0, hz1, hz2⟩ := infoF inf_fi;have HE := hI (fun W σ τ t u (h : PAt L gt C g W σ) hm => entry_any hL hA W σ τ t u h hm);have HT2 := hI (fun W σ b hb (h : PAt L gt C g W σ) => take_any hL (⟨#[44]⟩ : ByteArray) b hb h);have HN := hI (fun W σ (h : PAt L gt C g W σ) => need_any hL (⟨#[125]⟩ : ByteArray) h);have HM := hI hm;clear hA hm
  go_enter Tryz.func188, Tryz.ntmps188
  go_wp2_with fail;refine (HT.out _ H0.out.r.p).mono ?_;rintro e w1 ⟨rfl, hg1, hp1⟩;have H1 := hI (H0.out.next hg1 hp1);clear hg1 hp1;have HO : Hid (ObHead L call gt C g W (W.heap.size + 1) (2 * n) t τ n (.bool true) w1) := hI ⟨n, 0, 0, none, [], σ, true, rfl, Nat.le_refl _, by omega, ⟨H1.out.r, rfl, rfl, H1.out.bx (by simp), [], World.ownsRow_nil _ _ _ _, LiesFL.nil _ _⟩, HM.out⟩;clear HM H0 HB0;go_wp2_with fail
  go_loopg [4] n (fun gg s4 wr => Hid (ObHead L call gt C g W (W.heap.size + 1) (2 * n) t τ gg s4 wr))
  case atStart => exact HO
  case round =>
   clear HO H1;obtain ⟨m, nl, c, A, l, σk, b, rfl, hmg, hnl, HS, hc⟩ := hrel.out;clear hrel;have HS := hI HS;have hltq := HS.out.bx.lt;have hltr := HS.out.s.lt
   cases b with
   | false =>
    rw [if_neg (by decide)] at hc;obtain ⟨h3, h4⟩ := hc;subst h3; subst h4;go_wp2_with fail
    (try simp only [Exit.inBlock, Exit.then])
    go_wp2_with fail;refine (HN.out _ _ HS.out.s.p).mono ?_;rintro e w2 ⟨rfl, hg2, hp2⟩;have H2 := hI (HS.out.next hg2 hp2);have y0 := box9 H2.out.bx;have x0 := H2.out.s.cells;clear hg2 hp2;go_wp2_with fail;refine post9 Tryz.results188 rfl rfl (H2.out.s.r.put9z _ _ _ _ _ _ _ _ _) ?_;exact H2.out.s.close (H2.out.tree (by omega))
   | true =>
    rw [if_pos rfl] at hc;obtain ⟨m2, hm2⟩ : ∃ m2, m = m2 + 1 := by
     cases m with
     | zero => exact absurd hc (by simp [objL])
     | succ m => exact ⟨m, rfl⟩
    subst hm2;rw [objL] at hc;dsimp only at hc;obtain ⟨⟨f, u⟩, σ1, h1, h2⟩ := bnd_some hc;obtain ⟨b2, hb2⟩ : ∃ b, sees L (⟨#[44]⟩ : ByteArray) σ1 = b := ⟨_, rfl⟩
    have HB2 := hI hb2;rw [hb2] at h2;have H2X := hI h2;have HE1 := hI (fun W h => HE.out W σk σ1 f u h h1);clear hc h1 h2 hb2;go_wp2_with fail;refine (HE1.out _ HS.out.s.p).mono ?_;rintro e w2 ⟨c10, c11, c12, c13, c14, c15, c16, c17, c18, c20, c21, c22, c23, c24, c25, c26, c27, c28, rfl, hg2, hp2, hl2, hr2⟩;obtain ⟨Z1, rfl, rfl, rfl, rfl, rfl, rfl, rfl, rfl, rfl⟩ := fr9 hl2;obtain ⟨Z2, rfl, rfl, rfl, rfl, rfl, rfl, rfl, rfl, rfl⟩ := fr9 hr2;have H2 := hI (HS.out.next hg2 hp2);obtain ⟨xs0, hx0, -⟩ := HS.out.row;have hge := ownBlock_ge hx0;have hSn : ∀ b, Nw wr.heap.size w2.heap.size b → (W.heap.size < b ∧ b < ((w2.alloc (.cells Z1.c 29)).alloc (.cells Z2.c 29)).heap.size ∧ ¬ b = W.heap.size + 1 ∧ (Value.slice A nl c).ownBlock ≠ some b) ∧ ((w2.alloc (.cells Z1.c 29)).alloc (.cells Z2.c 29)).heap[b]? = w2.heap[b]? := by
     intro b hb;refine ⟨⟨by have := hb.1; omega, by have := hb.2; simp; omega, by have := hb.1; omega, fun e => by have := (hge b e).2; have := hb.1; omega⟩, ?_⟩;rw [Below.heap_alloc _ _ _ (by simp; have := hb.2; omega), Below.heap_alloc _ _ _ hb.2]
    have HF1 := hI (LiesF.move hl2 hSn);have HF2 := hI (LiesF.move hr2 hSn);have H4 := hI ((H2.out.alloc (.cells Z1.c 29)).alloc (.cells Z2.c 29));obtain ⟨xs, hx, hlx⟩ := H4.out.row;have HX := hI (And.intro hx hlx);have hge2 := ownBlock_ge hx;have HBX : Hid (∀ w', (((w2.alloc (.cells Z1.c 29)).alloc (.cells Z2.c 29)).alloc (.cells (Z1.cc Z2) 29)).grownBy w' (Value.slice A nl c).ownBlock → Box w' (W.heap.size + 1) 29 _) := hI fun w' hg => (H4.out.bx.alloc (.cells (Z1.cc Z2) 29)).grown hg (fun e => by have := (hge2 _ e.symm).1; omega)
    have y0 := box9 H2.out.bx;have hq2 := H2.out.bx.lt;have hW2 : W.heap.size + 2 ≤ w2.heap.size := by omega
    have hfr := H2.out.bx.free 8;have hq3 : W.heap.size < w2.heap.size := by omega
    have c84 := H4.out.bx.cell (i := 8) rfl;clear hg2 hp2 hl2 hr2 hx0 hge hSn hx hlx hge2 xs0
    go_wp2_with (at_builtin; refine wpList_append_lies _ rfl _ _ 27 rfl (W.heap.size + 2) 29 i0 (.agg #[ι 0, eS, ι 0, ι 0, eS, nL, nL, nL, nL]) 9 152 Tryz.underlying27 hi hz0 hz1 hz2 rfl (by decide) (.slice A nl c) nl xs rfl (own_keepB' HX.out.1 ((Below.refl _ _).alloc (Nat.le_refl _) _)) ⟨w2.heap.size + 1 + 1, 0, none⟩ 2 2 (Z1.l ++ Z2.l) rfl rfl (new9 _ _ (Z1.cc Z2) (by simp)) (one18 (one9 _ _ _ _ _ _ _ _ _ _ _ _ _ _ _ _ _) (one9 _ _ _ _ _ _ _ _ _ _ _ _ _ _ _ _ _)) (by decide) (by unfold maxLen; omega) (by omega) (by simp; omega) _ rfl ?_; intro g4 c4 w4 hown4 hgr4 hor4 hlt4; have hbx4 := HBX.out _ hgr4; have c8w := hbx4.cell (i := 8) rfl; have f8w := hbx4.free 8)
    have H5 := hI (H4.out.append (row := (Z1.cc Z2)) rfl HF1.out HF2.out HX.out.1 HX.out.2 hown4 hgr4 hor4);clear hown4 hgr4 hor4 hlt4 hbx4 c8w f8w c84 hfr y0;refine (HT2.out _ _ _ HB2.out H5.out.s.p).mono ?_;rintro e w6 ⟨rfl, hg6, hp6⟩;have H6 := hI (H5.out.next hg6 hp6);clear hg6 hp6;have HX6 : Hid (ObHead L call gt C g W (W.heap.size + 1) (2 * n) t τ m2 (.bool b2) w6) := hI ⟨m2, nl + 2, c4, some ⟨g4, 0, none⟩, l ++ [f, u], _, b2, rfl, Nat.le_refl _, by omega, H6.out, by
     have h2 := H2X.out
     cases b2 with
     | true => rw [if_pos rfl] at h2; rw [if_pos rfl]; exact h2
     | false =>
      rw [if_neg (by decide)] at h2;injection h2 with h2
      injection h2 with h3 h4
      rw [if_neg (by decide)];exact ⟨h3.symm, h4.symm⟩⟩
    go_wp2_with fail
    go_roundg m2
    case measure => omega
    case rel => exact HX6

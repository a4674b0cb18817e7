import Derived.Test.YtoleoimmpggldaaGreatDoorYa
import Derived.Deep.AppendLies
set_option linter.unusedVariables false
set_option linter.unusedSectionVars false
set_option linter.unusedSimpArgs false
set_option maxHeartbeats 10000000
set_option maxRecDepth 100000
namespace Go.Proofs.YtoleoimmpggldaaGreatDoor
open Go.RowKit
theorem own_keepB' {w w' : World} {base : Nat} {e : TypeId} {size n : Nat} {v : Value} {xs : List Value} (h : w.ownsRow base e size v n xs) (hb : Below w.heap.size w w') : w'.ownsRow base e size v n xs :=
 h.kept (below_grown hb none) (by cases h2 : v.ownBlock with | none => exact .inl rfl | some g => exact .inr (by simp))
section
variable {L : List Fk} {gt C g : Nat} {w w' w0 : World} {σ τ : PS}
theorem PAt.grown (h : PAt L gt C g w σ) {row : Option Nat} (hg : w.grownBy w' row) (h1 : row ≠ some g) (h2 : row ≠ some gt) : PAt L gt C g w' σ :=
 ⟨h.lt, h.ne, nT h.gtlt hg.size, h.cap, h.capm, h.box.grown hg (fun e => h1 e.symm), fun j u hj => (World.cell?_of_block (hg.block gt h.gtlt (fun e => h2 e.symm))).trans (h.row j u hj)⟩
structure LSt (L : List Fk) (gt C g : Nat) (w0 w : World) (σ : PS) (l : List Ft) (v : Value) : Prop where
 p : PAt L gt C g w σ
 gr : Gr g w0 w
 g0 : g < w0.heap.size
 gt0 : gt < w0.heap.size
 row : ∃ xs, w.ownsRow w0.heap.size 29 9 v l.length xs ∧ LiesFL w (fun b => w0.heap.size ≤ b ∧ b < w.heap.size ∧ v.ownBlock ≠ some b) l xs
theorem ownBlock_ge {base : Nat} {T : TypeId} {size n : Nat} {v : Value} {xs : List Value} (h : w.ownsRow base T size v n xs) : ∀ b, v.ownBlock = some b → base ≤ b ∧ b < w.heap.size := by
 intro b hb;obtain ⟨A, c, rfl, -, -, -, -, h5, -⟩ := own_open h
 cases A with
 | none => simp [Value.ownBlock] at hb
 | some a =>
  simp only [Value.ownBlock, Option.some.injEq] at hb;subst hb;exact h5 a rfl
theorem LSt.next {l : List Ft} {v : Value} (h : LSt L gt C g w0 w σ l v) (hg : Gr g w w') (hp : PAt L gt C g w' τ) : LSt L gt C g w0 w' τ l v := by
 obtain ⟨xs, h1, h2⟩ := h.row;have hge := ownBlock_ge h1;refine ⟨hp, h.gr.trans hg, h.g0, h.gt0, xs, h1.kept hg ?_, LiesFL.move h2 fun b hb => ⟨⟨hb.1, nT hb.2.1 hg.size, hb.2.2⟩, hg.block hb.2.1 (by have := hb.1; have := h.g0; omega)⟩⟩
 cases hv : v.ownBlock with
 | none => exact .inl rfl
 | some b => exact .inr (by intro e; injection e with e; have := (hge b hv).1; have := h.g0; omega)
theorem LSt.append {l : List Ft} {v : Value} (h : LSt L gt C g w0 w σ l v) {f : Ft} {cs : Array Value} (hf : LiesF w (fun b => w0.heap.size ≤ b ∧ b < w.heap.size ∧ v.ownBlock ≠ some b) f cs.toList) {xs : List Value} (hx : w.ownsRow w0.heap.size 29 9 v l.length xs) (hlx : LiesFL w (fun b => w0.heap.size ≤ b ∧ b < w.heap.size ∧ v.ownBlock ≠ some b) l xs)
 {g2 c2 : Nat} (ho : w'.ownsRow w0.heap.size 29 9 (.slice (some ⟨g2, 0, none⟩) (l.length + 1) c2) (l.length + 1) (xs ++ cs.toList)) (hg : (w.alloc (.cells cs 29)).grownBy w' v.ownBlock) (hor : v.ownBlock = some g2 ∨ g2 = (w.alloc (.cells cs 29)).heap.size) :
 LSt L gt C g w0 w' σ (l ++ [f]) (.slice (some ⟨g2, 0, none⟩) (l.length + 1) c2) := by
 have hge := ownBlock_ge hx;have hn1 : v.ownBlock ≠ some g := fun e => by have := (hge _ e).1; have := h.g0; omega
 have hn2 : v.ownBlock ≠ some gt := fun e => by have := (hge _ e).1; have := h.gt0; omega
 have hw : w0.heap.size ≤ w.heap.size := h.gr.size;have hsz : w.heap.size + 1 ≤ w'.heap.size := by have := hg.size; simpa using this
 have hS : ∀ b, (w0.heap.size ≤ b ∧ b < w.heap.size ∧ v.ownBlock ≠ some b) → (w0.heap.size ≤ b ∧ b < w'.heap.size ∧ (Value.slice (some ⟨g2, 0, none⟩) (l.length + 1) c2).ownBlock ≠ some b) ∧ w'.heap[b]? = w.heap[b]? := by
  intro b hb;refine ⟨⟨hb.1, by omega, ?_⟩, (hg.block b (by simp; omega) (fun e => hb.2.2 e.symm)).trans (Below.heap_alloc _ _ _ hb.2.1)⟩;intro e;simp only [Value.ownBlock, Option.some.injEq] at e;subst e;rcases hor with h3 | h3
  · exact hb.2.2 h3
  · have := hb.2.1; simp at h3; omega
 refine ⟨(h.p.alloc _).grown hg hn1 hn2, ⟨?_, ?_, ?_, by omega, ?_⟩, h.g0, h.gt0, xs ++ cs.toList, by rw [List.length_append]; exact ho, LiesFL.append (LiesFL.move hlx hS) (LiesFL.one (LiesF.move hf hS))⟩
 · exact hg.os.trans h.gr.os
 · exact hg.tape.trans h.gr.tape
 · exact hg.output.trans h.gr.output
 · intro b hb hne;exact ((hg.block b (by simp; omega) (fun e => by have := (hge b e.symm).1; omega)).trans (Below.heap_alloc _ _ _ (by omega))).trans (World.grownBy.block h.gr b hb hne)
def ListPost (L : List Fk) (gt C g : Nat) (w : World) (l : List Ft) (τ : PS) (e : Ending) (w' : World) : Prop := ∃ A c xs, e = .returned (.slice A l.length c) ∧ (A = none → c = 0) ∧ l.length ≤ c ∧ c ≤ maxLen ∧ Gr g w w' ∧ PAt L gt C g w' τ ∧ Rs w' (Nw w.heap.size w'.heap.size) A xs ∧ LiesFL w' (Nw w.heap.size w'.heap.size) l xs
theorem LSt.close {l : List Ft} {v : Value} (h : LSt L gt C g w0 w σ l v) : ListPost L gt C g w0 l σ (.returned v) w := by
 obtain ⟨xs, h1, h2⟩ := h.row;obtain ⟨A, c, rfl, a1, a2, a3, a4, a5, a6⟩ := own_open h1;exact ⟨A, c, xs, rfl, a3, a1, a2, h.gr, h.p, a6, LiesFL.move h2 fun b hb => ⟨⟨hb.1, hb.2.1⟩, rfl⟩⟩
structure SSt (L : List Fk) (gt C g : Nat) (w0 w : World) (σ : PS) (l : List ByteArray) (v : Value) : Prop where
 p : PAt L gt C g w σ
 gr : Gr g w0 w
 g0 : g < w0.heap.size
 gt0 : gt < w0.heap.size
 row : w.ownsRow w0.heap.size 9 1 v l.length (kv l)
theorem SSt.next {l : List ByteArray} {v : Value} (h : SSt L gt C g w0 w σ l v) (hg : Gr g w w') (hp : PAt L gt C g w' τ) : SSt L gt C g w0 w' τ l v := by
 have hge := ownBlock_ge h.row;refine ⟨hp, h.gr.trans hg, h.g0, h.gt0, h.row.kept hg ?_⟩
 cases hv : v.ownBlock with
 | none => exact .inl rfl
 | some b => exact .inr (by intro e; injection e with e; have := (hge b hv).1; have := h.g0; omega)
theorem SSt.append {l : List ByteArray} {v : Value} (h : SSt L gt C g w0 w σ l v) {s : ByteArray} {g2 c2 : Nat} (ho : w'.ownsRow w0.heap.size 9 1 (.slice (some ⟨g2, 0, none⟩) (l.length + 1) c2) (l.length + 1) (kv l ++ [.string s])) (hg : (w.alloc (.cells #[.string s] 9)).grownBy w' v.ownBlock) :
 SSt L gt C g w0 w' σ (l ++ [s]) (.slice (some ⟨g2, 0, none⟩) (l.length + 1) c2) := by
 have hge := ownBlock_ge h.row;have hn1 : v.ownBlock ≠ some g := fun e => by have := (hge _ e).1; have := h.g0; omega
 have hn2 : v.ownBlock ≠ some gt := fun e => by have := (hge _ e).1; have := h.gt0; omega
 have hw : w0.heap.size ≤ w.heap.size := h.gr.size;have hsz : w.heap.size + 1 ≤ w'.heap.size := by have := hg.size; simpa using this
 refine ⟨(h.p.alloc _).grown hg hn1 hn2, ⟨?_, ?_, ?_, by omega, ?_⟩, h.g0, h.gt0, by rw [List.length_append]; simpa [kv] using ho⟩
 · exact hg.os.trans h.gr.os
 · exact hg.tape.trans h.gr.tape
 · exact hg.output.trans h.gr.output
 · intro b hb hne;exact ((hg.block b (by simp; omega) (fun e => by have := (hge b e.symm).1; omega)).trans (Below.heap_alloc _ _ _ (by omega))).trans (World.grownBy.block h.gr b hb hne)
def ListSPost (L : List Fk) (gt C g : Nat) (w : World) (l : List ByteArray) (τ : PS) (e : Ending) (w' : World) : Prop := ∃ A c, e = .returned (.slice A l.length c) ∧ (A = none → c = 0) ∧ l.length ≤ c ∧ c ≤ maxLen ∧ Gr g w w' ∧ PAt L gt C g w' τ ∧ Rs w' (Nw w.heap.size w'.heap.size) A (kv l)
theorem SSt.close {l : List ByteArray} {v : Value} (h : SSt L gt C g w0 w σ l v) : ListSPost L gt C g w0 l σ (.returned v) w := by
 obtain ⟨A, c, rfl, a1, a2, a3, a4, a5, a6⟩ := own_open h.row;exact ⟨A, c, rfl, a3, a1, a2, h.gr, h.p, a6⟩
theorem inf_st : (Tryz.prog.info? 9).map (fun i => (i.zero, i.size, i.bytes)) = some (some eS, 1, 16) := by kernel_rfl
end
theorem list_any {L : List Fk} (hL : TokL L) {gt C g fm : Nat} {m : PM} (em : EntF fm) (hmf : OkF L gt C g fm m) (n : Nat) (hn : n ≤ 1000000) (W : World) (σ τ : PS) (t : List Ft) (hP : PAt L gt C g W σ) (hm : listM L m n σ = some (t, τ)) :
 Calls Tryz.prog 183 #[.pointer (some ⟨g, 0, none⟩), .func (.func fm) #[] #[]] W (ListPost L gt C g W t τ) := by
 obtain ⟨f, σ1, h1, h2⟩ := bnd_some hm;obtain ⟨n, rfl⟩ : ∃ n', n = n' + 1 := by
  cases n with
  | zero => exact absurd h2 (by simp [listL])
  | succ n => exact ⟨n, rfl⟩
 obtain ⟨i0, hi, hz0, hz1, hz2⟩ := infoF inf_fi;have HC := hI (fun W h => hmf W _ f σ1 h h1);have HM := hI hmf;have HL2 := hI h2;have HT := hI (fun W σ b hb (h : PAt L gt C g W σ) => take_any hL (⟨#[59]⟩ : ByteArray) b hb h);have HN := hI (fun W σ (h : PAt L gt C g W σ) => need_any hL (⟨#[41]⟩ : ByteArray) h);have HP := hI hP;unfold EntF at em;clear hm h1 h2 hmf hP
 go_enter Tryz.func183, Tryz.ntmps183
 go_wp2_with fail;refine (HC.out _ HP.out).mono ?_;rintro e w1 hZ;obtain ⟨Z1, rfl, hg1, hp1, hl1⟩ := fr3 hZ;have H1 : Hid (LSt L gt C g W (w1.alloc (.cells Z1.c 29)) σ1 [f] (.slice (some ⟨w1.heap.size, 0, none⟩) 1 1)) := hI ⟨hp1.alloc _, hg1.alloc _, HP.out.glt, HP.out.gtlt, Z1.l, ⟨rfl, .inr ⟨w1.heap.size, 1, Z1.c, rfl, hg1.size, Box.laid _ _ _, by simp, by simp [maxLen], rfl, rfl⟩⟩, LiesFL.one (LiesF.move hl1 fun b hb => ⟨⟨hb.1, by simp; have := hb.2; omega, by intro e; simp only [Value.ownBlock, Option.some.injEq] at e; have := hb.2; omega⟩, Below.heap_alloc _ _ _ hb.2⟩)⟩;clear hg1 hp1 hl1;go_wp2_with fail
 go_loopg [5] n (fun gg s5 wr => ∃ (n' : Nat) (l : List Ft) (σk : PS), n' ≤ gg ∧ l.length + n' ≤ n + 1 ∧ Hid (listL L m (n' + 1) l σk = some (t, τ)) ∧ Hid (LSt L gt C g W wr σk l s5))
 case atStart => exact ⟨n, [f], σ1, Nat.le_refl _, by simp; omega, HL2, H1⟩
 case round =>
  clear HL2 H1;obtain ⟨n', l, σk, hgk, hln, HLL, HS⟩ := hrel;have hc := HLL.out;rw [listL] at hc;dsimp only at hc;obtain ⟨b, hb⟩ : ∃ b, sees L (⟨#[59]⟩ : ByteArray) σk = b := ⟨_, rfl⟩
  have HB := hI hb;rw [hb] at hc;clear hb HLL
  cases b with
  | false =>
   rw [if_neg (by decide)] at hc;injection hc with hc
   injection hc with h3 h4
   subst h3; subst h4;go_wp2_with fail;refine (HT.out _ _ _ HB.out HS.out.p).mono ?_;rintro e w2 ⟨rfl, hg2, hp2⟩;have H2 := hI (HS.out.next hg2 hp2);clear hg2 hp2;go_wp2_with fail
   (try simp only [Exit.inBlock, Exit.then])
   go_wp2_with fail;refine (HN.out _ _ H2.out.p).mono ?_;rintro e w3 ⟨rfl, hg3, hp3⟩;have H3 := hI (H2.out.next hg3 hp3);clear hg3 hp3;go_wp2_with fail
   go_ret
   exact H3.out.close
  | true =>
   rw [if_pos rfl] at hc;obtain ⟨u, σ2, h3, h4⟩ := bnd_some hc;have HR := hI (fun W h => HM.out W _ u σ2 h h3);have H4 := hI h4;clear hc h3 h4;go_wp2_with fail;refine (HT.out _ _ _ HB.out HS.out.p).mono ?_;rintro e w2 ⟨rfl, hg2, hp2⟩;have H2 := hI (HS.out.next hg2 hp2);clear hg2 hp2;go_wp2_with fail;refine (HR.out _ H2.out.p).mono ?_;rintro e w3 hZ;obtain ⟨Z2, rfl, hg3, hp3, hl3⟩ := fr3 hZ;have H3 := hI (H2.out.next hg3 hp3);obtain ⟨xs, hx, hlx⟩ := H3.out.row;obtain ⟨xs0, hx0, hlx0⟩ := H2.out.row;have hge := ownBlock_ge hx0;have HX := hI (And.intro hx hlx);have HF : Hid (LiesF w3 (fun b => W.heap.size ≤ b ∧ b < w3.heap.size ∧ Value.ownBlock _ ≠ some b) u Z2.l) := hI (LiesF.move hl3 fun b hb => ⟨⟨Nat.le_trans H2.out.gr.size hb.1, hb.2, fun e => by have := (hge b e).2; have := hb.1; omega⟩, rfl⟩);have hWw : W.heap.size ≤ w3.heap.size := H3.out.gr.size;clear hg3 hp3 hl3 hx hlx hx0 hlx0 hge
   go_wp2_with (at_builtin; refine wpList_append_lies _ rfl _ _ 27 rfl W.heap.size 29 i0 (.agg #[ι 0, eS, ι 0, ι 0, eS, nL, nL, nL, nL]) 9 152 Tryz.underlying27 hi hz0 hz1 hz2 rfl (by decide) _ l.length xs rfl (own_keepB' HX.out.1 ((Below.refl _ _).alloc (Nat.le_refl _) _)) ⟨w3.heap.size, 0, none⟩ 1 1 Z2.l rfl rfl (new9 _ _ Z2.c rfl) (one9 _ _ _ _ _ _ _ _ _ _ _ _ _ _ _ _ _) (by decide) (by unfold maxLen; omega) (by omega) (by simp; omega) _ rfl ?_; intro g4 c4 w4 hown4 hgr4 hor4 hlt4)
   have H5 := hI (H3.out.append (cs := Z2.c) HF.out HX.out.1 HX.out.2 hown4 hgr4 hor4);obtain ⟨n2, hn2⟩ : ∃ n2, n' = n2 + 1 := by
    cases n' with
    | zero => exact absurd H4.out (by simp [listL])
    | succ n => exact ⟨n, rfl⟩
   subst hn2;clear hown4 hgr4 hor4 hlt4;go_wp2_with fail
   go_roundg n2
   case measure => omega
   case rel => exact ⟨n2, l ++ [u], σ2, Nat.le_refl _, by rw [List.length_append]; simp; omega, H4, H5⟩
theorem lists_any {L : List Fk} (hL : TokL L) {gt C g : Nat} (n : Nat) (hn : n ≤ 1000000) (W : World) (σ τ : PS) (t : List ByteArray) (hP : PAt L gt C g W σ) (hm : listM L (paramM L) n σ = some (t, τ)) :
 Calls Tryz.prog 162 #[.pointer (some ⟨g, 0, none⟩), .func (.func 163) #[] #[]] W (ListSPost L gt C g W t τ) := by
 obtain ⟨f, σ1, h1, h2⟩ := bnd_some hm;obtain ⟨n, rfl⟩ : ∃ n', n = n' + 1 := by
  cases n with
  | zero => exact absurd h2 (by simp [listL])
  | succ n => exact ⟨n, rfl⟩
 obtain ⟨i0, hi, hz0, hz1, hz2⟩ := infoF inf_st;have HC := hI (fun W (h : PAt L gt C g W σ) => param_any hL W _ σ1 f h h1);have HM := hI (fun W σ τ s h hm => param_any hL (gt := gt) (C := C) (g := g) W σ τ s h hm);have HL2 := hI h2;have HT := hI (fun W σ b hb (h : PAt L gt C g W σ) => take_any hL (⟨#[59]⟩ : ByteArray) b hb h);have HN := hI (fun W σ (h : PAt L gt C g W σ) => need_any hL (⟨#[41]⟩ : ByteArray) h);have HP := hI hP;clear hm h1 h2 hP
 go_enter Tryz.func162, Tryz.ntmps162
 go_wp2_with fail;refine (HC.out _ HP.out).mono ?_;rintro e w1 ⟨rfl, hg1, hp1⟩;have H1 : Hid (SSt L gt C g W (w1.alloc (.cells #[.string f] 9)) σ1 [f] (.slice (some ⟨w1.heap.size, 0, none⟩) 1 1)) := hI ⟨hp1.alloc _, hg1.alloc _, HP.out.glt, HP.out.gtlt, ⟨rfl, .inr ⟨w1.heap.size, 1, #[.string f], rfl, hg1.size, Box.laid _ _ _, by simp, by simp [maxLen], rfl, rfl⟩⟩⟩;clear hg1 hp1;go_wp2_with fail
 go_loopg [5] n (fun gg s5 wr => ∃ (n' : Nat) (l : List ByteArray) (σk : PS), n' ≤ gg ∧ l.length + n' ≤ n + 1 ∧ Hid (listL L (paramM L) (n' + 1) l σk = some (t, τ)) ∧ Hid (SSt L gt C g W wr σk l s5))
 case atStart => exact ⟨n, [f], σ1, Nat.le_refl _, by simp; omega, HL2, H1⟩
 case round =>
  clear HL2 H1;obtain ⟨n', l, σk, hgk, hln, HLL, HS⟩ := hrel;have hc := HLL.out;rw [listL] at hc;dsimp only at hc;obtain ⟨b, hb⟩ : ∃ b, sees L (⟨#[59]⟩ : ByteArray) σk = b := ⟨_, rfl⟩
  have HB := hI hb;rw [hb] at hc;clear hb HLL
  cases b with
  | false =>
   rw [if_neg (by decide)] at hc;injection hc with hc
   injection hc with h3 h4
   subst h3; subst h4;go_wp2_with fail;refine (HT.out _ _ _ HB.out HS.out.p).mono ?_;rintro e w2 ⟨rfl, hg2, hp2⟩;have H2 := hI (HS.out.next hg2 hp2);clear hg2 hp2;go_wp2_with fail
   (try simp only [Exit.inBlock, Exit.then])
   go_wp2_with fail;refine (HN.out _ _ H2.out.p).mono ?_;rintro e w3 ⟨rfl, hg3, hp3⟩;have H3 := hI (H2.out.next hg3 hp3);clear hg3 hp3;go_wp2_with fail
   go_ret
   exact H3.out.close
  | true =>
   rw [if_pos rfl] at hc;obtain ⟨u, σ2, h3, h4⟩ := bnd_some hc;have HR := hI (fun W (h : PAt L gt C g W (adv σk)) => HM.out W _ σ2 u h h3);have H4 := hI h4;clear hc h3 h4;go_wp2_with fail;refine (HT.out _ _ _ HB.out HS.out.p).mono ?_;rintro e w2 ⟨rfl, hg2, hp2⟩;have H2 := hI (HS.out.next hg2 hp2);clear hg2 hp2;go_wp2_with fail;refine (HR.out _ H2.out.p).mono ?_;rintro e w3 ⟨rfl, hg3, hp3⟩;have H3 := hI (H2.out.next hg3 hp3);have hWw : W.heap.size ≤ w3.heap.size := H3.out.gr.size;clear hg3 hp3
   go_wp2_with (at_builtin; refine wpList_append_lies _ rfl _ _ 23 rfl W.heap.size 9 i0 eS 1 16 Tryz.underlying23 hi hz0 hz1 hz2 rfl (by decide) _ l.length (kv l) rfl (own_keepB' H3.out.row ((Below.refl _ _).alloc (Nat.le_refl _) _)) ⟨w3.heap.size, 0, none⟩ 1 1 [.string u] rfl rfl (new9 _ _ #[.string u] rfl) (by simp [Value.oneCell']) (by decide) (by unfold maxLen; omega) (by omega) (by simp; omega) _ rfl ?_; intro g4 c4 w4 hown4 hgr4 hor4 hlt4)
   have H5 := hI (H3.out.append hown4 hgr4);obtain ⟨n2, hn2⟩ : ∃ n2, n' = n2 + 1 := by
    cases n' with
    | zero => exact absurd H4.out (by simp [listL])
    | succ n => exact ⟨n, rfl⟩
   subst hn2;clear hown4 hgr4 hor4 hlt4;go_wp2_with fail
   go_roundg n2
   case measure => omega
   case rel => exact ⟨n2, l ++ [u], σ2, Nat.le_refl _, by rw [List.length_append]; simp; omega, H4, H5⟩

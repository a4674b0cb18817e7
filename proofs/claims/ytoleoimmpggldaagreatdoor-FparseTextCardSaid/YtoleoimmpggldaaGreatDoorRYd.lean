import Derived.Test.YtoleoimmpggldaaGreatDoorRV
import Derived.Test.YtoleoimmpggldaaGreatDoorRU
import Derived.Deep.AppendLies
import Derived.Test.YtoleoimmpggldaaGreatDoorYb
set_option linter.unusedVariables false
set_option linter.unusedSimpArgs false
set_option linter.unusedSectionVars false
set_option maxHeartbeats 10000000
set_option maxRecDepth 100000
namespace Go.Proofs.YtoleoimmpggldaaGreatDoor.Rx
open Go.RowKit
section
variable {S : Nat → Prop} {L : List Fk} {gt C g : Nat} {w w' w0 : World} {σ τ : PS} {bs : List (Nat × Array Value)} {ts : List (Ft × List Value)} {t : Ft} {cs : List Value}
theorem St.boxAt (h : St S L gt C g w0 w σ bs ts) (cs : Array Value) {q : Nat} (hq : w.heap.size = q) : St S L gt C g w0 (w.alloc (.cells cs 29)) σ ((q, cs) :: bs) ts := by subst hq; exact h.box cs
theorem St.defn (h : St S L gt C g w0 w σ bs ts) (op : Int) (tx : ByteArray) {ps : List ByteArray} {A : Option Addr} {np c : Nat} (hx : (Ft.mk op tx vz ps [], [ι op, .string tx, ι 0, ι 0, eS, nL, nL, .slice A np c, nL]) ∈ ts)
 {fs : List Ft} {row : Array Value} {n : Nat} (hn : fs.length = n) (hn2 : n ≤ 100) (hL : LiesFL w (Own S w0 w bs) fs row.toList) {q : Nat} (hq : w.heap.size = q) :
 St S L gt C g w0 (w.alloc (.cells row 29)) σ bs ((.mk op tx vz ps fs, [ι op, .string tx, ι 0, ι 0, eS, nL, nL, .slice A np c, .slice (some ⟨q, 0, none⟩) n n]) :: ts) := by
 subst hq;subst hn;have h2 := h.alloc (.cells row 29);have hx2 := h2.t _ hx;rw [LiesF] at hx2;obtain ⟨⟨b1, b2, b3, -⟩, -⟩ := hx2;obtain ⟨v0, v1, v2, v3, v4, A', a, B, b, xs, he, hv, h1, -, h3, -, hA, -, -⟩ := liesF_open (h2.t _ hx);simp only [List.cons.injEq, Value.slice.injEq, and_true] at he;obtain ⟨-, -, rfl, rfl, rfl, rfl, rfl, ⟨rfl, rfl, rfl⟩, -⟩ := he;exact h2.put (liesF_mk ⟨b1, b2, b3, by omega⟩ hv h1 (fun e => by simp at e) h3 ⟨Nat.le_refl _, by unfold maxLen; omega⟩ hA (rs_box (Box.laid _ _ _) (.inr ⟨h.lt, by simp, fun q hq => by have := Bx.lt (h.b q hq).2; omega⟩)) (LiesFL.move hL fun b hb => Own.gr h (Gr.one _ _) b hb))
theorem St.base {base : Nat} (h : St noS L gt C g w0 w σ bs []) (hb : w0.heap.size < base) (hlo : ∀ q ∈ bs, q.1 < base) (hos : w'.os = w.os) (htp : w'.tape = w.tape) (hou : w'.output = w.output) (hsz : w.heap.size ≤ w'.heap.size) (hk : ∀ b, b < base → w'.heap[b]? = w.heap[b]?) : St noS L gt C g w0 w' σ bs [] := by
 have hg := h.r.g0;have hgt := h.r.gt0;have hl := h.lt;refine ⟨⟨⟨h.r.p.lt, h.r.p.ne, nT h.r.p.gtlt hsz, h.r.p.cap, h.r.p.capm, (hk g (by omega)).trans h.r.p.box, fun j u hj => (World.cell?_of_block (hk gt (by omega))).trans (h.r.p.row j u hj)⟩, ⟨?_, ?_, ?_, Nat.le_trans h.r.gr.size hsz, ?_⟩, (hk _ hb).trans h.r.r, hg, hgt⟩, h.hS, fun q hq => ⟨(h.b q hq).1, (h.b q hq).2.imp fun T hT => (hk _ (hlo q hq)).trans hT⟩, fun x hx => by simp at hx⟩
 · exact hos.trans h.r.gr.os
 · exact htp.trans h.r.gr.tape
 · exact hou.trans h.r.gr.output
 · intro b hb' hne;exact (hk b (by omega)).trans (World.grownBy.block h.r.gr b hb' hne)
structure DSt (L : List Fk) (gt C g : Nat) (w0 : World) (base : Nat) (w : World) (σ : PS) (bs : List (Nat × Array Value)) (l : List ByteArray) (v : Value) : Prop where
 s : St noS L gt C g w0 w σ bs []
 b0 : w0.heap.size < base
 b1 : base ≤ w.heap.size
 lo : ∀ q ∈ bs, q.1 < base
 row : w.ownsRow base 9 1 v l.length (kv l)
variable {base : Nat} {l : List ByteArray} {v : Value}
theorem DSt.next (h : DSt L gt C g w0 base w σ bs l v) (hg : Gr g w w') (hp : PAt L gt C g w' τ) : DSt L gt C g w0 base w' τ bs l v := by
 have hge := ownBlock_ge h.row;have h0 := h.s.r.g0;have h1 := h.b0;refine ⟨h.s.next hg hp, h.b0, Nat.le_trans h.b1 hg.size, h.lo, h.row.kept hg ?_⟩
 cases hv : v.ownBlock with
 | none => exact .inl rfl
 | some b => exact .inr (by intro e; injection e with e; have := (hge b hv).1; omega)
theorem DSt.append (h : DSt L gt C g w0 base w σ bs l v) {s : ByteArray} {g2 c2 : Nat} (ho : w'.ownsRow base 9 1 (.slice (some ⟨g2, 0, none⟩) (l.length + 1) c2) (l.length + 1) (kv l ++ [.string s])) (hg : (w.alloc (.cells #[.string s] 9)).grownBy w' v.ownBlock) :
 DSt L gt C g w0 base w' σ bs (l ++ [s]) (.slice (some ⟨g2, 0, none⟩) (l.length + 1) c2) := by
 have hge := ownBlock_ge h.row;have hsz : w.heap.size + 1 ≤ w'.heap.size := by have := hg.size; simpa using this
 have hb1 := h.b1;refine ⟨h.s.base h.b0 h.lo hg.os hg.tape hg.output (by omega) (fun b hb => (hg.block b (by simp; omega) (fun e => by have := (hge b e.symm).1; omega)).trans (Below.heap_alloc _ _ _ (by omega))), h.b0, by omega, h.lo, by rw [List.length_append]; simpa [kv] using ho⟩
def PSt (L : List Fk) (gt C g : Nat) (w0 : World) (σ : PS) (bs : List (Nat × Array Value)) (S1 : ByteArray) (ps : List ByteArray) (t4 : Value) (wx : World) : Prop :=
 ∃ A c, t4 = .slice A ps.length c ∧ St noS L gt C g w0 wx σ bs [(.mk 26 S1 vz ps [], [ι 26, .string S1, ι 0, ι 0, eS, nL, nL, .slice A ps.length c, nL])]
theorem DSt.close (h : DSt L gt C g w0 base w σ bs l v) (S1 : ByteArray) (h1 : S1.size ≤ 140737488355328) (hl : ∀ x ∈ l, x.size ≤ 140737488355328) (hn : l.length ≤ 1000000) : PSt L gt C g w0 σ bs S1 l v w := by
 obtain ⟨A, c, rfl, a1, a2, a3, a4, a5, a6⟩ := own_open h.row;refine ⟨A, c, rfl, h.s.put (liesF_mk (B := none) (b := 0) (xs := []) ⟨h1, hl, by omega, by simp⟩ (lies_vz _ _) a3 (fun _ => rfl) ⟨a1, a2⟩ (by simp [maxLen]) (a6.move fun b hb => ⟨.inr ⟨nT h.b0 hb.1, hb.2, fun q hq => by have := h.lo q hq; have := hb.1; omega⟩, rfl⟩) (Rs.nil _ _ _) (LiesFL.nil _ _))⟩
end
theorem param_sz {L : List Fk} (hL : TokL L) {σ τ : PS} {s : ByteArray} (h : paramM L σ = some (s, τ)) : s.size ≤ 140737488355328 := by
 have h1 := hL.size σ.k;have h2 := kindT_size hL 1 σ;unfold paramM at h
 split at h
 · injection h with h; injection h with h3 h4; subst h3; decide
 · split at h
   · injection h with h; injection h with h3 h4; subst h3; rw [ByteArray.size_append]; show 1 + _ ≤ _; omega
   · injection h with h; injection h with h3 h4; subst h3; omega
theorem listL_len {L : List Fk} {α : Type} {m : PS → Option (α × PS)} : ∀ (n : Nat) (l : List α) (σ : PS) (r : List α) (τ : PS), listL L m n l σ = some (r, τ) → r.length < l.length + n
 | 0, l, σ, r, τ, h => by simp [listL] at h
 | n + 1, l, σ, r, τ, h => by
  rw [listL] at h;dsimp only at h
  by_cases hb : sees L (⟨#[59]⟩ : ByteArray) σ = true
  · rw [if_pos hb] at h;obtain ⟨a, σ1, h1, h2⟩ := bnd_some h;have := listL_len n _ _ _ _ h2;rw [List.length_append] at this;simp at this;omega
  · rw [if_neg hb] at h;injection h with h
    injection h with h1 h2
    subst h1;omega
def DeSt (L : List Fk) (gt C g : Nat) (w0 : World) (σ : PS) (q5 kq : Nat) (c5 ck : Array Value) (S1 : ByteArray) (ps : List ByteArray) (fs : List Ft) (A : Option Addr) (np c : Nat) (t6 : Value) (wx : World) : Prop :=
 ∃ q6 h6 : Nat, t6 = .pointer (some ⟨q6, 0, none⟩) ∧ q5 < q6 ∧ kq < q6 ∧ St noS L gt C g w0 wx σ [(q6, #[ι 26, .string S1, ι 0, ι 0, eS, nL, nL, nL, .slice (some ⟨h6, 0, none⟩) 2 2]), (q5, c5), (kq, ck)]
  [(.mk 26 S1 vz ps fs, [ι 26, .string S1, ι 0, ι 0, eS, nL, nL, .slice A np c, .slice (some ⟨h6, 0, none⟩) 2 2])]
theorem def_any {L : List Fk} (hL : TokL L) {gt C g : Nat} {call : Ru → PM} (n : Nat) (hn : n ≤ 400000) (hO : ∀ k, (tk L k).o ≤ 8192) (hA : OkA L gt C g call) (W : World) (σ τ : PS) (t : Ft) (hP : PAt L gt C g W σ) (hm : defM L call n σ = some (t, τ)) :
 Calls Tryz.prog 159 #[.pointer (some ⟨g, 0, none⟩)] W (RetF L gt C g W t τ) := by
 obtain ⟨ps, σ2, h1, h2⟩ := bnd_some hm;obtain ⟨f, σ3, h3, h4⟩ := bnd_some h2;obtain ⟨u, σ4, h5, h6⟩ := bnd_some h4;injection h6 with h6
 injection h6 with h7 h8
 subst h7; subst h8;have H0 := hI (St.begin hP);have hg0 := hP.glt;have HKK := hI (fun W (h : PAt L gt C g W σ) => kind_any hL 1 (by decide) h);have hz := kindT_size hL 1 σ;have hko : (kindT L 1 σ).o ≤ 8192 := by
  unfold kindT
  split
  · exact hO _
  · exact Nat.zero_le _
 have HN := hI (fun σ W (h : PAt L gt C g W σ) => need_any hL (⟨#[58]⟩ : ByteArray) h);have HN2 := hI (fun W (h : PAt L gt C g W σ3) => need_any hL (⟨#[59]⟩ : ByteArray) h);have HN3 := hI (fun σ W (h : PAt L gt C g W σ) => need_any hL (⟨#[41]⟩ : ByteArray) h);have HC := hI (fun W h => hA .filter W _ f σ3 h h3);have HC2 := hI (fun W h => hA .filter W _ u σ4 h h5);have HPA := hI (fun W σ τ s h hm => param_any hL (gt := gt) (C := C) (g := g) W σ τ s h hm);have HPZ := hI (fun σ τ s h => param_sz hL (σ := σ) (τ := τ) (s := s) h);have HTK := hI (fun W σ b hb (h : PAt L gt C g W σ) => take_any hL (⟨#[59]⟩ : ByteArray) b hb h);have HNO := hI (fun S A W => node_any 26 S A 2 2 W);generalize kindS L 1 σ = σ1 at HKK h1;generalize kindT L 1 σ = t0 at *
 obtain ⟨K1, O1, S1, I1⟩ := t0;dsimp only at HC HKK hz hko ⊢;obtain ⟨b, hb⟩ : ∃ b, sees L (⟨#[40]⟩ : ByteArray) σ1 = b := ⟨_, rfl⟩
 have HT := hI (fun W (h : PAt L gt C g W σ1) => take_any hL (⟨#[40]⟩ : ByteArray) b hb h);unfold paramsM at h1;rw [hb] at h1;have HM1 := hI h1;clear hP hA hm h1 h2 h3 h4 h5 hb hO
 go_enter Tryz.func159, Tryz.ntmps159
 go_wp2_with fail;refine (HKK.out _ H0.out.r.p).mono ?_;rintro e w1 ⟨rfl, hg1, hp1⟩;have H1 := hI ((H0.out.next hg1 hp1).boxT 41 #[ι K1, ι O1, .string S1, ι I1]);clear hg1 hp1;go_wp2_with fail;refine (HT.out _ H1.out.r.p).mono ?_;rintro e w2 ⟨rfl, hg2, hp2⟩;have H2 := hI (H1.out.next hg2 hp2);have HGS := hI hg2.size;clear hg2 hp2;have hkl := (H1.out.bx (q := w1.heap.size) (c := #[ι K1, ι O1, .string S1, ι I1]) (by simp)).lt;obtain ⟨base, hbase⟩ : ∃ n, n = (w1.alloc (.cells #[ι K1, ι O1, .string S1, ι I1] 41)).heap.size := ⟨_, rfl⟩
 rw [← hbase] at hkl;have hb0 : W.heap.size < base := by rw [hbase]; have := H1.out.lt; exact this
 have hb2 : base ≤ w2.heap.size := by rw [hbase]; exact HGS.out
 generalize w1.heap.size = kq at H2 hkl ⊢;clear hbase H1 HGS H0
 go_upto_if 10 with (fail)
 go_cut [4] (fun t4 wx => Hid (PSt L gt C g W σ2 [(kq, #[ι K1, ι O1, .string S1, ι I1])] S1 ps t4 wx))
 case first =>
  have h1 := HM1.out
  cases b with
  | false =>
   rw [if_neg (by decide)] at h1;injection h1 with h1
   injection h1 with h3 h4
   subst h3; subst h4;go_wp2_with fail
   go_meet
   exact hI ⟨none, 0, rfl, H2.out.leaf 26 S1 0 0 ⟨#[]⟩ (by omega) (by decide)⟩
  | true =>
   rw [if_pos rfl] at h1;obtain ⟨p1, σp, h2, h3⟩ := bnd_some h1;obtain ⟨n, rfl⟩ : ∃ n', n = n' + 1 := by
    cases n with
    | zero => exact absurd h3 (by simp [listL])
    | succ n => exact ⟨n, rfl⟩
   have hlen := listL_len _ _ _ _ _ h3;obtain ⟨i0, hi, hz0, hz1, hz2⟩ := infoF inf_st;have HD : Hid (DSt L gt C g W base w2 (adv σ1) [(kq, #[ι K1, ι O1, .string S1, ι I1])] [] nL) := hI ⟨H2.out, hb0, hb2, fun q hq => by simp at hq; subst hq; exact hkl, rfl, .inl ⟨rfl, rfl⟩⟩;have HL2 := hI h3;have HP1 := hI (fun W (h : PAt L gt C g W (adv σ1)) => HPA.out W _ σp p1 h h2);have HZ1 := hI (HPZ.out _ _ _ h2);clear h1 h2 h3 HM1 hlen;go_wp2_with fail;refine (HP1.out _ HD.out.s.r.p).mono ?_;rintro e w3 ⟨rfl, hg3, hp3⟩;have H3 := hI (HD.out.next hg3 hp3);have hWw : base ≤ w3.heap.size := H3.out.b1;clear hg3 hp3
   go_wp2_with (at_builtin; refine wpList_append_lies _ rfl _ _ 23 rfl base 9 i0 eS 1 16 Tryz.underlying23 hi hz0 hz1 hz2 rfl (by decide) _ 0 (kv []) rfl (own_keepB' H3.out.row ((Below.refl _ _).alloc (Nat.le_refl _) _)) ⟨w3.heap.size, 0, none⟩ 1 1 [.string p1] rfl rfl (new9 _ _ #[.string p1] rfl) (by simp [Value.oneCell']) (by decide) (by unfold maxLen; omega) (by omega) (by simp; omega) _ rfl ?_; intro g4 c4 w4 hown4 hgr4 hor4 hlt4)
   have H5 : Hid (DSt L gt C g W base w4 σp [(kq, #[ι K1, ι O1, .string S1, ι I1])] [p1] (.slice (some ⟨g4, 0, none⟩) 1 c4)) := hI (H3.out.append hown4 hgr4);have HX : Hid (∃ (n' : Nat) (l : List ByteArray) (σk : PS), n' ≤ n ∧ l.length + n' ≤ n + 1 ∧ (∀ x ∈ l, x.size ≤ 140737488355328) ∧ listL L (paramM L) (n' + 1) l σk = some (ps, σ2) ∧ DSt L gt C g W base w4 σk [(kq, #[ι K1, ι O1, .string S1, ι I1])] l (.slice (some ⟨g4, 0, none⟩) 1 c4)) := hI ⟨n, [p1], σp, Nat.le_refl _, by simp; omega, by intro x hx; simp at hx; subst hx; exact HZ1.out, HL2.out, H5.out⟩;clear hown4 hgr4 hor4 hlt4 H5 HL2 HZ1 HP1 HD H3 hWw;go_wp2_with fail
   go_loopg [4] n (fun gg s4 wr => Hid (∃ (n' : Nat) (l : List ByteArray) (σk : PS), n' ≤ gg ∧ l.length + n' ≤ n + 1 ∧ (∀ x ∈ l, x.size ≤ 140737488355328) ∧ listL L (paramM L) (n' + 1) l σk = some (ps, σ2) ∧ DSt L gt C g W base wr σk [(kq, #[ι K1, ι O1, .string S1, ι I1])] l s4))
   case atStart => exact HX
   case round =>
    clear HX;obtain ⟨n', l, σk, hgk, hln, hsz, hc, hS⟩ := hrel.out;have HS := hI hS;have HSZ := hI hsz;rw [listL] at hc;dsimp only at hc;obtain ⟨b, hb⟩ : ∃ b, sees L (⟨#[59]⟩ : ByteArray) σk = b := ⟨_, rfl⟩
    have HB := hI hb;rw [hb] at hc;clear hb hrel hS hsz
    cases b with
    | false =>
     rw [if_neg (by decide)] at hc;injection hc with hc
     injection hc with h3 h4
     subst h3; subst h4;go_wp2_with fail;refine (HTK.out _ _ _ HB.out HS.out.s.r.p).mono ?_;rintro e w5 ⟨rfl, hg5, hp5⟩;have H5 := hI (HS.out.next hg5 hp5);clear hg5 hp5;go_wp2_with fail
     (try simp only [Exit.inBlock, Exit.then])
     go_wp2_with fail;refine (HN3.out _ _ H5.out.s.r.p).mono ?_;rintro e w6 ⟨rfl, hg6, hp6⟩;have H6 := hI (H5.out.next hg6 hp6);clear hg6 hp6;go_wp2_with fail
     go_meet
     exact hI (H6.out.close S1 (by omega) HSZ.out (by omega))
    | true =>
     rw [if_pos rfl] at hc;obtain ⟨p2, σp2, h3, h4⟩ := bnd_some hc;obtain ⟨n2, rfl⟩ : ∃ n2, n' = n2 + 1 := by
      cases n' with
      | zero => exact absurd h4 (by simp [listL])
      | succ n => exact ⟨n, rfl⟩
     have HR := hI (fun W (h : PAt L gt C g W (adv σk)) => HPA.out W _ σp2 p2 h h3);have HZ2 := hI (HPZ.out _ _ _ h3);have H4 := hI h4;clear hc h3 h4;go_wp2_with fail;refine (HTK.out _ _ _ HB.out HS.out.s.r.p).mono ?_;rintro e w5 ⟨rfl, hg5, hp5⟩;have H5 := hI (HS.out.next hg5 hp5);clear hg5 hp5;go_wp2_with fail;refine (HR.out _ H5.out.s.r.p).mono ?_;rintro e w6 ⟨rfl, hg6, hp6⟩;have H6 := hI (H5.out.next hg6 hp6);have hWw : base ≤ w6.heap.size := H6.out.b1;clear hg6 hp6
     go_wp2_with (at_builtin; refine wpList_append_lies _ rfl _ _ 23 rfl base 9 i0 eS 1 16 Tryz.underlying23 hi hz0 hz1 hz2 rfl (by decide) _ l.length (kv l) rfl (own_keepB' H6.out.row ((Below.refl _ _).alloc (Nat.le_refl _) _)) ⟨w6.heap.size, 0, none⟩ 1 1 [.string p2] rfl rfl (new9 _ _ #[.string p2] rfl) (by simp [Value.oneCell']) (by decide) (by unfold maxLen; omega) (by omega) (by simp; omega) _ rfl ?_; intro g4 c4 w7 hown4 hgr4 hor4 hlt4)
     have H7 := hI (H6.out.append hown4 hgr4);clear hown4 hgr4 hor4 hlt4;go_wp2_with fail
     go_roundg n2
     case measure => omega
     case rel => exact hI ⟨n2, l ++ [p2], σp2, Nat.le_refl _, by rw [List.length_append]; simp; omega, by intro x hx; rcases List.mem_append.1 hx with hx | hx; exact HSZ.out x hx; rw [List.mem_singleton.1 hx]; exact HZ2.out, H4.out, H7.out⟩
 case rest =>
  clear H2 HM1;obtain ⟨A, cp, rfl, hS⟩ := hcut.out;have H3 := hI hS;obtain ⟨np, hnp⟩ : ∃ np, ps.length = np := ⟨_, rfl⟩
  rw [hnp] at H3;have HNP := hI hnp;rw [hnp];clear hcut hS hnp;go_upto_region 8 with (fail)
  obtain ⟨cnd, hcnd⟩ : ∃ c, (!σ2.bad && (decide (8 < np) && decide (σ2.long = 0))) = c := ⟨_, rfl⟩
  have HCN := hI hcnd;clear hcnd
  go_cut [41] (fun t41 wx => wx = wc ∧ t41 = .bool cnd)
  case first =>
   obtain ⟨⟨b0, b1, b2, b3⟩, -⟩ := box4' H3.out.r.p.box;have hlg := H3.out.r.p.glt;obtain ⟨bb, hbb⟩ : ∃ b, σ2.bad = b := ⟨_, rfl⟩
   rw [hbb] at b2;have HBB := hI hbb;clear hbb
   cases bb with
   | true =>
    go_wp2_with fail
    go_meet
    exact ⟨rfl, by rw [← HCN.out, HBB.out]; rfl⟩
   | false =>
    by_cases h8 : 8 < np
    · have d1 : decide ((8 : Int) < (np : Int)) = true := decide_eq_true (by omega);have d2 : decide (8 < np) = true := decide_eq_true h8;have HD := hI d2
      by_cases hlz : σ2.long = 0
      · have q : ((σ2.long : Int) == 0) = true := by rw [beq_iff_eq]; omega
        have HZ := hI (decide_eq_true hlz);clear hlz;go_wp2_with fail
        go_meet
        exact ⟨rfl, by rw [← HCN.out, HBB.out, HD.out, HZ.out]; rfl⟩
      · have q : ((σ2.long : Int) == 0) = false := bF.2 (by omega);have HZ := hI (decide_eq_false hlz);clear hlz;go_wp2_with fail
        go_meet
        exact ⟨rfl, by rw [← HCN.out, HBB.out, HD.out, HZ.out]; rfl⟩
    · have d1 : decide ((8 : Int) < (np : Int)) = false := decide_eq_false (by omega);have d2 : decide (8 < np) = false := decide_eq_false h8;have HD := hI d2;go_wp2_with fail
      go_meet
      exact ⟨rfl, by rw [← HCN.out, HBB.out, HD.out]; rfl⟩
  case rest =>
   obtain ⟨hweq, rfl⟩ := hcut;have hweq := hweq.symm;subst hweq;have hcnd := HCN.out;clear HCN
   cases cnd with
   | false =>
    have HLP : longP ps O1 σ2 = σ2 := by
     unfold longP;rw [if_neg];rintro ⟨e1, e2, e3⟩;rw [HNP.out] at e2;rw [e1, decide_eq_true e2, decide_eq_true e3] at hcnd
     cases hcnd
    rw [HLP] at HC;clear HLP hcnd;have H4 := H3;clear H3;go_wp2_with fail;refine (HN.out _ _ H4.out.r.p).mono ?_;rintro e w5 ⟨rfl, hg5, hp5⟩;have H5 := hI (H4.out.next hg5 hp5);clear hg5 hp5;go_wp2_with fail;refine (HC.out _ H5.out.r.p).mono ?_;rintro e w6 hZ;obtain ⟨Z1, rfl, hg6, hp6, hl6⟩ := fr3 hZ;have H6 := hI ((H5.out.call hg6 hp6 hl6).box Z1.c);have HGS6 := hI hg6.size;clear hg6 hp6 hl6;have hk6 : kq < w6.heap.size := nT (H5.out.bx (q := kq) (c := #[ι K1, ι O1, .string S1, ι I1]) (by simp)).lt HGS6.out;go_wp2_with fail;refine (HN2.out _ H6.out.r.p).mono ?_;rintro e w7 ⟨rfl, hg7, hp7⟩;have H7 := hI (H6.out.next hg7 hp7);clear hg7 hp7;go_upto_region 13 with (fail)
    generalize w6.heap.size = q5 at H7 hk6 ⊢
    go_cut [6] (fun t6 wx => Hid (DeSt L gt C g W σ4 q5 kq Z1.c #[ι K1, ι O1, .string S1, ι I1] S1 ps [f, u] A np cp t6 wx))
    case first =>
     rename_i Jm Km hRJ hMet
     have keep : Hid (∀ X σ bs ts, (q5, Z1.c) ∈ bs → (kq, #[ι K1, ι O1, .string S1, ι I1]) ∈ bs → St noS L gt C g W X σ bs ts → X.cell? ⟨q5, 0, none⟩ = some (ι Z1.o) ∧ X.cell? ⟨q5, 1, none⟩ = some (.string Z1.t) ∧ X.cell? ⟨q5, 2, none⟩ = some (ι Z1.k) ∧ X.cell? ⟨q5, 3, none⟩ = some (ι Z1.j) ∧ X.cell? ⟨q5, 4, none⟩ = some (.string Z1.s) ∧ X.cell? ⟨q5, 5, none⟩ = some (.slice Z1.A Z1.a Z1.u) ∧ X.cell? ⟨q5, 6, none⟩ = some (.slice Z1.B Z1.b Z1.v) ∧ X.cell? ⟨q5, 7, none⟩ = some (.slice Z1.C Z1.e Z1.w) ∧ X.cell? ⟨q5, 8, none⟩ = some (.slice Z1.D Z1.d Z1.x) ∧ X.cell? ⟨kq, 2, none⟩ = some (.string S1)) := hI fun X σ bs ts m1 m2 hX => by
      obtain ⟨a00, a01, a02, a03, a04, a05, a06, a07, a08⟩ := box9 (hX.bx (q := q5) (c := Z1.c) (m1));have a1 := (hX.bx (q := kq) (c := #[ι K1, ι O1, .string S1, ι I1]) (m2)).cell (i := 2) rfl;exact ⟨a00, a01, a02, a03, a04, a05, a06, a07, a08, a1⟩
     refine wp_region_noPanic ?_;refine wp_region_held_drew (S := fun X => X.cell? ⟨q5, 0, none⟩ = some (ι Z1.o) ∧ X.cell? ⟨q5, 1, none⟩ = some (.string Z1.t) ∧ X.cell? ⟨q5, 2, none⟩ = some (ι Z1.k) ∧ X.cell? ⟨q5, 3, none⟩ = some (ι Z1.j) ∧ X.cell? ⟨q5, 4, none⟩ = some (.string Z1.s) ∧ X.cell? ⟨q5, 5, none⟩ = some (.slice Z1.A Z1.a Z1.u) ∧ X.cell? ⟨q5, 6, none⟩ = some (.slice Z1.B Z1.b Z1.v) ∧ X.cell? ⟨q5, 7, none⟩ = some (.slice Z1.C Z1.e Z1.w) ∧ X.cell? ⟨q5, 8, none⟩ = some (.slice Z1.D Z1.d Z1.x) ∧ X.cell? ⟨kq, 2, none⟩ = some (.string S1)) (by kernel_rfl) (keep.out _ _ _ _ (by simp) (by simp) H7.out.drew) (fun hHeld => ?_);refine wpAnyH_take (i := 0) (v := ?_) rfl (by kernel_rfl) (by kernel_rfl) (by kernel_rfl) (fun _ _ _ h => h) (Or.inl ⟨by rfl, ?ytkd0⟩) (by assumption) ?_
     case ytkd0 => (intro w hSw; (try dsimp only at hSw); go_simp <;> with_reducible rfl)
     try simp only [Act.put, sA, sZ, sS]
     refine wpAnyH_take (i := 1) (v := ?_) rfl (by kernel_rfl) (by kernel_rfl) (by kernel_rfl) (fun _ _ _ h => h) (Or.inl ⟨by rfl, ?ytkd1⟩) (by assumption) ?_
     case ytkd1 => (intro w hSw; (try dsimp only at hSw); go_simp <;> with_reducible rfl)
     try simp only [Act.put, sA, sZ, sS]
     refine wpAnyH_take (i := 2) (v := ?_) rfl (by kernel_rfl) (by kernel_rfl) (by kernel_rfl) (fun _ _ _ h => h) (Or.inl ⟨by rfl, ?ytkd2⟩) (by assumption) ?_
     case ytkd2 => (intro w hSw; (try dsimp only at hSw); go_simp <;> with_reducible rfl)
     try simp only [Act.put, sA, sZ, sS]
     refine wpAnyH_take (i := 3) (v := ?_) rfl (by kernel_rfl) (by kernel_rfl) (by kernel_rfl) (fun _ _ _ h => h) (Or.inl ⟨by rfl, ?ytkd3⟩) (by assumption) ?_
     case ytkd3 => (intro w hSw; (try dsimp only at hSw); go_simp <;> with_reducible rfl)
     try simp only [Act.put, sA, sZ, sS]
     refine wpAnyH_ready (rs := [4, 7]) (by kernel_rfl) (by simp) ?_;refine .cons rfl (fun Kc hK => ?_) (.cons rfl (fun Kc hK => ?_) .nil)
     · skip;go_simp;refine (HC2.out _ H7.out.drew.r.p).mono ?_;rintro e w8 hZ;obtain ⟨Z2, rfl, hg8, hp8, hl8⟩ := fr3 hZ;have H8 := hI (H7.out.drew.call hg8 hp8 hl8);clear hg8 hp8 hl8;refine hK.out _ _ (keep.out _ _ _ _ (by simp) (by simp) H8.out) (fun hHeld => ?_);clear hK Kc
       try simp only [Act.put, sA, sZ, sS]
       refine wpAnyH_ready (rs := [5, 7]) (by kernel_rfl) (by simp) ?_;refine .cons rfl (fun Kc hK => ?_) (.cons rfl (fun Kc hK => ?_) .nil)
       · skip;go_simp;have H9 := hI (H8.out.defn 26 S1 (ps := ps) (A := A) (np := np) (c := cp) (by simp) (fs := [f, u]) (row := (Z1.cc Z2)) rfl (by simp) (LiesFL.append (LiesFL.one (H8.out.t (f, Z1.l) (by simp))) (LiesFL.one (H8.out.t (u, Z2.l) (by simp)))) (q := w8.heap.size) (by simp));refine hK.out _ _ (keep.out _ _ _ _ (by simp) (by simp) H9.out) (fun hHeld => ?_);clear hK Kc
         try simp only [Act.put, sA, sZ, sS]
         refine wpAnyH_ready (rs := [6, 7]) (by kernel_rfl) (by simp) ?_;refine .cons rfl (fun Kc hK => ?_) (.cons rfl (fun Kc hK => ?_) .nil)
         · skip;go_simp;refine (HNO.out S1 _ _).mono ?_;rintro e w10 ⟨rfl, hb10⟩;have H10 := hI (H9.out.low hb10);clear hb10;refine hK.out _ _ (keep.out _ _ _ _ (by simp) (by simp) H10.out) (fun hHeld => ?_);clear hK Kc
           try simp only [Act.put, sA, sZ, sS]
           refine wpAnyH_ready (rs := [7]) (by kernel_rfl) (by simp) ?_;refine .cons rfl (fun Kc hK => ?_) .nil;go_simp;have h56 : q5 < w10.heap.size := by have := (H10.out.bx (q := q5) (c := Z1.c) (by simp)).lt; simpa using this
           have hk6' : kq < w10.heap.size := by have := (H10.out.bx (q := kq) (c := #[ι K1, ι O1, .string S1, ι I1]) (by simp)).lt; simpa using this
           have H11 := hI (H10.out.boxAt #[ι 0, eS, ι 0, ι 0, eS, nL, nL, nL, nL] (q := w10.heap.size) (by simp));refine hK.out _ _ (keep.out _ _ _ _ (by simp) (by simp) H11.out) (fun hHeld => ?_);clear hK Kc
           try simp only [Act.put, sA, sZ, sS]
           refine wpAnyH_ready (rs := [8]) (by kernel_rfl) (by simp) ?_;refine .cons rfl (fun Kc hK => ?_) .nil;have HS0 := hI (H10.out.boxAt #[ι 26, .string S1, ι 0, ι 0, eS, nL, nL, nL, .slice (some ⟨w8.heap.size, 0, none⟩) 2 2] (q := w10.heap.size) (by simp));go_simp;refine hK.out _ _ (keep.out _ _ _ _ (by simp) (by simp) HS0.out) (fun hHeld => ?_);clear hK Kc
           try simp only [Act.put, sA, sZ, sS]
           refine wpAnyH_done (by kernel_rfl) ?_ _;refine NoPanic.normal ?_;refine hMet _ _ (Met.intro (hRJ _ _ ?_))
           (repeat apply Exists.intro)
           exact ⟨hI ⟨_, _, rfl, h56, hk6', HS0.out.only (ts' := [(Ft.mk 26 S1 vz ps [f, u], [ι 26, .string S1, ι 0, ι 0, eS, nL, nL, .slice A np cp, .slice (some ⟨w8.heap.size, 0, none⟩) 2 2])]) (by intro x hx; rw [List.mem_singleton.1 hx]; simp)⟩, rfl⟩
         · skip;go_simp;have h56 : q5 < w8.heap.size + 1 := by have := (H9.out.bx (q := q5) (c := Z1.c) (by simp)).lt; simpa using this
           have hk6' : kq < w8.heap.size + 1 := by have := (H9.out.bx (q := kq) (c := #[ι K1, ι O1, .string S1, ι I1]) (by simp)).lt; simpa using this
           have H10 := hI (H9.out.boxAt #[ι 0, eS, ι 0, ι 0, eS, nL, nL, nL, nL] (q := w8.heap.size + 1) (by simp));refine hK.out _ _ (keep.out _ _ _ _ (by simp) (by simp) H10.out) (fun hHeld => ?_);clear hK Kc
           try simp only [Act.put, sA, sZ, sS]
           refine wpAnyH_ready (rs := [6]) (by kernel_rfl) (by simp) ?_;refine .cons rfl (fun Kc hK => ?_) .nil;go_simp;refine (HNO.out S1 _ _).mono ?_;rintro e w11 ⟨rfl, hb11⟩;have H11 := hI (H10.out.low hb11);clear hb11;refine hK.out _ _ (keep.out _ _ _ _ (by simp) (by simp) H11.out) (fun hHeld => ?_);clear hK Kc
           try simp only [Act.put, sA, sZ, sS]
           refine wpAnyH_ready (rs := [8]) (by kernel_rfl) (by simp) ?_;refine .cons rfl (fun Kc hK => ?_) .nil;have x0 := box9 (H11.out.bx (q := w8.heap.size + 1) (c := #[ι 0, eS, ι 0, ι 0, eS, nL, nL, nL, nL]) (by simp));have z0 := box9f (H11.out.bx (q := w8.heap.size + 1) (c := #[ι 0, eS, ι 0, ι 0, eS, nL, nL, nL, nL]) (by simp));have hql := (H11.out.bx (q := w8.heap.size + 1) (c := #[ι 0, eS, ι 0, ι 0, eS, nL, nL, nL, nL]) (by simp)).lt;have HS0 := hI (H11.out.put9 (by intro x hx; simp at hx; rcases hx with rfl | rfl; exact Nat.ne_of_lt h56; exact Nat.ne_of_lt hk6') (ι 26) (.string S1) (ι 0) (ι 0) eS nL nL nL (.slice (some ⟨w8.heap.size, 0, none⟩) 2 2));go_simp;refine hK.out _ _ (keep.out _ _ _ _ (by simp) (by simp) HS0.out) (fun hHeld => ?_);clear hK Kc
           try simp only [Act.put, sA, sZ, sS]
           refine wpAnyH_done (by kernel_rfl) ?_ _;refine NoPanic.normal ?_;refine hMet _ _ (Met.intro (hRJ _ _ ?_))
           (repeat apply Exists.intro)
           exact ⟨hI ⟨_, _, rfl, h56, hk6', HS0.out.only (ts' := [(Ft.mk 26 S1 vz ps [f, u], [ι 26, .string S1, ι 0, ι 0, eS, nL, nL, .slice A np cp, .slice (some ⟨w8.heap.size, 0, none⟩) 2 2])]) (by intro x hx; rw [List.mem_singleton.1 hx]; simp)⟩, rfl⟩
       · skip;go_simp;have h56 : q5 < w8.heap.size := by have := (H8.out.bx (q := q5) (c := Z1.c) (by simp)).lt; simpa using this
         have hk6' : kq < w8.heap.size := by have := (H8.out.bx (q := kq) (c := #[ι K1, ι O1, .string S1, ι I1]) (by simp)).lt; simpa using this
         have H9 := hI (H8.out.boxAt #[ι 0, eS, ι 0, ι 0, eS, nL, nL, nL, nL] (q := w8.heap.size) (by simp));refine hK.out _ _ (keep.out _ _ _ _ (by simp) (by simp) H9.out) (fun hHeld => ?_);clear hK Kc
         try simp only [Act.put, sA, sZ, sS]
         refine wpAnyH_ready (rs := [5]) (by kernel_rfl) (by simp) ?_;refine .cons rfl (fun Kc hK => ?_) .nil;go_simp;have H10 := hI (H9.out.defn 26 S1 (ps := ps) (A := A) (np := np) (c := cp) (by simp) (fs := [f, u]) (row := (Z1.cc Z2)) rfl (by simp) (LiesFL.append (LiesFL.one (H9.out.t (f, Z1.l) (by simp))) (LiesFL.one (H9.out.t (u, Z2.l) (by simp)))) (q := w8.heap.size + 1) (by simp));refine hK.out _ _ (keep.out _ _ _ _ (by simp) (by simp) H10.out) (fun hHeld => ?_);clear hK Kc
         try simp only [Act.put, sA, sZ, sS]
         refine wpAnyH_ready (rs := [6]) (by kernel_rfl) (by simp) ?_;refine .cons rfl (fun Kc hK => ?_) .nil;go_simp;refine (HNO.out S1 _ _).mono ?_;rintro e w11 ⟨rfl, hb11⟩;have H11 := hI (H10.out.low hb11);clear hb11;refine hK.out _ _ (keep.out _ _ _ _ (by simp) (by simp) H11.out) (fun hHeld => ?_);clear hK Kc
         try simp only [Act.put, sA, sZ, sS]
         refine wpAnyH_ready (rs := [8]) (by kernel_rfl) (by simp) ?_;refine .cons rfl (fun Kc hK => ?_) .nil;have x0 := box9 (H11.out.bx (q := w8.heap.size) (c := #[ι 0, eS, ι 0, ι 0, eS, nL, nL, nL, nL]) (by simp));have z0 := box9f (H11.out.bx (q := w8.heap.size) (c := #[ι 0, eS, ι 0, ι 0, eS, nL, nL, nL, nL]) (by simp));have hql := (H11.out.bx (q := w8.heap.size) (c := #[ι 0, eS, ι 0, ι 0, eS, nL, nL, nL, nL]) (by simp)).lt;have HS0 := hI (H11.out.put9 (by intro x hx; simp at hx; rcases hx with rfl | rfl; exact Nat.ne_of_lt h56; exact Nat.ne_of_lt hk6') (ι 26) (.string S1) (ι 0) (ι 0) eS nL nL nL (.slice (some ⟨w8.heap.size + 1, 0, none⟩) 2 2));go_simp;refine hK.out _ _ (keep.out _ _ _ _ (by simp) (by simp) HS0.out) (fun hHeld => ?_);clear hK Kc
         try simp only [Act.put, sA, sZ, sS]
         refine wpAnyH_done (by kernel_rfl) ?_ _;refine NoPanic.normal ?_;refine hMet _ _ (Met.intro (hRJ _ _ ?_))
         (repeat apply Exists.intro)
         exact ⟨hI ⟨_, _, rfl, h56, hk6', HS0.out.only (ts' := [(Ft.mk 26 S1 vz ps [f, u], [ι 26, .string S1, ι 0, ι 0, eS, nL, nL, .slice A np cp, .slice (some ⟨w8.heap.size + 1, 0, none⟩) 2 2])]) (by intro x hx; rw [List.mem_singleton.1 hx]; simp)⟩, rfl⟩
     · skip;go_simp;have h56 : q5 < w7.heap.size := by have := (H7.out.bx (q := q5) (c := Z1.c) (by simp)).lt; simpa using this
       have hk6' : kq < w7.heap.size := by have := (H7.out.bx (q := kq) (c := #[ι K1, ι O1, .string S1, ι I1]) (by simp)).lt; simpa using this
       have H8 := hI (H7.out.drew.boxAt #[ι 0, eS, ι 0, ι 0, eS, nL, nL, nL, nL] (q := w7.heap.size) (by simp));refine hK.out _ _ (keep.out _ _ _ _ (by simp) (by simp) H8.out) (fun hHeld => ?_);clear hK Kc
       try simp only [Act.put, sA, sZ, sS]
       refine wpAnyH_ready (rs := [4]) (by kernel_rfl) (by simp) ?_;refine .cons rfl (fun Kc hK => ?_) .nil;go_simp;refine (HC2.out _ H8.out.r.p).mono ?_;rintro e w9 hZ;obtain ⟨Z2, rfl, hg9, hp9, hl9⟩ := fr3 hZ;have H9 := hI (H8.out.call hg9 hp9 hl9);clear hg9 hp9 hl9;refine hK.out _ _ (keep.out _ _ _ _ (by simp) (by simp) H9.out) (fun hHeld => ?_);clear hK Kc
       try simp only [Act.put, sA, sZ, sS]
       refine wpAnyH_ready (rs := [5]) (by kernel_rfl) (by simp) ?_;refine .cons rfl (fun Kc hK => ?_) .nil;go_simp;have H10 := hI (H9.out.defn 26 S1 (ps := ps) (A := A) (np := np) (c := cp) (by simp) (fs := [f, u]) (row := (Z1.cc Z2)) rfl (by simp) (LiesFL.append (LiesFL.one (H9.out.t (f, Z1.l) (by simp))) (LiesFL.one (H9.out.t (u, Z2.l) (by simp)))) (q := w9.heap.size) (by simp));refine hK.out _ _ (keep.out _ _ _ _ (by simp) (by simp) H10.out) (fun hHeld => ?_);clear hK Kc
       try simp only [Act.put, sA, sZ, sS]
       refine wpAnyH_ready (rs := [6]) (by kernel_rfl) (by simp) ?_;refine .cons rfl (fun Kc hK => ?_) .nil;go_simp;refine (HNO.out S1 _ _).mono ?_;rintro e w11 ⟨rfl, hb11⟩;have H11 := hI (H10.out.low hb11);clear hb11;refine hK.out _ _ (keep.out _ _ _ _ (by simp) (by simp) H11.out) (fun hHeld => ?_);clear hK Kc
       try simp only [Act.put, sA, sZ, sS]
       refine wpAnyH_ready (rs := [8]) (by kernel_rfl) (by simp) ?_;refine .cons rfl (fun Kc hK => ?_) .nil;have x0 := box9 (H11.out.bx (q := w7.heap.size) (c := #[ι 0, eS, ι 0, ι 0, eS, nL, nL, nL, nL]) (by simp));have z0 := box9f (H11.out.bx (q := w7.heap.size) (c := #[ι 0, eS, ι 0, ι 0, eS, nL, nL, nL, nL]) (by simp));have hql := (H11.out.bx (q := w7.heap.size) (c := #[ι 0, eS, ι 0, ι 0, eS, nL, nL, nL, nL]) (by simp)).lt;have HS0 := hI (H11.out.put9 (by intro x hx; simp at hx; rcases hx with rfl | rfl; exact Nat.ne_of_lt h56; exact Nat.ne_of_lt hk6') (ι 26) (.string S1) (ι 0) (ι 0) eS nL nL nL (.slice (some ⟨w9.heap.size, 0, none⟩) 2 2));go_simp;refine hK.out _ _ (keep.out _ _ _ _ (by simp) (by simp) HS0.out) (fun hHeld => ?_);clear hK Kc
       try simp only [Act.put, sA, sZ, sS]
       refine wpAnyH_done (by kernel_rfl) ?_ _;refine NoPanic.normal ?_;refine hMet _ _ (Met.intro (hRJ _ _ ?_))
       (repeat apply Exists.intro)
       exact ⟨hI ⟨_, _, rfl, h56, hk6', HS0.out.only (ts' := [(Ft.mk 26 S1 vz ps [f, u], [ι 26, .string S1, ι 0, ι 0, eS, nL, nL, .slice A np cp, .slice (some ⟨w9.heap.size, 0, none⟩) 2 2])]) (by intro x hx; rw [List.mem_singleton.1 hx]; simp)⟩, rfl⟩
    case rest =>
     obtain ⟨q6, h6, rfl, h56, hk6', hS⟩ := hcut.out;have H8 := hI hS;clear hS hcut H7;have H9 := hI (H8.out.set (by intro x hx; simp at hx; rcases hx with rfl | rfl; exact Nat.ne_of_lt h56; exact Nat.ne_of_lt hk6') 7 (.slice A np cp) rfl);have y0 := box9 (H8.out.bx (q := q6) (c := #[ι 26, .string S1, ι 0, ι 0, eS, nL, nL, nL, .slice (some ⟨h6, 0, none⟩) 2 2]) (by simp));have f7 := (H8.out.bx (q := q6) (c := #[ι 26, .string S1, ι 0, ι 0, eS, nL, nL, nL, .slice (some ⟨h6, 0, none⟩) 2 2]) (by simp)).free 7;have hltq := (H8.out.bx (q := q6) (c := #[ι 26, .string S1, ι 0, ι 0, eS, nL, nL, nL, .slice (some ⟨h6, 0, none⟩) 2 2]) (by simp)).lt;have h0q := (H8.out.b (q6, #[ι 26, .string S1, ι 0, ι 0, eS, nL, nL, nL, .slice (some ⟨h6, 0, none⟩) 2 2]) (by simp)).1;dsimp only at h0q;have x0 := H8.out.r.cells;go_wp2_with fail;refine post9 Tryz.results159 rfl rfl (H9.out.r.r.put9z _ _ _ _ _ _ _ _ _) ?_;exact retF_of (H9.out.close (by first | exact mC | simp))
   | true =>
    have hcd := hcnd;rw [Bool.and_eq_true, Bool.and_eq_true] at hcd;have HLP : longP ps O1 σ2 = { σ2 with long := O1 + 1 } := by
     unfold longP;rw [if_pos ⟨by simpa using hcd.1, by rw [HNP.out]; exact of_decide_eq_true hcd.2.1, of_decide_eq_true hcd.2.2⟩]
    rw [HLP] at HC;clear HLP hcnd hcd;have hO9 : (O1 : Int) ≤ 8192 := by omega
    have hO0 : (0 : Int) ≤ (O1 : Int) := by omega
    have H4 : Hid (St noS L gt C g W (wc.setCell ⟨g, 3, none⟩ (ι ((O1 : Int) + 1))) { σ2 with long := O1 + 1 } [(kq, #[ι K1, ι O1, .string S1, ι I1])] _) := hI (H3.out.next ((Gr.refl g _).set 3 _) (H3.out.r.p.own 3 _ H3.out.r.p.lt (by unfold pcells; show (#[_, _, _, _] : Array Value) = _; rw [show ((O1 + 1 : Nat) : Int) = (O1 : Int) + 1 by omega])));obtain ⟨⟨b0, b1, b2, b3⟩, f0, f1, f2, f3⟩ := box4' H3.out.r.p.box;have hlg := H3.out.r.p.glt;obtain ⟨⟨k0, k1, k2, k3⟩, -⟩ := box4' (H3.out.bx (q := kq) (c := #[ι K1, ι O1, .string S1, ι I1]) (by simp));clear H3;go_wp2_with fail;refine (HN.out _ _ H4.out.r.p).mono ?_;rintro e w5 ⟨rfl, hg5, hp5⟩;have H5 := hI (H4.out.next hg5 hp5);clear hg5 hp5;go_wp2_with fail;refine (HC.out _ H5.out.r.p).mono ?_;rintro e w6 hZ;obtain ⟨Z1, rfl, hg6, hp6, hl6⟩ := fr3 hZ;have H6 := hI ((H5.out.call hg6 hp6 hl6).box Z1.c);have HGS6 := hI hg6.size;clear hg6 hp6 hl6;have hk6 : kq < w6.heap.size := nT (H5.out.bx (q := kq) (c := #[ι K1, ι O1, .string S1, ι I1]) (by simp)).lt HGS6.out;go_wp2_with fail;refine (HN2.out _ H6.out.r.p).mono ?_;rintro e w7 ⟨rfl, hg7, hp7⟩;have H7 := hI (H6.out.next hg7 hp7);clear hg7 hp7;go_upto_region 13 with (fail)
    generalize w6.heap.size = q5 at H7 hk6 ⊢
    go_cut [6] (fun t6 wx => Hid (DeSt L gt C g W σ4 q5 kq Z1.c #[ι K1, ι O1, .string S1, ι I1] S1 ps [f, u] A np cp t6 wx))
    case first =>
     rename_i Jm Km hRJ hMet
     have keep : Hid (∀ X σ bs ts, (q5, Z1.c) ∈ bs → (kq, #[ι K1, ι O1, .string S1, ι I1]) ∈ bs → St noS L gt C g W X σ bs ts → X.cell? ⟨q5, 0, none⟩ = some (ι Z1.o) ∧ X.cell? ⟨q5, 1, none⟩ = some (.string Z1.t) ∧ X.cell? ⟨q5, 2, none⟩ = some (ι Z1.k) ∧ X.cell? ⟨q5, 3, none⟩ = some (ι Z1.j) ∧ X.cell? ⟨q5, 4, none⟩ = some (.string Z1.s) ∧ X.cell? ⟨q5, 5, none⟩ = some (.slice Z1.A Z1.a Z1.u) ∧ X.cell? ⟨q5, 6, none⟩ = some (.slice Z1.B Z1.b Z1.v) ∧ X.cell? ⟨q5, 7, none⟩ = some (.slice Z1.C Z1.e Z1.w) ∧ X.cell? ⟨q5, 8, none⟩ = some (.slice Z1.D Z1.d Z1.x) ∧ X.cell? ⟨kq, 2, none⟩ = some (.string S1)) := hI fun X σ bs ts m1 m2 hX => by
      obtain ⟨a00, a01, a02, a03, a04, a05, a06, a07, a08⟩ := box9 (hX.bx (q := q5) (c := Z1.c) (m1));have a1 := (hX.bx (q := kq) (c := #[ι K1, ι O1, .string S1, ι I1]) (m2)).cell (i := 2) rfl;exact ⟨a00, a01, a02, a03, a04, a05, a06, a07, a08, a1⟩
     refine wp_region_noPanic ?_;refine wp_region_held_drew (S := fun X => X.cell? ⟨q5, 0, none⟩ = some (ι Z1.o) ∧ X.cell? ⟨q5, 1, none⟩ = some (.string Z1.t) ∧ X.cell? ⟨q5, 2, none⟩ = some (ι Z1.k) ∧ X.cell? ⟨q5, 3, none⟩ = some (ι Z1.j) ∧ X.cell? ⟨q5, 4, none⟩ = some (.string Z1.s) ∧ X.cell? ⟨q5, 5, none⟩ = some (.slice Z1.A Z1.a Z1.u) ∧ X.cell? ⟨q5, 6, none⟩ = some (.slice Z1.B Z1.b Z1.v) ∧ X.cell? ⟨q5, 7, none⟩ = some (.slice Z1.C Z1.e Z1.w) ∧ X.cell? ⟨q5, 8, none⟩ = some (.slice Z1.D Z1.d Z1.x) ∧ X.cell? ⟨kq, 2, none⟩ = some (.string S1)) (by kernel_rfl) (keep.out _ _ _ _ (by simp) (by simp) H7.out.drew) (fun hHeld => ?_);refine wpAnyH_take (i := 0) (v := ?_) rfl (by kernel_rfl) (by kernel_rfl) (by kernel_rfl) (fun _ _ _ h => h) (Or.inl ⟨by rfl, ?ytkd0⟩) (by assumption) ?_
     case ytkd0 => (intro w hSw; (try dsimp only at hSw); go_simp <;> with_reducible rfl)
     try simp only [Act.put, sA, sZ, sS]
     refine wpAnyH_take (i := 1) (v := ?_) rfl (by kernel_rfl) (by kernel_rfl) (by kernel_rfl) (fun _ _ _ h => h) (Or.inl ⟨by rfl, ?ytkd1⟩) (by assumption) ?_
     case ytkd1 => (intro w hSw; (try dsimp only at hSw); go_simp <;> with_reducible rfl)
     try simp only [Act.put, sA, sZ, sS]
     refine wpAnyH_take (i := 2) (v := ?_) rfl (by kernel_rfl) (by kernel_rfl) (by kernel_rfl) (fun _ _ _ h => h) (Or.inl ⟨by rfl, ?ytkd2⟩) (by assumption) ?_
     case ytkd2 => (intro w hSw; (try dsimp only at hSw); go_simp <;> with_reducible rfl)
     try simp only [Act.put, sA, sZ, sS]
     refine wpAnyH_take (i := 3) (v := ?_) rfl (by kernel_rfl) (by kernel_rfl) (by kernel_rfl) (fun _ _ _ h => h) (Or.inl ⟨by rfl, ?ytkd3⟩) (by assumption) ?_
     case ytkd3 => (intro w hSw; (try dsimp only at hSw); go_simp <;> with_reducible rfl)
     try simp only [Act.put, sA, sZ, sS]
     refine wpAnyH_ready (rs := [4, 7]) (by kernel_rfl) (by simp) ?_;refine .cons rfl (fun Kc hK => ?_) (.cons rfl (fun Kc hK => ?_) .nil)
     · skip;go_simp;refine (HC2.out _ H7.out.drew.r.p).mono ?_;rintro e w8 hZ;obtain ⟨Z2, rfl, hg8, hp8, hl8⟩ := fr3 hZ;have H8 := hI (H7.out.drew.call hg8 hp8 hl8);clear hg8 hp8 hl8;refine hK.out _ _ (keep.out _ _ _ _ (by simp) (by simp) H8.out) (fun hHeld => ?_);clear hK Kc
       try simp only [Act.put, sA, sZ, sS]
       refine wpAnyH_ready (rs := [5, 7]) (by kernel_rfl) (by simp) ?_;refine .cons rfl (fun Kc hK => ?_) (.cons rfl (fun Kc hK => ?_) .nil)
       · skip;go_simp;have H9 := hI (H8.out.defn 26 S1 (ps := ps) (A := A) (np := np) (c := cp) (by simp) (fs := [f, u]) (row := (Z1.cc Z2)) rfl (by simp) (LiesFL.append (LiesFL.one (H8.out.t (f, Z1.l) (by simp))) (LiesFL.one (H8.out.t (u, Z2.l) (by simp)))) (q := w8.heap.size) (by simp));refine hK.out _ _ (keep.out _ _ _ _ (by simp) (by simp) H9.out) (fun hHeld => ?_);clear hK Kc
         try simp only [Act.put, sA, sZ, sS]
         refine wpAnyH_ready (rs := [6, 7]) (by kernel_rfl) (by simp) ?_;refine .cons rfl (fun Kc hK => ?_) (.cons rfl (fun Kc hK => ?_) .nil)
         · skip;go_simp;refine (HNO.out S1 _ _).mono ?_;rintro e w10 ⟨rfl, hb10⟩;have H10 := hI (H9.out.low hb10);clear hb10;refine hK.out _ _ (keep.out _ _ _ _ (by simp) (by simp) H10.out) (fun hHeld => ?_);clear hK Kc
           try simp only [Act.put, sA, sZ, sS]
           refine wpAnyH_ready (rs := [7]) (by kernel_rfl) (by simp) ?_;refine .cons rfl (fun Kc hK => ?_) .nil;go_simp;have h56 : q5 < w10.heap.size := by have := (H10.out.bx (q := q5) (c := Z1.c) (by simp)).lt; simpa using this
           have hk6' : kq < w10.heap.size := by have := (H10.out.bx (q := kq) (c := #[ι K1, ι O1, .string S1, ι I1]) (by simp)).lt; simpa using this
           have H11 := hI (H10.out.boxAt #[ι 0, eS, ι 0, ι 0, eS, nL, nL, nL, nL] (q := w10.heap.size) (by simp));refine hK.out _ _ (keep.out _ _ _ _ (by simp) (by simp) H11.out) (fun hHeld => ?_);clear hK Kc
           try simp only [Act.put, sA, sZ, sS]
           refine wpAnyH_ready (rs := [8]) (by kernel_rfl) (by simp) ?_;refine .cons rfl (fun Kc hK => ?_) .nil;have HS0 := hI (H10.out.boxAt #[ι 26, .string S1, ι 0, ι 0, eS, nL, nL, nL, .slice (some ⟨w8.heap.size, 0, none⟩) 2 2] (q := w10.heap.size) (by simp));go_simp;refine hK.out _ _ (keep.out _ _ _ _ (by simp) (by simp) HS0.out) (fun hHeld => ?_);clear hK Kc
           try simp only [Act.put, sA, sZ, sS]
           refine wpAnyH_done (by kernel_rfl) ?_ _;refine NoPanic.normal ?_;refine hMet _ _ (Met.intro (hRJ _ _ ?_))
           (repeat apply Exists.intro)
           exact ⟨hI ⟨_, _, rfl, h56, hk6', HS0.out.only (ts' := [(Ft.mk 26 S1 vz ps [f, u], [ι 26, .string S1, ι 0, ι 0, eS, nL, nL, .slice A np cp, .slice (some ⟨w8.heap.size, 0, none⟩) 2 2])]) (by intro x hx; rw [List.mem_singleton.1 hx]; simp)⟩, rfl⟩
         · skip;go_simp;have h56 : q5 < w8.heap.size + 1 := by have := (H9.out.bx (q := q5) (c := Z1.c) (by simp)).lt; simpa using this
           have hk6' : kq < w8.heap.size + 1 := by have := (H9.out.bx (q := kq) (c := #[ι K1, ι O1, .string S1, ι I1]) (by simp)).lt; simpa using this
           have H10 := hI (H9.out.boxAt #[ι 0, eS, ι 0, ι 0, eS, nL, nL, nL, nL] (q := w8.heap.size + 1) (by simp));refine hK.out _ _ (keep.out _ _ _ _ (by simp) (by simp) H10.out) (fun hHeld => ?_);clear hK Kc
           try simp only [Act.put, sA, sZ, sS]
           refine wpAnyH_ready (rs := [6]) (by kernel_rfl) (by simp) ?_;refine .cons rfl (fun Kc hK => ?_) .nil;go_simp;refine (HNO.out S1 _ _).mono ?_;rintro e w11 ⟨rfl, hb11⟩;have H11 := hI (H10.out.low hb11);clear hb11;refine hK.out _ _ (keep.out _ _ _ _ (by simp) (by simp) H11.out) (fun hHeld => ?_);clear hK Kc
           try simp only [Act.put, sA, sZ, sS]
           refine wpAnyH_ready (rs := [8]) (by kernel_rfl) (by simp) ?_;refine .cons rfl (fun Kc hK => ?_) .nil;have x0 := box9 (H11.out.bx (q := w8.heap.size + 1) (c := #[ι 0, eS, ι 0, ι 0, eS, nL, nL, nL, nL]) (by simp));have z0 := box9f (H11.out.bx (q := w8.heap.size + 1) (c := #[ι 0, eS, ι 0, ι 0, eS, nL, nL, nL, nL]) (by simp));have hql := (H11.out.bx (q := w8.heap.size + 1) (c := #[ι 0, eS, ι 0, ι 0, eS, nL, nL, nL, nL]) (by simp)).lt;have HS0 := hI (H11.out.put9 (by intro x hx; simp at hx; rcases hx with rfl | rfl; exact Nat.ne_of_lt h56; exact Nat.ne_of_lt hk6') (ι 26) (.string S1) (ι 0) (ι 0) eS nL nL nL (.slice (some ⟨w8.heap.size, 0, none⟩) 2 2));go_simp;refine hK.out _ _ (keep.out _ _ _ _ (by simp) (by simp) HS0.out) (fun hHeld => ?_);clear hK Kc
           try simp only [Act.put, sA, sZ, sS]
           refine wpAnyH_done (by kernel_rfl) ?_ _;refine NoPanic.normal ?_;refine hMet _ _ (Met.intro (hRJ _ _ ?_))
           (repeat apply Exists.intro)
           exact ⟨hI ⟨_, _, rfl, h56, hk6', HS0.out.only (ts' := [(Ft.mk 26 S1 vz ps [f, u], [ι 26, .string S1, ι 0, ι 0, eS, nL, nL, .slice A np cp, .slice (some ⟨w8.heap.size, 0, none⟩) 2 2])]) (by intro x hx; rw [List.mem_singleton.1 hx]; simp)⟩, rfl⟩
       · skip;go_simp;have h56 : q5 < w8.heap.size := by have := (H8.out.bx (q := q5) (c := Z1.c) (by simp)).lt; simpa using this
         have hk6' : kq < w8.heap.size := by have := (H8.out.bx (q := kq) (c := #[ι K1, ι O1, .string S1, ι I1]) (by simp)).lt; simpa using this
         have H9 := hI (H8.out.boxAt #[ι 0, eS, ι 0, ι 0, eS, nL, nL, nL, nL] (q := w8.heap.size) (by simp));refine hK.out _ _ (keep.out _ _ _ _ (by simp) (by simp) H9.out) (fun hHeld => ?_);clear hK Kc
         try simp only [Act.put, sA, sZ, sS]
         refine wpAnyH_ready (rs := [5]) (by kernel_rfl) (by simp) ?_;refine .cons rfl (fun Kc hK => ?_) .nil;go_simp;have H10 := hI (H9.out.defn 26 S1 (ps := ps) (A := A) (np := np) (c := cp) (by simp) (fs := [f, u]) (row := (Z1.cc Z2)) rfl (by simp) (LiesFL.append (LiesFL.one (H9.out.t (f, Z1.l) (by simp))) (LiesFL.one (H9.out.t (u, Z2.l) (by simp)))) (q := w8.heap.size + 1) (by simp));refine hK.out _ _ (keep.out _ _ _ _ (by simp) (by simp) H10.out) (fun hHeld => ?_);clear hK Kc
         try simp only [Act.put, sA, sZ, sS]
         refine wpAnyH_ready (rs := [6]) (by kernel_rfl) (by simp) ?_;refine .cons rfl (fun Kc hK => ?_) .nil;go_simp;refine (HNO.out S1 _ _).mono ?_;rintro e w11 ⟨rfl, hb11⟩;have H11 := hI (H10.out.low hb11);clear hb11;refine hK.out _ _ (keep.out _ _ _ _ (by simp) (by simp) H11.out) (fun hHeld => ?_);clear hK Kc
         try simp only [Act.put, sA, sZ, sS]
         refine wpAnyH_ready (rs := [8]) (by kernel_rfl) (by simp) ?_;refine .cons rfl (fun Kc hK => ?_) .nil;have x0 := box9 (H11.out.bx (q := w8.heap.size) (c := #[ι 0, eS, ι 0, ι 0, eS, nL, nL, nL, nL]) (by simp));have z0 := box9f (H11.out.bx (q := w8.heap.size) (c := #[ι 0, eS, ι 0, ι 0, eS, nL, nL, nL, nL]) (by simp));have hql := (H11.out.bx (q := w8.heap.size) (c := #[ι 0, eS, ι 0, ι 0, eS, nL, nL, nL, nL]) (by simp)).lt;have HS0 := hI (H11.out.put9 (by intro x hx; simp at hx; rcases hx with rfl | rfl; exact Nat.ne_of_lt h56; exact Nat.ne_of_lt hk6') (ι 26) (.string S1) (ι 0) (ι 0) eS nL nL nL (.slice (some ⟨w8.heap.size + 1, 0, none⟩) 2 2));go_simp;refine hK.out _ _ (keep.out _ _ _ _ (by simp) (by simp) HS0.out) (fun hHeld => ?_);clear hK Kc
         try simp only [Act.put, sA, sZ, sS]
         refine wpAnyH_done (by kernel_rfl) ?_ _;refine NoPanic.normal ?_;refine hMet _ _ (Met.intro (hRJ _ _ ?_))
         (repeat apply Exists.intro)
         exact ⟨hI ⟨_, _, rfl, h56, hk6', HS0.out.only (ts' := [(Ft.mk 26 S1 vz ps [f, u], [ι 26, .string S1, ι 0, ι 0, eS, nL, nL, .slice A np cp, .slice (some ⟨w8.heap.size + 1, 0, none⟩) 2 2])]) (by intro x hx; rw [List.mem_singleton.1 hx]; simp)⟩, rfl⟩
     · skip;go_simp;have h56 : q5 < w7.heap.size := by have := (H7.out.bx (q := q5) (c := Z1.c) (by simp)).lt; simpa using this
       have hk6' : kq < w7.heap.size := by have := (H7.out.bx (q := kq) (c := #[ι K1, ι O1, .string S1, ι I1]) (by simp)).lt; simpa using this
       have H8 := hI (H7.out.drew.boxAt #[ι 0, eS, ι 0, ι 0, eS, nL, nL, nL, nL] (q := w7.heap.size) (by simp));refine hK.out _ _ (keep.out _ _ _ _ (by simp) (by simp) H8.out) (fun hHeld => ?_);clear hK Kc
       try simp only [Act.put, sA, sZ, sS]
       refine wpAnyH_ready (rs := [4]) (by kernel_rfl) (by simp) ?_;refine .cons rfl (fun Kc hK => ?_) .nil;go_simp;refine (HC2.out _ H8.out.r.p).mono ?_;rintro e w9 hZ;obtain ⟨Z2, rfl, hg9, hp9, hl9⟩ := fr3 hZ;have H9 := hI (H8.out.call hg9 hp9 hl9);clear hg9 hp9 hl9;refine hK.out _ _ (keep.out _ _ _ _ (by simp) (by simp) H9.out) (fun hHeld => ?_);clear hK Kc
       try simp only [Act.put, sA, sZ, sS]
       refine wpAnyH_ready (rs := [5]) (by kernel_rfl) (by simp) ?_;refine .cons rfl (fun Kc hK => ?_) .nil;go_simp;have H10 := hI (H9.out.defn 26 S1 (ps := ps) (A := A) (np := np) (c := cp) (by simp) (fs := [f, u]) (row := (Z1.cc Z2)) rfl (by simp) (LiesFL.append (LiesFL.one (H9.out.t (f, Z1.l) (by simp))) (LiesFL.one (H9.out.t (u, Z2.l) (by simp)))) (q := w9.heap.size) (by simp));refine hK.out _ _ (keep.out _ _ _ _ (by simp) (by simp) H10.out) (fun hHeld => ?_);clear hK Kc
       try simp only [Act.put, sA, sZ, sS]
       refine wpAnyH_ready (rs := [6]) (by kernel_rfl) (by simp) ?_;refine .cons rfl (fun Kc hK => ?_) .nil;go_simp;refine (HNO.out S1 _ _).mono ?_;rintro e w11 ⟨rfl, hb11⟩;have H11 := hI (H10.out.low hb11);clear hb11;refine hK.out _ _ (keep.out _ _ _ _ (by simp) (by simp) H11.out) (fun hHeld => ?_);clear hK Kc
       try simp only [Act.put, sA, sZ, sS]
       refine wpAnyH_ready (rs := [8]) (by kernel_rfl) (by simp) ?_;refine .cons rfl (fun Kc hK => ?_) .nil;have x0 := box9 (H11.out.bx (q := w7.heap.size) (c := #[ι 0, eS, ι 0, ι 0, eS, nL, nL, nL, nL]) (by simp));have z0 := box9f (H11.out.bx (q := w7.heap.size) (c := #[ι 0, eS, ι 0, ι 0, eS, nL, nL, nL, nL]) (by simp));have hql := (H11.out.bx (q := w7.heap.size) (c := #[ι 0, eS, ι 0, ι 0, eS, nL, nL, nL, nL]) (by simp)).lt;have HS0 := hI (H11.out.put9 (by intro x hx; simp at hx; rcases hx with rfl | rfl; exact Nat.ne_of_lt h56; exact Nat.ne_of_lt hk6') (ι 26) (.string S1) (ι 0) (ι 0) eS nL nL nL (.slice (some ⟨w9.heap.size, 0, none⟩) 2 2));go_simp;refine hK.out _ _ (keep.out _ _ _ _ (by simp) (by simp) HS0.out) (fun hHeld => ?_);clear hK Kc
       try simp only [Act.put, sA, sZ, sS]
       refine wpAnyH_done (by kernel_rfl) ?_ _;refine NoPanic.normal ?_;refine hMet _ _ (Met.intro (hRJ _ _ ?_))
       (repeat apply Exists.intro)
       exact ⟨hI ⟨_, _, rfl, h56, hk6', HS0.out.only (ts' := [(Ft.mk 26 S1 vz ps [f, u], [ι 26, .string S1, ι 0, ι 0, eS, nL, nL, .slice A np cp, .slice (some ⟨w9.heap.size, 0, none⟩) 2 2])]) (by intro x hx; rw [List.mem_singleton.1 hx]; simp)⟩, rfl⟩
    case rest =>
     obtain ⟨q6, h6, rfl, h56, hk6', hS⟩ := hcut.out;have H8 := hI hS;clear hS hcut H7;have H9 := hI (H8.out.set (by intro x hx; simp at hx; rcases hx with rfl | rfl; exact Nat.ne_of_lt h56; exact Nat.ne_of_lt hk6') 7 (.slice A np cp) rfl);have y0 := box9 (H8.out.bx (q := q6) (c := #[ι 26, .string S1, ι 0, ι 0, eS, nL, nL, nL, .slice (some ⟨h6, 0, none⟩) 2 2]) (by simp));have f7 := (H8.out.bx (q := q6) (c := #[ι 26, .string S1, ι 0, ι 0, eS, nL, nL, nL, .slice (some ⟨h6, 0, none⟩) 2 2]) (by simp)).free 7;have hltq := (H8.out.bx (q := q6) (c := #[ι 26, .string S1, ι 0, ι 0, eS, nL, nL, nL, .slice (some ⟨h6, 0, none⟩) 2 2]) (by simp)).lt;have h0q := (H8.out.b (q6, #[ι 26, .string S1, ι 0, ι 0, eS, nL, nL, nL, .slice (some ⟨h6, 0, none⟩) 2 2]) (by simp)).1;dsimp only at h0q;have x0 := H8.out.r.cells;go_wp2_with fail;refine post9 Tryz.results159 rfl rfl (H9.out.r.r.put9z _ _ _ _ _ _ _ _ _) ?_;exact retF_of (H9.out.close (by first | exact mC | simp))

import Derived.Test.YtoleoimmpggldaaGreatDoorRU
set_option linter.unusedVariables false
set_option linter.unusedSimpArgs false
set_option linter.unusedSectionVars false
set_option maxHeartbeats 10000000
set_option maxRecDepth 100000
namespace Go.Proofs.YtoleoimmpggldaaGreatDoor.Rx
open Go.RowKit
theorem any_sees {L : List Fk} {xs : List ByteArray} {σ : PS} : anyP L xs σ = true ↔ ∃ x ∈ xs, sees L x σ = true := by
 unfold anyP sees memB
 constructor
 · intro h;rw [Bool.and_eq_true, Bool.and_eq_true, List.any_eq_true] at h;obtain ⟨h1, h2, x, hx, h3⟩ := h;exact ⟨x, hx, by rw [h1, h2, decide_eq_true (of_decide_eq_true h3).symm]; rfl⟩
 · rintro ⟨x, hx, h⟩;rw [Bool.and_eq_true, Bool.and_eq_true] at h;obtain ⟨h1, h2, h3⟩ := h;rw [h1, h2, Bool.true_and, Bool.true_and, List.any_eq_true];exact ⟨x, hx, decide_eq_true (of_decide_eq_true h3).symm⟩
theorem sees_s {L : List Fk} {x : ByteArray} {σ : PS} (h : sees L x σ = true) : (tk L σ.k).s = x := by
 unfold sees at h;rw [Bool.and_eq_true, Bool.and_eq_true] at h;exact of_decide_eq_true h.2.2
def OnePost (L : List Fk) (gt C g : Nat) (w : World) (b : Bool) (s : ByteArray) (τ : PS) (e : Ending) (w' : World) : Prop := e = .returned (.string (if b = true then s else ⟨#[]⟩)) ∧ Gr g w w' ∧ PAt L gt C g w' τ
theorem oneOf_any {L : List Fk} (hL : TokL L) {gt C g : Nat} {w : World} {σ : PS} (h : Nat) (xs : List ByteArray) (hr : StrRow w h xs) (hng : h ≠ g) (hl : xs.length ≤ 100) (b : Bool) (hb : anyP L xs σ = b) (hP : PAt L gt C g w σ) :
 Calls Tryz.prog 80 #[.pointer (some ⟨g, 0, none⟩), .slice (some ⟨h, 0, none⟩) xs.length xs.length] w (OnePost L gt C g w b (tk L σ.k).s (if b = true then adv σ else σ)) := by
 have HR := hI hr;have HP := hI hP;have HB := hI hb;have HT := hI (fun W x c (hc : sees L x σ = c) (h : PAt L gt C g W σ) => take_any hL x c hc h);obtain ⟨υ, hυ⟩ : ∃ υ, (if b = true then adv σ else σ) = υ := ⟨_, rfl⟩
 rw [hυ];have HU0 := hI hυ;clear hr hP hb hυ
 go_enter Tryz.func80, Tryz.ntmps80
 go_wp2_with fail
 go_loopg [5] xs.length (fun gg s5 wr => ∃ k : Nat, k ≤ xs.length ∧ xs.length - k ≤ gg ∧ s5 = ι k ∧ Hid (Gr g w wr ∧ PAt L gt C g wr σ ∧ ∀ (j : Nat) (u : ByteArray), j < k → xs[j]? = some u → sees L u σ = false))
 case atStart => exact ⟨0, Nat.zero_le _, by omega, rfl, hI ⟨Gr.refl _ _, HP.out, fun j p hj => absurd hj (Nat.not_lt_zero _)⟩⟩
 case round =>
  obtain ⟨k, hk, hg, rfl, HI⟩ := hrel
  by_cases hlt : k < xs.length
  · obtain ⟨u, hu⟩ : ∃ u, xs[k]? = some u := ⟨_, List.getElem?_eq_getElem hlt⟩
    have HU := hI hu;have hc := (HR.out.gr HI.out.1 hng).2 k u hu;have hk0 : (0 : Int) ≤ (k : Int) := by omega
    have hkl : (k : Int) < (xs.length : Int) := by omega
    clear hu;obtain ⟨c, hc1⟩ : ∃ c, sees L u σ = c := ⟨_, rfl⟩
    have HC := hI hc1;clear hc1;go_wp2_with fail;refine (HT.out _ u c HC.out HI.out.2.1).mono ?_;rintro e w1 ⟨rfl, hg1, hp1⟩
    cases c with
    | true =>
     have e1 : b = true := HB.out ▸ any_sees.2 ⟨u, List.mem_of_getElem? HU.out, HC.out⟩
     have hs := sees_s HC.out;subst e1;have hc2 := (HR.out.gr (HI.out.1.trans hg1) hng).2 k u HU.out;have H1 := hI (And.intro (HI.out.1.trans hg1) hp1);clear hg1 hp1;go_wp2_with fail
     (try simp only [Exit.inBlock, Exit.then])
     go_ret
     exact ⟨by rw [if_pos rfl, hs]; rfl, H1.out.1, by rw [← HU0.out]; exact H1.out.2⟩
    | false =>
     have H1 : Hid (Gr g w w1 ∧ PAt L gt C g w1 σ) := hI (And.intro (HI.out.1.trans hg1) hp1);clear hg1 hp1;go_wp2_with fail
     go_roundg (xs.length - (k + 1))
     case measure => omega
     case rel =>
      refine ⟨k + 1, hlt, by omega, by go_num, hI ⟨H1.out.1, H1.out.2, fun j u' hj hu' => ?_⟩⟩
      by_cases e : j = k
      · subst e;rw [HU.out] at hu';injection hu' with hu'
        exact hu' ▸ HC.out
      · exact HI.out.2.2 j u' (by omega) hu'
  · have e1 : b = false := by
     cases b with
     | false => rfl
     | true =>
      obtain ⟨x, hx, h1⟩ := any_sees.1 HB.out;obtain ⟨j, hj⟩ := List.mem_iff_getElem?.1 hx;rw [HI.out.2.2 j x (by have := (gE.1 hj).1; omega) hj] at h1
      cases h1
    subst e1;go_wp2_with fail
    (try simp only [Exit.inBlock, Exit.then])
    go_wp2_with fail
    go_ret
    exact ⟨by rw [if_neg (by decide)]; rfl, HI.out.1, by rw [← HU0.out]; exact HI.out.2.1⟩
section
variable {S : Nat → Prop} {L : List Fk} {gt C g : Nat} {w w' w0 : World} {σ τ : PS} {bs : List (Nat × Array Value)} {ts : List (Ft × List Value)} {t : Ft}
theorem St.put9 {q : Nat} {c0 c1 c2 c3 c4 c5 c6 c7 c8 : Value} (h : St S L gt C g w0 w σ ((q, #[c0, c1, c2, c3, c4, c5, c6, c7, c8]) :: bs) ts) (hne : ∀ x ∈ bs, x.1 ≠ q) (u0 u1 u2 u3 u4 u5 u6 u7 u8 : Value) :
 St S L gt C g w0 (((((((((w.setCell ⟨q, 0, none⟩ u0).setCell ⟨q, 1, none⟩ u1).setCell ⟨q, 2, none⟩ u2).setCell ⟨q, 3, none⟩ u3).setCell ⟨q, 4, none⟩ u4).setCell ⟨q, 5, none⟩ u5).setCell ⟨q, 6, none⟩ u6).setCell ⟨q, 7, none⟩ u7).setCell ⟨q, 8, none⟩ u8) σ ((q, #[u0, u1, u2, u3, u4, u5, u6, u7, u8]) :: bs) ts := by
 have h0 : St S L gt C g w0 _ σ ((q, #[u0, c1, c2, c3, c4, c5, c6, c7, c8]) :: bs) ts := h.set hne 0 u0 rfl;have h1 : St S L gt C g w0 _ σ ((q, #[u0, u1, c2, c3, c4, c5, c6, c7, c8]) :: bs) ts := h0.set hne 1 u1 rfl;have h2 : St S L gt C g w0 _ σ ((q, #[u0, u1, u2, c3, c4, c5, c6, c7, c8]) :: bs) ts := h1.set hne 2 u2 rfl;have h3 : St S L gt C g w0 _ σ ((q, #[u0, u1, u2, u3, c4, c5, c6, c7, c8]) :: bs) ts := h2.set hne 3 u3 rfl;have h4 : St S L gt C g w0 _ σ ((q, #[u0, u1, u2, u3, u4, c5, c6, c7, c8]) :: bs) ts := h3.set hne 4 u4 rfl;have h5 : St S L gt C g w0 _ σ ((q, #[u0, u1, u2, u3, u4, u5, c6, c7, c8]) :: bs) ts := h4.set hne 5 u5 rfl;have h6 : St S L gt C g w0 _ σ ((q, #[u0, u1, u2, u3, u4, u5, u6, c7, c8]) :: bs) ts := h5.set hne 6 u6 rfl;have h7 : St S L gt C g w0 _ σ ((q, #[u0, u1, u2, u3, u4, u5, u6, u7, c8]) :: bs) ts := h6.set hne 7 u7 rfl;exact h7.set hne 8 u8 rfl
theorem St.only {ts' : List (Ft × List Value)} (h : St S L gt C g w0 w σ bs ts) (hs : ∀ x ∈ ts', x ∈ ts) : St S L gt C g w0 w σ bs ts' := ⟨h.r, h.hS, h.b, fun x hx => h.t x (hs x hx)⟩
end
def fnum : Ru → Nat
 | .filter => 15
 | .comma => 28
 | .update => 54
 | .alt => 79
 | .or_ => 99
 | .and_ => 113
 | .cmp => 124
 | .sum => 130
 | .product => 136
 | .unary => 142
 | .operand => 150
 | .post => 160
 | .primary => 167
 | .condition => 194
def OkA (L : List Fk) (gt C g : Nat) (call : Ru → PM) : Prop := ∀ r, OkF L gt C g (fnum r) (call r)
theorem any_one {L : List Fk} {x : ByteArray} {σ : PS} : anyP L [x] σ = sees L x σ := by
 unfold anyP sees memB;rw [List.any_cons, List.any_nil, Bool.or_false]
 congr 2
 exact decide_eq_decide.2 ⟨Eq.symm, Eq.symm⟩
theorem any_ne {L : List Fk} {xs : List ByteArray} {σ : PS} (h : anyP L xs σ = true) (hx : xs.all (fun x => !x.data.toList.isEmpty) = true) : ((tk L σ.k).s.toList == []) = false := by
 obtain ⟨x, hx1, h1⟩ := any_sees.1 h;have h2 := List.all_eq_true.1 hx x hx1;rw [sees_s h1, ByteArray.toList_eq]
 cases hl : x.data.toList with
 | nil => rw [hl] at h2; cases h2
 | cons a r => rfl
theorem filter_any {L : List Fk} (hL : TokL L) {gt C g : Nat} {call : Ru → PM} (hA : OkA L gt C g call) : OkF L gt C g 15 (pairM L (call .comma) (call .filter) 12 [(⟨#[124]⟩ : ByteArray)]) := by
 intro W σ t τ hP hm;obtain ⟨f, σ1, h1, h2⟩ := bnd_some hm;have H0 := hI (St.begin hP);have HC := hI (hA .comma _ _ f σ1 H0.out.r.p h1);have hsz := hL.size σ1.k;obtain ⟨b, hb⟩ : ∃ b, anyP L [(⟨#[124]⟩ : ByteArray)] σ1 = b := ⟨_, rfl⟩
 have HT := hI (fun W (hW : PAt L gt C g W σ1) => take_any hL (⟨#[124]⟩ : ByteArray) b (by rw [← any_one]; exact hb) hW);rw [hb] at h2;clear hb hP hm h1
 cases b with
 | false =>
  rw [if_neg (by decide)] at h2;injection h2 with h2
  injection h2 with h3 h4
  subst h3; subst h4;clear hA
  go_enter Tryz.func15, Tryz.ntmps15
  go_wp2_with fail;refine (HC.out).mono ?_;rintro e w1 hZ;obtain ⟨Z1, rfl, hg1, hp1, hl1⟩ := fr3 hZ;have H1 := hI ((H0.out.call hg1 hp1 hl1).box Z1.c);clear hg1 hp1 hl1;go_wp2_with fail;refine (HT.out _ H1.out.r.p).mono ?_;rintro e w3 ⟨rfl, hg3, hp3⟩;have H3 := hI (H1.out.next hg3 hp3);clear hg3 hp3;have y0 := box9 (H3.out.bx (q := w1.heap.size) (c := Z1.c) (by simp));have x0 := H3.out.r.cells;go_wp2_with fail;refine post9 Tryz.results15 rfl rfl (H3.out.r.r.put9z _ _ _ _ _ _ _ _ _) ?_;exact retF_of (H3.out.close (by first | exact mC | simp))
 | true =>
  rw [if_pos rfl] at h2;obtain ⟨u, σ2, h3, h4⟩ := bnd_some h2;injection h4 with h4
  injection h4 with h5 h6
  subst h5; subst h6;have HR2 := hI (fun W h => hA .filter W _ u σ2 h h3);have HNO := hI (fun A W => node_any 12 ⟨#[]⟩ A 2 2 W);have HG : Hid (joinF 12 (tk L σ1.k).s f u = .mk 12 ⟨#[]⟩ vz [] [f, u]) := hI rfl;rw [HG.out];clear hA h2 h3 HG
  go_enter Tryz.func15, Tryz.ntmps15
  go_wp2_with fail;refine (HC.out).mono ?_;rintro e w1 hZ;obtain ⟨Z1, rfl, hg1, hp1, hl1⟩ := fr3 hZ;have H1 := hI ((H0.out.call hg1 hp1 hl1).box Z1.c);clear hg1 hp1 hl1;go_wp2_with fail;refine (HT.out _ H1.out.r.p).mono ?_;rintro e w3 ⟨rfl, hg3, hp3⟩;have H3 := hI (H1.out.next hg3 hp3);clear hg3 hp3;go_upto_region 3 with (fail)
  generalize w1.heap.size = qq at H3 ⊢;have y0 := box9 (H3.out.bx (q := qq) (c := Z1.c) (by simp));refine wp_region_noPanic ?_;refine wp_region_held_drew (S := fun _ => True) (by kernel_rfl) trivial (fun hHeld => ?_);refine wpAnyH_take (i := 1) (v := ?_) rfl (by kernel_rfl) (by kernel_rfl) (by kernel_rfl) (fun _ _ _ h => h) (Or.inl ⟨by rfl, ?ytkm1⟩) (by assumption) ?_
  case ytkm1 => (intro w hSw; (try dsimp only at hSw); go_simp <;> with_reducible rfl)
  try simp only [Act.put, sA, sZ, sS]
  refine wpAnyH_ready (rs := [0, 2]) (by kernel_rfl) (by simp) ?_;refine .cons rfl (fun Kc hK => ?_) (.cons rfl (fun Kc hK => ?_) .nil)
  · skip;go_simp;refine hK.out _ _ trivial (fun _ => ?_);clear hK Kc
    try simp only [Act.put, sA, sZ, sS]
    refine wpAnyH_ready (rs := [2]) (by kernel_rfl) (by simp) ?_;refine .cons rfl (fun Kc hK => ?_) .nil;go_simp;refine (HR2.out _ H3.out.drew.r.p).mono ?_;rintro e w4 hZ;obtain ⟨Z2, rfl, hg4, hp4, hl4⟩ := fr3 hZ;have H4 := hI (H3.out.drew.call hg4 hp4 hl4);clear hg4 hp4 hl4;refine hK.out _ _ trivial (fun _ => ?_);clear hK Kc
    try simp only [Act.put, sA, sZ, sS]
    refine wpAnyH_ready (rs := [3]) (by kernel_rfl) (by simp) ?_;refine .cons rfl (fun Kc hK => ?_) .nil;go_simp;have H5 := hI (H4.out.node 12 ⟨#[]⟩ (by decide) (fs := [f, u]) (row := (Z1.cc Z2)) rfl (by simp) (LiesFL.append (LiesFL.one (H4.out.t (f, Z1.l) (by simp))) (LiesFL.one (H4.out.t (u, Z2.l) (by simp)))) rfl);refine hK.out _ _ trivial (fun _ => ?_);clear hK Kc
    try simp only [Act.put, sA, sZ, sS]
    refine wpAnyH_ready (rs := [4]) (by kernel_rfl) (by simp) ?_;refine .cons rfl (fun Kc hK => ?_) .nil;go_simp;refine (HNO.out _ _).mono ?_;rintro e w6 ⟨rfl, hb6⟩;have H6 := hI (H5.out.low hb6);clear hb6;have x0 := H6.out.r.cells;refine hK.out _ _ trivial (fun _ => ?_);clear hK Kc
    try simp only [Act.put, sA, sZ, sS]
    refine wpAnyH_ready (rs := [5]) (by kernel_rfl) (by simp) ?_;refine .cons rfl (fun Kc hK => ?_) .nil;go_simp;refine hK.out _ _ trivial (fun _ => ?_);clear hK Kc
    try simp only [Act.put, sA, sZ, sS]
    refine wpAnyH_done (by kernel_rfl) ?_ _;refine NoPanic.normal ?_;go_wp2_with fail;refine post9 Tryz.results15 rfl rfl (H6.out.r.r.put9z _ _ _ _ _ _ _ _ _) ?_;exact retF_of (H6.out.close (by first | exact mC | simp))
  · skip;go_simp;refine (HR2.out _ H3.out.drew.r.p).mono ?_;rintro e w4 hZ;obtain ⟨Z2, rfl, hg4, hp4, hl4⟩ := fr3 hZ;have H4 := hI (H3.out.drew.call hg4 hp4 hl4);clear hg4 hp4 hl4;refine hK.out _ _ trivial (fun _ => ?_);clear hK Kc
    try simp only [Act.put, sA, sZ, sS]
    have v0 := box9 (H4.out.bx (q := qq) (c := Z1.c) (by simp));refine wpAnyH_ready (rs := [0]) (by kernel_rfl) (by simp) ?_;refine .cons rfl (fun Kc hK => ?_) .nil;go_simp;refine hK.out _ _ trivial (fun _ => ?_);clear hK Kc
    try simp only [Act.put, sA, sZ, sS]
    refine wpAnyH_ready (rs := [3]) (by kernel_rfl) (by simp) ?_;refine .cons rfl (fun Kc hK => ?_) .nil;go_simp;have H5 := hI (H4.out.node 12 ⟨#[]⟩ (by decide) (fs := [f, u]) (row := (Z1.cc Z2)) rfl (by simp) (LiesFL.append (LiesFL.one (H4.out.t (f, Z1.l) (by simp))) (LiesFL.one (H4.out.t (u, Z2.l) (by simp)))) rfl);refine hK.out _ _ trivial (fun _ => ?_);clear hK Kc
    try simp only [Act.put, sA, sZ, sS]
    refine wpAnyH_ready (rs := [4]) (by kernel_rfl) (by simp) ?_;refine .cons rfl (fun Kc hK => ?_) .nil;go_simp;refine (HNO.out _ _).mono ?_;rintro e w6 ⟨rfl, hb6⟩;have H6 := hI (H5.out.low hb6);clear hb6;have x0 := H6.out.r.cells;refine hK.out _ _ trivial (fun _ => ?_);clear hK Kc
    try simp only [Act.put, sA, sZ, sS]
    refine wpAnyH_ready (rs := [5]) (by kernel_rfl) (by simp) ?_;refine .cons rfl (fun Kc hK => ?_) .nil;go_simp;refine hK.out _ _ trivial (fun _ => ?_);clear hK Kc
    try simp only [Act.put, sA, sZ, sS]
    refine wpAnyH_done (by kernel_rfl) ?_ _;refine NoPanic.normal ?_;go_wp2_with fail;refine post9 Tryz.results15 rfl rfl (H6.out.r.r.put9z _ _ _ _ _ _ _ _ _) ?_;exact retF_of (H6.out.close (by first | exact mC | simp))
theorem alt_any {L : List Fk} (hL : TokL L) {gt C g : Nat} {call : Ru → PM} (hA : OkA L gt C g call) : OkF L gt C g 79 (pairM L (call .or_) (call .alt) 14 [(⟨#[47, 47]⟩ : ByteArray)]) := by
 intro W σ t τ hP hm;obtain ⟨f, σ1, h1, h2⟩ := bnd_some hm;have H0 := hI (St.begin hP);have HC := hI (hA .or_ _ _ f σ1 H0.out.r.p h1);have hsz := hL.size σ1.k;obtain ⟨b, hb⟩ : ∃ b, anyP L [(⟨#[47, 47]⟩ : ByteArray)] σ1 = b := ⟨_, rfl⟩
 have HT := hI (fun W (hW : PAt L gt C g W σ1) => take_any hL (⟨#[47, 47]⟩ : ByteArray) b (by rw [← any_one]; exact hb) hW);rw [hb] at h2;clear hb hP hm h1
 cases b with
 | false =>
  rw [if_neg (by decide)] at h2;injection h2 with h2
  injection h2 with h3 h4
  subst h3; subst h4;clear hA
  go_enter Tryz.func79, Tryz.ntmps79
  go_wp2_with fail;refine (HC.out).mono ?_;rintro e w1 hZ;obtain ⟨Z1, rfl, hg1, hp1, hl1⟩ := fr3 hZ;have H1 := hI ((H0.out.call hg1 hp1 hl1).box Z1.c);clear hg1 hp1 hl1;go_wp2_with fail;refine (HT.out _ H1.out.r.p).mono ?_;rintro e w3 ⟨rfl, hg3, hp3⟩;have H3 := hI (H1.out.next hg3 hp3);clear hg3 hp3;have y0 := box9 (H3.out.bx (q := w1.heap.size) (c := Z1.c) (by simp));have x0 := H3.out.r.cells;go_wp2_with fail;refine post9 Tryz.results79 rfl rfl (H3.out.r.r.put9z _ _ _ _ _ _ _ _ _) ?_;exact retF_of (H3.out.close (by first | exact mC | simp))
 | true =>
  rw [if_pos rfl] at h2;obtain ⟨u, σ2, h3, h4⟩ := bnd_some h2;injection h4 with h4
  injection h4 with h5 h6
  subst h5; subst h6;have HR2 := hI (fun W h => hA .alt W _ u σ2 h h3);have HNO := hI (fun A W => node_any 14 ⟨#[]⟩ A 2 2 W);have HG : Hid (joinF 14 (tk L σ1.k).s f u = .mk 14 ⟨#[]⟩ vz [] [f, u]) := hI rfl;rw [HG.out];clear hA h2 h3 HG
  go_enter Tryz.func79, Tryz.ntmps79
  go_wp2_with fail;refine (HC.out).mono ?_;rintro e w1 hZ;obtain ⟨Z1, rfl, hg1, hp1, hl1⟩ := fr3 hZ;have H1 := hI ((H0.out.call hg1 hp1 hl1).box Z1.c);clear hg1 hp1 hl1;go_wp2_with fail;refine (HT.out _ H1.out.r.p).mono ?_;rintro e w3 ⟨rfl, hg3, hp3⟩;have H3 := hI (H1.out.next hg3 hp3);clear hg3 hp3;go_upto_region 3 with (fail)
  generalize w1.heap.size = qq at H3 ⊢;have y0 := box9 (H3.out.bx (q := qq) (c := Z1.c) (by simp));refine wp_region_noPanic ?_;refine wp_region_held_drew (S := fun _ => True) (by kernel_rfl) trivial (fun hHeld => ?_);refine wpAnyH_take (i := 1) (v := ?_) rfl (by kernel_rfl) (by kernel_rfl) (by kernel_rfl) (fun _ _ _ h => h) (Or.inl ⟨by rfl, ?ytkm1⟩) (by assumption) ?_
  case ytkm1 => (intro w hSw; (try dsimp only at hSw); go_simp <;> with_reducible rfl)
  try simp only [Act.put, sA, sZ, sS]
  refine wpAnyH_ready (rs := [0, 2]) (by kernel_rfl) (by simp) ?_;refine .cons rfl (fun Kc hK => ?_) (.cons rfl (fun Kc hK => ?_) .nil)
  · skip;go_simp;refine hK.out _ _ trivial (fun _ => ?_);clear hK Kc
    try simp only [Act.put, sA, sZ, sS]
    refine wpAnyH_ready (rs := [2]) (by kernel_rfl) (by simp) ?_;refine .cons rfl (fun Kc hK => ?_) .nil;go_simp;refine (HR2.out _ H3.out.drew.r.p).mono ?_;rintro e w4 hZ;obtain ⟨Z2, rfl, hg4, hp4, hl4⟩ := fr3 hZ;have H4 := hI (H3.out.drew.call hg4 hp4 hl4);clear hg4 hp4 hl4;refine hK.out _ _ trivial (fun _ => ?_);clear hK Kc
    try simp only [Act.put, sA, sZ, sS]
    refine wpAnyH_ready (rs := [3]) (by kernel_rfl) (by simp) ?_;refine .cons rfl (fun Kc hK => ?_) .nil;go_simp;have H5 := hI (H4.out.node 14 ⟨#[]⟩ (by decide) (fs := [f, u]) (row := (Z1.cc Z2)) rfl (by simp) (LiesFL.append (LiesFL.one (H4.out.t (f, Z1.l) (by simp))) (LiesFL.one (H4.out.t (u, Z2.l) (by simp)))) rfl);refine hK.out _ _ trivial (fun _ => ?_);clear hK Kc
    try simp only [Act.put, sA, sZ, sS]
    refine wpAnyH_ready (rs := [4]) (by kernel_rfl) (by simp) ?_;refine .cons rfl (fun Kc hK => ?_) .nil;go_simp;refine (HNO.out _ _).mono ?_;rintro e w6 ⟨rfl, hb6⟩;have H6 := hI (H5.out.low hb6);clear hb6;have x0 := H6.out.r.cells;refine hK.out _ _ trivial (fun _ => ?_);clear hK Kc
    try simp only [Act.put, sA, sZ, sS]
    refine wpAnyH_ready (rs := [5]) (by kernel_rfl) (by simp) ?_;refine .cons rfl (fun Kc hK => ?_) .nil;go_simp;refine hK.out _ _ trivial (fun _ => ?_);clear hK Kc
    try simp only [Act.put, sA, sZ, sS]
    refine wpAnyH_done (by kernel_rfl) ?_ _;refine NoPanic.normal ?_;go_wp2_with fail;refine post9 Tryz.results79 rfl rfl (H6.out.r.r.put9z _ _ _ _ _ _ _ _ _) ?_;exact retF_of (H6.out.close (by first | exact mC | simp))
  · skip;go_simp;refine (HR2.out _ H3.out.drew.r.p).mono ?_;rintro e w4 hZ;obtain ⟨Z2, rfl, hg4, hp4, hl4⟩ := fr3 hZ;have H4 := hI (H3.out.drew.call hg4 hp4 hl4);clear hg4 hp4 hl4;refine hK.out _ _ trivial (fun _ => ?_);clear hK Kc
    try simp only [Act.put, sA, sZ, sS]
    have v0 := box9 (H4.out.bx (q := qq) (c := Z1.c) (by simp));refine wpAnyH_ready (rs := [0]) (by kernel_rfl) (by simp) ?_;refine .cons rfl (fun Kc hK => ?_) .nil;go_simp;refine hK.out _ _ trivial (fun _ => ?_);clear hK Kc
    try simp only [Act.put, sA, sZ, sS]
    refine wpAnyH_ready (rs := [3]) (by kernel_rfl) (by simp) ?_;refine .cons rfl (fun Kc hK => ?_) .nil;go_simp;have H5 := hI (H4.out.node 14 ⟨#[]⟩ (by decide) (fs := [f, u]) (row := (Z1.cc Z2)) rfl (by simp) (LiesFL.append (LiesFL.one (H4.out.t (f, Z1.l) (by simp))) (LiesFL.one (H4.out.t (u, Z2.l) (by simp)))) rfl);refine hK.out _ _ trivial (fun _ => ?_);clear hK Kc
    try simp only [Act.put, sA, sZ, sS]
    refine wpAnyH_ready (rs := [4]) (by kernel_rfl) (by simp) ?_;refine .cons rfl (fun Kc hK => ?_) .nil;go_simp;refine (HNO.out _ _).mono ?_;rintro e w6 ⟨rfl, hb6⟩;have H6 := hI (H5.out.low hb6);clear hb6;have x0 := H6.out.r.cells;refine hK.out _ _ trivial (fun _ => ?_);clear hK Kc
    try simp only [Act.put, sA, sZ, sS]
    refine wpAnyH_ready (rs := [5]) (by kernel_rfl) (by simp) ?_;refine .cons rfl (fun Kc hK => ?_) .nil;go_simp;refine hK.out _ _ trivial (fun _ => ?_);clear hK Kc
    try simp only [Act.put, sA, sZ, sS]
    refine wpAnyH_done (by kernel_rfl) ?_ _;refine NoPanic.normal ?_;go_wp2_with fail;refine post9 Tryz.results79 rfl rfl (H6.out.r.r.put9z _ _ _ _ _ _ _ _ _) ?_;exact retF_of (H6.out.close (by first | exact mC | simp))
theorem update_any {L : List Fk} (hL : TokL L) {gt C g : Nat} {call : Ru → PM} (hA : OkA L gt C g call) : OkF L gt C g 54 (pairM L (call .alt) (call .alt) 27 [(⟨#[61]⟩ : ByteArray), (⟨#[124, 61]⟩ : ByteArray), (⟨#[43, 61]⟩ : ByteArray), (⟨#[45, 61]⟩ : ByteArray), (⟨#[42, 61]⟩ : ByteArray), (⟨#[47, 61]⟩ : ByteArray), (⟨#[37, 61]⟩ : ByteArray)]) := by
 intro W σ t τ hP hm;obtain ⟨f, σ1, h1, h2⟩ := bnd_some hm;have H0 := hI (St.begin hP);have HC := hI (hA .alt _ _ f σ1 H0.out.r.p h1);have hsz := hL.size σ1.k;obtain ⟨b, hb⟩ : ∃ b, anyP L [(⟨#[61]⟩ : ByteArray), (⟨#[124, 61]⟩ : ByteArray), (⟨#[43, 61]⟩ : ByteArray), (⟨#[45, 61]⟩ : ByteArray), (⟨#[42, 61]⟩ : ByteArray), (⟨#[47, 61]⟩ : ByteArray), (⟨#[37, 61]⟩ : ByteArray)] σ1 = b := ⟨_, rfl⟩
 have HT := hI (fun W h (hw : StrRow W h [(⟨#[61]⟩ : ByteArray), (⟨#[124, 61]⟩ : ByteArray), (⟨#[43, 61]⟩ : ByteArray), (⟨#[45, 61]⟩ : ByteArray), (⟨#[42, 61]⟩ : ByteArray), (⟨#[47, 61]⟩ : ByteArray), (⟨#[37, 61]⟩ : ByteArray)]) (hng : h ≠ g) (hW : PAt L gt C g W σ1) => oneOf_any hL h [(⟨#[61]⟩ : ByteArray), (⟨#[124, 61]⟩ : ByteArray), (⟨#[43, 61]⟩ : ByteArray), (⟨#[45, 61]⟩ : ByteArray), (⟨#[42, 61]⟩ : ByteArray), (⟨#[47, 61]⟩ : ByteArray), (⟨#[37, 61]⟩ : ByteArray)] hw hng (by decide) b hb hW);have hg0 := hP.glt;have HNE : Hid (b = true → ((tk L σ1.k).s.toList == []) = false) := hI (fun e => any_ne (hb.trans e) (by decide));rw [hb] at h2;clear hb hP hm h1
 cases b with
 | false =>
  rw [if_neg (by decide)] at h2;injection h2 with h2
  injection h2 with h3 h4
  subst h3; subst h4;clear hA
  go_enter Tryz.func54, Tryz.ntmps54
  go_wp2_with fail;refine (HC.out).mono ?_;rintro e w1 hZ;obtain ⟨Z1, rfl, hg1, hp1, hl1⟩ := fr3 hZ;have H1 := hI ((H0.out.call hg1 hp1 hl1).box Z1.c);clear hg1 hp1 hl1;go_wp2_with fail;have H2 := hI (H1.out.alloc (.cells #[.string ⟨#[61]⟩, .string ⟨#[124, 61]⟩, .string ⟨#[43, 61]⟩, .string ⟨#[45, 61]⟩, .string ⟨#[42, 61]⟩, .string ⟨#[47, 61]⟩, .string ⟨#[37, 61]⟩] 9));have hw1 : g < w1.heap.size + 1 := by have := H1.out.r.g0; have := H1.out.lt; simp at this; omega
  have HR : Hid (StrRow ((w1.alloc (.cells Z1.c 29)).alloc (.cells #[.string ⟨#[61]⟩, .string ⟨#[124, 61]⟩, .string ⟨#[43, 61]⟩, .string ⟨#[45, 61]⟩, .string ⟨#[42, 61]⟩, .string ⟨#[47, 61]⟩, .string ⟨#[37, 61]⟩] 9)) (w1.heap.size + 1) [(⟨#[61]⟩ : ByteArray), (⟨#[124, 61]⟩ : ByteArray), (⟨#[43, 61]⟩ : ByteArray), (⟨#[45, 61]⟩ : ByteArray), (⟨#[42, 61]⟩ : ByteArray), (⟨#[47, 61]⟩ : ByteArray), (⟨#[37, 61]⟩ : ByteArray)]) := hI (StrRow.new _ _ #[.string ⟨#[61]⟩, .string ⟨#[124, 61]⟩, .string ⟨#[43, 61]⟩, .string ⟨#[45, 61]⟩, .string ⟨#[42, 61]⟩, .string ⟨#[47, 61]⟩, .string ⟨#[37, 61]⟩] [(⟨#[61]⟩ : ByteArray), (⟨#[124, 61]⟩ : ByteArray), (⟨#[43, 61]⟩ : ByteArray), (⟨#[45, 61]⟩ : ByteArray), (⟨#[42, 61]⟩ : ByteArray), (⟨#[47, 61]⟩ : ByteArray), (⟨#[37, 61]⟩ : ByteArray)] (by simp) rfl);refine (HT.out _ _ HR.out (by omega) H2.out.r.p).mono ?_;rintro e w3 ⟨rfl, hg3, hp3⟩;have H3 := hI (H2.out.next hg3 hp3);clear hg3 hp3;rw [if_neg (by decide)];have y0 := box9 (H3.out.bx (q := w1.heap.size) (c := Z1.c) (by simp));have x0 := H3.out.r.cells;go_wp2_with fail;refine post9 Tryz.results54 rfl rfl (H3.out.r.r.put9z _ _ _ _ _ _ _ _ _) ?_;exact retF_of (H3.out.close (by first | exact mC | simp))
 | true =>
  rw [if_pos rfl] at h2;obtain ⟨u, σ2, h3, h4⟩ := bnd_some h2;injection h4 with h4
  injection h4 with h5 h6
  subst h5; subst h6;have HR2 := hI (fun W h => hA .alt W _ u σ2 h h3);have hne := HNE.out rfl;clear HNE;generalize (tk L σ1.k).s = S at HT hsz hne ⊢;have HNO := hI (fun A W => node_any 27 S A 2 2 W);have HG : Hid (joinF 27 S f u = .mk 27 S vz [] [f, u]) := hI rfl;rw [HG.out];clear hA h2 h3 HG
  go_enter Tryz.func54, Tryz.ntmps54
  go_wp2_with fail;refine (HC.out).mono ?_;rintro e w1 hZ;obtain ⟨Z1, rfl, hg1, hp1, hl1⟩ := fr3 hZ;have H1 := hI ((H0.out.call hg1 hp1 hl1).box Z1.c);clear hg1 hp1 hl1;go_wp2_with fail;have H2 := hI (H1.out.alloc (.cells #[.string ⟨#[61]⟩, .string ⟨#[124, 61]⟩, .string ⟨#[43, 61]⟩, .string ⟨#[45, 61]⟩, .string ⟨#[42, 61]⟩, .string ⟨#[47, 61]⟩, .string ⟨#[37, 61]⟩] 9));have hw1 : g < w1.heap.size + 1 := by have := H1.out.r.g0; have := H1.out.lt; simp at this; omega
  have HR : Hid (StrRow ((w1.alloc (.cells Z1.c 29)).alloc (.cells #[.string ⟨#[61]⟩, .string ⟨#[124, 61]⟩, .string ⟨#[43, 61]⟩, .string ⟨#[45, 61]⟩, .string ⟨#[42, 61]⟩, .string ⟨#[47, 61]⟩, .string ⟨#[37, 61]⟩] 9)) (w1.heap.size + 1) [(⟨#[61]⟩ : ByteArray), (⟨#[124, 61]⟩ : ByteArray), (⟨#[43, 61]⟩ : ByteArray), (⟨#[45, 61]⟩ : ByteArray), (⟨#[42, 61]⟩ : ByteArray), (⟨#[47, 61]⟩ : ByteArray), (⟨#[37, 61]⟩ : ByteArray)]) := hI (StrRow.new _ _ #[.string ⟨#[61]⟩, .string ⟨#[124, 61]⟩, .string ⟨#[43, 61]⟩, .string ⟨#[45, 61]⟩, .string ⟨#[42, 61]⟩, .string ⟨#[47, 61]⟩, .string ⟨#[37, 61]⟩] [(⟨#[61]⟩ : ByteArray), (⟨#[124, 61]⟩ : ByteArray), (⟨#[43, 61]⟩ : ByteArray), (⟨#[45, 61]⟩ : ByteArray), (⟨#[42, 61]⟩ : ByteArray), (⟨#[47, 61]⟩ : ByteArray), (⟨#[37, 61]⟩ : ByteArray)] (by simp) rfl);refine (HT.out _ _ HR.out (by omega) H2.out.r.p).mono ?_;rintro e w3 ⟨rfl, hg3, hp3⟩;have H3 := hI (H2.out.next hg3 hp3);clear hg3 hp3;rw [if_pos rfl];go_upto_region 4 with (fail)
  generalize w1.heap.size = qq at H3 ⊢;have y0 := box9 (H3.out.bx (q := qq) (c := Z1.c) (by simp));refine wp_region_noPanic ?_;refine wp_region_held_drew (S := fun _ => True) (by kernel_rfl) trivial (fun hHeld => ?_);refine wpAnyH_take (i := 0) (v := ?_) rfl (by kernel_rfl) (by kernel_rfl) (by kernel_rfl) (fun _ _ _ h => h) (Or.inl ⟨by rfl, ?ytkm0⟩) (by assumption) ?_
  case ytkm0 => (intro w hSw; (try dsimp only at hSw); go_simp <;> with_reducible rfl)
  try simp only [Act.put, sA, sZ, sS]
  refine wpAnyH_take (i := 2) (v := ?_) rfl (by kernel_rfl) (by kernel_rfl) (by kernel_rfl) (fun _ _ _ h => h) (Or.inl ⟨by rfl, ?ytkm2⟩) (by assumption) ?_
  case ytkm2 => (intro w hSw; (try dsimp only at hSw); go_simp <;> with_reducible rfl)
  try simp only [Act.put, sA, sZ, sS]
  refine wpAnyH_ready (rs := [1, 3]) (by kernel_rfl) (by simp) ?_;refine .cons rfl (fun Kc hK => ?_) (.cons rfl (fun Kc hK => ?_) .nil)
  · skip;go_simp;refine hK.out _ _ trivial (fun _ => ?_);clear hK Kc
    try simp only [Act.put, sA, sZ, sS]
    refine wpAnyH_ready (rs := [3]) (by kernel_rfl) (by simp) ?_;refine .cons rfl (fun Kc hK => ?_) .nil;go_simp;refine (HR2.out _ H3.out.drew.r.p).mono ?_;rintro e w4 hZ;obtain ⟨Z2, rfl, hg4, hp4, hl4⟩ := fr3 hZ;have H4 := hI (H3.out.drew.call hg4 hp4 hl4);clear hg4 hp4 hl4;refine hK.out _ _ trivial (fun _ => ?_);clear hK Kc
    try simp only [Act.put, sA, sZ, sS]
    refine wpAnyH_ready (rs := [4]) (by kernel_rfl) (by simp) ?_;refine .cons rfl (fun Kc hK => ?_) .nil;go_simp;have H5 := hI (H4.out.node 27 S (by omega) (fs := [f, u]) (row := (Z1.cc Z2)) rfl (by simp) (LiesFL.append (LiesFL.one (H4.out.t (f, Z1.l) (by simp))) (LiesFL.one (H4.out.t (u, Z2.l) (by simp)))) rfl);refine hK.out _ _ trivial (fun _ => ?_);clear hK Kc
    try simp only [Act.put, sA, sZ, sS]
    refine wpAnyH_ready (rs := [5]) (by kernel_rfl) (by simp) ?_;refine .cons rfl (fun Kc hK => ?_) .nil;go_simp;refine (HNO.out _ _).mono ?_;rintro e w6 ⟨rfl, hb6⟩;have H6 := hI (H5.out.low hb6);clear hb6;have x0 := H6.out.r.cells;refine hK.out _ _ trivial (fun _ => ?_);clear hK Kc
    try simp only [Act.put, sA, sZ, sS]
    refine wpAnyH_ready (rs := [6]) (by kernel_rfl) (by simp) ?_;refine .cons rfl (fun Kc hK => ?_) .nil;go_simp;refine hK.out _ _ trivial (fun _ => ?_);clear hK Kc
    try simp only [Act.put, sA, sZ, sS]
    refine wpAnyH_done (by kernel_rfl) ?_ _;refine NoPanic.normal ?_;go_wp2_with fail;refine post9 Tryz.results54 rfl rfl (H6.out.r.r.put9z _ _ _ _ _ _ _ _ _) ?_;exact retF_of (H6.out.close (by first | exact mC | simp))
  · skip;go_simp;refine (HR2.out _ H3.out.drew.r.p).mono ?_;rintro e w4 hZ;obtain ⟨Z2, rfl, hg4, hp4, hl4⟩ := fr3 hZ;have H4 := hI (H3.out.drew.call hg4 hp4 hl4);clear hg4 hp4 hl4;refine hK.out _ _ trivial (fun _ => ?_);clear hK Kc
    try simp only [Act.put, sA, sZ, sS]
    have v0 := box9 (H4.out.bx (q := qq) (c := Z1.c) (by simp));refine wpAnyH_ready (rs := [1]) (by kernel_rfl) (by simp) ?_;refine .cons rfl (fun Kc hK => ?_) .nil;go_simp;refine hK.out _ _ trivial (fun _ => ?_);clear hK Kc
    try simp only [Act.put, sA, sZ, sS]
    refine wpAnyH_ready (rs := [4]) (by kernel_rfl) (by simp) ?_;refine .cons rfl (fun Kc hK => ?_) .nil;go_simp;have H5 := hI (H4.out.node 27 S (by omega) (fs := [f, u]) (row := (Z1.cc Z2)) rfl (by simp) (LiesFL.append (LiesFL.one (H4.out.t (f, Z1.l) (by simp))) (LiesFL.one (H4.out.t (u, Z2.l) (by simp)))) rfl);refine hK.out _ _ trivial (fun _ => ?_);clear hK Kc
    try simp only [Act.put, sA, sZ, sS]
    refine wpAnyH_ready (rs := [5]) (by kernel_rfl) (by simp) ?_;refine .cons rfl (fun Kc hK => ?_) .nil;go_simp;refine (HNO.out _ _).mono ?_;rintro e w6 ⟨rfl, hb6⟩;have H6 := hI (H5.out.low hb6);clear hb6;have x0 := H6.out.r.cells;refine hK.out _ _ trivial (fun _ => ?_);clear hK Kc
    try simp only [Act.put, sA, sZ, sS]
    refine wpAnyH_ready (rs := [6]) (by kernel_rfl) (by simp) ?_;refine .cons rfl (fun Kc hK => ?_) .nil;go_simp;refine hK.out _ _ trivial (fun _ => ?_);clear hK Kc
    try simp only [Act.put, sA, sZ, sS]
    refine wpAnyH_done (by kernel_rfl) ?_ _;refine NoPanic.normal ?_;go_wp2_with fail;refine post9 Tryz.results54 rfl rfl (H6.out.r.r.put9z _ _ _ _ _ _ _ _ _) ?_;exact retF_of (H6.out.close (by first | exact mC | simp))
theorem cmp_any {L : List Fk} (hL : TokL L) {gt C g : Nat} {call : Ru → PM} (hA : OkA L gt C g call) : OkF L gt C g 124 (pairM L (call .sum) (call .sum) 17 [(⟨#[61, 61]⟩ : ByteArray), (⟨#[33, 61]⟩ : ByteArray), (⟨#[60]⟩ : ByteArray), (⟨#[60, 61]⟩ : ByteArray), (⟨#[62]⟩ : ByteArray), (⟨#[62, 61]⟩ : ByteArray)]) := by
 intro W σ t τ hP hm;obtain ⟨f, σ1, h1, h2⟩ := bnd_some hm;have H0 := hI (St.begin hP);have HC := hI (hA .sum _ _ f σ1 H0.out.r.p h1);have hsz := hL.size σ1.k;obtain ⟨b, hb⟩ : ∃ b, anyP L [(⟨#[61, 61]⟩ : ByteArray), (⟨#[33, 61]⟩ : ByteArray), (⟨#[60]⟩ : ByteArray), (⟨#[60, 61]⟩ : ByteArray), (⟨#[62]⟩ : ByteArray), (⟨#[62, 61]⟩ : ByteArray)] σ1 = b := ⟨_, rfl⟩
 have HT := hI (fun W h (hw : StrRow W h [(⟨#[61, 61]⟩ : ByteArray), (⟨#[33, 61]⟩ : ByteArray), (⟨#[60]⟩ : ByteArray), (⟨#[60, 61]⟩ : ByteArray), (⟨#[62]⟩ : ByteArray), (⟨#[62, 61]⟩ : ByteArray)]) (hng : h ≠ g) (hW : PAt L gt C g W σ1) => oneOf_any hL h [(⟨#[61, 61]⟩ : ByteArray), (⟨#[33, 61]⟩ : ByteArray), (⟨#[60]⟩ : ByteArray), (⟨#[60, 61]⟩ : ByteArray), (⟨#[62]⟩ : ByteArray), (⟨#[62, 61]⟩ : ByteArray)] hw hng (by decide) b hb hW);have hg0 := hP.glt;have HNE : Hid (b = true → ((tk L σ1.k).s.toList == []) = false) := hI (fun e => any_ne (hb.trans e) (by decide));rw [hb] at h2;clear hb hP hm h1
 cases b with
 | false =>
  rw [if_neg (by decide)] at h2;injection h2 with h2
  injection h2 with h3 h4
  subst h3; subst h4;clear hA
  go_enter Tryz.func124, Tryz.ntmps124
  go_wp2_with fail;refine (HC.out).mono ?_;rintro e w1 hZ;obtain ⟨Z1, rfl, hg1, hp1, hl1⟩ := fr3 hZ;have H1 := hI ((H0.out.call hg1 hp1 hl1).box Z1.c);clear hg1 hp1 hl1;go_wp2_with fail;have H2 := hI (H1.out.alloc (.cells #[.string ⟨#[61, 61]⟩, .string ⟨#[33, 61]⟩, .string ⟨#[60]⟩, .string ⟨#[60, 61]⟩, .string ⟨#[62]⟩, .string ⟨#[62, 61]⟩] 9));have hw1 : g < w1.heap.size + 1 := by have := H1.out.r.g0; have := H1.out.lt; simp at this; omega
  have HR : Hid (StrRow ((w1.alloc (.cells Z1.c 29)).alloc (.cells #[.string ⟨#[61, 61]⟩, .string ⟨#[33, 61]⟩, .string ⟨#[60]⟩, .string ⟨#[60, 61]⟩, .string ⟨#[62]⟩, .string ⟨#[62, 61]⟩] 9)) (w1.heap.size + 1) [(⟨#[61, 61]⟩ : ByteArray), (⟨#[33, 61]⟩ : ByteArray), (⟨#[60]⟩ : ByteArray), (⟨#[60, 61]⟩ : ByteArray), (⟨#[62]⟩ : ByteArray), (⟨#[62, 61]⟩ : ByteArray)]) := hI (StrRow.new _ _ #[.string ⟨#[61, 61]⟩, .string ⟨#[33, 61]⟩, .string ⟨#[60]⟩, .string ⟨#[60, 61]⟩, .string ⟨#[62]⟩, .string ⟨#[62, 61]⟩] [(⟨#[61, 61]⟩ : ByteArray), (⟨#[33, 61]⟩ : ByteArray), (⟨#[60]⟩ : ByteArray), (⟨#[60, 61]⟩ : ByteArray), (⟨#[62]⟩ : ByteArray), (⟨#[62, 61]⟩ : ByteArray)] (by simp) rfl);refine (HT.out _ _ HR.out (by omega) H2.out.r.p).mono ?_;rintro e w3 ⟨rfl, hg3, hp3⟩;have H3 := hI (H2.out.next hg3 hp3);clear hg3 hp3;rw [if_neg (by decide)];have y0 := box9 (H3.out.bx (q := w1.heap.size) (c := Z1.c) (by simp));have x0 := H3.out.r.cells;go_wp2_with fail;refine post9 Tryz.results124 rfl rfl (H3.out.r.r.put9z _ _ _ _ _ _ _ _ _) ?_;exact retF_of (H3.out.close (by first | exact mC | simp))
 | true =>
  rw [if_pos rfl] at h2;obtain ⟨u, σ2, h3, h4⟩ := bnd_some h2;injection h4 with h4
  injection h4 with h5 h6
  subst h5; subst h6;have HR2 := hI (fun W h => hA .sum W _ u σ2 h h3);have hne := HNE.out rfl;clear HNE;generalize (tk L σ1.k).s = S at HT hsz hne ⊢;have HNO := hI (fun A W => node_any 17 S A 2 2 W);have HG : Hid (joinF 17 S f u = .mk 17 S vz [] [f, u]) := hI rfl;rw [HG.out];clear hA h2 h3 HG
  go_enter Tryz.func124, Tryz.ntmps124
  go_wp2_with fail;refine (HC.out).mono ?_;rintro e w1 hZ;obtain ⟨Z1, rfl, hg1, hp1, hl1⟩ := fr3 hZ;have H1 := hI ((H0.out.call hg1 hp1 hl1).box Z1.c);clear hg1 hp1 hl1;go_wp2_with fail;have H2 := hI (H1.out.alloc (.cells #[.string ⟨#[61, 61]⟩, .string ⟨#[33, 61]⟩, .string ⟨#[60]⟩, .string ⟨#[60, 61]⟩, .string ⟨#[62]⟩, .string ⟨#[62, 61]⟩] 9));have hw1 : g < w1.heap.size + 1 := by have := H1.out.r.g0; have := H1.out.lt; simp at this; omega
  have HR : Hid (StrRow ((w1.alloc (.cells Z1.c 29)).alloc (.cells #[.string ⟨#[61, 61]⟩, .string ⟨#[33, 61]⟩, .string ⟨#[60]⟩, .string ⟨#[60, 61]⟩, .string ⟨#[62]⟩, .string ⟨#[62, 61]⟩] 9)) (w1.heap.size + 1) [(⟨#[61, 61]⟩ : ByteArray), (⟨#[33, 61]⟩ : ByteArray), (⟨#[60]⟩ : ByteArray), (⟨#[60, 61]⟩ : ByteArray), (⟨#[62]⟩ : ByteArray), (⟨#[62, 61]⟩ : ByteArray)]) := hI (StrRow.new _ _ #[.string ⟨#[61, 61]⟩, .string ⟨#[33, 61]⟩, .string ⟨#[60]⟩, .string ⟨#[60, 61]⟩, .string ⟨#[62]⟩, .string ⟨#[62, 61]⟩] [(⟨#[61, 61]⟩ : ByteArray), (⟨#[33, 61]⟩ : ByteArray), (⟨#[60]⟩ : ByteArray), (⟨#[60, 61]⟩ : ByteArray), (⟨#[62]⟩ : ByteArray), (⟨#[62, 61]⟩ : ByteArray)] (by simp) rfl);refine (HT.out _ _ HR.out (by omega) H2.out.r.p).mono ?_;rintro e w3 ⟨rfl, hg3, hp3⟩;have H3 := hI (H2.out.next hg3 hp3);clear hg3 hp3;rw [if_pos rfl];go_upto_region 4 with (fail)
  generalize w1.heap.size = qq at H3 ⊢;have y0 := box9 (H3.out.bx (q := qq) (c := Z1.c) (by simp));refine wp_region_noPanic ?_;refine wp_region_held_drew (S := fun _ => True) (by kernel_rfl) trivial (fun hHeld => ?_);refine wpAnyH_take (i := 0) (v := ?_) rfl (by kernel_rfl) (by kernel_rfl) (by kernel_rfl) (fun _ _ _ h => h) (Or.inl ⟨by rfl, ?ytkm0⟩) (by assumption) ?_
  case ytkm0 => (intro w hSw; (try dsimp only at hSw); go_simp <;> with_reducible rfl)
  try simp only [Act.put, sA, sZ, sS]
  refine wpAnyH_take (i := 2) (v := ?_) rfl (by kernel_rfl) (by kernel_rfl) (by kernel_rfl) (fun _ _ _ h => h) (Or.inl ⟨by rfl, ?ytkm2⟩) (by assumption) ?_
  case ytkm2 => (intro w hSw; (try dsimp only at hSw); go_simp <;> with_reducible rfl)
  try simp only [Act.put, sA, sZ, sS]
  refine wpAnyH_ready (rs := [1, 3]) (by kernel_rfl) (by simp) ?_;refine .cons rfl (fun Kc hK => ?_) (.cons rfl (fun Kc hK => ?_) .nil)
  · skip;go_simp;refine hK.out _ _ trivial (fun _ => ?_);clear hK Kc
    try simp only [Act.put, sA, sZ, sS]
    refine wpAnyH_ready (rs := [3]) (by kernel_rfl) (by simp) ?_;refine .cons rfl (fun Kc hK => ?_) .nil;go_simp;refine (HR2.out _ H3.out.drew.r.p).mono ?_;rintro e w4 hZ;obtain ⟨Z2, rfl, hg4, hp4, hl4⟩ := fr3 hZ;have H4 := hI (H3.out.drew.call hg4 hp4 hl4);clear hg4 hp4 hl4;refine hK.out _ _ trivial (fun _ => ?_);clear hK Kc
    try simp only [Act.put, sA, sZ, sS]
    refine wpAnyH_ready (rs := [4]) (by kernel_rfl) (by simp) ?_;refine .cons rfl (fun Kc hK => ?_) .nil;go_simp;have H5 := hI (H4.out.node 17 S (by omega) (fs := [f, u]) (row := (Z1.cc Z2)) rfl (by simp) (LiesFL.append (LiesFL.one (H4.out.t (f, Z1.l) (by simp))) (LiesFL.one (H4.out.t (u, Z2.l) (by simp)))) rfl);refine hK.out _ _ trivial (fun _ => ?_);clear hK Kc
    try simp only [Act.put, sA, sZ, sS]
    refine wpAnyH_ready (rs := [5]) (by kernel_rfl) (by simp) ?_;refine .cons rfl (fun Kc hK => ?_) .nil;go_simp;refine (HNO.out _ _).mono ?_;rintro e w6 ⟨rfl, hb6⟩;have H6 := hI (H5.out.low hb6);clear hb6;have x0 := H6.out.r.cells;refine hK.out _ _ trivial (fun _ => ?_);clear hK Kc
    try simp only [Act.put, sA, sZ, sS]
    refine wpAnyH_ready (rs := [6]) (by kernel_rfl) (by simp) ?_;refine .cons rfl (fun Kc hK => ?_) .nil;go_simp;refine hK.out _ _ trivial (fun _ => ?_);clear hK Kc
    try simp only [Act.put, sA, sZ, sS]
    refine wpAnyH_done (by kernel_rfl) ?_ _;refine NoPanic.normal ?_;go_wp2_with fail;refine post9 Tryz.results124 rfl rfl (H6.out.r.r.put9z _ _ _ _ _ _ _ _ _) ?_;exact retF_of (H6.out.close (by first | exact mC | simp))
  · skip;go_simp;refine (HR2.out _ H3.out.drew.r.p).mono ?_;rintro e w4 hZ;obtain ⟨Z2, rfl, hg4, hp4, hl4⟩ := fr3 hZ;have H4 := hI (H3.out.drew.call hg4 hp4 hl4);clear hg4 hp4 hl4;refine hK.out _ _ trivial (fun _ => ?_);clear hK Kc
    try simp only [Act.put, sA, sZ, sS]
    have v0 := box9 (H4.out.bx (q := qq) (c := Z1.c) (by simp));refine wpAnyH_ready (rs := [1]) (by kernel_rfl) (by simp) ?_;refine .cons rfl (fun Kc hK => ?_) .nil;go_simp;refine hK.out _ _ trivial (fun _ => ?_);clear hK Kc
    try simp only [Act.put, sA, sZ, sS]
    refine wpAnyH_ready (rs := [4]) (by kernel_rfl) (by simp) ?_;refine .cons rfl (fun Kc hK => ?_) .nil;go_simp;have H5 := hI (H4.out.node 17 S (by omega) (fs := [f, u]) (row := (Z1.cc Z2)) rfl (by simp) (LiesFL.append (LiesFL.one (H4.out.t (f, Z1.l) (by simp))) (LiesFL.one (H4.out.t (u, Z2.l) (by simp)))) rfl);refine hK.out _ _ trivial (fun _ => ?_);clear hK Kc
    try simp only [Act.put, sA, sZ, sS]
    refine wpAnyH_ready (rs := [5]) (by kernel_rfl) (by simp) ?_;refine .cons rfl (fun Kc hK => ?_) .nil;go_simp;refine (HNO.out _ _).mono ?_;rintro e w6 ⟨rfl, hb6⟩;have H6 := hI (H5.out.low hb6);clear hb6;have x0 := H6.out.r.cells;refine hK.out _ _ trivial (fun _ => ?_);clear hK Kc
    try simp only [Act.put, sA, sZ, sS]
    refine wpAnyH_ready (rs := [6]) (by kernel_rfl) (by simp) ?_;refine .cons rfl (fun Kc hK => ?_) .nil;go_simp;refine hK.out _ _ trivial (fun _ => ?_);clear hK Kc
    try simp only [Act.put, sA, sZ, sS]
    refine wpAnyH_done (by kernel_rfl) ?_ _;refine NoPanic.normal ?_;go_wp2_with fail;refine post9 Tryz.results124 rfl rfl (H6.out.r.r.put9z _ _ _ _ _ _ _ _ _) ?_;exact retF_of (H6.out.close (by first | exact mC | simp))

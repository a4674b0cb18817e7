import Derived.Test.YtoleoimmpggldaaGreatDoorRV
set_option linter.unusedVariables false
set_option linter.unusedSimpArgs false
set_option linter.unusedSectionVars false
set_option maxHeartbeats 10000000
set_option maxRecDepth 100000
namespace Go.Proofs.YtoleoimmpggldaaGreatDoor.Rx
open Go.RowKit
section
variable {S : Nat → Prop} {L : List Fk} {gt C g : Nat} {w w0 : World} {σ : PS} {q : Nat} {f : Ft} {cs : Array Value}
theorem form9 {W : World} {U : Nat → Prop} (h : LiesF W U f cs.toList) : ∃ (op : Int) (tx : ByteArray) (k n : Int) (s : ByteArray) (A1 : Option Addr) (n1 m1 : Nat) (A2 : Option Addr) (n2 m2 : Nat) (A3 : Option Addr) (n3 m3 : Nat) (A4 : Option Addr) (n4 m4 : Nat),
 cs = #[ι op, .string tx, ι k, ι n, .string s, .slice A1 n1 m1, .slice A2 n2 m2, .slice A3 n3 m3, .slice A4 n4 m4] := by
 obtain ⟨c0, c1, c2, c3, c4, c5, c6, c7, c8, hc⟩ := h.cells9;rw [hc] at h;obtain ⟨Z, rfl, rfl, rfl, rfl, rfl, rfl, rfl, rfl, rfl⟩ := fr9 h;exact ⟨Z.o, Z.t, Z.k, Z.j, Z.s, Z.A, Z.a, Z.u, Z.B, Z.b, Z.v, Z.C, Z.e, Z.w, Z.D, Z.d, Z.x, Array.toList_inj.1 (by rw [hc])⟩
end
def ChSt (L : List Fk) (gt C g : Nat) (w0 : World) (q : Nat) (m : PM) (op : Int) (sg : List ByteArray) (t : Ft) (τ : PS) (gg : Nat) (wr : World) : Prop :=
 ∃ (n : Nat) (f : Ft) (σ : PS) (cs : Array Value), n ≤ gg ∧ chainL L m op sg (n + 1) f σ = some (t, τ) ∧ St noS L gt C g w0 wr σ [(q, cs)] [(f, cs.toList)]
def ChOne (L : List Fk) (gt C g : Nat) (w0 : World) (q : Nat) (m : PM) (op : Int) (sg : List ByteArray) (t : Ft) (τ : PS) (gg : Nat) (s4 : Value) (wr : World) : Prop :=
 ∃ (n : Nat) (f : Ft) (σ : PS) (cs : Array Value) (b : Bool), n ≤ gg ∧ chainL L m op sg (n + 1) f σ = some (t, τ) ∧ anyP L sg σ = b ∧ s4 = .string (if b = true then (tk L σ.k).s else ⟨#[]⟩) ∧ St noS L gt C g w0 wr (if b = true then adv σ else σ) [(q, cs)] [(f, cs.toList)]
theorem comma_any {L : List Fk} (hL : TokL L) {gt C g : Nat} {call : Ru → PM} (n : Nat) (hA : OkA L gt C g call) : OkF L gt C g 28 (chainM L (call .update) 13 [(⟨#[44]⟩ : ByteArray)] n) := by
 intro W σ t τ hP hm;obtain ⟨f, σ1, h1, h2⟩ := bnd_some hm;obtain ⟨n, rfl⟩ : ∃ n', n = n' + 1 := by
  cases n with
  | zero => exact absurd h2 (by simp [chainL])
  | succ n => exact ⟨n, rfl⟩
 have H0 := hI (St.begin hP);have HC := hI (hA .update _ _ f σ1 H0.out.r.p h1);have HM := hI (hA .update);have HSZ := hI hL.size;have H2 := hI h2;have hg0 := hP.glt;have HNO := hI (fun A W => node_any 13 ⟨#[]⟩ A 2 2 W);have HT := hI (fun W σ (b : Bool) (hb : anyP L [(⟨#[44]⟩ : ByteArray)] σ = b) (hW : PAt L gt C g W σ) => take_any hL (⟨#[44]⟩ : ByteArray) b (by rw [← any_one]; exact hb) hW);clear hP hm h1 h2 hA
 go_enter Tryz.func28, Tryz.ntmps28
 go_wp2_with fail;refine (HC.out).mono ?_;rintro e w1 hZ;obtain ⟨Z1, rfl, hg1, hp1, hl1⟩ := fr3 hZ;have H1 := hI ((H0.out.call hg1 hp1 hl1).box Z1.c);clear hg1 hp1 hl1;go_wp2_with fail;generalize w1.heap.size = q at H1 ⊢;have HX : Hid (ChSt L gt C g W q (call .update) 13 [(⟨#[44]⟩ : ByteArray)] t τ n (w1.alloc (.cells Z1.c 29))) := hI ⟨n, f, σ1, Z1.c, Nat.le_refl _, H2.out, H1.out⟩;clear H1 HC
 go_loopg [6] n (fun gg s6 wr => Hid (ChSt L gt C g W q (call .update) 13 [(⟨#[44]⟩ : ByteArray)] t τ gg wr))
 case atStart => exact HX
 case round =>
  clear HX H2;obtain ⟨n', f', σk, cs, hn, hc, hF⟩ := hrel.out;obtain ⟨b, hb⟩ : ∃ b, anyP L [(⟨#[44]⟩ : ByteArray)] σk = b := ⟨_, rfl⟩
  clear hrel;obtain ⟨Z1, rfl⟩ := fr1 (form9 (cs := cs) (hF.t (f', cs.toList) (by simp)));rw [chainL] at hc;dsimp only at hc;rw [hb] at hc;have HTb := hI (HT.out · σk b hb);clear hb
  cases b with
  | false =>
   rw [if_neg (by decide)] at hc;injection hc with hc
   injection hc with h3 h4
   subst h3; subst h4;have H0 : Hid (St noS L gt C g W wr σk [(q, Z1.c)] [(f', Z1.l)]) := hI hF;clear hF;go_wp2_with fail;refine (HTb.out _ H0.out.r.p).mono ?_;rintro e w1 ⟨rfl, hg1, hp1⟩;have H1 : Hid (St noS L gt C g W w1 σk [(q, Z1.c)] [(f', Z1.l)]) := hI (H0.out.next hg1 hp1);clear hg1 hp1;have y0 := box9 (H1.out.bx (q := q) (c := Z1.c) (by simp));have x0 := H1.out.r.cells;go_wp2_with fail
   (try simp only [Exit.inBlock, Exit.then])
   go_wp2_with fail;refine post9 Tryz.results28 rfl rfl (H1.out.r.r.put9z _ _ _ _ _ _ _ _ _) ?_;exact retF_of (H1.out.close (by first | exact mC | simp))
  | true =>
   rw [if_pos rfl] at hc;obtain ⟨u, σ2, h3, h4⟩ := bnd_some hc;obtain ⟨n2, rfl⟩ : ∃ n2, n' = n2 + 1 := by
    cases n' with
    | zero => exact absurd h4 (by simp [chainL])
    | succ n => exact ⟨n, rfl⟩
   have H4x := hI h4;have HR2 := hI (fun W (hW : PAt L gt C g W (adv σk)) => HM.out W (adv σk) u σ2 hW h3);clear hc h3 h4;have H0 : Hid (St noS L gt C g W wr σk [(q, Z1.c)] [(f', Z1.l)]) := hI hF;clear hF;go_wp2_with fail;refine (HTb.out _ H0.out.r.p).mono ?_;rintro e w1 ⟨rfl, hg1, hp1⟩;have H1 : Hid (St noS L gt C g W w1 (adv σk) [(q, Z1.c)] [(f', Z1.l)]) := hI (H0.out.next hg1 hp1);clear hg1 hp1;go_upto_region 3 with (fail)
   have y0 := box9 (H1.out.bx (q := q) (c := Z1.c) (by simp));refine wp_region_noPanic ?_;refine wp_region_held_drew (S := fun _ => True) (by kernel_rfl) trivial (fun hHeld => ?_);refine wpAnyH_take (i := 1) (v := ?_) rfl (by kernel_rfl) (by kernel_rfl) (by kernel_rfl) (fun _ _ _ h => h) (Or.inl ⟨by rfl, ?ytkm1⟩) (by assumption) ?_
   case ytkm1 => (intro w hSw; (try dsimp only at hSw); go_simp <;> with_reducible rfl)
   try simp only [Act.put, sA, sZ, sS]
   refine wpAnyH_ready (rs := [0, 2]) (by kernel_rfl) (by simp) ?_;refine .cons rfl (fun Kc hK => ?_) (.cons rfl (fun Kc hK => ?_) .nil)
   · skip;go_simp;refine hK.out _ _ trivial (fun _ => ?_);clear hK Kc
     try simp only [Act.put, sA, sZ, sS]
     refine wpAnyH_ready (rs := [2]) (by kernel_rfl) (by simp) ?_;refine .cons rfl (fun Kc hK => ?_) .nil;go_simp;refine (HR2.out _ H1.out.drew.r.p).mono ?_;rintro e w2 hZ;obtain ⟨Z2, rfl, hg2, hp2, hl2⟩ := fr3 hZ;have H2 := hI (H1.out.drew.call hg2 hp2 hl2);clear hg2 hp2 hl2;refine hK.out _ _ trivial (fun _ => ?_);clear hK Kc
     try simp only [Act.put, sA, sZ, sS]
     refine wpAnyH_ready (rs := [3]) (by kernel_rfl) (by simp) ?_;refine .cons rfl (fun Kc hK => ?_) .nil;go_simp;have H3 := hI (H2.out.node 13 ⟨#[]⟩ (by decide) (fs := [f', u]) (row := (Z1.cc Z2)) rfl (by simp) (LiesFL.append (LiesFL.one (H2.out.t (f', Z1.l) (by simp))) (LiesFL.one (H2.out.t (u, Z2.l) (by simp)))) rfl);refine hK.out _ _ trivial (fun _ => ?_);clear hK Kc
     try simp only [Act.put, sA, sZ, sS]
     refine wpAnyH_ready (rs := [4]) (by kernel_rfl) (by simp) ?_;refine .cons rfl (fun Kc hK => ?_) .nil;go_simp;refine (HNO.out _ _).mono ?_;rintro e w4 ⟨rfl, hb4⟩;have H4 := hI (H3.out.low hb4);clear hb4;have x0 := box9 (H4.out.bx (q := q) (c := Z1.c) (by simp));have z0 := box9f (H4.out.bx (q := q) (c := Z1.c) (by simp));have hql := (H4.out.bx (q := q) (c := Z1.c) (by simp)).lt;have H5 := hI ((H4.out.put9 (by intro x hx; simp at hx) (ι 13) eS (ι 0) (ι 0) eS nL nL nL (.slice (some ⟨w2.heap.size, 0, none⟩) 2 2)).only (ts' := [(Ft.mk 13 ⟨#[]⟩ vz [] [f', u], [ι 13, eS, ι 0, ι 0, eS, nL, nL, nL, .slice (some ⟨w2.heap.size, 0, none⟩) 2 2])]) (by intro x hx; simp at hx; subst hx; exact mC));refine hK.out _ _ trivial (fun _ => ?_);clear hK Kc
     try simp only [Act.put, sA, sZ, sS]
     refine wpAnyH_ready (rs := [5]) (by kernel_rfl) (by simp) ?_;refine .cons rfl (fun Kc hK => ?_) .nil;go_simp;refine hK.out _ _ trivial (fun _ => ?_);clear hK Kc
     try simp only [Act.put, sA, sZ, sS]
     refine wpAnyH_done (by kernel_rfl) ?_ _;refine NoPanic.normal ?_;go_wp2_with fail
     go_roundg n2
     case measure => omega
     case rel => exact hI ⟨n2, _, σ2, _, Nat.le_refl _, H4x.out, H5.out⟩
   · skip;go_simp;refine (HR2.out _ H1.out.drew.r.p).mono ?_;rintro e w2 hZ;obtain ⟨Z2, rfl, hg2, hp2, hl2⟩ := fr3 hZ;have H2 := hI (H1.out.drew.call hg2 hp2 hl2);clear hg2 hp2 hl2;refine hK.out _ _ trivial (fun _ => ?_);clear hK Kc
     try simp only [Act.put, sA, sZ, sS]
     have v0 := box9 (H2.out.bx (q := q) (c := Z1.c) (by simp));refine wpAnyH_ready (rs := [0]) (by kernel_rfl) (by simp) ?_;refine .cons rfl (fun Kc hK => ?_) .nil;go_simp;refine hK.out _ _ trivial (fun _ => ?_);clear hK Kc
     try simp only [Act.put, sA, sZ, sS]
     refine wpAnyH_ready (rs := [3]) (by kernel_rfl) (by simp) ?_;refine .cons rfl (fun Kc hK => ?_) .nil;go_simp;have H3 := hI (H2.out.node 13 ⟨#[]⟩ (by decide) (fs := [f', u]) (row := (Z1.cc Z2)) rfl (by simp) (LiesFL.append (LiesFL.one (H2.out.t (f', Z1.l) (by simp))) (LiesFL.one (H2.out.t (u, Z2.l) (by simp)))) rfl);refine hK.out _ _ trivial (fun _ => ?_);clear hK Kc
     try simp only [Act.put, sA, sZ, sS]
     refine wpAnyH_ready (rs := [4]) (by kernel_rfl) (by simp) ?_;refine .cons rfl (fun Kc hK => ?_) .nil;go_simp;refine (HNO.out _ _).mono ?_;rintro e w4 ⟨rfl, hb4⟩;have H4 := hI (H3.out.low hb4);clear hb4;have x0 := box9 (H4.out.bx (q := q) (c := Z1.c) (by simp));have z0 := box9f (H4.out.bx (q := q) (c := Z1.c) (by simp));have hql := (H4.out.bx (q := q) (c := Z1.c) (by simp)).lt;have H5 := hI ((H4.out.put9 (by intro x hx; simp at hx) (ι 13) eS (ι 0) (ι 0) eS nL nL nL (.slice (some ⟨w2.heap.size, 0, none⟩) 2 2)).only (ts' := [(Ft.mk 13 ⟨#[]⟩ vz [] [f', u], [ι 13, eS, ι 0, ι 0, eS, nL, nL, nL, .slice (some ⟨w2.heap.size, 0, none⟩) 2 2])]) (by intro x hx; simp at hx; subst hx; exact mC));refine hK.out _ _ trivial (fun _ => ?_);clear hK Kc
     try simp only [Act.put, sA, sZ, sS]
     refine wpAnyH_ready (rs := [5]) (by kernel_rfl) (by simp) ?_;refine .cons rfl (fun Kc hK => ?_) .nil;go_simp;refine hK.out _ _ trivial (fun _ => ?_);clear hK Kc
     try simp only [Act.put, sA, sZ, sS]
     refine wpAnyH_done (by kernel_rfl) ?_ _;refine NoPanic.normal ?_;go_wp2_with fail
     go_roundg n2
     case measure => omega
     case rel => exact hI ⟨n2, _, σ2, _, Nat.le_refl _, H4x.out, H5.out⟩
theorem or_any {L : List Fk} (hL : TokL L) {gt C g : Nat} {call : Ru → PM} (n : Nat) (hA : OkA L gt C g call) : OkF L gt C g 99 (chainM L (call .and_) 15 [(⟨#[111, 114]⟩ : ByteArray)] n) := by
 intro W σ t τ hP hm;obtain ⟨f, σ1, h1, h2⟩ := bnd_some hm;obtain ⟨n, rfl⟩ : ∃ n', n = n' + 1 := by
  cases n with
  | zero => exact absurd h2 (by simp [chainL])
  | succ n => exact ⟨n, rfl⟩
 have H0 := hI (St.begin hP);have HC := hI (hA .and_ _ _ f σ1 H0.out.r.p h1);have HM := hI (hA .and_);have HSZ := hI hL.size;have H2 := hI h2;have hg0 := hP.glt;have HNO := hI (fun A W => node_any 15 ⟨#[]⟩ A 2 2 W);have HT := hI (fun W σ (b : Bool) (hb : anyP L [(⟨#[111, 114]⟩ : ByteArray)] σ = b) (hW : PAt L gt C g W σ) => take_any hL (⟨#[111, 114]⟩ : ByteArray) b (by rw [← any_one]; exact hb) hW);clear hP hm h1 h2 hA
 go_enter Tryz.func99, Tryz.ntmps99
 go_wp2_with fail;refine (HC.out).mono ?_;rintro e w1 hZ;obtain ⟨Z1, rfl, hg1, hp1, hl1⟩ := fr3 hZ;have H1 := hI ((H0.out.call hg1 hp1 hl1).box Z1.c);clear hg1 hp1 hl1;go_wp2_with fail;generalize w1.heap.size = q at H1 ⊢;have HX : Hid (ChSt L gt C g W q (call .and_) 15 [(⟨#[111, 114]⟩ : ByteArray)] t τ n (w1.alloc (.cells Z1.c 29))) := hI ⟨n, f, σ1, Z1.c, Nat.le_refl _, H2.out, H1.out⟩;clear H1 HC
 go_loopg [6] n (fun gg s6 wr => Hid (ChSt L gt C g W q (call .and_) 15 [(⟨#[111, 114]⟩ : ByteArray)] t τ gg wr))
 case atStart => exact HX
 case round =>
  clear HX H2;obtain ⟨n', f', σk, cs, hn, hc, hF⟩ := hrel.out;obtain ⟨b, hb⟩ : ∃ b, anyP L [(⟨#[111, 114]⟩ : ByteArray)] σk = b := ⟨_, rfl⟩
  clear hrel;obtain ⟨Z1, rfl⟩ := fr1 (form9 (cs := cs) (hF.t (f', cs.toList) (by simp)));rw [chainL] at hc;dsimp only at hc;rw [hb] at hc;have HTb := hI (HT.out · σk b hb);clear hb
  cases b with
  | false =>
   rw [if_neg (by decide)] at hc;injection hc with hc
   injection hc with h3 h4
   subst h3; subst h4;have H0 : Hid (St noS L gt C g W wr σk [(q, Z1.c)] [(f', Z1.l)]) := hI hF;clear hF;go_wp2_with fail;refine (HTb.out _ H0.out.r.p).mono ?_;rintro e w1 ⟨rfl, hg1, hp1⟩;have H1 : Hid (St noS L gt C g W w1 σk [(q, Z1.c)] [(f', Z1.l)]) := hI (H0.out.next hg1 hp1);clear hg1 hp1;have y0 := box9 (H1.out.bx (q := q) (c := Z1.c) (by simp));have x0 := H1.out.r.cells;go_wp2_with fail
   (try simp only [Exit.inBlock, Exit.then])
   go_wp2_with fail;refine post9 Tryz.results99 rfl rfl (H1.out.r.r.put9z _ _ _ _ _ _ _ _ _) ?_;exact retF_of (H1.out.close (by first | exact mC | simp))
  | true =>
   rw [if_pos rfl] at hc;obtain ⟨u, σ2, h3, h4⟩ := bnd_some hc;obtain ⟨n2, rfl⟩ : ∃ n2, n' = n2 + 1 := by
    cases n' with
    | zero => exact absurd h4 (by simp [chainL])
    | succ n => exact ⟨n, rfl⟩
   have H4x := hI h4;have HR2 := hI (fun W (hW : PAt L gt C g W (adv σk)) => HM.out W (adv σk) u σ2 hW h3);clear hc h3 h4;have H0 : Hid (St noS L gt C g W wr σk [(q, Z1.c)] [(f', Z1.l)]) := hI hF;clear hF;go_wp2_with fail;refine (HTb.out _ H0.out.r.p).mono ?_;rintro e w1 ⟨rfl, hg1, hp1⟩;have H1 : Hid (St noS L gt C g W w1 (adv σk) [(q, Z1.c)] [(f', Z1.l)]) := hI (H0.out.next hg1 hp1);clear hg1 hp1;go_upto_region 3 with (fail)
   have y0 := box9 (H1.out.bx (q := q) (c := Z1.c) (by simp));refine wp_region_noPanic ?_;refine wp_region_held_drew (S := fun _ => True) (by kernel_rfl) trivial (fun hHeld => ?_);refine wpAnyH_take (i := 1) (v := ?_) rfl (by kernel_rfl) (by kernel_rfl) (by kernel_rfl) (fun _ _ _ h => h) (Or.inl ⟨by rfl, ?ytkm1⟩) (by assumption) ?_
   case ytkm1 => (intro w hSw; (try dsimp only at hSw); go_simp <;> with_reducible rfl)
   try simp only [Act.put, sA, sZ, sS]
   refine wpAnyH_ready (rs := [0, 2]) (by kernel_rfl) (by simp) ?_;refine .cons rfl (fun Kc hK => ?_) (.cons rfl (fun Kc hK => ?_) .nil)
   · skip;go_simp;refine hK.out _ _ trivial (fun _ => ?_);clear hK Kc
     try simp only [Act.put, sA, sZ, sS]
     refine wpAnyH_ready (rs := [2]) (by kernel_rfl) (by simp) ?_;refine .cons rfl (fun Kc hK => ?_) .nil;go_simp;refine (HR2.out _ H1.out.drew.r.p).mono ?_;rintro e w2 hZ;obtain ⟨Z2, rfl, hg2, hp2, hl2⟩ := fr3 hZ;have H2 := hI (H1.out.drew.call hg2 hp2 hl2);clear hg2 hp2 hl2;refine hK.out _ _ trivial (fun _ => ?_);clear hK Kc
     try simp only [Act.put, sA, sZ, sS]
     refine wpAnyH_ready (rs := [3]) (by kernel_rfl) (by simp) ?_;refine .cons rfl (fun Kc hK => ?_) .nil;go_simp;have H3 := hI (H2.out.node 15 ⟨#[]⟩ (by decide) (fs := [f', u]) (row := (Z1.cc Z2)) rfl (by simp) (LiesFL.append (LiesFL.one (H2.out.t (f', Z1.l) (by simp))) (LiesFL.one (H2.out.t (u, Z2.l) (by simp)))) rfl);refine hK.out _ _ trivial (fun _ => ?_);clear hK Kc
     try simp only [Act.put, sA, sZ, sS]
     refine wpAnyH_ready (rs := [4]) (by kernel_rfl) (by simp) ?_;refine .cons rfl (fun Kc hK => ?_) .nil;go_simp;refine (HNO.out _ _).mono ?_;rintro e w4 ⟨rfl, hb4⟩;have H4 := hI (H3.out.low hb4);clear hb4;have x0 := box9 (H4.out.bx (q := q) (c := Z1.c) (by simp));have z0 := box9f (H4.out.bx (q := q) (c := Z1.c) (by simp));have hql := (H4.out.bx (q := q) (c := Z1.c) (by simp)).lt;have H5 := hI ((H4.out.put9 (by intro x hx; simp at hx) (ι 15) eS (ι 0) (ι 0) eS nL nL nL (.slice (some ⟨w2.heap.size, 0, none⟩) 2 2)).only (ts' := [(Ft.mk 15 ⟨#[]⟩ vz [] [f', u], [ι 15, eS, ι 0, ι 0, eS, nL, nL, nL, .slice (some ⟨w2.heap.size, 0, none⟩) 2 2])]) (by intro x hx; simp at hx; subst hx; exact mC));refine hK.out _ _ trivial (fun _ => ?_);clear hK Kc
     try simp only [Act.put, sA, sZ, sS]
     refine wpAnyH_ready (rs := [5]) (by kernel_rfl) (by simp) ?_;refine .cons rfl (fun Kc hK => ?_) .nil;go_simp;refine hK.out _ _ trivial (fun _ => ?_);clear hK Kc
     try simp only [Act.put, sA, sZ, sS]
     refine wpAnyH_done (by kernel_rfl) ?_ _;refine NoPanic.normal ?_;go_wp2_with fail
     go_roundg n2
     case measure => omega
     case rel => exact hI ⟨n2, _, σ2, _, Nat.le_refl _, H4x.out, H5.out⟩
   · skip;go_simp;refine (HR2.out _ H1.out.drew.r.p).mono ?_;rintro e w2 hZ;obtain ⟨Z2, rfl, hg2, hp2, hl2⟩ := fr3 hZ;have H2 := hI (H1.out.drew.call hg2 hp2 hl2);clear hg2 hp2 hl2;refine hK.out _ _ trivial (fun _ => ?_);clear hK Kc
     try simp only [Act.put, sA, sZ, sS]
     have v0 := box9 (H2.out.bx (q := q) (c := Z1.c) (by simp));refine wpAnyH_ready (rs := [0]) (by kernel_rfl) (by simp) ?_;refine .cons rfl (fun Kc hK => ?_) .nil;go_simp;refine hK.out _ _ trivial (fun _ => ?_);clear hK Kc
     try simp only [Act.put, sA, sZ, sS]
     refine wpAnyH_ready (rs := [3]) (by kernel_rfl) (by simp) ?_;refine .cons rfl (fun Kc hK => ?_) .nil;go_simp;have H3 := hI (H2.out.node 15 ⟨#[]⟩ (by decide) (fs := [f', u]) (row := (Z1.cc Z2)) rfl (by simp) (LiesFL.append (LiesFL.one (H2.out.t (f', Z1.l) (by simp))) (LiesFL.one (H2.out.t (u, Z2.l) (by simp)))) rfl);refine hK.out _ _ trivial (fun _ => ?_);clear hK Kc
     try simp only [Act.put, sA, sZ, sS]
     refine wpAnyH_ready (rs := [4]) (by kernel_rfl) (by simp) ?_;refine .cons rfl (fun Kc hK => ?_) .nil;go_simp;refine (HNO.out _ _).mono ?_;rintro e w4 ⟨rfl, hb4⟩;have H4 := hI (H3.out.low hb4);clear hb4;have x0 := box9 (H4.out.bx (q := q) (c := Z1.c) (by simp));have z0 := box9f (H4.out.bx (q := q) (c := Z1.c) (by simp));have hql := (H4.out.bx (q := q) (c := Z1.c) (by simp)).lt;have H5 := hI ((H4.out.put9 (by intro x hx; simp at hx) (ι 15) eS (ι 0) (ι 0) eS nL nL nL (.slice (some ⟨w2.heap.size, 0, none⟩) 2 2)).only (ts' := [(Ft.mk 15 ⟨#[]⟩ vz [] [f', u], [ι 15, eS, ι 0, ι 0, eS, nL, nL, nL, .slice (some ⟨w2.heap.size, 0, none⟩) 2 2])]) (by intro x hx; simp at hx; subst hx; exact mC));refine hK.out _ _ trivial (fun _ => ?_);clear hK Kc
     try simp only [Act.put, sA, sZ, sS]
     refine wpAnyH_ready (rs := [5]) (by kernel_rfl) (by simp) ?_;refine .cons rfl (fun Kc hK => ?_) .nil;go_simp;refine hK.out _ _ trivial (fun _ => ?_);clear hK Kc
     try simp only [Act.put, sA, sZ, sS]
     refine wpAnyH_done (by kernel_rfl) ?_ _;refine NoPanic.normal ?_;go_wp2_with fail
     go_roundg n2
     case measure => omega
     case rel => exact hI ⟨n2, _, σ2, _, Nat.le_refl _, H4x.out, H5.out⟩
theorem and_any {L : List Fk} (hL : TokL L) {gt C g : Nat} {call : Ru → PM} (n : Nat) (hA : OkA L gt C g call) : OkF L gt C g 113 (chainM L (call .cmp) 16 [(⟨#[97, 110, 100]⟩ : ByteArray)] n) := by
 intro W σ t τ hP hm;obtain ⟨f, σ1, h1, h2⟩ := bnd_some hm;obtain ⟨n, rfl⟩ : ∃ n', n = n' + 1 := by
  cases n with
  | zero => exact absurd h2 (by simp [chainL])
  | succ n => exact ⟨n, rfl⟩
 have H0 := hI (St.begin hP);have HC := hI (hA .cmp _ _ f σ1 H0.out.r.p h1);have HM := hI (hA .cmp);have HSZ := hI hL.size;have H2 := hI h2;have hg0 := hP.glt;have HNO := hI (fun A W => node_any 16 ⟨#[]⟩ A 2 2 W);have HT := hI (fun W σ (b : Bool) (hb : anyP L [(⟨#[97, 110, 100]⟩ : ByteArray)] σ = b) (hW : PAt L gt C g W σ) => take_any hL (⟨#[97, 110, 100]⟩ : ByteArray) b (by rw [← any_one]; exact hb) hW);clear hP hm h1 h2 hA
 go_enter Tryz.func113, Tryz.ntmps113
 go_wp2_with fail;refine (HC.out).mono ?_;rintro e w1 hZ;obtain ⟨Z1, rfl, hg1, hp1, hl1⟩ := fr3 hZ;have H1 := hI ((H0.out.call hg1 hp1 hl1).box Z1.c);clear hg1 hp1 hl1;go_wp2_with fail;generalize w1.heap.size = q at H1 ⊢;have HX : Hid (ChSt L gt C g W q (call .cmp) 16 [(⟨#[97, 110, 100]⟩ : ByteArray)] t τ n (w1.alloc (.cells Z1.c 29))) := hI ⟨n, f, σ1, Z1.c, Nat.le_refl _, H2.out, H1.out⟩;clear H1 HC
 go_loopg [6] n (fun gg s6 wr => Hid (ChSt L gt C g W q (call .cmp) 16 [(⟨#[97, 110, 100]⟩ : ByteArray)] t τ gg wr))
 case atStart => exact HX
 case round =>
  clear HX H2;obtain ⟨n', f', σk, cs, hn, hc, hF⟩ := hrel.out;obtain ⟨b, hb⟩ : ∃ b, anyP L [(⟨#[97, 110, 100]⟩ : ByteArray)] σk = b := ⟨_, rfl⟩
  clear hrel;obtain ⟨Z1, rfl⟩ := fr1 (form9 (cs := cs) (hF.t (f', cs.toList) (by simp)));rw [chainL] at hc;dsimp only at hc;rw [hb] at hc;have HTb := hI (HT.out · σk b hb);clear hb
  cases b with
  | false =>
   rw [if_neg (by decide)] at hc;injection hc with hc
   injection hc with h3 h4
   subst h3; subst h4;have H0 : Hid (St noS L gt C g W wr σk [(q, Z1.c)] [(f', Z1.l)]) := hI hF;clear hF;go_wp2_with fail;refine (HTb.out _ H0.out.r.p).mono ?_;rintro e w1 ⟨rfl, hg1, hp1⟩;have H1 : Hid (St noS L gt C g W w1 σk [(q, Z1.c)] [(f', Z1.l)]) := hI (H0.out.next hg1 hp1);clear hg1 hp1;have y0 := box9 (H1.out.bx (q := q) (c := Z1.c) (by simp));have x0 := H1.out.r.cells;go_wp2_with fail
   (try simp only [Exit.inBlock, Exit.then])
   go_wp2_with fail;refine post9 Tryz.results113 rfl rfl (H1.out.r.r.put9z _ _ _ _ _ _ _ _ _) ?_;exact retF_of (H1.out.close (by first | exact mC | simp))
  | true =>
   rw [if_pos rfl] at hc;obtain ⟨u, σ2, h3, h4⟩ := bnd_some hc;obtain ⟨n2, rfl⟩ : ∃ n2, n' = n2 + 1 := by
    cases n' with
    | zero => exact absurd h4 (by simp [chainL])
    | succ n => exact ⟨n, rfl⟩
   have H4x := hI h4;have HR2 := hI (fun W (hW : PAt L gt C g W (adv σk)) => HM.out W (adv σk) u σ2 hW h3);clear hc h3 h4;have H0 : Hid (St noS L gt C g W wr σk [(q, Z1.c)] [(f', Z1.l)]) := hI hF;clear hF;go_wp2_with fail;refine (HTb.out _ H0.out.r.p).mono ?_;rintro e w1 ⟨rfl, hg1, hp1⟩;have H1 : Hid (St noS L gt C g W w1 (adv σk) [(q, Z1.c)] [(f', Z1.l)]) := hI (H0.out.next hg1 hp1);clear hg1 hp1;go_upto_region 3 with (fail)
   have y0 := box9 (H1.out.bx (q := q) (c := Z1.c) (by simp));refine wp_region_noPanic ?_;refine wp_region_held_drew (S := fun _ => True) (by kernel_rfl) trivial (fun hHeld => ?_);refine wpAnyH_take (i := 1) (v := ?_) rfl (by kernel_rfl) (by kernel_rfl) (by kernel_rfl) (fun _ _ _ h => h) (Or.inl ⟨by rfl, ?ytkm1⟩) (by assumption) ?_
   case ytkm1 => (intro w hSw; (try dsimp only at hSw); go_simp <;> with_reducible rfl)
   try simp only [Act.put, sA, sZ, sS]
   refine wpAnyH_ready (rs := [0, 2]) (by kernel_rfl) (by simp) ?_;refine .cons rfl (fun Kc hK => ?_) (.cons rfl (fun Kc hK => ?_) .nil)
   · skip;go_simp;refine hK.out _ _ trivial (fun _ => ?_);clear hK Kc
     try simp only [Act.put, sA, sZ, sS]
     refine wpAnyH_ready (rs := [2]) (by kernel_rfl) (by simp) ?_;refine .cons rfl (fun Kc hK => ?_) .nil;go_simp;refine (HR2.out _ H1.out.drew.r.p).mono ?_;rintro e w2 hZ;obtain ⟨Z2, rfl, hg2, hp2, hl2⟩ := fr3 hZ;have H2 := hI (H1.out.drew.call hg2 hp2 hl2);clear hg2 hp2 hl2;refine hK.out _ _ trivial (fun _ => ?_);clear hK Kc
     try simp only [Act.put, sA, sZ, sS]
     refine wpAnyH_ready (rs := [3]) (by kernel_rfl) (by simp) ?_;refine .cons rfl (fun Kc hK => ?_) .nil;go_simp;have H3 := hI (H2.out.node 16 ⟨#[]⟩ (by decide) (fs := [f', u]) (row := (Z1.cc Z2)) rfl (by simp) (LiesFL.append (LiesFL.one (H2.out.t (f', Z1.l) (by simp))) (LiesFL.one (H2.out.t (u, Z2.l) (by simp)))) rfl);refine hK.out _ _ trivial (fun _ => ?_);clear hK Kc
     try simp only [Act.put, sA, sZ, sS]
     refine wpAnyH_ready (rs := [4]) (by kernel_rfl) (by simp) ?_;refine .cons rfl (fun Kc hK => ?_) .nil;go_simp;refine (HNO.out _ _).mono ?_;rintro e w4 ⟨rfl, hb4⟩;have H4 := hI (H3.out.low hb4);clear hb4;have x0 := box9 (H4.out.bx (q := q) (c := Z1.c) (by simp));have z0 := box9f (H4.out.bx (q := q) (c := Z1.c) (by simp));have hql := (H4.out.bx (q := q) (c := Z1.c) (by simp)).lt;have H5 := hI ((H4.out.put9 (by intro x hx; simp at hx) (ι 16) eS (ι 0) (ι 0) eS nL nL nL (.slice (some ⟨w2.heap.size, 0, none⟩) 2 2)).only (ts' := [(Ft.mk 16 ⟨#[]⟩ vz [] [f', u], [ι 16, eS, ι 0, ι 0, eS, nL, nL, nL, .slice (some ⟨w2.heap.size, 0, none⟩) 2 2])]) (by intro x hx; simp at hx; subst hx; exact mC));refine hK.out _ _ trivial (fun _ => ?_);clear hK Kc
     try simp only [Act.put, sA, sZ, sS]
     refine wpAnyH_ready (rs := [5]) (by kernel_rfl) (by simp) ?_;refine .cons rfl (fun Kc hK => ?_) .nil;go_simp;refine hK.out _ _ trivial (fun _ => ?_);clear hK Kc
     try simp only [Act.put, sA, sZ, sS]
     refine wpAnyH_done (by kernel_rfl) ?_ _;refine NoPanic.normal ?_;go_wp2_with fail
     go_roundg n2
     case measure => omega
     case rel => exact hI ⟨n2, _, σ2, _, Nat.le_refl _, H4x.out, H5.out⟩
   · skip;go_simp;refine (HR2.out _ H1.out.drew.r.p).mono ?_;rintro e w2 hZ;obtain ⟨Z2, rfl, hg2, hp2, hl2⟩ := fr3 hZ;have H2 := hI (H1.out.drew.call hg2 hp2 hl2);clear hg2 hp2 hl2;refine hK.out _ _ trivial (fun _ => ?_);clear hK Kc
     try simp only [Act.put, sA, sZ, sS]
     have v0 := box9 (H2.out.bx (q := q) (c := Z1.c) (by simp));refine wpAnyH_ready (rs := [0]) (by kernel_rfl) (by simp) ?_;refine .cons rfl (fun Kc hK => ?_) .nil;go_simp;refine hK.out _ _ trivial (fun _ => ?_);clear hK Kc
     try simp only [Act.put, sA, sZ, sS]
     refine wpAnyH_ready (rs := [3]) (by kernel_rfl) (by simp) ?_;refine .cons rfl (fun Kc hK => ?_) .nil;go_simp;have H3 := hI (H2.out.node 16 ⟨#[]⟩ (by decide) (fs := [f', u]) (row := (Z1.cc Z2)) rfl (by simp) (LiesFL.append (LiesFL.one (H2.out.t (f', Z1.l) (by simp))) (LiesFL.one (H2.out.t (u, Z2.l) (by simp)))) rfl);refine hK.out _ _ trivial (fun _ => ?_);clear hK Kc
     try simp only [Act.put, sA, sZ, sS]
     refine wpAnyH_ready (rs := [4]) (by kernel_rfl) (by simp) ?_;refine .cons rfl (fun Kc hK => ?_) .nil;go_simp;refine (HNO.out _ _).mono ?_;rintro e w4 ⟨rfl, hb4⟩;have H4 := hI (H3.out.low hb4);clear hb4;have x0 := box9 (H4.out.bx (q := q) (c := Z1.c) (by simp));have z0 := box9f (H4.out.bx (q := q) (c := Z1.c) (by simp));have hql := (H4.out.bx (q := q) (c := Z1.c) (by simp)).lt;have H5 := hI ((H4.out.put9 (by intro x hx; simp at hx) (ι 16) eS (ι 0) (ι 0) eS nL nL nL (.slice (some ⟨w2.heap.size, 0, none⟩) 2 2)).only (ts' := [(Ft.mk 16 ⟨#[]⟩ vz [] [f', u], [ι 16, eS, ι 0, ι 0, eS, nL, nL, nL, .slice (some ⟨w2.heap.size, 0, none⟩) 2 2])]) (by intro x hx; simp at hx; subst hx; exact mC));refine hK.out _ _ trivial (fun _ => ?_);clear hK Kc
     try simp only [Act.put, sA, sZ, sS]
     refine wpAnyH_ready (rs := [5]) (by kernel_rfl) (by simp) ?_;refine .cons rfl (fun Kc hK => ?_) .nil;go_simp;refine hK.out _ _ trivial (fun _ => ?_);clear hK Kc
     try simp only [Act.put, sA, sZ, sS]
     refine wpAnyH_done (by kernel_rfl) ?_ _;refine NoPanic.normal ?_;go_wp2_with fail
     go_roundg n2
     case measure => omega
     case rel => exact hI ⟨n2, _, σ2, _, Nat.le_refl _, H4x.out, H5.out⟩
theorem sum_any {L : List Fk} (hL : TokL L) {gt C g : Nat} {call : Ru → PM} (n : Nat) (hA : OkA L gt C g call) : OkF L gt C g 130 (chainM L (call .product) 17 [(⟨#[43]⟩ : ByteArray), (⟨#[45]⟩ : ByteArray)] n) := by
 intro W σ t τ hP hm;obtain ⟨f, σ1, h1, h2⟩ := bnd_some hm;obtain ⟨n, rfl⟩ : ∃ n', n = n' + 1 := by
  cases n with
  | zero => exact absurd h2 (by simp [chainL])
  | succ n => exact ⟨n, rfl⟩
 have H0 := hI (St.begin hP);have HC := hI (hA .product _ _ f σ1 H0.out.r.p h1);have HM := hI (hA .product);have HSZ := hI hL.size;have H2 := hI h2;have hg0 := hP.glt;have HNO := hI (fun S A W => node_any 17 S A 2 2 W);have HT := hI (fun W σ h (b : Bool) (hb : anyP L [(⟨#[43]⟩ : ByteArray), (⟨#[45]⟩ : ByteArray)] σ = b) (hw : StrRow W h [(⟨#[43]⟩ : ByteArray), (⟨#[45]⟩ : ByteArray)]) (hng : h ≠ g) (hW : PAt L gt C g W σ) => oneOf_any hL h [(⟨#[43]⟩ : ByteArray), (⟨#[45]⟩ : ByteArray)] hw hng (by decide) b hb hW);obtain ⟨b, hb⟩ : ∃ b, anyP L [(⟨#[43]⟩ : ByteArray), (⟨#[45]⟩ : ByteArray)] σ1 = b := ⟨_, rfl⟩
 have HB := hI hb;clear hb;clear hP hm h1 h2 hA
 go_enter Tryz.func130, Tryz.ntmps130
 go_wp2_with fail;refine (HC.out).mono ?_;rintro e w1 hZ;obtain ⟨Z1, rfl, hg1, hp1, hl1⟩ := fr3 hZ;have H1 := hI ((H0.out.call hg1 hp1 hl1).box Z1.c);clear hg1 hp1 hl1;go_wp2_with fail;have H2a := hI (H1.out.alloc (.cells #[.string ⟨#[43]⟩, .string ⟨#[45]⟩] 9));have HR : Hid (StrRow ((w1.alloc (.cells Z1.c 29)).alloc (.cells #[.string ⟨#[43]⟩, .string ⟨#[45]⟩] 9)) (w1.heap.size + 1) [(⟨#[43]⟩ : ByteArray), (⟨#[45]⟩ : ByteArray)]) := hI (StrRow.new _ _ #[.string ⟨#[43]⟩, .string ⟨#[45]⟩] [(⟨#[43]⟩ : ByteArray), (⟨#[45]⟩ : ByteArray)] (by simp) rfl);have hgw : g < w1.heap.size := by have := H1.out.r.g0; have := H1.out.lt; simp at this; omega
 refine (HT.out _ _ _ b HB.out HR.out (by omega) H2a.out.r.p).mono ?_;rintro e w3 ⟨rfl, hg3, hp3⟩;have H3 := hI (H2a.out.next hg3 hp3);clear hg3 hp3;generalize w1.heap.size = q at H3 ⊢;have HX : Hid (ChOne L gt C g W q (call .product) 17 [(⟨#[43]⟩ : ByteArray), (⟨#[45]⟩ : ByteArray)] t τ n (.string (if b = true then (tk L σ1.k).s else ⟨#[]⟩)) w3) := hI ⟨n, f, σ1, Z1.c, b, Nat.le_refl _, H2.out, HB.out, rfl, H3.out⟩;generalize (if b = true then (tk L σ1.k).s else ⟨#[]⟩) = S0 at HX ⊢;clear H1 H2a HR H3 hgw HC HB;go_wp2_with fail
 go_loopg [4] n (fun gg s4 wr => Hid (ChOne L gt C g W q (call .product) 17 [(⟨#[43]⟩ : ByteArray), (⟨#[45]⟩ : ByteArray)] t τ gg s4 wr))
 case atStart => exact HX
 case round =>
  clear HX H2;obtain ⟨n', f', σk, cs, b, hn, hc, hb, rfl, hF⟩ := hrel.out;clear hrel;obtain ⟨Z1, rfl⟩ := fr1 (form9 (cs := cs) (hF.t (f', cs.toList) (by simp)));rw [chainL] at hc;dsimp only at hc;rw [hb] at hc;have HNE : Hid (b = true → ((tk L σk.k).s.toList == []) = false) := hI (fun e => any_ne (hb.trans e) (by decide));clear hb
  cases b with
  | false =>
   rw [if_neg (by decide)] at hc;injection hc with hc
   injection hc with h3 h4
   subst h3; subst h4;have H1 : Hid (St noS L gt C g W wr σk [(q, Z1.c)] [(f', Z1.l)]) := hI hF;clear hF HNE;have y0 := box9 (H1.out.bx (q := q) (c := Z1.c) (by simp));have x0 := H1.out.r.cells;go_wp2_with fail
   (try simp only [Exit.inBlock, Exit.then])
   go_wp2_with fail;refine post9 Tryz.results130 rfl rfl (H1.out.r.r.put9z _ _ _ _ _ _ _ _ _) ?_;exact retF_of (H1.out.close (by first | exact mC | simp))
  | true =>
   rw [if_pos rfl] at hc;obtain ⟨u, σ2, h3, h4⟩ := bnd_some hc;obtain ⟨n2, rfl⟩ : ∃ n2, n' = n2 + 1 := by
    cases n' with
    | zero => exact absurd h4 (by simp [chainL])
    | succ n => exact ⟨n, rfl⟩
   have H4x := hI h4;have HR2 := hI (fun W (hW : PAt L gt C g W (adv σk)) => HM.out W (adv σk) u σ2 hW h3);clear hc h3 h4;have H1 : Hid (St noS L gt C g W wr (adv σk) [(q, Z1.c)] [(f', Z1.l)]) := hI hF;have hsz := HSZ.out σk.k;have hne := HNE.out rfl
   (try simp only [if_true])
   generalize (tk L σk.k).s = S at hsz hne H4x ⊢;clear hF HNE;go_upto_region 5 with (fail)
   have y0 := box9 (H1.out.bx (q := q) (c := Z1.c) (by simp));refine wp_region_noPanic ?_;refine wp_region_held_drew (S := fun _ => True) (by kernel_rfl) trivial (fun hHeld => ?_);refine wpAnyH_take (i := 0) (v := ?_) rfl (by kernel_rfl) (by kernel_rfl) (by kernel_rfl) (fun _ _ _ h => h) (Or.inl ⟨by rfl, ?ytkm0⟩) (by assumption) ?_
   case ytkm0 => (intro w hSw; (try dsimp only at hSw); go_simp <;> with_reducible rfl)
   try simp only [Act.put, sA, sZ, sS]
   refine wpAnyH_take (i := 2) (v := ?_) rfl (by kernel_rfl) (by kernel_rfl) (by kernel_rfl) (fun _ _ _ h => h) (Or.inl ⟨by rfl, ?ytkm2⟩) (by assumption) ?_
   case ytkm2 => (intro w hSw; (try dsimp only at hSw); go_simp <;> with_reducible rfl)
   try simp only [Act.put, sA, sZ, sS]
   refine wpAnyH_ready (rs := [1, 3]) (by kernel_rfl) (by simp) ?_;refine .cons rfl (fun Kc hK => ?_) (.cons rfl (fun Kc hK => ?_) .nil)
   · skip;go_simp;refine hK.out _ _ trivial (fun _ => ?_);clear hK Kc
     try simp only [Act.put, sA, sZ, sS]
     refine wpAnyH_ready (rs := [3]) (by kernel_rfl) (by simp) ?_;refine .cons rfl (fun Kc hK => ?_) .nil;go_simp;refine (HR2.out _ H1.out.drew.r.p).mono ?_;rintro e w2 hZ;obtain ⟨Z2, rfl, hg2, hp2, hl2⟩ := fr3 hZ;have H2 := hI (H1.out.drew.call hg2 hp2 hl2);clear hg2 hp2 hl2;refine hK.out _ _ trivial (fun _ => ?_);clear hK Kc
     try simp only [Act.put, sA, sZ, sS]
     refine wpAnyH_ready (rs := [4]) (by kernel_rfl) (by simp) ?_;refine .cons rfl (fun Kc hK => ?_) .nil;go_simp;have H3 := hI (H2.out.node 17 S (by omega) (fs := [f', u]) (row := (Z1.cc Z2)) rfl (by simp) (LiesFL.append (LiesFL.one (H2.out.t (f', Z1.l) (by simp))) (LiesFL.one (H2.out.t (u, Z2.l) (by simp)))) rfl);refine hK.out _ _ trivial (fun _ => ?_);clear hK Kc
     try simp only [Act.put, sA, sZ, sS]
     refine wpAnyH_ready (rs := [5]) (by kernel_rfl) (by simp) ?_;refine .cons rfl (fun Kc hK => ?_) .nil;go_simp;refine (HNO.out S _ _).mono ?_;rintro e w4 ⟨rfl, hb4⟩;have H4 := hI (H3.out.low hb4);clear hb4;have x0 := box9 (H4.out.bx (q := q) (c := Z1.c) (by simp));have z0 := box9f (H4.out.bx (q := q) (c := Z1.c) (by simp));have hql := (H4.out.bx (q := q) (c := Z1.c) (by simp)).lt;have H5 := hI ((H4.out.put9 (by intro x hx; simp at hx) (ι 17) (.string S) (ι 0) (ι 0) eS nL nL nL (.slice (some ⟨w2.heap.size, 0, none⟩) 2 2)).only (ts' := [(Ft.mk 17 S vz [] [f', u], [ι 17, .string S, ι 0, ι 0, eS, nL, nL, nL, .slice (some ⟨w2.heap.size, 0, none⟩) 2 2])]) (by intro x hx; simp at hx; subst hx; exact mC));refine hK.out _ _ trivial (fun _ => ?_);clear hK Kc
     try simp only [Act.put, sA, sZ, sS]
     refine wpAnyH_ready (rs := [6]) (by kernel_rfl) (by simp) ?_;refine .cons rfl (fun Kc hK => ?_) .nil;go_simp;refine hK.out _ _ trivial (fun _ => ?_);clear hK Kc
     try simp only [Act.put, sA, sZ, sS]
     refine wpAnyH_done (by kernel_rfl) ?_ _;refine NoPanic.normal ?_;clear hHeld x0 z0 y0;generalize hW6 : (((((((((w4.setCell ⟨q, 0, none⟩ (ι 17)).setCell ⟨q, 1, none⟩ (.string S)).setCell ⟨q, 2, none⟩ (ι 0)).setCell ⟨q, 3, none⟩ (ι 0)).setCell ⟨q, 4, none⟩ eS).setCell ⟨q, 5, none⟩ nL).setCell ⟨q, 6, none⟩ nL).setCell ⟨q, 7, none⟩ nL).setCell ⟨q, 8, none⟩ (.slice (some ⟨w2.heap.size, 0, none⟩) 2 2)) = w6 at H5 ⊢;have H6 := hI (H5.out.alloc (.cells #[.string ⟨#[43]⟩, .string ⟨#[45]⟩] 9));have hgw : g < w6.heap.size := H5.out.r.p.glt;have HR6 : Hid (StrRow (w6.alloc (.cells #[.string ⟨#[43]⟩, .string ⟨#[45]⟩] 9)) w6.heap.size [(⟨#[43]⟩ : ByteArray), (⟨#[45]⟩ : ByteArray)]) := hI (StrRow.new _ _ #[.string ⟨#[43]⟩, .string ⟨#[45]⟩] [(⟨#[43]⟩ : ByteArray), (⟨#[45]⟩ : ByteArray)] rfl rfl);obtain ⟨b2, hb2⟩ : ∃ b, anyP L [(⟨#[43]⟩ : ByteArray), (⟨#[45]⟩ : ByteArray)] σ2 = b := ⟨_, rfl⟩
     have HB2 := hI hb2;clear hb2 hW6;go_wp2_with fail;refine (HT.out _ _ _ b2 HB2.out HR6.out (by omega) H6.out.r.p).mono ?_;rintro e w7 ⟨rfl, hg7, hp7⟩;have HX : Hid (ChOne L gt C g W q (call .product) 17 [(⟨#[43]⟩ : ByteArray), (⟨#[45]⟩ : ByteArray)] t τ n2 (.string (if b2 = true then (tk L σ2.k).s else ⟨#[]⟩)) w7) := hI ⟨n2, _, σ2, _, b2, Nat.le_refl _, H4x.out, HB2.out, rfl, H6.out.next hg7 hp7⟩;clear hg7 hp7;generalize (if b2 = true then (tk L σ2.k).s else ⟨#[]⟩) = S2 at HX ⊢;go_wp2_with fail
     go_roundg n2
     case measure => omega
     case rel => exact HX
   · skip;go_simp;refine (HR2.out _ H1.out.drew.r.p).mono ?_;rintro e w2 hZ;obtain ⟨Z2, rfl, hg2, hp2, hl2⟩ := fr3 hZ;have H2 := hI (H1.out.drew.call hg2 hp2 hl2);clear hg2 hp2 hl2;refine hK.out _ _ trivial (fun _ => ?_);clear hK Kc
     try simp only [Act.put, sA, sZ, sS]
     have v0 := box9 (H2.out.bx (q := q) (c := Z1.c) (by simp));refine wpAnyH_ready (rs := [1]) (by kernel_rfl) (by simp) ?_;refine .cons rfl (fun Kc hK => ?_) .nil;go_simp;refine hK.out _ _ trivial (fun _ => ?_);clear hK Kc
     try simp only [Act.put, sA, sZ, sS]
     refine wpAnyH_ready (rs := [4]) (by kernel_rfl) (by simp) ?_;refine .cons rfl (fun Kc hK => ?_) .nil;go_simp;have H3 := hI (H2.out.node 17 S (by omega) (fs := [f', u]) (row := (Z1.cc Z2)) rfl (by simp) (LiesFL.append (LiesFL.one (H2.out.t (f', Z1.l) (by simp))) (LiesFL.one (H2.out.t (u, Z2.l) (by simp)))) rfl);refine hK.out _ _ trivial (fun _ => ?_);clear hK Kc
     try simp only [Act.put, sA, sZ, sS]
     refine wpAnyH_ready (rs := [5]) (by kernel_rfl) (by simp) ?_;refine .cons rfl (fun Kc hK => ?_) .nil;go_simp;refine (HNO.out S _ _).mono ?_;rintro e w4 ⟨rfl, hb4⟩;have H4 := hI (H3.out.low hb4);clear hb4;have x0 := box9 (H4.out.bx (q := q) (c := Z1.c) (by simp));have z0 := box9f (H4.out.bx (q := q) (c := Z1.c) (by simp));have hql := (H4.out.bx (q := q) (c := Z1.c) (by simp)).lt;have H5 := hI ((H4.out.put9 (by intro x hx; simp at hx) (ι 17) (.string S) (ι 0) (ι 0) eS nL nL nL (.slice (some ⟨w2.heap.size, 0, none⟩) 2 2)).only (ts' := [(Ft.mk 17 S vz [] [f', u], [ι 17, .string S, ι 0, ι 0, eS, nL, nL, nL, .slice (some ⟨w2.heap.size, 0, none⟩) 2 2])]) (by intro x hx; simp at hx; subst hx; exact mC));refine hK.out _ _ trivial (fun _ => ?_);clear hK Kc
     try simp only [Act.put, sA, sZ, sS]
     refine wpAnyH_ready (rs := [6]) (by kernel_rfl) (by simp) ?_;refine .cons rfl (fun Kc hK => ?_) .nil;go_simp;refine hK.out _ _ trivial (fun _ => ?_);clear hK Kc
     try simp only [Act.put, sA, sZ, sS]
     refine wpAnyH_done (by kernel_rfl) ?_ _;refine NoPanic.normal ?_;clear hHeld x0 z0 y0;generalize hW6 : (((((((((w4.setCell ⟨q, 0, none⟩ (ι 17)).setCell ⟨q, 1, none⟩ (.string S)).setCell ⟨q, 2, none⟩ (ι 0)).setCell ⟨q, 3, none⟩ (ι 0)).setCell ⟨q, 4, none⟩ eS).setCell ⟨q, 5, none⟩ nL).setCell ⟨q, 6, none⟩ nL).setCell ⟨q, 7, none⟩ nL).setCell ⟨q, 8, none⟩ (.slice (some ⟨w2.heap.size, 0, none⟩) 2 2)) = w6 at H5 ⊢;have H6 := hI (H5.out.alloc (.cells #[.string ⟨#[43]⟩, .string ⟨#[45]⟩] 9));have hgw : g < w6.heap.size := H5.out.r.p.glt;have HR6 : Hid (StrRow (w6.alloc (.cells #[.string ⟨#[43]⟩, .string ⟨#[45]⟩] 9)) w6.heap.size [(⟨#[43]⟩ : ByteArray), (⟨#[45]⟩ : ByteArray)]) := hI (StrRow.new _ _ #[.string ⟨#[43]⟩, .string ⟨#[45]⟩] [(⟨#[43]⟩ : ByteArray), (⟨#[45]⟩ : ByteArray)] rfl rfl);obtain ⟨b2, hb2⟩ : ∃ b, anyP L [(⟨#[43]⟩ : ByteArray), (⟨#[45]⟩ : ByteArray)] σ2 = b := ⟨_, rfl⟩
     have HB2 := hI hb2;clear hb2 hW6;go_wp2_with fail;refine (HT.out _ _ _ b2 HB2.out HR6.out (by omega) H6.out.r.p).mono ?_;rintro e w7 ⟨rfl, hg7, hp7⟩;have HX : Hid (ChOne L gt C g W q (call .product) 17 [(⟨#[43]⟩ : ByteArray), (⟨#[45]⟩ : ByteArray)] t τ n2 (.string (if b2 = true then (tk L σ2.k).s else ⟨#[]⟩)) w7) := hI ⟨n2, _, σ2, _, b2, Nat.le_refl _, H4x.out, HB2.out, rfl, H6.out.next hg7 hp7⟩;clear hg7 hp7;generalize (if b2 = true then (tk L σ2.k).s else ⟨#[]⟩) = S2 at HX ⊢;go_wp2_with fail
     go_roundg n2
     case measure => omega
     case rel => exact HX
theorem product_any {L : List Fk} (hL : TokL L) {gt C g : Nat} {call : Ru → PM} (n : Nat) (hA : OkA L gt C g call) : OkF L gt C g 136 (chainM L (call .unary) 17 [(⟨#[42]⟩ : ByteArray), (⟨#[47]⟩ : ByteArray), (⟨#[37]⟩ : ByteArray)] n) := by
 intro W σ t τ hP hm;obtain ⟨f, σ1, h1, h2⟩ := bnd_some hm;obtain ⟨n, rfl⟩ : ∃ n', n = n' + 1 := by
  cases n with
  | zero => exact absurd h2 (by simp [chainL])
  | succ n => exact ⟨n, rfl⟩
 have H0 := hI (St.begin hP);have HC := hI (hA .unary _ _ f σ1 H0.out.r.p h1);have HM := hI (hA .unary);have HSZ := hI hL.size;have H2 := hI h2;have hg0 := hP.glt;have HNO := hI (fun S A W => node_any 17 S A 2 2 W);have HT := hI (fun W σ h (b : Bool) (hb : anyP L [(⟨#[42]⟩ : ByteArray), (⟨#[47]⟩ : ByteArray), (⟨#[37]⟩ : ByteArray)] σ = b) (hw : StrRow W h [(⟨#[42]⟩ : ByteArray), (⟨#[47]⟩ : ByteArray), (⟨#[37]⟩ : ByteArray)]) (hng : h ≠ g) (hW : PAt L gt C g W σ) => oneOf_any hL h [(⟨#[42]⟩ : ByteArray), (⟨#[47]⟩ : ByteArray), (⟨#[37]⟩ : ByteArray)] hw hng (by decide) b hb hW);obtain ⟨b, hb⟩ : ∃ b, anyP L [(⟨#[42]⟩ : ByteArray), (⟨#[47]⟩ : ByteArray), (⟨#[37]⟩ : ByteArray)] σ1 = b := ⟨_, rfl⟩
 have HB := hI hb;clear hb;clear hP hm h1 h2 hA
 go_enter Tryz.func136, Tryz.ntmps136
 go_wp2_with fail;refine (HC.out).mono ?_;rintro e w1 hZ;obtain ⟨Z1, rfl, hg1, hp1, hl1⟩ := fr3 hZ;have H1 := hI ((H0.out.call hg1 hp1 hl1).box Z1.c);clear hg1 hp1 hl1;go_wp2_with fail;have H2a := hI (H1.out.alloc (.cells #[.string ⟨#[42]⟩, .string ⟨#[47]⟩, .string ⟨#[37]⟩] 9));have HR : Hid (StrRow ((w1.alloc (.cells Z1.c 29)).alloc (.cells #[.string ⟨#[42]⟩, .string ⟨#[47]⟩, .string ⟨#[37]⟩] 9)) (w1.heap.size + 1) [(⟨#[42]⟩ : ByteArray), (⟨#[47]⟩ : ByteArray), (⟨#[37]⟩ : ByteArray)]) := hI (StrRow.new _ _ #[.string ⟨#[42]⟩, .string ⟨#[47]⟩, .string ⟨#[37]⟩] [(⟨#[42]⟩ : ByteArray), (⟨#[47]⟩ : ByteArray), (⟨#[37]⟩ : ByteArray)] (by simp) rfl);have hgw : g < w1.heap.size := by have := H1.out.r.g0; have := H1.out.lt; simp at this; omega
 refine (HT.out _ _ _ b HB.out HR.out (by omega) H2a.out.r.p).mono ?_;rintro e w3 ⟨rfl, hg3, hp3⟩;have H3 := hI (H2a.out.next hg3 hp3);clear hg3 hp3;generalize w1.heap.size = q at H3 ⊢;have HX : Hid (ChOne L gt C g W q (call .unary) 17 [(⟨#[42]⟩ : ByteArray), (⟨#[47]⟩ : ByteArray), (⟨#[37]⟩ : ByteArray)] t τ n (.string (if b = true then (tk L σ1.k).s else ⟨#[]⟩)) w3) := hI ⟨n, f, σ1, Z1.c, b, Nat.le_refl _, H2.out, HB.out, rfl, H3.out⟩;generalize (if b = true then (tk L σ1.k).s else ⟨#[]⟩) = S0 at HX ⊢;clear H1 H2a HR H3 hgw HC HB;go_wp2_with fail
 go_loopg [4] n (fun gg s4 wr => Hid (ChOne L gt C g W q (call .unary) 17 [(⟨#[42]⟩ : ByteArray), (⟨#[47]⟩ : ByteArray), (⟨#[37]⟩ : ByteArray)] t τ gg s4 wr))
 case atStart => exact HX
 case round =>
  clear HX H2;obtain ⟨n', f', σk, cs, b, hn, hc, hb, rfl, hF⟩ := hrel.out;clear hrel;obtain ⟨Z1, rfl⟩ := fr1 (form9 (cs := cs) (hF.t (f', cs.toList) (by simp)));rw [chainL] at hc;dsimp only at hc;rw [hb] at hc;have HNE : Hid (b = true → ((tk L σk.k).s.toList == []) = false) := hI (fun e => any_ne (hb.trans e) (by decide));clear hb
  cases b with
  | false =>
   rw [if_neg (by decide)] at hc;injection hc with hc
   injection hc with h3 h4
   subst h3; subst h4;have H1 : Hid (St noS L gt C g W wr σk [(q, Z1.c)] [(f', Z1.l)]) := hI hF;clear hF HNE;have y0 := box9 (H1.out.bx (q := q) (c := Z1.c) (by simp));have x0 := H1.out.r.cells;go_wp2_with fail
   (try simp only [Exit.inBlock, Exit.then])
   go_wp2_with fail;refine post9 Tryz.results136 rfl rfl (H1.out.r.r.put9z _ _ _ _ _ _ _ _ _) ?_;exact retF_of (H1.out.close (by first | exact mC | simp))
  | true =>
   rw [if_pos rfl] at hc;obtain ⟨u, σ2, h3, h4⟩ := bnd_some hc;obtain ⟨n2, rfl⟩ : ∃ n2, n' = n2 + 1 := by
    cases n' with
    | zero => exact absurd h4 (by simp [chainL])
    | succ n => exact ⟨n, rfl⟩
   have H4x := hI h4;have HR2 := hI (fun W (hW : PAt L gt C g W (adv σk)) => HM.out W (adv σk) u σ2 hW h3);clear hc h3 h4;have H1 : Hid (St noS L gt C g W wr (adv σk) [(q, Z1.c)] [(f', Z1.l)]) := hI hF;have hsz := HSZ.out σk.k;have hne := HNE.out rfl
   (try simp only [if_true])
   generalize (tk L σk.k).s = S at hsz hne H4x ⊢;clear hF HNE;go_upto_region 5 with (fail)
   have y0 := box9 (H1.out.bx (q := q) (c := Z1.c) (by simp));refine wp_region_noPanic ?_;refine wp_region_held_drew (S := fun _ => True) (by kernel_rfl) trivial (fun hHeld => ?_);refine wpAnyH_take (i := 0) (v := ?_) rfl (by kernel_rfl) (by kernel_rfl) (by kernel_rfl) (fun _ _ _ h => h) (Or.inl ⟨by rfl, ?ytkm0⟩) (by assumption) ?_
   case ytkm0 => (intro w hSw; (try dsimp only at hSw); go_simp <;> with_reducible rfl)
   try simp only [Act.put, sA, sZ, sS]
   refine wpAnyH_take (i := 2) (v := ?_) rfl (by kernel_rfl) (by kernel_rfl) (by kernel_rfl) (fun _ _ _ h => h) (Or.inl ⟨by rfl, ?ytkm2⟩) (by assumption) ?_
   case ytkm2 => (intro w hSw; (try dsimp only at hSw); go_simp <;> with_reducible rfl)
   try simp only [Act.put, sA, sZ, sS]
   refine wpAnyH_ready (rs := [1, 3]) (by kernel_rfl) (by simp) ?_;refine .cons rfl (fun Kc hK => ?_) (.cons rfl (fun Kc hK => ?_) .nil)
   · skip;go_simp;refine hK.out _ _ trivial (fun _ => ?_);clear hK Kc
     try simp only [Act.put, sA, sZ, sS]
     refine wpAnyH_ready (rs := [3]) (by kernel_rfl) (by simp) ?_;refine .cons rfl (fun Kc hK => ?_) .nil;go_simp;refine (HR2.out _ H1.out.drew.r.p).mono ?_;rintro e w2 hZ;obtain ⟨Z2, rfl, hg2, hp2, hl2⟩ := fr3 hZ;have H2 := hI (H1.out.drew.call hg2 hp2 hl2);clear hg2 hp2 hl2;refine hK.out _ _ trivial (fun _ => ?_);clear hK Kc
     try simp only [Act.put, sA, sZ, sS]
     refine wpAnyH_ready (rs := [4]) (by kernel_rfl) (by simp) ?_;refine .cons rfl (fun Kc hK => ?_) .nil;go_simp;have H3 := hI (H2.out.node 17 S (by omega) (fs := [f', u]) (row := (Z1.cc Z2)) rfl (by simp) (LiesFL.append (LiesFL.one (H2.out.t (f', Z1.l) (by simp))) (LiesFL.one (H2.out.t (u, Z2.l) (by simp)))) rfl);refine hK.out _ _ trivial (fun _ => ?_);clear hK Kc
     try simp only [Act.put, sA, sZ, sS]
     refine wpAnyH_ready (rs := [5]) (by kernel_rfl) (by simp) ?_;refine .cons rfl (fun Kc hK => ?_) .nil;go_simp;refine (HNO.out S _ _).mono ?_;rintro e w4 ⟨rfl, hb4⟩;have H4 := hI (H3.out.low hb4);clear hb4;have x0 := box9 (H4.out.bx (q := q) (c := Z1.c) (by simp));have z0 := box9f (H4.out.bx (q := q) (c := Z1.c) (by simp));have hql := (H4.out.bx (q := q) (c := Z1.c) (by simp)).lt;have H5 := hI ((H4.out.put9 (by intro x hx; simp at hx) (ι 17) (.string S) (ι 0) (ι 0) eS nL nL nL (.slice (some ⟨w2.heap.size, 0, none⟩) 2 2)).only (ts' := [(Ft.mk 17 S vz [] [f', u], [ι 17, .string S, ι 0, ι 0, eS, nL, nL, nL, .slice (some ⟨w2.heap.size, 0, none⟩) 2 2])]) (by intro x hx; simp at hx; subst hx; exact mC));refine hK.out _ _ trivial (fun _ => ?_);clear hK Kc
     try simp only [Act.put, sA, sZ, sS]
     refine wpAnyH_ready (rs := [6]) (by kernel_rfl) (by simp) ?_;refine .cons rfl (fun Kc hK => ?_) .nil;go_simp;refine hK.out _ _ trivial (fun _ => ?_);clear hK Kc
     try simp only [Act.put, sA, sZ, sS]
     refine wpAnyH_done (by kernel_rfl) ?_ _;refine NoPanic.normal ?_;clear hHeld x0 z0 y0;generalize hW6 : (((((((((w4.setCell ⟨q, 0, none⟩ (ι 17)).setCell ⟨q, 1, none⟩ (.string S)).setCell ⟨q, 2, none⟩ (ι 0)).setCell ⟨q, 3, none⟩ (ι 0)).setCell ⟨q, 4, none⟩ eS).setCell ⟨q, 5, none⟩ nL).setCell ⟨q, 6, none⟩ nL).setCell ⟨q, 7, none⟩ nL).setCell ⟨q, 8, none⟩ (.slice (some ⟨w2.heap.size, 0, none⟩) 2 2)) = w6 at H5 ⊢;have H6 := hI (H5.out.alloc (.cells #[.string ⟨#[42]⟩, .string ⟨#[47]⟩, .string ⟨#[37]⟩] 9));have hgw : g < w6.heap.size := H5.out.r.p.glt;have HR6 : Hid (StrRow (w6.alloc (.cells #[.string ⟨#[42]⟩, .string ⟨#[47]⟩, .string ⟨#[37]⟩] 9)) w6.heap.size [(⟨#[42]⟩ : ByteArray), (⟨#[47]⟩ : ByteArray), (⟨#[37]⟩ : ByteArray)]) := hI (StrRow.new _ _ #[.string ⟨#[42]⟩, .string ⟨#[47]⟩, .string ⟨#[37]⟩] [(⟨#[42]⟩ : ByteArray), (⟨#[47]⟩ : ByteArray), (⟨#[37]⟩ : ByteArray)] rfl rfl);obtain ⟨b2, hb2⟩ : ∃ b, anyP L [(⟨#[42]⟩ : ByteArray), (⟨#[47]⟩ : ByteArray), (⟨#[37]⟩ : ByteArray)] σ2 = b := ⟨_, rfl⟩
     have HB2 := hI hb2;clear hb2 hW6;go_wp2_with fail;refine (HT.out _ _ _ b2 HB2.out HR6.out (by omega) H6.out.r.p).mono ?_;rintro e w7 ⟨rfl, hg7, hp7⟩;have HX : Hid (ChOne L gt C g W q (call .unary) 17 [(⟨#[42]⟩ : ByteArray), (⟨#[47]⟩ : ByteArray), (⟨#[37]⟩ : ByteArray)] t τ n2 (.string (if b2 = true then (tk L σ2.k).s else ⟨#[]⟩)) w7) := hI ⟨n2, _, σ2, _, b2, Nat.le_refl _, H4x.out, HB2.out, rfl, H6.out.next hg7 hp7⟩;clear hg7 hp7;generalize (if b2 = true then (tk L σ2.k).s else ⟨#[]⟩) = S2 at HX ⊢;go_wp2_with fail
     go_roundg n2
     case measure => omega
     case rel => exact HX
   · skip;go_simp;refine (HR2.out _ H1.out.drew.r.p).mono ?_;rintro e w2 hZ;obtain ⟨Z2, rfl, hg2, hp2, hl2⟩ := fr3 hZ;have H2 := hI (H1.out.drew.call hg2 hp2 hl2);clear hg2 hp2 hl2;refine hK.out _ _ trivial (fun _ => ?_);clear hK Kc
     try simp only [Act.put, sA, sZ, sS]
     have v0 := box9 (H2.out.bx (q := q) (c := Z1.c) (by simp));refine wpAnyH_ready (rs := [1]) (by kernel_rfl) (by simp) ?_;refine .cons rfl (fun Kc hK => ?_) .nil;go_simp;refine hK.out _ _ trivial (fun _ => ?_);clear hK Kc
     try simp only [Act.put, sA, sZ, sS]
     refine wpAnyH_ready (rs := [4]) (by kernel_rfl) (by simp) ?_;refine .cons rfl (fun Kc hK => ?_) .nil;go_simp;have H3 := hI (H2.out.node 17 S (by omega) (fs := [f', u]) (row := (Z1.cc Z2)) rfl (by simp) (LiesFL.append (LiesFL.one (H2.out.t (f', Z1.l) (by simp))) (LiesFL.one (H2.out.t (u, Z2.l) (by simp)))) rfl);refine hK.out _ _ trivial (fun _ => ?_);clear hK Kc
     try simp only [Act.put, sA, sZ, sS]
     refine wpAnyH_ready (rs := [5]) (by kernel_rfl) (by simp) ?_;refine .cons rfl (fun Kc hK => ?_) .nil;go_simp;refine (HNO.out S _ _).mono ?_;rintro e w4 ⟨rfl, hb4⟩;have H4 := hI (H3.out.low hb4);clear hb4;have x0 := box9 (H4.out.bx (q := q) (c := Z1.c) (by simp));have z0 := box9f (H4.out.bx (q := q) (c := Z1.c) (by simp));have hql := (H4.out.bx (q := q) (c := Z1.c) (by simp)).lt;have H5 := hI ((H4.out.put9 (by intro x hx; simp at hx) (ι 17) (.string S) (ι 0) (ι 0) eS nL nL nL (.slice (some ⟨w2.heap.size, 0, none⟩) 2 2)).only (ts' := [(Ft.mk 17 S vz [] [f', u], [ι 17, .string S, ι 0, ι 0, eS, nL, nL, nL, .slice (some ⟨w2.heap.size, 0, none⟩) 2 2])]) (by intro x hx; simp at hx; subst hx; exact mC));refine hK.out _ _ trivial (fun _ => ?_);clear hK Kc
     try simp only [Act.put, sA, sZ, sS]
     refine wpAnyH_ready (rs := [6]) (by kernel_rfl) (by simp) ?_;refine .cons rfl (fun Kc hK => ?_) .nil;go_simp;refine hK.out _ _ trivial (fun _ => ?_);clear hK Kc
     try simp only [Act.put, sA, sZ, sS]
     refine wpAnyH_done (by kernel_rfl) ?_ _;refine NoPanic.normal ?_;clear hHeld x0 z0 y0;generalize hW6 : (((((((((w4.setCell ⟨q, 0, none⟩ (ι 17)).setCell ⟨q, 1, none⟩ (.string S)).setCell ⟨q, 2, none⟩ (ι 0)).setCell ⟨q, 3, none⟩ (ι 0)).setCell ⟨q, 4, none⟩ eS).setCell ⟨q, 5, none⟩ nL).setCell ⟨q, 6, none⟩ nL).setCell ⟨q, 7, none⟩ nL).setCell ⟨q, 8, none⟩ (.slice (some ⟨w2.heap.size, 0, none⟩) 2 2)) = w6 at H5 ⊢;have H6 := hI (H5.out.alloc (.cells #[.string ⟨#[42]⟩, .string ⟨#[47]⟩, .string ⟨#[37]⟩] 9));have hgw : g < w6.heap.size := H5.out.r.p.glt;have HR6 : Hid (StrRow (w6.alloc (.cells #[.string ⟨#[42]⟩, .string ⟨#[47]⟩, .string ⟨#[37]⟩] 9)) w6.heap.size [(⟨#[42]⟩ : ByteArray), (⟨#[47]⟩ : ByteArray), (⟨#[37]⟩ : ByteArray)]) := hI (StrRow.new _ _ #[.string ⟨#[42]⟩, .string ⟨#[47]⟩, .string ⟨#[37]⟩] [(⟨#[42]⟩ : ByteArray), (⟨#[47]⟩ : ByteArray), (⟨#[37]⟩ : ByteArray)] rfl rfl);obtain ⟨b2, hb2⟩ : ∃ b, anyP L [(⟨#[42]⟩ : ByteArray), (⟨#[47]⟩ : ByteArray), (⟨#[37]⟩ : ByteArray)] σ2 = b := ⟨_, rfl⟩
     have HB2 := hI hb2;clear hb2 hW6;go_wp2_with fail;refine (HT.out _ _ _ b2 HB2.out HR6.out (by omega) H6.out.r.p).mono ?_;rintro e w7 ⟨rfl, hg7, hp7⟩;have HX : Hid (ChOne L gt C g W q (call .unary) 17 [(⟨#[42]⟩ : ByteArray), (⟨#[47]⟩ : ByteArray), (⟨#[37]⟩ : ByteArray)] t τ n2 (.string (if b2 = true then (tk L σ2.k).s else ⟨#[]⟩)) w7) := hI ⟨n2, _, σ2, _, b2, Nat.le_refl _, H4x.out, HB2.out, rfl, H6.out.next hg7 hp7⟩;clear hg7 hp7;generalize (if b2 = true then (tk L σ2.k).s else ⟨#[]⟩) = S2 at HX ⊢;go_wp2_with fail
     go_roundg n2
     case measure => omega
     case rel => exact HX
theorem unary_any {L : List Fk} (hL : TokL L) {gt C g : Nat} {call : Ru → PM} (hA : OkA L gt C g call) : OkF L gt C g 142 (unaryM L call) := by
 intro W σ t τ hP hm;have H0 := hI (St.begin hP);unfold unaryM at hm;obtain ⟨b, hb⟩ : ∃ b, sees L (⟨#[45]⟩ : ByteArray) σ = b := ⟨_, rfl⟩
 rw [hb] at hm;have HT := hI (fun W (h : PAt L gt C g W σ) => take_any hL (⟨#[45]⟩ : ByteArray) b hb h);clear hP hb
 cases b with
 | false =>
  rw [if_neg (by decide)] at hm;have HC := hI (fun W h => hA .operand W _ t τ h hm);clear hA hm
  go_enter Tryz.func142, Tryz.ntmps142
  go_wp2_with fail;refine (HT.out _ H0.out.r.p).mono ?_;rintro e w1 ⟨rfl, hg1, hp1⟩;have H1 := hI (H0.out.next hg1 hp1);clear hg1 hp1;go_wp2_with fail;refine (HC.out _ H1.out.r.p).mono ?_;rintro e w2 hZ;obtain ⟨Z1, rfl, hg2, hp2, hl2⟩ := fr3 hZ;have H2 := hI (H1.out.call hg2 hp2 hl2);clear hg2 hp2 hl2;have x0 := H2.out.r.cells;go_wp2_with fail;refine post9 Tryz.results142 rfl rfl (H2.out.r.r.put9z _ _ _ _ _ _ _ _ _) ?_;exact retF_of (H2.out.close (by first | exact mC | simp))
 | true =>
  rw [if_pos rfl] at hm;obtain ⟨f, σ1, h1, h2⟩ := bnd_some hm;injection h2 with h2
  injection h2 with h3 h4
  subst h3; subst h4;have HC := hI (fun W h => hA .unary W _ f σ1 h h1);have HNO := hI (fun A W => node_any 11 ⟨#[]⟩ A 1 1 W);clear hA hm h1
  go_enter Tryz.func142, Tryz.ntmps142
  go_wp2_with fail;refine (HT.out _ H0.out.r.p).mono ?_;rintro e w1 ⟨rfl, hg1, hp1⟩;have H1 := hI (H0.out.next hg1 hp1);clear hg1 hp1;go_wp2_with fail;refine (HC.out _ H1.out.r.p).mono ?_;rintro e w2 hZ;obtain ⟨Z1, rfl, hg2, hp2, hl2⟩ := fr3 hZ;have H2 := hI (H1.out.call hg2 hp2 hl2);clear hg2 hp2 hl2;go_wp2_with fail;have H3 := hI (H2.out.node 11 ⟨#[]⟩ (by decide) (fs := [f]) (row := Z1.c) rfl (by simp) (LiesFL.one (H2.out.t (f, Z1.l) (by simp))) rfl);refine (HNO.out _ _).mono ?_;rintro e w4 ⟨rfl, hb4⟩;have H4 := hI (H3.out.low hb4);clear hb4;have x0 := H4.out.r.cells;go_wp2_with fail;refine post9 Tryz.results142 rfl rfl (H4.out.r.r.put9z _ _ _ _ _ _ _ _ _) ?_;exact retF_of (H4.out.close (by first | exact mC | simp))

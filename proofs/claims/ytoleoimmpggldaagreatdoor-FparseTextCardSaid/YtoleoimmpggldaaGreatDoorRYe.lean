import Derived.Test.YtoleoimmpggldaaGreatDoorRYa
import Derived.Test.YtoleoimmpggldaaGreatDoorRW
set_option linter.unusedVariables false
set_option linter.unusedSimpArgs false
set_option linter.unusedSectionVars false
set_option maxHeartbeats 10000000
set_option maxRecDepth 100000
namespace Go.Proofs.YtoleoimmpggldaaGreatDoor.Rx
open Go.RowKit
section
variable {S : Nat → Prop} {L : List Fk} {gt C g : Nat} {w w' w0 : World} {σ τ : PS} {bs : List (Nat × Array Value)} {ts : List (Ft × List Value)} {t : Ft} {cs : List Value}
theorem St.und (h : St S L gt C g w0 w σ bs ts) (hg : Gr g w w') (hp : PAt L gt C g w' τ) (hl : LiesF w' (Und (Own S w0 w bs) w.heap.size w'.heap.size) t cs) : St S L gt C g w0 w' τ bs ((t, cs) :: ts) :=
 (h.next hg hp).put (LiesF.move hl fun b hb => ⟨hb.elim (fun h1 => (Own.gr h hg b h1).1) (fun h2 => .inr ⟨nT h.lt h2.1, h2.2, fun q hq => by have := Bx.lt (h.b q hq).2; have := h2.1; omega⟩), rfl⟩)
theorem Own.ok (h : St noS L gt C g w0 w σ bs ts) : ∀ b, Own noS w0 w bs b → b < w.heap.size ∧ b ≠ g := by
 intro b hb;have h0 := h.r.g0;rcases hb with hb | hb
 · exact hb.elim
 · exact ⟨hb.2.1, by have := hb.1; omega⟩
end
def PoSt (L : List Fk) (call : Ru → PM) (gt C g : Nat) (w0 : World) (q : Nat) (t : Ft) (τ : PS) (gg : Nat) (wr : World) : Prop :=
 ∃ (n : Nat) (f : Ft) (σ : PS) (cs : Array Value), n ≤ gg ∧ postL L call (n + 1) f σ = some (t, τ) ∧ St noS L gt C g w0 wr σ [(q, cs)] [(f, cs.toList)]
theorem postfix_any {L : List Fk} (hL : TokL L) {gt C g : Nat} {call : Ru → PM} (n : Nat) (hA : OkA L gt C g call) : OkF L gt C g 160 (fun σ => bnd (call .primary σ) fun f σ1 => postL L call n f σ1) := by
 intro W σ t τ hP hm;obtain ⟨f, σ1, h1, h2⟩ := bnd_some hm;obtain ⟨n, rfl⟩ : ∃ n', n = n' + 1 := by
  cases n with
  | zero => exact absurd h2 (by simp [postL])
  | succ n => exact ⟨n, rfl⟩
 have H0 := hI (St.begin hP);have hg0 := hP.glt;have HC := hI (fun W h => hA .primary W _ f σ1 h h1);have HK := hI (fun W σ (h : PAt L gt C g W σ) => peek_any h);have HKK := hI (fun K hK W σ (h : PAt L gt C g W σ) => kind_any hL K hK h);have HT := hI (fun W σ x b (hb : sees L x σ = b) (h : PAt L gt C g W σ) => take_any hL x b hb h);have HBR := hI (fun (U : Nat → Prop) W σ f (t : Ft) (τ : PS) (d0 d1 d2 d3 d4 d5 d6 d7 d8 : Value) (h : PAt L gt C g W σ) (hU : ∀ b, U b → b < W.heap.size ∧ b ≠ g) (hl : LiesF W U f [d0, d1, d2, d3, d4, d5, d6, d7, d8]) (hm : bracketM L call f σ = some (t, τ)) => bracket_any hL hA W σ τ t h hU hl hm);have HNO := hI (fun op S A W => node_any op S A 1 1 W);have HSZ := hI hL.size;have HKZ := hI (fun σ => kindT_size hL 6 σ);have H2 := hI h2;clear hP hA hm h1 h2
 go_enter Tryz.func160, Tryz.ntmps160
 go_wp2_with fail;refine (HC.out _ H0.out.r.p).mono ?_;rintro e w1 hZ;obtain ⟨Z1, rfl, hg1, hp1, hl1⟩ := fr3 hZ;have H1 := hI ((H0.out.call hg1 hp1 hl1).box Z1.c);clear hg1 hp1 hl1;go_wp2_with fail;generalize w1.heap.size = q at H1 ⊢;have HX : Hid (PoSt L call gt C g W q t τ n (w1.alloc (.cells Z1.c 29))) := hI ⟨n, f, σ1, Z1.c, Nat.le_refl _, H2.out, H1.out⟩;clear H1 HC H2
 go_loopg [6] n (fun gg s6 wr => Hid (PoSt L call gt C g W q t τ gg wr))
 case atStart => exact HX
 case round =>
  clear HX;obtain ⟨n', f', σk, cs, hn, hc, hF⟩ := hrel.out;clear hrel;obtain ⟨Z1, rfl⟩ := fr1 (form9 (cs := cs) (hF.t (f', cs.toList) (by simp)));have H0 : Hid (St noS L gt C g W wr σk [(q, Z1.c)] [(f', Z1.l)]) := hI hF;rw [postL] at hc;dsimp only at hc;obtain ⟨⟨b0, b1, b2, b3⟩, -⟩ := box4' hF.r.p.box;have hlg := hF.r.p.glt;obtain ⟨bb, hbb⟩ : ∃ b, σk.bad = b := ⟨_, rfl⟩
  rw [hbb] at b2 hc;clear hF
  cases bb with
  | true =>
   rw [if_pos rfl] at hc;injection hc with hc
   injection hc with h3 h4
   subst h3; subst h4;have y0 := box9 (H0.out.bx (q := q) (c := Z1.c) (by simp));have x0 := H0.out.r.cells;go_wp2_with fail
   (try simp only [Exit.inBlock, Exit.then])
   go_wp2_with fail;refine post9 Tryz.results160 rfl rfl (H0.out.r.r.put9z _ _ _ _ _ _ _ _ _) ?_;exact retF_of (H0.out.close (by first | exact mC | simp))
  | false =>
   rw [if_neg (by decide)] at hc;have hf0 := field_kind (tk L σk.k)
   by_cases h4 : (tk L σk.k).k = 4
   · have q4 : (((tk L σk.k).k : Int) == 4) = true := by rw [beq_iff_eq]; omega
     have HH : Hid (hitK L 4 σk = true) := hI (by unfold hitK; rw [hbb, decide_eq_true h4]; rfl);have HK4 := hI (fun W h => HKK.out 4 (by decide) W σk h);have e1 : kindT L 4 σk = tk L σk.k := by unfold kindT; rw [HH.out, if_pos rfl]
     have e2 : kindS L 4 σk = adv σk := by unfold kindS; rw [HH.out, if_pos rfl]
     rw [e1, e2] at HK4;rw [if_pos h4] at hc;obtain ⟨n2, rfl⟩ : ∃ n2, n' = n2 + 1 := by
      cases n' with
      | zero => exact absurd hc (by simp [postL])
      | succ n => exact ⟨n, rfl⟩
     have H4x := hI hc;have hsz := HSZ.out σk.k;have HK0 := hI (fun W h => HK.out W σk h);generalize tk L σk.k = tt at *
     have hf2 := field_text tt;clear hc h4 hbb HH e1 e2 HK HKK;go_wp2_with fail;refine (HK0.out _ H0.out.r.p).mono ?_;rintro e w1 ⟨rfl, hb1⟩;have H1 := hI (H0.out.low hb1);clear hb1;go_upto_region 5 with (fail)
     have y0 := box9 (H1.out.bx (q := q) (c := Z1.c) (by simp));refine wp_region_noPanic ?_;refine wp_region_held_drew (S := fun _ => True) (by kernel_rfl) trivial (fun hHeld => ?_);refine wpAnyH_take (i := 0) (v := ?_) rfl (by kernel_rfl) (by kernel_rfl) (by kernel_rfl) (fun _ _ _ h => h) (Or.inl ⟨by rfl, ?ytkk0⟩) (by assumption) ?_
     case ytkk0 => (intro w hSw; (try dsimp only at hSw); go_simp <;> with_reducible rfl)
     try simp only [Act.put, sA, sZ, sS]
     refine wpAnyH_ready (rs := [1, 3]) (by kernel_rfl) (by simp) ?_;refine .cons rfl (fun Kc hK => ?_) (.cons rfl (fun Kc hK => ?_) .nil)
     · skip;go_simp;refine (HK4.out _ (H1.out.drew.r.p)).mono ?_;rintro e w6 ⟨rfl, hg6, hp6⟩;have H6 := hI (H1.out.drew.next hg6 hp6);clear hg6 hp6;refine hK.out _ _ trivial (fun _ => ?_);clear hK Kc
       try simp only [Act.put, sA, sZ, sS]
       refine wpAnyH_take (i := 2) (v := ?_) rfl (by kernel_rfl) (by kernel_rfl) (by kernel_rfl) (fun _ _ _ h => h) (Or.inl ⟨by rfl, ?ytkk2⟩) (by assumption) ?_
       case ytkk2 => (intro w hSw; (try dsimp only at hSw); go_simp <;> with_reducible rfl)
       try simp only [Act.put, sA, sZ, sS]
       have v0 := box9 (H6.out.bx (q := q) (c := Z1.c) (by simp));refine wpAnyH_ready (rs := [3]) (by kernel_rfl) (by simp) ?_;refine .cons rfl (fun Kc hK => ?_) .nil;go_simp;refine hK.out _ _ trivial (fun _ => ?_);clear hK Kc
       try simp only [Act.put, sA, sZ, sS]
       refine wpAnyH_ready (rs := [4]) (by kernel_rfl) (by simp) ?_;refine .cons rfl (fun Kc hK => ?_) .nil;go_simp;have H7 := hI (H6.out.node 3 tt.s (by omega) (fs := [f']) (row := Z1.c) rfl (by simp) (LiesFL.one (H6.out.t (f', Z1.l) (by simp))) (q := w6.heap.size) rfl);refine hK.out _ _ trivial (fun _ => ?_);clear hK Kc
       try simp only [Act.put, sA, sZ, sS]
       refine wpAnyH_ready (rs := [5]) (by kernel_rfl) (by simp) ?_;refine .cons rfl (fun Kc hK => ?_) .nil;go_simp;refine (HNO.out 3 tt.s _ _).mono ?_;rintro e w8 ⟨rfl, hb8⟩;have H8 := hI (H7.out.low hb8);clear hb8;have x0 := box9 (H8.out.bx (q := q) (c := Z1.c) (by simp));have z0 := box9f (H8.out.bx (q := q) (c := Z1.c) (by simp));have hql := (H8.out.bx (q := q) (c := Z1.c) (by simp)).lt;have H9 := hI ((H8.out.put9 (by intro x hx; simp at hx) (ι 3) (.string tt.s) (ι 0) (ι 0) eS nL nL nL (.slice (some ⟨w6.heap.size, 0, none⟩) 1 1)).only (ts' := [(Ft.mk 3 tt.s vz [] [f'], [ι 3, .string tt.s, ι 0, ι 0, eS, nL, nL, nL, .slice (some ⟨w6.heap.size, 0, none⟩) 1 1])]) (by intro x hx; simp at hx; subst hx; first | exact mC | simp));refine hK.out _ _ trivial (fun _ => ?_);clear hK Kc
       try simp only [Act.put, sA, sZ, sS]
       refine wpAnyH_ready (rs := [6]) (by kernel_rfl) (by simp) ?_;refine .cons rfl (fun Kc hK => ?_) .nil;go_simp;refine hK.out _ _ trivial (fun _ => ?_);clear hK Kc
       try simp only [Act.put, sA, sZ, sS]
       refine wpAnyH_done (by kernel_rfl) ?_ _;refine NoPanic.normal ?_;go_wp2_with fail
       go_roundg n2
       case measure => omega
       case rel => exact hI ⟨n2, _, _, _, Nat.le_refl _, H4x.out, H9.out⟩
     · skip;go_simp;refine hK.out _ _ trivial (fun _ => ?_);clear hK Kc
       try simp only [Act.put, sA, sZ, sS]
       refine wpAnyH_ready (rs := [1, 4]) (by kernel_rfl) (by simp) ?_;refine .cons rfl (fun Kc hK => ?_) (.cons rfl (fun Kc hK => ?_) .nil)
       · skip;go_simp;refine (HK4.out _ (H1.out.drew.r.p)).mono ?_;rintro e w6 ⟨rfl, hg6, hp6⟩;have H6 := hI (H1.out.drew.next hg6 hp6);clear hg6 hp6;refine hK.out _ _ trivial (fun _ => ?_);clear hK Kc
         try simp only [Act.put, sA, sZ, sS]
         refine wpAnyH_take (i := 2) (v := ?_) rfl (by kernel_rfl) (by kernel_rfl) (by kernel_rfl) (fun _ _ _ h => h) (Or.inl ⟨by rfl, ?ytkk3⟩) (by assumption) ?_
         case ytkk3 => (intro w hSw; (try dsimp only at hSw); go_simp <;> with_reducible rfl)
         try simp only [Act.put, sA, sZ, sS]
         refine wpAnyH_ready (rs := [4]) (by kernel_rfl) (by simp) ?_;refine .cons rfl (fun Kc hK => ?_) .nil;go_simp;have H7 := hI (H6.out.node 3 tt.s (by omega) (fs := [f']) (row := Z1.c) rfl (by simp) (LiesFL.one (H6.out.t (f', Z1.l) (by simp))) (q := w6.heap.size) rfl);refine hK.out _ _ trivial (fun _ => ?_);clear hK Kc
         try simp only [Act.put, sA, sZ, sS]
         refine wpAnyH_ready (rs := [5]) (by kernel_rfl) (by simp) ?_;refine .cons rfl (fun Kc hK => ?_) .nil;go_simp;refine (HNO.out 3 tt.s _ _).mono ?_;rintro e w8 ⟨rfl, hb8⟩;have H8 := hI (H7.out.low hb8);clear hb8;have x0 := box9 (H8.out.bx (q := q) (c := Z1.c) (by simp));have z0 := box9f (H8.out.bx (q := q) (c := Z1.c) (by simp));have hql := (H8.out.bx (q := q) (c := Z1.c) (by simp)).lt;have H9 := hI ((H8.out.put9 (by intro x hx; simp at hx) (ι 3) (.string tt.s) (ι 0) (ι 0) eS nL nL nL (.slice (some ⟨w6.heap.size, 0, none⟩) 1 1)).only (ts' := [(Ft.mk 3 tt.s vz [] [f'], [ι 3, .string tt.s, ι 0, ι 0, eS, nL, nL, nL, .slice (some ⟨w6.heap.size, 0, none⟩) 1 1])]) (by intro x hx; simp at hx; subst hx; first | exact mC | simp));refine hK.out _ _ trivial (fun _ => ?_);clear hK Kc
         try simp only [Act.put, sA, sZ, sS]
         refine wpAnyH_ready (rs := [6]) (by kernel_rfl) (by simp) ?_;refine .cons rfl (fun Kc hK => ?_) .nil;go_simp;refine hK.out _ _ trivial (fun _ => ?_);clear hK Kc
         try simp only [Act.put, sA, sZ, sS]
         refine wpAnyH_done (by kernel_rfl) ?_ _;refine NoPanic.normal ?_;go_wp2_with fail
         go_roundg n2
         case measure => omega
         case rel => exact hI ⟨n2, _, _, _, Nat.le_refl _, H4x.out, H9.out⟩
       · skip;go_simp;have H5 := hI (H1.out.drew.node 3 tt.s (by omega) (fs := [f']) (row := Z1.c) rfl (by simp) (LiesFL.one (H1.out.drew.t (f', Z1.l) (by simp))) (q := w1.heap.size) rfl);refine hK.out _ _ trivial (fun _ => ?_);clear hK Kc
         try simp only [Act.put, sA, sZ, sS]
         refine wpAnyH_ready (rs := [1]) (by kernel_rfl) (by simp) ?_;refine .cons rfl (fun Kc hK => ?_) .nil;go_simp;refine (HK4.out _ (H5.out.r.p)).mono ?_;rintro e w6 ⟨rfl, hg6, hp6⟩;have H6 := hI (H5.out.next hg6 hp6);clear hg6 hp6;refine hK.out _ _ trivial (fun _ => ?_);clear hK Kc
         try simp only [Act.put, sA, sZ, sS]
         refine wpAnyH_take (i := 2) (v := ?_) rfl (by kernel_rfl) (by kernel_rfl) (by kernel_rfl) (fun _ _ _ h => h) (Or.inl ⟨by rfl, ?ytkk4⟩) (by assumption) ?_
         case ytkk4 => (intro w hSw; (try dsimp only at hSw); go_simp <;> with_reducible rfl)
         try simp only [Act.put, sA, sZ, sS]
         refine wpAnyH_ready (rs := [5]) (by kernel_rfl) (by simp) ?_;refine .cons rfl (fun Kc hK => ?_) .nil;go_simp;refine (HNO.out 3 tt.s _ _).mono ?_;rintro e w7 ⟨rfl, hb7⟩;have H7 := hI (H6.out.low hb7);clear hb7;have x0 := box9 (H7.out.bx (q := q) (c := Z1.c) (by simp));have z0 := box9f (H7.out.bx (q := q) (c := Z1.c) (by simp));have hql := (H7.out.bx (q := q) (c := Z1.c) (by simp)).lt;have H8 := hI ((H7.out.put9 (by intro x hx; simp at hx) (ι 3) (.string tt.s) (ι 0) (ι 0) eS nL nL nL (.slice (some ⟨w1.heap.size, 0, none⟩) 1 1)).only (ts' := [(Ft.mk 3 tt.s vz [] [f'], [ι 3, .string tt.s, ι 0, ι 0, eS, nL, nL, nL, .slice (some ⟨w1.heap.size, 0, none⟩) 1 1])]) (by intro x hx; simp at hx; subst hx; first | exact mC | simp));refine hK.out _ _ trivial (fun _ => ?_);clear hK Kc
         try simp only [Act.put, sA, sZ, sS]
         refine wpAnyH_ready (rs := [6]) (by kernel_rfl) (by simp) ?_;refine .cons rfl (fun Kc hK => ?_) .nil;go_simp;refine hK.out _ _ trivial (fun _ => ?_);clear hK Kc
         try simp only [Act.put, sA, sZ, sS]
         refine wpAnyH_done (by kernel_rfl) ?_ _;refine NoPanic.normal ?_;go_wp2_with fail
         go_roundg n2
         case measure => omega
         case rel => exact hI ⟨n2, _, _, _, Nat.le_refl _, H4x.out, H8.out⟩
   · have q4 : (((tk L σk.k).k : Int) == 4) = false := bF.2 (by omega);rw [if_neg h4] at hc;have HK0 := hI (fun W h => HK.out W σk h);obtain ⟨b, hb⟩ : ∃ b, sees L (⟨#[46]⟩ : ByteArray) σk = b := ⟨_, rfl⟩
     have HT1 := hI (fun W h => HT.out W σk _ b hb h);rw [hb] at hc;generalize tk L σk.k = tt at *
     clear hb hbb h4
     cases b with
     | true =>
      rw [if_pos rfl] at hc;have HK6 := hI (fun W h => HKK.out 6 (by decide) W (adv σk) h);have hsz := HKZ.out (adv σk);obtain ⟨n2, rfl⟩ : ∃ n2, n' = n2 + 1 := by
       cases n' with
       | zero => exact absurd hc (by simp [postL])
       | succ n => exact ⟨n, rfl⟩
      have H4x := hI hc;generalize kindT L 6 (adv σk) = uu at *
      generalize kindS L 6 (adv σk) = σu at *
      have hf2 := field_text uu;clear hc HK HKK HT;go_wp2_with fail;refine (HK0.out _ H0.out.r.p).mono ?_;rintro e w1 ⟨rfl, hb1⟩;have H1 := hI (H0.out.low hb1);clear hb1;go_wp2_with fail;refine (HT1.out _ H1.out.r.p).mono ?_;rintro e w2 ⟨rfl, hg2, hp2⟩;have H2 := hI (H1.out.next hg2 hp2);clear hg2 hp2;go_upto_region 7 with (fail)
      have y0 := box9 (H2.out.bx (q := q) (c := Z1.c) (by simp));refine wp_region_noPanic ?_;refine wp_region_held_drew (S := fun _ => True) (by kernel_rfl) trivial (fun hHeld => ?_);refine wpAnyH_take (i := 0) (v := ?_) rfl (by kernel_rfl) (by kernel_rfl) (by kernel_rfl) (fun _ _ _ h => h) (Or.inl ⟨by rfl, ?ytkk0⟩) (by assumption) ?_
      case ytkk0 => (intro w hSw; (try dsimp only at hSw); go_simp <;> with_reducible rfl)
      try simp only [Act.put, sA, sZ, sS]
      refine wpAnyH_ready (rs := [1, 3]) (by kernel_rfl) (by simp) ?_;refine .cons rfl (fun Kc hK => ?_) (.cons rfl (fun Kc hK => ?_) .nil)
      · skip;go_simp;refine (HK6.out _ (H2.out.drew.r.p)).mono ?_;rintro e w7 ⟨rfl, hg7, hp7⟩;have H7 := hI (H2.out.drew.next hg7 hp7);clear hg7 hp7;refine hK.out _ _ trivial (fun _ => ?_);clear hK Kc
        try simp only [Act.put, sA, sZ, sS]
        refine wpAnyH_take (i := 2) (v := ?_) rfl (by kernel_rfl) (by kernel_rfl) (by kernel_rfl) (fun _ _ _ h => h) (Or.inl ⟨by rfl, ?ytkk2⟩) (by assumption) ?_
        case ytkk2 => (intro w hSw; (try dsimp only at hSw); go_simp <;> with_reducible rfl)
        try simp only [Act.put, sA, sZ, sS]
        have v0 := box9 (H7.out.bx (q := q) (c := Z1.c) (by simp));refine wpAnyH_ready (rs := [3]) (by kernel_rfl) (by simp) ?_;refine .cons rfl (fun Kc hK => ?_) .nil;go_simp;refine hK.out _ _ trivial (fun _ => ?_);clear hK Kc
        try simp only [Act.put, sA, sZ, sS]
        refine wpAnyH_ready (rs := [4]) (by kernel_rfl) (by simp) ?_;refine .cons rfl (fun Kc hK => ?_) .nil;go_simp;have H8 := hI (H7.out.node 3 uu.s (by omega) (fs := [f']) (row := Z1.c) rfl (by simp) (LiesFL.one (H7.out.t (f', Z1.l) (by simp))) (q := w7.heap.size) rfl);refine hK.out _ _ trivial (fun _ => ?_);clear hK Kc
        try simp only [Act.put, sA, sZ, sS]
        refine wpAnyH_ready (rs := [5]) (by kernel_rfl) (by simp) ?_;refine .cons rfl (fun Kc hK => ?_) .nil;go_simp;refine (HNO.out 3 uu.s _ _).mono ?_;rintro e w9 ⟨rfl, hb9⟩;have H9 := hI (H8.out.low hb9);clear hb9;have x0 := box9 (H9.out.bx (q := q) (c := Z1.c) (by simp));have z0 := box9f (H9.out.bx (q := q) (c := Z1.c) (by simp));have hql := (H9.out.bx (q := q) (c := Z1.c) (by simp)).lt;have H10 := hI ((H9.out.put9 (by intro x hx; simp at hx) (ι 3) (.string uu.s) (ι 0) (ι 0) eS nL nL nL (.slice (some ⟨w7.heap.size, 0, none⟩) 1 1)).only (ts' := [(Ft.mk 3 uu.s vz [] [f'], [ι 3, .string uu.s, ι 0, ι 0, eS, nL, nL, nL, .slice (some ⟨w7.heap.size, 0, none⟩) 1 1])]) (by intro x hx; simp at hx; subst hx; first | exact mC | simp));refine hK.out _ _ trivial (fun _ => ?_);clear hK Kc
        try simp only [Act.put, sA, sZ, sS]
        refine wpAnyH_ready (rs := [6]) (by kernel_rfl) (by simp) ?_;refine .cons rfl (fun Kc hK => ?_) .nil;go_simp;refine hK.out _ _ trivial (fun _ => ?_);clear hK Kc
        try simp only [Act.put, sA, sZ, sS]
        refine wpAnyH_done (by kernel_rfl) ?_ _;refine NoPanic.normal ?_;go_wp2_with fail
        go_roundg n2
        case measure => omega
        case rel => exact hI ⟨n2, _, _, _, Nat.le_refl _, H4x.out, H10.out⟩
      · skip;go_simp;refine hK.out _ _ trivial (fun _ => ?_);clear hK Kc
        try simp only [Act.put, sA, sZ, sS]
        refine wpAnyH_ready (rs := [1, 4]) (by kernel_rfl) (by simp) ?_;refine .cons rfl (fun Kc hK => ?_) (.cons rfl (fun Kc hK => ?_) .nil)
        · skip;go_simp;refine (HK6.out _ (H2.out.drew.r.p)).mono ?_;rintro e w7 ⟨rfl, hg7, hp7⟩;have H7 := hI (H2.out.drew.next hg7 hp7);clear hg7 hp7;refine hK.out _ _ trivial (fun _ => ?_);clear hK Kc
          try simp only [Act.put, sA, sZ, sS]
          refine wpAnyH_take (i := 2) (v := ?_) rfl (by kernel_rfl) (by kernel_rfl) (by kernel_rfl) (fun _ _ _ h => h) (Or.inl ⟨by rfl, ?ytkk3⟩) (by assumption) ?_
          case ytkk3 => (intro w hSw; (try dsimp only at hSw); go_simp <;> with_reducible rfl)
          try simp only [Act.put, sA, sZ, sS]
          refine wpAnyH_ready (rs := [4]) (by kernel_rfl) (by simp) ?_;refine .cons rfl (fun Kc hK => ?_) .nil;go_simp;have H8 := hI (H7.out.node 3 uu.s (by omega) (fs := [f']) (row := Z1.c) rfl (by simp) (LiesFL.one (H7.out.t (f', Z1.l) (by simp))) (q := w7.heap.size) rfl);refine hK.out _ _ trivial (fun _ => ?_);clear hK Kc
          try simp only [Act.put, sA, sZ, sS]
          refine wpAnyH_ready (rs := [5]) (by kernel_rfl) (by simp) ?_;refine .cons rfl (fun Kc hK => ?_) .nil;go_simp;refine (HNO.out 3 uu.s _ _).mono ?_;rintro e w9 ⟨rfl, hb9⟩;have H9 := hI (H8.out.low hb9);clear hb9;have x0 := box9 (H9.out.bx (q := q) (c := Z1.c) (by simp));have z0 := box9f (H9.out.bx (q := q) (c := Z1.c) (by simp));have hql := (H9.out.bx (q := q) (c := Z1.c) (by simp)).lt;have H10 := hI ((H9.out.put9 (by intro x hx; simp at hx) (ι 3) (.string uu.s) (ι 0) (ι 0) eS nL nL nL (.slice (some ⟨w7.heap.size, 0, none⟩) 1 1)).only (ts' := [(Ft.mk 3 uu.s vz [] [f'], [ι 3, .string uu.s, ι 0, ι 0, eS, nL, nL, nL, .slice (some ⟨w7.heap.size, 0, none⟩) 1 1])]) (by intro x hx; simp at hx; subst hx; first | exact mC | simp));refine hK.out _ _ trivial (fun _ => ?_);clear hK Kc
          try simp only [Act.put, sA, sZ, sS]
          refine wpAnyH_ready (rs := [6]) (by kernel_rfl) (by simp) ?_;refine .cons rfl (fun Kc hK => ?_) .nil;go_simp;refine hK.out _ _ trivial (fun _ => ?_);clear hK Kc
          try simp only [Act.put, sA, sZ, sS]
          refine wpAnyH_done (by kernel_rfl) ?_ _;refine NoPanic.normal ?_;go_wp2_with fail
          go_roundg n2
          case measure => omega
          case rel => exact hI ⟨n2, _, _, _, Nat.le_refl _, H4x.out, H10.out⟩
        · skip;go_simp;have H6 := hI (H2.out.drew.node 3 uu.s (by omega) (fs := [f']) (row := Z1.c) rfl (by simp) (LiesFL.one (H2.out.drew.t (f', Z1.l) (by simp))) (q := w2.heap.size) rfl);refine hK.out _ _ trivial (fun _ => ?_);clear hK Kc
          try simp only [Act.put, sA, sZ, sS]
          refine wpAnyH_ready (rs := [1]) (by kernel_rfl) (by simp) ?_;refine .cons rfl (fun Kc hK => ?_) .nil;go_simp;refine (HK6.out _ (H6.out.r.p)).mono ?_;rintro e w7 ⟨rfl, hg7, hp7⟩;have H7 := hI (H6.out.next hg7 hp7);clear hg7 hp7;refine hK.out _ _ trivial (fun _ => ?_);clear hK Kc
          try simp only [Act.put, sA, sZ, sS]
          refine wpAnyH_take (i := 2) (v := ?_) rfl (by kernel_rfl) (by kernel_rfl) (by kernel_rfl) (fun _ _ _ h => h) (Or.inl ⟨by rfl, ?ytkk4⟩) (by assumption) ?_
          case ytkk4 => (intro w hSw; (try dsimp only at hSw); go_simp <;> with_reducible rfl)
          try simp only [Act.put, sA, sZ, sS]
          refine wpAnyH_ready (rs := [5]) (by kernel_rfl) (by simp) ?_;refine .cons rfl (fun Kc hK => ?_) .nil;go_simp;refine (HNO.out 3 uu.s _ _).mono ?_;rintro e w8 ⟨rfl, hb8⟩;have H8 := hI (H7.out.low hb8);clear hb8;have x0 := box9 (H8.out.bx (q := q) (c := Z1.c) (by simp));have z0 := box9f (H8.out.bx (q := q) (c := Z1.c) (by simp));have hql := (H8.out.bx (q := q) (c := Z1.c) (by simp)).lt;have H9 := hI ((H8.out.put9 (by intro x hx; simp at hx) (ι 3) (.string uu.s) (ι 0) (ι 0) eS nL nL nL (.slice (some ⟨w2.heap.size, 0, none⟩) 1 1)).only (ts' := [(Ft.mk 3 uu.s vz [] [f'], [ι 3, .string uu.s, ι 0, ι 0, eS, nL, nL, nL, .slice (some ⟨w2.heap.size, 0, none⟩) 1 1])]) (by intro x hx; simp at hx; subst hx; first | exact mC | simp));refine hK.out _ _ trivial (fun _ => ?_);clear hK Kc
          try simp only [Act.put, sA, sZ, sS]
          refine wpAnyH_ready (rs := [6]) (by kernel_rfl) (by simp) ?_;refine .cons rfl (fun Kc hK => ?_) .nil;go_simp;refine hK.out _ _ trivial (fun _ => ?_);clear hK Kc
          try simp only [Act.put, sA, sZ, sS]
          refine wpAnyH_done (by kernel_rfl) ?_ _;refine NoPanic.normal ?_;go_wp2_with fail
          go_roundg n2
          case measure => omega
          case rel => exact hI ⟨n2, _, _, _, Nat.le_refl _, H4x.out, H9.out⟩
     | false =>
      rw [if_neg (by decide)] at hc;obtain ⟨b, hb⟩ : ∃ b, sees L (⟨#[91]⟩ : ByteArray) σk = b := ⟨_, rfl⟩
      have HT2 := hI (fun W h => HT.out W σk _ b hb h);rw [hb] at hc;clear hb
      cases b with
      | true =>
       rw [if_pos rfl] at hc;obtain ⟨u, σ2, h3, h4⟩ := bnd_some hc;obtain ⟨n2, rfl⟩ : ∃ n2, n' = n2 + 1 := by
        cases n' with
        | zero => exact absurd h4 (by simp [postL])
        | succ n => exact ⟨n, rfl⟩
       have H4x := hI h4;have HB := hI (fun (U : Nat → Prop) W d0 d1 d2 d3 d4 d5 d6 d7 d8 h hU hl => HBR.out U W (adv σk) f' u σ2 d0 d1 d2 d3 d4 d5 d6 d7 d8 h hU hl h3);clear hc h3 h4 HK HKK HT HBR;go_wp2_with fail;refine (HK0.out _ H0.out.r.p).mono ?_;rintro e w1 ⟨rfl, hb1⟩;have H1 := hI (H0.out.low hb1);clear hb1;go_wp2_with fail;refine (HT1.out _ H1.out.r.p).mono ?_;rintro e w2 ⟨rfl, hg2, hp2⟩;have H2 := hI (H1.out.next hg2 hp2);clear hg2 hp2;go_wp2_with fail;refine (HT2.out _ H2.out.r.p).mono ?_;rintro e w3 ⟨rfl, hg3, hp3⟩;have H3 := hI (H2.out.next hg3 hp3);clear hg3 hp3;have y0 := box9 (H3.out.bx (q := q) (c := Z1.c) (by simp));go_wp2_with fail;refine (HB.out _ _ _ _ _ _ _ _ _ _ _ H3.out.r.p (Own.ok H3.out) (H3.out.t (f', Z1.l) (by simp))).mono ?_;rintro e w4 hZ;obtain ⟨Z2, rfl, hg4, hp4, hl4⟩ := fr3 hZ;have H4 := hI (H3.out.und hg4 hp4 hl4);clear hg4 hp4 hl4;have x0 := box9 (H4.out.bx (q := q) (c := Z1.c) (by simp));have z0 := box9f (H4.out.bx (q := q) (c := Z1.c) (by simp));have hql := (H4.out.bx (q := q) (c := Z1.c) (by simp)).lt;have H5 := hI ((H4.out.put9 (by intro x hx; simp at hx) (ι Z2.o) (.string Z2.t) (ι Z2.k) (ι Z2.j) (.string Z2.s) (.slice Z2.A Z2.a Z2.u) (.slice Z2.B Z2.b Z2.v) (.slice Z2.C Z2.e Z2.w) (.slice Z2.D Z2.d Z2.x)).only (ts' := [(u, Z2.l)]) (by intro x hx; simp at hx; subst hx; exact mC));clear y0;go_wp2_with fail
       go_roundg n2
       case measure => omega
       case rel => exact hI ⟨n2, _, _, _, Nat.le_refl _, H4x.out, H5.out⟩
      | false =>
       rw [if_neg (by decide)] at hc;obtain ⟨b, hb⟩ : ∃ b, sees L (⟨#[63]⟩ : ByteArray) σk = b := ⟨_, rfl⟩
       have HT3 := hI (fun W h => HT.out W σk _ b hb h);rw [hb] at hc;clear hb
       cases b with
       | true =>
        rw [if_pos rfl] at hc;obtain ⟨n2, rfl⟩ : ∃ n2, n' = n2 + 1 := by
         cases n' with
         | zero => exact absurd hc (by simp [postL])
         | succ n => exact ⟨n, rfl⟩
        have H4x := hI hc;clear hc HK HKK HT HBR;go_wp2_with fail;refine (HK0.out _ H0.out.r.p).mono ?_;rintro e w1 ⟨rfl, hb1⟩;have H1 := hI (H0.out.low hb1);clear hb1;go_wp2_with fail;refine (HT1.out _ H1.out.r.p).mono ?_;rintro e w2 ⟨rfl, hg2, hp2⟩;have H2 := hI (H1.out.next hg2 hp2);clear hg2 hp2;go_wp2_with fail;refine (HT2.out _ H2.out.r.p).mono ?_;rintro e w3 ⟨rfl, hg3, hp3⟩;have H3 := hI (H2.out.next hg3 hp3);clear hg3 hp3;go_wp2_with fail;refine (HT3.out _ H3.out.r.p).mono ?_;rintro e w4 ⟨rfl, hg4, hp4⟩;have H4 := hI (H3.out.next hg4 hp4);clear hg4 hp4;have y0 := box9 (H4.out.bx (q := q) (c := Z1.c) (by simp));go_wp2_with fail;have H5 := hI (H4.out.node 19 ⟨#[]⟩ (by decide) (fs := [f']) (row := Z1.c) rfl (by simp) (LiesFL.one (H4.out.t (f', Z1.l) (by simp))) rfl);refine (HNO.out 19 ⟨#[]⟩ _ _).mono ?_;rintro e w6 ⟨rfl, hb6⟩;have H6 := hI (H5.out.low hb6);clear hb6;have x0 := box9 (H6.out.bx (q := q) (c := Z1.c) (by simp));have z0 := box9f (H6.out.bx (q := q) (c := Z1.c) (by simp));have hql := (H6.out.bx (q := q) (c := Z1.c) (by simp)).lt;have H7 := hI ((H6.out.put9 (by intro x hx; simp at hx) (ι 19) eS (ι 0) (ι 0) eS nL nL nL (.slice (some ⟨w4.heap.size, 0, none⟩) 1 1)).only (ts' := [(Ft.mk 19 ⟨#[]⟩ vz [] [f'], [ι 19, eS, ι 0, ι 0, eS, nL, nL, nL, .slice (some ⟨w4.heap.size, 0, none⟩) 1 1])]) (by intro x hx; simp at hx; subst hx; exact mC));clear y0;go_wp2_with fail
        go_roundg n2
        case measure => omega
        case rel => exact hI ⟨n2, _, _, _, Nat.le_refl _, H4x.out, H7.out⟩
       | false =>
        rw [if_neg (by decide)] at hc;injection hc with hc
        injection hc with h3 h4
        subst h3; subst h4;clear HK HKK HT HBR;go_wp2_with fail;refine (HK0.out _ H0.out.r.p).mono ?_;rintro e w1 ⟨rfl, hb1⟩;have H1 := hI (H0.out.low hb1);clear hb1;go_wp2_with fail;refine (HT1.out _ H1.out.r.p).mono ?_;rintro e w2 ⟨rfl, hg2, hp2⟩;have H2 := hI (H1.out.next hg2 hp2);clear hg2 hp2;go_wp2_with fail;refine (HT2.out _ H2.out.r.p).mono ?_;rintro e w3 ⟨rfl, hg3, hp3⟩;have H3 := hI (H2.out.next hg3 hp3);clear hg3 hp3;go_wp2_with fail;refine (HT3.out _ H3.out.r.p).mono ?_;rintro e w4 ⟨rfl, hg4, hp4⟩;have H4 := hI (H3.out.next hg4 hp4);clear hg4 hp4;have y0 := box9 (H4.out.bx (q := q) (c := Z1.c) (by simp));have x0 := H4.out.r.cells;go_wp2_with fail
        (try simp only [Exit.inBlock, Exit.then])
        go_wp2_with fail;refine post9 Tryz.results160 rfl rfl (H4.out.r.r.put9z _ _ _ _ _ _ _ _ _) ?_;exact retF_of (H4.out.close (by first | exact mC | simp))

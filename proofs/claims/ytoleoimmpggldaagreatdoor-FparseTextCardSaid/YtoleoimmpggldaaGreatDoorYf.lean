import Derived.Test.YtoleoimmpggldaaGreatDoorYz
set_option linter.unusedVariables false
set_option linter.unusedSectionVars false
set_option linter.unusedSimpArgs false
set_option maxHeartbeats 10000000
set_option maxRecDepth 100000
namespace Go.Proofs.YtoleoimmpggldaaGreatDoor
open Go.RowKit
section
variable {S : Nat → Prop} {L : List Fk} {gt C g : Nat} {w w' w0 : World} {σ τ : PS} {bs : List (Nat × Array Value)} {ts : List (Ft × List Value)} {t : Ft} {cs : List Value}
theorem St.subs (h : St S L gt C g w0 w σ bs ts) {op : Int} {tx : ByteArray} {fs : List Ft} {A : Option Addr} {n m : Nat} (hx : (Ft.mk op tx vz [] fs, [ι op, .string tx, ι 0, ι 0, eS, nL, nL, nL, .slice A n m]) ∈ ts) :
 ∃ xs, xs.length = n * 9 ∧ fs.length = n ∧ (A = none → m = 0) ∧ n ≤ m ∧ m ≤ maxLen ∧ Rs w (Own S w0 w bs) A xs ∧ LiesFL w (Own S w0 w bs) fs xs := by
 obtain ⟨v0, v1, v2, v3, v4, A', a, B, b, xs, he, hv, h1, h2, h3, h4, hA, hB, hL⟩ := liesF_open (h.t _ hx);simp only [List.cons.injEq, Value.slice.injEq, and_true] at he;obtain ⟨-, -, -, -, -, -, -, -, rfl, rfl, rfl⟩ := he;exact ⟨xs, hL.len, rfl, h2, h4.1, h4.2, hB, hL⟩
theorem Rs.holds {A : Option Addr} {xs : List Value} (h : Rs w S A xs) : ∀ b, A = some b → ∀ j u, xs[j]? = some u → w.cell? (b.add j) = some u := by
 intro b hb j u hj;obtain ⟨b', o, e, hS', hc⟩ := h j u hj;subst hb;injection e with e
 subst e;have h5 : (⟨b', o, none⟩ : Addr).add j = ⟨b', o + j, none⟩ := by unfold Addr.add; by_cases h : j = 0 <;> simp [h]
 rw [h5];exact hc
theorem St.grown (h : St S L gt C g w0 w σ bs ts) (op : Int) (tx : ByteArray) (htx : tx.size ≤ 140737488355328) {fs : List Ft} {f : Ft} {n : Nat} {xs : List Value} {row : Array Value} {v : Value} (hn : fs.length = n) (hn2 : n ≤ 100) (hL : LiesFL w (Own S w0 w bs) fs xs) (hf : LiesF w (Own S w0 w bs) f row.toList)
 (ho : w'.ownsRow (w.alloc (.cells row 29)).heap.size 29 9 v (n + 1) (xs ++ row.toList)) (hg : (w.alloc (.cells row 29)).grownBy w' none) :
 ∃ A c, v = .slice A (n + 1) c ∧ St S L gt C g w0 w' σ bs ((.mk op tx vz [] (fs ++ [f]), [ι op, .string tx, ι 0, ι 0, eS, nL, nL, nL, .slice A (n + 1) c]) :: ts) := by
 obtain ⟨A, c, rfl, a1, a2, a3, a4, a5, a6⟩ := own_open ho;have hb : Below w.heap.size w w' := ((Below.refl _ _).alloc (Nat.le_refl _) (.cells row 29)).trans (((Below.refl _ _).grown hg (Nat.le_refl _) (fun k hk => by simp at hk)).mono (by simp));refine ⟨A, c, rfl, (h.low hb).own_node op tx htx (by rw [List.length_append, hn]; rfl) (by omega) a3 a1 a2 (a6.move fun b hb => ⟨.inr ⟨?_, hb.2, fun q hq => ?_⟩, rfl⟩) (LiesFL.append (hL.move (Own.gr h (Gr.below hb))) (LiesFL.one (LiesF.move hf (Own.gr h (Gr.below hb)))))⟩
 · have h1 := hb.1; simp at h1; have := h.lt; omega
 · have h1 := hb.1; simp at h1; have := (h.b q hq).2.lt; omega
end
theorem attempt_any {L : List Fk} (hL : TokL L) {gt C g : Nat} {call : Ru → PM} (hA : OkA L gt C g call) (W : World) (σ τ : PS) (t : Ft) (hP : PAt L gt C g W σ) (hm : tryM L call σ = some (t, τ)) :
 Calls Tryz.prog 190 #[.pointer (some ⟨g, 0, none⟩)] W (RetF L gt C g W t τ) := by
 obtain ⟨f, σ1, h1, h2⟩ := bnd_some hm;have H0 := hI (St.begin hP);have HC := hI (fun W h => hA .post W _ f σ1 h h1);have HNO := hI (fun A W => node_any 19 A 1 1 W);obtain ⟨b, hb⟩ : ∃ b, sees L (⟨#[99, 97, 116, 99, 104]⟩ : ByteArray) σ1 = b := ⟨_, rfl⟩
 rw [hb] at h2;have HT := hI (fun W (h : PAt L gt C g W σ1) => take_any hL (⟨#[99, 97, 116, 99, 104]⟩ : ByteArray) b hb h);clear hP hm h1 hb
 cases b with
 | false =>
  rw [if_neg (by decide)] at h2;injection h2 with h2
  injection h2 with h3 h4
  subst h3; subst h4;clear hA
  go_enter Tryz.func190, Tryz.ntmps190
  go_wp2_with fail;refine (HC.out _ H0.out.r.p).mono ?_;rintro e w1 hZ;obtain ⟨Z1, rfl, hg1, hp1, hl1⟩ := fr3 hZ;have H1 := hI (H0.out.call hg1 hp1 hl1);clear hg1 hp1 hl1;go_wp2_with fail;have H2 := hI (H1.out.node 19 ⟨#[]⟩ (by decide) (fs := [f]) (row := Z1.c) rfl (by simp) (LiesFL.one (H1.out.t (f, Z1.l) (by first | exact mC | simp))) rfl);refine (HNO.out _ _).mono ?_;rintro e w3 ⟨rfl, hb3⟩;have H3 := hI ((H2.out.low hb3).box #[ι 19, eS, ι 0, ι 0, eS, nL, nL, nL, .slice (some ⟨w1.heap.size, 0, none⟩) 1 1]);clear hb3;go_wp2_with fail;refine (HT.out _ H3.out.r.p).mono ?_;rintro e w4 ⟨rfl, hg4, hp4⟩;have H4 := hI (H3.out.next hg4 hp4);clear hg4 hp4;have y0 := box9 (H4.out.bx (q := w3.heap.size) (c := #[ι 19, eS, ι 0, ι 0, eS, nL, nL, nL, .slice (some ⟨w1.heap.size, 0, none⟩) 1 1]) (by simp));have x0 := H4.out.r.cells;go_wp2_with fail;refine post9 Tryz.results190 rfl rfl (H4.out.r.r.put9z _ _ _ _ _ _ _ _ _) ?_;exact retF_of (H4.out.close (by first | exact mC | simp))
 | true =>
  rw [if_pos rfl] at h2;obtain ⟨u, σ2, h3, h4⟩ := bnd_some h2;injection h4 with h4
  injection h4 with h5 h6
  subst h5; subst h6;have HC2 := hI (fun W h => hA .post W _ u σ2 h h3);obtain ⟨i0, hi, hz0, hz1, hz2⟩ := infoF inf_fi;clear hA h2 h3
  go_enter Tryz.func190, Tryz.ntmps190
  go_wp2_with fail;refine (HC.out _ H0.out.r.p).mono ?_;rintro e w1 hZ;obtain ⟨Z1, rfl, hg1, hp1, hl1⟩ := fr3 hZ;have H1 := hI (H0.out.call hg1 hp1 hl1);clear hg1 hp1 hl1;go_wp2_with fail;have H2 := hI (H1.out.node 19 ⟨#[]⟩ (by decide) (fs := [f]) (row := Z1.c) rfl (by simp) (LiesFL.one (H1.out.t (f, Z1.l) (by first | exact mC | simp))) rfl);refine (HNO.out _ _).mono ?_;rintro e w3 ⟨rfl, hb3⟩;have H3 := hI ((H2.out.low hb3).box #[ι 19, eS, ι 0, ι 0, eS, nL, nL, nL, .slice (some ⟨w1.heap.size, 0, none⟩) 1 1]);clear hb3;go_wp2_with fail;refine (HT.out _ H3.out.r.p).mono ?_;rintro e w4 ⟨rfl, hg4, hp4⟩;have H4 := hI (H3.out.next hg4 hp4);clear hg4 hp4;go_upto_region 3 with (fail)
  have y0 := box9 (H4.out.bx (q := w3.heap.size) (c := #[ι 19, eS, ι 0, ι 0, eS, nL, nL, nL, .slice (some ⟨w1.heap.size, 0, none⟩) 1 1]) (by simp));refine wp_region_noPanic ?_;refine wp_region_held_drew (S := fun _ => True) (by kernel_rfl) trivial (fun hHeld => ?_);refine wpAnyH_take (i := 0) (v := ?_) rfl (by kernel_rfl) (by kernel_rfl) (by kernel_rfl) (fun _ _ _ h => h) (Or.inl ⟨by rfl, ?ytka0⟩) (by assumption) ?_
  case ytka0 => (intro w hSw; (try dsimp only at hSw); go_simp <;> with_reducible rfl)
  try simp only [Act.put, sA, sZ, sS]
  refine wpAnyH_take (i := 2) (v := ?_) rfl (by kernel_rfl) (by kernel_rfl) (by kernel_rfl) (fun _ _ _ h => h) (Or.inl ⟨by rfl, ?ytka1⟩) (by assumption) ?_
  case ytka1 => (intro w hSw; (try dsimp only at hSw); go_simp <;> with_reducible rfl)
  try simp only [Act.put, sA, sZ, sS]
  refine wpAnyH_ready (rs := [1, 3]) (by kernel_rfl) (by simp) ?_;refine .cons rfl (fun Kc hK => ?_) (.cons rfl (fun Kc hK => ?_) .nil)
  · skip;go_simp;refine hK.out _ _ trivial (fun _ => ?_);clear hK Kc
    try simp only [Act.put, sA, sZ, sS]
    refine wpAnyH_ready (rs := [3]) (by kernel_rfl) (by simp) ?_;refine .cons rfl (fun Kc hK => ?_) .nil;go_simp;refine (HC2.out _ H4.out.drew.r.p).mono ?_;rintro e w5 hZ;obtain ⟨Z2, rfl, hg5, hp5, hl5⟩ := fr3 hZ;have H5 := hI (H4.out.drew.call hg5 hp5 hl5);clear hg5 hp5 hl5;refine hK.out _ _ trivial (fun _ => ?_);clear hK Kc
    try simp only [Act.put, sA, sZ, sS]
    refine wpAnyH_ready (rs := [4]) (by kernel_rfl) (by simp) ?_;refine .cons rfl (fun Kc hK => ?_) .nil;go_simp;have HF5 := hI (H5.out.t (u, Z2.l) (by simp));refine hK.out _ _ trivial (fun _ => ?_);clear hK Kc
    try simp only [Act.put, sA, sZ, sS]
    refine wpAnyH_ready (rs := [5]) (by kernel_rfl) (by simp) ?_;refine .cons rfl (fun Kc hK => ?_) .nil;obtain ⟨xs, hxl, hfl, -, -, -, hRx, hLx⟩ := H5.out.subs (op := 19) (tx := ⟨#[]⟩) (fs := [f]) (A := some ⟨w1.heap.size, 0, none⟩) (n := 1) (m := 1) (by simp);have hap := (hRx.move (Own.gr H5.out (Gr.one w5 (.cells Z2.c 29)))).holds;refine step_append_grows rfl _ _ 27 rfl 29 i0 (.agg #[ι 0, eS, ι 0, ι 0, eS, nL, nL, nL, nL]) 9 152 Tryz.underlying27 hi hz0 hz1 hz2 rfl (by decide) (some ⟨w1.heap.size, 0, none⟩) 1 1 xs rfl (fun e => by simp at e) hxl hap ⟨w5.heap.size, 0, none⟩ 1 1 Z2.l rfl rfl (new9 _ _ Z2.c rfl) (one9 _ _ _ _ _ _ _ _ _ _ _ _ _ _ _ _ _) (by omega) (by unfold maxLen; omega) (by omega) ?_;intro v7 w7 hown7 hgr7;obtain ⟨A7, c7, rfl, h7⟩ := H5.out.grown 19 ⟨#[]⟩ (by decide) hfl (by omega) hLx HF5.out hown7 hgr7;have H7 := hI h7;have H8 := hI (H7.out.set (fun x hx => by simp at hx) 8 (.slice A7 2 c7) rfl);have f8 := (H7.out.bx (q := w3.heap.size) (c := #[ι 19, eS, ι 0, ι 0, eS, nL, nL, nL, .slice (some ⟨w1.heap.size, 0, none⟩) 1 1]) (by simp)).free 8;have hq8 := (H7.out.bx (q := w3.heap.size) (c := #[ι 19, eS, ι 0, ι 0, eS, nL, nL, nL, .slice (some ⟨w1.heap.size, 0, none⟩) 1 1]) (by simp)).lt;have c8 := (H7.out.bx (q := w3.heap.size) (c := #[ι 19, eS, ι 0, ι 0, eS, nL, nL, nL, .slice (some ⟨w1.heap.size, 0, none⟩) 1 1]) (by simp)).cell (i := 8) rfl;clear h7 hown7 hgr7 hap hRx hLx;refine hK.out _ _ trivial (fun _ => ?_);clear hK Kc
    try simp only [Act.put, sA, sZ, sS]
    refine wpAnyH_ready (rs := [6]) (by kernel_rfl) (by simp) ?_;refine .cons rfl (fun Kc hK => ?_) .nil;go_simp;refine hK.out _ _ trivial (fun _ => ?_);clear hK Kc
    try simp only [Act.put, sA, sZ, sS]
    refine wpAnyH_ready (rs := [7]) (by kernel_rfl) (by simp) ?_;refine .cons rfl (fun Kc hK => ?_) .nil;go_simp;refine hK.out _ _ trivial (fun _ => ?_);clear hK Kc
    try simp only [Act.put, sA, sZ, sS]
    refine wpAnyH_done (by kernel_rfl) ?_ _;refine NoPanic.normal ?_;have x0 := H8.out.r.cells;have y0 := box9 (H8.out.bx (q := w3.heap.size) (c := #[ι 19, eS, ι 0, ι 0, eS, nL, nL, nL, .slice A7 2 c7]) (by simp));clear hHeld f8 c8;go_wp2_with fail;refine post9 Tryz.results190 rfl rfl (H8.out.r.r.put9z _ _ _ _ _ _ _ _ _) ?_;exact retF_of (H8.out.close (by first | exact mC | simp))
  · skip;go_simp;refine (HC2.out _ H4.out.drew.r.p).mono ?_;rintro e w5 hZ;obtain ⟨Z2, rfl, hg5, hp5, hl5⟩ := fr3 hZ;have H5 := hI (H4.out.drew.call hg5 hp5 hl5);clear hg5 hp5 hl5;refine hK.out _ _ trivial (fun _ => ?_);clear hK Kc
    try simp only [Act.put, sA, sZ, sS]
    have yy := (H5.out.bx (q := w3.heap.size) (c := #[ι 19, eS, ι 0, ι 0, eS, nL, nL, nL, .slice (some ⟨w1.heap.size, 0, none⟩) 1 1]) (by simp)).cell (i := 8) rfl;have hqy := (H5.out.bx (q := w3.heap.size) (c := #[ι 19, eS, ι 0, ι 0, eS, nL, nL, nL, .slice (some ⟨w1.heap.size, 0, none⟩) 1 1]) (by simp)).lt;refine wpAnyH_ready (rs := [1, 4]) (by kernel_rfl) (by simp) ?_;refine .cons rfl (fun Kc hK => ?_) (.cons rfl (fun Kc hK => ?_) .nil)
    · skip;go_simp;refine hK.out _ _ trivial (fun _ => ?_);clear hK Kc
      try simp only [Act.put, sA, sZ, sS]
      refine wpAnyH_ready (rs := [4]) (by kernel_rfl) (by simp) ?_;refine .cons rfl (fun Kc hK => ?_) .nil;go_simp;have HF5 := hI (H5.out.t (u, Z2.l) (by simp));refine hK.out _ _ trivial (fun _ => ?_);clear hK Kc
      try simp only [Act.put, sA, sZ, sS]
      refine wpAnyH_ready (rs := [5]) (by kernel_rfl) (by simp) ?_;refine .cons rfl (fun Kc hK => ?_) .nil;obtain ⟨xs, hxl, hfl, -, -, -, hRx, hLx⟩ := H5.out.subs (op := 19) (tx := ⟨#[]⟩) (fs := [f]) (A := some ⟨w1.heap.size, 0, none⟩) (n := 1) (m := 1) (by simp);have hap := (hRx.move (Own.gr H5.out (Gr.one w5 (.cells Z2.c 29)))).holds;refine step_append_grows rfl _ _ 27 rfl 29 i0 (.agg #[ι 0, eS, ι 0, ι 0, eS, nL, nL, nL, nL]) 9 152 Tryz.underlying27 hi hz0 hz1 hz2 rfl (by decide) (some ⟨w1.heap.size, 0, none⟩) 1 1 xs rfl (fun e => by simp at e) hxl hap ⟨w5.heap.size, 0, none⟩ 1 1 Z2.l rfl rfl (new9 _ _ Z2.c rfl) (one9 _ _ _ _ _ _ _ _ _ _ _ _ _ _ _ _ _) (by omega) (by unfold maxLen; omega) (by omega) ?_;intro v7 w7 hown7 hgr7;obtain ⟨A7, c7, rfl, h7⟩ := H5.out.grown 19 ⟨#[]⟩ (by decide) hfl (by omega) hLx HF5.out hown7 hgr7;have H7 := hI h7;have H8 := hI (H7.out.set (fun x hx => by simp at hx) 8 (.slice A7 2 c7) rfl);have f8 := (H7.out.bx (q := w3.heap.size) (c := #[ι 19, eS, ι 0, ι 0, eS, nL, nL, nL, .slice (some ⟨w1.heap.size, 0, none⟩) 1 1]) (by simp)).free 8;have hq8 := (H7.out.bx (q := w3.heap.size) (c := #[ι 19, eS, ι 0, ι 0, eS, nL, nL, nL, .slice (some ⟨w1.heap.size, 0, none⟩) 1 1]) (by simp)).lt;have c8 := (H7.out.bx (q := w3.heap.size) (c := #[ι 19, eS, ι 0, ι 0, eS, nL, nL, nL, .slice (some ⟨w1.heap.size, 0, none⟩) 1 1]) (by simp)).cell (i := 8) rfl;clear h7 hown7 hgr7 hap hRx hLx;refine hK.out _ _ trivial (fun _ => ?_);clear hK Kc
      try simp only [Act.put, sA, sZ, sS]
      refine wpAnyH_ready (rs := [6]) (by kernel_rfl) (by simp) ?_;refine .cons rfl (fun Kc hK => ?_) .nil;go_simp;refine hK.out _ _ trivial (fun _ => ?_);clear hK Kc
      try simp only [Act.put, sA, sZ, sS]
      refine wpAnyH_ready (rs := [7]) (by kernel_rfl) (by simp) ?_;refine .cons rfl (fun Kc hK => ?_) .nil;go_simp;refine hK.out _ _ trivial (fun _ => ?_);clear hK Kc
      try simp only [Act.put, sA, sZ, sS]
      refine wpAnyH_done (by kernel_rfl) ?_ _;refine NoPanic.normal ?_;have x0 := H8.out.r.cells;have y0 := box9 (H8.out.bx (q := w3.heap.size) (c := #[ι 19, eS, ι 0, ι 0, eS, nL, nL, nL, .slice A7 2 c7]) (by simp));clear hHeld f8 c8;go_wp2_with fail;refine post9 Tryz.results190 rfl rfl (H8.out.r.r.put9z _ _ _ _ _ _ _ _ _) ?_;exact retF_of (H8.out.close (by first | exact mC | simp))
    · skip;go_simp;have HF5 := hI (H5.out.t (u, Z2.l) (by simp));refine hK.out _ _ trivial (fun _ => ?_);clear hK Kc
      try simp only [Act.put, sA, sZ, sS]
      refine wpAnyH_ready (rs := [1]) (by kernel_rfl) (by simp) ?_;refine .cons rfl (fun Kc hK => ?_) .nil;go_simp;refine hK.out _ _ trivial (fun _ => ?_);clear hK Kc
      try simp only [Act.put, sA, sZ, sS]
      refine wpAnyH_ready (rs := [5]) (by kernel_rfl) (by simp) ?_;refine .cons rfl (fun Kc hK => ?_) .nil;obtain ⟨xs, hxl, hfl, -, -, -, hRx, hLx⟩ := H5.out.subs (op := 19) (tx := ⟨#[]⟩) (fs := [f]) (A := some ⟨w1.heap.size, 0, none⟩) (n := 1) (m := 1) (by simp);have hap := (hRx.move (Own.gr H5.out (Gr.one w5 (.cells Z2.c 29)))).holds;refine step_append_grows rfl _ _ 27 rfl 29 i0 (.agg #[ι 0, eS, ι 0, ι 0, eS, nL, nL, nL, nL]) 9 152 Tryz.underlying27 hi hz0 hz1 hz2 rfl (by decide) (some ⟨w1.heap.size, 0, none⟩) 1 1 xs rfl (fun e => by simp at e) hxl hap ⟨w5.heap.size, 0, none⟩ 1 1 Z2.l rfl rfl (new9 _ _ Z2.c rfl) (one9 _ _ _ _ _ _ _ _ _ _ _ _ _ _ _ _ _) (by omega) (by unfold maxLen; omega) (by omega) ?_;intro v7 w7 hown7 hgr7;obtain ⟨A7, c7, rfl, h7⟩ := H5.out.grown 19 ⟨#[]⟩ (by decide) hfl (by omega) hLx HF5.out hown7 hgr7;have H7 := hI h7;have H8 := hI (H7.out.set (fun x hx => by simp at hx) 8 (.slice A7 2 c7) rfl);have f8 := (H7.out.bx (q := w3.heap.size) (c := #[ι 19, eS, ι 0, ι 0, eS, nL, nL, nL, .slice (some ⟨w1.heap.size, 0, none⟩) 1 1]) (by simp)).free 8;have hq8 := (H7.out.bx (q := w3.heap.size) (c := #[ι 19, eS, ι 0, ι 0, eS, nL, nL, nL, .slice (some ⟨w1.heap.size, 0, none⟩) 1 1]) (by simp)).lt;have c8 := (H7.out.bx (q := w3.heap.size) (c := #[ι 19, eS, ι 0, ι 0, eS, nL, nL, nL, .slice (some ⟨w1.heap.size, 0, none⟩) 1 1]) (by simp)).cell (i := 8) rfl;clear h7 hown7 hgr7 hap hRx hLx;refine hK.out _ _ trivial (fun _ => ?_);clear hK Kc
      try simp only [Act.put, sA, sZ, sS]
      refine wpAnyH_ready (rs := [6]) (by kernel_rfl) (by simp) ?_;refine .cons rfl (fun Kc hK => ?_) .nil;go_simp;refine hK.out _ _ trivial (fun _ => ?_);clear hK Kc
      try simp only [Act.put, sA, sZ, sS]
      refine wpAnyH_ready (rs := [7]) (by kernel_rfl) (by simp) ?_;refine .cons rfl (fun Kc hK => ?_) .nil;go_simp;refine hK.out _ _ trivial (fun _ => ?_);clear hK Kc
      try simp only [Act.put, sA, sZ, sS]
      refine wpAnyH_done (by kernel_rfl) ?_ _;refine NoPanic.normal ?_;have x0 := H8.out.r.cells;have y0 := box9 (H8.out.bx (q := w3.heap.size) (c := #[ι 19, eS, ι 0, ι 0, eS, nL, nL, nL, .slice A7 2 c7]) (by simp));clear hHeld f8 c8;go_wp2_with fail;refine post9 Tryz.results190 rfl rfl (H8.out.r.r.put9z _ _ _ _ _ _ _ _ _) ?_;exact retF_of (H8.out.close (by first | exact mC | simp))

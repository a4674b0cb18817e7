/- The parser's method chain. -/
import Derived.Test.YthgnelkppibpeaaGreatDoorYu
set_option linter.unusedVariables false
set_option linter.unusedSimpArgs false
set_option linter.unusedSectionVars false
namespace Go.Proofs.YthgnelkppibpeaaGreatDoor
open Go.RowKit
set_option maxHeartbeats 4000000 in
set_option maxRecDepth 100000 in
theorem chain_any {L : List Fk} (hL : TokL L) {gt C g : Nat} {fm : Nat} {m : PM} (em : EntF fm) (hmf : OkF L gt C g fm m) (op : Int) (sg : List ByteArray) (hsl : sg.length ≤ 100) (h : Nat) (n : Nat) (w : World) (σ τ : PS) (t : Ft) (hP : PAt L gt C g w σ) (hs : StrRow w h sg) (hng : h ≠ g) (hm : chainM L m op sg n σ = some (t, τ)) :
    Calls Tryz.prog 56 #[.pointer (some ⟨g, 0, none⟩), .func (.func fm) #[] #[], .int .i64 op, .slice (some ⟨h, 0, none⟩) sg.length sg.length] w (RetF L gt C g w t τ) := by
  obtain ⟨f, σ1, h1, h2⟩ := bnd_some hm
  obtain ⟨n, rfl⟩ : ∃ n', n = n' + 1 := by
    cases n with
    | zero => exact absurd h2 (by simp [chainL])
    | succ n => exact ⟨n, rfl⟩
  have HL := Lib.hid (fun W (hW : PAt L gt C g W σ) => hmf W σ f σ1 hW h1)
  have HM := Lib.hid hmf
  have H0 := Lib.hid (RSt.start hP)
  have HS := Lib.hid hs
  have H2 := Lib.hid h2
  have hlw := hs.1
  unfold EntF at em
  have HSZ := Lib.hid hL.size
  obtain ⟨b, hb⟩ : ∃ b, anyP L sg σ1 = b := ⟨_, rfl⟩
  have HB := Lib.hid hb
  have HT := Lib.hid (fun W σ (b : Bool) (hb : anyP L sg σ = b) (hW : PAt L gt C g W σ) (hw : StrRow W h sg) => takeAny_any hL h sg hw hsl b hb hW)
  have HJ := Lib.hid (fun (f u : Ft) (S : ByteArray) (hS : S.size ≤ 1048576) (U : Nat → Prop) W (hU : ∀ b, U b → b < W.heap.size) c0 c1 c2 c3 c4 c5 c6 c7 c8 d0 d1 d2 d3 d4 d5 d6 d7 d8 (hf : LiesF W U f [c0, c1, c2, c3, c4, c5, c6, c7, c8]) (hu : LiesF W U u [d0, d1, d2, d3, d4, d5, d6, d7, d8]) => joined_any op S (by omega) W hU hf hu)
  clear hb hP hs hm h1 h2 hmf hsl
  go_enter Tryz.func56, Tryz.ntmps56
  go_wp2_with fail
  refine (HL.out _ H0.out.p).mono ?_
  rintro e w1 ⟨c0, c1, c2, c3, c4, c5, c6, c7, c8, rfl, hg1, hp1, hl1⟩
  have HT1 := Lib.hid (TreeAt.of (w0 := w) hl1 (by simp))
  obtain ⟨op1, tx1, k1, j1, s1, A1, n1, m1, A2, n2, m2, A3, n3, m3, A4, n4, m4, rfl, rfl, rfl, rfl, rfl, rfl, rfl, rfl, rfl⟩ := liesF_form hl1
  have H1 := Lib.hid (FSt.start (cs := #[.int .i64 op1, .string tx1, .int .i64 k1, .int .i64 j1, .string s1, .slice A1 n1 m1, .slice A2 n2 m2, .slice A3 n3 m3, .slice A4 n4 m4]) (H0.out.next hg1 hp1) HT1.out)
  have HS1 := Lib.hid (HS.out.gr (((Gr.one (g := g) w (.cells z9 29)).trans hg1).alloc (.cells #[.int .i64 op1, .string tx1, .int .i64 k1, .int .i64 j1, .string s1, .slice A1 n1 m1, .slice A2 n2 m2, .slice A3 n3 m3, .slice A4 n4 m4] 29)) hng)
  clear hg1 hp1 hl1
  go_wp2_with fail
  refine (HT.out _ _ b HB.out H1.out.s.p HS1.out).mono ?_
  rintro e w2 ⟨rfl, hg2, hp2⟩
  have H3 := Lib.hid (H1.out.next hg2 hp2)
  generalize w1.heap.size = q at H3 ⊢
  clear hg2 hp2 H1 HS1 HT1
  have HX : Hid (ChSt L gt C g w q m op sg t τ n (.string (if b = true then (tk L σ1.k).s else ⟨#[]⟩)) (.bool b) w2) := Lib.hid ⟨n, f, σ1, _, b, Nat.le_refl _, H2.out, HB.out, rfl, rfl, H3.out⟩
  generalize (if b = true then (tk L σ1.k).s else ⟨#[]⟩) = S0 at HX ⊢
  go_wp2_with fail
  go_loopg [10, 11] n (fun gg s10 s11 wr => Hid (ChSt L gt C g w q m op sg t τ gg s10 s11 wr))
  case atStart => exact HX
  case round =>
    clear HX HB H2 H3
    obtain ⟨n', f', σk, cs, b, hn, hc, hb, rfl, rfl, HF⟩ := hrel.out
    clear hrel
    have HF := Lib.hid HF
    obtain ⟨op1, tx1, k1, j1, s1, A1, n1, m1, A2, n2, m2, A3, n3, m3, A4, n4, m4, rfl⟩ := HF.out.form
    rw [chainL] at hc
    dsimp only at hc
    rw [hb] at hc
    have HB := Lib.hid hb
    clear hb
    cases b with
    | false =>
      rw [if_neg (by decide)] at hc
      injection hc with hc
      injection hc with h3 h4
      subst h3; subst h4
      have HF2 : Hid (FSt L gt C g w wr σk q f' #[.int .i64 op1, .string tx1, .int .i64 k1, .int .i64 j1, .string s1, .slice A1 n1 m1, .slice A2 n2 m2, .slice A3 n3 m3, .slice A4 n4 m4]) := HF
      obtain ⟨y0, y1, y2, y3, y4, y5, y6, y7, y8⟩ := box9 HF2.out.bx
      obtain ⟨⟨x0, x1, x2, x3, x4, x5, x6, x7, x8⟩, z0, z1, z2, z3, z4, z5, z6, z7, z8⟩ := HF2.out.s.cells
      go_wp2_with fail
      (try simp only [Exit.inBlock, Exit.then])
      go_wp2_with fail
      refine post9 Tryz.results56 rfl rfl (HF2.out.s.r.put9z _ _ _ _ _ _ _ _ _) ?_
      exact HF2.out.s.close HF2.out.tree
    | true =>
      rw [if_pos rfl] at hc
      obtain ⟨u, σ2, h3, h4⟩ := bnd_some hc
      have H4 := Lib.hid h4
      have HF2 : Hid (FSt L gt C g w wr (adv σk) q f' #[.int .i64 op1, .string tx1, .int .i64 k1, .int .i64 j1, .string s1, .slice A1 n1 m1, .slice A2 n2 m2, .slice A3 n3 m3, .slice A4 n4 m4]) := HF
      have HR := Lib.hid (fun W (hW : PAt L gt C g W (adv σk)) => HM.out W (adv σk) u σ2 hW h3)
      clear hc h3 h4 HF
      (try simp only [if_true])
      have hsz := HSZ.out σk.k
      generalize (tk L σk.k).s = S at hsz H4 ⊢
      obtain ⟨y0, y1, y2, y3, y4, y5, y6, y7, y8⟩ := box9 HF2.out.bx
      have hq0 := HF2.out.q0
      have hqlt := HF2.out.bx.lt
      go_upto_region 5 with (fail)
      refine wp_region_noPanic ?_
      refine wp_region_held_drew (S := fun _ => True) (by kernel_rfl) trivial (fun hHeld => ?_)
      refine wpAnyH_take (i := 0) (v := ?_) rfl (by kernel_rfl) (by kernel_rfl) (by kernel_rfl) (fun _ _ _ h => h) (Or.inl ⟨by rfl, ?ytkc0⟩) (by assumption) ?_
      case ytkc0 => (intro w hSw; (try dsimp only at hSw); go_simp <;> with_reducible rfl)
      try simp only [Act.put, List.setIfInBounds_toArray, List.set_cons_zero, List.set_cons_succ]
      refine wpAnyH_take (i := 1) (v := ?_) rfl (by kernel_rfl) (by kernel_rfl) (by kernel_rfl) (fun _ _ _ h => h) (Or.inl ⟨by rfl, ?ytkc1⟩) (by assumption) ?_
      case ytkc1 => (intro w hSw; (try dsimp only at hSw); go_simp <;> with_reducible rfl)
      try simp only [Act.put, List.setIfInBounds_toArray, List.set_cons_zero, List.set_cons_succ]
      refine wpAnyH_take (i := 3) (v := ?_) rfl (by kernel_rfl) (by kernel_rfl) (by kernel_rfl) (fun _ _ _ h => h) (Or.inl ⟨by rfl, ?ytkc2⟩) (by assumption) ?_
      case ytkc2 => (intro w hSw; (try dsimp only at hSw); go_simp <;> with_reducible rfl)
      try simp only [Act.put, List.setIfInBounds_toArray, List.set_cons_zero, List.set_cons_succ]
      refine wpAnyH_take (i := 4) (v := ?_) rfl (by kernel_rfl) (by kernel_rfl) (by kernel_rfl) (fun _ _ _ h => h) (Or.inl ⟨by rfl, ?ytkc3⟩) (by assumption) ?_
      case ytkc3 => (intro w hSw; (try dsimp only at hSw); go_simp <;> with_reducible rfl)
      try simp only [Act.put, List.setIfInBounds_toArray, List.set_cons_zero, List.set_cons_succ]
      refine wpAnyH_ready (rs := [2, 5]) (by kernel_rfl) (by simp) ?_
      refine AllReadyH.cons rfl (fun Kc hK => ?_) (AllReadyH.cons rfl (fun Kc hK => ?_) (AllReadyH.nil))
      · skip
        go_simp
        refine hK.out _ _ trivial (fun _ => ?_)
        clear hK Kc
        try simp only [Act.put, List.setIfInBounds_toArray, List.set_cons_zero, List.set_cons_succ]
        refine wpAnyH_ready (rs := [5]) (by kernel_rfl) (by simp) ?_
        refine AllReadyH.cons rfl (fun Kc hK => ?_) (AllReadyH.nil)
        go_simp
        refine (HR.out _ HF2.out.drew.s.p).mono ?_
        rintro e w3 ⟨d0, d1, d2, d3, d4, d5, d6, d7, d8, rfl, hg3, hp3, hl3⟩
        obtain ⟨op2, tx2, k2, j2, s2, B1, p1, q1, B2, p2, q2, B3, p3, q3, B4, p4, q4, rfl, rfl, rfl, rfl, rfl, rfl, rfl, rfl, rfl⟩ := liesF_form hl3
        have H3 := Lib.hid (HF2.out.drew.next hg3 hp3)
        have HT3 : Hid (LiesF w3 (fun b => w.heap.size < b ∧ b < w3.heap.size ∧ ¬ b = q) u _) := Lib.hid (LiesF.move hl3 fun b hb => ⟨⟨Nat.lt_of_lt_of_le HF2.out.drew.s.lt hb.1, hb.2, by have := hb.1; have := HF2.out.drew.bx.lt; omega⟩, rfl⟩)
        clear hg3 hp3 hl3
        refine hK.out _ _ trivial (fun _ => ?_)
        clear hK Kc
        try simp only [Act.put, List.setIfInBounds_toArray, List.set_cons_zero, List.set_cons_succ]
        refine wpAnyH_ready (rs := [6]) (by kernel_rfl) (by simp) ?_
        refine AllReadyH.cons rfl (fun Kc hK => ?_) (AllReadyH.nil)
        go_simp
        refine (HJ.out f' u S hsz (fun b => w.heap.size < b ∧ b < w3.heap.size ∧ ¬ b = q) _ (fun b hb => hb.2.1) _ _ _ _ _ _ _ _ _ _ _ _ _ _ _ _ _ _ H3.out.t HT3.out).mono ?_
        rintro e w4 ⟨e0, e1, e2, e3, e4, e5, e6, e7, e8, rfl, hb4, hl4⟩
        obtain ⟨op3, tx3, k3, j3, s3, D1, p5, q5, D2, p6, q6, D3, p7, q7, D4, p8, q8, rfl, rfl, rfl, rfl, rfl, rfl, rfl, rfl, rfl⟩ := liesF_form hl4
        have H4' := Lib.hid (H3.out.low hb4)
        have HT4 : Hid (LiesF w4 (fun b => w.heap.size < b ∧ b < w4.heap.size ∧ ¬ b = q) _ _) := Lib.hid (LiesF.move hl4 fun b hb => ⟨hb.elim (fun h => ⟨h.1, Nat.lt_of_lt_of_le h.2.1 hb4.size, h.2.2⟩) (fun h => ⟨Nat.lt_of_lt_of_le H3.out.s.lt h.1, h.2, by have := h.1; have := H3.out.bx.lt; omega⟩), rfl⟩)
        have HF5 := Lib.hid (H4'.out.put HT4.out)
        obtain ⟨x0, x1, x2, x3, x4, x5, x6, x7, x8⟩ := box9 H4'.out.bx
        obtain ⟨z0, z1, z2, z3, z4, z5, z6, z7, z8⟩ := box9f H4'.out.bx
        clear hb4 hl4
        refine hK.out _ _ trivial (fun _ => ?_)
        clear hK Kc
        try simp only [Act.put, List.setIfInBounds_toArray, List.set_cons_zero, List.set_cons_succ]
        refine wpAnyH_ready (rs := [7]) (by kernel_rfl) (by simp) ?_
        refine AllReadyH.cons rfl (fun Kc hK => ?_) (AllReadyH.nil)
        go_simp
        refine hK.out _ _ trivial (fun _ => ?_)
        clear hK Kc
        try simp only [Act.put, List.setIfInBounds_toArray, List.set_cons_zero, List.set_cons_succ]
        refine wpAnyH_done (by kernel_rfl) ?_ _
        refine NoPanic.normal ?_
        obtain ⟨n2, hn2⟩ : ∃ n2, n' = n2 + 1 := by
          cases n' with
          | zero => exact absurd H4.out (by simp [chainL])
          | succ n => exact ⟨n, rfl⟩
        subst hn2
        have HS5 := Lib.hid (HS.out.gr HF5.out.s.gr hng)
        obtain ⟨b2, hb2⟩ : ∃ b, anyP L sg σ2 = b := ⟨_, rfl⟩
        have HB2 := Lib.hid hb2
        clear hb2 hHeld x0 x1 x2 x3 x4 x5 x6 x7 x8 z0 z1 z2 z3 z4 z5 z6 z7 z8 y0 y1 y2 y3 y4 y5 y6 y7 y8
        go_wp2_with fail
        refine (HT.out _ _ b2 HB2.out HF5.out.s.p HS5.out).mono ?_
        rintro e w6 ⟨rfl, hg6, hp6⟩
        have HX : Hid (ChSt L gt C g w q m op sg t τ n2 (.string (if b2 = true then (tk L σ2.k).s else ⟨#[]⟩)) (.bool b2) w6) := Lib.hid ⟨n2, _, σ2, _, b2, Nat.le_refl _, H4.out, HB2.out, rfl, rfl, HF5.out.next hg6 hp6⟩
        clear hg6 hp6
        generalize (if b2 = true then (tk L σ2.k).s else ⟨#[]⟩) = S2 at HX ⊢
        go_wp2_with fail
        go_roundg n2
        case measure => omega
        case rel => exact HX
      · skip
        go_simp
        refine (HR.out _ HF2.out.drew.s.p).mono ?_
        rintro e w3 ⟨d0, d1, d2, d3, d4, d5, d6, d7, d8, rfl, hg3, hp3, hl3⟩
        obtain ⟨op2, tx2, k2, j2, s2, B1, p1, q1, B2, p2, q2, B3, p3, q3, B4, p4, q4, rfl, rfl, rfl, rfl, rfl, rfl, rfl, rfl, rfl⟩ := liesF_form hl3
        have H3 := Lib.hid (HF2.out.drew.next hg3 hp3)
        have HT3 : Hid (LiesF w3 (fun b => w.heap.size < b ∧ b < w3.heap.size ∧ ¬ b = q) u _) := Lib.hid (LiesF.move hl3 fun b hb => ⟨⟨Nat.lt_of_lt_of_le HF2.out.drew.s.lt hb.1, hb.2, by have := hb.1; have := HF2.out.drew.bx.lt; omega⟩, rfl⟩)
        clear hg3 hp3 hl3
        refine hK.out _ _ trivial (fun _ => ?_)
        clear hK Kc
        try simp only [Act.put, List.setIfInBounds_toArray, List.set_cons_zero, List.set_cons_succ]
        obtain ⟨v0, v1, v2, v3, v4, v5, v6, v7, v8⟩ := box9 H3.out.bx
        refine wpAnyH_ready (rs := [2]) (by kernel_rfl) (by simp) ?_
        refine AllReadyH.cons rfl (fun Kc hK => ?_) (AllReadyH.nil)
        go_simp
        refine hK.out _ _ trivial (fun _ => ?_)
        clear hK Kc
        try simp only [Act.put, List.setIfInBounds_toArray, List.set_cons_zero, List.set_cons_succ]
        refine wpAnyH_ready (rs := [6]) (by kernel_rfl) (by simp) ?_
        refine AllReadyH.cons rfl (fun Kc hK => ?_) (AllReadyH.nil)
        go_simp
        refine (HJ.out f' u S hsz (fun b => w.heap.size < b ∧ b < w3.heap.size ∧ ¬ b = q) _ (fun b hb => hb.2.1) _ _ _ _ _ _ _ _ _ _ _ _ _ _ _ _ _ _ H3.out.t HT3.out).mono ?_
        rintro e w4 ⟨e0, e1, e2, e3, e4, e5, e6, e7, e8, rfl, hb4, hl4⟩
        obtain ⟨op3, tx3, k3, j3, s3, D1, p5, q5, D2, p6, q6, D3, p7, q7, D4, p8, q8, rfl, rfl, rfl, rfl, rfl, rfl, rfl, rfl, rfl⟩ := liesF_form hl4
        have H4' := Lib.hid (H3.out.low hb4)
        have HT4 : Hid (LiesF w4 (fun b => w.heap.size < b ∧ b < w4.heap.size ∧ ¬ b = q) _ _) := Lib.hid (LiesF.move hl4 fun b hb => ⟨hb.elim (fun h => ⟨h.1, Nat.lt_of_lt_of_le h.2.1 hb4.size, h.2.2⟩) (fun h => ⟨Nat.lt_of_lt_of_le H3.out.s.lt h.1, h.2, by have := h.1; have := H3.out.bx.lt; omega⟩), rfl⟩)
        have HF5 := Lib.hid (H4'.out.put HT4.out)
        obtain ⟨x0, x1, x2, x3, x4, x5, x6, x7, x8⟩ := box9 H4'.out.bx
        obtain ⟨z0, z1, z2, z3, z4, z5, z6, z7, z8⟩ := box9f H4'.out.bx
        clear hb4 hl4
        refine hK.out _ _ trivial (fun _ => ?_)
        clear hK Kc
        try simp only [Act.put, List.setIfInBounds_toArray, List.set_cons_zero, List.set_cons_succ]
        refine wpAnyH_ready (rs := [7]) (by kernel_rfl) (by simp) ?_
        refine AllReadyH.cons rfl (fun Kc hK => ?_) (AllReadyH.nil)
        go_simp
        refine hK.out _ _ trivial (fun _ => ?_)
        clear hK Kc
        try simp only [Act.put, List.setIfInBounds_toArray, List.set_cons_zero, List.set_cons_succ]
        refine wpAnyH_done (by kernel_rfl) ?_ _
        refine NoPanic.normal ?_
        obtain ⟨n2, hn2⟩ : ∃ n2, n' = n2 + 1 := by
          cases n' with
          | zero => exact absurd H4.out (by simp [chainL])
          | succ n => exact ⟨n, rfl⟩
        subst hn2
        have HS5 := Lib.hid (HS.out.gr HF5.out.s.gr hng)
        obtain ⟨b2, hb2⟩ : ∃ b, anyP L sg σ2 = b := ⟨_, rfl⟩
        have HB2 := Lib.hid hb2
        clear hb2 hHeld x0 x1 x2 x3 x4 x5 x6 x7 x8 z0 z1 z2 z3 z4 z5 z6 z7 z8 y0 y1 y2 y3 y4 y5 y6 y7 y8
        go_wp2_with fail
        refine (HT.out _ _ b2 HB2.out HF5.out.s.p HS5.out).mono ?_
        rintro e w6 ⟨rfl, hg6, hp6⟩
        have HX : Hid (ChSt L gt C g w q m op sg t τ n2 (.string (if b2 = true then (tk L σ2.k).s else ⟨#[]⟩)) (.bool b2) w6) := Lib.hid ⟨n2, _, σ2, _, b2, Nat.le_refl _, H4.out, HB2.out, rfl, rfl, HF5.out.next hg6 hp6⟩
        clear hg6 hp6
        generalize (if b2 = true then (tk L σ2.k).s else ⟨#[]⟩) = S2 at HX ⊢
        go_wp2_with fail
        go_roundg n2
        case measure => omega
        case rel => exact HX
end Go.Proofs.YthgnelkppibpeaaGreatDoor

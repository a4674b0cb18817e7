import Derived.Test.YtoleoimmpggldaaGreatDoorYy
import Derived.Test.YtoleoimmpggldaaGreatDoorYd
set_option linter.unusedVariables false
set_option linter.unusedSectionVars false
set_option linter.unusedSimpArgs false
set_option maxHeartbeats 10000000
set_option maxRecDepth 100000
namespace Go.Proofs.YtoleoimmpggldaaGreatDoor
open Go.RowKit
def EntPost (L : List Fk) (gt C g : Nat) (w : World) (t u : Ft) (τ : PS) (e : Ending) (w' : World) : Prop := ∃ c0 c1 c2 c3 c4 c5 c6 c7 c8 d0 d1 d2 d3 d4 d5 d6 d7 d8, e = .returned (.tuple #[.agg #[c0, c1, c2, c3, c4, c5, c6, c7, c8], .agg #[d0, d1, d2, d3, d4, d5, d6, d7, d8]]) ∧ Gr g w w' ∧ PAt L gt C g w' τ ∧ LiesF w' (Nw w.heap.size w'.heap.size) t [c0, c1, c2, c3, c4, c5, c6, c7, c8] ∧ LiesF w' (Nw w.heap.size w'.heap.size) u [d0, d1, d2, d3, d4, d5, d6, d7, d8]
section
variable {L : List Fk} {gt C g : Nat} {w w' W : World} {σ τ : PS} {bs : List (Nat × Array Value)} {ts : List (Ft × List Value)} {t u : Ft} {cs : List Value}
theorem cell2 {T : TypeId} {r : Nat} {k o s i : Value} (h : Box w r T #[k, o, s, i]) : w.cell? ⟨r, 2, none⟩ = some s := h.cell rfl
theorem St.close2 (h : St noS L gt C g (W.alloc (.cells z9 29)) w σ bs ts) (hg : g < W.heap.size) (hgt : gt < W.heap.size) {u0 u1 u2 u3 u4 u5 u6 u7 u8 v0 v1 v2 v3 v4 v5 v6 v7 v8 : Value} (ht : (t, [u0, u1, u2, u3, u4, u5, u6, u7, u8]) ∈ ts) (hu : (u, [v0, v1, v2, v3, v4, v5, v6, v7, v8]) ∈ ts) :
 EntPost L gt C g W t u σ (.returned (.tuple #[.agg #[u0, u1, u2, u3, u4, u5, u6, u7, u8], .agg #[v0, v1, v2, v3, v4, v5, v6, v7, v8]])) ((((((((((((((((((w.setCell ⟨W.heap.size, 0, none⟩ u0).setCell ⟨W.heap.size, 1, none⟩ u1).setCell ⟨W.heap.size, 2, none⟩ u2).setCell ⟨W.heap.size, 3, none⟩ u3).setCell ⟨W.heap.size, 4, none⟩ u4).setCell ⟨W.heap.size, 5, none⟩ u5).setCell ⟨W.heap.size, 6, none⟩ u6).setCell ⟨W.heap.size, 7, none⟩ u7).setCell ⟨W.heap.size, 8, none⟩ u8).setCell ⟨W.heap.size + 1, 0, none⟩ v0).setCell ⟨W.heap.size + 1, 1, none⟩ v1).setCell ⟨W.heap.size + 1, 2, none⟩ v2).setCell ⟨W.heap.size + 1, 3, none⟩ v3).setCell ⟨W.heap.size + 1, 4, none⟩ v4).setCell ⟨W.heap.size + 1, 5, none⟩ v5).setCell ⟨W.heap.size + 1, 6, none⟩ v6).setCell ⟨W.heap.size + 1, 7, none⟩ v7).setCell ⟨W.heap.size + 1, 8, none⟩ v8) := by
 have sz : (W.alloc (.cells z9 29)).heap.size = W.heap.size + 1 := by simp
 have hS : ∀ b, Own noS (W.alloc (.cells z9 29)) w bs b → Nw W.heap.size w.heap.size b ∧ ¬ b = W.heap.size ∧ ¬ b = W.heap.size + 1 := by
  intro b hb;rcases hb with hb | ⟨a1, a2, -⟩
  · exact hb.elim
  · rw [sz] at a1;exact ⟨⟨by omega, a2⟩, by omega, by omega⟩
 have hmv : ∀ b, Own noS (W.alloc (.cells z9 29)) w bs b → Nw W.heap.size ((((((((((((((((((w.setCell ⟨W.heap.size, 0, none⟩ u0).setCell ⟨W.heap.size, 1, none⟩ u1).setCell ⟨W.heap.size, 2, none⟩ u2).setCell ⟨W.heap.size, 3, none⟩ u3).setCell ⟨W.heap.size, 4, none⟩ u4).setCell ⟨W.heap.size, 5, none⟩ u5).setCell ⟨W.heap.size, 6, none⟩ u6).setCell ⟨W.heap.size, 7, none⟩ u7).setCell ⟨W.heap.size, 8, none⟩ u8).setCell ⟨W.heap.size + 1, 0, none⟩ v0).setCell ⟨W.heap.size + 1, 1, none⟩ v1).setCell ⟨W.heap.size + 1, 2, none⟩ v2).setCell ⟨W.heap.size + 1, 3, none⟩ v3).setCell ⟨W.heap.size + 1, 4, none⟩ v4).setCell ⟨W.heap.size + 1, 5, none⟩ v5).setCell ⟨W.heap.size + 1, 6, none⟩ v6).setCell ⟨W.heap.size + 1, 7, none⟩ v7).setCell ⟨W.heap.size + 1, 8, none⟩ v8).heap.size b ∧ ((((((((((((((((((w.setCell ⟨W.heap.size, 0, none⟩ u0).setCell ⟨W.heap.size, 1, none⟩ u1).setCell ⟨W.heap.size, 2, none⟩ u2).setCell ⟨W.heap.size, 3, none⟩ u3).setCell ⟨W.heap.size, 4, none⟩ u4).setCell ⟨W.heap.size, 5, none⟩ u5).setCell ⟨W.heap.size, 6, none⟩ u6).setCell ⟨W.heap.size, 7, none⟩ u7).setCell ⟨W.heap.size, 8, none⟩ u8).setCell ⟨W.heap.size + 1, 0, none⟩ v0).setCell ⟨W.heap.size + 1, 1, none⟩ v1).setCell ⟨W.heap.size + 1, 2, none⟩ v2).setCell ⟨W.heap.size + 1, 3, none⟩ v3).setCell ⟨W.heap.size + 1, 4, none⟩ v4).setCell ⟨W.heap.size + 1, 5, none⟩ v5).setCell ⟨W.heap.size + 1, 6, none⟩ v6).setCell ⟨W.heap.size + 1, 7, none⟩ v7).setCell ⟨W.heap.size + 1, 8, none⟩ v8).heap[b]? = w.heap[b]? := by
  intro b hb;obtain ⟨h1, h2, h3⟩ := hS b hb;rw [size9, size9];exact ⟨h1, (heap9 _ _ _ _ _ _ _ _ _ _ _ b h3).trans (heap9 _ _ _ _ _ _ _ _ _ _ _ b h2)⟩
 exact ⟨_, _, _, _, _, _, _, _, _, _, _, _, _, _, _, _, _, _, rfl, ((((Gr.one W _).trans h.r.gr).put9 (Nat.le_refl _) _ _ _ _ _ _ _ _ _).put9 (Nat.le_succ _) _ _ _ _ _ _ _ _ _), (h.r.p.far9 (by omega) (by omega) _ _ _ _ _ _ _ _ _).far9 (by omega) (by omega) _ _ _ _ _ _ _ _ _, LiesF.move (h.t _ ht) hmv, LiesF.move (h.t _ hu) hmv⟩
theorem post92 {r1 r2 : Nat} {T1 T2 : TypeId} {fn : Func} {a : Act} {R : Ending → World → Prop} {s1 s2 : Nat} {u0 u1 u2 u3 u4 u5 u6 u7 u8 v0 v1 v2 v3 v4 v5 v6 v7 v8 : Value} (hres : fn.results = #[ResultVar.cell s1 29, ResultVar.cell s2 29]) (ht1 : a.tmps.getD s1 undef = .pointer (some ⟨r1, 0, none⟩)) (ht2 : a.tmps.getD s2 undef = .pointer (some ⟨r2, 0, none⟩)) (hd : a.defers = [])
 (hB : Box w r1 T1 #[u0, u1, u2, u3, u4, u5, u6, u7, u8]) (hB2 : Box w r2 T2 #[v0, v1, v2, v3, v4, v5, v6, v7, v8]) (h : R (.returned (.tuple #[.agg #[u0, u1, u2, u3, u4, u5, u6, u7, u8], .agg #[v0, v1, v2, v3, v4, v5, v6, v7, v8]])) w) : bodyPost Tryz.prog fn R Exit.ret a w := by
 obtain ⟨y0, y1, y2, y3, y4, y5, y6, y7, y8⟩ := box9 hB;obtain ⟨x0, x1, x2, x3, x4, x5, x6, x7, x8⟩ := box9 hB2;have ht3 : a.tmps[s1]?.getD undef = .pointer (some ⟨r1, 0, none⟩) := by simpa using ht1
 have ht4 : a.tmps[s2]?.getD undef = .pointer (some ⟨r2, 0, none⟩) := by simpa using ht2
 exact bodyPost_ret (v := .tuple #[.agg #[u0, u1, u2, u3, u4, u5, u6, u7, u8], .agg #[v0, v1, v2, v3, v4, v5, v6, v7, v8]]) (by simp [results, hres, ht3, ht4, go_sem, y0, y1, y2, y3, y4, y5, y6, y7, y8, x0, x1, x2, x3, x4, x5, x6, x7, x8]) hd h
end
theorem entry_any {L : List Fk} (hL : TokL L) {gt C g : Nat} {call : Ru → PM} (hA : OkA L gt C g call) (W : World) (σ τ : PS) (t u : Ft) (hP : PAt L gt C g W σ) (hm : entryM L call σ = some ((t, u), τ)) :
 Calls Tryz.prog 196 #[.pointer (some ⟨g, 0, none⟩)] W (EntPost L gt C g W t u τ) := by
 have H0 := hI (St.begin (hP.alloc (.cells z9 29)));have SZ1 := hI (show (W.alloc (.cells z9 29)).heap.size = W.heap.size + 1 by simp);have hg0 := hP.glt;have hgt0 := hP.gtlt;unfold entryM at hm;obtain ⟨b, hb⟩ : ∃ b, sees L (⟨#[40]⟩ : ByteArray) σ = b := ⟨_, rfl⟩
 rw [hb] at hm;have HT := hI (fun W (h : PAt L gt C g W σ) => take_any hL (⟨#[40]⟩ : ByteArray) b hb h);clear hP hb
 cases b with
 | true =>
  rw [if_pos rfl] at hm;obtain ⟨f1, σ1, h1, h2⟩ := bnd_some hm;obtain ⟨f2, σ2, h3, h4⟩ := bnd_some h2;injection h4 with h4
  injection h4 with h5 h6
  injection h5 with h7 h8
  subst h6; subst h7; subst h8;have HC1 := hI (fun W (h : PAt L gt C g W (adv σ)) => before_any hL hA (⟨#[41]⟩ : ByteArray) W _ σ1 f1 h h1);have HN := hI (fun W (h : PAt L gt C g W σ1) => need_any hL (⟨#[58]⟩ : ByteArray) h);have HC2 := hI (fun W h => hA .alt W _ f2 σ2 h h3);clear hA hm h1 h2 h3
  go_enter Tryz.func196, Tryz.ntmps196
  go_wp2_with fail;refine (HT.out _ H0.out.r.p).mono ?_;rintro e w1 ⟨rfl, hg1, hp1⟩;have H1 := hI (H0.out.next hg1 hp1);clear hg1 hp1;go_wp2_with fail;refine (HC1.out _ H1.out.r.p).mono ?_;rintro e w2 hZ;obtain ⟨Z1, rfl, hg2, hp2, hl2⟩ := fr3 hZ;have H2 := hI ((H1.out.call hg2 hp2 hl2).box Z1.c);clear hg2 hp2 hl2;go_wp2_with fail;refine (HN.out _ H2.out.r.p).mono ?_;rintro e w3 ⟨rfl, hg3, hp3⟩;have H3 := hI (H2.out.next hg3 hp3);clear hg3 hp3;go_upto_region 4 with (fail)
  generalize w2.heap.size = qq at H3 ⊢;have keep : Hid (∀ X σ ts, St noS L gt C g (W.alloc (.cells z9 29)) X σ [(qq, Z1.c)] ts → X.cell? ⟨qq, 0, none⟩ = some (ι Z1.o) ∧ X.cell? ⟨qq, 1, none⟩ = some (.string Z1.t) ∧ X.cell? ⟨qq, 2, none⟩ = some (ι Z1.k) ∧ X.cell? ⟨qq, 3, none⟩ = some (ι Z1.j) ∧ X.cell? ⟨qq, 4, none⟩ = some (.string Z1.s) ∧ X.cell? ⟨qq, 5, none⟩ = some (.slice Z1.A Z1.a Z1.u) ∧ X.cell? ⟨qq, 6, none⟩ = some (.slice Z1.B Z1.b Z1.v) ∧ X.cell? ⟨qq, 7, none⟩ = some (.slice Z1.C Z1.e Z1.w) ∧ X.cell? ⟨qq, 8, none⟩ = some (.slice Z1.D Z1.d Z1.x)) := hI fun X σ ts hX => box9 (hX.bx (by simp))
  obtain ⟨y0, y1, y2, y3, y4, y5, y6, y7, y8⟩ := keep.out _ _ _ H3.out;have hqq : W.heap.size + 1 < qq := by have h := (H3.out.b (qq, Z1.c) (by simp)).1; dsimp only at h; rw [SZ1.out] at h; exact h
  go_region_held3 (fun X => X.cell? ⟨qq, 0, none⟩ = some (ι Z1.o) ∧ X.cell? ⟨qq, 1, none⟩ = some (.string Z1.t) ∧ X.cell? ⟨qq, 2, none⟩ = some (ι Z1.k) ∧ X.cell? ⟨qq, 3, none⟩ = some (ι Z1.j) ∧ X.cell? ⟨qq, 4, none⟩ = some (.string Z1.s) ∧ X.cell? ⟨qq, 5, none⟩ = some (.slice Z1.A Z1.a Z1.u) ∧ X.cell? ⟨qq, 6, none⟩ = some (.slice Z1.B Z1.b Z1.v) ∧ X.cell? ⟨qq, 7, none⟩ = some (.slice Z1.C Z1.e Z1.w) ∧ X.cell? ⟨qq, 8, none⟩ = some (.slice Z1.D Z1.d Z1.x))
   (first
    | with_reducible exact keep.out _ _ _ H3.out.drew
    | with_reducible exact keep.out _ _ _ H4.out
    | with_reducible exact KA.out _ _ _ _ _ _ _ _ _
    | with_reducible exact KB.out _ _ _ _ _ _ _ _ _ _ _ _ _ _ _ _ _ _)
   (first
    | (go_at_call 78; (refine (HC2.out _ H3.out.drew.r.p).mono ?_); rintro e w4 hZ; obtain ⟨Z2, rfl, hg4, hp4, hl4⟩ := fr3 hZ; have H4 := hI (H3.out.drew.call hg4 hp4 hl4); clear hg4 hp4 hl4; have HR1_4 := hI (H4.out.pbox hg0); have HR2_4 : Hid (Box w4 (W.heap.size + 1) 29 z9) := hI (SZ1.out ▸ H4.out.r.r); obtain ⟨⟨a0, a1, a2, a3, a4, a5, a6, a7, a8⟩, d0, d1, d2, d3, d4, d5, d6, d7, d8⟩ := box9z HR1_4.out; have x0 := box9z HR2_4.out; have hl1_4 := HR1_4.out.lt; have hl2_4 := HR2_4.out.lt; have KA := hI (fun (u0 u1 u2 u3 u4 u5 u6 u7 u8 : Value) => box9 ((H4.out.bx (q := qq) (c := Z1.c) (by simp)).far9 (r := W.heap.size) (by omega) u0 u1 u2 u3 u4 u5 u6 u7 u8)); have KB := hI (fun (u0 u1 u2 u3 u4 u5 u6 u7 u8 v0 v1 v2 v3 v4 v5 v6 v7 v8 : Value) => box9 (((H4.out.bx (q := qq) (c := Z1.c) (by simp)).far9 (r := W.heap.size) (by omega) u0 u1 u2 u3 u4 u5 u6 u7 u8).far9 (r := W.heap.size + 1) (by omega) v0 v1 v2 v3 v4 v5 v6 v7 v8))))
  go_wp2_with fail;refine post92 Tryz.results196 rfl rfl rfl ((HR1_4.out.put9z _ _ _ _ _ _ _ _ _).far9 (by omega) _ _ _ _ _ _ _ _ _) ((HR2_4.out.far9 (by omega) _ _ _ _ _ _ _ _ _).put9z _ _ _ _ _ _ _ _ _) ?_;exact H4.out.close2 hg0 hgt0 (by first | exact mC | exact List.mem_cons_of_mem _ mC | simp) (by first | exact mC | exact List.mem_cons_of_mem _ mC | simp)
 | false =>
  rw [if_neg (by decide)] at hm;have HRD := hI (fun W (h : PAt L gt C g W σ) => read_any hL h);have HF := hI (fun t W (h : PAt L gt C g W (readP L σ)) => pfail_any hL t h);have HSZ := hI (hL.size σ.k);have HTX := hI (fun s W => text_any s W);have HVA := hI (fun s W => var_any s W);have HID := hI (fun W => ident_any W)
  by_cases hk3 : (tk L σ.k).k = 3
  · rw [if_pos hk3] at hm;injection hm with hm
    injection hm with h5 h6
    injection h5 with h7 h8
    subst h6; subst h7; subst h8;generalize tk L σ.k = t at HRD HSZ hk3 ⊢;generalize readP L σ = τ at HRD ⊢;obtain ⟨k, o, s, i⟩ := t;dsimp only at hk3 HSZ ⊢;subst hk3;have hsz := HSZ.out;clear hA HF HSZ HID
    go_enter Tryz.func196, Tryz.ntmps196
    go_wp2_with fail;refine (HT.out _ H0.out.r.p).mono ?_;rintro e w1 ⟨rfl, hg1, hp1⟩;have H1 := hI (H0.out.next hg1 hp1);clear hg1 hp1;go_wp2_with fail;refine (HRD.out _ H1.out.r.p).mono ?_;rintro e w2 ⟨rfl, hg2, hp2⟩;have H2 := hI ((H1.out.next hg2 hp2).alloc (.cells #[ι (3 : Nat), ι o, .string s, ι i] 41));have HK2 := hI (Box.laid w2 41 #[ι (3 : Nat), ι o, .string s, ι i]);have hl2 : W.heap.size + 1 < w2.heap.size := by have := H1.out.lt; rw [SZ1.out] at this; have := hg2.size; omega
    clear hg2 hp2;go_upto_region 10 with (fail)
    have yt := cell2 HK2.out;have ytd := hI (cell2 (HK2.out.below (Below.refl _ _).drew HK2.out.lt))
    go_region_held3 (fun X => X.cell? ⟨w2.heap.size, 2, none⟩ = some (.string s))
     (first
      | with_reducible exact yt
      | with_reducible exact ytd.out
      | with_reducible exact yt3.out
      | with_reducible exact yt4.out
      | with_reducible exact KA.out _ _ _ _ _ _ _ _ _
      | with_reducible exact KB.out _ _ _ _ _ _ _ _ _ _ _ _ _ _ _ _ _ _
      | exact yt)
     (first
      | (go_at_call 172; (refine (HTX.out _ _).mono ?_); rintro e w3 ⟨rfl, hb3⟩; have H3 := hI ((H2.out.drew.low hb3).leaf 7 ⟨#[]⟩ 4 0 s (by decide) (by omega)); have HK3 := hI (HK2.out.below ((Below.refl _ _).drew.trans hb3) (by simp)); have yt3 := hI (cell2 HK3.out))
      | (go_at_call 173; (refine (HVA.out _ _).mono ?_); rintro e w4 ⟨rfl, hb4⟩; have H4 := hI ((H3.out.low hb4).leaf 8 s 0 0 ⟨#[]⟩ (by omega) (by decide)); have HK4 := hI (HK3.out.below hb4 HK3.out.lt); have yt4 := hI (cell2 HK4.out); have HR1_4 := hI (H4.out.pbox hg0); have HR2_4 : Hid (Box w4 (W.heap.size + 1) 29 z9) := hI (SZ1.out ▸ H4.out.r.r); obtain ⟨⟨a0, a1, a2, a3, a4, a5, a6, a7, a8⟩, d0, d1, d2, d3, d4, d5, d6, d7, d8⟩ := box9z HR1_4.out; have x0 := box9z HR2_4.out; have hl1_4 := HR1_4.out.lt; have hl2_4 := HR2_4.out.lt; have KA := hI (fun (u0 u1 u2 u3 u4 u5 u6 u7 u8 : Value) => cell2 (HK4.out.far9 (r := W.heap.size) (by omega) u0 u1 u2 u3 u4 u5 u6 u7 u8)); have KB := hI (fun (u0 u1 u2 u3 u4 u5 u6 u7 u8 v0 v1 v2 v3 v4 v5 v6 v7 v8 : Value) => cell2 ((HK4.out.far9 (r := W.heap.size) (by omega) u0 u1 u2 u3 u4 u5 u6 u7 u8).far9 (r := W.heap.size + 1) (by omega) v0 v1 v2 v3 v4 v5 v6 v7 v8))))
    go_wp2_with fail;refine post92 Tryz.results196 rfl rfl rfl ((HR1_4.out.put9z _ _ _ _ _ _ _ _ _).far9 (by omega) _ _ _ _ _ _ _ _ _) ((HR2_4.out.far9 (by omega) _ _ _ _ _ _ _ _ _).put9z _ _ _ _ _ _ _ _ _) ?_;exact H4.out.close2 hg0 hgt0 (by first | exact mC | exact List.mem_cons_of_mem _ mC | simp) (by first | exact mC | exact List.mem_cons_of_mem _ mC | simp)
  · rw [if_neg hk3] at hm
    by_cases hk : (tk L σ.k).k = 1 ∨ (tk L σ.k).k = 2 ∨ (tk L σ.k).k = 6
    · rw [if_pos hk] at hm;obtain ⟨b, hb⟩ : ∃ b, sees L (⟨#[58]⟩ : ByteArray) (readP L σ) = b := ⟨_, rfl⟩
      rw [hb] at hm;have HT2 := hI (fun W (h : PAt L gt C g W (readP L σ)) => take_any hL (⟨#[58]⟩ : ByteArray) b hb h);clear hb HF
      cases b with
      | true =>
       rw [if_pos rfl] at hm;obtain ⟨f2, σ2, h3, h4⟩ := bnd_some hm;injection h4 with h4
       injection h4 with h5 h6
       injection h5 with h7 h8
       subst h6; subst h7; subst h8;have HC2 := hI (fun W h => hA .alt W _ f2 σ2 h h3);clear hA hm h3 HVA HID;generalize tk L σ.k = t at HRD HSZ hk3 hk ⊢;generalize readP L σ = τ at HRD HT2 HC2;obtain ⟨k, o, s, i⟩ := t;dsimp only at hk3 hk HSZ ⊢;have hsz := HSZ.out;clear hk3 HSZ;rcases hk with rfl | rfl | rfl
       · skip
         go_enter Tryz.func196, Tryz.ntmps196
         go_wp2_with fail;refine (HT.out _ H0.out.r.p).mono ?_;rintro e w1 ⟨rfl, hg1, hp1⟩;have H1 := hI (H0.out.next hg1 hp1);clear hg1 hp1;go_wp2_with fail;refine (HRD.out _ H1.out.r.p).mono ?_;rintro e w2 ⟨rfl, hg2, hp2⟩;have H2 := hI ((H1.out.next hg2 hp2).alloc (.cells #[ι (1 : Nat), ι o, .string s, ι i] 41));have HK2 := hI (Box.laid w2 41 #[ι (1 : Nat), ι o, .string s, ι i]);have hl2 : W.heap.size + 1 < w2.heap.size := by have := H1.out.lt; rw [SZ1.out] at this; have := hg2.size; omega
         clear hg2 hp2;go_wp2_with fail;refine (HT2.out _ H2.out.r.p).mono ?_;rintro e w3 ⟨rfl, hg3, hp3⟩;have H3 := hI (H2.out.next hg3 hp3);have HK3 := hI (HK2.out.grown hg3 (by intro e; injection e with e; omega));have yt := cell2 HK3.out;clear hg3 hp3;go_wp2_with fail;refine (HTX.out _ _).mono ?_;rintro e w4 ⟨rfl, hb4⟩;have H4 := hI ((H3.out.low hb4).leaf 7 ⟨#[]⟩ 4 0 s (by decide) (by omega));clear hb4;go_wp2_with fail;refine (HC2.out _ H4.out.r.p).mono ?_;rintro e w5 hZ;obtain ⟨Z2, rfl, hg5, hp5, hl5⟩ := fr3 hZ;have H5 := hI (H4.out.call hg5 hp5 hl5);clear hg5 hp5 hl5;have HR1_5 := hI (H5.out.pbox hg0);have HR2_5 : Hid (Box w5 (W.heap.size + 1) 29 z9) := hI (SZ1.out ▸ H5.out.r.r);obtain ⟨⟨a0, a1, a2, a3, a4, a5, a6, a7, a8⟩, d0, d1, d2, d3, d4, d5, d6, d7, d8⟩ := box9z HR1_5.out;have x0 := box9z HR2_5.out;have hl1_5 := HR1_5.out.lt;have hl2_5 := HR2_5.out.lt;go_wp2_with fail;refine post92 Tryz.results196 rfl rfl rfl ((HR1_5.out.put9z _ _ _ _ _ _ _ _ _).far9 (by omega) _ _ _ _ _ _ _ _ _) ((HR2_5.out.far9 (by omega) _ _ _ _ _ _ _ _ _).put9z _ _ _ _ _ _ _ _ _) ?_;exact H5.out.close2 hg0 hgt0 (by first | exact mC | exact List.mem_cons_of_mem _ mC | simp) (by first | exact mC | exact List.mem_cons_of_mem _ mC | simp)
       · skip
         go_enter Tryz.func196, Tryz.ntmps196
         go_wp2_with fail;refine (HT.out _ H0.out.r.p).mono ?_;rintro e w1 ⟨rfl, hg1, hp1⟩;have H1 := hI (H0.out.next hg1 hp1);clear hg1 hp1;go_wp2_with fail;refine (HRD.out _ H1.out.r.p).mono ?_;rintro e w2 ⟨rfl, hg2, hp2⟩;have H2 := hI ((H1.out.next hg2 hp2).alloc (.cells #[ι (2 : Nat), ι o, .string s, ι i] 41));have HK2 := hI (Box.laid w2 41 #[ι (2 : Nat), ι o, .string s, ι i]);have hl2 : W.heap.size + 1 < w2.heap.size := by have := H1.out.lt; rw [SZ1.out] at this; have := hg2.size; omega
         clear hg2 hp2;go_wp2_with fail;refine (HT2.out _ H2.out.r.p).mono ?_;rintro e w3 ⟨rfl, hg3, hp3⟩;have H3 := hI (H2.out.next hg3 hp3);have HK3 := hI (HK2.out.grown hg3 (by intro e; injection e with e; omega));have yt := cell2 HK3.out;clear hg3 hp3;go_wp2_with fail;refine (HTX.out _ _).mono ?_;rintro e w4 ⟨rfl, hb4⟩;have H4 := hI ((H3.out.low hb4).leaf 7 ⟨#[]⟩ 4 0 s (by decide) (by omega));clear hb4;go_wp2_with fail;refine (HC2.out _ H4.out.r.p).mono ?_;rintro e w5 hZ;obtain ⟨Z2, rfl, hg5, hp5, hl5⟩ := fr3 hZ;have H5 := hI (H4.out.call hg5 hp5 hl5);clear hg5 hp5 hl5;have HR1_5 := hI (H5.out.pbox hg0);have HR2_5 : Hid (Box w5 (W.heap.size + 1) 29 z9) := hI (SZ1.out ▸ H5.out.r.r);obtain ⟨⟨a0, a1, a2, a3, a4, a5, a6, a7, a8⟩, d0, d1, d2, d3, d4, d5, d6, d7, d8⟩ := box9z HR1_5.out;have x0 := box9z HR2_5.out;have hl1_5 := HR1_5.out.lt;have hl2_5 := HR2_5.out.lt;go_wp2_with fail;refine post92 Tryz.results196 rfl rfl rfl ((HR1_5.out.put9z _ _ _ _ _ _ _ _ _).far9 (by omega) _ _ _ _ _ _ _ _ _) ((HR2_5.out.far9 (by omega) _ _ _ _ _ _ _ _ _).put9z _ _ _ _ _ _ _ _ _) ?_;exact H5.out.close2 hg0 hgt0 (by first | exact mC | exact List.mem_cons_of_mem _ mC | simp) (by first | exact mC | exact List.mem_cons_of_mem _ mC | simp)
       · skip
         go_enter Tryz.func196, Tryz.ntmps196
         go_wp2_with fail;refine (HT.out _ H0.out.r.p).mono ?_;rintro e w1 ⟨rfl, hg1, hp1⟩;have H1 := hI (H0.out.next hg1 hp1);clear hg1 hp1;go_wp2_with fail;refine (HRD.out _ H1.out.r.p).mono ?_;rintro e w2 ⟨rfl, hg2, hp2⟩;have H2 := hI ((H1.out.next hg2 hp2).alloc (.cells #[ι (6 : Nat), ι o, .string s, ι i] 41));have HK2 := hI (Box.laid w2 41 #[ι (6 : Nat), ι o, .string s, ι i]);have hl2 : W.heap.size + 1 < w2.heap.size := by have := H1.out.lt; rw [SZ1.out] at this; have := hg2.size; omega
         clear hg2 hp2;go_wp2_with fail;refine (HT2.out _ H2.out.r.p).mono ?_;rintro e w3 ⟨rfl, hg3, hp3⟩;have H3 := hI (H2.out.next hg3 hp3);have HK3 := hI (HK2.out.grown hg3 (by intro e; injection e with e; omega));have yt := cell2 HK3.out;clear hg3 hp3;go_wp2_with fail;refine (HTX.out _ _).mono ?_;rintro e w4 ⟨rfl, hb4⟩;have H4 := hI ((H3.out.low hb4).leaf 7 ⟨#[]⟩ 4 0 s (by decide) (by omega));clear hb4;go_wp2_with fail;refine (HC2.out _ H4.out.r.p).mono ?_;rintro e w5 hZ;obtain ⟨Z2, rfl, hg5, hp5, hl5⟩ := fr3 hZ;have H5 := hI (H4.out.call hg5 hp5 hl5);clear hg5 hp5 hl5;have HR1_5 := hI (H5.out.pbox hg0);have HR2_5 : Hid (Box w5 (W.heap.size + 1) 29 z9) := hI (SZ1.out ▸ H5.out.r.r);obtain ⟨⟨a0, a1, a2, a3, a4, a5, a6, a7, a8⟩, d0, d1, d2, d3, d4, d5, d6, d7, d8⟩ := box9z HR1_5.out;have x0 := box9z HR2_5.out;have hl1_5 := HR1_5.out.lt;have hl2_5 := HR2_5.out.lt;go_wp2_with fail;refine post92 Tryz.results196 rfl rfl rfl ((HR1_5.out.put9z _ _ _ _ _ _ _ _ _).far9 (by omega) _ _ _ _ _ _ _ _ _) ((HR2_5.out.far9 (by omega) _ _ _ _ _ _ _ _ _).put9z _ _ _ _ _ _ _ _ _) ?_;exact H5.out.close2 hg0 hgt0 (by first | exact mC | exact List.mem_cons_of_mem _ mC | simp) (by first | exact mC | exact List.mem_cons_of_mem _ mC | simp)
      | false =>
       rw [if_neg (by decide)] at hm;injection hm with hm
       injection hm with h5 h6
       injection h5 with h7 h8
       subst h6; subst h7; subst h8;have HFD := hI (fun (U : Nat → Prop) W s (hs : s.size ≤ 1048576) hU hl => field_any (S := U) (f := identF) (c0 := ι 1) (c1 := eS) (c2 := ι 0) (c3 := ι 0) (c4 := eS) (c5 := nL) (c6 := nL) (c7 := nL) (c8 := nL) s (by omega) W hU hl);clear hA HVA;generalize tk L σ.k = t at HRD HSZ hk3 hk ⊢;generalize readP L σ = τ at HRD HT2 ⊢;obtain ⟨k, o, s, i⟩ := t;dsimp only at hk3 hk HSZ ⊢;have hsz := HSZ.out;clear hk3 HSZ;rcases hk with rfl | rfl | rfl
       · skip
         go_enter Tryz.func196, Tryz.ntmps196
         go_wp2_with fail;refine (HT.out _ H0.out.r.p).mono ?_;rintro e w1 ⟨rfl, hg1, hp1⟩;have H1 := hI (H0.out.next hg1 hp1);clear hg1 hp1;go_wp2_with fail;refine (HRD.out _ H1.out.r.p).mono ?_;rintro e w2 ⟨rfl, hg2, hp2⟩;have H2 := hI ((H1.out.next hg2 hp2).alloc (.cells #[ι (1 : Nat), ι o, .string s, ι i] 41));have HK2 := hI (Box.laid w2 41 #[ι (1 : Nat), ι o, .string s, ι i]);have hl2 : W.heap.size + 1 < w2.heap.size := by have := H1.out.lt; rw [SZ1.out] at this; have := hg2.size; omega
         clear hg2 hp2;go_wp2_with fail;refine (HT2.out _ H2.out.r.p).mono ?_;rintro e w3 ⟨rfl, hg3, hp3⟩;have H3 := hI (H2.out.next hg3 hp3);have HK3 := hI (HK2.out.grown hg3 (by intro e; injection e with e; omega));clear hg3 hp3;go_upto_region 16 with (fail)
         have yt := cell2 HK3.out;have ytd := hI (cell2 (HK3.out.below (Below.refl _ _).drew HK3.out.lt))
         go_region_held3 (fun X => X.cell? ⟨w2.heap.size, 2, none⟩ = some (.string s))
          (first
           | with_reducible exact yt
           | with_reducible exact ytd.out
           | with_reducible exact yt4.out
           | with_reducible exact yt5.out
           | with_reducible exact yt6.out
           | with_reducible exact KA.out _ _ _ _ _ _ _ _ _
           | with_reducible exact KB.out _ _ _ _ _ _ _ _ _ _ _ _ _ _ _ _ _ _
           | exact yt)
          (first
           | (go_at_call 172; (refine (HTX.out _ _).mono ?_); rintro e w4 ⟨rfl, hb4⟩; have H4 := hI ((H3.out.drew.low hb4).leaf 7 ⟨#[]⟩ 4 0 s (by decide) (by omega)); have HK4 := hI (HK3.out.below ((Below.refl _ _).drew.trans hb4) HK3.out.lt); have yt4 := hI (cell2 HK4.out))
           | (go_at_call 170; (refine (HID.out _).mono ?_); rintro e w5 ⟨rfl, hb5⟩; have H5 := hI ((H4.out.low hb5).leaf 1 ⟨#[]⟩ 0 0 ⟨#[]⟩ (by decide) (by decide)); have HK5 := hI (HK4.out.below hb5 HK4.out.lt); have yt5 := hI (cell2 HK5.out))
           | (go_at_call 169; (refine (HFD.out _ _ s hsz (Own.lt H5.out) (H5.out.t (identF, [ι 1, eS, ι 0, ι 0, eS, nL, nL, nL, nL]) mC)).mono ?_); rintro e w6 ⟨c20, c21, c22, c23, c24, c25, c26, c27, c28, rfl, hb6, hl6⟩; obtain ⟨Z2, rfl, rfl, rfl, rfl, rfl, rfl, rfl, rfl, rfl⟩ := fr9 hl6; have H6 := hI (H5.out.maker hb6 hl6); have HK6 := hI (HK5.out.below hb6 HK5.out.lt); have yt6 := hI (cell2 HK6.out); have HR1_6 := hI (H6.out.pbox hg0); have HR2_6 : Hid (Box w6 (W.heap.size + 1) 29 z9) := hI (SZ1.out ▸ H6.out.r.r); obtain ⟨⟨a0, a1, a2, a3, a4, a5, a6, a7, a8⟩, d0, d1, d2, d3, d4, d5, d6, d7, d8⟩ := box9z HR1_6.out; have x0 := box9z HR2_6.out; have hl1_6 := HR1_6.out.lt; have hl2_6 := HR2_6.out.lt; have KA := hI (fun (u0 u1 u2 u3 u4 u5 u6 u7 u8 : Value) => cell2 (HK6.out.far9 (r := W.heap.size) (by omega) u0 u1 u2 u3 u4 u5 u6 u7 u8)); have KB := hI (fun (u0 u1 u2 u3 u4 u5 u6 u7 u8 v0 v1 v2 v3 v4 v5 v6 v7 v8 : Value) => cell2 ((HK6.out.far9 (r := W.heap.size) (by omega) u0 u1 u2 u3 u4 u5 u6 u7 u8).far9 (r := W.heap.size + 1) (by omega) v0 v1 v2 v3 v4 v5 v6 v7 v8))))
         go_wp2_with fail;refine post92 Tryz.results196 rfl rfl rfl ((HR1_6.out.put9z _ _ _ _ _ _ _ _ _).far9 (by omega) _ _ _ _ _ _ _ _ _) ((HR2_6.out.far9 (by omega) _ _ _ _ _ _ _ _ _).put9z _ _ _ _ _ _ _ _ _) ?_;exact H6.out.close2 hg0 hgt0 (by first | exact mC | exact List.mem_cons_of_mem _ mC | exact List.mem_cons_of_mem _ (List.mem_cons_of_mem _ mC) | simp) (by first | exact mC | exact List.mem_cons_of_mem _ mC | exact List.mem_cons_of_mem _ (List.mem_cons_of_mem _ mC) | simp)
       · skip
         go_enter Tryz.func196, Tryz.ntmps196
         go_wp2_with fail;refine (HT.out _ H0.out.r.p).mono ?_;rintro e w1 ⟨rfl, hg1, hp1⟩;have H1 := hI (H0.out.next hg1 hp1);clear hg1 hp1;go_wp2_with fail;refine (HRD.out _ H1.out.r.p).mono ?_;rintro e w2 ⟨rfl, hg2, hp2⟩;have H2 := hI ((H1.out.next hg2 hp2).alloc (.cells #[ι (2 : Nat), ι o, .string s, ι i] 41));have HK2 := hI (Box.laid w2 41 #[ι (2 : Nat), ι o, .string s, ι i]);have hl2 : W.heap.size + 1 < w2.heap.size := by have := H1.out.lt; rw [SZ1.out] at this; have := hg2.size; omega
         clear hg2 hp2;go_wp2_with fail;refine (HT2.out _ H2.out.r.p).mono ?_;rintro e w3 ⟨rfl, hg3, hp3⟩;have H3 := hI (H2.out.next hg3 hp3);have HK3 := hI (HK2.out.grown hg3 (by intro e; injection e with e; omega));clear hg3 hp3;go_upto_region 16 with (fail)
         have yt := cell2 HK3.out;have ytd := hI (cell2 (HK3.out.below (Below.refl _ _).drew HK3.out.lt))
         go_region_held3 (fun X => X.cell? ⟨w2.heap.size, 2, none⟩ = some (.string s))
          (first
           | with_reducible exact yt
           | with_reducible exact ytd.out
           | with_reducible exact yt4.out
           | with_reducible exact yt5.out
           | with_reducible exact yt6.out
           | with_reducible exact KA.out _ _ _ _ _ _ _ _ _
           | with_reducible exact KB.out _ _ _ _ _ _ _ _ _ _ _ _ _ _ _ _ _ _
           | exact yt)
          (first
           | (go_at_call 172; (refine (HTX.out _ _).mono ?_); rintro e w4 ⟨rfl, hb4⟩; have H4 := hI ((H3.out.drew.low hb4).leaf 7 ⟨#[]⟩ 4 0 s (by decide) (by omega)); have HK4 := hI (HK3.out.below ((Below.refl _ _).drew.trans hb4) HK3.out.lt); have yt4 := hI (cell2 HK4.out))
           | (go_at_call 170; (refine (HID.out _).mono ?_); rintro e w5 ⟨rfl, hb5⟩; have H5 := hI ((H4.out.low hb5).leaf 1 ⟨#[]⟩ 0 0 ⟨#[]⟩ (by decide) (by decide)); have HK5 := hI (HK4.out.below hb5 HK4.out.lt); have yt5 := hI (cell2 HK5.out))
           | (go_at_call 169; (refine (HFD.out _ _ s hsz (Own.lt H5.out) (H5.out.t (identF, [ι 1, eS, ι 0, ι 0, eS, nL, nL, nL, nL]) mC)).mono ?_); rintro e w6 ⟨c20, c21, c22, c23, c24, c25, c26, c27, c28, rfl, hb6, hl6⟩; obtain ⟨Z2, rfl, rfl, rfl, rfl, rfl, rfl, rfl, rfl, rfl⟩ := fr9 hl6; have H6 := hI (H5.out.maker hb6 hl6); have HK6 := hI (HK5.out.below hb6 HK5.out.lt); have yt6 := hI (cell2 HK6.out); have HR1_6 := hI (H6.out.pbox hg0); have HR2_6 : Hid (Box w6 (W.heap.size + 1) 29 z9) := hI (SZ1.out ▸ H6.out.r.r); obtain ⟨⟨a0, a1, a2, a3, a4, a5, a6, a7, a8⟩, d0, d1, d2, d3, d4, d5, d6, d7, d8⟩ := box9z HR1_6.out; have x0 := box9z HR2_6.out; have hl1_6 := HR1_6.out.lt; have hl2_6 := HR2_6.out.lt; have KA := hI (fun (u0 u1 u2 u3 u4 u5 u6 u7 u8 : Value) => cell2 (HK6.out.far9 (r := W.heap.size) (by omega) u0 u1 u2 u3 u4 u5 u6 u7 u8)); have KB := hI (fun (u0 u1 u2 u3 u4 u5 u6 u7 u8 v0 v1 v2 v3 v4 v5 v6 v7 v8 : Value) => cell2 ((HK6.out.far9 (r := W.heap.size) (by omega) u0 u1 u2 u3 u4 u5 u6 u7 u8).far9 (r := W.heap.size + 1) (by omega) v0 v1 v2 v3 v4 v5 v6 v7 v8))))
         go_wp2_with fail;refine post92 Tryz.results196 rfl rfl rfl ((HR1_6.out.put9z _ _ _ _ _ _ _ _ _).far9 (by omega) _ _ _ _ _ _ _ _ _) ((HR2_6.out.far9 (by omega) _ _ _ _ _ _ _ _ _).put9z _ _ _ _ _ _ _ _ _) ?_;exact H6.out.close2 hg0 hgt0 (by first | exact mC | exact List.mem_cons_of_mem _ mC | exact List.mem_cons_of_mem _ (List.mem_cons_of_mem _ mC) | simp) (by first | exact mC | exact List.mem_cons_of_mem _ mC | exact List.mem_cons_of_mem _ (List.mem_cons_of_mem _ mC) | simp)
       · skip
         go_enter Tryz.func196, Tryz.ntmps196
         go_wp2_with fail;refine (HT.out _ H0.out.r.p).mono ?_;rintro e w1 ⟨rfl, hg1, hp1⟩;have H1 := hI (H0.out.next hg1 hp1);clear hg1 hp1;go_wp2_with fail;refine (HRD.out _ H1.out.r.p).mono ?_;rintro e w2 ⟨rfl, hg2, hp2⟩;have H2 := hI ((H1.out.next hg2 hp2).alloc (.cells #[ι (6 : Nat), ι o, .string s, ι i] 41));have HK2 := hI (Box.laid w2 41 #[ι (6 : Nat), ι o, .string s, ι i]);have hl2 : W.heap.size + 1 < w2.heap.size := by have := H1.out.lt; rw [SZ1.out] at this; have := hg2.size; omega
         clear hg2 hp2;go_wp2_with fail;refine (HT2.out _ H2.out.r.p).mono ?_;rintro e w3 ⟨rfl, hg3, hp3⟩;have H3 := hI (H2.out.next hg3 hp3);have HK3 := hI (HK2.out.grown hg3 (by intro e; injection e with e; omega));clear hg3 hp3;go_upto_region 16 with (fail)
         have yt := cell2 HK3.out;have ytd := hI (cell2 (HK3.out.below (Below.refl _ _).drew HK3.out.lt))
         go_region_held3 (fun X => X.cell? ⟨w2.heap.size, 2, none⟩ = some (.string s))
          (first
           | with_reducible exact yt
           | with_reducible exact ytd.out
           | with_reducible exact yt4.out
           | with_reducible exact yt5.out
           | with_reducible exact yt6.out
           | with_reducible exact KA.out _ _ _ _ _ _ _ _ _
           | with_reducible exact KB.out _ _ _ _ _ _ _ _ _ _ _ _ _ _ _ _ _ _
           | exact yt)
          (first
           | (go_at_call 172; (refine (HTX.out _ _).mono ?_); rintro e w4 ⟨rfl, hb4⟩; have H4 := hI ((H3.out.drew.low hb4).leaf 7 ⟨#[]⟩ 4 0 s (by decide) (by omega)); have HK4 := hI (HK3.out.below ((Below.refl _ _).drew.trans hb4) HK3.out.lt); have yt4 := hI (cell2 HK4.out))
           | (go_at_call 170; (refine (HID.out _).mono ?_); rintro e w5 ⟨rfl, hb5⟩; have H5 := hI ((H4.out.low hb5).leaf 1 ⟨#[]⟩ 0 0 ⟨#[]⟩ (by decide) (by decide)); have HK5 := hI (HK4.out.below hb5 HK4.out.lt); have yt5 := hI (cell2 HK5.out))
           | (go_at_call 169; (refine (HFD.out _ _ s hsz (Own.lt H5.out) (H5.out.t (identF, [ι 1, eS, ι 0, ι 0, eS, nL, nL, nL, nL]) mC)).mono ?_); rintro e w6 ⟨c20, c21, c22, c23, c24, c25, c26, c27, c28, rfl, hb6, hl6⟩; obtain ⟨Z2, rfl, rfl, rfl, rfl, rfl, rfl, rfl, rfl, rfl⟩ := fr9 hl6; have H6 := hI (H5.out.maker hb6 hl6); have HK6 := hI (HK5.out.below hb6 HK5.out.lt); have yt6 := hI (cell2 HK6.out); have HR1_6 := hI (H6.out.pbox hg0); have HR2_6 : Hid (Box w6 (W.heap.size + 1) 29 z9) := hI (SZ1.out ▸ H6.out.r.r); obtain ⟨⟨a0, a1, a2, a3, a4, a5, a6, a7, a8⟩, d0, d1, d2, d3, d4, d5, d6, d7, d8⟩ := box9z HR1_6.out; have x0 := box9z HR2_6.out; have hl1_6 := HR1_6.out.lt; have hl2_6 := HR2_6.out.lt; have KA := hI (fun (u0 u1 u2 u3 u4 u5 u6 u7 u8 : Value) => cell2 (HK6.out.far9 (r := W.heap.size) (by omega) u0 u1 u2 u3 u4 u5 u6 u7 u8)); have KB := hI (fun (u0 u1 u2 u3 u4 u5 u6 u7 u8 v0 v1 v2 v3 v4 v5 v6 v7 v8 : Value) => cell2 ((HK6.out.far9 (r := W.heap.size) (by omega) u0 u1 u2 u3 u4 u5 u6 u7 u8).far9 (r := W.heap.size + 1) (by omega) v0 v1 v2 v3 v4 v5 v6 v7 v8))))
         go_wp2_with fail;refine post92 Tryz.results196 rfl rfl rfl ((HR1_6.out.put9z _ _ _ _ _ _ _ _ _).far9 (by omega) _ _ _ _ _ _ _ _ _) ((HR2_6.out.far9 (by omega) _ _ _ _ _ _ _ _ _).put9z _ _ _ _ _ _ _ _ _) ?_;exact H6.out.close2 hg0 hgt0 (by first | exact mC | exact List.mem_cons_of_mem _ mC | exact List.mem_cons_of_mem _ (List.mem_cons_of_mem _ mC) | simp) (by first | exact mC | exact List.mem_cons_of_mem _ mC | exact List.mem_cons_of_mem _ (List.mem_cons_of_mem _ mC) | simp)
    · rw [if_neg hk] at hm;injection hm with hm
      injection hm with h5 h6
      injection h5 with h7 h8
      subst h6; subst h7; subst h8;generalize tk L σ.k = t at HRD HSZ hk3 hk ⊢;generalize readP L σ = τ at HRD HF ⊢;obtain ⟨k, o, s, i⟩ := t;dsimp only at hk3 hk HSZ ⊢;have q3 : ((k : Int) == 3) = false := bF.2 (by omega);have q1 : ((k : Int) == 1) = false := bF.2 (by omega);have q2 : ((k : Int) == 2) = false := bF.2 (by omega);have q6 : ((k : Int) == 6) = false := bF.2 (by omega);clear hA hk3 hk HSZ HTX HVA HID
      go_enter Tryz.func196, Tryz.ntmps196
      go_wp2_with fail;refine (HT.out _ H0.out.r.p).mono ?_;rintro e w1 ⟨rfl, hg1, hp1⟩;have H1 := hI (H0.out.next hg1 hp1);clear hg1 hp1;go_wp2_with fail;refine (HRD.out _ H1.out.r.p).mono ?_;rintro e w2 ⟨rfl, hg2, hp2⟩;have H2 := hI ((H1.out.next hg2 hp2).alloc (.cells #[ι k, ι o, .string s, ι i] 41));have HK2 := hI (Box.laid w2 41 #[ι k, ι o, .string s, ι i]);have hl2 : W.heap.size + 1 < w2.heap.size := by have := H1.out.lt; rw [SZ1.out] at this; have := hg2.size; omega
      clear hg2 hp2;go_wp2_with fail;refine (HF.out ⟨k, o, s, i⟩ _ H2.out.r.p).mono ?_;rintro e w3 ⟨rfl, hg3, hp3⟩;have H3 := hI (((H2.out.next hg3 hp3).leaf 0 ⟨#[]⟩ 0 0 ⟨#[]⟩ (by decide) (by decide)).leaf 0 ⟨#[]⟩ 0 0 ⟨#[]⟩ (by decide) (by decide));clear hg3 hp3;have HR1_3 := hI (H3.out.pbox hg0);have HR2_3 : Hid (Box w3 (W.heap.size + 1) 29 z9) := hI (SZ1.out ▸ H3.out.r.r);obtain ⟨⟨a0, a1, a2, a3, a4, a5, a6, a7, a8⟩, d0, d1, d2, d3, d4, d5, d6, d7, d8⟩ := box9z HR1_3.out;have x0 := box9z HR2_3.out;have hl1_3 := HR1_3.out.lt;have hl2_3 := HR2_3.out.lt;go_wp2_with fail;refine post92 Tryz.results196 rfl rfl rfl ((HR1_3.out.put9z _ _ _ _ _ _ _ _ _).far9 (by omega) _ _ _ _ _ _ _ _ _) ((HR2_3.out.far9 (by omega) _ _ _ _ _ _ _ _ _).put9z _ _ _ _ _ _ _ _ _) ?_;exact H3.out.close2 hg0 hgt0 (by first | exact mC | exact List.mem_cons_of_mem _ mC | simp) (by first | exact mC | exact List.mem_cons_of_mem _ mC | simp)

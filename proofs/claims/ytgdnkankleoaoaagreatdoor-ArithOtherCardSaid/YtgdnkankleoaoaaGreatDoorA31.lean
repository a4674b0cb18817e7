/- union of two objects, over its callees' contracts. -/
import Derived.Test.YtgdnkankleoaoaaGreatDoorA30
import Derived.Test.YtgdnkankleoaoaaGreatDoorA19
import Derived.Deep.RegionHeld3
set_option linter.unusedVariables false
set_option linter.unusedSimpArgs false
namespace Go.Proofs.YtgdnkankleoaoaaGreatDoor
open Go.RowKit Go.Sort
theorem below_drw2 {B : Nat} {w w' : World} (h : Below B w w') : Below B w w'.drew := h.drew
theorem far5 {X : World} {g p : Nat} {t : TypeId} {cs : Array Value} (h : Box X g t cs) (hp : g ≠ p) (r0 r1 r2 r3 r4 : Value) : Box (((((X.setCell ⟨p, 0, none⟩ r0).setCell ⟨p, 1, none⟩ r1).setCell ⟨p, 2, none⟩ r2).setCell ⟨p, 3, none⟩ r3).setCell ⟨p, 4, none⟩ r4) g t cs :=
  ((((h.far (p := ⟨p, 0, none⟩) hp _).far (p := ⟨p, 1, none⟩) hp _).far (p := ⟨p, 2, none⟩) hp _).far (p := ⟨p, 3, none⟩) hp _).far (p := ⟨p, 4, none⟩) hp _
set_option maxHeartbeats 8000000 in
set_option maxRecDepth 100000 in
theorem union_over (k k2 n n2 : Int) (s s2 : ByteArray) (A B A2 B2 : Option Addr) (la a lb b la2 a2 lb2 b2 : Nat) (w : World) (n0 m0 : Nat) (xs ys : List Value) (r : V) (er : Int)
    (hcs : ∀ W g, Below w.heap.size w W → W.cell? ⟨g, 0, none⟩ = some (.slice A la a) → W.cell? ⟨g, 1, none⟩ = some (.slice A2 la2 a2) → Calls Tryz.prog 238 #[.slice (some ⟨g, 0, none⟩) 2 2] W (CatPost W.heap.size 9 1 W n0 xs))
    (hcv : ∀ W g, Below w.heap.size w W → W.cell? ⟨g, 0, none⟩ = some (.slice B lb b) → W.cell? ⟨g, 1, none⟩ = some (.slice B2 lb2 b2) → Calls Tryz.prog 184 #[.slice (some ⟨g, 0, none⟩) 2 2] W (CatPost W.heap.size 25 5 W m0 ys))
    (hob : ∀ W D d E e, Below w.heap.size w W → W.ownsRow w.heap.size 9 1 (.slice D n0 d) n0 xs → W.ownsRow w.heap.size 25 5 (.slice E m0 e) m0 ys → Calls Tryz.prog 174 #[.slice D n0 d, .slice E m0 e] W (RetPost r er W)) :
    Calls Tryz.prog 193 #[.agg #[.int .i64 k, .int .i64 n, .string s, .slice A la a, .slice B lb b], .agg #[.int .i64 k2, .int .i64 n2, .string s2, .slice A2 la2 a2, .slice B2 lb2 b2]] w (RetPost r er w) := by
  have HCS := Lib.hid hcs
  have HCV := Lib.hid hcv
  have HOB := Lib.hid (fun W D d E e hW h1 h2 => ret_open (hob W D d E e hW h1 h2))
  clear hcs hcv hob
  obtain ⟨W0, hW0⟩ : ∃ X, X = (((w.alloc (.cells #[.int .i64 k, .int .i64 n, .string s, .slice A la a, .slice B lb b] 25)).alloc (.cells #[.int .i64 k2, .int .i64 n2, .string s2, .slice A2 la2 a2, .slice B2 lb2 b2] 25)).alloc (.cells #[.int .i64 0, .int .i64 0, .string ⟨#[]⟩, .slice none 0 0, .slice none 0 0] 25)) := ⟨_, rfl⟩
  have H0 : Hid (B3 w #[.int .i64 k, .int .i64 n, .string s, .slice A la a, .slice B lb b] #[.int .i64 k2, .int .i64 n2, .string s2, .slice A2 la2 a2, .slice B2 lb2 b2] W0) := Lib.hid (by rw [hW0]; exact B3.start w _ _)
  have HW0 := Lib.hid hW0
  have hsz : w.heap.size + 1 + 1 < W0.heap.size := H0.out.r.lt
  clear hW0
  have keepS : Hid (∀ X, Below W0.heap.size W0 X → X.cell? ⟨w.heap.size, 3, none⟩ = some (.slice A la a) ∧ X.cell? ⟨w.heap.size, 4, none⟩ = some (.slice B lb b) ∧ X.cell? ⟨w.heap.size + 1, 3, none⟩ = some (.slice A2 la2 a2) ∧ X.cell? ⟨w.heap.size + 1, 4, none⟩ = some (.slice B2 lb2 b2)) := Lib.hid fun X hX => by
    obtain ⟨t0, t1, t2, t3, t4⟩ := box5 (H0.out.x.below hX H0.out.x.lt)
    obtain ⟨y0, y1, y2, y3, y4⟩ := box5 (H0.out.y.below hX H0.out.y.lt)
    exact ⟨t3, t4, y3, y4⟩
  have keepT : Hid (∀ X, Below W0.heap.size W0 X → ∀ r0 r1 r2 r3 r4, (((((X.setCell ⟨w.heap.size + 1 + 1, 0, none⟩ r0).setCell ⟨w.heap.size + 1 + 1, 1, none⟩ r1).setCell ⟨w.heap.size + 1 + 1, 2, none⟩ r2).setCell ⟨w.heap.size + 1 + 1, 3, none⟩ r3).setCell ⟨w.heap.size + 1 + 1, 4, none⟩ r4).cell? ⟨w.heap.size, 3, none⟩ = some (.slice A la a) ∧ (((((X.setCell ⟨w.heap.size + 1 + 1, 0, none⟩ r0).setCell ⟨w.heap.size + 1 + 1, 1, none⟩ r1).setCell ⟨w.heap.size + 1 + 1, 2, none⟩ r2).setCell ⟨w.heap.size + 1 + 1, 3, none⟩ r3).setCell ⟨w.heap.size + 1 + 1, 4, none⟩ r4).cell? ⟨w.heap.size, 4, none⟩ = some (.slice B lb b) ∧ (((((X.setCell ⟨w.heap.size + 1 + 1, 0, none⟩ r0).setCell ⟨w.heap.size + 1 + 1, 1, none⟩ r1).setCell ⟨w.heap.size + 1 + 1, 2, none⟩ r2).setCell ⟨w.heap.size + 1 + 1, 3, none⟩ r3).setCell ⟨w.heap.size + 1 + 1, 4, none⟩ r4).cell? ⟨w.heap.size + 1, 3, none⟩ = some (.slice A2 la2 a2) ∧ (((((X.setCell ⟨w.heap.size + 1 + 1, 0, none⟩ r0).setCell ⟨w.heap.size + 1 + 1, 1, none⟩ r1).setCell ⟨w.heap.size + 1 + 1, 2, none⟩ r2).setCell ⟨w.heap.size + 1 + 1, 3, none⟩ r3).setCell ⟨w.heap.size + 1 + 1, 4, none⟩ r4).cell? ⟨w.heap.size + 1, 4, none⟩ = some (.slice B2 lb2 b2)) := Lib.hid fun X hX r0 r1 r2 r3 r4 => by
    obtain ⟨t0, t1, t2, t3, t4⟩ := box5 (far5 (H0.out.x.below hX H0.out.x.lt) (p := w.heap.size + 1 + 1) (by omega) r0 r1 r2 r3 r4)
    obtain ⟨y0, y1, y2, y3, y4⟩ := box5 (far5 (H0.out.y.below hX H0.out.y.lt) (p := w.heap.size + 1 + 1) (by omega) r0 r1 r2 r3 r4)
    exact ⟨t3, t4, y3, y4⟩
  have k0 : Hid (Below W0.heap.size W0 W0.drew) := Lib.hid (below_drw2 (Below.refl _ _))
  have kA : Hid (Below W0.heap.size W0 (W0.alloc (Obj.cells #[.slice A la a, .slice A2 la2 a2] 22)).drew) := Lib.hid (below_drw2 (below1 _ _))
  have kB : Hid (Below W0.heap.size W0 (W0.alloc (Obj.cells #[.slice B lb b, .slice B2 lb2 b2] 23)).drew) := Lib.hid (below_drw2 (below1 _ _))
  have kC : Hid (Below W0.heap.size W0 ((W0.alloc (Obj.cells #[.slice A la a, .slice A2 la2 a2] 22)).alloc (Obj.cells #[.slice B lb b, .slice B2 lb2 b2] 23)).drew) := Lib.hid (below_drw2 (chain (below1 _ _) (below1 _ _)))
  have kD : Hid (Below W0.heap.size W0 ((W0.alloc (Obj.cells #[.slice B lb b, .slice B2 lb2 b2] 23)).alloc (Obj.cells #[.slice A la a, .slice A2 la2 a2] 22)).drew) := Lib.hid (below_drw2 (chain (below1 _ _) (below1 _ _)))
  have bC : Hid (Box ((W0.alloc (Obj.cells #[.slice A la a, .slice A2 la2 a2] 22)).alloc (Obj.cells #[.slice B lb b, .slice B2 lb2 b2] 23)).drew (W0.heap.size + 1) 23 #[.slice B lb b, .slice B2 lb2 b2]) := Lib.hid (by exact box_at _ _ _ _ (by simp))
  have bD : Hid (Box ((W0.alloc (Obj.cells #[.slice B lb b, .slice B2 lb2 b2] 23)).alloc (Obj.cells #[.slice A la a, .slice A2 la2 a2] 22)).drew W0.heap.size 23 #[.slice B lb b, .slice B2 lb2 b2]) := Lib.hid (by exact (Box.laid _ _ _).alloc _)
  have HB0 := Lib.hid H0.out.below
  have cA := Lib.hid (HCS.out _ W0.heap.size (chain HB0.out kA.out) (by exact lit2_0 W0 _ _ _ _ rfl) (by exact lit2_1 W0 _ _ _ _ rfl))
  have cC := Lib.hid (HCS.out _ W0.heap.size (chain HB0.out kC.out) (by exact ((Box.laid W0 _ _).alloc _).cell rfl) (by exact ((Box.laid W0 _ _).alloc _).cell rfl))
  have cD := Lib.hid (HCS.out _ (W0.heap.size + 1) (chain HB0.out kD.out) (by exact lit2_0 (W0.alloc _) _ _ _ _ (by simp)) (by exact lit2_1 (W0.alloc _) _ _ _ _ (by simp)))
  have cP := Lib.hid (fun W1 (hW : Below W0.heap.size W0 W1) => HCV.out _ W1.heap.size (chain HB0.out (chain hW (below1 W1 (Obj.cells #[.slice B lb b, .slice B2 lb2 b2] 23)))) (by exact lit2_0 W1 _ _ _ _ rfl) (by exact lit2_1 W1 _ _ _ _ rfl))
  go_enter Tryz.func193, Tryz.ntmps193
  go_upto_region 1 with fail
  rw [← HW0.out]
  obtain ⟨t3, t4, y3, y4⟩ := keepS.out W0 (Below.refl _ _)
  go_region_held3 (fun w' => w'.cell? ⟨w.heap.size, 3, none⟩ = some (.slice A la a) ∧ w'.cell? ⟨w.heap.size, 4, none⟩ = some (.slice B lb b) ∧ w'.cell? ⟨w.heap.size + 1, 3, none⟩ = some (.slice A2 la2 a2) ∧ w'.cell? ⟨w.heap.size + 1, 4, none⟩ = some (.slice B2 lb2 b2))
    (first | with_reducible exact keepS.out _ k0.out | with_reducible exact keepS.out _ kA.out | with_reducible exact keepS.out _ kB.out | with_reducible exact keepS.out _ kC.out | with_reducible exact keepS.out _ kD.out | with_reducible exact keepS.out _ hb3 | with_reducible exact keepT.out _ hb3 _ _ _ _ _ | with_reducible exact keepS.out _ hb2 | with_reducible exact keepS.out _ (chain hb1 (below1 _ _)) | with_reducible exact keepS.out _ hb1 | go_keep)
    (first
      | (go_at_call 238; (with_reducible refine cA.out.mono ?_); rintro e1 w1 ⟨v1, rfl, ho1', hb1'⟩; obtain ⟨D, d, rfl, -⟩ := own_open ho1'; have ho1 := own_base2 ho1' (base' := w.heap.size) (fun g hg => by have h1 := (ho1'.lt g hg).1; have h2 := (chain HB0.out kA.out).size; omega); have hb1 := chain kA.out hb1'; clear ho1' hb1')
      | (go_at_call 238; (with_reducible refine cC.out.mono ?_); rintro e1 w1 ⟨v1, rfl, ho1', hb1'⟩; obtain ⟨D, d, rfl, -⟩ := own_open ho1'; have ho1 := own_base2 ho1' (base' := w.heap.size) (fun g hg => by have h1 := (ho1'.lt g hg).1; have h2 := (chain HB0.out kC.out).size; omega); have hb1 := chain kC.out hb1'; have q := bC.out.below hb1' bC.out.lt; have q0 : w1.cell? ⟨W0.heap.size + 1, 0, none⟩ = some (.slice B lb b) := q.cell rfl; have q1 : w1.cell? ⟨W0.heap.size + 1, 1, none⟩ = some (.slice B2 lb2 b2) := q.cell rfl; clear q; clear ho1' hb1')
      | (go_at_call 238; (with_reducible refine cD.out.mono ?_); rintro e1 w1 ⟨v1, rfl, ho1', hb1'⟩; obtain ⟨D, d, rfl, -⟩ := own_open ho1'; have ho1 := own_base2 ho1' (base' := w.heap.size) (fun g hg => by have h1 := (ho1'.lt g hg).1; have h2 := (chain HB0.out kD.out).size; omega); have hb1 := chain kD.out hb1'; have q := bD.out.below hb1' bD.out.lt; have q0 : w1.cell? ⟨W0.heap.size, 0, none⟩ = some (.slice B lb b) := q.cell rfl; have q1 : w1.cell? ⟨W0.heap.size, 1, none⟩ = some (.slice B2 lb2 b2) := q.cell rfl; clear q; clear ho1' hb1')
      | (go_at_call 184; (with_reducible refine (HCV.out _ _ (chain HB0.out hb1) q0 q1).mono ?_); rintro e2 w2 ⟨v2, rfl, ho2', hb2'⟩; obtain ⟨E, e, rfl, -⟩ := own_open ho2'; have ho2 := own_base2 ho2' (base' := w.heap.size) (fun g hg => by have h1 := (ho2'.lt g hg).1; have h2 := (chain HB0.out hb1).size; omega); have hb2 := chain hb1 hb2'; have ho3 := own_below ho1 hb2'; clear ho2' hb2')
      | (go_at_call 184; (with_reducible refine (cP.out _ hb1).mono ?_); rintro e2 w2 ⟨v2, rfl, ho2', hb2'⟩; obtain ⟨E, e, rfl, -⟩ := own_open ho2'; have ho2 := own_base2 ho2' (base' := w.heap.size) (fun g hg => by have h1 := (ho2'.lt g hg).1; have h2 := (chain HB0.out (chain hb1 (below1 _ (Obj.cells #[.slice B lb b, .slice B2 lb2 b2] 23)))).size; omega); have hb2 := chain (chain hb1 (below1 _ _)) hb2'; have ho3 := own_below ho1 (chain (below1 _ _) hb2'); clear ho2' hb2')
      | (go_at_call 174; (with_reducible refine (HOB.out _ _ _ _ _ (chain HB0.out hb2) ho3 ho2).mono ?_); rintro e3 w3 ⟨rk, rn, rs, rks, res, RA, ra, RC, rc, hrv, rfl, hb3', hl3⟩; have hz2 := hb2.size; have hb3 := chain hb2 hb3'; have H3 := Lib.hid (H0.out.next hb3); obtain ⟨r0, r1, r2, r3, r4⟩ := box5 H3.out.r; have z0 := H3.out.r.free 0; have z1 := H3.out.r.free 1; have z2 := H3.out.r.free 2; have z3 := H3.out.r.free 3; have z4 := H3.out.r.free 4; clear hb3'))
  all_goals clear t3 t4 y3 y4
  all_goals (go_wp2_with fail)
  all_goals (refine bodyPost_ret (v := .tuple #[.agg #[.int .i64 rk, .int .i64 rn, .string rs, .slice RA rks.length ra, .slice RC res.length rc], .int .i64 er]) (by simp [results, Tryz.results193, go_sem, r0, r1, r2, r3, r4]) rfl ?_)
  all_goals exact ret_put H3.out.below (by omega) H3.out.r.lt (hl3.move fun b hb => ⟨⟨by omega, hb.2, by omega⟩, rfl⟩)
end Go.Proofs.YtgdnkankleoaoaaGreatDoor

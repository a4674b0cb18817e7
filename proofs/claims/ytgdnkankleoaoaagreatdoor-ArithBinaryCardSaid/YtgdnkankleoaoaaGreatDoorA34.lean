/- Binary at the product and the difference, over the callee. arith.subtract on any two valid values, and Binary at "-". arith.stringArray. -/
import Derived.Test.YtgdnkankleoaoaaGreatDoorA32
import Derived.Test.YtgdnkankleoaoaaGreatDoorA21
import Derived.Test.YtgdnkankleoaoaaGreatDoorA33
import Derived.Laws.MakeOwn
set_option linter.unusedVariables false
set_option linter.unusedSimpArgs false
namespace Go.Proofs.YtgdnkankleoaoaaGreatDoor
open Go.RowKit Go.Sort
theorem below_five_m {w0 w : World} {B : Nat} (hB : w0.heap.size ≤ B) (h : Below w0.heap.size w0 w) (a b c d e : Value) :
    Below w0.heap.size w0 (((((w.setCell ⟨B, 0, none⟩ a).setCell ⟨B, 1, none⟩ b).setCell ⟨B, 2, none⟩ c).setCell ⟨B, 3, none⟩ d).setCell ⟨B, 4, none⟩ e) :=
  (((((h.setCell (by simpa using hB) _).setCell (by simpa using hB) _).setCell (by simpa using hB) _).setCell (by simpa using hB) _).setCell (by simpa using hB) _)
set_option maxHeartbeats 1000000 in
set_option maxRecDepth 100000 in
theorem bin_mulm (v u : V) (cs ds : List Value) (w : World) (h : Lies w (· < w.heap.size) v cs) (h' : Lies w (· < w.heap.size) u ds) (hv : valid v = true) (hu : valid u = true) (r : V) (er : Int)
    (hc : ∀ W, Below w.heap.size w W → Calls Tryz.prog 108 #[.agg cs.toArray, .agg ds.toArray] W (RetPost r er W)) :
    Calls Tryz.prog 14 #[.string ⟨#[42]⟩, .agg cs.toArray, .agg ds.toArray] w (RetPost r er w) := by
  have HV := Lib.hid (fun W (hW : Below w.heap.size w W) => valid_any v cs W (below_lies hW h))
  have HU := Lib.hid (fun W (hW : Below w.heap.size w W) => valid_any u ds W (below_lies hW h'))
  rw [hv] at HV
  rw [hu] at HU
  obtain ⟨k, n, s, ks, es⟩ := v
  obtain ⟨A, a, B, b, xs, rfl, _⟩ := lies_open h
  obtain ⟨k2, n2, s2, ks2, es2⟩ := u
  obtain ⟨A2, a2, B2, b2, xs2, rfl, _⟩ := lies_open h'
  have HC := Lib.hid (fun W hW => ret_open (hc W hW))
  clear h h' hv hu hc
  generalize ks.length = l1 at *
  generalize es.length = l2 at *
  generalize ks2.length = l3 at *
  generalize es2.length = l4 at *
  show Calls _ _ #[_, .agg #[.int .i64 k, .int .i64 n, .string s, .slice A l1 a, .slice B l2 b], .agg #[.int .i64 k2, .int .i64 n2, .string s2, .slice A2 l3 a2, .slice B2 l4 b2]] w _
  have H0 := Lib.hid (B3.start w #[.int .i64 k, .int .i64 n, .string s, .slice A l1 a, .slice B l2 b] #[.int .i64 k2, .int .i64 n2, .string s2, .slice A2 l3 a2, .slice B2 l4 b2])
  go_enter Tryz.func14, Tryz.ntmps14
  go_wp2_with fail
  refine (HV.out _ H0.out.below).mono ?_
  rintro e1 w1 ⟨rfl, hb1⟩
  have H1 := Lib.hid (H0.out.next hb1)
  obtain ⟨y0, y1, y2, y3, y4⟩ := box5 H1.out.y
  clear hb1 H0
  go_wp2_with fail
  refine (HU.out _ H1.out.below).mono ?_
  rintro e2 w2 ⟨rfl, hb2⟩
  have H2 := Lib.hid (H1.out.next hb2)
  clear hb2 H1 y0 y1 y2 y3 y4
  obtain ⟨x0, x1, x2, x3, x4⟩ := box5 H2.out.x
  obtain ⟨y0, y1, y2, y3, y4⟩ := box5 H2.out.y
  go_wp2_with fail
  refine (HC.out _ H2.out.below).mono ?_
  rintro e3 w3 ⟨rk, rn, rs, rks, res, RA, ra, RC, rc, hrv, rfl, hb3, hl3⟩
  have H3 := Lib.hid (H2.out.next hb3)
  have HL := Lib.hid hl3
  have hs2 := H2.out.r.lt
  have hs3 := H2.out.below.size
  clear hb3 x0 x1 x2 x3 x4 y0 y1 y2 y3 y4 hl3 hrv
  obtain ⟨t0, t1, t2, t3, t4⟩ := box5 H3.out.r
  have z0 := H3.out.r.free 0
  have z1 := H3.out.r.free 1
  have z2 := H3.out.r.free 2
  have z3 := H3.out.r.free 3
  have z4 := H3.out.r.free 4
  go_wp2_with fail
  refine bodyPost_ret (v := .tuple #[.agg #[.int .i64 rk, .int .i64 rn, .string rs, .slice RA rks.length ra, .slice RC res.length rc], .int .i64 er]) (by simp [results, Tryz.results14, go_sem, t0, t1, t2, t3, t4]) rfl ?_
  exact ret_put H3.out.below (by omega) H3.out.r.lt (HL.out.move fun b hb => ⟨⟨by omega, hb.2, by omega⟩, rfl⟩)
set_option maxHeartbeats 1000000 in
set_option maxRecDepth 100000 in
theorem bin_subm (v u : V) (cs ds : List Value) (w : World) (h : Lies w (· < w.heap.size) v cs) (h' : Lies w (· < w.heap.size) u ds) (hv : valid v = true) (hu : valid u = true) (r : V) (er : Int)
    (hc : ∀ W, Below w.heap.size w W → Calls Tryz.prog 107 #[.agg cs.toArray, .agg ds.toArray] W (RetPost r er W)) :
    Calls Tryz.prog 14 #[.string ⟨#[45]⟩, .agg cs.toArray, .agg ds.toArray] w (RetPost r er w) := by
  have HV := Lib.hid (fun W (hW : Below w.heap.size w W) => valid_any v cs W (below_lies hW h))
  have HU := Lib.hid (fun W (hW : Below w.heap.size w W) => valid_any u ds W (below_lies hW h'))
  rw [hv] at HV
  rw [hu] at HU
  obtain ⟨k, n, s, ks, es⟩ := v
  obtain ⟨A, a, B, b, xs, rfl, _⟩ := lies_open h
  obtain ⟨k2, n2, s2, ks2, es2⟩ := u
  obtain ⟨A2, a2, B2, b2, xs2, rfl, _⟩ := lies_open h'
  have HC := Lib.hid (fun W hW => ret_open (hc W hW))
  clear h h' hv hu hc
  generalize ks.length = l1 at *
  generalize es.length = l2 at *
  generalize ks2.length = l3 at *
  generalize es2.length = l4 at *
  show Calls _ _ #[_, .agg #[.int .i64 k, .int .i64 n, .string s, .slice A l1 a, .slice B l2 b], .agg #[.int .i64 k2, .int .i64 n2, .string s2, .slice A2 l3 a2, .slice B2 l4 b2]] w _
  have H0 := Lib.hid (B3.start w #[.int .i64 k, .int .i64 n, .string s, .slice A l1 a, .slice B l2 b] #[.int .i64 k2, .int .i64 n2, .string s2, .slice A2 l3 a2, .slice B2 l4 b2])
  go_enter Tryz.func14, Tryz.ntmps14
  go_wp2_with fail
  refine (HV.out _ H0.out.below).mono ?_
  rintro e1 w1 ⟨rfl, hb1⟩
  have H1 := Lib.hid (H0.out.next hb1)
  obtain ⟨y0, y1, y2, y3, y4⟩ := box5 H1.out.y
  clear hb1 H0
  go_wp2_with fail
  refine (HU.out _ H1.out.below).mono ?_
  rintro e2 w2 ⟨rfl, hb2⟩
  have H2 := Lib.hid (H1.out.next hb2)
  clear hb2 H1 y0 y1 y2 y3 y4
  obtain ⟨x0, x1, x2, x3, x4⟩ := box5 H2.out.x
  obtain ⟨y0, y1, y2, y3, y4⟩ := box5 H2.out.y
  go_wp2_with fail
  refine (HC.out _ H2.out.below).mono ?_
  rintro e3 w3 ⟨rk, rn, rs, rks, res, RA, ra, RC, rc, hrv, rfl, hb3, hl3⟩
  have H3 := Lib.hid (H2.out.next hb3)
  have HL := Lib.hid hl3
  have hs2 := H2.out.r.lt
  have hs3 := H2.out.below.size
  clear hb3 x0 x1 x2 x3 x4 y0 y1 y2 y3 y4 hl3 hrv
  obtain ⟨t0, t1, t2, t3, t4⟩ := box5 H3.out.r
  have z0 := H3.out.r.free 0
  have z1 := H3.out.r.free 1
  have z2 := H3.out.r.free 2
  have z3 := H3.out.r.free 3
  have z4 := H3.out.r.free 4
  go_wp2_with fail
  refine bodyPost_ret (v := .tuple #[.agg #[.int .i64 rk, .int .i64 rn, .string rs, .slice RA rks.length ra, .slice RC res.length rc], .int .i64 er]) (by simp [results, Tryz.results14, go_sem, t0, t1, t2, t3, t4]) rfl ?_
  exact ret_put H3.out.below (by omega) H3.out.r.lt (HL.out.move fun b hb => ⟨⟨by omega, hb.2, by omega⟩, rfl⟩)
end Go.Proofs.YtgdnkankleoaoaaGreatDoor
namespace Go.Proofs.YtgdnkankleoaoaaGreatDoor
open Go.RowKit Go.Shelf Go.Sort
/-- The elements that are equal to none of the others. -/
def minus (es gs : List V) : List V := es.filter fun v => !gs.any fun u => decide (vcmp u v = 0)
theorem kept_fst : ∀ (gone l : List (V × Fv)), (keptL gone l).map Prod.fst = minus (l.map Prod.fst) (gone.map Prod.fst) := by
  intro gone l
  unfold keptL minus goneB
  induction l with
  | nil => rfl
  | cons p r ih =>
    rw [List.map_cons, List.filter_cons, List.filter_cons, List.any_map]
    by_cases h : (gone.any fun q => decide (vcmp q.1 p.1 = 0)) = true
    · rw [if_neg (by rw [h]; simp), if_neg (by show ¬ (!(gone.any fun q => decide (vcmp q.1 p.1 = 0))) = true; rw [h]; simp)]
      exact ih
    · rw [if_pos (by simpa using h), if_pos (by show (!(gone.any fun q => decide (vcmp q.1 p.1 = 0))) = true; simpa using h), List.map_cons, ih]
theorem liesL_of {w : World} {S : Nat → Prop} : ∀ (l : List (V × Fv)), (∀ p ∈ l, Lies w S p.1 p.2.cs) → LiesL w S (l.map Prod.fst) ((l.map Prod.snd).flatMap Fv.cs)
  | [], _ => by rw [List.map_nil, LiesL]; rfl
  | p :: r, h => by
    rw [List.map_cons, LiesL]
    exact ⟨p.2.cs, _, rfl, h p (by simp), liesL_of r fun q hq => h q (by simp [hq])⟩
set_option maxHeartbeats 4000000 in
set_option maxRecDepth 100000 in
theorem sub_num (n n2 : Int) (s s2 : ByteArray) (A B A2 B2 : Option Addr) (la a lb b la2 a2 lb2 b2 : Nat) (w : World) :
    Calls Tryz.prog 107 #[.agg #[.int .i64 3, .int .i64 n, .string s, .slice A la a, .slice B lb b], .agg #[.int .i64 3, .int .i64 n2, .string s2, .slice A2 la2 a2, .slice B2 lb2 b2]] w (RetPost (numV (wrap64 (n - n2))) 0 w) := by
  have EQ := eq_pair
  have hn := Lib.hid (fun (n : Int) W => num_any n W)
  have H0 := Lib.hid (B3.start w #[.int .i64 3, .int .i64 n, .string s, .slice A la a, .slice B lb b] #[.int .i64 3, .int .i64 n2, .string s2, .slice A2 la2 a2, .slice B2 lb2 b2])
  go_enter Tryz.func107, Tryz.ntmps107
  go_wp2_with fail
  refine (hn.out _ _).mono ?_
  rintro e1 w1 ⟨rfl, hb1⟩
  have H1 := Lib.hid (H0.out.next hb1)
  obtain ⟨t0, t1, t2, t3, t4⟩ := box5 H1.out.r
  have z0 := H1.out.r.free 0
  have z1 := H1.out.r.free 1
  have z2 := H1.out.r.free 2
  have z3 := H1.out.r.free 3
  have z4 := H1.out.r.free 4
  clear hb1
  go_wp2_with fail
  refine bodyPost_ret (v := .tuple #[.agg #[.int .i64 3, .int .i64 (wrap64 (n - n2)), .string ⟨#[]⟩, .slice none 0 0, .slice none 0 0], .int .i64 0]) (by simp [results, Tryz.results107, go_sem, t0, t1, t2, t3, t4]) rfl ?_
  exact ret_put H1.out.below (by omega) H1.out.r.lt (lies_numv _ _ _)
set_option maxHeartbeats 4000000 in
set_option maxRecDepth 100000 in
theorem sub_arr (n n2 : Int) (s s2 : ByteArray) (A B A2 B2 : Option Addr) (la a lb b la2 a2 lb2 b2 : Nat) (w : World) (kl : List (V × Fv)) (r : V) (er : Int)
    (hwo : ∀ W, Below w.heap.size w W → Calls Tryz.prog 194 #[.slice B lb b, .slice B2 lb2 b2] W (RowOf W.heap.size kl W))
    (hc : ∀ W D d, Below w.heap.size w W → W.ownsRow w.heap.size 25 5 (.slice D kl.length d) kl.length ((kl.map Prod.snd).flatMap Fv.cs) → Calls Tryz.prog 192 #[.slice D kl.length d] W (RetPost r er W)) :
    Calls Tryz.prog 107 #[.agg #[.int .i64 5, .int .i64 n, .string s, .slice A la a, .slice B lb b], .agg #[.int .i64 5, .int .i64 n2, .string s2, .slice A2 la2 a2, .slice B2 lb2 b2]] w (RetPost r er w) := by
  have EQ := eq_pair
  have HC := Lib.hid (fun W D d hW ho => ret_open (hc W D d hW ho))
  have HCat := Lib.hid hwo
  have H0 := Lib.hid (B3.start w #[.int .i64 5, .int .i64 n, .string s, .slice A la a, .slice B lb b] #[.int .i64 5, .int .i64 n2, .string s2, .slice A2 la2 a2, .slice B2 lb2 b2])
  clear hc hwo
  go_enter Tryz.func107, Tryz.ntmps107
  go_wp2_with fail
  refine (HCat.out _ H0.out.below).mono ?_
  rintro e1 w1 ⟨v1, rfl, ho, hb1⟩
  obtain ⟨D, d, rfl⟩ := own_sl ho
  have H1 := Lib.hid (H0.out.next hb1)
  have HO := Lib.hid (ownsRow_baseV ho H0.out.below.size)
  clear hb1 ho
  go_wp2_with fail
  refine (HC.out _ _ _ H1.out.below HO.out).mono ?_
  rintro e2 w2 ⟨rk, rn, rs, rks, res, RA, ra, RC, rc, hrv, rfl, hb2, hl2⟩
  have H2 := Lib.hid (H1.out.next hb2)
  have HL := Lib.hid hl2
  have hs2 := H1.out.r.lt
  have hs3 := H1.out.below.size
  clear hb2 hl2 hrv
  obtain ⟨t0, t1, t2, t3, t4⟩ := box5 H2.out.r
  have z0 := H2.out.r.free 0
  have z1 := H2.out.r.free 1
  have z2 := H2.out.r.free 2
  have z3 := H2.out.r.free 3
  have z4 := H2.out.r.free 4
  go_wp2_with fail
  refine bodyPost_ret (v := .tuple #[.agg #[.int .i64 rk, .int .i64 rn, .string rs, .slice RA rks.length ra, .slice RC res.length rc], .int .i64 er]) (by simp [results, Tryz.results107, go_sem, t0, t1, t2, t3, t4]) rfl ?_
  exact ret_put H2.out.below (by omega) H2.out.r.lt (HL.out.move fun b hb => ⟨⟨by omega, hb.2, by omega⟩, rfl⟩)
set_option maxHeartbeats 4000000 in
set_option maxRecDepth 100000 in
theorem sub_type (k k2 : Int) (h3 : ¬ (k = 3 ∧ k2 = 3)) (h5 : ¬ (k = 5 ∧ k2 = 5)) (n n2 : Int) (s s2 : ByteArray) (A B A2 B2 : Option Addr) (la a lb b la2 a2 lb2 b2 : Nat) (w : World) :
    Calls Tryz.prog 107 #[.agg #[.int .i64 k, .int .i64 n, .string s, .slice A la a, .slice B lb b], .agg #[.int .i64 k2, .int .i64 n2, .string s2, .slice A2 la2 a2, .slice B2 lb2 b2]] w (RetPost vnull 12 w) := by
  have q3 : (k == 3 && k2 == 3) = false := by simpa using h3
  have q5 : (k == 5 && k2 == 5) = false := by simpa using h5
  have EQ := eq_pair
  clear h3 h5
  have H1 := Lib.hid (B3.start w #[.int .i64 k, .int .i64 n, .string s, .slice A la a, .slice B lb b] #[.int .i64 k2, .int .i64 n2, .string s2, .slice A2 la2 a2, .slice B2 lb2 b2])
  go_enter Tryz.func107, Tryz.ntmps107
  go_wp2_with fail
  refine bodyPost_ret (v := .tuple #[.agg #[.int .i64 0, .int .i64 0, .string ⟨#[]⟩, .slice none 0 0, .slice none 0 0], .int .i64 12]) (by simp [results, Tryz.results107, go_sem]) rfl ?_
  exact ret_of (ds := [.int .i64 0, .int .i64 0, .string ⟨#[]⟩, .slice none 0 0, .slice none 0 0]) H1.out.below (lies_null _ _)
/-- What '-' is on valid values. -/
def subR : V → V → V × Int
  | .mk k n _ _ es, .mk k2 n2 _ _ es2 => if k = 3 ∧ k2 = 3 then (numV (wrap64 (n - n2)), 0) else if k = 5 ∧ k2 = 5 then lim (arrV (minus es es2)) else (vnull, 12)
theorem minus_all {es gs : List V} (h : es.all valid = true) : (minus es gs).all valid = true := by
  rw [List.all_eq_true] at h ⊢
  intro x hx
  exact h x (List.mem_filter.1 hx).1
theorem subv_any (v u : V) (cs ds : List Value) (w : World) (h : Lies w (· < w.heap.size) v cs) (h' : Lies w (· < w.heap.size) u ds) (hv : valid v = true) (hu : valid u = true) :
    Calls Tryz.prog 107 #[.agg cs.toArray, .agg ds.toArray] w (RetPost (subR v u).1 (subR v u).2 w) := by
  obtain ⟨k, n, s, ks, es⟩ := v
  obtain ⟨k2, n2, s2, ks2, es2⟩ := u
  have h0 := h
  rw [Lies] at h0
  obtain ⟨⟨b1, b2, b3, b4⟩, A, a, B, b, xs, rfl, hA0, hB0, ⟨ha1, ha2⟩, ⟨hb1, hb2⟩, hA, hB, hL⟩ := h0
  have h1 := h'
  rw [Lies] at h1
  obtain ⟨⟨d1, d2, d3, d4⟩, A2, a2, B2, b2', ys, rfl, hA20, hB20, ⟨hc1, hc2⟩, ⟨hd1, hd2⟩, hA2, hB2, hL2⟩ := h1
  have hp := valid_parts hv
  have hp2 := valid_parts hu
  have hel := valid_elems hv
  have hel2 := valid_elems hu
  have hsub : subR (V.mk k n s ks es) (V.mk k2 n2 s2 ks2 es2) = if k = 3 ∧ k2 = 3 then (numV (wrap64 (n - n2)), 0) else if k = 5 ∧ k2 = 5 then lim (arrV (minus es es2)) else (vnull, 12) := rfl
  rw [hsub]
  clear hsub
  by_cases c3 : k = 3 ∧ k2 = 3
  · rw [if_pos c3]
    obtain ⟨rfl, rfl⟩ := c3
    exact sub_num n n2 s s2 A B A2 B2 _ a _ b _ a2 _ b2' w
  rw [if_neg c3]
  by_cases c5 : k = 5 ∧ k2 = 5
  · rw [if_pos c5]
    obtain ⟨rfl, rfl⟩ := c5
    obtain ⟨l, rfl, rfl, hll⟩ := liesL_fv es xs hL
    obtain ⟨g, rfl, rfl, hgl⟩ := liesL_fv es2 ys hL2
    rw [List.length_map, List.length_map]
    rw [List.length_map] at hp hp2
    rw [List.all_map, List.all_eq_true] at hel hel2
    refine sub_arr n n2 s s2 A B A2 B2 _ a _ b _ a2 _ b2' w (keptL g l) _ _ (fun W hW => ?_) (fun W D d hW ho => ?_)
    · exact without_any B B2 b b2' l g W (hB.move fun x hx => ⟨Nat.lt_of_lt_of_le hx hW.size, hW.block x hx⟩) hB0 (((rs_row hB2).below hW (Nat.le_refl _)).mono hW.size)
        (fun p hp => ⟨(hll p hp).move fun x hx => ⟨Nat.lt_of_lt_of_le hx hW.size, hW.block x hx⟩, hel p hp⟩) (fun p hp => ⟨(hgl p hp).move fun x hx => ⟨Nat.lt_of_lt_of_le hx hW.size, hW.block x hx⟩, hel2 p hp⟩) (by omega) (by omega)
    · obtain ⟨D', d', he, hdn, hdl, hdm, hrs⟩ := own_open ho
      cases he
      have hle : (keptL g l).length ≤ l.length := List.length_filter_le _ _
      have hall : (minus (l.map Prod.fst) (g.map Prod.fst)).all valid = true := minus_all (by rw [List.all_map, List.all_eq_true]; exact hel)
      have hfl : (minus (l.map Prod.fst) (g.map Prod.fst)).length = (keptL g l).length := by rw [← kept_fst, List.length_map]
      have := arr_any (minus (l.map Prod.fst) (g.map Prod.fst)) D d _ W ⟨⟨hrs.move fun x hx => ⟨hx.2.1, rfl⟩, by rw [← kept_fst]; exact liesL_of _ fun p hp => (hll p (List.mem_filter.1 hp).1).move fun x hx => ⟨Nat.lt_of_lt_of_le hx hW.size, hW.block x hx⟩⟩, hdn, by rw [hfl]; exact hdl, hdm, by rw [hfl]; omega⟩
      rw [(arrR_ok hall).1, (arrR_ok hall).2, hfl] at this
      exact this
  rw [if_neg c5]
  exact sub_type k k2 c3 c5 n n2 s s2 A B A2 B2 _ a _ b _ a2 _ b2' w
/-- Binary at "-". -/
theorem bin_sub (v u : V) (cs ds : List Value) (w : World) (h : Lies w (· < w.heap.size) v cs) (h' : Lies w (· < w.heap.size) u ds) (hv : valid v = true) (hu : valid u = true) :
    Calls Tryz.prog 14 #[.string ⟨#[45]⟩, .agg cs.toArray, .agg ds.toArray] w (RetPost (subR v u).1 (subR v u).2 w) :=
  bin_subm v u cs ds w h h' hv hu _ _ fun W hW => subv_any v u cs ds W (below_lies hW h) (below_lies hW h') hv hu
end Go.Proofs.YtgdnkankleoaoaaGreatDoor
namespace Go.Proofs.YtgdnkankleoaoaaGreatDoor
open Go.RowKit Go.Shelf Go.Sort
def zl : Nat → List Value
  | 0 => []
  | n + 1 => [.int .i64 0, .int .i64 0, .string ⟨#[]⟩, .slice none 0 0, .slice none 0 0] ++ zl n
theorem zl_len : ∀ n, (zl n).length = n * 5
  | 0 => rfl
  | n + 1 => by rw [zl, List.length_append, zl_len n]; simp; omega
theorem zl_get : ∀ (n j : Nat), j < n * 5 → (zl n)[j]? = ([Value.int .i64 0, .int .i64 0, .string ⟨#[]⟩, .slice none 0 0, .slice none 0 0] : List Value)[j % 5]?
  | 0, j, h => by omega
  | n + 1, j, h => by
    rw [zl]
    by_cases hj : j < 5
    · rw [List.getElem?_append_left (by simpa using hj), Nat.mod_eq_of_lt hj]
    · rw [List.getElem?_append_right (by simp; omega), zl_get n _ (by simp; omega)]
      congr 1
      simp
      omega
set_option maxRecDepth 100000 in
theorem made_nulls (n : Nat) (hn : n ≤ 1000000) : ∀ W, (Instr.makeSlice 23 (.int .i64 (n : Int)) (.int .i64 (n : Int))).run Tryz.prog W = .ok (.slice (some ⟨W.heap.size, 0, none⟩) n n) (W.alloc (.cells (zl n).toArray 25)) := by
  obtain ⟨i, hi, hz, hs, hb⟩ := info_parts inf_value
  intro W
  have := run_make W 23 25 i zeroVal Tryz.underlying23 hi hz .i64 .i64 n n (by omega) (by omega) (by rw [hb]; omega) (by omega)
  rw [hs] at this
  have hC : madeCells zeroVal.cells (n * 5) = (zl n).toArray := by
    refine Array.ext (by simp [madeCells, zl_len]) fun j h1 h2 => ?_
    have hj : j < n * 5 := by simpa [madeCells] using h1
    have hm : j % 5 < 5 := Nat.mod_lt _ (by omega)
    have hz2 := zl_get n j hj
    have : (madeCells zeroVal.cells (n * 5))[j] = ([Value.int .i64 0, .int .i64 0, .string ⟨#[]⟩, .slice none 0 0, .slice none 0 0] : List Value)[j % 5] := by
      simp only [madeCells, zeroVal, Value.cells]
      simp
      rw [List.getElem?_eq_getElem hm, Option.getD_some]
    rw [this]
    rw [List.getElem?_eq_getElem (by rw [zl_len]; exact hj), List.getElem?_eq_getElem hm] at hz2
    injection hz2 with hz2
    rw [← hz2]
    simp
  simp only [Int.toNat_natCast] at this
  rw [hC] at this
  exact this
/-- The cells of a string as a value. -/
def strF (s : ByteArray) : Fv := ⟨4, 0, s, none, 0, 0, none, 0, 0⟩
theorem zl_flat : ∀ n, zl n = (List.replicate n fvZero).flatMap Fv.cs
  | 0 => rfl
  | n + 1 => by
    rw [List.replicate_succ, List.flatMap_cons, ← zl_flat n]
    rfl
/-- Between two rounds. -/
structure SaSt (g n : Nat) (ps : List ByteArray) (w0 w : World) (i : Nat) (ys : List Fv) : Prop where
  own : w.ownsRow w0.heap.size 25 5 (.slice (some ⟨g, 0, none⟩) n n) n (ys.flatMap Fv.cs)
  len : ys.length = n
  head : ys.take i = (ps.take i).map strF
  res : Box w w0.heap.size 25 #[.int .i64 0, .int .i64 0, .string ⟨#[]⟩, .slice none 0 0, .slice none 0 0]
  ne : w0.heap.size < g
  below : Below w0.heap.size w0 w
theorem SaSt.put {g n i : Nat} {ps : List ByteArray} {w0 w : World} {ys : List Fv} {s : ByteArray} (h : SaSt g n ps w0 w i ys) (hs : ps[i]? = some s) (hi : i < n) :
    SaSt g n ps w0 (((((w.setCell ⟨g, i * 5, none⟩ (.int .i64 4)).setCell ⟨g, i * 5 + 1, none⟩ (.int .i64 0)).setCell ⟨g, i * 5 + 2, none⟩ (.string s)).setCell ⟨g, i * 5 + 3, none⟩ (.slice none 0 0)).setCell ⟨g, i * 5 + 4, none⟩ (.slice none 0 0)) (i + 1) (ys.set i (strF s)) := by
  have hl := h.len
  have hg : w0.heap.size ≤ g := Nat.le_of_lt h.ne
  have hne : w0.heap.size ≠ g := Nat.ne_of_lt h.ne
  refine ⟨?_, by rw [List.length_set]; exact hl, ?_, ((((h.res.far hne _).far hne _).far hne _).far hne _).far hne _, h.ne, ((((h.below.setCell hg _).setCell hg _).setCell hg _).setCell hg _).setCell hg _⟩
  · rw [← flat_set (strF s) ys i (by omega)]
    exact own_set (own_set (own_set (own_set (own_set h.own (i := i * 5) (by omega) _) (i := i * 5 + 1) (by omega) _) (i := i * 5 + 2) (by omega) _) (i := i * 5 + 3) (by omega) _) (i := i * 5 + 4) (by omega) _
  · rw [List.take_add_one, List.getElem?_set_self (by omega), List.take_set_of_le (Nat.le_refl _), h.head, List.take_add_one, hs, List.map_append]
    rfl
theorem SaSt.free {g n i : Nat} {ps : List ByteArray} {w0 w : World} {ys : List Fv} (h : SaSt g n ps w0 w i ys) (k : Nat) : w.frozen? ⟨g, k, none⟩ = false := by
  rcases h.own.2 with ⟨h0, _⟩ | ⟨g', cap', cur, hv, hbg, hgg, _⟩
  · cases h0
  · cases hv
    exact (show Box w g _ cur from hgg).free k
theorem SaSt.there {g n i : Nat} {ps : List ByteArray} {w0 w : World} {ys : List Fv} (h : SaSt g n ps w0 w i ys) (k : Nat) (hk : k < n * 5) : ∃ u, w.cell? ⟨g, k, none⟩ = some u := by
  have h1 := h.own.1
  rw [h.own.cellAt k hk]
  exact ⟨_, List.getElem?_eq_getElem (by omega)⟩
set_option maxHeartbeats 4000000 in
set_option maxRecDepth 100000 in
theorem strArr_any (A : Option Addr) (c n : Nat) (ps : List ByteArray) (w : World) (hA : Rs w (· < w.heap.size) A (kv ps)) (hn : ps.length = n) (hps : n ≤ 1000000) (hsz : ∀ s ∈ ps, s.size ≤ 140737488355328) :
    Calls Tryz.prog 196 #[.slice A n c] w (RetPost (arrR (ps.map strV)) (arrE (ps.map strV)) w) := by
  have hmk := made_nulls n hps
  have HA := Lib.hid hA
  have HN := Lib.hid hn
  have HZ := Lib.hid hsz
  clear hA hn hsz
  go_enter Tryz.func196, Tryz.ntmps196
  go_wp2_with fail
  obtain ⟨w1, hw1⟩ : ∃ X, X = (w.alloc (.cells #[.int .i64 0, .int .i64 0, .string ⟨#[]⟩, .slice none 0 0, .slice none 0 0] 25)).alloc (.cells (zl n).toArray 25) := ⟨_, rfl⟩
  have HS : Hid (SaSt (w.heap.size + 1) n ps w w1 0 (List.replicate n fvZero)) := Lib.hid (by
    refine ⟨⟨by rw [flat_len, List.length_replicate], .inr ⟨w.heap.size + 1, n, (zl n).toArray, rfl, by omega, ?_, Nat.le_refl _, by unfold maxLen; omega, by rw [List.size_toArray, zl_flat, flat_len, List.length_replicate], ?_⟩⟩, List.length_replicate, rfl, ?_, by omega, ?_⟩
    · rw [hw1]
      have := Box.laid (w.alloc (.cells #[.int .i64 0, .int .i64 0, .string ⟨#[]⟩, .slice none 0 0, .slice none 0 0] 25)) 25 (zl n).toArray
      have e : (w.alloc (.cells #[.int .i64 0, .int .i64 0, .string ⟨#[]⟩, .slice none 0 0, .slice none 0 0] 25)).heap.size = w.heap.size + 1 := by simp
      rw [e] at this
      exact this
    · rw [List.toList_toArray, ← zl_flat, List.take_of_length_le (by rw [zl_flat, flat_len, List.length_replicate]; exact Nat.le_refl _)]
    · rw [hw1]; exact (Box.laid w _ _).alloc _
    · rw [hw1]; exact ((Go.RowKit.Below.refl _ w).alloc (Nat.le_refl _) _).alloc (by simp) _)
  rw [← hw1]
  clear hw1 hmk
  go_loopg [5, 6, 12] n (fun gg _ _ s12 wr => ∃ (i : Nat) (ys : List Fv), s12 = .int .i64 i ∧ i ≤ n ∧ n - i ≤ gg ∧ Hid (SaSt (w.heap.size + 1) n ps w wr i ys))
  case atStart => exact ⟨0, _, rfl, Nat.zero_le _, by omega, HS⟩
  case round =>
    clear HS
    obtain ⟨i, ys, rfl, hin, hg, HS⟩ := hrel
    by_cases hlt : i < n
    · obtain ⟨s, hs⟩ : ∃ s, ps[i]? = some s := ⟨_, List.getElem?_eq_getElem (by rw [HN.out]; exact hlt)⟩
      obtain ⟨b, o, rfl, hb, hc⟩ := HA.out.at_ (j := i) (u := .string s) (by simp [kv, hs])
      have hcr := (HS.out.below.cell (p := ⟨b, o + i, none⟩) hb).trans hc
      have hi0 : (0 : Int) ≤ (i : Int) := by omega
      have hil : (i : Int) < (n : Int) := by omega
      obtain ⟨y0, hy0⟩ := HS.out.there (i * 5) (by omega)
      obtain ⟨y1, hy1⟩ := HS.out.there (i * 5 + 1) (by omega)
      obtain ⟨y2, hy2⟩ := HS.out.there (i * 5 + 2) (by omega)
      obtain ⟨y3, hy3⟩ := HS.out.there (i * 5 + 3) (by omega)
      obtain ⟨y4, hy4⟩ := HS.out.there (i * 5 + 4) (by omega)
      have z0 := HS.out.free (i * 5)
      have z1 := HS.out.free (i * 5 + 1)
      have z2 := HS.out.free (i * 5 + 2)
      have z3 := HS.out.free (i * 5 + 3)
      have z4 := HS.out.free (i * 5 + 4)
      have HD3 := HS.out.put hs hlt
      clear hs hb hc
      go_wp2_with fail
      generalize (((((wr.setCell ⟨w.heap.size + 1, i * 5, none⟩ (.int .i64 4)).setCell ⟨w.heap.size + 1, i * 5 + 1, none⟩ (.int .i64 0)).setCell ⟨w.heap.size + 1, i * 5 + 2, none⟩ (.string s)).setCell ⟨w.heap.size + 1, i * 5 + 3, none⟩ (.slice none 0 0)).setCell ⟨w.heap.size + 1, i * 5 + 4, none⟩ (.slice none 0 0)) = W9 at HD3 ⊢
      have HD4 := Lib.hid HD3
      clear HD3 HS hy0 hy1 hy2 hy3 hy4 z0 z1 z2 z3 z4
      go_roundg (n - (i + 1))
      case measure => omega
      case rel => exact ⟨i + 1, _, by first | rfl | go_num, by omega, Nat.le_refl _, HD4⟩
    · obtain rfl : i = n := by omega
      have hil : ¬ ((i : Int) < (i : Int)) := by omega
      have hys : ys = ps.map strF := by
        have := HS.out.head
        rw [List.take_of_length_le (by rw [HS.out.len]; exact Nat.le_refl _), List.take_of_length_le (by rw [HN.out]; exact Nat.le_refl _)] at this
        exact this
      subst hys
      obtain ⟨D', d', he, hdn, hdl, hdm, hrs⟩ := own_open HS.out.own
      cases he
      have hm : (ps.map fun s => (strV s, strF s)).map Prod.fst = ps.map strV := by rw [List.map_map]; rfl
      have hm2 : (ps.map fun s => (strV s, strF s)).map Prod.snd = ps.map strF := by rw [List.map_map]; rfl
      have hsl : SliceV wr (some ⟨w.heap.size + 1, 0, none⟩) i (ps.map strV) ((ps.map strF).flatMap Fv.cs) :=
        ⟨⟨hrs.move fun x hx => ⟨hx.2.1, rfl⟩, by rw [← hm, ← hm2]; exact liesL_of _ fun p hp => by obtain ⟨s, hs, rfl⟩ := List.mem_map.1 hp; exact lies_str _ _ s (HZ.out s hs)⟩, hdn, by rw [List.length_map, HN.out]; exact Nat.le_refl _, hdm, by rw [List.length_map, HN.out]; omega⟩
      have har := arr_any _ _ _ _ _ hsl
      rw [List.length_map, HN.out] at har
      have HC := Lib.hid (ret_open har)
      clear hdn hdl hdm hrs hm hm2 hsl har
      go_wp2_with fail
      refine HC.out.mono ?_
      rintro e2 w2 ⟨rk, rn, rs, rks, res, RA, ra, RC, rc, hrv, rfl, hb2, hl2⟩
      have HB := Lib.hid (HS.out.below.trans (hb2.mono HS.out.below.size))
      have HR := Lib.hid (HS.out.res.below hb2 HS.out.res.lt)
      have HL := Lib.hid hl2
      have hs2 := HS.out.res.lt
      clear hb2 hl2 hrv
      obtain ⟨t0, t1, t2, t3, t4⟩ := box5 HR.out
      have z0 := HR.out.free 0
      have z1 := HR.out.free 1
      have z2 := HR.out.free 2
      have z3 := HR.out.free 3
      have z4 := HR.out.free 4
      go_wp2_with fail
      refine bodyPost_ret (v := .tuple #[.agg #[.int .i64 rk, .int .i64 rn, .string rs, .slice RA rks.length ra, .slice RC res.length rc], .int .i64 (arrE (ps.map strV))]) (by simp [results, Tryz.results196, go_sem, t0, t1, t2, t3, t4]) rfl ?_
      exact ret_put HB.out (Nat.le_refl _) HR.out.lt (HL.out.move fun b hb => ⟨⟨by omega, hb.2, by omega⟩, rfl⟩)
end Go.Proofs.YtgdnkankleoaoaaGreatDoor

/- arith.Binary: which function an operator calls. -/
import Derived.Test.YtgdnkankleoaoaaGreatDoorA29
set_option linter.unusedVariables false
set_option linter.unusedSimpArgs false
namespace Go.Proofs.YtgdnkankleoaoaaGreatDoor
open Go.RowKit Go.Sort
set_option maxHeartbeats 1000000 in
set_option maxRecDepth 100000 in
theorem bin_add (v u : V) (cs ds : List Value) (w : World) (h : Lies w (· < w.heap.size) v cs) (h' : Lies w (· < w.heap.size) u ds) (hv : valid v = true) (hu : valid u = true) (r : V) (er : Int)
    (hc : ∀ W, Below w.heap.size w W → Calls Tryz.prog 106 #[.agg cs.toArray, .agg ds.toArray] W (RetPost r er W)) :
    Calls Tryz.prog 14 #[.string ⟨#[43]⟩, .agg cs.toArray, .agg ds.toArray] w (RetPost r er w) := by
  have HV := Lib.hid (fun W (hW : Below w.heap.size w W) => valid_any v cs W (below_lies hW h))
  have HU := Lib.hid (fun W (hW : Below w.heap.size w W) => valid_any u ds W (below_lies hW h'))
  rw [hv] at HV
  rw [hu] at HU
  obtain ⟨k, n, s, ks, es⟩ := v
  obtain ⟨A, a, B, b, xs, rfl, _⟩ := lies_open h
  obtain ⟨k2, n2, s2, ks2, es2⟩ := u
  obtain ⟨A2, a2, B2, b2, xs2, rfl, _⟩ := lies_open h'
  have HC := Lib.hid (fun W hW => ret_open (hc W hW))
  clear h h' hv hu hc
  generalize ks.length = l1 at *
  generalize es.length = l2 at *
  generalize ks2.length = l3 at *
  generalize es2.length = l4 at *
  show Calls _ _ #[_, .agg #[.int .i64 k, .int .i64 n, .string s, .slice A l1 a, .slice B l2 b], .agg #[.int .i64 k2, .int .i64 n2, .string s2, .slice A2 l3 a2, .slice B2 l4 b2]] w _
  have H0 := Lib.hid (B3.start w #[.int .i64 k, .int .i64 n, .string s, .slice A l1 a, .slice B l2 b] #[.int .i64 k2, .int .i64 n2, .string s2, .slice A2 l3 a2, .slice B2 l4 b2])
  go_enter Tryz.func14, Tryz.ntmps14
  go_wp2_with fail
  refine (HV.out _ H0.out.below).mono ?_
  rintro e1 w1 ⟨rfl, hb1⟩
  have H1 := Lib.hid (H0.out.next hb1)
  obtain ⟨y0, y1, y2, y3, y4⟩ := box5 H1.out.y
  clear hb1 H0
  go_wp2_with fail
  refine (HU.out _ H1.out.below).mono ?_
  rintro e2 w2 ⟨rfl, hb2⟩
  have H2 := Lib.hid (H1.out.next hb2)
  clear hb2 H1 y0 y1 y2 y3 y4
  obtain ⟨x0, x1, x2, x3, x4⟩ := box5 H2.out.x
  obtain ⟨y0, y1, y2, y3, y4⟩ := box5 H2.out.y
  go_wp2_with fail
  refine (HC.out _ H2.out.below).mono ?_
  rintro e3 w3 ⟨rk, rn, rs, rks, res, RA, ra, RC, rc, hrv, rfl, hb3, hl3⟩
  have H3 := Lib.hid (H2.out.next hb3)
  have HL := Lib.hid hl3
  have hs2 := H2.out.r.lt
  have hs3 := H2.out.below.size
  clear hb3 x0 x1 x2 x3 x4 y0 y1 y2 y3 y4 hl3 hrv
  obtain ⟨t0, t1, t2, t3, t4⟩ := box5 H3.out.r
  have z0 := H3.out.r.free 0
  have z1 := H3.out.r.free 1
  have z2 := H3.out.r.free 2
  have z3 := H3.out.r.free 3
  have z4 := H3.out.r.free 4
  go_wp2_with fail
  refine bodyPost_ret (v := .tuple #[.agg #[.int .i64 rk, .int .i64 rn, .string rs, .slice RA rks.length ra, .slice RC res.length rc], .int .i64 er]) (by simp [results, Tryz.results14, go_sem, t0, t1, t2, t3, t4]) rfl ?_
  exact ret_put H3.out.below (by omega) H3.out.r.lt (HL.out.move fun b hb => ⟨⟨by omega, hb.2, by omega⟩, rfl⟩)
set_option maxHeartbeats 1000000 in
set_option maxRecDepth 100000 in
theorem bin_div (v u : V) (cs ds : List Value) (w : World) (h : Lies w (· < w.heap.size) v cs) (h' : Lies w (· < w.heap.size) u ds) (hv : valid v = true) (hu : valid u = true) (r : V) (er : Int)
    (hc : ∀ W, Below w.heap.size w W → Calls Tryz.prog 109 #[.agg cs.toArray, .agg ds.toArray] W (RetPost r er W)) :
    Calls Tryz.prog 14 #[.string ⟨#[47]⟩, .agg cs.toArray, .agg ds.toArray] w (RetPost r er w) := by
  have HV := Lib.hid (fun W (hW : Below w.heap.size w W) => valid_any v cs W (below_lies hW h))
  have HU := Lib.hid (fun W (hW : Below w.heap.size w W) => valid_any u ds W (below_lies hW h'))
  rw [hv] at HV
  rw [hu] at HU
  obtain ⟨k, n, s, ks, es⟩ := v
  obtain ⟨A, a, B, b, xs, rfl, _⟩ := lies_open h
  obtain ⟨k2, n2, s2, ks2, es2⟩ := u
  obtain ⟨A2, a2, B2, b2, xs2, rfl, _⟩ := lies_open h'
  have HC := Lib.hid (fun W hW => ret_open (hc W hW))
  clear h h' hv hu hc
  generalize ks.length = l1 at *
  generalize es.length = l2 at *
  generalize ks2.length = l3 at *
  generalize es2.length = l4 at *
  show Calls _ _ #[_, .agg #[.int .i64 k, .int .i64 n, .string s, .slice A l1 a, .slice B l2 b], .agg #[.int .i64 k2, .int .i64 n2, .string s2, .slice A2 l3 a2, .slice B2 l4 b2]] w _
  have H0 := Lib.hid (B3.start w #[.int .i64 k, .int .i64 n, .string s, .slice A l1 a, .slice B l2 b] #[.int .i64 k2, .int .i64 n2, .string s2, .slice A2 l3 a2, .slice B2 l4 b2])
  go_enter Tryz.func14, Tryz.ntmps14
  go_wp2_with fail
  refine (HV.out _ H0.out.below).mono ?_
  rintro e1 w1 ⟨rfl, hb1⟩
  have H1 := Lib.hid (H0.out.next hb1)
  obtain ⟨y0, y1, y2, y3, y4⟩ := box5 H1.out.y
  clear hb1 H0
  go_wp2_with fail
  refine (HU.out _ H1.out.below).mono ?_
  rintro e2 w2 ⟨rfl, hb2⟩
  have H2 := Lib.hid (H1.out.next hb2)
  clear hb2 H1 y0 y1 y2 y3 y4
  obtain ⟨x0, x1, x2, x3, x4⟩ := box5 H2.out.x
  obtain ⟨y0, y1, y2, y3, y4⟩ := box5 H2.out.y
  go_wp2_with fail
  refine (HC.out _ H2.out.below).mono ?_
  rintro e3 w3 ⟨rk, rn, rs, rks, res, RA, ra, RC, rc, hrv, rfl, hb3, hl3⟩
  have H3 := Lib.hid (H2.out.next hb3)
  have HL := Lib.hid hl3
  have hs2 := H2.out.r.lt
  have hs3 := H2.out.below.size
  clear hb3 x0 x1 x2 x3 x4 y0 y1 y2 y3 y4 hl3 hrv
  obtain ⟨t0, t1, t2, t3, t4⟩ := box5 H3.out.r
  have z0 := H3.out.r.free 0
  have z1 := H3.out.r.free 1
  have z2 := H3.out.r.free 2
  have z3 := H3.out.r.free 3
  have z4 := H3.out.r.free 4
  go_wp2_with fail
  refine bodyPost_ret (v := .tuple #[.agg #[.int .i64 rk, .int .i64 rn, .string rs, .slice RA rks.length ra, .slice RC res.length rc], .int .i64 er]) (by simp [results, Tryz.results14, go_sem, t0, t1, t2, t3, t4]) rfl ?_
  exact ret_put H3.out.below (by omega) H3.out.r.lt (HL.out.move fun b hb => ⟨⟨by omega, hb.2, by omega⟩, rfl⟩)
set_option maxHeartbeats 1000000 in
set_option maxRecDepth 100000 in
theorem bin_rem (v u : V) (cs ds : List Value) (w : World) (h : Lies w (· < w.heap.size) v cs) (h' : Lies w (· < w.heap.size) u ds) (hv : valid v = true) (hu : valid u = true) (r : V) (er : Int)
    (hc : ∀ W, Below w.heap.size w W → Calls Tryz.prog 110 #[.agg cs.toArray, .agg ds.toArray] W (RetPost r er W)) :
    Calls Tryz.prog 14 #[.string ⟨#[37]⟩, .agg cs.toArray, .agg ds.toArray] w (RetPost r er w) := by
  have HV := Lib.hid (fun W (hW : Below w.heap.size w W) => valid_any v cs W (below_lies hW h))
  have HU := Lib.hid (fun W (hW : Below w.heap.size w W) => valid_any u ds W (below_lies hW h'))
  rw [hv] at HV
  rw [hu] at HU
  obtain ⟨k, n, s, ks, es⟩ := v
  obtain ⟨A, a, B, b, xs, rfl, _⟩ := lies_open h
  obtain ⟨k2, n2, s2, ks2, es2⟩ := u
  obtain ⟨A2, a2, B2, b2, xs2, rfl, _⟩ := lies_open h'
  have HC := Lib.hid (fun W hW => ret_open (hc W hW))
  clear h h' hv hu hc
  generalize ks.length = l1 at *
  generalize es.length = l2 at *
  generalize ks2.length = l3 at *
  generalize es2.length = l4 at *
  show Calls _ _ #[_, .agg #[.int .i64 k, .int .i64 n, .string s, .slice A l1 a, .slice B l2 b], .agg #[.int .i64 k2, .int .i64 n2, .string s2, .slice A2 l3 a2, .slice B2 l4 b2]] w _
  have H0 := Lib.hid (B3.start w #[.int .i64 k, .int .i64 n, .string s, .slice A l1 a, .slice B l2 b] #[.int .i64 k2, .int .i64 n2, .string s2, .slice A2 l3 a2, .slice B2 l4 b2])
  go_enter Tryz.func14, Tryz.ntmps14
  go_wp2_with fail
  refine (HV.out _ H0.out.below).mono ?_
  rintro e1 w1 ⟨rfl, hb1⟩
  have H1 := Lib.hid (H0.out.next hb1)
  obtain ⟨y0, y1, y2, y3, y4⟩ := box5 H1.out.y
  clear hb1 H0
  go_wp2_with fail
  refine (HU.out _ H1.out.below).mono ?_
  rintro e2 w2 ⟨rfl, hb2⟩
  have H2 := Lib.hid (H1.out.next hb2)
  clear hb2 H1 y0 y1 y2 y3 y4
  obtain ⟨x0, x1, x2, x3, x4⟩ := box5 H2.out.x
  obtain ⟨y0, y1, y2, y3, y4⟩ := box5 H2.out.y
  go_wp2_with fail
  refine (HC.out _ H2.out.below).mono ?_
  rintro e3 w3 ⟨rk, rn, rs, rks, res, RA, ra, RC, rc, hrv, rfl, hb3, hl3⟩
  have H3 := Lib.hid (H2.out.next hb3)
  have HL := Lib.hid hl3
  have hs2 := H2.out.r.lt
  have hs3 := H2.out.below.size
  clear hb3 x0 x1 x2 x3 x4 y0 y1 y2 y3 y4 hl3 hrv
  obtain ⟨t0, t1, t2, t3, t4⟩ := box5 H3.out.r
  have z0 := H3.out.r.free 0
  have z1 := H3.out.r.free 1
  have z2 := H3.out.r.free 2
  have z3 := H3.out.r.free 3
  have z4 := H3.out.r.free 4
  go_wp2_with fail
  refine bodyPost_ret (v := .tuple #[.agg #[.int .i64 rk, .int .i64 rn, .string rs, .slice RA rks.length ra, .slice RC res.length rc], .int .i64 er]) (by simp [results, Tryz.results14, go_sem, t0, t1, t2, t3, t4]) rfl ?_
  exact ret_put H3.out.below (by omega) H3.out.r.lt (HL.out.move fun b hb => ⟨⟨by omega, hb.2, by omega⟩, rfl⟩)
theorem lies_boolv (w : World) (S : Nat → Prop) (b : Bool) : Lies w S (boolV b) [.int .i64 (if b then 2 else 1), .int .i64 0, .string ⟨#[]⟩, .slice none 0 0, .slice none 0 0] := by
  unfold boolV
  rw [Lies]
  exact ⟨⟨Nat.zero_le _, by simp, Nat.zero_le _, Nat.zero_le _⟩, none, 0, none, 0, [], rfl, fun _ => rfl, fun _ => rfl, ⟨Nat.le_refl _, Nat.zero_le _⟩, ⟨Nat.le_refl _, Nat.zero_le _⟩, Rs.nil _ _ _, Rs.nil _ _ _, by rw [LiesL]⟩
set_option maxHeartbeats 1000000 in
set_option maxRecDepth 100000 in
theorem cmpop_eq (c : Int) (w : World) : Calls Tryz.prog 111 #[.string ⟨#[61, 61]⟩, .int .i64 c] w (RetPost (boolV (decide (c = 0))) 0 w) := by
  have hbl := Lib.hid (fun (b : Bool) W => bool_any b W)
  have hr := Lib.hid (box_at w 25 #[.int .i64 0, .int .i64 0, .string ⟨#[]⟩, .slice none 0 0, .slice none 0 0] w.heap.size rfl)
  by_cases hc : c = 0
  · have hcd : (decide (c = 0)) = true := by simp [hc]
    rw [hcd]
    have hcb : (c == 0) = decide (c = 0) := by by_cases h : c = 0 <;> simp [h]
    have hcn : (c != 0) = !decide (c = 0) := by by_cases h : c = 0 <;> simp [h]
    have hcd2 : decide (c = 0) = true := by simp [hc]
    go_enter Tryz.func111, Tryz.ntmps111
    go_wp2_with fail
    refine (hbl.out _ _).mono ?_
    rintro e1 w1 ⟨rfl, hb1⟩
    have H1 := Lib.hid (hr.out.below hb1 hr.out.lt)
    have HB := Lib.hid (chain (below1 w _) hb1)
    obtain ⟨t0, t1, t2, t3, t4⟩ := box5 H1.out
    have z0 := H1.out.free 0
    have z1 := H1.out.free 1
    have z2 := H1.out.free 2
    have z3 := H1.out.free 3
    have z4 := H1.out.free 4
    clear hb1 hcd
    go_wp2_with fail
    refine bodyPost_ret (v := .tuple #[.agg #[.int .i64 2, .int .i64 0, .string ⟨#[]⟩, .slice none 0 0, .slice none 0 0], .int .i64 0]) (by simp [results, Tryz.results111, go_sem, t0, t1, t2, t3, t4]) rfl ?_
    exact ret_put HB.out (Nat.le_refl _) H1.out.lt (lies_boolv w1 _ true)
  · have hcd : (decide (c = 0)) = false := by simp [hc]
    rw [hcd]
    have hcb : (c == 0) = decide (c = 0) := by by_cases h : c = 0 <;> simp [h]
    have hcn : (c != 0) = !decide (c = 0) := by by_cases h : c = 0 <;> simp [h]
    have hcd2 : decide (c = 0) = false := by simp [hc]
    go_enter Tryz.func111, Tryz.ntmps111
    go_wp2_with fail
    refine (hbl.out _ _).mono ?_
    rintro e1 w1 ⟨rfl, hb1⟩
    have H1 := Lib.hid (hr.out.below hb1 hr.out.lt)
    have HB := Lib.hid (chain (below1 w _) hb1)
    obtain ⟨t0, t1, t2, t3, t4⟩ := box5 H1.out
    have z0 := H1.out.free 0
    have z1 := H1.out.free 1
    have z2 := H1.out.free 2
    have z3 := H1.out.free 3
    have z4 := H1.out.free 4
    clear hb1 hcd
    go_wp2_with fail
    refine bodyPost_ret (v := .tuple #[.agg #[.int .i64 1, .int .i64 0, .string ⟨#[]⟩, .slice none 0 0, .slice none 0 0], .int .i64 0]) (by simp [results, Tryz.results111, go_sem, t0, t1, t2, t3, t4]) rfl ?_
    exact ret_put HB.out (Nat.le_refl _) H1.out.lt (lies_boolv w1 _ false)
set_option maxHeartbeats 1000000 in
set_option maxRecDepth 100000 in
theorem cmpop_ne (c : Int) (w : World) : Calls Tryz.prog 111 #[.string ⟨#[33, 61]⟩, .int .i64 c] w (RetPost (boolV (!decide (c = 0))) 0 w) := by
  have hbl := Lib.hid (fun (b : Bool) W => bool_any b W)
  have hr := Lib.hid (box_at w 25 #[.int .i64 0, .int .i64 0, .string ⟨#[]⟩, .slice none 0 0, .slice none 0 0] w.heap.size rfl)
  by_cases hc : c = 0
  · have hcd : (!decide (c = 0)) = false := by simp [hc]
    rw [hcd]
    have hcb : (c == 0) = decide (c = 0) := by by_cases h : c = 0 <;> simp [h]
    have hcn : (c != 0) = !decide (c = 0) := by by_cases h : c = 0 <;> simp [h]
    have hcd2 : decide (c = 0) = true := by simp [hc]
    go_enter Tryz.func111, Tryz.ntmps111
    go_wp2_with fail
    refine (hbl.out _ _).mono ?_
    rintro e1 w1 ⟨rfl, hb1⟩
    have H1 := Lib.hid (hr.out.below hb1 hr.out.lt)
    have HB := Lib.hid (chain (below1 w _) hb1)
    obtain ⟨t0, t1, t2, t3, t4⟩ := box5 H1.out
    have z0 := H1.out.free 0
    have z1 := H1.out.free 1
    have z2 := H1.out.free 2
    have z3 := H1.out.free 3
    have z4 := H1.out.free 4
    clear hb1 hcd
    go_wp2_with fail
    refine bodyPost_ret (v := .tuple #[.agg #[.int .i64 1, .int .i64 0, .string ⟨#[]⟩, .slice none 0 0, .slice none 0 0], .int .i64 0]) (by simp [results, Tryz.results111, go_sem, t0, t1, t2, t3, t4]) rfl ?_
    exact ret_put HB.out (Nat.le_refl _) H1.out.lt (lies_boolv w1 _ false)
  · have hcd : (!decide (c = 0)) = true := by simp [hc]
    rw [hcd]
    have hcb : (c == 0) = decide (c = 0) := by by_cases h : c = 0 <;> simp [h]
    have hcn : (c != 0) = !decide (c = 0) := by by_cases h : c = 0 <;> simp [h]
    have hcd2 : decide (c = 0) = false := by simp [hc]
    go_enter Tryz.func111, Tryz.ntmps111
    go_wp2_with fail
    refine (hbl.out _ _).mono ?_
    rintro e1 w1 ⟨rfl, hb1⟩
    have H1 := Lib.hid (hr.out.below hb1 hr.out.lt)
    have HB := Lib.hid (chain (below1 w _) hb1)
    obtain ⟨t0, t1, t2, t3, t4⟩ := box5 H1.out
    have z0 := H1.out.free 0
    have z1 := H1.out.free 1
    have z2 := H1.out.free 2
    have z3 := H1.out.free 3
    have z4 := H1.out.free 4
    clear hb1 hcd
    go_wp2_with fail
    refine bodyPost_ret (v := .tuple #[.agg #[.int .i64 2, .int .i64 0, .string ⟨#[]⟩, .slice none 0 0, .slice none 0 0], .int .i64 0]) (by simp [results, Tryz.results111, go_sem, t0, t1, t2, t3, t4]) rfl ?_
    exact ret_put HB.out (Nat.le_refl _) H1.out.lt (lies_boolv w1 _ true)
set_option maxHeartbeats 1000000 in
set_option maxRecDepth 100000 in
theorem cmpop_lt (c : Int) (w : World) : Calls Tryz.prog 111 #[.string ⟨#[60]⟩, .int .i64 c] w (RetPost (boolV (decide (c < 0))) 0 w) := by
  have hbl := Lib.hid (fun (b : Bool) W => bool_any b W)
  have hr := Lib.hid (box_at w 25 #[.int .i64 0, .int .i64 0, .string ⟨#[]⟩, .slice none 0 0, .slice none 0 0] w.heap.size rfl)
  by_cases hc : c < 0
  · have hcd : (decide (c < 0)) = true := by simp [hc]
    rw [hcd]
    have hcb : (c == 0) = decide (c = 0) := by by_cases h : c = 0 <;> simp [h]
    have hcn : (c != 0) = !decide (c = 0) := by by_cases h : c = 0 <;> simp [h]
    have hcd2 : decide (c < 0) = true := by simp [hc]
    go_enter Tryz.func111, Tryz.ntmps111
    go_wp2_with fail
    refine (hbl.out _ _).mono ?_
    rintro e1 w1 ⟨rfl, hb1⟩
    have H1 := Lib.hid (hr.out.below hb1 hr.out.lt)
    have HB := Lib.hid (chain (below1 w _) hb1)
    obtain ⟨t0, t1, t2, t3, t4⟩ := box5 H1.out
    have z0 := H1.out.free 0
    have z1 := H1.out.free 1
    have z2 := H1.out.free 2
    have z3 := H1.out.free 3
    have z4 := H1.out.free 4
    clear hb1 hcd
    go_wp2_with fail
    refine bodyPost_ret (v := .tuple #[.agg #[.int .i64 2, .int .i64 0, .string ⟨#[]⟩, .slice none 0 0, .slice none 0 0], .int .i64 0]) (by simp [results, Tryz.results111, go_sem, t0, t1, t2, t3, t4]) rfl ?_
    exact ret_put HB.out (Nat.le_refl _) H1.out.lt (lies_boolv w1 _ true)
  · have hcd : (decide (c < 0)) = false := by simp [hc]
    rw [hcd]
    have hcb : (c == 0) = decide (c = 0) := by by_cases h : c = 0 <;> simp [h]
    have hcn : (c != 0) = !decide (c = 0) := by by_cases h : c = 0 <;> simp [h]
    have hcd2 : decide (c < 0) = false := by simp [hc]
    go_enter Tryz.func111, Tryz.ntmps111
    go_wp2_with fail
    refine (hbl.out _ _).mono ?_
    rintro e1 w1 ⟨rfl, hb1⟩
    have H1 := Lib.hid (hr.out.below hb1 hr.out.lt)
    have HB := Lib.hid (chain (below1 w _) hb1)
    obtain ⟨t0, t1, t2, t3, t4⟩ := box5 H1.out
    have z0 := H1.out.free 0
    have z1 := H1.out.free 1
    have z2 := H1.out.free 2
    have z3 := H1.out.free 3
    have z4 := H1.out.free 4
    clear hb1 hcd
    go_wp2_with fail
    refine bodyPost_ret (v := .tuple #[.agg #[.int .i64 1, .int .i64 0, .string ⟨#[]⟩, .slice none 0 0, .slice none 0 0], .int .i64 0]) (by simp [results, Tryz.results111, go_sem, t0, t1, t2, t3, t4]) rfl ?_
    exact ret_put HB.out (Nat.le_refl _) H1.out.lt (lies_boolv w1 _ false)
set_option maxHeartbeats 1000000 in
set_option maxRecDepth 100000 in
theorem cmpop_le (c : Int) (w : World) : Calls Tryz.prog 111 #[.string ⟨#[60, 61]⟩, .int .i64 c] w (RetPost (boolV (decide (c ≤ 0))) 0 w) := by
  have hbl := Lib.hid (fun (b : Bool) W => bool_any b W)
  have hr := Lib.hid (box_at w 25 #[.int .i64 0, .int .i64 0, .string ⟨#[]⟩, .slice none 0 0, .slice none 0 0] w.heap.size rfl)
  by_cases hc : c ≤ 0
  · have hcd : (decide (c ≤ 0)) = true := by simp [hc]
    rw [hcd]
    have hcb : (c == 0) = decide (c = 0) := by by_cases h : c = 0 <;> simp [h]
    have hcn : (c != 0) = !decide (c = 0) := by by_cases h : c = 0 <;> simp [h]
    have hcd2 : decide (c ≤ 0) = true := by simp [hc]
    go_enter Tryz.func111, Tryz.ntmps111
    go_wp2_with fail
    refine (hbl.out _ _).mono ?_
    rintro e1 w1 ⟨rfl, hb1⟩
    have H1 := Lib.hid (hr.out.below hb1 hr.out.lt)
    have HB := Lib.hid (chain (below1 w _) hb1)
    obtain ⟨t0, t1, t2, t3, t4⟩ := box5 H1.out
    have z0 := H1.out.free 0
    have z1 := H1.out.free 1
    have z2 := H1.out.free 2
    have z3 := H1.out.free 3
    have z4 := H1.out.free 4
    clear hb1 hcd
    go_wp2_with fail
    refine bodyPost_ret (v := .tuple #[.agg #[.int .i64 2, .int .i64 0, .string ⟨#[]⟩, .slice none 0 0, .slice none 0 0], .int .i64 0]) (by simp [results, Tryz.results111, go_sem, t0, t1, t2, t3, t4]) rfl ?_
    exact ret_put HB.out (Nat.le_refl _) H1.out.lt (lies_boolv w1 _ true)
  · have hcd : (decide (c ≤ 0)) = false := by simp [hc]
    rw [hcd]
    have hcb : (c == 0) = decide (c = 0) := by by_cases h : c = 0 <;> simp [h]
    have hcn : (c != 0) = !decide (c = 0) := by by_cases h : c = 0 <;> simp [h]
    have hcd2 : decide (c ≤ 0) = false := by simp [hc]
    go_enter Tryz.func111, Tryz.ntmps111
    go_wp2_with fail
    refine (hbl.out _ _).mono ?_
    rintro e1 w1 ⟨rfl, hb1⟩
    have H1 := Lib.hid (hr.out.below hb1 hr.out.lt)
    have HB := Lib.hid (chain (below1 w _) hb1)
    obtain ⟨t0, t1, t2, t3, t4⟩ := box5 H1.out
    have z0 := H1.out.free 0
    have z1 := H1.out.free 1
    have z2 := H1.out.free 2
    have z3 := H1.out.free 3
    have z4 := H1.out.free 4
    clear hb1 hcd
    go_wp2_with fail
    refine bodyPost_ret (v := .tuple #[.agg #[.int .i64 1, .int .i64 0, .string ⟨#[]⟩, .slice none 0 0, .slice none 0 0], .int .i64 0]) (by simp [results, Tryz.results111, go_sem, t0, t1, t2, t3, t4]) rfl ?_
    exact ret_put HB.out (Nat.le_refl _) H1.out.lt (lies_boolv w1 _ false)
set_option maxHeartbeats 1000000 in
set_option maxRecDepth 100000 in
theorem cmpop_gt (c : Int) (w : World) : Calls Tryz.prog 111 #[.string ⟨#[62]⟩, .int .i64 c] w (RetPost (boolV (decide (0 < c))) 0 w) := by
  have hbl := Lib.hid (fun (b : Bool) W => bool_any b W)
  have hr := Lib.hid (box_at w 25 #[.int .i64 0, .int .i64 0, .string ⟨#[]⟩, .slice none 0 0, .slice none 0 0] w.heap.size rfl)
  by_cases hc : 0 < c
  · have hcd : (decide (0 < c)) = true := by simp [hc]
    rw [hcd]
    have hcb : (c == 0) = decide (c = 0) := by by_cases h : c = 0 <;> simp [h]
    have hcn : (c != 0) = !decide (c = 0) := by by_cases h : c = 0 <;> simp [h]
    have hcd2 : decide (0 < c) = true := by simp [hc]
    go_enter Tryz.func111, Tryz.ntmps111
    go_wp2_with fail
    refine (hbl.out _ _).mono ?_
    rintro e1 w1 ⟨rfl, hb1⟩
    have H1 := Lib.hid (hr.out.below hb1 hr.out.lt)
    have HB := Lib.hid (chain (below1 w _) hb1)
    obtain ⟨t0, t1, t2, t3, t4⟩ := box5 H1.out
    have z0 := H1.out.free 0
    have z1 := H1.out.free 1
    have z2 := H1.out.free 2
    have z3 := H1.out.free 3
    have z4 := H1.out.free 4
    clear hb1 hcd
    go_wp2_with fail
    refine bodyPost_ret (v := .tuple #[.agg #[.int .i64 2, .int .i64 0, .string ⟨#[]⟩, .slice none 0 0, .slice none 0 0], .int .i64 0]) (by simp [results, Tryz.results111, go_sem, t0, t1, t2, t3, t4]) rfl ?_
    exact ret_put HB.out (Nat.le_refl _) H1.out.lt (lies_boolv w1 _ true)
  · have hcd : (decide (0 < c)) = false := by simp [hc]
    rw [hcd]
    have hcb : (c == 0) = decide (c = 0) := by by_cases h : c = 0 <;> simp [h]
    have hcn : (c != 0) = !decide (c = 0) := by by_cases h : c = 0 <;> simp [h]
    have hcd2 : decide (0 < c) = false := by simp [hc]
    go_enter Tryz.func111, Tryz.ntmps111
    go_wp2_with fail
    refine (hbl.out _ _).mono ?_
    rintro e1 w1 ⟨rfl, hb1⟩
    have H1 := Lib.hid (hr.out.below hb1 hr.out.lt)
    have HB := Lib.hid (chain (below1 w _) hb1)
    obtain ⟨t0, t1, t2, t3, t4⟩ := box5 H1.out
    have z0 := H1.out.free 0
    have z1 := H1.out.free 1
    have z2 := H1.out.free 2
    have z3 := H1.out.free 3
    have z4 := H1.out.free 4
    clear hb1 hcd
    go_wp2_with fail
    refine bodyPost_ret (v := .tuple #[.agg #[.int .i64 1, .int .i64 0, .string ⟨#[]⟩, .slice none 0 0, .slice none 0 0], .int .i64 0]) (by simp [results, Tryz.results111, go_sem, t0, t1, t2, t3, t4]) rfl ?_
    exact ret_put HB.out (Nat.le_refl _) H1.out.lt (lies_boolv w1 _ false)
set_option maxHeartbeats 1000000 in
set_option maxRecDepth 100000 in
theorem cmpop_ge (c : Int) (w : World) : Calls Tryz.prog 111 #[.string ⟨#[62, 61]⟩, .int .i64 c] w (RetPost (boolV (decide (0 ≤ c))) 0 w) := by
  have hbl := Lib.hid (fun (b : Bool) W => bool_any b W)
  have hr := Lib.hid (box_at w 25 #[.int .i64 0, .int .i64 0, .string ⟨#[]⟩, .slice none 0 0, .slice none 0 0] w.heap.size rfl)
  by_cases hc : 0 ≤ c
  · have hcd : (decide (0 ≤ c)) = true := by simp [hc]
    rw [hcd]
    have hcb : (c == 0) = decide (c = 0) := by by_cases h : c = 0 <;> simp [h]
    have hcn : (c != 0) = !decide (c = 0) := by by_cases h : c = 0 <;> simp [h]
    have hcd2 : decide (0 ≤ c) = true := by simp [hc]
    go_enter Tryz.func111, Tryz.ntmps111
    go_wp2_with fail
    refine (hbl.out _ _).mono ?_
    rintro e1 w1 ⟨rfl, hb1⟩
    have H1 := Lib.hid (hr.out.below hb1 hr.out.lt)
    have HB := Lib.hid (chain (below1 w _) hb1)
    obtain ⟨t0, t1, t2, t3, t4⟩ := box5 H1.out
    have z0 := H1.out.free 0
    have z1 := H1.out.free 1
    have z2 := H1.out.free 2
    have z3 := H1.out.free 3
    have z4 := H1.out.free 4
    clear hb1 hcd
    go_wp2_with fail
    refine bodyPost_ret (v := .tuple #[.agg #[.int .i64 2, .int .i64 0, .string ⟨#[]⟩, .slice none 0 0, .slice none 0 0], .int .i64 0]) (by simp [results, Tryz.results111, go_sem, t0, t1, t2, t3, t4]) rfl ?_
    exact ret_put HB.out (Nat.le_refl _) H1.out.lt (lies_boolv w1 _ true)
  · have hcd : (decide (0 ≤ c)) = false := by simp [hc]
    rw [hcd]
    have hcb : (c == 0) = decide (c = 0) := by by_cases h : c = 0 <;> simp [h]
    have hcn : (c != 0) = !decide (c = 0) := by by_cases h : c = 0 <;> simp [h]
    have hcd2 : decide (0 ≤ c) = false := by simp [hc]
    go_enter Tryz.func111, Tryz.ntmps111
    go_wp2_with fail
    refine (hbl.out _ _).mono ?_
    rintro e1 w1 ⟨rfl, hb1⟩
    have H1 := Lib.hid (hr.out.below hb1 hr.out.lt)
    have HB := Lib.hid (chain (below1 w _) hb1)
    obtain ⟨t0, t1, t2, t3, t4⟩ := box5 H1.out
    have z0 := H1.out.free 0
    have z1 := H1.out.free 1
    have z2 := H1.out.free 2
    have z3 := H1.out.free 3
    have z4 := H1.out.free 4
    clear hb1 hcd
    go_wp2_with fail
    refine bodyPost_ret (v := .tuple #[.agg #[.int .i64 1, .int .i64 0, .string ⟨#[]⟩, .slice none 0 0, .slice none 0 0], .int .i64 0]) (by simp [results, Tryz.results111, go_sem, t0, t1, t2, t3, t4]) rfl ?_
    exact ret_put HB.out (Nat.le_refl _) H1.out.lt (lies_boolv w1 _ false)
end Go.Proofs.YtgdnkankleoaoaaGreatDoor

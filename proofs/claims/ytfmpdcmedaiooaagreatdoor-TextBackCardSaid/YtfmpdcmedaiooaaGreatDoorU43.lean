/- text: functions of two strings, from those of the list. text: explode of the list. The sanity check of law 8. -/
import Derived.Test.YtfmpdcmedaiooaaGreatDoorU41
import Derived.Test.YtfmpdcmedaiooaaGreatDoorU40
import Derived.Test.YtfmpdcmedaiooaaGreatDoorU42
set_option linter.unusedVariables false
set_option linter.unusedSimpArgs false
namespace Go.Proofs.YtfmpdcmedaiooaaGreatDoor
open Go.RowKit Go.Sort
set_option maxHeartbeats 4000000 in
set_option maxRecDepth 100000 in
theorem top_CutPrefix (v u r : V) (er : Int) (cs ds : List Value) (w : World) (h : Lies w (· < w.heap.size) v cs) (h' : Lies w (· < w.heap.size) u ds)
    (HC : ∀ W, Below w.heap.size w W → Calls Tryz.prog 29 #[.int .i64 8, .agg cs.toArray, .agg ds.toArray] W (RetPost r er W)) :
    Calls Tryz.prog 16 #[.agg cs.toArray, .agg ds.toArray] w (RetPost r er w) := by
  have HM := Lib.hid (fun W hW => ret_open (HC W hW))
  clear HC
  obtain ⟨k, n, s, ks, es⟩ := v
  obtain ⟨k2, n2, s2, ks2, es2⟩ := u
  obtain ⟨A, a, B, b, xs, rfl, _⟩ := lies_open h
  obtain ⟨A2, a2, B2, b2', ys, rfl, _⟩ := lies_open h'
  clear h h'
  have H0 := Lib.hid (B3.start w #[.int .i64 k, .int .i64 n, .string s, .slice A ks.length a, .slice B es.length b] #[.int .i64 k2, .int .i64 n2, .string s2, .slice A2 ks2.length a2, .slice B2 es2.length b2'])
  go_enter Tryz.func16, Tryz.ntmps16
  go_wp2_with fail
  refine (HM.out _ H0.out.below).mono ?_
  rintro e1 w1 ⟨rk, rn, rs, rks, res, RA, ra, RC, rc, hrv, rfl, hb1, hl1⟩
  have H1 := Lib.hid (H0.out.next hb1)
  have HL := Lib.hid hl1
  have hs1 := H0.out.r.lt
  have hs2 := H1.out.r.lt
  have hs3 := H0.out.below.size
  clear hb1 hl1 hrv
  obtain ⟨y0, y1, y2, y3, y4⟩ := box5 H1.out.r
  have z0 := H1.out.r.free 0
  have z1 := H1.out.r.free 1
  have z2 := H1.out.r.free 2
  have z3 := H1.out.r.free 3
  have z4 := H1.out.r.free 4
  obtain ⟨t0, t1, t2, t3, t4⟩ := box5 H1.out.x
  obtain ⟨u0, u1, u2, u3, u4⟩ := box5 H1.out.y
  go_wp2_with fail
  refine bodyPost_ret (v := .tuple #[.agg #[.int .i64 rk, .int .i64 rn, .string rs, .slice RA rks.length ra, .slice RC res.length rc], .int .i64 er]) (by simp [results, Tryz.results16, go_sem, y0, y1, y2, y3, y4]) rfl ?_
  exact ret_put H1.out.below (by omega) H1.out.r.lt (HL.out.move fun b hb => ⟨⟨by omega, hb.2, by omega⟩, rfl⟩)
theorem lies_up {w W : World} {x : Nat} {v : V} {cs : List Value} (hb : Below w.heap.size w W) (hl : Lies w (fun b => x ≤ b ∧ b < w.heap.size) v cs) : Lies W (fun b => x ≤ b ∧ b < w.heap.size) v cs := hl.move fun b h => ⟨h, hb.block b h.2⟩
set_option maxHeartbeats 4000000 in
set_option maxRecDepth 100000 in
theorem cut_ok (i : Int) (v u r : V) (cs ds : List Value) (w : World) (h : Lies w (· < w.heap.size) v cs) (h' : Lies w (· < w.heap.size) u ds)
    (HC : ∀ W, Below w.heap.size w W → Calls Tryz.prog 26 #[.int .i64 i, .agg cs.toArray, .agg ds.toArray] W (RetPost r 0 W)) :
    Calls Tryz.prog 29 #[.int .i64 i, .agg cs.toArray, .agg ds.toArray] w (RetPost r 0 w) := by
  have HM := Lib.hid (fun W hW => ret_open (HC W hW))
  clear HC
  obtain ⟨k, n, s, ks, es⟩ := v
  obtain ⟨k2, n2, s2, ks2, es2⟩ := u
  obtain ⟨A, a, B, b, xs, rfl, _⟩ := lies_open h
  obtain ⟨A2, a2, B2, b2', ys, rfl, _⟩ := lies_open h'
  clear h h'
  have H0 := Lib.hid (B3.start w #[.int .i64 k, .int .i64 n, .string s, .slice A ks.length a, .slice B es.length b] #[.int .i64 k2, .int .i64 n2, .string s2, .slice A2 ks2.length a2, .slice B2 es2.length b2'])
  go_enter Tryz.func29, Tryz.ntmps29
  go_wp2_with fail
  refine (HM.out _ H0.out.below).mono ?_
  rintro e1 w1 ⟨rk, rn, rs, rks, res, RA, ra, RC, rc, hrv, rfl, hb1, hl1⟩
  have H1 := Lib.hid ((H0.out.next hb1).next (below1 w1 (.cells #[.int .i64 rk, .int .i64 rn, .string rs, .slice RA rks.length ra, .slice RC res.length rc] 25)))
  have HX := Lib.hid (Box.laid w1 25 #[.int .i64 rk, .int .i64 rn, .string rs, .slice RA rks.length ra, .slice RC res.length rc])
  have HL := Lib.hid (lies_up (below1 w1 (.cells #[.int .i64 rk, .int .i64 rn, .string rs, .slice RA rks.length ra, .slice RC res.length rc] 25)) hl1)
  have hs1 := H0.out.r.lt
  have hs2 := H1.out.r.lt
  have hs3 := H0.out.below.size
  have hs4 := hb1.size
  clear hb1 hl1 hrv
  obtain ⟨y0, y1, y2, y3, y4⟩ := box5 H1.out.r
  have z0 := H1.out.r.free 0
  have z1 := H1.out.r.free 1
  have z2 := H1.out.r.free 2
  have z3 := H1.out.r.free 3
  have z4 := H1.out.r.free 4
  obtain ⟨t0, t1, t2, t3, t4⟩ := box5 H1.out.x
  obtain ⟨u0, u1, u2, u3, u4⟩ := box5 H1.out.y
  obtain ⟨x0, x1, x2, x3, x4⟩ := box5 HX.out
  go_wp2_with fail
  refine bodyPost_ret (v := .tuple #[.agg #[.int .i64 rk, .int .i64 rn, .string rs, .slice RA rks.length ra, .slice RC res.length rc], .int .i64 0]) (by simp [results, Tryz.results29, go_sem, y0, y1, y2, y3, y4]) rfl ?_
  exact ret_put H1.out.below (by omega) H1.out.r.lt (HL.out.move fun b hb => ⟨⟨by omega, by have := hb.2; simp; omega, by omega⟩, rfl⟩)
/-- What Indices gives for two strings. -/
def ixR (xs ys : List Nat) : V × Int := if ys.length = 0 then (vnull, 0) else (arrR ((occ (xs.map Int.ofNat) (ys.map Int.ofNat) (xs.length + 1 - ys.length)).map numV), arrE ((occ (xs.map Int.ofNat) (ys.map Int.ofNat) (xs.length + 1 - ys.length)).map numV))
theorem runes_own {f : FuncId} {args : Array Value} {w : World} {o : Option (List Nat)} (h : Calls Tryz.prog f args w fun e w' => RunesPost o w e w') (xs : List Nat) (ho : o = some xs) :
    Calls Tryz.prog f args w fun e w' => Below w.heap.size w w' ∧ ∃ v, e = .returned (.tuple #[v, .bool true]) ∧ w'.ownsRow w.heap.size 3 1 v xs.length (iv xs) := by subst ho; exact h
theorem iv_zvs (xs : List Nat) : iv xs = zvs (xs.map Int.ofNat) := by simp [iv, zvs]
theorem occ_both (A B : Option Addr) (c d : Nat) (xs ys : List Nat) (w : World) (hA : Rs w (· < w.heap.size) A (iv xs)) (hB : Rs w (· < w.heap.size) B (iv ys)) (hnc : xs.length ≤ c) (hcm : c ≤ maxLen) (hn1 : xs.length ≤ 999999) (hm1 : ys.length ≤ 999999) :
    Calls Tryz.prog 88 #[.slice A xs.length c, .slice B ys.length d] w (RetPost (ixR xs ys).1 (ixR xs ys).2 w) := by
  unfold ixR
  by_cases h0 : ys.length = 0
  · rw [if_pos h0, h0]
    exact occ_none A B c d xs.length w
  · rw [if_neg h0]
    rw [iv_zvs] at hA hB
    exact occ_any A B c d xs.length ys.length _ _ w hA hB (by simp) (by simp) hnc hcm hn1 hm1 (by omega)
set_option maxHeartbeats 4000000 in
set_option maxRecDepth 100000 in
theorem m_indices (s t : ByteArray) (xs ys : List Nat) (w : World) (hx : runes s.data.toList = some xs) (hy : runes t.data.toList = some ys) (hs : s.size ≤ 900000) (ht : t.size ≤ 900000) : Calls Tryz.prog 58 #[.agg #[.string s, .string t]] w (RetPost (ixR xs ys).1 (ixR xs ys).2 w) := by
  have HR1 := Lib.hid (fun W => runes_own (runes_any s (by omega) W) xs hx)
  have HR2 := Lib.hid (fun W => runes_own (runes_any t (by omega) W) ys hy)
  have hlx : xs.length ≤ 900000 := by have := runes_length hx; simp at this; omega
  have hly : ys.length ≤ 900000 := by have := runes_length hy; simp at this; omega
  have H0 := Lib.hid (T2.start w s t)
  clear hx hy hs ht
  go_enter Tryz.func58, Tryz.ntmps58
  go_wp2_with fail
  refine (HR1.out _).mono ?_
  rintro e1 w1 ⟨hb1, v1, rfl, ho1⟩
  obtain ⟨D1, d1, rfl, hdn1, hdl1, hdm1, hrs1⟩ := own_open ho1
  have H1 := Lib.hid (H0.out.next hb1)
  have HS1 := Lib.hid (show Rs w1 (· < w1.heap.size) D1 (iv xs) from hrs1.move fun b hb => ⟨hb.2.1, rfl⟩)
  clear hb1 ho1 hrs1 hdn1
  obtain ⟨p0, p1⟩ : w1.cell? ⟨w.heap.size, 0, none⟩ = some (.string s) ∧ w1.cell? ⟨w.heap.size, 1, none⟩ = some (.string t) := ⟨H1.out.x.cell rfl, H1.out.x.cell rfl⟩
  go_wp2_with fail
  refine (HR2.out _).mono ?_
  rintro e2 w2 ⟨hb2, v2, rfl, ho2⟩
  obtain ⟨D2, d2, rfl, hdn2, hdl2, hdm2, hrs2⟩ := own_open ho2
  have H2 := Lib.hid (H1.out.next hb2)
  have HS2 := Lib.hid (show Rs w2 (· < w2.heap.size) D2 (iv ys) from hrs2.move fun b hb => ⟨hb.2.1, rfl⟩)
  have HS3 := Lib.hid (show Rs w2 (· < w2.heap.size) D1 (iv xs) from HS1.out.move fun b hb => ⟨Nat.lt_of_lt_of_le hb hb2.size, hb2.block b hb⟩)
  have HOC := Lib.hid (ret_open (occ_both D1 D2 d1 d2 xs ys w2 HS3.out HS2.out hdl1 hdm1 (by omega) (by omega)))
  clear hb2 ho2 hrs2 hdn2 p0 p1
  go_wp2_with fail
  refine HOC.out.mono ?_
  rintro e3 w3 ⟨rk, rn, rs, rks, res, RA, ra, RC, rc, hrv, rfl, hb3, hl3⟩
  have H3 := Lib.hid (H2.out.next hb3)
  have HL := Lib.hid hl3
  have hs2 := H2.out.r.lt
  have hs3 := H2.out.below.size
  clear hb3 hl3 hrv
  obtain ⟨y0, y1, y2, y3, y4⟩ := box5 H3.out.r
  have z0 := H3.out.r.free 0
  have z1 := H3.out.r.free 1
  have z2 := H3.out.r.free 2
  have z3 := H3.out.r.free 3
  have z4 := H3.out.r.free 4
  go_wp2_with fail
  refine bodyPost_ret (v := .tuple #[.agg #[.int .i64 rk, .int .i64 rn, .string rs, .slice RA rks.length ra, .slice RC res.length rc], .int .i64 (ixR xs ys).2]) (by simp [results, Tryz.results58, go_sem, y0, y1, y2, y3, y4]) rfl ?_
  exact ret_put H3.out.below (by omega) H3.out.r.lt (HL.out.move fun b hb => ⟨⟨by omega, hb.2, by omega⟩, rfl⟩)
set_option maxHeartbeats 4000000 in
set_option maxRecDepth 100000 in
/-- Indices at a first argument that is no array. -/
theorem top_Indices (v u r : V) (er : Int) (cs ds : List Value) (w : World) (h : Lies w (· < w.heap.size) v cs) (h' : Lies w (· < w.heap.size) u ds) (h5 : ¬ kd v = 5)
    (HC : ∀ W, Below w.heap.size w W → Calls Tryz.prog 26 #[.int .i64 11, .agg cs.toArray, .agg ds.toArray] W (RetPost r er W)) :
    Calls Tryz.prog 15 #[.agg cs.toArray, .agg ds.toArray] w (RetPost r er w) := by
  have HM := Lib.hid (fun W hW => ret_open (HC W hW))
  clear HC
  obtain ⟨k, n, s, ks, es⟩ := v
  obtain ⟨k2, n2, s2, ks2, es2⟩ := u
  obtain ⟨A, a, B, b, xs, rfl, _⟩ := lies_open h
  obtain ⟨A2, a2, B2, b2', ys, rfl, _⟩ := lies_open h'
  clear h h'
  have H0 := Lib.hid (B3.start w #[.int .i64 k, .int .i64 n, .string s, .slice A ks.length a, .slice B es.length b] #[.int .i64 k2, .int .i64 n2, .string s2, .slice A2 ks2.length a2, .slice B2 es2.length b2'])
  have hk5 : ¬ k = 5 := h5
  have q : (k == 5) = false := by simpa using hk5
  have q2 : (k != 5) = true := by simp [hk5]
  clear h5
  go_enter Tryz.func15, Tryz.ntmps15
  go_wp2_with fail
  refine (HM.out _ H0.out.below).mono ?_
  rintro e1 w1 ⟨rk, rn, rs, rks, res, RA, ra, RC, rc, hrv, rfl, hb1, hl1⟩
  have H1 := Lib.hid (H0.out.next hb1)
  have HL := Lib.hid hl1
  have hs1 := H0.out.r.lt
  have hs2 := H1.out.r.lt
  have hs3 := H0.out.below.size
  clear hb1 hl1 hrv
  obtain ⟨y0, y1, y2, y3, y4⟩ := box5 H1.out.r
  have z0 := H1.out.r.free 0
  have z1 := H1.out.r.free 1
  have z2 := H1.out.r.free 2
  have z3 := H1.out.r.free 3
  have z4 := H1.out.r.free 4
  obtain ⟨t0, t1, t2, t3, t4⟩ := box5 H1.out.x
  obtain ⟨u0, u1, u2, u3, u4⟩ := box5 H1.out.y
  go_wp2_with fail
  refine bodyPost_ret (v := .tuple #[.agg #[.int .i64 rk, .int .i64 rn, .string rs, .slice RA rks.length ra, .slice RC res.length rc], .int .i64 er]) (by simp [results, Tryz.results15, go_sem, y0, y1, y2, y3, y4]) rfl ?_
  exact ret_put H1.out.below (by omega) H1.out.r.lt (HL.out.move fun b hb => ⟨⟨by omega, hb.2, by omega⟩, rfl⟩)
/-- The string that law 8 makes. -/
theorem str8_any (s : ByteArray) (w : World) : Calls Tryz.prog 11 #[.string s] w fun e w' => e = .returned (.agg #[.int .i64 4, .int .i64 0, .string s, .slice none 0 0, .slice none 0 0]) ∧ Below w.heap.size w w' := by
  go_enter Tryz.func11, Tryz.ntmps11
  go_wp2_with fail
  refine bodyPost_ret (v := .agg #[.int .i64 4, .int .i64 0, .string s, .slice none 0 0, .slice none 0 0]) (by simp [results, Tryz.results11, go_sem]) rfl ⟨rfl, ?_⟩
  exact (Below.refl _ _).alloc (Nat.le_refl _) _
theorem on_ok {s t : ByteArray} (hs : valid (strV s) = true) (ht : valid (strV t) = true) (R : V × Int) : onR (strV s) (strV t) R = R := by
  unfold onR
  rw [if_pos hs, if_pos ht, if_pos (show kd (strV s) = 4 from rfl), if_pos (show kd (strV t) = 4 from rfl)]
/-- The cells of a string that law 8 makes. -/
def sc (s : ByteArray) : List Value := [.int .i64 4, .int .i64 0, .string s, .slice none 0 0, .slice none 0 0]
theorem cutp_two (a b : ByteArray) (ha : valid (strV a) = true) (hab : valid (strV (a ++ b)) = true) (hb : okS b = true) (hb4 : b.size ≤ 4096) (w : World) (h1 : (a ++ b).size ≤ 100000) (h2 : a.size ≤ 100000) :
    Calls Tryz.prog 16 #[.agg (sc (a ++ b)).toArray, .agg (sc a).toArray] w (RetPost (strV b) 0 w) :=
  top_CutPrefix (strV (a ++ b)) (strV a) _ _ _ _ w (lies_str _ _ _ (by omega)) (lies_str _ _ _ (by omega)) fun W hW =>
    cut_ok 8 (strV (a ++ b)) (strV a) _ _ _ W (lies_str _ _ _ (by omega)) (lies_str _ _ _ (by omega)) fun W2 hW2 => by
    have := on_cutPrefix (strV (a ++ b)) (strV a) (strV b, 0) (sc (a ++ b)) (sc a) W2 (lies_str _ _ _ (by omega)) (lies_str _ _ _ (by omega)) fun _ _ _ _ W' => by
      have := m_cutPrefix (a ++ b) a b W' (cat_cutp a b) (by omega)
      rw [(str_ok hb hb4).1, (str_ok hb hb4).2] at this
      exact this
    rw [on_ok hab ha] at this
    exact this
/-- Indices of two strings. -/
theorem indices_two (s t : ByteArray) (xs ys : List Nat) (hs : valid (strV s) = true) (ht : valid (strV t) = true) (hx : runes s.data.toList = some xs) (hy : runes t.data.toList = some ys) (h1 : s.size ≤ 100000) (h2 : t.size ≤ 100000) (w : World) :
    Calls Tryz.prog 15 #[.agg (sc s).toArray, .agg (sc t).toArray] w (RetPost (ixR xs ys).1 (ixR xs ys).2 w) :=
  top_Indices (strV s) (strV t) _ _ _ _ w (lies_str _ _ _ (by omega)) (lies_str _ _ _ (by omega)) (show ¬ kd (strV s) = 5 from (by decide : ¬ (4 : Int) = 5)) fun W hW => by
    have := on_indices (strV s) (strV t) (ixR xs ys) (sc s) (sc t) W (lies_str _ _ _ (by omega)) (lies_str _ _ _ (by omega)) fun _ _ _ _ W' => m_indices s t xs ys W' hx hy (by omega) (by omega)
    rw [on_ok hs ht] at this
    exact this
end Go.Proofs.YtfmpdcmedaiooaaGreatDoor
namespace Go.Proofs.YtfmpdcmedaiooaaGreatDoor
open Go.RowKit Go.Shelf Go.Sort
set_option maxHeartbeats 4000000 in
set_option maxRecDepth 100000 in
theorem m_explode (s t : ByteArray) (xs : List Nat) (w : World) (hx : runes s.data.toList = some xs) (hs : s.size ≤ 900000) : Calls Tryz.prog 47 #[.agg #[.string s, .string t]] w (RetPost (arrR ((xs.map Int.ofNat).map numV)) (arrE ((xs.map Int.ofNat).map numV)) w) := by
  have HR1 := Lib.hid (fun W => runes_own (runes_any s (by omega) W) xs hx)
  have hlx : xs.length ≤ 900000 := by have := runes_length hx; simp at this; omega
  have H0 := Lib.hid (T2.start w s t)
  have HNU := Lib.hid (fun A c W hR => ret_open (numbers_any A c xs.length (xs.map Int.ofNat) W hR (by simp) (by omega)))
  clear hx hs
  generalize (xs.map Int.ofNat).map numV = R at HNU ⊢
  go_enter Tryz.func47, Tryz.ntmps47
  go_wp2_with fail
  refine (HR1.out _).mono ?_
  rintro e1 w1 ⟨hb1, v1, rfl, ho1⟩
  obtain ⟨D1, d1, rfl, hdn1, hdl1, hdm1, hrs1⟩ := own_open ho1
  have H1 := Lib.hid (H0.out.next hb1)
  have HS1 := Lib.hid (show Rs w1 (· < w1.heap.size) D1 (zvs (xs.map Int.ofNat)) by rw [← iv_zvs]; exact hrs1.move fun b hb => ⟨hb.2.1, rfl⟩)
  clear hb1 ho1 hrs1 hdn1 hdl1 hdm1
  go_wp2_with fail
  refine (HNU.out _ _ _ HS1.out).mono ?_
  rintro e3 w3 ⟨rk, rn, rs, rks, res, RA, ra, RC, rc, hrv, rfl, hb3, hl3⟩
  have H3 := Lib.hid (H1.out.next hb3)
  have HL := Lib.hid hl3
  have hs2 := H1.out.r.lt
  have hs3 := H1.out.below.size
  clear hb3 hl3 hrv
  obtain ⟨y0, y1, y2, y3, y4⟩ := box5 H3.out.r
  have z0 := H3.out.r.free 0
  have z1 := H3.out.r.free 1
  have z2 := H3.out.r.free 2
  have z3 := H3.out.r.free 3
  have z4 := H3.out.r.free 4
  go_wp2_with fail
  refine bodyPost_ret (v := .tuple #[.agg #[.int .i64 rk, .int .i64 rn, .string rs, .slice RA rks.length ra, .slice RC res.length rc], .int .i64 (arrE R)]) (by simp [results, Tryz.results47, go_sem, y0, y1, y2, y3, y4]) rfl ?_
  exact ret_put H3.out.below (by omega) H3.out.r.lt (HL.out.move fun b hb => ⟨⟨by omega, hb.2, by omega⟩, rfl⟩)
end Go.Proofs.YtfmpdcmedaiooaaGreatDoor
namespace Go.Proofs.YtfmpdcmedaiooaaGreatDoor
open Go.RowKit Go.Sort
theorem valid_of {s : ByteArray} (h : okS s = true) (hs : s.size ≤ 4096) : valid (strV s) = true := valid_str h hs
theorem ix_aaa : ixR [97, 97, 97] [97, 97] = (arrV [numV 0, numV 1], 0) := by
  have : (occ ([97, 97, 97].map Int.ofNat) ([97, 97].map Int.ofNat) ([97, 97, 97].length + 1 - [97, 97].length)).map numV = [numV 0, numV 1] := by
    have h0 : occ ([97, 97, 97].map Int.ofNat) ([97, 97].map Int.ofNat) ([97, 97, 97].length + 1 - [97, 97].length) = [0, 1] := by decide +kernel
    rw [h0]
    rfl
  unfold ixR
  rw [if_neg (by decide), this]
  have h1 : arrR [numV 0, numV 1] = arrV [numV 0, numV 1] := (arrR_ok (by decide +kernel)).1.trans (finV_ok (by decide +kernel))
  have h2 : arrE [numV 0, numV 1] = 0 := (arrR_ok (by decide +kernel)).2.trans (finE_ok (by decide +kernel))
  rw [h1, h2]
/-- The answer to Indices("aaa", "aa"), its second number at hand. -/
theorem ix8 (w : World) : Calls Tryz.prog 15 #[.agg (sc ⟨#[97, 97, 97]⟩).toArray, .agg (sc ⟨#[97, 97]⟩).toArray] w fun e w' => ∃ (A : Option Addr) (a : Nat) (b o c : Nat), e = .returned (.tuple #[.agg #[.int .i64 5, .int .i64 0, .string ⟨#[]⟩, .slice A 0 a, .slice (some ⟨b, o, none⟩) 2 c], .int .i64 0]) ∧ Below w.heap.size w w' ∧ b < w'.heap.size ∧ w'.cell? ⟨b, o + 6, none⟩ = some (.int .i64 1) := by
  have h := indices_two ⟨#[97, 97, 97]⟩ ⟨#[97, 97]⟩ [97, 97, 97] [97, 97] (valid_of (by decide +kernel) (by decide)) (valid_of (by decide +kernel) (by decide)) (by decide +kernel) (by decide +kernel) (by decide) (by decide) w
  rw [ix_aaa] at h
  refine h.mono fun e w' hp => ?_
  obtain ⟨hb, ds, rfl, hl⟩ := hp
  have hl2 := hl
  unfold arrV at hl2
  obtain ⟨A, a, B, b, xs, rfl, _, _, _, _, _, hrs, hll⟩ := lies_open hl2
  obtain ⟨c, hc, hat⟩ := hll.at_ (i := 1) (e := numV 1) rfl
  unfold numV at hc
  obtain ⟨A3, a3, B3, b3, ys, rfl, _⟩ := lies_open hc
  have h6 := hat 1 (by decide)
  obtain ⟨b0, o0, rfl, hb0, hcell⟩ := hrs.at_ (j := 6) (u := .int .i64 1) (by simpa using h6)
  exact ⟨A, a, b0, o0, b, rfl, hb, hb0.2, hcell⟩
theorem cut8 (w : World) : Calls Tryz.prog 16 #[.agg (sc ⟨#[97, 98, 99]⟩).toArray, .agg (sc ⟨#[97, 98]⟩).toArray] w (RetPost (strV ⟨#[99]⟩) 0 w) := by
  have h := cutp_two ⟨#[97, 98]⟩ ⟨#[99]⟩ (valid_of (by decide +kernel) (by decide)) (valid_of (by decide +kernel) (by decide)) (by decide +kernel) (by decide) w (by decide) (by decide)
  have e : (⟨#[97, 98]⟩ ++ ⟨#[99]⟩ : ByteArray) = ⟨#[97, 98, 99]⟩ := by decide +kernel
  rw [e] at h
  exact h
set_option maxHeartbeats 4000000 in
set_option maxRecDepth 100000 in
theorem awake8_any (w : World) : Calls Tryz.prog 6 #[] w fun e w' => e = .returned (.bool true) ∧ Below w.heap.size w w' := by
  have HS := Lib.hid (fun (s : ByteArray) W => str8_any s W)
  have HI := Lib.hid (fun W => ix8 W)
  have HC := Lib.hid (fun W => str_open (cut8 W))
  unfold sc at HI HC
  go_enter Tryz.func6, Tryz.ntmps6
  go_wp2_with fail
  refine (HS.out _ _).mono ?_
  rintro e1 w1 ⟨rfl, hb1⟩
  go_wp2_with fail
  refine (HS.out _ _).mono ?_
  rintro e2 w2 ⟨rfl, hb2⟩
  have HB2 := Lib.hid (chain hb1 hb2)
  clear hb1 hb2
  go_wp2_with fail
  refine (HI.out _).mono ?_
  rintro e3 w3 ⟨A, a, b, o, c, rfl, hb3, hlt3, hc3⟩
  have HB3 := Lib.hid (chain HB2.out (chain hb3 (below1 w3 (.cells #[.int .i64 5, .int .i64 0, .string ⟨#[]⟩, .slice A 0 a, .slice (some ⟨b, o, none⟩) 2 c] 25))))
  have HX := Lib.hid (Box.laid w3 25 #[.int .i64 5, .int .i64 0, .string ⟨#[]⟩, .slice A 0 a, .slice (some ⟨b, o, none⟩) 2 c])
  have HC3 := Lib.hid (((below1 w3 (.cells #[.int .i64 5, .int .i64 0, .string ⟨#[]⟩, .slice A 0 a, .slice (some ⟨b, o, none⟩) 2 c] 25)).cell (p := ⟨b, o + 6, none⟩) hlt3).trans hc3)
  have HLT := Lib.hid (show b < (w3.alloc (.cells #[.int .i64 5, .int .i64 0, .string ⟨#[]⟩, .slice A 0 a, .slice (some ⟨b, o, none⟩) 2 c] 25)).heap.size by simp; omega)
  clear hb3 hlt3 hc3 HB2
  go_wp2_with fail
  refine (HS.out _ _).mono ?_
  rintro e4 w4 ⟨rfl, hb4⟩
  go_wp2_with fail
  refine (HS.out _ _).mono ?_
  rintro e5 w5 ⟨rfl, hb5⟩
  have HB5 := Lib.hid (chain hb4 hb5)
  clear hb4 hb5
  go_wp2_with fail
  refine (HC.out _).mono ?_
  rintro e6 w6 ⟨A2, a2, B2, b2, rfl, hb6, -⟩
  have HB6 := Lib.hid (chain (chain HB5.out hb6) (below1 w6 (.cells #[.int .i64 4, .int .i64 0, .string ⟨#[99]⟩, .slice A2 0 a2, .slice B2 0 b2] 25)))
  have HY := Lib.hid (Box.laid w6 25 #[.int .i64 4, .int .i64 0, .string ⟨#[99]⟩, .slice A2 0 a2, .slice B2 0 b2])
  have HX6 := Lib.hid (HX.out.below HB6.out HX.out.lt)
  have hc6 := (HB6.out.cell (p := ⟨b, o + 6, none⟩) HLT.out).trans HC3.out
  clear hb6 HC3 HX HLT HB5
  obtain ⟨x0, x1, x2, x3, x4⟩ := box5 HX6.out
  obtain ⟨y0, y1, y2, y3, y4⟩ := box5 HY.out
  have hc7 : (w6.alloc (.cells #[.int .i64 4, .int .i64 0, .string ⟨#[99]⟩, .slice A2 0 a2, .slice B2 0 b2] 25)).cell? ⟨b, o + 5 + 1, none⟩ = some (.int .i64 1) := hc6
  clear hc6
  go_wp2_with fail
  go_ret
  exact ⟨rfl, chain HB3.out HB6.out⟩
end Go.Proofs.YtfmpdcmedaiooaaGreatDoor

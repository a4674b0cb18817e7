/- text: the functions of the list that ask for a beginning or an end. -/
import Derived.Test.YtjafmdngbphacaaGreatDoorC27
import Derived.Test.YtjafmdngbphacaaGreatDoorC28
import Derived.Test.YtjafmdngbphacaaGreatDoorC29
set_option linter.unusedVariables false
set_option linter.unusedSimpArgs false
namespace Go.Proofs.YtjafmdngbphacaaGreatDoor
open Go.RowKit Go.Sort
/-- The blocks of a function on two strings. -/
structure T2 (w : World) (s t : ByteArray) (W : World) : Prop where
  below : Below w.heap.size w W
  x : Box W w.heap.size 126 #[.string s, .string t]
  r : Box W (w.heap.size + 1) 25 #[.int .i64 0, .int .i64 0, .string ⟨#[]⟩, .slice none 0 0, .slice none 0 0]
theorem T2.start (w : World) (s t : ByteArray) : T2 w s t ((w.alloc (.cells #[.string s, .string t] 126)).alloc (.cells #[.int .i64 0, .int .i64 0, .string ⟨#[]⟩, .slice none 0 0, .slice none 0 0] 25)) :=
  ⟨(((Below.refl _ _).alloc (Nat.le_refl _) _).alloc (by simp) _), (Box.laid w _ _).alloc _, box_at _ _ _ _ (by simp)⟩
theorem T2.next {w W W' : World} {s t : ByteArray} (h : T2 w s t W) (hb : Below W.heap.size W W') : T2 w s t W' :=
  ⟨chain h.below hb, h.x.below hb h.x.lt, h.r.below hb h.r.lt⟩
set_option maxHeartbeats 4000000 in
set_option maxRecDepth 100000 in
theorem m_startsWith (s t : ByteArray) (w : World) : Calls Tryz.prog 203 #[.agg #[.string s, .string t]] w (RetPost (boolV (Lib.hasPrefix s.data.toList t.data.toList)) 0 w) := by
  have HP := Lib.hid (fun W => hasPre_lib s t W)
  have HB := Lib.hid (fun (b : Bool) W => bool_any b W)
  have H0 := Lib.hid (T2.start w s t)
  generalize Lib.hasPrefix s.data.toList t.data.toList = b at HP ⊢
  go_enter Tryz.func203, Tryz.ntmps203
  go_wp2_with fail
  refine (HP.out _).mono ?_
  rintro e1 w1 ⟨rfl, hw1⟩
  rw [hw1]
  clear hw1
  go_wp2_with fail
  refine (HB.out _ _).mono ?_
  rintro e2 w2 ⟨rfl, hb2⟩
  obtain ⟨q, hq⟩ : ∃ q : Int, (if b = true then (2 : Int) else 1) = q := ⟨_, rfl⟩
  have HQ := Lib.hid (fun W S => lies_boolv W S b)
  rw [hq] at HQ ⊢
  clear hq
  have H2 := Lib.hid (H0.out.next hb2)
  have hs2 := H2.out.r.lt
  clear hb2
  obtain ⟨y0, y1, y2, y3, y4⟩ := box5 H2.out.r
  have z0 := H2.out.r.free 0
  have z1 := H2.out.r.free 1
  have z2 := H2.out.r.free 2
  have z3 := H2.out.r.free 3
  have z4 := H2.out.r.free 4
  go_wp2_with fail
  refine bodyPost_ret (v := .tuple #[.agg #[.int .i64 q, .int .i64 0, .string ⟨#[]⟩, .slice none 0 0, .slice none 0 0], .int .i64 0]) (by simp [results, Tryz.results203, go_sem, y0, y1, y2, y3, y4]) rfl ?_
  exact ret_put H2.out.below (by omega) H2.out.r.lt (HQ.out _ _)
set_option maxHeartbeats 4000000 in
set_option maxRecDepth 100000 in
theorem m_endsWith (s t : ByteArray) (w : World) (hs : s.size ≤ 9223372036854775807) : Calls Tryz.prog 204 #[.agg #[.string s, .string t]] w (RetPost (boolV (Lib.hasSuffix s.data.toList t.data.toList)) 0 w) := by
  have HP := Lib.hid (fun W => hasSuf_lib s t W hs)
  have HB := Lib.hid (fun (b : Bool) W => bool_any b W)
  have H0 := Lib.hid (T2.start w s t)
  generalize Lib.hasSuffix s.data.toList t.data.toList = b at HP ⊢
  go_enter Tryz.func204, Tryz.ntmps204
  go_wp2_with fail
  refine (HP.out _).mono ?_
  rintro e1 w1 ⟨rfl, hw1⟩
  rw [hw1]
  clear hw1
  go_wp2_with fail
  refine (HB.out _ _).mono ?_
  rintro e2 w2 ⟨rfl, hb2⟩
  obtain ⟨q, hq⟩ : ∃ q : Int, (if b = true then (2 : Int) else 1) = q := ⟨_, rfl⟩
  have HQ := Lib.hid (fun W S => lies_boolv W S b)
  rw [hq] at HQ ⊢
  clear hq
  have H2 := Lib.hid (H0.out.next hb2)
  have hs2 := H2.out.r.lt
  clear hb2
  obtain ⟨y0, y1, y2, y3, y4⟩ := box5 H2.out.r
  have z0 := H2.out.r.free 0
  have z1 := H2.out.r.free 1
  have z2 := H2.out.r.free 2
  have z3 := H2.out.r.free 3
  have z4 := H2.out.r.free 4
  go_wp2_with fail
  refine bodyPost_ret (v := .tuple #[.agg #[.int .i64 q, .int .i64 0, .string ⟨#[]⟩, .slice none 0 0, .slice none 0 0], .int .i64 0]) (by simp [results, Tryz.results204, go_sem, y0, y1, y2, y3, y4]) rfl ?_
  exact ret_put H2.out.below (by omega) H2.out.r.lt (HQ.out _ _)
set_option maxHeartbeats 4000000 in
set_option maxRecDepth 100000 in
theorem m_cutPrefix (s t r : ByteArray) (w : World) (hr : (⟨(Lib.trimPrefix s.data.toList t.data.toList).toArray⟩ : ByteArray) = r) (hr2 : r.size ≤ 140737488355328) : Calls Tryz.prog 205 #[.agg #[.string s, .string t]] w (RetPost (strR r) (strE r) w) := by
  have HP := Lib.hid (fun W => trimPre_lib s t W)
  rw [hr] at HP
  have HB := Lib.hid (fun W => ret_open (str_any r W hr2))
  have H0 := Lib.hid (T2.start w s t)
  clear hr hr2
  go_enter Tryz.func205, Tryz.ntmps205
  go_wp2_with fail
  refine (HP.out _).mono ?_
  rintro e1 w1 ⟨rfl, hw1⟩
  rw [hw1]
  clear hw1
  go_wp2_with fail
  refine (HB.out _).mono ?_
  rintro e2 w2 ⟨rk, rn, rs, rks, res, RA, ra, RC, rc, hrv, rfl, hb2, hl2⟩
  have H2 := Lib.hid (H0.out.next hb2)
  have HL := Lib.hid hl2
  have hs2 := H2.out.r.lt
  clear hb2 hl2 hrv
  obtain ⟨y0, y1, y2, y3, y4⟩ := box5 H2.out.r
  have z0 := H2.out.r.free 0
  have z1 := H2.out.r.free 1
  have z2 := H2.out.r.free 2
  have z3 := H2.out.r.free 3
  have z4 := H2.out.r.free 4
  go_wp2_with fail
  refine bodyPost_ret (v := .tuple #[.agg #[.int .i64 rk, .int .i64 rn, .string rs, .slice RA rks.length ra, .slice RC res.length rc], .int .i64 (strE r)]) (by simp [results, Tryz.results205, go_sem, y0, y1, y2, y3, y4]) rfl ?_
  exact ret_put H2.out.below (by omega) H2.out.r.lt (HL.out.move fun b hb => ⟨⟨by have := hb.1; simp at this; omega, hb.2, by have := hb.1; simp at this; omega⟩, rfl⟩)
set_option maxHeartbeats 4000000 in
set_option maxRecDepth 100000 in
theorem m_cutSuffix (s t r : ByteArray) (w : World) (hs : s.size ≤ 9223372036854775807) (hr : (⟨(Lib.trimSuffix s.data.toList t.data.toList).toArray⟩ : ByteArray) = r) (hr2 : r.size ≤ 140737488355328) : Calls Tryz.prog 206 #[.agg #[.string s, .string t]] w (RetPost (strR r) (strE r) w) := by
  have HP := Lib.hid (fun W => trimSuf_lib s t W hs)
  rw [hr] at HP
  have HB := Lib.hid (fun W => ret_open (str_any r W hr2))
  have H0 := Lib.hid (T2.start w s t)
  clear hr hr2
  go_enter Tryz.func206, Tryz.ntmps206
  go_wp2_with fail
  refine (HP.out _).mono ?_
  rintro e1 w1 ⟨rfl, hw1⟩
  rw [hw1]
  clear hw1
  go_wp2_with fail
  refine (HB.out _).mono ?_
  rintro e2 w2 ⟨rk, rn, rs, rks, res, RA, ra, RC, rc, hrv, rfl, hb2, hl2⟩
  have H2 := Lib.hid (H0.out.next hb2)
  have HL := Lib.hid hl2
  have hs2 := H2.out.r.lt
  clear hb2 hl2 hrv
  obtain ⟨y0, y1, y2, y3, y4⟩ := box5 H2.out.r
  have z0 := H2.out.r.free 0
  have z1 := H2.out.r.free 1
  have z2 := H2.out.r.free 2
  have z3 := H2.out.r.free 3
  have z4 := H2.out.r.free 4
  go_wp2_with fail
  refine bodyPost_ret (v := .tuple #[.agg #[.int .i64 rk, .int .i64 rn, .string rs, .slice RA rks.length ra, .slice RC res.length rc], .int .i64 (strE r)]) (by simp [results, Tryz.results206, go_sem, y0, y1, y2, y3, y4]) rfl ?_
  exact ret_put H2.out.below (by omega) H2.out.r.lt (HL.out.move fun b hb => ⟨⟨by have := hb.1; simp at this; omega, hb.2, by have := hb.1; simp at this; omega⟩, rfl⟩)
end Go.Proofs.YtjafmdngbphacaaGreatDoor

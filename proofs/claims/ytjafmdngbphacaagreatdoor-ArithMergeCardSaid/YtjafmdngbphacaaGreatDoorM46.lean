/- arith.Merge. -/
import Derived.Test.YtjafmdngbphacaaGreatDoorM45
import Derived.Test.YtjafmdngbphacaaGreatDoorM43
import Derived.Test.YtjafmdngbphacaaGreatDoorM38
set_option linter.unusedVariables false
set_option linter.unusedSimpArgs false
namespace Go.Proofs.YtjafmdngbphacaaGreatDoor
open Go.RowKit Go.Sort
/-- What Merge is. -/
def mergeR (v u : V) : V × Int := if valid v = true then (if valid u = true then (if kd v = 6 then (if kd u = 6 then mrg v u else (vnull, 12)) else (vnull, 12)) else (vnull, 1)) else (vnull, 1)
set_option maxHeartbeats 4000000 in
set_option maxRecDepth 100000 in
theorem mergeTop_any (v u : V) (cs ds : List Value) (w : World) (h : Lies w (· < w.heap.size) v cs) (h' : Lies w (· < w.heap.size) u ds) :
    Calls Tryz.prog 19 #[.agg cs.toArray, .agg ds.toArray] w (RetPost (mergeR v u).1 (mergeR v u).2 w) := by
  have HV := Lib.hid (fun W (hW : Below w.heap.size w W) => valid_any v cs W (below_lies hW h))
  have HU := Lib.hid (fun W (hW : Below w.heap.size w W) => valid_any u ds W (below_lies hW h'))
  have HM := Lib.hid (fun (hv : valid v = true) (hu : valid u = true) (h6 : kd v = 6) (h62 : kd u = 6) W (hW : Below w.heap.size w W) => ret_open (merge_any u v cs ds W (below_lies hW h) (below_lies hW h') hv hu h6 h62))
  unfold mergeR
  obtain ⟨k, n, s, ks, es⟩ := v
  obtain ⟨k2, n2, s2, ks2, es2⟩ := u
  obtain ⟨A, a, B, b, xs, rfl, _⟩ := lies_open h
  obtain ⟨A2, a2, B2, b2', ys, rfl, _⟩ := lies_open h'
  clear h h'
  have H0 := Lib.hid (B3.start w #[.int .i64 k, .int .i64 n, .string s, .slice A ks.length a, .slice B es.length b] #[.int .i64 k2, .int .i64 n2, .string s2, .slice A2 ks2.length a2, .slice B2 es2.length b2'])
  have hkd : kd (V.mk k n s ks es) = k := rfl
  have hkd2 : kd (V.mk k2 n2 s2 ks2 es2) = k2 := rfl
  rw [hkd, hkd2]
  rw [hkd, hkd2] at HM
  clear hkd hkd2
  by_cases hv : valid (V.mk k n s ks es) = true
  · rw [if_pos hv]
    rw [hv] at HV
    by_cases hu : valid (V.mk k2 n2 s2 ks2 es2) = true
    · rw [if_pos hu]
      rw [hu] at HU
      have HM2 := Lib.hid (HM.out hv hu)
      clear hv hu HM
      generalize mrg (V.mk k n s ks es) (V.mk k2 n2 s2 ks2 es2) = R at HM2 ⊢
      by_cases c6 : k = 6
      · rw [if_pos c6]
        by_cases c62 : k2 = 6
        · rw [if_pos c62]
          have HM3 := Lib.hid (HM2.out c6 c62)
          clear HM2
          subst c6 c62
          go_enter Tryz.func19, Tryz.ntmps19
          go_wp2_with fail
          refine (HV.out _ H0.out.below).mono ?_
          rintro e1 w1 ⟨rfl, hb1⟩
          have H1 := Lib.hid (H0.out.next hb1)
          clear hb1
          obtain ⟨y0, y1, y2, y3, y4⟩ := box5 H1.out.r
          have z0 := H1.out.r.free 0
          have z1 := H1.out.r.free 1
          have z2 := H1.out.r.free 2
          have z3 := H1.out.r.free 3
          have z4 := H1.out.r.free 4
          obtain ⟨t0, t1, t2, t3, t4⟩ := box5 H1.out.x
          obtain ⟨u0, u1, u2, u3, u4⟩ := box5 H1.out.y
          go_wp2_with fail
          refine (HU.out _ H1.out.below).mono ?_
          rintro e2 w2 ⟨rfl, hb2⟩
          have H2 := Lib.hid (H1.out.next hb2)
          clear hb2 y0 y1 y2 y3 y4 z0 z1 z2 z3 z4 t0 t1 t2 t3 t4 u0 u1 u2 u3 u4
          obtain ⟨y0, y1, y2, y3, y4⟩ := box5 H2.out.r
          have z0 := H2.out.r.free 0
          have z1 := H2.out.r.free 1
          have z2 := H2.out.r.free 2
          have z3 := H2.out.r.free 3
          have z4 := H2.out.r.free 4
          obtain ⟨t0, t1, t2, t3, t4⟩ := box5 H2.out.x
          obtain ⟨u0, u1, u2, u3, u4⟩ := box5 H2.out.y
          go_wp2_with fail
          refine (HM3.out _ H2.out.below).mono ?_
          rintro e3 w3 ⟨rk, rn, rs, rks, res, RA, ra, RC, rc, hrv, rfl, hb3, hl3⟩
          have H3 := Lib.hid (H2.out.next hb3)
          have HL := Lib.hid hl3
          have hs2 := H2.out.r.lt
          have hs3 := H2.out.below.size
          clear hb3 hl3 hrv y0 y1 y2 y3 y4 z0 z1 z2 z3 z4 t0 t1 t2 t3 t4 u0 u1 u2 u3 u4
          obtain ⟨y0, y1, y2, y3, y4⟩ := box5 H3.out.r
          have z0 := H3.out.r.free 0
          have z1 := H3.out.r.free 1
          have z2 := H3.out.r.free 2
          have z3 := H3.out.r.free 3
          have z4 := H3.out.r.free 4
          obtain ⟨t0, t1, t2, t3, t4⟩ := box5 H3.out.x
          obtain ⟨u0, u1, u2, u3, u4⟩ := box5 H3.out.y
          go_wp2_with fail
          refine bodyPost_ret (v := .tuple #[.agg #[.int .i64 rk, .int .i64 rn, .string rs, .slice RA rks.length ra, .slice RC res.length rc], .int .i64 R.2]) (by simp [results, Tryz.results19, go_sem, y0, y1, y2, y3, y4]) rfl ?_
          exact ret_put H3.out.below (by omega) H3.out.r.lt (HL.out.move fun b hb => ⟨⟨by omega, hb.2, by omega⟩, rfl⟩)
        · rw [if_neg c62]
          have q : (k2 == 6) = false := by simpa using c62
          clear HM2
          subst c6
          go_enter Tryz.func19, Tryz.ntmps19
          go_wp2_with fail
          refine (HV.out _ H0.out.below).mono ?_
          rintro e1 w1 ⟨rfl, hb1⟩
          have H1 := Lib.hid (H0.out.next hb1)
          clear hb1
          obtain ⟨y0, y1, y2, y3, y4⟩ := box5 H1.out.r
          have z0 := H1.out.r.free 0
          have z1 := H1.out.r.free 1
          have z2 := H1.out.r.free 2
          have z3 := H1.out.r.free 3
          have z4 := H1.out.r.free 4
          obtain ⟨t0, t1, t2, t3, t4⟩ := box5 H1.out.x
          obtain ⟨u0, u1, u2, u3, u4⟩ := box5 H1.out.y
          go_wp2_with fail
          refine (HU.out _ H1.out.below).mono ?_
          rintro e2 w2 ⟨rfl, hb2⟩
          have H2 := Lib.hid (H1.out.next hb2)
          clear hb2 y0 y1 y2 y3 y4 z0 z1 z2 z3 z4 t0 t1 t2 t3 t4 u0 u1 u2 u3 u4
          obtain ⟨y0, y1, y2, y3, y4⟩ := box5 H2.out.r
          have z0 := H2.out.r.free 0
          have z1 := H2.out.r.free 1
          have z2 := H2.out.r.free 2
          have z3 := H2.out.r.free 3
          have z4 := H2.out.r.free 4
          obtain ⟨t0, t1, t2, t3, t4⟩ := box5 H2.out.x
          obtain ⟨u0, u1, u2, u3, u4⟩ := box5 H2.out.y
          go_wp2_with fail
          refine bodyPost_ret (v := .tuple #[.agg #[.int .i64 0, .int .i64 0, .string ⟨#[]⟩, .slice none 0 0, .slice none 0 0], .int .i64 12]) (by simp [results, Tryz.results19, go_sem, y0, y1, y2, y3, y4]) rfl ?_
          exact ret_put H2.out.below (by omega) H2.out.r.lt (lies_null _ _)
      · rw [if_neg c6]
        have q : (k == 6) = false := by simpa using c6
        clear HM2
        go_enter Tryz.func19, Tryz.ntmps19
        go_wp2_with fail
        refine (HV.out _ H0.out.below).mono ?_
        rintro e1 w1 ⟨rfl, hb1⟩
        have H1 := Lib.hid (H0.out.next hb1)
        clear hb1
        obtain ⟨y0, y1, y2, y3, y4⟩ := box5 H1.out.r
        have z0 := H1.out.r.free 0
        have z1 := H1.out.r.free 1
        have z2 := H1.out.r.free 2
        have z3 := H1.out.r.free 3
        have z4 := H1.out.r.free 4
        obtain ⟨t0, t1, t2, t3, t4⟩ := box5 H1.out.x
        obtain ⟨u0, u1, u2, u3, u4⟩ := box5 H1.out.y
        go_wp2_with fail
        refine (HU.out _ H1.out.below).mono ?_
        rintro e2 w2 ⟨rfl, hb2⟩
        have H2 := Lib.hid (H1.out.next hb2)
        clear hb2 y0 y1 y2 y3 y4 z0 z1 z2 z3 z4 t0 t1 t2 t3 t4 u0 u1 u2 u3 u4
        obtain ⟨y0, y1, y2, y3, y4⟩ := box5 H2.out.r
        have z0 := H2.out.r.free 0
        have z1 := H2.out.r.free 1
        have z2 := H2.out.r.free 2
        have z3 := H2.out.r.free 3
        have z4 := H2.out.r.free 4
        obtain ⟨t0, t1, t2, t3, t4⟩ := box5 H2.out.x
        obtain ⟨u0, u1, u2, u3, u4⟩ := box5 H2.out.y
        go_wp2_with fail
        refine bodyPost_ret (v := .tuple #[.agg #[.int .i64 0, .int .i64 0, .string ⟨#[]⟩, .slice none 0 0, .slice none 0 0], .int .i64 12]) (by simp [results, Tryz.results19, go_sem, y0, y1, y2, y3, y4]) rfl ?_
        exact ret_put H2.out.below (by omega) H2.out.r.lt (lies_null _ _)
    · rw [if_neg hu]
      have hu2 : valid (V.mk k2 n2 s2 ks2 es2) = false := by simpa using hu
      rw [hu2] at HU
      clear HM hv hu hu2
      go_enter Tryz.func19, Tryz.ntmps19
      go_wp2_with fail
      refine (HV.out _ H0.out.below).mono ?_
      rintro e1 w1 ⟨rfl, hb1⟩
      have H1 := Lib.hid (H0.out.next hb1)
      clear hb1
      obtain ⟨y0, y1, y2, y3, y4⟩ := box5 H1.out.r
      have z0 := H1.out.r.free 0
      have z1 := H1.out.r.free 1
      have z2 := H1.out.r.free 2
      have z3 := H1.out.r.free 3
      have z4 := H1.out.r.free 4
      obtain ⟨t0, t1, t2, t3, t4⟩ := box5 H1.out.x
      obtain ⟨u0, u1, u2, u3, u4⟩ := box5 H1.out.y
      go_wp2_with fail
      refine (HU.out _ H1.out.below).mono ?_
      rintro e2 w2 ⟨rfl, hb2⟩
      have H2 := Lib.hid (H1.out.next hb2)
      clear hb2 y0 y1 y2 y3 y4 z0 z1 z2 z3 z4 t0 t1 t2 t3 t4 u0 u1 u2 u3 u4
      obtain ⟨y0, y1, y2, y3, y4⟩ := box5 H2.out.r
      have z0 := H2.out.r.free 0
      have z1 := H2.out.r.free 1
      have z2 := H2.out.r.free 2
      have z3 := H2.out.r.free 3
      have z4 := H2.out.r.free 4
      obtain ⟨t0, t1, t2, t3, t4⟩ := box5 H2.out.x
      obtain ⟨u0, u1, u2, u3, u4⟩ := box5 H2.out.y
      go_wp2_with fail
      refine bodyPost_ret (v := .tuple #[.agg #[.int .i64 0, .int .i64 0, .string ⟨#[]⟩, .slice none 0 0, .slice none 0 0], .int .i64 1]) (by simp [results, Tryz.results19, go_sem, y0, y1, y2, y3, y4]) rfl ?_
      exact ret_put H2.out.below (by omega) H2.out.r.lt (lies_null _ _)
  · rw [if_neg hv]
    have hv2 : valid (V.mk k n s ks es) = false := by simpa using hv
    rw [hv2] at HV
    clear HM hv hv2
    go_enter Tryz.func19, Tryz.ntmps19
    go_wp2_with fail
    refine (HV.out _ H0.out.below).mono ?_
    rintro e1 w1 ⟨rfl, hb1⟩
    have H1 := Lib.hid (H0.out.next hb1)
    clear hb1
    obtain ⟨y0, y1, y2, y3, y4⟩ := box5 H1.out.r
    have z0 := H1.out.r.free 0
    have z1 := H1.out.r.free 1
    have z2 := H1.out.r.free 2
    have z3 := H1.out.r.free 3
    have z4 := H1.out.r.free 4
    obtain ⟨t0, t1, t2, t3, t4⟩ := box5 H1.out.x
    obtain ⟨u0, u1, u2, u3, u4⟩ := box5 H1.out.y
    go_wp2_with fail
    refine bodyPost_ret (v := .tuple #[.agg #[.int .i64 0, .int .i64 0, .string ⟨#[]⟩, .slice none 0 0, .slice none 0 0], .int .i64 1]) (by simp [results, Tryz.results19, go_sem, y0, y1, y2, y3, y4]) rfl ?_
    exact ret_put H1.out.below (by omega) H1.out.r.lt (lies_null _ _)
end Go.Proofs.YtjafmdngbphacaaGreatDoor

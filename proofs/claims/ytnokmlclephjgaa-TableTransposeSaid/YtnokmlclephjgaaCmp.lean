/- The program's compare, Compare, Equal, Truthy, TypeName. -/
import Derived.Test.YtnokmlclephjgaaSame
import Derived.Test.YtnokmlclephjgaaCmpP
import Derived.Test.YtnokmlclephjgaaMeas5
import Derived.Test.YtnokmlclephjgaaCalm
set_option linter.unusedVariables false
set_option linter.unusedSimpArgs false
namespace Go.Proofs.Ytnokmlclephjgaa
open Go.RowKit
def CmpOk (v : V) : Prop := ∀ (u : V) (cs ds : List Value) (w : World), Lies w (· < w.heap.size) v cs → Lies w (· < w.heap.size) u ds →
  Calls Try.prog 44 #[.agg cs.toArray, .agg ds.toArray] w fun e w' => e = .returned (.int .i64 (vcmp v u)) ∧ Below w.heap.size w w'
theorem calm_lies {w : World} (u : Calm w.heap.size w) {v : V} {cs : List Value} (h : Lies w (· < w.heap.size) v cs) : Lies u.val (· < u.val.heap.size) v cs := below_lies u.below h
/-- The two boxes that a call lays first. -/
theorem box_two {w w' : World} {cs ds : Array Value} {t : TypeId} (hb : Below (w.heap.size + 2) ((w.alloc (.cells cs t)).alloc (.cells ds t)) w') (i : Nat) : w'.cell? ⟨w.heap.size, i, none⟩ = cs[i]? ∧ w'.cell? ⟨w.heap.size + 1, i, none⟩ = ds[i]? := by
  refine ⟨?_, ?_⟩
  · rw [hb.cell (p := ⟨w.heap.size, i, none⟩) (by show w.heap.size < _; omega)]
    have h1 : Box ((w.alloc (.cells cs t)).alloc (.cells ds t)) w.heap.size t cs := (Box.laid w t cs).alloc _
    exact cell_of_row _ _ i cs t (0, 0) h1
  · rw [hb.cell (p := ⟨w.heap.size + 1, i, none⟩) (by show w.heap.size + 1 < _; omega)]
    have h1 : Box ((w.alloc (.cells cs t)).alloc (.cells ds t)) (w.alloc (.cells cs t)).heap.size t ds := Box.laid _ t ds
    have e : (w.alloc (.cells cs t)).heap.size = w.heap.size + 1 := by simp
    rw [e] at h1
    exact cell_of_row _ _ i ds t (0, 0) h1
theorem below_two {w w' : World} {o p : Obj} (hb : Below (w.heap.size + 2) ((w.alloc o).alloc p) w') : Below w.heap.size w w' := (below2 w o p).trans (hb.mono (by omega))
set_option maxHeartbeats 2000000 in
set_option maxRecDepth 100000 in
theorem compare_any : ∀ v : V, CmpOk v := by
  refine V.ind fun k n s ks es ih u cs ds w h1 h2 => ?_
  cases u with
  | mk k' n' s' ks' es' =>
    have hf := lies_fit _ _ h1
    have hg := lies_fit _ _ h2
    rw [V.Fit] at hf hg
    obtain ⟨_, _, f3, f4, _⟩ := hf
    obtain ⟨_, _, g3, g4, _⟩ := hg
    obtain ⟨A, a, B, b, xs, rfl, _, _, _, _, hA, hB, hL⟩ := lies_open h1
    obtain ⟨A', a', B', b', ys, rfl, _, _, _, _, hA', hB', hL'⟩ := lies_open h2
    have HS := Lib.hid (fun (W : World) (hb : Below w.heap.size w W) => slcmp_any A A' a a' ks ks' (· < w.heap.size) (· < w.heap.size) W (hA.move fun b h => ⟨h, hb.block b h⟩) (hA'.move fun b h => ⟨h, hb.block b h⟩) (by unfold maxLen; omega) (by unfold maxLen; omega))
    have HB := Lib.hid hB
    have HL := Lib.hid hL
    have HB' := Lib.hid hB'
    have HL' := Lib.hid hL'
    have IH := Lib.hid ih
    have hv : Hid (vcmp (.mk k n s ks es) (.mk k' n' s' ks' es') = if icmp k k' = 0 then (if icmp n n' = 0 then (if scmp s s' = 0 then (if kcmp ks ks' = 0 then vcmpL es es' else kcmp ks ks') else scmp s s') else icmp n n') else icmp k k') := Lib.hid (by rw [vcmp])
    clear hA hB hL hA' hB' hL' h1 h2 ih
    show Calls _ _ #[.agg #[.int .i64 k, .int .i64 n, .string s, .slice A ks.length a, .slice B es.length b], .agg #[.int .i64 k', .int .i64 n', .string s', .slice A' ks'.length a', .slice B' es'.length b']] w _
    have hse := same_eq s s'
    by_cases c1 : k = k'
    · subst c1
      by_cases c2 : n = n'
      · subst c2
        by_cases c3 : s = s'
        · subst c3
          clear hse
          have hv1 : Hid (vcmp (.mk k n s ks es) (.mk k n s ks' es') = if kcmp ks ks' = 0 then vcmpL es es' else kcmp ks ks') := Lib.hid (by rw [hv.out, if_pos (icmp_zero.2 rfl), if_pos (icmp_zero.2 rfl), if_pos (scmp_self _)])
          by_cases c4 : kcmp ks ks' = 0
          · have hv2 := Lib.hid (hv1.out.trans (if_pos c4))
            have hq : ((kcmp ks ks') != 0) = false := by simp [c4]
            clear c4
            go_enter Try.func44, Try.ntmps44
            go_wp2_with fail
            refine (HS.out _ (below2 _ _ _)).mono ?_
            rintro e' w' ⟨rfl, rfl⟩
            go_wp2_with fail
            go_loopw [56] (fun t wr => ∃ i : Nat, i ≤ es.length ∧ i ≤ es'.length ∧ t = .int .i64 i ∧ vcmpL es es' = vcmpL (es.drop i) (es'.drop i) ∧ Below (w.heap.size + 2) ((w.alloc (.cells #[.int .i64 k, .int .i64 n, .string s, .slice A ks.length a, .slice B es.length b] 27)).alloc (.cells #[.int .i64 k, .int .i64 n, .string s, .slice A' ks'.length a', .slice B' es'.length b'] 27)) wr) (fun t _ => es.length - (intOf t).toNat)
            case atStart => exact ⟨0, Nat.zero_le _, Nat.zero_le _, rfl, rfl, Below.refl _ _⟩
            case round =>
              obtain ⟨i, hi, hj, rfl, he0, hbel0⟩ := hrel
              have HE := Lib.hid he0
              have HBL := Lib.hid hbel0
              have p4 := (box_two hbel0 4).1
              have p4' := (box_two hbel0 4).2
              simp only [List.getElem?_toArray, List.getElem?_cons_succ, List.getElem?_cons_zero] at p4 p4'
              clear he0 hbel0
              by_cases hlt : i < es.length ∧ i < es'.length
              · obtain ⟨hlt1, hlt2⟩ := hlt
                obtain ⟨x, hx⟩ : ∃ x, es[i]? = some x := ⟨_, List.getElem?_eq_getElem hlt1⟩
                obtain ⟨y, hy⟩ : ∃ y, es'[i]? = some y := ⟨_, List.getElem?_eq_getElem hlt2⟩
                obtain ⟨xk, xn, xs', xks, xes⟩ := x
                obtain ⟨yk, yn, ys', yks, yes⟩ := y
                obtain ⟨b0, o0, xA, xa, xC, xc, rfl, hb0, hlx, c0, c1, c2, c3, c4⟩ := elem_open HB.out HL.out hx
                obtain ⟨b1, o1, yA, ya, yC, yc, rfl, hb1, hly, d0, d1, d2, d3, d4⟩ := elem_open HB'.out HL'.out hy
                have HBO := Lib.hid (below_two HBL.out)
                have g0 : w.heap.size < wr.heap.size := by have := HBL.out.size; simp at this; omega
                have g1 : w.heap.size + 1 < wr.heap.size := by have := HBL.out.size; simp at this; omega
                have gb0 : b0 < wr.heap.size := by omega
                have gb1 : b1 < wr.heap.size := by omega
                have m0 := fun u : Calm wr.heap.size wr => u.cell g0 p4
                have m1 := fun u : Calm wr.heap.size wr => u.cell g1 p4'
                have e0 := fun u : Calm wr.heap.size wr => u.cell gb0 (below_cell HBO.out hb0 c0)
                have e1 := fun u : Calm wr.heap.size wr => u.cell gb0 (below_cell HBO.out hb0 c1)
                have e2 := fun u : Calm wr.heap.size wr => u.cell gb0 (below_cell HBO.out hb0 c2)
                have e3 := fun u : Calm wr.heap.size wr => u.cell gb0 (below_cell HBO.out hb0 c3)
                have e4 := fun u : Calm wr.heap.size wr => u.cell gb0 (below_cell HBO.out hb0 c4)
                have f0 := fun u : Calm wr.heap.size wr => u.cell gb1 (below_cell HBO.out hb1 d0)
                have f1 := fun u : Calm wr.heap.size wr => u.cell gb1 (below_cell HBO.out hb1 d1)
                have f2 := fun u : Calm wr.heap.size wr => u.cell gb1 (below_cell HBO.out hb1 d2)
                have f3 := fun u : Calm wr.heap.size wr => u.cell gb1 (below_cell HBO.out hb1 d3)
                have f4 := fun u : Calm wr.heap.size wr => u.cell gb1 (below_cell HBO.out hb1 d4)
                clear c0 c1 c2 c3 c4 d0 d1 d2 d3 d4
                have hcall := Lib.hid (fun u : Calm wr.heap.size wr => IH.out _ (List.mem_of_getElem? hx) (.mk yk yn ys' yks yes) [.int .i64 xk, .int .i64 xn, .string xs', .slice xA xks.length xa, .slice xC xes.length xc] [.int .i64 yk, .int .i64 yn, .string ys', .slice yA yks.length ya, .slice yC yes.length yc] u.val (calm_lies u (below_lies HBO.out hlx)) (calm_lies u (below_lies HBO.out hly)))
                have hi1 : (i : Int) < (es.length : Int) := by omega
                have hi2 : (i : Int) < (es'.length : Int) := by omega
                by_cases hz : vcmp (.mk xk xn xs' xks xes) (.mk yk yn ys' yks yes) = 0
                · rw [hz] at hcall
                  have hst := Lib.hid (HE.out.trans (vcmpL_step hx hy hz))
                  clear hx hy hz hlx hly
                  go_wp2_with fail
                  refine wp_region_calm (w0 := wr) (B := wr.heap.size) (by kernel_rfl) (by kernel_rfl) (Below.refl _ _) ?_
                  repeat (go_big_quiet_step ((go_at_call 44; refine Calm.call (Nat.le_refl _) (hcall.out _))))
                  refine wpQuiet_nil ?_
                  intro _ hw'
                  obtain ⟨u, rfl⟩ := hw'
                  go_wp2_with fail
                  go_roundw
                  case rel => exact ⟨i + 1, by omega, by omega, by go_num, hst.out, HBL.out.trans (u.below.mono (by omega))⟩
                  case measure => simp [intOf]; omega
                · have hst := Lib.hid (hv2.out.trans (HE.out.trans (vcmpL_part hx hy hz)))
                  have hzb : ((vcmp (.mk xk xn xs' xks xes) (.mk yk yn ys' yks yes)) != 0) = true := by simp [hz]
                  generalize vcmp (.mk xk xn xs' xks xes) (.mk yk yn ys' yks yes) = z at hcall hst hzb
                  clear hx hy hz hlx hly
                  go_wp2_with fail
                  refine wp_region_calm (w0 := wr) (B := wr.heap.size) (by kernel_rfl) (by kernel_rfl) (Below.refl _ _) ?_
                  repeat (go_big_quiet_step ((go_at_call 44; refine Calm.call (Nat.le_refl _) (hcall.out _))))
                  refine wpQuiet_nil ?_
                  intro _ hw'
                  obtain ⟨u, rfl⟩ := hw'
                  go_wp2_with fail
                  go_ret
                  exact ⟨ret_int hst.out.symm, HBO.out.trans (u.below.mono (by omega))⟩
              · have hst := Lib.hid (hv2.out.trans (HE.out.trans (vcmpL_end hlt hi hj)))
                go_wp2_with fail
                refine (cmp_int _ _ _).mono ?_
                rintro e' w' ⟨rfl, rfl⟩
                go_wp2_with fail
                go_ret
                exact ⟨ret_int hst.out.symm, below_two HBL.out⟩
          · have hv2 := Lib.hid (hv1.out.trans (if_neg c4))
            have hq : ((kcmp ks ks') != 0) = true := by simp [c4]
            clear c4
            go_enter Try.func44, Try.ntmps44
            go_wp2_with fail
            refine (HS.out _ (below2 _ _ _)).mono ?_
            rintro e' w' ⟨rfl, rfl⟩
            go_wp2_with fail
            go_ret
            exact ⟨ret_int hv2.out.symm, below2 _ _ _⟩
        · have hq : (s.toList == s'.toList) = false := by rw [hse]; exact decide_eq_false fun h => c3 ((scmp_zero s s').1 h)
          have hz := Lib.hid (hv.out.trans (by rw [if_pos (icmp_zero.2 rfl), if_pos (icmp_zero.2 rfl), if_neg (fun h => c3 ((scmp_zero s s').1 h))]))
          clear c3 hse
          go_enter Try.func44, Try.ntmps44
          go_wp2_with fail
          refine (cmp_strings _ _ _).mono ?_
          rintro e' w' ⟨rfl, rfl⟩
          go_wp2_with fail
          go_ret
          exact ⟨ret_int hz.out.symm, below2 _ _ _⟩
      · have hq : (n != n') = true := by simp [c2]
        have hz := Lib.hid (hv.out.trans (by rw [if_pos (icmp_zero.2 rfl), if_neg (fun h => c2 (icmp_zero.1 h))]))
        clear c2 hse
        go_enter Try.func44, Try.ntmps44
        go_wp2_with fail
        refine (cmp_int64 _ _ _).mono ?_
        rintro e' w' ⟨rfl, rfl⟩
        go_wp2_with fail
        go_ret
        exact ⟨ret_int hz.out.symm, below2 _ _ _⟩
    · have hq : (k != k') = true := by simp [c1]
      have hz := Lib.hid (hv.out.trans (by rw [if_neg (fun h => c1 (icmp_zero.1 h))]))
      clear c1 hse
      go_enter Try.func44, Try.ntmps44
      go_wp2_with fail
      refine (cmp_int _ _ _).mono ?_
      rintro e' w' ⟨rfl, rfl⟩
      go_wp2_with fail
      go_ret
      exact ⟨ret_int hz.out.symm, below2 _ _ _⟩
/-- Compare on any two values. -/
def cmpV (a b : V) : Int := if valid a = true then (if valid b = true then vcmp a b else 0) else 0
def eqV (a b : V) : Bool := valid a && (valid b && decide (vcmp a b = 0))
/-- What Compare and Equal lean on, at two values that lie in w. -/
structure Two (v u : V) (cs ds : List Value) (w : World) : Prop where
  h1 : Lies w (· < w.heap.size) v cs
  h2 : Lies w (· < w.heap.size) u ds
theorem Two.val1 {v u : V} {cs ds : List Value} {w W : World} (h : Two v u cs ds w) (hb : Below w.heap.size w W) : Calls Try.prog 26 #[.agg cs.toArray] W fun e w' => e = .returned (.bool (valid v)) ∧ Below W.heap.size W w' := valid_any v cs W (below_lies hb h.h1)
theorem Two.val2 {v u : V} {cs ds : List Value} {w W : World} (h : Two v u cs ds w) (hb : Below w.heap.size w W) : Calls Try.prog 26 #[.agg ds.toArray] W fun e w' => e = .returned (.bool (valid u)) ∧ Below W.heap.size W w' := valid_any u ds W (below_lies hb h.h2)
theorem Two.cmp {v u : V} {cs ds : List Value} {w W : World} (h : Two v u cs ds w) (hb : Below w.heap.size w W) : Calls Try.prog 44 #[.agg cs.toArray, .agg ds.toArray] W fun e w' => e = .returned (.int .i64 (vcmp v u)) ∧ Below W.heap.size W w' := compare_any v u cs ds W (below_lies hb h.h1) (below_lies hb h.h2)
theorem two_step {w w1 w2 : World} {cs ds : Array Value} {t : TypeId} (hb : Below (w.heap.size + 2) ((w.alloc (.cells cs t)).alloc (.cells ds t)) w1) (hc : Below w1.heap.size w1 w2) : Below (w.heap.size + 2) ((w.alloc (.cells cs t)).alloc (.cells ds t)) w2 :=
  hb.trans (hc.mono (by have := hb.size; simp at this; omega))
set_option maxHeartbeats 1000000 in
set_option maxRecDepth 100000 in
theorem cmp_any (v u : V) (cs ds : List Value) (w : World) (h1 : Lies w (· < w.heap.size) v cs) (h2 : Lies w (· < w.heap.size) u ds) :
    Calls Try.prog 43 #[.agg cs.toArray, .agg ds.toArray] w fun e w' => e = .returned (.int .i64 (cmpV v u)) ∧ Below w.heap.size w w' := by
  have HT : Hid (Two v u cs ds w) := Lib.hid ⟨h1, h2⟩
  obtain ⟨k, n, s, ks, es⟩ := v
  obtain ⟨k', n', s', ks', es'⟩ := u
  obtain ⟨A, a, B, b, xs, rfl, _⟩ := lies_open h1
  obtain ⟨A', a', B', b', ys, rfl, _⟩ := lies_open h2
  clear h1 h2
  show Calls _ _ #[.agg #[.int .i64 k, .int .i64 n, .string s, .slice A ks.length a, .slice B es.length b], .agg #[.int .i64 k', .int .i64 n', .string s', .slice A' ks'.length a', .slice B' es'.length b']] w _
  generalize V.mk k n s ks es = v at HT ⊢
  generalize V.mk k' n' s' ks' es' = u at HT ⊢
  have q1 := Lib.hid (fun W hW => HT.out.val1 (W := W) hW)
  have q2 := Lib.hid (fun W hW => HT.out.val2 (W := W) hW)
  have q3 := Lib.hid (fun W hW => HT.out.cmp (W := W) hW)
  unfold cmpV
  generalize valid v = x at q1 ⊢
  generalize valid u = y at q2 ⊢
  generalize vcmp v u = z at q3 ⊢
  clear HT
  cases x with
  | false =>
    go_enter Try.func43, Try.ntmps43
    go_wp2_with fail
    refine (q1.out _ (below2 _ _ _)).mono ?_
    rintro e1 w1 ⟨rfl, hb1⟩
    have hB1 := Lib.hid (two_step (Below.refl _ _) (hb1))
    go_wp2_with fail
    go_ret
    exact ⟨rfl, below_two hB1.out⟩
  | true =>
    cases y with
    | false =>
      go_enter Try.func43, Try.ntmps43
      go_wp2_with fail
      refine (q1.out _ (below2 _ _ _)).mono ?_
      rintro e1 w1 ⟨rfl, hb1⟩
      have hB1 := Lib.hid (two_step (Below.refl _ _) (hb1))
      have m0 := (box_two hB1.out 0).2
      have m1 := (box_two hB1.out 1).2
      have m2 := (box_two hB1.out 2).2
      have m3 := (box_two hB1.out 3).2
      have m4 := (box_two hB1.out 4).2
      simp only [List.getElem?_toArray, List.getElem?_cons_succ, List.getElem?_cons_zero] at m0 m1 m2 m3 m4
      go_wp2_with fail
      refine (q2.out _ (below_two hB1.out)).mono ?_
      rintro e2 w2 ⟨rfl, hb2⟩
      have hB2 := Lib.hid (two_step hB1.out hb2)
      go_wp2_with fail
      go_ret
      exact ⟨rfl, below_two hB2.out⟩
    | true =>
      go_enter Try.func43, Try.ntmps43
      go_wp2_with fail
      refine (q1.out _ (below2 _ _ _)).mono ?_
      rintro e1 w1 ⟨rfl, hb1⟩
      have hB1 := Lib.hid (two_step (Below.refl _ _) (hb1))
      have m0 := (box_two hB1.out 0).2
      have m1 := (box_two hB1.out 1).2
      have m2 := (box_two hB1.out 2).2
      have m3 := (box_two hB1.out 3).2
      have m4 := (box_two hB1.out 4).2
      simp only [List.getElem?_toArray, List.getElem?_cons_succ, List.getElem?_cons_zero] at m0 m1 m2 m3 m4
      go_wp2_with fail
      refine (q2.out _ (below_two hB1.out)).mono ?_
      rintro e2 w2 ⟨rfl, hb2⟩
      have hB2 := Lib.hid (two_step hB1.out hb2)
      clear m0 m1 m2 m3 m4
      have m0 := box_two hB2.out 0
      have m1 := box_two hB2.out 1
      have m2 := box_two hB2.out 2
      have m3 := box_two hB2.out 3
      have m4 := box_two hB2.out 4
      simp only [List.getElem?_toArray, List.getElem?_cons_succ, List.getElem?_cons_zero] at m0 m1 m2 m3 m4
      go_wp2_with fail
      refine (q3.out _ (below_two hB2.out)).mono ?_
      rintro e3 w3 ⟨rfl, hb3⟩
      go_wp2_with fail
      go_ret
      exact ⟨rfl, chain (below_two hB2.out) hb3⟩
end Go.Proofs.Ytnokmlclephjgaa

/- The program's compare, Compare, Equal, Truthy, TypeName. The program's Equal, Truthy, TypeName. The program's answers and the reference's are the same. -/
import Derived.Test.YtmfjpcmbdgbjjaaGreatDoorQ15
import Derived.Test.YtmfjpcmbdgbjjaaGreatDoorQ16
import Derived.Test.YtmfjpcmbdgbjjaaGreatDoorQ11
import Derived.Test.YtmfjpcmbdgbjjaaGreatDoorQ13
import Derived.Test.YtmfjpcmbdgbjjaaGreatDoorQ12
import Derived.Test.YtmfjpcmbdgbjjaaGreatDoorQ01
import Derived.Test.YtmfjpcmbdgbjjaaGreatDoorQ14
import Derived.Deep.QuietTactic
import Derived.BigQuiet
import Derived.Deep.DeepCutAuto
import Derived.Deep.RegionHeld3
import Derived.Deep.Light
set_option linter.unusedVariables false
set_option linter.unusedSimpArgs false
namespace Go.Proofs.YtmfjpcmbdgbjjaaGreatDoor
open Go.RowKit
def CmpOk (v : V) : Prop := ∀ (u : V) (cs ds : List Value) (w : World), Lies w (· < w.heap.size) v cs → Lies w (· < w.heap.size) u ds →
  Calls Tryz.prog 134 #[.agg cs.toArray, .agg ds.toArray] w fun e w' => e = .returned (.int .i64 (vcmp v u)) ∧ Below w.heap.size w w'
theorem calm_lies {w : World} (u : Calm w.heap.size w) {v : V} {cs : List Value} (h : Lies w (· < w.heap.size) v cs) : Lies u.val (· < u.val.heap.size) v cs := below_lies u.below h
/-- The two boxes that a call lays first. -/
theorem box_two {w w' : World} {cs ds : Array Value} {t : TypeId} (hb : Below (w.heap.size + 2) ((w.alloc (.cells cs t)).alloc (.cells ds t)) w') (i : Nat) : w'.cell? ⟨w.heap.size, i, none⟩ = cs[i]? ∧ w'.cell? ⟨w.heap.size + 1, i, none⟩ = ds[i]? := by
  refine ⟨?_, ?_⟩
  · rw [hb.cell (p := ⟨w.heap.size, i, none⟩) (by show w.heap.size < _; omega)]
    have h1 : Box ((w.alloc (.cells cs t)).alloc (.cells ds t)) w.heap.size t cs := (Box.laid w t cs).alloc _
    exact cell_of_row _ _ i cs t (0, 0) h1
  · rw [hb.cell (p := ⟨w.heap.size + 1, i, none⟩) (by show w.heap.size + 1 < _; omega)]
    have h1 : Box ((w.alloc (.cells cs t)).alloc (.cells ds t)) (w.alloc (.cells cs t)).heap.size t ds := Box.laid _ t ds
    have e : (w.alloc (.cells cs t)).heap.size = w.heap.size + 1 := by simp
    rw [e] at h1
    exact cell_of_row _ _ i ds t (0, 0) h1
theorem below_two {w w' : World} {o p : Obj} (hb : Below (w.heap.size + 2) ((w.alloc o).alloc p) w') : Below w.heap.size w w' := (below2 w o p).trans (hb.mono (by omega))
set_option maxHeartbeats 2000000 in
set_option maxRecDepth 100000 in
theorem compare_any : ∀ v : V, CmpOk v := by
  refine V.ind fun k n s ks es ih u cs ds w h1 h2 => ?_
  cases u with
  | mk k' n' s' ks' es' =>
    have hf := lies_fit _ _ h1
    have hg := lies_fit _ _ h2
    rw [V.Fit] at hf hg
    obtain ⟨_, _, f3, f4, _⟩ := hf
    obtain ⟨_, _, g3, g4, _⟩ := hg
    obtain ⟨A, a, B, b, xs, rfl, _, _, _, _, hA, hB, hL⟩ := lies_open h1
    obtain ⟨A', a', B', b', ys, rfl, _, _, _, _, hA', hB', hL'⟩ := lies_open h2
    have HS := Lib.hid (fun (W : World) (hb : Below w.heap.size w W) => slcmp_any A A' a a' ks ks' (· < w.heap.size) (· < w.heap.size) W (hA.move fun b h => ⟨h, hb.block b h⟩) (hA'.move fun b h => ⟨h, hb.block b h⟩) (by unfold maxLen; omega) (by unfold maxLen; omega))
    have HB := Lib.hid hB
    have HL := Lib.hid hL
    have HB' := Lib.hid hB'
    have HL' := Lib.hid hL'
    have IH := Lib.hid ih
    have hv : Hid (vcmp (.mk k n s ks es) (.mk k' n' s' ks' es') = if icmp k k' = 0 then (if icmp n n' = 0 then (if scmp s s' = 0 then (if kcmp ks ks' = 0 then vcmpL es es' else kcmp ks ks') else scmp s s') else icmp n n') else icmp k k') := Lib.hid (by rw [vcmp])
    clear hA hB hL hA' hB' hL' h1 h2 ih
    show Calls _ _ #[.agg #[.int .i64 k, .int .i64 n, .string s, .slice A ks.length a, .slice B es.length b], .agg #[.int .i64 k', .int .i64 n', .string s', .slice A' ks'.length a', .slice B' es'.length b']] w _
    have hse := same_eq s s'
    by_cases c1 : k = k'
    · subst c1
      by_cases c2 : n = n'
      · subst c2
        by_cases c3 : s = s'
        · subst c3
          clear hse
          have hv1 : Hid (vcmp (.mk k n s ks es) (.mk k n s ks' es') = if kcmp ks ks' = 0 then vcmpL es es' else kcmp ks ks') := Lib.hid (by rw [hv.out, if_pos (icmp_zero.2 rfl), if_pos (icmp_zero.2 rfl), if_pos (scmp_self _)])
          by_cases c4 : kcmp ks ks' = 0
          · have hv2 := Lib.hid (hv1.out.trans (if_pos c4))
            have hq : ((kcmp ks ks') != 0) = false := by simp [c4]
            clear c4
            go_enter Tryz.func134, Tryz.ntmps134
            go_wp2_with fail
            refine (HS.out _ (below2 _ _ _)).mono ?_
            rintro e' w' ⟨rfl, rfl⟩
            go_wp2_with fail
            go_loopw [56] (fun t wr => ∃ i : Nat, i ≤ es.length ∧ i ≤ es'.length ∧ t = .int .i64 i ∧ vcmpL es es' = vcmpL (es.drop i) (es'.drop i) ∧ Below (w.heap.size + 2) ((w.alloc (.cells #[.int .i64 k, .int .i64 n, .string s, .slice A ks.length a, .slice B es.length b] 26)).alloc (.cells #[.int .i64 k, .int .i64 n, .string s, .slice A' ks'.length a', .slice B' es'.length b'] 26)) wr) (fun t _ => es.length - (intOf t).toNat)
            case atStart => exact ⟨0, Nat.zero_le _, Nat.zero_le _, rfl, rfl, Below.refl _ _⟩
            case round =>
              obtain ⟨i, hi, hj, rfl, he0, hbel0⟩ := hrel
              have HE := Lib.hid he0
              have HBL := Lib.hid hbel0
              have p4 := (box_two hbel0 4).1
              have p4' := (box_two hbel0 4).2
              simp only [List.getElem?_toArray, List.getElem?_cons_succ, List.getElem?_cons_zero] at p4 p4'
              clear he0 hbel0
              by_cases hlt : i < es.length ∧ i < es'.length
              · obtain ⟨hlt1, hlt2⟩ := hlt
                obtain ⟨x, hx⟩ : ∃ x, es[i]? = some x := ⟨_, List.getElem?_eq_getElem hlt1⟩
                obtain ⟨y, hy⟩ : ∃ y, es'[i]? = some y := ⟨_, List.getElem?_eq_getElem hlt2⟩
                obtain ⟨xk, xn, xs', xks, xes⟩ := x
                obtain ⟨yk, yn, ys', yks, yes⟩ := y
                obtain ⟨b0, o0, xA, xa, xC, xc, rfl, hb0, hlx, c0, c1, c2, c3, c4⟩ := elem_open HB.out HL.out hx
                obtain ⟨b1, o1, yA, ya, yC, yc, rfl, hb1, hly, d0, d1, d2, d3, d4⟩ := elem_open HB'.out HL'.out hy
                have HBO := Lib.hid (below_two HBL.out)
                have g0 : w.heap.size < wr.heap.size := by have := HBL.out.size; simp at this; omega
                have g1 : w.heap.size + 1 < wr.heap.size := by have := HBL.out.size; simp at this; omega
                have gb0 : b0 < wr.heap.size := by omega
                have gb1 : b1 < wr.heap.size := by omega
                have m0 := fun u : Calm wr.heap.size wr => u.cell g0 p4
                have m1 := fun u : Calm wr.heap.size wr => u.cell g1 p4'
                have e0 := fun u : Calm wr.heap.size wr => u.cell gb0 (below_cell HBO.out hb0 c0)
                have e1 := fun u : Calm wr.heap.size wr => u.cell gb0 (below_cell HBO.out hb0 c1)
                have e2 := fun u : Calm wr.heap.size wr => u.cell gb0 (below_cell HBO.out hb0 c2)
                have e3 := fun u : Calm wr.heap.size wr => u.cell gb0 (below_cell HBO.out hb0 c3)
                have e4 := fun u : Calm wr.heap.size wr => u.cell gb0 (below_cell HBO.out hb0 c4)
                have f0 := fun u : Calm wr.heap.size wr => u.cell gb1 (below_cell HBO.out hb1 d0)
                have f1 := fun u : Calm wr.heap.size wr => u.cell gb1 (below_cell HBO.out hb1 d1)
                have f2 := fun u : Calm wr.heap.size wr => u.cell gb1 (below_cell HBO.out hb1 d2)
                have f3 := fun u : Calm wr.heap.size wr => u.cell gb1 (below_cell HBO.out hb1 d3)
                have f4 := fun u : Calm wr.heap.size wr => u.cell gb1 (below_cell HBO.out hb1 d4)
                clear c0 c1 c2 c3 c4 d0 d1 d2 d3 d4
                have hcall := Lib.hid (fun u : Calm wr.heap.size wr => IH.out _ (List.mem_of_getElem? hx) (.mk yk yn ys' yks yes) [.int .i64 xk, .int .i64 xn, .string xs', .slice xA xks.length xa, .slice xC xes.length xc] [.int .i64 yk, .int .i64 yn, .string ys', .slice yA yks.length ya, .slice yC yes.length yc] u.val (calm_lies u (below_lies HBO.out hlx)) (calm_lies u (below_lies HBO.out hly)))
                have hi1 : (i : Int) < (es.length : Int) := by omega
                have hi2 : (i : Int) < (es'.length : Int) := by omega
                by_cases hz : vcmp (.mk xk xn xs' xks xes) (.mk yk yn ys' yks yes) = 0
                · rw [hz] at hcall
                  have hst := Lib.hid (HE.out.trans (vcmpL_step hx hy hz))
                  clear hx hy hz hlx hly
                  go_wp2_with fail
                  refine wp_region_calm (w0 := wr) (B := wr.heap.size) (by kernel_rfl) (by kernel_rfl) (Below.refl _ _) ?_
                  repeat (go_big_quiet_step ((go_at_call 134; refine Calm.call (Nat.le_refl _) (hcall.out _))))
                  refine wpQuiet_nil ?_
                  intro _ hw'
                  obtain ⟨u, rfl⟩ := hw'
                  go_wp2_with fail
                  go_roundw
                  case rel => exact ⟨i + 1, by omega, by omega, by go_num, hst.out, HBL.out.trans (u.below.mono (by omega))⟩
                  case measure => simp [intOf]; omega
                · have hst := Lib.hid (hv2.out.trans (HE.out.trans (vcmpL_part hx hy hz)))
                  have hzb : ((vcmp (.mk xk xn xs' xks xes) (.mk yk yn ys' yks yes)) != 0) = true := by simp [hz]
                  generalize vcmp (.mk xk xn xs' xks xes) (.mk yk yn ys' yks yes) = z at hcall hst hzb
                  clear hx hy hz hlx hly
                  go_wp2_with fail
                  refine wp_region_calm (w0 := wr) (B := wr.heap.size) (by kernel_rfl) (by kernel_rfl) (Below.refl _ _) ?_
                  repeat (go_big_quiet_step ((go_at_call 134; refine Calm.call (Nat.le_refl _) (hcall.out _))))
                  refine wpQuiet_nil ?_
                  intro _ hw'
                  obtain ⟨u, rfl⟩ := hw'
                  go_wp2_with fail
                  go_ret
                  exact ⟨ret_int hst.out.symm, HBO.out.trans (u.below.mono (by omega))⟩
              · have hst := Lib.hid (hv2.out.trans (HE.out.trans (vcmpL_end hlt hi hj)))
                go_wp2_with fail
                refine (cmp_int _ _ _).mono ?_
                rintro e' w' ⟨rfl, rfl⟩
                go_wp2_with fail
                go_ret
                exact ⟨ret_int hst.out.symm, below_two HBL.out⟩
          · have hv2 := Lib.hid (hv1.out.trans (if_neg c4))
            have hq : ((kcmp ks ks') != 0) = true := by simp [c4]
            clear c4
            go_enter Tryz.func134, Tryz.ntmps134
            go_wp2_with fail
            refine (HS.out _ (below2 _ _ _)).mono ?_
            rintro e' w' ⟨rfl, rfl⟩
            go_wp2_with fail
            go_ret
            exact ⟨ret_int hv2.out.symm, below2 _ _ _⟩
        · have hq : (s.toList == s'.toList) = false := by rw [hse]; exact decide_eq_false fun h => c3 ((scmp_zero s s').1 h)
          have hz := Lib.hid (hv.out.trans (by rw [if_pos (icmp_zero.2 rfl), if_pos (icmp_zero.2 rfl), if_neg (fun h => c3 ((scmp_zero s s').1 h))]))
          clear c3 hse
          go_enter Tryz.func134, Tryz.ntmps134
          go_wp2_with fail
          refine (cmp_strings _ _ _).mono ?_
          rintro e' w' ⟨rfl, rfl⟩
          go_wp2_with fail
          go_ret
          exact ⟨ret_int hz.out.symm, below2 _ _ _⟩
      · have hq : (n != n') = true := by simp [c2]
        have hz := Lib.hid (hv.out.trans (by rw [if_pos (icmp_zero.2 rfl), if_neg (fun h => c2 (icmp_zero.1 h))]))
        clear c2 hse
        go_enter Tryz.func134, Tryz.ntmps134
        go_wp2_with fail
        refine (cmp_int64 _ _ _).mono ?_
        rintro e' w' ⟨rfl, rfl⟩
        go_wp2_with fail
        go_ret
        exact ⟨ret_int hz.out.symm, below2 _ _ _⟩
    · have hq : (k != k') = true := by simp [c1]
      have hz := Lib.hid (hv.out.trans (by rw [if_neg (fun h => c1 (icmp_zero.1 h))]))
      clear c1 hse
      go_enter Tryz.func134, Tryz.ntmps134
      go_wp2_with fail
      refine (cmp_int _ _ _).mono ?_
      rintro e' w' ⟨rfl, rfl⟩
      go_wp2_with fail
      go_ret
      exact ⟨ret_int hz.out.symm, below2 _ _ _⟩
/-- What Compare and Equal lean on, at two values that lie in w. -/
structure Two (v u : V) (cs ds : List Value) (w : World) : Prop where
  h1 : Lies w (· < w.heap.size) v cs
  h2 : Lies w (· < w.heap.size) u ds
theorem Two.cmp {v u : V} {cs ds : List Value} {w W : World} (h : Two v u cs ds w) (hb : Below w.heap.size w W) : Calls Tryz.prog 134 #[.agg cs.toArray, .agg ds.toArray] W fun e w' => e = .returned (.int .i64 (vcmp v u)) ∧ Below W.heap.size W w' := compare_any v u cs ds W (below_lies hb h.h1) (below_lies hb h.h2)
theorem two_step {w w1 w2 : World} {cs ds : Array Value} {t : TypeId} (hb : Below (w.heap.size + 2) ((w.alloc (.cells cs t)).alloc (.cells ds t)) w1) (hc : Below w1.heap.size w1 w2) : Below (w.heap.size + 2) ((w.alloc (.cells cs t)).alloc (.cells ds t)) w2 :=
  hb.trans (hc.mono (by have := hb.size; simp at this; omega))
end Go.Proofs.YtmfjpcmbdgbjjaaGreatDoor
namespace Go.Proofs.YtmfjpcmbdgbjjaaGreatDoor
open Go.RowKit
theorem below_one {w w' : World} {o : Obj} (hb : Below (w.heap.size + 1) (w.alloc o) w') : Below w.heap.size w w' := below_old hb
theorem one_step {w w1 w2 : World} {o : Obj} (hb : Below (w.heap.size + 1) (w.alloc o) w1) (hc : Below w1.heap.size w1 w2) : Below (w.heap.size + 1) (w.alloc o) w2 :=
  hb.trans (hc.mono (by have := hb.size; simp at this; omega))
theorem below1 (w : World) (o : Obj) : Below w.heap.size w (w.alloc o) := (Below.refl _ _).alloc (Nat.le_refl _) o
end Go.Proofs.YtmfjpcmbdgbjjaaGreatDoor
namespace Go.Proofs.YtmfjpcmbdgbjjaaGreatDoor
open Go.RowKit
theorem meas_some (v : V) (d m b : Int) : meas v = some (d, m, b) ↔ good v = true ∧ dep v ≤ 32 ∧ v.sz ≤ 4096 ∧ vbyt v ≤ 65536 ∧ d = dep v ∧ m = v.sz ∧ b = vbyt v := by
  unfold meas
  rw [addP_iff v 0 0 0 0 d m b (by omega) (by omega) (by omega) (by omega) (by omega)]
  constructor
  · rintro ⟨h0, h1, h2, h3, h4, h5, h6⟩; exact ⟨h0, by omega, by omega, by omega, by omega, by omega, by omega⟩
  · rintro ⟨h0, h1, h2, h3, h4, h5, h6⟩; exact ⟨h0, by omega, by omega, by omega, by omega, by omega, by omega⟩
/-- A valid value, said once. -/
def Ok (v : V) : Prop := good v = true ∧ dep v ≤ 32 ∧ v.sz ≤ 4096 ∧ vbyt v ≤ 65536
theorem valid_iff (v : V) : valid v = true ↔ Ok v := by
  unfold valid
  cases h : meas v with
  | none =>
    constructor
    · intro h; cases h
    · rintro ⟨h0, h1, h2, h3⟩
      have := (meas_some v (dep v) v.sz (vbyt v)).2 ⟨h0, h1, h2, h3, rfl, rfl, rfl⟩
      rw [h] at this
      cases this
  | some q =>
    obtain ⟨d, m, b⟩ := q
    obtain ⟨h0, h1, h2, h3, _⟩ := (meas_some v d m b).1 h
    exact ⟨fun _ => ⟨h0, h1, h2, h3⟩, fun _ => rfl⟩
end Go.Proofs.YtmfjpcmbdgbjjaaGreatDoor

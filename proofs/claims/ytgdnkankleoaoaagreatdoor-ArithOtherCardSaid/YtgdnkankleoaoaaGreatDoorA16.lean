/- The reference's order. The reference's Compare, Equal, TypeName. The program's answers and the reference's are the same. -/
import Derived.Test.YtgdnkankleoaoaaGreatDoorA15
import Derived.Test.YtgdnkankleoaoaaGreatDoorA14
set_option linter.unusedVariables false
set_option linter.unusedSimpArgs false
namespace Go.Proofs.YtgdnkankleoaoaaGreatDoor
open Go.RowKit
def sgn (b : Bool) : Int := if b then -1 else 1
set_option maxHeartbeats 400000 in
theorem rsign_any (b : Bool) (w : World) : Calls Tryz.prog 245 #[.bool b] w fun e w' => e = .returned (.int .i64 (sgn b)) ∧ w' = w := by
  cases b
  all_goals
    go_enter Tryz.func245, Tryz.ntmps245
    go_wp2_with fail
    go_ret
    exact ⟨rfl, rfl⟩
theorem icmp_sgn {x y : Int} (h : ¬ x = y) : icmp x y = sgn (decide (x < y)) := by
  unfold icmp sgn
  by_cases h1 : x < y
  · simp [h1]
  · have : y < x := by omega
    simp [h1, this]
theorem icmp_sgn_nat {x y : Nat} (h : ¬ x = y) : icmp (x : Int) (y : Int) = sgn (decide (x < y)) := by
  rw [icmp_sgn (by omega)]
  congr 1
  simp
theorem scmp_sgn {a b : ByteArray} (h : ¬ scmp a b = 0) : scmp a b = sgn (Op.bytesLess a.toList b.toList) := by
  rw [less_eq]
  unfold sgn
  rcases scmp_range a b with h1 | h1 | h1
  · simp [h1]
  · exact absurd h1 h
  · simp [h1]
theorem kcmp_len {ks ls : List ByteArray} {i : Nat} (h : ¬ (i < ks.length ∧ i < ls.length)) (hi : i ≤ ks.length) (hj : i ≤ ls.length) : kcmp (ks.drop i) (ls.drop i) = icmp ks.length ls.length := by
  by_cases h1 : i < ks.length
  · have h2 : i = ls.length := by omega
    subst h2
    rw [List.drop_eq_getElem_cons h1, List.drop_eq_nil_of_le (Nat.le_refl _), kcmp]
    unfold icmp
    rw [if_neg (by omega), if_pos (by omega)]
  · have h2 : i = ks.length := by omega
    subst h2
    rw [List.drop_eq_nil_of_le (Nat.le_refl _)]
    by_cases h3 : ks.length < ls.length
    · rw [List.drop_eq_getElem_cons h3, kcmp]
      unfold icmp
      rw [if_pos (by omega)]
    · rw [List.drop_eq_nil_of_le (by omega), kcmp]
      unfold icmp
      rw [if_neg (by omega), if_neg (by omega)]
def OrdOk (v : V) : Prop := ∀ (u : V) (cs ds : List Value) (w : World), Lies w (· < w.heap.size) v cs → Lies w (· < w.heap.size) u ds →
  Calls Tryz.prog 198 #[.agg cs.toArray, .agg ds.toArray] w fun e w' => e = .returned (.int .i64 (vcmp v u)) ∧ Below w.heap.size w w'
set_option maxHeartbeats 4000000 in
set_option maxRecDepth 100000 in
theorem order_eq (k n : Int) (s : ByteArray) (ks ks' : List ByteArray) (es es' : List V) (ih : ∀ e ∈ es, OrdOk e) (A A' B B' : Option Addr) (a a' b b' : Nat) (xs ys : List Value) (w : World)
    (hA : Rs w (· < w.heap.size) A (kv ks)) (hA' : Rs w (· < w.heap.size) A' (kv ks')) (hB : Rs w (· < w.heap.size) B xs) (hB' : Rs w (· < w.heap.size) B' ys) (hL : LiesL w (· < w.heap.size) es xs) (hL' : LiesL w (· < w.heap.size) es' ys)
    (f3 : ks.length ≤ 140737488355328) (f4 : es.length ≤ 140737488355328) (g3 : ks'.length ≤ 140737488355328) (g4 : es'.length ≤ 140737488355328) :
    Calls Tryz.prog 198 #[.agg #[.int .i64 k, .int .i64 n, .string s, .slice A ks.length a, .slice B es.length b], .agg #[.int .i64 k, .int .i64 n, .string s, .slice A' ks'.length a', .slice B' es'.length b']] w
      fun e w' => e = .returned (.int .i64 (if kcmp ks ks' = 0 then vcmpL es es' else kcmp ks ks')) ∧ Below w.heap.size w w' := by
  have HA := Lib.hid hA
  have HA' := Lib.hid hA'
  have HB := Lib.hid hB
  have HL := Lib.hid hL
  have HB' := Lib.hid hB'
  have HL' := Lib.hid hL'
  have IH := Lib.hid ih
  clear hA hA' hB hL hB' hL' ih
  generalize hq : (if kcmp ks ks' = 0 then vcmpL es es' else kcmp ks ks') = r
  have HR := Lib.hid hq
  clear hq
  go_enter Tryz.func198, Tryz.ntmps198
  go_wp2_with fail
  go_loopw [5] (fun t wr => ∃ i : Nat, i ≤ ks.length ∧ i ≤ ks'.length ∧ t = .int .i64 i ∧ kcmp ks ks' = kcmp (ks.drop i) (ks'.drop i) ∧ ∃ m, wr = ((w.alloc (.cells #[.int .i64 k, .int .i64 n, .string s, .slice A ks.length a, .slice B es.length b] 25)).alloc (.cells #[.int .i64 k, .int .i64 n, .string s, .slice A' ks'.length a', .slice B' es'.length b'] 25)).drewN m) (fun t _ => ks.length - (intOf t).toNat)
  case atStart => exact ⟨0, Nat.zero_le _, Nat.zero_le _, rfl, rfl, 0, rfl⟩
  case round =>
    obtain ⟨i, hi, hj, rfl, he0, m, rfl⟩ := hrel
    have HE := Lib.hid he0
    clear he0
    by_cases hlt : i < ks.length ∧ i < ks'.length
    · obtain ⟨hlt1, hlt2⟩ := hlt
      obtain ⟨x, hx⟩ : ∃ x, ks[i]? = some x := ⟨_, List.getElem?_eq_getElem hlt1⟩
      obtain ⟨y, hy⟩ : ∃ y, ks'[i]? = some y := ⟨_, List.getElem?_eq_getElem hlt2⟩
      obtain ⟨b0, o0, rfl, hb0, hc0⟩ := HA.out.at_ (kv_at hx)
      obtain ⟨b1, o1, rfl, hb1, hc1⟩ := HA'.out.at_ (kv_at hy)
      have hi1 : (i : Int) < (ks.length : Int) := by omega
      have hi2 : (i : Int) < (ks'.length : Int) := by omega
      have hlw : b0 < w.heap.size := hb0
      have hlw' : b1 < w.heap.size := hb1
      have hse := same_eq x y
      by_cases hz : scmp x y = 0
      · have hst := Lib.hid (HE.out.trans (kcmp_step hx hy hz))
        obtain rfl := (scmp_zero x y).1 hz
        clear hx hy hz hse
        go_wp2_with fail
        go_quiet (fail)
        go_wp2_with fail
        go_roundw
        case rel => exact ⟨i + 1, by omega, by omega, by go_num, hst.out, _, rfl⟩
        case measure => simp [intOf]; omega
      · rw [decide_eq_false hz] at hse
        have hst := Lib.hid (HE.out.trans (kcmp_part hx hy hz))
        have hr : Hid (r = sgn (Op.bytesLess x.toList y.toList)) := Lib.hid (by
          rw [← HR.out, hst.out, if_neg hz, scmp_sgn hz])
        clear hx hy hz
        go_wp2_with fail
        go_quiet (fail)
        go_wp2_with fail
        go_quiet ((go_at_call 245; exact (rsign_any _ _).mono (fun _ _ h => ⟨h.1, _, h.2⟩)))
        go_wp2_with fail
        go_ret
        exact ⟨ret_int hr.out.symm, below_drewN (below_drewN (below_drewN (below2 _ _ _) _) _) _⟩
    · have hst := Lib.hid (HE.out.trans (kcmp_len hlt hi hj))
      by_cases hlt1 : i < ks.length
      all_goals
        by_cases hle : ks.length = ks'.length
        · have hq : (((ks.length : Nat) : Int) != ((ks'.length : Nat) : Int)) = false := by simp; omega
          have hz : Hid (kcmp ks ks' = 0) := Lib.hid (hst.out.trans (icmp_zero.2 (by omega)))
          have HV2 : Hid (r = vcmpL es es') := Lib.hid (by rw [← HR.out, if_pos hz.out])
          clear hle
          go_wp2_with fail
          go_loopw [6] (fun t wr => ∃ i : Nat, i ≤ es.length ∧ i ≤ es'.length ∧ t = .int .i64 i ∧ vcmpL es es' = vcmpL (es.drop i) (es'.drop i) ∧ Below (w.heap.size + 2) ((w.alloc (.cells #[.int .i64 k, .int .i64 n, .string s, .slice A ks.length a, .slice B es.length b] 25)).alloc (.cells #[.int .i64 k, .int .i64 n, .string s, .slice A' ks'.length a', .slice B' es'.length b'] 25)) wr) (fun t _ => es.length - (intOf t).toNat)
          case atStart => exact ⟨0, Nat.zero_le _, Nat.zero_le _, rfl, rfl, below_drewN (Below.refl _ _) _⟩
          case round =>
            obtain ⟨i, hi, hj, rfl, he0, hbel0⟩ := hrel
            have HE := Lib.hid he0
            have HBL := Lib.hid hbel0
            have p4 := (box_two hbel0 4).1
            have p4' := (box_two hbel0 4).2
            simp only [List.getElem?_toArray, List.getElem?_cons_succ, List.getElem?_cons_zero] at p4 p4'
            clear he0 hbel0
            by_cases hlt : i < es.length ∧ i < es'.length
            · obtain ⟨hlt1, hlt2⟩ := hlt
              obtain ⟨x, hx⟩ : ∃ x, es[i]? = some x := ⟨_, List.getElem?_eq_getElem hlt1⟩
              obtain ⟨y, hy⟩ : ∃ y, es'[i]? = some y := ⟨_, List.getElem?_eq_getElem hlt2⟩
              obtain ⟨xk, xn, xs', xks, xes⟩ := x
              obtain ⟨yk, yn, ys', yks, yes⟩ := y
              obtain ⟨b0, o0, xA, xa, xC, xc, rfl, hb0, hlx, c0, c1, c2, c3, c4⟩ := elem_open HB.out HL.out hx
              obtain ⟨b1, o1, yA, ya, yC, yc, rfl, hb1, hly, d0, d1, d2, d3, d4⟩ := elem_open HB'.out HL'.out hy
              have HBO := Lib.hid (below_two HBL.out)
              have g0 : w.heap.size < wr.heap.size := by have := HBL.out.size; simp at this; omega
              have g1 : w.heap.size + 1 < wr.heap.size := by have := HBL.out.size; simp at this; omega
              have gb0 : b0 < wr.heap.size := by omega
              have gb1 : b1 < wr.heap.size := by omega
              have m0 := fun u : Calm wr.heap.size wr => u.cell g0 p4
              have m1 := fun u : Calm wr.heap.size wr => u.cell g1 p4'
              have e0 := fun u : Calm wr.heap.size wr => u.cell gb0 (below_cell HBO.out hb0 c0)
              have e1 := fun u : Calm wr.heap.size wr => u.cell gb0 (below_cell HBO.out hb0 c1)
              have e2 := fun u : Calm wr.heap.size wr => u.cell gb0 (below_cell HBO.out hb0 c2)
              have e3 := fun u : Calm wr.heap.size wr => u.cell gb0 (below_cell HBO.out hb0 c3)
              have e4 := fun u : Calm wr.heap.size wr => u.cell gb0 (below_cell HBO.out hb0 c4)
              have f0 := fun u : Calm wr.heap.size wr => u.cell gb1 (below_cell HBO.out hb1 d0)
              have f1 := fun u : Calm wr.heap.size wr => u.cell gb1 (below_cell HBO.out hb1 d1)
              have f2 := fun u : Calm wr.heap.size wr => u.cell gb1 (below_cell HBO.out hb1 d2)
              have f3 := fun u : Calm wr.heap.size wr => u.cell gb1 (below_cell HBO.out hb1 d3)
              have f4 := fun u : Calm wr.heap.size wr => u.cell gb1 (below_cell HBO.out hb1 d4)
              clear c0 c1 c2 c3 c4 d0 d1 d2 d3 d4
              have hcall := Lib.hid (fun u : Calm wr.heap.size wr => IH.out _ (List.mem_of_getElem? hx) (.mk yk yn ys' yks yes) [.int .i64 xk, .int .i64 xn, .string xs', .slice xA xks.length xa, .slice xC xes.length xc] [.int .i64 yk, .int .i64 yn, .string ys', .slice yA yks.length ya, .slice yC yes.length yc] u.val (calm_lies u (below_lies HBO.out hlx)) (calm_lies u (below_lies HBO.out hly)))
              have hi1 : (i : Int) < (es.length : Int) := by omega
              have hi2 : (i : Int) < (es'.length : Int) := by omega
              by_cases hz : vcmp (.mk xk xn xs' xks xes) (.mk yk yn ys' yks yes) = 0
              · rw [hz] at hcall
                have hst := Lib.hid (HE.out.trans (vcmpL_step hx hy hz))
                clear hx hy hz hlx hly
                go_wp2_with fail
                refine wp_region_calm (w0 := wr) (B := wr.heap.size) (by kernel_rfl) (by kernel_rfl) (Below.refl _ _) ?_
                repeat (go_big_quiet_step ((go_at_call 198; refine Calm.call (Nat.le_refl _) (hcall.out _))))
                refine wpQuiet_nil ?_
                intro _ hw'
                obtain ⟨u, rfl⟩ := hw'
                go_wp2_with fail
                go_roundw
                case rel => exact ⟨i + 1, by omega, by omega, by go_num, hst.out, HBL.out.trans (u.below.mono (by omega))⟩
                case measure => simp [intOf]; omega
              · have hst := Lib.hid (HV2.out.trans (HE.out.trans (vcmpL_part hx hy hz)))
                have hzb : ((vcmp (.mk xk xn xs' xks xes) (.mk yk yn ys' yks yes)) != 0) = true := by simp [hz]
                generalize vcmp (.mk xk xn xs' xks xes) (.mk yk yn ys' yks yes) = z at hcall hst hzb
                clear hx hy hz hlx hly
                go_wp2_with fail
                refine wp_region_calm (w0 := wr) (B := wr.heap.size) (by kernel_rfl) (by kernel_rfl) (Below.refl _ _) ?_
                repeat (go_big_quiet_step ((go_at_call 198; refine Calm.call (Nat.le_refl _) (hcall.out _))))
                refine wpQuiet_nil ?_
                intro _ hw'
                obtain ⟨u, rfl⟩ := hw'
                go_wp2_with fail
                go_ret
                exact ⟨ret_int hst.out.symm, HBO.out.trans (u.below.mono (by omega))⟩
            · have hst := Lib.hid (HV2.out.trans (HE.out.trans (vcmpL_end hlt hi hj)))
              by_cases hlt1 : i < es.length
              all_goals
                by_cases hle : es.length = es'.length
                · have hq : (((es.length : Nat) : Int) != ((es'.length : Nat) : Int)) = false := by simp; omega
                  have hz : Hid (r = 0) := Lib.hid (hst.out.trans (icmp_zero.2 (by omega)))
                  clear hle
                  go_wp2_with fail
                  go_ret
                  exact ⟨ret_int hz.out.symm, below_two HBL.out⟩
                · have hq : (((es.length : Nat) : Int) != ((es'.length : Nat) : Int)) = true := by simp; omega
                  have hz : Hid (r = sgn (decide (es.length < es'.length))) := Lib.hid (hst.out.trans (icmp_sgn_nat hle))
                  clear hle
                  go_wp2_with fail
                  refine (rsign_any _ _).mono ?_
                  rintro e' w' ⟨rfl, rfl⟩
                  go_wp2_with fail
                  go_ret
                  exact ⟨ret_int hz.out.symm, below_two HBL.out⟩
        · have hq : (((ks.length : Nat) : Int) != ((ks'.length : Nat) : Int)) = true := by simp; omega
          have hz : Hid (r = sgn (decide (ks.length < ks'.length))) := Lib.hid (by
            have h1 := hst.out.trans (icmp_sgn_nat hle)
            rw [← HR.out, if_neg (by rw [hst.out]; exact fun h => hle (by have := icmp_zero.1 h; omega)), h1])
          clear hle
          go_wp2_with fail
          refine (rsign_any _ _).mono ?_
          rintro e' w' ⟨rfl, rfl⟩
          go_wp2_with fail
          go_ret
          exact ⟨ret_int hz.out.symm, below_drewN (below2 _ _ _) _⟩
set_option maxHeartbeats 2000000 in
set_option maxRecDepth 100000 in
theorem order_any : ∀ v : V, OrdOk v := by
  refine V.ind fun k n s ks es ih u cs ds w h1 h2 => ?_
  cases u with
  | mk k' n' s' ks' es' =>
    have hf := lies_fit _ _ h1
    have hg := lies_fit _ _ h2
    rw [V.Fit] at hf hg
    obtain ⟨_, _, f3, f4, _⟩ := hf
    obtain ⟨_, _, g3, g4, _⟩ := hg
    obtain ⟨A, a, B, b, xs, rfl, _, _, _, _, hA, hB, hL⟩ := lies_open h1
    obtain ⟨A', a', B', b', ys, rfl, _, _, _, _, hA', hB', hL'⟩ := lies_open h2
    have hv : Hid (vcmp (.mk k n s ks es) (.mk k' n' s' ks' es') = if icmp k k' = 0 then (if icmp n n' = 0 then (if scmp s s' = 0 then (if kcmp ks ks' = 0 then vcmpL es es' else kcmp ks ks') else scmp s s') else icmp n n') else icmp k k') := Lib.hid (by rw [vcmp])
    have HO := Lib.hid (order_eq k n s ks ks' es es' ih A A' B B' a a' b b' xs ys w hA hA' hB hB' hL hL' f3 f4 g3 g4)
    clear hA hB hL hA' hB' hL' h1 h2 ih
    show Calls _ _ #[.agg #[.int .i64 k, .int .i64 n, .string s, .slice A ks.length a, .slice B es.length b], .agg #[.int .i64 k', .int .i64 n', .string s', .slice A' ks'.length a', .slice B' es'.length b']] w _
    have hse := same_eq s s'
    by_cases c1 : k = k'
    · subst c1
      by_cases c2 : n = n'
      · subst c2
        by_cases c3 : s = s'
        · subst c3
          rw [hv.out, if_pos (icmp_zero.2 rfl), if_pos (icmp_zero.2 rfl), if_pos (scmp_self _)]
          exact HO.out
        · have c3' : ¬ scmp s s' = 0 := fun h => c3 ((scmp_zero s s').1 h)
          have hq : (s.toList == s'.toList) = false := by rw [hse]; exact decide_eq_false c3'
          have hz := Lib.hid (hv.out.trans (by rw [if_pos (icmp_zero.2 rfl), if_pos (icmp_zero.2 rfl), if_neg c3', scmp_sgn c3']))
          clear c3 c3' hse HO
          go_enter Tryz.func198, Tryz.ntmps198
          go_wp2_with fail
          refine (rsign_any _ _).mono ?_
          rintro e' w' ⟨rfl, rfl⟩
          go_wp2_with fail
          go_ret
          exact ⟨ret_int hz.out.symm, below2 _ _ _⟩
      · have hq : (n != n') = true := by simp [c2]
        have hz := Lib.hid (hv.out.trans (by rw [if_pos (icmp_zero.2 rfl), if_neg (fun h => c2 (icmp_zero.1 h)), icmp_sgn c2]))
        clear c2 hse HO
        go_enter Tryz.func198, Tryz.ntmps198
        go_wp2_with fail
        refine (rsign_any _ _).mono ?_
        rintro e' w' ⟨rfl, rfl⟩
        go_wp2_with fail
        go_ret
        exact ⟨ret_int hz.out.symm, below2 _ _ _⟩
    · have hq : (k != k') = true := by simp [c1]
      have hz := Lib.hid (hv.out.trans (by rw [if_neg (fun h => c1 (icmp_zero.1 h)), icmp_sgn c1]))
      clear c1 hse HO
      go_enter Tryz.func198, Tryz.ntmps198
      go_wp2_with fail
      refine (rsign_any _ _).mono ?_
      rintro e' w' ⟨rfl, rfl⟩
      go_wp2_with fail
      go_ret
      exact ⟨ret_int hz.out.symm, below2 _ _ _⟩
end Go.Proofs.YtgdnkankleoaoaaGreatDoor
namespace Go.Proofs.YtgdnkankleoaoaaGreatDoor
open Go.RowKit
/-- What Compare and Equal lean on, at two values that lie in w. -/
structure TwoR (v u : V) (cs ds : List Value) (w : World) : Prop where
  h1 : Lies w (· < w.heap.size) v cs
  h2 : Lies w (· < w.heap.size) u ds
theorem TwoR.val1 {v u : V} {cs ds : List Value} {w W : World} (h : TwoR v u cs ds w) (hb : Below w.heap.size w W) : Calls Tryz.prog 112 #[.agg cs.toArray] W fun e w' => e = .returned (.bool (validR v)) ∧ Below W.heap.size W w' := rvalid_any v cs W (below_lies hb h.h1)
theorem TwoR.val2 {v u : V} {cs ds : List Value} {w W : World} (h : TwoR v u cs ds w) (hb : Below w.heap.size w W) : Calls Tryz.prog 112 #[.agg ds.toArray] W fun e w' => e = .returned (.bool (validR u)) ∧ Below W.heap.size W w' := rvalid_any u ds W (below_lies hb h.h2)
theorem TwoR.cmp {v u : V} {cs ds : List Value} {w W : World} (h : TwoR v u cs ds w) (hb : Below w.heap.size w W) : Calls Tryz.prog 198 #[.agg cs.toArray, .agg ds.toArray] W fun e w' => e = .returned (.int .i64 (vcmp v u)) ∧ Below W.heap.size W w' := order_any v u cs ds W (below_lies hb h.h1) (below_lies hb h.h2)
end Go.Proofs.YtgdnkankleoaoaaGreatDoor
namespace Go.Proofs.YtgdnkankleoaoaaGreatDoor
open Go.RowKit
theorem meas_some (v : V) (d m b : Int) : meas v = some (d, m, b) ↔ good v = true ∧ dep v ≤ 32 ∧ v.sz ≤ 4096 ∧ vbyt v ≤ 65536 ∧ d = dep v ∧ m = v.sz ∧ b = vbyt v := by
  unfold meas
  rw [addP_iff v 0 0 0 0 d m b (by omega) (by omega) (by omega) (by omega) (by omega)]
  constructor
  · rintro ⟨h0, h1, h2, h3, h4, h5, h6⟩; exact ⟨h0, by omega, by omega, by omega, by omega, by omega, by omega⟩
  · rintro ⟨h0, h1, h2, h3, h4, h5, h6⟩; exact ⟨h0, by omega, by omega, by omega, by omega, by omega, by omega⟩
/-- A valid value, said once. -/
def Ok (v : V) : Prop := good v = true ∧ dep v ≤ 32 ∧ v.sz ≤ 4096 ∧ vbyt v ≤ 65536
theorem valid_iff (v : V) : valid v = true ↔ Ok v := by
  unfold valid
  cases h : meas v with
  | none =>
    constructor
    · intro h; cases h
    · rintro ⟨h0, h1, h2, h3⟩
      have := (meas_some v (dep v) v.sz (vbyt v)).2 ⟨h0, h1, h2, h3, rfl, rfl, rfl⟩
      rw [h] at this
      cases this
  | some q =>
    obtain ⟨d, m, b⟩ := q
    obtain ⟨h0, h1, h2, h3, _⟩ := (meas_some v d m b).1 h
    exact ⟨fun _ => ⟨h0, h1, h2, h3⟩, fun _ => rfl⟩
theorem validR_iff (v : V) : validR v = true ↔ Ok v := by
  unfold validR
  cases h : rmP v 0 with
  | none =>
    constructor
    · intro h; cases h
    · rintro ⟨h0, h1, h2, h3⟩
      have := (rmP_iff v 0 v.sz (vbyt v) (by omega) (by omega)).2 ⟨h0, by omega, h2, h3, rfl, rfl⟩
      rw [h] at this
      cases this
  | some q =>
    obtain ⟨m, b⟩ := q
    obtain ⟨h0, h1, h2, h3, rfl, rfl⟩ := (rmP_iff v 0 m b (by omega) (by omega)).1 h
    constructor
    · intro _; exact ⟨h0, by omega, h2, h3⟩
    · intro _; simp; omega
theorem valid_same (v : V) : validR v = valid v := by rw [Bool.eq_iff_iff, valid_iff, validR_iff]
theorem ok_elem {k n : Int} {s : ByteArray} {ks : List ByteArray} {es : List V} (h : Ok (.mk k n s ks es)) (hk : k = 5 ∨ k = 6) : ∀ e ∈ es, Ok e := by
  obtain ⟨h0, h1, h2, h3⟩ := h
  rw [good] at h0
  rw [dep, if_pos hk] at h1
  rw [V.sz] at h2
  rw [vbyt] at h3
  simp only [Bool.and_eq_true] at h0
  have hg := h0.2.2.2.2.2
  have hd : depL es ≤ 31 := by omega
  have hz : V.szL es ≤ 4096 := by omega
  have hb : vbytL es ≤ 65536 := by omega
  clear h0 h1 h2 h3
  induction es with
  | nil => intro e he; cases he
  | cons x es ih =>
    rw [goodL, Bool.and_eq_true] at hg
    rw [depL] at hd
    rw [V.szL] at hz
    rw [vbytL] at hb
    intro e he
    rcases List.mem_cons.1 he with rfl | he
    · exact ⟨hg.1, by omega, by omega, by omega⟩
    · exact ih hg.2 (by omega) (by omega) (by omega) e he
end Go.Proofs.YtgdnkankleoaoaaGreatDoor

/- The comparisons of Go's library that the layer calls. Lists of strings: slices.Compare, keep.Strings, keep.Short. keep.Same and keep.Values: two values are the same. The order of values, plain. The order of values is total, antisymmetric and transitive; plain. -/
import Derived.Test.YtacnpligpbiamaaDoorRows
import Derived.Test.YtacnpligpbiamaaDoorG2
import Derived.Test.YtacnpligpbiamaaDoorG3
import Derived.Lib.Hide
import Derived.Lib.Walk
import Derived.WalkSpells
import Derived.WalkLawsBesides
import Derived.Outline
import Derived.Deep.QuietTactic
import Derived.BigQuiet
import Derived.StillTailTactics
set_option linter.unusedVariables false
set_option linter.unusedSimpArgs false
namespace Go.Proofs.YtacnpligpbiamaaDoor
open Go.RowKit
def icmp (x y : Int) : Int := if x < y then -1 else if y < x then 1 else 0
set_option maxHeartbeats 400000 in
theorem cmp_int (x y : Int) (w : World) : Calls Tryd.prog 61 #[.int .i64 x, .int .i64 y] w fun e w' => e = .returned (.int .i64 (icmp x y)) ∧ w = w' := by
  go_enter Tryd.func61, Tryd.ntmps61
  go_wp2
  all_goals
    go_ret
    exact ⟨ret_int (by unfold icmp; (repeat' split) <;> omega), rfl⟩
set_option maxHeartbeats 400000 in
theorem cmp_int64 (x y : Int) (w : World) : Calls Tryd.prog 62 #[.int .i64 x, .int .i64 y] w fun e w' => e = .returned (.int .i64 (icmp x y)) ∧ w = w' := by
  go_enter Tryd.func62, Tryd.ntmps62
  go_wp2
  all_goals
    go_ret
    exact ⟨ret_int (by unfold icmp; (repeat' split) <;> omega), rfl⟩
set_option maxHeartbeats 400000 in
theorem cmp_str (a b : ByteArray) (w : World) : Calls Tryd.prog 85 #[.string a, .string b] w fun e w' => e = .returned (.int .i64 (scmp a b)) ∧ w = w' := by
  have h1 := less_eq a b
  have h2 := same_eq a b
  rcases scmp_range a b with h | h | h
  · rw [h] at h1 h2
    have H := Lib.hid h
    clear h
    simp only [show decide ((-1 : Int) < 0) = true from rfl, show decide ((-1 : Int) = 0) = false from rfl] at h1 h2
    go_enter Tryd.func85, Tryd.ntmps85
    go_wp2
    go_ret
    exact ⟨ret_int H.out.symm, rfl⟩
  · obtain rfl := (scmp_zero a b).1 h
    rw [h] at h1
    have H := Lib.hid h
    clear h h2
    simp only [show decide ((0 : Int) < 0) = false from rfl] at h1
    go_enter Tryd.func85, Tryd.ntmps85
    go_wp2
    go_ret
    exact ⟨ret_int H.out.symm, rfl⟩
  · rw [h] at h1 h2
    have H := Lib.hid h
    clear h
    simp only [show decide ((1 : Int) < 0) = false from rfl, show decide ((1 : Int) = 0) = false from rfl] at h1 h2
    go_enter Tryd.func85, Tryd.ntmps85
    go_wp2
    go_ret
    exact ⟨ret_int H.out.symm, rfl⟩
set_option maxHeartbeats 1000000 in
set_option maxRecDepth 100000 in
theorem cmp_strings (a b : ByteArray) (w : World) : Calls Tryd.prog 63 #[.string a, .string b] w fun e w' => e = .returned (.int .i64 (scmp a b)) ∧ w = w' := by
  go_enter Tryd.func63, Tryd.ntmps63
  go_wp2
  rw [run_callFunc_extern Tryd.func99 (by kernel_rfl) (by kernel_rfl) (by kernel_rfl) (e := Extern.BytealgCompare.compare) (by kernel_rfl), Lib.run_compareString]
  simp only [Result.andThen]
  rw [Oper.upon_value]
  go_wp2
  go_ret
  exact ⟨rfl, rfl⟩
end Go.Proofs.YtacnpligpbiamaaDoor
namespace Go.Proofs.YtacnpligpbiamaaDoor
open Go.RowKit
/-- The order of two lists of strings. -/
def kcmp : List ByteArray → List ByteArray → Int
  | [], [] => 0
  | [], _ :: _ => -1
  | _ :: _, [] => 1
  | x :: a, y :: b => if scmp x y = 0 then kcmp a b else scmp x y
theorem kcmp_step {ks ls : List ByteArray} {i : Nat} {x y : ByteArray} (hx : ks[i]? = some x) (hy : ls[i]? = some y) (h : scmp x y = 0) : kcmp (ks.drop i) (ls.drop i) = kcmp (ks.drop (i + 1)) (ls.drop (i + 1)) := by
  obtain ⟨h1, rfl⟩ := List.getElem?_eq_some_iff.1 hx
  obtain ⟨h2, rfl⟩ := List.getElem?_eq_some_iff.1 hy
  rw [List.drop_eq_getElem_cons h1, List.drop_eq_getElem_cons h2, kcmp, if_pos h]
theorem kcmp_part {ks ls : List ByteArray} {i : Nat} {x y : ByteArray} (hx : ks[i]? = some x) (hy : ls[i]? = some y) (h : ¬ scmp x y = 0) : kcmp (ks.drop i) (ls.drop i) = scmp x y := by
  obtain ⟨h1, rfl⟩ := List.getElem?_eq_some_iff.1 hx
  obtain ⟨h2, rfl⟩ := List.getElem?_eq_some_iff.1 hy
  rw [List.drop_eq_getElem_cons h1, List.drop_eq_getElem_cons h2, kcmp, if_neg h]
theorem kcmp_long {ks ls : List ByteArray} {i : Nat} {x : ByteArray} (hx : ks[i]? = some x) (hl : ls.length ≤ i) : kcmp (ks.drop i) (ls.drop i) = 1 := by
  obtain ⟨h1, rfl⟩ := List.getElem?_eq_some_iff.1 hx
  rw [List.drop_eq_getElem_cons h1, List.drop_eq_nil_of_le hl, kcmp]
theorem kcmp_end {ks ls : List ByteArray} (hl : ks.length ≤ ls.length) : kcmp (ks.drop ks.length) (ls.drop ks.length) = if ks.length < ls.length then -1 else 0 := by
  rw [List.drop_eq_nil_of_le (Nat.le_refl _)]
  by_cases h : ks.length < ls.length
  · rw [if_pos h, List.drop_eq_getElem_cons h, kcmp]
  · rw [if_neg h, List.drop_eq_nil_of_le (by omega), kcmp]
set_option maxHeartbeats 1000000 in
theorem slcmp_any (A B : Option Addr) (a b : Nat) (ks ls : List ByteArray) (S T : Nat → Prop) (w : World) (hA : Rs w S A (kv ks)) (hB : Rs w T B (kv ls)) (hk : ks.length ≤ maxLen) (hl : ls.length ≤ maxLen) :
    Calls Tryd.prog 64 #[.slice A ks.length a, .slice B ls.length b] w fun e w' => e = .returned (.int .i64 (kcmp ks ls)) ∧ w = w' := by
  have HA := Lib.hid hA
  have HB := Lib.hid hB
  clear hA hB
  unfold maxLen at hk hl
  go_enter Tryd.func64, Tryd.ntmps64
  go_wp2
  go_loop [11] (fun t => ∃ i : Nat, i ≤ ks.length ∧ i ≤ ls.length ∧ t = .int .i64 i ∧ kcmp ks ls = kcmp (ks.drop i) (ls.drop i)) (fun t => ks.length - (intOf t).toNat)
  case atStart => exact ⟨0, Nat.zero_le _, Nat.zero_le _, rfl, rfl⟩
  case round =>
    obtain ⟨i, hi, hil, rfl, h0⟩ := hrel
    have H0 := Lib.hid h0
    clear h0
    by_cases hlt : i < ks.length
    · obtain ⟨x, hx⟩ : ∃ x, ks[i]? = some x := ⟨_, List.getElem?_eq_getElem hlt⟩
      obtain ⟨b0, o0, rfl, _, hc0⟩ := HA.out.at_ (kv_at hx)
      by_cases hlt2 : i < ls.length
      · obtain ⟨y, hy⟩ : ∃ y, ls[i]? = some y := ⟨_, List.getElem?_eq_getElem hlt2⟩
        obtain ⟨b1, o1, rfl, _, hc1⟩ := HB.out.at_ (kv_at hy)
        by_cases hz : scmp x y = 0
        · have hs := Lib.hid (H0.out.trans (kcmp_step hx hy hz))
          have HZ := Lib.hid hz
          have hzb : ((scmp x y) != 0) = false := by simp [hz]
          have HC := Lib.hid (fun w => cmp_str x y w)
          clear hz hx hy
          go_wp2_with (go_at_call 85; refine (HC.out _).mono ?_; rintro e w' ⟨rfl, rfl⟩)
          go_round
          case rel => exact ⟨i + 1, by omega, by omega, by go_num, hs.out⟩
          case measure => simp [intOf]; omega
        · have hs := Lib.hid (H0.out.trans (kcmp_part hx hy hz))
          have hzb : ((scmp x y) != 0) = true := by simp [hz]
          clear hz hx hy
          go_wp2_with (go_at_call 85; refine (cmp_str x y _).mono ?_; rintro e w' ⟨rfl, rfl⟩)
          go_ret
          exact ⟨ret_int hs.out.symm, rfl⟩
      · have hs := Lib.hid (H0.out.trans (kcmp_long hx (by omega)))
        clear hx
        go_wp2
        go_ret
        exact ⟨ret_int hs.out.symm, rfl⟩
    · obtain rfl : i = ks.length := by omega
      have hs := Lib.hid (H0.out.trans (kcmp_end hil))
      by_cases hlt2 : ks.length < ls.length
      · have hv := Lib.hid (hs.out.trans (if_pos hlt2))
        go_wp2
        go_ret
        exact ⟨ret_int hv.out.symm, rfl⟩
      · have hv := Lib.hid (hs.out.trans (if_neg hlt2))
        go_wp2
        go_ret
        exact ⟨ret_int hv.out.symm, rfl⟩
end Go.Proofs.YtacnpligpbiamaaDoor
namespace Go.Proofs.YtacnpligpbiamaaDoor
open Go.RowKit
mutual
def same : V → V → Bool
  | .mk k n s ks es, .mk k' n' s' ks' es' => decide (k = k') && decide (n = n') && decide (s = s') && decide (ks = ks') && sameL es es'
def sameL : List V → List V → Bool
  | [], [] => true
  | e :: es, f :: fs => same e f && sameL es fs
  | [], _ :: _ => false
  | _ :: _, [] => false
end
theorem below2 (w : World) (o p : Obj) : Below w.heap.size w ((w.alloc o).alloc p) := ((Below.refl _ _).alloc (Nat.le_refl _) o).alloc (by simp) p
end Go.Proofs.YtacnpligpbiamaaDoor
namespace Go.Proofs.YtacnpligpbiamaaDoor
mutual
/-- The order of two values. -/
def vcmp : V → V → Int
  | .mk k n s ks es, .mk k' n' s' ks' es' =>
    if icmp k k' = 0 then (if icmp n n' = 0 then (if scmp s s' = 0 then (if kcmp ks ks' = 0 then vcmpL es es' else kcmp ks ks') else scmp s s') else icmp n n') else icmp k k'
def vcmpL : List V → List V → Int
  | [], [] => 0
  | [], _ :: _ => -1
  | _ :: _, [] => 1
  | e :: es, f :: fs => if vcmp e f = 0 then vcmpL es fs else vcmp e f
end
theorem icmp_zero {x y : Int} : icmp x y = 0 ↔ x = y := by unfold icmp; (repeat' split) <;> omega
theorem vcmpL_step {es fs : List V} {i : Nat} {x y : V} (hx : es[i]? = some x) (hy : fs[i]? = some y) (h : vcmp x y = 0) : vcmpL (es.drop i) (fs.drop i) = vcmpL (es.drop (i + 1)) (fs.drop (i + 1)) := by
  obtain ⟨h1, rfl⟩ := List.getElem?_eq_some_iff.1 hx
  obtain ⟨h2, rfl⟩ := List.getElem?_eq_some_iff.1 hy
  rw [List.drop_eq_getElem_cons h1, List.drop_eq_getElem_cons h2, vcmpL, if_pos h]
theorem vcmpL_part {es fs : List V} {i : Nat} {x y : V} (hx : es[i]? = some x) (hy : fs[i]? = some y) (h : ¬ vcmp x y = 0) : vcmpL (es.drop i) (fs.drop i) = vcmp x y := by
  obtain ⟨h1, rfl⟩ := List.getElem?_eq_some_iff.1 hx
  obtain ⟨h2, rfl⟩ := List.getElem?_eq_some_iff.1 hy
  rw [List.drop_eq_getElem_cons h1, List.drop_eq_getElem_cons h2, vcmpL, if_neg h]
theorem vcmpL_end {es fs : List V} {i : Nat} (h : ¬ (i < es.length ∧ i < fs.length)) (hi : i ≤ es.length) (hj : i ≤ fs.length) : vcmpL (es.drop i) (fs.drop i) = icmp es.length fs.length := by
  by_cases h1 : i < es.length
  · have h2 : i = fs.length := by omega
    subst h2
    rw [List.drop_eq_getElem_cons h1, List.drop_eq_nil_of_le (Nat.le_refl _), vcmpL]
    unfold icmp
    rw [if_neg (by omega), if_pos (by omega)]
  · have h2 : i = es.length := by omega
    subst h2
    rw [List.drop_eq_nil_of_le (Nat.le_refl _)]
    by_cases h3 : es.length < fs.length
    · rw [List.drop_eq_getElem_cons h3, vcmpL]
      unfold icmp
      rw [if_pos (by omega)]
    · rw [List.drop_eq_nil_of_le (by omega), vcmpL]
      unfold icmp
      rw [if_neg (by omega), if_neg (by omega)]
end Go.Proofs.YtacnpligpbiamaaDoor
namespace Go.Proofs.YtacnpligpbiamaaDoor
theorem kcmp_zero : ∀ a b : List ByteArray, kcmp a b = 0 ↔ a = b
  | [], [] => by simp [kcmp]
  | [], _ :: _ => by simp [kcmp]
  | _ :: _, [] => by simp [kcmp]
  | x :: a, y :: b => by
    rw [kcmp]
    have h1 := scmp_zero x y
    have h2 := kcmp_zero a b
    by_cases h : scmp x y = 0
    · rw [if_pos h, h2, List.cons.injEq]
      exact ⟨fun k => ⟨h1.1 h, k⟩, fun k => k.2⟩
    · rw [if_neg h, List.cons.injEq]
      exact ⟨fun k => absurd k h, fun k => absurd (h1.2 k.1) h⟩
theorem vcmp_lex (k n : Int) (s : ByteArray) (ks : List ByteArray) (es : List V) (k' n' : Int) (s' : ByteArray) (ks' : List ByteArray) (es' : List V) :
    vcmp (.mk k n s ks es) (.mk k' n' s' ks' es') = if icmp k k' = 0 then (if icmp n n' = 0 then (if scmp s s' = 0 then (if kcmp ks ks' = 0 then vcmpL es es' else kcmp ks ks') else scmp s s') else icmp n n') else icmp k k' := by rw [vcmp]
theorem vcmpL_lex (e f : V) (es fs : List V) : vcmpL (e :: es) (f :: fs) = if vcmp e f = 0 then vcmpL es fs else vcmp e f := by rw [vcmpL]
theorem vcmpL_nn : vcmpL [] [] = 0 := by rw [vcmpL]
theorem vcmpL_nc (f : V) (fs : List V) : vcmpL [] (f :: fs) = -1 := by rw [vcmpL]
theorem vcmpL_cn (f : V) (fs : List V) : vcmpL (f :: fs) [] = 1 := by rw [vcmpL]
theorem vcmp_zero : ∀ v u : V, vcmp v u = 0 ↔ v = u := by
  refine V.ind fun k n s ks es ih u => ?_
  obtain ⟨k', n', s', ks', es'⟩ := u
  have hL : vcmpL es es' = 0 ↔ es = es' := by
    clear ks ks' s s' k k' n n'
    induction es generalizing es' with
    | nil =>
      cases es' with
      | nil => rw [vcmpL_nn]; simp
      | cons f fs => rw [vcmpL_nc]; simp
    | cons e es ihl =>
      cases es' with
      | nil => rw [vcmpL_cn]; simp
      | cons f fs =>
        rw [vcmpL_lex]
        have h1 := ih e (by simp) f
        have h2 := ihl (fun x hx => ih x (by simp [hx])) fs
        by_cases h : vcmp e f = 0
        · rw [if_pos h, h2, List.cons.injEq]
          exact ⟨fun k => ⟨h1.1 h, k⟩, fun k => k.2⟩
        · rw [if_neg h, List.cons.injEq]
          exact ⟨fun k => absurd k h, fun k => absurd (h1.2 k.1) h⟩
  rw [vcmp_lex, V.mk.injEq, ← hL, ← kcmp_zero ks ks', ← scmp_zero s s', ← icmp_zero (x := k) (y := k'), ← icmp_zero (x := n) (y := n')]
  generalize icmp k k' = a
  generalize icmp n n' = b
  generalize scmp s s' = c
  generalize kcmp ks ks' = d
  generalize vcmpL es es' = f
  by_cases h1 : a = 0 <;> by_cases h2 : b = 0 <;> by_cases h3 : c = 0 <;> by_cases h4 : d = 0 <;> simp [h1, h2, h3, h4]
end Go.Proofs.YtacnpligpbiamaaDoor

/- The reference's Bool, Num, Text, Fit, Str, all. append(v, x...), v a row of the call's own, x any slice that reads as a list: nil, empty or not; elements of any size; at a plain list and at a step of a region that draws. Slices of slices. Nothing of the program is named here. The reference's List and Arr. -/
import Derived.Test.YtnokmlclephjgaaMake2
import Derived.Test.YtnokmlclephjgaaStrs
import Derived.Test.YtnokmlclephjgaaRMeasP
import Derived.Test.YtnokmlclephjgaaBox
import Derived.Test.YtnokmlclephjgaaUtf3
import Derived.Deep.QuietTactic
import Derived.BigQuiet
import Derived.Test.YtnokmlclephjgaaMA
import Derived.Deep.DeepCutAuto
import Derived.Deep.RegionHeld3
import Derived.Deep.Light
import Derived.Test.YtnokmlclephjgaaCalm
import Derived.Test.YtnokmlclephjgaaCmp2
import Derived.Test.YtnokmlclephjgaaVal
import Derived.Laws.AppendOwnNone
import Derived.Laws.OwnMore
import Derived.RegionTactic
import Derived.Test.YtnokmlclephjgaaGrow
set_option linter.unusedVariables false
set_option linter.unusedSimpArgs false
namespace Go.Proofs.Ytnokmlclephjgaa
open Go.RowKit
end Go.Proofs.Ytnokmlclephjgaa
namespace Go.Proofs.Ytnokmlclephjgaa
open Go.RowKit
theorem rs_none {w : World} {S : Nat → Prop} {xs : List Value} (h : Rs w S none xs) : xs = [] := by
  cases xs with
  | nil => rfl
  | cons u r => obtain ⟨b, o, e, _⟩ := h 0 u rfl; cases e
theorem wp_append_rs {P : Program} (w : World) {o : Oper} {a : Act} {K : Act → World → Prop} {Q : Exit → Act → World → Prop} (s x : Operand) (t : TypeId)
    (ho : o.op = .call { callee := .builtin .append, args := #[s, x], argTypes := #[t, t] })
    (base : Nat) (e : TypeId) (i : TypeInfo) (z : Value) (size bytes : Nat) (ht : P.underlying t = some (.slice e)) (hi : P.info? e = some i) (hz : i.zero = some z)
    (hsize : i.size = size) (hby : i.bytes = bytes) (hzs : z.cells.size = size) (hsz : 0 < size)
    (v : Value) (n : Nat) (xs : List Value) (hs : a.eval s = v) (hown : w.ownsRow base e size v n xs)
    (S : Nat → Prop) (A : Option Addr) (m c : Nat) (news : List Value) (hx : a.eval x = .slice A m c) (hl : news.length = m * size) (hr : Rs w S A news) (hnil : A = none → c = 0) (h1 : ∀ u ∈ news, u.oneCell' = true)
    (h63 : n + m ≤ maxLen) (hbytes : (n + m) * bytes ≤ 140737488355328) (hbase : base ≤ w.heap.size)
    (h : ∀ v' w', w'.ownsRow base e size v' (n + m) (xs ++ news) → w.grownBy w' v.ownBlock → K (a.put o.dst v') w') : o.wp P a w K Q := by
  cases A with
  | none =>
    have hn := rs_none hr
    subst hn
    have hm : m = 0 := by
      have : 0 = m * size := by simpa using hl
      rcases Nat.eq_zero_or_pos m with h | h
      · exact h
      · have := Nat.mul_pos h hsz; omega
    subst hm
    obtain rfl := hnil rfl
    have hrun := run_append_owned_none (P := P) (w := w) base t o.type e i size ht hi v n xs hown
    unfold Oper.wp
    simp [execOp, ho, resolve, invoke, builtin, hs, hx, hrun, Result.andThen]
    exact h v w (by simpa using hown) (World.grownBy.refl w _)
  | some ad =>
    refine wp_append_own w s x t ho base e i z size bytes ht hi hz hsize hby hzs hsz v n xs hs hown ad m c news hx hl ?_ h1 h63 hbytes hbase fun v' w' g1 g2 _ => h v' w' g1 g2
    intro j u hj
    obtain ⟨b, o, h1, _, h2⟩ := hr j u hj
    injection h1 with h1
    subst h1
    have h3 : ((⟨b, o, none⟩ : Addr).add j) = ⟨b, o + j, none⟩ := by
      unfold Addr.add
      by_cases h : j = 0 <;> simp [h]
    rw [h3, h2]
theorem wpList_append_rs {P : Program} (w : World) {ops : Array Oper} {rest : List Oper} {o : Oper} {a : Act} {Q : Exit → Act → World → Prop} (hgd : o.guard = none) (s x : Operand) (t : TypeId)
    (ho : o.op = .call { callee := .builtin .append, args := #[s, x], argTypes := #[t, t] })
    (base : Nat) (e : TypeId) (i : TypeInfo) (z : Value) (size bytes : Nat) (ht : P.underlying t = some (.slice e)) (hi : P.info? e = some i) (hz : i.zero = some z)
    (hsize : i.size = size) (hby : i.bytes = bytes) (hzs : z.cells.size = size) (hsz : 0 < size)
    (v : Value) (n : Nat) (xs : List Value) (hs : a.eval s = v) (hown : w.ownsRow base e size v n xs)
    (S : Nat → Prop) (A : Option Addr) (m c : Nat) (news : List Value) (hx : a.eval x = .slice A m c) (hl : news.length = m * size) (hr : Rs w S A news) (hnil : A = none → c = 0) (h1 : ∀ u ∈ news, u.oneCell' = true)
    (h63 : n + m ≤ maxLen) (hbytes : (n + m) * bytes ≤ 140737488355328) (hbase : base ≤ w.heap.size)
    (h : ∀ v' w', w'.ownsRow base e size v' (n + m) (xs ++ news) → w.grownBy w' v.ownBlock → wpList P ops Q rest (a.put o.dst v') w') : wpList P ops Q (o :: rest) a w :=
  wpList_plain hgd fun _ hK => wp_append_rs w s x t ho base e i z size bytes ht hi hz hsize hby hzs hsz v n xs hs hown S A m c news hx hl hr hnil h1 h63 hbytes hbase fun v' w' h2 h3 => hK _ _ (h v' w' h2 h3)
theorem step_append_rs {P : Program} (w : World) {ops : Array Oper} {o : Oper} {a : Act} {K : Act → World → Prop} {Q : Exit → Act → World → Prop} {E : Prop} (hgd : o.guard = none) (s x : Operand) (t : TypeId)
    (ho : o.op = .call { callee := .builtin .append, args := #[s, x], argTypes := #[t, t] })
    (base : Nat) (e : TypeId) (i : TypeInfo) (z : Value) (size bytes : Nat) (ht : P.underlying t = some (.slice e)) (hi : P.info? e = some i) (hz : i.zero = some z)
    (hsize : i.size = size) (hby : i.bytes = bytes) (hzs : z.cells.size = size) (hsz : 0 < size)
    (v : Value) (n : Nat) (xs : List Value) (hs : a.eval s = v) (hown : w.ownsRow base e size v n xs)
    (S : Nat → Prop) (A : Option Addr) (m c : Nat) (news : List Value) (hx : a.eval x = .slice A m c) (hl : news.length = m * size) (hr : Rs w S A news) (hnil : A = none → c = 0) (h1 : ∀ u ∈ news, u.oneCell' = true)
    (h63 : n + m ≤ maxLen) (hbytes : (n + m) * bytes ≤ 140737488355328) (hbase : base ≤ w.heap.size)
    (h : ∀ v' w', w'.ownsRow base e size v' (n + m) (xs ++ news) → w.grownBy w' v.ownBlock → K (a.put o.dst v') w') :
    if Region.wanted o (yielded ops a.tmps) = true then Oper.wp P o a w K Q else E := by
  have hw : Region.wanted o (yielded ops a.tmps) = true := by simp [Region.wanted, hgd]
  rw [if_pos hw]
  exact wp_append_rs w s x t ho base e i z size bytes ht hi hz hsize hby hzs hsz v n xs hs hown S A m c news hx hl hr hnil h1 h63 hbytes hbase h
/-- A beginning of a slice that reads as a list. -/
theorem Rs.take {w : World} {S : Nat → Prop} {A : Option Addr} {xs : List Value} (h : Rs w S A xs) (m : Nat) : Rs w S A (xs.take m) := by
  intro j u hj
  rw [List.getElem?_take] at hj
  split at hj
  · exact h j u hj
  · cases hj
/-- A rest of it: the address that the model gives. -/
def dropA (A : Option Addr) (c l s : Nat) : Option Addr := if c = l then A else A.map (·.add (l * s))
theorem Rs.drop {w : World} {S : Nat → Prop} {A : Option Addr} {xs : List Value} (h : Rs w S A xs) (c l s n : Nat) (hn : xs.length = n * s) (hnc : n ≤ c) (hl : l ≤ n) : Rs w S (dropA A c l s) (xs.drop (l * s)) := by
  intro j u hj
  rw [List.getElem?_drop] at hj
  obtain ⟨b, o, e, hb, hc⟩ := h _ u hj
  have hlt : l * s + j < n * s := by
    rw [← hn]
    exact (List.getElem?_eq_some_iff.1 hj).1
  have hcl : ¬ c = l := by
    intro e2
    have : n ≤ l := by omega
    have := Nat.mul_le_mul_right s this
    omega
  refine ⟨b, o + l * s, ?_, hb, by rw [Nat.add_assoc]; exact hc⟩
  unfold dropA
  rw [if_neg hcl, e]
  simp only [Option.map_some]
  congr 1
  unfold Addr.add
  by_cases h0 : l * s = 0 <;> simp [h0]
theorem LiesL.take {w : World} {S : Nat → Prop} : ∀ {es : List V} {xs : List Value}, LiesL w S es xs → ∀ m, LiesL w S (es.take m) (xs.take (m * 5))
  | [], xs, h, m => by rw [LiesL] at h; subst h; simp; rw [LiesL]
  | e :: es, xs, h, 0 => by simp; rw [LiesL]
  | e :: es, xs, h, m + 1 => by
    rw [LiesL] at h
    obtain ⟨c, r, rfl, hc, hr⟩ := h
    have h5 := hc.five
    rw [List.take_succ_cons, LiesL]
    refine ⟨c, r.take (m * 5), ?_, hc, hr.take m⟩
    rw [List.take_append, h5, List.take_of_length_le (by omega), show (m + 1) * 5 - 5 = m * 5 from by omega]
theorem LiesL.drop {w : World} {S : Nat → Prop} : ∀ {es : List V} {xs : List Value}, LiesL w S es xs → ∀ m, LiesL w S (es.drop m) (xs.drop (m * 5))
  | [], xs, h, m => by rw [LiesL] at h; subst h; simp; rw [LiesL]
  | e :: es, xs, h, 0 => by simpa using h
  | e :: es, xs, h, m + 1 => by
    rw [LiesL] at h
    obtain ⟨c, r, rfl, hc, hr⟩ := h
    have h5 := hc.five
    rw [List.drop_succ_cons, show (m + 1) * 5 = 5 + m * 5 from by omega, ← List.drop_drop]
    have : (c ++ r).drop 5 = r := by rw [← h5]; simp
    rw [this]
    exact hr.drop m
end Go.Proofs.Ytnokmlclephjgaa
namespace Go.Proofs.Ytnokmlclephjgaa
open Go.RowKit
end Go.Proofs.Ytnokmlclephjgaa

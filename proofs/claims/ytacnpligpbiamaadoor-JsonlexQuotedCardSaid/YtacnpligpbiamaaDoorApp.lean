/- Appends onto a row of bytes of the call's own, with where the new row lies. -/
import Derived.Test.YtacnpligpbiamaaDoorBox
import Derived.Maps.AppendAt
import Derived.Lib.AppendStr
import Derived.Lib.Hide
set_option linter.unusedVariables false
set_option linter.unusedSimpArgs false
namespace Go.Proofs.YtacnpligpbiamaaDoor
open Go.RowKit
/-- What an append onto the row of v leaves: the row of v and new blocks alone are turned, and the new row lies in v's block or in a new one. -/
structure App (w : World) (v : Value) (w' : World) (v' : Value) : Prop where
  grow : w.grownBy w' v.ownBlock
  far : ∀ g, v'.ownBlock = some g → v.ownBlock = some g ∨ w.heap.size ≤ g
theorem App.refl (w : World) (v : Value) : App w v w v := ⟨World.grownBy.refl w _, fun g h => .inl h⟩
theorem App.trans {w w1 w2 : World} {v v1 v2 : Value} (h : App w v w1 v1) (k : App w1 v1 w2 v2) : App w v w2 v2 := by
  have hs := h.grow.size
  refine ⟨⟨k.grow.os.trans h.grow.os, k.grow.tape.trans h.grow.tape, k.grow.output.trans h.grow.output, Nat.le_trans hs k.grow.size, fun i hi hn => (k.grow.block i (Nat.lt_of_lt_of_le hi hs) fun e => ?_).trans (h.grow.block i hi hn)⟩, fun g hg => ?_⟩
  · rcases h.far i e.symm with h1 | h1
    · exact hn h1.symm
    · omega
  · rcases k.far g hg with h1 | h1
    · exact h.far g h1
    · exact .inr (Nat.le_trans hs h1)
theorem App.below {w w' : World} {v v' : Value} {base : Nat} (h : App w v w' v') (hb : base ≤ w.heap.size) (hv : ∀ g, v.ownBlock = some g → base ≤ g) : Below base w w' := (Below.refl _ _).grown h.grow hb hv
theorem App.box {w w' : World} {v v' : Value} {g : Nat} {t : TypeId} {cs : Array Value} (h : App w v w' v') (hx : Box w g t cs) (hv : v.ownBlock ≠ some g) : Box w' g t cs := hx.grown h.grow (fun e => hv e.symm)
theorem App.off {w w' : World} {v v' : Value} {g : Nat} (h : App w v w' v') (hg : g < w.heap.size) (hv : v.ownBlock ≠ some g) : v'.ownBlock ≠ some g := fun e => by
  rcases h.far g e with h1 | h1
  · exact hv h1
  · omega
theorem grown_both {a b c : World} {row : Option Nat} (h : a.grownBy b row) (k : b.grownBy c row) : a.grownBy c row := grown_trans h k
theorem App.pre {w w0 w' : World} {v v' : Value} (h : App w0 v w' v') (k : Below w.heap.size w w0) : App w v w' v' :=
  ⟨grown_trans (below_grown k _) h.grow, fun g hg => by
    rcases h.far g hg with h1 | h1
    · exact .inl h1
    · exact .inr (Nat.le_trans k.size h1)⟩
theorem App.post {w w' w2 : World} {v v' : Value} (h : App w v w' v') (k : Below w'.heap.size w' w2) : App w v w2 v' :=
  ⟨⟨k.os.trans h.grow.os, k.tape.trans h.grow.tape, k.output.trans h.grow.output, Nat.le_trans h.grow.size k.size, fun i hi hn => (k.block i (Nat.lt_of_lt_of_le hi h.grow.size)).trans (h.grow.block i hi hn)⟩, h.far⟩
theorem own_base {w : World} {base base' : Nat} {e : TypeId} {size n : Nat} {v : Value} {xs : List Value} (h : w.ownsRow base e size v n xs) (hv : ∀ g, v.ownBlock = some g → base' ≤ g) : w.ownsRow base' e size v n xs := by
  refine ⟨h.1, ?_⟩
  rcases h.2 with h1 | ⟨g, cap, cur, rfl, h1, h2⟩
  · exact .inl h1
  · exact .inr ⟨g, cap, cur, rfl, hv g rfl, h2⟩
section
variable {P : Program} (w : World)
theorem run_append_app_string (base : Nat) (t u ty e : TypeId) (i : TypeInfo) (ht : P.underlying t = some (.slice e)) (hu : P.underlying u = some .string) (hi : P.info? e = some i) (hz : i.zero = some (.int .u8 0))
    (hsize : i.size = 1) (hby : i.bytes = 1)
    (v : Value) (n : Nat) (xs : List Value) (hown : w.ownsRow base e 1 v n xs) (s : ByteArray)
    (h63 : n + s.size ≤ maxLen) (hbytes : n + s.size ≤ 140737488355328) (hbase : base ≤ w.heap.size) :
    ∃ v' w', (Builtin.append_ #[t, u] ty #[v, .string s]).run P w = .ok v' w' ∧ w'.ownsRow base e 1 v' (n + s.size) (xs ++ Lib.strCells s) ∧ App w v w' v' := by
  obtain ⟨v', w', hr, ho, hg, -⟩ := Lib.run_append_own_string (P := P) w base t u ty e i ht hu hi hz hsize hby v n xs hown s h63 hbytes hbase
  refine ⟨v', w', hr, ho, hg, ?_⟩
  have hxl : xs.length = n := by simpa using hown.1
  rcases hown.2 with ⟨rfl, rfl⟩ | ⟨g, cap, cur, rfl, hbg, hgg, hnc, hcm, hcs, htake⟩
  · have hx : xs = [] := List.eq_nil_of_length_eq_zero hxl
    subst hx
    obtain ⟨v2, w2, hr2, ho2, -, -⟩ := Lib.run_append_own_string (P := P) w w.heap.size t u ty e i ht hu hi hz hsize hby (.slice none 0 0) 0 [] (World.ownsRow_nil _ _ _ _) s h63 hbytes (Nat.le_refl _)
    rw [hr] at hr2
    injection hr2 with e1 e2
    subst e1 e2
    exact fun k hk => .inr (ho2.lt k hk).1
  · by_cases hroom : n + s.size ≤ cap
    · have hcs' : cur.size = cap := by simpa using hcs
      have hr2 := Lib.run_append_room_string (P := P) w t u ty e i ht hu hi hsize g n cap cur hgg s hroom (by omega)
      rw [hr] at hr2
      injection hr2 with e1 e2
      subst e1
      exact fun k hk => .inl hk
    · have hsmall : n + s.size ≤ 9223372036854775807 := by simp only [maxLen] at h63; omega
      have holds : ∀ j u, xs[j]? = some u → w.cell? ((⟨g, 0, none⟩ : Addr).add j) = some u := hown.cells (g := g) rfl
      have hr2 := Lib.run_append_grow_string (P := P) w t u ty e i (.int .u8 0) ht hu hi hz ⟨g, 0, none⟩ n cap xs (by rw [hsize]; simpa using hxl) holds s (by omega) (by omega) (by rw [hby]; exact growslice_fits (by omega) (by omega))
      rw [hr] at hr2
      injection hr2 with e1 e2
      subst e1
      intro k hk
      simp only [Value.ownBlock, Option.some.injEq] at hk
      exact .inr (by omega)
/-- append(v, s...), s a string, at the operation. -/
theorem wpList_app_string {ops : Array Oper} {rest : List Oper} {o : Oper} {a : Act} {Q : Exit → Act → World → Prop} (hgd : o.guard = none) (sl x : Operand) (t u : TypeId)
    (ho : o.op = .call { callee := .builtin .append, args := #[sl, x], argTypes := #[t, u] })
    (base : Nat) (e : TypeId) (i : TypeInfo) (ht : P.underlying t = some (.slice e)) (hu : P.underlying u = some .string) (hi : P.info? e = some i) (hz : i.zero = some (.int .u8 0))
    (hsize : i.size = 1) (hby : i.bytes = 1)
    (v : Value) (n : Nat) (xs : List Value) (hs : a.eval sl = v) (hown : w.ownsRow base e 1 v n xs) (s : ByteArray) (hx : a.eval x = .string s)
    (hlim : n + s.size ≤ 1073741824) (hbase : base ≤ w.heap.size) (m : Nat) (ys : List Value) (hm : s.size = m) (hys : Lib.strCells s = ys)
    (h : ∀ A c w', w'.ownsRow base e 1 (.slice A (n + m) c) (n + m) (xs ++ ys) → App w v w' (.slice A (n + m) c) → wpList P ops Q rest (a.put o.dst (.slice A (n + m) c)) w') : wpList P ops Q (o :: rest) a w := by
  subst hm hys
  refine wpList_plain hgd fun K hK => ?_
  obtain ⟨v', w', hr, h2, h3⟩ := run_append_app_string (P := P) w base t u o.type e i ht hu hi hz hsize hby v n xs hown s (by unfold maxLen; omega) (by omega) hbase
  obtain ⟨A, c, rfl, -, -⟩ := own_slice h2
  unfold Oper.wp execOp
  simp only [ho, resolve, invoke, builtin, Sem.run_bind, Sem.run_pure, Result.andThen_ok, List.map_toArray, List.map_cons, List.map_nil, hs, hx, hr]
  exact hK _ _ (h A c w' h2 h3)
theorem wp_app_cells {o : Oper} {a : Act} {K : Act → World → Prop} {Q : Exit → Act → World → Prop} (s x : Operand) (t : TypeId)
    (ho : o.op = .call { callee := .builtin .append, args := #[s, x], argTypes := #[t, t] })
    (base : Nat) (e : TypeId) (i : TypeInfo) (z : Value) (ht : P.underlying t = some (.slice e)) (hi : P.info? e = some i) (hz : i.zero = some z)
    (hsize : i.size = 1) (hby : i.bytes = 1) (hzs : z.cells.size = 1)
    (v : Value) (n : Nat) (xs : List Value) (hs : a.eval s = v) (hown : w.ownsRow base e 1 v n xs)
    (ad : Addr) (k c : Nat) (news : List Value) (hx : a.eval x = .slice (some ad) k c) (hl : news.length = k) (hnews : ∀ j u, news[j]? = some u → w.cell? (ad.add j) = some u)
    (hlim : n + k ≤ 1073741824) (hbase : base ≤ w.heap.size) (ys : List Value) (hys : news = ys) (h1 : ∀ u ∈ ys, u.oneCell' = true)
    (h : ∀ A c w', w'.ownsRow base e 1 (.slice A (n + k) c) (n + k) (xs ++ ys) → App w v w' (.slice A (n + k) c) → K (a.put o.dst (.slice A (n + k) c)) w') : o.wp P a w K Q := by
  subst hys
  obtain ⟨v', w', hr, h2, h3, -, h5⟩ := run_append_own_at (P := P) w base t o.type e i z 1 1 ht hi hz hsize hby hzs (by decide) v n xs hown ad k c news (by omega) hnews h1 (by unfold maxLen; omega) (by omega) hbase
  obtain ⟨A, c, rfl, -, -⟩ := own_slice h2
  unfold Oper.wp execOp
  simp only [ho, resolve, invoke, builtin, Sem.run_bind, Sem.run_pure, Result.andThen_ok, List.map_toArray, List.map_cons, List.map_nil, hs, hx, hr]
  refine h A c w' h2 ⟨h3, fun g hg => ?_⟩
  rcases h5 with h5 | h5
  · exact .inl (h5.symm.trans hg)
  · rw [h5] at hg
    injection hg with hg
    exact .inr (by omega)
/-- append(v, x..), the x laid in a block of their own, at the operation. -/
theorem wpList_app_cells {ops : Array Oper} {rest : List Oper} {o : Oper} {a : Act} {Q : Exit → Act → World → Prop} (hgd : o.guard = none) (s x : Operand) (t : TypeId)
    (ho : o.op = .call { callee := .builtin .append, args := #[s, x], argTypes := #[t, t] })
    (base : Nat) (e : TypeId) (i : TypeInfo) (z : Value) (ht : P.underlying t = some (.slice e)) (hi : P.info? e = some i) (hz : i.zero = some z)
    (hsize : i.size = 1) (hby : i.bytes = 1) (hzs : z.cells.size = 1)
    (v : Value) (n : Nat) (xs : List Value) (hs : a.eval s = v) (hown : w.ownsRow base e 1 v n xs)
    (ad : Addr) (k c : Nat) (news : List Value) (hx : a.eval x = .slice (some ad) k c) (hl : news.length = k) (hnews : ∀ j u, news[j]? = some u → w.cell? (ad.add j) = some u)
    (hlim : n + k ≤ 1073741824) (hbase : base ≤ w.heap.size) (ys : List Value) (hys : news = ys) (h1 : ∀ u ∈ ys, u.oneCell' = true)
    (h : ∀ A c w', w'.ownsRow base e 1 (.slice A (n + k) c) (n + k) (xs ++ ys) → App w v w' (.slice A (n + k) c) → wpList P ops Q rest (a.put o.dst (.slice A (n + k) c)) w') : wpList P ops Q (o :: rest) a w :=
  wpList_plain hgd fun K hK => wp_app_cells w s x t ho base e i z ht hi hz hsize hby hzs v n xs hs hown ad k c news hx hl hnews hlim hbase ys hys h1 fun A c w' h2 h3 => hK _ _ (h A c w' h2 h3)
/-- The same at a step of a region that draws. -/
theorem step_app_cells {ops : Array Oper} {o : Oper} {a : Act} {K : Act → World → Prop} {Q : Exit → Act → World → Prop} {E : Prop} (hgd : o.guard = none) (s x : Operand) (t : TypeId)
    (ho : o.op = .call { callee := .builtin .append, args := #[s, x], argTypes := #[t, t] })
    (base : Nat) (e : TypeId) (i : TypeInfo) (z : Value) (ht : P.underlying t = some (.slice e)) (hi : P.info? e = some i) (hz : i.zero = some z)
    (hsize : i.size = 1) (hby : i.bytes = 1) (hzs : z.cells.size = 1)
    (v : Value) (n : Nat) (xs : List Value) (hs : a.eval s = v) (hown : w.ownsRow base e 1 v n xs)
    (ad : Addr) (k c : Nat) (news : List Value) (hx : a.eval x = .slice (some ad) k c) (hl : news.length = k) (hnews : ∀ j u, news[j]? = some u → w.cell? (ad.add j) = some u)
    (hlim : n + k ≤ 1073741824) (hbase : base ≤ w.heap.size) (ys : List Value) (hys : news = ys) (h1 : ∀ u ∈ ys, u.oneCell' = true)
    (h : ∀ A c w', w'.ownsRow base e 1 (.slice A (n + k) c) (n + k) (xs ++ ys) → App w v w' (.slice A (n + k) c) → K (a.put o.dst (.slice A (n + k) c)) w') :
    if Region.wanted o (yielded ops a.tmps) = true then Oper.wp P o a w K Q else E := by
  have hw : Region.wanted o (yielded ops a.tmps) = true := by simp [Region.wanted, hgd]
  rw [if_pos hw]
  exact wp_app_cells w s x t ho base e i z ht hi hz hsize hby hzs v n xs hs hown ad k c news hx hl hnews hlim hbase ys hys h1 h
end
end Go.Proofs.YtacnpligpbiamaaDoor

/- append(v, x...), v a row of the call's own: the row that comes out is v's own block or a new one. Obj of the members in another order: rows of the call's own. What a region has made: a row of keys, a row of values, a box, in any order. -/
import Derived.Test.YtgdnkankleoaoaaRPut
import Derived.Deep.DeepAppendRoom
import Derived.Test.YtgdnkankleoaoaaMemP
import Derived.Test.YtgdnkankleoaoaaZMake
import Derived.Test.YtgdnkankleoaoaaRMake
set_option linter.unusedVariables false
set_option linter.unusedSimpArgs false
namespace Go.Proofs.Ytgdnkankleoaoaa
open Go.RowKit
theorem run_append_far {P : Program} (w : World) (base : Nat) (t ty e : TypeId) (i : TypeInfo) (z : Value) (size bytes : Nat) (ht : P.underlying t = some (.slice e)) (hi : P.info? e = some i) (hz : i.zero = some z)
    (hsize : i.size = size) (hby : i.bytes = bytes) (hzs : z.cells.size = size) (hsz : 0 < size)
    (v : Value) (n : Nat) (xs : List Value) (hown : w.ownsRow base e size v n xs)
    (a : Addr) (m c : Nat) (news : List Value) (hl : news.length = m * size) (hnews : ∀ j u, news[j]? = some u → w.cell? (a.add j) = some u) (h1 : ∀ u ∈ news, u.oneCell' = true)
    (h63 : n + m ≤ maxLen) (hbytes : (n + m) * bytes ≤ 140737488355328) (hbase : base ≤ w.heap.size) :
    ∃ v' w', (Builtin.append_ #[t, t] ty #[v, .slice (some a) m c]).run P w = .ok v' w' ∧ w'.ownsRow base e size v' (n + m) (xs ++ news) ∧ w.grownBy w' v.ownBlock ∧
      ∀ k, v'.ownBlock = some k → v.ownBlock = some k ∨ w.heap.size ≤ k := by
  obtain ⟨v', w', hr, ho, hg, -⟩ := run_append_own (P := P) w base t ty e i z size bytes ht hi hz hsize hby hzs hsz v n xs hown a m c news hl hnews h1 h63 hbytes hbase
  refine ⟨v', w', hr, ho, hg, ?_⟩
  have hown' := hown
  rcases hown'.2 with ⟨rfl, rfl⟩ | ⟨g, cap, cur, rfl, hbg, hgg, hnc, hcm, hcs, htake⟩
  · have hx : xs = [] := List.eq_nil_of_length_eq_zero (by simpa using hown.1)
    subst hx
    obtain ⟨v2, w2, hr2, ho2, -, -⟩ := run_append_own (P := P) w w.heap.size t ty e i z size bytes ht hi hz hsize hby hzs hsz (.slice none 0 0) 0 [] (World.ownsRow_nil _ _ _ _) a m c news hl hnews h1 h63 hbytes (Nat.le_refl _)
    rw [hr] at hr2
    injection hr2 with e1 e2
    subst e1 e2
    exact fun k hk => .inr (ho2.lt k hk).1
  · by_cases hroom : n + m ≤ cap
    · obtain ⟨w2, hr2, -, -⟩ := run_append_own_spare (P := P) w base t ty e i size ht hi hsize g n cap xs hown a m c news hl hnews h1 hroom
      rw [hr] at hr2
      injection hr2 with e1 e2
      subst e1
      exact fun k hk => .inl hk
    · subst hsize hby
      have holds : ∀ j u, xs[j]? = some u → w.cell? ((⟨g, 0, none⟩ : Addr).add j) = some u := hown.cells (g := g) rfl
      have hsmall : n + m ≤ 9223372036854775807 := by simp only [maxLen] at h63; omega
      have hr2 := run_append_grow (P := P) w t ty e i z ht hi hz ⟨g, 0, none⟩ n cap xs hown.1 holds a m c news hl hnews (by omega) (by omega) (growslice_fits (by omega) hbytes)
      rw [hr] at hr2
      injection hr2 with e1 e2
      subst e1
      intro k hk
      simp only [Value.ownBlock, Option.some.injEq] at hk
      exact .inr (by omega)
theorem wp_append_far {P : Program} (w : World) {o : Oper} {a : Act} {K : Act → World → Prop} {Q : Exit → Act → World → Prop} (s x : Operand) (t : TypeId)
    (ho : o.op = .call { callee := .builtin .append, args := #[s, x], argTypes := #[t, t] })
    (base : Nat) (e : TypeId) (i : TypeInfo) (z : Value) (size bytes : Nat) (ht : P.underlying t = some (.slice e)) (hi : P.info? e = some i) (hz : i.zero = some z)
    (hsize : i.size = size) (hby : i.bytes = bytes) (hzs : z.cells.size = size) (hsz : 0 < size)
    (v : Value) (n : Nat) (xs : List Value) (hs : a.eval s = v) (hown : w.ownsRow base e size v n xs)
    (S : Nat → Prop) (A : Option Addr) (m c : Nat) (news : List Value) (hx : a.eval x = .slice A m c) (hl : news.length = m * size) (hr : Rs w S A news) (hnil : A = none → c = 0) (h1 : ∀ u ∈ news, u.oneCell' = true)
    (h63 : n + m ≤ maxLen) (hbytes : (n + m) * bytes ≤ 140737488355328) (hbase : base ≤ w.heap.size)
    (h : ∀ v' w', w'.ownsRow base e size v' (n + m) (xs ++ news) → w.grownBy w' v.ownBlock → (∀ k, v'.ownBlock = some k → v.ownBlock = some k ∨ w.heap.size ≤ k) → K (a.put o.dst v') w') : o.wp P a w K Q := by
  cases A with
  | none =>
    have hn := rs_none hr
    subst hn
    have hm : m = 0 := by
      have : 0 = m * size := by simpa using hl
      rcases Nat.eq_zero_or_pos m with h | h
      · exact h
      · have := Nat.mul_pos h hsz; omega
    subst hm
    obtain rfl := hnil rfl
    have hrun := run_append_owned_none (P := P) (w := w) base t o.type e i size ht hi v n xs hown
    unfold Oper.wp
    simp [execOp, ho, resolve, invoke, builtin, hs, hx, hrun, Result.andThen]
    exact h v w (by simpa using hown) (World.grownBy.refl w _) (fun k hk => .inl hk)
  | some ad =>
    have hnews : ∀ j u, news[j]? = some u → w.cell? (ad.add j) = some u := by
      intro j u hj
      obtain ⟨b, o, h1, _, h2⟩ := hr j u hj
      injection h1 with h1
      subst h1
      have h3 : ((⟨b, o, none⟩ : Addr).add j) = ⟨b, o + j, none⟩ := by
        unfold Addr.add
        by_cases h : j = 0 <;> simp [h]
      rw [h3, h2]
    obtain ⟨v', w', hrr, g1, g2, g3⟩ := run_append_far (P := P) w base t o.type e i z size bytes ht hi hz hsize hby hzs hsz v n xs hown ad m c news hl hnews h1 h63 hbytes hbase
    unfold Oper.wp execOp
    simp only [ho, resolve, invoke, builtin, Sem.run_bind, Sem.run_pure, Result.andThen_ok, List.map_toArray, List.map_cons, List.map_nil, hs, hx, hrr]
    exact h v' w' g1 g2 g3
/-- The same at a step of a region that draws. -/
theorem step_append_far {P : Program} (w : World) {ops : Array Oper} {o : Oper} {a : Act} {K : Act → World → Prop} {Q : Exit → Act → World → Prop} {E : Prop} (hgd : o.guard = none) (s x : Operand) (t : TypeId)
    (ho : o.op = .call { callee := .builtin .append, args := #[s, x], argTypes := #[t, t] })
    (base : Nat) (e : TypeId) (i : TypeInfo) (z : Value) (size bytes : Nat) (ht : P.underlying t = some (.slice e)) (hi : P.info? e = some i) (hz : i.zero = some z)
    (hsize : i.size = size) (hby : i.bytes = bytes) (hzs : z.cells.size = size) (hsz : 0 < size)
    (v : Value) (n : Nat) (xs : List Value) (hs : a.eval s = v) (hown : w.ownsRow base e size v n xs)
    (S : Nat → Prop) (A : Option Addr) (m c : Nat) (news : List Value) (hx : a.eval x = .slice A m c) (hl : news.length = m * size) (hr : Rs w S A news) (hnil : A = none → c = 0) (h1 : ∀ u ∈ news, u.oneCell' = true)
    (h63 : n + m ≤ maxLen) (hbytes : (n + m) * bytes ≤ 140737488355328) (hbase : base ≤ w.heap.size)
    (h : ∀ v' w', w'.ownsRow base e size v' (n + m) (xs ++ news) → w.grownBy w' v.ownBlock → (∀ k, v'.ownBlock = some k → v.ownBlock = some k ∨ w.heap.size ≤ k) → K (a.put o.dst v') w') :
    if Region.wanted o (yielded ops a.tmps) = true then Oper.wp P o a w K Q else E := by
  have hw : Region.wanted o (yielded ops a.tmps) = true := by simp [Region.wanted, hgd]
  rw [if_pos hw]
  exact wp_append_far w s x t ho base e i z size bytes ht hi hz hsize hby hzs hsz v n xs hs hown S A m c news hx hl hr hnil h1 h63 hbytes hbase h
/-- What is carried over an append: a row of the call's own that stands in a block below, or beside. -/
theorem own_lit {W : World} {e : TypeId} {size base p : Nat} (hp : p = W.heap.size) (hb : base ≤ W.heap.size) : (W.alloc (.cells #[] e)).ownsRow base e size (.slice (some ⟨p, 0, none⟩) 0 0) 0 [] := by
  subst hp
  exact Go.Joins.ownsRow_le (empty_own W e size) hb
end Go.Proofs.Ytgdnkankleoaoaa
namespace Go.Proofs.Ytgdnkankleoaoaa
open Go.RowKit
theorem putAll_cong : ∀ (l l' : List Mb) (ps : PL), l.map Mb.key = l'.map Mb.key → l.map Mb.v = l'.map Mb.v →
    l.foldl (fun ps m => putP ps m.key m.v) ps = l'.foldl (fun ps m => putP ps m.key m.v) ps
  | [], [], _, _, _ => rfl
  | [], _ :: _, _, h, _ => by cases h
  | _ :: _, [], _, h, _ => by cases h
  | a :: l, b :: l', ps, h1, h2 => by
    simp only [List.map_cons, List.cons.injEq] at h1 h2
    simp only [List.foldl_cons]
    rw [h1.1, h2.1]
    exact putAll_cong l l' _ h1.2 h2.2
theorem obj_cong {l l' : List Mb} (h1 : l.map Mb.key = l'.map Mb.key) (h2 : l.map Mb.v = l'.map Mb.v) : objR l = objR l' ∧ objE l = objE l' := by
  have h3 : putAll l = putAll l' := putAll_cong l l' [] h1 h2
  unfold objR objE
  rw [obj_put, obj_put, h1, h2, h3]
  exact ⟨rfl, rfl⟩
theorem rot_call (ms : List Mb) (kn : List ByteArray) (ln : List V) (xn : List Value) (d n base : Nat) (w X : World) (vK vE : Value) (hk : ms.map Mb.key = kn) (hv : ms.map Mb.v = ln) (hd : Dist ms) (hn : ms.length = n) (h10 : n ≤ 10) (hdn : d ≤ n)
    (hb : Below w.heap.size w X) (hL : LiesL w (· < w.heap.size) ln xn) (hks : ∀ m ∈ ms, m.key.size ≤ 140737488355328)
    (hK : X.ownsRow base 9 1 vK n (kv (kn.drop d) ++ kv (kn.take d))) (hE : X.ownsRow base 28 5 vE n (xn.drop (d * 5) ++ xn.take (d * 5))) :
    Calls Try.prog 9 #[vK, vE] X (RetPost (objR ms) (objE ms) X) := by
  obtain ⟨KA, ka, rfl, _, _, _, hKR⟩ := own_open hK
  obtain ⟨EA, ea, rfl, _, _, _, hER⟩ := own_open hE
  have hLX : LiesL X (· < X.heap.size) (ln.drop d ++ ln.take d) (xn.drop (d * 5) ++ xn.take (d * 5)) := ((hL.drop d).append (hL.take d)).move fun b hbw => ⟨Nat.lt_of_lt_of_le hbw hb.size, hb.block b hbw⟩
  have hrow : Row X EA (ln.drop d ++ ln.take d) (xn.drop (d * 5) ++ xn.take (d * 5)) := ⟨hER.move fun b hb => ⟨hb.2.1, rfl⟩, hLX⟩
  have hkr : Rs X (· < X.heap.size) KA (kv (kn.drop d ++ kn.take d)) := by
    rw [show kv (kn.drop d ++ kn.take d) = kv (kn.drop d) ++ kv (kn.take d) from by simp [kv]]
    exact hKR.move fun b hb => ⟨hb.2.1, rfl⟩
  have hkl : kn.length = n := by rw [← hk, List.length_map, hn]
  have hll : ln.length = n := by rw [← hv, List.length_map, hn]
  obtain ⟨ms', hmn, hmk, hmv, hmat⟩ := members_of (keys := kn.drop d ++ kn.take d) (by simp [hkl, hll]) hrow
  have e1 : ms'.map Mb.key = (rot ms d).map Mb.key := by rw [hmk, rot, List.map_append, List.map_drop, List.map_take, hk]
  have e2 : ms'.map Mb.v = (rot ms d).map Mb.v := by rw [hmv, rot, List.map_append, List.map_drop, List.map_take, hv]
  have hlen : ms'.length = n := by rw [hmn]; simp [hll]; omega
  obtain ⟨c1, c2⟩ := obj_cong e1 e2
  obtain ⟨r1, r2⟩ := rot_obj hd d
  rw [← hmk] at hkr
  rw [← hmv] at hrow
  have h := (obj_any ms' KA EA ka ea _ X hkr hrow hmat (by omega) (by
    intro m hm
    have h1 : m.key ∈ ms'.map Mb.key := List.mem_map_of_mem hm
    rw [e1] at h1
    obtain ⟨m2, h2, h3⟩ := List.mem_map.1 h1
    rw [← h3]
    exact hks m2 ((rot_mem ms d m2).1 h2)))
  rw [hlen, c1, c2, r1, r2] at h
  exact h
/-- A row of the call's own is kept beside another of the other kind. -/
theorem keep_keys {X w' : World} {b n m : Nat} {vK vE : Value} {xs ys : List Value} (hg : X.grownBy w' vE.ownBlock) (h : X.ownsRow b 9 1 vK n xs) (k : X.ownsRow b 28 5 vE m ys) : w'.ownsRow b 9 1 vK n xs := h.kept hg (own_apart h k).1
theorem keep_elems {X w' : World} {b n m : Nat} {vK vE : Value} {xs ys : List Value} (hg : X.grownBy w' vK.ownBlock) (h : X.ownsRow b 9 1 vK n xs) (k : X.ownsRow b 28 5 vE m ys) : w'.ownsRow b 28 5 vE m ys := k.kept hg (own_apart h k).2
/-- A box stands beside a row of the call's own. -/
def Off (v : Value) (g : Nat) : Prop := ∀ k, v.ownBlock = some k → k ≠ g
theorem Off.lit {p g : Nat} {n c : Nat} (h : p ≠ g) : Off (.slice (some ⟨p, 0, none⟩) n c) g := fun k hk e => by
  simp only [Value.ownBlock, Option.some.injEq] at hk
  omega
theorem Off.new {w : World} {base : Nat} {e : TypeId} {size n g : Nat} {v : Value} {xs : List Value} (h : w.ownsRow base e size v n xs) (hg : w.heap.size ≤ g) : Off v g := fun k hk e => by
  have := (h.lt k hk).2
  omega
theorem Off.far {v v' : Value} {g : Nat} {w : World} (h : Off v g) (hf : ∀ k, v'.ownBlock = some k → v.ownBlock = some k ∨ w.heap.size ≤ k) (hg : g < w.heap.size) : Off v' g := fun k hk e => by
  rcases hf k hk with h1 | h1
  · exact h k h1 e
  · omega
theorem Off.box {v : Value} {g : Nat} {w w' : World} {t : TypeId} {cs : Array Value} (h : Off v g) (hb : Box w g t cs) (hg : w.grownBy w' v.ownBlock) : Box w' g t cs := hb.grown hg fun e => h g e.symm rfl
theorem own_drew {W : World} {base : Nat} {e : TypeId} {size n : Nat} {v : Value} {xs : List Value} (h : W.ownsRow base e size v n xs) : W.drew.ownsRow base e size v n xs := h
theorem box_drew {W : World} {g : Nat} {t : TypeId} {cs : Array Value} (h : Box W g t cs) : Box W.drew g t cs := h
theorem box_lit {W : World} {g : Nat} {t : TypeId} {cs : Array Value} (hp : g = W.heap.size) : Box (W.alloc (.cells cs t)) g t cs := by
  subst hp
  exact Box.laid W t cs
end Go.Proofs.Ytgdnkankleoaoaa
namespace Go.Proofs.Ytgdnkankleoaoaa
open Go.RowKit
theorem szA (w : World) (C : Obj) : (w.alloc C).heap.size = w.heap.size + 1 := by simp
theorem szD (w : World) : w.drew.heap.size = w.heap.size := rfl
structure Mk2 (W4 X : World) (k e : Option (Value × Nat × List Value)) (g : Option Nat) : Prop where
  bel : Below W4.heap.size W4 X
  key : ∀ v n xs, k = some (v, n, xs) → X.ownsRow W4.heap.size 9 1 v n xs
  elm : ∀ v n xs, e = some (v, n, xs) → X.ownsRow W4.heap.size 28 5 v n xs
  box : ∀ p, g = some p → Box X p 28 #[.int .i64 0, .int .i64 0, .string ⟨#[]⟩, .slice none 0 0, .slice none 0 0]
  high : ∀ p, g = some p → W4.heap.size ≤ p
  offk : ∀ p v n xs, g = some p → k = some (v, n, xs) → Off v p
  offe : ∀ p v n xs, g = some p → e = some (v, n, xs) → Off v p
theorem Mk2.start {W4 X : World} (h : Below W4.heap.size W4 X) : Mk2 W4 X none none none :=
  ⟨h, (fun _ _ _ h => nomatch h), (fun _ _ _ h => nomatch h), (fun _ h => nomatch h), (fun _ h => nomatch h), (fun _ _ _ _ h _ => nomatch h), (fun _ _ _ _ h _ => nomatch h)⟩
theorem Mk2.drew {W4 X : World} {k e : Option (Value × Nat × List Value)} {g : Option Nat} (h : Mk2 W4 X k e g) : Mk2 W4 X.drew k e g :=
  ⟨h.bel.drew, h.key, h.elm, h.box, h.high, h.offk, h.offe⟩
theorem Mk2.litk {W4 X : World} {e : Option (Value × Nat × List Value)} {g : Option Nat} {p : Nat} (h : Mk2 W4 X none e g) (hp : p = X.heap.size) : Mk2 W4 (X.alloc (.cells #[] 9)) (some (.slice (some ⟨p, 0, none⟩) 0 0, 0, [])) e g := by
  subst hp
  refine ⟨h.bel.alloc h.bel.size _, ?_, fun v n xs he => (h.elm v n xs he).alloc _, fun q hq => (h.box q hq).alloc _, h.high, ?_, h.offe⟩
  · intro v n xs he
    cases he
    exact own_lit rfl h.bel.size
  · intro q v n xs hq he
    cases he
    exact Off.lit (fun e => by have := (h.box q hq).lt; omega)
theorem Mk2.lite {W4 X : World} {k : Option (Value × Nat × List Value)} {g : Option Nat} {p : Nat} (h : Mk2 W4 X k none g) (hp : p = X.heap.size) : Mk2 W4 (X.alloc (.cells #[] 28)) k (some (.slice (some ⟨p, 0, none⟩) 0 0, 0, [])) g := by
  subst hp
  refine ⟨h.bel.alloc h.bel.size _, fun v n xs he => (h.key v n xs he).alloc _, ?_, fun q hq => (h.box q hq).alloc _, h.high, h.offk, ?_⟩
  · intro v n xs he
    cases he
    exact own_lit rfl h.bel.size
  · intro q v n xs hq he
    cases he
    exact Off.lit (fun e => by have := (h.box q hq).lt; omega)
theorem Mk2.zbox {W4 X : World} {k e : Option (Value × Nat × List Value)} {p : Nat} (h : Mk2 W4 X k e none) (hp : p = X.heap.size) : Mk2 W4 (X.alloc (.cells #[.int .i64 0, .int .i64 0, .string ⟨#[]⟩, .slice none 0 0, .slice none 0 0] 28)) k e (some p) := by
  subst hp
  refine ⟨h.bel.alloc h.bel.size _, fun v n xs he => (h.key v n xs he).alloc _, fun v n xs he => (h.elm v n xs he).alloc _, ?_, ?_, ?_, ?_⟩
  · intro q hq
    cases hq
    exact Box.laid X _ _
  · intro q hq
    cases hq
    exact h.bel.size
  · intro q v n xs hq he
    cases hq
    exact Off.new (h.key v n xs he) (Nat.le_refl _)
  · intro q v n xs hq he
    cases hq
    exact Off.new (h.elm v n xs he) (Nat.le_refl _)
/-- What is appended: it reads so in every later world. -/
structure Src (W4 : World) (S : Nat → Prop) (A : Option Addr) (m c : Nat) (news : List Value) (size : Nat) : Prop where
  rs : ∀ X, Below W4.heap.size W4 X → Rs X S A news
  len : news.length = m * size
  nil : A = none → c = 0
  one : ∀ u ∈ news, u.oneCell' = true
theorem step_st_k {W4 w : World} {e : Option (Value × Nat × List Value)} {g : Option Nat} {ops : Array Oper} {o : Oper} {a : Act} {K : Act → World → Prop} {Q : Exit → Act → World → Prop} {E : Prop} (hgd : o.guard = none) (s x : Operand)
    (ho : o.op = .call { callee := .builtin .append, args := #[s, x], argTypes := #[22, 22] }) {S : Nat → Prop} {A : Option Addr} {m c : Nat} {news : List Value} (src : Src W4 S A m c news 1) (hx : a.eval x = .slice A m c)
    {v : Value} {n : Nat} {xs : List Value} (hs : a.eval s = v) (hst : Mk2 W4 w (some (v, n, xs)) e g) (hm : n + m ≤ 100)
    (h : ∀ v' w', Mk2 W4 w' (some (v', n + m, xs ++ news)) e g → K (a.put o.dst v') w') :
    if Region.wanted o (yielded ops a.tmps) = true then Oper.wp Try.prog o a w K Q else E := by
  obtain ⟨i1, his, hz0, hz1, hz2⟩ := info_parts inf_string
  refine step_append_far w hgd s x 22 ho W4.heap.size 9 i1 (.string ⟨#[]⟩) 1 16 Try.underlying22 his hz0 hz1 hz2 rfl (by omega) v n xs hs (hst.key _ _ _ rfl) S A m c news hx src.len (src.rs _ hst.bel) src.nil src.one (by unfold maxLen; omega) (by omega) hst.bel.size ?_
  intro v' w' hown hgr hf
  refine h v' w' ⟨Below.grown hst.bel hgr hst.bel.size (fun j hj => ((hst.key _ _ _ rfl).lt j hj).1), ?_, ?_, ?_, hst.high, ?_, hst.offe⟩
  · intro v2 n2 xs2 he
    cases he
    exact hown
  · exact fun v2 n2 xs2 he => keep_elems hgr (hst.key _ _ _ rfl) (hst.elm _ _ _ he)
  · exact fun p hp => Off.box (hst.offk p _ _ _ hp rfl) (hst.box p hp) hgr
  · intro p v2 n2 xs2 hp he
    cases he
    exact Off.far (hst.offk p _ _ _ hp rfl) hf (hst.box p hp).lt
theorem step_st_e {W4 w : World} {k : Option (Value × Nat × List Value)} {g : Option Nat} {ops : Array Oper} {o : Oper} {a : Act} {K : Act → World → Prop} {Q : Exit → Act → World → Prop} {E : Prop} (hgd : o.guard = none) (s x : Operand)
    (ho : o.op = .call { callee := .builtin .append, args := #[s, x], argTypes := #[23, 23] }) {S : Nat → Prop} {A : Option Addr} {m c : Nat} {news : List Value} (src : Src W4 S A m c news 5) (hx : a.eval x = .slice A m c)
    {v : Value} {n : Nat} {xs : List Value} (hs : a.eval s = v) (hst : Mk2 W4 w k (some (v, n, xs)) g) (hm : n + m ≤ 100)
    (h : ∀ v' w', Mk2 W4 w' k (some (v', n + m, xs ++ news)) g → K (a.put o.dst v') w') :
    if Region.wanted o (yielded ops a.tmps) = true then Oper.wp Try.prog o a w K Q else E := by
  obtain ⟨i0, hiv, hz0, hz1, hz2⟩ := info_parts inf_value
  refine step_append_far w hgd s x 23 ho W4.heap.size 28 i0 zeroVal 5 80 Try.underlying23 hiv hz0 hz1 hz2 rfl (by omega) v n xs hs (hst.elm _ _ _ rfl) S A m c news hx src.len (src.rs _ hst.bel) src.nil src.one (by unfold maxLen; omega) (by omega) hst.bel.size ?_
  intro v' w' hown hgr hf
  refine h v' w' ⟨Below.grown hst.bel hgr hst.bel.size (fun j hj => ((hst.elm _ _ _ rfl).lt j hj).1), ?_, ?_, ?_, hst.high, hst.offk, ?_⟩
  · exact fun v2 n2 xs2 he => keep_keys hgr (hst.key _ _ _ he) (hst.elm _ _ _ rfl)
  · intro v2 n2 xs2 he
    cases he
    exact hown
  · exact fun p hp => Off.box (hst.offe p _ _ _ hp rfl) (hst.box p hp) hgr
  · intro p v2 n2 xs2 hp he
    cases he
    exact Off.far (hst.offe p _ _ _ hp rfl) hf (hst.box p hp).lt
theorem rot_after {W4 X : World} {k e : Option (Value × Nat × List Value)} {g : Option Nat} (hst : Mk2 W4 X k e g) {f : FuncId} {args : Array Value} {v : V} {er : Int}
    (h : Calls Try.prog f args X fun e w' => ∃ (k n : Int) (s : ByteArray) (ks : List ByteArray) (es : List V) (A : Option Addr) (a : Nat) (C : Option Addr) (c : Nat), v = .mk k n s ks es ∧ e = .returned (.tuple #[.agg #[.int .i64 k, .int .i64 n, .string s, .slice A ks.length a, .slice C es.length c], .int .i64 er]) ∧ Below X.heap.size X w' ∧
      Lies w' (fun b => X.heap.size ≤ b ∧ b < w'.heap.size) v [.int .i64 k, .int .i64 n, .string s, .slice A ks.length a, .slice C es.length c]) :
    Calls Try.prog f args X fun e w' => ∃ (k n : Int) (s : ByteArray) (ks : List ByteArray) (es : List V) (A : Option Addr) (a : Nat) (C : Option Addr) (c : Nat), v = .mk k n s ks es ∧ e = .returned (.tuple #[.agg #[.int .i64 k, .int .i64 n, .string s, .slice A ks.length a, .slice C es.length c], .int .i64 er]) ∧ Below W4.heap.size W4 w' ∧
      Lies w' (fun b => (∀ p, g = some p → b ≠ p) ∧ b < w'.heap.size) v [.int .i64 k, .int .i64 n, .string s, .slice A ks.length a, .slice C es.length c] ∧
      ∀ p, g = some p → W4.heap.size ≤ p ∧ Box w' p 28 #[.int .i64 0, .int .i64 0, .string ⟨#[]⟩, .slice none 0 0, .slice none 0 0] := by
  refine h.mono ?_
  rintro e w' ⟨k, n, s, ks, es, A, a, C, c, hv, he, hb, hl⟩
  refine ⟨k, n, s, ks, es, A, a, C, c, hv, he, chain hst.bel hb, hl.move fun b hb2 => ⟨⟨fun p hp e => ?_, hb2.2⟩, rfl⟩, fun p hp => ⟨hst.high p hp, box_below (hst.box p hp) hb⟩⟩
  have := (hst.box p hp).lt
  omega
theorem src_kd {w W4 : World} {A : Option Addr} {a n d : Nat} {kn : List ByteArray} (hb : Below w.heap.size w W4) (hk : SliceK w A a kn) (hn : kn.length = n) (hna : n ≤ a) (hd : d ≤ n) :
    Src W4 (fun b => b < w.heap.size) (dropA A a d 1) (n - d) (a - d) (kv (kn.drop d)) 1 := by
  refine ⟨fun X hX => ?_, by rw [kv_length, List.length_drop, hn]; omega, fun h => by have := hk.nil (dropA_none h); omega, kv_one _⟩
  have h := hk.rs.drop a d 1 n (by rw [kv_length, hn]; omega) hna hd
  rw [show (kv kn).drop (d * 1) = kv (kn.drop d) from by simp [kv, List.map_drop]] at h
  exact h.move fun b hlt => ⟨hlt, (chain hb hX).block b hlt⟩
theorem src_kt {w W4 : World} {A : Option Addr} {a n d : Nat} {kn : List ByteArray} (hb : Below w.heap.size w W4) (hk : SliceK w A a kn) (hn : kn.length = n) (hna : n ≤ a) (hd : d ≤ n) :
    Src W4 (fun b => b < w.heap.size) A d a (kv (kn.take d)) 1 := by
  refine ⟨fun X hX => ?_, by rw [kv_length, List.length_take, hn]; omega, hk.nil, kv_one _⟩
  have h := hk.rs.take d
  rw [show (kv kn).take d = kv (kn.take d) from by simp [kv, List.map_take]] at h
  exact h.move fun b hlt => ⟨hlt, (chain hb hX).block b hlt⟩
theorem src_ed {w W4 : World} {B : Option Addr} {c n d : Nat} {ln : List V} {xn : List Value} (hb : Below w.heap.size w W4) (hl : SliceV w B c ln xn) (hn : ln.length = n) (hnc : n ≤ c) (hd : d ≤ n) :
    Src W4 (fun b => b < w.heap.size) (dropA B c d 5) (n - d) (c - d) (xn.drop (d * 5)) 5 := by
  have hxl : xn.length = n * 5 := by rw [hl.row.lies.len, hn]
  exact ⟨fun X hX => (hl.row.rs.drop c d 5 n hxl hnc hd).move fun b hlt => ⟨hlt, (chain hb hX).block b hlt⟩, by rw [List.length_drop, hxl]; omega, fun h => by have := hl.nil (dropA_none h); omega, fun u hu => liesL_one hl.row.lies u (List.mem_of_mem_drop hu)⟩
theorem src_et {w W4 : World} {B : Option Addr} {c n d : Nat} {ln : List V} {xn : List Value} (hb : Below w.heap.size w W4) (hl : SliceV w B c ln xn) (hn : ln.length = n) (hnc : n ≤ c) (hd : d ≤ n) :
    Src W4 (fun b => b < w.heap.size) B d c (xn.take (d * 5)) 5 := by
  have hxl : xn.length = n * 5 := by rw [hl.row.lies.len, hn]
  exact ⟨fun X hX => (hl.row.rs.take _).move fun b hlt => ⟨hlt, (chain hb hX).block b hlt⟩, by rw [List.length_take, hxl]; omega, hl.nil, fun u hu => liesL_one hl.row.lies u (List.mem_of_mem_take hu)⟩
def RotPost (W4 : World) (v : V) (g : Option Nat) (e : Ending) (w' : World) : Prop :=
  ∃ (k n : Int) (s : ByteArray) (ks : List ByteArray) (es : List V) (A : Option Addr) (a : Nat) (C : Option Addr) (c : Nat), v = .mk k n s ks es ∧ e = .returned (.tuple #[.agg #[.int .i64 k, .int .i64 n, .string s, .slice A ks.length a, .slice C es.length c], .int .i64 0]) ∧ Below W4.heap.size W4 w' ∧
      Lies w' (fun b => (∀ p, g = some p → b ≠ p) ∧ b < w'.heap.size) v [.int .i64 k, .int .i64 n, .string s, .slice A ks.length a, .slice C es.length c] ∧
      ∀ p, g = some p → W4.heap.size ≤ p ∧ Box w' p 28 #[.int .i64 0, .int .i64 0, .string ⟨#[]⟩, .slice none 0 0, .slice none 0 0]
theorem rot_st (ms : List Mb) (kn : List ByteArray) (ln : List V) (xn : List Value) (d n : Nat) (w W4 : World) (vr : V) (hk : ms.map Mb.key = kn) (hv : ms.map Mb.v = ln) (hd : Dist ms) (hn : ms.length = n) (h10 : n ≤ 10) (hdn : d ≤ n)
    (hb : Below w.heap.size w W4) (hL : LiesL w (· < w.heap.size) ln xn) (hks : ∀ m ∈ ms, m.key.size ≤ 140737488355328) (hvr : objR ms = vr) (he : objE ms = 0)
    (X : World) (vK vE : Value) (g : Option Nat) (h1 : Mk2 W4 X (some (vK, n, kv (kn.drop d) ++ kv (kn.take d))) (some (vE, n, xn.drop (d * 5) ++ xn.take (d * 5))) g) :
    Calls Try.prog 9 #[vK, vE] X (RotPost W4 vr g) := by
  have h := rot_call ms kn ln xn d n W4.heap.size w X vK vE hk hv hd hn h10 hdn (chain hb h1.bel) hL hks (h1.key _ _ _ rfl) (h1.elm _ _ _ rfl)
  rw [hvr, he] at h
  exact rot_after h1 (ret_open h)
end Go.Proofs.Ytgdnkankleoaoaa

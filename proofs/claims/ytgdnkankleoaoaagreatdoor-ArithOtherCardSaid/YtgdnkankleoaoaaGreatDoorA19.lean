/- The reference's Bool, Num, Text, Fit, Str, all. append(v, x...), v a row of the call's own, x any slice that reads as a list: nil, empty or not; elements of any size; at a plain list and at a step of a region that draws. Slices of slices. Nothing of the program is named here. The reference's List and Arr. -/
import Derived.Test.YtgdnkankleoaoaaGreatDoorA18
import Derived.Test.YtgdnkankleoaoaaGreatDoorA16
import Derived.Test.YtgdnkankleoaoaaGreatDoorA01
import Derived.Laws.AppendOwnNone
import Derived.Laws.OwnMore
import Derived.RegionTactic
import Derived.Test.YtgdnkankleoaoaaGreatDoorA09
set_option linter.unusedVariables false
set_option linter.unusedSimpArgs false
namespace Go.Proofs.YtgdnkankleoaoaaGreatDoor
open Go.RowKit
/-- What the reference's makers hand back: the value lies anywhere. -/
def RetR (v : V) (err : Int) (w : World) (e : Ending) (w' : World) : Prop :=
  Below w.heap.size w w' ∧ ∃ ds : List Value, e = .returned (.tuple #[.agg ds.toArray, .int .i64 err]) ∧ Lies w' (· < w'.heap.size) v ds
theorem retR_of {w w' : World} {v : V} {err : Int} {ds : List Value} (hb : Below w.heap.size w w') (hl : Lies w' (· < w'.heap.size) v ds) : RetR v err w (.returned (.tuple #[.agg ds.toArray, .int .i64 err])) w' := ⟨hb, ds, rfl, hl⟩
/-- The same, the value in blocks of the set S. -/
def RetS (S : Nat → Prop) (v : V) (err : Int) (w : World) (e : Ending) (w' : World) : Prop :=
  Below w.heap.size w w' ∧ ∃ ds : List Value, e = .returned (.tuple #[.agg ds.toArray, .int .i64 err]) ∧ Lies w' S v ds
theorem retS_of {S : Nat → Prop} {w w' : World} {v : V} {err : Int} {ds : List Value} (hb : Below w.heap.size w w') (hl : Lies w' S v ds) : RetS S v err w (.returned (.tuple #[.agg ds.toArray, .int .i64 err])) w' := ⟨hb, ds, rfl, hl⟩
theorem retS_open {S : Nat → Prop} {f : FuncId} {args : Array Value} {W : World} {v : V} {err : Int} (h : Calls Tryz.prog f args W (RetS S v err W)) :
    Calls Tryz.prog f args W fun e w' => ∃ (k n : Int) (s : ByteArray) (ks : List ByteArray) (es : List V) (A : Option Addr) (a : Nat) (C : Option Addr) (c : Nat), v = .mk k n s ks es ∧ e = .returned (.tuple #[.agg #[.int .i64 k, .int .i64 n, .string s, .slice A ks.length a, .slice C es.length c], .int .i64 err]) ∧ Below W.heap.size W w' ∧
      Lies w' S v [.int .i64 k, .int .i64 n, .string s, .slice A ks.length a, .slice C es.length c] := by
  refine h.mono fun e w' hp => ?_
  obtain ⟨hb, ds, rfl, hl⟩ := hp
  obtain ⟨k, n, s, ks, es⟩ := v
  have hl2 := hl
  rw [Lies] at hl2
  obtain ⟨_, A, a, C, c, ys, rfl, _⟩ := hl2
  exact ⟨k, n, s, ks, es, A, a, C, c, rfl, rfl, hb, hl⟩
theorem retR_open {f : FuncId} {args : Array Value} {W : World} {v : V} {err : Int} (h : Calls Tryz.prog f args W (RetR v err W)) :
    Calls Tryz.prog f args W fun e w' => ∃ (k n : Int) (s : ByteArray) (ks : List ByteArray) (es : List V) (A : Option Addr) (a : Nat) (C : Option Addr) (c : Nat), v = .mk k n s ks es ∧ e = .returned (.tuple #[.agg #[.int .i64 k, .int .i64 n, .string s, .slice A ks.length a, .slice C es.length c], .int .i64 err]) ∧ Below W.heap.size W w' ∧
      Lies w' (· < w'.heap.size) v [.int .i64 k, .int .i64 n, .string s, .slice A ks.length a, .slice C es.length c] := by
  refine h.mono fun e w' hp => ?_
  obtain ⟨hb, ds, rfl, hl⟩ := hp
  obtain ⟨k, n, s, ks, es⟩ := v
  have hl2 := hl
  rw [Lies] at hl2
  obtain ⟨_, A, a, C, c, ys, rfl, _⟩ := hl2
  exact ⟨k, n, s, ks, es, A, a, C, c, rfl, rfl, hb, hl⟩
set_option maxHeartbeats 1000000 in
set_option maxRecDepth 100000 in
theorem rnum_any (n : Int) (w : World) : Calls Tryz.prog 124 #[.int .i64 n] w fun e w' => e = .returned (.agg #[.int .i64 3, .int .i64 n, .string ⟨#[]⟩, .slice none 0 0, .slice none 0 0]) ∧ Below w.heap.size w w' := by
  go_enter Tryz.func124, Tryz.ntmps124
  go_wp2_with fail
  refine bodyPost_ret (v := .agg #[.int .i64 3, .int .i64 n, .string ⟨#[]⟩, .slice none 0 0, .slice none 0 0]) (by simp [results, Tryz.results124, go_sem]) rfl ⟨rfl, ?_⟩
  exact (Below.refl _ _).alloc (Nat.le_refl _) _
set_option maxHeartbeats 1000000 in
set_option maxRecDepth 100000 in
theorem rbool_any (b : Bool) (w : World) : Calls Tryz.prog 115 #[.bool b] w fun e w' => e = .returned (.agg #[.int .i64 (if b then 2 else 1), .int .i64 0, .string ⟨#[]⟩, .slice none 0 0, .slice none 0 0]) ∧ Below w.heap.size w w' := by
  cases b
  · go_enter Tryz.func115, Tryz.ntmps115
    go_wp2_with fail
    refine bodyPost_ret (v := .agg #[.int .i64 1, .int .i64 0, .string ⟨#[]⟩, .slice none 0 0, .slice none 0 0]) (by simp [results, Tryz.results115, go_sem]) rfl ⟨rfl, ?_⟩
    exact (Below.refl _ _).alloc (Nat.le_refl _) _
  · go_enter Tryz.func115, Tryz.ntmps115
    go_wp2_with fail
    refine bodyPost_ret (v := .agg #[.int .i64 2, .int .i64 0, .string ⟨#[]⟩, .slice none 0 0, .slice none 0 0]) (by simp [results, Tryz.results115, go_sem]) rfl ⟨rfl, ?_⟩
    exact (Below.refl _ _).alloc (Nat.le_refl _) _
set_option maxHeartbeats 1000000 in
set_option maxRecDepth 100000 in
theorem rtext_any (s : ByteArray) (w : World) : Calls Tryz.prog 139 #[.string s] w fun e w' => e = .returned (.agg #[.int .i64 4, .int .i64 0, .string s, .slice none 0 0, .slice none 0 0]) ∧ Below w.heap.size w w' := by
  go_enter Tryz.func139, Tryz.ntmps139
  go_wp2_with fail
  refine bodyPost_ret (v := .agg #[.int .i64 4, .int .i64 0, .string s, .slice none 0 0, .slice none 0 0]) (by simp [results, Tryz.results139, go_sem]) rfl ⟨rfl, ?_⟩
  exact (Below.refl _ _).alloc (Nat.le_refl _) _
theorem below_five_at {w0 w : World} {B : Nat} (hB : w0.heap.size ≤ B) (h : Below w0.heap.size w0 w) (a b c d e : Value) :
    Below w0.heap.size w0 (((((w.setCell ⟨B, 0, none⟩ a).setCell ⟨B, 1, none⟩ b).setCell ⟨B, 2, none⟩ c).setCell ⟨B, 3, none⟩ d).setCell ⟨B, 4, none⟩ e) :=
  (((((h.setCell (by simpa using hB) _).setCell (by simpa using hB) _).setCell (by simpa using hB) _).setCell (by simpa using hB) _).setCell (by simpa using hB) _)
set_option maxHeartbeats 2000000 in
set_option maxRecDepth 100000 in
theorem fit_any (S : Nat → Prop) (v : V) (cs : List Value) (w : World) (hS0 : Lies w S v cs) (hSlt : ∀ b, S b → b < w.heap.size) :
    Calls Tryz.prog 122 #[.agg cs.toArray] w (RetS S (finV v) (finE v) w) := by
  have h : Lies w (· < w.heap.size) v cs := hS0.move fun b hb => ⟨hSlt b hb, rfl⟩
  have HS := Lib.hid hS0
  have HSL := Lib.hid hSlt
  clear hS0 hSlt
  have HV := Lib.hid (fun W (hW : Below w.heap.size w W) => by
    have := rvalid_any v cs W (below_lies hW h)
    rw [valid_same] at this
    exact this)
  have HL := Lib.hid h
  obtain ⟨k, n, s, ks, es⟩ := v
  obtain ⟨A, a, B, b, xs, rfl, _⟩ := lies_open h
  clear h
  show Calls _ _ #[.agg #[.int .i64 k, .int .i64 n, .string s, .slice A ks.length a, .slice B es.length b]] w _
  unfold finV finE
  have hb2 : Hid (∀ W, Below (w.heap.size + 2) ((w.alloc (.cells #[.int .i64 k, .int .i64 n, .string s, .slice A ks.length a, .slice B es.length b] 25)).alloc (.cells #[.int .i64 0, .int .i64 0, .string ⟨#[]⟩, .slice none 0 0, .slice none 0 0] 25)) W →
      Box W (w.heap.size + 1) 25 #[.int .i64 0, .int .i64 0, .string ⟨#[]⟩, .slice none 0 0, .slice none 0 0]) := Lib.hid fun W hW => by
    have h1 := Box.laid (w.alloc (.cells #[.int .i64 k, .int .i64 n, .string s, .slice A ks.length a, .slice B es.length b] 25)) 25 #[.int .i64 0, .int .i64 0, .string ⟨#[]⟩, .slice none 0 0, .slice none 0 0]
    have e : (w.alloc (.cells #[.int .i64 k, .int .i64 n, .string s, .slice A ks.length a, .slice B es.length b] 25)).heap.size = w.heap.size + 1 := by simp
    rw [e] at h1
    exact h1.below hW (by omega)
  generalize valid (.mk k n s ks es) = x at HV ⊢
  cases x with
  | false =>
    rw [if_neg (by decide), if_neg (by decide)]
    go_enter Tryz.func122, Tryz.ntmps122
    go_wp2_with fail
    refine (HV.out _ (below2 _ _ _)).mono ?_
    rintro e1 w1 ⟨rfl, hb1⟩
    have hB1 := Lib.hid (two_step (Below.refl _ _) hb1)
    have hres := Lib.hid (hb2.out _ hB1.out)
    obtain ⟨t0, t1, t2, t3, t4⟩ := box5 hres.out
    have z0 := hres.out.free 0
    have z1 := hres.out.free 1
    have z2 := hres.out.free 2
    have z3 := hres.out.free 3
    have z4 := hres.out.free 4
    go_wp2_with fail
    refine bodyPost_ret (v := .tuple #[.agg #[.int .i64 0, .int .i64 0, .string ⟨#[]⟩, .slice none 0 0, .slice none 0 0], .int .i64 2]) (by simp [results, Tryz.results122, go_sem, t0, t1, t2, t3, t4]) rfl ?_
    exact retS_of (ds := [.int .i64 0, .int .i64 0, .string ⟨#[]⟩, .slice none 0 0, .slice none 0 0]) (below_five_at (by omega) (below_two hB1.out) _ _ _ _ _) (lies_null _ _)
  | true =>
    rw [if_pos rfl, if_pos rfl]
    go_enter Tryz.func122, Tryz.ntmps122
    go_wp2_with fail
    refine (HV.out _ (below2 _ _ _)).mono ?_
    rintro e1 w1 ⟨rfl, hb1⟩
    have hB1 := Lib.hid (two_step (Below.refl _ _) hb1)
    have m0 := (box_two hB1.out 0).1
    have m1 := (box_two hB1.out 1).1
    have m2 := (box_two hB1.out 2).1
    have m3 := (box_two hB1.out 3).1
    have m4 := (box_two hB1.out 4).1
    simp only [List.getElem?_toArray, List.getElem?_cons_succ, List.getElem?_cons_zero] at m0 m1 m2 m3 m4
    have hres := Lib.hid (hb2.out _ hB1.out)
    obtain ⟨t0, t1, t2, t3, t4⟩ := box5 hres.out
    have z0 := hres.out.free 0
    have z1 := hres.out.free 1
    have z2 := hres.out.free 2
    have z3 := hres.out.free 3
    have z4 := hres.out.free 4
    go_wp2_with fail
    refine bodyPost_ret (v := .tuple #[.agg #[.int .i64 k, .int .i64 n, .string s, .slice A ks.length a, .slice B es.length b], .int .i64 0]) (by simp [results, Tryz.results122, go_sem, t0, t1, t2, t3, t4]) rfl ?_
    have hfin := below_five_at (B := w.heap.size + 1) (by omega) (below_two hB1.out) (.int .i64 k) (.int .i64 n) (.string s) (.slice A ks.length a) (.slice B es.length b)
    exact retS_of (ds := [.int .i64 k, .int .i64 n, .string s, .slice A ks.length a, .slice B es.length b]) hfin (HS.out.move fun b hb => ⟨hb, hfin.block b (HSL.out b hb)⟩)
end Go.Proofs.YtgdnkankleoaoaaGreatDoor
namespace Go.Proofs.YtgdnkankleoaoaaGreatDoor
open Go.RowKit
theorem rs_none {w : World} {S : Nat → Prop} {xs : List Value} (h : Rs w S none xs) : xs = [] := by
  cases xs with
  | nil => rfl
  | cons u r => obtain ⟨b, o, e, _⟩ := h 0 u rfl; cases e
theorem wp_append_rs {P : Program} (w : World) {o : Oper} {a : Act} {K : Act → World → Prop} {Q : Exit → Act → World → Prop} (s x : Operand) (t : TypeId)
    (ho : o.op = .call { callee := .builtin .append, args := #[s, x], argTypes := #[t, t] })
    (base : Nat) (e : TypeId) (i : TypeInfo) (z : Value) (size bytes : Nat) (ht : P.underlying t = some (.slice e)) (hi : P.info? e = some i) (hz : i.zero = some z)
    (hsize : i.size = size) (hby : i.bytes = bytes) (hzs : z.cells.size = size) (hsz : 0 < size)
    (v : Value) (n : Nat) (xs : List Value) (hs : a.eval s = v) (hown : w.ownsRow base e size v n xs)
    (S : Nat → Prop) (A : Option Addr) (m c : Nat) (news : List Value) (hx : a.eval x = .slice A m c) (hl : news.length = m * size) (hr : Rs w S A news) (hnil : A = none → c = 0) (h1 : ∀ u ∈ news, u.oneCell' = true)
    (h63 : n + m ≤ maxLen) (hbytes : (n + m) * bytes ≤ 140737488355328) (hbase : base ≤ w.heap.size)
    (h : ∀ v' w', w'.ownsRow base e size v' (n + m) (xs ++ news) → w.grownBy w' v.ownBlock → K (a.put o.dst v') w') : o.wp P a w K Q := by
  cases A with
  | none =>
    have hn := rs_none hr
    subst hn
    have hm : m = 0 := by
      have : 0 = m * size := by simpa using hl
      rcases Nat.eq_zero_or_pos m with h | h
      · exact h
      · have := Nat.mul_pos h hsz; omega
    subst hm
    obtain rfl := hnil rfl
    have hrun := run_append_owned_none (P := P) (w := w) base t o.type e i size ht hi v n xs hown
    unfold Oper.wp
    simp [execOp, ho, resolve, invoke, builtin, hs, hx, hrun, Result.andThen]
    exact h v w (by simpa using hown) (World.grownBy.refl w _)
  | some ad =>
    refine wp_append_own w s x t ho base e i z size bytes ht hi hz hsize hby hzs hsz v n xs hs hown ad m c news hx hl ?_ h1 h63 hbytes hbase fun v' w' g1 g2 _ => h v' w' g1 g2
    intro j u hj
    obtain ⟨b, o, h1, _, h2⟩ := hr j u hj
    injection h1 with h1
    subst h1
    have h3 : ((⟨b, o, none⟩ : Addr).add j) = ⟨b, o + j, none⟩ := by
      unfold Addr.add
      by_cases h : j = 0 <;> simp [h]
    rw [h3, h2]
theorem wpList_append_rs {P : Program} (w : World) {ops : Array Oper} {rest : List Oper} {o : Oper} {a : Act} {Q : Exit → Act → World → Prop} (hgd : o.guard = none) (s x : Operand) (t : TypeId)
    (ho : o.op = .call { callee := .builtin .append, args := #[s, x], argTypes := #[t, t] })
    (base : Nat) (e : TypeId) (i : TypeInfo) (z : Value) (size bytes : Nat) (ht : P.underlying t = some (.slice e)) (hi : P.info? e = some i) (hz : i.zero = some z)
    (hsize : i.size = size) (hby : i.bytes = bytes) (hzs : z.cells.size = size) (hsz : 0 < size)
    (v : Value) (n : Nat) (xs : List Value) (hs : a.eval s = v) (hown : w.ownsRow base e size v n xs)
    (S : Nat → Prop) (A : Option Addr) (m c : Nat) (news : List Value) (hx : a.eval x = .slice A m c) (hl : news.length = m * size) (hr : Rs w S A news) (hnil : A = none → c = 0) (h1 : ∀ u ∈ news, u.oneCell' = true)
    (h63 : n + m ≤ maxLen) (hbytes : (n + m) * bytes ≤ 140737488355328) (hbase : base ≤ w.heap.size)
    (h : ∀ v' w', w'.ownsRow base e size v' (n + m) (xs ++ news) → w.grownBy w' v.ownBlock → wpList P ops Q rest (a.put o.dst v') w') : wpList P ops Q (o :: rest) a w :=
  wpList_plain hgd fun _ hK => wp_append_rs w s x t ho base e i z size bytes ht hi hz hsize hby hzs hsz v n xs hs hown S A m c news hx hl hr hnil h1 h63 hbytes hbase fun v' w' h2 h3 => hK _ _ (h v' w' h2 h3)
theorem step_append_rs {P : Program} (w : World) {ops : Array Oper} {o : Oper} {a : Act} {K : Act → World → Prop} {Q : Exit → Act → World → Prop} {E : Prop} (hgd : o.guard = none) (s x : Operand) (t : TypeId)
    (ho : o.op = .call { callee := .builtin .append, args := #[s, x], argTypes := #[t, t] })
    (base : Nat) (e : TypeId) (i : TypeInfo) (z : Value) (size bytes : Nat) (ht : P.underlying t = some (.slice e)) (hi : P.info? e = some i) (hz : i.zero = some z)
    (hsize : i.size = size) (hby : i.bytes = bytes) (hzs : z.cells.size = size) (hsz : 0 < size)
    (v : Value) (n : Nat) (xs : List Value) (hs : a.eval s = v) (hown : w.ownsRow base e size v n xs)
    (S : Nat → Prop) (A : Option Addr) (m c : Nat) (news : List Value) (hx : a.eval x = .slice A m c) (hl : news.length = m * size) (hr : Rs w S A news) (hnil : A = none → c = 0) (h1 : ∀ u ∈ news, u.oneCell' = true)
    (h63 : n + m ≤ maxLen) (hbytes : (n + m) * bytes ≤ 140737488355328) (hbase : base ≤ w.heap.size)
    (h : ∀ v' w', w'.ownsRow base e size v' (n + m) (xs ++ news) → w.grownBy w' v.ownBlock → K (a.put o.dst v') w') :
    if Region.wanted o (yielded ops a.tmps) = true then Oper.wp P o a w K Q else E := by
  have hw : Region.wanted o (yielded ops a.tmps) = true := by simp [Region.wanted, hgd]
  rw [if_pos hw]
  exact wp_append_rs w s x t ho base e i z size bytes ht hi hz hsize hby hzs hsz v n xs hs hown S A m c news hx hl hr hnil h1 h63 hbytes hbase h
/-- The cells of values, each in one cell. -/
theorem liesL_one {w : World} {S : Nat → Prop} : ∀ {es : List V} {xs : List Value}, LiesL w S es xs → ∀ u ∈ xs, u.oneCell' = true
  | [], xs, h, u, hu => by rw [LiesL] at h; subst h; cases hu
  | e :: es, xs, h, u, hu => by
    rw [LiesL] at h
    obtain ⟨c, r, rfl, hc, hr⟩ := h
    rcases List.mem_append.1 hu with hu | hu
    · obtain ⟨k, n, s, ks, fs⟩ := e
      rw [Lies] at hc
      obtain ⟨_, A, a, B, b, ys, rfl, _⟩ := hc
      simp only [List.mem_cons, List.not_mem_nil, or_false] at hu
      rcases hu with rfl | rfl | rfl | rfl | rfl <;> rfl
    · exact liesL_one hr u hu
theorem kv_one (ks : List ByteArray) : ∀ u ∈ kv ks, u.oneCell' = true := by
  intro u hu
  simp only [kv, List.mem_map] at hu
  obtain ⟨x, _, rfl⟩ := hu
  rfl
/-- A beginning of a slice that reads as a list. -/
theorem Rs.take {w : World} {S : Nat → Prop} {A : Option Addr} {xs : List Value} (h : Rs w S A xs) (m : Nat) : Rs w S A (xs.take m) := by
  intro j u hj
  rw [List.getElem?_take] at hj
  split at hj
  · exact h j u hj
  · cases hj
/-- A rest of it: the address that the model gives. -/
def dropA (A : Option Addr) (c l s : Nat) : Option Addr := if c = l then A else A.map (·.add (l * s))
theorem dropA_none {A : Option Addr} {c l s : Nat} (h : dropA A c l s = none) : A = none := by
  unfold dropA at h
  split at h
  · exact h
  · cases A with
    | none => rfl
    | some a => cases h
theorem Rs.drop {w : World} {S : Nat → Prop} {A : Option Addr} {xs : List Value} (h : Rs w S A xs) (c l s n : Nat) (hn : xs.length = n * s) (hnc : n ≤ c) (hl : l ≤ n) : Rs w S (dropA A c l s) (xs.drop (l * s)) := by
  intro j u hj
  rw [List.getElem?_drop] at hj
  obtain ⟨b, o, e, hb, hc⟩ := h _ u hj
  have hlt : l * s + j < n * s := by
    rw [← hn]
    exact (List.getElem?_eq_some_iff.1 hj).1
  have hcl : ¬ c = l := by
    intro e2
    have : n ≤ l := by omega
    have := Nat.mul_le_mul_right s this
    omega
  refine ⟨b, o + l * s, ?_, hb, by rw [Nat.add_assoc]; exact hc⟩
  unfold dropA
  rw [if_neg hcl, e]
  simp only [Option.map_some]
  congr 1
  unfold Addr.add
  by_cases h0 : l * s = 0 <;> simp [h0]
theorem LiesL.take {w : World} {S : Nat → Prop} : ∀ {es : List V} {xs : List Value}, LiesL w S es xs → ∀ m, LiesL w S (es.take m) (xs.take (m * 5))
  | [], xs, h, m => by rw [LiesL] at h; subst h; simp; rw [LiesL]
  | e :: es, xs, h, 0 => by simp; rw [LiesL]
  | e :: es, xs, h, m + 1 => by
    rw [LiesL] at h
    obtain ⟨c, r, rfl, hc, hr⟩ := h
    have h5 := hc.five
    rw [List.take_succ_cons, LiesL]
    refine ⟨c, r.take (m * 5), ?_, hc, hr.take m⟩
    rw [List.take_append, h5, List.take_of_length_le (by omega), show (m + 1) * 5 - 5 = m * 5 from by omega]
theorem LiesL.drop {w : World} {S : Nat → Prop} : ∀ {es : List V} {xs : List Value}, LiesL w S es xs → ∀ m, LiesL w S (es.drop m) (xs.drop (m * 5))
  | [], xs, h, m => by rw [LiesL] at h; subst h; simp; rw [LiesL]
  | e :: es, xs, h, 0 => by simpa using h
  | e :: es, xs, h, m + 1 => by
    rw [LiesL] at h
    obtain ⟨c, r, rfl, hc, hr⟩ := h
    have h5 := hc.five
    rw [List.drop_succ_cons, show (m + 1) * 5 = 5 + m * 5 from by omega, ← List.drop_drop]
    have : (c ++ r).drop 5 = r := by rw [← h5]; simp
    rw [this]
    exact hr.drop m
/-- x[:i] of any slice. -/
theorem slice_to {P : Program} {w : World} {t e : TypeId} {A : Option Addr} {n c i : Nat} (ht : P.underlying t = some (.slice e)) (hz : ∃ s, ∀ w, (sizeOf e).run P w = .ok s w) (hi : i ≤ c) (hA : A = none → c = 0) :
    (Instr.sliceAt t (.slice A n c) none (some (.int .i64 (i : Int))) none).run P w = .ok (.slice A i c) w := by
  have he : P.elem t = e := by simp [Program.elem, ht]
  have ht2 : P.underlying t = some (.slice (P.elem t)) := by rw [he]; exact ht
  obtain ⟨s, hs⟩ := hz
  rw [run_sliceAt_slice w t _ _ _ _ ht2, run_slice_h w t A n c ht2 .i64 (i : Int) (by omega) (by omega), he, hs]
  simp only [Result.andThen_ok, sliced, Int.toNat_natCast, Nat.sub_zero, Nat.zero_mul]
  congr 2
  split
  · rfl
  · cases A with
    | none => rfl
    | some a => simp [Addr.add]
/-- x[i:] of any slice. -/
theorem slice_from {P : Program} {w : World} {t e : TypeId} {A : Option Addr} {n c i s : Nat} (ht : P.underlying t = some (.slice e)) (hs : ∀ w, (sizeOf e).run P w = .ok s w) (hi : i ≤ n) :
    (Instr.sliceAt t (.slice A n c) (some (.int .i64 (i : Int))) none none).run P w = .ok (.slice (dropA A c i s) (n - i) (c - i)) w := by
  have he : P.elem t = e := by simp [Program.elem, ht]
  have ht2 : P.underlying t = some (.slice (P.elem t)) := by rw [he]; exact ht
  rw [run_sliceAt_slice w t _ _ _ _ ht2, run_slice_l w t A n c ht2 .i64 (i : Int) (by omega) (by omega), he, hs]
  simp only [Result.andThen_ok, sliced, Int.toNat_natCast]
  rfl
end Go.Proofs.YtgdnkankleoaoaaGreatDoor
namespace Go.Proofs.YtgdnkankleoaoaaGreatDoor
open Go.RowKit
/-- What List hands back: an array whose list lies anywhere but in the block of the result. -/
def ListPost (S : Nat → Prop) (l : List V) (w : World) (e : Ending) (w' : World) : Prop :=
  Below w.heap.size w w' ∧ ∃ (C : Option Addr) (k : Nat), e = .returned (.agg #[.int .i64 5, .int .i64 0, .string ⟨#[]⟩, .slice none 0 0, .slice C l.length k]) ∧
    Lies w' (fun b => S b ∨ (w.heap.size < b ∧ b < w'.heap.size)) (arrV l) [.int .i64 5, .int .i64 0, .string ⟨#[]⟩, .slice none 0 0, .slice C l.length k]
set_option maxHeartbeats 2000000 in
set_option maxRecDepth 100000 in
theorem list_any (S : Nat → Prop) (l : List V) (A : Option Addr) (c : Nat) (xs : List Value) (w : World) (hA : Rs w S A xs) (hLL : LiesL w S l xs) (hS : ∀ b, S b → b < w.heap.size) (hnil : A = none → c = 0) (hn : l.length ≤ 1000000) : Calls Tryz.prog 133 #[.slice A l.length c] w (ListPost S l w) := by
  obtain ⟨i0, hi, hz0, hz1, hz2⟩ := info_parts inf_value
  have HA := Lib.hid hA
  have HLL := Lib.hid hLL
  have HS := Lib.hid hS
  have HN := Lib.hid hnil
  have HX := Lib.hid hLL.len
  clear hA hLL hS hnil
  have hown0 : Hid (∀ W : World, (W.alloc (.cells #[] 25)).ownsRow W.heap.size 25 5 (.slice (some ⟨W.heap.size, 0, none⟩) 0 0) 0 []) := Lib.hid fun W => by
    have h := World.ownsRow_lit (base := W.heap.size) (e := 25) (size := 5) W #[] 0 (by simp) (by unfold maxLen; omega) (by simp)
    simpa using h
  have HB2 : Hid (Below w.heap.size w ((w.alloc (.cells #[.int .i64 0, .int .i64 0, .string ⟨#[]⟩, .slice none 0 0, .slice none 0 0] 25)).alloc (.cells #[] 25))) := Lib.hid (((Below.refl _ _).alloc (Nat.le_refl _) _).alloc (by simp) _)
  have hO2 := hown0.out (w.alloc (.cells #[.int .i64 0, .int .i64 0, .string ⟨#[]⟩, .slice none 0 0, .slice none 0 0] 25))
  have e1 : (w.alloc (.cells #[.int .i64 0, .int .i64 0, .string ⟨#[]⟩, .slice none 0 0, .slice none 0 0] 25)).heap.size = w.heap.size + 1 := by simp
  rw [e1] at hO2
  have HO2 := Lib.hid hO2
  have hX1 := Lib.hid ((Box.laid w 25 #[.int .i64 0, .int .i64 0, .string ⟨#[]⟩, .slice none 0 0, .slice none 0 0]).alloc (.cells #[] 25))
  clear hown0 e1 hO2
  go_enter Tryz.func133, Tryz.ntmps133
  go_wp2_with (at_builtin; refine wpList_append_rs _ rfl (.tmp 3) (.tmp 4) 23 rfl (w.heap.size + 1) 25 i0 zeroVal 5 80 Tryz.underlying23 hi hz0 hz1 hz2 rfl (by omega) (.slice (some ⟨w.heap.size + 1, 0, none⟩) 0 0) 0 [] rfl HO2.out S A l.length c xs rfl HX.out (HA.out.move fun b hb => ⟨hb, HB2.out.block b (HS.out b hb)⟩) HN.out (liesL_one HLL.out) ?c3 ?c4 ?c5 ?_)
  case c3 => unfold maxLen; omega
  case c4 => omega
  case c5 => simp
  intro v1 w1 hown1 hgr1
  try simp only [Nat.zero_add, List.nil_append] at hown1
  obtain ⟨C, k, rfl, hC, hkn, hkm, hRs⟩ := own_open hown1
  have hB1 : Below w.heap.size w w1 := HB2.out.grown hgr1 (by simp; omega) (fun j hj => by have := (HO2.out.lt j hj).1; omega)
  have hY1 := hX1.out.grown hgr1 (by simp [Value.ownBlock])
  have HL1 : Hid (Lies w1 (fun b => S b ∨ (w.heap.size < b ∧ b < w1.heap.size)) (arrV l) [.int .i64 5, .int .i64 0, .string ⟨#[]⟩, .slice none 0 0, .slice C l.length k]) := Lib.hid (by
    unfold arrV
    rw [Lies]
    refine ⟨⟨Nat.zero_le _, by simp, Nat.zero_le _, by omega⟩, none, 0, C, k, xs, rfl, fun _ => rfl, hC, ⟨Nat.le_refl _, Nat.zero_le _⟩, ⟨hkn, hkm⟩, Rs.nil _ _ _, hRs.move fun b hb => ⟨.inr ⟨by omega, hb.2.1⟩, rfl⟩, HLL.out.move fun b hb => ⟨.inl hb, hB1.block b (HS.out b hb)⟩⟩)
  have HB1 := Lib.hid hB1
  have HY1 := Lib.hid hY1
  clear hown1 hgr1 hRs hB1 hY1
  obtain ⟨t0, t1, t2, t3, t4⟩ := box5 HY1.out
  have z0 := HY1.out.free 0
  have z1 := HY1.out.free 1
  have z2 := HY1.out.free 2
  have z3 := HY1.out.free 3
  have z4 := HY1.out.free 4
  go_wp2_with fail
  refine bodyPost_ret (v := .agg #[.int .i64 5, .int .i64 0, .string ⟨#[]⟩, .slice none 0 0, .slice C l.length k]) (by simp [results, Tryz.results133, go_sem, t0, t1, t2, t3, t4]) rfl ?_
  refine ⟨below_five_at (Nat.le_refl _) HB1.out _ _ _ _ _, C, k, rfl, HL1.out.move fun b hb => ?_⟩
  have hne : b ≠ w.heap.size := by
    rcases hb with h | h
    · have := HS.out b h; omega
    · omega
  refine ⟨hb.imp id fun h => ⟨h.1, by have := h.2; simp [World.setCell]; omega⟩, ?_⟩
  rw [Below.heap_setCell _ _ _ _ (by simpa using hne), Below.heap_setCell _ _ _ _ (by simpa using hne), Below.heap_setCell _ _ _ _ (by simpa using hne), Below.heap_setCell _ _ _ _ (by simpa using hne), Below.heap_setCell _ _ _ _ (by simpa using hne)]
end Go.Proofs.YtgdnkankleoaoaaGreatDoor

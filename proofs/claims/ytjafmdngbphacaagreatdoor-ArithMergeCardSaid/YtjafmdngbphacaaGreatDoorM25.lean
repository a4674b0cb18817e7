/- Package arith, plain: what the sum of two values is. Nothing of the program is named here. The reference's Bool, Num, Text, Fit, Str, all. append(v, x...), v a row of the call's own, x any slice that reads as a list: nil, empty or not; elements of any size; at a plain list and at a step of a region that draws. Slices of slices. Nothing of the program is named here. The reference's List and Arr. -/
import Derived.Test.YtjafmdngbphacaaGreatDoorM22
import Derived.Test.YtjafmdngbphacaaGreatDoorM24
import Derived.Test.YtjafmdngbphacaaGreatDoorM21
import Derived.Test.YtjafmdngbphacaaGreatDoorM18
import Derived.Test.YtjafmdngbphacaaGreatDoorM01
import Derived.Laws.AppendOwnNone
import Derived.Laws.OwnMore
import Derived.RegionTactic
import Derived.Test.YtjafmdngbphacaaGreatDoorM07
set_option linter.unusedVariables false
set_option linter.unusedSimpArgs false
namespace Go.Proofs.YtjafmdngbphacaaGreatDoor
open Go.RowKit Go.Sort
theorem tl_app {n acc r : Nat} {l m : List UInt8} (h : tl n acc l = some r) : tl n acc (l ++ m) = some r := by
  induction n generalizing acc l with
  | zero => rw [tl] at h ⊢; exact h
  | succ n ih =>
    cases l with
    | nil => rw [tl] at h; cases h
    | cons b t =>
      rw [List.cons_append]
      rw [tl] at h ⊢
      split at h
      · rename_i hb; rw [if_pos hb]; exact ih h
      · cases h
theorem fin_app {n least a : Nat} {l m : List UInt8} {q : Nat × Nat} (h : fin n least (tl n a l) = some q) : fin n least (tl n a (l ++ m)) = some q := by
  cases ht : tl n a l with
  | none => rw [ht] at h; cases h
  | some r => rw [tl_app ht, ← ht]; exact h
theorem dec_app {l m : List UInt8} {q : Nat × Nat} (h : dec l = some q) : dec (l ++ m) = some q := by
  cases l with
  | nil => simp [dec] at h
  | cons b t =>
    rw [List.cons_append]
    rw [dec_cons] at h ⊢
    by_cases c1 : b.toNat < 128
    · rw [if_pos c1] at h ⊢; exact h
    rw [if_neg c1] at h ⊢
    by_cases c2 : b.toNat < 192
    · rw [if_pos c2] at h ⊢; exact h
    rw [if_neg c2] at h ⊢
    by_cases c3 : b.toNat < 224
    · rw [if_pos c3] at h ⊢; exact fin_app h
    rw [if_neg c3] at h ⊢
    by_cases c4 : b.toNat < 240
    · rw [if_pos c4] at h ⊢; exact fin_app h
    rw [if_neg c4] at h ⊢
    by_cases c5 : b.toNat < 248
    · rw [if_pos c5] at h ⊢; exact fin_app h
    · rw [if_neg c5] at h; cases h
theorem runes_app : ∀ (n : Nat) {a b : List UInt8} {xs ys : List Nat}, a.length ≤ n → runes a = some xs → runes b = some ys → runes (a ++ b) = some (xs ++ ys)
  | n, [], b, xs, ys, hn, ha, hb => by
    rw [runes_nil] at ha
    injection ha with ha
    subst ha
    simpa using hb
  | 0, c :: t, b, xs, ys, hn, ha, hb => by simp at hn
  | n + 1, c :: t, b, xs, ys, hn, ha, hb => by
    cases hd : dec (c :: t) with
    | none => rw [runes_none (by simp) hd] at ha; cases ha
    | some q =>
      obtain ⟨r, k⟩ := q
      have hk := dec_some_cp hd
      rw [runes_some hd] at ha
      cases ht : runes ((c :: t).drop k) with
      | none => rw [ht] at ha; cases ha
      | some zs =>
        rw [ht] at ha
        injection ha with ha
        subst ha
        have h1 := runes_app n (a := (c :: t).drop k) (by simp at hn ⊢; omega) ht hb
        rw [runes_some (dec_app hd), List.drop_append_of_le_length hk.2.2.2, h1]
        rfl
theorem okS_app {s t : ByteArray} (hs : okS s = true) (ht : okS t = true) : okS (s ++ t) = true := by
  unfold okS at *
  obtain ⟨xs, hx⟩ := Option.isSome_iff_exists.1 hs
  obtain ⟨ys, hy⟩ := Option.isSome_iff_exists.1 ht
  have e : (s ++ t).data.toList = s.data.toList ++ t.data.toList := by simp [ByteArray.data_append]
  rw [e, runes_app _ (Nat.le_refl _) hx hy]
  rfl
theorem size0 {s : ByteArray} (h : s.size = 0) : s = ⟨#[]⟩ := by
  obtain ⟨a⟩ := s
  have : a = #[] := Array.size_eq_zero_iff.1 h
  rw [this]
/-- The shape of a valid value, kind by kind. -/
theorem valid_shape {k n : Int} {s : ByteArray} {ks : List ByteArray} {es : List V} (h : valid (.mk k n s ks es) = true) :
    ((k = 0 ∨ k = 1 ∨ k = 2) ∧ n = 0 ∧ s = ⟨#[]⟩ ∧ ks = [] ∧ es = []) ∨ (k = 3 ∧ s = ⟨#[]⟩ ∧ ks = [] ∧ es = []) ∨ (k = 4 ∧ n = 0 ∧ ks = [] ∧ es = []) ∨ (k = 5 ∧ n = 0 ∧ s = ⟨#[]⟩ ∧ ks = []) ∨ (k = 6 ∧ n = 0 ∧ s = ⟨#[]⟩ ∧ ks.length = es.length) := by
  have h0 := ((valid_iff _).1 h).1
  rw [good] at h0
  simp only [Bool.and_eq_true] at h0
  have h1 := h0.1
  unfold fits at h1
  have nil : ∀ {α : Type} {l : List α}, l.length = 0 → l = [] := fun h => List.eq_nil_of_length_eq_zero h
  split at h1
  · rename_i hk
    simp only [Bool.and_eq_true, decide_eq_true_eq] at h1
    exact .inl ⟨hk, h1.1.1.1, size0 h1.1.1.2, nil h1.1.2, nil h1.2⟩
  split at h1
  · rename_i hk
    simp only [Bool.and_eq_true, decide_eq_true_eq] at h1
    exact .inr (.inl ⟨hk, size0 h1.1.1, nil h1.1.2, nil h1.2⟩)
  split at h1
  · rename_i hk
    simp only [Bool.and_eq_true, decide_eq_true_eq] at h1
    exact .inr (.inr (.inl ⟨hk, h1.1.1, nil h1.1.2, nil h1.2⟩))
  split at h1
  · rename_i hk
    simp only [Bool.and_eq_true, decide_eq_true_eq] at h1
    exact .inr (.inr (.inr (.inl ⟨hk, h1.1.1, size0 h1.1.2, nil h1.2⟩)))
  split at h1
  · rename_i hk
    simp only [Bool.and_eq_true, decide_eq_true_eq] at h1
    exact .inr (.inr (.inr (.inr ⟨hk, h1.1.1, size0 h1.1.2, h1.2⟩)))
  · cases h1
theorem valid_parts {k n : Int} {s : ByteArray} {ks : List ByteArray} {es : List V} (h : valid (.mk k n s ks es) = true) : s.size ≤ 4096 ∧ okS s = true ∧ es.length ≤ 1024 ∧ keysOk none ks = true := by
  have h0 := ((valid_iff _).1 h).1
  rw [good] at h0
  simp only [Bool.and_eq_true, decide_eq_true_eq] at h0
  exact ⟨h0.2.1, h0.2.2.1, h0.2.2.2.1, h0.2.2.2.2.1⟩
theorem valid_elems {k n : Int} {s : ByteArray} {ks : List ByteArray} {es : List V} (h : valid (.mk k n s ks es) = true) : es.all valid = true := by
  rcases valid_shape h with h1 | h1 | h1 | h1 | h1
  · rw [h1.2.2.2.2]; rfl
  · rw [h1.2.2.2]; rfl
  · rw [h1.2.2.2]; rfl
  · exact List.all_eq_true.2 fun e he => (valid_iff e).2 (ok_elem ((valid_iff _).1 h) (.inl h1.1) e he)
  · exact List.all_eq_true.2 fun e he => (valid_iff e).2 (ok_elem ((valid_iff _).1 h) (.inr h1.1) e he)
theorem keysOk_all : ∀ {ks : List ByteArray} {p : Option ByteArray}, keysOk p ks = true → ks.all okS = true ∧ ∀ k ∈ ks, k.size ≤ 4096
  | [], p, h => ⟨rfl, fun k hk => by cases hk⟩
  | x :: r, p, h => by
    have hx : keyOk x = true ∧ keysOk (some x) r = true := by
      cases p with
      | none => rw [keysOk] at h; simpa using h
      | some q => rw [keysOk] at h; simp only [Bool.and_eq_true] at h; exact ⟨h.1, h.2.2⟩
    obtain ⟨h1, h2⟩ := hx
    obtain ⟨h3, h4⟩ := keysOk_all h2
    unfold keyOk at h1
    simp only [Bool.and_eq_true, decide_eq_true_eq] at h1
    refine ⟨by rw [List.all_cons, h3, h1.2]; rfl, fun k hk => ?_⟩
    rcases List.mem_cons.1 hk with rfl | hk
    · exact h1.1
    · exact h4 k hk
theorem valid_keysok {k n : Int} {s : ByteArray} {ks : List ByteArray} {es : List V} (h : valid (.mk k n s ks es) = true) : ks.all okS = true ∧ ∀ k ∈ ks, k.size ≤ 4096 := keysOk_all (valid_parts h).2.2.2
theorem finV_ok {v : V} (h : valid v = true) : finV v = v := by unfold finV; rw [if_pos h]
theorem finE_ok {v : V} (h : valid v = true) : finE v = 0 := by unfold finE; rw [if_pos h]
theorem finE_zero {v : V} (h : finE v = 0) : valid v = true := by
  unfold finE at h
  split at h
  · assumption
  · cases h
theorem strR_ok {s : ByteArray} (h : okS s = true) : strR s = finV (strV s) ∧ strE s = finE (strV s) := by
  unfold strR strE
  rw [if_pos h, if_pos h]
  exact ⟨rfl, rfl⟩
theorem arrR_ok {l : List V} (h : l.all valid = true) : arrR l = finV (arrV l) ∧ arrE l = finE (arrV l) := by
  unfold arrR arrE
  rw [if_pos h, if_pos h]
  exact ⟨rfl, rfl⟩
theorem objR_ok {ms : List Mb} (h : (ms.map Mb.v).all valid = true) (k : (ms.map Mb.key).all okS = true) : objR ms = finV (objL (putAll ms)) ∧ objE ms = finE (objL (putAll ms)) := by
  unfold objR objE
  rw [if_pos h, if_pos k, if_pos h, if_pos k, obj_put]
  exact ⟨rfl, rfl⟩
/-- Members set one after another. -/
def putL (ps qs : PL) : PL := qs.foldl (fun ps p => putP ps p.1 p.2) ps
theorem putL_snoc (ps qs : PL) (p : ByteArray × V) : putL ps (qs ++ [p]) = putP (putL ps qs) p.1 p.2 := by simp [putL]
theorem rev_indP {α : Type} {p : List α → Prop} (h0 : p []) (h1 : ∀ l m, p l → p (l ++ [m])) : ∀ l, p l := by
  intro l
  have : ∀ r : List α, p r.reverse := by
    intro r
    induction r with
    | nil => exact h0
    | cons m r ih => rw [List.reverse_cons]; exact h1 _ _ ih
  have := this l.reverse
  simpa using this
theorem putL_asc {ps : PL} (h : PAsc ps) : ∀ qs, PAsc (putL ps qs) :=
  rev_indP h fun l m ih => by rw [putL_snoc]; exact putP_asc ih
/-- The last value of a key in a list of pairs. -/
def lastP (qs : PL) (k : ByteArray) : Option V := ((qs.filter fun p => decide (p.1 = k)).getLast?).map Prod.snd
theorem putL_look {ps : PL} (h : PAsc ps) (k : ByteArray) : ∀ qs, look (putL ps qs) k = (lastP qs k).or (look ps k) := by
  refine rev_indP rfl fun l m ih => ?_
  rw [putL_snoc, putP_look k (putL_asc h l), ih]
  unfold lastP
  rw [List.filter_append]
  by_cases e : m.1 = k
  · rw [if_pos e]; simp [e]
  · rw [if_neg e]; simp [e]
theorem lastP_asc (k : ByteArray) : ∀ {qs : PL}, PAsc qs → lastP qs k = look qs k
  | [], _ => rfl
  | (y, v) :: r, h => by
    obtain ⟨h1, h2⟩ := List.pairwise_cons.1 h
    have ih := lastP_asc k h2
    unfold lastP at ih ⊢
    rw [look]
    by_cases e : y = k
    · subst e
      have hn : r.filter (fun p => decide (p.1 = y)) = [] := List.filter_eq_nil_iff.2 fun p hp hk => by
        have h3 := h1 p hp
        have hk : p.1 = y := by simpa using hk
        rw [hk] at h3
        simp only [scmp_self] at h3
        omega
      rw [if_pos rfl, List.filter_cons_of_pos (by simp), hn]
      rfl
    · rw [if_neg e, List.filter_cons_of_neg (by simp [e]), ih]
theorem putAll_app (ma mb : List Mb) : putAll (ma ++ mb) = putL (putAll ma) (pairs mb) := by
  unfold putAll putL pairs
  rw [List.foldl_append, List.foldl_map]
theorem pasc_nil : PAsc [] := List.Pairwise.nil
theorem putL_nil_asc {qs : PL} (h : PAsc qs) : putL [] qs = qs :=
  canon (putL_asc pasc_nil qs) h fun k => by rw [putL_look pasc_nil k qs, lastP_asc k h]; simp [look]
def kd : V → Int | .mk k _ _ _ _ => k
def nm : V → Int | .mk _ n _ _ _ => n
def stv : V → ByteArray | .mk _ _ s _ _ => s
def esv : V → List V | .mk _ _ _ _ es => es
/-- The members of an object. -/
def prs : V → PL | .mk _ _ _ ks es => ks.zip es
theorem prs_asc {k n : Int} {s : ByteArray} {ks : List ByteArray} {es : List V} (h : valid (.mk k n s ks es) = true) : PAsc (prs (.mk k n s ks es)) := by
  have ha := (valid_keys h).1
  unfold prs PAsc
  have : ∀ {ks : List ByteArray} {es : List V}, Asc ks → (ks.zip es).Pairwise fun x y => scmp x.1 y.1 < 0 := by
    intro ks
    induction ks with
    | nil => intro es _; simp
    | cons x r ih =>
      intro es h
      cases es with
      | nil => simp
      | cons e f =>
        obtain ⟨h1, h2⟩ := List.pairwise_cons.1 h
        rw [List.zip_cons_cons]
        exact List.Pairwise.cons (fun p hp => h1 p.1 (List.of_mem_zip (show (p.1, p.2) ∈ r.zip f from hp)).1) (ih h2)
  exact this ha
/-- Within the limits or not. -/
def lim (v : V) : V × Int := (finV v, finE v)

/-- The sum of two valid values. -/
def sumR (a b : V) : V × Int :=
  if kd a = 0 then (b, 0) else if kd b = 0 then (a, 0)
  else if kd a = 3 ∧ kd b = 3 then (numV (wrap64 (nm a + nm b)), 0)
  else if kd a = 4 ∧ kd b = 4 then lim (strV (stv a ++ stv b))
  else if kd a = 5 ∧ kd b = 5 then lim (arrV (esv a ++ esv b))
  else if kd a = 6 ∧ kd b = 6 then lim (objL (putL (prs a) (prs b)))
  else (vnull, 12)
theorem sum_null_left {a b : V} (h : kd a = 0) : sumR a b = (b, 0) := by unfold sumR; rw [if_pos h]
theorem vnull_of {a : V} (h : valid a = true) (k : kd a = 0) : a = vnull := by
  obtain ⟨k1, n, s, ks, es⟩ := a
  have hk : k1 = 0 := k
  subst hk
  rcases valid_shape h with h1 | h1 | h1 | h1 | h1
  · obtain ⟨_, rfl, rfl, rfl, rfl⟩ := h1; rfl
  all_goals exact absurd h1.1 (by decide)
theorem sum_null_right {a b : V} (ha : valid a = true) (hb : valid b = true) (h : kd b = 0) : sumR a b = (a, 0) := by
  unfold sumR
  by_cases k : kd a = 0
  · rw [if_pos k, vnull_of ha k, vnull_of hb h]
  · rw [if_neg k, if_pos h]
theorem valid_num (n : Int) : valid (numV n) = true := by
  rw [valid_iff]
  unfold numV
  refine ⟨?_, ?_, ?_, ?_⟩
  · rw [good, goodL]
    have h1 : fits 3 n ⟨#[]⟩ ([] : List ByteArray).length ([] : List V).length = true := rfl
    rw [h1]
    decide +kernel
  · rw [dep]; simp
  · rw [V.sz, V.szL]; decide
  · rw [vbyt, vbytL]; decide
end Go.Proofs.YtjafmdngbphacaaGreatDoor
namespace Go.Proofs.YtjafmdngbphacaaGreatDoor
open Go.RowKit
end Go.Proofs.YtjafmdngbphacaaGreatDoor
namespace Go.Proofs.YtjafmdngbphacaaGreatDoor
open Go.RowKit
theorem rs_none {w : World} {S : Nat → Prop} {xs : List Value} (h : Rs w S none xs) : xs = [] := by
  cases xs with
  | nil => rfl
  | cons u r => obtain ⟨b, o, e, _⟩ := h 0 u rfl; cases e
theorem wp_append_rs {P : Program} (w : World) {o : Oper} {a : Act} {K : Act → World → Prop} {Q : Exit → Act → World → Prop} (s x : Operand) (t : TypeId)
    (ho : o.op = .call { callee := .builtin .append, args := #[s, x], argTypes := #[t, t] })
    (base : Nat) (e : TypeId) (i : TypeInfo) (z : Value) (size bytes : Nat) (ht : P.underlying t = some (.slice e)) (hi : P.info? e = some i) (hz : i.zero = some z)
    (hsize : i.size = size) (hby : i.bytes = bytes) (hzs : z.cells.size = size) (hsz : 0 < size)
    (v : Value) (n : Nat) (xs : List Value) (hs : a.eval s = v) (hown : w.ownsRow base e size v n xs)
    (S : Nat → Prop) (A : Option Addr) (m c : Nat) (news : List Value) (hx : a.eval x = .slice A m c) (hl : news.length = m * size) (hr : Rs w S A news) (hnil : A = none → c = 0) (h1 : ∀ u ∈ news, u.oneCell' = true)
    (h63 : n + m ≤ maxLen) (hbytes : (n + m) * bytes ≤ 140737488355328) (hbase : base ≤ w.heap.size)
    (h : ∀ v' w', w'.ownsRow base e size v' (n + m) (xs ++ news) → w.grownBy w' v.ownBlock → K (a.put o.dst v') w') : o.wp P a w K Q := by
  cases A with
  | none =>
    have hn := rs_none hr
    subst hn
    have hm : m = 0 := by
      have : 0 = m * size := by simpa using hl
      rcases Nat.eq_zero_or_pos m with h | h
      · exact h
      · have := Nat.mul_pos h hsz; omega
    subst hm
    obtain rfl := hnil rfl
    have hrun := run_append_owned_none (P := P) (w := w) base t o.type e i size ht hi v n xs hown
    unfold Oper.wp
    simp [execOp, ho, resolve, invoke, builtin, hs, hx, hrun, Result.andThen]
    exact h v w (by simpa using hown) (World.grownBy.refl w _)
  | some ad =>
    refine wp_append_own w s x t ho base e i z size bytes ht hi hz hsize hby hzs hsz v n xs hs hown ad m c news hx hl ?_ h1 h63 hbytes hbase fun v' w' g1 g2 _ => h v' w' g1 g2
    intro j u hj
    obtain ⟨b, o, h1, _, h2⟩ := hr j u hj
    injection h1 with h1
    subst h1
    have h3 : ((⟨b, o, none⟩ : Addr).add j) = ⟨b, o + j, none⟩ := by
      unfold Addr.add
      by_cases h : j = 0 <;> simp [h]
    rw [h3, h2]
theorem wpList_append_rs {P : Program} (w : World) {ops : Array Oper} {rest : List Oper} {o : Oper} {a : Act} {Q : Exit → Act → World → Prop} (hgd : o.guard = none) (s x : Operand) (t : TypeId)
    (ho : o.op = .call { callee := .builtin .append, args := #[s, x], argTypes := #[t, t] })
    (base : Nat) (e : TypeId) (i : TypeInfo) (z : Value) (size bytes : Nat) (ht : P.underlying t = some (.slice e)) (hi : P.info? e = some i) (hz : i.zero = some z)
    (hsize : i.size = size) (hby : i.bytes = bytes) (hzs : z.cells.size = size) (hsz : 0 < size)
    (v : Value) (n : Nat) (xs : List Value) (hs : a.eval s = v) (hown : w.ownsRow base e size v n xs)
    (S : Nat → Prop) (A : Option Addr) (m c : Nat) (news : List Value) (hx : a.eval x = .slice A m c) (hl : news.length = m * size) (hr : Rs w S A news) (hnil : A = none → c = 0) (h1 : ∀ u ∈ news, u.oneCell' = true)
    (h63 : n + m ≤ maxLen) (hbytes : (n + m) * bytes ≤ 140737488355328) (hbase : base ≤ w.heap.size)
    (h : ∀ v' w', w'.ownsRow base e size v' (n + m) (xs ++ news) → w.grownBy w' v.ownBlock → wpList P ops Q rest (a.put o.dst v') w') : wpList P ops Q (o :: rest) a w :=
  wpList_plain hgd fun _ hK => wp_append_rs w s x t ho base e i z size bytes ht hi hz hsize hby hzs hsz v n xs hs hown S A m c news hx hl hr hnil h1 h63 hbytes hbase fun v' w' h2 h3 => hK _ _ (h v' w' h2 h3)
/-- The cells of values, each in one cell. -/
theorem liesL_one {w : World} {S : Nat → Prop} : ∀ {es : List V} {xs : List Value}, LiesL w S es xs → ∀ u ∈ xs, u.oneCell' = true
  | [], xs, h, u, hu => by rw [LiesL] at h; subst h; cases hu
  | e :: es, xs, h, u, hu => by
    rw [LiesL] at h
    obtain ⟨c, r, rfl, hc, hr⟩ := h
    rcases List.mem_append.1 hu with hu | hu
    · obtain ⟨k, n, s, ks, fs⟩ := e
      rw [Lies] at hc
      obtain ⟨_, A, a, B, b, ys, rfl, _⟩ := hc
      simp only [List.mem_cons, List.not_mem_nil, or_false] at hu
      rcases hu with rfl | rfl | rfl | rfl | rfl <;> rfl
    · exact liesL_one hr u hu
theorem kv_one (ks : List ByteArray) : ∀ u ∈ kv ks, u.oneCell' = true := by
  intro u hu
  simp only [kv, List.mem_map] at hu
  obtain ⟨x, _, rfl⟩ := hu
  rfl
/-- A beginning of a slice that reads as a list. -/
theorem Rs.take {w : World} {S : Nat → Prop} {A : Option Addr} {xs : List Value} (h : Rs w S A xs) (m : Nat) : Rs w S A (xs.take m) := by
  intro j u hj
  rw [List.getElem?_take] at hj
  split at hj
  · exact h j u hj
  · cases hj
/-- A rest of it: the address that the model gives. -/
def dropA (A : Option Addr) (c l s : Nat) : Option Addr := if c = l then A else A.map (·.add (l * s))
theorem Rs.drop {w : World} {S : Nat → Prop} {A : Option Addr} {xs : List Value} (h : Rs w S A xs) (c l s n : Nat) (hn : xs.length = n * s) (hnc : n ≤ c) (hl : l ≤ n) : Rs w S (dropA A c l s) (xs.drop (l * s)) := by
  intro j u hj
  rw [List.getElem?_drop] at hj
  obtain ⟨b, o, e, hb, hc⟩ := h _ u hj
  have hlt : l * s + j < n * s := by
    rw [← hn]
    exact (List.getElem?_eq_some_iff.1 hj).1
  have hcl : ¬ c = l := by
    intro e2
    have : n ≤ l := by omega
    have := Nat.mul_le_mul_right s this
    omega
  refine ⟨b, o + l * s, ?_, hb, by rw [Nat.add_assoc]; exact hc⟩
  unfold dropA
  rw [if_neg hcl, e]
  simp only [Option.map_some]
  congr 1
  unfold Addr.add
  by_cases h0 : l * s = 0 <;> simp [h0]
theorem LiesL.take {w : World} {S : Nat → Prop} : ∀ {es : List V} {xs : List Value}, LiesL w S es xs → ∀ m, LiesL w S (es.take m) (xs.take (m * 5))
  | [], xs, h, m => by rw [LiesL] at h; subst h; simp; rw [LiesL]
  | e :: es, xs, h, 0 => by simp; rw [LiesL]
  | e :: es, xs, h, m + 1 => by
    rw [LiesL] at h
    obtain ⟨c, r, rfl, hc, hr⟩ := h
    have h5 := hc.five
    rw [List.take_succ_cons, LiesL]
    refine ⟨c, r.take (m * 5), ?_, hc, hr.take m⟩
    rw [List.take_append, h5, List.take_of_length_le (by omega), show (m + 1) * 5 - 5 = m * 5 from by omega]
theorem LiesL.drop {w : World} {S : Nat → Prop} : ∀ {es : List V} {xs : List Value}, LiesL w S es xs → ∀ m, LiesL w S (es.drop m) (xs.drop (m * 5))
  | [], xs, h, m => by rw [LiesL] at h; subst h; simp; rw [LiesL]
  | e :: es, xs, h, 0 => by simpa using h
  | e :: es, xs, h, m + 1 => by
    rw [LiesL] at h
    obtain ⟨c, r, rfl, hc, hr⟩ := h
    have h5 := hc.five
    rw [List.drop_succ_cons, show (m + 1) * 5 = 5 + m * 5 from by omega, ← List.drop_drop]
    have : (c ++ r).drop 5 = r := by rw [← h5]; simp
    rw [this]
    exact hr.drop m
end Go.Proofs.YtjafmdngbphacaaGreatDoor
namespace Go.Proofs.YtjafmdngbphacaaGreatDoor
open Go.RowKit
end Go.Proofs.YtjafmdngbphacaaGreatDoor

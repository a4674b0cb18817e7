/- Members of objects, and a stable sort of them, plain. Nothing of the program is named here. The program's stable sort of members. Merging two neighbours in place, plain: what a stable merge is, how it is made of two smaller ones, and why there is just one. Nothing of the program is named here. -/
import Derived.Sort.LotA
import Derived.Shelf.SlSortCmp.Insertion
import Derived.Test.YtfmpdcmedaiooaaGreatDoorU09
import Derived.Shelf.SlSortCmp.InsertionK
import Derived.Shelf.SlGeneric
import Derived.Ground.SlsfProg
import Derived.Test.YtfmpdcmedaiooaaGreatDoorU10
set_option linter.unusedVariables false
set_option linter.unusedSimpArgs false
namespace Go.Proofs.YtfmpdcmedaiooaaGreatDoor
open Go.RowKit Go.Sort
section
variable {α : Type} [Inhabited α] {lt : α → α → Bool} {p : α → Bool}
theorem swp_list (d : Array α) (t r : List α) (x y : α) (h : d.toList = t ++ x :: y :: r) : (swp d (t.length + 1) t.length).toList = t ++ y :: x :: r := by
  obtain ⟨l⟩ := d
  simp only at h
  subst h
  have h1 : (t ++ x :: y :: r)[t.length]! = x := by simp
  have h2 : (t ++ x :: y :: r)[t.length + 1]! = y := by simp
  unfold swp
  rw [Array.toList_setIfInBounds, Array.toList_setIfInBounds]
  simp only [List.getElem!_toArray, h1, h2]
  simp [List.set_append]
theorem cut_at (d : Array α) (j : Nat) (h : j + 1 < d.size) : ∃ t r, d.toList = t ++ d[j]! :: d[j + 1]! :: r ∧ t.length = j := by
  obtain ⟨l⟩ := d
  have hl : j + 1 < l.length := h
  refine ⟨l.take j, l.drop (j + 2), ?_, by simp; omega⟩
  conv => lhs; rw [show l = l.take j ++ l.drop j from (List.take_append_drop j l).symm, List.drop_eq_getElem_cons (show j < l.length by omega), List.drop_eq_getElem_cons hl]
  simp [getElem!_def, List.getElem?_eq_getElem (show j < l.length by omega), List.getElem?_eq_getElem hl]
theorem swp_filter (hp : ∀ x y, lt x y = true → ¬ (p x = true ∧ p y = true)) (d : Array α) (j : Nat) (h : j + 1 < d.size) (hl : lt d[j + 1]! d[j]! = true) : (swp d (j + 1) j).toList.filter p = d.toList.filter p := by
  obtain ⟨t, r, e, rfl⟩ := cut_at d j h
  generalize d[t.length]! = x at *
  generalize d[t.length + 1]! = y at *
  rw [swp_list d t r x y e, e]
  have := hp _ _ hl
  rw [List.filter_append, List.filter_append]
  congr 1
  cases hx : p x <;> cases hy : p y <;> simp_all
theorem inner_filter (hp : ∀ x y, lt x y = true → ¬ (p x = true ∧ p y = true)) (a : Nat) : ∀ (j : Nat) (d : Array α), j < d.size → (insInner lt a j d).toList.filter p = d.toList.filter p ∧ (insInner lt a j d).size = d.size
  | 0, d, _ => by unfold insInner; exact ⟨rfl, rfl⟩
  | j + 1, d, h => by
    unfold insInner
    split
    · rename_i hc
      simp only [Bool.and_eq_true, decide_eq_true_eq] at hc
      have ih := inner_filter hp a j (swp d (j + 1) j) (by rw [swp_size]; omega)
      exact ⟨ih.1.trans (swp_filter hp d j h hc.2), ih.2.trans (swp_size ..)⟩
    · exact ⟨rfl, rfl⟩
theorem outer_filter (hp : ∀ x y, lt x y = true → ¬ (p x = true ∧ p y = true)) (a b : Nat) : ∀ (n i : Nat) (d : Array α), b - i = n → b ≤ d.size → (insOuter lt a b i d).toList.filter p = d.toList.filter p
  | 0, i, d, hn, hb => by rw [insOuter, if_neg (by omega)]
  | n + 1, i, d, hn, hb => by
    rw [insOuter, if_pos (by omega)]
    have h1 := inner_filter hp a i d (by omega)
    rw [outer_filter hp a b n (i + 1) _ (by omega) (by rw [h1.2]; exact hb), h1.1]
/-- The insertion sort is stable: what no comparison parts keeps its order. -/
theorem sort_filter (hp : ∀ x y, lt x y = true → ¬ (p x = true ∧ p y = true)) (d : Array α) (a b : Nat) (hb : b ≤ d.size) : (insertionSort lt d a b).toList.filter p = d.toList.filter p := outer_filter hp a b _ _ d rfl hb
end
/-- A member: its key, its value, and where the value's lists lie. -/
structure Mb where
  key : ByteArray
  k : Int
  n : Int
  s : ByteArray
  ks : List ByteArray
  es : List V
  A : Option Addr
  a : Nat
  B : Option Addr
  b : Nat
instance : Inhabited Mb := ⟨⟨⟨#[]⟩, 0, 0, ⟨#[]⟩, [], [], none, 0, none, 0⟩⟩
def Mb.v (m : Mb) : V := .mk m.k m.n m.s m.ks m.es
def Mb.five (m : Mb) : List Value := [.int .i64 m.k, .int .i64 m.n, .string m.s, .slice m.A m.ks.length m.a, .slice m.B m.es.length m.b]
def Mb.six (m : Mb) : List Value := .string m.key :: m.five
theorem six_len (m : Mb) : m.six.length = 6 := rfl
theorem six_one (m : Mb) : ∀ v ∈ m.six, v.oneCell' = true := by
  intro v hv
  simp only [Mb.six, Mb.five, List.mem_cons, List.not_mem_nil, or_false] at hv
  rcases hv with rfl | rfl | rfl | rfl | rfl | rfl <;> rfl
def mcf (x y : Mb) : Int := scmp x.key y.key
theorem ltm (x y : Mb) : Go.Proofs.ltOf mcf x y = decide (scmp x.key y.key < 0) := rfl
theorem mcf_swo : SWO (Go.Proofs.ltOf mcf) := by
  refine ⟨fun x => ?_, fun x y z h k => ?_, fun x y z h k => ?_⟩
  · rw [ltm, scmp_self]; rfl
  · rw [ltm] at h k ⊢
    exact decide_eq_true (scmp_lt (of_decide_eq_true h) (of_decide_eq_true k))
  · rw [ltm] at h k ⊢
    have h := of_decide_eq_false h
    have k := of_decide_eq_false k
    have h1 := scmp_anti x.key y.key
    have h2 := scmp_anti y.key z.key
    have h3 := scmp_anti x.key z.key
    have := scmp_trans (a := z.key) (b := y.key) (c := x.key) (by omega) (by omega)
    exact decide_eq_false (by omega)
/-- The sorted members. -/
def srt (ms : List Mb) : List Mb := (insertionSort (Go.Proofs.ltOf mcf) ms.toArray 0 ms.length).toList
theorem srt_len (ms : List Mb) : (srt ms).length = ms.length := by
  have := (insertionSort_holds (lt := Go.Proofs.ltOf mcf) mcf_swo ms.toArray 0 ms.length (Nat.zero_le _) (by simp)).1.1
  simpa [srt] using this
theorem srt_filter (ms : List Mb) (k : ByteArray) : (srt ms).filter (fun m => decide (m.key = k)) = ms.filter (fun m => decide (m.key = k)) := by
  unfold srt
  refine (sort_filter (lt := Go.Proofs.ltOf mcf) (p := fun m => decide (m.key = k)) ?_ ms.toArray 0 ms.length (by simp)).trans (by simp)
  intro x y h hk
  have h1 := of_decide_eq_true hk.1
  have h2 := of_decide_eq_true hk.2
  rw [ltm, h1, h2, scmp_self] at h
  exact absurd h (by decide)
theorem srt_mem (ms : List Mb) (m : Mb) : m ∈ srt ms ↔ m ∈ ms := by
  have h := srt_filter ms m.key
  constructor
  · intro hm
    have : m ∈ (srt ms).filter (fun x => decide (x.key = m.key)) := by simp [hm]
    rw [h] at this
    exact (List.mem_filter.1 this).1
  · intro hm
    have : m ∈ ms.filter (fun x => decide (x.key = m.key)) := by simp [hm]
    rw [← h] at this
    exact (List.mem_filter.1 this).1
theorem srt_asc (ms : List Mb) {i j : Nat} {x y : Mb} (hij : i < j) (hx : (srt ms)[i]? = some x) (hy : (srt ms)[j]? = some y) : scmp x.key y.key ≤ 0 := by
  have h := (insertionSort_holds (lt := Go.Proofs.ltOf mcf) mcf_swo ms.toArray 0 ms.length (Nat.zero_le _) (by simp)).2
  obtain ⟨hj, -⟩ := List.getElem?_eq_some_iff.1 hy
  rw [srt_len] at hj
  have h := h i j (Nat.zero_le _) hij hj
  unfold srt at hx hy
  rw [Array.getElem?_toList] at hx hy
  rw [getElem!_def, getElem!_def, hx, hy] at h
  simp only [ltm] at h
  have h := of_decide_eq_false h
  have := scmp_anti x.key y.key
  omega
end Go.Proofs.YtfmpdcmedaiooaaGreatDoor
namespace Go.Proofs
open Go.Shelf Go.RowKit Go.Lib Go.Sort
def Tryz.insl_ren : Go.Shelf.Ren := ⟨fun | 20 => 239 | n => n, fun | 24 => 197 | 22 => 195 | 3 => 3 | 25 => 199 | 4 => 4 | 0 => 0 | n => n, fun | n => n⟩
theorem Tryz.insl : Go.Proofs.SlLaysF0.n20 Tryz.prog Tryz.insl_ren := {
  mixed := by kernel_rfl
  f20 := ⟨Tryz.f239.name, by decide, Tryz.func239.trans (congrArg some (by kernel_rfl))⟩
  t0 := Tryz.underlying0
  a0 := Tryz.isAgg0
  z0 := Tryz.sizeOf0
  v0 := Tryz.zeroValue0
  t3 := Tryz.underlying3
  a3 := Tryz.isAgg3
  z3 := Tryz.sizeOf3
  v3 := Tryz.zeroValue3
  t4 := Tryz.underlying4
  a4 := Tryz.isAgg4
  z4 := Tryz.sizeOf4
  v4 := Tryz.zeroValue4
  t22 := Tryz.underlying195
  a22 := Tryz.isAgg195
  z22 := Tryz.sizeOf195
  v22 := Tryz.zeroValue195
  t25 := Tryz.underlying199
  a25 := Tryz.isAgg199
  z25 := Tryz.sizeOf199
  v25 := Tryz.zeroValue199 }

end Go.Proofs
namespace Go.Proofs.YtfmpdcmedaiooaaGreatDoor
open Go.RowKit Go.Sort
set_option maxHeartbeats 1000000 in
/-- The comparison of two members: two blocks are laid. -/
theorem order_members (x y : Mb) (W : World) : Calls Tryz.prog 190 #[.agg x.six.toArray, .agg y.six.toArray] W fun e w' => e = .returned (.int .i64 (mcf x y)) ∧ ∃ q os', w' = grow (W.drewN q) os' := by
  have hcon := fun W' => cmp_strings x.key y.key W'
  unfold mcf
  generalize scmp x.key y.key = r at hcon ⊢
  obtain ⟨k1, k, n, s, ks, es, A, a, B, b⟩ := x
  obtain ⟨k2, l, o, t, ls, fs, C, c, D, d⟩ := y
  simp only [Mb.six, Mb.five] at *
  go_enter Tryz.func190, Tryz.ntmps190
  go_wp2_with (go_at_call 140; refine (hcon _).mono ?_; rintro e w' ⟨rfl, rfl⟩)
  go_ret
  exact ⟨rfl, 0, _, by rw [alloc_eq_grow, alloc_eq_grow, grow_grow]; rfl⟩
theorem mlays (blk off size : Nat) (w : World) : CmpLays Tryz.prog 190 #[] Mb.six 6 mcf blk off size w := fun _ _ _ _ x y => order_members x y _
/-- The insertion sort of a row of members. -/
theorem ins_any (g cap a b : Nat) (d : Array Mb) (w : World) (hH : HoldsK Mb.six 6 w g 0 d) (hg : g < w.heap.size) (hab : a ≤ b) (hb : b ≤ d.size) (hsz : d.size < 4611686018427387904) :
    Calls Tryz.prog 239 #[.slice (some ⟨g, 0, none⟩) d.size cap, .int .i64 a, .int .i64 b, .func (.func 190) #[] #[]] w fun e w' =>
      e = .returned (.tuple #[]) ∧ ∃ n os, w' = sortWorldK Mb.six 6 w g 0 n (Sort.insertionSort (Go.Proofs.ltOf mcf) d a b) os := by
  have eg : ∀ args w, (callFunc 190 args).run Tryz.prog w = .ok (.enter 190 args) w := enters_of Tryz.func190 (by kernel_rfl) rfl
  exact AnyQ.insertionSortCmpFunc Tryz.insl 6 Tryz.isAgg197 Tryz.sizeOf197 Mb.six six_len six_one mcf 190 #[] g 0 cap a b d w eg (mlays g 0 d.size w) hH hg hab hb hsz
end Go.Proofs.YtfmpdcmedaiooaaGreatDoor
namespace Go.Proofs.YtfmpdcmedaiooaaGreatDoor
open Go.RowKit Go.Sort
/-- An exchange of two places, in a list. -/
theorem swp_far {α : Type} [Inhabited α] {d : Array α} {A M B : List α} {x y : α} (h : d.toList = A ++ x :: (M ++ y :: B)) {i j : Nat} (hi : i = A.length) (hj : j = A.length + 1 + M.length) : (swp d i j).toList = A ++ y :: (M ++ x :: B) := by
  obtain ⟨l⟩ := d
  simp only at h
  subst h
  subst hi
  subst hj
  have h1 : (A ++ x :: (M ++ y :: B))[A.length]! = x := by simp
  have h2 : (A ++ x :: (M ++ y :: B))[A.length + 1 + M.length]! = y := by
    rw [getElem!_def, List.getElem?_append_right (by omega), show A.length + 1 + M.length - A.length = M.length + 1 by omega, List.getElem?_cons_succ, List.getElem?_append_right (by omega), Nat.sub_self, List.getElem?_cons_zero]
  unfold swp
  rw [Array.toList_setIfInBounds, Array.toList_setIfInBounds]
  simp only [List.getElem!_toArray, h1, h2]
  rw [List.set_append_right _ _ (by omega), Nat.sub_self, List.set_cons_zero, List.set_append_right _ _ (by omega), show A.length + 1 + M.length - A.length = M.length + 1 by omega, List.set_cons_succ, List.set_append_right _ _ (by omega), Nat.sub_self, List.set_cons_zero]
/-- The other way round. -/
theorem swp_far' {α : Type} [Inhabited α] {d : Array α} {A M B : List α} {x y : α} (h : d.toList = A ++ x :: (M ++ y :: B)) {i j : Nat} (hi : i = A.length) (hj : j = A.length + 1 + M.length) : (swp d j i).toList = A ++ y :: (M ++ x :: B) := by
  obtain ⟨l⟩ := d
  simp only at h
  subst h
  subst hi
  subst hj
  have h1 : (A ++ x :: (M ++ y :: B))[A.length]! = x := by simp
  have h2 : (A ++ x :: (M ++ y :: B))[A.length + 1 + M.length]! = y := by
    rw [getElem!_def, List.getElem?_append_right (by omega), show A.length + 1 + M.length - A.length = M.length + 1 by omega, List.getElem?_cons_succ, List.getElem?_append_right (by omega), Nat.sub_self, List.getElem?_cons_zero]
  unfold swp
  rw [Array.toList_setIfInBounds, Array.toList_setIfInBounds]
  simp only [List.getElem!_toArray, h1, h2]
  rw [List.set_append_right _ _ (by omega), show A.length + 1 + M.length - A.length = M.length + 1 by omega, List.set_cons_succ, List.set_append_right _ _ (by omega), Nat.sub_self, List.set_cons_zero, List.set_append_right _ _ (by omega), Nat.sub_self, List.set_cons_zero]
theorem at_mid {α : Type} [Inhabited α] {d : Array α} {A B : List α} {x : α} (h : d.toList = A ++ x :: B) {i : Nat} (hi : i = A.length) : d[i]! = x := by
  obtain ⟨l⟩ := d
  simp only at h
  subst h
  subst hi
  simp
/-- One member's key is less than another's. -/
def lk (x y : Mb) : Bool := Go.Proofs.ltOf mcf x y
theorem lk_def (x y : Mb) : Go.Proofs.ltOf mcf x y = lk x y := rfl
theorem lk_irr (x : Mb) : lk x x = false := mcf_swo.irrefl x
theorem lk_asym {x y : Mb} (h : lk x y = true) : lk y x = false := mcf_swo.asymmA h
theorem lk_nt {x y z : Mb} (h : lk x y = false) (k : lk y z = false) : lk x z = false := mcf_swo.ntrans _ _ _ h k
/-- y < x and x ≤ z give y < z. -/
theorem lk_le {x y z : Mb} (h : lk y x = true) (k : lk z x = false) : lk y z = true := by
  cases hh : lk y z with
  | true => rfl
  | false => have := lk_nt hh k; rw [h] at this; cases this
/-- z ≤ y and y < x give z < x. -/
theorem lk_le' {x y z : Mb} (h : lk y x = true) (k : lk y z = false) : lk z x = true := by
  cases hh : lk z x with
  | true => rfl
  | false => have := lk_nt k hh; rw [h] at this; cases this
theorem lk_key {x y : Mb} {k : ByteArray} (hx : x.key = k) (hy : y.key = k) : lk x y = false := by
  unfold lk
  rw [ltm, hx, hy, scmp_self]
  rfl
theorem lk_same {x y : Mb} (h : lk x y = false) (k : lk y x = false) : x.key = y.key := by
  unfold lk at h k
  rw [ltm] at h k
  have h := of_decide_eq_false h
  have k := of_decide_eq_false k
  have := scmp_anti x.key y.key
  exact (scmp_zero x.key y.key).1 (by omega)
/-- Ascending. -/
def So (l : List Mb) : Prop := l.Pairwise fun x y => lk y x = false
/-- The members with a key, in their order. -/
def fk (k : ByteArray) (l : List Mb) : List Mb := l.filter fun m => decide (m.key = k)
theorem fk_app (k : ByteArray) (a b : List Mb) : fk k (a ++ b) = fk k a ++ fk k b := List.filter_append ..
theorem fk_mem {k : ByteArray} {l : List Mb} {x : Mb} (h : x ∈ fk k l) : x ∈ l ∧ x.key = k := by
  have := List.mem_filter.1 h
  exact ⟨this.1, of_decide_eq_true this.2⟩
theorem mem_fk {l : List Mb} {x : Mb} (h : x ∈ l) : x ∈ fk x.key l := List.mem_filter.2 ⟨h, decide_eq_true rfl⟩
/-- Two stretches, the later one less than the earlier one throughout, may change places. -/
theorem fk_swap {u v : List Mb} (h : ∀ x ∈ u, ∀ y ∈ v, lk y x = true) (k : ByteArray) : fk k u ++ fk k v = fk k v ++ fk k u := by
  cases hu : fk k u with
  | nil => simp
  | cons x r =>
    cases hv : fk k v with
    | nil => simp
    | cons y s =>
      have hx := fk_mem (show x ∈ fk k u by rw [hu]; simp)
      have hy := fk_mem (show y ∈ fk k v by rw [hv]; simp)
      have := h x hx.1 y hy.1
      rw [lk_key hy.2 hx.2] at this
      cases this
/-- z is the stable merge of u and v. -/
structure Mg (u v z : List Mb) : Prop where
  so : So z
  len : z.length = u.length + v.length
  cls : ∀ k, fk k z = fk k u ++ fk k v
theorem Mg.mem {u v z : List Mb} (h : Mg u v z) {x : Mb} (hx : x ∈ z) : x ∈ u ∨ x ∈ v := by
  have := mem_fk hx
  rw [h.cls, List.mem_append] at this
  exact this.imp (fun h => (fk_mem h).1) fun h => (fk_mem h).1
theorem Mg.left {v : List Mb} (h : So v) : Mg [] v v := ⟨h, by simp, fun k => by simp [fk]⟩
theorem Mg.right {u : List Mb} (h : So u) : Mg u [] u := ⟨h, by simp, fun k => by simp [fk]⟩
theorem Mg.split {u1 u2 v1 v2 z1 z2 : List Mb} (h1 : Mg u1 v1 z1) (h2 : Mg u2 v2 z2) (hu : So (u1 ++ u2)) (hv : So (v1 ++ v2)) (hlt : ∀ x ∈ u2, ∀ y ∈ v1, lk y x = true) (hle : ∀ x ∈ u1, ∀ y ∈ v2, lk y x = false) : Mg (u1 ++ u2) (v1 ++ v2) (z1 ++ z2) := by
  have hu := List.pairwise_append.1 hu
  have hv := List.pairwise_append.1 hv
  refine ⟨List.pairwise_append.2 ⟨h1.so, h2.so, fun p hp q hq => ?_⟩, ?_, fun k => ?_⟩
  · rcases h1.mem hp with hp | hp <;> rcases h2.mem hq with hq | hq
    · exact hu.2.2 p hp q hq
    · exact hle p hp q hq
    · exact lk_asym (hlt q hq p hp)
    · exact hv.2.2 p hp q hq
  · simp only [List.length_append, h1.len, h2.len]; omega
  · rw [fk_app, fk_app, fk_app, h1.cls, h2.cls]
    have := fk_swap hlt k
    simp only [List.append_assoc]
    rw [← List.append_assoc (fk k v1), ← this]
    simp only [List.append_assoc]
theorem So.app_left {a b : List Mb} (h : So (a ++ b)) : So a := (List.pairwise_append.1 h).1
theorem So.app_right {a b : List Mb} (h : So (a ++ b)) : So b := (List.pairwise_append.1 h).2.1
theorem So.one (x : Mb) : So [x] := List.pairwise_singleton _ _
/-- What holds of the last one of an ascending list .. -/
theorem So.last_lt {a : List Mb} {x y : Mb} (h : So (a ++ [y])) (hl : lk y x = true) : ∀ z ∈ a ++ [y], lk z x = true := by
  intro z hz
  rcases List.mem_append.1 hz with hz | hz
  · exact lk_le' hl ((List.pairwise_append.1 h).2.2 z hz y (by simp))
  · rw [List.mem_singleton.1 hz]; exact hl
theorem So.last_le {a : List Mb} {x y : Mb} (h : So (a ++ [y])) (hl : lk x y = false) : ∀ z ∈ a ++ [y], lk x z = false := by
  intro z hz
  rcases List.mem_append.1 hz with hz | hz
  · exact lk_nt hl ((List.pairwise_append.1 h).2.2 z hz y (by simp))
  · rw [List.mem_singleton.1 hz]; exact hl
theorem So.head_lt {a : List Mb} {x y : Mb} (h : So (y :: a)) (hl : lk x y = true) : ∀ z ∈ y :: a, lk x z = true := by
  intro z hz
  rcases List.mem_cons.1 hz with rfl | hz
  · exact hl
  · exact lk_le hl (List.rel_of_pairwise_cons h hz)
theorem So.head_le {a : List Mb} {x y : Mb} (h : So (y :: a)) (hl : lk y x = false) : ∀ z ∈ y :: a, lk z x = false := by
  intro z hz
  rcases List.mem_cons.1 hz with rfl | hz
  · exact hl
  · exact lk_nt (List.rel_of_pairwise_cons h hz) hl
theorem list_snoc {α : Type} : ∀ l : List α, l = [] ∨ ∃ a x, l = a ++ [x]
  | [] => .inl rfl
  | x :: l => by
    rcases list_snoc l with rfl | ⟨a, y, rfl⟩
    · exact .inr ⟨[], x, rfl⟩
    · exact .inr ⟨x :: a, y, rfl⟩
/-- A list cut at a place. -/
theorem cut_list {α : Type} (l : List α) (n : Nat) (h : n ≤ l.length) : ∃ a b, l = a ++ b ∧ a.length = n := ⟨l.take n, l.drop n, (List.take_append_drop n l).symm, by simp; omega⟩
/-- One member merged into a list behind it: what the search found. -/
theorem merge_one_left {d : Array Mb} {X Y v : List Mb} {x : Mb} {i : Nat} (hd : d.toList = X ++ x :: (v ++ Y)) (hv : So v) (h1 : X.length + 1 ≤ i) (h2 : i ≤ X.length + 1 + v.length)
    (hlo : i = X.length + 1 ∨ lk d[i - 1]! x = true) (hhi : i = X.length + 1 + v.length ∨ lk d[i]! x = false) :
    ∃ v1 v2, v = v1 ++ v2 ∧ X.length + 1 + v1.length = i ∧ Mg [x] v (v1 ++ x :: v2) := by
  obtain ⟨v1, v2, rfl, hl⟩ := cut_list v (i - (X.length + 1)) (by omega)
  refine ⟨v1, v2, rfl, by omega, ?_⟩
  have ha : ∀ y ∈ v1, lk y x = true := by
    rcases list_snoc v1 with rfl | ⟨a, y, rfl⟩
    · simp
    · rcases hlo with hlo | hlo
      · simp at hl; omega
      · simp at hl
        rw [at_mid (A := X ++ x :: a) (x := y) (B := v2 ++ Y) (by rw [hd]; simp) (by simp; omega)] at hlo
        exact (hv.app_left).last_lt hlo
  have hb : ∀ y ∈ v2, lk y x = false := by
    cases v2 with
    | nil => simp
    | cons y b =>
      rcases hhi with hhi | hhi
      · simp at hhi; omega
      · rw [at_mid (A := X ++ x :: v1) (x := y) (B := b ++ Y) (by rw [hd]; simp) (by simp; omega)] at hhi
        exact (hv.app_right).head_le hhi
  have := Mg.split (u1 := []) (u2 := [x]) (v1 := v1) (v2 := v2) (z1 := v1) (z2 := x :: v2) (Mg.left hv.app_left) ⟨?_, by simp; omega, fun k => by rw [← fk_app]; rfl⟩ (So.one x) hv (fun p hp q hq => by rw [List.mem_singleton.1 hp]; exact ha q hq) (fun p hp => by cases hp)
  · exact this
  · exact List.pairwise_cons.2 ⟨fun q hq => hb q hq, hv.app_right⟩
/-- One member merged into a list ahead of it. -/
theorem merge_one_right {d : Array Mb} {X Y u : List Mb} {x : Mb} {i : Nat} (hd : d.toList = X ++ (u ++ x :: Y)) (hu : So u) (h1 : X.length ≤ i) (h2 : i ≤ X.length + u.length)
    (hlo : i = X.length ∨ lk x d[i - 1]! = false) (hhi : i = X.length + u.length ∨ lk x d[i]! = true) :
    ∃ u1 u2, u = u1 ++ u2 ∧ X.length + u1.length = i ∧ Mg u [x] (u1 ++ x :: u2) := by
  obtain ⟨u1, u2, rfl, hl⟩ := cut_list u (i - X.length) (by omega)
  refine ⟨u1, u2, rfl, by omega, ?_⟩
  have ha : ∀ y ∈ u1, lk x y = false := by
    rcases list_snoc u1 with rfl | ⟨a, y, rfl⟩
    · simp
    · rcases hlo with hlo | hlo
      · simp at hl; omega
      · simp at hl
        rw [at_mid (A := X ++ a) (x := y) (B := u2 ++ x :: Y) (by rw [hd]; simp) (by simp; omega)] at hlo
        exact (hu.app_left).last_le hlo
  have hb : ∀ y ∈ u2, lk x y = true := by
    cases u2 with
    | nil => simp
    | cons y b =>
      rcases hhi with hhi | hhi
      · simp at hhi; omega
      · rw [at_mid (A := X ++ u1) (x := y) (B := b ++ x :: Y) (by rw [hd]; simp) (by simp; omega)] at hhi
        exact (hu.app_right).head_lt hhi
  have h0 : So (u1 ++ [x]) := List.pairwise_append.2 ⟨hu.app_left, So.one x, fun p hp q hq => by rw [List.mem_singleton.1 hq]; exact ha p hp⟩
  have := Mg.split (u1 := u1) (u2 := u2) (v1 := [x]) (v2 := []) (z1 := u1 ++ [x]) (z2 := u2) ⟨h0, by simp, fun k => by rw [← fk_app]⟩ (Mg.right hu.app_right) hu (by simpa using So.one x) (fun p hp q hq => by rw [List.mem_singleton.1 hq]; exact hb p hp) (fun p hp q hq => by cases hq)
  simpa using this
/-- The middle case: what the symmetric search found. -/
theorem merge_sym {d : Array Mb} {X Y u v : List Mb} {m b mid s lo hi : Nat} (hd : d.toList = X ++ (u ++ (v ++ Y))) (hu : So u) (hv : So v) (hm : m = X.length + u.length) (hb : b = m + v.length) (hlen : 2 ≤ u.length) (hlen2 : 2 ≤ v.length) (hmid : mid = (X.length + b) / 2)
    (hlohi : (m > mid ∧ lo = mid + m - b ∧ hi = mid) ∨ (m ≤ mid ∧ lo = X.length ∧ hi = m)) (h1 : lo ≤ s) (h2 : s ≤ hi)
    (hlo : s = lo ∨ lk d[mid + m - 1 - (s - 1)]! d[s - 1]! = false) (hhi : s = hi ∨ lk d[mid + m - 1 - s]! d[s]! = true) :
    ∃ u1 u2 v1 v2, u = u1 ++ u2 ∧ v = v1 ++ v2 ∧ X.length + u1.length = s ∧ m + v1.length = mid + m - s ∧ (∀ x ∈ u2, ∀ y ∈ v1, lk y x = true) ∧ (∀ x ∈ u1, ∀ y ∈ v2, lk y x = false) := by
  have ha : X.length ≤ s := by omega
  have hsm : s ≤ m := by omega
  have he1 : m ≤ mid + m - s := by omega
  have he2 : mid + m - s ≤ b := by omega
  obtain ⟨u1, u2, rfl, hl1⟩ := cut_list u (s - X.length) (by omega)
  obtain ⟨v1, v2, rfl, hl2⟩ := cut_list v (mid - s) (by omega)
  refine ⟨u1, u2, v1, v2, rfl, rfl, by omega, by omega, ?_, ?_⟩
  · cases u2 with
    | nil => simp
    | cons x r =>
      rcases list_snoc v1 with rfl | ⟨c, y, rfl⟩
      · simp
      · simp only [List.length_append, List.length_cons, List.length_nil] at hl2 hm hb
        rcases hhi with hhi | hhi
        · omega
        · rw [at_mid (A := X ++ (u1 ++ (x :: r ++ c))) (x := y) (B := v2 ++ Y) (by rw [hd]; simp) (by simp; omega), at_mid (A := X ++ u1) (x := x) (B := r ++ ((c ++ [y] ++ v2) ++ Y)) (by rw [hd]; simp) (by simp; omega)] at hhi
          intro p hp q hq
          have h3 := (hv.app_left).last_lt hhi q hq
          exact (hu.app_right).head_lt h3 p hp
  · rcases list_snoc u1 with rfl | ⟨c, x, rfl⟩
    · simp
    · cases v2 with
      | nil => simp
      | cons y r =>
        simp only [List.length_append, List.length_cons, List.length_nil] at hl1 hm hb
        rcases hlo with hlo | hlo
        · omega
        · rw [at_mid (A := X ++ (c ++ [x] ++ u2 ++ v1)) (x := y) (B := r ++ Y) (by rw [hd]; simp) (by simp; omega), at_mid (A := X ++ c) (x := x) (B := u2 ++ ((v1 ++ y :: r) ++ Y)) (by rw [hd]; simp) (by simp; omega)] at hlo
          intro p hp q hq
          have h3 := (hu.app_left).last_le hlo p hp
          exact (hv.app_right).head_le h3 q hq
/-- There is just one stable ascending order. -/
theorem stable_one : ∀ {l l' : List Mb}, So l → So l' → (∀ k, fk k l = fk k l') → l = l'
  | [], [], _, _, _ => rfl
  | [], y :: t, _, _, h => by
    have := h y.key
    simp [fk] at this
  | x :: t, [], _, _, h => by
    have := h x.key
    simp [fk] at this
  | x :: t, y :: s, h1, h2, h => by
    have hxm : x ∈ y :: s := by
      have := mem_fk (show x ∈ x :: t by simp)
      rw [h] at this
      exact (fk_mem this).1
    have hym : y ∈ x :: t := by
      have := mem_fk (show y ∈ y :: s by simp)
      rw [← h] at this
      exact (fk_mem this).1
    have hxy : lk y x = false := by
      rcases List.mem_cons.1 hym with rfl | hm
      · exact lk_irr _
      · exact List.rel_of_pairwise_cons h1 hm
    have hyx : lk x y = false := by
      rcases List.mem_cons.1 hxm with rfl | hm
      · exact lk_irr _
      · exact List.rel_of_pairwise_cons h2 hm
    have hk := lk_same hxy hyx
    have e := h x.key
    simp only [fk, List.filter_cons, hk, decide_true, if_true] at e
    injection e with e1 e2
    subst e1
    have hs : ∀ k, fk k t = fk k s := fun k => by
      have := h k
      simp only [fk, List.filter_cons] at this
      by_cases hkk : decide (x.key = k) = true
      · rw [if_pos hkk, if_pos hkk] at this
        injection this
      · rw [if_neg hkk, if_neg hkk] at this
        exact this
    rw [stable_one (List.pairwise_cons.1 h1).2 (List.pairwise_cons.1 h2).2 hs]
/-- What the insertion sort of a whole row makes. -/
theorem ins_so (d : Array Mb) : So (insertionSort (Go.Proofs.ltOf mcf) d 0 d.size).toList ∧ ∀ k, fk k (insertionSort (Go.Proofs.ltOf mcf) d 0 d.size).toList = fk k d.toList := by
  have h := insertionSort_holds (lt := Go.Proofs.ltOf mcf) mcf_swo d 0 d.size (Nat.zero_le _) (Nat.le_refl _)
  refine ⟨?_, fun k => sort_filter (lt := Go.Proofs.ltOf mcf) (p := fun m => decide (m.key = k)) (fun x y hl hk => ?_) d 0 d.size (Nat.le_refl _)⟩
  · generalize insertionSort (Go.Proofs.ltOf mcf) d 0 d.size = r at h
    obtain ⟨⟨hs, -, -⟩, h⟩ := h
    refine List.pairwise_iff_getElem.2 fun i j hi hj hij => ?_
    have hj2 : j < d.size := by rw [← hs]; simpa using hj
    have := h i j (Nat.zero_le _) hij hj2
    rw [getElem!_pos r j (by simpa using hj), getElem!_pos r i (by simpa using hi)] at this
    simpa [lk] using this
  · have := lk_key (of_decide_eq_true hk.1) (of_decide_eq_true hk.2)
    rw [lk_def, this] at hl
    cases hl
theorem split_one {α : Type} (z : List α) {i : Nat} (h : i < z.length) : z = z.take i ++ z[i] :: z.drop (i + 1) := by
  conv => lhs; rw [← List.take_append_drop i z, List.drop_eq_getElem_cons h]
/-- An insertion sort of a stretch, in lists. -/
theorem ins_part {d : Array Mb} {X u Y : List Mb} (hd : d.toList = X ++ (u ++ Y)) {a b : Nat} (ha : a = X.length) (hb : b = X.length + u.length) :
    ∃ z, (insertionSort (Go.Proofs.ltOf mcf) d a b).toList = X ++ (z ++ Y) ∧ So z ∧ z.length = u.length ∧ ∀ k, fk k z = fk k u := by
  subst ha
  subst hb
  have hsz : d.size = X.length + u.length + Y.length := by rw [← Array.length_toList, hd]; simp; omega
  have h := insertionSort_holds (lt := Go.Proofs.ltOf mcf) mcf_swo d X.length (X.length + u.length) (by omega) (by omega)
  have hf := fun k => sort_filter (lt := Go.Proofs.ltOf mcf) (p := fun m => decide (m.key = k)) (fun x y hl hk => by
    have := lk_key (of_decide_eq_true hk.1) (of_decide_eq_true hk.2)
    rw [lk_def, this] at hl
    cases hl) d X.length (X.length + u.length) (by omega)
  generalize insertionSort (Go.Proofs.ltOf mcf) d X.length (X.length + u.length) = r at h hf
  obtain ⟨⟨hs, hout, -⟩, hso⟩ := h
  have hrl : r.toList.length = X.length + u.length + Y.length := by rw [Array.length_toList, hs, hsz]
  have hget : ∀ i, i < X.length ∨ X.length + u.length ≤ i → r.toList[i]? = d.toList[i]? := by
    intro i hi
    by_cases hlt : i < d.size
    · have := hout i hi
      rw [getElem!_pos r i (by omega), getElem!_pos d i hlt] at this
      rw [Array.getElem?_toList, Array.getElem?_toList, Array.getElem?_eq_getElem (by omega), Array.getElem?_eq_getElem hlt, this]
    · rw [List.getElem?_eq_none (by rw [hrl]; omega), List.getElem?_eq_none (by rw [Array.length_toList]; omega)]
  obtain ⟨A, R, hr, hA⟩ := cut_list r.toList X.length (by omega)
  obtain ⟨z, B, rfl, hz⟩ := cut_list R u.length (by rw [hr] at hrl; simp at hrl; omega)
  have hAX : A = X := by
    apply List.ext_getElem?
    intro i
    by_cases hi : i < X.length
    · have := hget i (.inl hi)
      rw [hr, hd, List.getElem?_append_left (by omega), List.getElem?_append_left hi] at this
      exact this
    · rw [List.getElem?_eq_none (by omega), List.getElem?_eq_none (by omega)]
  have hBY : B = Y := by
    apply List.ext_getElem?
    intro i
    have := hget (X.length + u.length + i) (.inr (by omega))
    rw [hr, hd, List.getElem?_append_right (by omega), List.getElem?_append_right (by omega), List.getElem?_append_right (by omega), List.getElem?_append_right (by omega), hA, hz, show X.length + u.length + i - X.length - u.length = i by omega] at this
    exact this
  subst hAX
  subst hBY
  refine ⟨z, hr, ?_, hz, fun k => ?_⟩
  · refine List.pairwise_iff_getElem.2 fun i j hi hj hij => ?_
    have hri : ∀ (t : Nat) (ht : t < z.length), r[A.length + t]! = z[t] := fun t ht => at_mid (A := A ++ z.take t) (x := z[t]) (B := z.drop (t + 1) ++ B) (by
      rw [hr]
      have h := split_one z ht
      conv => lhs; rw [h]
      simp only [List.append_assoc, List.cons_append]) (by simp; omega)
    have := hso (A.length + i) (A.length + j) (by omega) (by omega) (by omega)
    rw [hri i hi, hri j hj] at this
    exact this
  · have := hf k
    rw [hr, hd] at this
    simp only [List.filter_append] at this
    exact List.append_cancel_right (List.append_cancel_left this)
end Go.Proofs.YtfmpdcmedaiooaaGreatDoor

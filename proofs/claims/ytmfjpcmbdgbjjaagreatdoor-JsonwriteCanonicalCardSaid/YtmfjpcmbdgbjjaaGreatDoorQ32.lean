/- Members of objects, and a stable sort of them, plain. Nothing of the program is named here. The program's stable sort of members. -/
import Derived.Sort.LotA
import Derived.Shelf.SlSortCmp.Insertion
import Derived.Test.YtmfjpcmbdgbjjaaGreatDoorQ12
import Derived.Test.YtmfjpcmbdgbjjaaGreatDoorQ11
import Derived.Shelf.SlSortCmp.InsertionK
import Derived.Shelf.SlGeneric
import Derived.Ground.SlsfProg
import Derived.Test.YtmfjpcmbdgbjjaaGreatDoorQ13
set_option linter.unusedVariables false
set_option linter.unusedSimpArgs false
namespace Go.Proofs.YtmfjpcmbdgbjjaaGreatDoor
open Go.RowKit Go.Sort
section
variable {α : Type} [Inhabited α] {lt : α → α → Bool} {p : α → Bool}
theorem swp_list (d : Array α) (t r : List α) (x y : α) (h : d.toList = t ++ x :: y :: r) : (swp d (t.length + 1) t.length).toList = t ++ y :: x :: r := by
  obtain ⟨l⟩ := d
  simp only at h
  subst h
  have h1 : (t ++ x :: y :: r)[t.length]! = x := by simp
  have h2 : (t ++ x :: y :: r)[t.length + 1]! = y := by simp
  unfold swp
  rw [Array.toList_setIfInBounds, Array.toList_setIfInBounds]
  simp only [List.getElem!_toArray, h1, h2]
  simp [List.set_append]
theorem cut_at (d : Array α) (j : Nat) (h : j + 1 < d.size) : ∃ t r, d.toList = t ++ d[j]! :: d[j + 1]! :: r ∧ t.length = j := by
  obtain ⟨l⟩ := d
  have hl : j + 1 < l.length := h
  refine ⟨l.take j, l.drop (j + 2), ?_, by simp; omega⟩
  conv => lhs; rw [show l = l.take j ++ l.drop j from (List.take_append_drop j l).symm, List.drop_eq_getElem_cons (show j < l.length by omega), List.drop_eq_getElem_cons hl]
  simp [getElem!_def, List.getElem?_eq_getElem (show j < l.length by omega), List.getElem?_eq_getElem hl]
theorem swp_filter (hp : ∀ x y, lt x y = true → ¬ (p x = true ∧ p y = true)) (d : Array α) (j : Nat) (h : j + 1 < d.size) (hl : lt d[j + 1]! d[j]! = true) : (swp d (j + 1) j).toList.filter p = d.toList.filter p := by
  obtain ⟨t, r, e, rfl⟩ := cut_at d j h
  generalize d[t.length]! = x at *
  generalize d[t.length + 1]! = y at *
  rw [swp_list d t r x y e, e]
  have := hp _ _ hl
  rw [List.filter_append, List.filter_append]
  congr 1
  cases hx : p x <;> cases hy : p y <;> simp_all
theorem inner_filter (hp : ∀ x y, lt x y = true → ¬ (p x = true ∧ p y = true)) (a : Nat) : ∀ (j : Nat) (d : Array α), j < d.size → (insInner lt a j d).toList.filter p = d.toList.filter p ∧ (insInner lt a j d).size = d.size
  | 0, d, _ => by unfold insInner; exact ⟨rfl, rfl⟩
  | j + 1, d, h => by
    unfold insInner
    split
    · rename_i hc
      simp only [Bool.and_eq_true, decide_eq_true_eq] at hc
      have ih := inner_filter hp a j (swp d (j + 1) j) (by rw [swp_size]; omega)
      exact ⟨ih.1.trans (swp_filter hp d j h hc.2), ih.2.trans (swp_size ..)⟩
    · exact ⟨rfl, rfl⟩
theorem outer_filter (hp : ∀ x y, lt x y = true → ¬ (p x = true ∧ p y = true)) (a b : Nat) : ∀ (n i : Nat) (d : Array α), b - i = n → b ≤ d.size → (insOuter lt a b i d).toList.filter p = d.toList.filter p
  | 0, i, d, hn, hb => by rw [insOuter, if_neg (by omega)]
  | n + 1, i, d, hn, hb => by
    rw [insOuter, if_pos (by omega)]
    have h1 := inner_filter hp a i d (by omega)
    rw [outer_filter hp a b n (i + 1) _ (by omega) (by rw [h1.2]; exact hb), h1.1]
/-- The insertion sort is stable: what no comparison parts keeps its order. -/
theorem sort_filter (hp : ∀ x y, lt x y = true → ¬ (p x = true ∧ p y = true)) (d : Array α) (a b : Nat) (hb : b ≤ d.size) : (insertionSort lt d a b).toList.filter p = d.toList.filter p := outer_filter hp a b _ _ d rfl hb
end
/-- A member: its key, its value, and where the value's lists lie. -/
structure Mb where
  key : ByteArray
  k : Int
  n : Int
  s : ByteArray
  ks : List ByteArray
  es : List V
  A : Option Addr
  a : Nat
  B : Option Addr
  b : Nat
instance : Inhabited Mb := ⟨⟨⟨#[]⟩, 0, 0, ⟨#[]⟩, [], [], none, 0, none, 0⟩⟩
def Mb.v (m : Mb) : V := .mk m.k m.n m.s m.ks m.es
def Mb.five (m : Mb) : List Value := [.int .i64 m.k, .int .i64 m.n, .string m.s, .slice m.A m.ks.length m.a, .slice m.B m.es.length m.b]
def Mb.six (m : Mb) : List Value := .string m.key :: m.five
theorem six_len (m : Mb) : m.six.length = 6 := rfl
theorem six_one (m : Mb) : ∀ v ∈ m.six, v.oneCell' = true := by
  intro v hv
  simp only [Mb.six, Mb.five, List.mem_cons, List.not_mem_nil, or_false] at hv
  rcases hv with rfl | rfl | rfl | rfl | rfl | rfl <;> rfl
def mcf (x y : Mb) : Int := scmp x.key y.key
theorem ltm (x y : Mb) : Go.Proofs.ltOf mcf x y = decide (scmp x.key y.key < 0) := rfl
theorem mcf_swo : SWO (Go.Proofs.ltOf mcf) := by
  refine ⟨fun x => ?_, fun x y z h k => ?_, fun x y z h k => ?_⟩
  · rw [ltm, scmp_self]; rfl
  · rw [ltm] at h k ⊢
    exact decide_eq_true (scmp_lt (of_decide_eq_true h) (of_decide_eq_true k))
  · rw [ltm] at h k ⊢
    have h := of_decide_eq_false h
    have k := of_decide_eq_false k
    have h1 := scmp_anti x.key y.key
    have h2 := scmp_anti y.key z.key
    have h3 := scmp_anti x.key z.key
    have := scmp_trans (a := z.key) (b := y.key) (c := x.key) (by omega) (by omega)
    exact decide_eq_false (by omega)
/-- The sorted members. -/
def srt (ms : List Mb) : List Mb := (insertionSort (Go.Proofs.ltOf mcf) ms.toArray 0 ms.length).toList
theorem srt_len (ms : List Mb) : (srt ms).length = ms.length := by
  have := (insertionSort_holds (lt := Go.Proofs.ltOf mcf) mcf_swo ms.toArray 0 ms.length (Nat.zero_le _) (by simp)).1.1
  simpa [srt] using this
theorem srt_filter (ms : List Mb) (k : ByteArray) : (srt ms).filter (fun m => decide (m.key = k)) = ms.filter (fun m => decide (m.key = k)) := by
  unfold srt
  refine (sort_filter (lt := Go.Proofs.ltOf mcf) (p := fun m => decide (m.key = k)) ?_ ms.toArray 0 ms.length (by simp)).trans (by simp)
  intro x y h hk
  have h1 := of_decide_eq_true hk.1
  have h2 := of_decide_eq_true hk.2
  rw [ltm, h1, h2, scmp_self] at h
  exact absurd h (by decide)
theorem srt_mem (ms : List Mb) (m : Mb) : m ∈ srt ms ↔ m ∈ ms := by
  have h := srt_filter ms m.key
  constructor
  · intro hm
    have : m ∈ (srt ms).filter (fun x => decide (x.key = m.key)) := by simp [hm]
    rw [h] at this
    exact (List.mem_filter.1 this).1
  · intro hm
    have : m ∈ ms.filter (fun x => decide (x.key = m.key)) := by simp [hm]
    rw [← h] at this
    exact (List.mem_filter.1 this).1
theorem srt_asc (ms : List Mb) {i j : Nat} {x y : Mb} (hij : i < j) (hx : (srt ms)[i]? = some x) (hy : (srt ms)[j]? = some y) : scmp x.key y.key ≤ 0 := by
  have h := (insertionSort_holds (lt := Go.Proofs.ltOf mcf) mcf_swo ms.toArray 0 ms.length (Nat.zero_le _) (by simp)).2
  obtain ⟨hj, -⟩ := List.getElem?_eq_some_iff.1 hy
  rw [srt_len] at hj
  have h := h i j (Nat.zero_le _) hij hj
  unfold srt at hx hy
  rw [Array.getElem?_toList] at hx hy
  rw [getElem!_def, getElem!_def, hx, hy] at h
  simp only [ltm] at h
  have h := of_decide_eq_false h
  have := scmp_anti x.key y.key
  omega
end Go.Proofs.YtmfjpcmbdgbjjaaGreatDoor
namespace Go.Proofs
open Go.Shelf Go.RowKit Go.Lib Go.Sort
def Tryz.insl_ren : Go.Shelf.Ren := ⟨fun | 20 => 226 | n => n, fun | 24 => 180 | 22 => 178 | 3 => 3 | 25 => 182 | 4 => 4 | 0 => 0 | n => n, fun | n => n⟩
theorem Tryz.insl : Go.Proofs.SlLaysF0.n20 Tryz.prog Tryz.insl_ren := {
  mixed := by kernel_rfl
  f20 := ⟨Tryz.f226.name, by decide, Tryz.func226.trans (congrArg some (by kernel_rfl))⟩
  t0 := Tryz.underlying0
  a0 := Tryz.isAgg0
  z0 := Tryz.sizeOf0
  v0 := Tryz.zeroValue0
  t3 := Tryz.underlying3
  a3 := Tryz.isAgg3
  z3 := Tryz.sizeOf3
  v3 := Tryz.zeroValue3
  t4 := Tryz.underlying4
  a4 := Tryz.isAgg4
  z4 := Tryz.sizeOf4
  v4 := Tryz.zeroValue4
  t22 := Tryz.underlying178
  a22 := Tryz.isAgg178
  z22 := Tryz.sizeOf178
  v22 := Tryz.zeroValue178
  t25 := Tryz.underlying182
  a25 := Tryz.isAgg182
  z25 := Tryz.sizeOf182
  v25 := Tryz.zeroValue182 }

end Go.Proofs
namespace Go.Proofs.YtmfjpcmbdgbjjaaGreatDoor
open Go.RowKit Go.Sort
set_option maxHeartbeats 1000000 in
/-- The comparison of two members: two blocks are laid. -/
theorem order_members (x y : Mb) (W : World) : Calls Tryz.prog 174 #[.agg x.six.toArray, .agg y.six.toArray] W fun e w' => e = .returned (.int .i64 (mcf x y)) ∧ ∃ q os', w' = grow (W.drewN q) os' := by
  have hcon := fun W' => cmp_strings x.key y.key W'
  unfold mcf
  generalize scmp x.key y.key = r at hcon ⊢
  obtain ⟨k1, k, n, s, ks, es, A, a, B, b⟩ := x
  obtain ⟨k2, l, o, t, ls, fs, C, c, D, d⟩ := y
  simp only [Mb.six, Mb.five] at *
  go_enter Tryz.func174, Tryz.ntmps174
  go_wp2_with (go_at_call 171; refine (hcon _).mono ?_; rintro e w' ⟨rfl, rfl⟩)
  go_ret
  exact ⟨rfl, 0, _, by rw [alloc_eq_grow, alloc_eq_grow, grow_grow]; rfl⟩
theorem mlays (blk off size : Nat) (w : World) : CmpLays Tryz.prog 174 #[] Mb.six 6 mcf blk off size w := fun _ _ _ _ x y => order_members x y _
/-- The insertion sort of a row of members. -/
theorem ins_any (g cap a b : Nat) (d : Array Mb) (w : World) (hH : HoldsK Mb.six 6 w g 0 d) (hg : g < w.heap.size) (hab : a ≤ b) (hb : b ≤ d.size) (hsz : d.size < 4611686018427387904) :
    Calls Tryz.prog 226 #[.slice (some ⟨g, 0, none⟩) d.size cap, .int .i64 a, .int .i64 b, .func (.func 174) #[] #[]] w fun e w' =>
      e = .returned (.tuple #[]) ∧ ∃ n os, w' = sortWorldK Mb.six 6 w g 0 n (Sort.insertionSort (Go.Proofs.ltOf mcf) d a b) os := by
  have eg : ∀ args w, (callFunc 174 args).run Tryz.prog w = .ok (.enter 174 args) w := enters_of Tryz.func174 (by kernel_rfl) rfl
  exact AnyQ.insertionSortCmpFunc Tryz.insl 6 Tryz.isAgg180 Tryz.sizeOf180 Mb.six six_len six_one mcf 174 #[] g 0 cap a b d w eg (mlays g 0 d.size w) hH hg hab hb hsz
end Go.Proofs.YtmfjpcmbdgbjjaaGreatDoor

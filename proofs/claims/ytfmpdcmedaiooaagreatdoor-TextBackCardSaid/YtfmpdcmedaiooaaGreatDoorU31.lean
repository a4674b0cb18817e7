/- Objects as lists of members: what is found at a key, what Put leaves, and that both ways of building an object agree; plain. An object is known by what it holds at each key: the sorted members and those that were put one after another are the same object; plain. Objects by numbers: plain; rows of values that are filled one after another. -/
import Derived.Test.YtfmpdcmedaiooaaGreatDoorU28
import Derived.Test.YtfmpdcmedaiooaaGreatDoorU12
import Derived.Test.YtfmpdcmedaiooaaGreatDoorU30
set_option linter.unusedVariables false
set_option linter.unusedSimpArgs false
namespace Go.Proofs.YtfmpdcmedaiooaaGreatDoor
open Go.RowKit Go.Sort
/-- The offset of the first key that is the one that is sought. -/
def idxOf : List ByteArray → ByteArray → Option Nat
  | [], _ => none
  | x :: r, k => if x = k then some 0 else (idxOf r k).map (· + 1)
end Go.Proofs.YtfmpdcmedaiooaaGreatDoor
namespace Go.Proofs.YtfmpdcmedaiooaaGreatDoor
open Go.RowKit Go.Sort
abbrev PL := List (ByteArray × V)
def look : PL → ByteArray → Option V
  | [], _ => none
  | (y, v) :: r, k => if y = k then some v else look r k
def PAsc (ps : PL) : Prop := ps.Pairwise fun x y => scmp x.1 y.1 < 0
theorem look_none {ps : PL} {k : ByteArray} (h : ∀ p ∈ ps, p.1 ≠ k) : look ps k = none := by
  induction ps with
  | nil => rfl
  | cons p r ih =>
    obtain ⟨y, v⟩ := p
    rw [look, if_neg (h (y, v) (by simp))]
    exact ih fun q hq => h q (by simp [hq])
theorem scmp_ne {a b : ByteArray} (h : scmp a b < 0) : a ≠ b := by rintro rfl; rw [scmp_self] at h; omega
theorem canon : ∀ {a b : PL}, PAsc a → PAsc b → (∀ k, look a k = look b k) → a = b
  | [], [], _, _, _ => rfl
  | [], (y, v) :: r, _, _, h => by have := h y; simp [look] at this
  | (y, v) :: r, [], _, _, h => by have := h y; simp [look] at this
  | (x, u) :: q, (y, v) :: r, ha, hb, h => by
    obtain ⟨ha1, ha2⟩ := List.pairwise_cons.1 ha
    obtain ⟨hb1, hb2⟩ := List.pairwise_cons.1 hb
    have hxy : x = y := by
      have hr := scmp_range x y
      rcases hr with hr | hr | hr
      · have h1 := h x
        rw [look, if_pos rfl, look_none] at h1
        · cases h1
        · intro p hp
          rcases List.mem_cons.1 hp with rfl | hp
          · exact fun e => by subst e; rw [scmp_self] at hr; omega
          · exact fun e => by have := scmp_lt (show scmp x y < 0 by omega) (hb1 p hp); rw [e, scmp_self] at this; omega
      · exact (scmp_zero x y).1 hr
      · have hr2 := scmp_anti x y
        have h1 := h y
        rw [look_none] at h1
        · rw [look, if_pos rfl] at h1; cases h1
        · intro p hp
          rcases List.mem_cons.1 hp with rfl | hp
          · exact fun e => by simp only at e; subst e; rw [scmp_self] at hr; omega
          · exact fun e => by have := scmp_lt (show scmp y x < 0 by omega) (ha1 p hp); rw [e, scmp_self] at this; omega
    subst hxy
    have huv := h x
    rw [look, if_pos rfl, look, if_pos rfl] at huv
    injection huv with huv
    subst huv
    congr 1
    refine canon ha2 hb2 fun k => ?_
    have hk := h k
    rw [look, look] at hk
    by_cases e : x = k
    · subst e
      rw [look_none fun p hp => Ne.symm (scmp_ne (ha1 p hp)), look_none fun p hp => Ne.symm (scmp_ne (hb1 p hp))]
    · rw [if_neg e, if_neg e] at hk
      exact hk
/-- A member set. -/
def putP : PL → ByteArray → V → PL
  | [], k, x => [(k, x)]
  | (y, v) :: r, k, x => if scmp y k < 0 then (y, v) :: putP r k x else (k, x) :: (if y = k then r else (y, v) :: r)
theorem putP_mem {k : ByteArray} {x : V} : ∀ {ps : PL} {p : ByteArray × V}, p ∈ putP ps k x → p = (k, x) ∨ p ∈ ps
  | [], p, h => by simpa [putP] using h
  | (y, v) :: r, p, h => by
    rw [putP] at h
    split at h
    · rcases List.mem_cons.1 h with h | h
      · exact .inr (by simp [h])
      · rcases putP_mem h with h | h
        · exact .inl h
        · exact .inr (by simp [h])
    · rcases List.mem_cons.1 h with h | h
      · exact .inl h
      · split at h
        · exact .inr (by simp [h])
        · exact .inr h
theorem putP_asc {k : ByteArray} {x : V} : ∀ {ps : PL}, PAsc ps → PAsc (putP ps k x)
  | [], _ => by simp [putP, PAsc]
  | (y, v) :: r, h => by
    obtain ⟨h1, h2⟩ := List.pairwise_cons.1 h
    rw [putP]
    split
    · rename_i hy
      refine List.Pairwise.cons (fun p hp => ?_) (putP_asc h2)
      rcases putP_mem hp with rfl | hp
      · exact hy
      · exact h1 p hp
    · rename_i hy
      have hr := scmp_anti y k
      split
      · rename_i e
        subst e
        exact List.Pairwise.cons h1 h2
      · rename_i e
        have hky : scmp k y < 0 := by
          have := mt (scmp_zero y k).1 e
          omega
        refine List.Pairwise.cons (fun p hp => ?_) h
        rcases List.mem_cons.1 hp with rfl | hp
        · exact hky
        · exact scmp_lt hky (h1 p hp)
theorem putP_look {k : ByteArray} {x : V} (q : ByteArray) : ∀ {ps : PL}, PAsc ps → look (putP ps k x) q = if k = q then some x else look ps q
  | [], _ => by simp [putP, look]
  | (y, v) :: r, h => by
    obtain ⟨h1, h2⟩ := List.pairwise_cons.1 h
    rw [putP]
    split
    · rename_i hy
      rw [look, look, putP_look q h2]
      by_cases e : y = q
      · subst e
        rw [if_pos rfl, if_neg (Ne.symm (scmp_ne hy)), if_pos rfl]
      · rw [if_neg e, if_neg e]
    · rename_i hy
      rw [look]
      by_cases e : k = q
      · rw [if_pos e, if_pos e]
      · rw [if_neg e, if_neg e]
        split
        · rename_i e2
          subst e2
          rw [look, if_neg e]
        · rfl
/-- The last value of a key. -/
def lastV (ms : List Mb) (k : ByteArray) : Option V := ((ms.filter fun m => decide (m.key = k)).getLast?).map Mb.v
def putAll (ms : List Mb) : PL := ms.foldl (fun ps m => putP ps m.key m.v) []
theorem putAll_snoc (ms : List Mb) (m : Mb) : putAll (ms ++ [m]) = putP (putAll ms) m.key m.v := by simp [putAll]
theorem rev_ind {p : List Mb → Prop} (h0 : p []) (h1 : ∀ l m, p l → p (l ++ [m])) : ∀ l, p l := by
  intro l
  have : ∀ r : List Mb, p r.reverse := by
    intro r
    induction r with
    | nil => exact h0
    | cons m r ih => rw [List.reverse_cons]; exact h1 _ _ ih
  have := this l.reverse
  simpa using this
theorem putAll_asc : ∀ ms : List Mb, PAsc (putAll ms) :=
  rev_ind List.Pairwise.nil fun l m ih => by rw [putAll_snoc]; exact putP_asc ih
theorem putAll_look (k : ByteArray) : ∀ ms : List Mb, look (putAll ms) k = lastV ms k := by
  refine rev_ind rfl fun l m ih => ?_
  rw [putAll_snoc, putP_look k (putAll_asc l), ih]
  unfold lastV
  rw [List.filter_append]
  by_cases e : m.key = k
  · rw [if_pos e]; simp [e]
  · rw [if_neg e]; simp [e]
def pairs (ms : List Mb) : PL := ms.map fun m => (m.key, m.v)
/-- Weakly ascending members. -/
def WAsc (ms : List Mb) : Prop := ms.Pairwise fun x y => scmp x.key y.key ≤ 0
theorem srt_wasc (ms : List Mb) : WAsc (srt ms) := by
  refine List.pairwise_iff_getElem.2 fun i j hi hj hij => ?_
  exact srt_asc ms hij (List.getElem?_eq_getElem hi) (List.getElem?_eq_getElem hj)
theorem lastOf_asc : ∀ {l : List Mb}, WAsc l → PAsc (pairs (lastOf l))
  | [], _ => by simp [lastOf, pairs, PAsc]
  | [m], _ => by simp [lastOf, pairs, PAsc]
  | m :: x :: r, h => by
    obtain ⟨h1, h2⟩ := List.pairwise_cons.1 h
    by_cases e : x.key = m.key
    · rw [lastOf_same e]; exact lastOf_asc h2
    · rw [lastOf_keep e]
      refine List.Pairwise.cons (fun p hp => ?_) (lastOf_asc h2)
      obtain ⟨y, hy, rfl⟩ := List.mem_map.1 hp
      have hy := lastOf_mem hy
      show scmp m.key y.key < 0
      have h3 := h1 x (by simp)
      have h4 : scmp m.key x.key < 0 := by
        have := mt (scmp_zero m.key x.key).1 (Ne.symm e)
        omega
      rcases List.mem_cons.1 hy with rfl | hy
      · exact h4
      · exact scmp_lt_le h4 ((List.pairwise_cons.1 h2).1 y hy)
theorem lastOf_look (k : ByteArray) : ∀ {l : List Mb}, WAsc l → look (pairs (lastOf l)) k = lastV l k
  | [], _ => by simp [lastOf, pairs, look, lastV]
  | [m], _ => by
    unfold lastV
    by_cases e : m.key = k <;> simp [lastOf, pairs, look, e]
  | m :: x :: r, h => by
    obtain ⟨h1, h2⟩ := List.pairwise_cons.1 h
    by_cases e : x.key = m.key
    · rw [lastOf_same e, lastOf_look k h2]
      unfold lastV
      by_cases ek : m.key = k
      · rw [List.filter_cons_of_pos (a := m) (by simp [ek]), List.getLast?_cons]
        rw [List.filter_cons_of_pos (a := x) (by simp [e, ek]), List.getLast?_cons]
        simp
      · rw [List.filter_cons_of_neg (a := m) (by simp [ek])]
    · rw [lastOf_keep e]
      have hm : scmp m.key x.key < 0 := by
        have h3 := h1 x (by simp)
        have := mt (scmp_zero m.key x.key).1 (Ne.symm e)
        omega
      show (if m.key = k then some m.v else look (pairs (lastOf (x :: r))) k) = _
      rw [lastOf_look k h2]
      unfold lastV
      by_cases ek : m.key = k
      · rw [if_pos ek, List.filter_cons_of_pos (a := m) (by simp [ek])]
        have hn : (x :: r).filter (fun y => decide (y.key = k)) = [] := by
          refine List.filter_eq_nil_iff.2 fun y hy hk => ?_
          have hk : y.key = k := by simpa using hk
          have hly : scmp m.key y.key < 0 := by
            rcases List.mem_cons.1 hy with rfl | hy
            · exact hm
            · exact scmp_lt_le hm ((List.pairwise_cons.1 h2).1 y hy)
          rw [hk, ← ek, scmp_self] at hly
          omega
        rw [hn]
        rfl
      · rw [if_neg ek, List.filter_cons_of_neg (a := m) (by simp [ek])]
/-- Both ways of building an object. -/
theorem obj_both (ms : List Mb) : pairs (lastOf (srt ms)) = putAll ms := by
  refine canon (lastOf_asc (srt_wasc ms)) (putAll_asc ms) fun k => ?_
  rw [lastOf_look k (srt_wasc ms), putAll_look]
  unfold lastV
  rw [srt_filter]
def objL (ps : PL) : V := .mk 6 0 ⟨#[]⟩ (ps.map Prod.fst) (ps.map Prod.snd)
end Go.Proofs.YtfmpdcmedaiooaaGreatDoor
namespace Go.Proofs.YtfmpdcmedaiooaaGreatDoor
open Go.RowKit Go.Sort
theorem jput_putP (k : ByteArray) (x : V) : ∀ ps : JP, jput ps k x = putP ps k x
  | [] => rfl
  | (y, v) :: r => by rw [jput, putP, jput_putP k x r]
theorem putAll_jputs : ∀ (ms : List Mb) (ps : JP), ms.foldl (fun ps m => putP ps m.key m.v) ps = jputs ps (ms.map Mb.key) (ms.map Mb.v)
  | [], ps => by rw [List.map_nil, List.map_nil, jputs]; rfl; intro _ _ _ _ h; cases h
  | m :: ms, ps => by rw [List.foldl_cons, List.map_cons, List.map_cons, jputs, jput_putP, putAll_jputs ms]
theorem putAll_eq (ms : List Mb) : putAll ms = jputs [] (ms.map Mb.key) (ms.map Mb.v) := putAll_jputs ms []
theorem jput_map (f : V → V) (k : ByteArray) (x : V) : ∀ ps : JP, jput (ps.map fun p => (p.1, f p.2)) k (f x) = (jput ps k x).map fun p => (p.1, f p.2)
  | [] => rfl
  | (y, v) :: r => by
    rw [List.map_cons, jput, jput, jput_map f k x r]
    split
    · rfl
    · split <;> rfl
theorem jputs_map (f : V → V) : ∀ (ks : List ByteArray) (xs : List V) (ps : JP), jputs (ps.map fun p => (p.1, f p.2)) ks (xs.map f) = (jputs ps ks xs).map fun p => (p.1, f p.2)
  | [], xs, ps => by rw [jputs, jputs] <;> (intro _ _ _ _ h; cases h)
  | k :: ks, [], ps => by rw [List.map_nil, jputs, jputs] <;> (intro _ _ _ _ h h2; cases h2)
  | k :: ks, x :: xs, ps => by rw [List.map_cons, jputs, jputs, jput_map, jputs_map f ks xs]
theorem jputs_mem : ∀ (ks : List ByteArray) (xs : List V) (ps : JP) (p : ByteArray × V), p ∈ jputs ps ks xs → p ∈ ps ∨ p.2 ∈ xs
  | [], xs, ps, p, h => by rw [jputs] at h; exact .inl h; intro _ _ _ _ h; cases h
  | k :: ks, [], ps, p, h => by rw [jputs] at h; exact .inl h; intro _ _ _ _ _ h2; cases h2
  | k :: ks, x :: xs, ps, p, h => by
    rw [jputs] at h
    rcases jputs_mem ks xs _ p h with h | h
    · rcases jput_mem h with rfl | h
      · exact .inr (by simp)
      · exact .inl h
    · exact .inr (by simp [h])
/-- A number as a value. -/
def jnV (i : Nat) : V := .mk 3 (i : Int) ⟨#[]⟩ [] []
def numsV (n : Nat) : List V := (List.range n).map jnV
theorem numsV_len (n : Nat) : (numsV n).length = n := by simp [numsV]
/-- The element whose number the value is. -/
def atV (es : List V) : V → V
  | .mk _ i _ _ _ => (es[i.toNat]?).getD jz
theorem numsV_at (es : List V) : (numsV es.length).map (atV es) = es := by
  unfold numsV
  rw [List.map_map]
  apply List.ext_getElem?
  intro i
  by_cases hi : i < es.length
  · rw [List.getElem?_map, List.getElem?_range hi, List.getElem?_eq_getElem hi]
    simp [jnV, atV, hi]
  · rw [List.getElem?_eq_none (by simpa using hi), List.getElem?_eq_none (by omega)]
theorem jputs_nums (ks : List ByteArray) (es : List V) : jputs [] ks es = (jputs [] ks (numsV es.length)).map fun p => (p.1, atV es p.2) := by
  have h := jputs_map (atV es) ks (numsV es.length) []
  rw [numsV_at] at h
  exact h
theorem jnV_ok (i : Nat) : valid (jnV i) = true := by
  rw [valid_iff]
  refine ⟨?_, ?_, ?_, ?_⟩
  · unfold jnV
    rw [good, keysOk, goodL]
    have h1 : fits 3 (i : Int) ⟨#[]⟩ ([] : List ByteArray).length ([] : List V).length = true := rfl
    rw [h1]
    decide
  · unfold jnV; rw [dep, if_neg (by decide)]; exact Nat.zero_le _
  · unfold jnV; rw [V.sz, V.szL]; decide
  · unfold jnV; rw [vbyt, vbytL, kb]; decide
theorem szL_nums {xs : List V} (h : ∀ x ∈ xs, ∃ i, x = jnV i) : V.szL xs = xs.length ∧ vbytL xs = 0 := by
  induction xs with
  | nil => exact ⟨rfl, rfl⟩
  | cons x xs ih =>
    obtain ⟨i, rfl⟩ := h x (by simp)
    obtain ⟨h1, h2⟩ := ih fun y hy => h y (by simp [hy])
    rw [V.szL, vbytL, h1, h2]
    have e1 : (jnV i).sz = 1 := by unfold jnV; rw [V.sz, V.szL]
    have e2 : vbyt (jnV i) = 0 := by unfold jnV; rw [vbyt, vbytL, kb]; rfl
    rw [e1, e2, List.length_cons]
    omega
/-- What Obj makes of keys and numbers is valid, and what the numbers are. -/
theorem nums_obj {ks : List ByteArray} {n : Nat} {ms : List Mb} (h1 : ms.map Mb.key = ks) (h2 : ms.map Mb.v = numsV n) (hl : ks.length = n) (hn : n ≤ 1024) (hk : ∀ k ∈ ks, keyOk k = true) (hkb : kb ks ≤ 65536) :
    valid (objV (lastOf (srt ms))) = true ∧ (lastOf (srt ms)).map Mb.key = (jputs [] ks (numsV n)).map Prod.fst ∧ (lastOf (srt ms)).map Mb.v = (jputs [] ks (numsV n)).map Prod.snd := by
  have hb := obj_both ms
  rw [putAll_eq, h1, h2] at hb
  have e1 : (lastOf (srt ms)).map Mb.key = (jputs [] ks (numsV n)).map Prod.fst := by rw [← hb]; unfold pairs; rw [List.map_map]; rfl
  have e2 : (lastOf (srt ms)).map Mb.v = (jputs [] ks (numsV n)).map Prod.snd := by rw [← hb]; unfold pairs; rw [List.map_map]; rfl
  refine ⟨?_, e1, e2⟩
  obtain ⟨o1, o2, o3, o4⟩ := jputs_ok (q := fun p => keyOk p.1 = true ∧ GV 0 p.2) ks (numsV n) [] (by rw [numsV_len]; exact hl) ⟨List.Pairwise.nil, fun p hp => by cases hp⟩ (fun a ha b hb' _ => ⟨hk a ha, by
    unfold numsV at hb'
    obtain ⟨i, hi, rfl⟩ := List.mem_map.1 hb'
    have hi2 := List.mem_range.1 hi
    exact gv_leaf rfl (by decide) (by omega) (by decide) (by decide)⟩)
  rw [numsV_len] at o2
  have hg := gv_obj o1 (by simp at o2; omega)
  have hnm : ∀ x ∈ numsV n, ∃ i, x = jnV i := fun x hx => by
    unfold numsV at hx
    obtain ⟨i, -, rfl⟩ := List.mem_map.1 hx
    exact ⟨i, rfl⟩
  obtain ⟨z1, z2⟩ := szL_nums hnm
  rw [numsV_len] at z1
  have y1 : V.szL (([] : JP).map Prod.snd) = 0 := rfl
  have y2 : kb (([] : JP).map Prod.fst) = 0 := rfl
  have y3 : vbytL (([] : JP).map Prod.snd) = 0 := rfl
  rw [y1, z1] at o3
  rw [y2, y3, z2] at o4
  rw [valid_iff]
  unfold objV
  rw [e1, e2]
  have e3 : V.mk 6 0 ⟨#[]⟩ ((jputs [] ks (numsV n)).map Prod.fst) ((jputs [] ks (numsV n)).map Prod.snd) = jobjV (jputs [] ks (numsV n)) := rfl
  rw [e3]
  refine ⟨hg.g, by have := hg.d; omega, ?_, ?_⟩
  · unfold jobjV; rw [V.sz]; omega
  · unfold jobjV; rw [vbyt, show (⟨#[]⟩ : ByteArray).size = 0 from rfl]; omega
/-! ### Rows in memory -/
/-- Block b holds n values of five cells each: the cells D j at j. -/
def RowSt (w : World) (b n : Nat) (D : Nat → List Value) : Prop := ∃ cs : Array Value, Box w b 25 cs ∧ ∀ j, j < n → ∀ k, k < 5 → ∃ u, cs[j * 5 + k]? = some u ∧ (D j)[k]? = some u
section
variable {w w' : World} {b n : Nat} {D : Nat → List Value}
theorem RowSt.lt (h : RowSt w b n D) : b < w.heap.size := by obtain ⟨cs, h1, -⟩ := h; exact h1.lt
theorem RowSt.next (h : RowSt w b n D) (hb : Below w.heap.size w w') : RowSt w' b n D := by
  obtain ⟨cs, h1, h2⟩ := h; exact ⟨cs, h1.below hb h1.lt, h2⟩
theorem RowSt.same (h : RowSt w b n D) (he : w'.heap[b]? = w.heap[b]?) : RowSt w' b n D := by
  obtain ⟨cs, h1, h2⟩ := h; exact ⟨cs, he.trans h1, h2⟩
theorem RowSt.free (h : RowSt w b n D) (i : Nat) : w.frozen? ⟨b, i, none⟩ = false := by obtain ⟨cs, h1, -⟩ := h; exact h1.free i
theorem RowSt.five (h : RowSt w b n D) {j : Nat} (hj : j < n) {a0 a1 a2 a3 a4 : Value} (hD : D j = [a0, a1, a2, a3, a4]) : w.cell? ⟨b, j * 5, none⟩ = some a0 ∧ w.cell? ⟨b, j * 5 + 1, none⟩ = some a1 ∧ w.cell? ⟨b, j * 5 + 2, none⟩ = some a2 ∧ w.cell? ⟨b, j * 5 + 3, none⟩ = some a3 ∧ w.cell? ⟨b, j * 5 + 4, none⟩ = some a4 := by
  obtain ⟨cs, h1, h2⟩ := h
  have hk : ∀ k, k < 5 → ∀ a, (D j)[k]? = some a → w.cell? ⟨b, j * 5 + k, none⟩ = some a := fun k hk a ha => by
    obtain ⟨u, e1, e2⟩ := h2 j hj k hk
    rw [ha] at e2
    injection e2 with e2
    subst e2
    exact h1.cell e1
  rw [hD] at hk
  exact ⟨hk 0 (by omega) a0 rfl, hk 1 (by omega) a1 rfl, hk 2 (by omega) a2 rfl, hk 3 (by omega) a3 rfl, hk 4 (by omega) a4 rfl⟩
theorem RowSt.put (h : RowSt w b n D) {i : Nat} (hi : i < n) (a0 a1 a2 a3 a4 : Value) : RowSt (((((w.setCell ⟨b, i * 5, none⟩ a0).setCell ⟨b, i * 5 + 1, none⟩ a1).setCell ⟨b, i * 5 + 2, none⟩ a2).setCell ⟨b, i * 5 + 3, none⟩ a3).setCell ⟨b, i * 5 + 4, none⟩ a4) b n (fun j => if j = i then [a0, a1, a2, a3, a4] else D j) := by
  obtain ⟨cs, h1, h2⟩ := h
  refine ⟨_, ((((h1.put _ a0).put _ a1).put _ a2).put _ a3).put _ a4, fun j hj k hk => ?_⟩
  obtain ⟨u, e1, e2⟩ := h2 j hj k hk
  have hlt : ∀ k, k < 5 → i * 5 + k < cs.size := fun k hk => by
    obtain ⟨u, e1, -⟩ := h2 i hi k hk
    exact (Array.getElem?_eq_some_iff.1 e1).1
  have l0 := hlt 0 (by omega)
  have l1 := hlt 1 (by omega)
  have l2 := hlt 2 (by omega)
  have l3 := hlt 3 (by omega)
  have l4 := hlt 4 (by omega)
  dsimp only
  by_cases hji : j = i
  · subst hji
    rw [if_pos rfl]
    have hk5 : k = 0 ∨ k = 1 ∨ k = 2 ∨ k = 3 ∨ k = 4 := by omega
    rcases hk5 with rfl | rfl | rfl | rfl | rfl
    · refine ⟨a0, ?_, rfl⟩; simp [Array.getElem?_setIfInBounds]; omega
    · refine ⟨a1, ?_, rfl⟩; simp [Array.getElem?_setIfInBounds]; omega
    · refine ⟨a2, ?_, rfl⟩; simp [Array.getElem?_setIfInBounds]; omega
    · refine ⟨a3, ?_, rfl⟩; simp [Array.getElem?_setIfInBounds]; omega
    · refine ⟨a4, ?_, rfl⟩; simp [Array.getElem?_setIfInBounds]; omega
  · rw [if_neg hji]
    refine ⟨u, ?_, e2⟩
    rw [Array.getElem?_setIfInBounds_ne (by omega), Array.getElem?_setIfInBounds_ne (by omega), Array.getElem?_setIfInBounds_ne (by omega), Array.getElem?_setIfInBounds_ne (by omega), Array.getElem?_setIfInBounds_ne (by omega)]
    exact e1
theorem RowSt.mono (h : RowSt w b n D) {D' : Nat → List Value} (hD : ∀ j, j < n → D' j = D j) : RowSt w b n D' := by
  obtain ⟨cs, h1, h2⟩ := h
  exact ⟨cs, h1, fun j hj k hk => by rw [hD j hj]; exact h2 j hj k hk⟩
/-- The row read as a list. -/
theorem RowSt.rs (h : RowSt w b n D) (h5 : ∀ j, j < n → (D j).length = 5) {S : Nat → Prop} (hS : S b) : Rs w S (some ⟨b, 0, none⟩) ((List.range n).flatMap D) := by
  obtain ⟨cs, h1, h2⟩ := h
  intro i u hu
  refine ⟨b, 0, rfl, hS, ?_⟩
  have key : ∀ (m : Nat) , m ≤ n → ∀ i u, ((List.range m).flatMap D)[i]? = some u → i / 5 < m ∧ (D (i / 5))[i % 5]? = some u := by
    intro m
    induction m with
    | zero => intro _ i u hu; simp at hu
    | succ m ih =>
      intro hm i u hu
      have hl : ((List.range m).flatMap D).length = m * 5 := by
        have : ∀ m, m ≤ n → ((List.range m).flatMap D).length = m * 5 := by
          intro m
          induction m with
          | zero => intro _; rfl
          | succ m ih2 => intro hm2; rw [List.range_succ, List.flatMap_append, List.length_append, ih2 (by omega)]; simp [h5 m (by omega)]; omega
        exact this m (by omega)
      rw [List.range_succ, List.flatMap_append] at hu
      by_cases hi : i < m * 5
      · rw [List.getElem?_append_left (by omega)] at hu
        have := ih (by omega) i u hu
        exact ⟨by omega, this.2⟩
      · rw [List.getElem?_append_right (by omega), hl] at hu
        have hu2 : (D m)[i - m * 5]? = some u := by simpa using hu
        have hlt : i - m * 5 < 5 := by
          have := (List.getElem?_eq_some_iff.1 hu2).1
          rw [h5 m (by omega)] at this
          exact this
        have e1 : i / 5 = m := by omega
        have e2 : i % 5 = i - m * 5 := by omega
        exact ⟨by omega, by rw [e1, e2]; exact hu2⟩
  obtain ⟨hlt, hD⟩ := key n (Nat.le_refl _) i u hu
  obtain ⟨x, e1, e2⟩ := h2 (i / 5) hlt (i % 5) (by omega)
  rw [hD] at e2
  injection e2 with e2
  subst e2
  have e3 : i / 5 * 5 + i % 5 = i := by omega
  rw [e3] at e1
  rw [Nat.zero_add]
  exact h1.cell e1
end
theorem liesL_rangeJ {w : World} {S : Nat → Prop} {f : Nat → V} {D : Nat → List Value} : ∀ (n : Nat), (∀ j, j < n → Lies w S (f j) (D j)) → LiesL w S ((List.range n).map f) ((List.range n).flatMap D)
  | 0, _ => by rw [List.range_zero]; show LiesL w S [] []; rw [LiesL]
  | n + 1, h => by
    rw [List.range_succ, List.map_append, List.flatMap_append]
    have := LiesL.snoc (liesL_rangeJ n fun j hj => h j (by omega)) (h n (by omega))
    simpa using this
/-- make at values. -/
theorem made_values (n : Nat) (hn : n ≤ 1000000) : ∃ C : Array Value, (∀ W, (Instr.makeSlice 23 (.int .i64 (n : Int)) (.int .i64 (n : Int))).run Tryz.prog W = .ok (.slice (some ⟨W.heap.size, 0, none⟩) n n) (W.alloc (.cells C 25))) ∧
    ∀ j, j < n → ∀ k, k < 5 → ∃ u, C[j * 5 + k]? = some u ∧ ([.int .i64 0, .int .i64 0, .string ⟨#[]⟩, .slice none 0 0, .slice none 0 0] : List Value)[k]? = some u := by
  obtain ⟨i, hi, hz, hs, hb⟩ := infoV inf_val
  refine ⟨madeCells (Value.agg #[.int .i64 0, .int .i64 0, .string ⟨#[]⟩, .slice none 0 0, .slice none 0 0]).cells (n * 5), fun W => ?_, fun j hj k hk => ?_⟩
  · have := run_make W 23 25 i _ Tryz.underlying23 hi hz .i64 .i64 n n (by omega) (by omega) (by rw [hb]; omega) (by omega)
    rw [hs] at this
    simpa using this
  · have hk5 : k = 0 ∨ k = 1 ∨ k = 2 ∨ k = 3 ∨ k = 4 := by omega
    have hm : (j * 5 + k) % 5 = k := by omega
    have hlt : j * 5 + k < n * 5 := by omega
    rcases hk5 with rfl | rfl | rfl | rfl | rfl
    · exact ⟨.int .i64 0, by first | (simp [madeCells, Value.cells, hlt, hm, hj]; done) | (simp [madeCells, Value.cells, hlt, hm, hj]; omega), rfl⟩
    · exact ⟨.int .i64 0, by first | (simp [madeCells, Value.cells, hlt, hm, hj]; done) | (simp [madeCells, Value.cells, hlt, hm, hj]; omega), rfl⟩
    · exact ⟨.string ⟨#[]⟩, by first | (simp [madeCells, Value.cells, hlt, hm, hj]; done) | (simp [madeCells, Value.cells, hlt, hm, hj]; omega), rfl⟩
    · exact ⟨.slice none 0 0, by first | (simp [madeCells, Value.cells, hlt, hm, hj]; done) | (simp [madeCells, Value.cells, hlt, hm, hj]; omega), rfl⟩
    · exact ⟨.slice none 0 0, by first | (simp [madeCells, Value.cells, hlt, hm, hj]; done) | (simp [madeCells, Value.cells, hlt, hm, hj]; omega), rfl⟩
end Go.Proofs.YtfmpdcmedaiooaaGreatDoor

/- An object is known by what it holds at each key: the sorted members and those that were put one after another are the same object; plain. -/
import Derived.Test.YtgdnkankleoaoaaObjQ
set_option linter.unusedVariables false
set_option linter.unusedSimpArgs false
namespace Go.Proofs.Ytgdnkankleoaoaa
open Go.RowKit Go.Sort
abbrev PL := List (ByteArray × V)
def look : PL → ByteArray → Option V
  | [], _ => none
  | (y, v) :: r, k => if y = k then some v else look r k
def PAsc (ps : PL) : Prop := ps.Pairwise fun x y => scmp x.1 y.1 < 0
theorem look_none {ps : PL} {k : ByteArray} (h : ∀ p ∈ ps, p.1 ≠ k) : look ps k = none := by
  induction ps with
  | nil => rfl
  | cons p r ih =>
    obtain ⟨y, v⟩ := p
    rw [look, if_neg (h (y, v) (by simp))]
    exact ih fun q hq => h q (by simp [hq])
theorem scmp_ne {a b : ByteArray} (h : scmp a b < 0) : a ≠ b := by rintro rfl; rw [scmp_self] at h; omega
theorem canon : ∀ {a b : PL}, PAsc a → PAsc b → (∀ k, look a k = look b k) → a = b
  | [], [], _, _, _ => rfl
  | [], (y, v) :: r, _, _, h => by have := h y; simp [look] at this
  | (y, v) :: r, [], _, _, h => by have := h y; simp [look] at this
  | (x, u) :: q, (y, v) :: r, ha, hb, h => by
    obtain ⟨ha1, ha2⟩ := List.pairwise_cons.1 ha
    obtain ⟨hb1, hb2⟩ := List.pairwise_cons.1 hb
    have hxy : x = y := by
      have hr := scmp_range x y
      rcases hr with hr | hr | hr
      · have h1 := h x
        rw [look, if_pos rfl, look_none] at h1
        · cases h1
        · intro p hp
          rcases List.mem_cons.1 hp with rfl | hp
          · exact fun e => by subst e; rw [scmp_self] at hr; omega
          · exact fun e => by have := scmp_lt (show scmp x y < 0 by omega) (hb1 p hp); rw [e, scmp_self] at this; omega
      · exact (scmp_zero x y).1 hr
      · have hr2 := scmp_anti x y
        have h1 := h y
        rw [look_none] at h1
        · rw [look, if_pos rfl] at h1; cases h1
        · intro p hp
          rcases List.mem_cons.1 hp with rfl | hp
          · exact fun e => by simp only at e; subst e; rw [scmp_self] at hr; omega
          · exact fun e => by have := scmp_lt (show scmp y x < 0 by omega) (ha1 p hp); rw [e, scmp_self] at this; omega
    subst hxy
    have huv := h x
    rw [look, if_pos rfl, look, if_pos rfl] at huv
    injection huv with huv
    subst huv
    congr 1
    refine canon ha2 hb2 fun k => ?_
    have hk := h k
    rw [look, look] at hk
    by_cases e : x = k
    · subst e
      rw [look_none fun p hp => Ne.symm (scmp_ne (ha1 p hp)), look_none fun p hp => Ne.symm (scmp_ne (hb1 p hp))]
    · rw [if_neg e, if_neg e] at hk
      exact hk
/-- A member set. -/
def putP : PL → ByteArray → V → PL
  | [], k, x => [(k, x)]
  | (y, v) :: r, k, x => if scmp y k < 0 then (y, v) :: putP r k x else (k, x) :: (if y = k then r else (y, v) :: r)
theorem putP_mem {k : ByteArray} {x : V} : ∀ {ps : PL} {p : ByteArray × V}, p ∈ putP ps k x → p = (k, x) ∨ p ∈ ps
  | [], p, h => by simpa [putP] using h
  | (y, v) :: r, p, h => by
    rw [putP] at h
    split at h
    · rcases List.mem_cons.1 h with h | h
      · exact .inr (by simp [h])
      · rcases putP_mem h with h | h
        · exact .inl h
        · exact .inr (by simp [h])
    · rcases List.mem_cons.1 h with h | h
      · exact .inl h
      · split at h
        · exact .inr (by simp [h])
        · exact .inr h
theorem putP_asc {k : ByteArray} {x : V} : ∀ {ps : PL}, PAsc ps → PAsc (putP ps k x)
  | [], _ => by simp [putP, PAsc]
  | (y, v) :: r, h => by
    obtain ⟨h1, h2⟩ := List.pairwise_cons.1 h
    rw [putP]
    split
    · rename_i hy
      refine List.Pairwise.cons (fun p hp => ?_) (putP_asc h2)
      rcases putP_mem hp with rfl | hp
      · exact hy
      · exact h1 p hp
    · rename_i hy
      have hr := scmp_anti y k
      split
      · rename_i e
        subst e
        exact List.Pairwise.cons h1 h2
      · rename_i e
        have hky : scmp k y < 0 := by
          have := mt (scmp_zero y k).1 e
          omega
        refine List.Pairwise.cons (fun p hp => ?_) h
        rcases List.mem_cons.1 hp with rfl | hp
        · exact hky
        · exact scmp_lt hky (h1 p hp)
theorem putP_look {k : ByteArray} {x : V} (q : ByteArray) : ∀ {ps : PL}, PAsc ps → look (putP ps k x) q = if k = q then some x else look ps q
  | [], _ => by simp [putP, look]
  | (y, v) :: r, h => by
    obtain ⟨h1, h2⟩ := List.pairwise_cons.1 h
    rw [putP]
    split
    · rename_i hy
      rw [look, look, putP_look q h2]
      by_cases e : y = q
      · subst e
        rw [if_pos rfl, if_neg (Ne.symm (scmp_ne hy)), if_pos rfl]
      · rw [if_neg e, if_neg e]
    · rename_i hy
      rw [look]
      by_cases e : k = q
      · rw [if_pos e, if_pos e]
      · rw [if_neg e, if_neg e]
        split
        · rename_i e2
          subst e2
          rw [look, if_neg e]
        · rfl
/-- The last value of a key. -/
def lastV (ms : List Mb) (k : ByteArray) : Option V := ((ms.filter fun m => decide (m.key = k)).getLast?).map Mb.v
def putAll (ms : List Mb) : PL := ms.foldl (fun ps m => putP ps m.key m.v) []
theorem putAll_snoc (ms : List Mb) (m : Mb) : putAll (ms ++ [m]) = putP (putAll ms) m.key m.v := by simp [putAll]
theorem rev_ind {p : List Mb → Prop} (h0 : p []) (h1 : ∀ l m, p l → p (l ++ [m])) : ∀ l, p l := by
  intro l
  have : ∀ r : List Mb, p r.reverse := by
    intro r
    induction r with
    | nil => exact h0
    | cons m r ih => rw [List.reverse_cons]; exact h1 _ _ ih
  have := this l.reverse
  simpa using this
theorem putAll_asc : ∀ ms : List Mb, PAsc (putAll ms) :=
  rev_ind List.Pairwise.nil fun l m ih => by rw [putAll_snoc]; exact putP_asc ih
theorem putAll_look (k : ByteArray) : ∀ ms : List Mb, look (putAll ms) k = lastV ms k := by
  refine rev_ind rfl fun l m ih => ?_
  rw [putAll_snoc, putP_look k (putAll_asc l), ih]
  unfold lastV
  rw [List.filter_append]
  by_cases e : m.key = k
  · rw [if_pos e]; simp [e]
  · rw [if_neg e]; simp [e]
def pairs (ms : List Mb) : PL := ms.map fun m => (m.key, m.v)
/-- Weakly ascending members. -/
def WAsc (ms : List Mb) : Prop := ms.Pairwise fun x y => scmp x.key y.key ≤ 0
theorem srt_wasc (ms : List Mb) : WAsc (srt ms) := by
  refine List.pairwise_iff_getElem.2 fun i j hi hj hij => ?_
  exact srt_asc ms hij (List.getElem?_eq_getElem hi) (List.getElem?_eq_getElem hj)
theorem lastOf_asc : ∀ {l : List Mb}, WAsc l → PAsc (pairs (lastOf l))
  | [], _ => by simp [lastOf, pairs, PAsc]
  | [m], _ => by simp [lastOf, pairs, PAsc]
  | m :: x :: r, h => by
    obtain ⟨h1, h2⟩ := List.pairwise_cons.1 h
    by_cases e : x.key = m.key
    · rw [lastOf_same e]; exact lastOf_asc h2
    · rw [lastOf_keep e]
      refine List.Pairwise.cons (fun p hp => ?_) (lastOf_asc h2)
      obtain ⟨y, hy, rfl⟩ := List.mem_map.1 hp
      have hy := lastOf_mem hy
      show scmp m.key y.key < 0
      have h3 := h1 x (by simp)
      have h4 : scmp m.key x.key < 0 := by
        have := mt (scmp_zero m.key x.key).1 (Ne.symm e)
        omega
      rcases List.mem_cons.1 hy with rfl | hy
      · exact h4
      · exact scmp_lt_le h4 ((List.pairwise_cons.1 h2).1 y hy)
theorem lastOf_look (k : ByteArray) : ∀ {l : List Mb}, WAsc l → look (pairs (lastOf l)) k = lastV l k
  | [], _ => by simp [lastOf, pairs, look, lastV]
  | [m], _ => by
    unfold lastV
    by_cases e : m.key = k <;> simp [lastOf, pairs, look, e]
  | m :: x :: r, h => by
    obtain ⟨h1, h2⟩ := List.pairwise_cons.1 h
    by_cases e : x.key = m.key
    · rw [lastOf_same e, lastOf_look k h2]
      unfold lastV
      by_cases ek : m.key = k
      · rw [List.filter_cons_of_pos (a := m) (by simp [ek]), List.getLast?_cons]
        rw [List.filter_cons_of_pos (a := x) (by simp [e, ek]), List.getLast?_cons]
        simp
      · rw [List.filter_cons_of_neg (a := m) (by simp [ek])]
    · rw [lastOf_keep e]
      have hm : scmp m.key x.key < 0 := by
        have h3 := h1 x (by simp)
        have := mt (scmp_zero m.key x.key).1 (Ne.symm e)
        omega
      show (if m.key = k then some m.v else look (pairs (lastOf (x :: r))) k) = _
      rw [lastOf_look k h2]
      unfold lastV
      by_cases ek : m.key = k
      · rw [if_pos ek, List.filter_cons_of_pos (a := m) (by simp [ek])]
        have hn : (x :: r).filter (fun y => decide (y.key = k)) = [] := by
          refine List.filter_eq_nil_iff.2 fun y hy hk => ?_
          have hk : y.key = k := by simpa using hk
          have hly : scmp m.key y.key < 0 := by
            rcases List.mem_cons.1 hy with rfl | hy
            · exact hm
            · exact scmp_lt_le hm ((List.pairwise_cons.1 h2).1 y hy)
          rw [hk, ← ek, scmp_self] at hly
          omega
        rw [hn]
        rfl
      · rw [if_neg ek, List.filter_cons_of_neg (a := m) (by simp [ek])]
/-- Both ways of building an object. -/
theorem obj_both (ms : List Mb) : pairs (lastOf (srt ms)) = putAll ms := by
  refine canon (lastOf_asc (srt_wasc ms)) (putAll_asc ms) fun k => ?_
  rw [lastOf_look k (srt_wasc ms), putAll_look]
  unfold lastV
  rw [srt_filter]
def objL (ps : PL) : V := .mk 6 0 ⟨#[]⟩ (ps.map Prod.fst) (ps.map Prod.snd)
theorem objV_pairs (ms : List Mb) : objV ms = objL (pairs ms) := by
  unfold objV objL pairs
  rw [List.map_map, List.map_map]
  rfl
theorem obj_put (ms : List Mb) : objV (lastOf (srt ms)) = objL (putAll ms) := by rw [objV_pairs, obj_both]
theorem look_idx : ∀ (ps : PL) (k : ByteArray), look ps k = (idxOf (ps.map Prod.fst) k).bind fun i => (ps.map Prod.snd)[i]?
  | [], k => rfl
  | (y, v) :: r, k => by
    rw [look, List.map_cons, idxOf]
    by_cases e : y = k
    · rw [if_pos e, if_pos e]; rfl
    · rw [if_neg e, if_neg e, look_idx r k]
      cases idxOf (r.map Prod.fst) k <;> simp
end Go.Proofs.Ytgdnkankleoaoaa

/- What an object holds of its members: the last value of each key; as many members as there are keys; the same whatever the order of different keys; plain. -/
import Derived.Test.YtgdnkankleoaoaaRPut
set_option linter.unusedVariables false
set_option linter.unusedSimpArgs false
namespace Go.Proofs.Ytgdnkankleoaoaa
open Go.RowKit Go.Sort
theorem lastV_at {ms : List Mb} {L : Nat} {m : Mb} {k : ByteArray} (hm : ms[L]? = some m) (hk : m.key = k) (hq : ∀ q m', L < q → ms[q]? = some m' → m'.key ≠ k) : lastV ms k = some m.v := by
  obtain ⟨h1, h2⟩ := List.getElem?_eq_some_iff.1 hm
  have hs : ms = ms.take L ++ m :: ms.drop (L + 1) := by
    conv => lhs; rw [← List.take_append_drop L ms, List.drop_eq_getElem_cons h1, h2]
  unfold lastV
  rw [hs, List.filter_append, List.filter_cons_of_pos (by simp [hk])]
  have hn : (ms.drop (L + 1)).filter (fun y => decide (y.key = k)) = [] := by
    refine List.filter_eq_nil_iff.2 fun y hy hyk => ?_
    obtain ⟨j, hj⟩ := List.getElem?_of_mem hy
    rw [List.getElem?_drop] at hj
    exact hq _ y (by omega) hj (by simpa using hyk)
  rw [hn]
  simp
theorem lastV_none {ms : List Mb} {k : ByteArray} (h : ∀ m ∈ ms, m.key ≠ k) : lastV ms k = none := by
  unfold lastV
  rw [List.filter_eq_nil_iff.2 fun y hy hyk => h y hy (by simpa using hyk)]
  rfl
theorem lastV_some {ms : List Mb} {m : Mb} (h : m ∈ ms) : (lastV ms m.key).isSome = true := by
  unfold lastV
  have : m ∈ ms.filter (fun y => decide (y.key = m.key)) := List.mem_filter.2 ⟨h, by simp⟩
  cases hf : ms.filter (fun y => decide (y.key = m.key)) with
  | nil => rw [hf] at this; cases this
  | cons a r => simp [List.getLast?_cons]
theorem putP_grow {k : ByteArray} {x : V} : ∀ {ps : PL}, PAsc ps → (putP ps k x).length = ps.length + (if (look ps k).isSome = true then 0 else 1)
  | [], _ => by simp [putP, look]
  | (y, v) :: r, h => by
    obtain ⟨h1, h2⟩ := List.pairwise_cons.1 h
    rw [putP, look]
    split
    · rename_i hy
      rw [if_neg (scmp_ne hy), List.length_cons, putP_grow h2, List.length_cons]
      omega
    · rename_i hy
      by_cases e : y = k
      · rw [if_pos e, if_pos e]; simp
      · rw [if_neg e, if_neg e]
        have hky : scmp k y < 0 := by
          have := scmp_anti y k
          have := mt (scmp_zero y k).1 e
          omega
        have hn : look r k = none := look_none fun p hp => Ne.symm (scmp_ne (scmp_lt hky (h1 p hp)))
        rw [hn]
        simp
theorem putAll_grow (l : List Mb) (m : Mb) : (putAll (l ++ [m])).length = (putAll l).length + (if (lastV l m.key).isSome = true then 0 else 1) := by
  rw [putAll_snoc, putP_grow (putAll_asc l), putAll_look]
/-- No two members have one key. -/
def Dist (ms : List Mb) : Prop := ms.Pairwise fun x y => x.key ≠ y.key
theorem dist_len : ∀ ms : List Mb, Dist ms → (putAll ms).length = ms.length := by
  refine rev_ind (fun _ => rfl) fun l m ih h => ?_
  obtain ⟨h1, h2, h3⟩ := List.pairwise_append.1 h
  rw [putAll_grow, ih h1, lastV_none fun x hx => h3 x hx m (by simp)]
  simp
theorem dup_len : ∀ ms : List Mb, ¬ Dist ms → (putAll ms).length < ms.length := by
  refine rev_ind (fun h => absurd List.Pairwise.nil h) fun l m ih h => ?_
  rw [putAll_grow]
  have hl := putAll_len l
  by_cases hd : Dist l
  · have : ∃ x ∈ l, x.key = m.key := by
      apply Classical.byContradiction
      intro hc
      refine h (List.pairwise_append.2 ⟨hd, List.pairwise_singleton _ _, fun x hx y hy => ?_⟩)
      have hy : y = m := by simpa using hy
      subst hy
      exact fun e => hc ⟨x, hx, e⟩
    obtain ⟨x, hx, hxm⟩ := this
    have hs := lastV_some hx
    rw [hxm] at hs
    rw [hs, if_pos rfl]
    simp only [List.length_append, List.length_cons, List.length_nil]
    omega
  · have := ih hd
    simp only [List.length_append, List.length_cons, List.length_nil]
    split <;> omega
theorem dist_lastV {ms : List Mb} (h : Dist ms) {m : Mb} (hm : m ∈ ms) : lastV ms m.key = some m.v := by
  obtain ⟨L, hL⟩ := List.getElem?_of_mem hm
  refine lastV_at hL rfl fun q m' hq hm' e => ?_
  obtain ⟨h1, h2⟩ := List.getElem?_eq_some_iff.1 hL
  obtain ⟨h3, h4⟩ := List.getElem?_eq_some_iff.1 hm'
  have := List.pairwise_iff_getElem.1 h L q h1 h3 hq
  rw [h2, h4] at this
  exact this e.symm
/-- The members from s on, and then those before. -/
def rot (ms : List Mb) (s : Nat) : List Mb := ms.drop s ++ ms.take s
theorem rot_mem (ms : List Mb) (s : Nat) (m : Mb) : m ∈ rot ms s ↔ m ∈ ms := by
  unfold rot
  conv => rhs; rw [← List.take_append_drop s ms]
  simp only [List.mem_append]
  exact or_comm
theorem rot_dist {ms : List Mb} (h : Dist ms) (s : Nat) : Dist (rot ms s) := by
  rw [show ms = ms.take s ++ ms.drop s from (List.take_append_drop s ms).symm] at h
  obtain ⟨h1, h2, h3⟩ := List.pairwise_append.1 h
  exact List.pairwise_append.2 ⟨h2, h1, fun x hx y hy => Ne.symm (h3 y hy x hx)⟩
theorem rot_put {ms : List Mb} (h : Dist ms) (s : Nat) : putAll (rot ms s) = putAll ms := by
  refine canon (putAll_asc _) (putAll_asc _) fun k => ?_
  rw [putAll_look, putAll_look]
  by_cases hk : ∃ m ∈ ms, m.key = k
  · obtain ⟨m, hm, rfl⟩ := hk
    rw [dist_lastV h hm, dist_lastV (rot_dist h s) ((rot_mem ms s m).2 hm)]
  · have h1 : ∀ m ∈ ms, m.key ≠ k := fun m hm e => hk ⟨m, hm, e⟩
    rw [lastV_none h1, lastV_none fun m hm => h1 m ((rot_mem ms s m).1 hm)]
theorem rot_obj {ms : List Mb} (h : Dist ms) (s : Nat) : objR (rot ms s) = objR ms ∧ objE (rot ms s) = objE ms := by
  have e1 : ((rot ms s).map Mb.v).all valid = (ms.map Mb.v).all valid := by
    rw [Bool.eq_iff_iff, List.all_eq_true, List.all_eq_true]
    simp only [List.mem_map, rot_mem]
  have e2 : ((rot ms s).map Mb.key).all okS = (ms.map Mb.key).all okS := by
    rw [Bool.eq_iff_iff, List.all_eq_true, List.all_eq_true]
    simp only [List.mem_map, rot_mem]
  unfold objR objE
  rw [e1, e2, obj_put, obj_put, rot_put h]
  exact ⟨rfl, rfl⟩
/-- An object that was made. -/
theorem objE_ok {ms : List Mb} (h : objE ms = 0) : objR ms = objL (putAll ms) ∧ valid (objL (putAll ms)) = true := by
  unfold objE at h
  unfold objR
  rw [obj_put] at h ⊢
  by_cases h1 : (ms.map Mb.v).all valid = true
  · rw [if_pos h1] at h ⊢
    by_cases h2 : (ms.map Mb.key).all okS = true
    · rw [if_pos h2] at h ⊢
      unfold finE at h
      unfold finV
      by_cases h3 : valid (objL (putAll ms)) = true
      · rw [if_pos h3]; exact ⟨rfl, h3⟩
      · rw [if_neg h3] at h; exact absurd h (by decide)
    · rw [if_neg h2] at h; exact absurd h (by decide)
  · rw [if_neg h1] at h; exact absurd h (by decide)
theorem get_made {ms : List Mb} (h : valid (objL (putAll ms)) = true) (k : ByteArray) : getP (objL (putAll ms)) k = lastV ms k := by
  rw [← putAll_look, look_idx]
  unfold objL at h ⊢
  unfold getP
  simp only []
  rw [if_pos ⟨h, trivial⟩]
/-- Members i and all before it have a key of their own; of member i, as far as k. -/
def DBefore (ms : List Mb) (i : Nat) : Prop := ∀ p x, p < i → ms[p]? = some x → ∀ q y, p < q → ms[q]? = some y → y.key ≠ x.key
theorem dbefore_all {ms : List Mb} : DBefore ms ms.length ↔ Dist ms := by
  unfold Dist
  rw [List.pairwise_iff_getElem]
  constructor
  · intro h i j hi hj hij e
    exact h i _ hi (List.getElem?_eq_getElem hi) j _ hij (List.getElem?_eq_getElem hj) e.symm
  · intro h p x hp hx q y hpq hy e
    obtain ⟨h1, rfl⟩ := List.getElem?_eq_some_iff.1 hx
    obtain ⟨h2, rfl⟩ := List.getElem?_eq_some_iff.1 hy
    exact h p q h1 h2 hpq e.symm
/-- From behind i to before k no member has the key of i. -/
def DFrom (ms : List Mb) (i k : Nat) : Prop := ∀ x, ms[i]? = some x → ∀ q y, i < q → q < k → ms[q]? = some y → y.key ≠ x.key
theorem dbefore_step {ms : List Mb} {i n : Nat} (hn : ms.length ≤ n) : (DBefore ms i ∧ DFrom ms i n) ↔ DBefore ms (i + 1) := by
  constructor
  · rintro ⟨h1, h2⟩ p x hp hx q y hpq hy
    rcases Nat.lt_or_ge p i with h | h
    · exact h1 p x h hx q y hpq hy
    · have : p = i := by omega
      subst this
      exact h2 x hx q y hpq (by have := (List.getElem?_eq_some_iff.1 hy).1; omega) hy
  · intro h
    exact ⟨fun p x hp hx q y hpq hy => h p x (by omega) hx q y hpq hy, fun x hx q y hiq hqn hy => h i x (by omega) hx q y hiq hy⟩
theorem dfrom_step {ms : List Mb} {i k : Nat} {x y : Mb} (hx : ms[i]? = some x) (hy : ms[k]? = some y) (hik : i < k) : DFrom ms i (k + 1) ↔ (DFrom ms i k ∧ y.key ≠ x.key) := by
  constructor
  · intro h
    exact ⟨fun z hz q u h1 h2 h3 => h z hz q u h1 (by omega) h3, h x hx k y hik (by omega) hy⟩
  · rintro ⟨h1, h2⟩ z hz q u h3 h4 h5
    rcases Nat.lt_or_ge q k with h | h
    · exact h1 z hz q u h3 h h5
    · have : q = k := by omega
      subst this
      rw [hx] at hz; rw [hy] at h5
      injection hz with hz; injection h5 with h5
      subst hz; subst h5
      exact h2
/-- L is the last before k with the key of i. -/
def LastIn (ms : List Mb) (i k L : Nat) : Prop := i ≤ L ∧ L < k ∧ (∀ x y, ms[i]? = some x → ms[L]? = some y → y.key = x.key) ∧ ∀ x, ms[i]? = some x → ∀ q y, L < q → q < k → ms[q]? = some y → y.key ≠ x.key
theorem lastIn_start (ms : List Mb) (i : Nat) : LastIn ms i (i + 1) i := ⟨Nat.le_refl _, Nat.lt_succ_self _, fun x y hx hy => by rw [hx] at hy; injection hy with hy; rw [hy], fun x hx q y h1 h2 => by omega⟩
theorem lastIn_same {ms : List Mb} {i k L : Nat} {x y : Mb} (h : LastIn ms i k L) (hx : ms[i]? = some x) (hy : ms[k]? = some y) (e : y.key = x.key) (hik : i < k) : LastIn ms i (k + 1) k :=
  ⟨by omega, Nat.lt_succ_self _, fun a b ha hb => by rw [hx] at ha; rw [hy] at hb; injection ha with ha; injection hb with hb; rw [← ha, ← hb]; exact e, fun a ha q b h1 h2 => by omega⟩
theorem lastIn_other {ms : List Mb} {i k L : Nat} {x y : Mb} (h : LastIn ms i k L) (hx : ms[i]? = some x) (hy : ms[k]? = some y) (e : y.key ≠ x.key) : LastIn ms i (k + 1) L := by
  obtain ⟨h1, h2, h3, h4⟩ := h
  refine ⟨h1, by omega, h3, fun a ha q b hq hqk hb => ?_⟩
  rcases Nat.lt_or_ge q k with hlt | hge
  · exact h4 a ha q b hq hlt hb
  · have : q = k := by omega
    subst this
    rw [hx] at ha; rw [hy] at hb
    injection ha with ha; injection hb with hb
    subst ha; subst hb
    exact e
theorem lastIn_value {ms : List Mb} {i L n : Nat} {x m : Mb} (h : LastIn ms i n L) (hn : ms.length ≤ n) (hx : ms[i]? = some x) (hm : ms[L]? = some m) : lastV ms x.key = some m.v :=
  lastV_at hm (h.2.2.1 x m hx hm) fun q m' hq hm' => h.2.2.2 x hx q m' hq (by have := (List.getElem?_eq_some_iff.1 hm').1; omega) hm'
end Go.Proofs.Ytgdnkankleoaoaa

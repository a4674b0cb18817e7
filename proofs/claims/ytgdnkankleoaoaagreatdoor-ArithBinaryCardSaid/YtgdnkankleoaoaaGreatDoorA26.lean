/- What object leaves of its members, plain; the row of members in memory. Nothing of the program is named here. Objects as lists of members: what is found at a key, what Put leaves, and that both ways of building an object agree; plain. An object is known by what it holds at each key: the sorted members and those that were put one after another are the same object; plain. -/
import Derived.Shelf.SlSortCmp.InsertionK
import Derived.Lib.SlBuf
import Derived.Test.YtgdnkankleoaoaaGreatDoorA25
import Derived.Test.YtgdnkankleoaoaaGreatDoorA18
import Derived.Test.YtgdnkankleoaoaaGreatDoorA16
set_option linter.unusedVariables false
set_option linter.unusedSimpArgs false
namespace Go.Proofs.YtgdnkankleoaoaaGreatDoor
open Go.RowKit Go.Sort
/-- Of several neighbours with one key, the last. -/
def lastOf : List Mb → List Mb
  | [] => []
  | m :: r => match r with
    | [] => [m]
    | x :: _ => if x.key = m.key then lastOf r else m :: lastOf r
theorem lastOf_same {m x : Mb} {r : List Mb} (h : x.key = m.key) : lastOf (m :: x :: r) = lastOf (x :: r) := by rw [lastOf]; simp only [if_pos h]
theorem lastOf_keep {m x : Mb} {r : List Mb} (h : ¬ x.key = m.key) : lastOf (m :: x :: r) = m :: lastOf (x :: r) := by rw [lastOf]; simp only [if_neg h]
theorem lastOf_mem {m : Mb} : ∀ {l : List Mb}, m ∈ lastOf l → m ∈ l
  | [], h => by simp [lastOf] at h
  | [x], h => by simpa [lastOf] using h
  | x :: y :: r, h => by
    by_cases hk : y.key = x.key
    · rw [lastOf_same hk] at h
      exact List.mem_cons_of_mem _ (lastOf_mem h)
    · rw [lastOf_keep hk] at h
      rcases List.mem_cons.1 h with rfl | h
      · exact List.mem_cons_self
      · exact List.mem_cons_of_mem _ (lastOf_mem h)
/-- The object of members. -/
def objV (ms : List Mb) : V := .mk 6 0 ⟨#[]⟩ (ms.map Mb.key) (ms.map Mb.v)
/-- A member and where its value's cells are read. -/
structure MAt (w : World) (S : Nat → Prop) (B : Option Addr) (i : Nat) (m : Mb) : Prop where
  at_ : ∃ b o, B = some ⟨b, o, none⟩ ∧ S b ∧ w.cell? ⟨b, o + i * 5, none⟩ = some (.int .i64 m.k) ∧ w.cell? ⟨b, o + i * 5 + 1, none⟩ = some (.int .i64 m.n) ∧ w.cell? ⟨b, o + i * 5 + 2, none⟩ = some (.string m.s) ∧
    w.cell? ⟨b, o + i * 5 + 3, none⟩ = some (.slice m.A m.ks.length m.a) ∧ w.cell? ⟨b, o + i * 5 + 4, none⟩ = some (.slice m.B m.es.length m.b)
  lies : Lies w S m.v m.five
/-- The row after i members were stored. -/
def part (ms : List Mb) (i : Nat) : Array Mb := (ms.take i ++ List.replicate (ms.length - i) default).toArray
theorem part_size (ms : List Mb) {i : Nat} (h : i ≤ ms.length) : (part ms i).size = ms.length := by simp [part]; omega
theorem part_all (ms : List Mb) : part ms ms.length = ms.toArray := by simp [part]
theorem part_step (ms : List Mb) {i : Nat} {m : Mb} (hm : ms[i]? = some m) : flatK Mb.six 6 (part ms (i + 1)) = setMany (flatK Mb.six 6 (part ms i)) (i * 6) m.six := by
  obtain ⟨hi, hm'⟩ := List.getElem?_eq_some_iff.1 hm
  have s1 := part_size ms (Nat.le_of_lt hi)
  have s2 := part_size ms (show i + 1 ≤ ms.length from hi)
  refine ext_get! (by simp [s1, s2]) fun t ht => ?_
  have ht1 : t < (part ms (i + 1)).size * 6 := by simpa using ht
  have ht2 : t < (part ms i).size * 6 := by rw [s2] at ht1; rw [s1]; exact ht1
  rw [get_setMany _ _ _ t (by simpa using ht2), get_flatK _ _ _ t ht1, get_flatK _ _ _ t ht2, six_len]
  have hq : t / 6 < ms.length := by rw [s1] at ht2; omega
  by_cases h : i * 6 ≤ t ∧ t < i * 6 + 6
  · rw [if_pos h]
    have e1 : t / 6 = i := by omega
    have e2 : t % 6 = t - i * 6 := by omega
    have : (part ms (i + 1))[i]! = m := by
      unfold part
      rw [getElem!_def, List.getElem?_toArray, List.getElem?_append_left (by simp; omega), List.getElem?_take_of_lt (by omega), hm]
    rw [e1, e2, this]
  · rw [if_neg h]
    have e1 : t / 6 ≠ i := by omega
    have : (part ms (i + 1))[t / 6]! = (part ms i)[t / 6]! := by
      unfold part
      rw [getElem!_def, getElem!_def, List.getElem?_toArray, List.getElem?_toArray]
      by_cases hlt : t / 6 < i
      · rw [List.getElem?_append_left (by simp; omega), List.getElem?_append_left (by simp; omega), List.getElem?_take_of_lt (by omega), List.getElem?_take_of_lt (by omega)]
      · rw [List.getElem?_append_right (by simp; omega), List.getElem?_append_right (by simp; omega), List.getElem?_replicate, List.getElem?_replicate, if_pos (by simp; omega), if_pos (by simp; omega)]
    rw [this]
theorem part_holds {w : World} {g i : Nat} {ms : List Mb} {m : Mb} (h : HoldsK Mb.six 6 w g 0 (part ms i)) (hm : ms[i]? = some m) : HoldsK Mb.six 6 (w.setCells g (0 + i * 6) m.six) g 0 (part ms (i + 1)) := by
  obtain ⟨hi, -⟩ := List.getElem?_eq_some_iff.1 hm
  unfold HoldsK
  rw [part_step ms hm]
  exact Go.Proofs.holds_setCells_c h (i * 6) m.six (by rw [size_flatK, part_size ms (Nat.le_of_lt hi), six_len]; omega)
/-- A member's six cells. -/
theorem holds_six {w : World} {g : Nat} {d : Array Mb} (h : HoldsK Mb.six 6 w g 0 d) {i : Nat} {m : Mb} (hm : d[i]? = some m) :
    w.cell? ⟨g, i * 6, none⟩ = some (.string m.key) ∧ w.cell? ⟨g, i * 6 + 1, none⟩ = some (.int .i64 m.k) ∧ w.cell? ⟨g, i * 6 + 2, none⟩ = some (.int .i64 m.n) ∧ w.cell? ⟨g, i * 6 + 3, none⟩ = some (.string m.s) ∧
      w.cell? ⟨g, i * 6 + 4, none⟩ = some (.slice m.A m.ks.length m.a) ∧ w.cell? ⟨g, i * 6 + 5, none⟩ = some (.slice m.B m.es.length m.b) := by
  obtain ⟨hi, hm'⟩ := Array.getElem?_eq_some_iff.1 hm
  have e : d[i]! = m := by rw [getElem!_def, hm]
  have c := fun (c : Nat) (hc : c < 6) => (HoldsK.cell h hi hc).1
  rw [e] at c
  simp only [Nat.zero_add] at c
  exact ⟨c 0 (by omega), c 1 (by omega), c 2 (by omega), c 3 (by omega), c 4 (by omega), c 5 (by omega)⟩
theorem holds_free {w : World} {g : Nat} {d : Array Mb} (h : HoldsK Mb.six 6 w g 0 d) {i : Nat} (hi : i < d.size) :
    w.frozen? ⟨g, i * 6, none⟩ = false ∧ w.frozen? ⟨g, i * 6 + 1, none⟩ = false ∧ w.frozen? ⟨g, i * 6 + 2, none⟩ = false ∧ w.frozen? ⟨g, i * 6 + 3, none⟩ = false ∧ w.frozen? ⟨g, i * 6 + 4, none⟩ = false ∧ w.frozen? ⟨g, i * 6 + 5, none⟩ = false := by
  have c := fun (c : Nat) (hc : c < 6) => (HoldsK.cell h hi hc).2
  simp only [Nat.zero_add] at c
  exact ⟨c 0 (by omega), c 1 (by omega), c 2 (by omega), c 3 (by omega), c 4 (by omega), c 5 (by omega)⟩
/-- Behind a sort nothing but its row has turned. -/
theorem sort_grown {w : World} {g n : Nat} {d : Array Mb} {os : Array Obj} : w.grownBy (sortWorldK Mb.six 6 w g 0 n d os) (some g) := by
  unfold sortWorldK putRowK
  refine ⟨rfl, rfl, rfl, by simp, fun k hk hne => ?_⟩
  rw [heap_grow_old _ _ (by simpa using hk)]
  have : g ≠ k := fun e => hne (by rw [e])
  simp [putRow, mapBlock, Sort.ahead, Array.getElem?_modify, this]
theorem holds_below {w w' : World} {g : Nat} {d : Array Mb} (h : HoldsK Mb.six 6 w g 0 d) (hb : w'.heap[g]? = w.heap[g]?) : HoldsK Mb.six 6 w' g 0 d := by
  intro j hj
  have := h j hj
  refine ⟨(World.cell?_of_block hb).trans this.1, ?_⟩
  have e : w'.frozen? ⟨g, 0 + j, none⟩ = w.frozen? ⟨g, 0 + j, none⟩ := by simp only [World.frozen?, hb]
  rw [e]
  exact this.2
end Go.Proofs.YtgdnkankleoaoaaGreatDoor
namespace Go.Proofs.YtgdnkankleoaoaaGreatDoor
open Go.RowKit Go.Sort
/-- The offset of the first key that is the one that is sought. -/
def idxOf : List ByteArray → ByteArray → Option Nat
  | [], _ => none
  | x :: r, k => if x = k then some 0 else (idxOf r k).map (· + 1)
theorem idxOf_some : ∀ {ks : List ByteArray} {k : ByteArray} {i : Nat}, idxOf ks k = some i → ks[i]? = some k ∧ ∀ j, j < i → ks[j]? ≠ some k
  | [], k, i, h => by simp [idxOf] at h
  | x :: r, k, i, h => by
    rw [idxOf] at h
    by_cases hx : x = k
    · rw [if_pos hx] at h
      injection h with h
      subst h; subst hx
      exact ⟨rfl, fun j hj => by omega⟩
    · rw [if_neg hx] at h
      cases hr : idxOf r k with
      | none => rw [hr] at h; simp at h
      | some j =>
        rw [hr] at h
        simp at h
        subst h
        obtain ⟨h1, h2⟩ := idxOf_some hr
        refine ⟨by simpa using h1, fun q hq => ?_⟩
        cases q with
        | zero => simp; exact hx
        | succ q => simpa using h2 q (by omega)
theorem idxOf_drop {ks : List ByteArray} {k : ByteArray} {i : Nat} (h : ∀ j, j < i → ks[j]? ≠ some k) : idxOf ks k = (idxOf (ks.drop i) k).map (· + i) := by
  induction i generalizing ks with
  | zero => simp
  | succ i ih =>
    cases ks with
    | nil => simp [idxOf]
    | cons x r =>
      have hx : ¬ x = k := by simpa using h 0 (by omega)
      rw [idxOf, if_neg hx, List.drop_succ_cons, ih (ks := r) (fun j hj => by simpa using h (j + 1) (by omega)), Option.map_map]
      congr 1
theorem idxOf_hit {ks : List ByteArray} {k : ByteArray} {i : Nat} (h : ∀ j, j < i → ks[j]? ≠ some k) (hi : ks[i]? = some k) : idxOf ks k = some i := by
  obtain ⟨h1, h2⟩ := List.getElem?_eq_some_iff.1 hi
  rw [idxOf_drop h, List.drop_eq_getElem_cons h1, idxOf, if_pos h2]
  simp
theorem idxOf_miss {ks : List ByteArray} {k : ByteArray} (h : ∀ j : Nat, ks[j]? ≠ some k) : idxOf ks k = none := by
  cases hx : idxOf ks k with
  | none => rfl
  | some i => exact absurd (idxOf_some hx).1 (h i)
/-- Strictly ascending keys. -/
def Asc (ks : List ByteArray) : Prop := ks.Pairwise fun x y => scmp x y < 0
theorem asc_of_ok : ∀ {ks : List ByteArray} {p : Option ByteArray}, keysOk p ks = true → Asc ks ∧ ∀ q, p = some q → ∀ x ∈ ks, scmp q x < 0
  | [], p, h => ⟨List.Pairwise.nil, fun q _ x hx => by simp at hx⟩
  | x :: r, p, h => by
    have hr : keysOk (some x) r = true := by
      cases p with
      | none => rw [keysOk] at h; simp at h; exact h.2
      | some q => rw [keysOk] at h; simp at h; exact h.2.2
    obtain ⟨h1, h2⟩ := asc_of_ok hr
    refine ⟨List.Pairwise.cons (h2 x rfl) h1, ?_⟩
    rintro q rfl y hy
    rw [keysOk] at h
    simp at h
    rcases List.mem_cons.1 hy with rfl | hy
    · exact h.2.1
    · exact scmp_lt h.2.1 (h2 x rfl y hy)
theorem split_asc {key : ByteArray} : ∀ {ks : List ByteArray}, Asc ks → ∃ m, m ≤ ks.length ∧ (∀ (t : Nat) x, ks[t]? = some x → t < m → scmp x key < 0) ∧ (∀ (t : Nat) x, ks[t]? = some x → m ≤ t → ¬ scmp x key < 0)
  | [], _ => ⟨0, Nat.zero_le _, fun t x h => by simp at h, fun t x h => by simp at h⟩
  | y :: r, h => by
    obtain ⟨hy, hr⟩ := List.pairwise_cons.1 h
    obtain ⟨m, h0, h1, h2⟩ := split_asc (key := key) hr
    by_cases hk : scmp y key < 0
    · refine ⟨m + 1, by simp; omega, fun t x ht hm => ?_, fun t x ht hm => ?_⟩
      · cases t with
        | zero => simp at ht; subst ht; exact hk
        | succ t => exact h1 t x (by simpa using ht) (by omega)
      · cases t with
        | zero => omega
        | succ t => exact h2 t x (by simpa using ht) (by omega)
    · refine ⟨0, Nat.zero_le _, fun t x ht hm => by omega, fun t x ht hm hx => ?_⟩
      cases t with
      | zero => simp at ht; subst ht; exact hk hx
      | succ t => exact hk (scmp_lt (hy x (List.mem_of_getElem? (by simpa using ht))) hx)
theorem asc_at {ks : List ByteArray} (h : Asc ks) {i j : Nat} {x y : ByteArray} (hij : i < j) (hx : ks[i]? = some x) (hy : ks[j]? = some y) : scmp x y < 0 := by
  obtain ⟨h1, rfl⟩ := List.getElem?_eq_some_iff.1 hx
  obtain ⟨h2, rfl⟩ := List.getElem?_eq_some_iff.1 hy
  exact List.pairwise_iff_getElem.1 h i j h1 h2 hij
/-- Where the halving stands, the key is found or nowhere. -/
theorem idxOf_split {ks : List ByteArray} {key : ByteArray} (h : Asc ks) {m : Nat} (h1 : ∀ (t : Nat) x, ks[t]? = some x → t < m → scmp x key < 0) (h2 : ∀ (t : Nat) x, ks[t]? = some x → m ≤ t → ¬ scmp x key < 0) :
    idxOf ks key = if ks[m]? = some key then some m else none := by
  have hlt : ∀ j, j < m → ks[j]? ≠ some key := fun j hj hc => by
    have := h1 j key hc hj
    rw [scmp_self] at this
    omega
  split
  · rename_i hm
    exact idxOf_hit hlt hm
  · rename_i hm
    refine idxOf_miss fun j hj => ?_
    rcases Nat.lt_trichotomy j m with h3 | rfl | h3
    · exact hlt j h3 hj
    · exact hm hj
    · have hjl := (List.getElem?_eq_some_iff.1 hj).1
      have hmx := List.getElem?_eq_getElem (show m < ks.length by omega)
      exact h2 m _ hmx (Nat.le_refl _) (asc_at h h3 hmx hj)
/-- What Get finds. -/
def getP (v : V) (key : ByteArray) : Option V := match v with | .mk k _ _ ks es => if valid v = true ∧ k = 6 then (idxOf ks key).bind fun i => es[i]? else none
theorem valid_keys {k n : Int} {s : ByteArray} {ks : List ByteArray} {es : List V} (h : valid (.mk k n s ks es) = true) : Asc ks ∧ (k = 6 → ks.length = es.length) ∧ ks.length ≤ 1024 ∧ es.length ≤ 1024 := by
  have h := ((valid_iff _).1 h).1
  have h2 := h
  rw [good] at h2
  simp only [Bool.and_eq_true, decide_eq_true_eq] at h2
  obtain ⟨h3, _, _, h5, h4, _⟩ := h2
  obtain ⟨f0, f1, f2, f3⟩ := fits_facts h3
  refine ⟨(asc_of_ok h4).1, f3, ?_, h5⟩
  rcases f1 with f1 | f1 | f1
  · have := f2 f1; omega
  · have := f3 f1; omega
  · omega
end Go.Proofs.YtgdnkankleoaoaaGreatDoor
namespace Go.Proofs.YtgdnkankleoaoaaGreatDoor
open Go.RowKit Go.Sort
abbrev PL := List (ByteArray × V)
def look : PL → ByteArray → Option V
  | [], _ => none
  | (y, v) :: r, k => if y = k then some v else look r k
def PAsc (ps : PL) : Prop := ps.Pairwise fun x y => scmp x.1 y.1 < 0
theorem look_none {ps : PL} {k : ByteArray} (h : ∀ p ∈ ps, p.1 ≠ k) : look ps k = none := by
  induction ps with
  | nil => rfl
  | cons p r ih =>
    obtain ⟨y, v⟩ := p
    rw [look, if_neg (h (y, v) (by simp))]
    exact ih fun q hq => h q (by simp [hq])
theorem scmp_ne {a b : ByteArray} (h : scmp a b < 0) : a ≠ b := by rintro rfl; rw [scmp_self] at h; omega
theorem canon : ∀ {a b : PL}, PAsc a → PAsc b → (∀ k, look a k = look b k) → a = b
  | [], [], _, _, _ => rfl
  | [], (y, v) :: r, _, _, h => by have := h y; simp [look] at this
  | (y, v) :: r, [], _, _, h => by have := h y; simp [look] at this
  | (x, u) :: q, (y, v) :: r, ha, hb, h => by
    obtain ⟨ha1, ha2⟩ := List.pairwise_cons.1 ha
    obtain ⟨hb1, hb2⟩ := List.pairwise_cons.1 hb
    have hxy : x = y := by
      have hr := scmp_range x y
      rcases hr with hr | hr | hr
      · have h1 := h x
        rw [look, if_pos rfl, look_none] at h1
        · cases h1
        · intro p hp
          rcases List.mem_cons.1 hp with rfl | hp
          · exact fun e => by subst e; rw [scmp_self] at hr; omega
          · exact fun e => by have := scmp_lt (show scmp x y < 0 by omega) (hb1 p hp); rw [e, scmp_self] at this; omega
      · exact (scmp_zero x y).1 hr
      · have hr2 := scmp_anti x y
        have h1 := h y
        rw [look_none] at h1
        · rw [look, if_pos rfl] at h1; cases h1
        · intro p hp
          rcases List.mem_cons.1 hp with rfl | hp
          · exact fun e => by simp only at e; subst e; rw [scmp_self] at hr; omega
          · exact fun e => by have := scmp_lt (show scmp y x < 0 by omega) (ha1 p hp); rw [e, scmp_self] at this; omega
    subst hxy
    have huv := h x
    rw [look, if_pos rfl, look, if_pos rfl] at huv
    injection huv with huv
    subst huv
    congr 1
    refine canon ha2 hb2 fun k => ?_
    have hk := h k
    rw [look, look] at hk
    by_cases e : x = k
    · subst e
      rw [look_none fun p hp => Ne.symm (scmp_ne (ha1 p hp)), look_none fun p hp => Ne.symm (scmp_ne (hb1 p hp))]
    · rw [if_neg e, if_neg e] at hk
      exact hk
/-- A member set. -/
def putP : PL → ByteArray → V → PL
  | [], k, x => [(k, x)]
  | (y, v) :: r, k, x => if scmp y k < 0 then (y, v) :: putP r k x else (k, x) :: (if y = k then r else (y, v) :: r)
theorem putP_mem {k : ByteArray} {x : V} : ∀ {ps : PL} {p : ByteArray × V}, p ∈ putP ps k x → p = (k, x) ∨ p ∈ ps
  | [], p, h => by simpa [putP] using h
  | (y, v) :: r, p, h => by
    rw [putP] at h
    split at h
    · rcases List.mem_cons.1 h with h | h
      · exact .inr (by simp [h])
      · rcases putP_mem h with h | h
        · exact .inl h
        · exact .inr (by simp [h])
    · rcases List.mem_cons.1 h with h | h
      · exact .inl h
      · split at h
        · exact .inr (by simp [h])
        · exact .inr h
theorem putP_asc {k : ByteArray} {x : V} : ∀ {ps : PL}, PAsc ps → PAsc (putP ps k x)
  | [], _ => by simp [putP, PAsc]
  | (y, v) :: r, h => by
    obtain ⟨h1, h2⟩ := List.pairwise_cons.1 h
    rw [putP]
    split
    · rename_i hy
      refine List.Pairwise.cons (fun p hp => ?_) (putP_asc h2)
      rcases putP_mem hp with rfl | hp
      · exact hy
      · exact h1 p hp
    · rename_i hy
      have hr := scmp_anti y k
      split
      · rename_i e
        subst e
        exact List.Pairwise.cons h1 h2
      · rename_i e
        have hky : scmp k y < 0 := by
          have := mt (scmp_zero y k).1 e
          omega
        refine List.Pairwise.cons (fun p hp => ?_) h
        rcases List.mem_cons.1 hp with rfl | hp
        · exact hky
        · exact scmp_lt hky (h1 p hp)
theorem putP_look {k : ByteArray} {x : V} (q : ByteArray) : ∀ {ps : PL}, PAsc ps → look (putP ps k x) q = if k = q then some x else look ps q
  | [], _ => by simp [putP, look]
  | (y, v) :: r, h => by
    obtain ⟨h1, h2⟩ := List.pairwise_cons.1 h
    rw [putP]
    split
    · rename_i hy
      rw [look, look, putP_look q h2]
      by_cases e : y = q
      · subst e
        rw [if_pos rfl, if_neg (Ne.symm (scmp_ne hy)), if_pos rfl]
      · rw [if_neg e, if_neg e]
    · rename_i hy
      rw [look]
      by_cases e : k = q
      · rw [if_pos e, if_pos e]
      · rw [if_neg e, if_neg e]
        split
        · rename_i e2
          subst e2
          rw [look, if_neg e]
        · rfl
/-- The last value of a key. -/
def lastV (ms : List Mb) (k : ByteArray) : Option V := ((ms.filter fun m => decide (m.key = k)).getLast?).map Mb.v
def putAll (ms : List Mb) : PL := ms.foldl (fun ps m => putP ps m.key m.v) []
theorem putAll_snoc (ms : List Mb) (m : Mb) : putAll (ms ++ [m]) = putP (putAll ms) m.key m.v := by simp [putAll]
theorem rev_ind {p : List Mb → Prop} (h0 : p []) (h1 : ∀ l m, p l → p (l ++ [m])) : ∀ l, p l := by
  intro l
  have : ∀ r : List Mb, p r.reverse := by
    intro r
    induction r with
    | nil => exact h0
    | cons m r ih => rw [List.reverse_cons]; exact h1 _ _ ih
  have := this l.reverse
  simpa using this
theorem putAll_asc : ∀ ms : List Mb, PAsc (putAll ms) :=
  rev_ind List.Pairwise.nil fun l m ih => by rw [putAll_snoc]; exact putP_asc ih
theorem putAll_look (k : ByteArray) : ∀ ms : List Mb, look (putAll ms) k = lastV ms k := by
  refine rev_ind rfl fun l m ih => ?_
  rw [putAll_snoc, putP_look k (putAll_asc l), ih]
  unfold lastV
  rw [List.filter_append]
  by_cases e : m.key = k
  · rw [if_pos e]; simp [e]
  · rw [if_neg e]; simp [e]
def pairs (ms : List Mb) : PL := ms.map fun m => (m.key, m.v)
/-- Weakly ascending members. -/
def WAsc (ms : List Mb) : Prop := ms.Pairwise fun x y => scmp x.key y.key ≤ 0
theorem srt_wasc (ms : List Mb) : WAsc (srt ms) := by
  refine List.pairwise_iff_getElem.2 fun i j hi hj hij => ?_
  exact srt_asc ms hij (List.getElem?_eq_getElem hi) (List.getElem?_eq_getElem hj)
theorem lastOf_asc : ∀ {l : List Mb}, WAsc l → PAsc (pairs (lastOf l))
  | [], _ => by simp [lastOf, pairs, PAsc]
  | [m], _ => by simp [lastOf, pairs, PAsc]
  | m :: x :: r, h => by
    obtain ⟨h1, h2⟩ := List.pairwise_cons.1 h
    by_cases e : x.key = m.key
    · rw [lastOf_same e]; exact lastOf_asc h2
    · rw [lastOf_keep e]
      refine List.Pairwise.cons (fun p hp => ?_) (lastOf_asc h2)
      obtain ⟨y, hy, rfl⟩ := List.mem_map.1 hp
      have hy := lastOf_mem hy
      show scmp m.key y.key < 0
      have h3 := h1 x (by simp)
      have h4 : scmp m.key x.key < 0 := by
        have := mt (scmp_zero m.key x.key).1 (Ne.symm e)
        omega
      rcases List.mem_cons.1 hy with rfl | hy
      · exact h4
      · exact scmp_lt_le h4 ((List.pairwise_cons.1 h2).1 y hy)
theorem lastOf_look (k : ByteArray) : ∀ {l : List Mb}, WAsc l → look (pairs (lastOf l)) k = lastV l k
  | [], _ => by simp [lastOf, pairs, look, lastV]
  | [m], _ => by
    unfold lastV
    by_cases e : m.key = k <;> simp [lastOf, pairs, look, e]
  | m :: x :: r, h => by
    obtain ⟨h1, h2⟩ := List.pairwise_cons.1 h
    by_cases e : x.key = m.key
    · rw [lastOf_same e, lastOf_look k h2]
      unfold lastV
      by_cases ek : m.key = k
      · rw [List.filter_cons_of_pos (a := m) (by simp [ek]), List.getLast?_cons]
        rw [List.filter_cons_of_pos (a := x) (by simp [e, ek]), List.getLast?_cons]
        simp
      · rw [List.filter_cons_of_neg (a := m) (by simp [ek])]
    · rw [lastOf_keep e]
      have hm : scmp m.key x.key < 0 := by
        have h3 := h1 x (by simp)
        have := mt (scmp_zero m.key x.key).1 (Ne.symm e)
        omega
      show (if m.key = k then some m.v else look (pairs (lastOf (x :: r))) k) = _
      rw [lastOf_look k h2]
      unfold lastV
      by_cases ek : m.key = k
      · rw [if_pos ek, List.filter_cons_of_pos (a := m) (by simp [ek])]
        have hn : (x :: r).filter (fun y => decide (y.key = k)) = [] := by
          refine List.filter_eq_nil_iff.2 fun y hy hk => ?_
          have hk : y.key = k := by simpa using hk
          have hly : scmp m.key y.key < 0 := by
            rcases List.mem_cons.1 hy with rfl | hy
            · exact hm
            · exact scmp_lt_le hm ((List.pairwise_cons.1 h2).1 y hy)
          rw [hk, ← ek, scmp_self] at hly
          omega
        rw [hn]
        rfl
      · rw [if_neg ek, List.filter_cons_of_neg (a := m) (by simp [ek])]
/-- Both ways of building an object. -/
theorem obj_both (ms : List Mb) : pairs (lastOf (srt ms)) = putAll ms := by
  refine canon (lastOf_asc (srt_wasc ms)) (putAll_asc ms) fun k => ?_
  rw [lastOf_look k (srt_wasc ms), putAll_look]
  unfold lastV
  rw [srt_filter]
def objL (ps : PL) : V := .mk 6 0 ⟨#[]⟩ (ps.map Prod.fst) (ps.map Prod.snd)
theorem objV_pairs (ms : List Mb) : objV ms = objL (pairs ms) := by
  unfold objV objL pairs
  rw [List.map_map, List.map_map]
  rfl
theorem obj_put (ms : List Mb) : objV (lastOf (srt ms)) = objL (putAll ms) := by rw [objV_pairs, obj_both]
end Go.Proofs.YtgdnkankleoaoaaGreatDoor

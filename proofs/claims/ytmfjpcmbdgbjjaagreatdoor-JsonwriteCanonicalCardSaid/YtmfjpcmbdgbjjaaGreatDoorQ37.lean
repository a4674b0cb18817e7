/- The program's Arr. What object leaves of its members, plain; the row of members in memory. Nothing of the program is named here. -/
import Derived.Test.YtmfjpcmbdgbjjaaGreatDoorQ19
import Derived.Shelf.SlSortCmp.InsertionK
import Derived.Lib.SlBuf
import Derived.Test.YtmfjpcmbdgbjjaaGreatDoorQ36
set_option linter.unusedVariables false
set_option linter.unusedSimpArgs false
namespace Go.Proofs.YtmfjpcmbdgbjjaaGreatDoor
open Go.RowKit
/-- A slice of values that came in. -/
structure SliceV (w : World) (A : Option Addr) (c : Nat) (l : List V) (xs : List Value) : Prop where
  row : Row w A l xs
  nil : A = none → c = 0
  le : l.length ≤ c
  cap : c ≤ maxLen
  lim : l.length ≤ 140737488355328
theorem SliceV.lies {w : World} {A : Option Addr} {c : Nat} {l : List V} {xs : List Value} (h : SliceV w A c l xs) : Lies w (· < w.heap.size) (arrV l) [.int .i64 5, .int .i64 0, .string ⟨#[]⟩, .slice none 0 0, .slice A l.length c] := by
  unfold arrV
  rw [Lies]
  exact ⟨⟨Nat.zero_le _, by simp, Nat.zero_le _, h.lim⟩, none, 0, A, c, xs, rfl, fun _ => rfl, h.nil, ⟨Nat.le_refl _, Nat.zero_le _⟩, ⟨h.le, h.cap⟩, Rs.nil _ _ _, h.row.rs, h.row.lies⟩
theorem SliceV.below {w w' : World} {A : Option Addr} {c : Nat} {l : List V} {xs : List Value} (h : SliceV w A c l xs) (hb : Below w.heap.size w w') : SliceV w' A c l xs := ⟨h.row.below hb, h.nil, h.le, h.cap, h.lim⟩
end Go.Proofs.YtmfjpcmbdgbjjaaGreatDoor
namespace Go.Proofs.YtmfjpcmbdgbjjaaGreatDoor
open Go.RowKit Go.Sort
/-- Of several neighbours with one key, the last. -/
def lastOf : List Mb → List Mb
  | [] => []
  | m :: r => match r with
    | [] => [m]
    | x :: _ => if x.key = m.key then lastOf r else m :: lastOf r
theorem lastOf_same {m x : Mb} {r : List Mb} (h : x.key = m.key) : lastOf (m :: x :: r) = lastOf (x :: r) := by rw [lastOf]; simp only [if_pos h]
theorem lastOf_keep {m x : Mb} {r : List Mb} (h : ¬ x.key = m.key) : lastOf (m :: x :: r) = m :: lastOf (x :: r) := by rw [lastOf]; simp only [if_neg h]
theorem lastOf_mem {m : Mb} : ∀ {l : List Mb}, m ∈ lastOf l → m ∈ l
  | [], h => by simp [lastOf] at h
  | [x], h => by simpa [lastOf] using h
  | x :: y :: r, h => by
    by_cases hk : y.key = x.key
    · rw [lastOf_same hk] at h
      exact List.mem_cons_of_mem _ (lastOf_mem h)
    · rw [lastOf_keep hk] at h
      rcases List.mem_cons.1 h with rfl | h
      · exact List.mem_cons_self
      · exact List.mem_cons_of_mem _ (lastOf_mem h)
/-- The object of members. -/
def objV (ms : List Mb) : V := .mk 6 0 ⟨#[]⟩ (ms.map Mb.key) (ms.map Mb.v)
/-- A member and where its value's cells are read. -/
structure MAt (w : World) (S : Nat → Prop) (B : Option Addr) (i : Nat) (m : Mb) : Prop where
  at_ : ∃ b o, B = some ⟨b, o, none⟩ ∧ S b ∧ w.cell? ⟨b, o + i * 5, none⟩ = some (.int .i64 m.k) ∧ w.cell? ⟨b, o + i * 5 + 1, none⟩ = some (.int .i64 m.n) ∧ w.cell? ⟨b, o + i * 5 + 2, none⟩ = some (.string m.s) ∧
    w.cell? ⟨b, o + i * 5 + 3, none⟩ = some (.slice m.A m.ks.length m.a) ∧ w.cell? ⟨b, o + i * 5 + 4, none⟩ = some (.slice m.B m.es.length m.b)
  lies : Lies w S m.v m.five
/-- The row after i members were stored. -/
def part (ms : List Mb) (i : Nat) : Array Mb := (ms.take i ++ List.replicate (ms.length - i) default).toArray
theorem part_size (ms : List Mb) {i : Nat} (h : i ≤ ms.length) : (part ms i).size = ms.length := by simp [part]; omega
theorem part_all (ms : List Mb) : part ms ms.length = ms.toArray := by simp [part]
theorem part_step (ms : List Mb) {i : Nat} {m : Mb} (hm : ms[i]? = some m) : flatK Mb.six 6 (part ms (i + 1)) = setMany (flatK Mb.six 6 (part ms i)) (i * 6) m.six := by
  obtain ⟨hi, hm'⟩ := List.getElem?_eq_some_iff.1 hm
  have s1 := part_size ms (Nat.le_of_lt hi)
  have s2 := part_size ms (show i + 1 ≤ ms.length from hi)
  refine ext_get! (by simp [s1, s2]) fun t ht => ?_
  have ht1 : t < (part ms (i + 1)).size * 6 := by simpa using ht
  have ht2 : t < (part ms i).size * 6 := by rw [s2] at ht1; rw [s1]; exact ht1
  rw [get_setMany _ _ _ t (by simpa using ht2), get_flatK _ _ _ t ht1, get_flatK _ _ _ t ht2, six_len]
  have hq : t / 6 < ms.length := by rw [s1] at ht2; omega
  by_cases h : i * 6 ≤ t ∧ t < i * 6 + 6
  · rw [if_pos h]
    have e1 : t / 6 = i := by omega
    have e2 : t % 6 = t - i * 6 := by omega
    have : (part ms (i + 1))[i]! = m := by
      unfold part
      rw [getElem!_def, List.getElem?_toArray, List.getElem?_append_left (by simp; omega), List.getElem?_take_of_lt (by omega), hm]
    rw [e1, e2, this]
  · rw [if_neg h]
    have e1 : t / 6 ≠ i := by omega
    have : (part ms (i + 1))[t / 6]! = (part ms i)[t / 6]! := by
      unfold part
      rw [getElem!_def, getElem!_def, List.getElem?_toArray, List.getElem?_toArray]
      by_cases hlt : t / 6 < i
      · rw [List.getElem?_append_left (by simp; omega), List.getElem?_append_left (by simp; omega), List.getElem?_take_of_lt (by omega), List.getElem?_take_of_lt (by omega)]
      · rw [List.getElem?_append_right (by simp; omega), List.getElem?_append_right (by simp; omega), List.getElem?_replicate, List.getElem?_replicate, if_pos (by simp; omega), if_pos (by simp; omega)]
    rw [this]
theorem part_holds {w : World} {g i : Nat} {ms : List Mb} {m : Mb} (h : HoldsK Mb.six 6 w g 0 (part ms i)) (hm : ms[i]? = some m) : HoldsK Mb.six 6 (w.setCells g (0 + i * 6) m.six) g 0 (part ms (i + 1)) := by
  obtain ⟨hi, -⟩ := List.getElem?_eq_some_iff.1 hm
  unfold HoldsK
  rw [part_step ms hm]
  exact Go.Proofs.holds_setCells_c h (i * 6) m.six (by rw [size_flatK, part_size ms (Nat.le_of_lt hi), six_len]; omega)
/-- A member's six cells. -/
theorem holds_six {w : World} {g : Nat} {d : Array Mb} (h : HoldsK Mb.six 6 w g 0 d) {i : Nat} {m : Mb} (hm : d[i]? = some m) :
    w.cell? ⟨g, i * 6, none⟩ = some (.string m.key) ∧ w.cell? ⟨g, i * 6 + 1, none⟩ = some (.int .i64 m.k) ∧ w.cell? ⟨g, i * 6 + 2, none⟩ = some (.int .i64 m.n) ∧ w.cell? ⟨g, i * 6 + 3, none⟩ = some (.string m.s) ∧
      w.cell? ⟨g, i * 6 + 4, none⟩ = some (.slice m.A m.ks.length m.a) ∧ w.cell? ⟨g, i * 6 + 5, none⟩ = some (.slice m.B m.es.length m.b) := by
  obtain ⟨hi, hm'⟩ := Array.getElem?_eq_some_iff.1 hm
  have e : d[i]! = m := by rw [getElem!_def, hm]
  have c := fun (c : Nat) (hc : c < 6) => (HoldsK.cell h hi hc).1
  rw [e] at c
  simp only [Nat.zero_add] at c
  exact ⟨c 0 (by omega), c 1 (by omega), c 2 (by omega), c 3 (by omega), c 4 (by omega), c 5 (by omega)⟩
theorem holds_free {w : World} {g : Nat} {d : Array Mb} (h : HoldsK Mb.six 6 w g 0 d) {i : Nat} (hi : i < d.size) :
    w.frozen? ⟨g, i * 6, none⟩ = false ∧ w.frozen? ⟨g, i * 6 + 1, none⟩ = false ∧ w.frozen? ⟨g, i * 6 + 2, none⟩ = false ∧ w.frozen? ⟨g, i * 6 + 3, none⟩ = false ∧ w.frozen? ⟨g, i * 6 + 4, none⟩ = false ∧ w.frozen? ⟨g, i * 6 + 5, none⟩ = false := by
  have c := fun (c : Nat) (hc : c < 6) => (HoldsK.cell h hi hc).2
  simp only [Nat.zero_add] at c
  exact ⟨c 0 (by omega), c 1 (by omega), c 2 (by omega), c 3 (by omega), c 4 (by omega), c 5 (by omega)⟩
/-- Behind a sort nothing but its row has turned. -/
theorem sort_grown {w : World} {g n : Nat} {d : Array Mb} {os : Array Obj} : w.grownBy (sortWorldK Mb.six 6 w g 0 n d os) (some g) := by
  unfold sortWorldK putRowK
  refine ⟨rfl, rfl, rfl, by simp, fun k hk hne => ?_⟩
  rw [heap_grow_old _ _ (by simpa using hk)]
  have : g ≠ k := fun e => hne (by rw [e])
  simp [putRow, mapBlock, Sort.ahead, Array.getElem?_modify, this]
theorem holds_below {w w' : World} {g : Nat} {d : Array Mb} (h : HoldsK Mb.six 6 w g 0 d) (hb : w'.heap[g]? = w.heap[g]?) : HoldsK Mb.six 6 w' g 0 d := by
  intro j hj
  have := h j hj
  refine ⟨(World.cell?_of_block hb).trans this.1, ?_⟩
  have e : w'.frozen? ⟨g, 0 + j, none⟩ = w.frozen? ⟨g, 0 + j, none⟩ := by simp only [World.frozen?, hb]
  rw [e]
  exact this.2
end Go.Proofs.YtmfjpcmbdgbjjaaGreatDoor

/- ValueLimits answers true for every three ints. -/
import Derived.Test.YtgdnkankleoaoaaLimP
import Derived.Test.YtgdnkankleoaoaaG3
import Derived.Deep.OwnRows
set_option linter.unusedVariables false
set_option linter.unusedSimpArgs false
namespace Go.Proofs.Ytgdnkankleoaoaa
open Go.RowKit Go.Sort
theorem mod_fix' (x n : Int) (hn : 0 < n) : (if x.tmod n < 0 then x.tmod n + n else x.tmod n) = x % n := by
  have h1 := Int.tmod_add_mul_tdiv x n
  have h2 := Int.lt_tmod_of_pos x hn
  have h3 := Int.tmod_lt_of_pos x hn
  split
  · rename_i h
    have : (x.tmod n + n) % n = x % n := by
      conv => rhs; rw [← h1]
      simp
    rw [← this, Int.emod_eq_of_lt (by omega) (by omega)]
  · rename_i h
    have : (x.tmod n) % n = x % n := by
      conv => rhs; rw [← h1]
      simp
    rw [← this, Int.emod_eq_of_lt (by omega) (by omega)]
set_option maxHeartbeats 400000 in
theorem kmod_any (x n : Int) (hn : 0 < n) (hn2 : n ≤ 4611686018427387903) (w : World) :
    Calls Try.prog 12 #[.int .i64 x, .int .i64 n] w fun e w' => e = .returned (.int .i64 (x % n)) ∧ w = w' := by
  have hf := Lib.hid (mod_fix' x n hn)
  have hb : Hid (-n < x.tmod n ∧ x.tmod n < n) := Lib.hid (by
    have h1 := Int.lt_tmod_of_pos x hn
    have h2 := Int.tmod_lt_of_pos x hn
    exact ⟨h1, h2⟩)
  have hne : (n == 0) = false := by simp; omega
  have hne1 : n ≠ 0 := by omega
  obtain ⟨hb1, hb2⟩ := hb.out
  by_cases hs : x.tmod n < 0
  · have he : Hid (x.tmod n + n = x % n) := Lib.hid (by rw [← hf.out, if_pos hs])
    go_enter Try.func12, Try.ntmps12
    go_wp2
    go_ret
    exact ⟨ret_int he.out, rfl⟩
  · have he : Hid (x.tmod n = x % n) := Lib.hid (by rw [← hf.out, if_neg hs])
    go_enter Try.func12, Try.ntmps12
    go_wp2
    go_ret
    exact ⟨ret_int he.out, rfl⟩
/-- Mod as a number of its own. -/
theorem kmod_nat (x : Int) (n : Nat) (hn : 0 < n) (hn2 : n ≤ 1000000) : ∃ d : Nat, d < n ∧ ∀ w, Calls Try.prog 12 #[.int .i64 x, .int .i64 (n : Int)] w fun e w' => e = .returned (.int .i64 (d : Int)) ∧ w = w' := by
  have h1 := Int.emod_nonneg x (b := (n : Int)) (by omega)
  have h2 := Int.emod_lt_of_pos x (b := (n : Int)) (by omega)
  refine ⟨(x % n).toNat, by omega, fun w => ?_⟩
  rw [Int.toNat_of_nonneg h1]
  exact kmod_any x n (by omega) (by omega) w
/-- The state of the loop that nests. -/
structure NSt (w0 : World) (i : Nat) (w : World) : Prop where
  below : Below w0.heap.size w0 w
  box : ∃ cs : List Value, Box w w0.heap.size 28 cs.toArray ∧ Lies w (fun b => w0.heap.size < b ∧ b < w.heap.size) (nest i) cs
/-- So many nulls as cells. -/
def zl : Nat → List Value
  | 0 => []
  | n + 1 => [.int .i64 0, .int .i64 0, .string ⟨#[]⟩, .slice none 0 0, .slice none 0 0] ++ zl n
theorem zl_lies (w : World) (S : Nat → Prop) : ∀ n, LiesL w S (List.replicate n vnull) (zl n)
  | 0 => by rw [List.replicate_zero, LiesL]; rfl
  | n + 1 => by
    rw [List.replicate_succ, LiesL]
    exact ⟨_, _, rfl, lies_null _ _, zl_lies w S n⟩
/-- The bytes of which the first i are written. -/
def xf (i : Nat) (j : Nat) : Value := if j < i then .int .u8 120 else .int .u8 0
theorem xf_made {w : World} {b n : Nat} (h : w.rowIs b 5 n (fun _ => .int .u8 0)) : w.rowIs b 5 n (xf 0) := h.congr fun i _ => by unfold xf; rw [if_neg (by omega)]
theorem xf_step {w : World} {b n i : Nat} (h : w.rowIs b 5 n (xf i)) : (w.setCell ⟨b, i, none⟩ (.int .u8 120)).rowIs b 5 n (xf (i + 1)) :=
  (h.set i (.int .u8 120)).congr fun j _ => by
    unfold xf
    by_cases e : j = i
    · rw [if_pos e, if_pos (by omega)]
    · rw [if_neg e]
      by_cases h : j < i
      · rw [if_pos h, if_pos (by omega)]
      · rw [if_neg h, if_neg (by omega)]
theorem NSt.step {w0 w : World} {i : Nat} {u0 u1 u2 u3 u4 : Value} (hbel : Below w0.heap.size w0 w) (hb : Box w w0.heap.size 28 #[u0, u1, u2, u3, u4]) (hl : Lies w (fun b => w0.heap.size < b ∧ b < w.heap.size) (nest i) [u0, u1, u2, u3, u4]) :
    NSt w0 (i + 1) ((((((w.setCell ⟨w0.heap.size, 0, none⟩ (.int .i64 5)).setCell ⟨w0.heap.size, 1, none⟩ (.int .i64 0)).setCell ⟨w0.heap.size, 2, none⟩ (.string ⟨#[]⟩)).setCell ⟨w0.heap.size, 3, none⟩ (.slice none 0 0)).setCell ⟨w0.heap.size, 4, none⟩ (.slice (some ⟨w.heap.size, 0, none⟩) 1 1)).alloc (.cells #[u0, u1, u2, u3, u4] 28)) := by
  have hlt := hb.lt
  obtain ⟨w', hw'⟩ : ∃ W, W = (((((w.setCell ⟨w0.heap.size, 0, none⟩ (.int .i64 5)).setCell ⟨w0.heap.size, 1, none⟩ (.int .i64 0)).setCell ⟨w0.heap.size, 2, none⟩ (.string ⟨#[]⟩)).setCell ⟨w0.heap.size, 3, none⟩ (.slice none 0 0)).setCell ⟨w0.heap.size, 4, none⟩ (.slice (some ⟨w.heap.size, 0, none⟩) 1 1)) := ⟨_, rfl⟩
  have hsz : w'.heap.size = w.heap.size := by rw [hw']; simp [World.setCell]
  have hbox : Box w' w0.heap.size 28 #[.int .i64 5, .int .i64 0, .string ⟨#[]⟩, .slice none 0 0, .slice (some ⟨w.heap.size, 0, none⟩) 1 1] := by
    rw [hw']
    exact ((((hb.put 0 (.int .i64 5)).put 1 (.int .i64 0)).put 2 (.string ⟨#[]⟩)).put 3 (.slice none 0 0)).put 4 (.slice (some ⟨w.heap.size, 0, none⟩) 1 1)
  have hbel' : Below w0.heap.size w0 w' := by
    rw [hw']
    exact ((((hbel.setCell (by simp) _).setCell (by simp) _).setCell (by simp) _).setCell (by simp) _).setCell (by simp) _
  have hkeep : ∀ b, w0.heap.size < b → w'.heap[b]? = w.heap[b]? := by
    intro b hb
    rw [hw', Below.heap_setCell _ _ _ _ (by simp; omega), Below.heap_setCell _ _ _ _ (by simp; omega), Below.heap_setCell _ _ _ _ (by simp; omega), Below.heap_setCell _ _ _ _ (by simp; omega), Below.heap_setCell _ _ _ _ (by simp; omega)]
  rw [← hw']
  clear hw'
  have hnew : Box (w'.alloc (.cells #[u0, u1, u2, u3, u4] 28)) w.heap.size 28 #[u0, u1, u2, u3, u4] := by
    have := Box.laid w' 28 #[u0, u1, u2, u3, u4]
    rw [hsz] at this
    exact this
  refine ⟨chain hbel' (below1 _ _), [.int .i64 5, .int .i64 0, .string ⟨#[]⟩, .slice none 0 0, .slice (some ⟨w.heap.size, 0, none⟩) 1 1], hbox.alloc _, ?_⟩
  rw [nest, Lies]
  refine ⟨⟨Nat.zero_le _, by simp, Nat.zero_le _, by simp⟩, none, 0, some ⟨w.heap.size, 0, none⟩, 1, [u0, u1, u2, u3, u4], rfl, fun _ => rfl, (fun h => by cases h), ⟨Nat.le_refl _, Nat.zero_le _⟩, ⟨Nat.le_refl _, by unfold maxLen; decide⟩, Rs.nil _ _ _, ?_, ?_⟩
  · exact rs_box (cs := [u0, u1, u2, u3, u4]) hnew ⟨hlt, by simp; omega⟩
  · rw [LiesL]
    refine ⟨[u0, u1, u2, u3, u4], [], by simp, ?_, by rw [LiesL]⟩
    refine hl.move fun b hb => ⟨⟨hb.1, by have := hb.2; simp; omega⟩, ?_⟩
    rw [Below.heap_alloc _ _ _ (by rw [hsz]; exact hb.2), hkeep b hb.1]
/-- The state of the loop that writes the bytes. -/
structure TSt (w5 : World) (E B i : Nat) (w : World) : Prop where
  below : Below w5.heap.size w5 w
  arr : Box w w5.heap.size 28 (zl E).toArray
  box : Box w (w5.heap.size + 1) 28 #[.int .i64 5, .int .i64 0, .string ⟨#[]⟩, .slice none 0 0, .slice (some ⟨w5.heap.size, 0, none⟩) E E]
  row : w.rowIs (w5.heap.size + 2) 5 B (xf i)
theorem TSt.start (w5 : World) (E B : Nat) : TSt w5 E B 0 (((w5.alloc (.cells (zl E).toArray 28)).alloc (.cells #[.int .i64 5, .int .i64 0, .string ⟨#[]⟩, .slice none 0 0, .slice (some ⟨w5.heap.size, 0, none⟩) E E] 28)).alloc (.cells (madeCells #[.int .u8 0] B) 5)) := by
  have e1 : (w5.alloc (.cells (zl E).toArray 28)).heap.size = w5.heap.size + 1 := by simp
  have h1 := Box.laid (w5.alloc (.cells (zl E).toArray 28)) 28 #[.int .i64 5, .int .i64 0, .string ⟨#[]⟩, .slice none 0 0, .slice (some ⟨w5.heap.size, 0, none⟩) E E]
  have h2 := World.rowIs_made ((w5.alloc (.cells (zl E).toArray 28)).alloc (.cells #[.int .i64 5, .int .i64 0, .string ⟨#[]⟩, .slice none 0 0, .slice (some ⟨w5.heap.size, 0, none⟩) E E] 28)) (.int .u8 0) B 5
  rw [e1] at h1
  have e2 : ((w5.alloc (.cells (zl E).toArray 28)).alloc (.cells #[.int .i64 5, .int .i64 0, .string ⟨#[]⟩, .slice none 0 0, .slice (some ⟨w5.heap.size, 0, none⟩) E E] 28)).heap.size = w5.heap.size + 2 := by simp
  rw [e2] at h2
  exact ⟨chain (below2 _ _ _) (below1 _ _), ((Box.laid _ _ _).alloc _).alloc _, h1.alloc _, xf_made h2⟩
theorem TSt.step {w5 w : World} {E B i : Nat} (h : TSt w5 E B i w) : TSt w5 E B (i + 1) (w.setCell ⟨w5.heap.size + 2, i, none⟩ (.int .u8 120)) :=
  ⟨h.below.setCell (by simp) _, h.arr.far (by simp) _, h.box.far (by simp) _, xf_step h.row⟩
theorem TSt.lies {w5 w : World} {E B i : Nat} (h : TSt w5 E B i w) (hE : E ≤ 2000) : Lies w (· < w.heap.size) (nulls E) [.int .i64 5, .int .i64 0, .string ⟨#[]⟩, .slice none 0 0, .slice (some ⟨w5.heap.size, 0, none⟩) E E] := by
  unfold nulls arrV
  rw [Lies]
  refine ⟨⟨Nat.zero_le _, by simp, Nat.zero_le _, by simp; omega⟩, none, 0, some ⟨w5.heap.size, 0, none⟩, E, zl E, by simp, fun _ => rfl, (fun h => by cases h), ⟨Nat.le_refl _, Nat.zero_le _⟩, ⟨by simp, by unfold maxLen; omega⟩, Rs.nil _ _ _, rs_box h.arr h.arr.lt, zl_lies _ _ _⟩
end Go.Proofs.Ytgdnkankleoaoaa

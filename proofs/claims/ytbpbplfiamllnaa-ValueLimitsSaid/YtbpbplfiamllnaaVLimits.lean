/- ValueLimits answers true for every three ints. -/
import Derived.Test.YtbpbplfiamllnaaLimP
import Derived.Test.YtbpbplfiamllnaaAwake
import Derived.Deep.OwnRows
set_option linter.unusedVariables false
set_option linter.unusedSimpArgs false
namespace Go.Proofs.Ytbpbplfiamllnaa
open Go.RowKit Go.Sort
theorem mod_fix' (x n : Int) (hn : 0 < n) : (if x.tmod n < 0 then x.tmod n + n else x.tmod n) = x % n := by
  have h1 := Int.tmod_add_mul_tdiv x n
  have h2 := Int.lt_tmod_of_pos x hn
  have h3 := Int.tmod_lt_of_pos x hn
  split
  · rename_i h
    have : (x.tmod n + n) % n = x % n := by
      conv => rhs; rw [← h1]
      simp
    rw [← this, Int.emod_eq_of_lt (by omega) (by omega)]
  · rename_i h
    have : (x.tmod n) % n = x % n := by
      conv => rhs; rw [← h1]
      simp
    rw [← this, Int.emod_eq_of_lt (by omega) (by omega)]
set_option maxHeartbeats 400000 in
theorem kmod_any (x n : Int) (hn : 0 < n) (hn2 : n ≤ 4611686018427387903) (w : World) :
    Calls Try.prog 40 #[.int .i64 x, .int .i64 n] w fun e w' => e = .returned (.int .i64 (x % n)) ∧ w = w' := by
  have hf := Lib.hid (mod_fix' x n hn)
  have hb : Hid (-n < x.tmod n ∧ x.tmod n < n) := Lib.hid (by
    have h1 := Int.lt_tmod_of_pos x hn
    have h2 := Int.tmod_lt_of_pos x hn
    exact ⟨h1, h2⟩)
  have hne : (n == 0) = false := by simp; omega
  have hne1 : n ≠ 0 := by omega
  obtain ⟨hb1, hb2⟩ := hb.out
  by_cases hs : x.tmod n < 0
  · have he : Hid (x.tmod n + n = x % n) := Lib.hid (by rw [← hf.out, if_pos hs])
    go_enter Try.func40, Try.ntmps40
    go_wp2
    go_ret
    exact ⟨ret_int he.out, rfl⟩
  · have he : Hid (x.tmod n = x % n) := Lib.hid (by rw [← hf.out, if_neg hs])
    go_enter Try.func40, Try.ntmps40
    go_wp2
    go_ret
    exact ⟨ret_int he.out, rfl⟩
/-- Mod as a number of its own. -/
theorem kmod_nat (x : Int) (n : Nat) (hn : 0 < n) (hn2 : n ≤ 1000000) : ∃ d : Nat, d < n ∧ ∀ w, Calls Try.prog 40 #[.int .i64 x, .int .i64 (n : Int)] w fun e w' => e = .returned (.int .i64 (d : Int)) ∧ w = w' := by
  have h1 := Int.emod_nonneg x (b := (n : Int)) (by omega)
  have h2 := Int.emod_lt_of_pos x (b := (n : Int)) (by omega)
  refine ⟨(x % n).toNat, by omega, fun w => ?_⟩
  rw [Int.toNat_of_nonneg h1]
  exact kmod_any x n (by omega) (by omega) w
/-- The state of the loop that nests. -/
structure NSt (w0 : World) (i : Nat) (w : World) : Prop where
  below : Below w0.heap.size w0 w
  box : ∃ cs : List Value, Box w w0.heap.size 25 cs.toArray ∧ Lies w (fun b => w0.heap.size < b ∧ b < w.heap.size) (nest i) cs
/-- So many nulls as cells. -/
def zl : Nat → List Value
  | 0 => []
  | n + 1 => [.int .i64 0, .int .i64 0, .string ⟨#[]⟩, .slice none 0 0, .slice none 0 0] ++ zl n
theorem zl_len : ∀ n, (zl n).length = n * 5
  | 0 => rfl
  | n + 1 => by rw [zl, List.length_append, zl_len n]; simp; omega
theorem zl_lies (w : World) (S : Nat → Prop) : ∀ n, LiesL w S (List.replicate n vnull) (zl n)
  | 0 => by rw [List.replicate_zero, LiesL]; rfl
  | n + 1 => by
    rw [List.replicate_succ, LiesL]
    exact ⟨_, _, rfl, lies_null _ _, zl_lies w S n⟩
theorem zl_get : ∀ (n j : Nat), j < n * 5 → (zl n)[j]? = ([Value.int .i64 0, .int .i64 0, .string ⟨#[]⟩, .slice none 0 0, .slice none 0 0] : List Value)[j % 5]?
  | 0, j, h => by omega
  | n + 1, j, h => by
    rw [zl]
    by_cases hj : j < 5
    · rw [List.getElem?_append_left (by simpa using hj), Nat.mod_eq_of_lt hj]
    · rw [List.getElem?_append_right (by simp; omega), zl_get n _ (by simp; omega)]
      congr 1
      simp
      omega
theorem made_nulls (n : Nat) (hn : n ≤ 1000000) : ∀ W, (Instr.makeSlice 23 (.int .i64 (n : Int)) (.int .i64 (n : Int))).run Try.prog W = .ok (.slice (some ⟨W.heap.size, 0, none⟩) n n) (W.alloc (.cells (zl n).toArray 25)) := by
  obtain ⟨i, hi, hz, hs, hb⟩ := info_parts inf_value
  intro W
  have := run_make W 23 25 i zeroVal Try.underlying23 hi hz .i64 .i64 n n (by omega) (by omega) (by rw [hb]; omega) (by omega)
  rw [hs] at this
  have hC : madeCells zeroVal.cells (n * 5) = (zl n).toArray := by
    refine Array.ext (by simp [madeCells, zl_len]) fun j h1 h2 => ?_
    have hj : j < n * 5 := by simpa [madeCells] using h1
    have hm : j % 5 < 5 := Nat.mod_lt _ (by omega)
    have hz2 := zl_get n j hj
    have : (madeCells zeroVal.cells (n * 5))[j] = ([Value.int .i64 0, .int .i64 0, .string ⟨#[]⟩, .slice none 0 0, .slice none 0 0] : List Value)[j % 5] := by
      simp only [madeCells, zeroVal, Value.cells]
      simp
      rw [List.getElem?_eq_getElem hm, Option.getD_some]
    rw [this]
    rw [List.getElem?_eq_getElem (by rw [zl_len]; exact hj), List.getElem?_eq_getElem hm] at hz2
    injection hz2 with hz2
    rw [← hz2]
    simp
  simp only [Int.toNat_natCast] at this
  rw [hC] at this
  exact this
theorem inf_by : (Try.prog.info? 5).map (fun i => (i.zero, i.size, i.bytes)) = some (some (.int .u8 0), 1, 1) := by kernel_rfl
theorem made_bytes (n : Nat) (hn : n ≤ 1000000) : ∀ W, (Instr.makeSlice 48 (.int .i64 (n : Int)) (.int .i64 (n : Int))).run Try.prog W = .ok (.slice (some ⟨W.heap.size, 0, none⟩) n n) (W.alloc (.cells (madeCells #[.int .u8 0] n) 5)) := by
  obtain ⟨i, hi, hz, hs, hb⟩ := info_parts inf_by
  intro W
  have := run_make W 48 5 i (.int .u8 0) Try.underlying48 hi hz .i64 .i64 n n (by omega) (by omega) (by rw [hb]; omega) (by omega)
  rw [hs] at this
  simp only [Int.toNat_natCast, Nat.mul_one] at this
  exact this
/-- The bytes of which the first i are written. -/
def xf (i : Nat) (j : Nat) : Value := if j < i then .int .u8 120 else .int .u8 0
theorem xf_made {w : World} {b n : Nat} (h : w.rowIs b 5 n (fun _ => .int .u8 0)) : w.rowIs b 5 n (xf 0) := h.congr fun i _ => by unfold xf; rw [if_neg (by omega)]
theorem xf_step {w : World} {b n i : Nat} (h : w.rowIs b 5 n (xf i)) : (w.setCell ⟨b, i, none⟩ (.int .u8 120)).rowIs b 5 n (xf (i + 1)) :=
  (h.set i (.int .u8 120)).congr fun j _ => by
    unfold xf
    by_cases e : j = i
    · rw [if_pos e, if_pos (by omega)]
    · rw [if_neg e]
      by_cases h : j < i
      · rw [if_pos h, if_pos (by omega)]
      · rw [if_neg h, if_neg (by omega)]
theorem xf_conv {w : World} {b n : Nat} (h : w.rowIs b 5 n (xf n)) : (convert 48 9 (.slice (some ⟨b, 0, none⟩) n n)).run Try.prog w = .ok (.string (xstr n)) w := by
  have hr : Rd w (b + 1) (some ⟨b, 0, none⟩) (by8 (xs8 n)) := by
    intro j u hj
    have hjn : j < n := by
      rcases Nat.lt_or_ge j n with h1 | h1
      · exact h1
      · rw [List.getElem?_eq_none (by simp [by8, xs8]; omega)] at hj; cases hj
    have hu : u = .int .u8 120 := by
      have : (by8 (xs8 n))[j]? = some (.int .u8 120) := by simp [by8, xs8, hjn]
      rw [this] at hj
      injection hj with hj
      exact hj.symm
    refine ⟨b, 0, rfl, Nat.lt_succ_self _, ?_⟩
    rw [Nat.zero_add, h.cell hjn, hu]
    unfold xf
    rw [if_pos hjn]
  have := conv_by8 hr 48 9 5 n Try.underlying48 Try.underlying5 Try.underlying9
  rw [show (xs8 n).length = n from by simp [xs8]] at this
  exact this
theorem NSt.step {w0 w : World} {i : Nat} {u0 u1 u2 u3 u4 : Value} (hbel : Below w0.heap.size w0 w) (hb : Box w w0.heap.size 25 #[u0, u1, u2, u3, u4]) (hl : Lies w (fun b => w0.heap.size < b ∧ b < w.heap.size) (nest i) [u0, u1, u2, u3, u4]) :
    NSt w0 (i + 1) ((((((w.setCell ⟨w0.heap.size, 0, none⟩ (.int .i64 5)).setCell ⟨w0.heap.size, 1, none⟩ (.int .i64 0)).setCell ⟨w0.heap.size, 2, none⟩ (.string ⟨#[]⟩)).setCell ⟨w0.heap.size, 3, none⟩ (.slice none 0 0)).setCell ⟨w0.heap.size, 4, none⟩ (.slice (some ⟨w.heap.size, 0, none⟩) 1 1)).alloc (.cells #[u0, u1, u2, u3, u4] 25)) := by
  have hlt := hb.lt
  obtain ⟨w', hw'⟩ : ∃ W, W = (((((w.setCell ⟨w0.heap.size, 0, none⟩ (.int .i64 5)).setCell ⟨w0.heap.size, 1, none⟩ (.int .i64 0)).setCell ⟨w0.heap.size, 2, none⟩ (.string ⟨#[]⟩)).setCell ⟨w0.heap.size, 3, none⟩ (.slice none 0 0)).setCell ⟨w0.heap.size, 4, none⟩ (.slice (some ⟨w.heap.size, 0, none⟩) 1 1)) := ⟨_, rfl⟩
  have hsz : w'.heap.size = w.heap.size := by rw [hw']; simp [World.setCell]
  have hbox : Box w' w0.heap.size 25 #[.int .i64 5, .int .i64 0, .string ⟨#[]⟩, .slice none 0 0, .slice (some ⟨w.heap.size, 0, none⟩) 1 1] := by
    rw [hw']
    exact ((((hb.put 0 (.int .i64 5)).put 1 (.int .i64 0)).put 2 (.string ⟨#[]⟩)).put 3 (.slice none 0 0)).put 4 (.slice (some ⟨w.heap.size, 0, none⟩) 1 1)
  have hbel' : Below w0.heap.size w0 w' := by
    rw [hw']
    exact ((((hbel.setCell (by simp) _).setCell (by simp) _).setCell (by simp) _).setCell (by simp) _).setCell (by simp) _
  have hkeep : ∀ b, w0.heap.size < b → w'.heap[b]? = w.heap[b]? := by
    intro b hb
    rw [hw', Below.heap_setCell _ _ _ _ (by simp; omega), Below.heap_setCell _ _ _ _ (by simp; omega), Below.heap_setCell _ _ _ _ (by simp; omega), Below.heap_setCell _ _ _ _ (by simp; omega), Below.heap_setCell _ _ _ _ (by simp; omega)]
  rw [← hw']
  clear hw'
  have hnew : Box (w'.alloc (.cells #[u0, u1, u2, u3, u4] 25)) w.heap.size 25 #[u0, u1, u2, u3, u4] := by
    have := Box.laid w' 25 #[u0, u1, u2, u3, u4]
    rw [hsz] at this
    exact this
  refine ⟨chain hbel' (below1 _ _), [.int .i64 5, .int .i64 0, .string ⟨#[]⟩, .slice none 0 0, .slice (some ⟨w.heap.size, 0, none⟩) 1 1], hbox.alloc _, ?_⟩
  rw [nest, Lies]
  refine ⟨⟨Nat.zero_le _, by simp, Nat.zero_le _, by simp⟩, none, 0, some ⟨w.heap.size, 0, none⟩, 1, [u0, u1, u2, u3, u4], rfl, fun _ => rfl, (fun h => by cases h), ⟨Nat.le_refl _, Nat.zero_le _⟩, ⟨Nat.le_refl _, by unfold maxLen; decide⟩, Rs.nil _ _ _, ?_, ?_⟩
  · exact rs_box (cs := [u0, u1, u2, u3, u4]) hnew ⟨hlt, by simp; omega⟩
  · rw [LiesL]
    refine ⟨[u0, u1, u2, u3, u4], [], by simp, ?_, by rw [LiesL]⟩
    refine hl.move fun b hb => ⟨⟨hb.1, by have := hb.2; simp; omega⟩, ?_⟩
    rw [Below.heap_alloc _ _ _ (by rw [hsz]; exact hb.2), hkeep b hb.1]
/-- The state of the loop that writes the bytes. -/
structure TSt (w5 : World) (E B i : Nat) (w : World) : Prop where
  below : Below w5.heap.size w5 w
  arr : Box w w5.heap.size 25 (zl E).toArray
  box : Box w (w5.heap.size + 1) 25 #[.int .i64 5, .int .i64 0, .string ⟨#[]⟩, .slice none 0 0, .slice (some ⟨w5.heap.size, 0, none⟩) E E]
  row : w.rowIs (w5.heap.size + 2) 5 B (xf i)
theorem TSt.start (w5 : World) (E B : Nat) : TSt w5 E B 0 (((w5.alloc (.cells (zl E).toArray 25)).alloc (.cells #[.int .i64 5, .int .i64 0, .string ⟨#[]⟩, .slice none 0 0, .slice (some ⟨w5.heap.size, 0, none⟩) E E] 25)).alloc (.cells (madeCells #[.int .u8 0] B) 5)) := by
  have e1 : (w5.alloc (.cells (zl E).toArray 25)).heap.size = w5.heap.size + 1 := by simp
  have h1 := Box.laid (w5.alloc (.cells (zl E).toArray 25)) 25 #[.int .i64 5, .int .i64 0, .string ⟨#[]⟩, .slice none 0 0, .slice (some ⟨w5.heap.size, 0, none⟩) E E]
  have h2 := World.rowIs_made ((w5.alloc (.cells (zl E).toArray 25)).alloc (.cells #[.int .i64 5, .int .i64 0, .string ⟨#[]⟩, .slice none 0 0, .slice (some ⟨w5.heap.size, 0, none⟩) E E] 25)) (.int .u8 0) B 5
  rw [e1] at h1
  have e2 : ((w5.alloc (.cells (zl E).toArray 25)).alloc (.cells #[.int .i64 5, .int .i64 0, .string ⟨#[]⟩, .slice none 0 0, .slice (some ⟨w5.heap.size, 0, none⟩) E E] 25)).heap.size = w5.heap.size + 2 := by simp
  rw [e2] at h2
  exact ⟨chain (below2 _ _ _) (below1 _ _), ((Box.laid _ _ _).alloc _).alloc _, h1.alloc _, xf_made h2⟩
theorem TSt.step {w5 w : World} {E B i : Nat} (h : TSt w5 E B i w) : TSt w5 E B (i + 1) (w.setCell ⟨w5.heap.size + 2, i, none⟩ (.int .u8 120)) :=
  ⟨h.below.setCell (by simp) _, h.arr.far (by simp) _, h.box.far (by simp) _, xf_step h.row⟩
theorem TSt.lies {w5 w : World} {E B i : Nat} (h : TSt w5 E B i w) (hE : E ≤ 2000) : Lies w (· < w.heap.size) (nulls E) [.int .i64 5, .int .i64 0, .string ⟨#[]⟩, .slice none 0 0, .slice (some ⟨w5.heap.size, 0, none⟩) E E] := by
  unfold nulls arrV
  rw [Lies]
  refine ⟨⟨Nat.zero_le _, by simp, Nat.zero_le _, by simp; omega⟩, none, 0, some ⟨w5.heap.size, 0, none⟩, E, zl E, by simp, fun _ => rfl, (fun h => by cases h), ⟨Nat.le_refl _, Nat.zero_le _⟩, ⟨by simp, by unfold maxLen; omega⟩, Rs.nil _ _ _, rs_box h.arr h.arr.lt, zl_lies _ _ _⟩
set_option maxHeartbeats 4000000 in
set_option maxRecDepth 100000 in
theorem valueLimits_walk (x y z : Int) (w : World) : Calls Try.prog 9 #[.int .i64 x, .int .i64 y, .int .i64 z] w fun e w' => e = .returned (.bool true) ∧ Below w.heap.size w w' := by
  have haw := Lib.hid (fun W => awake_any W)
  have hnum := Lib.hid (fun W => num_any 1 W)
  obtain ⟨d, hd, hm1⟩ := kmod_nat x 64 (by omega) (by omega)
  obtain ⟨m, hm, hm2⟩ := kmod_nat y 7 (by omega) (by omega)
  obtain ⟨b, hb, hm3⟩ := kmod_nat z 7 (by omega) (by omega)
  have M1 := Lib.hid hm1
  have M2 := Lib.hid hm2
  have M3 := Lib.hid hm3
  clear hm1 hm2 hm3
  obtain ⟨D, hD⟩ : ∃ D : Nat, D = d + 1 := ⟨_, rfl⟩
  obtain ⟨E, hE⟩ : ∃ E : Nat, E = 1021 + m := ⟨_, rfl⟩
  obtain ⟨B, hB⟩ : ∃ B : Nat, B = 4093 + b := ⟨_, rfl⟩
  have eD := Lib.hid (show (d : Int) + 1 = (D : Int) by omega)
  have eE := Lib.hid (show 1021 + (m : Int) = (E : Int) by omega)
  have eB := Lib.hid (show 4093 + (b : Int) = (B : Int) by omega)
  have bD : 1 ≤ D ∧ D ≤ 64 := by omega
  have bE : 1021 ≤ E ∧ E ≤ 1027 := by omega
  have bB : 4093 ≤ B ∧ B ≤ 4099 := by omega
  clear hD hE hB
  have hmn := made_nulls E (by omega)
  have hmb := made_bytes B (by omega)
  have HMN := Lib.hid hmn
  have HMB := Lib.hid hmb
  clear hmn hmb
  go_enter Try.func9, Try.ntmps9
  go_wp2_with fail
  refine (M1.out _).mono ?_
  rintro e1 w1 ⟨rfl, rfl⟩
  go_wp2_with fail
  refine (M2.out _).mono ?_
  rintro e1 w1 ⟨rfl, rfl⟩
  go_wp2_with fail
  refine (M3.out _).mono ?_
  rintro e1 w1 ⟨rfl, rfl⟩
  go_wp2_with fail
  simp only [eD.out, eE.out, eB.out]
  refine (hnum.out _).mono ?_
  rintro e1 w1 ⟨rfl, hb1⟩
  have hB1 := Lib.hid hb1
  clear hb1 M1 M2 M3 hnum eD eE eB hd hm hb
  go_wp2_with fail
  go_loopw [8] (fun t wr => ∃ i : Nat, i ≤ D ∧ t = .int .i64 i ∧ NSt w1 i wr) (fun t _ => D - (intOf t).toNat)
  case atStart => exact ⟨0, Nat.zero_le _, rfl, below1 _ _, [.int .i64 3, .int .i64 1, .string ⟨#[]⟩, .slice none 0 0, .slice none 0 0], Box.laid _ _ _, lies_num _ _ _⟩
  case round =>
    obtain ⟨i, hi, rfl, hst⟩ := hrel
    have HST := Lib.hid hst
    obtain ⟨hbel, cs, hbx, hl⟩ := hst
    obtain ⟨k, n, s, ks, es, hne⟩ : ∃ k n s ks es, nest i = .mk k n s ks es := by
      generalize nest i = v
      obtain ⟨k, n, s, ks, es⟩ := v
      exact ⟨k, n, s, ks, es, rfl⟩
    have hl2 := hl
    rw [hne] at hl2
    obtain ⟨A, a, B', b', xs, rfl, _⟩ := lies_open hl2
    clear hl2 hne
    have HL := Lib.hid hl
    have HBX := Lib.hid hbx
    have HBEL := Lib.hid hbel
    obtain ⟨t0, t1, t2, t3, t4⟩ := box5 HBX.out
    have z0 := HBX.out.free 0
    have z1 := HBX.out.free 1
    have z2 := HBX.out.free 2
    have z3 := HBX.out.free 3
    have z4 := HBX.out.free 4
    have hgl := HBX.out.lt
    clear hl hbx hbel HST
    by_cases hlt : i < D
    · go_wp2_with fail
      go_roundw
      case rel => exact ⟨i + 1, by omega, by go_num, NSt.step HBEL.out HBX.out HL.out⟩
      case measure => simp [intOf]; omega
    · have hiD : i = D := by omega
      subst hiD
      have hLI := Lib.hid (HL.out.move (S' := (· < wr.heap.size)) fun b hb => ⟨hb.2, rfl⟩)
      have HV := Lib.hid (fun W (hW : Below wr.heap.size wr W) => by
        have := valid_any _ _ W (below_lies hW hLI.out)
        rw [nest_valid i (by omega)] at this
        exact this)
      have HW0 := Lib.hid (chain hB1.out HBEL.out)
      clear z0 z1 z2 z3 z4 HL HBEL
      by_cases h32 : i ≤ 32
      · rw [decide_eq_true h32] at HV
        have hq : decide ((i : Int) ≤ 32) = true := by simp; omega
        have HDP := Lib.hid (fun W (hW : Below wr.heap.size wr W) => by
          have := depth_any _ _ W (below_lies hW hLI.out)
          rw [nest_depth i h32] at this
          exact this)
        have HND := Lib.hid (fun W (hW : Below wr.heap.size wr W) => by
          have := nodes_any _ _ W (below_lies hW hLI.out)
          rw [nest_nodes i h32] at this
          exact this)
        go_wp2_with fail
        refine (HV.out _ (Below.refl _ _)).mono ?_
        rintro e2 w2 ⟨rfl, hb2⟩
        have hB2 := Lib.hid hb2
        obtain ⟨u0, u1, u2, u3, u4⟩ := box5 (HBX.out.below hb2 hgl)
        clear t0 t1 t2 t3 t4 hb2
        go_wp2_with fail
        refine (HV.out _ hB2.out).mono ?_
        rintro e3 w3 ⟨rfl, hb3⟩
        have hB3 := Lib.hid (chain hB2.out hb3)
        obtain ⟨t0, t1, t2, t3, t4⟩ := box5 (HBX.out.below hB3.out hgl)
        clear u0 u1 u2 u3 u4 hb3
        go_wp2_with fail
        refine (HDP.out _ hB3.out).mono ?_
        rintro e4 w4 ⟨rfl, hb4⟩
        have hB4 := Lib.hid (chain hB3.out hb4)
        obtain ⟨u0, u1, u2, u3, u4⟩ := box5 (HBX.out.below hB4.out hgl)
        clear t0 t1 t2 t3 t4 hb4
        go_wp2_with fail
        refine (HND.out _ hB4.out).mono ?_
        rintro e5 w5 ⟨rfl, hb5⟩
        have hB5 := Lib.hid (chain HW0.out (chain hB4.out hb5))
        clear u0 u1 u2 u3 u4 hb5 HV HDP HND hB2 hB3 hB4 HBX hLI HW0 hB1 hgl
        have hmn := HMN.out
        have hmb := HMB.out
        go_wp2_with fail
        go_loopw [11] (fun t wr => ∃ j : Nat, j ≤ B ∧ t = .int .i64 j ∧ TSt w5 E B j wr) (fun t _ => B - (intOf t).toNat)
        case atStart => exact ⟨0, Nat.zero_le _, rfl, TSt.start _ _ _⟩
        case round =>
          obtain ⟨j, hj, rfl, hts⟩ := hrel
          have HT := Lib.hid hts
          clear hts hmn hmb
          have hg2 := HT.out.row.lt
          by_cases hlt2 : j < B
          · have hcell := HT.out.row.cell hlt2
            have hfr := HT.out.row.frozen j
            generalize xf j j = x0 at hcell
            go_wp2_with fail
            go_roundw
            case rel => exact ⟨j + 1, by omega, by go_num, HT.out.step⟩
            case measure => simp [intOf]; omega
          · have hjB : j = B := by omega
            subst hjB
            have hcv := xf_conv HT.out.row
            have HV1 := Lib.hid (fun W (hW : Below wr.heap.size wr W) => by
              have := valid_any _ _ W (below_lies hW (HT.out.lies (by omega)))
              rw [nulls_valid E (by omega)] at this
              exact this)
            have HV2 := Lib.hid (fun W => by
              have := valid_any _ _ W (lies_str W (· < W.heap.size) (xstr j) (by rw [xstr_size]; omega))
              rw [xstr_valid j (by omega)] at this
              exact this)
            have HBX2 := Lib.hid HT.out.box
            have HB6 := Lib.hid (chain hB5.out HT.out.below)
            generalize xstr j = sx at hcv HV2
            obtain ⟨o7, ho7⟩ : ∃ O, O = Obj.cells #[.int .i64 4, .int .i64 0, .string sx, .slice none 0 0, .slice none 0 0] 25 := ⟨_, rfl⟩
            have hb7 := below1 wr o7
            have HX7 := Lib.hid (HBX2.out.alloc o7)
            have HY7 : Hid (Box (wr.alloc o7) wr.heap.size 25 #[.int .i64 4, .int .i64 0, .string sx, .slice none 0 0, .slice none 0 0]) := Lib.hid (by rw [ho7]; exact Box.laid _ _ _)
            have HV1' := Lib.hid (HV1.out _ hb7)
            have HB7 := Lib.hid (chain HB6.out hb7)
            obtain ⟨t0, t1, t2, t3, t4⟩ := box5 HX7.out
            rw [ho7] at t0 t1 t2 t3 t4
            clear HV1 HB6 HBX2 HT hb7
            by_cases hE2 : E ≤ 1024
            all_goals
              first | (have hq1 : decide ((E : Int) ≤ 1024) = true := by simp; omega) | (have hq1 : decide ((E : Int) ≤ 1024) = false := by simp; omega)
              first | rw [decide_eq_true hE2] at HV1' | rw [decide_eq_false hE2] at HV1'
              by_cases hB2 : j ≤ 4096
              all_goals
                first | (have hq2 : decide ((j : Int) ≤ 4096) = true := by simp; omega) | (have hq2 : decide ((j : Int) ≤ 4096) = false := by simp; omega)
                first | rw [decide_eq_true hB2] at HV2 | rw [decide_eq_false hB2] at HV2
                go_wp2_with fail
                rw [← ho7]
                refine HV1'.out.mono ?_
                rintro e7 w7 ⟨rfl, hb8⟩
                have HB8 := Lib.hid (chain HB7.out hb8)
                obtain ⟨r0, r1, r2, r3, r4⟩ := box5 (HY7.out.below hb8 HY7.out.lt)
                clear hb8
                go_wp2_with fail
                refine (HV2.out _).mono ?_
                rintro e8 w8 ⟨rfl, hb9⟩
                have HB9 := Lib.hid (chain HB8.out hb9)
                clear r0 r1 r2 r3 r4 hb9
                go_wp2_with fail
                refine (haw.out _).mono ?_
                rintro e9 w9 ⟨rfl, hb10⟩
                go_wp2_with fail
                go_ret
                exact ⟨rfl, chain HB9.out hb10⟩
      · rw [decide_eq_false h32] at HV
        have hq : decide ((i : Int) ≤ 32) = false := by simp; omega
        go_wp2_with fail
        refine (HV.out _ (Below.refl _ _)).mono ?_
        rintro e2 w2 ⟨rfl, hb2⟩
        have hB2 := Lib.hid hb2
        obtain ⟨u0, u1, u2, u3, u4⟩ := box5 (HBX.out.below hb2 hgl)
        clear t0 t1 t2 t3 t4 hb2
        go_wp2_with fail
        refine (HV.out _ hB2.out).mono ?_
        rintro e5 w5 ⟨rfl, hb5⟩
        have hB5 := Lib.hid (chain HW0.out (chain hB2.out hb5))
        clear u0 u1 u2 u3 u4 hb5 HV hB2 HBX hLI HW0 hB1 hgl
        have hmn := HMN.out
        have hmb := HMB.out
        go_wp2_with fail
        go_loopw [11] (fun t wr => ∃ j : Nat, j ≤ B ∧ t = .int .i64 j ∧ TSt w5 E B j wr) (fun t _ => B - (intOf t).toNat)
        case atStart => exact ⟨0, Nat.zero_le _, rfl, TSt.start _ _ _⟩
        case round =>
          obtain ⟨j, hj, rfl, hts⟩ := hrel
          have HT := Lib.hid hts
          clear hts hmn hmb
          have hg2 := HT.out.row.lt
          by_cases hlt2 : j < B
          · have hcell := HT.out.row.cell hlt2
            have hfr := HT.out.row.frozen j
            generalize xf j j = x0 at hcell
            go_wp2_with fail
            go_roundw
            case rel => exact ⟨j + 1, by omega, by go_num, HT.out.step⟩
            case measure => simp [intOf]; omega
          · have hjB : j = B := by omega
            subst hjB
            have hcv := xf_conv HT.out.row
            have HV1 := Lib.hid (fun W (hW : Below wr.heap.size wr W) => by
              have := valid_any _ _ W (below_lies hW (HT.out.lies (by omega)))
              rw [nulls_valid E (by omega)] at this
              exact this)
            have HV2 := Lib.hid (fun W => by
              have := valid_any _ _ W (lies_str W (· < W.heap.size) (xstr j) (by rw [xstr_size]; omega))
              rw [xstr_valid j (by omega)] at this
              exact this)
            have HBX2 := Lib.hid HT.out.box
            have HB6 := Lib.hid (chain hB5.out HT.out.below)
            generalize xstr j = sx at hcv HV2
            obtain ⟨o7, ho7⟩ : ∃ O, O = Obj.cells #[.int .i64 4, .int .i64 0, .string sx, .slice none 0 0, .slice none 0 0] 25 := ⟨_, rfl⟩
            have hb7 := below1 wr o7
            have HX7 := Lib.hid (HBX2.out.alloc o7)
            have HY7 : Hid (Box (wr.alloc o7) wr.heap.size 25 #[.int .i64 4, .int .i64 0, .string sx, .slice none 0 0, .slice none 0 0]) := Lib.hid (by rw [ho7]; exact Box.laid _ _ _)
            have HV1' := Lib.hid (HV1.out _ hb7)
            have HB7 := Lib.hid (chain HB6.out hb7)
            obtain ⟨t0, t1, t2, t3, t4⟩ := box5 HX7.out
            rw [ho7] at t0 t1 t2 t3 t4
            clear HV1 HB6 HBX2 HT hb7
            by_cases hE2 : E ≤ 1024
            all_goals
              first | (have hq1 : decide ((E : Int) ≤ 1024) = true := by simp; omega) | (have hq1 : decide ((E : Int) ≤ 1024) = false := by simp; omega)
              first | rw [decide_eq_true hE2] at HV1' | rw [decide_eq_false hE2] at HV1'
              by_cases hB2 : j ≤ 4096
              all_goals
                first | (have hq2 : decide ((j : Int) ≤ 4096) = true := by simp; omega) | (have hq2 : decide ((j : Int) ≤ 4096) = false := by simp; omega)
                first | rw [decide_eq_true hB2] at HV2 | rw [decide_eq_false hB2] at HV2
                go_wp2_with fail
                rw [← ho7]
                refine HV1'.out.mono ?_
                rintro e7 w7 ⟨rfl, hb8⟩
                have HB8 := Lib.hid (chain HB7.out hb8)
                obtain ⟨r0, r1, r2, r3, r4⟩ := box5 (HY7.out.below hb8 HY7.out.lt)
                clear hb8
                go_wp2_with fail
                refine (HV2.out _).mono ?_
                rintro e8 w8 ⟨rfl, hb9⟩
                have HB9 := Lib.hid (chain HB8.out hb9)
                clear r0 r1 r2 r3 r4 hb9
                go_wp2_with fail
                refine (haw.out _).mono ?_
                rintro e9 w9 ⟨rfl, hb10⟩
                go_wp2_with fail
                go_ret
                exact ⟨rfl, chain HB9.out hb10⟩
end Go.Proofs.Ytbpbplfiamllnaa

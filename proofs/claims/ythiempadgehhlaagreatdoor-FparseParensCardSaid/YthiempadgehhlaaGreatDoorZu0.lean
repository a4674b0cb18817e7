/- FparseParens answers true for every two strings. -/
import Derived.Test.YthiempadgehhlaaGreatDoorHP
import Derived.Test.YthiempadgehhlaaGreatDoorQM
import Derived.Test.YthiempadgehhlaaGreatDoorZs
set_option linter.unusedVariables false
set_option linter.unusedSimpArgs false
set_option linter.unusedSectionVars false
namespace Go.Proofs.YthiempadgehhlaaGreatDoor
open Go.RowKit
theorem lexF_bad {l : List UInt8} : ∀ (n a : Nat) (ts : List Fk), ¬ (lexF l n a ts).e = 0 → (lexF l n a ts).ts = none
  | 0, a, ts, h => rfl
  | n + 1, a, ts, h => by
    rw [lexF] at h ⊢
    split at h
    · rename_i h1
      rw [if_pos h1]
      split at h
      · rename_i h2
        rw [if_pos h2]
      · rename_i h2
        rw [if_neg h2]
        split at h
        · rename_i h3
          rw [if_pos h3]
          exact lexF_bad n _ _ h
        · rename_i h3
          rw [if_neg h3]
    · exact absurd rfl h
theorem parse_zero {l : List UInt8} (h : (parseP l).2.2 = 0) : ∃ f, parseP l = (f, 0, 0) := by
  unfold parseP at h ⊢
  cases hts : (lexFP l).ts with
  | none =>
    rw [hts] at h
    dsimp only at h
    obtain ⟨us, h1⟩ := lexFP_some h
    rw [h1] at hts
    simp at hts
  | some ts =>
    rw [hts] at h
    dsimp only at h ⊢
    unfold parseT at h ⊢
    split
    · exact ⟨_, rfl⟩
    · rename_i f σ hr
      rw [hr] at h
      dsimp only at h ⊢
      split at h
      · rename_i h1
        rw [if_pos h1]
        split at h
        · cases h
        · rename_i h2
          rw [if_neg h2]
          exact ⟨_, rfl⟩
      · rename_i h1
        exact absurd h h1
theorem parse_lexed {l : List UInt8} {f : Ft} (h : parseP l = (f, 0, 0)) : ∃ us, lexFP l = ⟨some us, 0, 0⟩ := by
  by_cases he : (lexFP l).e = 0
  · exact lexFP_some he
  · have hn : (lexFP l).ts = none := by
      unfold lexFP at he ⊢
      split
      · rfl
      · rename_i h1
        rw [if_neg h1] at he
        exact lexF_bad _ _ _ he
    unfold parseP at h
    rw [hn] at h
    simp only [Prod.mk.injEq] at h
    exact absurd h.2.2 he
set_option maxHeartbeats 2000000 in
theorem short80_any (s t : ByteArray) (g c : Nat) (w : World) (hs : s.size ≤ 140737488355328) (ht : t.size ≤ 140737488355328) (h0 : w.cell? ⟨g, 0, none⟩ = some (.string s)) (h1 : w.cell? ⟨g, 1, none⟩ = some (.string t)) :
    Calls Tryz.prog 11 #[.int .i64 80, .slice (some ⟨g, 0, none⟩) 2 c] w fun e w' => e = .returned (.bool (decide (s.size ≤ 80 ∧ t.size ≤ 80))) ∧ w = w' := by
  go_enter Tryz.func11, Tryz.ntmps11
  go_wp2_with fail
  go_loop [5] (fun ti => ∃ i : Nat, i ≤ 2 ∧ ti = .int .i64 i ∧ (1 ≤ i → s.size ≤ 80) ∧ (2 ≤ i → t.size ≤ 80)) (fun ti => 2 - (intOf ti).toNat)
  case atStart => exact ⟨0, by omega, rfl, fun h => by omega, fun h => by omega⟩
  case round =>
    obtain ⟨i, hi, rfl, hi1, hi2⟩ := hrel
    have hi3 : i = 0 ∨ i = 1 ∨ i = 2 := by omega
    rcases hi3 with rfl | rfl | rfl
    · by_cases hx : s.size ≤ 80
      · have q : ¬ (80 : Int) < (s.size : Int) := by omega
        go_wp2_with fail
        go_round
        case rel => exact ⟨1, by omega, by first | rfl | go_num, fun _ => hx, fun h => by omega⟩
        case measure => simp [intOf]
      · have q : (80 : Int) < (s.size : Int) := by omega
        go_wp2_with fail
        go_ret
        exact ⟨ret_bool (by first | rfl | exact (decide_eq_false (fun h => hx h.1)).symm), rfl⟩
    · by_cases hx : t.size ≤ 80
      · have q : ¬ (80 : Int) < (t.size : Int) := by omega
        go_wp2_with fail
        go_round
        case rel => exact ⟨2, by omega, by first | rfl | go_num, fun _ => hi1 (by omega), fun _ => hx⟩
        case measure => simp [intOf]
      · have q : (80 : Int) < (t.size : Int) := by omega
        go_wp2_with fail
        go_ret
        exact ⟨ret_bool (by first | rfl | exact (decide_eq_false (fun h => hx h.2)).symm), rfl⟩
    · go_wp2_with fail
      go_ret
      exact ⟨ret_bool (by first | rfl | exact (decide_eq_true ⟨hi1 (by omega), hi2 (by omega)⟩).symm), rfl⟩
theorem two_laid (W : World) (o : Obj) (T : TypeId) (s t : ByteArray) : ((W.alloc o).alloc (.cells #[.string s, .string t] T)).cell? ⟨W.heap.size + 1, 0, none⟩ = some (.string s) ∧ ((W.alloc o).alloc (.cells #[.string s, .string t] T)).cell? ⟨W.heap.size + 1, 1, none⟩ = some (.string t) := by
  have h := Box.laid (W.alloc o) T #[.string s, .string t]
  have e : (W.alloc o).heap.size = W.heap.size + 1 := by simp
  rw [e] at h
  exact ⟨h.cell rfl, h.cell rfl⟩
/-- Trees in memory, each with a box that holds it. -/
structure TB (w W : World) (l : List (Nat × List Value × Ft)) : Prop where
  below : Below w.heap.size w W
  b : ∀ x ∈ l, Box W x.1 32 x.2.1.toArray ∧ LiesF W (· < W.heap.size) x.2.2 x.2.1
theorem TB.start (w : World) : TB w w [] := ⟨Below.refl _ _, fun x h => by cases h⟩
theorem TB.next {w W W' : World} {l : List (Nat × List Value × Ft)} (h : TB w W l) (hb : Below W.heap.size W W') : TB w W' l :=
  ⟨chain h.below hb, fun x hx => ⟨(h.b x hx).1.below hb (h.b x hx).1.lt, below_liesF hb (h.b x hx).2⟩⟩
theorem TB.box {w W W' : World} {l : List (Nat × List Value × Ft)} (h : TB w W l) (hb : Below W.heap.size W W') {f : Ft} {cs : List Value} (hl : LiesF W' (Nw W.heap.size W'.heap.size) f cs) : TB w (W'.alloc (.cells cs.toArray 32)) ((W'.heap.size, cs, f) :: l) := by
  have h1 := h.next hb
  have h2 := h1.next ((Below.refl _ _).alloc (Nat.le_refl _) (.cells cs.toArray 32))
  refine ⟨h2.below, fun x hx => ?_⟩
  rcases List.mem_cons.1 hx with rfl | hx
  · exact ⟨Box.laid _ _ _, below_liesF ((Below.refl _ _).alloc (Nat.le_refl _) _) (nw_liesF (w := W) hl)⟩
  · exact h2.b x hx
theorem TB.alloc {w W : World} {l : List (Nat × List Value × Ft)} (h : TB w W l) (o : Obj) : TB w (W.alloc o) l := h.next ((Below.refl _ _).alloc (Nat.le_refl _) o)
/-- The part of a tree with one part. -/
theorem one_sub {w : World} {S : Nat → Prop} {op : Int} {tx : ByteArray} {v : V} {ps : List ByteArray} {a : Ft} {cs : List Value} (h : LiesF w S (.mk op tx v ps [a]) cs) :
    ∃ (k n : Int) (s : ByteArray) (A1 : Option Addr) (n1 m1 : Nat) (A2 : Option Addr) (n2 m2 : Nat) (A3 : Option Addr) (m3 bb o m4 : Nat) (a0 a1 a2 a3 a4 a5 a6 a7 a8 : Value),
      cs = [.int .i64 op, .string tx, .int .i64 k, .int .i64 n, .string s, .slice A1 n1 m1, .slice A2 n2 m2, .slice A3 ps.length m3, .slice (some ⟨bb, o, none⟩) 1 m4] ∧ S bb ∧ 1 ≤ m4 ∧ LiesF w S a [a0, a1, a2, a3, a4, a5, a6, a7, a8] ∧
      (∀ j u, ([a0, a1, a2, a3, a4, a5, a6, a7, a8] : List Value)[j]? = some u → w.cell? ⟨bb, o + j, none⟩ = some u) := by
  obtain ⟨v0, v1, v2, v3, v4, A, a', B, b', xs, rfl, hv, h1, h2, h3, h4, hA, hB, hL⟩ := liesF_open h
  obtain ⟨k, n, s, ks, es⟩ := v
  obtain ⟨A', a'', B', b'', xs', he', -⟩ := lies_open hv
  simp only [List.cons.injEq, and_true] at he'
  obtain ⟨rfl, rfl, rfl, rfl, rfl⟩ := he'
  obtain ⟨bb, o, a0, a1, a2, a3, a4, a5, a6, a7, a8, rfl, hS, ha, hac⟩ := sub_at hB hL (i := 0) rfl
  exact ⟨k, n, s, A', _, a'', B', _, b'', A, a', bb, o, b', a0, a1, a2, a3, a4, a5, a6, a7, a8, rfl, hS, h4.1, ha, fun j u hj => by have := hac j u hj; simpa using this⟩
set_option maxHeartbeats 10000000 in
set_option maxRecDepth 100000 in
theorem parens_sad (s t : ByteArray) (w : World) (hE : ErrIn w) (hG : SgIn w) (hs : s.size ≤ 140737488355328) (ht : t.size ≤ 140737488355328) (hsad : ¬ ((s.size ≤ 80 ∧ t.size ≤ 80) ∧ (parseP s.data.toList).2.2 = 0 ∧ (parseP t.data.toList).2.2 = 0)) :
    Calls Tryz.prog 4 #[.string s, .string t] w fun e w' => e = .returned (.bool true) ∧ Below w.heap.size w w' := by
  have HAW := Lib.hid (fun (W : World) (h : Below w.heap.size w W) => pawake_any W (hE.next h) (hG.next h))
  have HP1 := Lib.hid (fun (W : World) (h : Below w.heap.size w W) => fparse_any s (by omega) W (hE.next h) (hG.next h))
  have HP2 := Lib.hid (fun (W : World) (h : Below w.heap.size w W) => fparse_any t (by omega) W (hE.next h) (hG.next h))
  have H0 := Lib.hid (TB.start w)
  generalize parseP s.data.toList = r1 at HP1 hsad
  generalize parseP t.data.toList = r2 at HP2 hsad
  obtain ⟨f1, a1, x1⟩ := r1
  obtain ⟨f2, a2, x2⟩ := r2
  dsimp only at hsad
  have HSH := Lib.hid (fun (c : Nat) (W : World) (o : Obj) (T : TypeId) => short80_any s t (W.heap.size + 1) c ((W.alloc o).alloc (.cells #[.string s, .string t] T)) hs ht (two_laid W o T s t).1 (two_laid W o T s t).2)
  clear hE hG hs ht
  by_cases hsh : s.size ≤ 80 ∧ t.size ≤ 80
  · rw [decide_eq_true hsh] at HSH
    by_cases hx1 : x1 = 0
    · have q1 : ((x1 : Int) != 0) = false := by rw [bne_eq_false_iff_eq]; omega
      have q2 : ((x2 : Int) != 0) = true := by rw [bne_iff_ne]; intro h; exact hsad ⟨hsh, hx1, by omega⟩
      clear hsad hx1 hsh
      go_enter Tryz.func4, Tryz.ntmps4
      go_wp2_with fail
      refine (HP1.out _ H0.out.below).mono ?_
      rintro e1 w1 ⟨c0, c1, c2, c3, c4, c5, c6, c7, c8, rfl, hb1, hl1⟩
      obtain ⟨op1, tx1, k1, j1, s1, A1, na1, ma1, B1, nb1, mb1, C1, nc1, mc1, D1, nd1, md1, rfl, rfl, rfl, rfl, rfl, rfl, rfl, rfl, rfl⟩ := liesF_form hl1
      have H1 := Lib.hid (H0.out.box hb1 hl1)
      clear hb1 hl1
      go_wp2_with fail
      refine (HP2.out _ H1.out.below).mono ?_
      rintro e2 w2 ⟨c0, c1, c2, c3, c4, c5, c6, c7, c8, rfl, hb2, hl2⟩
      obtain ⟨op2, tx2, k2, j2, s2, A2, na2, ma2, B2, nb2, mb2, C2, nc2, mc2, D2, nd2, md2, rfl, rfl, rfl, rfl, rfl, rfl, rfl, rfl, rfl⟩ := liesF_form hl2
      have H2 := Lib.hid (H1.out.box hb2 hl2)
      clear hb2 hl2
      go_wp2_with (first
        | (go_at_call 11; (with_reducible refine (HSH.out _ _ _ _).mono ?_); rintro e w' ⟨rfl, rfl⟩)
        | (go_at_call 9; refine (HAW.out _ (H2.out.alloc _).below).mono ?_; rintro e3 w3 ⟨rfl, hb3⟩))
      go_ret
      exact ⟨rfl, chain (H2.out.alloc _).below hb3⟩
    · have q1 : ((x1 : Int) != 0) = true := by rw [bne_iff_ne]; omega
      clear hsad hx1 hsh
      go_enter Tryz.func4, Tryz.ntmps4
      go_wp2_with fail
      refine (HP1.out _ H0.out.below).mono ?_
      rintro e1 w1 ⟨c0, c1, c2, c3, c4, c5, c6, c7, c8, rfl, hb1, hl1⟩
      obtain ⟨op1, tx1, k1, j1, s1, A1, na1, ma1, B1, nb1, mb1, C1, nc1, mc1, D1, nd1, md1, rfl, rfl, rfl, rfl, rfl, rfl, rfl, rfl, rfl⟩ := liesF_form hl1
      have H1 := Lib.hid (H0.out.box hb1 hl1)
      clear hb1 hl1
      go_wp2_with fail
      refine (HP2.out _ H1.out.below).mono ?_
      rintro e2 w2 ⟨c0, c1, c2, c3, c4, c5, c6, c7, c8, rfl, hb2, hl2⟩
      obtain ⟨op2, tx2, k2, j2, s2, A2, na2, ma2, B2, nb2, mb2, C2, nc2, mc2, D2, nd2, md2, rfl, rfl, rfl, rfl, rfl, rfl, rfl, rfl, rfl⟩ := liesF_form hl2
      have H2 := Lib.hid (H1.out.box hb2 hl2)
      clear hb2 hl2
      go_wp2_with (first
        | (go_at_call 11; (with_reducible refine (HSH.out _ _ _ _).mono ?_); rintro e w' ⟨rfl, rfl⟩)
        | (go_at_call 9; refine (HAW.out _ (H2.out.alloc _).below).mono ?_; rintro e3 w3 ⟨rfl, hb3⟩))
      go_ret
      exact ⟨rfl, chain (H2.out.alloc _).below hb3⟩
  · rw [decide_eq_false hsh] at HSH
    clear hsad hsh
    go_enter Tryz.func4, Tryz.ntmps4
    go_wp2_with fail
    refine (HP1.out _ H0.out.below).mono ?_
    rintro e1 w1 ⟨c0, c1, c2, c3, c4, c5, c6, c7, c8, rfl, hb1, hl1⟩
    obtain ⟨op1, tx1, k1, j1, s1, A1, na1, ma1, B1, nb1, mb1, C1, nc1, mc1, D1, nd1, md1, rfl, rfl, rfl, rfl, rfl, rfl, rfl, rfl, rfl⟩ := liesF_form hl1
    have H1 := Lib.hid (H0.out.box hb1 hl1)
    clear hb1 hl1
    go_wp2_with fail
    refine (HP2.out _ H1.out.below).mono ?_
    rintro e2 w2 ⟨c0, c1, c2, c3, c4, c5, c6, c7, c8, rfl, hb2, hl2⟩
    obtain ⟨op2, tx2, k2, j2, s2, A2, na2, ma2, B2, nb2, mb2, C2, nc2, mc2, D2, nd2, md2, rfl, rfl, rfl, rfl, rfl, rfl, rfl, rfl, rfl⟩ := liesF_form hl2
    have H2 := Lib.hid (H1.out.box hb2 hl2)
    clear hb2 hl2
    go_wp2_with (first
      | (go_at_call 11; (with_reducible refine (HSH.out _ _ _ _).mono ?_); rintro e w' ⟨rfl, rfl⟩)
      | (go_at_call 9; refine (HAW.out _ (H2.out.alloc _).below).mono ?_; rintro e3 w3 ⟨rfl, hb3⟩))
    go_ret
    exact ⟨rfl, chain (H2.out.alloc _).below hb3⟩
end Go.Proofs.YthiempadgehhlaaGreatDoor

/- The parser's makers of nodes: leaves, fields, operators. -/
import Derived.Test.YthgnelkppibpeaaGreatDoorYs
set_option linter.unusedVariables false
set_option linter.unusedSimpArgs false
set_option linter.unusedSectionVars false
namespace Go.Proofs.YthgnelkppibpeaaGreatDoor
open Go.RowKit
theorem Box.laidAt (w : World) (t : TypeId) (cs : Array Value) {r : Nat} (h : w.heap.size = r) : Box (w.alloc (.cells cs t)) r t cs := by subst h; exact Box.laid w t cs
set_option maxHeartbeats 4000000 in
set_option maxRecDepth 100000 in
theorem lit_any (k n : Int) (s : ByteArray) (w : World) : Calls Tryz.prog 176 #[.agg #[.int .i64 k, .int .i64 n, .string s, .slice none 0 0, .slice none 0 0]] w (LeafPost 7 ⟨#[]⟩ k n s w) := by
  go_enter Tryz.func176, Tryz.ntmps176
  go_wp2_with fail
  refine post9 Tryz.results176 rfl rfl (Box.laidAt _ _ _ (by simp)) ?_
  exact ⟨rfl, ((Below.refl _ _).alloc (Nat.le_refl _) _).alloc (by simp) _⟩
set_option maxHeartbeats 4000000 in
set_option maxRecDepth 100000 in
theorem null_any (w : World) : Calls Tryz.prog 190 #[] w (LeafPost 7 ⟨#[]⟩ 0 0 ⟨#[]⟩ w) := by
  have HN := Lib.hid (fun W => lit_any 0 0 ⟨#[]⟩ W)
  go_enter Tryz.func190, Tryz.ntmps190
  go_wp2_with fail
  refine (HN.out _).mono ?_
  rintro e w1 ⟨rfl, hb1⟩
  have HB := Lib.hid ((Box.laid w 29 z9).below hb1 (by simp))
  obtain ⟨⟨y0, y1, y2, y3, y4, y5, y6, y7, y8⟩, z0, z1, z2, z3, z4, z5, z6, z7, z8⟩ := box9z HB.out
  have H1 := Lib.hid (((Below.refl w.heap.size w).alloc (Nat.le_refl _) _).trans (hb1.mono (by simp)))
  clear hb1
  go_wp2_with fail
  refine post9 Tryz.results190 rfl rfl (HB.out.put9z _ _ _ _ _ _ _ _ _) ?_
  exact ⟨rfl, below9 H1.out (Nat.le_refl _) _ _ _ _ _ _ _ _ _⟩
set_option maxHeartbeats 4000000 in
set_option maxRecDepth 100000 in
theorem text_any (s : ByteArray) (w : World) : Calls Tryz.prog 177 #[.string s] w (LeafPost 7 ⟨#[]⟩ 4 0 s w) := by
  have HN := Lib.hid (fun W => lit_any 4 0 s W)
  go_enter Tryz.func177, Tryz.ntmps177
  go_wp2_with fail
  refine (HN.out _).mono ?_
  rintro e w1 ⟨rfl, hb1⟩
  have HB := Lib.hid ((Box.laid w 29 z9).below hb1 (by simp))
  obtain ⟨⟨y0, y1, y2, y3, y4, y5, y6, y7, y8⟩, z0, z1, z2, z3, z4, z5, z6, z7, z8⟩ := box9z HB.out
  have H1 := Lib.hid (((Below.refl w.heap.size w).alloc (Nat.le_refl _) _).trans (hb1.mono (by simp)))
  clear hb1
  go_wp2_with fail
  refine post9 Tryz.results177 rfl rfl (HB.out.put9z _ _ _ _ _ _ _ _ _) ?_
  exact ⟨rfl, below9 H1.out (Nat.le_refl _) _ _ _ _ _ _ _ _ _⟩
set_option maxHeartbeats 4000000 in
set_option maxRecDepth 100000 in
theorem var_any (s : ByteArray) (w : World) : Calls Tryz.prog 178 #[.string s] w (LeafPost 8 s 0 0 ⟨#[]⟩ w) := by
  go_enter Tryz.func178, Tryz.ntmps178
  go_wp2_with fail
  refine post9 Tryz.results178 rfl rfl (Box.laid _ _ _) ?_
  exact ⟨rfl, (Below.refl _ _).alloc (Nat.le_refl _) _⟩
theorem Und.grow {S : Nat → Prop} {w w' : World} {B : Nat} (hS : ∀ b, S b → b < w.heap.size) (hb : Below w.heap.size w w') : ∀ b, S b → Und S B w'.heap.size b ∧ w'.heap[b]? = w.heap[b]? := fun b h => ⟨.inl h, hb.block b (hS b h)⟩
theorem liesF_form {w : World} {S : Nat → Prop} {f : Ft} {c0 c1 c2 c3 c4 c5 c6 c7 c8 : Value} (h : LiesF w S f [c0, c1, c2, c3, c4, c5, c6, c7, c8]) : ∃ (op : Int) (tx : ByteArray) (k n : Int) (s : ByteArray) (A1 : Option Addr) (n1 m1 : Nat) (A2 : Option Addr) (n2 m2 : Nat) (A3 : Option Addr) (n3 m3 : Nat) (A4 : Option Addr) (n4 m4 : Nat),
    c0 = .int .i64 op ∧ c1 = .string tx ∧ c2 = .int .i64 k ∧ c3 = .int .i64 n ∧ c4 = .string s ∧ c5 = .slice A1 n1 m1 ∧ c6 = .slice A2 n2 m2 ∧ c7 = .slice A3 n3 m3 ∧ c8 = .slice A4 n4 m4 := by
  obtain ⟨op, tx, v, ps, fs⟩ := f
  obtain ⟨v0, v1, v2, v3, v4, A, a, B, b, xs, he, hv, -⟩ := liesF_open h
  obtain ⟨k, n, s, ks, es⟩ := v
  obtain ⟨A', a', B', b', xs', he', -⟩ := lies_open hv
  simp only [List.cons.injEq, and_true] at he he'
  obtain ⟨rfl, rfl, rfl, rfl, rfl, rfl, rfl, rfl, rfl⟩ := he
  obtain ⟨rfl, rfl, rfl, rfl, rfl⟩ := he'
  exact ⟨_, _, _, _, _, _, _, _, _, _, _, _, _, _, _, _, _, rfl, rfl, rfl, rfl, rfl, rfl, rfl, rfl, rfl⟩
set_option maxHeartbeats 4000000 in
set_option maxRecDepth 100000 in
theorem field_any {S : Nat → Prop} {f : Ft} {c0 c1 c2 c3 c4 c5 c6 c7 c8 : Value} (nm : ByteArray) (hnm : nm.size ≤ 140737488355328) (w : World) (hS : ∀ b, S b → b < w.heap.size) (hl : LiesF w S f [c0, c1, c2, c3, c4, c5, c6, c7, c8]) :
    Calls Tryz.prog 174 #[.agg #[c0, c1, c2, c3, c4, c5, c6, c7, c8], .string nm] w (NodePost S (fieldF f nm) w) := by
  have HL := Lib.hid hl
  obtain ⟨op, tx, k, n, s, A1, n1, m1, A2, n2, m2, A3, n3, m3, A4, n4, m4, rfl, rfl, rfl, rfl, rfl, rfl, rfl, rfl, rfl⟩ := liesF_form hl
  clear hl
  go_enter Tryz.func174, Tryz.ntmps174
  go_wp2_with fail
  refine post9 Tryz.results174 rfl rfl ((Box.laidAt _ _ _ (by simp)).alloc _) ?_
  have hb : Below w.heap.size w (w.alloc (.cells #[.int .i64 op, .string tx, .int .i64 k, .int .i64 n, .string s, .slice A1 n1 m1, .slice A2 n2 m2, .slice A3 n3 m3, .slice A4 n4 m4] 29)) := (Below.refl _ _).alloc (Nat.le_refl _) _
  have hb2 := (hb.alloc (by simp) (.cells #[.int .i64 3, .string nm, .int .i64 0, .int .i64 0, .string ⟨#[]⟩, .slice none 0 0, .slice none 0 0, .slice none 0 0, .slice (some ⟨w.heap.size + 1 + 1, 0, none⟩) 1 1] 29))
  have hb3 := hb2.alloc (by simp; omega) (.cells #[.int .i64 op, .string tx, .int .i64 k, .int .i64 n, .string s, .slice A1 n1 m1, .slice A2 n2 m2, .slice A3 n3 m3, .slice A4 n4 m4] 29)
  refine ⟨_, _, _, _, _, _, _, _, _, rfl, hb3, ?_⟩
  refine liesF_node 3 nm hnm rfl (by simp) (Nat.le_refl _) (by simp [maxLen]) (by omega) (rs_box (Box.laidAt _ _ _ (by simp)) (.inr ⟨by omega, by simp⟩)) ?_
  exact (LiesFL.one (LiesF.move HL.out (Und.grow hS hb3)))
theorem heap9a (w : World) (r : Nat) (u0 u1 u2 u3 u4 u5 u6 u7 u8 : Value) (o : Obj) (b : Nat) (hb : ¬ b = r) (hlt : b < w.heap.size) : (((((((((((w.setCell ⟨r, 0, none⟩ u0).setCell ⟨r, 1, none⟩ u1).setCell ⟨r, 2, none⟩ u2).setCell ⟨r, 3, none⟩ u3).setCell ⟨r, 4, none⟩ u4).setCell ⟨r, 5, none⟩ u5).setCell ⟨r, 6, none⟩ u6).setCell ⟨r, 7, none⟩ u7).setCell ⟨r, 8, none⟩ u8)).alloc o).heap[b]? = w.heap[b]? := by
  rw [Below.heap_alloc _ o b (by rw [size9]; exact hlt)]
  exact heap9 w r _ _ _ _ _ _ _ _ _ b hb
theorem World.size_alloc9 (w : World) (r : Nat) (u0 u1 u2 u3 u4 u5 u6 u7 u8 : Value) (o : Obj) : (((((((((((w.setCell ⟨r, 0, none⟩ u0).setCell ⟨r, 1, none⟩ u1).setCell ⟨r, 2, none⟩ u2).setCell ⟨r, 3, none⟩ u3).setCell ⟨r, 4, none⟩ u4).setCell ⟨r, 5, none⟩ u5).setCell ⟨r, 6, none⟩ u6).setCell ⟨r, 7, none⟩ u7).setCell ⟨r, 8, none⟩ u8)).alloc o).heap.size = w.heap.size + 1 := by
  simp [World.setCell]
set_option maxHeartbeats 4000000 in
set_option maxRecDepth 100000 in
theorem joined_any {S : Nat → Prop} {f u : Ft} {c0 c1 c2 c3 c4 c5 c6 c7 c8 d0 d1 d2 d3 d4 d5 d6 d7 d8 : Value} (op : Int) (sg : ByteArray) (hsg : sg.size ≤ 140737488355328) (w : World) (hS : ∀ b, S b → b < w.heap.size) (hl : LiesF w S f [c0, c1, c2, c3, c4, c5, c6, c7, c8]) (hl2 : LiesF w S u [d0, d1, d2, d3, d4, d5, d6, d7, d8]) :
    Calls Tryz.prog 55 #[.int .i64 op, .string sg, .agg #[c0, c1, c2, c3, c4, c5, c6, c7, c8], .agg #[d0, d1, d2, d3, d4, d5, d6, d7, d8]] w (NodePost S (joinF op sg f u) w) := by
  have HL := Lib.hid hl
  have HL2 := Lib.hid hl2
  obtain ⟨op1, tx1, k1, j1, s1, A1, n1, m1, A2, n2, m2, A3, n3, m3, A4, n4, m4, rfl, rfl, rfl, rfl, rfl, rfl, rfl, rfl, rfl⟩ := liesF_form hl
  obtain ⟨op2, tx2, k2, j2, s2, B1, p1, q1, B2, p2, q2, B3, p3, q3, B4, p4, q4, rfl, rfl, rfl, rfl, rfl, rfl, rfl, rfl, rfl⟩ := liesF_form hl2
  have HN := Lib.hid (fun A n c W => node_any op A n c W)
  unfold joinF opsT
  clear hl hl2
  by_cases h17 : op = 17
  · subst h17
    rw [if_pos (.inl rfl)]
    go_enter Tryz.func55, Tryz.ntmps55
    go_wp2_with fail
    refine (HN.out _ _ _ _).mono ?_
    rintro e w1 ⟨rfl, hb1⟩
    have HR := Lib.hid (((Box.laidAt ((w.alloc (.cells #[.int .i64 op1, .string tx1, .int .i64 k1, .int .i64 j1, .string s1, .slice A1 n1 m1, .slice A2 n2 m2, .slice A3 n3 m3, .slice A4 n4 m4] 29)).alloc (.cells #[.int .i64 op2, .string tx2, .int .i64 k2, .int .i64 j2, .string s2, .slice B1 p1 q1, .slice B2 p2 q2, .slice B3 p3 q3, .slice B4 p4 q4] 29)) 29 z9 (r := w.heap.size + 1 + 1) (by simp)).alloc _).below hb1 (by simp))
    have HF := Lib.hid ((Box.laidAt (((w.alloc (.cells #[.int .i64 op1, .string tx1, .int .i64 k1, .int .i64 j1, .string s1, .slice A1 n1 m1, .slice A2 n2 m2, .slice A3 n3 m3, .slice A4 n4 m4] 29)).alloc (.cells #[.int .i64 op2, .string tx2, .int .i64 k2, .int .i64 j2, .string s2, .slice B1 p1 q1, .slice B2 p2 q2, .slice B3 p3 q3, .slice B4 p4 q4] 29)).alloc (.cells z9 29)) 29 #[.int .i64 op1, .string tx1, .int .i64 k1, .int .i64 j1, .string s1, .slice A1 n1 m1, .slice A2 n2 m2, .slice A3 n3 m3, .slice A4 n4 m4, .int .i64 op2, .string tx2, .int .i64 k2, .int .i64 j2, .string s2, .slice B1 p1 q1, .slice B2 p2 q2, .slice B3 p3 q3, .slice B4 p4 q4] (r := w.heap.size + 1 + 1 + 1) (by simp)).below hb1 (by simp))
    have HB := Lib.hid ((((((Below.refl w.heap.size w).alloc (Nat.le_refl _) (.cells #[.int .i64 op1, .string tx1, .int .i64 k1, .int .i64 j1, .string s1, .slice A1 n1 m1, .slice A2 n2 m2, .slice A3 n3 m3, .slice A4 n4 m4] 29)).alloc (by simp) (.cells #[.int .i64 op2, .string tx2, .int .i64 k2, .int .i64 j2, .string s2, .slice B1 p1 q1, .slice B2 p2 q2, .slice B3 p3 q3, .slice B4 p4 q4] 29)).alloc (by simp; omega) (.cells z9 29)).alloc (by simp; omega) (.cells #[.int .i64 op1, .string tx1, .int .i64 k1, .int .i64 j1, .string s1, .slice A1 n1 m1, .slice A2 n2 m2, .slice A3 n3 m3, .slice A4 n4 m4, .int .i64 op2, .string tx2, .int .i64 k2, .int .i64 j2, .string s2, .slice B1 p1 q1, .slice B2 p2 q2, .slice B3 p3 q3, .slice B4 p4 q4] 29)).trans (hb1.mono (by simp; omega)))
    obtain ⟨⟨y0, y1, y2, y3, y4, y5, y6, y7, y8⟩, z0, z1, z2, z3, z4, z5, z6, z7, z8⟩ := box9z HR.out
    have hlt : w.heap.size + 1 + 1 + 1 < w1.heap.size := HF.out.lt
    have hlt2 : w.heap.size + 1 + 1 < w1.heap.size := HR.out.lt
    clear hb1
    go_wp2_with fail
    refine post9 Tryz.results55 rfl rfl ((HR.out.put9z _ _ _ _ _ _ _ _ _).alloc _) ?_
    refine ⟨_, _, _, _, _, _, _, _, _, rfl, (below9 HB.out (by omega) _ _ _ _ _ _ _ _ _).alloc (by rw [size9]; omega) _, ?_⟩
    have hnode : LiesF w1 (fun b => S b ∨ b = w.heap.size + 1 + 1 + 1) (.mk 17 sg vz [] [f, u]) _ := liesF_node 17 sg hsg rfl (by simp) (Nat.le_refl _) (by simp [maxLen]) (by simp) (rs_box HF.out (.inr rfl)) (show LiesFL w1 _ ([f] ++ [u]) ([.int .i64 op1, .string tx1, .int .i64 k1, .int .i64 j1, .string s1, .slice A1 n1 m1, .slice A2 n2 m2, .slice A3 n3 m3, .slice A4 n4 m4] ++ [.int .i64 op2, .string tx2, .int .i64 k2, .int .i64 j2, .string s2, .slice B1 p1 q1, .slice B2 p2 q2, .slice B3 p3 q3, .slice B4 p4 q4]) from LiesFL.append (LiesFL.one (LiesF.move HL.out fun b hb => ⟨.inl hb, HB.out.block b (hS b hb)⟩)) (LiesFL.one (LiesF.move HL2.out fun b hb => ⟨.inl hb, HB.out.block b (hS b hb)⟩)))
    refine LiesF.move hnode fun b hb => ?_
    rcases hb with hb | rfl
    · have hbl := hS b hb
      exact ⟨.inl hb, heap9a _ _ _ _ _ _ _ _ _ _ _ _ b (by omega) (by omega)⟩
    · exact ⟨.inr ⟨by omega, by rw [World.size_alloc9]; omega⟩, heap9a _ _ _ _ _ _ _ _ _ _ _ _ _ (by omega) (by omega)⟩
  by_cases h27 : op = 27
  · subst h27
    rw [if_pos (.inr rfl)]
    clear h17
    go_enter Tryz.func55, Tryz.ntmps55
    go_wp2_with fail
    refine (HN.out _ _ _ _).mono ?_
    rintro e w1 ⟨rfl, hb1⟩
    have HR := Lib.hid (((Box.laidAt ((w.alloc (.cells #[.int .i64 op1, .string tx1, .int .i64 k1, .int .i64 j1, .string s1, .slice A1 n1 m1, .slice A2 n2 m2, .slice A3 n3 m3, .slice A4 n4 m4] 29)).alloc (.cells #[.int .i64 op2, .string tx2, .int .i64 k2, .int .i64 j2, .string s2, .slice B1 p1 q1, .slice B2 p2 q2, .slice B3 p3 q3, .slice B4 p4 q4] 29)) 29 z9 (r := w.heap.size + 1 + 1) (by simp)).alloc _).below hb1 (by simp))
    have HF := Lib.hid ((Box.laidAt (((w.alloc (.cells #[.int .i64 op1, .string tx1, .int .i64 k1, .int .i64 j1, .string s1, .slice A1 n1 m1, .slice A2 n2 m2, .slice A3 n3 m3, .slice A4 n4 m4] 29)).alloc (.cells #[.int .i64 op2, .string tx2, .int .i64 k2, .int .i64 j2, .string s2, .slice B1 p1 q1, .slice B2 p2 q2, .slice B3 p3 q3, .slice B4 p4 q4] 29)).alloc (.cells z9 29)) 29 #[.int .i64 op1, .string tx1, .int .i64 k1, .int .i64 j1, .string s1, .slice A1 n1 m1, .slice A2 n2 m2, .slice A3 n3 m3, .slice A4 n4 m4, .int .i64 op2, .string tx2, .int .i64 k2, .int .i64 j2, .string s2, .slice B1 p1 q1, .slice B2 p2 q2, .slice B3 p3 q3, .slice B4 p4 q4] (r := w.heap.size + 1 + 1 + 1) (by simp)).below hb1 (by simp))
    have HB := Lib.hid ((((((Below.refl w.heap.size w).alloc (Nat.le_refl _) (.cells #[.int .i64 op1, .string tx1, .int .i64 k1, .int .i64 j1, .string s1, .slice A1 n1 m1, .slice A2 n2 m2, .slice A3 n3 m3, .slice A4 n4 m4] 29)).alloc (by simp) (.cells #[.int .i64 op2, .string tx2, .int .i64 k2, .int .i64 j2, .string s2, .slice B1 p1 q1, .slice B2 p2 q2, .slice B3 p3 q3, .slice B4 p4 q4] 29)).alloc (by simp; omega) (.cells z9 29)).alloc (by simp; omega) (.cells #[.int .i64 op1, .string tx1, .int .i64 k1, .int .i64 j1, .string s1, .slice A1 n1 m1, .slice A2 n2 m2, .slice A3 n3 m3, .slice A4 n4 m4, .int .i64 op2, .string tx2, .int .i64 k2, .int .i64 j2, .string s2, .slice B1 p1 q1, .slice B2 p2 q2, .slice B3 p3 q3, .slice B4 p4 q4] 29)).trans (hb1.mono (by simp; omega)))
    obtain ⟨⟨y0, y1, y2, y3, y4, y5, y6, y7, y8⟩, z0, z1, z2, z3, z4, z5, z6, z7, z8⟩ := box9z HR.out
    have hlt : w.heap.size + 1 + 1 + 1 < w1.heap.size := HF.out.lt
    have hlt2 : w.heap.size + 1 + 1 < w1.heap.size := HR.out.lt
    clear hb1
    go_wp2_with fail
    refine post9 Tryz.results55 rfl rfl ((HR.out.put9z _ _ _ _ _ _ _ _ _).alloc _) ?_
    refine ⟨_, _, _, _, _, _, _, _, _, rfl, (below9 HB.out (by omega) _ _ _ _ _ _ _ _ _).alloc (by rw [size9]; omega) _, ?_⟩
    have hnode : LiesF w1 (fun b => S b ∨ b = w.heap.size + 1 + 1 + 1) (.mk 27 sg vz [] [f, u]) _ := liesF_node 27 sg hsg rfl (by simp) (Nat.le_refl _) (by simp [maxLen]) (by simp) (rs_box HF.out (.inr rfl)) (show LiesFL w1 _ ([f] ++ [u]) ([.int .i64 op1, .string tx1, .int .i64 k1, .int .i64 j1, .string s1, .slice A1 n1 m1, .slice A2 n2 m2, .slice A3 n3 m3, .slice A4 n4 m4] ++ [.int .i64 op2, .string tx2, .int .i64 k2, .int .i64 j2, .string s2, .slice B1 p1 q1, .slice B2 p2 q2, .slice B3 p3 q3, .slice B4 p4 q4]) from LiesFL.append (LiesFL.one (LiesF.move HL.out fun b hb => ⟨.inl hb, HB.out.block b (hS b hb)⟩)) (LiesFL.one (LiesF.move HL2.out fun b hb => ⟨.inl hb, HB.out.block b (hS b hb)⟩)))
    refine LiesF.move hnode fun b hb => ?_
    rcases hb with hb | rfl
    · have hbl := hS b hb
      exact ⟨.inl hb, heap9a _ _ _ _ _ _ _ _ _ _ _ _ b (by omega) (by omega)⟩
    · exact ⟨.inr ⟨by omega, by rw [World.size_alloc9]; omega⟩, heap9a _ _ _ _ _ _ _ _ _ _ _ _ _ (by omega) (by omega)⟩
  · rw [if_neg (fun h => h.elim h17 h27)]
    have q17 : (op == 17) = false := beq_eq_false_iff_ne.2 h17
    have q27 : (op == 27) = false := beq_eq_false_iff_ne.2 h27
    clear h17 h27
    go_enter Tryz.func55, Tryz.ntmps55
    go_wp2_with fail
    refine (HN.out _ _ _ _).mono ?_
    rintro e w1 ⟨rfl, hb1⟩
    have HR := Lib.hid (((Box.laidAt ((w.alloc (.cells #[.int .i64 op1, .string tx1, .int .i64 k1, .int .i64 j1, .string s1, .slice A1 n1 m1, .slice A2 n2 m2, .slice A3 n3 m3, .slice A4 n4 m4] 29)).alloc (.cells #[.int .i64 op2, .string tx2, .int .i64 k2, .int .i64 j2, .string s2, .slice B1 p1 q1, .slice B2 p2 q2, .slice B3 p3 q3, .slice B4 p4 q4] 29)) 29 z9 (r := w.heap.size + 1 + 1) (by simp)).alloc _).below hb1 (by simp))
    have HF := Lib.hid ((Box.laidAt (((w.alloc (.cells #[.int .i64 op1, .string tx1, .int .i64 k1, .int .i64 j1, .string s1, .slice A1 n1 m1, .slice A2 n2 m2, .slice A3 n3 m3, .slice A4 n4 m4] 29)).alloc (.cells #[.int .i64 op2, .string tx2, .int .i64 k2, .int .i64 j2, .string s2, .slice B1 p1 q1, .slice B2 p2 q2, .slice B3 p3 q3, .slice B4 p4 q4] 29)).alloc (.cells z9 29)) 29 #[.int .i64 op1, .string tx1, .int .i64 k1, .int .i64 j1, .string s1, .slice A1 n1 m1, .slice A2 n2 m2, .slice A3 n3 m3, .slice A4 n4 m4, .int .i64 op2, .string tx2, .int .i64 k2, .int .i64 j2, .string s2, .slice B1 p1 q1, .slice B2 p2 q2, .slice B3 p3 q3, .slice B4 p4 q4] (r := w.heap.size + 1 + 1 + 1) (by simp)).below hb1 (by simp))
    have HB := Lib.hid ((((((Below.refl w.heap.size w).alloc (Nat.le_refl _) (.cells #[.int .i64 op1, .string tx1, .int .i64 k1, .int .i64 j1, .string s1, .slice A1 n1 m1, .slice A2 n2 m2, .slice A3 n3 m3, .slice A4 n4 m4] 29)).alloc (by simp) (.cells #[.int .i64 op2, .string tx2, .int .i64 k2, .int .i64 j2, .string s2, .slice B1 p1 q1, .slice B2 p2 q2, .slice B3 p3 q3, .slice B4 p4 q4] 29)).alloc (by simp; omega) (.cells z9 29)).alloc (by simp; omega) (.cells #[.int .i64 op1, .string tx1, .int .i64 k1, .int .i64 j1, .string s1, .slice A1 n1 m1, .slice A2 n2 m2, .slice A3 n3 m3, .slice A4 n4 m4, .int .i64 op2, .string tx2, .int .i64 k2, .int .i64 j2, .string s2, .slice B1 p1 q1, .slice B2 p2 q2, .slice B3 p3 q3, .slice B4 p4 q4] 29)).trans (hb1.mono (by simp; omega)))
    obtain ⟨⟨y0, y1, y2, y3, y4, y5, y6, y7, y8⟩, z0, z1, z2, z3, z4, z5, z6, z7, z8⟩ := box9z HR.out
    have hlt : w.heap.size + 1 + 1 + 1 < w1.heap.size := HF.out.lt
    have hlt2 : w.heap.size + 1 + 1 < w1.heap.size := HR.out.lt
    clear hb1
    go_wp2_with fail
    refine post9 Tryz.results55 rfl rfl ((HR.out.put9z _ _ _ _ _ _ _ _ _).alloc _) ?_
    refine ⟨_, _, _, _, _, _, _, _, _, rfl, (below9 HB.out (by omega) _ _ _ _ _ _ _ _ _).alloc (by rw [size9]; omega) _, ?_⟩
    have hnode : LiesF w1 (fun b => S b ∨ b = w.heap.size + 1 + 1 + 1) (.mk op ⟨#[]⟩ vz [] [f, u]) _ := liesF_node op ⟨#[]⟩ (by decide) rfl (by simp) (Nat.le_refl _) (by simp [maxLen]) (by simp) (rs_box HF.out (.inr rfl)) (show LiesFL w1 _ ([f] ++ [u]) ([.int .i64 op1, .string tx1, .int .i64 k1, .int .i64 j1, .string s1, .slice A1 n1 m1, .slice A2 n2 m2, .slice A3 n3 m3, .slice A4 n4 m4] ++ [.int .i64 op2, .string tx2, .int .i64 k2, .int .i64 j2, .string s2, .slice B1 p1 q1, .slice B2 p2 q2, .slice B3 p3 q3, .slice B4 p4 q4]) from LiesFL.append (LiesFL.one (LiesF.move HL.out fun b hb => ⟨.inl hb, HB.out.block b (hS b hb)⟩)) (LiesFL.one (LiesF.move HL2.out fun b hb => ⟨.inl hb, HB.out.block b (hS b hb)⟩)))
    refine LiesF.move hnode fun b hb => ?_
    rcases hb with hb | rfl
    · have hbl := hS b hb
      exact ⟨.inl hb, heap9a _ _ _ _ _ _ _ _ _ _ _ _ b (by omega) (by omega)⟩
    · exact ⟨.inr ⟨by omega, by rw [World.size_alloc9]; omega⟩, heap9a _ _ _ _ _ _ _ _ _ _ _ _ _ (by omega) (by omega)⟩

end Go.Proofs.YthgnelkppibpeaaGreatDoor

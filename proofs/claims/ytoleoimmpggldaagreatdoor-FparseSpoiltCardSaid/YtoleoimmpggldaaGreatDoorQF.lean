import Derived.Test.YtoleoimmpggldaaGreatDoorQE
set_option linter.unusedVariables false
set_option linter.unusedSectionVars false
set_option linter.unusedSimpArgs false
set_option maxHeartbeats 4000000
set_option maxRecDepth 100000
namespace Go.Proofs.YtoleoimmpggldaaGreatDoor
open Go.RowKit
theorem Box.laidAt (w : World) (t : TypeId) (cs : Array Value) {r : Nat} (h : w.heap.size = r) : Box (w.alloc (.cells cs t)) r t cs := by subst h; exact Box.laid w t cs
theorem lit_any (k n : Int) (s : ByteArray) (w : World) : Calls Tryz.prog 171 #[.agg #[ι k, ι n, .string s, nL, nL]] w (LeafPost 7 ⟨#[]⟩ k n s w) := by
 go_enter Tryz.func171, Tryz.ntmps171
 go_wp2_with fail;refine post9 Tryz.results171 rfl rfl (Box.laidAt _ _ _ (by simp)) ?_;exact ⟨rfl, ((Below.refl _ _).alloc (Nat.le_refl _) _).alloc (by simp) _⟩
theorem null_any (w : World) : Calls Tryz.prog 185 #[] w (LeafPost 7 ⟨#[]⟩ 0 0 ⟨#[]⟩ w) := by
 have HN := hI (fun W => lit_any 0 0 ⟨#[]⟩ W)
 go_enter Tryz.func185, Tryz.ntmps185
 go_wp2_with fail;refine (HN.out _).mono ?_;rintro e w1 ⟨rfl, hb1⟩;have HB := hI ((Box.laid w 29 z9).below hb1 (by simp));obtain ⟨⟨y0, y1, y2, y3, y4, y5, y6, y7, y8⟩, z0, z1, z2, z3, z4, z5, z6, z7, z8⟩ := box9z HB.out;have H1 := hI (((Below.refl w.heap.size w).alloc (Nat.le_refl _) _).trans (hb1.mono (by simp)));clear hb1;go_wp2_with fail;refine post9 Tryz.results185 rfl rfl (HB.out.put9z _ _ _ _ _ _ _ _ _) ?_;exact ⟨rfl, below9 H1.out (Nat.le_refl _) _ _ _ _ _ _ _ _ _⟩
theorem text_any (s : ByteArray) (w : World) : Calls Tryz.prog 172 #[.string s] w (LeafPost 7 ⟨#[]⟩ 4 0 s w) := by
 have HN := hI (fun W => lit_any 4 0 s W)
 go_enter Tryz.func172, Tryz.ntmps172
 go_wp2_with fail;refine (HN.out _).mono ?_;rintro e w1 ⟨rfl, hb1⟩;have HB := hI ((Box.laid w 29 z9).below hb1 (by simp));obtain ⟨⟨y0, y1, y2, y3, y4, y5, y6, y7, y8⟩, z0, z1, z2, z3, z4, z5, z6, z7, z8⟩ := box9z HB.out;have H1 := hI (((Below.refl w.heap.size w).alloc (Nat.le_refl _) _).trans (hb1.mono (by simp)));clear hb1;go_wp2_with fail;refine post9 Tryz.results172 rfl rfl (HB.out.put9z _ _ _ _ _ _ _ _ _) ?_;exact ⟨rfl, below9 H1.out (Nat.le_refl _) _ _ _ _ _ _ _ _ _⟩
theorem var_any (s : ByteArray) (w : World) : Calls Tryz.prog 173 #[.string s] w (LeafPost 8 s 0 0 ⟨#[]⟩ w) := by
 go_enter Tryz.func173, Tryz.ntmps173
 go_wp2_with fail;refine post9 Tryz.results173 rfl rfl (Box.laid _ _ _) ?_;exact ⟨rfl, (Below.refl _ _).alloc (Nat.le_refl _) _⟩
theorem Und.grow {S : Nat → Prop} {w w' : World} {B : Nat} (hS : ∀ b, S b → b < w.heap.size) (hb : Below w.heap.size w w') : ∀ b, S b → Und S B w'.heap.size b ∧ w'.heap[b]? = w.heap[b]? := fun b h => ⟨.inl h, hb.block b (hS b h)⟩
theorem liesF_form {w : World} {S : Nat → Prop} {f : Ft} {c0 c1 c2 c3 c4 c5 c6 c7 c8 : Value} (h : LiesF w S f [c0, c1, c2, c3, c4, c5, c6, c7, c8]) : ∃ (op : Int) (tx : ByteArray) (k n : Int) (s : ByteArray) (A1 : Option Addr) (n1 m1 : Nat) (A2 : Option Addr) (n2 m2 : Nat) (A3 : Option Addr) (n3 m3 : Nat) (A4 : Option Addr) (n4 m4 : Nat),
 c0 = ι op ∧ c1 = .string tx ∧ c2 = ι k ∧ c3 = ι n ∧ c4 = .string s ∧ c5 = .slice A1 n1 m1 ∧ c6 = .slice A2 n2 m2 ∧ c7 = .slice A3 n3 m3 ∧ c8 = .slice A4 n4 m4 := by
 obtain ⟨op, tx, v, ps, fs⟩ := f;obtain ⟨v0, v1, v2, v3, v4, A, a, B, b, xs, he, hv, -⟩ := liesF_open h;obtain ⟨k, n, s, ks, es⟩ := v;obtain ⟨A', a', B', b', xs', he', -⟩ := lies_open hv;simp only [List.cons.injEq, and_true] at he he';obtain ⟨rfl, rfl, rfl, rfl, rfl, rfl, rfl, rfl, rfl⟩ := he;obtain ⟨rfl, rfl, rfl, rfl, rfl⟩ := he';exact ⟨_, _, _, _, _, _, _, _, _, _, _, _, _, _, _, _, _, rfl, rfl, rfl, rfl, rfl, rfl, rfl, rfl, rfl⟩
theorem fr9 {w : World} {S : Nat → Prop} {f : Ft} {c0 c1 c2 c3 c4 c5 c6 c7 c8 : Value} (h : LiesF w S f [c0, c1, c2, c3, c4, c5, c6, c7, c8]) : ∃ n : N9, c0 = ι n.o ∧ c1 = .string n.t ∧ c2 = ι n.k ∧ c3 = ι n.j ∧ c4 = .string n.s ∧ c5 = .slice n.A n.a n.u ∧ c6 = .slice n.B n.b n.v ∧ c7 = .slice n.C n.e n.w ∧ c8 = .slice n.D n.d n.x := by
 obtain ⟨op, tx, k, j, s, A, a, u, B, b, v, C, e, w, D, d, x, h⟩ := liesF_form h
 exact ⟨⟨op, tx, k, j, s, A, a, u, B, b, v, C, e, w, D, d, x⟩, h⟩
theorem fr1 {cs : Array Value} (h : ∃ (op : Int) (tx : ByteArray) (k n : Int) (s : ByteArray) (A1 : Option Addr) (n1 m1 : Nat) (A2 : Option Addr) (n2 m2 : Nat) (A3 : Option Addr) (n3 m3 : Nat) (A4 : Option Addr) (n4 m4 : Nat), cs = #[.int .i64 op, .string tx, .int .i64 k, .int .i64 n, .string s, .slice A1 n1 m1, .slice A2 n2 m2, .slice A3 n3 m3, .slice A4 n4 m4]) : ∃ n : N9, cs = n.c := by
 obtain ⟨op, tx, k, j, s, A, a, u, B, b, v, C, e, w, D, d, x, h⟩ := h
 exact ⟨⟨op, tx, k, j, s, A, a, u, B, b, v, C, e, w, D, d, x⟩, h⟩
theorem fr3 {w : World} {S : Nat → Prop} {f : Ft} {e : Ending} {P Q : Prop} (h : ∃ c0 c1 c2 c3 c4 c5 c6 c7 c8 : Value, e = .returned (.agg #[c0, c1, c2, c3, c4, c5, c6, c7, c8]) ∧ P ∧ Q ∧ LiesF w S f [c0, c1, c2, c3, c4, c5, c6, c7, c8]) : ∃ n : N9, e = .returned (.agg #[.int .i64 n.o, .string n.t, .int .i64 n.k, .int .i64 n.j, .string n.s, .slice n.A n.a n.u, .slice n.B n.b n.v, .slice n.C n.e n.w, .slice n.D n.d n.x]) ∧ P ∧ Q ∧ LiesF w S f n.l := by
 obtain ⟨_, _, _, _, _, _, _, _, _, he, p, q, hl⟩ := h
 obtain ⟨n, rfl, rfl, rfl, rfl, rfl, rfl, rfl, rfl, rfl⟩ := fr9 hl
 exact ⟨n, he, p, q, hl⟩
theorem field_any {S : Nat → Prop} {f : Ft} {c0 c1 c2 c3 c4 c5 c6 c7 c8 : Value} (nm : ByteArray) (hnm : nm.size ≤ 140737488355328) (w : World) (hS : ∀ b, S b → b < w.heap.size) (hl : LiesF w S f [c0, c1, c2, c3, c4, c5, c6, c7, c8]) :
 Calls Tryz.prog 169 #[.agg #[c0, c1, c2, c3, c4, c5, c6, c7, c8], .string nm] w (NodePost S (fieldF f nm) w) := by
 have HL := hI hl;obtain ⟨op, tx, k, n, s, A1, n1, m1, A2, n2, m2, A3, n3, m3, A4, n4, m4, rfl, rfl, rfl, rfl, rfl, rfl, rfl, rfl, rfl⟩ := liesF_form hl;clear hl
 go_enter Tryz.func169, Tryz.ntmps169
 go_wp2_with fail;refine post9 Tryz.results169 rfl rfl ((Box.laidAt _ _ _ (by simp)).alloc _) ?_;have hb : Below w.heap.size w (w.alloc (.cells #[ι op, .string tx, ι k, ι n, .string s, .slice A1 n1 m1, .slice A2 n2 m2, .slice A3 n3 m3, .slice A4 n4 m4] 29)) := (Below.refl _ _).alloc (Nat.le_refl _) _;have hb2 := (hb.alloc (by simp) (.cells #[ι 3, .string nm, ι 0, ι 0, eS, nL, nL, nL, .slice (some ⟨w.heap.size + 1 + 1, 0, none⟩) 1 1] 29))
 have hb3 := hb2.alloc (by simp; omega) (.cells #[ι op, .string tx, ι k, ι n, .string s, .slice A1 n1 m1, .slice A2 n2 m2, .slice A3 n3 m3, .slice A4 n4 m4] 29);refine ⟨_, _, _, _, _, _, _, _, _, rfl, hb3, ?_⟩;refine liesF_node 3 nm hnm rfl (by simp) (Nat.le_refl _) (by simp [maxLen]) (by omega) (rs_box (Box.laidAt _ _ _ (by simp)) (.inr ⟨by omega, by simp⟩)) ?_;exact (LiesFL.one (LiesF.move HL.out (Und.grow hS hb3)))
theorem heap9a (w : World) (r : Nat) (u0 u1 u2 u3 u4 u5 u6 u7 u8 : Value) (o : Obj) (b : Nat) (hb : ¬ b = r) (hlt : b < w.heap.size) : (((((((((((w.setCell ⟨r, 0, none⟩ u0).setCell ⟨r, 1, none⟩ u1).setCell ⟨r, 2, none⟩ u2).setCell ⟨r, 3, none⟩ u3).setCell ⟨r, 4, none⟩ u4).setCell ⟨r, 5, none⟩ u5).setCell ⟨r, 6, none⟩ u6).setCell ⟨r, 7, none⟩ u7).setCell ⟨r, 8, none⟩ u8)).alloc o).heap[b]? = w.heap[b]? := by
 rw [Below.heap_alloc _ o b (by rw [size9]; exact hlt)];exact heap9 w r _ _ _ _ _ _ _ _ _ b hb
theorem World.size_alloc9 (w : World) (r : Nat) (u0 u1 u2 u3 u4 u5 u6 u7 u8 : Value) (o : Obj) : (((((((((((w.setCell ⟨r, 0, none⟩ u0).setCell ⟨r, 1, none⟩ u1).setCell ⟨r, 2, none⟩ u2).setCell ⟨r, 3, none⟩ u3).setCell ⟨r, 4, none⟩ u4).setCell ⟨r, 5, none⟩ u5).setCell ⟨r, 6, none⟩ u6).setCell ⟨r, 7, none⟩ u7).setCell ⟨r, 8, none⟩ u8)).alloc o).heap.size = w.heap.size + 1 := by
 simp [World.setCell]
theorem joined_any {S : Nat → Prop} {f u : Ft} {c0 c1 c2 c3 c4 c5 c6 c7 c8 d0 d1 d2 d3 d4 d5 d6 d7 d8 : Value} (op : Int) (sg : ByteArray) (hsg : sg.size ≤ 140737488355328) (w : World) (hS : ∀ b, S b → b < w.heap.size) (hl : LiesF w S f [c0, c1, c2, c3, c4, c5, c6, c7, c8]) (hl2 : LiesF w S u [d0, d1, d2, d3, d4, d5, d6, d7, d8]) :
 Calls Tryz.prog 50 #[ι op, .string sg, .agg #[c0, c1, c2, c3, c4, c5, c6, c7, c8], .agg #[d0, d1, d2, d3, d4, d5, d6, d7, d8]] w (NodePost S (joinF op sg f u) w) := by
 have HL := hI hl;have HL2 := hI hl2;obtain ⟨op1, tx1, k1, j1, s1, A1, n1, m1, A2, n2, m2, A3, n3, m3, A4, n4, m4, rfl, rfl, rfl, rfl, rfl, rfl, rfl, rfl, rfl⟩ := liesF_form hl;obtain ⟨op2, tx2, k2, j2, s2, B1, p1, q1, B2, p2, q2, B3, p3, q3, B4, p4, q4, rfl, rfl, rfl, rfl, rfl, rfl, rfl, rfl, rfl⟩ := liesF_form hl2;have HN := hI (fun A n c W => node_any op A n c W);unfold joinF opsT;clear hl hl2
 by_cases h17 : op = 17
 · subst h17;rw [if_pos (.inl rfl)]
   go_enter Tryz.func50, Tryz.ntmps50
   go_wp2_with fail;refine (HN.out _ _ _ _).mono ?_;rintro e w1 ⟨rfl, hb1⟩;have HR := hI (((Box.laidAt ((w.alloc (.cells #[ι op1, .string tx1, ι k1, ι j1, .string s1, .slice A1 n1 m1, .slice A2 n2 m2, .slice A3 n3 m3, .slice A4 n4 m4] 29)).alloc (.cells #[ι op2, .string tx2, ι k2, ι j2, .string s2, .slice B1 p1 q1, .slice B2 p2 q2, .slice B3 p3 q3, .slice B4 p4 q4] 29)) 29 z9 (r := w.heap.size + 1 + 1) (by simp)).alloc _).below hb1 (by simp));have HF := hI ((Box.laidAt (((w.alloc (.cells #[ι op1, .string tx1, ι k1, ι j1, .string s1, .slice A1 n1 m1, .slice A2 n2 m2, .slice A3 n3 m3, .slice A4 n4 m4] 29)).alloc (.cells #[ι op2, .string tx2, ι k2, ι j2, .string s2, .slice B1 p1 q1, .slice B2 p2 q2, .slice B3 p3 q3, .slice B4 p4 q4] 29)).alloc (.cells z9 29)) 29 #[ι op1, .string tx1, ι k1, ι j1, .string s1, .slice A1 n1 m1, .slice A2 n2 m2, .slice A3 n3 m3, .slice A4 n4 m4, ι op2, .string tx2, ι k2, ι j2, .string s2, .slice B1 p1 q1, .slice B2 p2 q2, .slice B3 p3 q3, .slice B4 p4 q4] (r := w.heap.size + 1 + 1 + 1) (by simp)).below hb1 (by simp));have HB := hI ((((((Below.refl w.heap.size w).alloc (Nat.le_refl _) (.cells #[ι op1, .string tx1, ι k1, ι j1, .string s1, .slice A1 n1 m1, .slice A2 n2 m2, .slice A3 n3 m3, .slice A4 n4 m4] 29)).alloc (by simp) (.cells #[ι op2, .string tx2, ι k2, ι j2, .string s2, .slice B1 p1 q1, .slice B2 p2 q2, .slice B3 p3 q3, .slice B4 p4 q4] 29)).alloc (by simp; omega) (.cells z9 29)).alloc (by simp; omega) (.cells #[ι op1, .string tx1, ι k1, ι j1, .string s1, .slice A1 n1 m1, .slice A2 n2 m2, .slice A3 n3 m3, .slice A4 n4 m4, ι op2, .string tx2, ι k2, ι j2, .string s2, .slice B1 p1 q1, .slice B2 p2 q2, .slice B3 p3 q3, .slice B4 p4 q4] 29)).trans (hb1.mono (by simp; omega)));obtain ⟨⟨y0, y1, y2, y3, y4, y5, y6, y7, y8⟩, z0, z1, z2, z3, z4, z5, z6, z7, z8⟩ := box9z HR.out;have hlt : w.heap.size + 1 + 1 + 1 < w1.heap.size := HF.out.lt;have hlt2 : w.heap.size + 1 + 1 < w1.heap.size := HR.out.lt;clear hb1;go_wp2_with fail;refine post9 Tryz.results50 rfl rfl ((HR.out.put9z _ _ _ _ _ _ _ _ _).alloc _) ?_;refine ⟨_, _, _, _, _, _, _, _, _, rfl, (below9 HB.out (by omega) _ _ _ _ _ _ _ _ _).alloc (by rw [size9]; omega) _, ?_⟩;have hnode : LiesF w1 (fun b => S b ∨ b = w.heap.size + 1 + 1 + 1) (.mk 17 sg vz [] [f, u]) _ := liesF_node 17 sg hsg rfl (by simp) (Nat.le_refl _) (by simp [maxLen]) (by simp) (rs_box HF.out (.inr rfl)) (show LiesFL w1 _ ([f] ++ [u]) ([ι op1, .string tx1, ι k1, ι j1, .string s1, .slice A1 n1 m1, .slice A2 n2 m2, .slice A3 n3 m3, .slice A4 n4 m4] ++ [ι op2, .string tx2, ι k2, ι j2, .string s2, .slice B1 p1 q1, .slice B2 p2 q2, .slice B3 p3 q3, .slice B4 p4 q4]) from LiesFL.append (LiesFL.one (LiesF.move HL.out fun b hb => ⟨.inl hb, HB.out.block b (hS b hb)⟩)) (LiesFL.one (LiesF.move HL2.out fun b hb => ⟨.inl hb, HB.out.block b (hS b hb)⟩)));refine LiesF.move hnode fun b hb => ?_
   rcases hb with hb | rfl
   · have hbl := hS b hb;exact ⟨.inl hb, heap9a _ _ _ _ _ _ _ _ _ _ _ _ b (by omega) (by omega)⟩
   · exact ⟨.inr ⟨by omega, by rw [World.size_alloc9]; omega⟩, heap9a _ _ _ _ _ _ _ _ _ _ _ _ _ (by omega) (by omega)⟩
 by_cases h27 : op = 27
 · subst h27;rw [if_pos (.inr rfl)];clear h17
   go_enter Tryz.func50, Tryz.ntmps50
   go_wp2_with fail;refine (HN.out _ _ _ _).mono ?_;rintro e w1 ⟨rfl, hb1⟩;have HR := hI (((Box.laidAt ((w.alloc (.cells #[ι op1, .string tx1, ι k1, ι j1, .string s1, .slice A1 n1 m1, .slice A2 n2 m2, .slice A3 n3 m3, .slice A4 n4 m4] 29)).alloc (.cells #[ι op2, .string tx2, ι k2, ι j2, .string s2, .slice B1 p1 q1, .slice B2 p2 q2, .slice B3 p3 q3, .slice B4 p4 q4] 29)) 29 z9 (r := w.heap.size + 1 + 1) (by simp)).alloc _).below hb1 (by simp));have HF := hI ((Box.laidAt (((w.alloc (.cells #[ι op1, .string tx1, ι k1, ι j1, .string s1, .slice A1 n1 m1, .slice A2 n2 m2, .slice A3 n3 m3, .slice A4 n4 m4] 29)).alloc (.cells #[ι op2, .string tx2, ι k2, ι j2, .string s2, .slice B1 p1 q1, .slice B2 p2 q2, .slice B3 p3 q3, .slice B4 p4 q4] 29)).alloc (.cells z9 29)) 29 #[ι op1, .string tx1, ι k1, ι j1, .string s1, .slice A1 n1 m1, .slice A2 n2 m2, .slice A3 n3 m3, .slice A4 n4 m4, ι op2, .string tx2, ι k2, ι j2, .string s2, .slice B1 p1 q1, .slice B2 p2 q2, .slice B3 p3 q3, .slice B4 p4 q4] (r := w.heap.size + 1 + 1 + 1) (by simp)).below hb1 (by simp));have HB := hI ((((((Below.refl w.heap.size w).alloc (Nat.le_refl _) (.cells #[ι op1, .string tx1, ι k1, ι j1, .string s1, .slice A1 n1 m1, .slice A2 n2 m2, .slice A3 n3 m3, .slice A4 n4 m4] 29)).alloc (by simp) (.cells #[ι op2, .string tx2, ι k2, ι j2, .string s2, .slice B1 p1 q1, .slice B2 p2 q2, .slice B3 p3 q3, .slice B4 p4 q4] 29)).alloc (by simp; omega) (.cells z9 29)).alloc (by simp; omega) (.cells #[ι op1, .string tx1, ι k1, ι j1, .string s1, .slice A1 n1 m1, .slice A2 n2 m2, .slice A3 n3 m3, .slice A4 n4 m4, ι op2, .string tx2, ι k2, ι j2, .string s2, .slice B1 p1 q1, .slice B2 p2 q2, .slice B3 p3 q3, .slice B4 p4 q4] 29)).trans (hb1.mono (by simp; omega)));obtain ⟨⟨y0, y1, y2, y3, y4, y5, y6, y7, y8⟩, z0, z1, z2, z3, z4, z5, z6, z7, z8⟩ := box9z HR.out;have hlt : w.heap.size + 1 + 1 + 1 < w1.heap.size := HF.out.lt;have hlt2 : w.heap.size + 1 + 1 < w1.heap.size := HR.out.lt;clear hb1;go_wp2_with fail;refine post9 Tryz.results50 rfl rfl ((HR.out.put9z _ _ _ _ _ _ _ _ _).alloc _) ?_;refine ⟨_, _, _, _, _, _, _, _, _, rfl, (below9 HB.out (by omega) _ _ _ _ _ _ _ _ _).alloc (by rw [size9]; omega) _, ?_⟩;have hnode : LiesF w1 (fun b => S b ∨ b = w.heap.size + 1 + 1 + 1) (.mk 27 sg vz [] [f, u]) _ := liesF_node 27 sg hsg rfl (by simp) (Nat.le_refl _) (by simp [maxLen]) (by simp) (rs_box HF.out (.inr rfl)) (show LiesFL w1 _ ([f] ++ [u]) ([ι op1, .string tx1, ι k1, ι j1, .string s1, .slice A1 n1 m1, .slice A2 n2 m2, .slice A3 n3 m3, .slice A4 n4 m4] ++ [ι op2, .string tx2, ι k2, ι j2, .string s2, .slice B1 p1 q1, .slice B2 p2 q2, .slice B3 p3 q3, .slice B4 p4 q4]) from LiesFL.append (LiesFL.one (LiesF.move HL.out fun b hb => ⟨.inl hb, HB.out.block b (hS b hb)⟩)) (LiesFL.one (LiesF.move HL2.out fun b hb => ⟨.inl hb, HB.out.block b (hS b hb)⟩)));refine LiesF.move hnode fun b hb => ?_
   rcases hb with hb | rfl
   · have hbl := hS b hb;exact ⟨.inl hb, heap9a _ _ _ _ _ _ _ _ _ _ _ _ b (by omega) (by omega)⟩
   · exact ⟨.inr ⟨by omega, by rw [World.size_alloc9]; omega⟩, heap9a _ _ _ _ _ _ _ _ _ _ _ _ _ (by omega) (by omega)⟩
 · rw [if_neg (fun h => h.elim h17 h27)];have q17 : (op == 17) = false := bF.2 h17;have q27 : (op == 27) = false := bF.2 h27;clear h17 h27
   go_enter Tryz.func50, Tryz.ntmps50
   go_wp2_with fail;refine (HN.out _ _ _ _).mono ?_;rintro e w1 ⟨rfl, hb1⟩;have HR := hI (((Box.laidAt ((w.alloc (.cells #[ι op1, .string tx1, ι k1, ι j1, .string s1, .slice A1 n1 m1, .slice A2 n2 m2, .slice A3 n3 m3, .slice A4 n4 m4] 29)).alloc (.cells #[ι op2, .string tx2, ι k2, ι j2, .string s2, .slice B1 p1 q1, .slice B2 p2 q2, .slice B3 p3 q3, .slice B4 p4 q4] 29)) 29 z9 (r := w.heap.size + 1 + 1) (by simp)).alloc _).below hb1 (by simp));have HF := hI ((Box.laidAt (((w.alloc (.cells #[ι op1, .string tx1, ι k1, ι j1, .string s1, .slice A1 n1 m1, .slice A2 n2 m2, .slice A3 n3 m3, .slice A4 n4 m4] 29)).alloc (.cells #[ι op2, .string tx2, ι k2, ι j2, .string s2, .slice B1 p1 q1, .slice B2 p2 q2, .slice B3 p3 q3, .slice B4 p4 q4] 29)).alloc (.cells z9 29)) 29 #[ι op1, .string tx1, ι k1, ι j1, .string s1, .slice A1 n1 m1, .slice A2 n2 m2, .slice A3 n3 m3, .slice A4 n4 m4, ι op2, .string tx2, ι k2, ι j2, .string s2, .slice B1 p1 q1, .slice B2 p2 q2, .slice B3 p3 q3, .slice B4 p4 q4] (r := w.heap.size + 1 + 1 + 1) (by simp)).below hb1 (by simp));have HB := hI ((((((Below.refl w.heap.size w).alloc (Nat.le_refl _) (.cells #[ι op1, .string tx1, ι k1, ι j1, .string s1, .slice A1 n1 m1, .slice A2 n2 m2, .slice A3 n3 m3, .slice A4 n4 m4] 29)).alloc (by simp) (.cells #[ι op2, .string tx2, ι k2, ι j2, .string s2, .slice B1 p1 q1, .slice B2 p2 q2, .slice B3 p3 q3, .slice B4 p4 q4] 29)).alloc (by simp; omega) (.cells z9 29)).alloc (by simp; omega) (.cells #[ι op1, .string tx1, ι k1, ι j1, .string s1, .slice A1 n1 m1, .slice A2 n2 m2, .slice A3 n3 m3, .slice A4 n4 m4, ι op2, .string tx2, ι k2, ι j2, .string s2, .slice B1 p1 q1, .slice B2 p2 q2, .slice B3 p3 q3, .slice B4 p4 q4] 29)).trans (hb1.mono (by simp; omega)));obtain ⟨⟨y0, y1, y2, y3, y4, y5, y6, y7, y8⟩, z0, z1, z2, z3, z4, z5, z6, z7, z8⟩ := box9z HR.out;have hlt : w.heap.size + 1 + 1 + 1 < w1.heap.size := HF.out.lt;have hlt2 : w.heap.size + 1 + 1 < w1.heap.size := HR.out.lt;clear hb1;go_wp2_with fail;refine post9 Tryz.results50 rfl rfl ((HR.out.put9z _ _ _ _ _ _ _ _ _).alloc _) ?_;refine ⟨_, _, _, _, _, _, _, _, _, rfl, (below9 HB.out (by omega) _ _ _ _ _ _ _ _ _).alloc (by rw [size9]; omega) _, ?_⟩;have hnode : LiesF w1 (fun b => S b ∨ b = w.heap.size + 1 + 1 + 1) (.mk op ⟨#[]⟩ vz [] [f, u]) _ := liesF_node op ⟨#[]⟩ (by decide) rfl (by simp) (Nat.le_refl _) (by simp [maxLen]) (by simp) (rs_box HF.out (.inr rfl)) (show LiesFL w1 _ ([f] ++ [u]) ([ι op1, .string tx1, ι k1, ι j1, .string s1, .slice A1 n1 m1, .slice A2 n2 m2, .slice A3 n3 m3, .slice A4 n4 m4] ++ [ι op2, .string tx2, ι k2, ι j2, .string s2, .slice B1 p1 q1, .slice B2 p2 q2, .slice B3 p3 q3, .slice B4 p4 q4]) from LiesFL.append (LiesFL.one (LiesF.move HL.out fun b hb => ⟨.inl hb, HB.out.block b (hS b hb)⟩)) (LiesFL.one (LiesF.move HL2.out fun b hb => ⟨.inl hb, HB.out.block b (hS b hb)⟩)));refine LiesF.move hnode fun b hb => ?_
   rcases hb with hb | rfl
   · have hbl := hS b hb;exact ⟨.inl hb, heap9a _ _ _ _ _ _ _ _ _ _ _ _ b (by omega) (by omega)⟩
   · exact ⟨.inr ⟨by omega, by rw [World.size_alloc9]; omega⟩, heap9a _ _ _ _ _ _ _ _ _ _ _ _ _ (by omega) (by omega)⟩

end Go.Proofs.YtoleoimmpggldaaGreatDoor
namespace Go.Proofs.YtoleoimmpggldaaGreatDoor
open Go.RowKit
def EntF (f : Nat) : Prop := ∀ (args : Array Value) (W : World), Sem.run Tryz.prog (callFunc f args) W = .ok (.enter f args) W
structure FSt (L : List Fk) (gt C g : Nat) (w0 w : World) (σ : PS) (q : Nat) (f : Ft) (cs : Array Value) : Prop where
 s : RSt L gt C g w0 w σ
 bx : Box w q 29 cs
 q0 : w0.heap.size < q
 t : LiesF w (fun b => w0.heap.size < b ∧ b < w.heap.size ∧ ¬ b = q) f cs.toList
section
variable {L : List Fk} {gt C g : Nat} {w w' w0 : World} {σ τ : PS} {q : Nat} {f : Ft} {cs : Array Value}
theorem FSt.start (h : RSt L gt C g w0 w σ) (ht : TreeAt w0 w f cs.toList) : FSt L gt C g w0 (w.alloc (.cells cs 29)) σ w.heap.size f cs :=
 ⟨h.alloc _, Box.laid _ _ _, h.lt, LiesF.move ht fun b hb => ⟨⟨hb.1, by simp; have := hb.2; omega, by have := hb.2; omega⟩, Below.heap_alloc _ _ _ hb.2⟩⟩
theorem FSt.next (h : FSt L gt C g w0 w σ q f cs) (hg : Gr g w w') (hp : PAt L gt C g w' τ) : FSt L gt C g w0 w' τ q f cs :=
 ⟨h.s.next hg hp, h.bx.grown hg (by intro e; injection e with e; have := h.s.g0; have := h.q0; omega), h.q0,
  LiesF.move h.t fun b hb => ⟨⟨hb.1, nT hb.2.1 hg.size, hb.2.2⟩, hg.block hb.2.1 (by have := hb.1; have := h.s.g0; omega)⟩⟩
theorem FSt.low (h : FSt L gt C g w0 w σ q f cs) (hb : Below w.heap.size w w') : FSt L gt C g w0 w' σ q f cs := h.next (Gr.below hb) (h.s.p.next hb)
theorem FSt.alloc (h : FSt L gt C g w0 w σ q f cs) (o : Obj) : FSt L gt C g w0 (w.alloc o) σ q f cs := h.low ((Below.refl _ _).alloc (Nat.le_refl _) o)
theorem FSt.drew (h : FSt L gt C g w0 w σ q f cs) : FSt L gt C g w0 w.drew σ q f cs := h.low (Below.refl _ _).drew
theorem TreeAt.und {U : Nat → Prop} {W : World} {t : Ft} {xs : List Value} (hl : LiesF w' (Und U W.heap.size w'.heap.size) t xs) (hU : ∀ b, U b → w0.heap.size < b ∧ b < w'.heap.size) (hW : w0.heap.size < W.heap.size) : TreeAt w0 w' t xs :=
 LiesF.move hl fun b hb => ⟨hb.elim (fun h => hU b h) (fun h => ⟨nT hW h.1, h.2⟩), rfl⟩
theorem Box.far9 {T : TypeId} (h : Box w q T cs) {r : Nat} (hr : ¬ q = r) (u0 u1 u2 u3 u4 u5 u6 u7 u8 : Value) : Box (((((((((w.setCell ⟨r, 0, none⟩ u0).setCell ⟨r, 1, none⟩ u1).setCell ⟨r, 2, none⟩ u2).setCell ⟨r, 3, none⟩ u3).setCell ⟨r, 4, none⟩ u4).setCell ⟨r, 5, none⟩ u5).setCell ⟨r, 6, none⟩ u6).setCell ⟨r, 7, none⟩ u7).setCell ⟨r, 8, none⟩ u8) q T cs := (heap9 w r u0 u1 u2 u3 u4 u5 u6 u7 u8 q hr).trans h
theorem FSt.tree (h : FSt L gt C g w0 w σ q f cs) : TreeAt w0 w f cs.toList := LiesF.move h.t fun b hb => ⟨⟨hb.1, hb.2.1⟩, rfl⟩
end
theorem pair_any {L : List Fk} (hL : TokL L) {gt C g : Nat} {fl fr : Nat} {l r : PM} (el : EntF fl) (er : EntF fr) (hl : OkF L gt C g fl l) (hr : OkF L gt C g fr r) (op : Int) (sg : List ByteArray) (hsl : sg.length ≤ 100) (h : Nat) (w : World) (σ τ : PS) (t : Ft) (hP : PAt L gt C g w σ) (hs : StrRow w h sg) (hng : h ≠ g) (hm : pairM L l r op sg σ = some (t, τ)) :
 Calls Tryz.prog 24 #[.pointer (some ⟨g, 0, none⟩), .func (.func fl) #[] #[], .func (.func fr) #[] #[], ι op, .slice (some ⟨h, 0, none⟩) sg.length sg.length] w (RetF L gt C g w t τ) := by
 obtain ⟨f, σ1, h1, h2⟩ := bnd_some hm;have HL := hI (fun W (hW : PAt L gt C g W σ) => hl W σ f σ1 hW h1);have H0 := hI (RSt.start hP);have HS := hI hs;unfold EntF at el er;have hsz := (hL.size σ1.k)
 obtain ⟨b, hb⟩ : ∃ b, anyP L sg σ1 = b := ⟨_, rfl⟩
 have HT := hI (fun W (hW : PAt L gt C g W σ1) (hw : StrRow W h sg) => takeAny_any hL h sg hw hsl b hb hW);rw [hb] at h2;clear hb hP hs hm h1 hl hsl
 cases b with
 | false =>
  rw [if_neg (by decide)] at h2;injection h2 with h2
  injection h2 with h3 h4
  subst h3; subst h4;clear hr er
  go_enter Tryz.func24, Tryz.ntmps24
  go_wp2_with fail;refine (HL.out _ H0.out.p).mono ?_;rintro e w1 ⟨c0, c1, c2, c3, c4, c5, c6, c7, c8, rfl, hg1, hp1, hl1⟩;have HT1 := hI (TreeAt.of (w0 := w) hl1 (by simp));obtain ⟨op1, tx1, k1, j1, s1, A1, n1, m1, A2, n2, m2, A3, n3, m3, A4, n4, m4, rfl, rfl, rfl, rfl, rfl, rfl, rfl, rfl, rfl⟩ := liesF_form hl1;have H1 := hI (FSt.start (cs := #[ι op1, .string tx1, ι k1, ι j1, .string s1, .slice A1 n1 m1, .slice A2 n2 m2, .slice A3 n3 m3, .slice A4 n4 m4]) (H0.out.next hg1 hp1) HT1.out);have HS1 := hI (HS.out.gr (((Gr.one (g := g) w (.cells z9 29)).trans hg1).alloc (.cells #[ι op1, .string tx1, ι k1, ι j1, .string s1, .slice A1 n1 m1, .slice A2 n2 m2, .slice A3 n3 m3, .slice A4 n4 m4] 29)) hng);clear hg1 hp1 hl1;go_wp2_with fail;refine (HT.out _ H1.out.s.p HS1.out).mono ?_;rintro e w2 ⟨rfl, hg2, hp2⟩;have H2 := hI (H1.out.next hg2 hp2);obtain ⟨y0, y1, y2, y3, y4, y5, y6, y7, y8⟩ := box9 H2.out.bx;have x0 := H2.out.s.cells;clear hg2 hp2;go_wp2_with fail;refine post9 Tryz.results24 rfl rfl (H2.out.s.r.put9z _ _ _ _ _ _ _ _ _) ?_;exact H2.out.s.close H2.out.tree
 | true =>
  rw [if_pos rfl] at h2;obtain ⟨u, σ2, h3, h4⟩ := bnd_some h2;injection h4 with h4
  injection h4 with h5 h6
  subst h5; subst h6;have HR := hI (fun W (hW : PAt L gt C g W (adv σ1)) => hr W (adv σ1) u σ2 hW h3);generalize (tk L σ1.k).s = S at HT hsz ⊢;have HJ := hI (fun (U : Nat → Prop) W (hU : ∀ b, U b → b < W.heap.size) c0 c1 c2 c3 c4 c5 c6 c7 c8 d0 d1 d2 d3 d4 d5 d6 d7 d8 (hf : LiesF W U f [c0, c1, c2, c3, c4, c5, c6, c7, c8]) (hu : LiesF W U u [d0, d1, d2, d3, d4, d5, d6, d7, d8]) => joined_any op S (by omega) W hU hf hu);clear hr h2 h3 hsz
  go_enter Tryz.func24, Tryz.ntmps24
  go_wp2_with fail;refine (HL.out _ H0.out.p).mono ?_;rintro e w1 ⟨c0, c1, c2, c3, c4, c5, c6, c7, c8, rfl, hg1, hp1, hl1⟩;have HT1 := hI (TreeAt.of (w0 := w) hl1 (by simp));obtain ⟨op1, tx1, k1, j1, s1, A1, n1, m1, A2, n2, m2, A3, n3, m3, A4, n4, m4, rfl, rfl, rfl, rfl, rfl, rfl, rfl, rfl, rfl⟩ := liesF_form hl1;have H1 := hI (FSt.start (cs := #[ι op1, .string tx1, ι k1, ι j1, .string s1, .slice A1 n1 m1, .slice A2 n2 m2, .slice A3 n3 m3, .slice A4 n4 m4]) (H0.out.next hg1 hp1) HT1.out);have HS1 := hI (HS.out.gr (((Gr.one (g := g) w (.cells z9 29)).trans hg1).alloc (.cells #[ι op1, .string tx1, ι k1, ι j1, .string s1, .slice A1 n1 m1, .slice A2 n2 m2, .slice A3 n3 m3, .slice A4 n4 m4] 29)) hng);clear hg1 hp1 hl1;go_wp2_with fail;refine (HT.out _ H1.out.s.p HS1.out).mono ?_;rintro e w2 ⟨rfl, hg2, hp2⟩;have H2 := hI (H1.out.next hg2 hp2);have hsq := H2.out.bx.lt;generalize w1.heap.size = q at H2 hsq ⊢;clear hg2 hp2 H1 HS1 HT1;go_upto_region 4 with (fail)
  have keep : Hid (∀ X τ, FSt L gt C g w X τ q f #[ι op1, .string tx1, ι k1, ι j1, .string s1, .slice A1 n1 m1, .slice A2 n2 m2, .slice A3 n3 m3, .slice A4 n4 m4] → X.cell? ⟨q, 0, none⟩ = some (ι op1) ∧ X.cell? ⟨q, 1, none⟩ = some (.string tx1) ∧ X.cell? ⟨q, 2, none⟩ = some (ι k1) ∧ X.cell? ⟨q, 3, none⟩ = some (ι j1) ∧ X.cell? ⟨q, 4, none⟩ = some (.string s1) ∧ X.cell? ⟨q, 5, none⟩ = some (.slice A1 n1 m1) ∧ X.cell? ⟨q, 6, none⟩ = some (.slice A2 n2 m2) ∧ X.cell? ⟨q, 7, none⟩ = some (.slice A3 n3 m3) ∧ X.cell? ⟨q, 8, none⟩ = some (.slice A4 n4 m4)) := hI fun X τ hX => box9 hX.bx
  obtain ⟨y0, y1, y2, y3, y4, y5, y6, y7, y8⟩ := keep.out _ _ H2.out
  go_region_held3 (fun X => X.cell? ⟨q, 0, none⟩ = some (ι op1) ∧ X.cell? ⟨q, 1, none⟩ = some (.string tx1) ∧ X.cell? ⟨q, 2, none⟩ = some (ι k1) ∧ X.cell? ⟨q, 3, none⟩ = some (ι j1) ∧ X.cell? ⟨q, 4, none⟩ = some (.string s1) ∧ X.cell? ⟨q, 5, none⟩ = some (.slice A1 n1 m1) ∧ X.cell? ⟨q, 6, none⟩ = some (.slice A2 n2 m2) ∧ X.cell? ⟨q, 7, none⟩ = some (.slice A3 n3 m3) ∧ X.cell? ⟨q, 8, none⟩ = some (.slice A4 n4 m4))
   (first
    | with_reducible exact keep.out _ _ H2.out.drew
    | with_reducible exact keep.out _ _ H3.out
    | with_reducible exact keep.out _ _ H4.out
    | exact box9 (H4.out.bx.far9 (by have := H4.out.q0; omega) _ _ _ _ _ _ _ _ _))
   (first
    | (go_at_call 50; (refine (HJ.out (Nw (w.heap.size + 1) w3.heap.size) _ (fun b hb => hb.2) _ _ _ _ _ _ _ _ _ _ _ _ _ _ _ _ _ _ H3.out.tree HT3.out).mono ?_); rintro e w4 ⟨e0, e1, e2, e3, e4, e5, e6, e7, e8, rfl, hb4, hl4⟩; obtain ⟨op3, tx3, k3, j3, s3, D1, p5, q5, D2, p6, q6, D3, p7, q7, D4, p8, q8, rfl, rfl, rfl, rfl, rfl, rfl, rfl, rfl, rfl⟩ := liesF_form hl4; have H4 := hI (H3.out.low hb4); have HT4 := hI (TreeAt.und (w0 := w) hl4 (fun b hb => ⟨hb.1, nT hb.2 hb4.size⟩) H3.out.s.lt); have x0 := H4.out.s.cells)
    | (refine (HR.out _ H2.out.drew.s.p).mono ?_; rintro e w3 ⟨d0, d1, d2, d3, d4, d5, d6, d7, d8, rfl, hg3, hp3, hl3⟩; obtain ⟨op2, tx2, k2, j2, s2, B1, p1, q1, B2, p2, q2, B3, p3, q3, B4, p4, q4, rfl, rfl, rfl, rfl, rfl, rfl, rfl, rfl, rfl⟩ := liesF_form hl3; have H3 := hI (H2.out.drew.next hg3 hp3); have HT3 := hI (TreeAt.of (w0 := w) hl3 H2.out.drew.s.lt)))
  go_wp2_with fail;refine post9 Tryz.results24 rfl rfl (H4.out.s.r.put9z _ _ _ _ _ _ _ _ _) ?_;exact H4.out.s.close HT4.out
theorem FSt.form {L : List Fk} {gt C g : Nat} {w w0 : World} {σ : PS} {q : Nat} {f : Ft} {cs : Array Value} (h : FSt L gt C g w0 w σ q f cs) : ∃ (op : Int) (tx : ByteArray) (k n : Int) (s : ByteArray) (A1 : Option Addr) (n1 m1 : Nat) (A2 : Option Addr) (n2 m2 : Nat) (A3 : Option Addr) (n3 m3 : Nat) (A4 : Option Addr) (n4 m4 : Nat),
 cs = #[ι op, .string tx, ι k, ι n, .string s, .slice A1 n1 m1, .slice A2 n2 m2, .slice A3 n3 m3, .slice A4 n4 m4] := by
 obtain ⟨c0, c1, c2, c3, c4, c5, c6, c7, c8, hc⟩ := h.t.cells9;have ht := h.t;rw [hc] at ht;obtain ⟨op, tx, k, n, s, A1, n1, m1, A2, n2, m2, A3, n3, m3, A4, n4, m4, rfl, rfl, rfl, rfl, rfl, rfl, rfl, rfl, rfl⟩ := liesF_form ht;exact ⟨op, tx, k, n, s, A1, n1, m1, A2, n2, m2, A3, n3, m3, A4, n4, m4, Array.toList_inj.1 (by rw [hc])⟩
theorem FSt.put {L : List Fk} {gt C g : Nat} {w w0 : World} {σ : PS} {q : Nat} {f t : Ft} {c0 c1 c2 c3 c4 c5 c6 c7 c8 u0 u1 u2 u3 u4 u5 u6 u7 u8 : Value} (h : FSt L gt C g w0 w σ q f #[c0, c1, c2, c3, c4, c5, c6, c7, c8]) (ht : LiesF w (fun b => w0.heap.size < b ∧ b < w.heap.size ∧ ¬ b = q) t [u0, u1, u2, u3, u4, u5, u6, u7, u8]) :
 FSt L gt C g w0 (((((((((w.setCell ⟨q, 0, none⟩ u0).setCell ⟨q, 1, none⟩ u1).setCell ⟨q, 2, none⟩ u2).setCell ⟨q, 3, none⟩ u3).setCell ⟨q, 4, none⟩ u4).setCell ⟨q, 5, none⟩ u5).setCell ⟨q, 6, none⟩ u6).setCell ⟨q, 7, none⟩ u7).setCell ⟨q, 8, none⟩ u8) σ q t #[u0, u1, u2, u3, u4, u5, u6, u7, u8] := by
 have h0 := h.q0;have hg := h.s.g0;have hgt := h.s.gt0;refine ⟨⟨h.s.p.far9 (by omega) (by omega) _ _ _ _ _ _ _ _ _, h.s.gr.put9 (by omega) _ _ _ _ _ _ _ _ _, h.s.r.far9 (by omega) _ _ _ _ _ _ _ _ _, hg, hgt⟩, h.bx.put9 _ _ _ _ _ _ _ _ _, h0, LiesF.move ht fun b hb => ⟨by rw [size9]; exact hb, heap9 _ _ _ _ _ _ _ _ _ _ _ b hb.2.2⟩⟩
def ChSt (L : List Fk) (gt C g : Nat) (w0 : World) (q : Nat) (m : PM) (op : Int) (sg : List ByteArray) (t : Ft) (τ : PS) (gg : Nat) (s10 s11 : Value) (wr : World) : Prop :=
 ∃ (n : Nat) (f : Ft) (σ : PS) (cs : Array Value) (b : Bool), n ≤ gg ∧ chainL L m op sg (n + 1) f σ = some (t, τ) ∧ anyP L sg σ = b ∧ s10 = .string (if b = true then (tk L σ.k).s else ⟨#[]⟩) ∧ s11 = .bool b ∧ FSt L gt C g w0 wr (if b = true then adv σ else σ) q f cs
end Go.Proofs.YtoleoimmpggldaaGreatDoor
namespace Go.Proofs.YtoleoimmpggldaaGreatDoor
open Go.RowKit
theorem chain_any {L : List Fk} (hL : TokL L) {gt C g : Nat} {fm : Nat} {m : PM} (em : EntF fm) (hmf : OkF L gt C g fm m) (op : Int) (sg : List ByteArray) (hsl : sg.length ≤ 100) (h : Nat) (n : Nat) (w : World) (σ τ : PS) (t : Ft) (hP : PAt L gt C g w σ) (hs : StrRow w h sg) (hng : h ≠ g) (hm : chainM L m op sg n σ = some (t, τ)) :
 Calls Tryz.prog 51 #[.pointer (some ⟨g, 0, none⟩), .func (.func fm) #[] #[], ι op, .slice (some ⟨h, 0, none⟩) sg.length sg.length] w (RetF L gt C g w t τ) := by
 obtain ⟨f, σ1, h1, h2⟩ := bnd_some hm;obtain ⟨n, rfl⟩ : ∃ n', n = n' + 1 := by
  cases n with
  | zero => exact absurd h2 (by simp [chainL])
  | succ n => exact ⟨n, rfl⟩
 have HL := hI (fun W (hW : PAt L gt C g W σ) => hmf W σ f σ1 hW h1);have HM := hI hmf;have H0 := hI (RSt.start hP);have HS := hI hs;have H2 := hI h2;have hlw := hs.1;unfold EntF at em;have HSZ := hI hL.size;obtain ⟨b, hb⟩ : ∃ b, anyP L sg σ1 = b := ⟨_, rfl⟩
 have HB := hI hb;have HT := hI (fun W σ (b : Bool) (hb : anyP L sg σ = b) (hW : PAt L gt C g W σ) (hw : StrRow W h sg) => takeAny_any hL h sg hw hsl b hb hW);have HJ := hI (fun (f u : Ft) (S : ByteArray) (hS : S.size ≤ 1048576) (U : Nat → Prop) W (hU : ∀ b, U b → b < W.heap.size) c0 c1 c2 c3 c4 c5 c6 c7 c8 d0 d1 d2 d3 d4 d5 d6 d7 d8 (hf : LiesF W U f [c0, c1, c2, c3, c4, c5, c6, c7, c8]) (hu : LiesF W U u [d0, d1, d2, d3, d4, d5, d6, d7, d8]) => joined_any op S (by omega) W hU hf hu);clear hb hP hs hm h1 h2 hmf hsl
 go_enter Tryz.func51, Tryz.ntmps51
 go_wp2_with fail;refine (HL.out _ H0.out.p).mono ?_;rintro e w1 ⟨c0, c1, c2, c3, c4, c5, c6, c7, c8, rfl, hg1, hp1, hl1⟩;have HT1 := hI (TreeAt.of (w0 := w) hl1 (by simp));obtain ⟨op1, tx1, k1, j1, s1, A1, n1, m1, A2, n2, m2, A3, n3, m3, A4, n4, m4, rfl, rfl, rfl, rfl, rfl, rfl, rfl, rfl, rfl⟩ := liesF_form hl1;have H1 := hI (FSt.start (cs := #[ι op1, .string tx1, ι k1, ι j1, .string s1, .slice A1 n1 m1, .slice A2 n2 m2, .slice A3 n3 m3, .slice A4 n4 m4]) (H0.out.next hg1 hp1) HT1.out);have HS1 := hI (HS.out.gr (((Gr.one (g := g) w (.cells z9 29)).trans hg1).alloc (.cells #[ι op1, .string tx1, ι k1, ι j1, .string s1, .slice A1 n1 m1, .slice A2 n2 m2, .slice A3 n3 m3, .slice A4 n4 m4] 29)) hng);clear hg1 hp1 hl1;go_wp2_with fail;refine (HT.out _ _ b HB.out H1.out.s.p HS1.out).mono ?_;rintro e w2 ⟨rfl, hg2, hp2⟩;have H3 := hI (H1.out.next hg2 hp2);generalize w1.heap.size = q at H3 ⊢;clear hg2 hp2 H1 HS1 HT1;have HX : Hid (ChSt L gt C g w q m op sg t τ n (.string (if b = true then (tk L σ1.k).s else ⟨#[]⟩)) (.bool b) w2) := hI ⟨n, f, σ1, _, b, Nat.le_refl _, H2.out, HB.out, rfl, rfl, H3.out⟩;generalize (if b = true then (tk L σ1.k).s else ⟨#[]⟩) = S0 at HX ⊢;go_wp2_with fail
 go_loopg [10, 11] n (fun gg s10 s11 wr => Hid (ChSt L gt C g w q m op sg t τ gg s10 s11 wr))
 case atStart => exact HX
 case round =>
  clear HX HB H2 H3;obtain ⟨n', f', σk, cs, b, hn, hc, hb, rfl, rfl, HF⟩ := hrel.out;clear hrel;have HF := hI HF;obtain ⟨op1, tx1, k1, j1, s1, A1, n1, m1, A2, n2, m2, A3, n3, m3, A4, n4, m4, rfl⟩ := HF.out.form;rw [chainL] at hc;dsimp only at hc;rw [hb] at hc;have HB := hI hb;clear hb
  cases b with
  | false =>
   rw [if_neg (by decide)] at hc;injection hc with hc
   injection hc with h3 h4
   subst h3; subst h4;have HF2 : Hid (FSt L gt C g w wr σk q f' #[ι op1, .string tx1, ι k1, ι j1, .string s1, .slice A1 n1 m1, .slice A2 n2 m2, .slice A3 n3 m3, .slice A4 n4 m4]) := HF;have y0 := box9 HF2.out.bx;have x0 := HF2.out.s.cells;go_wp2_with fail
   (try simp only [Exit.inBlock, Exit.then])
   go_wp2_with fail;refine post9 Tryz.results51 rfl rfl (HF2.out.s.r.put9z _ _ _ _ _ _ _ _ _) ?_;exact HF2.out.s.close HF2.out.tree
  | true =>
   rw [if_pos rfl] at hc;obtain ⟨u, σ2, h3, h4⟩ := bnd_some hc;have H4 := hI h4;have HF2 : Hid (FSt L gt C g w wr (adv σk) q f' #[ι op1, .string tx1, ι k1, ι j1, .string s1, .slice A1 n1 m1, .slice A2 n2 m2, .slice A3 n3 m3, .slice A4 n4 m4]) := HF;have HR := hI (fun W (hW : PAt L gt C g W (adv σk)) => HM.out W (adv σk) u σ2 hW h3);clear hc h3 h4 HF
   (try simp only [if_true])
   have hsz := HSZ.out σk.k;generalize (tk L σk.k).s = S at hsz H4 ⊢;have y0 := box9 HF2.out.bx;have hq0 := HF2.out.q0;have hqlt := HF2.out.bx.lt;go_upto_region 5 with (fail)
   refine wp_region_noPanic ?_;refine wp_region_held_drew (S := fun _ => True) (by kernel_rfl) trivial (fun hHeld => ?_);refine wpAnyH_take (i := 0) (v := ?_) rfl (by kernel_rfl) (by kernel_rfl) (by kernel_rfl) (fun _ _ _ h => h) (Or.inl ⟨by rfl, ?ytkc0⟩) (by assumption) ?_
   case ytkc0 => (intro w hSw; (try dsimp only at hSw); go_simp <;> with_reducible rfl)
   try simp only [Act.put, sA, sZ, sS]
   refine wpAnyH_take (i := 1) (v := ?_) rfl (by kernel_rfl) (by kernel_rfl) (by kernel_rfl) (fun _ _ _ h => h) (Or.inl ⟨by rfl, ?ytkc1⟩) (by assumption) ?_
   case ytkc1 => (intro w hSw; (try dsimp only at hSw); go_simp <;> with_reducible rfl)
   try simp only [Act.put, sA, sZ, sS]
   refine wpAnyH_take (i := 3) (v := ?_) rfl (by kernel_rfl) (by kernel_rfl) (by kernel_rfl) (fun _ _ _ h => h) (Or.inl ⟨by rfl, ?ytkc2⟩) (by assumption) ?_
   case ytkc2 => (intro w hSw; (try dsimp only at hSw); go_simp <;> with_reducible rfl)
   try simp only [Act.put, sA, sZ, sS]
   refine wpAnyH_take (i := 4) (v := ?_) rfl (by kernel_rfl) (by kernel_rfl) (by kernel_rfl) (fun _ _ _ h => h) (Or.inl ⟨by rfl, ?ytkc3⟩) (by assumption) ?_
   case ytkc3 => (intro w hSw; (try dsimp only at hSw); go_simp <;> with_reducible rfl)
   try simp only [Act.put, sA, sZ, sS]
   refine wpAnyH_ready (rs := [2, 5]) (by kernel_rfl) (by simp) ?_;refine .cons rfl (fun Kc hK => ?_) (.cons rfl (fun Kc hK => ?_) .nil)
   · skip;go_simp;refine hK.out _ _ trivial (fun _ => ?_);clear hK Kc
     try simp only [Act.put, sA, sZ, sS]
     refine wpAnyH_ready (rs := [5]) (by kernel_rfl) (by simp) ?_;refine .cons rfl (fun Kc hK => ?_) .nil;go_simp;refine (HR.out _ HF2.out.drew.s.p).mono ?_;rintro e w3 ⟨d0, d1, d2, d3, d4, d5, d6, d7, d8, rfl, hg3, hp3, hl3⟩;obtain ⟨op2, tx2, k2, j2, s2, B1, p1, q1, B2, p2, q2, B3, p3, q3, B4, p4, q4, rfl, rfl, rfl, rfl, rfl, rfl, rfl, rfl, rfl⟩ := liesF_form hl3;have H3 := hI (HF2.out.drew.next hg3 hp3);have HT3 : Hid (LiesF w3 (fun b => w.heap.size < b ∧ b < w3.heap.size ∧ ¬ b = q) u _) := hI (LiesF.move hl3 fun b hb => ⟨⟨nT HF2.out.drew.s.lt hb.1, hb.2, by have := hb.1; have := HF2.out.drew.bx.lt; omega⟩, rfl⟩);clear hg3 hp3 hl3;refine hK.out _ _ trivial (fun _ => ?_);clear hK Kc
     try simp only [Act.put, sA, sZ, sS]
     refine wpAnyH_ready (rs := [6]) (by kernel_rfl) (by simp) ?_;refine .cons rfl (fun Kc hK => ?_) .nil;go_simp;refine (HJ.out f' u S hsz (fun b => w.heap.size < b ∧ b < w3.heap.size ∧ ¬ b = q) _ (fun b hb => hb.2.1) _ _ _ _ _ _ _ _ _ _ _ _ _ _ _ _ _ _ H3.out.t HT3.out).mono ?_;rintro e w4 ⟨e0, e1, e2, e3, e4, e5, e6, e7, e8, rfl, hb4, hl4⟩;obtain ⟨op3, tx3, k3, j3, s3, D1, p5, q5, D2, p6, q6, D3, p7, q7, D4, p8, q8, rfl, rfl, rfl, rfl, rfl, rfl, rfl, rfl, rfl⟩ := liesF_form hl4;have H4' := hI (H3.out.low hb4);have HT4 : Hid (LiesF w4 (fun b => w.heap.size < b ∧ b < w4.heap.size ∧ ¬ b = q) _ _) := hI (LiesF.move hl4 fun b hb => ⟨hb.elim (fun h => ⟨h.1, nT h.2.1 hb4.size, h.2.2⟩) (fun h => ⟨nT H3.out.s.lt h.1, h.2, by have := h.1; have := H3.out.bx.lt; omega⟩), rfl⟩);have HF5 := hI (H4'.out.put HT4.out);have x0 := box9 H4'.out.bx;have z0 := box9f H4'.out.bx;clear hb4 hl4;refine hK.out _ _ trivial (fun _ => ?_);clear hK Kc
     try simp only [Act.put, sA, sZ, sS]
     refine wpAnyH_ready (rs := [7]) (by kernel_rfl) (by simp) ?_;refine .cons rfl (fun Kc hK => ?_) .nil;go_simp;refine hK.out _ _ trivial (fun _ => ?_);clear hK Kc
     try simp only [Act.put, sA, sZ, sS]
     refine wpAnyH_done (by kernel_rfl) ?_ _;refine NoPanic.normal ?_;obtain ⟨n2, hn2⟩ : ∃ n2, n' = n2 + 1 := by
      cases n' with
      | zero => exact absurd H4.out (by simp [chainL])
      | succ n => exact ⟨n, rfl⟩
     subst hn2;have HS5 := hI (HS.out.gr HF5.out.s.gr hng);obtain ⟨b2, hb2⟩ : ∃ b, anyP L sg σ2 = b := ⟨_, rfl⟩
     have HB2 := hI hb2;clear hb2 hHeld x0 z0 y0;go_wp2_with fail;refine (HT.out _ _ b2 HB2.out HF5.out.s.p HS5.out).mono ?_;rintro e w6 ⟨rfl, hg6, hp6⟩;have HX : Hid (ChSt L gt C g w q m op sg t τ n2 (.string (if b2 = true then (tk L σ2.k).s else ⟨#[]⟩)) (.bool b2) w6) := hI ⟨n2, _, σ2, _, b2, Nat.le_refl _, H4.out, HB2.out, rfl, rfl, HF5.out.next hg6 hp6⟩;clear hg6 hp6;generalize (if b2 = true then (tk L σ2.k).s else ⟨#[]⟩) = S2 at HX ⊢;go_wp2_with fail
     go_roundg n2
     case measure => omega
     case rel => exact HX
   · skip;go_simp;refine (HR.out _ HF2.out.drew.s.p).mono ?_;rintro e w3 ⟨d0, d1, d2, d3, d4, d5, d6, d7, d8, rfl, hg3, hp3, hl3⟩;obtain ⟨op2, tx2, k2, j2, s2, B1, p1, q1, B2, p2, q2, B3, p3, q3, B4, p4, q4, rfl, rfl, rfl, rfl, rfl, rfl, rfl, rfl, rfl⟩ := liesF_form hl3;have H3 := hI (HF2.out.drew.next hg3 hp3);have HT3 : Hid (LiesF w3 (fun b => w.heap.size < b ∧ b < w3.heap.size ∧ ¬ b = q) u _) := hI (LiesF.move hl3 fun b hb => ⟨⟨nT HF2.out.drew.s.lt hb.1, hb.2, by have := hb.1; have := HF2.out.drew.bx.lt; omega⟩, rfl⟩);clear hg3 hp3 hl3;refine hK.out _ _ trivial (fun _ => ?_);clear hK Kc
     try simp only [Act.put, sA, sZ, sS]
     have v0 := box9 H3.out.bx;refine wpAnyH_ready (rs := [2]) (by kernel_rfl) (by simp) ?_;refine .cons rfl (fun Kc hK => ?_) .nil;go_simp;refine hK.out _ _ trivial (fun _ => ?_);clear hK Kc
     try simp only [Act.put, sA, sZ, sS]
     refine wpAnyH_ready (rs := [6]) (by kernel_rfl) (by simp) ?_;refine .cons rfl (fun Kc hK => ?_) .nil;go_simp;refine (HJ.out f' u S hsz (fun b => w.heap.size < b ∧ b < w3.heap.size ∧ ¬ b = q) _ (fun b hb => hb.2.1) _ _ _ _ _ _ _ _ _ _ _ _ _ _ _ _ _ _ H3.out.t HT3.out).mono ?_;rintro e w4 ⟨e0, e1, e2, e3, e4, e5, e6, e7, e8, rfl, hb4, hl4⟩;obtain ⟨op3, tx3, k3, j3, s3, D1, p5, q5, D2, p6, q6, D3, p7, q7, D4, p8, q8, rfl, rfl, rfl, rfl, rfl, rfl, rfl, rfl, rfl⟩ := liesF_form hl4;have H4' := hI (H3.out.low hb4);have HT4 : Hid (LiesF w4 (fun b => w.heap.size < b ∧ b < w4.heap.size ∧ ¬ b = q) _ _) := hI (LiesF.move hl4 fun b hb => ⟨hb.elim (fun h => ⟨h.1, nT h.2.1 hb4.size, h.2.2⟩) (fun h => ⟨nT H3.out.s.lt h.1, h.2, by have := h.1; have := H3.out.bx.lt; omega⟩), rfl⟩);have HF5 := hI (H4'.out.put HT4.out);have x0 := box9 H4'.out.bx;have z0 := box9f H4'.out.bx;clear hb4 hl4;refine hK.out _ _ trivial (fun _ => ?_);clear hK Kc
     try simp only [Act.put, sA, sZ, sS]
     refine wpAnyH_ready (rs := [7]) (by kernel_rfl) (by simp) ?_;refine .cons rfl (fun Kc hK => ?_) .nil;go_simp;refine hK.out _ _ trivial (fun _ => ?_);clear hK Kc
     try simp only [Act.put, sA, sZ, sS]
     refine wpAnyH_done (by kernel_rfl) ?_ _;refine NoPanic.normal ?_;obtain ⟨n2, hn2⟩ : ∃ n2, n' = n2 + 1 := by
      cases n' with
      | zero => exact absurd H4.out (by simp [chainL])
      | succ n => exact ⟨n, rfl⟩
     subst hn2;have HS5 := hI (HS.out.gr HF5.out.s.gr hng);obtain ⟨b2, hb2⟩ : ∃ b, anyP L sg σ2 = b := ⟨_, rfl⟩
     have HB2 := hI hb2;clear hb2 hHeld x0 z0 y0;go_wp2_with fail;refine (HT.out _ _ b2 HB2.out HF5.out.s.p HS5.out).mono ?_;rintro e w6 ⟨rfl, hg6, hp6⟩;have HX : Hid (ChSt L gt C g w q m op sg t τ n2 (.string (if b2 = true then (tk L σ2.k).s else ⟨#[]⟩)) (.bool b2) w6) := hI ⟨n2, _, σ2, _, b2, Nat.le_refl _, H4.out, HB2.out, rfl, rfl, HF5.out.next hg6 hp6⟩;clear hg6 hp6;generalize (if b2 = true then (tk L σ2.k).s else ⟨#[]⟩) = S2 at HX ⊢;go_wp2_with fail
     go_roundg n2
     case measure => omega
     case rel => exact HX
end Go.Proofs.YtoleoimmpggldaaGreatDoor
namespace Go.Proofs.YtoleoimmpggldaaGreatDoor
open Go.RowKit
theorem StrRow.new (w : World) (T : TypeId) (cs : Array Value) (xs : List ByteArray) {h : Nat} (hr : w.heap.size = h) (hc : cs.toList = xs.map Value.string) : StrRow (w.alloc (.cells cs T)) h xs := by
 subst hr;refine ⟨by simp, fun j u hj => ?_⟩;refine (Box.laid w T cs).cell ?_;rw [← Array.getElem?_toList, hc, List.getElem?_map, hj]
 rfl
def fnum : Ru → Nat
 | .filter => 13
 | .comma => 25
 | .update => 52
 | .alt => 78
 | .or_ => 98
 | .and_ => 112
 | .cmp => 123
 | .sum => 129
 | .product => 135
 | .unary => 141
 | .operand => 149
 | .post => 156
 | .primary => 164
 | .condition => 189
theorem ent_filter : EntF 13 := fun _ _ => by kernel_rfl
theorem ent_comma : EntF 25 := fun _ _ => by kernel_rfl
theorem ent_update : EntF 52 := fun _ _ => by kernel_rfl
theorem ent_alt : EntF 78 := fun _ _ => by kernel_rfl
theorem ent_or : EntF 98 := fun _ _ => by kernel_rfl
theorem ent_and : EntF 112 := fun _ _ => by kernel_rfl
theorem ent_cmp : EntF 123 := fun _ _ => by kernel_rfl
theorem ent_sum : EntF 129 := fun _ _ => by kernel_rfl
theorem ent_product : EntF 135 := fun _ _ => by kernel_rfl
theorem ent_unary : EntF 141 := fun _ _ => by kernel_rfl
def OkA (L : List Fk) (gt C g : Nat) (call : Ru → PM) : Prop := ∀ r, OkF L gt C g (fnum r) (call r)
theorem filter_any {L : List Fk} (hL : TokL L) {gt C g : Nat} {call : Ru → PM} (n : Nat) (hA : OkA L gt C g call) : OkF L gt C g 13 (pairM L (call .comma) (call .filter) 12 [(⟨#[124]⟩ : ByteArray)]) := by
 intro W σ t τ hP hm;have H0 := hI (RSt.start hP);have H1 := hI (H0.out.alloc (.cells #[.string ⟨#[124]⟩] 9));have HR : Hid (StrRow ((W.alloc (.cells z9 29)).alloc (.cells #[.string ⟨#[124]⟩] 9)) (W.heap.size + 1) [(⟨#[124]⟩ : ByteArray)]) := hI (StrRow.new _ _ _ _ (by simp) rfl);have hg0 := hP.glt;have hng : W.heap.size + 1 ≠ g := by omega
 have HC := hI (pair_any hL ent_comma ent_filter (hA .comma) (hA .filter) 12 [(⟨#[124]⟩ : ByteArray)] (by decide) (W.heap.size + 1) _ σ τ t H1.out.p HR.out hng hm);clear hP hA hm
 go_enter Tryz.func13, Tryz.ntmps13
 go_wp2_with fail;refine HC.out.mono ?_;rintro e w1 ⟨c0, c1, c2, c3, c4, c5, c6, c7, c8, rfl, hg1, hp1, hl1⟩;have HT1 := hI (TreeAt.of (w0 := W) hl1 H1.out.lt);obtain ⟨op1, tx1, k1, j1, s1, A1, n1, m1, A2, n2, m2, A3, n3, m3, A4, n4, m4, rfl, rfl, rfl, rfl, rfl, rfl, rfl, rfl, rfl⟩ := liesF_form hl1;have H2 := hI (H1.out.next hg1 hp1);have x0 := H2.out.cells;clear hg1 hp1 hl1;go_wp2_with fail;refine post9 Tryz.results13 rfl rfl (H2.out.r.put9z _ _ _ _ _ _ _ _ _) ?_;exact H2.out.close HT1.out
theorem comma_any {L : List Fk} (hL : TokL L) {gt C g : Nat} {call : Ru → PM} (n : Nat) (hA : OkA L gt C g call) : OkF L gt C g 25 (chainM L (call .update) 13 [(⟨#[44]⟩ : ByteArray)] n) := by
 intro W σ t τ hP hm;have H0 := hI (RSt.start hP);have H1 := hI (H0.out.alloc (.cells #[.string ⟨#[44]⟩] 9));have HR : Hid (StrRow ((W.alloc (.cells z9 29)).alloc (.cells #[.string ⟨#[44]⟩] 9)) (W.heap.size + 1) [(⟨#[44]⟩ : ByteArray)]) := hI (StrRow.new _ _ _ _ (by simp) rfl);have hg0 := hP.glt;have hng : W.heap.size + 1 ≠ g := by omega
 have HC := hI (chain_any hL ent_update (hA .update) 13 [(⟨#[44]⟩ : ByteArray)] (by decide) (W.heap.size + 1) n _ σ τ t H1.out.p HR.out hng hm);clear hP hA hm
 go_enter Tryz.func25, Tryz.ntmps25
 go_wp2_with fail;refine HC.out.mono ?_;rintro e w1 ⟨c0, c1, c2, c3, c4, c5, c6, c7, c8, rfl, hg1, hp1, hl1⟩;have HT1 := hI (TreeAt.of (w0 := W) hl1 H1.out.lt);obtain ⟨op1, tx1, k1, j1, s1, A1, n1, m1, A2, n2, m2, A3, n3, m3, A4, n4, m4, rfl, rfl, rfl, rfl, rfl, rfl, rfl, rfl, rfl⟩ := liesF_form hl1;have H2 := hI (H1.out.next hg1 hp1);have x0 := H2.out.cells;clear hg1 hp1 hl1;go_wp2_with fail;refine post9 Tryz.results25 rfl rfl (H2.out.r.put9z _ _ _ _ _ _ _ _ _) ?_;exact H2.out.close HT1.out
theorem update_any {L : List Fk} (hL : TokL L) {gt C g : Nat} {call : Ru → PM} (n : Nat) (hA : OkA L gt C g call) : OkF L gt C g 52 (pairM L (call .alt) (call .alt) 27 [(⟨#[61]⟩ : ByteArray), (⟨#[124, 61]⟩ : ByteArray), (⟨#[43, 61]⟩ : ByteArray), (⟨#[45, 61]⟩ : ByteArray), (⟨#[42, 61]⟩ : ByteArray), (⟨#[47, 61]⟩ : ByteArray), (⟨#[37, 61]⟩ : ByteArray)]) := by
 intro W σ t τ hP hm;have H0 := hI (RSt.start hP);have H1 := hI (H0.out.alloc (.cells #[.string ⟨#[61]⟩, .string ⟨#[124, 61]⟩, .string ⟨#[43, 61]⟩, .string ⟨#[45, 61]⟩, .string ⟨#[42, 61]⟩, .string ⟨#[47, 61]⟩, .string ⟨#[37, 61]⟩] 9));have HR : Hid (StrRow ((W.alloc (.cells z9 29)).alloc (.cells #[.string ⟨#[61]⟩, .string ⟨#[124, 61]⟩, .string ⟨#[43, 61]⟩, .string ⟨#[45, 61]⟩, .string ⟨#[42, 61]⟩, .string ⟨#[47, 61]⟩, .string ⟨#[37, 61]⟩] 9)) (W.heap.size + 1) [(⟨#[61]⟩ : ByteArray), (⟨#[124, 61]⟩ : ByteArray), (⟨#[43, 61]⟩ : ByteArray), (⟨#[45, 61]⟩ : ByteArray), (⟨#[42, 61]⟩ : ByteArray), (⟨#[47, 61]⟩ : ByteArray), (⟨#[37, 61]⟩ : ByteArray)]) := hI (StrRow.new _ _ _ _ (by simp) rfl);have hg0 := hP.glt;have hng : W.heap.size + 1 ≠ g := by omega
 have HC := hI (pair_any hL ent_alt ent_alt (hA .alt) (hA .alt) 27 [(⟨#[61]⟩ : ByteArray), (⟨#[124, 61]⟩ : ByteArray), (⟨#[43, 61]⟩ : ByteArray), (⟨#[45, 61]⟩ : ByteArray), (⟨#[42, 61]⟩ : ByteArray), (⟨#[47, 61]⟩ : ByteArray), (⟨#[37, 61]⟩ : ByteArray)] (by decide) (W.heap.size + 1) _ σ τ t H1.out.p HR.out hng hm);clear hP hA hm
 go_enter Tryz.func52, Tryz.ntmps52
 go_wp2_with fail;refine HC.out.mono ?_;rintro e w1 ⟨c0, c1, c2, c3, c4, c5, c6, c7, c8, rfl, hg1, hp1, hl1⟩;have HT1 := hI (TreeAt.of (w0 := W) hl1 H1.out.lt);obtain ⟨op1, tx1, k1, j1, s1, A1, n1, m1, A2, n2, m2, A3, n3, m3, A4, n4, m4, rfl, rfl, rfl, rfl, rfl, rfl, rfl, rfl, rfl⟩ := liesF_form hl1;have H2 := hI (H1.out.next hg1 hp1);have x0 := H2.out.cells;clear hg1 hp1 hl1;go_wp2_with fail;refine post9 Tryz.results52 rfl rfl (H2.out.r.put9z _ _ _ _ _ _ _ _ _) ?_;exact H2.out.close HT1.out
theorem alt_any {L : List Fk} (hL : TokL L) {gt C g : Nat} {call : Ru → PM} (n : Nat) (hA : OkA L gt C g call) : OkF L gt C g 78 (pairM L (call .or_) (call .alt) 14 [(⟨#[47, 47]⟩ : ByteArray)]) := by
 intro W σ t τ hP hm;have H0 := hI (RSt.start hP);have H1 := hI (H0.out.alloc (.cells #[.string ⟨#[47, 47]⟩] 9));have HR : Hid (StrRow ((W.alloc (.cells z9 29)).alloc (.cells #[.string ⟨#[47, 47]⟩] 9)) (W.heap.size + 1) [(⟨#[47, 47]⟩ : ByteArray)]) := hI (StrRow.new _ _ _ _ (by simp) rfl);have hg0 := hP.glt;have hng : W.heap.size + 1 ≠ g := by omega
 have HC := hI (pair_any hL ent_or ent_alt (hA .or_) (hA .alt) 14 [(⟨#[47, 47]⟩ : ByteArray)] (by decide) (W.heap.size + 1) _ σ τ t H1.out.p HR.out hng hm);clear hP hA hm
 go_enter Tryz.func78, Tryz.ntmps78
 go_wp2_with fail;refine HC.out.mono ?_;rintro e w1 ⟨c0, c1, c2, c3, c4, c5, c6, c7, c8, rfl, hg1, hp1, hl1⟩;have HT1 := hI (TreeAt.of (w0 := W) hl1 H1.out.lt);obtain ⟨op1, tx1, k1, j1, s1, A1, n1, m1, A2, n2, m2, A3, n3, m3, A4, n4, m4, rfl, rfl, rfl, rfl, rfl, rfl, rfl, rfl, rfl⟩ := liesF_form hl1;have H2 := hI (H1.out.next hg1 hp1);have x0 := H2.out.cells;clear hg1 hp1 hl1;go_wp2_with fail;refine post9 Tryz.results78 rfl rfl (H2.out.r.put9z _ _ _ _ _ _ _ _ _) ?_;exact H2.out.close HT1.out
theorem or_any {L : List Fk} (hL : TokL L) {gt C g : Nat} {call : Ru → PM} (n : Nat) (hA : OkA L gt C g call) : OkF L gt C g 98 (chainM L (call .and_) 15 [(⟨#[111, 114]⟩ : ByteArray)] n) := by
 intro W σ t τ hP hm;have H0 := hI (RSt.start hP);have H1 := hI (H0.out.alloc (.cells #[.string ⟨#[111, 114]⟩] 9));have HR : Hid (StrRow ((W.alloc (.cells z9 29)).alloc (.cells #[.string ⟨#[111, 114]⟩] 9)) (W.heap.size + 1) [(⟨#[111, 114]⟩ : ByteArray)]) := hI (StrRow.new _ _ _ _ (by simp) rfl);have hg0 := hP.glt;have hng : W.heap.size + 1 ≠ g := by omega
 have HC := hI (chain_any hL ent_and (hA .and_) 15 [(⟨#[111, 114]⟩ : ByteArray)] (by decide) (W.heap.size + 1) n _ σ τ t H1.out.p HR.out hng hm);clear hP hA hm
 go_enter Tryz.func98, Tryz.ntmps98
 go_wp2_with fail;refine HC.out.mono ?_;rintro e w1 ⟨c0, c1, c2, c3, c4, c5, c6, c7, c8, rfl, hg1, hp1, hl1⟩;have HT1 := hI (TreeAt.of (w0 := W) hl1 H1.out.lt);obtain ⟨op1, tx1, k1, j1, s1, A1, n1, m1, A2, n2, m2, A3, n3, m3, A4, n4, m4, rfl, rfl, rfl, rfl, rfl, rfl, rfl, rfl, rfl⟩ := liesF_form hl1;have H2 := hI (H1.out.next hg1 hp1);have x0 := H2.out.cells;clear hg1 hp1 hl1;go_wp2_with fail;refine post9 Tryz.results98 rfl rfl (H2.out.r.put9z _ _ _ _ _ _ _ _ _) ?_;exact H2.out.close HT1.out
theorem and_any {L : List Fk} (hL : TokL L) {gt C g : Nat} {call : Ru → PM} (n : Nat) (hA : OkA L gt C g call) : OkF L gt C g 112 (chainM L (call .cmp) 16 [(⟨#[97, 110, 100]⟩ : ByteArray)] n) := by
 intro W σ t τ hP hm;have H0 := hI (RSt.start hP);have H1 := hI (H0.out.alloc (.cells #[.string ⟨#[97, 110, 100]⟩] 9));have HR : Hid (StrRow ((W.alloc (.cells z9 29)).alloc (.cells #[.string ⟨#[97, 110, 100]⟩] 9)) (W.heap.size + 1) [(⟨#[97, 110, 100]⟩ : ByteArray)]) := hI (StrRow.new _ _ _ _ (by simp) rfl);have hg0 := hP.glt;have hng : W.heap.size + 1 ≠ g := by omega
 have HC := hI (chain_any hL ent_cmp (hA .cmp) 16 [(⟨#[97, 110, 100]⟩ : ByteArray)] (by decide) (W.heap.size + 1) n _ σ τ t H1.out.p HR.out hng hm);clear hP hA hm
 go_enter Tryz.func112, Tryz.ntmps112
 go_wp2_with fail;refine HC.out.mono ?_;rintro e w1 ⟨c0, c1, c2, c3, c4, c5, c6, c7, c8, rfl, hg1, hp1, hl1⟩;have HT1 := hI (TreeAt.of (w0 := W) hl1 H1.out.lt);obtain ⟨op1, tx1, k1, j1, s1, A1, n1, m1, A2, n2, m2, A3, n3, m3, A4, n4, m4, rfl, rfl, rfl, rfl, rfl, rfl, rfl, rfl, rfl⟩ := liesF_form hl1;have H2 := hI (H1.out.next hg1 hp1);have x0 := H2.out.cells;clear hg1 hp1 hl1;go_wp2_with fail;refine post9 Tryz.results112 rfl rfl (H2.out.r.put9z _ _ _ _ _ _ _ _ _) ?_;exact H2.out.close HT1.out
theorem cmp_any {L : List Fk} (hL : TokL L) {gt C g : Nat} {call : Ru → PM} (n : Nat) (hA : OkA L gt C g call) : OkF L gt C g 123 (pairM L (call .sum) (call .sum) 17 [(⟨#[61, 61]⟩ : ByteArray), (⟨#[33, 61]⟩ : ByteArray), (⟨#[60]⟩ : ByteArray), (⟨#[60, 61]⟩ : ByteArray), (⟨#[62]⟩ : ByteArray), (⟨#[62, 61]⟩ : ByteArray)]) := by
 intro W σ t τ hP hm;have H0 := hI (RSt.start hP);have H1 := hI (H0.out.alloc (.cells #[.string ⟨#[61, 61]⟩, .string ⟨#[33, 61]⟩, .string ⟨#[60]⟩, .string ⟨#[60, 61]⟩, .string ⟨#[62]⟩, .string ⟨#[62, 61]⟩] 9));have HR : Hid (StrRow ((W.alloc (.cells z9 29)).alloc (.cells #[.string ⟨#[61, 61]⟩, .string ⟨#[33, 61]⟩, .string ⟨#[60]⟩, .string ⟨#[60, 61]⟩, .string ⟨#[62]⟩, .string ⟨#[62, 61]⟩] 9)) (W.heap.size + 1) [(⟨#[61, 61]⟩ : ByteArray), (⟨#[33, 61]⟩ : ByteArray), (⟨#[60]⟩ : ByteArray), (⟨#[60, 61]⟩ : ByteArray), (⟨#[62]⟩ : ByteArray), (⟨#[62, 61]⟩ : ByteArray)]) := hI (StrRow.new _ _ _ _ (by simp) rfl);have hg0 := hP.glt;have hng : W.heap.size + 1 ≠ g := by omega
 have HC := hI (pair_any hL ent_sum ent_sum (hA .sum) (hA .sum) 17 [(⟨#[61, 61]⟩ : ByteArray), (⟨#[33, 61]⟩ : ByteArray), (⟨#[60]⟩ : ByteArray), (⟨#[60, 61]⟩ : ByteArray), (⟨#[62]⟩ : ByteArray), (⟨#[62, 61]⟩ : ByteArray)] (by decide) (W.heap.size + 1) _ σ τ t H1.out.p HR.out hng hm);clear hP hA hm
 go_enter Tryz.func123, Tryz.ntmps123
 go_wp2_with fail;refine HC.out.mono ?_;rintro e w1 ⟨c0, c1, c2, c3, c4, c5, c6, c7, c8, rfl, hg1, hp1, hl1⟩;have HT1 := hI (TreeAt.of (w0 := W) hl1 H1.out.lt);obtain ⟨op1, tx1, k1, j1, s1, A1, n1, m1, A2, n2, m2, A3, n3, m3, A4, n4, m4, rfl, rfl, rfl, rfl, rfl, rfl, rfl, rfl, rfl⟩ := liesF_form hl1;have H2 := hI (H1.out.next hg1 hp1);have x0 := H2.out.cells;clear hg1 hp1 hl1;go_wp2_with fail;refine post9 Tryz.results123 rfl rfl (H2.out.r.put9z _ _ _ _ _ _ _ _ _) ?_;exact H2.out.close HT1.out
theorem sum_any {L : List Fk} (hL : TokL L) {gt C g : Nat} {call : Ru → PM} (n : Nat) (hA : OkA L gt C g call) : OkF L gt C g 129 (chainM L (call .product) 17 [(⟨#[43]⟩ : ByteArray), (⟨#[45]⟩ : ByteArray)] n) := by
 intro W σ t τ hP hm;have H0 := hI (RSt.start hP);have H1 := hI (H0.out.alloc (.cells #[.string ⟨#[43]⟩, .string ⟨#[45]⟩] 9));have HR : Hid (StrRow ((W.alloc (.cells z9 29)).alloc (.cells #[.string ⟨#[43]⟩, .string ⟨#[45]⟩] 9)) (W.heap.size + 1) [(⟨#[43]⟩ : ByteArray), (⟨#[45]⟩ : ByteArray)]) := hI (StrRow.new _ _ _ _ (by simp) rfl);have hg0 := hP.glt;have hng : W.heap.size + 1 ≠ g := by omega
 have HC := hI (chain_any hL ent_product (hA .product) 17 [(⟨#[43]⟩ : ByteArray), (⟨#[45]⟩ : ByteArray)] (by decide) (W.heap.size + 1) n _ σ τ t H1.out.p HR.out hng hm);clear hP hA hm
 go_enter Tryz.func129, Tryz.ntmps129
 go_wp2_with fail;refine HC.out.mono ?_;rintro e w1 ⟨c0, c1, c2, c3, c4, c5, c6, c7, c8, rfl, hg1, hp1, hl1⟩;have HT1 := hI (TreeAt.of (w0 := W) hl1 H1.out.lt);obtain ⟨op1, tx1, k1, j1, s1, A1, n1, m1, A2, n2, m2, A3, n3, m3, A4, n4, m4, rfl, rfl, rfl, rfl, rfl, rfl, rfl, rfl, rfl⟩ := liesF_form hl1;have H2 := hI (H1.out.next hg1 hp1);have x0 := H2.out.cells;clear hg1 hp1 hl1;go_wp2_with fail;refine post9 Tryz.results129 rfl rfl (H2.out.r.put9z _ _ _ _ _ _ _ _ _) ?_;exact H2.out.close HT1.out
theorem product_any {L : List Fk} (hL : TokL L) {gt C g : Nat} {call : Ru → PM} (n : Nat) (hA : OkA L gt C g call) : OkF L gt C g 135 (chainM L (call .unary) 17 [(⟨#[42]⟩ : ByteArray), (⟨#[47]⟩ : ByteArray), (⟨#[37]⟩ : ByteArray)] n) := by
 intro W σ t τ hP hm;have H0 := hI (RSt.start hP);have H1 := hI (H0.out.alloc (.cells #[.string ⟨#[42]⟩, .string ⟨#[47]⟩, .string ⟨#[37]⟩] 9));have HR : Hid (StrRow ((W.alloc (.cells z9 29)).alloc (.cells #[.string ⟨#[42]⟩, .string ⟨#[47]⟩, .string ⟨#[37]⟩] 9)) (W.heap.size + 1) [(⟨#[42]⟩ : ByteArray), (⟨#[47]⟩ : ByteArray), (⟨#[37]⟩ : ByteArray)]) := hI (StrRow.new _ _ _ _ (by simp) rfl);have hg0 := hP.glt;have hng : W.heap.size + 1 ≠ g := by omega
 have HC := hI (chain_any hL ent_unary (hA .unary) 17 [(⟨#[42]⟩ : ByteArray), (⟨#[47]⟩ : ByteArray), (⟨#[37]⟩ : ByteArray)] (by decide) (W.heap.size + 1) n _ σ τ t H1.out.p HR.out hng hm);clear hP hA hm
 go_enter Tryz.func135, Tryz.ntmps135
 go_wp2_with fail;refine HC.out.mono ?_;rintro e w1 ⟨c0, c1, c2, c3, c4, c5, c6, c7, c8, rfl, hg1, hp1, hl1⟩;have HT1 := hI (TreeAt.of (w0 := W) hl1 H1.out.lt);obtain ⟨op1, tx1, k1, j1, s1, A1, n1, m1, A2, n2, m2, A3, n3, m3, A4, n4, m4, rfl, rfl, rfl, rfl, rfl, rfl, rfl, rfl, rfl⟩ := liesF_form hl1;have H2 := hI (H1.out.next hg1 hp1);have x0 := H2.out.cells;clear hg1 hp1 hl1;go_wp2_with fail;refine post9 Tryz.results135 rfl rfl (H2.out.r.put9z _ _ _ _ _ _ _ _ _) ?_;exact H2.out.close HT1.out
end Go.Proofs.YtoleoimmpggldaaGreatDoor
namespace Go.Proofs.YtoleoimmpggldaaGreatDoor
open Go.RowKit
def Own (S : Nat → Prop) (w0 w : World) (bs : List (Nat × Array Value)) (b : Nat) : Prop := S b ∨ (w0.heap.size < b ∧ b < w.heap.size ∧ ∀ q ∈ bs, b ≠ q.1)
structure St (S : Nat → Prop) (L : List Fk) (gt C g : Nat) (w0 w : World) (σ : PS) (bs : List (Nat × Array Value)) (ts : List (Ft × List Value)) : Prop where
 r : RSt L gt C g w0 w σ
 hS : ∀ b, S b → b < w0.heap.size ∧ b ≠ g
 b : ∀ q ∈ bs, w0.heap.size < q.1 ∧ Box w q.1 29 q.2
 t : ∀ x ∈ ts, LiesF w (Own S w0 w bs) x.1 x.2
def RetU (S : Nat → Prop) (L : List Fk) (gt C g : Nat) (w : World) (t : Ft) (τ : PS) (e : Ending) (w' : World) : Prop := ∃ c0 c1 c2 c3 c4 c5 c6 c7 c8, e = .returned (.agg #[c0, c1, c2, c3, c4, c5, c6, c7, c8]) ∧ Gr g w w' ∧ PAt L gt C g w' τ ∧ LiesF w' (Und S w.heap.size w'.heap.size) t [c0, c1, c2, c3, c4, c5, c6, c7, c8]
def noS : Nat → Prop := fun _ => False
theorem retF_of {L : List Fk} {gt C g : Nat} {w w' : World} {t : Ft} {τ : PS} {e : Ending} (h : RetU noS L gt C g w t τ e w') : RetF L gt C g w t τ e w' := by
 obtain ⟨c0, c1, c2, c3, c4, c5, c6, c7, c8, h1, h2, h3, h4⟩ := h;exact ⟨c0, c1, c2, c3, c4, c5, c6, c7, c8, h1, h2, h3, LiesF.move h4 fun b hb => ⟨hb.elim (fun h => h.elim) id, rfl⟩⟩
section
variable {S : Nat → Prop} {L : List Fk} {gt C g : Nat} {w w' w0 : World} {σ τ : PS} {bs : List (Nat × Array Value)} {ts : List (Ft × List Value)} {t : Ft} {cs : List Value}
theorem St.start (h : PAt L gt C g w σ) (hS : ∀ b, S b → b < w.heap.size ∧ b ≠ g) : St S L gt C g w (w.alloc (.cells z9 29)) σ [] [] :=
 ⟨RSt.start h, hS, fun q hq => by simp at hq, fun x hx => by simp at hx⟩
theorem St.begin (h : PAt L gt C g w σ) : St noS L gt C g w (w.alloc (.cells z9 29)) σ [] [] := St.start h fun b hb => hb.elim
theorem St.lt (h : St S L gt C g w0 w σ bs ts) : w0.heap.size < w.heap.size := h.r.lt
theorem Own.gr (h : St S L gt C g w0 w σ bs ts) (hg : Gr g w w') : ∀ b, Own S w0 w bs b → Own S w0 w' bs b ∧ w'.heap[b]? = w.heap[b]? := by
 intro b hb;have h1 := h.r.g0;have h2 := h.lt;rcases hb with hb | ⟨a1, a2, a3⟩
 · have := h.hS b hb;exact ⟨.inl hb, hg.block (by omega) this.2⟩
 · exact ⟨.inr ⟨a1, nT a2 hg.size, a3⟩, hg.block a2 (by omega)⟩
theorem St.next (h : St S L gt C g w0 w σ bs ts) (hg : Gr g w w') (hp : PAt L gt C g w' τ) : St S L gt C g w0 w' τ bs ts :=
 ⟨h.r.next hg hp, h.hS, fun q hq => ⟨(h.b q hq).1, (h.b q hq).2.grown hg (by intro e; injection e with e; have := h.r.g0; have := (h.b q hq).1; omega)⟩, fun x hx => LiesF.move (h.t x hx) (Own.gr h hg)⟩
theorem St.low (h : St S L gt C g w0 w σ bs ts) (hb : Below w.heap.size w w') : St S L gt C g w0 w' σ bs ts := h.next (Gr.below hb) (h.r.p.next hb)
theorem St.alloc (h : St S L gt C g w0 w σ bs ts) (o : Obj) : St S L gt C g w0 (w.alloc o) σ bs ts := h.low ((Below.refl _ _).alloc (Nat.le_refl _) o)
theorem St.drew (h : St S L gt C g w0 w σ bs ts) : St S L gt C g w0 w.drew σ bs ts := h.low (Below.refl _ _).drew
theorem St.box (h : St S L gt C g w0 w σ bs ts) (cs : Array Value) : St S L gt C g w0 (w.alloc (.cells cs 29)) σ ((w.heap.size, cs) :: bs) ts := by
 have h2 := h.alloc (.cells cs 29);refine ⟨h2.r, h2.hS, fun q hq => ?_, fun x hx => LiesF.move (h.t x hx) fun b hb => ?_⟩
 · rcases List.mem_cons.1 hq with rfl | hq
   · exact ⟨h.lt, Box.laid _ _ _⟩
   · exact h2.b q hq
 · rcases hb with hb | ⟨a1, a2, a3⟩
   · have := h.hS b hb;have := h.lt;exact ⟨.inl hb, Below.heap_alloc _ _ _ (by omega)⟩
   · refine ⟨.inr ⟨a1, by simp; omega, fun q hq => ?_⟩, Below.heap_alloc _ _ _ a2⟩;rcases List.mem_cons.1 hq with rfl | hq
     · show b ≠ w.heap.size; omega
     · exact a3 q hq
theorem St.tree (h : St S L gt C g w0 w σ bs ts) (h' : St S L gt C g w0 w' τ bs ts) (hl : LiesF w' (Nw w.heap.size w'.heap.size) t cs) : St S L gt C g w0 w' τ bs ((t, cs) :: ts) :=
 ⟨h'.r, h'.hS, h'.b, fun x hx => by
  rcases List.mem_cons.1 hx with rfl | hx
  · exact LiesF.move hl fun b hb => ⟨.inr ⟨nT h.lt hb.1, hb.2, fun q hq => by have := (h.b q hq).2.lt; have := hb.1; omega⟩, rfl⟩
  · exact h'.t x hx⟩
theorem St.call (h : St S L gt C g w0 w σ bs ts) (hg : Gr g w w') (hp : PAt L gt C g w' τ) (hl : LiesF w' (Nw w.heap.size w'.heap.size) t cs) : St S L gt C g w0 w' τ bs ((t, cs) :: ts) := h.tree (h.next hg hp) hl
theorem St.leaf (h : St S L gt C g w0 w σ bs ts) (op : Int) (tx : ByteArray) (k n : Int) (s : ByteArray) (htx : tx.size ≤ 140737488355328) (hs : s.size ≤ 140737488355328) : St S L gt C g w0 w σ bs ((.mk op tx (.mk k n s [] []) [] [], [ι op, .string tx, ι k, ι n, .string s, nL, nL, nL, nL]) :: ts) :=
 ⟨h.r, h.hS, h.b, fun x hx => by
  rcases List.mem_cons.1 hx with rfl | hx
  · exact liesF_leaf _ _ _ _ _ htx (lies_leaf _ _ _ _ _ hs)
  · exact h.t x hx⟩
theorem St.given (h : St S L gt C g w0 w σ bs ts) (hl : LiesF w0 S t cs) : St S L gt C g w0 w σ bs ((t, cs) :: ts) :=
 ⟨h.r, h.hS, h.b, fun x hx => by
  rcases List.mem_cons.1 hx with rfl | hx
  · exact LiesF.move hl fun b hb => ⟨.inl hb, h.r.gr.block (h.hS b hb).1 (h.hS b hb).2⟩
  · exact h.t x hx⟩
theorem St.node (h : St S L gt C g w0 w σ bs ts) (op : Int) (tx : ByteArray) (htx : tx.size ≤ 140737488355328) {fs : List Ft} {row : Array Value} {n : Nat} (hn : fs.length = n) (hn2 : n ≤ 100) (hL : LiesFL w (Own S w0 w bs) fs row.toList) {q : Nat} (hq : w.heap.size = q) :
 St S L gt C g w0 (w.alloc (.cells row 29)) σ bs ((.mk op tx vz [] fs, [ι op, .string tx, ι 0, ι 0, eS, nL, nL, nL, .slice (some ⟨q, 0, none⟩) n n]) :: ts) := by
 subst hq;have h2 := h.alloc (.cells row 29);refine ⟨h2.r, h2.hS, h2.b, fun x hx => ?_⟩;rcases List.mem_cons.1 hx with rfl | hx
 · refine liesF_node op tx htx hn (by simp) (Nat.le_refl _) (by unfold maxLen; omega) (by omega) (rs_box (Box.laid _ _ _) (.inr ⟨h.lt, by simp, fun q hq => by have := (h.b q hq).2.lt; omega⟩)) (LiesFL.move hL fun b hb => Own.gr h (Gr.one _ _) b hb)
 · exact h2.t x hx
theorem St.set {q : Nat} {c0 c1 c2 c3 c4 c5 c6 c7 c8 : Value} (h : St S L gt C g w0 w σ ((q, #[c0, c1, c2, c3, c4, c5, c6, c7, c8]) :: bs) ts) (hne : ∀ x ∈ bs, x.1 ≠ q) (i : Nat) (u : Value) {ds : Array Value} (hd : (#[c0, c1, c2, c3, c4, c5, c6, c7, c8] : Array Value).setIfInBounds i u = ds) :
 St S L gt C g w0 (w.setCell ⟨q, i, none⟩ u) σ ((q, ds) :: bs) ts := by
 have h0 := (h.b (q, _) mC).1;have h1 := (h.b (q, _) mC).2;have hg := h.r.g0;have hgt := h.r.gt0;dsimp only at h0 h1;have hsz : (w.setCell ⟨q, i, none⟩ u).heap.size = w.heap.size := by simp [World.setCell]
 refine ⟨⟨h.r.p.far (by omega) (by omega) i u, h.r.gr.put (by omega) i u, h.r.r.far (p := ⟨q, i, none⟩) (by show _ ≠ q; omega) u, hg, hgt⟩, h.hS, fun x hx => ?_, fun x hx => LiesF.move (h.t x hx) fun b hb => ?_⟩
 · rcases List.mem_cons.1 hx with rfl | hx
   · refine ⟨h0, ?_⟩;have := h1.put i u;rw [hd] at this;exact this
   · exact ⟨(h.b x (by simp [hx])).1, (h.b x (by simp [hx])).2.far (p := ⟨q, i, none⟩) (hne x hx) u⟩
 · have hbq : b ≠ q := by
    rcases hb with hb | ⟨_, _, a3⟩
    · have := h.hS b hb; omega
    · exact a3 (q, _) mC
   refine ⟨?_, Below.heap_setCell _ _ _ _ hbq⟩;rcases hb with hb | ⟨a1, a2, a3⟩
   · exact .inl hb
   · refine .inr ⟨a1, by rw [hsz]; exact a2, fun x hx => ?_⟩;rcases List.mem_cons.1 hx with rfl | hx
     · exact hbq
     · exact a3 x (by simp [hx])
theorem St.perm (h : St S L gt C g w0 w σ bs ts) {bs' : List (Nat × Array Value)} (hp : ∀ x, x ∈ bs' ↔ x ∈ bs) : St S L gt C g w0 w σ bs' ts :=
 ⟨h.r, h.hS, fun q hq => h.b q ((hp q).1 hq), fun x hx => LiesF.move (h.t x hx) fun b hb => ⟨hb.imp id fun a => ⟨a.1, a.2.1, fun q hq => a.2.2 q ((hp q).1 hq)⟩, rfl⟩⟩
theorem St.bx (h : St S L gt C g w0 w σ bs ts) {q : Nat} {c : Array Value} (hq : (q, c) ∈ bs) : Box w q 29 c := (h.b _ hq).2
theorem St.put (h : St S L gt C g w0 w σ bs ts) {x : Ft × List Value} (hx : LiesF w (Own S w0 w bs) x.1 x.2) : St S L gt C g w0 w σ bs (x :: ts) :=
 ⟨h.r, h.hS, h.b, fun y hy => by
  rcases List.mem_cons.1 hy with rfl | hy
  · exact hx
  · exact h.t y hy⟩
theorem St.close (h : St S L gt C g w0 w σ bs ts) {u0 u1 u2 u3 u4 u5 u6 u7 u8 : Value} (hx : (t, [u0, u1, u2, u3, u4, u5, u6, u7, u8]) ∈ ts) : RetU S L gt C g w0 t σ (.returned (.agg #[u0, u1, u2, u3, u4, u5, u6, u7, u8])) (((((((((w.setCell ⟨w0.heap.size, 0, none⟩ u0).setCell ⟨w0.heap.size, 1, none⟩ u1).setCell ⟨w0.heap.size, 2, none⟩ u2).setCell ⟨w0.heap.size, 3, none⟩ u3).setCell ⟨w0.heap.size, 4, none⟩ u4).setCell ⟨w0.heap.size, 5, none⟩ u5).setCell ⟨w0.heap.size, 6, none⟩ u6).setCell ⟨w0.heap.size, 7, none⟩ u7).setCell ⟨w0.heap.size, 8, none⟩ u8) := by
 have h1 := h.r.g0;have h2 := h.r.gt0;refine ⟨_, _, _, _, _, _, _, _, _, rfl, h.r.gr.put9 (Nat.le_refl _) _ _ _ _ _ _ _ _ _, h.r.p.far9 (by omega) (by omega) _ _ _ _ _ _ _ _ _, LiesF.move (h.t _ hx) fun b hb => ?_⟩;rw [size9];rcases hb with hb | ⟨a1, a2, -⟩
 · have := (h.hS b hb).1;exact ⟨.inl hb, heap9 _ _ _ _ _ _ _ _ _ _ _ b (by omega)⟩
 · exact ⟨.inr ⟨by omega, a2⟩, heap9 _ _ _ _ _ _ _ _ _ _ _ b (by omega)⟩
theorem RetU.alloc {e : Ending} (h : RetU S L gt C g w0 t σ e w) (hS : ∀ b, S b → b < w.heap.size) (o : Obj) : RetU S L gt C g w0 t σ e (w.alloc o) := by
 obtain ⟨c0, c1, c2, c3, c4, c5, c6, c7, c8, h1, h2, h3, h4⟩ := h;refine ⟨c0, c1, c2, c3, c4, c5, c6, c7, c8, h1, h2.alloc o, h3.alloc o, LiesF.move h4 fun b hb => ?_⟩;rcases hb with hb | ⟨a1, a2⟩
 · exact ⟨.inl hb, Below.heap_alloc _ _ _ (hS b hb)⟩
 · exact ⟨.inr ⟨a1, by simp; omega⟩, Below.heap_alloc _ _ _ a2⟩
end

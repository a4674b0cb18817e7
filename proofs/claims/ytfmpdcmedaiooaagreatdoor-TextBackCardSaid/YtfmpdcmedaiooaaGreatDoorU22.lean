/- The JSON parser's element. -/
import Derived.Test.YtfmpdcmedaiooaaGreatDoorU21
set_option linter.unusedVariables false
set_option linter.unusedSimpArgs false
namespace Go.Proofs.YtfmpdcmedaiooaaGreatDoor
open Go.RowKit
set_option maxHeartbeats 10000000 in
set_option maxRecDepth 100000 in
theorem el_zero {s : ByteArray} {g : Nat} {w : World} {σ : JS} (x : Lx) (b : Nat) (hS1 : ∀ W, Calls Tryz.prog 152 #[.agg #[.int .i64 x.k, .int .i64 x.f, .int .i64 x.t, .int .u8 x.b, .int .i64 x.i, .string x.s], .int .u8 91] W (fun e w' => e = .returned (.bool false) ∧ Below W.heap.size W w')) (hS2 : ∀ W, Calls Tryz.prog 152 #[.agg #[.int .i64 x.k, .int .i64 x.f, .int .i64 x.t, .int .u8 x.b, .int .i64 x.i, .string x.s], .int .u8 123] W (fun e w' => e = .returned (.bool false) ∧ Below W.heap.size W w')) (hk : x.k = 0) (hP : JAt s g w σ) : Calls Tryz.prog 118 #[.pointer (some ⟨g, 0, none⟩), .agg #[.int .i64 x.k, .int .i64 x.f, .int .i64 x.t, .int .u8 x.b, .int .i64 x.i, .string x.s], .int .i64 b] w (JVal s g w jz (jfail x.f 4 σ)) := by
  have HP := Lib.hid hP
  have hg := hP.glt
  have hne : ¬ w.heap.size = g := by omega
  have hne2 : ¬ w.heap.size + 1 = g := by omega
  have HP0 := Lib.hid ((hP.alloc (.cells #[.int .i64 x.k, .int .i64 x.f, .int .i64 x.t, .int .u8 x.b, .int .i64 x.i, .string x.s] 93)).alloc (.cells #[.int .i64 0, .int .i64 0, .string ⟨#[]⟩, .slice none 0 0, .slice none 0 0] 25))
  have HG0 : Hid (Gr g w ((w.alloc (.cells #[.int .i64 x.k, .int .i64 x.f, .int .i64 x.t, .int .u8 x.b, .int .i64 x.i, .string x.s] 93)).alloc (.cells #[.int .i64 0, .int .i64 0, .string ⟨#[]⟩, .slice none 0 0, .slice none 0 0] 25))) := Lib.hid ((Gr.one w _).alloc _)
  have HT0 := Lib.hid (laid2 w #[.int .i64 x.k, .int .i64 x.f, .int .i64 x.t, .int .u8 x.b, .int .i64 x.i, .string x.s] #[.int .i64 0, .int .i64 0, .string ⟨#[]⟩, .slice none 0 0, .slice none 0 0] 93 25).1
  have HZ0 := Lib.hid (laid2 w #[.int .i64 x.k, .int .i64 x.f, .int .i64 x.t, .int .u8 x.b, .int .i64 x.i, .string x.s] #[.int .i64 0, .int .i64 0, .string ⟨#[]⟩, .slice none 0 0, .slice none 0 0] 93 25).2
  have HS1 := Lib.hid hS1
  have HS2 := Lib.hid hS2
  have q0 : ((x.k : Int) == 0) = true := by rw [beq_iff_eq]; omega
  clear hP hS1 hS2 hk
  go_enter Tryz.func118, Tryz.ntmps118
  go_wp2_with fail
  refine (HS1.out _).mono ?_
  rintro e w1 ⟨rfl, hb1⟩
  have HT1 := Lib.hid (HT0.out.below hb1 HT0.out.lt)
  have HZ1 := Lib.hid (HZ0.out.below hb1 HZ0.out.lt)
  have HG1 := Lib.hid (HG0.out.low hb1)
  have HP1 := Lib.hid (HP0.out.next hb1)
  clear hb1 HT0 HZ0 HG0 HP0
  obtain ⟨t0, t1, t2, t3, t4, t5⟩ := box6 HT1.out
  obtain ⟨⟨b0, b1, b2, b3, b4, b5⟩, f0, f1, f2, f3, f4, f5⟩ := HP1.out.six
  have hgl := HP1.out.glt
  go_wp2_with fail
  clear t0 t1 t2 t3 t4 t5 b0 b1 b2 b3 b4 b5 f0 f1 f2 f3 f4 f5 hgl
  refine (HS2.out _).mono ?_
  rintro e w2 ⟨rfl, hb2⟩
  have HT2 := Lib.hid (HT1.out.below hb2 HT1.out.lt)
  have HZ2 := Lib.hid (HZ1.out.below hb2 HZ1.out.lt)
  have HG2 := Lib.hid (HG1.out.low hb2)
  have HP2 := Lib.hid (HP1.out.next hb2)
  clear hb2 HT1 HZ1 HG1 HP1
  obtain ⟨t0, t1, t2, t3, t4, t5⟩ := box6 HT2.out
  obtain ⟨⟨b0, b1, b2, b3, b4, b5⟩, f0, f1, f2, f3, f4, f5⟩ := HP2.out.six
  have hgl := HP2.out.glt
  go_wp2_with fail
  clear t0 t1 t2 t3 t4 t5 b0 b1 b2 b3 b4 b5 f0 f1 f2 f3 f4 f5 hgl
  refine (jfail_lit x.f 4 rfl rfl HP2.out).mono ?_
  rintro e wf ⟨rfl, hgf, hpf⟩
  have HT3 := Lib.hid (HT2.out.gr hgf hne)
  have HZ3 := Lib.hid (HZ2.out.gr hgf hne2)
  have HG3 := Lib.hid (HG2.out.trans hgf)
  have HP3 := Lib.hid hpf
  clear hgf hpf HT2 HZ2 HG2 HP2
  obtain ⟨y0, y1, y2, y3, y4⟩ := box5 HZ3.out
  obtain ⟨z0, z1, z2, z3, z4⟩ := free5 HZ3.out
  go_wp2_with fail
  refine post5v Tryz.results118 rfl rfl (put5x HZ3.out _ _ _ _ _) ?_
  exact JVal.closeAt (S := noB) (Nat.le_succ _) HP.out HG3.out HP3.out (lies_leafV _ _ _ (by decide)) (fun b h => h.elim)
set_option maxHeartbeats 10000000 in
set_option maxRecDepth 100000 in
theorem el_shut {s : ByteArray} {g : Nat} {w : World} {σ : JS} (x : Lx) (b : Nat) (hS1 : ∀ W, Calls Tryz.prog 152 #[.agg #[.int .i64 x.k, .int .i64 x.f, .int .i64 x.t, .int .u8 x.b, .int .i64 x.i, .string x.s], .int .u8 91] W (fun e w' => e = .returned (.bool false) ∧ Below W.heap.size W w')) (hS2 : ∀ W, Calls Tryz.prog 152 #[.agg #[.int .i64 x.k, .int .i64 x.f, .int .i64 x.t, .int .u8 x.b, .int .i64 x.i, .string x.s], .int .u8 123] W (fun e w' => e = .returned (.bool false) ∧ Below W.heap.size W w')) (hk : x.k = 1) (hP : JAt s g w σ) : Calls Tryz.prog 118 #[.pointer (some ⟨g, 0, none⟩), .agg #[.int .i64 x.k, .int .i64 x.f, .int .i64 x.t, .int .u8 x.b, .int .i64 x.i, .string x.s], .int .i64 b] w (JVal s g w jz (jfail x.f 4 σ)) := by
  have HP := Lib.hid hP
  have hg := hP.glt
  have hne : ¬ w.heap.size = g := by omega
  have hne2 : ¬ w.heap.size + 1 = g := by omega
  have HP0 := Lib.hid ((hP.alloc (.cells #[.int .i64 x.k, .int .i64 x.f, .int .i64 x.t, .int .u8 x.b, .int .i64 x.i, .string x.s] 93)).alloc (.cells #[.int .i64 0, .int .i64 0, .string ⟨#[]⟩, .slice none 0 0, .slice none 0 0] 25))
  have HG0 : Hid (Gr g w ((w.alloc (.cells #[.int .i64 x.k, .int .i64 x.f, .int .i64 x.t, .int .u8 x.b, .int .i64 x.i, .string x.s] 93)).alloc (.cells #[.int .i64 0, .int .i64 0, .string ⟨#[]⟩, .slice none 0 0, .slice none 0 0] 25))) := Lib.hid ((Gr.one w _).alloc _)
  have HT0 := Lib.hid (laid2 w #[.int .i64 x.k, .int .i64 x.f, .int .i64 x.t, .int .u8 x.b, .int .i64 x.i, .string x.s] #[.int .i64 0, .int .i64 0, .string ⟨#[]⟩, .slice none 0 0, .slice none 0 0] 93 25).1
  have HZ0 := Lib.hid (laid2 w #[.int .i64 x.k, .int .i64 x.f, .int .i64 x.t, .int .u8 x.b, .int .i64 x.i, .string x.s] #[.int .i64 0, .int .i64 0, .string ⟨#[]⟩, .slice none 0 0, .slice none 0 0] 93 25).2
  have HS1 := Lib.hid hS1
  have HS2 := Lib.hid hS2
  have q0 : ((x.k : Int) == 0) = false := by rw [beq_eq_false_iff_ne]; omega
  have q1 : ((x.k : Int) == 1) = true := by rw [beq_iff_eq]; omega
  clear hP hS1 hS2 hk
  go_enter Tryz.func118, Tryz.ntmps118
  go_wp2_with fail
  refine (HS1.out _).mono ?_
  rintro e w1 ⟨rfl, hb1⟩
  have HT1 := Lib.hid (HT0.out.below hb1 HT0.out.lt)
  have HZ1 := Lib.hid (HZ0.out.below hb1 HZ0.out.lt)
  have HG1 := Lib.hid (HG0.out.low hb1)
  have HP1 := Lib.hid (HP0.out.next hb1)
  clear hb1 HT0 HZ0 HG0 HP0
  obtain ⟨t0, t1, t2, t3, t4, t5⟩ := box6 HT1.out
  obtain ⟨⟨b0, b1, b2, b3, b4, b5⟩, f0, f1, f2, f3, f4, f5⟩ := HP1.out.six
  have hgl := HP1.out.glt
  go_wp2_with fail
  clear t0 t1 t2 t3 t4 t5 b0 b1 b2 b3 b4 b5 f0 f1 f2 f3 f4 f5 hgl
  refine (HS2.out _).mono ?_
  rintro e w2 ⟨rfl, hb2⟩
  have HT2 := Lib.hid (HT1.out.below hb2 HT1.out.lt)
  have HZ2 := Lib.hid (HZ1.out.below hb2 HZ1.out.lt)
  have HG2 := Lib.hid (HG1.out.low hb2)
  have HP2 := Lib.hid (HP1.out.next hb2)
  clear hb2 HT1 HZ1 HG1 HP1
  obtain ⟨t0, t1, t2, t3, t4, t5⟩ := box6 HT2.out
  obtain ⟨⟨b0, b1, b2, b3, b4, b5⟩, f0, f1, f2, f3, f4, f5⟩ := HP2.out.six
  have hgl := HP2.out.glt
  go_wp2_with fail
  clear t0 t1 t2 t3 t4 t5 b0 b1 b2 b3 b4 b5 f0 f1 f2 f3 f4 f5 hgl
  refine (jfail_lit x.f 4 rfl rfl HP2.out).mono ?_
  rintro e wf ⟨rfl, hgf, hpf⟩
  have HT3 := Lib.hid (HT2.out.gr hgf hne)
  have HZ3 := Lib.hid (HZ2.out.gr hgf hne2)
  have HG3 := Lib.hid (HG2.out.trans hgf)
  have HP3 := Lib.hid hpf
  clear hgf hpf HT2 HZ2 HG2 HP2
  obtain ⟨y0, y1, y2, y3, y4⟩ := box5 HZ3.out
  obtain ⟨z0, z1, z2, z3, z4⟩ := free5 HZ3.out
  go_wp2_with fail
  refine post5v Tryz.results118 rfl rfl (put5x HZ3.out _ _ _ _ _) ?_
  exact JVal.closeAt (S := noB) (Nat.le_succ _) HP.out HG3.out HP3.out (lies_leafV _ _ _ (by decide)) (fun b h => h.elim)
set_option maxHeartbeats 10000000 in
set_option maxRecDepth 100000 in
theorem el_deep_a {s : ByteArray} {g : Nat} {w : World} {σ : JS} (x : Lx) (b : Nat) (hS1 : ∀ W, Calls Tryz.prog 152 #[.agg #[.int .i64 x.k, .int .i64 x.f, .int .i64 x.t, .int .u8 x.b, .int .i64 x.i, .string x.s], .int .u8 91] W (fun e w' => e = .returned (.bool true) ∧ Below W.heap.size W w')) (hk1 : x.k = 1) (ho : σ.op = 32) (hP : JAt s g w σ) : Calls Tryz.prog 118 #[.pointer (some ⟨g, 0, none⟩), .agg #[.int .i64 x.k, .int .i64 x.f, .int .i64 x.t, .int .u8 x.b, .int .i64 x.i, .string x.s], .int .i64 b] w (JVal s g w jz (jfail x.f 8 σ)) := by
  have HP := Lib.hid hP
  have hg := hP.glt
  have hne : ¬ w.heap.size = g := by omega
  have hne2 : ¬ w.heap.size + 1 = g := by omega
  have HP0 := Lib.hid ((hP.alloc (.cells #[.int .i64 x.k, .int .i64 x.f, .int .i64 x.t, .int .u8 x.b, .int .i64 x.i, .string x.s] 93)).alloc (.cells #[.int .i64 0, .int .i64 0, .string ⟨#[]⟩, .slice none 0 0, .slice none 0 0] 25))
  have HG0 : Hid (Gr g w ((w.alloc (.cells #[.int .i64 x.k, .int .i64 x.f, .int .i64 x.t, .int .u8 x.b, .int .i64 x.i, .string x.s] 93)).alloc (.cells #[.int .i64 0, .int .i64 0, .string ⟨#[]⟩, .slice none 0 0, .slice none 0 0] 25))) := Lib.hid ((Gr.one w _).alloc _)
  have HT0 := Lib.hid (laid2 w #[.int .i64 x.k, .int .i64 x.f, .int .i64 x.t, .int .u8 x.b, .int .i64 x.i, .string x.s] #[.int .i64 0, .int .i64 0, .string ⟨#[]⟩, .slice none 0 0, .slice none 0 0] 93 25).1
  have HZ0 := Lib.hid (laid2 w #[.int .i64 x.k, .int .i64 x.f, .int .i64 x.t, .int .u8 x.b, .int .i64 x.i, .string x.s] #[.int .i64 0, .int .i64 0, .string ⟨#[]⟩, .slice none 0 0, .slice none 0 0] 93 25).2
  have HS1 := Lib.hid hS1
  have q0 : ((x.k : Int) == 0) = false := by rw [beq_eq_false_iff_ne]; omega
  have q1 : ((x.k : Int) == 1) = true := by rw [beq_iff_eq]; omega
  have qo : ((σ.op : Int) == 32) = true := by rw [beq_iff_eq]; omega
  clear hP hS1 hk1 ho
  go_enter Tryz.func118, Tryz.ntmps118
  go_wp2_with fail
  refine (HS1.out _).mono ?_
  rintro e w1 ⟨rfl, hb1⟩
  have HT1 := Lib.hid (HT0.out.below hb1 HT0.out.lt)
  have HZ1 := Lib.hid (HZ0.out.below hb1 HZ0.out.lt)
  have HG1 := Lib.hid (HG0.out.low hb1)
  have HP1 := Lib.hid (HP0.out.next hb1)
  clear hb1 HT0 HZ0 HG0 HP0
  obtain ⟨t0, t1, t2, t3, t4, t5⟩ := box6 HT1.out
  obtain ⟨⟨b0, b1, b2, b3, b4, b5⟩, f0, f1, f2, f3, f4, f5⟩ := HP1.out.six
  have hgl := HP1.out.glt
  go_wp2_with fail
  clear t0 t1 t2 t3 t4 t5 b0 b1 b2 b3 b4 b5 f0 f1 f2 f3 f4 f5 hgl
  refine (jfail_lit x.f 8 rfl rfl HP1.out).mono ?_
  rintro e wf ⟨rfl, hgf, hpf⟩
  have HT2 := Lib.hid (HT1.out.gr hgf hne)
  have HZ2 := Lib.hid (HZ1.out.gr hgf hne2)
  have HG2 := Lib.hid (HG1.out.trans hgf)
  have HP2 := Lib.hid hpf
  clear hgf hpf HT1 HZ1 HG1 HP1
  obtain ⟨y0, y1, y2, y3, y4⟩ := box5 HZ2.out
  obtain ⟨z0, z1, z2, z3, z4⟩ := free5 HZ2.out
  go_wp2_with fail
  refine post5v Tryz.results118 rfl rfl (put5x HZ2.out _ _ _ _ _) ?_
  exact JVal.closeAt (S := noB) (Nat.le_succ _) HP.out HG2.out HP2.out (lies_leafV _ _ _ (by decide)) (fun b h => h.elim)
set_option maxHeartbeats 10000000 in
set_option maxRecDepth 100000 in
theorem el_many_a {s : ByteArray} {g : Nat} {w : World} {σ : JS} (x : Lx) (b : Nat) (hS1 : ∀ W, Calls Tryz.prog 152 #[.agg #[.int .i64 x.k, .int .i64 x.f, .int .i64 x.t, .int .u8 x.b, .int .i64 x.i, .string x.s], .int .u8 91] W (fun e w' => e = .returned (.bool true) ∧ Below W.heap.size W w')) (hk1 : x.k = 1) (ho : ¬ σ.op = 32) (hn : σ.nd = 4096) (hP : JAt s g w σ) : Calls Tryz.prog 118 #[.pointer (some ⟨g, 0, none⟩), .agg #[.int .i64 x.k, .int .i64 x.f, .int .i64 x.t, .int .u8 x.b, .int .i64 x.i, .string x.s], .int .i64 b] w (JVal s g w jz (jfail x.f 2 σ)) := by
  have HP := Lib.hid hP
  have hg := hP.glt
  have hne : ¬ w.heap.size = g := by omega
  have hne2 : ¬ w.heap.size + 1 = g := by omega
  have HP0 := Lib.hid ((hP.alloc (.cells #[.int .i64 x.k, .int .i64 x.f, .int .i64 x.t, .int .u8 x.b, .int .i64 x.i, .string x.s] 93)).alloc (.cells #[.int .i64 0, .int .i64 0, .string ⟨#[]⟩, .slice none 0 0, .slice none 0 0] 25))
  have HG0 : Hid (Gr g w ((w.alloc (.cells #[.int .i64 x.k, .int .i64 x.f, .int .i64 x.t, .int .u8 x.b, .int .i64 x.i, .string x.s] 93)).alloc (.cells #[.int .i64 0, .int .i64 0, .string ⟨#[]⟩, .slice none 0 0, .slice none 0 0] 25))) := Lib.hid ((Gr.one w _).alloc _)
  have HT0 := Lib.hid (laid2 w #[.int .i64 x.k, .int .i64 x.f, .int .i64 x.t, .int .u8 x.b, .int .i64 x.i, .string x.s] #[.int .i64 0, .int .i64 0, .string ⟨#[]⟩, .slice none 0 0, .slice none 0 0] 93 25).1
  have HZ0 := Lib.hid (laid2 w #[.int .i64 x.k, .int .i64 x.f, .int .i64 x.t, .int .u8 x.b, .int .i64 x.i, .string x.s] #[.int .i64 0, .int .i64 0, .string ⟨#[]⟩, .slice none 0 0, .slice none 0 0] 93 25).2
  have HS1 := Lib.hid hS1
  have q0 : ((x.k : Int) == 0) = false := by rw [beq_eq_false_iff_ne]; omega
  have q1 : ((x.k : Int) == 1) = true := by rw [beq_iff_eq]; omega
  have qo : ((σ.op : Int) == 32) = false := by rw [beq_eq_false_iff_ne]; omega
  have qn : ((σ.nd : Int) == 4096) = true := by rw [beq_iff_eq]; omega
  clear hP hS1 hk1 ho hn
  go_enter Tryz.func118, Tryz.ntmps118
  go_wp2_with fail
  refine (HS1.out _).mono ?_
  rintro e w1 ⟨rfl, hb1⟩
  have HT1 := Lib.hid (HT0.out.below hb1 HT0.out.lt)
  have HZ1 := Lib.hid (HZ0.out.below hb1 HZ0.out.lt)
  have HG1 := Lib.hid (HG0.out.low hb1)
  have HP1 := Lib.hid (HP0.out.next hb1)
  clear hb1 HT0 HZ0 HG0 HP0
  obtain ⟨t0, t1, t2, t3, t4, t5⟩ := box6 HT1.out
  obtain ⟨⟨b0, b1, b2, b3, b4, b5⟩, f0, f1, f2, f3, f4, f5⟩ := HP1.out.six
  have hgl := HP1.out.glt
  go_wp2_with fail
  clear t0 t1 t2 t3 t4 t5 b0 b1 b2 b3 b4 b5 f0 f1 f2 f3 f4 f5 hgl
  refine (jfail_lit x.f 2 rfl rfl HP1.out).mono ?_
  rintro e wf ⟨rfl, hgf, hpf⟩
  have HT2 := Lib.hid (HT1.out.gr hgf hne)
  have HZ2 := Lib.hid (HZ1.out.gr hgf hne2)
  have HG2 := Lib.hid (HG1.out.trans hgf)
  have HP2 := Lib.hid hpf
  clear hgf hpf HT1 HZ1 HG1 HP1
  obtain ⟨y0, y1, y2, y3, y4⟩ := box5 HZ2.out
  obtain ⟨z0, z1, z2, z3, z4⟩ := free5 HZ2.out
  go_wp2_with fail
  refine post5v Tryz.results118 rfl rfl (put5x HZ2.out _ _ _ _ _) ?_
  exact JVal.closeAt (S := noB) (Nat.le_succ _) HP.out HG2.out HP2.out (lies_leafV _ _ _ (by decide)) (fun b h => h.elim)
set_option maxHeartbeats 10000000 in
set_option maxRecDepth 100000 in
theorem el_long_a {s : ByteArray} {g : Nat} {w : World} {σ : JS} (x : Lx) (b : Nat) (hS1 : ∀ W, Calls Tryz.prog 152 #[.agg #[.int .i64 x.k, .int .i64 x.f, .int .i64 x.t, .int .u8 x.b, .int .i64 x.i, .string x.s], .int .u8 91] W (fun e w' => e = .returned (.bool true) ∧ Below W.heap.size W w')) (hk1 : x.k = 1) (ho : ¬ σ.op = 32) (hn : ¬ σ.nd = 4096) (hb : b = 1024) (hP : JAt s g w σ) : Calls Tryz.prog 118 #[.pointer (some ⟨g, 0, none⟩), .agg #[.int .i64 x.k, .int .i64 x.f, .int .i64 x.t, .int .u8 x.b, .int .i64 x.i, .string x.s], .int .i64 b] w (JVal s g w jz (jfail x.f 2 σ)) := by
  have HP := Lib.hid hP
  have hg := hP.glt
  have hne : ¬ w.heap.size = g := by omega
  have hne2 : ¬ w.heap.size + 1 = g := by omega
  have HP0 := Lib.hid ((hP.alloc (.cells #[.int .i64 x.k, .int .i64 x.f, .int .i64 x.t, .int .u8 x.b, .int .i64 x.i, .string x.s] 93)).alloc (.cells #[.int .i64 0, .int .i64 0, .string ⟨#[]⟩, .slice none 0 0, .slice none 0 0] 25))
  have HG0 : Hid (Gr g w ((w.alloc (.cells #[.int .i64 x.k, .int .i64 x.f, .int .i64 x.t, .int .u8 x.b, .int .i64 x.i, .string x.s] 93)).alloc (.cells #[.int .i64 0, .int .i64 0, .string ⟨#[]⟩, .slice none 0 0, .slice none 0 0] 25))) := Lib.hid ((Gr.one w _).alloc _)
  have HT0 := Lib.hid (laid2 w #[.int .i64 x.k, .int .i64 x.f, .int .i64 x.t, .int .u8 x.b, .int .i64 x.i, .string x.s] #[.int .i64 0, .int .i64 0, .string ⟨#[]⟩, .slice none 0 0, .slice none 0 0] 93 25).1
  have HZ0 := Lib.hid (laid2 w #[.int .i64 x.k, .int .i64 x.f, .int .i64 x.t, .int .u8 x.b, .int .i64 x.i, .string x.s] #[.int .i64 0, .int .i64 0, .string ⟨#[]⟩, .slice none 0 0, .slice none 0 0] 93 25).2
  have HS1 := Lib.hid hS1
  have q0 : ((x.k : Int) == 0) = false := by rw [beq_eq_false_iff_ne]; omega
  have q1 : ((x.k : Int) == 1) = true := by rw [beq_iff_eq]; omega
  have qo : ((σ.op : Int) == 32) = false := by rw [beq_eq_false_iff_ne]; omega
  have qn : ((σ.nd : Int) == 4096) = false := by rw [beq_eq_false_iff_ne]; omega
  have qb : ((b : Int) == 1024) = true := by rw [beq_iff_eq]; omega
  clear hP hS1 hk1 ho hn hb
  go_enter Tryz.func118, Tryz.ntmps118
  go_wp2_with fail
  refine (HS1.out _).mono ?_
  rintro e w1 ⟨rfl, hb1⟩
  have HT1 := Lib.hid (HT0.out.below hb1 HT0.out.lt)
  have HZ1 := Lib.hid (HZ0.out.below hb1 HZ0.out.lt)
  have HG1 := Lib.hid (HG0.out.low hb1)
  have HP1 := Lib.hid (HP0.out.next hb1)
  clear hb1 HT0 HZ0 HG0 HP0
  obtain ⟨t0, t1, t2, t3, t4, t5⟩ := box6 HT1.out
  obtain ⟨⟨b0, b1, b2, b3, b4, b5⟩, f0, f1, f2, f3, f4, f5⟩ := HP1.out.six
  have hgl := HP1.out.glt
  go_wp2_with fail
  clear t0 t1 t2 t3 t4 t5 b0 b1 b2 b3 b4 b5 f0 f1 f2 f3 f4 f5 hgl
  refine (jfail_lit x.f 2 rfl rfl HP1.out).mono ?_
  rintro e wf ⟨rfl, hgf, hpf⟩
  have HT2 := Lib.hid (HT1.out.gr hgf hne)
  have HZ2 := Lib.hid (HZ1.out.gr hgf hne2)
  have HG2 := Lib.hid (HG1.out.trans hgf)
  have HP2 := Lib.hid hpf
  clear hgf hpf HT1 HZ1 HG1 HP1
  obtain ⟨y0, y1, y2, y3, y4⟩ := box5 HZ2.out
  obtain ⟨z0, z1, z2, z3, z4⟩ := free5 HZ2.out
  go_wp2_with fail
  refine post5v Tryz.results118 rfl rfl (put5x HZ2.out _ _ _ _ _) ?_
  exact JVal.closeAt (S := noB) (Nat.le_succ _) HP.out HG2.out HP2.out (lies_leafV _ _ _ (by decide)) (fun b h => h.elim)
set_option maxHeartbeats 10000000 in
set_option maxRecDepth 100000 in
theorem el_full_a {s : ByteArray} {g : Nat} {w : World} {σ : JS} (x : Lx) (b : Nat) (hS1 : ∀ W, Calls Tryz.prog 152 #[.agg #[.int .i64 x.k, .int .i64 x.f, .int .i64 x.t, .int .u8 x.b, .int .i64 x.i, .string x.s], .int .u8 91] W (fun e w' => e = .returned (.bool true) ∧ Below W.heap.size W w')) (hk1 : x.k = 1) (ho : ¬ σ.op = 32) (hn : ¬ σ.nd = 4096) (hb : ¬ b = 1024) (hH : ∀ W, JAt s g W σ → Calls Tryz.prog 154 #[.pointer (some ⟨g, 0, none⟩), .agg #[.int .i64 x.k, .int .i64 x.f, .int .i64 x.t, .int .u8 x.b, .int .i64 x.i, .string x.s]] W (JBool s g W false { σ with sz := σ.sz + x.s.size })) (hP : JAt s g w σ) : Calls Tryz.prog 118 #[.pointer (some ⟨g, 0, none⟩), .agg #[.int .i64 x.k, .int .i64 x.f, .int .i64 x.t, .int .u8 x.b, .int .i64 x.i, .string x.s], .int .i64 b] w (JVal s g w jz (jfail x.f 2 { σ with sz := σ.sz + x.s.size })) := by
  have HP := Lib.hid hP
  have hg := hP.glt
  have hne : ¬ w.heap.size = g := by omega
  have hne2 : ¬ w.heap.size + 1 = g := by omega
  have HP0 := Lib.hid ((hP.alloc (.cells #[.int .i64 x.k, .int .i64 x.f, .int .i64 x.t, .int .u8 x.b, .int .i64 x.i, .string x.s] 93)).alloc (.cells #[.int .i64 0, .int .i64 0, .string ⟨#[]⟩, .slice none 0 0, .slice none 0 0] 25))
  have HG0 : Hid (Gr g w ((w.alloc (.cells #[.int .i64 x.k, .int .i64 x.f, .int .i64 x.t, .int .u8 x.b, .int .i64 x.i, .string x.s] 93)).alloc (.cells #[.int .i64 0, .int .i64 0, .string ⟨#[]⟩, .slice none 0 0, .slice none 0 0] 25))) := Lib.hid ((Gr.one w _).alloc _)
  have HT0 := Lib.hid (laid2 w #[.int .i64 x.k, .int .i64 x.f, .int .i64 x.t, .int .u8 x.b, .int .i64 x.i, .string x.s] #[.int .i64 0, .int .i64 0, .string ⟨#[]⟩, .slice none 0 0, .slice none 0 0] 93 25).1
  have HZ0 := Lib.hid (laid2 w #[.int .i64 x.k, .int .i64 x.f, .int .i64 x.t, .int .u8 x.b, .int .i64 x.i, .string x.s] #[.int .i64 0, .int .i64 0, .string ⟨#[]⟩, .slice none 0 0, .slice none 0 0] 93 25).2
  have HS1 := Lib.hid hS1
  have q0 : ((x.k : Int) == 0) = false := by rw [beq_eq_false_iff_ne]; omega
  have q1 : ((x.k : Int) == 1) = true := by rw [beq_iff_eq]; omega
  have qo : ((σ.op : Int) == 32) = false := by rw [beq_eq_false_iff_ne]; omega
  have qn : ((σ.nd : Int) == 4096) = false := by rw [beq_eq_false_iff_ne]; omega
  have qb : ((b : Int) == 1024) = false := by rw [beq_eq_false_iff_ne]; omega
  have HH := Lib.hid hH
  clear hP hS1 hk1 ho hn hb hH
  go_enter Tryz.func118, Tryz.ntmps118
  go_wp2_with fail
  refine (HS1.out _).mono ?_
  rintro e w1 ⟨rfl, hb1⟩
  have HT1 := Lib.hid (HT0.out.below hb1 HT0.out.lt)
  have HZ1 := Lib.hid (HZ0.out.below hb1 HZ0.out.lt)
  have HG1 := Lib.hid (HG0.out.low hb1)
  have HP1 := Lib.hid (HP0.out.next hb1)
  clear hb1 HT0 HZ0 HG0 HP0
  obtain ⟨t0, t1, t2, t3, t4, t5⟩ := box6 HT1.out
  obtain ⟨⟨b0, b1, b2, b3, b4, b5⟩, f0, f1, f2, f3, f4, f5⟩ := HP1.out.six
  have hgl := HP1.out.glt
  go_wp2_with fail
  clear t0 t1 t2 t3 t4 t5 b0 b1 b2 b3 b4 b5 f0 f1 f2 f3 f4 f5 hgl
  refine (HH.out _ HP1.out).mono ?_
  rintro e wr ⟨rfl, hgr, hpr⟩
  have HT2 := Lib.hid (HT1.out.gr hgr hne)
  have HZ2 := Lib.hid (HZ1.out.gr hgr hne2)
  have HG2 := Lib.hid (HG1.out.trans hgr)
  have HP2 := Lib.hid hpr
  clear hgr hpr HT1 HZ1 HG1 HP1
  obtain ⟨t0, t1, t2, t3, t4, t5⟩ := box6 HT2.out
  obtain ⟨⟨b0, b1, b2, b3, b4, b5⟩, f0, f1, f2, f3, f4, f5⟩ := HP2.out.six
  have hgl := HP2.out.glt
  go_wp2_with fail
  clear t0 t1 t2 t3 t4 t5 b0 b1 b2 b3 b4 b5 f0 f1 f2 f3 f4 f5 hgl
  refine (jfail_lit x.f 2 rfl rfl HP2.out).mono ?_
  rintro e wf ⟨rfl, hgf, hpf⟩
  have HT3 := Lib.hid (HT2.out.gr hgf hne)
  have HZ3 := Lib.hid (HZ2.out.gr hgf hne2)
  have HG3 := Lib.hid (HG2.out.trans hgf)
  have HP3 := Lib.hid hpf
  clear hgf hpf HT2 HZ2 HG2 HP2
  obtain ⟨y0, y1, y2, y3, y4⟩ := box5 HZ3.out
  obtain ⟨z0, z1, z2, z3, z4⟩ := free5 HZ3.out
  go_wp2_with fail
  refine post5v Tryz.results118 rfl rfl (put5x HZ3.out _ _ _ _ _) ?_
  exact JVal.closeAt (S := noB) (Nat.le_succ _) HP.out HG3.out HP3.out (lies_leafV _ _ _ (by decide)) (fun b h => h.elim)
set_option maxHeartbeats 10000000 in
set_option maxRecDepth 100000 in
theorem el_good_a {s : ByteArray} {g : Nat} {w : World} {σ τ : JS} {v : V} (x : Lx) (b : Nat) (hS1 : ∀ W, Calls Tryz.prog 152 #[.agg #[.int .i64 x.k, .int .i64 x.f, .int .i64 x.t, .int .u8 x.b, .int .i64 x.i, .string x.s], .int .u8 91] W (fun e w' => e = .returned (.bool true) ∧ Below W.heap.size W w')) (hk1 : x.k = 1) (ho : ¬ σ.op = 32) (hn : ¬ σ.nd = 4096) (hb : ¬ b = 1024) (hH : ∀ W, JAt s g W σ → Calls Tryz.prog 154 #[.pointer (some ⟨g, 0, none⟩), .agg #[.int .i64 x.k, .int .i64 x.f, .int .i64 x.t, .int .u8 x.b, .int .i64 x.i, .string x.s]] W (JBool s g W true { σ with sz := σ.sz + x.s.size })) (hD : ∀ W, JAt s g W { σ with nd := σ.nd + 1, sz := σ.sz + x.s.size } → Calls Tryz.prog 155 #[.pointer (some ⟨g, 0, none⟩), .agg #[.int .i64 x.k, .int .i64 x.f, .int .i64 x.t, .int .u8 x.b, .int .i64 x.i, .string x.s]] W (JVal s g W v τ)) (hP : JAt s g w σ) : Calls Tryz.prog 118 #[.pointer (some ⟨g, 0, none⟩), .agg #[.int .i64 x.k, .int .i64 x.f, .int .i64 x.t, .int .u8 x.b, .int .i64 x.i, .string x.s], .int .i64 b] w (JVal s g w v τ) := by
  have HP := Lib.hid hP
  have hg := hP.glt
  have hne : ¬ w.heap.size = g := by omega
  have hne2 : ¬ w.heap.size + 1 = g := by omega
  have HP0 := Lib.hid ((hP.alloc (.cells #[.int .i64 x.k, .int .i64 x.f, .int .i64 x.t, .int .u8 x.b, .int .i64 x.i, .string x.s] 93)).alloc (.cells #[.int .i64 0, .int .i64 0, .string ⟨#[]⟩, .slice none 0 0, .slice none 0 0] 25))
  have HG0 : Hid (Gr g w ((w.alloc (.cells #[.int .i64 x.k, .int .i64 x.f, .int .i64 x.t, .int .u8 x.b, .int .i64 x.i, .string x.s] 93)).alloc (.cells #[.int .i64 0, .int .i64 0, .string ⟨#[]⟩, .slice none 0 0, .slice none 0 0] 25))) := Lib.hid ((Gr.one w _).alloc _)
  have HT0 := Lib.hid (laid2 w #[.int .i64 x.k, .int .i64 x.f, .int .i64 x.t, .int .u8 x.b, .int .i64 x.i, .string x.s] #[.int .i64 0, .int .i64 0, .string ⟨#[]⟩, .slice none 0 0, .slice none 0 0] 93 25).1
  have HZ0 := Lib.hid (laid2 w #[.int .i64 x.k, .int .i64 x.f, .int .i64 x.t, .int .u8 x.b, .int .i64 x.i, .string x.s] #[.int .i64 0, .int .i64 0, .string ⟨#[]⟩, .slice none 0 0, .slice none 0 0] 93 25).2
  have HS1 := Lib.hid hS1
  have q0 : ((x.k : Int) == 0) = false := by rw [beq_eq_false_iff_ne]; omega
  have q1 : ((x.k : Int) == 1) = true := by rw [beq_iff_eq]; omega
  have qo : ((σ.op : Int) == 32) = false := by rw [beq_eq_false_iff_ne]; omega
  have qn : ((σ.nd : Int) == 4096) = false := by rw [beq_eq_false_iff_ne]; omega
  have qb : ((b : Int) == 1024) = false := by rw [beq_eq_false_iff_ne]; omega
  have HH := Lib.hid hH
  have HBd := Lib.hid hD
  have HND := Lib.hid (show σ.nd < 4096 by have := hP.nd; omega)
  have hwn : IntKind.i64.wrap ((σ.nd : Int) + 1) = (σ.nd : Int) + 1 := by have := hP.nd; rw [IntKind.wrap_i64]; omega
  clear hP hS1 hk1 ho hn hb hH hD
  go_enter Tryz.func118, Tryz.ntmps118
  go_wp2_with fail
  refine (HS1.out _).mono ?_
  rintro e w1 ⟨rfl, hb1⟩
  have HT1 := Lib.hid (HT0.out.below hb1 HT0.out.lt)
  have HZ1 := Lib.hid (HZ0.out.below hb1 HZ0.out.lt)
  have HG1 := Lib.hid (HG0.out.low hb1)
  have HP1 := Lib.hid (HP0.out.next hb1)
  clear hb1 HT0 HZ0 HG0 HP0
  obtain ⟨t0, t1, t2, t3, t4, t5⟩ := box6 HT1.out
  obtain ⟨⟨b0, b1, b2, b3, b4, b5⟩, f0, f1, f2, f3, f4, f5⟩ := HP1.out.six
  have hgl := HP1.out.glt
  go_wp2_with fail
  clear t0 t1 t2 t3 t4 t5 b0 b1 b2 b3 b4 b5 f0 f1 f2 f3 f4 f5 hgl
  refine (HH.out _ HP1.out).mono ?_
  rintro e wr ⟨rfl, hgr, hpr⟩
  have HT2 := Lib.hid (HT1.out.gr hgr hne)
  have HZ2 := Lib.hid (HZ1.out.gr hgr hne2)
  have HG2 := Lib.hid (HG1.out.trans hgr)
  have HP2 := Lib.hid hpr
  clear hgr hpr HT1 HZ1 HG1 HP1
  obtain ⟨t0, t1, t2, t3, t4, t5⟩ := box6 HT2.out
  obtain ⟨⟨b0, b1, b2, b3, b4, b5⟩, f0, f1, f2, f3, f4, f5⟩ := HP2.out.six
  have hgl := HP2.out.glt
  go_wp2_with fail
  have HPb : Hid (JAt s g (wr.setCell ⟨g, 4, none⟩ (.int .i64 ((σ.nd : Int) + 1))) { σ with nd := σ.nd + 1, sz := σ.sz + x.s.size }) := Lib.hid (HP2.out.own 4 _ rfl HP2.out.op (by have := HND.out; show σ.nd + 1 ≤ 4096; omega) HP2.out.sz)
  refine (HBd.out _ HPb.out).mono ?_
  rintro e wz ⟨c0, c1, c2, c3, c4, rfl, hgz, hpz, hlz⟩
  obtain ⟨k, n, t, A, na, ca, B, nb, cb, rfl, rfl, rfl, rfl, rfl⟩ := lies_five hlz
  have HZz := Lib.hid ((HZ2.out.far (p := ⟨g, 4, none⟩) hne2 _).gr hgz hne2)
  have HGz := Lib.hid ((HG2.out.set 4 _).trans hgz)
  have HSz := Lib.hid (show w.heap.size + 1 < wr.heap.size from HZ2.out.lt)
  have HPz := Lib.hid hpz
  have HLz := Lib.hid hlz
  clear hgz hpz hlz
  clear t0 t1 t2 t3 t4 t5 b0 b1 b2 b3 b4 b5 f0 f1 f2 f3 f4 f5 hgl
  obtain ⟨y0, y1, y2, y3, y4⟩ := box5 HZz.out
  obtain ⟨z0, z1, z2, z3, z4⟩ := free5 HZz.out
  go_wp2_with fail
  refine post5v Tryz.results118 rfl rfl (put5x HZz.out _ _ _ _ _) ?_
  exact JVal.closeAt (Nat.le_succ _) HP.out HGz.out HPz.out HLz.out (fun b h => by have h1 := h.1; have h2 := h.2; have h3 := HSz.out; simp [World.setCell] at h1; exact ⟨by omega, h2, by omega⟩)
set_option maxHeartbeats 10000000 in
set_option maxRecDepth 100000 in
theorem el_deep_b {s : ByteArray} {g : Nat} {w : World} {σ : JS} (x : Lx) (b : Nat) (hS1 : ∀ W, Calls Tryz.prog 152 #[.agg #[.int .i64 x.k, .int .i64 x.f, .int .i64 x.t, .int .u8 x.b, .int .i64 x.i, .string x.s], .int .u8 91] W (fun e w' => e = .returned (.bool false) ∧ Below W.heap.size W w')) (hS2 : ∀ W, Calls Tryz.prog 152 #[.agg #[.int .i64 x.k, .int .i64 x.f, .int .i64 x.t, .int .u8 x.b, .int .i64 x.i, .string x.s], .int .u8 123] W (fun e w' => e = .returned (.bool true) ∧ Below W.heap.size W w')) (hk1 : x.k = 1) (ho : σ.op = 32) (hP : JAt s g w σ) : Calls Tryz.prog 118 #[.pointer (some ⟨g, 0, none⟩), .agg #[.int .i64 x.k, .int .i64 x.f, .int .i64 x.t, .int .u8 x.b, .int .i64 x.i, .string x.s], .int .i64 b] w (JVal s g w jz (jfail x.f 8 σ)) := by
  have HP := Lib.hid hP
  have hg := hP.glt
  have hne : ¬ w.heap.size = g := by omega
  have hne2 : ¬ w.heap.size + 1 = g := by omega
  have HP0 := Lib.hid ((hP.alloc (.cells #[.int .i64 x.k, .int .i64 x.f, .int .i64 x.t, .int .u8 x.b, .int .i64 x.i, .string x.s] 93)).alloc (.cells #[.int .i64 0, .int .i64 0, .string ⟨#[]⟩, .slice none 0 0, .slice none 0 0] 25))
  have HG0 : Hid (Gr g w ((w.alloc (.cells #[.int .i64 x.k, .int .i64 x.f, .int .i64 x.t, .int .u8 x.b, .int .i64 x.i, .string x.s] 93)).alloc (.cells #[.int .i64 0, .int .i64 0, .string ⟨#[]⟩, .slice none 0 0, .slice none 0 0] 25))) := Lib.hid ((Gr.one w _).alloc _)
  have HT0 := Lib.hid (laid2 w #[.int .i64 x.k, .int .i64 x.f, .int .i64 x.t, .int .u8 x.b, .int .i64 x.i, .string x.s] #[.int .i64 0, .int .i64 0, .string ⟨#[]⟩, .slice none 0 0, .slice none 0 0] 93 25).1
  have HZ0 := Lib.hid (laid2 w #[.int .i64 x.k, .int .i64 x.f, .int .i64 x.t, .int .u8 x.b, .int .i64 x.i, .string x.s] #[.int .i64 0, .int .i64 0, .string ⟨#[]⟩, .slice none 0 0, .slice none 0 0] 93 25).2
  have HS1 := Lib.hid hS1
  have HS2 := Lib.hid hS2
  have q0 : ((x.k : Int) == 0) = false := by rw [beq_eq_false_iff_ne]; omega
  have q1 : ((x.k : Int) == 1) = true := by rw [beq_iff_eq]; omega
  have qo : ((σ.op : Int) == 32) = true := by rw [beq_iff_eq]; omega
  clear hP hS1 hS2 hk1 ho
  go_enter Tryz.func118, Tryz.ntmps118
  go_wp2_with fail
  refine (HS1.out _).mono ?_
  rintro e w1 ⟨rfl, hb1⟩
  have HT1 := Lib.hid (HT0.out.below hb1 HT0.out.lt)
  have HZ1 := Lib.hid (HZ0.out.below hb1 HZ0.out.lt)
  have HG1 := Lib.hid (HG0.out.low hb1)
  have HP1 := Lib.hid (HP0.out.next hb1)
  clear hb1 HT0 HZ0 HG0 HP0
  obtain ⟨t0, t1, t2, t3, t4, t5⟩ := box6 HT1.out
  obtain ⟨⟨b0, b1, b2, b3, b4, b5⟩, f0, f1, f2, f3, f4, f5⟩ := HP1.out.six
  have hgl := HP1.out.glt
  go_wp2_with fail
  clear t0 t1 t2 t3 t4 t5 b0 b1 b2 b3 b4 b5 f0 f1 f2 f3 f4 f5 hgl
  refine (HS2.out _).mono ?_
  rintro e w2 ⟨rfl, hb2⟩
  have HT2 := Lib.hid (HT1.out.below hb2 HT1.out.lt)
  have HZ2 := Lib.hid (HZ1.out.below hb2 HZ1.out.lt)
  have HG2 := Lib.hid (HG1.out.low hb2)
  have HP2 := Lib.hid (HP1.out.next hb2)
  clear hb2 HT1 HZ1 HG1 HP1
  obtain ⟨t0, t1, t2, t3, t4, t5⟩ := box6 HT2.out
  obtain ⟨⟨b0, b1, b2, b3, b4, b5⟩, f0, f1, f2, f3, f4, f5⟩ := HP2.out.six
  have hgl := HP2.out.glt
  go_wp2_with fail
  clear t0 t1 t2 t3 t4 t5 b0 b1 b2 b3 b4 b5 f0 f1 f2 f3 f4 f5 hgl
  refine (jfail_lit x.f 8 rfl rfl HP2.out).mono ?_
  rintro e wf ⟨rfl, hgf, hpf⟩
  have HT3 := Lib.hid (HT2.out.gr hgf hne)
  have HZ3 := Lib.hid (HZ2.out.gr hgf hne2)
  have HG3 := Lib.hid (HG2.out.trans hgf)
  have HP3 := Lib.hid hpf
  clear hgf hpf HT2 HZ2 HG2 HP2
  obtain ⟨y0, y1, y2, y3, y4⟩ := box5 HZ3.out
  obtain ⟨z0, z1, z2, z3, z4⟩ := free5 HZ3.out
  go_wp2_with fail
  refine post5v Tryz.results118 rfl rfl (put5x HZ3.out _ _ _ _ _) ?_
  exact JVal.closeAt (S := noB) (Nat.le_succ _) HP.out HG3.out HP3.out (lies_leafV _ _ _ (by decide)) (fun b h => h.elim)
set_option maxHeartbeats 10000000 in
set_option maxRecDepth 100000 in
theorem el_many_b {s : ByteArray} {g : Nat} {w : World} {σ : JS} (x : Lx) (b : Nat) (hS1 : ∀ W, Calls Tryz.prog 152 #[.agg #[.int .i64 x.k, .int .i64 x.f, .int .i64 x.t, .int .u8 x.b, .int .i64 x.i, .string x.s], .int .u8 91] W (fun e w' => e = .returned (.bool false) ∧ Below W.heap.size W w')) (hS2 : ∀ W, Calls Tryz.prog 152 #[.agg #[.int .i64 x.k, .int .i64 x.f, .int .i64 x.t, .int .u8 x.b, .int .i64 x.i, .string x.s], .int .u8 123] W (fun e w' => e = .returned (.bool true) ∧ Below W.heap.size W w')) (hk1 : x.k = 1) (ho : ¬ σ.op = 32) (hn : σ.nd = 4096) (hP : JAt s g w σ) : Calls Tryz.prog 118 #[.pointer (some ⟨g, 0, none⟩), .agg #[.int .i64 x.k, .int .i64 x.f, .int .i64 x.t, .int .u8 x.b, .int .i64 x.i, .string x.s], .int .i64 b] w (JVal s g w jz (jfail x.f 2 σ)) := by
  have HP := Lib.hid hP
  have hg := hP.glt
  have hne : ¬ w.heap.size = g := by omega
  have hne2 : ¬ w.heap.size + 1 = g := by omega
  have HP0 := Lib.hid ((hP.alloc (.cells #[.int .i64 x.k, .int .i64 x.f, .int .i64 x.t, .int .u8 x.b, .int .i64 x.i, .string x.s] 93)).alloc (.cells #[.int .i64 0, .int .i64 0, .string ⟨#[]⟩, .slice none 0 0, .slice none 0 0] 25))
  have HG0 : Hid (Gr g w ((w.alloc (.cells #[.int .i64 x.k, .int .i64 x.f, .int .i64 x.t, .int .u8 x.b, .int .i64 x.i, .string x.s] 93)).alloc (.cells #[.int .i64 0, .int .i64 0, .string ⟨#[]⟩, .slice none 0 0, .slice none 0 0] 25))) := Lib.hid ((Gr.one w _).alloc _)
  have HT0 := Lib.hid (laid2 w #[.int .i64 x.k, .int .i64 x.f, .int .i64 x.t, .int .u8 x.b, .int .i64 x.i, .string x.s] #[.int .i64 0, .int .i64 0, .string ⟨#[]⟩, .slice none 0 0, .slice none 0 0] 93 25).1
  have HZ0 := Lib.hid (laid2 w #[.int .i64 x.k, .int .i64 x.f, .int .i64 x.t, .int .u8 x.b, .int .i64 x.i, .string x.s] #[.int .i64 0, .int .i64 0, .string ⟨#[]⟩, .slice none 0 0, .slice none 0 0] 93 25).2
  have HS1 := Lib.hid hS1
  have HS2 := Lib.hid hS2
  have q0 : ((x.k : Int) == 0) = false := by rw [beq_eq_false_iff_ne]; omega
  have q1 : ((x.k : Int) == 1) = true := by rw [beq_iff_eq]; omega
  have qo : ((σ.op : Int) == 32) = false := by rw [beq_eq_false_iff_ne]; omega
  have qn : ((σ.nd : Int) == 4096) = true := by rw [beq_iff_eq]; omega
  clear hP hS1 hS2 hk1 ho hn
  go_enter Tryz.func118, Tryz.ntmps118
  go_wp2_with fail
  refine (HS1.out _).mono ?_
  rintro e w1 ⟨rfl, hb1⟩
  have HT1 := Lib.hid (HT0.out.below hb1 HT0.out.lt)
  have HZ1 := Lib.hid (HZ0.out.below hb1 HZ0.out.lt)
  have HG1 := Lib.hid (HG0.out.low hb1)
  have HP1 := Lib.hid (HP0.out.next hb1)
  clear hb1 HT0 HZ0 HG0 HP0
  obtain ⟨t0, t1, t2, t3, t4, t5⟩ := box6 HT1.out
  obtain ⟨⟨b0, b1, b2, b3, b4, b5⟩, f0, f1, f2, f3, f4, f5⟩ := HP1.out.six
  have hgl := HP1.out.glt
  go_wp2_with fail
  clear t0 t1 t2 t3 t4 t5 b0 b1 b2 b3 b4 b5 f0 f1 f2 f3 f4 f5 hgl
  refine (HS2.out _).mono ?_
  rintro e w2 ⟨rfl, hb2⟩
  have HT2 := Lib.hid (HT1.out.below hb2 HT1.out.lt)
  have HZ2 := Lib.hid (HZ1.out.below hb2 HZ1.out.lt)
  have HG2 := Lib.hid (HG1.out.low hb2)
  have HP2 := Lib.hid (HP1.out.next hb2)
  clear hb2 HT1 HZ1 HG1 HP1
  obtain ⟨t0, t1, t2, t3, t4, t5⟩ := box6 HT2.out
  obtain ⟨⟨b0, b1, b2, b3, b4, b5⟩, f0, f1, f2, f3, f4, f5⟩ := HP2.out.six
  have hgl := HP2.out.glt
  go_wp2_with fail
  clear t0 t1 t2 t3 t4 t5 b0 b1 b2 b3 b4 b5 f0 f1 f2 f3 f4 f5 hgl
  refine (jfail_lit x.f 2 rfl rfl HP2.out).mono ?_
  rintro e wf ⟨rfl, hgf, hpf⟩
  have HT3 := Lib.hid (HT2.out.gr hgf hne)
  have HZ3 := Lib.hid (HZ2.out.gr hgf hne2)
  have HG3 := Lib.hid (HG2.out.trans hgf)
  have HP3 := Lib.hid hpf
  clear hgf hpf HT2 HZ2 HG2 HP2
  obtain ⟨y0, y1, y2, y3, y4⟩ := box5 HZ3.out
  obtain ⟨z0, z1, z2, z3, z4⟩ := free5 HZ3.out
  go_wp2_with fail
  refine post5v Tryz.results118 rfl rfl (put5x HZ3.out _ _ _ _ _) ?_
  exact JVal.closeAt (S := noB) (Nat.le_succ _) HP.out HG3.out HP3.out (lies_leafV _ _ _ (by decide)) (fun b h => h.elim)
set_option maxHeartbeats 10000000 in
set_option maxRecDepth 100000 in
theorem el_long_b {s : ByteArray} {g : Nat} {w : World} {σ : JS} (x : Lx) (b : Nat) (hS1 : ∀ W, Calls Tryz.prog 152 #[.agg #[.int .i64 x.k, .int .i64 x.f, .int .i64 x.t, .int .u8 x.b, .int .i64 x.i, .string x.s], .int .u8 91] W (fun e w' => e = .returned (.bool false) ∧ Below W.heap.size W w')) (hS2 : ∀ W, Calls Tryz.prog 152 #[.agg #[.int .i64 x.k, .int .i64 x.f, .int .i64 x.t, .int .u8 x.b, .int .i64 x.i, .string x.s], .int .u8 123] W (fun e w' => e = .returned (.bool true) ∧ Below W.heap.size W w')) (hk1 : x.k = 1) (ho : ¬ σ.op = 32) (hn : ¬ σ.nd = 4096) (hb : b = 1024) (hP : JAt s g w σ) : Calls Tryz.prog 118 #[.pointer (some ⟨g, 0, none⟩), .agg #[.int .i64 x.k, .int .i64 x.f, .int .i64 x.t, .int .u8 x.b, .int .i64 x.i, .string x.s], .int .i64 b] w (JVal s g w jz (jfail x.f 2 σ)) := by
  have HP := Lib.hid hP
  have hg := hP.glt
  have hne : ¬ w.heap.size = g := by omega
  have hne2 : ¬ w.heap.size + 1 = g := by omega
  have HP0 := Lib.hid ((hP.alloc (.cells #[.int .i64 x.k, .int .i64 x.f, .int .i64 x.t, .int .u8 x.b, .int .i64 x.i, .string x.s] 93)).alloc (.cells #[.int .i64 0, .int .i64 0, .string ⟨#[]⟩, .slice none 0 0, .slice none 0 0] 25))
  have HG0 : Hid (Gr g w ((w.alloc (.cells #[.int .i64 x.k, .int .i64 x.f, .int .i64 x.t, .int .u8 x.b, .int .i64 x.i, .string x.s] 93)).alloc (.cells #[.int .i64 0, .int .i64 0, .string ⟨#[]⟩, .slice none 0 0, .slice none 0 0] 25))) := Lib.hid ((Gr.one w _).alloc _)
  have HT0 := Lib.hid (laid2 w #[.int .i64 x.k, .int .i64 x.f, .int .i64 x.t, .int .u8 x.b, .int .i64 x.i, .string x.s] #[.int .i64 0, .int .i64 0, .string ⟨#[]⟩, .slice none 0 0, .slice none 0 0] 93 25).1
  have HZ0 := Lib.hid (laid2 w #[.int .i64 x.k, .int .i64 x.f, .int .i64 x.t, .int .u8 x.b, .int .i64 x.i, .string x.s] #[.int .i64 0, .int .i64 0, .string ⟨#[]⟩, .slice none 0 0, .slice none 0 0] 93 25).2
  have HS1 := Lib.hid hS1
  have HS2 := Lib.hid hS2
  have q0 : ((x.k : Int) == 0) = false := by rw [beq_eq_false_iff_ne]; omega
  have q1 : ((x.k : Int) == 1) = true := by rw [beq_iff_eq]; omega
  have qo : ((σ.op : Int) == 32) = false := by rw [beq_eq_false_iff_ne]; omega
  have qn : ((σ.nd : Int) == 4096) = false := by rw [beq_eq_false_iff_ne]; omega
  have qb : ((b : Int) == 1024) = true := by rw [beq_iff_eq]; omega
  clear hP hS1 hS2 hk1 ho hn hb
  go_enter Tryz.func118, Tryz.ntmps118
  go_wp2_with fail
  refine (HS1.out _).mono ?_
  rintro e w1 ⟨rfl, hb1⟩
  have HT1 := Lib.hid (HT0.out.below hb1 HT0.out.lt)
  have HZ1 := Lib.hid (HZ0.out.below hb1 HZ0.out.lt)
  have HG1 := Lib.hid (HG0.out.low hb1)
  have HP1 := Lib.hid (HP0.out.next hb1)
  clear hb1 HT0 HZ0 HG0 HP0
  obtain ⟨t0, t1, t2, t3, t4, t5⟩ := box6 HT1.out
  obtain ⟨⟨b0, b1, b2, b3, b4, b5⟩, f0, f1, f2, f3, f4, f5⟩ := HP1.out.six
  have hgl := HP1.out.glt
  go_wp2_with fail
  clear t0 t1 t2 t3 t4 t5 b0 b1 b2 b3 b4 b5 f0 f1 f2 f3 f4 f5 hgl
  refine (HS2.out _).mono ?_
  rintro e w2 ⟨rfl, hb2⟩
  have HT2 := Lib.hid (HT1.out.below hb2 HT1.out.lt)
  have HZ2 := Lib.hid (HZ1.out.below hb2 HZ1.out.lt)
  have HG2 := Lib.hid (HG1.out.low hb2)
  have HP2 := Lib.hid (HP1.out.next hb2)
  clear hb2 HT1 HZ1 HG1 HP1
  obtain ⟨t0, t1, t2, t3, t4, t5⟩ := box6 HT2.out
  obtain ⟨⟨b0, b1, b2, b3, b4, b5⟩, f0, f1, f2, f3, f4, f5⟩ := HP2.out.six
  have hgl := HP2.out.glt
  go_wp2_with fail
  clear t0 t1 t2 t3 t4 t5 b0 b1 b2 b3 b4 b5 f0 f1 f2 f3 f4 f5 hgl
  refine (jfail_lit x.f 2 rfl rfl HP2.out).mono ?_
  rintro e wf ⟨rfl, hgf, hpf⟩
  have HT3 := Lib.hid (HT2.out.gr hgf hne)
  have HZ3 := Lib.hid (HZ2.out.gr hgf hne2)
  have HG3 := Lib.hid (HG2.out.trans hgf)
  have HP3 := Lib.hid hpf
  clear hgf hpf HT2 HZ2 HG2 HP2
  obtain ⟨y0, y1, y2, y3, y4⟩ := box5 HZ3.out
  obtain ⟨z0, z1, z2, z3, z4⟩ := free5 HZ3.out
  go_wp2_with fail
  refine post5v Tryz.results118 rfl rfl (put5x HZ3.out _ _ _ _ _) ?_
  exact JVal.closeAt (S := noB) (Nat.le_succ _) HP.out HG3.out HP3.out (lies_leafV _ _ _ (by decide)) (fun b h => h.elim)
set_option maxHeartbeats 10000000 in
set_option maxRecDepth 100000 in
theorem el_full_b {s : ByteArray} {g : Nat} {w : World} {σ : JS} (x : Lx) (b : Nat) (hS1 : ∀ W, Calls Tryz.prog 152 #[.agg #[.int .i64 x.k, .int .i64 x.f, .int .i64 x.t, .int .u8 x.b, .int .i64 x.i, .string x.s], .int .u8 91] W (fun e w' => e = .returned (.bool false) ∧ Below W.heap.size W w')) (hS2 : ∀ W, Calls Tryz.prog 152 #[.agg #[.int .i64 x.k, .int .i64 x.f, .int .i64 x.t, .int .u8 x.b, .int .i64 x.i, .string x.s], .int .u8 123] W (fun e w' => e = .returned (.bool true) ∧ Below W.heap.size W w')) (hk1 : x.k = 1) (ho : ¬ σ.op = 32) (hn : ¬ σ.nd = 4096) (hb : ¬ b = 1024) (hH : ∀ W, JAt s g W σ → Calls Tryz.prog 154 #[.pointer (some ⟨g, 0, none⟩), .agg #[.int .i64 x.k, .int .i64 x.f, .int .i64 x.t, .int .u8 x.b, .int .i64 x.i, .string x.s]] W (JBool s g W false { σ with sz := σ.sz + x.s.size })) (hP : JAt s g w σ) : Calls Tryz.prog 118 #[.pointer (some ⟨g, 0, none⟩), .agg #[.int .i64 x.k, .int .i64 x.f, .int .i64 x.t, .int .u8 x.b, .int .i64 x.i, .string x.s], .int .i64 b] w (JVal s g w jz (jfail x.f 2 { σ with sz := σ.sz + x.s.size })) := by
  have HP := Lib.hid hP
  have hg := hP.glt
  have hne : ¬ w.heap.size = g := by omega
  have hne2 : ¬ w.heap.size + 1 = g := by omega
  have HP0 := Lib.hid ((hP.alloc (.cells #[.int .i64 x.k, .int .i64 x.f, .int .i64 x.t, .int .u8 x.b, .int .i64 x.i, .string x.s] 93)).alloc (.cells #[.int .i64 0, .int .i64 0, .string ⟨#[]⟩, .slice none 0 0, .slice none 0 0] 25))
  have HG0 : Hid (Gr g w ((w.alloc (.cells #[.int .i64 x.k, .int .i64 x.f, .int .i64 x.t, .int .u8 x.b, .int .i64 x.i, .string x.s] 93)).alloc (.cells #[.int .i64 0, .int .i64 0, .string ⟨#[]⟩, .slice none 0 0, .slice none 0 0] 25))) := Lib.hid ((Gr.one w _).alloc _)
  have HT0 := Lib.hid (laid2 w #[.int .i64 x.k, .int .i64 x.f, .int .i64 x.t, .int .u8 x.b, .int .i64 x.i, .string x.s] #[.int .i64 0, .int .i64 0, .string ⟨#[]⟩, .slice none 0 0, .slice none 0 0] 93 25).1
  have HZ0 := Lib.hid (laid2 w #[.int .i64 x.k, .int .i64 x.f, .int .i64 x.t, .int .u8 x.b, .int .i64 x.i, .string x.s] #[.int .i64 0, .int .i64 0, .string ⟨#[]⟩, .slice none 0 0, .slice none 0 0] 93 25).2
  have HS1 := Lib.hid hS1
  have HS2 := Lib.hid hS2
  have q0 : ((x.k : Int) == 0) = false := by rw [beq_eq_false_iff_ne]; omega
  have q1 : ((x.k : Int) == 1) = true := by rw [beq_iff_eq]; omega
  have qo : ((σ.op : Int) == 32) = false := by rw [beq_eq_false_iff_ne]; omega
  have qn : ((σ.nd : Int) == 4096) = false := by rw [beq_eq_false_iff_ne]; omega
  have qb : ((b : Int) == 1024) = false := by rw [beq_eq_false_iff_ne]; omega
  have HH := Lib.hid hH
  clear hP hS1 hS2 hk1 ho hn hb hH
  go_enter Tryz.func118, Tryz.ntmps118
  go_wp2_with fail
  refine (HS1.out _).mono ?_
  rintro e w1 ⟨rfl, hb1⟩
  have HT1 := Lib.hid (HT0.out.below hb1 HT0.out.lt)
  have HZ1 := Lib.hid (HZ0.out.below hb1 HZ0.out.lt)
  have HG1 := Lib.hid (HG0.out.low hb1)
  have HP1 := Lib.hid (HP0.out.next hb1)
  clear hb1 HT0 HZ0 HG0 HP0
  obtain ⟨t0, t1, t2, t3, t4, t5⟩ := box6 HT1.out
  obtain ⟨⟨b0, b1, b2, b3, b4, b5⟩, f0, f1, f2, f3, f4, f5⟩ := HP1.out.six
  have hgl := HP1.out.glt
  go_wp2_with fail
  clear t0 t1 t2 t3 t4 t5 b0 b1 b2 b3 b4 b5 f0 f1 f2 f3 f4 f5 hgl
  refine (HS2.out _).mono ?_
  rintro e w2 ⟨rfl, hb2⟩
  have HT2 := Lib.hid (HT1.out.below hb2 HT1.out.lt)
  have HZ2 := Lib.hid (HZ1.out.below hb2 HZ1.out.lt)
  have HG2 := Lib.hid (HG1.out.low hb2)
  have HP2 := Lib.hid (HP1.out.next hb2)
  clear hb2 HT1 HZ1 HG1 HP1
  obtain ⟨t0, t1, t2, t3, t4, t5⟩ := box6 HT2.out
  obtain ⟨⟨b0, b1, b2, b3, b4, b5⟩, f0, f1, f2, f3, f4, f5⟩ := HP2.out.six
  have hgl := HP2.out.glt
  go_wp2_with fail
  clear t0 t1 t2 t3 t4 t5 b0 b1 b2 b3 b4 b5 f0 f1 f2 f3 f4 f5 hgl
  refine (HH.out _ HP2.out).mono ?_
  rintro e wr ⟨rfl, hgr, hpr⟩
  have HT3 := Lib.hid (HT2.out.gr hgr hne)
  have HZ3 := Lib.hid (HZ2.out.gr hgr hne2)
  have HG3 := Lib.hid (HG2.out.trans hgr)
  have HP3 := Lib.hid hpr
  clear hgr hpr HT2 HZ2 HG2 HP2
  obtain ⟨t0, t1, t2, t3, t4, t5⟩ := box6 HT3.out
  obtain ⟨⟨b0, b1, b2, b3, b4, b5⟩, f0, f1, f2, f3, f4, f5⟩ := HP3.out.six
  have hgl := HP3.out.glt
  go_wp2_with fail
  clear t0 t1 t2 t3 t4 t5 b0 b1 b2 b3 b4 b5 f0 f1 f2 f3 f4 f5 hgl
  refine (jfail_lit x.f 2 rfl rfl HP3.out).mono ?_
  rintro e wf ⟨rfl, hgf, hpf⟩
  have HT4 := Lib.hid (HT3.out.gr hgf hne)
  have HZ4 := Lib.hid (HZ3.out.gr hgf hne2)
  have HG4 := Lib.hid (HG3.out.trans hgf)
  have HP4 := Lib.hid hpf
  clear hgf hpf HT3 HZ3 HG3 HP3
  obtain ⟨y0, y1, y2, y3, y4⟩ := box5 HZ4.out
  obtain ⟨z0, z1, z2, z3, z4⟩ := free5 HZ4.out
  go_wp2_with fail
  refine post5v Tryz.results118 rfl rfl (put5x HZ4.out _ _ _ _ _) ?_
  exact JVal.closeAt (S := noB) (Nat.le_succ _) HP.out HG4.out HP4.out (lies_leafV _ _ _ (by decide)) (fun b h => h.elim)
set_option maxHeartbeats 10000000 in
set_option maxRecDepth 100000 in
theorem el_good_b {s : ByteArray} {g : Nat} {w : World} {σ τ : JS} {v : V} (x : Lx) (b : Nat) (hS1 : ∀ W, Calls Tryz.prog 152 #[.agg #[.int .i64 x.k, .int .i64 x.f, .int .i64 x.t, .int .u8 x.b, .int .i64 x.i, .string x.s], .int .u8 91] W (fun e w' => e = .returned (.bool false) ∧ Below W.heap.size W w')) (hS2 : ∀ W, Calls Tryz.prog 152 #[.agg #[.int .i64 x.k, .int .i64 x.f, .int .i64 x.t, .int .u8 x.b, .int .i64 x.i, .string x.s], .int .u8 123] W (fun e w' => e = .returned (.bool true) ∧ Below W.heap.size W w')) (hk1 : x.k = 1) (ho : ¬ σ.op = 32) (hn : ¬ σ.nd = 4096) (hb : ¬ b = 1024) (hH : ∀ W, JAt s g W σ → Calls Tryz.prog 154 #[.pointer (some ⟨g, 0, none⟩), .agg #[.int .i64 x.k, .int .i64 x.f, .int .i64 x.t, .int .u8 x.b, .int .i64 x.i, .string x.s]] W (JBool s g W true { σ with sz := σ.sz + x.s.size })) (hD : ∀ W, JAt s g W { σ with nd := σ.nd + 1, sz := σ.sz + x.s.size } → Calls Tryz.prog 155 #[.pointer (some ⟨g, 0, none⟩), .agg #[.int .i64 x.k, .int .i64 x.f, .int .i64 x.t, .int .u8 x.b, .int .i64 x.i, .string x.s]] W (JVal s g W v τ)) (hP : JAt s g w σ) : Calls Tryz.prog 118 #[.pointer (some ⟨g, 0, none⟩), .agg #[.int .i64 x.k, .int .i64 x.f, .int .i64 x.t, .int .u8 x.b, .int .i64 x.i, .string x.s], .int .i64 b] w (JVal s g w v τ) := by
  have HP := Lib.hid hP
  have hg := hP.glt
  have hne : ¬ w.heap.size = g := by omega
  have hne2 : ¬ w.heap.size + 1 = g := by omega
  have HP0 := Lib.hid ((hP.alloc (.cells #[.int .i64 x.k, .int .i64 x.f, .int .i64 x.t, .int .u8 x.b, .int .i64 x.i, .string x.s] 93)).alloc (.cells #[.int .i64 0, .int .i64 0, .string ⟨#[]⟩, .slice none 0 0, .slice none 0 0] 25))
  have HG0 : Hid (Gr g w ((w.alloc (.cells #[.int .i64 x.k, .int .i64 x.f, .int .i64 x.t, .int .u8 x.b, .int .i64 x.i, .string x.s] 93)).alloc (.cells #[.int .i64 0, .int .i64 0, .string ⟨#[]⟩, .slice none 0 0, .slice none 0 0] 25))) := Lib.hid ((Gr.one w _).alloc _)
  have HT0 := Lib.hid (laid2 w #[.int .i64 x.k, .int .i64 x.f, .int .i64 x.t, .int .u8 x.b, .int .i64 x.i, .string x.s] #[.int .i64 0, .int .i64 0, .string ⟨#[]⟩, .slice none 0 0, .slice none 0 0] 93 25).1
  have HZ0 := Lib.hid (laid2 w #[.int .i64 x.k, .int .i64 x.f, .int .i64 x.t, .int .u8 x.b, .int .i64 x.i, .string x.s] #[.int .i64 0, .int .i64 0, .string ⟨#[]⟩, .slice none 0 0, .slice none 0 0] 93 25).2
  have HS1 := Lib.hid hS1
  have HS2 := Lib.hid hS2
  have q0 : ((x.k : Int) == 0) = false := by rw [beq_eq_false_iff_ne]; omega
  have q1 : ((x.k : Int) == 1) = true := by rw [beq_iff_eq]; omega
  have qo : ((σ.op : Int) == 32) = false := by rw [beq_eq_false_iff_ne]; omega
  have qn : ((σ.nd : Int) == 4096) = false := by rw [beq_eq_false_iff_ne]; omega
  have qb : ((b : Int) == 1024) = false := by rw [beq_eq_false_iff_ne]; omega
  have HH := Lib.hid hH
  have HBd := Lib.hid hD
  have HND := Lib.hid (show σ.nd < 4096 by have := hP.nd; omega)
  have hwn : IntKind.i64.wrap ((σ.nd : Int) + 1) = (σ.nd : Int) + 1 := by have := hP.nd; rw [IntKind.wrap_i64]; omega
  clear hP hS1 hS2 hk1 ho hn hb hH hD
  go_enter Tryz.func118, Tryz.ntmps118
  go_wp2_with fail
  refine (HS1.out _).mono ?_
  rintro e w1 ⟨rfl, hb1⟩
  have HT1 := Lib.hid (HT0.out.below hb1 HT0.out.lt)
  have HZ1 := Lib.hid (HZ0.out.below hb1 HZ0.out.lt)
  have HG1 := Lib.hid (HG0.out.low hb1)
  have HP1 := Lib.hid (HP0.out.next hb1)
  clear hb1 HT0 HZ0 HG0 HP0
  obtain ⟨t0, t1, t2, t3, t4, t5⟩ := box6 HT1.out
  obtain ⟨⟨b0, b1, b2, b3, b4, b5⟩, f0, f1, f2, f3, f4, f5⟩ := HP1.out.six
  have hgl := HP1.out.glt
  go_wp2_with fail
  clear t0 t1 t2 t3 t4 t5 b0 b1 b2 b3 b4 b5 f0 f1 f2 f3 f4 f5 hgl
  refine (HS2.out _).mono ?_
  rintro e w2 ⟨rfl, hb2⟩
  have HT2 := Lib.hid (HT1.out.below hb2 HT1.out.lt)
  have HZ2 := Lib.hid (HZ1.out.below hb2 HZ1.out.lt)
  have HG2 := Lib.hid (HG1.out.low hb2)
  have HP2 := Lib.hid (HP1.out.next hb2)
  clear hb2 HT1 HZ1 HG1 HP1
  obtain ⟨t0, t1, t2, t3, t4, t5⟩ := box6 HT2.out
  obtain ⟨⟨b0, b1, b2, b3, b4, b5⟩, f0, f1, f2, f3, f4, f5⟩ := HP2.out.six
  have hgl := HP2.out.glt
  go_wp2_with fail
  clear t0 t1 t2 t3 t4 t5 b0 b1 b2 b3 b4 b5 f0 f1 f2 f3 f4 f5 hgl
  refine (HH.out _ HP2.out).mono ?_
  rintro e wr ⟨rfl, hgr, hpr⟩
  have HT3 := Lib.hid (HT2.out.gr hgr hne)
  have HZ3 := Lib.hid (HZ2.out.gr hgr hne2)
  have HG3 := Lib.hid (HG2.out.trans hgr)
  have HP3 := Lib.hid hpr
  clear hgr hpr HT2 HZ2 HG2 HP2
  obtain ⟨t0, t1, t2, t3, t4, t5⟩ := box6 HT3.out
  obtain ⟨⟨b0, b1, b2, b3, b4, b5⟩, f0, f1, f2, f3, f4, f5⟩ := HP3.out.six
  have hgl := HP3.out.glt
  go_wp2_with fail
  have HPb : Hid (JAt s g (wr.setCell ⟨g, 4, none⟩ (.int .i64 ((σ.nd : Int) + 1))) { σ with nd := σ.nd + 1, sz := σ.sz + x.s.size }) := Lib.hid (HP3.out.own 4 _ rfl HP3.out.op (by have := HND.out; show σ.nd + 1 ≤ 4096; omega) HP3.out.sz)
  refine (HBd.out _ HPb.out).mono ?_
  rintro e wz ⟨c0, c1, c2, c3, c4, rfl, hgz, hpz, hlz⟩
  obtain ⟨k, n, t, A, na, ca, B, nb, cb, rfl, rfl, rfl, rfl, rfl⟩ := lies_five hlz
  have HZz := Lib.hid ((HZ3.out.far (p := ⟨g, 4, none⟩) hne2 _).gr hgz hne2)
  have HGz := Lib.hid ((HG3.out.set 4 _).trans hgz)
  have HSz := Lib.hid (show w.heap.size + 1 < wr.heap.size from HZ3.out.lt)
  have HPz := Lib.hid hpz
  have HLz := Lib.hid hlz
  clear hgz hpz hlz
  clear t0 t1 t2 t3 t4 t5 b0 b1 b2 b3 b4 b5 f0 f1 f2 f3 f4 f5 hgl
  obtain ⟨y0, y1, y2, y3, y4⟩ := box5 HZz.out
  obtain ⟨z0, z1, z2, z3, z4⟩ := free5 HZz.out
  go_wp2_with fail
  refine post5v Tryz.results118 rfl rfl (put5x HZz.out _ _ _ _ _) ?_
  exact JVal.closeAt (Nat.le_succ _) HP.out HGz.out HPz.out HLz.out (fun b h => by have h1 := h.1; have h2 := h.2; have h3 := HSz.out; simp [World.setCell] at h1; exact ⟨by omega, h2, by omega⟩)
set_option maxHeartbeats 10000000 in
set_option maxRecDepth 100000 in
theorem el_many_n {s : ByteArray} {g : Nat} {w : World} {σ : JS} (x : Lx) (b : Nat) (hS1 : ∀ W, Calls Tryz.prog 152 #[.agg #[.int .i64 x.k, .int .i64 x.f, .int .i64 x.t, .int .u8 x.b, .int .i64 x.i, .string x.s], .int .u8 91] W (fun e w' => e = .returned (.bool false) ∧ Below W.heap.size W w')) (hS2 : ∀ W, Calls Tryz.prog 152 #[.agg #[.int .i64 x.k, .int .i64 x.f, .int .i64 x.t, .int .u8 x.b, .int .i64 x.i, .string x.s], .int .u8 123] W (fun e w' => e = .returned (.bool false) ∧ Below W.heap.size W w')) (hk0 : x.k ≠ 0) (hk1 : x.k ≠ 1) (hn : σ.nd = 4096) (hP : JAt s g w σ) : Calls Tryz.prog 118 #[.pointer (some ⟨g, 0, none⟩), .agg #[.int .i64 x.k, .int .i64 x.f, .int .i64 x.t, .int .u8 x.b, .int .i64 x.i, .string x.s], .int .i64 b] w (JVal s g w jz (jfail x.f 2 σ)) := by
  have HP := Lib.hid hP
  have hg := hP.glt
  have hne : ¬ w.heap.size = g := by omega
  have hne2 : ¬ w.heap.size + 1 = g := by omega
  have HP0 := Lib.hid ((hP.alloc (.cells #[.int .i64 x.k, .int .i64 x.f, .int .i64 x.t, .int .u8 x.b, .int .i64 x.i, .string x.s] 93)).alloc (.cells #[.int .i64 0, .int .i64 0, .string ⟨#[]⟩, .slice none 0 0, .slice none 0 0] 25))
  have HG0 : Hid (Gr g w ((w.alloc (.cells #[.int .i64 x.k, .int .i64 x.f, .int .i64 x.t, .int .u8 x.b, .int .i64 x.i, .string x.s] 93)).alloc (.cells #[.int .i64 0, .int .i64 0, .string ⟨#[]⟩, .slice none 0 0, .slice none 0 0] 25))) := Lib.hid ((Gr.one w _).alloc _)
  have HT0 := Lib.hid (laid2 w #[.int .i64 x.k, .int .i64 x.f, .int .i64 x.t, .int .u8 x.b, .int .i64 x.i, .string x.s] #[.int .i64 0, .int .i64 0, .string ⟨#[]⟩, .slice none 0 0, .slice none 0 0] 93 25).1
  have HZ0 := Lib.hid (laid2 w #[.int .i64 x.k, .int .i64 x.f, .int .i64 x.t, .int .u8 x.b, .int .i64 x.i, .string x.s] #[.int .i64 0, .int .i64 0, .string ⟨#[]⟩, .slice none 0 0, .slice none 0 0] 93 25).2
  have HS1 := Lib.hid hS1
  have HS2 := Lib.hid hS2
  have q0 : ((x.k : Int) == 0) = false := by rw [beq_eq_false_iff_ne]; omega
  have q1 : ((x.k : Int) == 1) = false := by rw [beq_eq_false_iff_ne]; omega
  have qn : ((σ.nd : Int) == 4096) = true := by rw [beq_iff_eq]; omega
  clear hP hS1 hS2 hk0 hk1 hn
  go_enter Tryz.func118, Tryz.ntmps118
  go_wp2_with fail
  refine (HS1.out _).mono ?_
  rintro e w1 ⟨rfl, hb1⟩
  have HT1 := Lib.hid (HT0.out.below hb1 HT0.out.lt)
  have HZ1 := Lib.hid (HZ0.out.below hb1 HZ0.out.lt)
  have HG1 := Lib.hid (HG0.out.low hb1)
  have HP1 := Lib.hid (HP0.out.next hb1)
  clear hb1 HT0 HZ0 HG0 HP0
  obtain ⟨t0, t1, t2, t3, t4, t5⟩ := box6 HT1.out
  obtain ⟨⟨b0, b1, b2, b3, b4, b5⟩, f0, f1, f2, f3, f4, f5⟩ := HP1.out.six
  have hgl := HP1.out.glt
  go_wp2_with fail
  clear t0 t1 t2 t3 t4 t5 b0 b1 b2 b3 b4 b5 f0 f1 f2 f3 f4 f5 hgl
  refine (HS2.out _).mono ?_
  rintro e w2 ⟨rfl, hb2⟩
  have HT2 := Lib.hid (HT1.out.below hb2 HT1.out.lt)
  have HZ2 := Lib.hid (HZ1.out.below hb2 HZ1.out.lt)
  have HG2 := Lib.hid (HG1.out.low hb2)
  have HP2 := Lib.hid (HP1.out.next hb2)
  clear hb2 HT1 HZ1 HG1 HP1
  obtain ⟨t0, t1, t2, t3, t4, t5⟩ := box6 HT2.out
  obtain ⟨⟨b0, b1, b2, b3, b4, b5⟩, f0, f1, f2, f3, f4, f5⟩ := HP2.out.six
  have hgl := HP2.out.glt
  go_wp2_with fail
  clear t0 t1 t2 t3 t4 t5 b0 b1 b2 b3 b4 b5 f0 f1 f2 f3 f4 f5 hgl
  refine (jfail_lit x.f 2 rfl rfl HP2.out).mono ?_
  rintro e wf ⟨rfl, hgf, hpf⟩
  have HT3 := Lib.hid (HT2.out.gr hgf hne)
  have HZ3 := Lib.hid (HZ2.out.gr hgf hne2)
  have HG3 := Lib.hid (HG2.out.trans hgf)
  have HP3 := Lib.hid hpf
  clear hgf hpf HT2 HZ2 HG2 HP2
  obtain ⟨y0, y1, y2, y3, y4⟩ := box5 HZ3.out
  obtain ⟨z0, z1, z2, z3, z4⟩ := free5 HZ3.out
  go_wp2_with fail
  refine post5v Tryz.results118 rfl rfl (put5x HZ3.out _ _ _ _ _) ?_
  exact JVal.closeAt (S := noB) (Nat.le_succ _) HP.out HG3.out HP3.out (lies_leafV _ _ _ (by decide)) (fun b h => h.elim)
set_option maxHeartbeats 10000000 in
set_option maxRecDepth 100000 in
theorem el_long_n {s : ByteArray} {g : Nat} {w : World} {σ : JS} (x : Lx) (b : Nat) (hS1 : ∀ W, Calls Tryz.prog 152 #[.agg #[.int .i64 x.k, .int .i64 x.f, .int .i64 x.t, .int .u8 x.b, .int .i64 x.i, .string x.s], .int .u8 91] W (fun e w' => e = .returned (.bool false) ∧ Below W.heap.size W w')) (hS2 : ∀ W, Calls Tryz.prog 152 #[.agg #[.int .i64 x.k, .int .i64 x.f, .int .i64 x.t, .int .u8 x.b, .int .i64 x.i, .string x.s], .int .u8 123] W (fun e w' => e = .returned (.bool false) ∧ Below W.heap.size W w')) (hk0 : x.k ≠ 0) (hk1 : x.k ≠ 1) (hn : ¬ σ.nd = 4096) (hb : b = 1024) (hP : JAt s g w σ) : Calls Tryz.prog 118 #[.pointer (some ⟨g, 0, none⟩), .agg #[.int .i64 x.k, .int .i64 x.f, .int .i64 x.t, .int .u8 x.b, .int .i64 x.i, .string x.s], .int .i64 b] w (JVal s g w jz (jfail x.f 2 σ)) := by
  have HP := Lib.hid hP
  have hg := hP.glt
  have hne : ¬ w.heap.size = g := by omega
  have hne2 : ¬ w.heap.size + 1 = g := by omega
  have HP0 := Lib.hid ((hP.alloc (.cells #[.int .i64 x.k, .int .i64 x.f, .int .i64 x.t, .int .u8 x.b, .int .i64 x.i, .string x.s] 93)).alloc (.cells #[.int .i64 0, .int .i64 0, .string ⟨#[]⟩, .slice none 0 0, .slice none 0 0] 25))
  have HG0 : Hid (Gr g w ((w.alloc (.cells #[.int .i64 x.k, .int .i64 x.f, .int .i64 x.t, .int .u8 x.b, .int .i64 x.i, .string x.s] 93)).alloc (.cells #[.int .i64 0, .int .i64 0, .string ⟨#[]⟩, .slice none 0 0, .slice none 0 0] 25))) := Lib.hid ((Gr.one w _).alloc _)
  have HT0 := Lib.hid (laid2 w #[.int .i64 x.k, .int .i64 x.f, .int .i64 x.t, .int .u8 x.b, .int .i64 x.i, .string x.s] #[.int .i64 0, .int .i64 0, .string ⟨#[]⟩, .slice none 0 0, .slice none 0 0] 93 25).1
  have HZ0 := Lib.hid (laid2 w #[.int .i64 x.k, .int .i64 x.f, .int .i64 x.t, .int .u8 x.b, .int .i64 x.i, .string x.s] #[.int .i64 0, .int .i64 0, .string ⟨#[]⟩, .slice none 0 0, .slice none 0 0] 93 25).2
  have HS1 := Lib.hid hS1
  have HS2 := Lib.hid hS2
  have q0 : ((x.k : Int) == 0) = false := by rw [beq_eq_false_iff_ne]; omega
  have q1 : ((x.k : Int) == 1) = false := by rw [beq_eq_false_iff_ne]; omega
  have qn : ((σ.nd : Int) == 4096) = false := by rw [beq_eq_false_iff_ne]; omega
  have qb : ((b : Int) == 1024) = true := by rw [beq_iff_eq]; omega
  clear hP hS1 hS2 hk0 hk1 hn hb
  go_enter Tryz.func118, Tryz.ntmps118
  go_wp2_with fail
  refine (HS1.out _).mono ?_
  rintro e w1 ⟨rfl, hb1⟩
  have HT1 := Lib.hid (HT0.out.below hb1 HT0.out.lt)
  have HZ1 := Lib.hid (HZ0.out.below hb1 HZ0.out.lt)
  have HG1 := Lib.hid (HG0.out.low hb1)
  have HP1 := Lib.hid (HP0.out.next hb1)
  clear hb1 HT0 HZ0 HG0 HP0
  obtain ⟨t0, t1, t2, t3, t4, t5⟩ := box6 HT1.out
  obtain ⟨⟨b0, b1, b2, b3, b4, b5⟩, f0, f1, f2, f3, f4, f5⟩ := HP1.out.six
  have hgl := HP1.out.glt
  go_wp2_with fail
  clear t0 t1 t2 t3 t4 t5 b0 b1 b2 b3 b4 b5 f0 f1 f2 f3 f4 f5 hgl
  refine (HS2.out _).mono ?_
  rintro e w2 ⟨rfl, hb2⟩
  have HT2 := Lib.hid (HT1.out.below hb2 HT1.out.lt)
  have HZ2 := Lib.hid (HZ1.out.below hb2 HZ1.out.lt)
  have HG2 := Lib.hid (HG1.out.low hb2)
  have HP2 := Lib.hid (HP1.out.next hb2)
  clear hb2 HT1 HZ1 HG1 HP1
  obtain ⟨t0, t1, t2, t3, t4, t5⟩ := box6 HT2.out
  obtain ⟨⟨b0, b1, b2, b3, b4, b5⟩, f0, f1, f2, f3, f4, f5⟩ := HP2.out.six
  have hgl := HP2.out.glt
  go_wp2_with fail
  clear t0 t1 t2 t3 t4 t5 b0 b1 b2 b3 b4 b5 f0 f1 f2 f3 f4 f5 hgl
  refine (jfail_lit x.f 2 rfl rfl HP2.out).mono ?_
  rintro e wf ⟨rfl, hgf, hpf⟩
  have HT3 := Lib.hid (HT2.out.gr hgf hne)
  have HZ3 := Lib.hid (HZ2.out.gr hgf hne2)
  have HG3 := Lib.hid (HG2.out.trans hgf)
  have HP3 := Lib.hid hpf
  clear hgf hpf HT2 HZ2 HG2 HP2
  obtain ⟨y0, y1, y2, y3, y4⟩ := box5 HZ3.out
  obtain ⟨z0, z1, z2, z3, z4⟩ := free5 HZ3.out
  go_wp2_with fail
  refine post5v Tryz.results118 rfl rfl (put5x HZ3.out _ _ _ _ _) ?_
  exact JVal.closeAt (S := noB) (Nat.le_succ _) HP.out HG3.out HP3.out (lies_leafV _ _ _ (by decide)) (fun b h => h.elim)
set_option maxHeartbeats 10000000 in
set_option maxRecDepth 100000 in
theorem el_full_n {s : ByteArray} {g : Nat} {w : World} {σ : JS} (x : Lx) (b : Nat) (hS1 : ∀ W, Calls Tryz.prog 152 #[.agg #[.int .i64 x.k, .int .i64 x.f, .int .i64 x.t, .int .u8 x.b, .int .i64 x.i, .string x.s], .int .u8 91] W (fun e w' => e = .returned (.bool false) ∧ Below W.heap.size W w')) (hS2 : ∀ W, Calls Tryz.prog 152 #[.agg #[.int .i64 x.k, .int .i64 x.f, .int .i64 x.t, .int .u8 x.b, .int .i64 x.i, .string x.s], .int .u8 123] W (fun e w' => e = .returned (.bool false) ∧ Below W.heap.size W w')) (hk0 : x.k ≠ 0) (hk1 : x.k ≠ 1) (hn : ¬ σ.nd = 4096) (hb : ¬ b = 1024) (hH : ∀ W, JAt s g W σ → Calls Tryz.prog 154 #[.pointer (some ⟨g, 0, none⟩), .agg #[.int .i64 x.k, .int .i64 x.f, .int .i64 x.t, .int .u8 x.b, .int .i64 x.i, .string x.s]] W (JBool s g W false { σ with sz := σ.sz + x.s.size })) (hP : JAt s g w σ) : Calls Tryz.prog 118 #[.pointer (some ⟨g, 0, none⟩), .agg #[.int .i64 x.k, .int .i64 x.f, .int .i64 x.t, .int .u8 x.b, .int .i64 x.i, .string x.s], .int .i64 b] w (JVal s g w jz (jfail x.f 2 { σ with sz := σ.sz + x.s.size })) := by
  have HP := Lib.hid hP
  have hg := hP.glt
  have hne : ¬ w.heap.size = g := by omega
  have hne2 : ¬ w.heap.size + 1 = g := by omega
  have HP0 := Lib.hid ((hP.alloc (.cells #[.int .i64 x.k, .int .i64 x.f, .int .i64 x.t, .int .u8 x.b, .int .i64 x.i, .string x.s] 93)).alloc (.cells #[.int .i64 0, .int .i64 0, .string ⟨#[]⟩, .slice none 0 0, .slice none 0 0] 25))
  have HG0 : Hid (Gr g w ((w.alloc (.cells #[.int .i64 x.k, .int .i64 x.f, .int .i64 x.t, .int .u8 x.b, .int .i64 x.i, .string x.s] 93)).alloc (.cells #[.int .i64 0, .int .i64 0, .string ⟨#[]⟩, .slice none 0 0, .slice none 0 0] 25))) := Lib.hid ((Gr.one w _).alloc _)
  have HT0 := Lib.hid (laid2 w #[.int .i64 x.k, .int .i64 x.f, .int .i64 x.t, .int .u8 x.b, .int .i64 x.i, .string x.s] #[.int .i64 0, .int .i64 0, .string ⟨#[]⟩, .slice none 0 0, .slice none 0 0] 93 25).1
  have HZ0 := Lib.hid (laid2 w #[.int .i64 x.k, .int .i64 x.f, .int .i64 x.t, .int .u8 x.b, .int .i64 x.i, .string x.s] #[.int .i64 0, .int .i64 0, .string ⟨#[]⟩, .slice none 0 0, .slice none 0 0] 93 25).2
  have HS1 := Lib.hid hS1
  have HS2 := Lib.hid hS2
  have q0 : ((x.k : Int) == 0) = false := by rw [beq_eq_false_iff_ne]; omega
  have q1 : ((x.k : Int) == 1) = false := by rw [beq_eq_false_iff_ne]; omega
  have qn : ((σ.nd : Int) == 4096) = false := by rw [beq_eq_false_iff_ne]; omega
  have qb : ((b : Int) == 1024) = false := by rw [beq_eq_false_iff_ne]; omega
  have HH := Lib.hid hH
  clear hP hS1 hS2 hk0 hk1 hn hb hH
  go_enter Tryz.func118, Tryz.ntmps118
  go_wp2_with fail
  refine (HS1.out _).mono ?_
  rintro e w1 ⟨rfl, hb1⟩
  have HT1 := Lib.hid (HT0.out.below hb1 HT0.out.lt)
  have HZ1 := Lib.hid (HZ0.out.below hb1 HZ0.out.lt)
  have HG1 := Lib.hid (HG0.out.low hb1)
  have HP1 := Lib.hid (HP0.out.next hb1)
  clear hb1 HT0 HZ0 HG0 HP0
  obtain ⟨t0, t1, t2, t3, t4, t5⟩ := box6 HT1.out
  obtain ⟨⟨b0, b1, b2, b3, b4, b5⟩, f0, f1, f2, f3, f4, f5⟩ := HP1.out.six
  have hgl := HP1.out.glt
  go_wp2_with fail
  clear t0 t1 t2 t3 t4 t5 b0 b1 b2 b3 b4 b5 f0 f1 f2 f3 f4 f5 hgl
  refine (HS2.out _).mono ?_
  rintro e w2 ⟨rfl, hb2⟩
  have HT2 := Lib.hid (HT1.out.below hb2 HT1.out.lt)
  have HZ2 := Lib.hid (HZ1.out.below hb2 HZ1.out.lt)
  have HG2 := Lib.hid (HG1.out.low hb2)
  have HP2 := Lib.hid (HP1.out.next hb2)
  clear hb2 HT1 HZ1 HG1 HP1
  obtain ⟨t0, t1, t2, t3, t4, t5⟩ := box6 HT2.out
  obtain ⟨⟨b0, b1, b2, b3, b4, b5⟩, f0, f1, f2, f3, f4, f5⟩ := HP2.out.six
  have hgl := HP2.out.glt
  go_wp2_with fail
  clear t0 t1 t2 t3 t4 t5 b0 b1 b2 b3 b4 b5 f0 f1 f2 f3 f4 f5 hgl
  refine (HH.out _ HP2.out).mono ?_
  rintro e wr ⟨rfl, hgr, hpr⟩
  have HT3 := Lib.hid (HT2.out.gr hgr hne)
  have HZ3 := Lib.hid (HZ2.out.gr hgr hne2)
  have HG3 := Lib.hid (HG2.out.trans hgr)
  have HP3 := Lib.hid hpr
  clear hgr hpr HT2 HZ2 HG2 HP2
  obtain ⟨t0, t1, t2, t3, t4, t5⟩ := box6 HT3.out
  obtain ⟨⟨b0, b1, b2, b3, b4, b5⟩, f0, f1, f2, f3, f4, f5⟩ := HP3.out.six
  have hgl := HP3.out.glt
  go_wp2_with fail
  clear t0 t1 t2 t3 t4 t5 b0 b1 b2 b3 b4 b5 f0 f1 f2 f3 f4 f5 hgl
  refine (jfail_lit x.f 2 rfl rfl HP3.out).mono ?_
  rintro e wf ⟨rfl, hgf, hpf⟩
  have HT4 := Lib.hid (HT3.out.gr hgf hne)
  have HZ4 := Lib.hid (HZ3.out.gr hgf hne2)
  have HG4 := Lib.hid (HG3.out.trans hgf)
  have HP4 := Lib.hid hpf
  clear hgf hpf HT3 HZ3 HG3 HP3
  obtain ⟨y0, y1, y2, y3, y4⟩ := box5 HZ4.out
  obtain ⟨z0, z1, z2, z3, z4⟩ := free5 HZ4.out
  go_wp2_with fail
  refine post5v Tryz.results118 rfl rfl (put5x HZ4.out _ _ _ _ _) ?_
  exact JVal.closeAt (S := noB) (Nat.le_succ _) HP.out HG4.out HP4.out (lies_leafV _ _ _ (by decide)) (fun b h => h.elim)
set_option maxHeartbeats 10000000 in
set_option maxRecDepth 100000 in
theorem el_good_n {s : ByteArray} {g : Nat} {w : World} {σ τ : JS} {v : V} (x : Lx) (b : Nat) (hS1 : ∀ W, Calls Tryz.prog 152 #[.agg #[.int .i64 x.k, .int .i64 x.f, .int .i64 x.t, .int .u8 x.b, .int .i64 x.i, .string x.s], .int .u8 91] W (fun e w' => e = .returned (.bool false) ∧ Below W.heap.size W w')) (hS2 : ∀ W, Calls Tryz.prog 152 #[.agg #[.int .i64 x.k, .int .i64 x.f, .int .i64 x.t, .int .u8 x.b, .int .i64 x.i, .string x.s], .int .u8 123] W (fun e w' => e = .returned (.bool false) ∧ Below W.heap.size W w')) (hk0 : x.k ≠ 0) (hk1 : x.k ≠ 1) (hn : ¬ σ.nd = 4096) (hb : ¬ b = 1024) (hH : ∀ W, JAt s g W σ → Calls Tryz.prog 154 #[.pointer (some ⟨g, 0, none⟩), .agg #[.int .i64 x.k, .int .i64 x.f, .int .i64 x.t, .int .u8 x.b, .int .i64 x.i, .string x.s]] W (JBool s g W true { σ with sz := σ.sz + x.s.size })) (hD : ∀ W, JAt s g W { σ with nd := σ.nd + 1, sz := σ.sz + x.s.size } → Calls Tryz.prog 155 #[.pointer (some ⟨g, 0, none⟩), .agg #[.int .i64 x.k, .int .i64 x.f, .int .i64 x.t, .int .u8 x.b, .int .i64 x.i, .string x.s]] W (JVal s g W v τ)) (hP : JAt s g w σ) : Calls Tryz.prog 118 #[.pointer (some ⟨g, 0, none⟩), .agg #[.int .i64 x.k, .int .i64 x.f, .int .i64 x.t, .int .u8 x.b, .int .i64 x.i, .string x.s], .int .i64 b] w (JVal s g w v τ) := by
  have HP := Lib.hid hP
  have hg := hP.glt
  have hne : ¬ w.heap.size = g := by omega
  have hne2 : ¬ w.heap.size + 1 = g := by omega
  have HP0 := Lib.hid ((hP.alloc (.cells #[.int .i64 x.k, .int .i64 x.f, .int .i64 x.t, .int .u8 x.b, .int .i64 x.i, .string x.s] 93)).alloc (.cells #[.int .i64 0, .int .i64 0, .string ⟨#[]⟩, .slice none 0 0, .slice none 0 0] 25))
  have HG0 : Hid (Gr g w ((w.alloc (.cells #[.int .i64 x.k, .int .i64 x.f, .int .i64 x.t, .int .u8 x.b, .int .i64 x.i, .string x.s] 93)).alloc (.cells #[.int .i64 0, .int .i64 0, .string ⟨#[]⟩, .slice none 0 0, .slice none 0 0] 25))) := Lib.hid ((Gr.one w _).alloc _)
  have HT0 := Lib.hid (laid2 w #[.int .i64 x.k, .int .i64 x.f, .int .i64 x.t, .int .u8 x.b, .int .i64 x.i, .string x.s] #[.int .i64 0, .int .i64 0, .string ⟨#[]⟩, .slice none 0 0, .slice none 0 0] 93 25).1
  have HZ0 := Lib.hid (laid2 w #[.int .i64 x.k, .int .i64 x.f, .int .i64 x.t, .int .u8 x.b, .int .i64 x.i, .string x.s] #[.int .i64 0, .int .i64 0, .string ⟨#[]⟩, .slice none 0 0, .slice none 0 0] 93 25).2
  have HS1 := Lib.hid hS1
  have HS2 := Lib.hid hS2
  have q0 : ((x.k : Int) == 0) = false := by rw [beq_eq_false_iff_ne]; omega
  have q1 : ((x.k : Int) == 1) = false := by rw [beq_eq_false_iff_ne]; omega
  have qn : ((σ.nd : Int) == 4096) = false := by rw [beq_eq_false_iff_ne]; omega
  have qb : ((b : Int) == 1024) = false := by rw [beq_eq_false_iff_ne]; omega
  have HH := Lib.hid hH
  have HBd := Lib.hid hD
  have HND := Lib.hid (show σ.nd < 4096 by have := hP.nd; omega)
  have hwn : IntKind.i64.wrap ((σ.nd : Int) + 1) = (σ.nd : Int) + 1 := by have := hP.nd; rw [IntKind.wrap_i64]; omega
  clear hP hS1 hS2 hk0 hk1 hn hb hH hD
  go_enter Tryz.func118, Tryz.ntmps118
  go_wp2_with fail
  refine (HS1.out _).mono ?_
  rintro e w1 ⟨rfl, hb1⟩
  have HT1 := Lib.hid (HT0.out.below hb1 HT0.out.lt)
  have HZ1 := Lib.hid (HZ0.out.below hb1 HZ0.out.lt)
  have HG1 := Lib.hid (HG0.out.low hb1)
  have HP1 := Lib.hid (HP0.out.next hb1)
  clear hb1 HT0 HZ0 HG0 HP0
  obtain ⟨t0, t1, t2, t3, t4, t5⟩ := box6 HT1.out
  obtain ⟨⟨b0, b1, b2, b3, b4, b5⟩, f0, f1, f2, f3, f4, f5⟩ := HP1.out.six
  have hgl := HP1.out.glt
  go_wp2_with fail
  clear t0 t1 t2 t3 t4 t5 b0 b1 b2 b3 b4 b5 f0 f1 f2 f3 f4 f5 hgl
  refine (HS2.out _).mono ?_
  rintro e w2 ⟨rfl, hb2⟩
  have HT2 := Lib.hid (HT1.out.below hb2 HT1.out.lt)
  have HZ2 := Lib.hid (HZ1.out.below hb2 HZ1.out.lt)
  have HG2 := Lib.hid (HG1.out.low hb2)
  have HP2 := Lib.hid (HP1.out.next hb2)
  clear hb2 HT1 HZ1 HG1 HP1
  obtain ⟨t0, t1, t2, t3, t4, t5⟩ := box6 HT2.out
  obtain ⟨⟨b0, b1, b2, b3, b4, b5⟩, f0, f1, f2, f3, f4, f5⟩ := HP2.out.six
  have hgl := HP2.out.glt
  go_wp2_with fail
  clear t0 t1 t2 t3 t4 t5 b0 b1 b2 b3 b4 b5 f0 f1 f2 f3 f4 f5 hgl
  refine (HH.out _ HP2.out).mono ?_
  rintro e wr ⟨rfl, hgr, hpr⟩
  have HT3 := Lib.hid (HT2.out.gr hgr hne)
  have HZ3 := Lib.hid (HZ2.out.gr hgr hne2)
  have HG3 := Lib.hid (HG2.out.trans hgr)
  have HP3 := Lib.hid hpr
  clear hgr hpr HT2 HZ2 HG2 HP2
  obtain ⟨t0, t1, t2, t3, t4, t5⟩ := box6 HT3.out
  obtain ⟨⟨b0, b1, b2, b3, b4, b5⟩, f0, f1, f2, f3, f4, f5⟩ := HP3.out.six
  have hgl := HP3.out.glt
  go_wp2_with fail
  have HPb : Hid (JAt s g (wr.setCell ⟨g, 4, none⟩ (.int .i64 ((σ.nd : Int) + 1))) { σ with nd := σ.nd + 1, sz := σ.sz + x.s.size }) := Lib.hid (HP3.out.own 4 _ rfl HP3.out.op (by have := HND.out; show σ.nd + 1 ≤ 4096; omega) HP3.out.sz)
  refine (HBd.out _ HPb.out).mono ?_
  rintro e wz ⟨c0, c1, c2, c3, c4, rfl, hgz, hpz, hlz⟩
  obtain ⟨k, n, t, A, na, ca, B, nb, cb, rfl, rfl, rfl, rfl, rfl⟩ := lies_five hlz
  have HZz := Lib.hid ((HZ3.out.far (p := ⟨g, 4, none⟩) hne2 _).gr hgz hne2)
  have HGz := Lib.hid ((HG3.out.set 4 _).trans hgz)
  have HSz := Lib.hid (show w.heap.size + 1 < wr.heap.size from HZ3.out.lt)
  have HPz := Lib.hid hpz
  have HLz := Lib.hid hlz
  clear hgz hpz hlz
  clear t0 t1 t2 t3 t4 t5 b0 b1 b2 b3 b4 b5 f0 f1 f2 f3 f4 f5 hgl
  obtain ⟨y0, y1, y2, y3, y4⟩ := box5 HZz.out
  obtain ⟨z0, z1, z2, z3, z4⟩ := free5 HZz.out
  go_wp2_with fail
  refine post5v Tryz.results118 rfl rfl (put5x HZz.out _ _ _ _ _) ?_
  exact JVal.closeAt (Nat.le_succ _) HP.out HGz.out HPz.out HLz.out (fun b h => by have h1 := h.1; have h2 := h.2; have h3 := HSz.out; simp [World.setCell] at h1; exact ⟨by omega, h2, by omega⟩)
end Go.Proofs.YtfmpdcmedaiooaaGreatDoor

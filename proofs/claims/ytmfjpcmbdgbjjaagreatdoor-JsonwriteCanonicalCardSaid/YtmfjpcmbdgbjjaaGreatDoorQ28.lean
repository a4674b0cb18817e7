/- The JSON parser's build and element. -/
import Derived.Test.YtmfjpcmbdgbjjaaGreatDoorQ27
set_option linter.unusedVariables false
set_option linter.unusedSimpArgs false
namespace Go.Proofs.YtmfjpcmbdgbjjaaGreatDoor
open Go.RowKit
theorem lies_leafV {w : World} {S : Nat → Prop} (k n : Int) (t : ByteArray) (ht : t.size ≤ 140737488355328) : Lies w S (.mk k n t [] []) [.int .i64 k, .int .i64 n, .string t, .slice none 0 0, .slice none 0 0] := by
  rw [Lies]
  exact ⟨⟨ht, by simp, Nat.zero_le _, Nat.zero_le _⟩, none, 0, none, 0, [], rfl, fun _ => rfl, fun _ => rfl, ⟨Nat.le_refl _, Nat.zero_le _⟩, ⟨Nat.le_refl _, Nat.zero_le _⟩, Rs.nil _ _ _, Rs.nil _ _ _, by rw [LiesL]⟩
/-- The result is put into its box, wherever that lies. -/
theorem JVal.closeAt {s : ByteArray} {g : Nat} {w W : World} {σ τ : JS} {v : V} {S : Nat → Prop} {u0 u1 u2 u3 u4 : Value} {r : Nat} (hr : w.heap.size ≤ r) (hP : JAt s g w σ) (hg : Gr g w W) (hp : JAt s g W τ) (hl : Lies W S v [u0, u1, u2, u3, u4]) (hS : ∀ b, S b → w.heap.size ≤ b ∧ b < W.heap.size ∧ ¬ b = r) :
    JVal s g w v τ (.returned (.agg #[u0, u1, u2, u3, u4])) (((((W.setCell ⟨r, 0, none⟩ u0).setCell ⟨r, 1, none⟩ u1).setCell ⟨r, 2, none⟩ u2).setCell ⟨r, 3, none⟩ u3).setCell ⟨r, 4, none⟩ u4) := by
  refine ⟨_, _, _, _, _, rfl, hg.put5 hr _ _ _ _ _, hP.new5 hp hr _ _ _ _ _, hl.move fun b hb => ?_⟩
  rw [size5]
  have := hS b hb
  exact ⟨⟨this.1, this.2.1⟩, heap5 _ _ _ _ _ _ _ b this.2.2⟩
def noB : Nat → Prop := fun _ => False
theorem em52 : EntM 52 := fun args W => by kernel_rfl
theorem em53 : EntM 53 := fun args W => by kernel_rfl
/-- The token's box and the result's, laid first. -/
theorem laid2 (w : World) (x y : Array Value) (t u : TypeId) : Box ((w.alloc (.cells x t)).alloc (.cells y u)) w.heap.size t x ∧ Box ((w.alloc (.cells x t)).alloc (.cells y u)) (w.heap.size + 1) u y := by
  have h1 := (Box.laid w t x).alloc (.cells y u)
  have h2 := Box.laid (w.alloc (.cells x t)) u y
  have e : (w.alloc (.cells x t)).heap.size = w.heap.size + 1 := by simp
  rw [e] at h2
  exact ⟨h1, h2⟩
set_option maxHeartbeats 4000000 in
set_option maxRecDepth 100000 in
theorem build_any {s : ByteArray} {g : Nat} {w : World} {σ τ : JS} {v : V} {arr obj : JM} (x : Lx) (hx : TokF x) (hA : OkM s g 52 arr) (hO : OkM s g 53 obj) (hsA : ∀ ρ u ρ', JB ρ → arr ρ = some (u, ρ') → ρ'.op = ρ.op) (hsO : ∀ ρ u ρ', JB ρ → obj ρ = some (u, ρ') → ρ'.op = ρ.op)
    (hP : JAt s g w σ) (hB : JB σ) (hop : x.k ≠ 3 → x.k ≠ 4 → (x.b = 91 ∨ x.b = 123) → σ.op < 32) (hm : jbuild arr obj x σ = some (v, τ)) : Calls Tryz.prog 37 #[.pointer (some ⟨g, 0, none⟩), .agg #[.int .i64 x.k, .int .i64 x.f, .int .i64 x.t, .int .u8 x.b, .int .i64 x.i, .string x.s]] w (JVal s g w v τ) := by
  have HP := Lib.hid hP
  have hg := hP.glt
  have HT0 := Lib.hid (laid2 w #[.int .i64 x.k, .int .i64 x.f, .int .i64 x.t, .int .u8 x.b, .int .i64 x.i, .string x.s] #[.int .i64 0, .int .i64 0, .string ⟨#[]⟩, .slice none 0 0, .slice none 0 0] 44 26).1
  have HZ0 := Lib.hid (laid2 w #[.int .i64 x.k, .int .i64 x.f, .int .i64 x.t, .int .u8 x.b, .int .i64 x.i, .string x.s] #[.int .i64 0, .int .i64 0, .string ⟨#[]⟩, .slice none 0 0, .slice none 0 0] 44 26).2
  have hzz : (⟨#[]⟩ : ByteArray).size ≤ 140737488355328 := by decide
  have hne : ¬ w.heap.size + 1 = g := by omega
  have hsz : x.s.size ≤ 140737488355328 := by
    by_cases h : x.k = 4
    · have := (hx.str h).1; omega
    · rw [hx.no h]; exact hzz
  have HZZ := Lib.hid hzz
  have HSZ := Lib.hid hsz
  unfold jbuild at hm
  by_cases k3 : x.k = 3
  · rw [if_pos k3] at hm
    simp only [Option.some.injEq, Prod.mk.injEq] at hm
    obtain ⟨rfl, rfl⟩ := hm
    have q3 : ((x.k : Int) == 3) = true := by rw [beq_iff_eq]; omega
    clear hA hO hsA hsO hP hB hop hx hzz hsz k3
    go_enter Tryz.func37, Tryz.ntmps37
    go_wp2_with fail
    refine (num_any x.i _).mono ?_
    rintro e w1 ⟨rfl, hb1⟩
    have HZ1 := Lib.hid (HZ0.out.below hb1 HZ0.out.lt)
    have HG1 := Lib.hid (((Gr.one w _).alloc _).low hb1 : Gr g w w1)
    have HP1 := Lib.hid (((HP.out.alloc _).alloc _).next hb1)
    obtain ⟨y0, y1, y2, y3, y4⟩ := box5 HZ1.out
    obtain ⟨z0, z1, z2, z3, z4⟩ := free5 HZ1.out
    clear hb1
    go_wp2_with fail
    refine post5v Tryz.results37 rfl rfl (put5x HZ1.out _ _ _ _ _) ?_
    exact JVal.closeAt (S := noB) (Nat.le_succ _) HP.out HG1.out HP1.out (lies_leafV _ _ _ HZZ.out) (fun b h => h.elim)
  rw [if_neg k3] at hm
  have q3 : ((x.k : Int) == 3) = false := by rw [beq_eq_false_iff_ne]; omega
  by_cases k4 : x.k = 4
  · rw [if_pos k4] at hm
    simp only [Option.some.injEq, Prod.mk.injEq] at hm
    obtain ⟨rfl, rfl⟩ := hm
    have q4 : ((x.k : Int) == 4) = true := by rw [beq_iff_eq]; omega
    clear hA hO hsA hsO hP hB hop hx hzz hsz k3 k4
    go_enter Tryz.func37, Tryz.ntmps37
    go_wp2_with fail
    refine post5v Tryz.results37 rfl rfl (laid2 w _ _ _ _).2 ?_
    exact ⟨_, _, _, _, _, rfl, ((Gr.one w _).alloc _), (HP.out.alloc _).alloc _, lies_leafV _ _ _ HSZ.out⟩
  rw [if_neg k4] at hm
  have q4 : ((x.k : Int) == 4) = false := by rw [beq_eq_false_iff_ne]; omega
  by_cases b91 : x.b = 91
  · rw [if_pos b91] at hm
    have p91 : ((x.b : Int) == 91) = true := by rw [beq_iff_eq]; omega
    have hop2 := hop k3 k4 (.inl b91)
    have HN := Lib.hid (fun W (h : JAt s g W σ) => nested_any 52 em52 hA h hop2 ⟨by show σ.op + 1 ≤ 32; omega, hB.2⟩ hm (fun u ρ hr => hsA { σ with op := σ.op + 1 } u ρ ⟨by show σ.op + 1 ≤ 32; omega, hB.2⟩ hr))
    clear hA hO hsA hsO hP hB hop hx hzz hsz k3 k4 b91 hm
    go_enter Tryz.func37, Tryz.ntmps37
    go_wp2_with fail
    refine (HN.out _ ((HP.out.alloc _).alloc _)).mono ?_
    rintro e w1 ⟨c0, c1, c2, c3, c4, rfl, hg1, hp1, hl1⟩
    obtain ⟨k, n, t, A, na, ca, B, nb, cb, rfl, rfl, rfl, rfl, rfl⟩ := lies_five hl1
    have HZ1 := Lib.hid (HZ0.out.gr hg1 hne)
    have HG1 := Lib.hid ((((Gr.one w _).alloc _).trans hg1) : Gr g w w1)
    have HP1 := Lib.hid hp1
    have HL1 := Lib.hid hl1
    obtain ⟨y0, y1, y2, y3, y4⟩ := box5 HZ1.out
    obtain ⟨z0, z1, z2, z3, z4⟩ := free5 HZ1.out
    clear hg1 hp1 hl1
    go_wp2_with fail
    refine post5v Tryz.results37 rfl rfl (put5x HZ1.out _ _ _ _ _) ?_
    exact JVal.closeAt (Nat.le_succ _) HP.out HG1.out HP1.out HL1.out (fun b h => by have := h.1; have := h.2; simp at *; omega)
  rw [if_neg b91] at hm
  have p91 : ((x.b : Int) == 91) = false := by rw [beq_eq_false_iff_ne]; omega
  by_cases b123 : x.b = 123
  · rw [if_pos b123] at hm
    have p123 : ((x.b : Int) == 123) = true := by rw [beq_iff_eq]; omega
    have hop2 := hop k3 k4 (.inr b123)
    have HN := Lib.hid (fun W (h : JAt s g W σ) => nested_any 53 em53 hO h hop2 ⟨by show σ.op + 1 ≤ 32; omega, hB.2⟩ hm (fun u ρ hr => hsO { σ with op := σ.op + 1 } u ρ ⟨by show σ.op + 1 ≤ 32; omega, hB.2⟩ hr))
    clear hA hO hsA hsO hP hB hop hx hzz hsz k3 k4 b123 hm
    go_enter Tryz.func37, Tryz.ntmps37
    go_wp2_with fail
    refine (HN.out _ ((HP.out.alloc _).alloc _)).mono ?_
    rintro e w1 ⟨c0, c1, c2, c3, c4, rfl, hg1, hp1, hl1⟩
    obtain ⟨k, n, t, A, na, ca, B, nb, cb, rfl, rfl, rfl, rfl, rfl⟩ := lies_five hl1
    have HZ1 := Lib.hid (HZ0.out.gr hg1 hne)
    have HG1 := Lib.hid ((((Gr.one w _).alloc _).trans hg1) : Gr g w w1)
    have HP1 := Lib.hid hp1
    have HL1 := Lib.hid hl1
    obtain ⟨y0, y1, y2, y3, y4⟩ := box5 HZ1.out
    obtain ⟨z0, z1, z2, z3, z4⟩ := free5 HZ1.out
    clear hg1 hp1 hl1
    go_wp2_with fail
    refine post5v Tryz.results37 rfl rfl (put5x HZ1.out _ _ _ _ _) ?_
    exact JVal.closeAt (Nat.le_succ _) HP.out HG1.out HP1.out HL1.out (fun b h => by have := h.1; have := h.2; simp at *; omega)
  rw [if_neg b123] at hm
  have p123 : ((x.b : Int) == 123) = false := by rw [beq_eq_false_iff_ne]; omega
  by_cases b110 : x.b = 110
  · rw [if_pos b110] at hm
    simp only [Option.some.injEq, Prod.mk.injEq] at hm
    obtain ⟨rfl, rfl⟩ := hm
    have p110 : ((x.b : Int) == 110) = true := by rw [beq_iff_eq]; omega
    clear hA hO hsA hsO hP hB hop hx hzz hsz k3 k4 b91 b123 b110
    go_enter Tryz.func37, Tryz.ntmps37
    go_wp2_with fail
    refine post5v Tryz.results37 rfl rfl (laid2 w _ _ _ _).2 ?_
    exact ⟨_, _, _, _, _, rfl, ((Gr.one w _).alloc _), (HP.out.alloc _).alloc _, lies_leafV _ _ _ HZZ.out⟩
  rw [if_neg b110] at hm
  have p110 : ((x.b : Int) == 110) = false := by rw [beq_eq_false_iff_ne]; omega
  simp only [Option.some.injEq, Prod.mk.injEq] at hm
  obtain ⟨rfl, rfl⟩ := hm
  by_cases b116 : x.b = 116
  · rw [if_pos b116]
    have p116 : ((x.b : Int) == 116) = true := by rw [beq_iff_eq]; omega
    clear hA hO hsA hsO hP hB hop hx hzz hsz k3 k4 b91 b123 b110 b116
    go_enter Tryz.func37, Tryz.ntmps37
    go_wp2_with fail
    refine (bool_any true _).mono ?_
    rintro e w1 ⟨rfl, hb1⟩
    have HZ1 := Lib.hid (HZ0.out.below hb1 HZ0.out.lt)
    have HG1 := Lib.hid (((Gr.one w _).alloc _).low hb1 : Gr g w w1)
    have HP1 := Lib.hid (((HP.out.alloc _).alloc _).next hb1)
    obtain ⟨y0, y1, y2, y3, y4⟩ := box5 HZ1.out
    obtain ⟨z0, z1, z2, z3, z4⟩ := free5 HZ1.out
    clear hb1
    go_wp2_with fail
    refine post5v Tryz.results37 rfl rfl (put5x HZ1.out _ _ _ _ _) ?_
    exact JVal.closeAt (S := noB) (Nat.le_succ _) HP.out HG1.out HP1.out (lies_leafV _ _ _ HZZ.out) (fun b h => h.elim)
  · rw [if_neg b116]
    have p116 : ((x.b : Int) == 116) = false := by rw [beq_eq_false_iff_ne]; omega
    clear hA hO hsA hsO hP hB hop hx hzz hsz k3 k4 b91 b123 b110 b116
    go_enter Tryz.func37, Tryz.ntmps37
    go_wp2_with fail
    refine (bool_any false _).mono ?_
    rintro e w1 ⟨rfl, hb1⟩
    have HZ1 := Lib.hid (HZ0.out.below hb1 HZ0.out.lt)
    have HG1 := Lib.hid (((Gr.one w _).alloc _).low hb1 : Gr g w w1)
    have HP1 := Lib.hid (((HP.out.alloc _).alloc _).next hb1)
    obtain ⟨y0, y1, y2, y3, y4⟩ := box5 HZ1.out
    obtain ⟨z0, z1, z2, z3, z4⟩ := free5 HZ1.out
    clear hb1
    go_wp2_with fail
    refine post5v Tryz.results37 rfl rfl (put5x HZ1.out _ _ _ _ _) ?_
    exact JVal.closeAt (S := noB) (Nat.le_succ _) HP.out HG1.out HP1.out (lies_leafV _ _ _ HZZ.out) (fun b h => h.elim)
end Go.Proofs.YtmfjpcmbdgbjjaaGreatDoor

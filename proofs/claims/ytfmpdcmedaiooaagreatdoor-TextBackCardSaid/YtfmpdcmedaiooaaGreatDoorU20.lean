/- The JSON parser's next, end, colon, goesOn, key and result. -/
import Derived.Test.YtfmpdcmedaiooaaGreatDoorU19
set_option linter.unusedVariables false
set_option linter.unusedSimpArgs false
namespace Go.Proofs.YtfmpdcmedaiooaaGreatDoor
open Go.RowKit
theorem Box.gr {w w' : World} {g b : Nat} {t : TypeId} {cs : Array Value} (h : Box w b t cs) (hg : Gr g w w') (hn : ¬ b = g) : Box w' b t cs := h.grown hg (by intro e; injection e with e; exact hn e)
theorem jfail_lit {s : ByteArray} {g : Nat} {w : World} {σ : JS} (a e : Nat) {A E : Int} (hA : (a : Int) = A) (hE : (e : Int) = E) (hP : JAt s g w σ) : Calls Tryz.prog 153 #[.pointer (some ⟨g, 0, none⟩), .int .i64 A, .int .i64 E] w (JDone s g w (jfail a e σ)) := by
  subst hA; subst hE; exact jfail_any a e hP
theorem isSign_lit (x : Lx) (c : Nat) {C : Int} (hC : (c : Int) = C) (w : World) : Calls Tryz.prog 152 #[.agg #[.int .i64 x.k, .int .i64 x.f, .int .i64 x.t, .int .u8 x.b, .int .i64 x.i, .string x.s], .int .u8 C] w (fun e w' => e = .returned (.bool (isSg x c)) ∧ Below w.heap.size w w') := by
  subst hC; exact isSign_any x c w
set_option maxHeartbeats 4000000 in
set_option maxRecDepth 100000 in
theorem jnext_any {s : ByteArray} {g : Nat} {w : World} {σ : JS} (hP : JAt s g w σ) : Calls Tryz.prog 119 #[.pointer (some ⟨g, 0, none⟩)] w (JTok s g w (jnext s.data.toList σ).1 (jnext s.data.toList σ).2) := by
  have HP := Lib.hid hP
  have hg := hP.glt
  have HR := Lib.hid (fun W (h : JAt s g W σ) => jread_any h)
  have HL : Hid (s.data.toList.length = s.size) := Lib.hid (by simp)
  have HR0 := Lib.hid (Box.laid w 93 #[.int .i64 0, .int .i64 0, .int .i64 0, .int .u8 0, .int .i64 0, .string ⟨#[]⟩])
  unfold jnext
  generalize jread s.data.toList σ = X at HR ⊢
  obtain ⟨x, σ1⟩ := X
  dsimp only at HR ⊢
  clear hP
  by_cases hk : x.k = 0
  · rw [if_pos hk]
    have q : ((x.k : Int) == 0) = true := by rw [beq_iff_eq]; omega
    clear hk
    go_enter Tryz.func119, Tryz.ntmps119
    go_wp2_with fail
    refine (HR.out _ (HP.out.alloc _)).mono ?_
    rintro e w1 ⟨rfl, hg1, hp1⟩
    have HZ1 := Lib.hid (HR0.out.gr hg1 (by omega))
    have HG1 := Lib.hid ((Gr.one w _).trans hg1)
    have HP1 := Lib.hid hp1
    have hlt : w.heap.size < w1.heap.size := by have := hg1.size; simp at this; omega
    have HT1 := Lib.hid (Box.laid w1 93 #[.int .i64 x.k, .int .i64 x.f, .int .i64 x.t, .int .u8 x.b, .int .i64 x.i, .string x.s])
    clear hg1 hp1
    obtain ⟨⟨b0, b1, b2, b3, b4, b5⟩, f0, f1, f2, f3, f4, f5⟩ := HP1.out.six
    have hgl := HP1.out.glt
    go_wp2_with fail
    refine (jfail_lit s.size 5 rfl rfl (HP1.out.alloc _)).mono ?_
    rintro e w2 ⟨rfl, hg2, hp2⟩
    have HZ2 := Lib.hid ((HZ1.out.alloc _).gr hg2 (by omega))
    have HT2 := Lib.hid (HT1.out.gr hg2 (by omega))
    have HG2 := Lib.hid ((HG1.out.alloc _).trans hg2)
    have HP2 := Lib.hid hp2
    clear hg2 hp2 b0 b1 b2 b3 b4 b5 f0 f1 f2 f3 f4 f5
    obtain ⟨t0, t1, t2, t3, t4, t5⟩ := box6 HT2.out
    obtain ⟨y0, y1, y2, y3, y4, y5⟩ := box6 HZ2.out
    obtain ⟨z0, z1, z2, z3, z4, z5⟩ := free6 HZ2.out
    go_wp2_with fail
    refine postK Tryz.results119 rfl rfl (put6x HZ2.out _ _ _ _ _ _) ?_
    rw [HL.out]
    exact ⟨rfl, HG2.out.put6 (Nat.le_refl _) _ _ _ _ _ _, HP.out.new6 HP2.out (Nat.le_refl _) _ _ _ _ _ _⟩
  · rw [if_neg hk]
    have q : ((x.k : Int) == 0) = false := by rw [beq_eq_false_iff_ne]; omega
    clear hk
    go_enter Tryz.func119, Tryz.ntmps119
    go_wp2_with fail
    refine (HR.out _ (HP.out.alloc _)).mono ?_
    rintro e w1 ⟨rfl, hg1, hp1⟩
    have HZ1 := Lib.hid (HR0.out.gr hg1 (by omega))
    have HG1 := Lib.hid ((Gr.one w _).trans hg1)
    have HP1 := Lib.hid hp1
    have hlt : w.heap.size < w1.heap.size := by have := hg1.size; simp at this; omega
    have HT1 := Lib.hid (Box.laid w1 93 #[.int .i64 x.k, .int .i64 x.f, .int .i64 x.t, .int .u8 x.b, .int .i64 x.i, .string x.s])
    clear hg1 hp1
    have HZ2 := Lib.hid (HZ1.out.alloc (.cells #[.int .i64 x.k, .int .i64 x.f, .int .i64 x.t, .int .u8 x.b, .int .i64 x.i, .string x.s] 93))
    obtain ⟨y0, y1, y2, y3, y4, y5⟩ := box6 HZ1.out
    obtain ⟨z0, z1, z2, z3, z4, z5⟩ := free6 HZ1.out
    go_wp2_with fail
    refine postK Tryz.results119 rfl rfl ((put6x HZ1.out _ _ _ _ _ _).alloc _) ?_
    exact ⟨rfl, (HG1.out.put6 (Nat.le_refl _) _ _ _ _ _ _).alloc _, (HP.out.new6 HP1.out (Nat.le_refl _) _ _ _ _ _ _).alloc _⟩
set_option maxHeartbeats 4000000 in
set_option maxRecDepth 100000 in
theorem jend_any {s : ByteArray} {g : Nat} {w : World} {σ : JS} (hP : JAt s g w σ) : Calls Tryz.prog 120 #[.pointer (some ⟨g, 0, none⟩)] w (JDone s g w (jend s.data.toList σ)) := by
  have HP := Lib.hid hP
  have hg := hP.glt
  have HR := Lib.hid (fun W (h : JAt s g W σ) => jread_any h)
  unfold jend
  generalize jread s.data.toList σ = X at HR ⊢
  obtain ⟨x, σ1⟩ := X
  dsimp only at HR ⊢
  clear hP
  by_cases hk : x.k = 0
  · rw [if_pos hk]
    have q : ((x.k : Int) != 0) = false := by rw [bne_eq_false_iff_eq]; omega
    clear hk
    go_enter Tryz.func120, Tryz.ntmps120
    go_wp2_with fail
    refine (HR.out _ HP.out).mono ?_
    rintro e w1 ⟨rfl, hg1, hp1⟩
    have HG1 := Lib.hid hg1
    have HP1 := Lib.hid hp1
    clear hg1 hp1
    go_wp2_with fail
    refine bodyPost_end (v := .tuple #[]) (by simp [results, Tryz.results120, go_sem]) rfl ?_
    exact ⟨rfl, HG1.out.alloc _, HP1.out.alloc _⟩
  · rw [if_neg hk]
    have q : ((x.k : Int) != 0) = true := by rw [bne_iff_ne]; omega
    clear hk
    go_enter Tryz.func120, Tryz.ntmps120
    go_wp2_with fail
    refine (HR.out _ HP.out).mono ?_
    rintro e w1 ⟨rfl, hg1, hp1⟩
    have HG1 := Lib.hid hg1
    have HP1 := Lib.hid hp1
    clear hg1 hp1
    go_wp2_with fail
    refine (jfail_lit x.f 4 rfl rfl (HP1.out.alloc _)).mono ?_
    rintro e w2 ⟨rfl, hg2, hp2⟩
    have HG2 := Lib.hid ((HG1.out.alloc _).trans hg2)
    have HP2 := Lib.hid hp2
    clear hg2 hp2
    go_wp2_with fail
    refine bodyPost_end (v := .tuple #[]) (by simp [results, Tryz.results120, go_sem]) rfl ?_
    exact ⟨rfl, HG2.out, HP2.out⟩
set_option maxHeartbeats 4000000 in
set_option maxRecDepth 100000 in
theorem jcolon_any {s : ByteArray} {g : Nat} {w : World} {σ : JS} (hP : JAt s g w σ) : Calls Tryz.prog 211 #[.pointer (some ⟨g, 0, none⟩)] w (JDone s g w (jcolon s.data.toList σ)) := by
  have HP := Lib.hid hP
  have hg := hP.glt
  have HR := Lib.hid (fun W (h : JAt s g W σ) => jnext_any h)
  unfold jcolon
  generalize jnext s.data.toList σ = X at HR ⊢
  obtain ⟨x, σ1⟩ := X
  dsimp only at HR ⊢
  have HS := Lib.hid (fun W => isSign_lit x 58 (C := 58) rfl W)
  obtain ⟨b, hb⟩ : ∃ b, isSg x 58 = b := ⟨_, rfl⟩
  rw [hb] at HS ⊢
  clear hP hb
  cases b with
  | true =>
    rw [if_pos rfl]
    go_enter Tryz.func211, Tryz.ntmps211
    go_wp2_with fail
    refine (HR.out _ HP.out).mono ?_
    rintro e w1 ⟨rfl, hg1, hp1⟩
    have HG1 := Lib.hid hg1
    have HP1 := Lib.hid hp1
    have HT1 := Lib.hid (Box.laid w1 93 #[.int .i64 x.k, .int .i64 x.f, .int .i64 x.t, .int .u8 x.b, .int .i64 x.i, .string x.s])
    clear hg1 hp1
    go_wp2_with fail
    refine (HS.out _).mono ?_
    rintro e w2 ⟨rfl, hb2⟩
    have HT2 := Lib.hid (HT1.out.below hb2 (by simp))
    obtain ⟨t0, t1, t2, t3, t4, t5⟩ := box6 HT2.out
    have HG2 := Lib.hid ((HG1.out.alloc _).low hb2)
    have HP2 := Lib.hid ((HP1.out.alloc _).next hb2)
    clear hb2
    go_wp2_with fail
    refine bodyPost_end (v := .tuple #[]) (by simp [results, Tryz.results211, go_sem]) rfl ?_
    exact ⟨rfl, HG2.out, HP2.out⟩
  | false =>
    rw [if_neg (by decide)]
    go_enter Tryz.func211, Tryz.ntmps211
    go_wp2_with fail
    refine (HR.out _ HP.out).mono ?_
    rintro e w1 ⟨rfl, hg1, hp1⟩
    have HG1 := Lib.hid hg1
    have HP1 := Lib.hid hp1
    have HT1 := Lib.hid (Box.laid w1 93 #[.int .i64 x.k, .int .i64 x.f, .int .i64 x.t, .int .u8 x.b, .int .i64 x.i, .string x.s])
    clear hg1 hp1
    go_wp2_with fail
    refine (HS.out _).mono ?_
    rintro e w2 ⟨rfl, hb2⟩
    have HT2 := Lib.hid (HT1.out.below hb2 (by simp))
    obtain ⟨t0, t1, t2, t3, t4, t5⟩ := box6 HT2.out
    have HG2 := Lib.hid ((HG1.out.alloc _).low hb2)
    have HP2 := Lib.hid ((HP1.out.alloc _).next hb2)
    clear hb2
    go_wp2_with fail
    refine (jfail_lit x.f 4 rfl rfl HP2.out).mono ?_
    rintro e w3 ⟨rfl, hg3, hp3⟩
    have HG3 := Lib.hid (HG2.out.trans hg3)
    have HP3 := Lib.hid hp3
    clear hg3 hp3
    go_wp2_with fail
    refine bodyPost_end (v := .tuple #[]) (by simp [results, Tryz.results211, go_sem]) rfl ?_
    exact ⟨rfl, HG3.out, HP3.out⟩
set_option maxHeartbeats 4000000 in
set_option maxRecDepth 100000 in
theorem jgo_any {s : ByteArray} {g : Nat} {w : World} {σ : JS} (c : Nat) {C : Int} (hC : (c : Int) = C) (hP : JAt s g w σ) : Calls Tryz.prog 209 #[.pointer (some ⟨g, 0, none⟩), .int .u8 C] w (JBool s g w (jgoB s.data.toList σ) (jgoS s.data.toList c σ)) := by
  have HP := Lib.hid hP
  have hg := hP.glt
  have HR := Lib.hid (fun W (h : JAt s g W σ) => jnext_any h)
  unfold jgoB jgoS
  generalize jnext s.data.toList σ = X at HR ⊢
  obtain ⟨x, σ1⟩ := X
  dsimp only at HR ⊢
  have HS := Lib.hid (fun W => isSign_lit x 44 (C := 44) rfl W)
  have HS2 := Lib.hid (fun W => isSign_lit x c hC W)
  obtain ⟨b, hb⟩ : ∃ b, isSg x 44 = b := ⟨_, rfl⟩
  obtain ⟨d, hd⟩ : ∃ d, isSg x c = d := ⟨_, rfl⟩
  rw [hb] at HS ⊢
  rw [hd] at HS2 ⊢
  clear hP hb hd
  cases b with
  | true =>
    rw [if_pos rfl]
    clear HS2
    go_enter Tryz.func209, Tryz.ntmps209
    go_wp2_with fail
    refine (HR.out _ HP.out).mono ?_
    rintro e w1 ⟨rfl, hg1, hp1⟩
    have HG1 := Lib.hid hg1
    have HP1 := Lib.hid hp1
    have HT1 := Lib.hid (Box.laid w1 93 #[.int .i64 x.k, .int .i64 x.f, .int .i64 x.t, .int .u8 x.b, .int .i64 x.i, .string x.s])
    clear hg1 hp1
    go_wp2_with fail
    refine (HS.out _).mono ?_
    rintro e w2 ⟨rfl, hb2⟩
    have HT2 := Lib.hid (HT1.out.below hb2 (by simp))
    obtain ⟨t0, t1, t2, t3, t4, t5⟩ := box6 HT2.out
    have HG2 := Lib.hid ((HG1.out.alloc _).low hb2)
    have HP2 := Lib.hid ((HP1.out.alloc _).next hb2)
    clear hb2
    go_wp2_with fail
    go_ret
    exact ⟨rfl, HG2.out, HP2.out⟩
  | false =>
    rw [if_neg (by decide)]
    cases d with
    | true =>
      rw [if_pos rfl]
      go_enter Tryz.func209, Tryz.ntmps209
      go_wp2_with fail
      refine (HR.out _ HP.out).mono ?_
      rintro e w1 ⟨rfl, hg1, hp1⟩
      have HG1 := Lib.hid hg1
      have HP1 := Lib.hid hp1
      have HT1 := Lib.hid (Box.laid w1 93 #[.int .i64 x.k, .int .i64 x.f, .int .i64 x.t, .int .u8 x.b, .int .i64 x.i, .string x.s])
      clear hg1 hp1
      go_wp2_with fail
      refine (HS.out _).mono ?_
      rintro e w2 ⟨rfl, hb2⟩
      have HT2 := Lib.hid (HT1.out.below hb2 (by simp))
      obtain ⟨t0, t1, t2, t3, t4, t5⟩ := box6 HT2.out
      have HG2 := Lib.hid ((HG1.out.alloc _).low hb2)
      have HP2 := Lib.hid ((HP1.out.alloc _).next hb2)
      clear hb2
      go_wp2_with fail
      refine (HS2.out _).mono ?_
      rintro e w3 ⟨rfl, hb3⟩
      have HT3 := Lib.hid (HT2.out.below hb3 HT2.out.lt)
      clear t0 t1 t2 t3 t4 t5
      obtain ⟨t0, t1, t2, t3, t4, t5⟩ := box6 HT3.out
      have HG3 := Lib.hid (HG2.out.low hb3)
      have HP3 := Lib.hid (HP2.out.next hb3)
      clear hb3
      go_wp2_with fail
      go_ret
      exact ⟨rfl, HG3.out, HP3.out⟩
    | false =>
      rw [if_neg (by decide)]
      go_enter Tryz.func209, Tryz.ntmps209
      go_wp2_with fail
      refine (HR.out _ HP.out).mono ?_
      rintro e w1 ⟨rfl, hg1, hp1⟩
      have HG1 := Lib.hid hg1
      have HP1 := Lib.hid hp1
      have HT1 := Lib.hid (Box.laid w1 93 #[.int .i64 x.k, .int .i64 x.f, .int .i64 x.t, .int .u8 x.b, .int .i64 x.i, .string x.s])
      clear hg1 hp1
      go_wp2_with fail
      refine (HS.out _).mono ?_
      rintro e w2 ⟨rfl, hb2⟩
      have HT2 := Lib.hid (HT1.out.below hb2 (by simp))
      obtain ⟨t0, t1, t2, t3, t4, t5⟩ := box6 HT2.out
      have HG2 := Lib.hid ((HG1.out.alloc _).low hb2)
      have HP2 := Lib.hid ((HP1.out.alloc _).next hb2)
      clear hb2
      go_wp2_with fail
      refine (HS2.out _).mono ?_
      rintro e w3 ⟨rfl, hb3⟩
      have HT3 := Lib.hid (HT2.out.below hb3 HT2.out.lt)
      clear t0 t1 t2 t3 t4 t5
      obtain ⟨t0, t1, t2, t3, t4, t5⟩ := box6 HT3.out
      have HG3 := Lib.hid (HG2.out.low hb3)
      have HP3 := Lib.hid (HP2.out.next hb3)
      clear hb3
      go_wp2_with fail
      refine (jfail_lit x.f 4 rfl rfl HP3.out).mono ?_
      rintro e w4 ⟨rfl, hg4, hp4⟩
      have HG4 := Lib.hid (HG3.out.trans hg4)
      have HP4 := Lib.hid hp4
      clear hg4 hp4
      go_wp2_with fail
      go_ret
      exact ⟨rfl, HG4.out, HP4.out⟩
end Go.Proofs.YtfmpdcmedaiooaaGreatDoor

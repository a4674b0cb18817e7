/- FparseObject answers true for every string and every int. -/
import Derived.Test.YthiempadgehhlaaGreatDoorHP
import Derived.Test.YthiempadgehhlaaGreatDoorQM
import Derived.Test.YthiempadgehhlaaGreatDoorQH
set_option linter.unusedVariables false
set_option linter.unusedSimpArgs false
set_option linter.unusedSectionVars false
namespace Go.Proofs.YthiempadgehhlaaGreatDoor
open Go.RowKit
theorem bs_whole (s : ByteArray) : bsF s.data.toList = s := by
  unfold bsF
  obtain ⟨⟨l⟩⟩ := s
  rfl
/-- A tree's nine cells. -/
theorem form_of {w : World} {S : Nat → Prop} {op : Int} {tx : ByteArray} {k n : Int} {s : ByteArray} {ks : List ByteArray} {es : List V} {ps : List ByteArray} {fs : List Ft} {c0 c1 c2 c3 c4 c5 c6 c7 c8 : Value} (h : LiesF w S (.mk op tx (.mk k n s ks es) ps fs) [c0, c1, c2, c3, c4, c5, c6, c7, c8]) :
    ∃ (A1 : Option Addr) (m1 : Nat) (A2 : Option Addr) (m2 : Nat) (A3 : Option Addr) (m3 : Nat) (A4 : Option Addr) (m4 : Nat), c0 = .int .i64 op ∧ c1 = .string tx ∧ c2 = .int .i64 k ∧ c3 = .int .i64 n ∧ c4 = .string s ∧ c5 = .slice A1 ks.length m1 ∧ c6 = .slice A2 es.length m2 ∧ c7 = .slice A3 ps.length m3 ∧ c8 = .slice A4 fs.length m4 := by
  obtain ⟨v0, v1, v2, v3, v4, A, a, B, b, xs, he, hv, -⟩ := liesF_open h
  obtain ⟨A1, a1, B1, b1, xs1, he1, -⟩ := lies_open hv
  simp only [List.cons.injEq, and_true] at he he1
  obtain ⟨rfl, rfl, rfl, rfl, rfl, rfl, rfl, rfl, rfl⟩ := he
  obtain ⟨rfl, rfl, rfl, rfl, rfl⟩ := he1
  exact ⟨_, _, _, _, _, _, _, _, rfl, rfl, rfl, rfl, rfl, rfl, rfl, rfl, rfl⟩
theorem ob_text0 {s : ByteArray} (hn : nameS s.data.toList = true) : parseP ((⟨#[123]⟩ : ByteArray) ++ s ++ (⟨#[125]⟩ : ByteArray)).data.toList = (nodeF 10 [textF s, fieldF identF s], 0, 0) := by
  have h := parse_ob0 hn
  rw [bs_whole] at h
  rw [← h]
  congr 1
  all_goals simp [ob0, ByteArray.data_append]
theorem ob_text1 {s : ByteArray} (hn : nameS s.data.toList = true) : parseP ((⟨#[123]⟩ : ByteArray) ++ ((⟨#[34]⟩ : ByteArray) ++ s ++ (⟨#[34]⟩ : ByteArray)) ++ (⟨#[125]⟩ : ByteArray)).data.toList = (nodeF 10 [textF s, fieldF identF s], 0, 0) := by
  have h := parse_ob1 hn
  rw [bs_whole] at h
  rw [← h]
  congr 1
  all_goals simp [ob1, ByteArray.data_append]
theorem ob_text2 {s : ByteArray} (hn : nameS s.data.toList = true) : parseP ((⟨#[123]⟩ : ByteArray) ++ ((⟨#[36]⟩ : ByteArray) ++ s) ++ (⟨#[125]⟩ : ByteArray)).data.toList = (nodeF 10 [textF s, varF s], 0, 0) := by
  have h := parse_ob2 hn
  rw [bs_whole] at h
  rw [← h]
  congr 1
  all_goals simp [ob2, ByteArray.data_append]
theorem ob_text3 {s : ByteArray} (hn : nameS s.data.toList = true) : parseP ((⟨#[123]⟩ : ByteArray) ++ ((⟨#[40, 34]⟩ : ByteArray) ++ s ++ (⟨#[34, 41, 58, 32, 46]⟩ : ByteArray)) ++ (⟨#[125]⟩ : ByteArray)).data.toList = (nodeF 10 [textF s, identF], 0, 0) := by
  have h := parse_ob3 hn
  rw [bs_whole] at h
  rw [← h]
  congr 1
  all_goals simp [ob3, ByteArray.data_append]
theorem ob_text4 {s : ByteArray} (hn : nameS s.data.toList = true) : parseP ((⟨#[123]⟩ : ByteArray) ++ (s ++ (⟨#[58, 32, 49]⟩ : ByteArray)) ++ (⟨#[125]⟩ : ByteArray)).data.toList = (nodeF 10 [textF s, litF (.mk 3 1 ⟨#[]⟩ [] [])], 0, 0) := by
  have h := parse_ob4 hn
  rw [bs_whole] at h
  rw [← h]
  congr 1
  all_goals simp [ob4, ByteArray.data_append]
set_option maxHeartbeats 10000000 in
set_option maxRecDepth 100000 in
theorem object_0 (s : ByteArray) (z : Int) (w : World) (hE : ErrIn w) (hG : SgIn w) (hn : nameS s.data.toList = true) (h32 : s.size ≤ 32) (hmod : ∀ W, Calls Tryz.prog 10 #[.int .i64 z, .int .i64 5] W fun e w' => e = .returned (.int .i64 0) ∧ W = w') :
    Calls Tryz.prog 6 #[.string s, .int .i64 z] w fun e w' => e = .returned (.bool true) ∧ Below w.heap.size w w' := by
  have HAW := Lib.hid (fun (W : World) (h : Below w.heap.size w W) => pawake_any W (hE.next h) (hG.next h))
  have HN := Lib.hid (fun W => rName_any s (by unfold maxLen; omega) W)
  rw [hn] at HN
  have HM := Lib.hid hmod
  have HPX := Lib.hid (fun (W : World) (h : Below w.heap.size w W) => by
    have h := fparse_any ((⟨#[123]⟩ : ByteArray) ++ s ++ (⟨#[125]⟩ : ByteArray)) (by simp only [ByteArray.size_append, show (⟨#[123]⟩ : ByteArray).size = 1 from rfl, show (⟨#[125]⟩ : ByteArray).size = 1 from rfl, show (⟨#[34]⟩ : ByteArray).size = 1 from rfl, show (⟨#[36]⟩ : ByteArray).size = 1 from rfl, show (⟨#[40, 34]⟩ : ByteArray).size = 2 from rfl, show (⟨#[34, 41, 58, 32, 46]⟩ : ByteArray).size = 5 from rfl, show (⟨#[58, 32, 49]⟩ : ByteArray).size = 3 from rfl]; omega) W (hE.next h) (hG.next h)
    rw [ob_text0 hn] at h
    exact h)
  have q32 : ¬ (32 : Int) < (s.size : Int) := by omega
  clear hE hG hn hmod
  go_enter Tryz.func6, Tryz.ntmps6
  go_wp2_with (first
    | (go_at_call 13; refine (HN.out _).mono ?_; rintro e w' ⟨rfl, rfl⟩)
    | (go_at_call 10; (with_reducible refine (HM.out _).mono ?_); rintro e w' ⟨rfl, rfl⟩))
  refine (HPX.out _ ((Below.refl _ _).alloc (Nat.le_refl _) _)).mono ?_
  rintro e1 w1 ⟨c0, c1, c2, c3, c4, c5, c6, c7, c8, rfl, hb1, hl1⟩
  obtain ⟨k, n, st, A1, n1, m1, A2, n2, m2, A3, m3, bb, o, m4, a0, a1, a2, a3, a4, a5, a6, a7, a8, b0, b1, b2, b3, b4, b5, b6, b7, b8, he, hS, hm4, hla, hlb, ha, hbb⟩ := two_subs hl1
  simp only [List.cons.injEq, and_true] at he
  obtain ⟨rfl, rfl, rfl, rfl, rfl, rfl, rfl, rfl, rfl⟩ := he
  obtain ⟨Aa1, ma1, Aa2, ma2, Aa3, ma3, Aa4, ma4, rfl, rfl, rfl, rfl, rfl, rfl, rfl, rfl, rfl⟩ := form_of hla
  obtain ⟨Ab1, mb1, Ab2, mb2, Ab3, mb3, Ab4, mb4, rfl, rfl, rfl, rfl, rfl, rfl, rfl, rfl, rfl⟩ := form_of hlb
  have q0 : w1.cell? ⟨bb, o, none⟩ = some (.int .i64 7) := ha 0 _ rfl
  have q4 : w1.cell? ⟨bb, o + 4, none⟩ = some (.string s) := ha 4 _ rfl
  have q4' : w1.cell? ⟨bb, o + 2 + 2, none⟩ = some (.string s) := ha 4 _ rfl
  have r0 := hbb 0 _ rfl
  have r1 := hbb 1 _ rfl
  have r2 := hbb 2 _ rfl
  have r3 := hbb 3 _ rfl
  have r4 := hbb 4 _ rfl
  have r5 := hbb 5 _ rfl
  have r6 := hbb 6 _ rfl
  have r7 := hbb 7 _ rfl
  have r8 := hbb 8 _ rfl
  rw [Nat.add_zero] at r0
  have hlt := hS.2
  have HB1 := Lib.hid (Below.trans ((Below.refl _ _).alloc (Nat.le_refl _) _) (hb1.mono (by simp)))
  clear hla hlb ha hbb hb1 hl1 hS
  go_wp2_with (first
    | (go_at_call 10; (with_reducible refine (HM.out _).mono ?_); rintro e w' ⟨rfl, rfl⟩)
    | (go_at_call 9; refine (HAW.out _ ((HB1.out.alloc HB1.out.size _).alloc (by have := HB1.out.size; simp; omega) _)).mono ?_; rintro e2 w2 ⟨rfl, hb2⟩))
  go_ret
  exact ⟨rfl, Below.trans ((HB1.out.alloc HB1.out.size _).alloc (by have := HB1.out.size; simp; omega) _) (hb2.mono (by have := HB1.out.size; simp; omega))⟩
set_option maxHeartbeats 10000000 in
set_option maxRecDepth 100000 in
theorem object_1 (s : ByteArray) (z : Int) (w : World) (hE : ErrIn w) (hG : SgIn w) (hn : nameS s.data.toList = true) (h32 : s.size ≤ 32) (hmod : ∀ W, Calls Tryz.prog 10 #[.int .i64 z, .int .i64 5] W fun e w' => e = .returned (.int .i64 1) ∧ W = w') :
    Calls Tryz.prog 6 #[.string s, .int .i64 z] w fun e w' => e = .returned (.bool true) ∧ Below w.heap.size w w' := by
  have HAW := Lib.hid (fun (W : World) (h : Below w.heap.size w W) => pawake_any W (hE.next h) (hG.next h))
  have HN := Lib.hid (fun W => rName_any s (by unfold maxLen; omega) W)
  rw [hn] at HN
  have HM := Lib.hid hmod
  have HPX := Lib.hid (fun (W : World) (h : Below w.heap.size w W) => by
    have h := fparse_any ((⟨#[123]⟩ : ByteArray) ++ ((⟨#[34]⟩ : ByteArray) ++ s ++ (⟨#[34]⟩ : ByteArray)) ++ (⟨#[125]⟩ : ByteArray)) (by simp only [ByteArray.size_append, show (⟨#[123]⟩ : ByteArray).size = 1 from rfl, show (⟨#[125]⟩ : ByteArray).size = 1 from rfl, show (⟨#[34]⟩ : ByteArray).size = 1 from rfl, show (⟨#[36]⟩ : ByteArray).size = 1 from rfl, show (⟨#[40, 34]⟩ : ByteArray).size = 2 from rfl, show (⟨#[34, 41, 58, 32, 46]⟩ : ByteArray).size = 5 from rfl, show (⟨#[58, 32, 49]⟩ : ByteArray).size = 3 from rfl]; omega) W (hE.next h) (hG.next h)
    rw [ob_text1 hn] at h
    exact h)
  have q32 : ¬ (32 : Int) < (s.size : Int) := by omega
  clear hE hG hn hmod
  go_enter Tryz.func6, Tryz.ntmps6
  go_wp2_with (first
    | (go_at_call 13; refine (HN.out _).mono ?_; rintro e w' ⟨rfl, rfl⟩)
    | (go_at_call 10; (with_reducible refine (HM.out _).mono ?_); rintro e w' ⟨rfl, rfl⟩))
  refine (HPX.out _ ((Below.refl _ _).alloc (Nat.le_refl _) _)).mono ?_
  rintro e1 w1 ⟨c0, c1, c2, c3, c4, c5, c6, c7, c8, rfl, hb1, hl1⟩
  obtain ⟨k, n, st, A1, n1, m1, A2, n2, m2, A3, m3, bb, o, m4, a0, a1, a2, a3, a4, a5, a6, a7, a8, b0, b1, b2, b3, b4, b5, b6, b7, b8, he, hS, hm4, hla, hlb, ha, hbb⟩ := two_subs hl1
  simp only [List.cons.injEq, and_true] at he
  obtain ⟨rfl, rfl, rfl, rfl, rfl, rfl, rfl, rfl, rfl⟩ := he
  obtain ⟨Aa1, ma1, Aa2, ma2, Aa3, ma3, Aa4, ma4, rfl, rfl, rfl, rfl, rfl, rfl, rfl, rfl, rfl⟩ := form_of hla
  obtain ⟨Ab1, mb1, Ab2, mb2, Ab3, mb3, Ab4, mb4, rfl, rfl, rfl, rfl, rfl, rfl, rfl, rfl, rfl⟩ := form_of hlb
  have q0 : w1.cell? ⟨bb, o, none⟩ = some (.int .i64 7) := ha 0 _ rfl
  have q4 : w1.cell? ⟨bb, o + 4, none⟩ = some (.string s) := ha 4 _ rfl
  have q4' : w1.cell? ⟨bb, o + 2 + 2, none⟩ = some (.string s) := ha 4 _ rfl
  have r0 := hbb 0 _ rfl
  have r1 := hbb 1 _ rfl
  have r2 := hbb 2 _ rfl
  have r3 := hbb 3 _ rfl
  have r4 := hbb 4 _ rfl
  have r5 := hbb 5 _ rfl
  have r6 := hbb 6 _ rfl
  have r7 := hbb 7 _ rfl
  have r8 := hbb 8 _ rfl
  rw [Nat.add_zero] at r0
  have hlt := hS.2
  have HB1 := Lib.hid (Below.trans ((Below.refl _ _).alloc (Nat.le_refl _) _) (hb1.mono (by simp)))
  clear hla hlb ha hbb hb1 hl1 hS
  go_wp2_with (first
    | (go_at_call 10; (with_reducible refine (HM.out _).mono ?_); rintro e w' ⟨rfl, rfl⟩)
    | (go_at_call 9; refine (HAW.out _ ((HB1.out.alloc HB1.out.size _).alloc (by have := HB1.out.size; simp; omega) _)).mono ?_; rintro e2 w2 ⟨rfl, hb2⟩))
  go_ret
  exact ⟨rfl, Below.trans ((HB1.out.alloc HB1.out.size _).alloc (by have := HB1.out.size; simp; omega) _) (hb2.mono (by have := HB1.out.size; simp; omega))⟩
set_option maxHeartbeats 10000000 in
set_option maxRecDepth 100000 in
theorem object_2 (s : ByteArray) (z : Int) (w : World) (hE : ErrIn w) (hG : SgIn w) (hn : nameS s.data.toList = true) (h32 : s.size ≤ 32) (hmod : ∀ W, Calls Tryz.prog 10 #[.int .i64 z, .int .i64 5] W fun e w' => e = .returned (.int .i64 2) ∧ W = w') :
    Calls Tryz.prog 6 #[.string s, .int .i64 z] w fun e w' => e = .returned (.bool true) ∧ Below w.heap.size w w' := by
  have HAW := Lib.hid (fun (W : World) (h : Below w.heap.size w W) => pawake_any W (hE.next h) (hG.next h))
  have HN := Lib.hid (fun W => rName_any s (by unfold maxLen; omega) W)
  rw [hn] at HN
  have HM := Lib.hid hmod
  have HPX := Lib.hid (fun (W : World) (h : Below w.heap.size w W) => by
    have h := fparse_any ((⟨#[123]⟩ : ByteArray) ++ ((⟨#[36]⟩ : ByteArray) ++ s) ++ (⟨#[125]⟩ : ByteArray)) (by simp only [ByteArray.size_append, show (⟨#[123]⟩ : ByteArray).size = 1 from rfl, show (⟨#[125]⟩ : ByteArray).size = 1 from rfl, show (⟨#[34]⟩ : ByteArray).size = 1 from rfl, show (⟨#[36]⟩ : ByteArray).size = 1 from rfl, show (⟨#[40, 34]⟩ : ByteArray).size = 2 from rfl, show (⟨#[34, 41, 58, 32, 46]⟩ : ByteArray).size = 5 from rfl, show (⟨#[58, 32, 49]⟩ : ByteArray).size = 3 from rfl]; omega) W (hE.next h) (hG.next h)
    rw [ob_text2 hn] at h
    exact h)
  have q32 : ¬ (32 : Int) < (s.size : Int) := by omega
  clear hE hG hn hmod
  go_enter Tryz.func6, Tryz.ntmps6
  go_wp2_with (first
    | (go_at_call 13; refine (HN.out _).mono ?_; rintro e w' ⟨rfl, rfl⟩)
    | (go_at_call 10; (with_reducible refine (HM.out _).mono ?_); rintro e w' ⟨rfl, rfl⟩))
  refine (HPX.out _ ((Below.refl _ _).alloc (Nat.le_refl _) _)).mono ?_
  rintro e1 w1 ⟨c0, c1, c2, c3, c4, c5, c6, c7, c8, rfl, hb1, hl1⟩
  obtain ⟨k, n, st, A1, n1, m1, A2, n2, m2, A3, m3, bb, o, m4, a0, a1, a2, a3, a4, a5, a6, a7, a8, b0, b1, b2, b3, b4, b5, b6, b7, b8, he, hS, hm4, hla, hlb, ha, hbb⟩ := two_subs hl1
  simp only [List.cons.injEq, and_true] at he
  obtain ⟨rfl, rfl, rfl, rfl, rfl, rfl, rfl, rfl, rfl⟩ := he
  obtain ⟨Aa1, ma1, Aa2, ma2, Aa3, ma3, Aa4, ma4, rfl, rfl, rfl, rfl, rfl, rfl, rfl, rfl, rfl⟩ := form_of hla
  obtain ⟨Ab1, mb1, Ab2, mb2, Ab3, mb3, Ab4, mb4, rfl, rfl, rfl, rfl, rfl, rfl, rfl, rfl, rfl⟩ := form_of hlb
  have q0 : w1.cell? ⟨bb, o, none⟩ = some (.int .i64 7) := ha 0 _ rfl
  have q4 : w1.cell? ⟨bb, o + 4, none⟩ = some (.string s) := ha 4 _ rfl
  have q4' : w1.cell? ⟨bb, o + 2 + 2, none⟩ = some (.string s) := ha 4 _ rfl
  have r0 := hbb 0 _ rfl
  have r1 := hbb 1 _ rfl
  have r2 := hbb 2 _ rfl
  have r3 := hbb 3 _ rfl
  have r4 := hbb 4 _ rfl
  have r5 := hbb 5 _ rfl
  have r6 := hbb 6 _ rfl
  have r7 := hbb 7 _ rfl
  have r8 := hbb 8 _ rfl
  rw [Nat.add_zero] at r0
  have hlt := hS.2
  have HB1 := Lib.hid (Below.trans ((Below.refl _ _).alloc (Nat.le_refl _) _) (hb1.mono (by simp)))
  clear hla hlb ha hbb hb1 hl1 hS
  go_wp2_with (first
    | (go_at_call 10; (with_reducible refine (HM.out _).mono ?_); rintro e w' ⟨rfl, rfl⟩)
    | (go_at_call 9; refine (HAW.out _ ((HB1.out.alloc HB1.out.size _).alloc (by have := HB1.out.size; simp; omega) _)).mono ?_; rintro e2 w2 ⟨rfl, hb2⟩))
  go_ret
  exact ⟨rfl, Below.trans ((HB1.out.alloc HB1.out.size _).alloc (by have := HB1.out.size; simp; omega) _) (hb2.mono (by have := HB1.out.size; simp; omega))⟩
set_option maxHeartbeats 10000000 in
set_option maxRecDepth 100000 in
theorem object_3 (s : ByteArray) (z : Int) (w : World) (hE : ErrIn w) (hG : SgIn w) (hn : nameS s.data.toList = true) (h32 : s.size ≤ 32) (hmod : ∀ W, Calls Tryz.prog 10 #[.int .i64 z, .int .i64 5] W fun e w' => e = .returned (.int .i64 3) ∧ W = w') :
    Calls Tryz.prog 6 #[.string s, .int .i64 z] w fun e w' => e = .returned (.bool true) ∧ Below w.heap.size w w' := by
  have HAW := Lib.hid (fun (W : World) (h : Below w.heap.size w W) => pawake_any W (hE.next h) (hG.next h))
  have HN := Lib.hid (fun W => rName_any s (by unfold maxLen; omega) W)
  rw [hn] at HN
  have HM := Lib.hid hmod
  have HPX := Lib.hid (fun (W : World) (h : Below w.heap.size w W) => by
    have h := fparse_any ((⟨#[123]⟩ : ByteArray) ++ ((⟨#[40, 34]⟩ : ByteArray) ++ s ++ (⟨#[34, 41, 58, 32, 46]⟩ : ByteArray)) ++ (⟨#[125]⟩ : ByteArray)) (by simp only [ByteArray.size_append, show (⟨#[123]⟩ : ByteArray).size = 1 from rfl, show (⟨#[125]⟩ : ByteArray).size = 1 from rfl, show (⟨#[34]⟩ : ByteArray).size = 1 from rfl, show (⟨#[36]⟩ : ByteArray).size = 1 from rfl, show (⟨#[40, 34]⟩ : ByteArray).size = 2 from rfl, show (⟨#[34, 41, 58, 32, 46]⟩ : ByteArray).size = 5 from rfl, show (⟨#[58, 32, 49]⟩ : ByteArray).size = 3 from rfl]; omega) W (hE.next h) (hG.next h)
    rw [ob_text3 hn] at h
    exact h)
  have q32 : ¬ (32 : Int) < (s.size : Int) := by omega
  clear hE hG hn hmod
  go_enter Tryz.func6, Tryz.ntmps6
  go_wp2_with (first
    | (go_at_call 13; refine (HN.out _).mono ?_; rintro e w' ⟨rfl, rfl⟩)
    | (go_at_call 10; (with_reducible refine (HM.out _).mono ?_); rintro e w' ⟨rfl, rfl⟩))
  refine (HPX.out _ ((Below.refl _ _).alloc (Nat.le_refl _) _)).mono ?_
  rintro e1 w1 ⟨c0, c1, c2, c3, c4, c5, c6, c7, c8, rfl, hb1, hl1⟩
  obtain ⟨k, n, st, A1, n1, m1, A2, n2, m2, A3, m3, bb, o, m4, a0, a1, a2, a3, a4, a5, a6, a7, a8, b0, b1, b2, b3, b4, b5, b6, b7, b8, he, hS, hm4, hla, hlb, ha, hbb⟩ := two_subs hl1
  simp only [List.cons.injEq, and_true] at he
  obtain ⟨rfl, rfl, rfl, rfl, rfl, rfl, rfl, rfl, rfl⟩ := he
  obtain ⟨Aa1, ma1, Aa2, ma2, Aa3, ma3, Aa4, ma4, rfl, rfl, rfl, rfl, rfl, rfl, rfl, rfl, rfl⟩ := form_of hla
  obtain ⟨Ab1, mb1, Ab2, mb2, Ab3, mb3, Ab4, mb4, rfl, rfl, rfl, rfl, rfl, rfl, rfl, rfl, rfl⟩ := form_of hlb
  have q0 : w1.cell? ⟨bb, o, none⟩ = some (.int .i64 7) := ha 0 _ rfl
  have q4 : w1.cell? ⟨bb, o + 4, none⟩ = some (.string s) := ha 4 _ rfl
  have q4' : w1.cell? ⟨bb, o + 2 + 2, none⟩ = some (.string s) := ha 4 _ rfl
  have r0 := hbb 0 _ rfl
  have r1 := hbb 1 _ rfl
  have r2 := hbb 2 _ rfl
  have r3 := hbb 3 _ rfl
  have r4 := hbb 4 _ rfl
  have r5 := hbb 5 _ rfl
  have r6 := hbb 6 _ rfl
  have r7 := hbb 7 _ rfl
  have r8 := hbb 8 _ rfl
  rw [Nat.add_zero] at r0
  have hlt := hS.2
  have HB1 := Lib.hid (Below.trans ((Below.refl _ _).alloc (Nat.le_refl _) _) (hb1.mono (by simp)))
  clear hla hlb ha hbb hb1 hl1 hS
  go_wp2_with (first
    | (go_at_call 10; (with_reducible refine (HM.out _).mono ?_); rintro e w' ⟨rfl, rfl⟩)
    | (go_at_call 9; refine (HAW.out _ ((HB1.out.alloc HB1.out.size _).alloc (by have := HB1.out.size; simp; omega) _)).mono ?_; rintro e2 w2 ⟨rfl, hb2⟩))
  go_ret
  exact ⟨rfl, Below.trans ((HB1.out.alloc HB1.out.size _).alloc (by have := HB1.out.size; simp; omega) _) (hb2.mono (by have := HB1.out.size; simp; omega))⟩
set_option maxHeartbeats 10000000 in
set_option maxRecDepth 100000 in
theorem object_4 (s : ByteArray) (z : Int) (w : World) (hE : ErrIn w) (hG : SgIn w) (hn : nameS s.data.toList = true) (h32 : s.size ≤ 32) (hmod : ∀ W, Calls Tryz.prog 10 #[.int .i64 z, .int .i64 5] W fun e w' => e = .returned (.int .i64 4) ∧ W = w') :
    Calls Tryz.prog 6 #[.string s, .int .i64 z] w fun e w' => e = .returned (.bool true) ∧ Below w.heap.size w w' := by
  have HAW := Lib.hid (fun (W : World) (h : Below w.heap.size w W) => pawake_any W (hE.next h) (hG.next h))
  have HN := Lib.hid (fun W => rName_any s (by unfold maxLen; omega) W)
  rw [hn] at HN
  have HM := Lib.hid hmod
  have HPX := Lib.hid (fun (W : World) (h : Below w.heap.size w W) => by
    have h := fparse_any ((⟨#[123]⟩ : ByteArray) ++ (s ++ (⟨#[58, 32, 49]⟩ : ByteArray)) ++ (⟨#[125]⟩ : ByteArray)) (by simp only [ByteArray.size_append, show (⟨#[123]⟩ : ByteArray).size = 1 from rfl, show (⟨#[125]⟩ : ByteArray).size = 1 from rfl, show (⟨#[34]⟩ : ByteArray).size = 1 from rfl, show (⟨#[36]⟩ : ByteArray).size = 1 from rfl, show (⟨#[40, 34]⟩ : ByteArray).size = 2 from rfl, show (⟨#[34, 41, 58, 32, 46]⟩ : ByteArray).size = 5 from rfl, show (⟨#[58, 32, 49]⟩ : ByteArray).size = 3 from rfl]; omega) W (hE.next h) (hG.next h)
    rw [ob_text4 hn] at h
    exact h)
  have q32 : ¬ (32 : Int) < (s.size : Int) := by omega
  clear hE hG hn hmod
  go_enter Tryz.func6, Tryz.ntmps6
  go_wp2_with (first
    | (go_at_call 13; refine (HN.out _).mono ?_; rintro e w' ⟨rfl, rfl⟩)
    | (go_at_call 10; (with_reducible refine (HM.out _).mono ?_); rintro e w' ⟨rfl, rfl⟩))
  refine (HPX.out _ ((Below.refl _ _).alloc (Nat.le_refl _) _)).mono ?_
  rintro e1 w1 ⟨c0, c1, c2, c3, c4, c5, c6, c7, c8, rfl, hb1, hl1⟩
  obtain ⟨k, n, st, A1, n1, m1, A2, n2, m2, A3, m3, bb, o, m4, a0, a1, a2, a3, a4, a5, a6, a7, a8, b0, b1, b2, b3, b4, b5, b6, b7, b8, he, hS, hm4, hla, hlb, ha, hbb⟩ := two_subs hl1
  simp only [List.cons.injEq, and_true] at he
  obtain ⟨rfl, rfl, rfl, rfl, rfl, rfl, rfl, rfl, rfl⟩ := he
  obtain ⟨Aa1, ma1, Aa2, ma2, Aa3, ma3, Aa4, ma4, rfl, rfl, rfl, rfl, rfl, rfl, rfl, rfl, rfl⟩ := form_of hla
  obtain ⟨Ab1, mb1, Ab2, mb2, Ab3, mb3, Ab4, mb4, rfl, rfl, rfl, rfl, rfl, rfl, rfl, rfl, rfl⟩ := form_of hlb
  have q0 : w1.cell? ⟨bb, o, none⟩ = some (.int .i64 7) := ha 0 _ rfl
  have q4 : w1.cell? ⟨bb, o + 4, none⟩ = some (.string s) := ha 4 _ rfl
  have q4' : w1.cell? ⟨bb, o + 2 + 2, none⟩ = some (.string s) := ha 4 _ rfl
  have r0 := hbb 0 _ rfl
  have r1 := hbb 1 _ rfl
  have r2 := hbb 2 _ rfl
  have r3 := hbb 3 _ rfl
  have r4 := hbb 4 _ rfl
  have r5 := hbb 5 _ rfl
  have r6 := hbb 6 _ rfl
  have r7 := hbb 7 _ rfl
  have r8 := hbb 8 _ rfl
  rw [Nat.add_zero] at r0
  have hlt := hS.2
  have HB1 := Lib.hid (Below.trans ((Below.refl _ _).alloc (Nat.le_refl _) _) (hb1.mono (by simp)))
  clear hla hlb ha hbb hb1 hl1 hS
  go_wp2_with (first
    | (go_at_call 10; (with_reducible refine (HM.out _).mono ?_); rintro e w' ⟨rfl, rfl⟩)
    | (go_at_call 9; refine (HAW.out _ ((HB1.out.alloc HB1.out.size _).alloc (by have := HB1.out.size; simp; omega) _)).mono ?_; rintro e2 w2 ⟨rfl, hb2⟩))
  go_ret
  exact ⟨rfl, Below.trans ((HB1.out.alloc HB1.out.size _).alloc (by have := HB1.out.size; simp; omega) _) (hb2.mono (by have := HB1.out.size; simp; omega))⟩
set_option maxHeartbeats 10000000 in
set_option maxRecDepth 100000 in
theorem object_walk (s : ByteArray) (z : Int) (w : World) (hE : ErrIn w) (hG : SgIn w) (hz : s.size ≤ 140737488355328) : Calls Tryz.prog 6 #[.string s, .int .i64 z] w fun e w' => e = .returned (.bool true) ∧ Below w.heap.size w w' := by
  by_cases h32 : s.size ≤ 32
  · cases hn : nameS s.data.toList with
    | false =>
      have HAW := Lib.hid (pawake_any w hE hG)
      have HN := Lib.hid (fun W => rName_any s (by unfold maxLen; omega) W)
      rw [hn] at HN
      have q32 : ¬ (32 : Int) < (s.size : Int) := by omega
      clear hn hE hG
      go_enter Tryz.func6, Tryz.ntmps6
      go_wp2_with (first
        | (go_at_call 13; refine (HN.out _).mono ?_; rintro e w' ⟨rfl, rfl⟩)
        | (go_at_call 9; refine HAW.out.mono ?_; rintro e w1 ⟨rfl, hb1⟩))
      go_ret
      exact ⟨rfl, hb1⟩
    | true =>
      obtain ⟨d, hd, hmod⟩ := kmod_nat z 5 (by omega) (by omega)
      match d, hd with
      | 0, _ => exact object_0 s z w hE hG hn h32 hmod
      | 1, _ => exact object_1 s z w hE hG hn h32 hmod
      | 2, _ => exact object_2 s z w hE hG hn h32 hmod
      | 3, _ => exact object_3 s z w hE hG hn h32 hmod
      | 4, _ => exact object_4 s z w hE hG hn h32 hmod
  · have HAW := Lib.hid (pawake_any w hE hG)
    have q32 : (32 : Int) < (s.size : Int) := by omega
    clear hE hG
    go_enter Tryz.func6, Tryz.ntmps6
    go_wp2_with (go_at_call 9; refine HAW.out.mono ?_; rintro e w1 ⟨rfl, hb1⟩)
    go_ret
    exact ⟨rfl, hb1⟩
end Go.Proofs.YthiempadgehhlaaGreatDoor

/- The parser's smaller methods: take, fail, need, needKind, takeAny. -/
import Derived.Test.YthgnelkppibpeaaGreatDoorYp
set_option linter.unusedVariables false
set_option linter.unusedSimpArgs false
set_option linter.unusedSectionVars false
namespace Go.Proofs.YthgnelkppibpeaaGreatDoor
open Go.RowKit
theorem sees_read {L : List Fk} {x : ByteArray} {σ : PS} (h : sees L x σ = true) : readP L σ = adv σ := by
  unfold readP
  rw [if_neg]
  intro h0
  unfold sees isW at h
  rw [h0] at h
  simp at h
theorem any_read {L : List Fk} {xs : List ByteArray} {σ : PS} (h : anyP L xs σ = true) : readP L σ = adv σ := by
  unfold readP
  rw [if_neg]
  intro h0
  unfold anyP isW at h
  rw [h0] at h
  simp at h
def TakePost (L : List Fk) (gt C g : Nat) (w : World) (b : Bool) (τ : PS) (e : Ending) (w' : World) : Prop := e = .returned (.bool b) ∧ Gr g w w' ∧ PAt L gt C g w' τ
set_option maxHeartbeats 4000000 in
set_option maxRecDepth 100000 in
theorem take_any {L : List Fk} (hL : TokL L) {gt C g : Nat} {w : World} {σ : PS} (x : ByteArray) (b : Bool) (hb : sees L x σ = b) (hP : PAt L gt C g w σ) :
    Calls Tryz.prog 153 #[.pointer (some ⟨g, 0, none⟩), .string x] w (TakePost L gt C g w b (if b = true then adv σ else σ) ) := by
  have HS := Lib.hid (fun W (h : PAt L gt C g W σ) => sees_any x h)
  have HP := Lib.hid hP
  rw [hb] at HS
  cases b with
  | false =>
    clear hP hb
    go_enter Tryz.func153, Tryz.ntmps153
    go_wp2_with fail
    refine (HS.out _ HP.out).mono ?_
    rintro e w1 ⟨rfl, hb1⟩
    go_wp2_with fail
    go_ret
    exact ⟨rfl, Gr.below hb1, HP.out.next hb1⟩
  | true =>
    have HR := Lib.hid (fun W (h : PAt L gt C g W σ) => read_any hL h)
    rw [sees_read hb] at HR
    clear hP hb
    go_enter Tryz.func153, Tryz.ntmps153
    go_wp2_with fail
    refine (HS.out _ HP.out).mono ?_
    rintro e w1 ⟨rfl, hb1⟩
    have HP1 := Lib.hid (HP.out.next hb1)
    have HG1 := Lib.hid (Gr.below (g := g) hb1)
    clear hb1
    go_wp2_with fail
    refine (HR.out _ HP1.out).mono ?_
    rintro e w2 ⟨rfl, hg2, hp2⟩
    have H2 := Lib.hid (And.intro (HG1.out.trans hg2) hp2)
    clear hg2 hp2
    go_wp2_with fail
    go_ret
    exact ⟨rfl, H2.out.1, H2.out.2⟩
/-- The state behind an error. -/
theorem PAt.failed {L : List Fk} {gt C g : Nat} {w : World} {σ : PS} (h : PAt L gt C g w σ) (hp : 0 < L.length) (O E : Nat) {u : Value} (hu : u = .int .i64 4 ∨ u = .int .i64 E) {o n c : Nat} (ho : (L.length - 1) * 4 = o) (hn : L.length - (L.length - 1) = n) (hc : C - (L.length - 1) = c) :
    PAt L gt C g ((((w.setCell ⟨g, 1, none⟩ (.int .i64 O)).setCell ⟨g, 2, none⟩ (.int .i64 4)).setCell ⟨g, 2, none⟩ (.int .i64 E)).setCell ⟨g, 0, none⟩ (.slice (some ⟨gt, o, none⟩) n c)) ⟨L.length - 1, O, E, σ.long, σ.lo⟩ := by
  subst ho; subst hn; subst hc
  have h1 : PAt L gt C g _ { σ with o := O } := h.own 1 (.int .i64 O) h.lt rfl
  have h2 : PAt L gt C g _ { σ with o := O, e := 4 } := h1.own 2 (.int .i64 4) h.lt rfl
  have h3 : PAt L gt C g _ { σ with o := O, e := E } := h2.own 2 (.int .i64 E) h.lt rfl
  exact h3.own 0 _ (by show L.length - 1 < _; omega) rfl
theorem PAt.failed4 {L : List Fk} {gt C g : Nat} {w : World} {σ : PS} (h : PAt L gt C g w σ) (hp : 0 < L.length) (O : Nat) {o n c : Nat} (ho : (L.length - 1) * 4 = o) (hn : L.length - (L.length - 1) = n) (hc : C - (L.length - 1) = c) :
    PAt L gt C g (((w.setCell ⟨g, 1, none⟩ (.int .i64 O)).setCell ⟨g, 2, none⟩ (.int .i64 4)).setCell ⟨g, 0, none⟩ (.slice (some ⟨gt, o, none⟩) n c)) ⟨L.length - 1, O, 4, σ.long, σ.lo⟩ := by
  subst ho; subst hn; subst hc
  have h1 : PAt L gt C g _ { σ with o := O } := h.own 1 (.int .i64 O) h.lt rfl
  have h2 : PAt L gt C g _ { σ with o := O, e := 4 } := h1.own 2 (.int .i64 4) h.lt rfl
  exact h2.own 0 _ (by show L.length - 1 < _; omega) rfl
theorem PAt.drew {L : List Fk} {gt C g : Nat} {w : World} {σ : PS} (h : PAt L gt C g w σ) : PAt L gt C g w.drew σ := h.next (Below.refl _ _).drew
theorem Gr.drew {g : Nat} {w w' : World} (h : Gr g w w') : Gr g w w'.drew := h.low (Below.refl _ _).drew
def DonePost (L : List Fk) (gt C g : Nat) (w : World) (τ : PS) (e : Ending) (w' : World) : Prop := e = .returned (.tuple #[]) ∧ Gr g w w' ∧ PAt L gt C g w' τ
set_option maxHeartbeats 4000000 in
set_option maxRecDepth 100000 in
theorem pfail_any {L : List Fk} (hL : TokL L) {gt C g : Nat} {w : World} {σ : PS} (t : Fk) (hP : PAt L gt C g w σ) :
    Calls Tryz.prog 32 #[.pointer (some ⟨g, 0, none⟩), .agg #[.int .i64 t.k, .int .i64 t.o, .string t.s, .int .i64 t.i]] w (DonePost L gt C g w (failP L t σ)) := by
  have HP := Lib.hid (hP.alloc (.cells #[.int .i64 t.k, .int .i64 t.o, .string t.s, .int .i64 t.i] 41))
  obtain ⟨o1, n1, c1, ho, hn1, hc1, ⟨b0, b1, b2, b3, b4⟩, ⟨f0, f1, f2, f3, f4⟩, -, hg1, hgt1, hne, hpos, hle, hcm⟩ := hP.op
  unfold failP
  by_cases h0 : σ.e = 0
  · rw [if_pos h0]
    have hk := hP.lt
    by_cases ht : t.k = 0
    · rw [if_pos ht]
      have q0 : ((σ.e : Int) != 0) = false := by rw [bne_eq_false_iff_eq]; omega
      have qt : ((t.k : Int) == 0) = true := by rw [beq_iff_eq]; omega
      have HO := Lib.hid (show (L.length - 1) * 4 = o1 + (n1 - 1) * 4 by omega)
      have HN1 := Lib.hid (show L.length - (L.length - 1) = n1 - (n1 - 1) by omega)
      have HC1 := Lib.hid (show C - (L.length - 1) = c1 - (n1 - 1) by omega)
      have hn2 : (1 : Int) ≤ (n1 : Int) := by omega
      have hgw : ¬ g = w.heap.size := by omega
      have HP0 := Lib.hid hP
      have hLp := hL.e.pos
      clear ho hn1 hc1 hP h0 ht
      go_enter Tryz.func32, Tryz.ntmps32
      go_upto_region 5 with (fail)
      go_region
      refine bodyPost_end (v := .tuple #[]) (by simp [results, Tryz.results32, go_sem]) rfl ?_
      exact ⟨rfl, (((((Gr.refl g w).set 1 _).set 2 _).set 2 _).set 0 _).alloc _ |>.drew, ((HP0.out.failed hLp t.o 5 (.inr rfl) HO.out HN1.out HC1.out).alloc _).drew⟩
    · rw [if_neg ht]
      have q0 : ((σ.e : Int) != 0) = false := by rw [bne_eq_false_iff_eq]; omega
      have qt : ((t.k : Int) == 0) = false := by rw [beq_eq_false_iff_ne]; omega
      have HO := Lib.hid (show (L.length - 1) * 4 = o1 + (n1 - 1) * 4 by omega)
      have HN1 := Lib.hid (show L.length - (L.length - 1) = n1 - (n1 - 1) by omega)
      have HC1 := Lib.hid (show C - (L.length - 1) = c1 - (n1 - 1) by omega)
      have hn2 : (1 : Int) ≤ (n1 : Int) := by omega
      have hgw : ¬ g = w.heap.size := by omega
      have HP0 := Lib.hid hP
      have hLp := hL.e.pos
      clear ho hn1 hc1 hP h0 ht
      go_enter Tryz.func32, Tryz.ntmps32
      go_upto_region 5 with (fail)
      go_region
      refine bodyPost_end (v := .tuple #[]) (by simp [results, Tryz.results32, go_sem]) rfl ?_
      exact ⟨rfl, ((((Gr.refl g w).set 1 _).set 2 _).set 0 _).alloc _ |>.drew, ((HP0.out.failed4 hLp t.o HO.out HN1.out HC1.out).alloc _).drew⟩
  · rw [if_neg h0]
    have q0 : ((σ.e : Int) != 0) = true := by rw [bne_iff_ne]; omega
    clear ho hn1 hc1 hP h0
    go_enter Tryz.func32, Tryz.ntmps32
    go_wp2_with fail
    refine bodyPost_ret (v := .tuple #[]) (by simp [results, Tryz.results32, go_sem]) rfl ?_
    exact ⟨rfl, Gr.one w _, HP.out⟩
end Go.Proofs.YthgnelkppibpeaaGreatDoor

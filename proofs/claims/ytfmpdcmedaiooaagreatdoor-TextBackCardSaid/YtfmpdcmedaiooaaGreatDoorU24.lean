/- The JSON parser's array. -/
import Derived.Test.YtfmpdcmedaiooaaGreatDoorU23
import Derived.Laws.AppendOwn
import Derived.Deep.AppendLies
set_option linter.unusedVariables false
set_option linter.unusedSimpArgs false
namespace Go.Proofs.YtfmpdcmedaiooaaGreatDoor
open Go.RowKit
theorem inf_val : (Tryz.prog.info? 25).map (fun i => (i.zero, i.size, i.bytes)) = some (some (.agg #[.int .i64 0, .int .i64 0, .string ⟨#[]⟩, .slice none 0 0, .slice none 0 0]), 5, 80) := by kernel_rfl
theorem infoV {i : Option TypeInfo} {z : Option Value} {a b : Nat} (h : i.map (fun i => (i.zero, i.size, i.bytes)) = some (z, a, b)) : ∃ i0, i = some i0 ∧ i0.zero = z ∧ i0.size = a ∧ i0.bytes = b := by
  cases i with
  | none => simp at h
  | some i0 =>
    simp only [Option.map_some, Option.some.injEq, Prod.mk.injEq] at h
    exact ⟨i0, rfl, h.1, h.2.1, h.2.2⟩
theorem own_keepJ {w w' : World} {base : Nat} {e : TypeId} {size n : Nat} {v : Value} {xs : List Value} (h : w.ownsRow base e size v n xs) (hb : Below w.heap.size w w') : w'.ownsRow base e size v n xs :=
  h.kept (below_grown hb none) (by cases h2 : v.ownBlock with | none => exact .inl rfl | some g => exact .inr (by simp))
/-- An own row, opened. -/
theorem own_openJ {w : World} {base : Nat} {T : TypeId} {size n : Nat} {v : Value} {xs : List Value} (h : w.ownsRow base T size v n xs) :
    ∃ A c, v = .slice A n c ∧ n ≤ c ∧ c ≤ maxLen ∧ (A = none → c = 0) ∧ (A = none → n = 0) ∧ (∀ a, A = some a → base ≤ a.block ∧ a.block < w.heap.size) ∧ Rs w (fun b => base ≤ b ∧ b < w.heap.size) A xs := by
  have h2 := h
  rcases h.2 with ⟨rfl, rfl⟩ | ⟨g, cap, cur, rfl, hb, hh, hnc, hcm, hcs, ht⟩
  · refine ⟨none, 0, rfl, Nat.le_refl _, by simp [maxLen], fun _ => rfl, fun _ => rfl, fun a e => by simp at e, fun j u hj => ?_⟩
    have : xs = [] := List.eq_nil_of_length_eq_zero (by rw [h.1]; simp)
    subst this
    simp at hj
  · have hlt : g < w.heap.size := (Array.getElem?_eq_some_iff.1 hh).1
    refine ⟨some ⟨g, 0, none⟩, cap, rfl, hnc, hcm, fun e => by simp at e, fun e => by simp at e, fun a e => by injection e with e; subst e; exact ⟨hb, hlt⟩, fun j u hj => ⟨g, 0, rfl, ⟨hb, hlt⟩, ?_⟩⟩
    have hjn : j < n * size := by
      rw [← h2.1]
      exact (List.getElem?_eq_some_iff.1 hj).1
    rw [Nat.zero_add, h2.cellAt j hjn, hj]
theorem ownBlock_geJ {w : World} {base : Nat} {T : TypeId} {size n : Nat} {v : Value} {xs : List Value} (h : w.ownsRow base T size v n xs) : ∀ b, v.ownBlock = some b → base ≤ b ∧ b < w.heap.size := by
  intro b hb
  obtain ⟨A, c, rfl, -, -, -, -, h5, -⟩ := own_openJ h
  cases A with
  | none => simp [Value.ownBlock] at hb
  | some a =>
    simp only [Value.ownBlock, Option.some.injEq] at hb
    subst hb
    exact h5 a rfl
theorem one5v (k n : Int) (t : ByteArray) (A : Option Addr) (na ca : Nat) (B : Option Addr) (nb cb : Nat) : ∀ z ∈ ([.int .i64 k, .int .i64 n, .string t, .slice A na ca, .slice B nb cb] : List Value), z.oneCell' = true := by
  intro z hz
  simp only [List.mem_cons, List.not_mem_nil, or_false] at hz
  rcases hz with rfl | rfl | rfl | rfl | rfl <;> rfl
theorem newv (w : World) (T : TypeId) (cs : Array Value) {q : Nat} (hq : w.heap.size = q) : ∀ j u, cs.toList[j]? = some u → (w.alloc (.cells cs T)).cell? ((⟨q, 0, none⟩ : Addr).add j) = some u := by
  intro j u hj
  subst hq
  have h1 := (Box.laid w T cs).cell (i := j) (u := u) (by simpa using hj)
  unfold Addr.add
  by_cases h : j = 0
  · subst h; simpa using h1
  · simpa [h] using h1
theorem JAt.grown {s : ByteArray} {g : Nat} {w w' : World} {σ : JS} (h : JAt s g w σ) {row : Option Nat} (hg : w.grownBy w' row) (h1 : row ≠ some g) (h2 : row ≠ some 5) : JAt s g w' σ := by
  refine ⟨h.box.grown hg (fun e => h1 e.symm), h.ss, ?_, h.ne, h.op, h.nd, h.sz⟩
  have hl := errIn_lt h.ei
  obtain ⟨te, pe, hc⟩ := h.ei
  exact ⟨te, pe, (World.cell?_of_block (hg.block _ hl (fun e => h2 e.symm))).trans hc⟩
/-- The head of array's loop: v's box at q holds the elements es, the token's box is r. -/
structure ArSt (s : ByteArray) (g : Nat) (w0 w : World) (σ : JS) (es : List V) (u : Value) (q r : Nat) (x : Lx) : Prop where
  p : JAt s g w σ
  gr : Gr g w0 w
  p0 : ∃ σ0, JAt s g w0 σ0
  z : Box w w0.heap.size 25 #[.int .i64 0, .int .i64 0, .string ⟨#[]⟩, .slice none 0 0, .slice none 0 0]
  q0 : w0.heap.size < q
  vb : Box w q 25 #[.int .i64 5, .int .i64 0, .string ⟨#[]⟩, .slice none 0 0, u]
  r0 : q < r
  tb : Box w r 93 #[.int .i64 x.k, .int .i64 x.f, .int .i64 x.t, .int .u8 x.b, .int .i64 x.i, .string x.s]
  row : ∃ xs, w.ownsRow (r + 1) 25 5 u es.length xs ∧ LiesL w (fun b => r < b ∧ b < w.heap.size ∧ u.ownBlock ≠ some b) es xs
section
variable {s : ByteArray} {g : Nat} {w0 w w' : World} {σ τ : JS} {es : List V} {u : Value} {q r : Nat} {x : Lx}
theorem ArSt.g0 (h : ArSt s g w0 w σ es u q r x) : g < w0.heap.size := h.p0.elim fun _ h => h.glt
theorem ArSt.e0 (h : ArSt s g w0 w σ es u q r x) : 5 < w0.heap.size := h.p0.elim fun _ h => errIn_lt h.ei
theorem ArSt.next (h : ArSt s g w0 w σ es u q r x) (hg : Gr g w w') (hp : JAt s g w' τ) : ArSt s g w0 w' τ es u q r x := by
  obtain ⟨xs, h1, h2⟩ := h.row
  have hge := ownBlock_geJ h1
  have g0 := h.g0
  have := h.q0
  have := h.r0
  refine ⟨hp, h.gr.trans hg, h.p0, h.z.gr hg (by omega), h.q0, h.vb.gr hg (by omega), h.r0, h.tb.gr hg (by omega), xs, h1.kept hg ?_, h2.move fun b hb => ⟨⟨hb.1, Nat.lt_of_lt_of_le hb.2.1 hg.size, hb.2.2⟩, hg.block hb.2.1 (by have := hb.1; omega)⟩⟩
  cases hv : u.ownBlock with
  | none => exact .inl rfl
  | some b => exact .inr (by intro e; injection e with e; have := (hge b hv).1; omega)
theorem ArSt.drew (h : ArSt s g w0 w σ es u q r x) : ArSt s g w0 w.drew σ es u q r x := h.next (Gr.refl g w).drew h.p.drew
theorem ArSt.low (h : ArSt s g w0 w σ es u q r x) (hb : Below w.heap.size w w') : ArSt s g w0 w' σ es u q r x := h.next (Gr.below hb) (h.p.next hb)
theorem ArSt.elem {e : V} {cs : Array Value} {xs : List Value} {g2 c2 : Nat} (h : ArSt s g w0 w σ es u q r x) (hf : Lies w (fun b => r < b ∧ b < w.heap.size ∧ u.ownBlock ≠ some b) e cs.toList) (hx : w.ownsRow (r + 1) 25 5 u es.length xs) (hlx : LiesL w (fun b => r < b ∧ b < w.heap.size ∧ u.ownBlock ≠ some b) es xs)
    (ho : w'.ownsRow (r + 1) 25 5 (.slice (some ⟨g2, 0, none⟩) (es.length + 1) c2) (es.length + 1) (xs ++ cs.toList)) (hg : (w.alloc (.cells cs 25)).grownBy w' u.ownBlock) (hor : u.ownBlock = some g2 ∨ g2 = (w.alloc (.cells cs 25)).heap.size) :
    ArSt s g w0 (w'.setCell ⟨q, 4, none⟩ (.slice (some ⟨g2, 0, none⟩) (es.length + 1) c2)) σ (es ++ [e]) (.slice (some ⟨g2, 0, none⟩) (es.length + 1) c2) q r x := by
  have hge := ownBlock_geJ hx
  have g0 := h.g0
  have e0 := h.e0
  have hq0 := h.q0
  have hr0 := h.r0
  have hrl := h.tb.lt
  have hne : ∀ b, b ≤ r → u.ownBlock ≠ some b := fun b hb e => by have := (hge b e).1; omega
  have hsz : w.heap.size + 1 ≤ w'.heap.size := by have := hg.size; simpa using this
  have hgb : r + 1 ≤ g2 := by
    rcases hor with h3 | h3
    · exact (hge g2 h3).1
    · simp at h3; omega
  have hS : ∀ b, (r < b ∧ b < w.heap.size ∧ u.ownBlock ≠ some b) → (r < b ∧ b < w'.heap.size ∧ (Value.slice (some ⟨g2, 0, none⟩) (es.length + 1) c2).ownBlock ≠ some b) ∧ w'.heap[b]? = w.heap[b]? := by
    intro b hb
    refine ⟨⟨hb.1, by omega, ?_⟩, (hg.block b (by simp; omega) (fun e => hb.2.2 e.symm)).trans (Below.heap_alloc _ _ _ hb.2.1)⟩
    intro e
    simp only [Value.ownBlock, Option.some.injEq] at e
    subst e
    rcases hor with h3 | h3
    · exact hb.2.2 h3
    · have := hb.2.1; simp at h3; omega
  have hgr : Gr g w0 w' := by
    refine ⟨hg.os.trans h.gr.os, hg.tape.trans h.gr.tape, hg.output.trans h.gr.output, by have := h.gr.size; omega, fun b hb hn => ?_⟩
    have hb2 := h.gr.size
    exact ((hg.block b (by simp; omega) (fun e => hne b (by omega) e.symm)).trans (Below.heap_alloc _ _ _ (by omega))).trans (World.grownBy.block h.gr b hb hn)
  have hbx : ∀ {b : Nat} {t : TypeId} {ds : Array Value}, b ≤ r → Box w b t ds → Box w' b t ds := fun hb hB => (hB.alloc _).grown hg (fun e => hne _ hb e.symm)
  have hset : ∀ (b : Nat), b ≠ q → (w'.setCell ⟨q, 4, none⟩ (.slice (some ⟨g2, 0, none⟩) (es.length + 1) c2)).heap[b]? = w'.heap[b]? := fun b hb => Below.heap_setCell _ _ _ _ hb
  refine ⟨((h.p.alloc _).grown hg (hne g (by omega)) (hne _ (by omega))).far (by omega) (by omega) _ _, hgr.put (by omega) _ _, h.p0, (hbx (by omega) h.z).far (p := ⟨q, 4, none⟩) (by show _ ≠ q; omega) _, hq0, (hbx (by omega) h.vb).put 4 _, hr0, (hbx (Nat.le_refl _) h.tb).far (p := ⟨q, 4, none⟩) (by show _ ≠ q; omega) _, xs ++ cs.toList, ?_, ?_⟩
  · rw [List.length_append]
    exact World.ownsRow.kept ho (grown_set w' q 4 _) (.inr (by simp only [Value.ownBlock]; intro e; injection e with e; omega))
  · refine (LiesL.snoc (hlx.move hS) (hf.move hS)).move fun b hb => ⟨⟨hb.1, by have := hb.2.1; simpa [World.setCell] using this, hb.2.2⟩, hset b (by have := hb.1; omega)⟩
/-- Another token. -/
theorem ArSt.tok (h : ArSt s g w0 w σ es u q r x) (y : Lx) : ArSt s g w0 ((((((w.setCell ⟨r, 0, none⟩ (.int .i64 y.k)).setCell ⟨r, 1, none⟩ (.int .i64 y.f)).setCell ⟨r, 2, none⟩ (.int .i64 y.t)).setCell ⟨r, 3, none⟩ (.int .u8 y.b)).setCell ⟨r, 4, none⟩ (.int .i64 y.i)).setCell ⟨r, 5, none⟩ (.string y.s)) σ es u q r y := by
  obtain ⟨xs, h1, h2⟩ := h.row
  have hge := ownBlock_geJ h1
  have g0 := h.g0
  have hq0 := h.q0
  have hr0 := h.r0
  have hset : ∀ b, b ≠ r → ((((((w.setCell ⟨r, 0, none⟩ (.int .i64 y.k)).setCell ⟨r, 1, none⟩ (.int .i64 y.f)).setCell ⟨r, 2, none⟩ (.int .i64 y.t)).setCell ⟨r, 3, none⟩ (.int .u8 y.b)).setCell ⟨r, 4, none⟩ (.int .i64 y.i)).setCell ⟨r, 5, none⟩ (.string y.s)).heap[b]? = w.heap[b]? := fun b hb => by
    repeat rw [Below.heap_setCell _ _ _ _ (by exact hb)]
  have hgg : ∀ (W : World) i u', (some r) = some r → W.grownBy (W.setCell ⟨r, i, none⟩ u') (some r) := fun W i u' _ => grown_set W r i u'
  have hg6 : w.grownBy ((((((w.setCell ⟨r, 0, none⟩ (.int .i64 y.k)).setCell ⟨r, 1, none⟩ (.int .i64 y.f)).setCell ⟨r, 2, none⟩ (.int .i64 y.t)).setCell ⟨r, 3, none⟩ (.int .u8 y.b)).setCell ⟨r, 4, none⟩ (.int .i64 y.i)).setCell ⟨r, 5, none⟩ (.string y.s)) (some r) :=
    grown_trans (grown_trans (grown_trans (grown_trans (grown_trans (grown_set _ r 0 _) (grown_set _ r 1 _)) (grown_set _ r 2 _)) (grown_set _ r 3 _)) (grown_set _ r 4 _)) (grown_set _ r 5 _)
  have hP0 := h.p0
  refine ⟨hP0.elim fun _ hp => hp.new6 h.p (by omega) _ _ _ _ _ _, h.gr.put6 (by omega) _ _ _ _ _ _, h.p0, far6 (by omega) h.z _ _ _ _ _ _, hq0, far6 (by omega) h.vb _ _ _ _ _ _, hr0, put6x h.tb _ _ _ _ _ _, xs, h1.kept hg6 ?_, h2.move fun b hb => ⟨⟨hb.1, by have := hb.2.1; simpa [World.setCell] using this, hb.2.2⟩, hset b (by have := hb.1; omega)⟩⟩
  cases hv : u.ownBlock with
  | none => exact .inl rfl
  | some b => exact .inr (by intro e; injection e with e; have := (hge b hv).1; omega)
/-- The array is the result. -/
theorem ArSt.close {A : Option Addr} {c : Nat} (h : ArSt s g w0 w σ es (.slice A es.length c) q r x) (hl : es.length ≤ 1000000) : JVal s g w0 (.mk 5 0 ⟨#[]⟩ [] es) σ (.returned (.agg #[.int .i64 5, .int .i64 0, .string ⟨#[]⟩, .slice none 0 0, .slice A es.length c])) (((((w.setCell ⟨w0.heap.size, 0, none⟩ (.int .i64 5)).setCell ⟨w0.heap.size, 1, none⟩ (.int .i64 0)).setCell ⟨w0.heap.size, 2, none⟩ (.string ⟨#[]⟩)).setCell ⟨w0.heap.size, 3, none⟩ (.slice none 0 0)).setCell ⟨w0.heap.size, 4, none⟩ (.slice A es.length c)) := by
  obtain ⟨xs, h1, h2⟩ := h.row
  obtain ⟨A', c', he, a1, a2, a3, a4, a5, a6⟩ := own_openJ h1
  injection he with he1 he2 he3
  subst he1; subst he3
  have hq0 := h.q0
  have hr0 := h.r0
  obtain ⟨σ0, hP0⟩ := h.p0
  refine JVal.closeAt (S := fun b => r < b ∧ b < w.heap.size) (Nat.le_refl _) hP0 h.gr h.p ?_ (fun b hb => ⟨by have := hb.1; omega, hb.2, by have := hb.1; omega⟩)
  rw [Lies]
  exact ⟨⟨by decide, by simp, Nat.zero_le _, by omega⟩, none, 0, A, c, xs, rfl, fun _ => rfl, a3, ⟨Nat.le_refl _, Nat.zero_le _⟩, ⟨a1, a2⟩, Rs.nil _ _ _, a6.move fun b hb => ⟨⟨by have := hb.1; omega, hb.2⟩, rfl⟩, h2.move fun b hb => ⟨⟨hb.1, hb.2.1⟩, rfl⟩⟩
/-- The loop's invariant. -/
def ArLp (s : ByteArray) (g n : Nat) (w0 : World) (q r : Nat) (v : V) (τ : JS) (gg : Nat) (w : World) : Prop :=
  ∃ (m : Nat) (es : List V) (A : Option Addr) (c : Nat) (σ : JS) (x : Lx), m ≤ gg ∧ jarrL s.data.toList (jelN s.data.toList n) (m + 1) es x σ = some (v, τ) ∧ ArSt s g w0 w σ es (.slice A es.length c) q r x ∧ JB σ ∧ (x.k ≠ 0 → TokF x) ∧ (σ.err ≠ 0 → x.k = 0) ∧ es.length ≤ 1024
end
set_option maxHeartbeats 10000000 in
set_option maxRecDepth 100000 in
theorem array_any {s : ByteArray} {g n : Nat} (hEl : OkEl s g n) : OkM s g 184 (jarr s.data.toList (jelN s.data.toList n) n) := by
  intro W σ v τ hP hB hm
  have HP := Lib.hid hP
  have hg := hP.glt
  have HR := Lib.hid (fun W σ (h : JAt s g W σ) => jnext_any h)
  have HGo := Lib.hid (fun W σ (h : JAt s g W σ) => jgo_any 93 (C := 93) rfl h)
  have HE := Lib.hid hEl
  have HRn := Lib.hid (fun W (h : JAt s g W σ) => jnext_any h)
  obtain ⟨s1, s2, s3, s4, s5⟩ := jnext_same (l := s.data.toList) σ
  have hB1 := hB.next (l := s.data.toList)
  have hK1 := jnextK (l := s.data.toList) σ
  unfold jarr at hm
  generalize jnext s.data.toList σ = X at HRn hm s1 s2 s3 s4 s5 hB1 hK1
  obtain ⟨x, σ1⟩ := X
  dsimp only at HRn hm s5 hB1 hK1
  have HS := Lib.hid (fun W => isSign_lit x 93 (C := 93) rfl W)
  have HB1 := Lib.hid hB1
  have HK1 := Lib.hid hK1
  have HT1 := Lib.hid s5
  clear s1 s2 s3 s4 s5 hB1 hK1 hP hEl hB
  obtain ⟨i0, hi, hz0, hz1, hz2⟩ := infoV inf_val
  cases o1 : isSg x 93 with
  | true =>
    rw [o1, if_pos rfl] at hm
    rw [o1] at HS
    simp only [Option.some.injEq, Prod.mk.injEq] at hm
    obtain ⟨rfl, rfl⟩ := hm
    clear o1 HR HGo HE HB1 HK1 HT1
    have HV0 := Lib.hid (laid2 W #[.int .i64 0, .int .i64 0, .string ⟨#[]⟩, .slice none 0 0, .slice none 0 0] #[.int .i64 5, .int .i64 0, .string ⟨#[]⟩, .slice none 0 0, .slice none 0 0] 25 25)
    go_enter Tryz.func184, Tryz.ntmps184
    go_wp2_with fail
    refine (HRn.out _ ((HP.out.alloc _).alloc _)).mono ?_
    rintro e w1 ⟨rfl, hg1, hp1⟩
    have HZ1 := Lib.hid (HV0.out.1.gr hg1 (by omega))
    have HV1 := Lib.hid (HV0.out.2.gr hg1 (by omega))
    have HG1 := Lib.hid ((((Gr.one W _).alloc _).trans hg1 : Gr g W w1).alloc (.cells #[.int .i64 x.k, .int .i64 x.f, .int .i64 x.t, .int .u8 x.b, .int .i64 x.i, .string x.s] 93))
    have HP1 := Lib.hid (hp1.alloc (.cells #[.int .i64 x.k, .int .i64 x.f, .int .i64 x.t, .int .u8 x.b, .int .i64 x.i, .string x.s] 93))
    clear hg1 hp1
    go_wp2_with fail
    refine (HS.out _).mono ?_
    rintro e w2 ⟨rfl, hb2⟩
    have HZ2 := Lib.hid ((HZ1.out.alloc _).below hb2 (HZ1.out.alloc _).lt)
    have HV2 := Lib.hid ((HV1.out.alloc _).below hb2 (HV1.out.alloc _).lt)
    have HG2 := Lib.hid (HG1.out.low hb2)
    have HP2 := Lib.hid (HP1.out.next hb2)
    clear hb2
    obtain ⟨y0, y1, y2, y3, y4⟩ := box5 HZ2.out
    obtain ⟨z0, z1, z2, z3, z4⟩ := free5 HZ2.out
    obtain ⟨x0, x1, x2, x3, x4⟩ := box5 HV2.out
    go_wp2_with fail
    refine post5v Tryz.results184 rfl rfl (put5x HZ2.out _ _ _ _ _) ?_
    exact JVal.closeAt (S := noB) (Nat.le_refl _) HP.out HG2.out HP2.out (by rw [Lies]; exact ⟨⟨by decide, by simp, Nat.zero_le _, Nat.zero_le _⟩, none, 0, none, 0, [], rfl, fun _ => rfl, fun _ => rfl, ⟨Nat.le_refl _, Nat.zero_le _⟩, ⟨Nat.le_refl _, Nat.zero_le _⟩, Rs.nil _ _ _, Rs.nil _ _ _, by rw [LiesL]⟩) (fun b h => h.elim)
  | false =>
    rw [o1, if_neg (by decide)] at hm
    rw [o1] at HS
    clear o1
    have HV0 := Lib.hid (laid2 W #[.int .i64 0, .int .i64 0, .string ⟨#[]⟩, .slice none 0 0, .slice none 0 0] #[.int .i64 5, .int .i64 0, .string ⟨#[]⟩, .slice none 0 0, .slice none 0 0] 25 25)
    have HM := Lib.hid hm
    clear hm
    go_enter Tryz.func184, Tryz.ntmps184
    go_wp2_with fail
    refine (HRn.out _ ((HP.out.alloc _).alloc _)).mono ?_
    rintro e w1 ⟨rfl, hg1, hp1⟩
    have H1 : Hid (ArSt s g W (w1.alloc (.cells #[.int .i64 x.k, .int .i64 x.f, .int .i64 x.t, .int .u8 x.b, .int .i64 x.i, .string x.s] 93)) σ1 [] (.slice none 0 0) (W.heap.size + 1) w1.heap.size x) := Lib.hid ⟨hp1.alloc _, (((Gr.one W _).alloc _).trans hg1).alloc _, ⟨σ, HP.out⟩, (HV0.out.1.gr hg1 (by omega)).alloc _, Nat.lt_succ_self _, (HV0.out.2.gr hg1 (by omega)).alloc _, (HV0.out.2.gr hg1 (by omega)).lt, Box.laid _ _ _, [], World.ownsRow_nil _ _ _ _, by rw [LiesL]⟩
    clear hg1 hp1
    go_wp2_with fail
    refine (HS.out _).mono ?_
    rintro e w2 ⟨rfl, hb2⟩
    have H2 := Lib.hid (H1.out.low hb2)
    clear hb2 H1
    obtain ⟨m0, rfl⟩ : ∃ m0, n = m0 + 1 := by
      cases n with
      | zero => exact absurd HM.out (by simp [jarrL])
      | succ m => exact ⟨m, rfl⟩
    generalize w1.heap.size = r at H2 ⊢
    generalize hq : W.heap.size + 1 = q at H2 ⊢
    have HLP : Hid (ArLp s g (m0 + 1) W q r v τ m0 w2) := Lib.hid ⟨m0, [], none, 0, σ1, x, Nat.le_refl _, HM.out, H2.out, HB1.out, HT1.out, HK1.out, Nat.zero_le _⟩
    clear H2 HM HB1 HT1 HK1 HS HRn HV0
    go_wp2_with fail
    go_loopg [11] m0 (fun gg s11 wr => Hid (ArLp s g (m0 + 1) W q r v τ gg wr))
    case atStart => exact HLP
    case round =>
      clear HLP
      obtain ⟨m', es, A, c, σk, xk, hmk, hc, hSt, hBk, hTk, hKk, hlen⟩ := hrel.out
      clear hrel
      rw [jarrL] at hc
      obtain ⟨e6, σe, hce, hc2⟩ := jbnd_some hc
      have hGd := jelN_good (l := s.data.toList) (m0 + 1) xk es.length σk e6 σe hTk hBk hlen hce
      have HEl := Lib.hid (fun W (h : JAt s g W σk) => HE.out W xk es.length σk e6 σe h hBk hTk hKk hlen hce)
      have HBe := Lib.hid hGd.2.1
      have HL3 : Hid (jgoB s.data.toList σe = true → (es ++ [e6]).length ≤ 1024) := Lib.hid fun hb => by
        have he : σe.err = 0 := Classical.byContradiction fun hne => by
          have hq0 : (jnext s.data.toList σe).1.k = 0 := by unfold jnext jread; rw [if_neg hne]; rfl
          unfold jgoB isSg at hb
          rw [hq0] at hb
          simp at hb
        have := (hGd.2.2 he).2.2.1
        rw [List.length_append, List.length_singleton]; omega
      have HLEN := Lib.hid hlen
      have HS := Lib.hid hSt
      have HD := Lib.hid hSt.drew
      have x4 := hSt.vb.cell (i := 4) rfl
      have hq6 := hSt.vb.lt
      clear hc hce hGd hSt hBk hTk hKk hlen
      go_upto_region 5 with (fail)
      refine wp_region_noPanic ?_
      refine wp_region_held_drew (S := fun X => X.cell? ⟨r, 0, none⟩ = some (.int .i64 xk.k) ∧ X.cell? ⟨r, 1, none⟩ = some (.int .i64 xk.f) ∧ X.cell? ⟨r, 2, none⟩ = some (.int .i64 xk.t) ∧ X.cell? ⟨r, 3, none⟩ = some (.int .u8 xk.b) ∧ X.cell? ⟨r, 4, none⟩ = some (.int .i64 xk.i) ∧ X.cell? ⟨r, 5, none⟩ = some (.string xk.s)) (by kernel_rfl) (box6 HD.out.tb) (fun hHeld => ?_)
      refine wpAnyH_take (i := 0) (v := ?_) rfl (by kernel_rfl) (by kernel_rfl) (by kernel_rfl) (fun _ _ _ h => h) (Or.inl ⟨by rfl, ?ytka1⟩) (by assumption) ?_
      case ytka1 => (intro w hSw; (try dsimp only at hSw); go_simp <;> with_reducible rfl)
      try simp only [List.getElem_toArray, List.getElem_cons_succ, List.getElem_cons_zero, Act.put, List.setIfInBounds_toArray, List.set_cons_zero, List.set_cons_succ]
      refine wpAnyH_take (i := 2) (v := ?_) rfl (by kernel_rfl) (by kernel_rfl) (by kernel_rfl) (fun _ _ _ h => h) (Or.inl ⟨by rfl, ?ytka2⟩) (by assumption) ?_
      case ytka2 => (intro w hSw; (try dsimp only at hSw); go_simp <;> with_reducible rfl)
      try simp only [List.getElem_toArray, List.getElem_cons_succ, List.getElem_cons_zero, Act.put, List.setIfInBounds_toArray, List.set_cons_zero, List.set_cons_succ]
      refine wpAnyH_take (i := 3) (v := ?_) rfl (by kernel_rfl) (by kernel_rfl) (by kernel_rfl) (fun _ _ _ h => h) (Or.inl ⟨by rfl, ?ytka3⟩) (by assumption) ?_
      case ytka3 => (intro w hSw; (try dsimp only at hSw); go_simp <;> with_reducible rfl)
      try simp only [List.getElem_toArray, List.getElem_cons_succ, List.getElem_cons_zero, Act.put, List.setIfInBounds_toArray, List.set_cons_zero, List.set_cons_succ]
      refine wpAnyH_take (i := 4) (v := ?_) rfl (by kernel_rfl) (by kernel_rfl) (by kernel_rfl) (fun _ _ _ h => h) (Or.inl ⟨by rfl, ?ytka4⟩) (by assumption) ?_
      case ytka4 => (intro w hSw; (try dsimp only at hSw); go_simp <;> with_reducible rfl)
      try simp only [List.getElem_toArray, List.getElem_cons_succ, List.getElem_cons_zero, Act.put, List.setIfInBounds_toArray, List.set_cons_zero, List.set_cons_succ]
      refine wpAnyH_ready (rs := [1, 5]) (by kernel_rfl) (by simp) ?_
      refine AllReadyH.cons rfl (fun Kc hK => ?_) (AllReadyH.cons rfl (fun Kc hK => ?_) (AllReadyH.nil))
      · skip
        go_simp
        refine hK.out _ _ (box6 HD.out.tb) (fun _ => ?_)
        clear hK Kc
        try simp only [List.getElem_toArray, List.getElem_cons_succ, List.getElem_cons_zero, Act.put, List.setIfInBounds_toArray, List.set_cons_zero, List.set_cons_succ]
        refine wpAnyH_ready (rs := [5]) (by kernel_rfl) (by simp) ?_
        refine AllReadyH.cons rfl (fun Kc hK => ?_) (AllReadyH.nil)
        go_simp
        refine hK.out _ _ (box6 HD.out.tb) (fun _ => ?_)
        clear hK Kc
        try simp only [List.getElem_toArray, List.getElem_cons_succ, List.getElem_cons_zero, Act.put, List.setIfInBounds_toArray, List.set_cons_zero, List.set_cons_succ]
        refine wpAnyH_take (i := 6) (v := ?_) rfl (by kernel_rfl) (by kernel_rfl) (by kernel_rfl) (fun _ _ _ h => h) (Or.inl ⟨by rfl, ?ytka5⟩) (by assumption) ?_
        case ytka5 => (intro w hSw; (try dsimp only at hSw); go_simp <;> with_reducible rfl)
        try simp only [List.getElem_toArray, List.getElem_cons_succ, List.getElem_cons_zero, Act.put, List.setIfInBounds_toArray, List.set_cons_zero, List.set_cons_succ]
        refine wpAnyH_ready (rs := [7]) (by kernel_rfl) (by simp) ?_
        refine AllReadyH.cons rfl (fun Kc hK => ?_) (AllReadyH.nil)
        go_simp
        refine (HEl.out _ HD.out.p).mono ?_
        rintro e w6 ⟨c0, c1, c2, c3, c4, rfl, hg6, hp6, hl6⟩
        obtain ⟨k2, n2, t2, A2, na2, ca2, B2, nb2, cb2, rfl, rfl, rfl, rfl, rfl⟩ := lies_five hl6
        have H6 := Lib.hid (HD.out.next hg6 hp6)
        have HF6 : Hid (Lies w6 (fun b => r < b ∧ b < w6.heap.size ∧ (Value.slice A es.length c).ownBlock ≠ some b) e6 [.int .i64 k2, .int .i64 n2, .string t2, .slice A2 na2 ca2, .slice B2 nb2 cb2]) := Lib.hid (hl6.move fun b hb => ⟨⟨by have := hb.1; have := HD.out.tb.lt; omega, hb.2, fun e => by obtain ⟨xs, hx, -⟩ := HD.out.row; have := (ownBlock_geJ hx b e).2; have := hb.1; omega⟩, rfl⟩)
        have v4 := H6.out.vb.cell (i := 4) rfl
        have hq6 := H6.out.vb.lt
        clear hg6 hp6 hl6 x4
        refine hK.out _ _ (box6 H6.out.tb) (fun _ => ?_)
        clear hK Kc
        try simp only [List.getElem_toArray, List.getElem_cons_succ, List.getElem_cons_zero, Act.put, List.setIfInBounds_toArray, List.set_cons_zero, List.set_cons_succ]
        refine wpAnyH_ready (rs := [8]) (by kernel_rfl) (by simp) ?_
        refine AllReadyH.cons rfl (fun Kc hK => ?_) (AllReadyH.nil)
        go_simp
        refine hK.out _ _ (box6 (H6.out.tb.alloc _)) (fun _ => ?_)
        clear hK Kc
        try simp only [List.getElem_toArray, List.getElem_cons_succ, List.getElem_cons_zero, Act.put, List.setIfInBounds_toArray, List.set_cons_zero, List.set_cons_succ]
        refine wpAnyH_ready (rs := [9]) (by kernel_rfl) (by simp) ?_
        refine AllReadyH.cons rfl (fun Kc hK => ?_) (AllReadyH.nil)
        obtain ⟨xs, hx, hlx⟩ := H6.out.row
        have HXR := Lib.hid (And.intro hx hlx)
        have hgeX := ownBlock_geJ hx
        have hrw : r + 1 ≤ w6.heap.size := H6.out.tb.lt
        have hlen2 := HLEN.out
        clear hx hlx
        refine step_append_lies _ rfl (.tmp 12) (.tmp 19) 23 rfl (r + 1) 25 i0 (.agg #[.int .i64 0, .int .i64 0, .string ⟨#[]⟩, .slice none 0 0, .slice none 0 0]) 5 80 Tryz.underlying23 hi hz0 hz1 hz2 rfl (by decide) (.slice A es.length c) es.length xs rfl (own_keepJ HXR.out.1 ((Below.refl _ _).alloc (Nat.le_refl _) _)) ⟨w6.heap.size, 0, none⟩ 1 1 [.int .i64 k2, .int .i64 n2, .string t2, .slice A2 na2 ca2, .slice B2 nb2 cb2] rfl rfl (newv _ _ #[.int .i64 k2, .int .i64 n2, .string t2, .slice A2 na2 ca2, .slice B2 nb2 cb2] rfl) (one5v _ _ _ _ _ _ _ _ _) (by decide) (by unfold maxLen; omega) (by omega) (by simp; omega) _ rfl ?_
        intro g4 c4 w9 hown4 hgr4 hor4 hlt4
        have H9 := Lib.hid (H6.out.elem (cs := #[.int .i64 k2, .int .i64 n2, .string t2, .slice A2 na2 ca2, .slice B2 nb2 cb2]) HF6.out HXR.out.1 HXR.out.2 hown4 hgr4 hor4)
        have hbx9 := (H6.out.vb.alloc (.cells #[.int .i64 k2, .int .i64 n2, .string t2, .slice A2 na2 ca2, .slice B2 nb2 cb2] 25)).grown hgr4 (fun e => by have := (hgeX q e.symm).1; have := H6.out.r0; omega)
        have HT9 := Lib.hid ((H6.out.tb.alloc (.cells #[.int .i64 k2, .int .i64 n2, .string t2, .slice A2 na2 ca2, .slice B2 nb2 cb2] 25)).grown hgr4 (fun e => by have := (hgeX r e.symm).1; omega))
        have c8 := hbx9.cell (i := 4) rfl
        have f8 := hbx9.free 4
        clear hown4 hgr4 hor4 hlt4 hbx9 hgeX
        refine hK.out _ _ (box6 HT9.out) (fun _ => ?_)
        clear hK Kc
        try simp only [List.getElem_toArray, List.getElem_cons_succ, List.getElem_cons_zero, Act.put, List.setIfInBounds_toArray, List.set_cons_zero, List.set_cons_succ]
        refine wpAnyH_take (i := 10) (v := ?_) rfl (by kernel_rfl) (by kernel_rfl) (by kernel_rfl) (fun _ _ _ h => h) (Or.inl ⟨by rfl, ?ytka6⟩) (by assumption) ?_
        case ytka6 => (intro w hSw; (try dsimp only at hSw); go_simp <;> with_reducible rfl)
        try simp only [List.getElem_toArray, List.getElem_cons_succ, List.getElem_cons_zero, Act.put, List.setIfInBounds_toArray, List.set_cons_zero, List.set_cons_succ]
        refine wpAnyH_ready (rs := [11]) (by kernel_rfl) (by simp) ?_
        refine AllReadyH.cons rfl (fun Kc hK => ?_) (AllReadyH.nil)
        go_simp
        refine hK.out _ _ (box6 H9.out.tb) (fun _ => ?_)
        clear hK Kc
        try simp only [List.getElem_toArray, List.getElem_cons_succ, List.getElem_cons_zero, Act.put, List.setIfInBounds_toArray, List.set_cons_zero, List.set_cons_succ]
        refine wpAnyH_done (by kernel_rfl) ?_ _
        refine NoPanic.normal ?_
        try simp only [List.getElem_toArray, List.getElem_cons_succ, List.getElem_cons_zero, Act.put, List.setIfInBounds_toArray, List.set_cons_zero, List.set_cons_succ]
        clear HF6 HXR H6 HT9
        generalize hWX : w9.setCell ⟨q, 4, none⟩ (.slice (some ⟨g4, 0, none⟩) (es.length + 1) c4) = WX at H9 ⊢
        clear hWX c8 f8
        have HQX := Lib.hid H9.out.p
        go_wp2_with fail
        refine (HGo.out _ _ H9.out.p).mono ?_
        rintro e w10 ⟨rfl, hg10, hp10⟩
        have H10 := Lib.hid (H9.out.next hg10 hp10)
        clear hg10 hp10 H9 HQX
        cases hbg : jgoB s.data.toList σe with
        | false =>
          rw [hbg, if_neg (by decide)] at hc2
          simp only [Option.some.injEq, Prod.mk.injEq] at hc2
          obtain ⟨rfl, rfl⟩ := hc2
          obtain ⟨y0, y1, y2, y3, y4⟩ := box5 H10.out.z
          obtain ⟨z0, z1, z2, z3, z4⟩ := free5 H10.out.z
          obtain ⟨v0, v1, v2, v3, v4⟩ := box5 H10.out.vb
          go_wp2_with fail
          (try simp only [Exit.inBlock, Exit.then])
          (try go_wp2_with fail)
          refine post5v Tryz.results184 rfl rfl (put5x H10.out.z _ _ _ _ _) ?_
          have H11 : ArSt s g W w10 (jgoS s.data.toList 93 σe) (es ++ [e6]) (.slice (some ⟨g4, 0, none⟩) (es ++ [e6]).length c4) q r xk := by rw [List.length_append]; exact H10.out
          have hcl := H11.close (by rw [List.length_append]; have := HLEN.out; simp; omega)
          rw [List.length_append] at hcl
          exact hcl
        | true =>
          rw [hbg, if_pos rfl] at hc2
          obtain ⟨n1, n2', n3, n4, n5⟩ := jnext_same (l := s.data.toList) (jgoS s.data.toList 93 σe)
          obtain ⟨g1, g2', g3, g4'⟩ := jgoS_same (l := s.data.toList) 93 σe
          have hBg : JB (jgoS s.data.toList 93 σe) := ⟨by rw [g1]; exact HBe.out.1, fun he => by rw [g2', g3]; exact HBe.out.2 (g4' he)⟩
          have hl3 : (es ++ [e6]).length ≤ 1024 := HL3.out hbg
          have HNX := Lib.hid (And.intro hc2 (And.intro (hBg.next (l := s.data.toList)) (And.intro n5 (jnextK (l := s.data.toList) (jgoS s.data.toList 93 σe)))))
          have HRx := Lib.hid (fun W h => HR.out W (jgoS s.data.toList 93 σe) h)
          clear n1 n2' n3 n4 n5 g1 g2' g3 g4' hBg hc2
          generalize jnext s.data.toList (jgoS s.data.toList 93 σe) = Y at HNX HRx
          obtain ⟨y, σy⟩ := Y
          dsimp only at HNX HRx
          obtain ⟨tt0, tt1, tt2, tt3, tt4, tt5⟩ := box6 H10.out.tb
          obtain ⟨uu0, uu1, uu2, uu3, uu4, uu5⟩ := free6 H10.out.tb
          go_wp2_with fail
          refine (HRx.out _ H10.out.p).mono ?_
          rintro e w11 ⟨rfl, hg11, hp11⟩
          have H11 := Lib.hid (H10.out.next hg11 hp11)
          clear hg11 hp11
          clear tt0 tt1 tt2 tt3 tt4 tt5 uu0 uu1 uu2 uu3 uu4 uu5
          obtain ⟨tt0, tt1, tt2, tt3, tt4, tt5⟩ := box6 H11.out.tb
          obtain ⟨uu0, uu1, uu2, uu3, uu4, uu5⟩ := free6 H11.out.tb
          go_wp2_with fail
          obtain ⟨m3, rfl⟩ : ∃ m3, m' = m3 + 1 := by
            cases m' with
            | zero => exact absurd HNX.out.1 (by simp [jarrL])
            | succ m => exact ⟨m, rfl⟩
          go_roundg m3
          case measure => omega
          case rel =>
            have H12 : ArSt s g W w11 σy (es ++ [e6]) (.slice (some ⟨g4, 0, none⟩) (es ++ [e6]).length c4) q r xk := by rw [List.length_append]; exact H11.out
            have h13 := H12.tok y
            exact Lib.hid ⟨m3, es ++ [e6], some ⟨g4, 0, none⟩, c4, σy, y, Nat.le_refl _, HNX.out.1, h13, HNX.out.2.1, HNX.out.2.2.1, HNX.out.2.2.2, hl3⟩
      · skip
        go_simp
        refine hK.out _ _ (box6 HD.out.tb) (fun _ => ?_)
        clear hK Kc
        try simp only [List.getElem_toArray, List.getElem_cons_succ, List.getElem_cons_zero, Act.put, List.setIfInBounds_toArray, List.set_cons_zero, List.set_cons_succ]
        refine wpAnyH_take (i := 6) (v := ?_) rfl (by kernel_rfl) (by kernel_rfl) (by kernel_rfl) (fun _ _ _ h => h) (Or.inl ⟨by rfl, ?ytka7⟩) (by assumption) ?_
        case ytka7 => (intro w hSw; (try dsimp only at hSw); go_simp <;> with_reducible rfl)
        try simp only [List.getElem_toArray, List.getElem_cons_succ, List.getElem_cons_zero, Act.put, List.setIfInBounds_toArray, List.set_cons_zero, List.set_cons_succ]
        refine wpAnyH_ready (rs := [1, 7]) (by kernel_rfl) (by simp) ?_
        refine AllReadyH.cons rfl (fun Kc hK => ?_) (AllReadyH.cons rfl (fun Kc hK => ?_) (AllReadyH.nil))
        · skip
          go_simp
          refine hK.out _ _ (box6 HD.out.tb) (fun _ => ?_)
          clear hK Kc
          try simp only [List.getElem_toArray, List.getElem_cons_succ, List.getElem_cons_zero, Act.put, List.setIfInBounds_toArray, List.set_cons_zero, List.set_cons_succ]
          refine wpAnyH_ready (rs := [7]) (by kernel_rfl) (by simp) ?_
          refine AllReadyH.cons rfl (fun Kc hK => ?_) (AllReadyH.nil)
          go_simp
          refine (HEl.out _ HD.out.p).mono ?_
          rintro e w6 ⟨c0, c1, c2, c3, c4, rfl, hg6, hp6, hl6⟩
          obtain ⟨k2, n2, t2, A2, na2, ca2, B2, nb2, cb2, rfl, rfl, rfl, rfl, rfl⟩ := lies_five hl6
          have H6 := Lib.hid (HD.out.next hg6 hp6)
          have HF6 : Hid (Lies w6 (fun b => r < b ∧ b < w6.heap.size ∧ (Value.slice A es.length c).ownBlock ≠ some b) e6 [.int .i64 k2, .int .i64 n2, .string t2, .slice A2 na2 ca2, .slice B2 nb2 cb2]) := Lib.hid (hl6.move fun b hb => ⟨⟨by have := hb.1; have := HD.out.tb.lt; omega, hb.2, fun e => by obtain ⟨xs, hx, -⟩ := HD.out.row; have := (ownBlock_geJ hx b e).2; have := hb.1; omega⟩, rfl⟩)
          have v4 := H6.out.vb.cell (i := 4) rfl
          have hq6 := H6.out.vb.lt
          clear hg6 hp6 hl6 x4
          refine hK.out _ _ (box6 H6.out.tb) (fun _ => ?_)
          clear hK Kc
          try simp only [List.getElem_toArray, List.getElem_cons_succ, List.getElem_cons_zero, Act.put, List.setIfInBounds_toArray, List.set_cons_zero, List.set_cons_succ]
          refine wpAnyH_ready (rs := [8]) (by kernel_rfl) (by simp) ?_
          refine AllReadyH.cons rfl (fun Kc hK => ?_) (AllReadyH.nil)
          go_simp
          refine hK.out _ _ (box6 (H6.out.tb.alloc _)) (fun _ => ?_)
          clear hK Kc
          try simp only [List.getElem_toArray, List.getElem_cons_succ, List.getElem_cons_zero, Act.put, List.setIfInBounds_toArray, List.set_cons_zero, List.set_cons_succ]
          refine wpAnyH_ready (rs := [9]) (by kernel_rfl) (by simp) ?_
          refine AllReadyH.cons rfl (fun Kc hK => ?_) (AllReadyH.nil)
          obtain ⟨xs, hx, hlx⟩ := H6.out.row
          have HXR := Lib.hid (And.intro hx hlx)
          have hgeX := ownBlock_geJ hx
          have hrw : r + 1 ≤ w6.heap.size := H6.out.tb.lt
          have hlen2 := HLEN.out
          clear hx hlx
          refine step_append_lies _ rfl (.tmp 12) (.tmp 19) 23 rfl (r + 1) 25 i0 (.agg #[.int .i64 0, .int .i64 0, .string ⟨#[]⟩, .slice none 0 0, .slice none 0 0]) 5 80 Tryz.underlying23 hi hz0 hz1 hz2 rfl (by decide) (.slice A es.length c) es.length xs rfl (own_keepJ HXR.out.1 ((Below.refl _ _).alloc (Nat.le_refl _) _)) ⟨w6.heap.size, 0, none⟩ 1 1 [.int .i64 k2, .int .i64 n2, .string t2, .slice A2 na2 ca2, .slice B2 nb2 cb2] rfl rfl (newv _ _ #[.int .i64 k2, .int .i64 n2, .string t2, .slice A2 na2 ca2, .slice B2 nb2 cb2] rfl) (one5v _ _ _ _ _ _ _ _ _) (by decide) (by unfold maxLen; omega) (by omega) (by simp; omega) _ rfl ?_
          intro g4 c4 w9 hown4 hgr4 hor4 hlt4
          have H9 := Lib.hid (H6.out.elem (cs := #[.int .i64 k2, .int .i64 n2, .string t2, .slice A2 na2 ca2, .slice B2 nb2 cb2]) HF6.out HXR.out.1 HXR.out.2 hown4 hgr4 hor4)
          have hbx9 := (H6.out.vb.alloc (.cells #[.int .i64 k2, .int .i64 n2, .string t2, .slice A2 na2 ca2, .slice B2 nb2 cb2] 25)).grown hgr4 (fun e => by have := (hgeX q e.symm).1; have := H6.out.r0; omega)
          have HT9 := Lib.hid ((H6.out.tb.alloc (.cells #[.int .i64 k2, .int .i64 n2, .string t2, .slice A2 na2 ca2, .slice B2 nb2 cb2] 25)).grown hgr4 (fun e => by have := (hgeX r e.symm).1; omega))
          have c8 := hbx9.cell (i := 4) rfl
          have f8 := hbx9.free 4
          clear hown4 hgr4 hor4 hlt4 hbx9 hgeX
          refine hK.out _ _ (box6 HT9.out) (fun _ => ?_)
          clear hK Kc
          try simp only [List.getElem_toArray, List.getElem_cons_succ, List.getElem_cons_zero, Act.put, List.setIfInBounds_toArray, List.set_cons_zero, List.set_cons_succ]
          refine wpAnyH_take (i := 10) (v := ?_) rfl (by kernel_rfl) (by kernel_rfl) (by kernel_rfl) (fun _ _ _ h => h) (Or.inl ⟨by rfl, ?ytka8⟩) (by assumption) ?_
          case ytka8 => (intro w hSw; (try dsimp only at hSw); go_simp <;> with_reducible rfl)
          try simp only [List.getElem_toArray, List.getElem_cons_succ, List.getElem_cons_zero, Act.put, List.setIfInBounds_toArray, List.set_cons_zero, List.set_cons_succ]
          refine wpAnyH_ready (rs := [11]) (by kernel_rfl) (by simp) ?_
          refine AllReadyH.cons rfl (fun Kc hK => ?_) (AllReadyH.nil)
          go_simp
          refine hK.out _ _ (box6 H9.out.tb) (fun _ => ?_)
          clear hK Kc
          try simp only [List.getElem_toArray, List.getElem_cons_succ, List.getElem_cons_zero, Act.put, List.setIfInBounds_toArray, List.set_cons_zero, List.set_cons_succ]
          refine wpAnyH_done (by kernel_rfl) ?_ _
          refine NoPanic.normal ?_
          try simp only [List.getElem_toArray, List.getElem_cons_succ, List.getElem_cons_zero, Act.put, List.setIfInBounds_toArray, List.set_cons_zero, List.set_cons_succ]
          clear HF6 HXR H6 HT9
          generalize hWX : w9.setCell ⟨q, 4, none⟩ (.slice (some ⟨g4, 0, none⟩) (es.length + 1) c4) = WX at H9 ⊢
          clear hWX c8 f8
          have HQX := Lib.hid H9.out.p
          go_wp2_with fail
          refine (HGo.out _ _ H9.out.p).mono ?_
          rintro e w10 ⟨rfl, hg10, hp10⟩
          have H10 := Lib.hid (H9.out.next hg10 hp10)
          clear hg10 hp10 H9 HQX
          cases hbg : jgoB s.data.toList σe with
          | false =>
            rw [hbg, if_neg (by decide)] at hc2
            simp only [Option.some.injEq, Prod.mk.injEq] at hc2
            obtain ⟨rfl, rfl⟩ := hc2
            obtain ⟨y0, y1, y2, y3, y4⟩ := box5 H10.out.z
            obtain ⟨z0, z1, z2, z3, z4⟩ := free5 H10.out.z
            obtain ⟨v0, v1, v2, v3, v4⟩ := box5 H10.out.vb
            go_wp2_with fail
            (try simp only [Exit.inBlock, Exit.then])
            (try go_wp2_with fail)
            refine post5v Tryz.results184 rfl rfl (put5x H10.out.z _ _ _ _ _) ?_
            have H11 : ArSt s g W w10 (jgoS s.data.toList 93 σe) (es ++ [e6]) (.slice (some ⟨g4, 0, none⟩) (es ++ [e6]).length c4) q r xk := by rw [List.length_append]; exact H10.out
            have hcl := H11.close (by rw [List.length_append]; have := HLEN.out; simp; omega)
            rw [List.length_append] at hcl
            exact hcl
          | true =>
            rw [hbg, if_pos rfl] at hc2
            obtain ⟨n1, n2', n3, n4, n5⟩ := jnext_same (l := s.data.toList) (jgoS s.data.toList 93 σe)
            obtain ⟨g1, g2', g3, g4'⟩ := jgoS_same (l := s.data.toList) 93 σe
            have hBg : JB (jgoS s.data.toList 93 σe) := ⟨by rw [g1]; exact HBe.out.1, fun he => by rw [g2', g3]; exact HBe.out.2 (g4' he)⟩
            have hl3 : (es ++ [e6]).length ≤ 1024 := HL3.out hbg
            have HNX := Lib.hid (And.intro hc2 (And.intro (hBg.next (l := s.data.toList)) (And.intro n5 (jnextK (l := s.data.toList) (jgoS s.data.toList 93 σe)))))
            have HRx := Lib.hid (fun W h => HR.out W (jgoS s.data.toList 93 σe) h)
            clear n1 n2' n3 n4 n5 g1 g2' g3 g4' hBg hc2
            generalize jnext s.data.toList (jgoS s.data.toList 93 σe) = Y at HNX HRx
            obtain ⟨y, σy⟩ := Y
            dsimp only at HNX HRx
            obtain ⟨tt0, tt1, tt2, tt3, tt4, tt5⟩ := box6 H10.out.tb
            obtain ⟨uu0, uu1, uu2, uu3, uu4, uu5⟩ := free6 H10.out.tb
            go_wp2_with fail
            refine (HRx.out _ H10.out.p).mono ?_
            rintro e w11 ⟨rfl, hg11, hp11⟩
            have H11 := Lib.hid (H10.out.next hg11 hp11)
            clear hg11 hp11
            clear tt0 tt1 tt2 tt3 tt4 tt5 uu0 uu1 uu2 uu3 uu4 uu5
            obtain ⟨tt0, tt1, tt2, tt3, tt4, tt5⟩ := box6 H11.out.tb
            obtain ⟨uu0, uu1, uu2, uu3, uu4, uu5⟩ := free6 H11.out.tb
            go_wp2_with fail
            obtain ⟨m3, rfl⟩ : ∃ m3, m' = m3 + 1 := by
              cases m' with
              | zero => exact absurd HNX.out.1 (by simp [jarrL])
              | succ m => exact ⟨m, rfl⟩
            go_roundg m3
            case measure => omega
            case rel =>
              have H12 : ArSt s g W w11 σy (es ++ [e6]) (.slice (some ⟨g4, 0, none⟩) (es ++ [e6]).length c4) q r xk := by rw [List.length_append]; exact H11.out
              have h13 := H12.tok y
              exact Lib.hid ⟨m3, es ++ [e6], some ⟨g4, 0, none⟩, c4, σy, y, Nat.le_refl _, HNX.out.1, h13, HNX.out.2.1, HNX.out.2.2.1, HNX.out.2.2.2, hl3⟩
        · skip
          go_simp
          refine (HEl.out _ HD.out.p).mono ?_
          rintro e w6 ⟨c0, c1, c2, c3, c4, rfl, hg6, hp6, hl6⟩
          obtain ⟨k2, n2, t2, A2, na2, ca2, B2, nb2, cb2, rfl, rfl, rfl, rfl, rfl⟩ := lies_five hl6
          have H6 := Lib.hid (HD.out.next hg6 hp6)
          have HF6 : Hid (Lies w6 (fun b => r < b ∧ b < w6.heap.size ∧ (Value.slice A es.length c).ownBlock ≠ some b) e6 [.int .i64 k2, .int .i64 n2, .string t2, .slice A2 na2 ca2, .slice B2 nb2 cb2]) := Lib.hid (hl6.move fun b hb => ⟨⟨by have := hb.1; have := HD.out.tb.lt; omega, hb.2, fun e => by obtain ⟨xs, hx, -⟩ := HD.out.row; have := (ownBlock_geJ hx b e).2; have := hb.1; omega⟩, rfl⟩)
          have v4 := H6.out.vb.cell (i := 4) rfl
          have hq6 := H6.out.vb.lt
          clear hg6 hp6 hl6 x4
          refine hK.out _ _ (box6 H6.out.tb) (fun _ => ?_)
          clear hK Kc
          try simp only [List.getElem_toArray, List.getElem_cons_succ, List.getElem_cons_zero, Act.put, List.setIfInBounds_toArray, List.set_cons_zero, List.set_cons_succ]
          refine wpAnyH_ready (rs := [1, 8]) (by kernel_rfl) (by simp) ?_
          refine AllReadyH.cons rfl (fun Kc hK => ?_) (AllReadyH.cons rfl (fun Kc hK => ?_) (AllReadyH.nil))
          · skip
            go_simp
            refine hK.out _ _ (box6 H6.out.tb) (fun _ => ?_)
            clear hK Kc
            try simp only [List.getElem_toArray, List.getElem_cons_succ, List.getElem_cons_zero, Act.put, List.setIfInBounds_toArray, List.set_cons_zero, List.set_cons_succ]
            refine wpAnyH_ready (rs := [8]) (by kernel_rfl) (by simp) ?_
            refine AllReadyH.cons rfl (fun Kc hK => ?_) (AllReadyH.nil)
            go_simp
            refine hK.out _ _ (box6 (H6.out.tb.alloc _)) (fun _ => ?_)
            clear hK Kc
            try simp only [List.getElem_toArray, List.getElem_cons_succ, List.getElem_cons_zero, Act.put, List.setIfInBounds_toArray, List.set_cons_zero, List.set_cons_succ]
            refine wpAnyH_ready (rs := [9]) (by kernel_rfl) (by simp) ?_
            refine AllReadyH.cons rfl (fun Kc hK => ?_) (AllReadyH.nil)
            obtain ⟨xs, hx, hlx⟩ := H6.out.row
            have HXR := Lib.hid (And.intro hx hlx)
            have hgeX := ownBlock_geJ hx
            have hrw : r + 1 ≤ w6.heap.size := H6.out.tb.lt
            have hlen2 := HLEN.out
            clear hx hlx
            refine step_append_lies _ rfl (.tmp 12) (.tmp 19) 23 rfl (r + 1) 25 i0 (.agg #[.int .i64 0, .int .i64 0, .string ⟨#[]⟩, .slice none 0 0, .slice none 0 0]) 5 80 Tryz.underlying23 hi hz0 hz1 hz2 rfl (by decide) (.slice A es.length c) es.length xs rfl (own_keepJ HXR.out.1 ((Below.refl _ _).alloc (Nat.le_refl _) _)) ⟨w6.heap.size, 0, none⟩ 1 1 [.int .i64 k2, .int .i64 n2, .string t2, .slice A2 na2 ca2, .slice B2 nb2 cb2] rfl rfl (newv _ _ #[.int .i64 k2, .int .i64 n2, .string t2, .slice A2 na2 ca2, .slice B2 nb2 cb2] rfl) (one5v _ _ _ _ _ _ _ _ _) (by decide) (by unfold maxLen; omega) (by omega) (by simp; omega) _ rfl ?_
            intro g4 c4 w9 hown4 hgr4 hor4 hlt4
            have H9 := Lib.hid (H6.out.elem (cs := #[.int .i64 k2, .int .i64 n2, .string t2, .slice A2 na2 ca2, .slice B2 nb2 cb2]) HF6.out HXR.out.1 HXR.out.2 hown4 hgr4 hor4)
            have hbx9 := (H6.out.vb.alloc (.cells #[.int .i64 k2, .int .i64 n2, .string t2, .slice A2 na2 ca2, .slice B2 nb2 cb2] 25)).grown hgr4 (fun e => by have := (hgeX q e.symm).1; have := H6.out.r0; omega)
            have HT9 := Lib.hid ((H6.out.tb.alloc (.cells #[.int .i64 k2, .int .i64 n2, .string t2, .slice A2 na2 ca2, .slice B2 nb2 cb2] 25)).grown hgr4 (fun e => by have := (hgeX r e.symm).1; omega))
            have c8 := hbx9.cell (i := 4) rfl
            have f8 := hbx9.free 4
            clear hown4 hgr4 hor4 hlt4 hbx9 hgeX
            refine hK.out _ _ (box6 HT9.out) (fun _ => ?_)
            clear hK Kc
            try simp only [List.getElem_toArray, List.getElem_cons_succ, List.getElem_cons_zero, Act.put, List.setIfInBounds_toArray, List.set_cons_zero, List.set_cons_succ]
            refine wpAnyH_take (i := 10) (v := ?_) rfl (by kernel_rfl) (by kernel_rfl) (by kernel_rfl) (fun _ _ _ h => h) (Or.inl ⟨by rfl, ?ytka9⟩) (by assumption) ?_
            case ytka9 => (intro w hSw; (try dsimp only at hSw); go_simp <;> with_reducible rfl)
            try simp only [List.getElem_toArray, List.getElem_cons_succ, List.getElem_cons_zero, Act.put, List.setIfInBounds_toArray, List.set_cons_zero, List.set_cons_succ]
            refine wpAnyH_ready (rs := [11]) (by kernel_rfl) (by simp) ?_
            refine AllReadyH.cons rfl (fun Kc hK => ?_) (AllReadyH.nil)
            go_simp
            refine hK.out _ _ (box6 H9.out.tb) (fun _ => ?_)
            clear hK Kc
            try simp only [List.getElem_toArray, List.getElem_cons_succ, List.getElem_cons_zero, Act.put, List.setIfInBounds_toArray, List.set_cons_zero, List.set_cons_succ]
            refine wpAnyH_done (by kernel_rfl) ?_ _
            refine NoPanic.normal ?_
            try simp only [List.getElem_toArray, List.getElem_cons_succ, List.getElem_cons_zero, Act.put, List.setIfInBounds_toArray, List.set_cons_zero, List.set_cons_succ]
            clear HF6 HXR H6 HT9
            generalize hWX : w9.setCell ⟨q, 4, none⟩ (.slice (some ⟨g4, 0, none⟩) (es.length + 1) c4) = WX at H9 ⊢
            clear hWX c8 f8
            have HQX := Lib.hid H9.out.p
            go_wp2_with fail
            refine (HGo.out _ _ H9.out.p).mono ?_
            rintro e w10 ⟨rfl, hg10, hp10⟩
            have H10 := Lib.hid (H9.out.next hg10 hp10)
            clear hg10 hp10 H9 HQX
            cases hbg : jgoB s.data.toList σe with
            | false =>
              rw [hbg, if_neg (by decide)] at hc2
              simp only [Option.some.injEq, Prod.mk.injEq] at hc2
              obtain ⟨rfl, rfl⟩ := hc2
              obtain ⟨y0, y1, y2, y3, y4⟩ := box5 H10.out.z
              obtain ⟨z0, z1, z2, z3, z4⟩ := free5 H10.out.z
              obtain ⟨v0, v1, v2, v3, v4⟩ := box5 H10.out.vb
              go_wp2_with fail
              (try simp only [Exit.inBlock, Exit.then])
              (try go_wp2_with fail)
              refine post5v Tryz.results184 rfl rfl (put5x H10.out.z _ _ _ _ _) ?_
              have H11 : ArSt s g W w10 (jgoS s.data.toList 93 σe) (es ++ [e6]) (.slice (some ⟨g4, 0, none⟩) (es ++ [e6]).length c4) q r xk := by rw [List.length_append]; exact H10.out
              have hcl := H11.close (by rw [List.length_append]; have := HLEN.out; simp; omega)
              rw [List.length_append] at hcl
              exact hcl
            | true =>
              rw [hbg, if_pos rfl] at hc2
              obtain ⟨n1, n2', n3, n4, n5⟩ := jnext_same (l := s.data.toList) (jgoS s.data.toList 93 σe)
              obtain ⟨g1, g2', g3, g4'⟩ := jgoS_same (l := s.data.toList) 93 σe
              have hBg : JB (jgoS s.data.toList 93 σe) := ⟨by rw [g1]; exact HBe.out.1, fun he => by rw [g2', g3]; exact HBe.out.2 (g4' he)⟩
              have hl3 : (es ++ [e6]).length ≤ 1024 := HL3.out hbg
              have HNX := Lib.hid (And.intro hc2 (And.intro (hBg.next (l := s.data.toList)) (And.intro n5 (jnextK (l := s.data.toList) (jgoS s.data.toList 93 σe)))))
              have HRx := Lib.hid (fun W h => HR.out W (jgoS s.data.toList 93 σe) h)
              clear n1 n2' n3 n4 n5 g1 g2' g3 g4' hBg hc2
              generalize jnext s.data.toList (jgoS s.data.toList 93 σe) = Y at HNX HRx
              obtain ⟨y, σy⟩ := Y
              dsimp only at HNX HRx
              obtain ⟨tt0, tt1, tt2, tt3, tt4, tt5⟩ := box6 H10.out.tb
              obtain ⟨uu0, uu1, uu2, uu3, uu4, uu5⟩ := free6 H10.out.tb
              go_wp2_with fail
              refine (HRx.out _ H10.out.p).mono ?_
              rintro e w11 ⟨rfl, hg11, hp11⟩
              have H11 := Lib.hid (H10.out.next hg11 hp11)
              clear hg11 hp11
              clear tt0 tt1 tt2 tt3 tt4 tt5 uu0 uu1 uu2 uu3 uu4 uu5
              obtain ⟨tt0, tt1, tt2, tt3, tt4, tt5⟩ := box6 H11.out.tb
              obtain ⟨uu0, uu1, uu2, uu3, uu4, uu5⟩ := free6 H11.out.tb
              go_wp2_with fail
              obtain ⟨m3, rfl⟩ : ∃ m3, m' = m3 + 1 := by
                cases m' with
                | zero => exact absurd HNX.out.1 (by simp [jarrL])
                | succ m => exact ⟨m, rfl⟩
              go_roundg m3
              case measure => omega
              case rel =>
                have H12 : ArSt s g W w11 σy (es ++ [e6]) (.slice (some ⟨g4, 0, none⟩) (es ++ [e6]).length c4) q r xk := by rw [List.length_append]; exact H11.out
                have h13 := H12.tok y
                exact Lib.hid ⟨m3, es ++ [e6], some ⟨g4, 0, none⟩, c4, σy, y, Nat.le_refl _, HNX.out.1, h13, HNX.out.2.1, HNX.out.2.2.1, HNX.out.2.2.2, hl3⟩
          · skip
            go_simp
            refine hK.out _ _ (box6 (H6.out.tb.alloc _)) (fun _ => ?_)
            clear hK Kc
            try simp only [List.getElem_toArray, List.getElem_cons_succ, List.getElem_cons_zero, Act.put, List.setIfInBounds_toArray, List.set_cons_zero, List.set_cons_succ]
            refine wpAnyH_ready (rs := [1]) (by kernel_rfl) (by simp) ?_
            refine AllReadyH.cons rfl (fun Kc hK => ?_) (AllReadyH.nil)
            go_simp
            refine hK.out _ _ (box6 (H6.out.tb.alloc _)) (fun _ => ?_)
            clear hK Kc
            try simp only [List.getElem_toArray, List.getElem_cons_succ, List.getElem_cons_zero, Act.put, List.setIfInBounds_toArray, List.set_cons_zero, List.set_cons_succ]
            refine wpAnyH_ready (rs := [9]) (by kernel_rfl) (by simp) ?_
            refine AllReadyH.cons rfl (fun Kc hK => ?_) (AllReadyH.nil)
            obtain ⟨xs, hx, hlx⟩ := H6.out.row
            have HXR := Lib.hid (And.intro hx hlx)
            have hgeX := ownBlock_geJ hx
            have hrw : r + 1 ≤ w6.heap.size := H6.out.tb.lt
            have hlen2 := HLEN.out
            clear hx hlx
            refine step_append_lies _ rfl (.tmp 12) (.tmp 19) 23 rfl (r + 1) 25 i0 (.agg #[.int .i64 0, .int .i64 0, .string ⟨#[]⟩, .slice none 0 0, .slice none 0 0]) 5 80 Tryz.underlying23 hi hz0 hz1 hz2 rfl (by decide) (.slice A es.length c) es.length xs rfl (own_keepJ HXR.out.1 ((Below.refl _ _).alloc (Nat.le_refl _) _)) ⟨w6.heap.size, 0, none⟩ 1 1 [.int .i64 k2, .int .i64 n2, .string t2, .slice A2 na2 ca2, .slice B2 nb2 cb2] rfl rfl (newv _ _ #[.int .i64 k2, .int .i64 n2, .string t2, .slice A2 na2 ca2, .slice B2 nb2 cb2] rfl) (one5v _ _ _ _ _ _ _ _ _) (by decide) (by unfold maxLen; omega) (by omega) (by simp; omega) _ rfl ?_
            intro g4 c4 w9 hown4 hgr4 hor4 hlt4
            have H9 := Lib.hid (H6.out.elem (cs := #[.int .i64 k2, .int .i64 n2, .string t2, .slice A2 na2 ca2, .slice B2 nb2 cb2]) HF6.out HXR.out.1 HXR.out.2 hown4 hgr4 hor4)
            have hbx9 := (H6.out.vb.alloc (.cells #[.int .i64 k2, .int .i64 n2, .string t2, .slice A2 na2 ca2, .slice B2 nb2 cb2] 25)).grown hgr4 (fun e => by have := (hgeX q e.symm).1; have := H6.out.r0; omega)
            have HT9 := Lib.hid ((H6.out.tb.alloc (.cells #[.int .i64 k2, .int .i64 n2, .string t2, .slice A2 na2 ca2, .slice B2 nb2 cb2] 25)).grown hgr4 (fun e => by have := (hgeX r e.symm).1; omega))
            have c8 := hbx9.cell (i := 4) rfl
            have f8 := hbx9.free 4
            clear hown4 hgr4 hor4 hlt4 hbx9 hgeX
            refine hK.out _ _ (box6 HT9.out) (fun _ => ?_)
            clear hK Kc
            try simp only [List.getElem_toArray, List.getElem_cons_succ, List.getElem_cons_zero, Act.put, List.setIfInBounds_toArray, List.set_cons_zero, List.set_cons_succ]
            refine wpAnyH_take (i := 10) (v := ?_) rfl (by kernel_rfl) (by kernel_rfl) (by kernel_rfl) (fun _ _ _ h => h) (Or.inl ⟨by rfl, ?ytka10⟩) (by assumption) ?_
            case ytka10 => (intro w hSw; (try dsimp only at hSw); go_simp <;> with_reducible rfl)
            try simp only [List.getElem_toArray, List.getElem_cons_succ, List.getElem_cons_zero, Act.put, List.setIfInBounds_toArray, List.set_cons_zero, List.set_cons_succ]
            refine wpAnyH_ready (rs := [11]) (by kernel_rfl) (by simp) ?_
            refine AllReadyH.cons rfl (fun Kc hK => ?_) (AllReadyH.nil)
            go_simp
            refine hK.out _ _ (box6 H9.out.tb) (fun _ => ?_)
            clear hK Kc
            try simp only [List.getElem_toArray, List.getElem_cons_succ, List.getElem_cons_zero, Act.put, List.setIfInBounds_toArray, List.set_cons_zero, List.set_cons_succ]
            refine wpAnyH_done (by kernel_rfl) ?_ _
            refine NoPanic.normal ?_
            try simp only [List.getElem_toArray, List.getElem_cons_succ, List.getElem_cons_zero, Act.put, List.setIfInBounds_toArray, List.set_cons_zero, List.set_cons_succ]
            clear HF6 HXR H6 HT9
            generalize hWX : w9.setCell ⟨q, 4, none⟩ (.slice (some ⟨g4, 0, none⟩) (es.length + 1) c4) = WX at H9 ⊢
            clear hWX c8 f8
            have HQX := Lib.hid H9.out.p
            go_wp2_with fail
            refine (HGo.out _ _ H9.out.p).mono ?_
            rintro e w10 ⟨rfl, hg10, hp10⟩
            have H10 := Lib.hid (H9.out.next hg10 hp10)
            clear hg10 hp10 H9 HQX
            cases hbg : jgoB s.data.toList σe with
            | false =>
              rw [hbg, if_neg (by decide)] at hc2
              simp only [Option.some.injEq, Prod.mk.injEq] at hc2
              obtain ⟨rfl, rfl⟩ := hc2
              obtain ⟨y0, y1, y2, y3, y4⟩ := box5 H10.out.z
              obtain ⟨z0, z1, z2, z3, z4⟩ := free5 H10.out.z
              obtain ⟨v0, v1, v2, v3, v4⟩ := box5 H10.out.vb
              go_wp2_with fail
              (try simp only [Exit.inBlock, Exit.then])
              (try go_wp2_with fail)
              refine post5v Tryz.results184 rfl rfl (put5x H10.out.z _ _ _ _ _) ?_
              have H11 : ArSt s g W w10 (jgoS s.data.toList 93 σe) (es ++ [e6]) (.slice (some ⟨g4, 0, none⟩) (es ++ [e6]).length c4) q r xk := by rw [List.length_append]; exact H10.out
              have hcl := H11.close (by rw [List.length_append]; have := HLEN.out; simp; omega)
              rw [List.length_append] at hcl
              exact hcl
            | true =>
              rw [hbg, if_pos rfl] at hc2
              obtain ⟨n1, n2', n3, n4, n5⟩ := jnext_same (l := s.data.toList) (jgoS s.data.toList 93 σe)
              obtain ⟨g1, g2', g3, g4'⟩ := jgoS_same (l := s.data.toList) 93 σe
              have hBg : JB (jgoS s.data.toList 93 σe) := ⟨by rw [g1]; exact HBe.out.1, fun he => by rw [g2', g3]; exact HBe.out.2 (g4' he)⟩
              have hl3 : (es ++ [e6]).length ≤ 1024 := HL3.out hbg
              have HNX := Lib.hid (And.intro hc2 (And.intro (hBg.next (l := s.data.toList)) (And.intro n5 (jnextK (l := s.data.toList) (jgoS s.data.toList 93 σe)))))
              have HRx := Lib.hid (fun W h => HR.out W (jgoS s.data.toList 93 σe) h)
              clear n1 n2' n3 n4 n5 g1 g2' g3 g4' hBg hc2
              generalize jnext s.data.toList (jgoS s.data.toList 93 σe) = Y at HNX HRx
              obtain ⟨y, σy⟩ := Y
              dsimp only at HNX HRx
              obtain ⟨tt0, tt1, tt2, tt3, tt4, tt5⟩ := box6 H10.out.tb
              obtain ⟨uu0, uu1, uu2, uu3, uu4, uu5⟩ := free6 H10.out.tb
              go_wp2_with fail
              refine (HRx.out _ H10.out.p).mono ?_
              rintro e w11 ⟨rfl, hg11, hp11⟩
              have H11 := Lib.hid (H10.out.next hg11 hp11)
              clear hg11 hp11
              clear tt0 tt1 tt2 tt3 tt4 tt5 uu0 uu1 uu2 uu3 uu4 uu5
              obtain ⟨tt0, tt1, tt2, tt3, tt4, tt5⟩ := box6 H11.out.tb
              obtain ⟨uu0, uu1, uu2, uu3, uu4, uu5⟩ := free6 H11.out.tb
              go_wp2_with fail
              obtain ⟨m3, rfl⟩ : ∃ m3, m' = m3 + 1 := by
                cases m' with
                | zero => exact absurd HNX.out.1 (by simp [jarrL])
                | succ m => exact ⟨m, rfl⟩
              go_roundg m3
              case measure => omega
              case rel =>
                have H12 : ArSt s g W w11 σy (es ++ [e6]) (.slice (some ⟨g4, 0, none⟩) (es ++ [e6]).length c4) q r xk := by rw [List.length_append]; exact H11.out
                have h13 := H12.tok y
                exact Lib.hid ⟨m3, es ++ [e6], some ⟨g4, 0, none⟩, c4, σy, y, Nat.le_refl _, HNX.out.1, h13, HNX.out.2.1, HNX.out.2.2.1, HNX.out.2.2.2, hl3⟩
end Go.Proofs.YtfmpdcmedaiooaaGreatDoor

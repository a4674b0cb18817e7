/- The JSON parser's object. -/
import Derived.Test.YtfmpdcmedaiooaaGreatDoorU32
set_option linter.unusedVariables false
set_option linter.unusedSimpArgs false
namespace Go.Proofs.YtfmpdcmedaiooaaGreatDoor
open Go.RowKit Go.Sort
theorem inf_str : (Tryz.prog.info? 9).map (fun i => (i.zero, i.size, i.bytes)) = some (some (.string ⟨#[]⟩), 1, 16) := by kernel_rfl
theorem kv_snoc (ks : List ByteArray) (k : ByteArray) : kv (ks ++ [k]) = kv ks ++ [.string k] := by simp [kv]
theorem own_apartJ {w : World} {b1 b2 : Nat} {s1 s2 n1 n2 : Nat} {u v : Value} {xs ys : List Value} (h1 : w.ownsRow b1 9 s1 u n1 xs) (h2 : w.ownsRow b2 25 s2 v n2 ys) : ∀ b, u.ownBlock = some b → v.ownBlock ≠ some b := by
  intro b e1 e2
  obtain ⟨c1, q1⟩ := own_type h1 e1
  obtain ⟨c2, q2⟩ := own_type h2 e2
  rw [q1] at q2
  injection q2 with q2
  injection q2 with _ q2
  exact absurd q2 (by decide)
/-- The head of object's loop. -/
structure ObSt (s : ByteArray) (g : Nat) (w0 w : World) (σ : JS) (ks : List ByteArray) (es : List V) (uk ue : Value) (r : Nat) (x : Lx) : Prop where
  p : JAt s g w σ
  gr : Gr g w0 w
  p0 : ∃ σ0, JAt s g w0 σ0
  z : Box w w0.heap.size 25 #[.int .i64 0, .int .i64 0, .string ⟨#[]⟩, .slice none 0 0, .slice none 0 0]
  r0 : w0.heap.size < r
  tb : Box w r 93 #[.int .i64 x.k, .int .i64 x.f, .int .i64 x.t, .int .u8 x.b, .int .i64 x.i, .string x.s]
  kr : w.ownsRow (r + 1) 9 1 uk ks.length (kv ks)
  row : ∃ xs, w.ownsRow (r + 1) 25 5 ue es.length xs ∧ LiesL w (fun b => r < b ∧ b < w.heap.size ∧ uk.ownBlock ≠ some b ∧ ue.ownBlock ≠ some b) es xs
section
variable {s : ByteArray} {g : Nat} {w0 w w' : World} {σ τ : JS} {ks : List ByteArray} {es : List V} {uk ue : Value} {r : Nat} {x : Lx}
theorem ObSt.g0 (h : ObSt s g w0 w σ ks es uk ue r x) : g < w0.heap.size := h.p0.elim fun _ h => h.glt
theorem ObSt.e0 (h : ObSt s g w0 w σ ks es uk ue r x) : 5 < w0.heap.size := h.p0.elim fun _ h => errIn_lt h.ei
theorem keptNe {w : World} {base B : Nat} {T : TypeId} {size n : Nat} {v : Value} {xs : List Value} (h : w.ownsRow base T size v n xs) (hB : B < base) : v.ownBlock = none ∨ v.ownBlock ≠ some B := by
  cases hv : v.ownBlock with
  | none => exact .inl rfl
  | some b => exact .inr (by intro e; injection e with e; have := (ownBlock_geJ h b hv).1; omega)
theorem ObSt.next (h : ObSt s g w0 w σ ks es uk ue r x) (hg : Gr g w w') (hp : JAt s g w' τ) : ObSt s g w0 w' τ ks es uk ue r x := by
  obtain ⟨xs, h1, h2⟩ := h.row
  have g0 := h.g0
  have := h.r0
  exact ⟨hp, h.gr.trans hg, h.p0, h.z.gr hg (by omega), h.r0, h.tb.gr hg (by omega), h.kr.kept hg (keptNe h.kr (by omega)), xs, h1.kept hg (keptNe h1 (by omega)), h2.move fun b hb => ⟨⟨hb.1, Nat.lt_of_lt_of_le hb.2.1 hg.size, hb.2.2⟩, hg.block hb.2.1 (by have := hb.1; omega)⟩⟩
theorem ObSt.low (h : ObSt s g w0 w σ ks es uk ue r x) (hb : Below w.heap.size w w') : ObSt s g w0 w' σ ks es uk ue r x := h.next (Gr.below hb) (h.p.next hb)
theorem ObSt.keyed {k : ByteArray} {g2 c2 : Nat} (h : ObSt s g w0 w σ ks es uk ue r x)
    (ho : w'.ownsRow (r + 1) 9 1 (.slice (some ⟨g2, 0, none⟩) (ks.length + 1) c2) (ks.length + 1) (kv ks ++ [.string k])) (hg : (w.alloc (.cells #[.string k] 9)).grownBy w' uk.ownBlock) (hor : uk.ownBlock = some g2 ∨ g2 = (w.alloc (.cells #[.string k] 9)).heap.size) :
    ObSt s g w0 w' σ (ks ++ [k]) es (.slice (some ⟨g2, 0, none⟩) (ks.length + 1) c2) ue r x := by
  obtain ⟨xs, h1, h2⟩ := h.row
  have hge := ownBlock_geJ h.kr
  have hap := own_apartJ h.kr h1
  have g0 := h.g0
  have e0 := h.e0
  have hr0 := h.r0
  have hrl := h.tb.lt
  have hne : ∀ b, b ≤ r → uk.ownBlock ≠ some b := fun b hb e => by have := (hge b e).1; omega
  have hsz : w.heap.size + 1 ≤ w'.heap.size := by have := hg.size; simpa using this
  have hgr : Gr g w0 w' := by
    refine ⟨hg.os.trans h.gr.os, hg.tape.trans h.gr.tape, hg.output.trans h.gr.output, by have := h.gr.size; omega, fun b hb hn => ?_⟩
    have hb2 := h.gr.size
    exact ((hg.block b (by simp; omega) (fun e => hne b (by omega) e.symm)).trans (Below.heap_alloc _ _ _ (by omega))).trans (World.grownBy.block h.gr b hb hn)
  have hbx : ∀ {b : Nat} {t : TypeId} {ds : Array Value}, b ≤ r → Box w b t ds → Box w' b t ds := fun hb hB => (hB.alloc _).grown hg (fun e => hne _ hb e.symm)
  refine ⟨(h.p.alloc _).grown hg (hne g (by omega)) (hne _ (by omega)), hgr, h.p0, hbx (by omega) h.z, hr0, hbx (Nat.le_refl _) h.tb, ?_, xs, (own_keepJ h1 ((Below.refl _ _).alloc (Nat.le_refl _) _)).kept hg ?_, h2.move fun b hb => ⟨⟨hb.1, by omega, ?_, hb.2.2.2⟩, (hg.block b (by simp; omega) (fun e => hb.2.2.1 e.symm)).trans (Below.heap_alloc _ _ _ hb.2.1)⟩⟩
  · rw [List.length_append, kv_snoc]; exact ho
  · cases hv : ue.ownBlock with
    | none => exact .inl rfl
    | some b => exact .inr (fun e => hap b e.symm hv)
  · intro e
    simp only [Value.ownBlock, Option.some.injEq] at e
    subst e
    rcases hor with h3 | h3
    · exact hb.2.2.1 h3
    · have := hb.2.1; simp at h3; omega
theorem ObSt.elem {e : V} {cs : Array Value} {xs : List Value} {g2 c2 : Nat} (h : ObSt s g w0 w σ ks es uk ue r x) (hf : Lies w (fun b => r < b ∧ b < w.heap.size ∧ uk.ownBlock ≠ some b ∧ ue.ownBlock ≠ some b) e cs.toList) (hx : w.ownsRow (r + 1) 25 5 ue es.length xs) (hlx : LiesL w (fun b => r < b ∧ b < w.heap.size ∧ uk.ownBlock ≠ some b ∧ ue.ownBlock ≠ some b) es xs)
    (ho : w'.ownsRow (r + 1) 25 5 (.slice (some ⟨g2, 0, none⟩) (es.length + 1) c2) (es.length + 1) (xs ++ cs.toList)) (hg : (w.alloc (.cells cs 25)).grownBy w' ue.ownBlock) (hor : ue.ownBlock = some g2 ∨ g2 = (w.alloc (.cells cs 25)).heap.size) :
    ObSt s g w0 w' σ ks (es ++ [e]) uk (.slice (some ⟨g2, 0, none⟩) (es.length + 1) c2) r x := by
  have hge := ownBlock_geJ hx
  have hap := own_apartJ h.kr hx
  have g0 := h.g0
  have e0 := h.e0
  have hr0 := h.r0
  have hrl := h.tb.lt
  have hne : ∀ b, b ≤ r → ue.ownBlock ≠ some b := fun b hb e => by have := (hge b e).1; omega
  have hsz : w.heap.size + 1 ≤ w'.heap.size := by have := hg.size; simpa using this
  have hS : ∀ b, (r < b ∧ b < w.heap.size ∧ uk.ownBlock ≠ some b ∧ ue.ownBlock ≠ some b) → (r < b ∧ b < w'.heap.size ∧ uk.ownBlock ≠ some b ∧ (Value.slice (some ⟨g2, 0, none⟩) (es.length + 1) c2).ownBlock ≠ some b) ∧ w'.heap[b]? = w.heap[b]? := by
    intro b hb
    refine ⟨⟨hb.1, by omega, hb.2.2.1, ?_⟩, (hg.block b (by simp; omega) (fun e => hb.2.2.2 e.symm)).trans (Below.heap_alloc _ _ _ hb.2.1)⟩
    intro e
    simp only [Value.ownBlock, Option.some.injEq] at e
    subst e
    rcases hor with h3 | h3
    · exact hb.2.2.2 h3
    · have := hb.2.1; simp at h3; omega
  have hgr : Gr g w0 w' := by
    refine ⟨hg.os.trans h.gr.os, hg.tape.trans h.gr.tape, hg.output.trans h.gr.output, by have := h.gr.size; omega, fun b hb hn => ?_⟩
    have hb2 := h.gr.size
    exact ((hg.block b (by simp; omega) (fun e => hne b (by omega) e.symm)).trans (Below.heap_alloc _ _ _ (by omega))).trans (World.grownBy.block h.gr b hb hn)
  have hbx : ∀ {b : Nat} {t : TypeId} {ds : Array Value}, b ≤ r → Box w b t ds → Box w' b t ds := fun hb hB => (hB.alloc _).grown hg (fun e => hne _ hb e.symm)
  refine ⟨(h.p.alloc _).grown hg (hne g (by omega)) (hne _ (by omega)), hgr, h.p0, hbx (by omega) h.z, hr0, hbx (Nat.le_refl _) h.tb, (own_keepJ h.kr ((Below.refl _ _).alloc (Nat.le_refl _) _)).kept hg ?_, xs ++ cs.toList, ?_, LiesL.snoc (hlx.move hS) (hf.move hS)⟩
  · cases hv : uk.ownBlock with
    | none => exact .inl rfl
    | some b => exact .inr (fun e => hap b hv e.symm)
  · rw [List.length_append]; exact ho
/-- Another token. -/
theorem ObSt.tok (h : ObSt s g w0 w σ ks es uk ue r x) (y : Lx) : ObSt s g w0 ((((((w.setCell ⟨r, 0, none⟩ (.int .i64 y.k)).setCell ⟨r, 1, none⟩ (.int .i64 y.f)).setCell ⟨r, 2, none⟩ (.int .i64 y.t)).setCell ⟨r, 3, none⟩ (.int .u8 y.b)).setCell ⟨r, 4, none⟩ (.int .i64 y.i)).setCell ⟨r, 5, none⟩ (.string y.s)) σ ks es uk ue r y := by
  obtain ⟨xs, h1, h2⟩ := h.row
  have g0 := h.g0
  have hr0 := h.r0
  have hset : ∀ b, b ≠ r → ((((((w.setCell ⟨r, 0, none⟩ (.int .i64 y.k)).setCell ⟨r, 1, none⟩ (.int .i64 y.f)).setCell ⟨r, 2, none⟩ (.int .i64 y.t)).setCell ⟨r, 3, none⟩ (.int .u8 y.b)).setCell ⟨r, 4, none⟩ (.int .i64 y.i)).setCell ⟨r, 5, none⟩ (.string y.s)).heap[b]? = w.heap[b]? := fun b hb => by
    repeat rw [Below.heap_setCell _ _ _ _ (by exact hb)]
  have hg6 : w.grownBy ((((((w.setCell ⟨r, 0, none⟩ (.int .i64 y.k)).setCell ⟨r, 1, none⟩ (.int .i64 y.f)).setCell ⟨r, 2, none⟩ (.int .i64 y.t)).setCell ⟨r, 3, none⟩ (.int .u8 y.b)).setCell ⟨r, 4, none⟩ (.int .i64 y.i)).setCell ⟨r, 5, none⟩ (.string y.s)) (some r) :=
    grown_trans (grown_trans (grown_trans (grown_trans (grown_trans (grown_set _ r 0 _) (grown_set _ r 1 _)) (grown_set _ r 2 _)) (grown_set _ r 3 _)) (grown_set _ r 4 _)) (grown_set _ r 5 _)
  have hP0 := h.p0
  exact ⟨hP0.elim fun _ hp => hp.new6 h.p (by omega) _ _ _ _ _ _, h.gr.put6 (by omega) _ _ _ _ _ _, h.p0, far6 (by omega) h.z _ _ _ _ _ _, hr0, put6x h.tb _ _ _ _ _ _, h.kr.kept hg6 (keptNe h.kr (by omega)), xs, h1.kept hg6 (keptNe h1 (by omega)), h2.move fun b hb => ⟨⟨hb.1, by have := hb.2.1; simpa [World.setCell] using this, hb.2.2⟩, hset b (by have := hb.1; omega)⟩⟩
/-- The loop's invariant. -/
def ObLp (s : ByteArray) (g n : Nat) (w0 : World) (r : Nat) (v : V) (τ : JS) (gg : Nat) (uk ue : Value) (w : World) : Prop :=
  ∃ (m : Nat) (ks : List ByteArray) (es : List V) (KA : Option Addr) (kc : Nat) (A : Option Addr) (c : Nat) (σ : JS) (x : Lx), m ≤ gg ∧ uk = .slice KA ks.length kc ∧ ue = .slice A es.length c ∧ jobjL s.data.toList (jelN s.data.toList n) (m + 1) ks es x σ = some (v, τ) ∧ ObSt s g w0 w σ ks es (.slice KA ks.length kc) (.slice A es.length c) r x ∧ JB σ ∧ (x.k ≠ 0 → TokF x) ∧ (σ.err ≠ 0 → x.k = 0) ∧ ks.length = es.length ∧ ks.length ≤ 1024 ∧ (∀ k ∈ ks, keyOk k = true) ∧ kb ks ≤ σ.sz
end
set_option maxHeartbeats 10000000 in
set_option maxRecDepth 100000 in
theorem object_any {s : ByteArray} {g n : Nat} (hEl : OkEl s g n) : OkM s g 185 (jobj s.data.toList (jelN s.data.toList n) n) := by
  intro W σ v τ hP hB hm
  have HP := Lib.hid hP
  have hg := hP.glt
  have HR := Lib.hid (fun W σ (h : JAt s g W σ) => jnext_any h)
  have HCo := Lib.hid (fun W σ (h : JAt s g W σ) => jcolon_any h)
  have HGo := Lib.hid (fun W σ (h : JAt s g W σ) => jgo_any 125 (C := 125) rfl h)
  have HE := Lib.hid hEl
  have HRn := Lib.hid (fun W (h : JAt s g W σ) => jnext_any h)
  obtain ⟨s1, s2, s3, s4, s5⟩ := jnext_same (l := s.data.toList) σ
  have hB1 := hB.next (l := s.data.toList)
  have hK1 := jnextK (l := s.data.toList) σ
  unfold jobj at hm
  generalize jnext s.data.toList σ = X at HRn hm s1 s2 s3 s4 s5 hB1 hK1
  obtain ⟨x, σ1⟩ := X
  dsimp only at HRn hm s5 hB1 hK1
  have HS := Lib.hid (fun W => isSign_lit x 125 (C := 125) rfl W)
  have HB1 := Lib.hid hB1
  have HK1 := Lib.hid hK1
  have HT1 := Lib.hid s5
  clear s1 s2 s3 s4 s5 hB1 hK1 hP hEl hB
  obtain ⟨i0, hi, hz0, hz1, hz2⟩ := infoV inf_val
  obtain ⟨j0, hj, jz0, jz1, jz2⟩ := infoV inf_str
  have HV0 := Lib.hid (Box.laid W 25 #[.int .i64 0, .int .i64 0, .string ⟨#[]⟩, .slice none 0 0, .slice none 0 0])
  cases o1 : isSg x 125 with
  | true =>
    rw [o1, if_pos rfl] at hm
    rw [o1] at HS
    simp only [Option.some.injEq, Prod.mk.injEq] at hm
    obtain ⟨rfl, rfl⟩ := hm
    clear o1 HR HGo HE HB1 HK1 HT1 HCo
    go_enter Tryz.func185, Tryz.ntmps185
    go_wp2_with fail
    refine (HRn.out _ (HP.out.alloc _)).mono ?_
    rintro e w1 ⟨rfl, hg1, hp1⟩
    have HZ1 := Lib.hid (HV0.out.gr hg1 (by omega))
    have HG1 := Lib.hid (((Gr.one W _).trans hg1 : Gr g W w1).alloc (.cells #[.int .i64 x.k, .int .i64 x.f, .int .i64 x.t, .int .u8 x.b, .int .i64 x.i, .string x.s] 93))
    have HP1 := Lib.hid (hp1.alloc (.cells #[.int .i64 x.k, .int .i64 x.f, .int .i64 x.t, .int .u8 x.b, .int .i64 x.i, .string x.s] 93))
    clear hg1 hp1
    go_wp2_with fail
    refine (HS.out _).mono ?_
    rintro e w2 ⟨rfl, hb2⟩
    have HZ2 := Lib.hid ((HZ1.out.alloc _).below hb2 (HZ1.out.alloc _).lt)
    have HG2 := Lib.hid (HG1.out.low hb2)
    have HP2 := Lib.hid (HP1.out.next hb2)
    clear hb2
    obtain ⟨y0, y1, y2, y3, y4⟩ := box5 HZ2.out
    obtain ⟨z0, z1, z2, z3, z4⟩ := free5 HZ2.out
    go_wp2_with fail
    refine post5v Tryz.results185 rfl rfl (put5x HZ2.out _ _ _ _ _) ?_
    exact JVal.closeAt (S := noB) (Nat.le_refl _) HP.out HG2.out HP2.out (by rw [Lies]; exact ⟨⟨by decide, by simp, Nat.zero_le _, Nat.zero_le _⟩, none, 0, none, 0, [], rfl, fun _ => rfl, fun _ => rfl, ⟨Nat.le_refl _, Nat.zero_le _⟩, ⟨Nat.le_refl _, Nat.zero_le _⟩, Rs.nil _ _ _, Rs.nil _ _ _, by rw [LiesL]⟩) (fun b hb => hb.elim)
  | false =>
    rw [o1, if_neg (by decide)] at hm
    rw [o1] at HS
    clear o1
    have HM := Lib.hid hm
    clear hm
    go_enter Tryz.func185, Tryz.ntmps185
    go_wp2_with fail
    refine (HRn.out _ (HP.out.alloc _)).mono ?_
    rintro e w1 ⟨rfl, hg1, hp1⟩
    have H1 : Hid (ObSt s g W (w1.alloc (.cells #[.int .i64 x.k, .int .i64 x.f, .int .i64 x.t, .int .u8 x.b, .int .i64 x.i, .string x.s] 93)) σ1 [] [] (.slice none 0 0) (.slice none 0 0) w1.heap.size x) := Lib.hid ⟨hp1.alloc _, ((Gr.one W _).trans hg1).alloc _, ⟨σ, HP.out⟩, (HV0.out.gr hg1 (by omega)).alloc _, by have := (HV0.out.gr hg1 (by omega)).lt; omega, Box.laid _ _ _, World.ownsRow_nil _ _ _ _, [], World.ownsRow_nil _ _ _ _, by rw [LiesL]⟩
    clear hg1 hp1
    go_wp2_with fail
    refine (HS.out _).mono ?_
    rintro e w2 ⟨rfl, hb2⟩
    have H2 := Lib.hid (H1.out.low hb2)
    clear hb2 H1
    obtain ⟨m0, rfl⟩ : ∃ m0, n = m0 + 1 := by
      cases n with
      | zero => exact absurd HM.out (by simp [jobjL])
      | succ m => exact ⟨m, rfl⟩
    generalize w1.heap.size = r at H2 ⊢
    have HLP : Hid (ObLp s g (m0 + 1) W r v τ m0 (.slice none 0 0) (.slice none 0 0) w2) := Lib.hid ⟨m0, [], [], none, 0, none, 0, σ1, x, Nat.le_refl _, rfl, rfl, HM.out, H2.out, HB1.out, HT1.out, HK1.out, rfl, Nat.zero_le _, fun k hk => (by cases hk), by rw [kb]; exact Nat.zero_le _⟩
    clear H2 HM HB1 HT1 HK1 HS HRn HV0
    go_wp2_with fail
    go_loopg [3, 4] m0 (fun gg s3 s4 wr => Hid (ObLp s g (m0 + 1) W r v τ gg s3 s4 wr))
    case atStart => exact HLP
    case round =>
      clear HLP
      obtain ⟨m', ks, es, KA, kc, A, c, σk, xk, hmk, rfl, rfl, hc, hSt, hBk, hTk, hKk, hlen, hl2, hko, hkb⟩ := hrel.out
      clear hrel
      rw [jobjL] at hc
      obtain ⟨e6, σe, hce, hc2⟩ := jbnd_some hc
      clear hc
      obtain ⟨m1, m2, m3, m4⟩ := jmid_same (l := s.data.toList) xk ks.length σk
      have hBm : JB (jmid s.data.toList xk ks.length σk).2 := ⟨by rw [m1]; exact hBk.1, fun he => by
        obtain ⟨a1, a2, a3, a4, a5⟩ := m4 he
        rw [m2, a4]; exact ⟨(hBk.2 a1).1, a5⟩⟩
      have hGd := jelN_good (l := s.data.toList) (m0 + 1) (jmid s.data.toList xk ks.length σk).1 0 (jmid s.data.toList xk ks.length σk).2 e6 σe m3 hBm (by decide) hce
      have hKm := jnextK (l := s.data.toList) (jcolon s.data.toList (jkey xk ks.length σk))
      have HKEY := Lib.hid (fun W (h : JAt s g W σk) => jkey_any xk ks.length h (fun h4 => by
        have h0 : σk.err = 0 := Classical.byContradiction fun hne => by have := hKk hne; omega
        exact ⟨(hBk.2 h0).2, ((hTk (by omega)).str h4).1⟩))
      have HCK := Lib.hid (fun W h => HCo.out W (jkey xk ks.length σk) h)
      have HNK := Lib.hid (fun W h => HR.out W (jcolon s.data.toList (jkey xk ks.length σk)) h)
      have HEl := Lib.hid (fun W (h : JAt s g W (jmid s.data.toList xk ks.length σk).2) => HE.out W (jmid s.data.toList xk ks.length σk).1 0 (jmid s.data.toList xk ks.length σk).2 e6 σe h hBm m3 hKm (by decide) hce)
      have hEnd : σe.err = 0 → (ks ++ [xk.s]).length ≤ 1024 ∧ (∀ k ∈ ks ++ [xk.s], keyOk k = true) ∧ kb (ks ++ [xk.s]) ≤ σe.sz ∧ σe.sz ≤ 65536 := by
        intro he
        obtain ⟨p1, p2, p3⟩ := hGd
        obtain ⟨a1, a2, a3, a4, a5⟩ := p3 he
        obtain ⟨c1, c2, c3, c4, c5⟩ := m4 a1
        rw [List.length_append, List.length_singleton, kb_app, kb_one]
        refine ⟨by omega, fun x hx => ?_, by omega, (p2.2 he).2⟩
        rcases List.mem_append.1 hx with hx | hx
        · exact hko x hx
        · rw [List.mem_singleton.1 hx]
          obtain ⟨g1, g2⟩ := (hTk (by rw [c2]; decide)).str c2
          unfold keyOk
          rw [g2, decide_eq_true g1]; rfl
      have HEND := Lib.hid hEnd
      have HBe := Lib.hid hGd.2.1
      have HLEN := Lib.hid (And.intro hlen hl2)
      have HS := Lib.hid hSt
      have HC2 := Lib.hid hc2
      obtain ⟨t0, t1, t2, t3, t4, t5⟩ := box6 hSt.tb
      clear hce hc2 hGd hSt hBk hTk hKk hlen hl2 hko hkb hEnd m1 m2 m3 m4 hBm hKm
      generalize hjm : jmid s.data.toList xk ks.length σk = J at HEl
      unfold jmid at hjm
      rw [hjm] at HNK
      obtain ⟨xm, σm⟩ := J
      dsimp only at HNK HEl
      clear hjm
      go_wp2_with fail
      refine (HKEY.out _ HS.out.p).mono ?_
      rintro e w3 ⟨rfl, hg3, hp3⟩
      have H3 := Lib.hid (HS.out.next hg3 hp3)
      clear hg3 hp3 t0 t1 t2 t3 t4 t5
      have hrw3 : r + 1 ≤ w3.heap.size := H3.out.tb.lt
      have hl0 := HLEN.out.2
      go_wp2_with (at_builtin; refine wpList_append_lies _ rfl (.tmp 11) (.tmp 17) 22 rfl (r + 1) 9 j0 (.string ⟨#[]⟩) 1 16 Tryz.underlying22 hj jz0 jz1 jz2 rfl (by decide) (.slice KA ks.length kc) ks.length (kv ks) rfl (own_keepJ H3.out.kr ((Below.refl _ _).alloc (Nat.le_refl _) _)) ⟨w3.heap.size, 0, none⟩ 1 1 [.string xk.s] rfl rfl (newv _ _ #[.string xk.s] rfl) (by intro z hz; simp at hz; subst hz; rfl) (by decide) (by unfold maxLen; omega) (by omega) (by simp; omega) _ rfl ?_; intro g4 c4 w4 hown4 hgr4 hor4 hlt4; have H4 := Lib.hid (H3.out.keyed hown4 hgr4 hor4); clear hown4 hgr4 hor4 hlt4)
      refine (HCK.out _ H4.out.p).mono ?_
      rintro e w5 ⟨rfl, hg5, hp5⟩
      have H5 := Lib.hid (H4.out.next hg5 hp5)
      clear hg5 hp5
      go_wp2_with fail
      refine (HNK.out _ H5.out.p).mono ?_
      rintro e w6 ⟨rfl, hg6, hp6⟩
      have H6 := Lib.hid (H5.out.next hg6 hp6)
      clear hg6 hp6
      go_wp2_with fail
      refine (HEl.out _ H6.out.p).mono ?_
      rintro e w7 ⟨c0, c1, c2, c3, c5, rfl, hg7, hp7, hl7⟩
      obtain ⟨k2, n2, t2, A2, na2, ca2, B2, nb2, cb2, rfl, rfl, rfl, rfl, rfl⟩ := lies_five hl7
      have H7 := Lib.hid (H6.out.next hg7 hp7)
      have HF7 : Hid (Lies w7 (fun b => r < b ∧ b < w7.heap.size ∧ (Value.slice (some ⟨g4, 0, none⟩) (ks.length + 1) c4).ownBlock ≠ some b ∧ (Value.slice A es.length c).ownBlock ≠ some b) e6 [.int .i64 k2, .int .i64 n2, .string t2, .slice A2 na2 ca2, .slice B2 nb2 cb2]) := Lib.hid (hl7.move fun b hb => ⟨⟨by have := hb.1; have := H6.out.tb.lt; omega, hb.2, (fun e => by have := (ownBlock_geJ H6.out.kr b e).2; have := hb.1; omega), (fun e => by obtain ⟨xs, hx, -⟩ := H6.out.row; have := (ownBlock_geJ hx b e).2; have := hb.1; omega)⟩, rfl⟩)
      obtain ⟨xs, hx, hlx⟩ := H7.out.row
      have HXR := Lib.hid (And.intro hx hlx)
      have hrw7 : r + 1 ≤ w7.heap.size := H7.out.tb.lt
      have hl1 : es.length ≤ 1024 := by have := HLEN.out.1; omega
      clear hg7 hp7 hl7 hx hlx
      go_wp2_with (at_builtin; refine wpList_append_lies _ rfl (.tmp 21) (.tmp 26) 23 rfl (r + 1) 25 i0 (.agg #[.int .i64 0, .int .i64 0, .string ⟨#[]⟩, .slice none 0 0, .slice none 0 0]) 5 80 Tryz.underlying23 hi hz0 hz1 hz2 rfl (by decide) (.slice A es.length c) es.length xs rfl (own_keepJ HXR.out.1 ((Below.refl _ _).alloc (Nat.le_refl _) _)) ⟨w7.heap.size, 0, none⟩ 1 1 [.int .i64 k2, .int .i64 n2, .string t2, .slice A2 na2 ca2, .slice B2 nb2 cb2] rfl rfl (newv _ _ #[.int .i64 k2, .int .i64 n2, .string t2, .slice A2 na2 ca2, .slice B2 nb2 cb2] rfl) (one5v _ _ _ _ _ _ _ _ _) (by decide) (by unfold maxLen; omega) (by omega) (by simp; omega) _ rfl ?_; intro g8 c8 w8 hown8 hgr8 hor8 hlt8; have H8 := Lib.hid (H7.out.elem (cs := #[.int .i64 k2, .int .i64 n2, .string t2, .slice A2 na2 ca2, .slice B2 nb2 cb2]) HF7.out HXR.out.1 HXR.out.2 hown8 hgr8 hor8); clear hown8 hgr8 hor8 hlt8)
      refine (HGo.out _ _ H8.out.p).mono ?_
      rintro e w9 ⟨rfl, hg9, hp9⟩
      have H9 := Lib.hid (H8.out.next hg9 hp9)
      clear hg9 hp9
      cases hbg : jgoB s.data.toList σe with
      | false =>
        have hc3 := HC2.out
        rw [hbg, if_neg (by decide)] at hc3
        simp only [Option.some.injEq, Prod.mk.injEq] at hc3
        obtain ⟨hv3, hτ⟩ := hc3
        have hse := (jgoS_same (l := s.data.toList) 125 σe).2.2.2
        rw [hτ] at hv3 hse
        have HPE := H9.out.p
        rw [hτ] at HPE
        obtain ⟨⟨b0, b1, b2, b3, b4, b5⟩, f0, f1, f2, f3, f4, f5⟩ := HPE.six
        have HP9 := Lib.hid HPE
        clear HPE
        by_cases h0 : τ.err = 0
        · have q : ((τ.err : Int) != 0) = false := by rw [bne_eq_false_iff_eq]; omega
          rw [if_pos h0] at hv3
          have HV3 := Lib.hid hv3
          obtain ⟨d1, d2, d3, d4⟩ := HEND.out (hse h0)
          have HD := Lib.hid (And.intro d1 (And.intro d2 (Nat.le_trans d3 d4)))
          clear hv3 d1 d2 d3 d4 hse h0
          go_wp2_with fail
          have hkr := H9.out.kr
          obtain ⟨xs9, hx9, hlx9⟩ := H9.out.row
          obtain ⟨A1, cc1, he1, a1, a2, a3, a4, a5, a6⟩ := own_openJ hkr
          obtain ⟨A9, cc9, he9, e1, e2, e3, e4, e5, e6'⟩ := own_openJ hx9
          injection he1 with he1 hn1 hc1
          injection he9 with he9 hn9 hc9
          subst he1; subst he9
          clear hn1 hn9 hc1 hc9
          have hO := ordered_any (ks ++ [xk.s]) (es ++ [e6]) (some ⟨g4, 0, none⟩) (some ⟨g8, 0, none⟩) c4 c8 xs9 w9 (fun b => r < b ∧ b < w9.heap.size) (a6.move fun b hb => ⟨hb.2, rfl⟩) (e6'.move fun b hb => ⟨⟨by have := hb.1; omega, hb.2⟩, rfl⟩) (hlx9.move fun b hb => ⟨⟨hb.1, hb.2.1⟩, rfl⟩) (fun b hb => hb.2) (by have := HLEN.out.1; simp; omega) (by have := HD.out.1; have := HLEN.out.1; simp at *; omega) (by simp) HD.out.2.1 HD.out.2.2
          simp only [List.length_append, List.length_singleton] at hO
          refine hO.mono ?_
          rintro e w10 ⟨hb10, u0, u1, u2, u3, u4, rfl, hl10⟩
          have H10 := Lib.hid (H9.out.low hb10)
          have HP10 := Lib.hid (HP9.out.next hb10)
          obtain ⟨k3, n3, t3, A3, na3, ca3, B3, nb3, cb3, rfl, rfl, rfl, rfl, rfl⟩ := lies_five hl10
          have HL10 := Lib.hid hl10
          have hs10 := hb10.size
          clear hO hkr hx9 hlx9 a6 e6' hl10 hb10 a1 a2 a3 a4 a5 e1 e2 e3 e4 e5 b0 b1 b2 b3 b4 b5 f0 f1 f2 f3 f4 f5
          obtain ⟨y0, y1, y2, y3, y4⟩ := box5 H10.out.z
          obtain ⟨z0, z1, z2, z3, z4⟩ := free5 H10.out.z
          go_wp2_with fail
          refine post5v Tryz.results185 rfl rfl (put5x H10.out.z _ _ _ _ _) ?_
          rw [← HV3.out]
          exact JVal.closeAt (S := fun b => (r < b ∧ b < w9.heap.size) ∨ Nw w9.heap.size w10.heap.size b) (Nat.le_refl _) HP.out H10.out.gr HP10.out HL10.out (fun b hb => by
            have hr0 := H10.out.r0
            have hrl := H9.out.tb.lt
            rcases hb with hb | hb
            · exact ⟨by omega, by omega, by omega⟩
            · have h1 := hb.1
              have h2 := hb.2
              exact ⟨by omega, h2, by omega⟩)
        · have q : ((τ.err : Int) != 0) = true := by rw [bne_iff_ne]; omega
          rw [if_neg h0] at hv3
          subst hv3
          clear hse h0
          obtain ⟨y0, y1, y2, y3, y4⟩ := box5 H9.out.z
          obtain ⟨z0, z1, z2, z3, z4⟩ := free5 H9.out.z
          go_wp2_with fail
          refine post5v Tryz.results185 rfl rfl (put5x H9.out.z _ _ _ _ _) ?_
          exact JVal.closeAt (S := noB) (Nat.le_refl _) HP.out H9.out.gr HP9.out (by unfold jz; rw [Lies]; exact ⟨⟨by decide, by simp, Nat.zero_le _, Nat.zero_le _⟩, none, 0, none, 0, [], rfl, fun _ => rfl, fun _ => rfl, ⟨Nat.le_refl _, Nat.zero_le _⟩, ⟨Nat.le_refl _, Nat.zero_le _⟩, Rs.nil _ _ _, Rs.nil _ _ _, by rw [LiesL]⟩) (fun b hb => hb.elim)
      | true =>
        have hc3 := HC2.out
        rw [hbg, if_pos rfl] at hc3
        obtain ⟨g1, g2', g3, g4'⟩ := jgoS_same (l := s.data.toList) 125 σe
        obtain ⟨n1, n2', n3, n4, n5⟩ := jnext_same (l := s.data.toList) (jgoS s.data.toList 125 σe)
        have he0 : σe.err = 0 := Classical.byContradiction fun hne => by
          have hq0 : (jnext s.data.toList σe).1.k = 0 := by unfold jnext jread; rw [if_neg hne]; rfl
          unfold jgoB isSg at hbg
          rw [hq0] at hbg
          simp at hbg
        obtain ⟨d1, d2, d3, d4⟩ := HEND.out he0
        have hBg : JB (jgoS s.data.toList 125 σe) := ⟨by rw [g1]; exact HBe.out.1, fun he => by rw [g2', g3]; exact HBe.out.2 (g4' he)⟩
        have HNX := Lib.hid (And.intro hc3 (And.intro (hBg.next (l := s.data.toList)) (And.intro n5 (And.intro (jnextK (l := s.data.toList) (jgoS s.data.toList 125 σe)) (And.intro d1 (And.intro d2 (show kb (ks ++ [xk.s]) ≤ (jnext s.data.toList (jgoS s.data.toList 125 σe)).2.sz by rw [n3, g3]; exact d3)))))))
        have HRx := Lib.hid (fun W h => HR.out W (jgoS s.data.toList 125 σe) h)
        clear n1 n2' n3 n4 n5 g1 g2' g3 g4' hBg hc3 d1 d2 d3 d4 he0
        generalize jnext s.data.toList (jgoS s.data.toList 125 σe) = Y at HNX HRx
        obtain ⟨y, σy⟩ := Y
        dsimp only at HNX HRx
        go_wp2_with fail
        refine (HRx.out _ H9.out.p).mono ?_
        rintro e w11 ⟨rfl, hg11, hp11⟩
        have H11 := Lib.hid (H9.out.next hg11 hp11)
        clear hg11 hp11
        obtain ⟨tt0, tt1, tt2, tt3, tt4, tt5⟩ := box6 H11.out.tb
        obtain ⟨uu0, uu1, uu2, uu3, uu4, uu5⟩ := free6 H11.out.tb
        go_wp2_with fail
        obtain ⟨m3, rfl⟩ : ∃ m3, m' = m3 + 1 := by
          cases m' with
          | zero => exact absurd HNX.out.1 (by simp [jobjL])
          | succ m => exact ⟨m, rfl⟩
        go_roundg m3
        case measure => omega
        case rel =>
          have H12 := H11.out
          have H13 : ObSt s g W w11 σy (ks ++ [xk.s]) (es ++ [e6]) (.slice (some ⟨g4, 0, none⟩) (ks ++ [xk.s]).length c4) (.slice (some ⟨g8, 0, none⟩) (es ++ [e6]).length c8) r xk := by rw [List.length_append, List.length_append]; exact H12
          have h13 := H13.tok y
          exact Lib.hid ⟨m3, ks ++ [xk.s], es ++ [e6], some ⟨g4, 0, none⟩, c4, some ⟨g8, 0, none⟩, c8, σy, y, Nat.le_refl _, by rw [List.length_append]; rfl, by rw [List.length_append]; rfl, HNX.out.1, h13, HNX.out.2.1, HNX.out.2.2.1, HNX.out.2.2.2.1, by have := HLEN.out.1; simp; omega, HNX.out.2.2.2.2.1, HNX.out.2.2.2.2.2.1, HNX.out.2.2.2.2.2.2⟩
end Go.Proofs.YtfmpdcmedaiooaaGreatDoor

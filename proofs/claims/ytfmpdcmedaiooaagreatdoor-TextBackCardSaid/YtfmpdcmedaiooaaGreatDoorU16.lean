/- What the parser of JSON texts gives is a valid value. Nothing of the program is named here. -/
import Derived.Test.YtfmpdcmedaiooaaGreatDoorU15
set_option linter.unusedVariables false
set_option linter.unusedSimpArgs false
namespace Go.Proofs.YtfmpdcmedaiooaaGreatDoor
open Go.RowKit
/-- What is known of a token that was found. -/
structure TokF (t : Lx) : Prop where
  str : t.k = 4 → t.s.size ≤ 4096 ∧ okS t.s = true
  no : t.k ≠ 4 → t.s = ⟨#[]⟩
  num : -9223372036854775808 ≤ t.i ∧ t.i ≤ 9223372036854775807
  word : t.k = 2 → 97 ≤ t.b ∧ t.b ≤ 122
  le : t.k ≤ 4
theorem strF_val (l : List UInt8) (k : Nat) : ∀ (m i : Nat) (out : List UInt8) (xs : List Nat), encs xs = out → (∀ r ∈ xs, cp (r : Int) = true) → (strF l k m i out).e = 0 → TokF (strF l k m i out)
  | 0, i, out, xs, _, _, h => noX_e (by omega) h
  | m + 1, i, out, xs, hx, hc, h => by
    rw [strF] at h ⊢
    cases hq : elP (l.drop i) with
    | quote =>
      rw [hq] at h
      simp only [] at h ⊢
      split at h
      · rename_i ho
        rw [if_pos ho]
        refine ⟨fun _ => ⟨ho, ?_⟩, fun h => absurd rfl h, (by decide : (-9223372036854775808 : Int) ≤ 0 ∧ (0 : Int) ≤ 9223372036854775807), fun h => absurd h (by show ¬ 4 = 2; decide), Nat.le_refl 4⟩
        show okS ⟨out.toArray⟩ = true
        unfold okS
        rw [← hx]
        show (runes (encs xs)).isSome = true
        rw [runes_encs hc]
        rfl
      · exact noX_e (by omega) h
    | trunc => rw [hq] at h; exact noX_e (by omega) h
    | stop e => rw [hq] at h; have := elP_stop hq; exact noX_e (by omega) h
    | add r n =>
      rw [hq] at h
      simp only [] at h ⊢
      obtain ⟨h3, h4, h5, -⟩ := elP_add hq
      refine strF_val l k m _ _ (xs ++ [r]) (by rw [encs_snoc, hx]) ?_ h
      intro y hy
      rcases List.mem_append.1 hy with hy | hy
      · exact hc y hy
      · rw [List.mem_singleton.1 hy]; exact h5
theorem fitP_in {neg : Bool} {v : Nat} {i : Int} (h : fitP neg v = some i) : -9223372036854775808 ≤ i ∧ i ≤ 9223372036854775807 := by
  unfold fitP at h
  cases neg <;> simp only [] at h <;> split at h <;> first
    | (injection h with h; omega)
    | cases h
theorem okX_tok {k f t b : Nat} (h4 : k < 4) (h2 : k = 2 → 97 ≤ b ∧ b ≤ 122) {i : Int} (hi : -9223372036854775808 ≤ i ∧ i ≤ 9223372036854775807) : TokF (okX k f t b i ⟨#[]⟩) :=
  ⟨fun h => absurd h (by show ¬ k = 4; omega), fun _ => rfl, hi, h2, Nat.le_of_lt h4⟩
theorem lexN_tok {l : List UInt8} {k : Nat} (h : (lexN l k).e = 0) : TokF (lexN l k) := by
  have h0 : (-9223372036854775808 : Int) ≤ 0 ∧ (0 : Int) ≤ 9223372036854775807 := by decide
  unfold lexN at h ⊢
  split at h
  · rename_i h1; rw [if_pos h1]; exact okX_tok (by decide) (fun h => by cases h) h0
  · rename_i h1
    rw [if_neg h1]
    split at h
    · rename_i h2; rw [if_pos h2]; exact okX_tok (by decide) (fun h => by cases h) h0
    · rename_i h2
      rw [if_neg h2]
      split at h
      · rename_i h3
        rw [if_pos h3]
        unfold wordP at h ⊢
        split at h
        · refine okX_tok (by decide) (fun _ => ?_) h0
          have h5 : letB (l[k]?.getD 0) = true := h3
          unfold letB at h5
          exact of_decide_eq_true h5
        · exact noX_e (by omega) h
      · rename_i h3
        rw [if_neg h3]
        split at h
        · rename_i h4
          rw [if_pos h4]
          unfold numP at h ⊢
          split at h
          · exact noX_e (by omega) h
          rename_i g1
          rw [if_neg g1]
          split at h
          · exact noX_e (by omega) h
          rename_i g2
          rw [if_neg g2]
          split at h
          · exact noX_e (by omega) h
          rename_i g3
          rw [if_neg g3]
          split at h
          · exact noX_e (by omega) h
          · rename_i v hv
            exact okX_tok (by decide) (fun h => by cases h) (fitP_in hv)
        · rename_i h4
          rw [if_neg h4]
          split at h
          · rename_i h5
            rw [if_pos h5]
            exact strF_val l k _ _ [] [] rfl (fun r hr => by cases hr) h
          · exact noX_e (by omega) h
theorem lexP_tok {l : List UInt8} {k : Int} (h : (lexP l k).e = 0) : TokF (lexP l k) := by
  unfold lexP at h ⊢
  split at h
  · exact noX_e (by omega) h
  · rename_i h1
    rw [if_neg h1]
    exact lexN_tok h
mutual
/-- All numbers of a value lie in the range of 64 bits. -/
def nrg : V → Prop
  | .mk _ n _ _ es => (-9223372036854775808 ≤ n ∧ n ≤ 9223372036854775807) ∧ nrgL es
def nrgL : List V → Prop
  | [] => True
  | e :: es => nrg e ∧ nrgL es
end
theorem nrgL_iff {es : List V} : nrgL es ↔ ∀ e ∈ es, nrg e := by
  induction es with
  | nil => simp [nrgL]
  | cons e es ih => rw [nrgL, ih]; simp
theorem goodL_iff {es : List V} : goodL es = true ↔ ∀ e ∈ es, good e = true := by
  induction es with
  | nil => simp [goodL]
  | cons e es ih => rw [goodL, Bool.and_eq_true, ih]; simp
theorem depL_le {es : List V} {n : Nat} : depL es ≤ n ↔ ∀ e ∈ es, dep e ≤ n := by
  induction es with
  | nil => simp [depL]
  | cons e es ih => rw [depL, Nat.max_le, ih]; simp
theorem szL_app (a b : List V) : V.szL (a ++ b) = V.szL a + V.szL b := by
  induction a with
  | nil => simp [V.szL]
  | cons e a ih => rw [List.cons_append, V.szL, V.szL, ih]; omega
theorem vbytL_app (a b : List V) : vbytL (a ++ b) = vbytL a + vbytL b := by
  induction a with
  | nil => simp [vbytL]
  | cons e a ih => rw [List.cons_append, vbytL, vbytL, ih]; omega
theorem kb_app (a b : List ByteArray) : kb (a ++ b) = kb a + kb b := by
  induction a with
  | nil => simp [kb]
  | cons e a ih => rw [List.cons_append, kb, kb, ih]; omega
theorem szL_one (e : V) : V.szL [e] = e.sz := by rw [V.szL, V.szL]; rfl
theorem vbytL_one (e : V) : vbytL [e] = vbyt e := by rw [vbytL, vbytL]; rfl
theorem kb_one (e : ByteArray) : kb [e] = e.size := by rw [kb, kb]; rfl
/-! ### Objects -/
def JAsc (ps : JP) : Prop := ps.Pairwise fun x y => scmp x.1 y.1 < 0
theorem jput_mem {k : ByteArray} {x : V} : ∀ {ps : JP} {p : ByteArray × V}, p ∈ jput ps k x → p = (k, x) ∨ p ∈ ps
  | [], p, h => by simpa [jput] using h
  | (y, v) :: r, p, h => by
    rw [jput] at h
    split at h
    · rcases List.mem_cons.1 h with h | h
      · exact .inr (by simp [h])
      · rcases jput_mem h with h | h
        · exact .inl h
        · exact .inr (by simp [h])
    · rcases List.mem_cons.1 h with h | h
      · exact .inl h
      · split at h
        · exact .inr (by simp [h])
        · exact .inr h
theorem jput_asc {k : ByteArray} {x : V} : ∀ {ps : JP}, JAsc ps → JAsc (jput ps k x)
  | [], _ => by simp [jput, JAsc]
  | (y, v) :: r, h => by
    obtain ⟨h1, h2⟩ := List.pairwise_cons.1 h
    rw [jput]
    split
    · rename_i hy
      refine List.Pairwise.cons (fun p hp => ?_) (jput_asc h2)
      rcases jput_mem hp with rfl | hp
      · exact hy
      · exact h1 p hp
    · rename_i hy
      have hr := scmp_anti y k
      split
      · rename_i e
        subst e
        exact List.Pairwise.cons h1 h2
      · rename_i e
        have hky : scmp k y < 0 := by
          have := mt (scmp_zero y k).1 e
          omega
        refine List.Pairwise.cons (fun p hp => ?_) h
        rcases List.mem_cons.1 hp with rfl | hp
        · exact hky
        · exact scmp_lt hky (h1 p hp)
theorem jput_sum {k : ByteArray} {x : V} : ∀ (ps : JP), (jput ps k x).length ≤ ps.length + 1 ∧ V.szL ((jput ps k x).map Prod.snd) ≤ V.szL (ps.map Prod.snd) + x.sz ∧ kb ((jput ps k x).map Prod.fst) + vbytL ((jput ps k x).map Prod.snd) ≤ kb (ps.map Prod.fst) + vbytL (ps.map Prod.snd) + (k.size + vbyt x)
  | [] => by simp [jput, V.szL, vbytL, kb]
  | (y, v) :: r => by
    obtain ⟨h1, h2, h3⟩ := jput_sum (k := k) (x := x) r
    rw [jput]
    split
    · simp only [List.length_cons, List.map_cons, V.szL, vbytL, kb]
      omega
    · split <;> (simp only [List.length_cons, List.map_cons, V.szL, vbytL, kb]; omega)
/-- What is known of the members of an object. -/
structure JOk (ps : JP) (q : ByteArray × V → Prop) : Prop where
  asc : JAsc ps
  all : ∀ p ∈ ps, q p
theorem jputs_ok {q : ByteArray × V → Prop} : ∀ (ks : List ByteArray) (es : List V) (ps : JP), ks.length = es.length → JOk ps q → (∀ k ∈ ks, ∀ e ∈ es, (k, e) ∈ ks.zip es → q (k, e)) →
    JOk (jputs ps ks es) q ∧ (jputs ps ks es).length ≤ ps.length + es.length ∧ V.szL ((jputs ps ks es).map Prod.snd) ≤ V.szL (ps.map Prod.snd) + V.szL es ∧ kb ((jputs ps ks es).map Prod.fst) + vbytL ((jputs ps ks es).map Prod.snd) ≤ kb (ps.map Prod.fst) + vbytL (ps.map Prod.snd) + (kb ks + vbytL es)
  | [], [], ps, _, h, _ => by rw [jputs]; exact ⟨h, by simp, by simp [V.szL], by simp [kb, vbytL]⟩; intro _ _ _ _ h; cases h
  | [], e :: es, ps, hl, _, _ => by simp at hl
  | k :: ks, [], ps, hl, _, _ => by simp at hl
  | k :: ks, e :: es, ps, hl, h, hq => by
    obtain ⟨s1, s2, s3⟩ := jput_sum (k := k) (x := e) ps
    obtain ⟨h1, h2, h3, h4⟩ := jputs_ok ks es (jput ps k e) (by simpa using hl) ⟨jput_asc h.asc, fun p hp => by
      rcases jput_mem hp with rfl | hp
      · exact hq _ (by simp) _ (by simp) (by simp)
      · exact h.all p hp⟩ (fun a ha b hb hab => hq a (by simp [ha]) b (by simp [hb]) (by simp [hab]))
    rw [jputs]
    simp only [List.length_cons, V.szL, vbytL, kb]
    exact ⟨h1, by omega, by omega, by omega⟩
theorem keysOk_of : ∀ (ps : JP) (y : ByteArray), (∀ p ∈ ps, scmp y p.1 < 0 ∧ keyOk p.1 = true) → JAsc ps → keysOk (some y) (ps.map Prod.fst) = true
  | [], y, _, _ => rfl
  | (x, v) :: r, y, h, ha => by
    obtain ⟨h1, h2⟩ := List.pairwise_cons.1 ha
    rw [List.map_cons, keysOk]
    simp only [Bool.and_eq_true, decide_eq_true_eq]
    exact ⟨(h (x, v) (by simp)).2, (h (x, v) (by simp)).1, keysOk_of r x (fun p hp => ⟨h1 p hp, (h p (by simp [hp])).2⟩) h2⟩
theorem keysOk_none {ps : JP} (h : ∀ p ∈ ps, keyOk p.1 = true) (ha : JAsc ps) : keysOk none (ps.map Prod.fst) = true := by
  cases ps with
  | nil => rfl
  | cons p r =>
    obtain ⟨x, v⟩ := p
    obtain ⟨h1, h2⟩ := List.pairwise_cons.1 ha
    rw [List.map_cons, keysOk]
    simp only [Bool.and_eq_true]
    exact ⟨h (x, v) (by simp), keysOk_of r x (fun p hp => ⟨h1 p hp, h p (by simp [hp])⟩) h2⟩
/-- A value that is good, with numbers in range, no deeper than d. -/
structure GV (d : Nat) (v : V) : Prop where
  g : good v = true
  n : nrg v
  d : dep v ≤ d
theorem i64_zero : (-9223372036854775808 : Int) ≤ 0 ∧ (0 : Int) ≤ 9223372036854775807 := by decide
theorem gv_leaf {d : Nat} {k n : Int} {s : ByteArray} (h : fits k n s 0 0 = true) (hk : k ≠ 5 ∧ k ≠ 6) (hn : -9223372036854775808 ≤ n ∧ n ≤ 9223372036854775807) (hs : s.size ≤ 4096) (ho : okS s = true) : GV d (.mk k n s [] []) := by
  refine ⟨?_, ?_, ?_⟩
  · rw [good, keysOk, goodL]
    simp only [List.length_nil, h, ho, decide_eq_true hs, Bool.and_self, decide_eq_true_eq]
    decide
  · rw [nrg, nrgL]; exact ⟨hn, trivial⟩
  · rw [dep, if_neg (by omega)]; exact Nat.zero_le _
theorem gv_arr {d : Nat} {es : List V} (h : ∀ e ∈ es, GV d e) (hl : es.length ≤ 1024) : GV (d + 1) (.mk 5 0 ⟨#[]⟩ [] es) := by
  refine ⟨?_, ?_, ?_⟩
  · rw [good, keysOk, goodL_iff.2 fun e he => (h e he).g]
    have hf : fits 5 0 ⟨#[]⟩ ([] : List ByteArray).length es.length = true := rfl
    rw [hf, decide_eq_true hl]
    decide
  · rw [nrg]; exact ⟨i64_zero, nrgL_iff.2 fun e he => (h e he).n⟩
  · rw [dep, if_pos (by decide)]
    have := depL_le.2 fun e he => (h e he).d
    omega
theorem gv_obj {d : Nat} {ps : JP} (h : JOk ps (fun p => keyOk p.1 = true ∧ GV d p.2)) (hl : ps.length ≤ 1024) : GV (d + 1) (jobjV ps) := by
  have hall : ∀ e ∈ ps.map Prod.snd, GV d e := by
    intro e he
    obtain ⟨p, hp, rfl⟩ := List.mem_map.1 he
    exact (h.all p hp).2
  refine ⟨?_, ?_, ?_⟩
  · unfold jobjV
    rw [good, keysOk_none (fun p hp => (h.all p hp).1) h.asc, goodL_iff.2 fun e he => (hall e he).g]
    have hf : fits 6 0 ⟨#[]⟩ (ps.map Prod.fst).length (ps.map Prod.snd).length = true := by
      rw [List.length_map, List.length_map]; unfold fits; simp only [show (⟨#[]⟩ : ByteArray).size = 0 from rfl]; simp
    have hl2 : (ps.map Prod.snd).length ≤ 1024 := by simpa using hl
    rw [hf, decide_eq_true hl2]
    decide
  · unfold jobjV
    rw [nrg]; exact ⟨i64_zero, nrgL_iff.2 fun e he => (hall e he).n⟩
  · unfold jobjV
    rw [dep, if_pos (by decide)]
    have := depL_le.2 fun e he => (hall e he).d
    omega
/-! ### The methods -/
section
variable {l : List UInt8}
theorem jfail_same {a e : Nat} (he : e ≠ 0) (σ : JS) : (jfail a e σ).op = σ.op ∧ (jfail a e σ).nd = σ.nd ∧ (jfail a e σ).sz = σ.sz := by unfold jfail; split <;> exact ⟨rfl, rfl, rfl⟩
theorem jread_same (σ : JS) : (jread l σ).2.op = σ.op ∧ (jread l σ).2.nd = σ.nd ∧ (jread l σ).2.sz = σ.sz ∧ ((jread l σ).2.err = 0 → σ.err = 0) ∧ ((jread l σ).1.k ≠ 0 → TokF (jread l σ).1) := by
  unfold jread
  by_cases h : σ.err = 0
  · rw [if_pos h]
    split
    · rename_i he; exact ⟨rfl, rfl, rfl, fun _ => h, fun _ => lexP_tok he⟩
    · rename_i he; exact ⟨rfl, rfl, rfl, fun h2 => absurd h2 he, fun h2 => absurd rfl h2⟩
  · rw [if_neg h]; exact ⟨rfl, rfl, rfl, fun h2 => absurd h2 h, fun h2 => absurd rfl h2⟩
theorem jnext_same (σ : JS) : (jnext l σ).2.op = σ.op ∧ (jnext l σ).2.nd = σ.nd ∧ (jnext l σ).2.sz = σ.sz ∧ ((jnext l σ).2.err = 0 → σ.err = 0 ∧ (jnext l σ).1.k ≠ 0) ∧ ((jnext l σ).1.k ≠ 0 → TokF (jnext l σ).1) := by
  obtain ⟨h1, h2, h3, h4, h5⟩ := jread_same (l := l) σ
  unfold jnext
  by_cases hk : (jread l σ).1.k = 0
  · rw [if_pos hk]
    obtain ⟨g1, g2, g3⟩ := jfail_same (a := l.length) (e := 5) (by decide) (jread l σ).2
    exact ⟨g1.trans h1, g2.trans h2, g3.trans h3, fun h => absurd h (jfail_err (by decide)), fun h => absurd hk h⟩
  · rw [if_neg hk]; exact ⟨h1, h2, h3, fun h => ⟨h4 h, hk⟩, h5⟩
theorem jgoS_same (c : Nat) (σ : JS) : (jgoS l c σ).op = σ.op ∧ (jgoS l c σ).nd = σ.nd ∧ (jgoS l c σ).sz = σ.sz ∧ ((jgoS l c σ).err = 0 → σ.err = 0) := by
  obtain ⟨h1, h2, h3, h4, h5⟩ := jnext_same (l := l) σ
  obtain ⟨g1, g2, g3⟩ := jfail_same (a := (jnext l σ).1.f) (e := 4) (by decide) (jnext l σ).2
  unfold jgoS
  (repeat' split)
  · exact ⟨h1, h2, h3, fun h => (h4 h).1⟩
  · exact ⟨h1, h2, h3, fun h => (h4 h).1⟩
  · exact ⟨g1.trans h1, g2.trans h2, g3.trans h3, fun h => absurd h (jfail_err (by decide))⟩
theorem jcolon_same (σ : JS) : (jcolon l σ).op = σ.op ∧ (jcolon l σ).nd = σ.nd ∧ (jcolon l σ).sz = σ.sz ∧ ((jcolon l σ).err = 0 → σ.err = 0) := by
  obtain ⟨h1, h2, h3, h4, h5⟩ := jnext_same (l := l) σ
  obtain ⟨g1, g2, g3⟩ := jfail_same (a := (jnext l σ).1.f) (e := 4) (by decide) (jnext l σ).2
  unfold jcolon
  split
  · exact ⟨h1, h2, h3, fun h => (h4 h).1⟩
  · exact ⟨g1.trans h1, g2.trans h2, g3.trans h3, fun h => absurd h (jfail_err (by decide))⟩
theorem jkey_same (t : Lx) (b : Nat) (σ : JS) : (jkey t b σ).op = σ.op ∧ (jkey t b σ).nd = σ.nd ∧ ((jkey t b σ).err = 0 → σ.err = 0 ∧ t.k = 4 ∧ b ≠ 1024 ∧ (jkey t b σ).sz = σ.sz + t.s.size ∧ σ.sz + t.s.size ≤ 65536) := by
  unfold jkey
  (repeat' split)
  · obtain ⟨g1, g2, g3⟩ := jfail_same (a := t.f) (e := 2) (by decide) σ
    exact ⟨g1, g2, fun h => absurd h (jfail_err (by decide))⟩
  · obtain ⟨g1, g2, g3⟩ := jfail_same (a := t.f) (e := 2) (by decide) { σ with sz := σ.sz + t.s.size }
    exact ⟨g1, g2, fun h => absurd h (jfail_err (by decide))⟩
  · exact ⟨rfl, rfl, fun h => ⟨h, by assumption, by assumption, rfl, by omega⟩⟩
  · obtain ⟨g1, g2, g3⟩ := jfail_same (a := t.f) (e := 4) (by decide) σ
    exact ⟨g1, g2, fun h => absurd h (jfail_err (by decide))⟩
/-- The counts are within their limits. -/
def JB (σ : JS) : Prop := σ.op ≤ 32 ∧ (σ.err = 0 → σ.nd ≤ 4096 ∧ σ.sz ≤ 65536)
theorem JB.next {σ : JS} (h : JB σ) : JB (jnext l σ).2 := by
  obtain ⟨h1, h2, h3, h4, h5⟩ := jnext_same (l := l) σ
  exact ⟨by rw [h1]; exact h.1, fun e => by rw [h2, h3]; exact h.2 (h4 e).1⟩
/-- What an element gives if no error comes. -/
def GEl (l : List UInt8) (el : Lx → Nat → JM) : Prop := ∀ t b σ v τ, (t.k ≠ 0 → TokF t) → JB σ → b ≤ 1024 → el t b σ = some (v, τ) → τ.op = σ.op ∧ JB τ ∧ (τ.err = 0 → σ.err = 0 ∧ GV (32 - σ.op) v ∧ b < 1024 ∧ σ.nd + v.sz ≤ τ.nd ∧ σ.sz + vbyt v ≤ τ.sz)
theorem jarrL_good {el : Lx → Nat → JM} (hel : GEl l el) {n0 s0 d : Nat} : ∀ (m : Nat) (es : List V) (t : Lx) (σ : JS) (v : V) (τ : JS), (t.k ≠ 0 → TokF t) → JB σ → es.length ≤ 1024 → (σ.err = 0 → (∀ e ∈ es, GV d e) ∧ n0 + V.szL es ≤ σ.nd ∧ s0 + vbytL es ≤ σ.sz) → 32 - σ.op ≤ d →
    jarrL l el m es t σ = some (v, τ) → τ.op = σ.op ∧ JB τ ∧ (τ.err = 0 → σ.err = 0 ∧ GV (d + 1) v ∧ n0 + v.sz ≤ τ.nd + 1 ∧ s0 + vbyt v ≤ τ.sz)
  | 0, es, t, σ, v, τ, _, _, _, _, _, h => by rw [jarrL] at h; cases h
  | m + 1, es, t, σ, v, τ, ht, hB, hl, hA, hd, h => by
    rw [jarrL] at h
    obtain ⟨e, σ1, h1, h2⟩ := jbnd_some h
    obtain ⟨p1, p2, p3⟩ := hel t es.length σ e σ1 ht hB hl h1
    obtain ⟨q1, q2, q3, q4⟩ := jgoS_same (l := l) 93 σ1
    have hB2 : JB (jgoS l 93 σ1) := ⟨by rw [q1]; exact p2.1, fun he => by rw [q2, q3]; exact p2.2 (q4 he)⟩
    have hA2 : σ1.err = 0 → σ.err = 0 ∧ (∀ x ∈ es ++ [e], GV d x) ∧ n0 + V.szL (es ++ [e]) ≤ σ1.nd ∧ s0 + vbytL (es ++ [e]) ≤ σ1.sz ∧ (es ++ [e]).length ≤ 1024 := by
      intro he
      obtain ⟨a1, a2, a3, a4, a5⟩ := p3 he
      obtain ⟨b1, b2, b3⟩ := hA a1
      rw [szL_app, vbytL_app, szL_one, vbytL_one, List.length_append, List.length_singleton]
      refine ⟨a1, fun x hx => ?_, by omega, by omega, by omega⟩
      rcases List.mem_append.1 hx with hx | hx
      · exact b1 x hx
      · rw [List.mem_singleton.1 hx]; exact ⟨a2.g, a2.n, Nat.le_trans a2.d hd⟩
    by_cases hb : jgoB l σ1 = true
    · rw [if_pos hb] at h2
      obtain ⟨r1, r2, r3, r4, r5⟩ := jnext_same (l := l) (jgoS l 93 σ1)
      by_cases hlen : (es ++ [e]).length ≤ 1024
      · obtain ⟨f1, f2, f3⟩ := jarrL_good hel m (es ++ [e]) _ _ v τ r5 hB2.next hlen (fun he => by
          obtain ⟨_, c1, c2, c3, _⟩ := hA2 (q4 (r4 he).1)
          rw [r2, r3, q2, q3]
          exact ⟨c1, c2, c3⟩) (by rw [r1, q1, p1]; exact hd) h2
        refine ⟨by rw [f1, r1, q1, p1], f2, fun he => ?_⟩
        obtain ⟨g1, g2, g3, g4⟩ := f3 he
        exact ⟨(hA2 (q4 (r4 g1).1)).1, g2, g3, g4⟩
      · exfalso
        have hne : σ1.err ≠ 0 := fun he => hlen (hA2 he).2.2.2.2
        have hq : (jnext l σ1).1.k = 0 := by
          unfold jnext jread
          rw [if_neg hne]; rfl
        unfold jgoB isSg at hb
        rw [hq] at hb
        simp at hb
    · rw [if_neg hb] at h2
      simp only [Option.some.injEq, Prod.mk.injEq] at h2
      obtain ⟨rfl, rfl⟩ := h2
      refine ⟨by rw [q1, p1], hB2, fun he => ?_⟩
      obtain ⟨c0, c1, c2, c3, c4⟩ := hA2 (q4 he)
      refine ⟨c0, gv_arr c1 c4, ?_, ?_⟩
      · rw [q2, V.sz]; omega
      · rw [q3, vbyt, kb, show (⟨#[]⟩ : ByteArray).size = 0 from rfl]; omega
theorem jmid_same (t : Lx) (b : Nat) (σ : JS) : (jmid l t b σ).2.op = σ.op ∧ (jmid l t b σ).2.nd = σ.nd ∧ ((jmid l t b σ).1.k ≠ 0 → TokF (jmid l t b σ).1) ∧ ((jmid l t b σ).2.err = 0 → σ.err = 0 ∧ t.k = 4 ∧ b ≠ 1024 ∧ (jmid l t b σ).2.sz = σ.sz + t.s.size ∧ σ.sz + t.s.size ≤ 65536) := by
  obtain ⟨h1, h2, h3⟩ := jkey_same t b σ
  obtain ⟨k1, k2, k3, k4⟩ := jcolon_same (l := l) (jkey t b σ)
  obtain ⟨n1, n2, n3, n4, n5⟩ := jnext_same (l := l) (jcolon l (jkey t b σ))
  unfold jmid
  refine ⟨by rw [n1, k1, h1], by rw [n2, k2, h2], n5, fun he => ?_⟩
  obtain ⟨a1, a2, a3, a4, a5⟩ := h3 (k4 (n4 he).1)
  exact ⟨a1, a2, a3, by rw [n3, k3, a4], a5⟩
theorem jobjL_good {el : Lx → Nat → JM} (hel : GEl l el) {n0 s0 d : Nat} : ∀ (m : Nat) (ks : List ByteArray) (es : List V) (t : Lx) (σ : JS) (v : V) (τ : JS), (t.k ≠ 0 → TokF t) → JB σ → ks.length = es.length → (σ.err = 0 → ks.length ≤ 1024 ∧ (∀ k ∈ ks, keyOk k = true) ∧ (∀ e ∈ es, GV d e) ∧ n0 + V.szL es ≤ σ.nd ∧ s0 + (kb ks + vbytL es) ≤ σ.sz) → 32 - σ.op ≤ d →
    jobjL l el m ks es t σ = some (v, τ) → τ.op = σ.op ∧ JB τ ∧ (τ.err = 0 → σ.err = 0 ∧ GV (d + 1) v ∧ n0 + v.sz ≤ τ.nd + 1 ∧ s0 + vbyt v ≤ τ.sz)
  | 0, ks, es, t, σ, v, τ, _, _, _, _, _, h => by rw [jobjL] at h; cases h
  | m + 1, ks, es, t, σ, v, τ, ht, hB, hl, hA, hd, h => by
    rw [jobjL] at h
    obtain ⟨e, σ1, h1, h2⟩ := jbnd_some h
    obtain ⟨m1, m2, m3, m4⟩ := jmid_same (l := l) t ks.length σ
    have hBm : JB (jmid l t ks.length σ).2 := ⟨by rw [m1]; exact hB.1, fun he => by
      obtain ⟨a1, a2, a3, a4, a5⟩ := m4 he
      rw [m2, a4]; exact ⟨(hB.2 a1).1, a5⟩⟩
    obtain ⟨p1, p2, p3⟩ := hel _ 0 _ e σ1 m3 hBm (by decide) h1
    obtain ⟨q1, q2, q3, q4⟩ := jgoS_same (l := l) 125 σ1
    have hB2 : JB (jgoS l 125 σ1) := ⟨by rw [q1]; exact p2.1, fun he => by rw [q2, q3]; exact p2.2 (q4 he)⟩
    have hA2 : σ1.err = 0 → σ.err = 0 ∧ ((ks ++ [t.s]).length ≤ 1024 ∧ (∀ k ∈ ks ++ [t.s], keyOk k = true) ∧ (∀ x ∈ es ++ [e], GV d x) ∧ n0 + V.szL (es ++ [e]) ≤ σ1.nd ∧ s0 + (kb (ks ++ [t.s]) + vbytL (es ++ [e])) ≤ σ1.sz) := by
      intro he
      obtain ⟨a1, a2, a3, a4, a5⟩ := p3 he
      obtain ⟨c1, c2, c3, c4, c5⟩ := m4 a1
      obtain ⟨b0, b1, b2, b3, b4⟩ := hA c1
      rw [szL_app, vbytL_app, szL_one, vbytL_one, List.length_append, List.length_singleton, kb_app, kb_one]
      rw [m2] at a4
      rw [c4] at a5
      refine ⟨c1, by omega, fun x hx => ?_, fun x hx => ?_, by omega, by omega⟩
      · rcases List.mem_append.1 hx with hx | hx
        · exact b1 x hx
        · rw [List.mem_singleton.1 hx]
          obtain ⟨g1, g2⟩ := (ht (by rw [c2]; decide)).str c2
          unfold keyOk
          rw [g2, decide_eq_true g1]; rfl
      · rcases List.mem_append.1 hx with hx | hx
        · exact b2 x hx
        · rw [List.mem_singleton.1 hx]; exact ⟨a2.g, a2.n, Nat.le_trans a2.d (by rw [m1]; exact hd)⟩
    have hl2 : (ks ++ [t.s]).length = (es ++ [e]).length := by simp [hl]
    by_cases hb : jgoB l σ1 = true
    · rw [if_pos hb] at h2
      obtain ⟨r1, r2, r3, r4, r5⟩ := jnext_same (l := l) (jgoS l 125 σ1)
      obtain ⟨f1, f2, f3⟩ := jobjL_good hel m (ks ++ [t.s]) (es ++ [e]) _ _ v τ r5 hB2.next hl2 (fun he => by
          have hc := (hA2 (q4 (r4 he).1)).2
          rw [r2, r3, q2, q3]
          exact hc) (by rw [r1, q1, p1, m1]; exact hd) h2
      refine ⟨by rw [f1, r1, q1, p1, m1], f2, fun he => ?_⟩
      obtain ⟨g1, g2, g3, g4⟩ := f3 he
      exact ⟨(hA2 (q4 (r4 g1).1)).1, g2, g3, g4⟩
    · rw [if_neg hb] at h2
      simp only [Option.some.injEq, Prod.mk.injEq] at h2
      obtain ⟨rfl, rfl⟩ := h2
      refine ⟨by rw [q1, p1, m1], hB2, fun he => ?_⟩
      rw [if_pos he]
      obtain ⟨c0, c1, c2, c3, c4, c5⟩ := hA2 (q4 he)
      obtain ⟨o1, o2, o3, o4⟩ := jputs_ok (q := fun p => keyOk p.1 = true ∧ GV d p.2) (ks ++ [t.s]) (es ++ [e]) [] hl2 ⟨List.Pairwise.nil, fun p hp => by cases hp⟩ (fun a ha b hb' _ => ⟨c2 a ha, c3 b hb'⟩)
      have z1 : V.szL (([] : JP).map Prod.snd) = 0 := rfl
      have z2 : kb (([] : JP).map Prod.fst) = 0 := rfl
      have z3 : vbytL (([] : JP).map Prod.snd) = 0 := rfl
      rw [z1] at o3
      rw [z2, z3] at o4
      have z4 : (⟨#[]⟩ : ByteArray).size = 0 := rfl
      simp only [List.length_nil, Nat.zero_add] at o2
      refine ⟨c0, gv_obj o1 (by omega), ?_, ?_⟩
      · unfold jobjV; rw [q2, V.sz]; omega
      · unfold jobjV; rw [q3, vbyt, z4]; omega
theorem jelN_good : ∀ n, GEl l (jelN l n)
  | 0 => fun t b σ v τ _ _ _ h => by rw [jelN] at h; cases h
  | n + 1 => fun t b σ v τ ht hB hb h => by
    have ih := jelN_good n
    rw [jelN] at h
    unfold jel at h
    have hz : ∀ {a e : Nat} {ρ : JS}, e ≠ 0 → ρ.op = σ.op → some (jz, jfail a e ρ) = some (v, τ) → τ.op = σ.op ∧ JB τ ∧ (τ.err = 0 → σ.err = 0 ∧ GV (32 - σ.op) v ∧ b < 1024 ∧ σ.nd + v.sz ≤ τ.nd ∧ σ.sz + vbyt v ≤ τ.sz) := by
      intro a e ρ he ho h
      simp only [Option.some.injEq, Prod.mk.injEq] at h
      obtain ⟨rfl, rfl⟩ := h
      obtain ⟨g1, g2, g3⟩ := jfail_same (a := a) he ρ
      exact ⟨g1.trans ho, ⟨by rw [g1, ho]; exact hB.1, fun h => absurd h (jfail_err he)⟩, fun h => absurd h (jfail_err he)⟩
    by_cases c1 : t.k = 0 ∨ (t.k = 1 ∧ opensB t = false)
    · rw [if_pos c1] at h; exact hz (e := 4) (by decide) rfl h
    rw [if_neg c1] at h
    by_cases c2 : opensB t = true ∧ σ.op = 32
    · rw [if_pos c2] at h; exact hz (e := 8) (by decide) rfl h
    rw [if_neg c2] at h
    by_cases c3 : σ.nd = 4096 ∨ b = 1024
    · rw [if_pos c3] at h; exact hz (e := 2) (by decide) rfl h
    rw [if_neg c3] at h
    by_cases c4 : 65536 < σ.sz + t.s.size
    · rw [if_pos c4] at h; exact hz (e := 2) (ρ := { σ with sz := σ.sz + t.s.size }) (by decide) rfl h
    rw [if_neg c4] at h
    have hk0 : t.k ≠ 0 := fun h => c1 (.inl h)
    have hT := ht hk0
    have hB1 : JB { σ with nd := σ.nd + 1, sz := σ.sz + t.s.size } := ⟨hB.1, fun he => by have := hB.2 he; show σ.nd + 1 ≤ 4096 ∧ σ.sz + t.s.size ≤ 65536; omega⟩
    have hleaf : ∀ {u : V}, GV (32 - σ.op) u → u.sz = 1 → vbyt u ≤ t.s.size → some (u, ({ σ with nd := σ.nd + 1, sz := σ.sz + t.s.size } : JS)) = some (v, τ) → τ.op = σ.op ∧ JB τ ∧ (τ.err = 0 → σ.err = 0 ∧ GV (32 - σ.op) v ∧ b < 1024 ∧ σ.nd + v.sz ≤ τ.nd ∧ σ.sz + vbyt v ≤ τ.sz) := by
      intro u hu h1 h2 h
      simp only [Option.some.injEq, Prod.mk.injEq] at h
      obtain ⟨rfl, rfl⟩ := h
      exact ⟨rfl, hB1, fun he => ⟨he, hu, by omega, by show _ ≤ σ.nd + 1; omega, by show _ ≤ σ.sz + _; omega⟩⟩
    have hz4 : (⟨#[]⟩ : ByteArray).size ≤ 4096 := by decide
    have hz5 : okS ⟨#[]⟩ = true := by decide
    have hv1 : ∀ (k n : Int) (s : ByteArray), (V.mk k n s [] []).sz = 1 ∧ vbyt (V.mk k n s [] []) = s.size := fun k n s => ⟨by rw [V.sz, V.szL], by rw [vbyt, vbytL, kb]; omega⟩
    have hv2 : ∀ (k n : Int), vbyt (V.mk k n ⟨#[]⟩ [] []) ≤ t.s.size := fun k n => by rw [(hv1 k n _).2]; exact Nat.zero_le _
    unfold jbuild at h
    by_cases k3 : t.k = 3
    · rw [if_pos k3] at h
      exact hleaf (gv_leaf rfl (by decide) hT.num hz4 hz5) (hv1 _ _ _).1 (hv2 _ _) h
    rw [if_neg k3] at h
    by_cases k4 : t.k = 4
    · rw [if_pos k4] at h
      exact hleaf (gv_leaf rfl (by decide) i64_zero (hT.str k4).1 (hT.str k4).2) (hv1 _ _ _).1 (Nat.le_of_eq (hv1 _ _ _).2) h
    rw [if_neg k4] at h
    have hnest : ∀ (m : JM), t.b = 91 ∨ t.b = 123 → (∀ (ρ : JS) (u : V) (ρ' : JS), JB ρ → ρ.op = σ.op + 1 → ρ.nd = σ.nd + 1 → ρ.sz = σ.sz + t.s.size → ρ.err = σ.err → m ρ = some (u, ρ') → ρ'.op = ρ.op ∧ JB ρ' ∧ (ρ'.err = 0 → σ.err = 0 ∧ GV (32 - ρ.op + 1) u ∧ σ.nd + 1 + u.sz ≤ ρ'.nd + 1 ∧ σ.sz + vbyt u ≤ ρ'.sz)) → jnest m { σ with nd := σ.nd + 1, sz := σ.sz + t.s.size } = some (v, τ) → τ.op = σ.op ∧ JB τ ∧ (τ.err = 0 → σ.err = 0 ∧ GV (32 - σ.op) v ∧ b < 1024 ∧ σ.nd + v.sz ≤ τ.nd ∧ σ.sz + vbyt v ≤ τ.sz) := by
      intro m hsg hm h
      have hop : σ.op < 32 := by
        have h1 : t.k = 1 := by
          rcases Nat.lt_or_ge t.k 2 with h | h
          · omega
          · exfalso
            by_cases h2 : t.k = 2
            · have := hT.word h2; omega
            · have := hT.le; omega
        have h2 : opensB t = true := by
          unfold opensB isSg
          rw [h1]
          rcases hsg with h | h <;> rw [h] <;> decide
        have := hB.1
        have h3 : σ.op ≠ 32 := fun h => c2 ⟨h2, h⟩
        omega
      unfold jnest at h
      obtain ⟨u, ρ', h1, h2⟩ := jbnd_some h
      simp only [Option.some.injEq, Prod.mk.injEq] at h2
      obtain ⟨rfl, rfl⟩ := h2
      obtain ⟨g1, g2, g3⟩ := hm { σ with op := σ.op + 1, nd := σ.nd + 1, sz := σ.sz + t.s.size } u ρ' ⟨by show σ.op + 1 ≤ 32; omega, hB1.2⟩ rfl rfl rfl rfl h1
      have g1' : ρ'.op = σ.op + 1 := g1
      refine ⟨by show ρ'.op - 1 = σ.op; omega, ⟨by show ρ'.op - 1 ≤ 32; omega, g2.2⟩, fun he => ?_⟩
      obtain ⟨a1, a2, a3, a4⟩ := g3 he
      refine ⟨a1, ⟨a2.g, a2.n, ?_⟩, by omega, by show _ ≤ ρ'.nd; omega, a4⟩
      have := a2.d
      have e : ({ σ with op := σ.op + 1, nd := σ.nd + 1, sz := σ.sz + t.s.size } : JS).op = σ.op + 1 := rfl
      rw [e] at this
      omega
    by_cases b91 : t.b = 91
    · rw [if_pos b91] at h
      refine hnest _ (.inl b91) (fun ρ u ρ' hρ o1 o2 o3 o4 hr => ?_) h
      obtain ⟨s1, s2, s3, s4, s5⟩ := jnext_same (l := l) ρ
      unfold jarr at hr
      split at hr
      · simp only [Option.some.injEq, Prod.mk.injEq] at hr
        obtain ⟨rfl, rfl⟩ := hr
        refine ⟨s1, hρ.next, fun he => ⟨by rw [← o4]; exact (s4 he).1, gv_arr (fun e he => by cases he) (by decide), ?_, ?_⟩⟩
        · rw [s2, o2, V.sz, V.szL]; omega
        · rw [s3, o3, vbyt, vbytL, kb]; show σ.sz + 0 ≤ _; omega
      · obtain ⟨f1, f2, f3⟩ := jarrL_good ih (n0 := σ.nd + 1) (s0 := σ.sz) (d := 32 - ρ.op) n [] _ _ u ρ' s5 hρ.next (by decide) (fun he => ⟨fun e he => (by cases he), by rw [s2, o2, V.szL]; omega, by rw [s3, o3, vbytL]; omega⟩) (by rw [s1]; exact Nat.le_refl _) hr
        refine ⟨by rw [f1, s1], f2, fun he => ?_⟩
        obtain ⟨g1, g2, g3, g4⟩ := f3 he
        exact ⟨by rw [← o4]; exact (s4 g1).1, g2, g3, g4⟩
    rw [if_neg b91] at h
    by_cases b123 : t.b = 123
    · rw [if_pos b123] at h
      refine hnest _ (.inr b123) (fun ρ u ρ' hρ o1 o2 o3 o4 hr => ?_) h
      obtain ⟨s1, s2, s3, s4, s5⟩ := jnext_same (l := l) ρ
      unfold jobj at hr
      split at hr
      · simp only [Option.some.injEq, Prod.mk.injEq] at hr
        obtain ⟨rfl, rfl⟩ := hr
        refine ⟨s1, hρ.next, fun he => ⟨by rw [← o4]; exact (s4 he).1, gv_obj (ps := []) ⟨List.Pairwise.nil, fun p hp => by cases hp⟩ (by decide), ?_, ?_⟩⟩
        · rw [s2, o2, V.sz, V.szL]; omega
        · rw [s3, o3, vbyt, vbytL, kb]; show σ.sz + 0 ≤ _; omega
      · obtain ⟨f1, f2, f3⟩ := jobjL_good ih (n0 := σ.nd + 1) (s0 := σ.sz) (d := 32 - ρ.op) n [] [] _ _ u ρ' s5 hρ.next rfl (fun he => ⟨by decide, fun k hk => (by cases hk), fun e he => (by cases he), by rw [s2, o2, V.szL]; omega, by rw [s3, o3, vbytL, kb]; omega⟩) (by rw [s1]; exact Nat.le_refl _) hr
        refine ⟨by rw [f1, s1], f2, fun he => ?_⟩
        obtain ⟨g1, g2, g3, g4⟩ := f3 he
        exact ⟨by rw [← o4]; exact (s4 g1).1, g2, g3, g4⟩
    rw [if_neg b123] at h
    by_cases b110 : t.b = 110
    · rw [if_pos b110] at h
      exact hleaf (gv_leaf rfl (by decide) i64_zero hz4 hz5) (hv1 _ _ _).1 (hv2 _ _) h
    rw [if_neg b110] at h
    refine hleaf ?_ (hv1 _ _ _).1 (hv2 _ _) h
    by_cases h116 : t.b = 116
    · rw [if_pos h116]; exact gv_leaf rfl (by decide) i64_zero hz4 hz5
    · rw [if_neg h116]; exact gv_leaf rfl (by decide) i64_zero hz4 hz5
end
end Go.Proofs.YtfmpdcmedaiooaaGreatDoor

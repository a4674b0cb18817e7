/- The canonical text of a valid value is parsed to this value. Nothing of the program is named here. -/
import Derived.Test.YtfmpdcmedaiooaaGreatDoorU17
set_option linter.unusedVariables false
set_option linter.unusedSimpArgs false
namespace Go.Proofs.YtfmpdcmedaiooaaGreatDoor
open Go.RowKit
section
variable {T : List UInt8}
theorem js_eq {a b c d a' c' d' : Nat} (h1 : a = a') (h2 : c = c') (h3 : d = d') : (⟨a, 0, b, c, d⟩ : JS) = ⟨a', 0, b, c', d'⟩ := by subst h1; subst h2; subst h3; rfl
theorem some_eq {v v' : V} {σ σ' : JS} (h1 : v = v') (h2 : σ = σ') : some (v, σ) = some (v', σ') := by rw [h1, h2]
theorem jel_in {arr obj : JM} {t : Lx} {b : Nat} {σ : JS} (h1 : t.k ≠ 0) (h2 : t.k = 1 → opensB t = true) (h3 : opensB t = true → σ.op ≠ 32) (h4 : σ.nd ≠ 4096) (h5 : b ≠ 1024) (h6 : σ.sz + t.s.size ≤ 65536) : jel arr obj t b σ = jbuild arr obj t { σ with nd := σ.nd + 1, sz := σ.sz + t.s.size } := by
  unfold jel
  rw [if_neg (by rintro (h | ⟨h, h'⟩); exact h1 h; rw [h2 h] at h'; cases h'), if_neg (fun h => h3 h.1 h.2), if_neg (by omega), if_neg (by omega)]
theorem opens_no {k f t b : Nat} {i : Int} {s : ByteArray} (hk : k ≠ 1) : opensB (okX k f t b i s) = false := by
  have h : (okX k f t b i s).k = k := rfl
  unfold opensB isSg
  rw [h, decide_eq_false hk]
  rfl
/-- The next token, found. -/
theorem jnext_of {σ : JS} {x : Lx} (h0 : σ.err = 0) (h : lexP T σ.at_ = x) (he : x.e = 0) (hk : x.k ≠ 0) : jnext T σ = (x, { σ with at_ := x.p }) := by
  have h1 : jread T σ = (x, { σ with at_ := x.p }) := by
    unfold jread
    rw [if_pos h0, h, if_pos he]
  unfold jnext
  rw [h1]
  simp only []
  rw [if_neg hk]
theorem jnext_sign {σ : JS} {c : UInt8} {y : List UInt8} (h0 : σ.err = 0) (hA : σ.at_ ≤ T.length) (hd : T.drop σ.at_ = c :: y) (hc : signB c = true) : jnext T σ = (okX 1 σ.at_ (σ.at_ + 1) c.toNat 0 ⟨#[]⟩, { σ with at_ := σ.at_ + 1 }) :=
  jnext_of h0 (sign_at hA hd hc) rfl (Nat.succ_ne_zero 0)
theorem isSg_ok {f t b : Nat} {c : Nat} : isSg (okX 1 f t b 0 ⟨#[]⟩) c = decide (b = c) := by
  unfold isSg
  show (decide (1 = 1) && decide (b = c)) = _
  simp
/-- Behind an element: the comma, or the closing sign. -/
theorem jgo_comma {σ : JS} {y : List UInt8} (c : Nat) (h0 : σ.err = 0) (hA : σ.at_ ≤ T.length) (hd : T.drop σ.at_ = 44 :: y) : jgoB T σ = true ∧ jgoS T c σ = { σ with at_ := σ.at_ + 1 } := by
  have h := jnext_sign h0 hA hd rfl
  unfold jgoB jgoS
  rw [h]
  have h1 : isSg (okX 1 σ.at_ (σ.at_ + 1) (44 : UInt8).toNat 0 ⟨#[]⟩) 44 = true := by rw [isSg_ok]; rfl
  simp only [h1, if_true, and_self]
theorem jgo_close {σ : JS} {y : List UInt8} {c : UInt8} (hc : c = 93 ∨ c = 125) (h0 : σ.err = 0) (hA : σ.at_ ≤ T.length) (hd : T.drop σ.at_ = c :: y) : jgoB T σ = false ∧ jgoS T c.toNat σ = { σ with at_ := σ.at_ + 1 } := by
  have h := jnext_sign h0 hA hd (by rcases hc with rfl | rfl <;> rfl)
  unfold jgoB jgoS
  rw [h]
  have h1 : isSg (okX 1 σ.at_ (σ.at_ + 1) c.toNat 0 ⟨#[]⟩) 44 = false := by rw [isSg_ok]; rcases hc with rfl | rfl <;> rfl
  have h2 : isSg (okX 1 σ.at_ (σ.at_ + 1) c.toNat 0 ⟨#[]⟩) c.toNat = true := by rw [isSg_ok]; simp
  simp only [h1, h2, if_true]
  exact ⟨trivial, if_neg (by decide)⟩
theorem szL_len : ∀ (es : List V), es.length ≤ V.szL es
  | [] => Nat.le_refl _
  | e :: es => by
    have h := szL_len es
    have h1 : 1 ≤ e.sz := by cases e; rw [V.sz]; omega
    rw [V.szL, List.length_cons]; omega
/-- A value is read back wherever its text stands. -/
def PE (T : List UInt8) (v : V) : Prop := ∀ (A : Nat) (x : List UInt8) (n b : Nat) (σ : JS), good v = true → nrg v → A ≤ T.length → T.drop A = wr v ++ x → Dl x → v.sz ≤ n → b < 1024 → σ.err = 0 → σ.op + dep v ≤ 32 → σ.nd + v.sz ≤ 4096 → σ.sz + vbyt v ≤ 65536 → σ.at_ = (ft A v).p →
  jelN T n (ft A v) b σ = some (v, ⟨A + (wr v).length, 0, σ.op, σ.nd + v.sz, σ.sz + vbyt v⟩)
theorem drop_more {A : Nat} {a y : List UInt8} (hA : A ≤ T.length) (hd : T.drop A = a ++ y) : T.drop (A + a.length) = y ∧ A + a.length ≤ T.length := by
  have h1 : (T.drop A).length = T.length - A := List.length_drop
  rw [hd, List.length_append] at h1
  exact ⟨by rw [← List.drop_drop, hd, List.drop_left], by omega⟩
theorem Dl.flat {c : UInt8} (hc : c = 93 ∨ c = 125) {α : Type} (f : α → List UInt8) (r : List α) (x : List UInt8) : Dl ((r.map f).flatMap (44 :: ·) ++ c :: x) := by
  cases r with
  | nil => exact Dl.cons (by rcases hc with rfl | rfl <;> decide)
  | cons y r => exact Dl.cons (.inl rfl)
theorem arr_run {n : Nat} : ∀ (r : List V) (e : V) (acc : List V) (A : Nat) (x : List UInt8) (m : Nat) (σ : JS), (∀ y ∈ e :: r, PE T y) → (∀ y ∈ e :: r, good y = true) → (∀ y ∈ e :: r, nrg y) → (∀ y ∈ e :: r, σ.op + dep y ≤ 32) → A ≤ T.length → T.drop A = wr e ++ ((r.map wr).flatMap (44 :: ·) ++ 93 :: x) →
    r.length < m → V.szL (e :: r) ≤ n → acc.length + (e :: r).length ≤ 1024 → σ.err = 0 → σ.nd + V.szL (e :: r) ≤ 4096 → σ.sz + vbytL (e :: r) ≤ 65536 → σ.at_ = (ft A e).p →
    jarrL T (jelN T n) m acc (ft A e) σ = some (.mk 5 0 ⟨#[]⟩ [] (acc ++ e :: r), ⟨A + (wr e).length + ((r.map wr).flatMap (44 :: ·)).length + 1, 0, σ.op, σ.nd + V.szL (e :: r), σ.sz + vbytL (e :: r)⟩)
  | r, e, acc, A, x, 0, σ, _, _, _, _, _, _, h, _, _, _, _, _, _ => absurd h (Nat.not_lt_zero _)
  | [], e, acc, A, x, m + 1, σ, hP, hg, hn, hdp, hA, hd, hm, hsz, hl, h0, hnd, hbs, hat => by
    rw [V.szL, V.szL] at hsz hnd
    rw [vbytL, vbytL] at hbs
    have hd' : T.drop A = wr e ++ 93 :: x := hd
    obtain ⟨k1, k2⟩ := drop_more hA hd'
    have hE := hP e (by simp) A (93 :: x) n acc.length σ (hg e (by simp)) (hn e (by simp)) hA hd' (Dl.cons (by decide)) (by omega) (by simp at hl; omega) h0 (hdp e (by simp)) (by omega) (by omega) hat
    obtain ⟨g1, g2⟩ := jgo_close (σ := ⟨A + (wr e).length, 0, σ.op, σ.nd + e.sz, σ.sz + vbyt e⟩) (.inl rfl) rfl k2 k1
    rw [jarrL]
    dsimp only
    rw [jbnd_of hE, g1, if_neg (by decide)]
    have g3 : jgoS T 93 ⟨A + (wr e).length, 0, σ.op, σ.nd + e.sz, σ.sz + vbyt e⟩ = _ := g2
    rw [g3, szL_one, vbytL_one]
    rfl
  | f :: r, e, acc, A, x, m + 1, σ, hP, hg, hn, hdp, hA, hd, hm, hsz, hl, h0, hnd, hbs, hat => by
    rw [V.szL] at hsz hnd
    rw [vbytL] at hbs
    obtain ⟨k1, k2⟩ := drop_more hA hd
    have hk1 : T.drop (A + (wr e).length) = 44 :: (wr f ++ ((r.map wr).flatMap (44 :: ·) ++ 93 :: x)) := by rw [k1]; simp
    have hE := hP e (by simp) A _ n acc.length σ (hg e (by simp)) (hn e (by simp)) hA hd (Dl.flat (.inl rfl) wr (f :: r) x) (by omega) (by simp at hl; omega) h0 (hdp e (by simp)) (by omega) (by omega) hat
    obtain ⟨g1, g2⟩ := jgo_comma (σ := ⟨A + (wr e).length, 0, σ.op, σ.nd + e.sz, σ.sz + vbyt e⟩) 93 rfl k2 hk1
    have hk1' : T.drop (A + (wr e).length) = [44] ++ (wr f ++ ((r.map wr).flatMap (44 :: ·) ++ 93 :: x)) := hk1
    obtain ⟨k3, k4⟩ := drop_more k2 hk1'
    have k3' : T.drop (A + (wr e).length + 1) = wr f ++ ((r.map wr).flatMap (44 :: ·) ++ 93 :: x) := k3
    have k4' : A + (wr e).length + 1 ≤ T.length := k4
    have hft := first_at (hg f (by simp)) (hn f (by simp)) k4' k3' (Dl.flat (.inl rfl) wr r x)
    obtain ⟨f1, f2⟩ := ft_p (A + (wr e).length + 1) f
    have hnx := jnext_of (T := T) (σ := ⟨A + (wr e).length + 1, 0, σ.op, σ.nd + e.sz, σ.sz + vbyt e⟩) rfl hft f1 f2
    rw [jarrL]
    dsimp only
    rw [jbnd_of hE, g1, if_pos rfl, g2, hnx]
    have ih := arr_run (n := n) r f (acc ++ [e]) (A + (wr e).length + 1) x m ⟨(ft (A + (wr e).length + 1) f).p, 0, σ.op, σ.nd + e.sz, σ.sz + vbyt e⟩ (fun y hy => hP y (by simp [hy])) (fun y hy => hg y (by simp [hy])) (fun y hy => hn y (by simp [hy])) (fun y hy => hdp y (by simp [hy])) k4' k3'
      (by simpa using hm) (by omega) (by simp at hl ⊢; omega) rfl (by show σ.nd + e.sz + _ ≤ _; omega) (by show σ.sz + vbyt e + _ ≤ _; omega) rfl
    rw [ih]
    have e1 : V.szL (e :: f :: r) = e.sz + V.szL (f :: r) := by rw [V.szL]
    have e2 : vbytL (e :: f :: r) = vbyt e + vbytL (f :: r) := by rw [vbytL]
    have e3 : (((f :: r).map wr).flatMap (44 :: ·)).length = 1 + (wr f).length + ((r.map wr).flatMap (44 :: ·)).length := by simp; omega
    refine some_eq (by simp) (js_eq (by rw [e3]; omega) (by dsimp only; omega) (by dsimp only; omega))
/-! ### Objects -/
theorem jput_last {k : ByteArray} {x : V} : ∀ {ps : JP}, (∀ p ∈ ps, scmp p.1 k < 0) → jput ps k x = ps ++ [(k, x)]
  | [], _ => rfl
  | (y, v) :: r, h => by
    rw [jput, if_pos (h (y, v) (by simp)), jput_last fun p hp => h p (by simp [hp])]
    rfl
theorem jputs_asc : ∀ (ks : List ByteArray) (es : List V) (ps : JP), ks.length = es.length → JAsc (ps ++ ks.zip es) → jputs ps ks es = ps ++ ks.zip es
  | [], [], ps, _, _ => by rw [jputs]; simp; intro _ _ _ _ h; cases h
  | [], e :: es, ps, h, _ => by simp at h
  | k :: ks, [], ps, h, _ => by simp at h
  | k :: ks, e :: es, ps, h, ha => by
    have h1 : ∀ p ∈ ps, scmp p.1 k < 0 := fun p hp => (List.pairwise_append.1 ha).2.2 p hp (k, e) (by simp)
    rw [jputs, jput_last h1, jputs_asc ks es (ps ++ [(k, e)]) (by simpa using h) (by simpa using ha)]
    simp
theorem keysOk_asc : ∀ (ks : List ByteArray) (y : ByteArray), keysOk (some y) ks = true → (∀ k ∈ ks, scmp y k < 0 ∧ keyOk k = true) ∧ ks.Pairwise (fun a b => scmp a b < 0)
  | [], y, _ => ⟨fun k hk => (by cases hk), List.Pairwise.nil⟩
  | x :: r, y, h => by
    rw [keysOk] at h
    simp only [Bool.and_eq_true, decide_eq_true_eq] at h
    obtain ⟨h1, h2⟩ := keysOk_asc r x h.2.2
    refine ⟨fun k hk => ?_, List.Pairwise.cons (fun k hk => (h1 k hk).1) h2⟩
    rcases List.mem_cons.1 hk with rfl | hk
    · exact ⟨h.2.1, h.1⟩
    · exact ⟨scmp_lt h.2.1 (h1 k hk).1, (h1 k hk).2⟩
theorem keysOk_allJ {ks : List ByteArray} (h : keysOk none ks = true) : (∀ k ∈ ks, keyOk k = true) ∧ ks.Pairwise (fun a b => scmp a b < 0) := by
  cases ks with
  | nil => exact ⟨fun k hk => (by cases hk), List.Pairwise.nil⟩
  | cons x r =>
    rw [keysOk, Bool.and_eq_true] at h
    obtain ⟨h1, h2⟩ := keysOk_asc r x h.2
    refine ⟨fun k hk => ?_, List.Pairwise.cons (fun k hk => (h1 k hk).1) h2⟩
    rcases List.mem_cons.1 hk with rfl | hk
    · exact h.1
    · exact (h1 k hk).2
theorem zip_asc : ∀ (ks : List ByteArray) (es : List V), ks.Pairwise (fun a b => scmp a b < 0) → JAsc (ks.zip es)
  | [], es, _ => by simp [JAsc]
  | k :: ks, [], _ => by simp [JAsc]
  | k :: ks, e :: es, h => by
    obtain ⟨h1, h2⟩ := List.pairwise_cons.1 h
    exact List.Pairwise.cons (fun p hp => h1 p.1 (List.of_mem_zip hp).1) (zip_asc ks es h2)
theorem key_ok {k : ByteArray} (h : keyOk k = true) : k.size ≤ 4096 ∧ okS k = true := by
  unfold keyOk at h
  simpa using h
abbrev pw (p : ByteArray × V) : List UInt8 := mem p.1.data.toList (wr p.2)
/-- The key, the colon and the value's first token. -/
theorem mid_run {A b : Nat} {k : ByteArray} {e : V} {y : List UInt8} {σ : JS} (hk : keyOk k = true) (hg : good e = true) (hn : nrg e) (hA : A ≤ T.length) (hd : T.drop A = pw (k, e) ++ y) (hy : Dl y) (h0 : σ.err = 0) (hb : b < 1024) (hs : σ.sz + k.size ≤ 65536) (hat : σ.at_ = A + (qt k.data.toList).length) :
    jmid T (okX 4 A (A + (qt k.data.toList).length) 0 0 k) b σ = (ft (A + (qt k.data.toList).length + 1) e, ⟨(ft (A + (qt k.data.toList).length + 1) e).p, 0, σ.op, σ.nd, σ.sz + k.size⟩) ∧ A + (qt k.data.toList).length + 1 ≤ T.length ∧ T.drop (A + (qt k.data.toList).length + 1) = wr e ++ y := by
  have hd1 : T.drop A = qt k.data.toList ++ (58 :: (wr e ++ y)) := by rw [hd]; unfold pw mem; simp
  obtain ⟨a1, a2⟩ := drop_more hA hd1
  have a1' : T.drop (A + (qt k.data.toList).length) = [58] ++ (wr e ++ y) := a1
  obtain ⟨b1, b2⟩ := drop_more a2 a1'
  have b1' : T.drop (A + (qt k.data.toList).length + 1) = wr e ++ y := b1
  have b2' : A + (qt k.data.toList).length + 1 ≤ T.length := b2
  refine ⟨?_, b2', b1'⟩
  have h1 : jkey (okX 4 A (A + (qt k.data.toList).length) 0 0 k) b σ = ⟨A + (qt k.data.toList).length, 0, σ.op, σ.nd, σ.sz + k.size⟩ := by
    unfold jkey
    rw [if_pos (show (okX 4 A (A + (qt k.data.toList).length) 0 0 k).k = 4 from rfl), if_neg (by omega), if_neg (show ¬ 65536 < σ.sz + (okX 4 A (A + (qt k.data.toList).length) 0 0 k).s.size by show ¬ 65536 < σ.sz + k.size; omega)]
    obtain ⟨s1, s2, s3, s4, s5⟩ := σ
    simp only at h0 hat
    subst h0; subst hat
    rfl
  have h2 : jcolon T ⟨A + (qt k.data.toList).length, 0, σ.op, σ.nd, σ.sz + k.size⟩ = ⟨A + (qt k.data.toList).length + 1, 0, σ.op, σ.nd, σ.sz + k.size⟩ := by
    have hs := jnext_sign (T := T) (σ := ⟨A + (qt k.data.toList).length, 0, σ.op, σ.nd, σ.sz + k.size⟩) rfl a2 a1 rfl
    unfold jcolon
    rw [hs]
    simp only []
    rw [isSg_ok, if_pos (by decide)]
  have hft := first_at hg hn b2' b1' hy
  obtain ⟨f1, f2⟩ := ft_p (A + (qt k.data.toList).length + 1) e
  unfold jmid
  rw [h1, h2]
  exact jnext_of (σ := ⟨A + (qt k.data.toList).length + 1, 0, σ.op, σ.nd, σ.sz + k.size⟩) rfl hft f1 f2
theorem obj_run {n : Nat} : ∀ (r : JP) (p : ByteArray × V) (ks : List ByteArray) (es : List V) (A : Nat) (x : List UInt8) (m : Nat) (σ : JS), (∀ y ∈ p :: r, PE T y.2) → (∀ y ∈ p :: r, good y.2 = true) → (∀ y ∈ p :: r, nrg y.2) → (∀ y ∈ p :: r, keyOk y.1 = true) → (∀ y ∈ p :: r, σ.op + dep y.2 ≤ 32) → A ≤ T.length → T.drop A = pw p ++ ((r.map pw).flatMap (44 :: ·) ++ 125 :: x) →
    r.length < m → V.szL ((p :: r).map Prod.snd) ≤ n → ks.length = es.length → ks.length + (p :: r).length ≤ 1024 → σ.err = 0 → σ.nd + V.szL ((p :: r).map Prod.snd) ≤ 4096 → σ.sz + (kb ((p :: r).map Prod.fst) + vbytL ((p :: r).map Prod.snd)) ≤ 65536 → σ.at_ = A + (qt p.1.data.toList).length →
    jobjL T (jelN T n) m ks es (okX 4 A (A + (qt p.1.data.toList).length) 0 0 p.1) σ = some (jobjV (jputs [] (ks ++ (p :: r).map Prod.fst) (es ++ (p :: r).map Prod.snd)), ⟨A + (pw p).length + ((r.map pw).flatMap (44 :: ·)).length + 1, 0, σ.op, σ.nd + V.szL ((p :: r).map Prod.snd), σ.sz + (kb ((p :: r).map Prod.fst) + vbytL ((p :: r).map Prod.snd))⟩)
  | r, p, ks, es, A, x, 0, σ, _, _, _, _, _, _, _, h, _, _, _, _, _, _, _ => absurd h (Nat.not_lt_zero _)
  | [], p, ks, es, A, x, m + 1, σ, hP, hg, hn, hk, hdp, hA, hd, hm, hsz, hl0, hl, h0, hnd, hbs, hat => by
    obtain ⟨k, e⟩ := p
    simp only [List.map_cons, List.map_nil, szL_one, vbytL_one, kb_one] at hsz hnd hbs ⊢
    have hd' : T.drop A = pw (k, e) ++ 125 :: x := hd
    obtain ⟨m1, m2, m3⟩ := mid_run (k := k) (e := e) (b := ks.length) (hk (k, e) (by simp)) (hg (k, e) (by simp)) (hn (k, e) (by simp)) hA hd' (Dl.cons (by decide)) h0 (by simp at hl; omega) (by omega) hat
    obtain ⟨k1, k2⟩ := drop_more m2 m3
    have hE := hP (k, e) (by simp) (A + (qt k.data.toList).length + 1) (125 :: x) n 0 ⟨(ft (A + (qt k.data.toList).length + 1) e).p, 0, σ.op, σ.nd, σ.sz + k.size⟩ (hg (k, e) (by simp)) (hn (k, e) (by simp)) m2 m3 (Dl.cons (by decide)) (by show e.sz ≤ n; omega) (by decide) rfl (hdp (k, e) (by simp)) (by show σ.nd + e.sz ≤ _; omega) (by show σ.sz + k.size + vbyt e ≤ _; omega) rfl
    have hE' : jelN T n (ft (A + (qt k.data.toList).length + 1) e) 0 ⟨(ft (A + (qt k.data.toList).length + 1) e).p, 0, σ.op, σ.nd, σ.sz + k.size⟩ = some (e, ⟨A + (qt k.data.toList).length + 1 + (wr e).length, 0, σ.op, σ.nd + e.sz, σ.sz + k.size + vbyt e⟩) := hE
    obtain ⟨g1, g2⟩ := jgo_close (σ := ⟨A + (qt k.data.toList).length + 1 + (wr e).length, 0, σ.op, σ.nd + e.sz, σ.sz + k.size + vbyt e⟩) (.inr rfl) rfl k2 k1
    have g3 : jgoS T 125 ⟨A + (qt k.data.toList).length + 1 + (wr e).length, 0, σ.op, σ.nd + e.sz, σ.sz + k.size + vbyt e⟩ = _ := g2
    rw [jobjL]
    dsimp only
    rw [m1]
    dsimp only
    rw [jbnd_of hE', g1, if_neg (by decide), g3]
    dsimp only
    rw [if_pos rfl]
    have e3 : (pw (k, e)).length = (qt k.data.toList).length + 1 + (wr e).length := by unfold pw mem; simp; omega
    refine some_eq rfl (js_eq (by rw [e3]; show _ = _ + 0 + 1; omega) (by omega) (by omega))
  | q :: r, p, ks, es, A, x, m + 1, σ, hP, hg, hn, hk, hdp, hA, hd, hm, hsz, hl0, hl, h0, hnd, hbs, hat => by
    obtain ⟨k, e⟩ := p
    have s1 : V.szL (((k, e) :: q :: r).map Prod.snd) = e.sz + V.szL ((q :: r).map Prod.snd) := by rw [List.map_cons, V.szL]
    have s2 : vbytL (((k, e) :: q :: r).map Prod.snd) = vbyt e + vbytL ((q :: r).map Prod.snd) := by rw [List.map_cons, vbytL]
    have s3 : kb (((k, e) :: q :: r).map Prod.fst) = k.size + kb ((q :: r).map Prod.fst) := by rw [List.map_cons, kb]
    rw [s1] at hsz hnd
    rw [s2, s3] at hbs
    have hD := Dl.flat (c := 125) (.inr rfl) pw (q :: r) x
    obtain ⟨m1, m2, m3⟩ := mid_run (k := k) (e := e) (b := ks.length) (hk (k, e) (by simp)) (hg (k, e) (by simp)) (hn (k, e) (by simp)) hA hd hD h0 (by simp at hl; omega) (by omega) hat
    obtain ⟨k1, k2⟩ := drop_more m2 m3
    have hE : jelN T n (ft (A + (qt k.data.toList).length + 1) e) 0 ⟨(ft (A + (qt k.data.toList).length + 1) e).p, 0, σ.op, σ.nd, σ.sz + k.size⟩ = some (e, ⟨A + (qt k.data.toList).length + 1 + (wr e).length, 0, σ.op, σ.nd + e.sz, σ.sz + k.size + vbyt e⟩) :=
      hP (k, e) (by simp) (A + (qt k.data.toList).length + 1) _ n 0 ⟨(ft (A + (qt k.data.toList).length + 1) e).p, 0, σ.op, σ.nd, σ.sz + k.size⟩ (hg (k, e) (by simp)) (hn (k, e) (by simp)) m2 m3 hD (by show e.sz ≤ n; omega) (by decide) rfl (hdp (k, e) (by simp)) (by show σ.nd + e.sz ≤ _; omega) (by show σ.sz + k.size + vbyt e ≤ _; omega) rfl
    have hk1 : T.drop (A + (qt k.data.toList).length + 1 + (wr e).length) = 44 :: (pw q ++ ((r.map pw).flatMap (44 :: ·) ++ 125 :: x)) := by rw [k1]; simp
    obtain ⟨g1, g2⟩ := jgo_comma (σ := ⟨A + (qt k.data.toList).length + 1 + (wr e).length, 0, σ.op, σ.nd + e.sz, σ.sz + k.size + vbyt e⟩) 125 rfl k2 hk1
    have hk1' : T.drop (A + (qt k.data.toList).length + 1 + (wr e).length) = [44] ++ (pw q ++ ((r.map pw).flatMap (44 :: ·) ++ 125 :: x)) := hk1
    obtain ⟨k3, k4⟩ := drop_more k2 hk1'
    have k3' : T.drop (A + (qt k.data.toList).length + 1 + (wr e).length + 1) = pw q ++ ((r.map pw).flatMap (44 :: ·) ++ 125 :: x) := k3
    have k4' : A + (qt k.data.toList).length + 1 + (wr e).length + 1 ≤ T.length := k4
    have hkq := key_ok (hk q (by simp))
    have k5 : T.drop (A + (qt k.data.toList).length + 1 + (wr e).length + 1) = qt q.1.data.toList ++ (58 :: wr q.2 ++ ((r.map pw).flatMap (44 :: ·) ++ 125 :: x)) := by rw [k3']; unfold pw mem; simp
    have hst := str_at k4' k5 hkq.1 hkq.2
    have hnx := jnext_of (T := T) (σ := ⟨A + (qt k.data.toList).length + 1 + (wr e).length + 1, 0, σ.op, σ.nd + e.sz, σ.sz + k.size + vbyt e⟩) rfl hst rfl (Nat.succ_ne_zero 3)
    have e4 : A + (qt k.data.toList).length + 1 + (wr e).length + 1 = A + (pw (k, e)).length + 1 := by unfold pw mem; simp; omega
    rw [jobjL]
    dsimp only
    rw [m1]
    dsimp only
    rw [jbnd_of hE, g1, if_pos rfl, g2, hnx]
    have ih := obj_run (n := n) r q (ks ++ [k]) (es ++ [e]) (A + (qt k.data.toList).length + 1 + (wr e).length + 1) x m ⟨A + (qt k.data.toList).length + 1 + (wr e).length + 1 + (qt q.1.data.toList).length, 0, σ.op, σ.nd + e.sz, σ.sz + k.size + vbyt e⟩ (fun y hy => hP y (by simp [hy])) (fun y hy => hg y (by simp [hy])) (fun y hy => hn y (by simp [hy])) (fun y hy => hk y (by simp [hy])) (fun y hy => hdp y (by simp [hy])) k4' k3'
      (by simpa using hm) (by omega) (by simp [hl0]) (by simp at hl ⊢; omega) rfl (by show σ.nd + e.sz + _ ≤ _; omega) (by show σ.sz + k.size + vbyt e + _ ≤ _; omega) rfl
    refine Eq.trans ih ?_
    have e3 : (((q :: r).map pw).flatMap (44 :: ·)).length = 1 + (pw q).length + ((r.map pw).flatMap (44 :: ·)).length := by simp; omega
    refine some_eq (by simp) (js_eq (by rw [e3]; omega) (by rw [s1]; dsimp only; omega) (by rw [s2, s3]; dsimp only; omega))
theorem nest_run {m : JM} {σ : JS} {v : V} {A s d : Nat} (h : m { σ with op := σ.op + 1 } = some (v, ⟨A, 0, σ.op + 1, d, s⟩)) : jnest m σ = some (v, ⟨A, 0, σ.op, d, s⟩) := by
  unfold jnest
  rw [jbnd_of h]
  rfl
theorem pe_all : ∀ v : V, PE T v := by
  refine V.ind fun k nn s ks es ih A x n b σ hg hn hA hd hx hsz hb h0 hop hnd hbs hat => ?_
  have hg' := hg
  rw [good] at hg'
  simp only [Bool.and_eq_true, decide_eq_true_eq] at hg'
  obtain ⟨hf, hs, ho, hle, hks, hgl⟩ := hg'
  have hn' := hn
  rw [nrg] at hn'
  have hngl := nrgL_iff.1 hn'.2
  have hgl' := goodL_iff.1 hgl
  have hdp : dep (.mk k nn s ks es) = if k = 5 ∨ k = 6 then depL es + 1 else 0 := by rw [dep]
  have hv : V.sz (.mk k nn s ks es) = 1 + V.szL es := by rw [V.sz]
  have hvb : vbyt (.mk k nn s ks es) = s.size + kb ks + vbytL es := by rw [vbyt]
  rw [hdp] at hop
  rw [hv] at hsz hnd
  rw [hvb] at hbs
  obtain ⟨n, rfl⟩ : ∃ n', n = n' + 1 := ⟨n - 1, by omega⟩
  obtain ⟨a0, a1, a2, a3, a4⟩ := σ
  simp only at h0 hop hnd hbs hat
  subst h0
  rw [jelN]
  rcases fits_kind hf with ⟨hk, rfl, c, d, e⟩ | ⟨rfl, c, d, e⟩ | ⟨rfl, rfl, d, e⟩ | ⟨rfl, rfl, c, d⟩ | ⟨rfl, rfl, c, d⟩
  · obtain rfl := str_nil c; obtain rfl := nil_of d; obtain rfl := nil_of e
    rw [hv, hvb]
    rcases hk with rfl | rfl | rfl
    · have e1 : ft A (.mk 0 0 ⟨#[]⟩ [] []) = okX 2 A (A + 4) 110 0 ⟨#[]⟩ := rfl
      rw [e1] at hat ⊢
      have hat' : a0 = A + 4 := hat
      rw [jel_in (Nat.succ_ne_zero 1) (fun h => absurd h (by show ¬ 2 = 1; decide)) (fun h => by rw [opens_no (by decide)] at h; cases h) (by dsimp only; omega) (by omega) (by show a4 + 0 ≤ 65536; omega)]
      rw [hat', wr_null (by decide) (by decide) (by decide) (by decide) (by decide) (by decide)]
      rfl
    · have e1 : ft A (.mk 1 0 ⟨#[]⟩ [] []) = okX 2 A (A + 5) 102 0 ⟨#[]⟩ := rfl
      rw [e1] at hat ⊢
      have hat' : a0 = A + 5 := hat
      rw [jel_in (Nat.succ_ne_zero 1) (fun h => absurd h (by show ¬ 2 = 1; decide)) (fun h => by rw [opens_no (by decide)] at h; cases h) (by dsimp only; omega) (by omega) (by show a4 + 0 ≤ 65536; omega)]
      rw [hat', wr_false]
      rfl
    · have e1 : ft A (.mk 2 0 ⟨#[]⟩ [] []) = okX 2 A (A + 4) 116 0 ⟨#[]⟩ := rfl
      rw [e1] at hat ⊢
      have hat' : a0 = A + 4 := hat
      rw [jel_in (Nat.succ_ne_zero 1) (fun h => absurd h (by show ¬ 2 = 1; decide)) (fun h => by rw [opens_no (by decide)] at h; cases h) (by dsimp only; omega) (by omega) (by show a4 + 0 ≤ 65536; omega)]
      rw [hat', wr_true]
      rfl
  · obtain rfl := str_nil c; obtain rfl := nil_of d; obtain rfl := nil_of e
    rw [hv, hvb]
    have e1 : ft A (.mk 3 nn ⟨#[]⟩ [] []) = okX 3 A (A + (numL nn).length) 0 nn ⟨#[]⟩ := rfl
    rw [e1] at hat ⊢
    have hat' : a0 = A + (numL nn).length := hat
    rw [jel_in (Nat.succ_ne_zero 2) (fun h => absurd h (by show ¬ 3 = 1; decide)) (fun h => by rw [opens_no (by decide)] at h; cases h) (by dsimp only; omega) (by omega) (by show a4 + 0 ≤ 65536; omega)]
    rw [hat', wr_num]
    rfl
  · obtain rfl := nil_of d; obtain rfl := nil_of e
    rw [hv, hvb]
    have e1 : ft A (.mk 4 0 s [] []) = okX 4 A (A + (qt s.data.toList).length) 0 0 s := rfl
    rw [e1] at hat ⊢
    have hat' : a0 = A + (qt s.data.toList).length := hat
    rw [jel_in (Nat.succ_ne_zero 3) (fun h => absurd h (by show ¬ 4 = 1; decide)) (fun h => by rw [opens_no (by decide)] at h; cases h) (by dsimp only; omega) (by omega) (by show a4 + s.size ≤ 65536; omega)]
    rw [hat', wr_str]
    rfl
  · obtain rfl := str_nil c; obtain rfl := nil_of d
    have e1 : ft A (.mk 5 0 ⟨#[]⟩ [] es) = okX 1 A (A + 1) 91 0 ⟨#[]⟩ := rfl
    rw [e1] at hat ⊢
    have hat' : a0 = A + 1 := hat
    rw [if_pos (by decide)] at hop
    have hop2 : a2 ≠ 32 := by omega
    rw [jel_in (Nat.succ_ne_zero 0) (fun _ => rfl) (fun _ => hop2) (by dsimp only; omega) (by omega) (by show a4 + 0 ≤ 65536; omega)]
    rw [wr_arr] at hd
    have hd1 : T.drop A = [91] ++ (commas (wrM es) ++ 93 :: x) := by rw [hd]; simp
    obtain ⟨k1, k2⟩ := drop_more hA hd1
    have k1' : T.drop (A + 1) = commas (wrM es) ++ 93 :: x := k1
    have k2' : A + 1 ≤ T.length := k2
    rw [show (okX 1 A (A + 1) 91 0 ⟨#[]⟩).s.size = 0 from rfl]
    have hjb : ∀ (arr obj : JM) (τ : JS), jbuild arr obj (okX 1 A (A + 1) 91 0 ⟨#[]⟩) τ = jnest arr τ := fun arr obj τ => rfl
    rw [hjb]
    rw [hv, hvb, wr_arr, hat']
    have hlen : (91 :: (commas (wrM es) ++ [93])).length = (commas (wrM es)).length + 2 := by simp
    rw [hlen]
    have hkb : kb ([] : List ByteArray) = 0 := rfl
    have hsz0 : (⟨#[]⟩ : ByteArray).size = 0 := rfl
    rw [hkb, hsz0] at *
    refine nest_run ?_
    dsimp only
    unfold jarr
    cases es with
    | nil =>
      have hs := jnext_sign (T := T) (σ := ⟨A + 1, 0, a2 + 1, a3 + 1, a4 + 0⟩) rfl k2' k1' rfl
      rw [hs]
      dsimp only
      rw [isSg_ok, if_pos (by decide)]
      refine some_eq rfl (js_eq (by show _ = _ + (0 + 2); omega) (by rw [V.szL]) (by rw [vbytL]))
    | cons e r =>
      have k3 : T.drop (A + 1) = wr e ++ ((r.map wr).flatMap (44 :: ·) ++ 93 :: x) := by rw [k1', wrM_eq, List.map_cons, commas, List.append_assoc]
      have hft := first_at (hgl' e (by simp)) (hngl e (by simp)) k2' k3 (Dl.flat (.inl rfl) wr r x)
      obtain ⟨f1, f2⟩ := ft_p (A + 1) e
      have hnx := jnext_of (T := T) (σ := ⟨A + 1, 0, a2 + 1, a3 + 1, a4 + 0⟩) rfl hft f1 f2
      have hns : isSg (ft (A + 1) e) 93 = false := by
        obtain ⟨k, n, s, ks, es⟩ := e
        unfold ft isSg
        (repeat' split) <;> rfl
      rw [hnx]
      dsimp only
      rw [if_neg (by rw [hns]; decide)]
      have hr := arr_run (T := T) (n := n) r e [] (A + 1) x n ⟨(ft (A + 1) e).p, 0, a2 + 1, a3 + 1, a4 + 0⟩ (fun y hy => ih y hy) (fun y hy => hgl' y hy) (fun y hy => hngl y hy) (fun y hy => by have := depL_le.1 (Nat.le_refl (depL (e :: r))) y hy; show a2 + 1 + dep y ≤ 32; omega) k2' k3
        (by have := szL_len (e :: r); simp at this; omega) (by omega) (by simp at hle ⊢; omega) rfl (by show a3 + 1 + _ ≤ _; omega) (by show a4 + 0 + _ ≤ _; omega) rfl
      refine Eq.trans hr ?_
      have e5 : (commas (wrM (e :: r))).length = (wr e).length + ((r.map wr).flatMap (44 :: ·)).length := by rw [wrM_eq, List.map_cons, commas, List.length_append]
      refine some_eq rfl (js_eq (by rw [e5]; omega) (by dsimp only; omega) (by dsimp only; omega))
  · obtain rfl := str_nil c
    have e1 : ft A (.mk 6 0 ⟨#[]⟩ ks es) = okX 1 A (A + 1) 123 0 ⟨#[]⟩ := rfl
    rw [e1] at hat ⊢
    have hat' : a0 = A + 1 := hat
    rw [if_pos (by decide)] at hop
    have hop2 : a2 ≠ 32 := by omega
    rw [jel_in (Nat.succ_ne_zero 0) (fun _ => rfl) (fun _ => hop2) (by dsimp only; omega) (by omega) (by show a4 + 0 ≤ 65536; omega)]
    rw [wr_obj] at hd
    have hd1 : T.drop A = [123] ++ (commas (mems ks es) ++ 125 :: x) := by rw [hd]; simp
    obtain ⟨k1, k2⟩ := drop_more hA hd1
    have k1' : T.drop (A + 1) = commas (mems ks es) ++ 125 :: x := k1
    have k2' : A + 1 ≤ T.length := k2
    rw [show (okX 1 A (A + 1) 123 0 ⟨#[]⟩).s.size = 0 from rfl]
    have hjb : ∀ (arr obj : JM) (τ : JS), jbuild arr obj (okX 1 A (A + 1) 123 0 ⟨#[]⟩) τ = jnest obj τ := fun arr obj τ => rfl
    rw [hjb]
    rw [hv, hvb, wr_obj, hat']
    have hlen : (123 :: (commas (mems ks es) ++ [125])).length = (commas (mems ks es)).length + 2 := by simp
    rw [hlen]
    have hsz0 : (⟨#[]⟩ : ByteArray).size = 0 := rfl
    rw [hsz0] at *
    refine nest_run ?_
    dsimp only
    unfold jobj
    obtain ⟨z1, z2⟩ := zip_fst ks es d
    obtain ⟨q1, q2⟩ := keysOk_allJ hks
    rw [mems_map] at k1' ⊢
    cases hzz : ks.zip es with
    | nil =>
      rw [hzz] at z1 z2 k1'
      subst z1; subst z2
      have hs := jnext_sign (T := T) (σ := ⟨A + 1, 0, a2 + 1, a3 + 1, a4 + 0⟩) rfl k2' k1' rfl
      rw [hs]
      dsimp only
      rw [isSg_ok, if_pos (by decide)]
      refine some_eq rfl (js_eq (by show _ = _ + (0 + 2); omega) (by rw [show V.szL (([] : JP).map Prod.snd) = 0 from rfl]) (by rw [show kb (([] : JP).map Prod.fst) = 0 from rfl, show vbytL (([] : JP).map Prod.snd) = 0 from rfl]))
    | cons p r =>
      rw [hzz] at z1 z2 k1'
      have hin : ∀ y ∈ p :: r, y.1 ∈ ks ∧ y.2 ∈ es := fun y hy => List.of_mem_zip (by rw [hzz]; exact hy)
      have hasc := zip_asc ks es q2
      rw [hzz] at hasc
      have hput := jputs_asc ks es [] d (by rw [hzz]; exact hasc)
      rw [hzz, List.nil_append] at hput
      have k3 : T.drop (A + 1) = pw p ++ ((r.map pw).flatMap (44 :: ·) ++ 125 :: x) := by rw [k1', List.map_cons, commas, List.append_assoc]
      have k4 : T.drop (A + 1) = qt p.1.data.toList ++ (58 :: wr p.2 ++ ((r.map pw).flatMap (44 :: ·) ++ 125 :: x)) := by rw [k3]; unfold pw mem; simp
      have hkq := key_ok (q1 p.1 (hin p (by simp)).1)
      have hst := str_at k2' k4 hkq.1 hkq.2
      have hnx := jnext_of (T := T) (σ := ⟨A + 1, 0, a2 + 1, a3 + 1, a4 + 0⟩) rfl hst rfl (Nat.succ_ne_zero 3)
      rw [hnx]
      dsimp only
      rw [if_neg (by show ¬ isSg (okX 4 (A + 1) (A + 1 + (qt p.1.data.toList).length) 0 0 p.1) 125 = true; unfold isSg; rw [decide_eq_false (show ¬ (okX 4 (A + 1) (A + 1 + (qt p.1.data.toList).length) 0 0 p.1).k = 1 by show ¬ 4 = 1; decide), Bool.false_and]; exact Bool.false_ne_true)]
      have hr := obj_run (T := T) (n := n) r p [] [] (A + 1) x n ⟨A + 1 + (qt p.1.data.toList).length, 0, a2 + 1, a3 + 1, a4 + 0⟩ (fun y hy => ih y.2 (hin y hy).2) (fun y hy => hgl' y.2 (hin y hy).2) (fun y hy => hngl y.2 (hin y hy).2) (fun y hy => q1 y.1 (hin y hy).1) (fun y hy => by have := depL_le.1 (Nat.le_refl (depL es)) y.2 (hin y hy).2; show a2 + 1 + dep y.2 ≤ 32; omega) k2' k3
        (by have := szL_len es; rw [← z2] at this; simp at this; rw [← z2] at hsz; simp at hsz; omega) (by rw [z2]; omega) rfl (by rw [← z2] at hle; simp at hle ⊢; omega) rfl (by rw [z2]; show a3 + 1 + _ ≤ _; omega) (by rw [z1, z2]; show a4 + 0 + _ ≤ _; omega) rfl
      refine Eq.trans hr ?_
      rw [List.nil_append, List.nil_append, z1, z2, hput]
      have e5 : (commas ((p :: r).map fun x => mem x.1.data.toList (wr x.2))).length = (pw p).length + ((r.map pw).flatMap (44 :: ·)).length := by rw [List.map_cons, commas, List.length_append]
      refine some_eq ?_ (js_eq (by rw [e5]; omega) (by dsimp only; omega) (by dsimp only; omega))
      unfold jobjV
      rw [z1, z2]
/-- Every node takes a byte. -/
theorem flat_ge : ∀ (l : List (List UInt8)) , (l.map List.length).sum ≤ (l.flatMap (44 :: ·)).length
  | [] => Nat.le_refl _
  | x :: r => by
    have := flat_ge r
    rw [List.map_cons, List.sum_cons, List.flatMap_cons, List.length_append, List.length_cons]; omega
theorem commas_ge' (l : List (List UInt8)) : (l.map List.length).sum ≤ (commas l).length := by
  cases l with
  | nil => exact Nat.le_refl _
  | cons x r => have := flat_ge r; rw [commas, List.map_cons, List.sum_cons, List.length_append]; omega
theorem sum_ge : ∀ (es : List V) (fs : List (List UInt8)), es.length = fs.length → (∀ (i : Nat) (e : V) (f : List UInt8), es[i]? = some e → fs[i]? = some f → e.sz ≤ f.length) → V.szL es ≤ (fs.map List.length).sum
  | [], fs, _, _ => by rw [V.szL]; exact Nat.zero_le _
  | e :: es, [], h, _ => by simp at h
  | e :: es, f :: fs, h, hh => by
    have h1 := hh 0 e f rfl rfl
    have h2 := sum_ge es fs (by simpa using h) (fun i a b ha hb => hh (i + 1) a b (by simpa using ha) (by simpa using hb))
    rw [V.szL]; simp; omega
theorem sz_le : ∀ v : V, good v = true → v.sz ≤ (wr v).length := by
  refine V.ind fun k nn s ks es ih hg => ?_
  have hg' := hg
  rw [good] at hg'
  simp only [Bool.and_eq_true, decide_eq_true_eq] at hg'
  obtain ⟨hf, hs, ho, hle, hks, hgl⟩ := hg'
  have hgl' := goodL_iff.1 hgl
  have hne := wr_ne (.mk k nn s ks es)
  have h1 : 1 ≤ (wr (.mk k nn s ks es)).length := by
    rcases Nat.eq_zero_or_pos (wr (.mk k nn s ks es)).length with h | h
    · exact absurd (List.eq_nil_of_length_eq_zero h) hne
    · exact h
  rw [V.sz]
  rcases fits_kind hf with ⟨hk, rfl, c, d, e⟩ | ⟨rfl, c, d, e⟩ | ⟨rfl, rfl, d, e⟩ | ⟨rfl, rfl, c, d⟩ | ⟨rfl, rfl, c, d⟩
  · obtain rfl := nil_of e; rw [V.szL]; omega
  · obtain rfl := nil_of e; rw [V.szL]; omega
  · obtain rfl := nil_of e; rw [V.szL]; omega
  · have h2 := commas_ge' (wrM es)
    have h3 := sum_ge es (wrM es) (wrM_len es).symm (fun i e f he hf => by
      rw [wrM_at he] at hf
      injection hf with hf
      rw [← hf]
      have hm := List.mem_of_getElem? he
      exact ih e hm (hgl' e hm))
    rw [wr_arr]
    simp; omega
  · have h2 := commas_ge' (mems ks es)
    have h3 := sum_ge es (mems ks es) (by unfold mems; rw [List.length_zipWith, wrM_len, d, Nat.min_self]) (fun i e f he hf => by
      obtain ⟨hi, -⟩ := List.getElem?_eq_some_iff.1 he
      have hki : i < ks.length := by omega
      rw [mems_at (List.getElem?_eq_getElem hki) he] at hf
      injection hf with hf
      rw [← hf]
      have hm := List.mem_of_getElem? he
      have := ih e hm (hgl' e hm)
      unfold mem
      simp; omega)
    rw [wr_obj]
    simp; omega
/-- What Parse makes of the text of a valid value. -/
theorem jparse_wr {v : V} (hg : good v = true) (hn : nrg v) (hd : dep v ≤ 32) (hs : v.sz ≤ 4096) (hb : vbyt v ≤ 65536) : jparse (wr v) = some (v, ⟨(wr v).length, 0, 0, v.sz, vbyt v⟩) := by
  have h0 : (wr v).drop 0 = wr v ++ [] := by simp
  have hft := first_at (T := wr v) (A := 0) hg hn (Nat.zero_le _) h0 Dl.nil
  obtain ⟨f1, f2⟩ := ft_p 0 v
  have hnx := jnext_of (T := wr v) (σ := js0) rfl hft f1 f2
  have hsz := sz_le v hg
  have hp := pe_all (T := wr v) v 0 [] ((wr v).length + 2) 0 ⟨(ft 0 v).p, 0, 0, 0, 0⟩ hg hn (Nat.zero_le _) h0 Dl.nil (by omega) (by decide) rfl (by show 0 + dep v ≤ 32; omega) (by show 0 + v.sz ≤ _; omega) (by show 0 + vbyt v ≤ _; omega) rfl
  have hp' : jelN (wr v) ((wr v).length + 2) (ft 0 v) 0 { js0 with at_ := (ft 0 v).p } = some (v, ⟨0 + (wr v).length, 0, 0, 0 + v.sz, 0 + vbyt v⟩) := hp
  unfold jparse
  rw [hnx]
  dsimp only
  rw [jbnd_of hp']
  refine some_eq rfl ?_
  have hl : lexP (wr v) ((0 + (wr v).length : Nat) : Int) = okX 0 (wr v).length (wr v).length 0 0 ⟨#[]⟩ := by
    rw [Nat.zero_add]
    unfold lexP
    rw [if_neg (by omega), Int.toNat_natCast, span_end (Nat.le_refl _)]
    unfold lexN
    rw [if_pos rfl]
  have hr : jread (wr v) ⟨0 + (wr v).length, 0, 0, 0 + v.sz, 0 + vbyt v⟩ = (okX 0 (wr v).length (wr v).length 0 0 ⟨#[]⟩, ⟨(wr v).length, 0, 0, 0 + v.sz, 0 + vbyt v⟩) := by
    unfold jread
    rw [if_pos rfl]
    dsimp only
    rw [hl]
    rfl
  unfold jend
  rw [hr]
  dsimp only
  rw [if_pos (show (okX 0 (wr v).length (wr v).length 0 0 ⟨#[]⟩).k = 0 from rfl)]
  exact js_eq rfl (Nat.zero_add _) (Nat.zero_add _)
end
end Go.Proofs.YtfmpdcmedaiooaaGreatDoor

/- The program's clone. -/
import Derived.Test.YtnokmlclephjgaaGrow
import Derived.Test.YtnokmlclephjgaaAgree2
import Derived.Deep.AppendLies
import Derived.Deep.RegionLaw
import Derived.Lib.SmallJoins
set_option linter.unusedVariables false
set_option linter.unusedSimpArgs false
namespace Go.Proofs.Ytnokmlclephjgaa
open Go.RowKit
/-- What clone leaves: a value of its own that reads as v; below nothing has turned. -/
def ClonePost (v : V) (w : World) (e : Ending) (w' : World) : Prop := Below w.heap.size w w' ∧ ∃ ds : List Value, e = .returned (.agg ds.toArray) ∧ Lies w' (fun b => w.heap.size ≤ b ∧ b < w'.heap.size) v ds
def CloneOk (v : V) : Prop := ∀ (cs : List Value) (w : World), good v = true → Lies w (· < w.heap.size) v cs → Calls Try.prog 50 #[.agg cs.toArray] w (ClonePost v w)
theorem good_len {k n : Int} {s : ByteArray} {ks : List ByteArray} {es : List V} (h : good (.mk k n s ks es) = true) : ks.length ≤ 1024 ∧ es.length ≤ 1024 ∧ s.size ≤ 4096 ∧ goodL es = true := by
  rw [good] at h
  simp only [Bool.and_eq_true, decide_eq_true_eq] at h
  obtain ⟨h1, h2, h3, h4, h5, h6⟩ := h
  have := fits_facts h1
  exact ⟨by omega, h4, h2, h6⟩
theorem goodL_mem {e : V} {es : List V} (h : goodL es = true) (he : e ∈ es) : good e = true := by
  induction es with
  | nil => cases he
  | cons x r ih =>
    rw [goodL, Bool.and_eq_true] at h
    rcases List.mem_cons.1 he with rfl | he
    · exact h.1
    · exact ih h.2 he
theorem own_below {w w' : World} {base : Nat} {e : TypeId} {size n : Nat} {v : Value} {xs : List Value} (h : w.ownsRow base e size v n xs) (hb : Below w.heap.size w w') : w'.ownsRow base e size v n xs :=
  h.kept (below_grown hb none) (by cases v.ownBlock <;> simp)
/-- A row of the call's own, opened. -/
theorem own_open {w : World} {base : Nat} {e : TypeId} {size n : Nat} {v : Value} {xs : List Value} (h : w.ownsRow base e size v n xs) :
    ∃ (A : Option Addr) (c : Nat), v = .slice A n c ∧ (A = none → c = 0) ∧ n ≤ c ∧ c ≤ maxLen ∧ Rs w (fun b => base ≤ b ∧ b < w.heap.size ∧ v.ownBlock = some b) A xs := by
  have h2 := h
  rcases h.2 with ⟨rfl, rfl⟩ | ⟨g, cap, cur, rfl, hb, hh, hnc, hcm, hcs, ht⟩
  · refine ⟨none, 0, rfl, fun _ => rfl, Nat.le_refl _, Nat.zero_le _, ?_⟩
    have : xs = [] := List.eq_nil_of_length_eq_zero (by have := h.1; omega)
    subst this
    exact Rs.nil _ _ _
  · refine ⟨some ⟨g, 0, none⟩, cap, rfl, fun h => by (cases h), hnc, hcm, fun j u hj => ⟨g, 0, rfl, ⟨hb, (h2.lt g rfl).2, rfl⟩, ?_⟩⟩
    have := h2.cells (g := g) rfl j u hj
    have h3 : ((⟨g, 0, none⟩ : Addr).add j) = ⟨g, 0 + j, none⟩ := by
      unfold Addr.add
      by_cases h : j = 0 <;> simp [h]
    rw [h3] at this
    exact this
/-- The state of clone after i elements. -/
structure CSt (w0 : World) (k n : Int) (s : ByteArray) (ks : List ByteArray) (es : List V) (vK vE : Value) (i : Nat) (xs : List Value) (w : World) : Prop where
  below : Below w0.heap.size w0 w
  out : Box w (w0.heap.size + 1 + 1) 27 #[.int .i64 k, .int .i64 n, .string s, vK, vE]
  res : Box w (w0.heap.size + 1) 27 #[.int .i64 0, .int .i64 0, .string ⟨#[]⟩, .slice none 0 0, .slice none 0 0]
  keys : w.ownsRow (w0.heap.size + 3) 9 1 vK ks.length (kv ks)
  elems : w.ownsRow (w0.heap.size + 3) 27 5 vE i xs
  lies : LiesL w (fun b => w0.heap.size + 3 ≤ b ∧ b < w.heap.size ∧ vE.ownBlock ≠ some b) (es.take i) xs
theorem CSt.step {w0 : World} {k n : Int} {s : ByteArray} {ks : List ByteArray} {es : List V} {vK vE : Value} {i : Nat} {xs : List Value} {w w1 w2 w3 : World} (h : CSt w0 k n s ks es vK vE i xs w)
    (hb1 : Below w.heap.size w w1) {e : V} (he : es[i]? = some e) {ds : List Value} (hl : Lies w1 (fun b => w.heap.size ≤ b ∧ b < w1.heap.size) e ds) (hb2 : Below w1.heap.size w1 w2) (hg : w2.grownBy w3 vE.ownBlock) {g c : Nat}
    (ho : w3.ownsRow (w0.heap.size + 3) 27 5 (.slice (some ⟨g, 0, none⟩) (i + 1) c) (i + 1) (xs ++ ds)) (hv : vE.ownBlock = some g ∨ g = w2.heap.size) :
    CSt w0 k n s ks es vK (.slice (some ⟨g, 0, none⟩) (i + 1) c) (i + 1) (xs ++ ds) (w3.setCell ⟨w0.heap.size + 1 + 1, 4, none⟩ (.slice (some ⟨g, 0, none⟩) (i + 1) c)) := by
  have hb12 := chain hb1 hb2
  have hOw := h.out.lt
  have hsz := hb12.size
  have hsz1 := hb1.size
  have hsz2 := hb2.size
  have hsz3 := hg.size
  have hne : ∀ x, x < w0.heap.size + 3 → some x ≠ vE.ownBlock := by
    intro x hx e
    have := (h.elems.lt x e.symm).1
    omega
  have hO2 := (h.out.below hb12 hOw).grown hg (hne _ (by omega))
  have hR2 := (h.res.below hb12 h.res.lt).grown hg (hne _ (by omega))
  have hK2 : w2.ownsRow (w0.heap.size + 3) 9 1 vK ks.length (kv ks) := own_below h.keys hb12
  have hKne : vK.ownBlock = none ∨ vK.ownBlock ≠ vE.ownBlock := by
    rcases h.keys.2 with ⟨rfl, _⟩ | ⟨g1, c1, cur1, rfl, _, hh1, _⟩
    · exact .inl rfl
    · rcases h.elems.2 with ⟨hv0, _⟩ | ⟨g2, c2, cur2, hv2, _, hh2, _⟩
      · rw [hv0]; exact .inr (by simp [Value.ownBlock])
      · rw [hv2]
        refine .inr fun e => ?_
        simp only [Value.ownBlock, Option.some.injEq] at e
        subst e
        rw [hh1] at hh2
        simp at hh2
  have hK3 := hK2.kept hg hKne
  have hB3 : Below w0.heap.size w0 w3 := ((h.below.trans (hb12.mono (by have := h.below.size; omega))).grown hg (by have := h.below.size; omega) (fun x hx => by have := (h.elems.lt x hx).1; omega))
  refine ⟨hB3.setCell (by simp; omega) _, hO2.put 4 _, hR2.far (by simp) _, ownsRow_setCell_below hK3 (by simp) _, ownsRow_setCell_below ho (by simp) _, ?_⟩
  have hsz4 : (w3.setCell ⟨w0.heap.size + 1 + 1, 4, none⟩ (.slice (some ⟨g, 0, none⟩) (i + 1) c)).heap.size = w3.heap.size := by simp [World.setCell]
  have hblk : ∀ b, w0.heap.size + 3 ≤ b → b < w2.heap.size → vE.ownBlock ≠ some b → (w3.setCell ⟨w0.heap.size + 1 + 1, 4, none⟩ (.slice (some ⟨g, 0, none⟩) (i + 1) c)).heap[b]? = w2.heap[b]? := by
    intro b h0 h1 h2
    rw [Below.heap_setCell _ _ _ _ (by simp; omega)]
    exact hg.block b h1 (fun e => h2 e.symm)
  have hnew : ∀ b, b < w2.heap.size → vE.ownBlock ≠ some b → (Value.slice (some ⟨g, 0, none⟩) (i + 1) c).ownBlock ≠ some b := by
    intro b h1 h2 e
    simp only [Value.ownBlock, Option.some.injEq] at e
    subst e
    rcases hv with hv | hv
    · exact h2 hv
    · omega
  have ht : es.take (i + 1) = es.take i ++ [e] := by rw [List.take_add_one, he]; rfl
  rw [ht]
  refine LiesL.snoc (h.lies.move ?_) (hl.move ?_)
  · rintro b ⟨h0, h1, h2⟩
    refine ⟨⟨h0, by rw [hsz4]; omega, hnew b (by omega) h2⟩, ?_⟩
    rw [hblk b h0 (by omega) h2, hb12.block b h1]
  · rintro b ⟨h0, h1⟩
    have h2 : vE.ownBlock ≠ some b := by
      intro e
      have := (h.elems.lt b e).2
      omega
    have hw0 : w0.heap.size + 3 ≤ b := by omega
    refine ⟨⟨hw0, by rw [hsz4]; omega, hnew b (by omega) h2⟩, ?_⟩
    rw [hblk b hw0 (by omega) h2, hb2.block b h1]
theorem clone_open {f : FuncId} {args : Array Value} {w W : World} {k n : Int} {s : ByteArray} {ks : List ByteArray} {es : List V} (hW : Below w.heap.size w W) (h : Calls Try.prog f args W (ClonePost (.mk k n s ks es) W)) :
    Calls Try.prog f args W fun e w' => Below w.heap.size w w' ∧ ∃ (A : Option Addr) (a : Nat) (C : Option Addr) (c : Nat), e = .returned (.agg #[.int .i64 k, .int .i64 n, .string s, .slice A ks.length a, .slice C es.length c]) ∧
      Lies w' (fun b => w.heap.size ≤ b ∧ b < w'.heap.size) (.mk k n s ks es) [.int .i64 k, .int .i64 n, .string s, .slice A ks.length a, .slice C es.length c] := by
  refine h.mono fun e w' hp => ?_
  obtain ⟨hb, ds, rfl, hl⟩ := hp
  refine ⟨chain hW hb, ?_⟩
  have hl2 := hl
  rw [Lies] at hl2
  obtain ⟨_, A, a, C, c, ys, rfl, _⟩ := hl2
  exact ⟨A, a, C, c, rfl, hl.move fun b hh => ⟨⟨by have := hW.size; omega, hh.2⟩, rfl⟩⟩
theorem new_cellsV (w : World) (cs : List Value) (t : TypeId) : ∀ j u, cs[j]? = some u → (w.alloc (.cells cs.toArray t)).cell? ((⟨w.heap.size, 0, none⟩ : Addr).add j) = some u := by
  intro j u hu
  have h3 : ((⟨w.heap.size, 0, none⟩ : Addr).add j) = ⟨w.heap.size, j, none⟩ := by
    unfold Addr.add
    by_cases h : j = 0 <;> simp [h]
  rw [h3]
  exact (Box.laid w t cs.toArray).cell (by simpa using hu)
theorem five_one (a b : Int) (c : ByteArray) (A B : Option Addr) (p q r s : Nat) : ∀ u ∈ [Value.int .i64 a, .int .i64 b, .string c, .slice A p q, .slice B r s], u.oneCell' = true := by
  intro u hu
  simp only [List.mem_cons, List.not_mem_nil, or_false] at hu
  rcases hu with rfl | rfl | rfl | rfl | rfl <;> rfl
theorem CSt.done {w0 : World} {k n : Int} {s : ByteArray} {ks : List ByteArray} {es : List V} {KA FA : Option Addr} {kc fc : Nat} {xs : List Value} {w w' : World} (h : CSt w0 k n s ks es (.slice KA ks.length kc) (.slice FA es.length fc) es.length xs w)
    (h1 : s.size ≤ 140737488355328) (h2 : ∀ x ∈ ks, x.size ≤ 140737488355328) (h3 : ks.length ≤ 140737488355328) (h4 : es.length ≤ 140737488355328)
    (hb : Below w0.heap.size w0 w') (hsz : w'.heap.size = w.heap.size) (hblk : ∀ b, w0.heap.size + 3 ≤ b → w'.heap[b]? = w.heap[b]?) :
    ClonePost (.mk k n s ks es) w0 (.returned (.agg #[.int .i64 k, .int .i64 n, .string s, .slice KA ks.length kc, .slice FA es.length fc])) w' := by
  refine ⟨hb, [.int .i64 k, .int .i64 n, .string s, .slice KA ks.length kc, .slice FA es.length fc], rfl, ?_⟩
  obtain ⟨A1, c1, e1, a1, a2, a3, a4⟩ := own_open h.keys
  obtain ⟨A2, c2, e2, b1, b2, b3, b4⟩ := own_open h.elems
  injection e1 with e1 _ e1'
  injection e2 with e2 _ e2'
  subst e1 e1' e2 e2'
  have hl := h.lies
  rw [List.take_of_length_le (Nat.le_refl _)] at hl
  rw [Lies]
  refine ⟨⟨h1, h2, h3, h4⟩, KA, kc, FA, fc, xs, rfl, a1, b1, ⟨a2, a3⟩, ⟨b2, b3⟩, a4.move ?_, b4.move ?_, hl.move ?_⟩
  · rintro b ⟨x1, x2, _⟩; exact ⟨⟨by omega, by omega⟩, hblk b x1⟩
  · rintro b ⟨x1, x2, _⟩; exact ⟨⟨by omega, by omega⟩, hblk b x1⟩
  · rintro b ⟨x1, x2, _⟩; exact ⟨⟨by omega, by omega⟩, hblk b x1⟩
theorem CSt.out6 {w0 : World} {k n : Int} {s : ByteArray} {ks : List ByteArray} {es : List V} {vK vE : Value} {i : Nat} {xs : List Value} {w w5 w6 : World} {o : Obj} (h : CSt w0 k n s ks es vK vE i xs w) (hb : Below w.heap.size w w5) (hg : (w5.alloc o).grownBy w6 vE.ownBlock) :
    Box w6 (w0.heap.size + 1 + 1) 27 #[.int .i64 k, .int .i64 n, .string s, vK, vE] :=
  ((h.out.below hb h.out.lt).alloc o).grown hg (fun e => by have := (h.elems.lt _ e.symm).1; omega)
set_option maxHeartbeats 4000000 in
set_option maxRecDepth 100000 in
theorem clone_any : ∀ v : V, CloneOk v := by
  refine V.ind fun k n s ks es ih cs w hg h => ?_
  obtain ⟨hl1, hl2, hl3, hgl⟩ := good_len hg
  have hf := lies_fit _ _ h
  rw [V.Fit] at hf
  obtain ⟨h1, h2, h3, h4, _⟩ := hf
  obtain ⟨A, a, B, bb, xs, rfl, hAn, hBn, ⟨ha1, ha2⟩, ⟨hb1, hb2⟩, hA, hB, hL⟩ := lies_open h
  have HA := Lib.hid hA
  have HAN := Lib.hid hAn
  have HB := Lib.hid hB
  have HL := Lib.hid hL
  have IH := Lib.hid ih
  have H2 := Lib.hid h2
  have HGL := Lib.hid hgl
  clear hA hB hL ih h2 h hAn hBn hg hgl
  obtain ⟨i0, hi, hz0, hz1, hz2⟩ := info_parts inf_value
  obtain ⟨i1, hi', hz0', hz1', hz2'⟩ := info_parts inf_string
  show Calls _ _ #[.agg #[.int .i64 k, .int .i64 n, .string s, .slice A ks.length a, .slice B es.length bb]] w _
  go_enter Try.func50, Try.ntmps50
  have hkl : Hid ((kv ks).length = ks.length) := Lib.hid (kv_length ks)
  go_wp2_with (at_builtin; refine wpList_append_rd _ rfl _ _ 25 rfl (w.heap.size + 3) 9 i1 (.string ⟨#[]⟩) 16 Try.underlying25 hi' hz0' hz1' hz2' rfl _ 0 [] rfl (World.ownsRow_nil _ _ _ _) w.heap.size A a (kv ks) (by rw [hkl.out]; rfl) ?c0 HAN.out ?c2 ?c3 ?c4 ?c5 ?_)
  case c0 => exact (HA.out.move fun b hb => ⟨hb, by rw [Below.heap_alloc _ _ _ (by simp; omega), Below.heap_alloc _ _ _ (by simp; omega), Below.heap_alloc _ _ _ hb]⟩).rd
  case c2 =>
    intro u hu
    simp only [kv, List.mem_map] at hu
    obtain ⟨x, _, rfl⟩ := hu
    rfl
  case c3 => rw [hkl.out]; unfold maxLen; omega
  case c4 => rw [hkl.out]; omega
  case c5 => simp
  intro vK w1 hown1 hgr1
  rw [hkl.out] at hown1
  obtain ⟨KA, kc, rfl, hkA, hkn, hkc, hkR⟩ := own_open hown1
  have HKA := Lib.hid hkA
  have HKR := Lib.hid hkR
  clear hkA hkR
  have hP1 : Box w1 w.heap.size 27 #[.int .i64 k, .int .i64 n, .string s, .slice A ks.length a, .slice B es.length bb] := (((Box.laid w _ _).alloc _).alloc _).grown hgr1 (by simp [Value.ownBlock])
  have hR1 : Box w1 (w.heap.size + 1) 27 #[.int .i64 0, .int .i64 0, .string ⟨#[]⟩, .slice none 0 0, .slice none 0 0] := by
    have h1 := Box.laid (w.alloc (.cells #[.int .i64 k, .int .i64 n, .string s, .slice A ks.length a, .slice B es.length bb] 27)) 27 #[.int .i64 0, .int .i64 0, .string ⟨#[]⟩, .slice none 0 0, .slice none 0 0]
    have e : (w.alloc (.cells #[.int .i64 k, .int .i64 n, .string s, .slice A ks.length a, .slice B es.length bb] 27)).heap.size = w.heap.size + 1 := by simp
    rw [e] at h1
    exact (h1.alloc _).grown hgr1 (by simp [Value.ownBlock])
  have hO1 : Box w1 (w.heap.size + 1 + 1) 27 #[.int .i64 k, .int .i64 n, .string s, .slice none 0 0, .slice none 0 0] := by
    have h1 := Box.laid ((w.alloc (.cells #[.int .i64 k, .int .i64 n, .string s, .slice A ks.length a, .slice B es.length bb] 27)).alloc (.cells #[.int .i64 0, .int .i64 0, .string ⟨#[]⟩, .slice none 0 0, .slice none 0 0] 27)) 27 #[.int .i64 k, .int .i64 n, .string s, .slice none 0 0, .slice none 0 0]
    have e : ((w.alloc (.cells #[.int .i64 k, .int .i64 n, .string s, .slice A ks.length a, .slice B es.length bb] 27)).alloc (.cells #[.int .i64 0, .int .i64 0, .string ⟨#[]⟩, .slice none 0 0, .slice none 0 0] 27)).heap.size = w.heap.size + 1 + 1 := by simp
    rw [e] at h1
    exact h1.grown hgr1 (by simp [Value.ownBlock])
  have hB1 : Below w.heap.size w w1 := ((((Below.refl _ _).alloc (Nat.le_refl _) _).alloc (by simp) _).alloc (by simp; omega) _).grown hgr1 (by simp; omega) (by simp [Value.ownBlock])
  have hs1 : w.heap.size + 3 ≤ w1.heap.size := by have := hgr1.size; simp at this; omega
  have HP1 := Lib.hid hP1
  have HR1 := Lib.hid hR1
  have HO1 := Lib.hid hO1
  have HB1 := Lib.hid hB1
  have HK1 := Lib.hid hown1
  clear hgr1
  have o3 := hO1.cell (i := 3) rfl
  have f3' := hO1.free 3
  have o4 : (w1.setCell ⟨w.heap.size + 1 + 1, 3, none⟩ (.slice KA ks.length kc)).cell? ⟨w.heap.size + 1 + 1, 4, none⟩ = some (.slice none 0 0) := (hO1.put 3 _).cell rfl
  have p4 : (w1.setCell ⟨w.heap.size + 1 + 1, 3, none⟩ (.slice KA ks.length kc)).cell? ⟨w.heap.size, 4, none⟩ = some (.slice B es.length bb) := (hP1.far (by simp; omega) _).cell rfl
  clear hP1 hR1 hO1 hB1 hown1
  go_wp2_with fail
  refine (grow_nil es.length _ (by omega)).mono ?_
  rintro e3 w3 ⟨hb3, vE, rfl, hown3⟩
  obtain ⟨EA, ec, rfl, _, _, _, _⟩ := own_open hown3
  have hs2 : (w1.setCell ⟨w.heap.size + 1 + 1, 3, none⟩ (.slice KA ks.length kc)).heap.size = w1.heap.size := by simp [World.setCell]
  have hO3 := (HO1.out.put 3 (.slice KA ks.length kc)).below hb3 (by rw [hs2]; omega)
  have hP3 := (HP1.out.far (p := ⟨w.heap.size + 1 + 1, 3, none⟩) (by simp; omega) (.slice KA ks.length kc)).below hb3 (by rw [hs2]; omega)
  have hR3 := (HR1.out.far (p := ⟨w.heap.size + 1 + 1, 3, none⟩) (by simp) (.slice KA ks.length kc)).below hb3 (by rw [hs2]; omega)
  have hK3 := own_below (ownsRow_setCell_below HK1.out (a := ⟨w.heap.size + 1 + 1, 3, none⟩) (by simp) (.slice KA ks.length kc)) hb3
  have hE3 : w3.ownsRow (w.heap.size + 3) 27 5 (.slice EA 0 ec) 0 [] := Go.Joins.ownsRow_le hown3 (by rw [hs2]; omega)
  have hB3 : Below w.heap.size w w3 := (HB1.out.setCell (p := ⟨w.heap.size + 1 + 1, 3, none⟩) (by simp; omega) _).trans (hb3.mono (by rw [hs2]; omega))
  have hst0 : Hid (CSt w k n s ks es (.slice KA ks.length kc) (.slice EA 0 ec) 0 [] (w3.setCell ⟨w.heap.size + 1 + 1, 4, none⟩ (.slice EA 0 ec))) := Lib.hid
    ⟨hB3.setCell (by simp; omega) _, hO3.put 4 _, hR3.far (by simp) _, ownsRow_setCell_below hK3 (by simp) _, ownsRow_setCell_below hE3 (by simp) _, by rw [List.take_zero, LiesL]⟩
  have o4' := hO3.cell (i := 4) rfl
  have f4' := hO3.free 4
  have p4' : (w3.setCell ⟨w.heap.size + 1 + 1, 4, none⟩ (.slice EA 0 ec)).cell? ⟨w.heap.size, 4, none⟩ = some (.slice B es.length bb) := (hP3.far (by simp; omega) _).cell rfl
  clear hO3 hP3 hR3 hK3 hE3 hB3 hb3 hown3 o3 f3' o4 p4 hs2
  go_wp2_with fail
  go_loopw [29] (fun t wr => ∃ (i : Nat) (EA : Option Addr) (ec : Nat) (xs : List Value), i ≤ es.length ∧ t = .int .i64 i ∧ CSt w k n s ks es (.slice KA ks.length kc) (.slice EA i ec) i xs wr) (fun t _ => es.length - (intOf t).toNat)
  case atStart => exact ⟨0, EA, ec, [], Nat.zero_le _, rfl, hst0.out⟩
  case round =>
    clear hst0 o4' f4' p4'
    obtain ⟨i, FA, fc, zs, hi1, rfl, hst⟩ := hrel
    have HST := Lib.hid hst
    have o4 := hst.out.cell (i := 4) rfl
    have f4 := hst.out.free 4
    have hOs := hst.out.lt
    clear hst
    by_cases hlt : i < es.length
    · obtain ⟨e, he⟩ : ∃ e, es[i]? = some e := ⟨_, List.getElem?_eq_getElem hlt⟩
      have hin := List.mem_of_getElem? he
      have hIH := IH.out e hin
      have hge := goodL_mem HGL.out hin
      obtain ⟨ek, en, es', eks, ees⟩ := e
      obtain ⟨bq, oq, A1, a1, C1, c1, rfl, hbq, hle, d0, d1, d2, d3, d4⟩ := elem_open HB.out HL.out he
      have q0 := below_cell HST.out.below hbq d0
      have q1 := below_cell HST.out.below hbq d1
      have q2 := below_cell HST.out.below hbq d2
      have q3 := below_cell HST.out.below hbq d3
      have q4 := below_cell HST.out.below hbq d4
      clear d0 d1 d2 d3 d4
      have HC := Lib.hid (fun W (hW : Below wr.heap.size wr W) => clone_open hW (hIH [.int .i64 ek, .int .i64 en, .string es', .slice A1 eks.length a1, .slice C1 ees.length c1] W hge (below_lies hW (below_lies HST.out.below hle))))
      have HE := Lib.hid he
      clear hIH hin hge hle he
      go_wp2_with fail
      go_region_law (first
        | (refine step_append_lies _ rfl (.tmp 34) (.tmp 37) 24 rfl (w.heap.size + 3) 27 i0 zeroVal 5 80 Try.underlying24 hi hz0 hz1 hz2 rfl (by decide) (.slice FA i fc) i zs rfl (own_below HST.out.elems (hb5.alloc hb5.size _)) ⟨w5.heap.size, 0, none⟩ 1 1 [.int .i64 ek, .int .i64 en, .string es', .slice DA eks.length da, .slice DC ees.length dc] rfl rfl (new_cellsV w5 _ _) (five_one _ _ _ _ _ _ _ _ _) (by decide) (by unfold maxLen; omega) (by omega) (by have := hb5.size; simp; omega) _ rfl ?_; intro g gc w6 ho6 hg6 hv6 _; have hO6 := HST.out.out6 hb5 hg6; have o6 := hO6.cell (i := 4) rfl; have f6 := hO6.free 4)
        | (go_simp; go_at_call 50; refine (HC.out _ (by first | exact (Below.refl _ _).alloc (Nat.le_refl _) _ | exact ((Below.refl _ _).alloc (Nat.le_refl _) _).drew)).mono ?_; rintro e5 w5 ⟨hb5, DA, da, DC, dc, rfl, hl5⟩; have o5 := below_cell hb5 hOs o4; have hOs5 : w.heap.size + 1 + 1 < w5.heap.size := Nat.lt_of_lt_of_le hOs hb5.size))
      all_goals
        have hfin := Lib.hid (HST.out.step hb5 HE.out hl5 ((Below.refl _ _).alloc (Nat.le_refl _) _) hg6 ho6 hv6)
        go_wp2_with fail
        go_roundw
        case rel => exact ⟨i + 1, _, _, _, by omega, by go_num, hfin.out⟩
        case measure => simp [intOf]; omega
    · obtain rfl : i = es.length := by omega
      have hout := Lib.hid HST.out.out
      obtain ⟨r0, r1, r2, r3, r4⟩ := box5 hout.out
      have hres := Lib.hid HST.out.res
      obtain ⟨t0, t1, t2, t3, t4⟩ := box5 hres.out
      have z0 := hres.out.free 0
      have z1 := hres.out.free 1
      have z2 := hres.out.free 2
      have z3 := hres.out.free 3
      have z4 := hres.out.free 4
      go_wp2_with fail
      refine bodyPost_ret (v := .agg #[.int .i64 k, .int .i64 n, .string s, .slice KA ks.length kc, .slice FA es.length fc]) (by simp [results, Try.results50, go_sem, t0, t1, t2, t3, t4]) rfl ?_
      refine HST.out.done h1 H2.out h3 h4 ?_ (by simp [World.setCell]) fun b hb => ?_
      · exact (((((HST.out.below.setCell (by simp) _).setCell (by simp) _).setCell (by simp) _).setCell (by simp) _).setCell (by simp) _)
      · rw [Below.heap_setCell _ _ _ _ (by simp; omega), Below.heap_setCell _ _ _ _ (by simp; omega), Below.heap_setCell _ _ _ _ (by simp; omega), Below.heap_setCell _ _ _ _ (by simp; omega), Below.heap_setCell _ _ _ _ (by simp; omega)]
end Go.Proofs.Ytnokmlclephjgaa

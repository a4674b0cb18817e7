/- The JSON parser's ordered. -/
import Derived.Test.YtfmpdcmedaiooaaGreatDoorU31
set_option linter.unusedVariables false
set_option linter.unusedSimpArgs false
namespace Go.Proofs.YtfmpdcmedaiooaaGreatDoor
open Go.RowKit Go.Sort
theorem jput_ne (k : ByteArray) (x : V) : ∀ ps : JP, jput ps k x ≠ []
  | [] => by simp [jput]
  | (y, v) :: r => by rw [jput]; split <;> simp
theorem jputs_ne : ∀ (ks : List ByteArray) (xs : List V) (ps : JP), ps ≠ [] → jputs ps ks xs ≠ []
  | [], xs, ps, h => by rw [jputs]; exact h; intro _ _ _ _ h; cases h
  | k :: ks, [], ps, h => by rw [jputs]; exact h; intro _ _ _ _ _ h2; cases h2
  | k :: ks, x :: xs, ps, h => by rw [jputs]; exact jputs_ne ks xs _ (jput_ne k x ps)
theorem jput_lenle (k : ByteArray) (x : V) : ∀ ps : JP, (jput ps k x).length ≤ ps.length + 1
  | [] => by simp [jput]
  | (y, v) :: r => by
    rw [jput]
    split
    · have := jput_lenle k x r; simp only [List.length_cons]; omega
    · split <;> simp
theorem jputs_lenle2 : ∀ (ks : List ByteArray) (xs : List V) (ps : JP), (jputs ps ks xs).length ≤ ps.length + xs.length
  | [], xs, ps => by rw [jputs]; exact Nat.le_add_right _ _; intro _ _ _ _ h; cases h
  | k :: ks, [], ps => by rw [jputs]; exact Nat.le_add_right _ _; intro _ _ _ _ _ h2; cases h2
  | k :: ks, x :: xs, ps => by
    rw [jputs]
    have h1 := jputs_lenle2 ks xs (jput ps k x)
    have h2 := jput_lenle k x ps
    simp only [List.length_cons]
    omega
theorem jputs_lenle (ks : List ByteArray) (xs : List V) : (jputs [] ks xs).length ≤ xs.length := by have := jputs_lenle2 ks xs []; simpa using this
theorem jputs_memk : ∀ (ks : List ByteArray) (xs : List V) (ps : JP) (p : ByteArray × V), p ∈ jputs ps ks xs → p ∈ ps ∨ p.1 ∈ ks
  | [], xs, ps, p, h => by rw [jputs] at h; exact .inl h; intro _ _ _ _ h; cases h
  | k :: ks, [], ps, p, h => by rw [jputs] at h; exact .inl h; intro _ _ _ _ _ h2; cases h2
  | k :: ks, x :: xs, ps, p, h => by
    rw [jputs] at h
    rcases jputs_memk ks xs _ p h with h | h
    · rcases jput_mem h with rfl | h
      · exact .inr (by simp)
      · exact .inl h
    · exact .inr (by simp [h])
def cut5 (xs : List Value) (j : Nat) : List Value := (xs.drop (j * 5)).take 5
theorem cut5_lies {w : World} {S : Nat → Prop} {es : List V} {xs : List Value} (h : LiesL w S es xs) {t : Nat} {e : V} (he : es[t]? = some e) : Lies w S e (cut5 xs t) := by
  obtain ⟨c, h1, h2⟩ := h.at_ he
  have h5 := h1.five
  have : cut5 xs t = c := by
    unfold cut5
    apply List.ext_getElem?
    intro j
    by_cases hj : j < 5
    · rw [List.getElem?_take_of_lt hj, List.getElem?_drop]
      exact h2 j hj
    · rw [List.getElem?_take_eq_none (by omega), List.getElem?_eq_none (by omega)]
  rw [this]
  exact h1
theorem elem_cut {w : World} {S : Nat → Prop} {B : Option Addr} {es : List V} {xs : List Value} (hB : Rs w S B xs) (hL : LiesL w S es xs) {t : Nat} {e : V} (he : es[t]? = some e) :
    ∃ (b o : Nat) (v0 v1 v2 v3 v4 : Value), B = some ⟨b, o, none⟩ ∧ S b ∧ cut5 xs t = [v0, v1, v2, v3, v4] ∧ Lies w S e [v0, v1, v2, v3, v4] ∧ w.cell? ⟨b, o + t * 5, none⟩ = some v0 ∧ w.cell? ⟨b, o + t * 5 + 1, none⟩ = some v1 ∧ w.cell? ⟨b, o + t * 5 + 2, none⟩ = some v2 ∧ w.cell? ⟨b, o + t * 5 + 3, none⟩ = some v3 ∧ w.cell? ⟨b, o + t * 5 + 4, none⟩ = some v4 := by
  have hc := cut5_lies hL he
  have h5 := hc.five
  have hx : ∀ k, k < 5 → (cut5 xs t)[k]? = xs[t * 5 + k]? := fun k hk => by
    unfold cut5
    rw [List.getElem?_take_of_lt hk, List.getElem?_drop]
  generalize cut5 xs t = c at *
  match c, h5 with
  | [v0, v1, v2, v3, v4], _ =>
    have x0 : xs[t * 5 + 0]? = some v0 := (hx 0 (by omega)).symm
    have x1 : xs[t * 5 + 1]? = some v1 := (hx 1 (by omega)).symm
    have x2 : xs[t * 5 + 2]? = some v2 := (hx 2 (by omega)).symm
    have x3 : xs[t * 5 + 3]? = some v3 := (hx 3 (by omega)).symm
    have x4 : xs[t * 5 + 4]? = some v4 := (hx 4 (by omega)).symm
    obtain ⟨b, o, rfl, hS, h0⟩ := hB.at_ x0
    refine ⟨b, o, v0, v1, v2, v3, v4, rfl, hS, rfl, hc, h0, ?_, ?_, ?_, ?_⟩
    · obtain ⟨b', o', e', _, h'⟩ := hB.at_ x1; injection e' with e'; injection e' with e1 e2; subst e1; subst e2; rw [Nat.add_assoc]; exact h'
    · obtain ⟨b', o', e', _, h'⟩ := hB.at_ x2; injection e' with e'; injection e' with e1 e2; subst e1; subst e2; rw [Nat.add_assoc]; exact h'
    · obtain ⟨b', o', e', _, h'⟩ := hB.at_ x3; injection e' with e'; injection e' with e1 e2; subst e1; subst e2; rw [Nat.add_assoc]; exact h'
    · obtain ⟨b', o', e', _, h'⟩ := hB.at_ x4; injection e' with e'; injection e' with e1 e2; subst e1; subst e2; rw [Nat.add_assoc]; exact h'
/-- A row of one's own that is not empty, as a row of values. -/
theorem own_rowSt {w : World} {base n : Nat} {d : Value} {xs : List Value} (h : w.ownsRow base 25 5 d n xs) (hn : 0 < n) : ∃ b c, d = .slice (some ⟨b, 0, none⟩) n c ∧ base ≤ b ∧ RowSt w b n (cut5 xs) := by
  have h2 := h
  have hlen : xs.length = n * 5 := h.1
  rcases h.2 with ⟨h0, _⟩ | ⟨g, cap, cur, rfl, hb, hh, hnc, hcm, hcs, ht⟩
  · have : xs = [] ∨ n = 0 := by
      first
        | (right; exact h0)
        | (left; exact List.eq_nil_of_length_eq_zero (by rw [h.1, h0]; omega))
        | (right; omega)
    rcases this with h3 | h3
    · rw [h3] at hlen; simp at hlen; omega
    · omega
  · refine ⟨g, cap, rfl, hb, cur, hh, fun j hj k hk => ?_⟩
    have hlt : j * 5 + k < n * 5 := by omega
    have hc := h2.cellAt (j * 5 + k) hlt
    have hx : xs[j * 5 + k]? = some (xs[j * 5 + k]'(by rw [hlen]; exact hlt)) := List.getElem?_eq_getElem (by rw [hlen]; exact hlt)
    refine ⟨xs[j * 5 + k]'(by rw [hlen]; exact hlt), ?_, ?_⟩
    · rw [hx] at hc
      rw [← hc]
      exact (cell_of_row w g (j * 5 + k) cur _ (0, 0) hh).symm
    · unfold cut5
      rw [List.getElem?_take_of_lt hk, List.getElem?_drop]
      exact hx
def numC (i : Nat) : List Value := [.int .i64 3, .int .i64 i, .string ⟨#[]⟩, .slice none 0 0, .slice none 0 0]
def zeC : List Value := [.int .i64 0, .int .i64 0, .string ⟨#[]⟩, .slice none 0 0, .slice none 0 0]
theorem numC_lies (w : World) (S : Nat → Prop) (i : Nat) : Lies w S (jnV i) (numC i) := lies_leafV 3 (i : Int) ⟨#[]⟩ (by decide)
/-- The head of the first loop. -/
structure OrA (w0 w : World) (n i : Nat) : Prop where
  below : Below w0.heap.size w0 w
  z : Box w w0.heap.size 25 #[.int .i64 0, .int .i64 0, .string ⟨#[]⟩, .slice none 0 0, .slice none 0 0]
  row : RowSt w (w0.heap.size + 1) n (fun j => if j < i then numC j else zeC)
theorem OrA.num {w0 w w1 : World} {n i : Nat} (h : OrA w0 w n i) (hi : i < n) (hb : Below w.heap.size w w1) : OrA w0 (((((w1.setCell ⟨w0.heap.size + 1, i * 5, none⟩ (.int .i64 3)).setCell ⟨w0.heap.size + 1, i * 5 + 1, none⟩ (.int .i64 i)).setCell ⟨w0.heap.size + 1, i * 5 + 2, none⟩ (.string ⟨#[]⟩)).setCell ⟨w0.heap.size + 1, i * 5 + 3, none⟩ (.slice none 0 0)).setCell ⟨w0.heap.size + 1, i * 5 + 4, none⟩ (.slice none 0 0)) n (i + 1) := by
  have h1 := chain h.below hb
  refine ⟨((((h1.setCell (by simp) _).setCell (by simp) _).setCell (by simp) _).setCell (by simp) _).setCell (by simp) _, ?_, ?_⟩
  · exact (((((h.z.below hb h.z.lt).far (by simp) _).far (by simp) _).far (by simp) _).far (by simp) _).far (by simp) _
  · refine ((h.row.next hb).put hi _ _ _ _ _).mono fun j hj => ?_
    by_cases hji : j = i
    · subst hji; rw [if_pos rfl, if_pos (Nat.lt_succ_self _)]; rfl
    · rw [if_neg hji]
      by_cases hlt : j < i
      · rw [if_pos hlt, if_pos (by omega)]
      · rw [if_neg hlt, if_neg (by omega)]
theorem members_ofJ {w : World} {B : Option Addr} {keys : List ByteArray} {l : List V} {xs : List Value} (hk : keys.length = l.length) (hR : Row w B l xs) :
    ∃ ms : List Mb, ms.length = l.length ∧ ms.map Mb.key = keys ∧ ms.map Mb.v = l ∧ ∀ i m, ms[i]? = some m → MAt w (· < w.heap.size) B i m := by
  have hex : ∀ i : Nat, ∃ m : Mb, i < l.length → keys[i]? = some m.key ∧ l[i]? = some m.v ∧ MAt w (· < w.heap.size) B i m := by
    intro i
    by_cases hi : i < l.length
    · obtain ⟨e, he⟩ : ∃ e, l[i]? = some e := ⟨_, List.getElem?_eq_getElem hi⟩
      obtain ⟨k, n, s, ks, es⟩ := e
      obtain ⟨b, o, A, a, C, c, hB, hb, hl, c0, c1, c2, c3, c4⟩ := elem_open hR.rs hR.lies he
      exact ⟨⟨keys[i]'(by omega), k, n, s, ks, es, A, a, C, c⟩, fun _ => ⟨List.getElem?_eq_getElem (by omega), he, ⟨b, o, hB, hb, c0, c1, c2, c3, c4⟩, hl⟩⟩
    · exact ⟨default, fun h => absurd h hi⟩
  obtain ⟨f, hf⟩ := Classical.axiomOfChoice hex
  refine ⟨(List.range l.length).map f, by simp, ?_, ?_, ?_⟩
  · apply List.ext_getElem?
    intro i
    by_cases hi : i < l.length
    · rw [(hf i hi).1]; simp [hi]
    · rw [List.getElem?_eq_none (by simp; omega), List.getElem?_eq_none (by omega)]
  · apply List.ext_getElem?
    intro i
    by_cases hi : i < l.length
    · rw [(hf i hi).2.1]; simp [hi]
    · rw [List.getElem?_eq_none (by simp; omega), List.getElem?_eq_none (by omega)]
  · intro i m hm
    obtain ⟨h1, h2⟩ := List.getElem?_eq_some_iff.1 hm
    have hi : i < l.length := by simpa using h1
    simp at h2
    subst h2
    exact (hf i hi).2.2
theorem keyOk_okS {k : ByteArray} (h : keyOk k = true) : okS k = true ∧ k.size ≤ 140737488355328 := by
  unfold keyOk at h
  simp at h
  constructor
  · first | exact h.1 | exact h.2 | exact h.1.1 | exact h.1.2
  · omega
theorem idx_of (n : Nat) (P : JP) (h : ∀ p ∈ P, ∃ i, i < n ∧ p.2 = jnV i) : ∃ idx : Nat → Nat, P.map Prod.snd = (List.range P.length).map (fun j => jnV (idx j)) ∧ ∀ j, j < P.length → idx j < n := by
  have hex : ∀ j : Nat, ∃ i : Nat, j < P.length → i < n ∧ (P.map Prod.snd)[j]? = some (jnV i) := by
    intro j
    by_cases hj : j < P.length
    · obtain ⟨i, h1, h2⟩ := h P[j] (List.getElem_mem hj)
      exact ⟨i, fun _ => ⟨h1, by rw [List.getElem?_map, List.getElem?_eq_getElem hj]; simp [h2]⟩⟩
    · exact ⟨0, fun h => absurd h hj⟩
  obtain ⟨f, hf⟩ := Classical.axiomOfChoice hex
  refine ⟨f, ?_, fun j hj => (hf j hj).1⟩
  apply List.ext_getElem?
  intro j
  by_cases hj : j < P.length
  · rw [(hf j hj).2, List.getElem?_map, List.getElem?_range hj]; rfl
  · rw [List.getElem?_eq_none (by simp; omega), List.getElem?_eq_none (by simp; omega)]
theorem own_type {w : World} {base : Nat} {T : TypeId} {size n : Nat} {v : Value} {xs : List Value} (h : w.ownsRow base T size v n xs) {b : Nat} (hb : v.ownBlock = some b) : ∃ cur, w.heap[b]? = some (.cells cur T) := by
  rcases h.2 with ⟨rfl, rfl⟩ | ⟨g, cap, cur, rfl, _, hh, _⟩
  · simp [Value.ownBlock] at hb
  · simp only [Value.ownBlock, Option.some.injEq] at hb
    subst hb
    exact ⟨cur, hh⟩
theorem OrA.call {w0 w : World} {n : Nat} (h : OrA w0 w n n) {ks : List ByteArray} {KA : Option Addr} {kc : Nat} (hK : Rs w0 (· < w0.heap.size) KA (kv ks)) (hl : ks.length = n) (hn : n ≤ 1024) (hk : ∀ k ∈ ks, keyOk k = true) (hkb : kb ks ≤ 65536) :
    Calls Tryz.prog 128 #[.slice KA n kc, .slice (some ⟨w0.heap.size + 1, 0, none⟩) n n] w (fun e w' => Below w.heap.size w w' ∧ ∃ d3 d4, e = .returned (.tuple #[.agg #[.int .i64 6, .int .i64 0, .string ⟨#[]⟩, d3, d4], .int .i64 0]) ∧ FreshV w' w.heap.size ((jputs [] ks (numsV n)).map Prod.fst) ((jputs [] ks (numsV n)).map Prod.snd) d3 d4) := by
  have hD : ∀ j, j < n → (fun j => if j < n then numC j else zeC) j = numC j := fun j hj => by dsimp only; rw [if_pos hj]
  have hrs := (h.row.mono (D' := numC) fun j hj => (hD j hj).symm).rs (fun j hj => rfl) (S := (· < w.heap.size)) h.row.lt
  have hls := liesL_rangeJ (w := w) (S := (· < w.heap.size)) (f := jnV) (D := numC) n (fun j hj => numC_lies _ _ j)
  have hR : Row w (some ⟨w0.heap.size + 1, 0, none⟩) (numsV n) ((List.range n).flatMap numC) := ⟨hrs, hls⟩
  obtain ⟨ms, hmn, hmk, hmv, hmat⟩ := members_ofJ (keys := ks) (by rw [numsV_len]; exact hl) hR
  obtain ⟨o1, o2, o3⟩ := nums_obj hmk hmv hl hn hk hkb
  have hlen : ms.length = n := by rw [hmn, numsV_len]
  have hc := obj_own ms KA (some ⟨w0.heap.size + 1, 0, none⟩) kc n _ w (by rw [hmk]; exact hK.move fun b hb => ⟨Nat.lt_of_lt_of_le hb h.below.size, h.below.block b hb⟩) (by rw [hmv]; exact hR) hmat (by omega)
    (fun m hm => (keyOk_okS (hk _ (hmk ▸ List.mem_map_of_mem hm))).2) (by rw [hmv, List.all_eq_true]; intro x hx; unfold numsV at hx; obtain ⟨i, -, rfl⟩ := List.mem_map.1 hx; exact jnV_ok i)
    (fun m hm => (keyOk_okS (hk _ (hmk ▸ List.mem_map_of_mem hm))).1) o1
  rw [hlen, o2, o3] at hc
  exact hc
/-- The head of the second loop. -/
structure OrB (w0 w : World) (KA : Option Addr) (kc m vb vc vx : Nat) (oks : List ByteArray) (D : Nat → List Value) : Prop where
  below : Below w0.heap.size w0 w
  z : Box w w0.heap.size 25 #[.int .i64 0, .int .i64 0, .string ⟨#[]⟩, .slice none 0 0, .slice none 0 0]
  v : Box w vx 25 #[.int .i64 6, .int .i64 0, .string ⟨#[]⟩, .slice KA oks.length kc, .slice (some ⟨vb, 0, none⟩) m vc]
  row : RowSt w vb m D
  keys : Rs w (fun b => w0.heap.size < b ∧ b < w.heap.size ∧ b ≠ vb) KA (kv oks)
  ne : vb ≠ vx
  ge : w0.heap.size < vb
  kcap : (KA = none → kc = 0) ∧ oks.length ≤ kc ∧ kc ≤ maxLen
  vcap : m ≤ vc ∧ vc ≤ maxLen
section
variable {w0 w w' : World} {KA : Option Addr} {kc m vb vc vx : Nat} {oks : List ByteArray} {D : Nat → List Value}
theorem OrB.next (h : OrB w0 w KA kc m vb vc vx oks D) (hb : Below w.heap.size w w') : OrB w0 w' KA kc m vb vc vx oks D :=
  ⟨chain h.below hb, h.z.below hb h.z.lt, h.v.below hb h.v.lt, h.row.next hb, h.keys.move fun b hb' => ⟨⟨hb'.1, Nat.lt_of_lt_of_le hb'.2.1 hb.size, hb'.2.2⟩, hb.block b hb'.2.1⟩, h.ne, h.ge, h.kcap, h.vcap⟩
theorem OrB.put (h : OrB w0 w KA kc m vb vc vx oks D) {i : Nat} (hi : i < m) (a0 a1 a2 a3 a4 : Value) : OrB w0 (((((w.setCell ⟨vb, i * 5, none⟩ a0).setCell ⟨vb, i * 5 + 1, none⟩ a1).setCell ⟨vb, i * 5 + 2, none⟩ a2).setCell ⟨vb, i * 5 + 3, none⟩ a3).setCell ⟨vb, i * 5 + 4, none⟩ a4) KA kc m vb vc vx oks (fun j => if j = i then [a0, a1, a2, a3, a4] else D j) := by
  have hge := h.ge
  have hne := h.ne
  refine ⟨((((h.below.setCell (by show _ ≤ vb; omega) _).setCell (by show _ ≤ vb; omega) _).setCell (by show _ ≤ vb; omega) _).setCell (by show _ ≤ vb; omega) _).setCell (by show _ ≤ vb; omega) _, ?_, ?_, h.row.put hi _ _ _ _ _, h.keys.move fun b hb => ⟨⟨hb.1, by simpa [World.setCell] using hb.2.1, hb.2.2⟩, ?_⟩, h.ne, h.ge, h.kcap, h.vcap⟩
  · exact ((((h.z.far (by show w0.heap.size ≠ vb; omega) _).far (by show w0.heap.size ≠ vb; omega) _).far (by show w0.heap.size ≠ vb; omega) _).far (by show w0.heap.size ≠ vb; omega) _).far (by show w0.heap.size ≠ vb; omega) _
  · exact ((((h.v.far (by show vx ≠ vb; omega) _).far (by show vx ≠ vb; omega) _).far (by show vx ≠ vb; omega) _).far (by show vx ≠ vb; omega) _).far (by show vx ≠ vb; omega) _
  · have hb3 := hb.2.2
    repeat rw [Below.heap_setCell _ _ _ _ (by exact hb3)]
theorem OrB.mono (h : OrB w0 w KA kc m vb vc vx oks D) {D' : Nat → List Value} (hD : ∀ j, j < m → D' j = D j) : OrB w0 w KA kc m vb vc vx oks D' := ⟨h.below, h.z, h.v, h.row.mono hD, h.keys, h.ne, h.ge, h.kcap, h.vcap⟩
theorem OrB.close {S : Nat → Prop} {f : Nat → V} (h : OrB w0 w KA kc m vb vc vx oks D) (hS : ∀ b, S b → b < w0.heap.size) (hD : ∀ j, j < m → Lies w0 S (f j) (D j)) (hm : m ≤ 1000000) (hk : oks.length = m) (hkz : ∀ x ∈ oks, x.size ≤ 140737488355328) :
    Below w0.heap.size w0 (((((w.setCell ⟨w0.heap.size, 0, none⟩ (.int .i64 6)).setCell ⟨w0.heap.size, 1, none⟩ (.int .i64 0)).setCell ⟨w0.heap.size, 2, none⟩ (.string ⟨#[]⟩)).setCell ⟨w0.heap.size, 3, none⟩ (.slice KA oks.length kc)).setCell ⟨w0.heap.size, 4, none⟩ (.slice (some ⟨vb, 0, none⟩) m vc)) ∧
    Lies (((((w.setCell ⟨w0.heap.size, 0, none⟩ (.int .i64 6)).setCell ⟨w0.heap.size, 1, none⟩ (.int .i64 0)).setCell ⟨w0.heap.size, 2, none⟩ (.string ⟨#[]⟩)).setCell ⟨w0.heap.size, 3, none⟩ (.slice KA oks.length kc)).setCell ⟨w0.heap.size, 4, none⟩ (.slice (some ⟨vb, 0, none⟩) m vc)) (fun b => S b ∨ Nw w0.heap.size (((((w.setCell ⟨w0.heap.size, 0, none⟩ (.int .i64 6)).setCell ⟨w0.heap.size, 1, none⟩ (.int .i64 0)).setCell ⟨w0.heap.size, 2, none⟩ (.string ⟨#[]⟩)).setCell ⟨w0.heap.size, 3, none⟩ (.slice KA oks.length kc)).setCell ⟨w0.heap.size, 4, none⟩ (.slice (some ⟨vb, 0, none⟩) m vc)).heap.size b) (.mk 6 0 ⟨#[]⟩ oks ((List.range m).map f)) [.int .i64 6, .int .i64 0, .string ⟨#[]⟩, .slice KA oks.length kc, .slice (some ⟨vb, 0, none⟩) m vc] := by
  have hset : ∀ b, b ≠ w0.heap.size → (((((w.setCell ⟨w0.heap.size, 0, none⟩ (.int .i64 6)).setCell ⟨w0.heap.size, 1, none⟩ (.int .i64 0)).setCell ⟨w0.heap.size, 2, none⟩ (.string ⟨#[]⟩)).setCell ⟨w0.heap.size, 3, none⟩ (.slice KA oks.length kc)).setCell ⟨w0.heap.size, 4, none⟩ (.slice (some ⟨vb, 0, none⟩) m vc)).heap[b]? = w.heap[b]? := fun b hb => by
    repeat rw [Below.heap_setCell _ _ _ _ (by exact hb)]
  have hsize : (((((w.setCell ⟨w0.heap.size, 0, none⟩ (.int .i64 6)).setCell ⟨w0.heap.size, 1, none⟩ (.int .i64 0)).setCell ⟨w0.heap.size, 2, none⟩ (.string ⟨#[]⟩)).setCell ⟨w0.heap.size, 3, none⟩ (.slice KA oks.length kc)).setCell ⟨w0.heap.size, 4, none⟩ (.slice (some ⟨vb, 0, none⟩) m vc)).heap.size = w.heap.size := by simp [World.setCell]
  have hge := h.ge
  have hvl := h.row.lt
  have hzl := h.z.lt
  obtain ⟨k1, k2, k3⟩ := h.kcap
  obtain ⟨v1, v2⟩ := h.vcap
  refine ⟨((((h.below.setCell (Nat.le_refl _) _).setCell (Nat.le_refl _) _).setCell (Nat.le_refl _) _).setCell (Nat.le_refl _) _).setCell (Nat.le_refl _) _, ?_⟩
  rw [hsize]
  generalize ((((w.setCell ⟨w0.heap.size, 0, none⟩ (.int .i64 6)).setCell ⟨w0.heap.size, 1, none⟩ (.int .i64 0)).setCell ⟨w0.heap.size, 2, none⟩ (.string ⟨#[]⟩)).setCell ⟨w0.heap.size, 3, none⟩ (.slice KA oks.length kc)).setCell ⟨w0.heap.size, 4, none⟩ (.slice (some ⟨vb, 0, none⟩) m vc) = W at hset ⊢
  have hr : RowSt W vb m D := h.row.same (hset vb (by omega))
  have h5 : ∀ j, j < m → (D j).length = 5 := fun j hj => (hD j hj).five
  have hL : LiesL W (fun b => S b ∨ Nw w0.heap.size w.heap.size b) ((List.range m).map f) ((List.range m).flatMap D) := liesL_rangeJ m fun j hj => (hD j hj).move fun b hb => ⟨.inl hb, by rw [hset b (by have := hS b hb; omega)]; exact h.below.block b (hS b hb)⟩
  have hml : ((List.range m).map f).length = m := by simp
  rw [Lies]
  refine ⟨⟨by decide, hkz, by omega, by rw [hml]; omega⟩, KA, kc, some ⟨vb, 0, none⟩, vc, (List.range m).flatMap D, by rw [hml], k1, (fun e => by cases e), ⟨k2, k3⟩, ⟨by rw [hml]; exact v1, v2⟩, h.keys.move fun b hb => ⟨.inr ⟨by omega, hb.2.1⟩, hset b (by omega)⟩, hr.rs h5 (.inr ⟨by omega, hvl⟩), hL⟩
/-- What Obj answered, laid into v's box. -/
theorem OrB.start {n : Nat} {i : Nat} {d3 d4 : Value} {idx : Nat → Nat} (h : OrA w0 w n i) (hb : Below w.heap.size w w') (hm : 0 < m) (hf : FreshV w' w.heap.size oks ((List.range m).map (fun j => jnV (idx j))) d3 d4) :
    ∃ KA kc vb vc zs, d3 = .slice KA oks.length kc ∧ d4 = .slice (some ⟨vb, 0, none⟩) m vc ∧ OrB w0 (w'.alloc (.cells #[.int .i64 6, .int .i64 0, .string ⟨#[]⟩, .slice KA oks.length kc, .slice (some ⟨vb, 0, none⟩) m vc] 25)) KA kc m vb vc w'.heap.size oks (cut5 zs) ∧ ∀ j, j < m → ∃ A a B b, cut5 zs j = [.int .i64 3, .int .i64 (idx j), .string ⟨#[]⟩, .slice A 0 a, .slice B 0 b] := by
  obtain ⟨KA, kc, rfl, a1, a2, a3, a4, a5, a6⟩ := own_openJ hf.keys
  obtain ⟨zs, hz, hl⟩ := hf.elems
  have hml : ((List.range m).map (fun j => jnV (idx j))).length = m := by simp
  rw [hml] at hz
  obtain ⟨vb, vc, rfl, hge, hr⟩ := own_rowSt hz hm
  obtain ⟨VA, vc2, he, b1, b2, b3, b4, b5, b6⟩ := own_openJ hz
  injection he with he1 he2 he3
  subst he1; subst he3
  have hsz := h.z.lt
  have hs := hb.size
  have hvl := hr.lt
  have hnv : ∀ b, (Value.slice KA oks.length kc).ownBlock = some b → b ≠ vb := by
    intro b hb' e
    subst e
    obtain ⟨c1, e1⟩ := own_type hf.keys hb'
    obtain ⟨c2, e2⟩ := own_type hz rfl
    rw [e1] at e2
    injection e2 with e2
    injection e2 with _ e2
    exact absurd e2 (by decide)
  refine ⟨KA, kc, vb, vc, zs, rfl, rfl, ⟨(chain h.below hb).alloc (by omega) _, (h.z.below hb h.z.lt).alloc _, Box.laid _ _ _, hr.next (below1 _ _), ?_, by omega, by omega, ⟨a3, a1, a2⟩, ⟨b1, b2⟩⟩, ?_⟩
  · intro j u hj
    obtain ⟨b, o, e, hbb, hc⟩ := a6 j u hj
    subst e
    refine ⟨b, o, rfl, ⟨by have := hbb.1; omega, by simp; have := hbb.2; omega, hnv b ?_⟩, ?_⟩
    · rfl
    · exact below_cell (below1 _ _) hbb.2 hc
  · intro j hj
    have hlj := cut5_lies hl (t := j) (e := jnV (idx j)) (by simp [hj])
    obtain ⟨A, a, B, b, ys, he, _⟩ := lies_open hlj
    exact ⟨A, a, B, b, he⟩
end
set_option maxHeartbeats 10000000 in
set_option maxRecDepth 100000 in
theorem ordered_any (ks : List ByteArray) (es : List V) (KA B : Option Addr) (kc c : Nat) (xs : List Value) (w : World) (S : Nat → Prop) (hK : Rs w (· < w.heap.size) KA (kv ks)) (hR : Rs w S B xs) (hL : LiesL w S es xs) (hS : ∀ b, S b → b < w.heap.size)
    (hlen : ks.length = es.length) (hn : es.length ≤ 1024) (h0 : 0 < es.length) (hk : ∀ k ∈ ks, keyOk k = true) (hkb : kb ks ≤ 65536) :
    Calls Tryz.prog 212 #[.slice KA ks.length kc, .slice B es.length c] w (fun e w' => Below w.heap.size w w' ∧ ∃ c0 c1 c2 c3 c4, e = .returned (.agg #[c0, c1, c2, c3, c4]) ∧ Lies w' (fun b => S b ∨ Nw w.heap.size w'.heap.size b) (jobjV (jputs [] ks es)) [c0, c1, c2, c3, c4]) := by
  obtain ⟨C, hmk, hCd⟩ := made_values es.length (by omega)
  have HK := Lib.hid hK
  have HR := Lib.hid hR
  have HL := Lib.hid hL
  have HSb := Lib.hid hS
  have HN := Lib.hid (And.intro hlen (And.intro hn (And.intro h0 (And.intro hk hkb))))
  have H0 : Hid (OrA w ((w.alloc (.cells #[.int .i64 0, .int .i64 0, .string ⟨#[]⟩, .slice none 0 0, .slice none 0 0] 25)).alloc (.cells C 25)) es.length 0) := Lib.hid ⟨((Below.refl _ _).alloc (Nat.le_refl _) _).alloc (by simp) _, (Box.laid w _ _).alloc _, C, (laid2 w _ C _ 25).2, fun j hj k hk => by
    obtain ⟨u, e1, e2⟩ := hCd j hj k hk
    exact ⟨u, e1, by dsimp only; rw [if_neg (Nat.not_lt_zero _)]; exact e2⟩⟩
  clear hK hR hL hS hk hkb hCd
  have hn1 : es.length ≤ 1024 := hn
  clear hn
  generalize hm : es.length = n at *
  have HM := Lib.hid hm
  rw [hlen]
  clear hm hlen h0
  go_enter Tryz.func212, Tryz.ntmps212
  go_wp2_with fail
  go_loopw [16] (fun t wr => ∃ i : Nat, i ≤ n ∧ t = .int .i64 i ∧ Hid (OrA w wr n i)) (fun t _ => n - (intOf t).toNat)
  case atStart => exact ⟨0, Nat.zero_le _, rfl, H0⟩
  case round =>
    clear H0
    obtain ⟨i, hi, rfl, HST⟩ := hrel
    by_cases hlt : i < n
    · have hf := HST.out.row.five hlt (a0 := .int .i64 0) (a1 := .int .i64 0) (a2 := .string ⟨#[]⟩) (a3 := .slice none 0 0) (a4 := .slice none 0 0) (by rw [if_neg (Nat.lt_irrefl _)]; rfl)
      go_wp2_with fail
      refine (num_any i _).mono ?_
      rintro e w1 ⟨rfl, hb1⟩
      have HB1 := Lib.hid hb1
      have hrw := HST.out.row.next hb1
      have hf1 := hrw.five hlt (a0 := .int .i64 0) (a1 := .int .i64 0) (a2 := .string ⟨#[]⟩) (a3 := .slice none 0 0) (a4 := .slice none 0 0) (by rw [if_neg (Nat.lt_irrefl _)]; rfl)
      obtain ⟨y0, y1, y2, y3, y4⟩ := hf1
      have z0 := hrw.free (i * 5)
      have z1 := hrw.free (i * 5 + 1)
      have z2 := hrw.free (i * 5 + 2)
      have z3 := hrw.free (i * 5 + 3)
      have z4 := hrw.free (i * 5 + 4)
      clear hb1 hrw hf
      go_wp2_with fail
      go_roundw
      case rel => exact ⟨i + 1, by omega, by go_num, Lib.hid (HST.out.num hlt HB1.out)⟩
      case measure => simp [intOf]; omega
    · obtain rfl : i = n := by omega
      go_wp2_with fail
      obtain ⟨q1, q2, q3, q4, q5⟩ := HN.out
      refine (HST.out.call HK.out q1 q2 q4 q5).mono ?_
      rintro e w2 ⟨hb2, d3, d4, rfl, hf⟩
      obtain ⟨idx, hix, hidx⟩ := idx_of i (jputs [] ks (numsV i)) (fun p hp => by
        rcases jputs_mem _ _ _ _ hp with h | h
        · cases h
        · unfold numsV at h
          obtain ⟨t, ht, e⟩ := List.mem_map.1 h
          exact ⟨t, List.mem_range.1 ht, e.symm⟩)
      rw [hix] at hf
      obtain ⟨KB, kbc, vb, vc, zs, rfl, rfl, hOB, hzs⟩ := OrB.start HST.out hb2 (by
        apply List.length_pos_iff.2
        have hk0 : 0 < ks.length := by omega
        cases ks with
        | nil => cases hk0
        | cons k ks =>
          rw [show numsV i = jnV 0 :: (numsV i).tail by
            unfold numsV; cases i with
            | zero => omega
            | succ i => rw [List.range_succ_eq_map]; rfl]
          rw [jputs]
          exact jputs_ne _ _ _ (jput_ne _ _ _)) hf
      have HOB := Lib.hid hOB
      have HZS := Lib.hid hzs
      have HIX := Lib.hid hix
      have HID := Lib.hid hidx
      have hmn : (jputs [] ks (numsV i)).length = ((jputs [] ks (numsV i)).map Prod.fst).length := by simp
      have HMI : Hid ((jputs [] ks (numsV i)).length ≤ 1000000) := Lib.hid (by have := jputs_lenle ks (numsV i); rw [numsV_len] at this; omega)
      generalize hm : (jputs [] ks (numsV i)).length = m at *
      have HMM := Lib.hid hm
      clear hOB hzs hix hidx hf hb2 hm q1 q3 q4 q5
      have HKZ : Hid (∀ x ∈ (jputs [] ks (numsV i)).map Prod.fst, x.size ≤ 140737488355328) := Lib.hid (fun x hx => by
        obtain ⟨p, hp, rfl⟩ := List.mem_map.1 hx
        rcases jputs_memk _ _ _ _ hp with h | h
        · cases h
        · exact (keyOk_okS (HN.out.2.2.2.1 _ h)).2)
      have HOK : Hid ((jputs [] ks (numsV i)).map Prod.fst = (jputs [] ks (numsV i)).map Prod.fst) := Lib.hid rfl
      generalize hok : (jputs [] ks (numsV i)).map Prod.fst = oks at HOB hmn HKZ
      have HOE := Lib.hid hok
      have HMN := Lib.hid hmn
      clear HOK hok hmn
      have hmi : m ≤ 1000000 := HMI.out
      go_wp2_with fail
      go_loopw [34] (fun t wr => ∃ j : Nat, j ≤ m ∧ t = .int .i64 j ∧ Hid (OrB w wr KB kbc m vb vc w2.heap.size oks (fun t => if t < j then cut5 xs (idx t) else cut5 zs t))) (fun t _ => m - (intOf t).toNat)
      case atStart => exact ⟨0, Nat.zero_le _, rfl, Lib.hid (HOB.out.mono fun j _ => by rw [if_neg (Nat.not_lt_zero _)])⟩
      case round =>
        clear HOB HST
        obtain ⟨j, hj, rfl, HST⟩ := hrel
        by_cases hlt2 : j < m
        · obtain ⟨A3, a3, B3, b3, hz3⟩ := HZS.out j hlt2
          obtain ⟨y0, y1, y2, y3, y4⟩ := HST.out.row.five hlt2 (by rw [if_neg (Nat.lt_irrefl _)]; exact hz3)
          obtain ⟨q0, q1, q2, q3, q4⟩ := box5 HST.out.v
          have HX := Lib.hid (HST.out.next (below1 wr (.cells #[.int .i64 3, .int .i64 (idx j), .string ⟨#[]⟩, .slice A3 0 a3, .slice B3 0 b3] 25)))
          have HN1 := Lib.hid (Box.laid wr 25 #[.int .i64 3, .int .i64 (idx j), .string ⟨#[]⟩, .slice A3 0 a3, .slice B3 0 b3])
          go_wp2_with fail
          generalize hwn : wr.alloc (.cells #[.int .i64 3, .int .i64 (idx j), .string ⟨#[]⟩, .slice A3 0 a3, .slice B3 0 b3] 25) = wn at HX HN1 ⊢
          clear hwn y0 y1 y2 y3 y4 q0 q1 q2 q3 q4
          have HY := Lib.hid (HX.out.next (Below.refl _ _).drew)
          have HN2 := Lib.hid (HN1.out.below (Below.refl _ _).drew HN1.out.lt)
          obtain ⟨y0, y1, y2, y3, y4⟩ := box5 HN2.out
          obtain ⟨q0, q1, q2, q3, q4⟩ := box5 HY.out.v
          obtain ⟨p0, p1, p2, p3, p4⟩ := HY.out.row.five hlt2 (by rw [if_neg (Nat.lt_irrefl _)]; exact hz3)
          obtain ⟨pp0, pp1, pp2, pp3, pp4⟩ := HX.out.row.five hlt2 (by rw [if_neg (Nat.lt_irrefl _)]; exact hz3)
          clear hz3
          have hij := HID.out j hlt2
          have HYR := HY.out.below
          obtain ⟨eb, eo, v0, v1, v2, v3, v4, rfl, heS, hcut, hle, c0, c1, c2, c3, c4⟩ := elem_cut (HR.out.move (S' := S) fun b hb => ⟨hb, HYR.block b (HSb.out b hb)⟩) (HL.out.move fun b hb => ⟨hb, HYR.block b (HSb.out b hb)⟩) (t := idx j) (List.getElem?_eq_getElem (by rw [HM.out]; exact hij))
          have z0 := HY.out.row.free (j * 5)
          have z1 := HY.out.row.free (j * 5 + 1)
          have z2 := HY.out.row.free (j * 5 + 2)
          have z3 := HY.out.row.free (j * 5 + 3)
          have z4 := HY.out.row.free (j * 5 + 4)
          have zz0 := HX.out.row.free (j * 5)
          have zz1 := HX.out.row.free (j * 5 + 1)
          have zz2 := HX.out.row.free (j * 5 + 2)
          have zz3 := HX.out.row.free (j * 5 + 3)
          have zz4 := HX.out.row.free (j * 5 + 4)
          obtain ⟨ek, en, et, eA, ena, eca, eB, enb, ecb, rfl, rfl, rfl, rfl, rfl⟩ := lies_five hle
          have HCUT := Lib.hid hcut
          clear hle hcut HYR
          go_region
          go_wp2_with fail
          go_roundw
          case rel =>
            refine ⟨j + 1, by omega, by go_num, Lib.hid ((HY.out.put hlt2 _ _ _ _ _).mono fun t ht => ?_)⟩
            by_cases htj : t = j
            · subst htj; rw [if_pos (Nat.lt_succ_self _), if_pos rfl]; exact HCUT.out
            · rw [if_neg htj]
              by_cases hlt3 : t < j
              · rw [if_pos hlt3, if_pos (by omega)]
              · rw [if_neg hlt3, if_neg (by omega)]
          case measure => simp [intOf]; omega
        · obtain rfl : j = m := by omega
          obtain ⟨q0, q1, q2, q3, q4⟩ := box5 HST.out.v
          obtain ⟨y0, y1, y2, y3, y4⟩ := box5 HST.out.z
          have z0 := HST.out.z.free 0
          have z1 := HST.out.z.free 1
          have z2 := HST.out.z.free 2
          have z3 := HST.out.z.free 3
          have z4 := HST.out.z.free 4
          go_wp2_with fail
          refine post5v Tryz.results212 rfl rfl (put5x HST.out.z _ _ _ _ _) ?_
          have hcl := OrB.close (S := S) (f := fun t => (es[idx t]?).getD jz) HST.out HSb.out (fun t ht => by
            rw [if_pos ht]
            have hit := HID.out t ht
            have he : es[idx t]? = some (es[idx t]'(by rw [HM.out]; exact hit)) := List.getElem?_eq_getElem (by rw [HM.out]; exact hit)
            rw [he]
            exact cut5_lies HL.out he) hmi HMN.out.symm HKZ.out
          have hobj : jobjV (jputs [] ks es) = .mk 6 0 ⟨#[]⟩ oks ((List.range j).map fun t => (es[idx t]?).getD jz) := by
            rw [jputs_nums, HM.out]
            unfold jobjV
            have e1 : ((jputs [] ks (numsV i)).map fun p => (p.1, atV es p.2)).map Prod.fst = oks := by rw [List.map_map]; exact HOE.out
            have e2 : ((jputs [] ks (numsV i)).map fun p => (p.1, atV es p.2)).map Prod.snd = ((jputs [] ks (numsV i)).map Prod.snd).map (atV es) := by rw [List.map_map, List.map_map]; rfl
            rw [e1, e2, HIX.out, List.map_map]
            rfl
          rw [hobj]
          exact ⟨hcl.1, _, _, _, _, _, rfl, hcl.2⟩
end Go.Proofs.YtfmpdcmedaiooaaGreatDoor

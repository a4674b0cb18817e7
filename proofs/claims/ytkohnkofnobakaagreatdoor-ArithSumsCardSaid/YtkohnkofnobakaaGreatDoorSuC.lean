/- The laws' sanity check: the chapter's second example. keep.Count and keep.Small: what a value takes. keep.Small: some answer, and nothing that was there has turned. Package arith, plain: what the sum of two values is. Nothing of the program is named here. slices.Grow and slices.Concat of two slices, of strings and of values. Package arith: boxes of arguments, what a call hands back. arith: sums, differences, products, quotients and remainders of numbers; negatives; messages. arith.Binary: which function an operator calls. renew and add of two values, kind by kind. union of two objects, over its callees' contracts. The sum of two valid values: renew, add and Binary at "+", whatever their kinds are. strings.Split: the library's contract, laid at this program. arith.Split at a separator that is not empty; the laws' sanity check. Binary at values that are not valid; "+" at all values; ArithSums answers true for every three values. -/
import Derived.Test.YtkohnkofnobakaaGreatDoorObj2
import Derived.Test.YtkohnkofnobakaaGreatDoorRows
import Derived.Test.YtkohnkofnobakaaGreatDoorVal
import Derived.Lib.Hide
import Derived.WalkSpells
import Derived.WalkLawsBesides
import Derived.Outline
import Derived.Test.YtkohnkofnobakaaGreatDoorObjC
import Derived.Test.YtkohnkofnobakaaGreatDoorRMake
import Derived.Test.YtkohnkofnobakaaGreatDoorBox
import Derived.Lib.AppendZerosOnto
import Derived.Test.YtkohnkofnobakaaGreatDoorMake2
import Derived.Test.YtkohnkofnobakaaGreatDoorCmp2
import Derived.Deep.RegionHeld3
import Derived.Test.YtkohnkofnobakaaGreatDoorObjP
import Derived.Shelf.LaysM
import Derived.Shelf.Strings.Split
import Derived.Ground.NamesProg
import Derived.Test.YtkohnkofnobakaaGreatDoorStrs
import Derived.Test.YtkohnkofnobakaaGreatDoorSame
set_option linter.unusedVariables false
set_option linter.unusedSimpArgs false
namespace Go.Proofs.YtkohnkofnobakaaGreatDoor
open Go.RowKit Go.Sort
theorem rs_box {w : World} {g : Nat} {t : TypeId} {cs : List Value} {S : Nat → Prop} (h : Box w g t cs.toArray) (hg : S g) : Rs w S (some ⟨g, 0, none⟩) cs := fun j u hj => ⟨g, 0, rfl, hg, by rw [Nat.zero_add]; exact h.cell (by simpa using hj)⟩
end Go.Proofs.YtkohnkofnobakaaGreatDoor
namespace Go.Proofs.YtkohnkofnobakaaGreatDoor
open Go.RowKit
mutual
/-- What Count counts: at most a little more than m. -/
def cnt : V → Int → Int
  | .mk _ _ s ks es, m => cntL es m (cntK ks m (1 + s.size))
def cntL : List V → Int → Int → Int
  | [], _, n => n
  | e :: es, m, n => if n ≤ m then cntL es m (n + cnt e (m - n)) else n
def cntK : List ByteArray → Int → Int → Int
  | [], _, n => n
  | x :: ks, m, n => if n ≤ m then cntK ks m (n + (1 + x.size)) else n
end
theorem cntK_drop {ks : List ByteArray} {i : Nat} {x : ByteArray} (hi : ks[i]? = some x) {m q : Int} (hq : q ≤ m) : cntK (ks.drop i) m q = cntK (ks.drop (i + 1)) m (q + (1 + x.size)) := by
  obtain ⟨hl, rfl⟩ := List.getElem?_eq_some_iff.1 hi
  rw [List.drop_eq_getElem_cons hl, cntK, if_pos hq]
theorem cntK_end {ks : List ByteArray} {i : Nat} {m q : Int} (h : ¬ (i < ks.length ∧ q ≤ m)) : cntK (ks.drop i) m q = q := by
  cases hd : ks.drop i with
  | nil => rw [cntK]
  | cons x r =>
    rw [cntK, if_neg]
    intro hq
    refine h ⟨?_, hq⟩
    have := congrArg List.length hd
    simp at this
    omega
theorem cntL_drop {es : List V} {i : Nat} {e : V} (hi : es[i]? = some e) {m q : Int} (hq : q ≤ m) : cntL (es.drop i) m q = cntL (es.drop (i + 1)) m (q + cnt e (m - q)) := by
  obtain ⟨hl, rfl⟩ := List.getElem?_eq_some_iff.1 hi
  rw [List.drop_eq_getElem_cons hl, cntL, if_pos hq]
theorem cntL_end {es : List V} {i : Nat} {m q : Int} (h : ¬ (i < es.length ∧ q ≤ m)) : cntL (es.drop i) m q = q := by
  cases hd : es.drop i with
  | nil => rw [cntL]
  | cons x r =>
    rw [cntL, if_neg]
    intro hq
    refine h ⟨?_, hq⟩
    have := congrArg List.length hd
    simp at this
    omega
theorem cntK_bd (ks : List ByteArray) (hk : ∀ x ∈ ks, x.size ≤ 140737488355328) (m n : Int) (hm : 0 ≤ m) (h1 : 1 ≤ n) (hn : n ≤ m + 281474976710656) : 1 ≤ cntK ks m n ∧ cntK ks m n ≤ m + 281474976710656 := by
  induction ks generalizing n with
  | nil => rw [cntK]; exact ⟨h1, hn⟩
  | cons x r ih =>
    rw [cntK]
    have := hk x (by simp)
    split
    · exact ih (fun y hy => hk y (by simp [hy])) _ (by omega) (by omega)
    · exact ⟨h1, hn⟩
theorem cnt_bd : ∀ v : V, v.Fit → ∀ m : Int, 0 ≤ m → 1 ≤ cnt v m ∧ cnt v m ≤ m + 281474976710656 := by
  refine V.ind fun k n s ks es ih hf m hm => ?_
  rw [V.Fit] at hf
  obtain ⟨h1, h2, h3, h4, hL⟩ := hf
  rw [cnt]
  have hK := cntK_bd ks h2 m (1 + s.size) hm (by omega) (by omega)
  generalize cntK ks m (1 + s.size) = q at hK
  clear h4
  induction es generalizing q with
  | nil => rw [cntL]; exact hK
  | cons e es ihl =>
    rw [V.FitL] at hL
    rw [cntL]
    split
    · have := ih e (by simp) hL.1 (m - q) (by omega)
      exact ihl (fun u hu => ih u (by simp [hu])) hL.2 _ ⟨by omega, by omega⟩
    · exact hK
set_option maxHeartbeats 1000000 in
theorem count_any : ∀ v : V, ∀ (cs : List Value) (w : World) (m : Int), Lies w (· < w.heap.size) v cs → 0 ≤ m → m ≤ 1000000 →
    Calls Tryz.prog 47 #[.agg cs.toArray, .int .i64 m] w fun e w' => e = .returned (.int .i64 (cnt v m)) ∧ Below w.heap.size w w' := by
  refine V.ind fun k n s ks es ih cs w m h hm0 hm1 => ?_
  have hf := lies_fit _ _ h
  rw [V.Fit] at hf
  obtain ⟨h1, h2, h3, h4, hFL⟩ := hf
  obtain ⟨A, a, B, b, xs, rfl, hAn, hBn, ⟨ha1, ha2⟩, ⟨hb1, hb2⟩, hA, hB, hL⟩ := lies_open h
  have HA := Lib.hid hA
  have HB := Lib.hid hB
  have HL := Lib.hid hL
  have IH := Lib.hid ih
  have H2 := Lib.hid h2
  have HF := Lib.hid hFL
  clear hA hB hL ih h2 hFL h hAn hBn
  show Calls _ _ #[.agg #[.int .i64 k, .int .i64 n, .string s, .slice A ks.length a, .slice B es.length b], .int .i64 m] w _
  go_enter Tryz.func47, Tryz.ntmps47
  go_wp2
  unfold maxLen at ha2 hb2
  go_loop [5, 6] (fun c t => ∃ (i : Nat) (q : Int), i ≤ ks.length ∧ t = .int .i64 i ∧ c = .int .i64 q ∧ 1 ≤ q ∧ q ≤ m + 281474976710656 ∧ cntK ks m (1 + s.size) = cntK (ks.drop i) m q) (fun _ t => ks.length - (intOf t).toNat)
  case atStart => exact ⟨0, _, Nat.zero_le _, rfl, rfl, by omega, by omega, rfl⟩
  case round =>
    obtain ⟨i, q, hi, rfl, rfl, hq1, hq2, hK0⟩ := hrel
    have hK := Lib.hid hK0
    clear hK0
    by_cases hgo : i < ks.length ∧ q ≤ m
    · obtain ⟨hlt, hqm⟩ := hgo
      obtain ⟨x, hx⟩ : ∃ x, ks[i]? = some x := ⟨_, List.getElem?_eq_getElem hlt⟩
      have hxs := H2.out x (List.mem_of_getElem? hx)
      obtain ⟨b0, o0, rfl, hb0, hc0⟩ := HA.out.at_ (kv_at hx)
      have hstep := Lib.hid (hK.out.trans (cntK_drop hx hqm))
      have hX := Lib.hid hx
      clear hx
      go_wp2
      go_round
      case rel => exact ⟨i + 1, _, by omega, by go_num, rfl, by omega, by omega, hstep.out⟩
      case measure => simp [intOf]; omega
    · have hkk := Lib.hid (hK.out.trans (cntK_end hgo))
      by_cases hlt : i < ks.length
      all_goals
        go_wp2
        go_loopw [5, 7] (fun c t wr => ∃ (i : Nat) (q : Int), i ≤ es.length ∧ t = .int .i64 i ∧ c = .int .i64 q ∧ 1 ≤ q ∧ q ≤ m + 281474976710656 ∧ cnt (.mk k n s ks es) m = cntL (es.drop i) m q ∧ Below (w.heap.size + 1) (w.alloc (.cells #[.int .i64 k, .int .i64 n, .string s, .slice A ks.length a, .slice B es.length b] 26)) wr) (fun _ t _ => es.length - (intOf t).toNat)
        case atStart => exact ⟨0, _, Nat.zero_le _, rfl, rfl, hq1, hq2, by rw [cnt, hkk.out]; rfl, Below.refl _ _⟩
        case round =>
          clear hK hkk hlt hgo hi hq1 hq2
          obtain ⟨i, q, hi, rfl, rfl, hq1, hq2, hK0, hbel⟩ := hrel
          have hK := Lib.hid hK0
          clear hK0
          have hbox := box_cell hbel 4 _ rfl
          by_cases hgo : i < es.length ∧ q ≤ m
          · obtain ⟨hlt, hqm⟩ := hgo
            obtain ⟨e, he⟩ : ∃ e, es[i]? = some e := ⟨_, List.getElem?_eq_getElem hlt⟩
            obtain ⟨b0, o0, v0, v1, v2, v3, v4, rfl, hb0, hle, c0, c1, c2, c3, c4⟩ := elem_cells HB.out HL.out he
            have d0 := old_cell hbel hb0 c0
            have d1 := old_cell hbel hb0 c1
            have d2 := old_cell hbel hb0 c2
            have d3 := old_cell hbel hb0 c3
            have d4 := old_cell hbel hb0 c4
            clear c0 c1 c2 c3 c4
            have hstep := Lib.hid (hK.out.trans (cntL_drop he hqm))
            have hcb := cnt_bd e (fitL_mem HF.out (List.mem_of_getElem? he)) (m - q) (by omega)
            have hcall := Lib.hid (IH.out e (List.mem_of_getElem? he) [v0, v1, v2, v3, v4] wr (m - q) (old_lies hbel hle) (by omega) (by omega))
            have hX := Lib.hid he
            clear he hle
            go_wp2_with fail
            refine hcall.out.mono ?_
            rintro e' w' ⟨rfl, hb⟩
            go_wp2
            go_roundw
            case rel => exact ⟨i + 1, _, by omega, by go_num, rfl, by omega, by omega, hstep.out, hbel.trans (hb.mono (by have := hbel.size; simp at this; omega))⟩
            case measure => simp [intOf]; omega
          · have hkk := Lib.hid (hK.out.trans (cntL_end hgo))
            by_cases hlt : i < es.length
            all_goals
              go_wp2
              go_ret
              exact ⟨ret_int hkk.out.symm, below_old hbel⟩
end Go.Proofs.YtkohnkofnobakaaGreatDoor
namespace Go.Proofs.YtkohnkofnobakaaGreatDoor
open Go.RowKit Go.Sort
/-- What Small answers. -/
def smallP (m : Int) (l : List V) : Bool := l.all fun v => decide (cnt v m ≤ m)
def smallFrom (m : Int) (l : List V) (i : Nat) : Prop := smallP m l = smallP m (l.drop i)
theorem small_step {m : Int} {l : List V} {i : Nat} {e : V} (he : l[i]? = some e) (h : smallFrom m l i) : smallP m l = (decide (cnt e m ≤ m) && smallP m (l.drop (i + 1))) := by
  obtain ⟨h1, rfl⟩ := List.getElem?_eq_some_iff.1 he
  unfold smallFrom at h
  rw [h, List.drop_eq_getElem_cons h1]
  rfl
set_option maxHeartbeats 1000000 in
set_option maxRecDepth 100000 in
theorem small_any (m : Int) (l : List V) (A : Option Addr) (c : Nat) (xs : List Value) (w : World) (h : Row w A l xs) (hn : l.length ≤ 140737488355328) (hm0 : 0 ≤ m) (hm1 : m ≤ 1000000) :
    Calls Tryz.prog 15 #[.int .i64 m, .slice A l.length c] w fun e w' => e = .returned (.bool (smallP m l)) ∧ Below w.heap.size w w' := by
  have HR := Lib.hid h
  clear h
  go_enter Tryz.func15, Tryz.ntmps15
  go_wp2_with fail
  go_loopw [5] (fun t wr => ∃ i : Nat, i ≤ l.length ∧ t = .int .i64 i ∧ smallFrom m l i ∧ Below w.heap.size w wr) (fun t _ => l.length - (intOf t).toNat)
  case atStart => exact ⟨0, Nat.zero_le _, rfl, by unfold smallFrom; rw [List.drop_zero], Below.refl _ _⟩
  case round =>
    obtain ⟨i, hi, rfl, he0, hbel⟩ := hrel
    have HE := Lib.hid he0
    clear he0
    by_cases hlt : i < l.length
    · obtain ⟨e, he⟩ : ∃ e, l[i]? = some e := ⟨_, List.getElem?_eq_getElem hlt⟩
      have hst := Lib.hid (small_step he HE.out)
      have hv := count_any e
      obtain ⟨ek, en, es', eks, ees⟩ := e
      obtain ⟨bq, oq, A1, a1, C1, c1, rfl, hbq, hle, d0, d1, d2, d3, d4⟩ := elem_open HR.out.rs HR.out.lies he
      have q0 := below_cell hbel hbq d0
      have q1 := below_cell hbel hbq d1
      have q2 := below_cell hbel hbq d2
      have q3 := below_cell hbel hbq d3
      have q4 := below_cell hbel hbq d4
      clear d0 d1 d2 d3 d4
      have HC := Lib.hid (hv [.int .i64 ek, .int .i64 en, .string es', .slice A1 eks.length a1, .slice C1 ees.length c1] wr m (below_lies hbel hle) hm0 hm1)
      clear hv he hle
      generalize cnt (.mk ek en es' eks ees) m = x at HC hst
      by_cases hx : x ≤ m
      · have hst2 : Hid (smallFrom m l (i + 1)) := Lib.hid (by unfold smallFrom; rw [hst.out, decide_eq_true hx, Bool.true_and])
        have hx2 : ¬ m < x := by omega
        clear hst
        go_wp2_with fail
        refine HC.out.mono ?_
        rintro e1 w1 ⟨rfl, hb1⟩
        go_wp2_with fail
        go_roundw
        case rel => exact ⟨i + 1, by omega, by go_num, hst2.out, chain hbel hb1⟩
        case measure => simp [intOf]; omega
      · have hst2 : Hid (smallP m l = false) := Lib.hid (by rw [hst.out, decide_eq_false hx, Bool.false_and])
        have hx2 : m < x := by omega
        clear hst
        go_wp2_with fail
        refine HC.out.mono ?_
        rintro e1 w1 ⟨rfl, hb1⟩
        go_wp2_with fail
        go_ret
        exact ⟨ret_bool hst2.out.symm, chain hbel hb1⟩
    · have hend : Hid (smallP m l = true) := Lib.hid (by
        have := HE.out
        unfold smallFrom at this
        rw [this, List.drop_eq_nil_of_le (by omega)]
        rfl)
      go_wp2_with fail
      go_ret
      exact ⟨ret_bool hend.out.symm, hbel⟩
theorem one_row {w : World} {v : V} {k n : Int} {s : ByteArray} {ks : List ByteArray} {es : List V} {A C : Option Addr} {a c : Nat} {g : Nat}
    (h : Lies w (· < w.heap.size) v [.int .i64 k, .int .i64 n, .string s, .slice A ks.length a, .slice C es.length c]) (hg : Box w g 26 #[.int .i64 k, .int .i64 n, .string s, .slice A ks.length a, .slice C es.length c]) :
    Row w (some ⟨g, 0, none⟩) [v] [.int .i64 k, .int .i64 n, .string s, .slice A ks.length a, .slice C es.length c] := by
  refine ⟨rs_box (cs := [.int .i64 k, .int .i64 n, .string s, .slice A ks.length a, .slice C es.length c]) hg hg.lt, ?_⟩
  rw [LiesL]
  exact ⟨_, [], by simp, h, by rw [LiesL]⟩
end Go.Proofs.YtkohnkofnobakaaGreatDoor
namespace Go.Proofs.YtkohnkofnobakaaGreatDoor
open Go.RowKit Go.Sort
theorem tl_app {n acc r : Nat} {l m : List UInt8} (h : tl n acc l = some r) : tl n acc (l ++ m) = some r := by
  induction n generalizing acc l with
  | zero => rw [tl] at h ⊢; exact h
  | succ n ih =>
    cases l with
    | nil => rw [tl] at h; cases h
    | cons b t =>
      rw [List.cons_append]
      rw [tl] at h ⊢
      split at h
      · rename_i hb; rw [if_pos hb]; exact ih h
      · cases h
theorem fin_app {n least a : Nat} {l m : List UInt8} {q : Nat × Nat} (h : fin n least (tl n a l) = some q) : fin n least (tl n a (l ++ m)) = some q := by
  cases ht : tl n a l with
  | none => rw [ht] at h; cases h
  | some r => rw [tl_app ht, ← ht]; exact h
theorem dec_app {l m : List UInt8} {q : Nat × Nat} (h : dec l = some q) : dec (l ++ m) = some q := by
  cases l with
  | nil => simp [dec] at h
  | cons b t =>
    rw [List.cons_append]
    rw [dec_cons] at h ⊢
    by_cases c1 : b.toNat < 128
    · rw [if_pos c1] at h ⊢; exact h
    rw [if_neg c1] at h ⊢
    by_cases c2 : b.toNat < 192
    · rw [if_pos c2] at h ⊢; exact h
    rw [if_neg c2] at h ⊢
    by_cases c3 : b.toNat < 224
    · rw [if_pos c3] at h ⊢; exact fin_app h
    rw [if_neg c3] at h ⊢
    by_cases c4 : b.toNat < 240
    · rw [if_pos c4] at h ⊢; exact fin_app h
    rw [if_neg c4] at h ⊢
    by_cases c5 : b.toNat < 248
    · rw [if_pos c5] at h ⊢; exact fin_app h
    · rw [if_neg c5] at h; cases h
theorem runes_app : ∀ (n : Nat) {a b : List UInt8} {xs ys : List Nat}, a.length ≤ n → runes a = some xs → runes b = some ys → runes (a ++ b) = some (xs ++ ys)
  | n, [], b, xs, ys, hn, ha, hb => by
    rw [runes_nil] at ha
    injection ha with ha
    subst ha
    simpa using hb
  | 0, c :: t, b, xs, ys, hn, ha, hb => by simp at hn
  | n + 1, c :: t, b, xs, ys, hn, ha, hb => by
    cases hd : dec (c :: t) with
    | none => rw [runes_none (by simp) hd] at ha; cases ha
    | some q =>
      obtain ⟨r, k⟩ := q
      have hk := dec_some_cp hd
      rw [runes_some hd] at ha
      cases ht : runes ((c :: t).drop k) with
      | none => rw [ht] at ha; cases ha
      | some zs =>
        rw [ht] at ha
        injection ha with ha
        subst ha
        have h1 := runes_app n (a := (c :: t).drop k) (by simp at hn ⊢; omega) ht hb
        rw [runes_some (dec_app hd), List.drop_append_of_le_length hk.2.2.2, h1]
        rfl
theorem okS_app {s t : ByteArray} (hs : okS s = true) (ht : okS t = true) : okS (s ++ t) = true := by
  unfold okS at *
  obtain ⟨xs, hx⟩ := Option.isSome_iff_exists.1 hs
  obtain ⟨ys, hy⟩ := Option.isSome_iff_exists.1 ht
  have e : (s ++ t).data.toList = s.data.toList ++ t.data.toList := by simp [ByteArray.data_append]
  rw [e, runes_app _ (Nat.le_refl _) hx hy]
  rfl
theorem size0 {s : ByteArray} (h : s.size = 0) : s = ⟨#[]⟩ := by
  obtain ⟨a⟩ := s
  have : a = #[] := Array.size_eq_zero_iff.1 h
  rw [this]
/-- The shape of a valid value, kind by kind. -/
theorem valid_shape {k n : Int} {s : ByteArray} {ks : List ByteArray} {es : List V} (h : valid (.mk k n s ks es) = true) :
    ((k = 0 ∨ k = 1 ∨ k = 2) ∧ n = 0 ∧ s = ⟨#[]⟩ ∧ ks = [] ∧ es = []) ∨ (k = 3 ∧ s = ⟨#[]⟩ ∧ ks = [] ∧ es = []) ∨ (k = 4 ∧ n = 0 ∧ ks = [] ∧ es = []) ∨ (k = 5 ∧ n = 0 ∧ s = ⟨#[]⟩ ∧ ks = []) ∨ (k = 6 ∧ n = 0 ∧ s = ⟨#[]⟩ ∧ ks.length = es.length) := by
  have h0 := ((valid_iff _).1 h).1
  rw [good] at h0
  simp only [Bool.and_eq_true] at h0
  have h1 := h0.1
  unfold fits at h1
  have nil : ∀ {α : Type} {l : List α}, l.length = 0 → l = [] := fun h => List.eq_nil_of_length_eq_zero h
  split at h1
  · rename_i hk
    simp only [Bool.and_eq_true, decide_eq_true_eq] at h1
    exact .inl ⟨hk, h1.1.1.1, size0 h1.1.1.2, nil h1.1.2, nil h1.2⟩
  split at h1
  · rename_i hk
    simp only [Bool.and_eq_true, decide_eq_true_eq] at h1
    exact .inr (.inl ⟨hk, size0 h1.1.1, nil h1.1.2, nil h1.2⟩)
  split at h1
  · rename_i hk
    simp only [Bool.and_eq_true, decide_eq_true_eq] at h1
    exact .inr (.inr (.inl ⟨hk, h1.1.1, nil h1.1.2, nil h1.2⟩))
  split at h1
  · rename_i hk
    simp only [Bool.and_eq_true, decide_eq_true_eq] at h1
    exact .inr (.inr (.inr (.inl ⟨hk, h1.1.1, size0 h1.1.2, nil h1.2⟩)))
  split at h1
  · rename_i hk
    simp only [Bool.and_eq_true, decide_eq_true_eq] at h1
    exact .inr (.inr (.inr (.inr ⟨hk, h1.1.1, size0 h1.1.2, h1.2⟩)))
  · cases h1
theorem valid_parts {k n : Int} {s : ByteArray} {ks : List ByteArray} {es : List V} (h : valid (.mk k n s ks es) = true) : s.size ≤ 4096 ∧ okS s = true ∧ es.length ≤ 1024 ∧ keysOk none ks = true := by
  have h0 := ((valid_iff _).1 h).1
  rw [good] at h0
  simp only [Bool.and_eq_true, decide_eq_true_eq] at h0
  exact ⟨h0.2.1, h0.2.2.1, h0.2.2.2.1, h0.2.2.2.2.1⟩
theorem valid_elems {k n : Int} {s : ByteArray} {ks : List ByteArray} {es : List V} (h : valid (.mk k n s ks es) = true) : es.all valid = true := by
  rcases valid_shape h with h1 | h1 | h1 | h1 | h1
  · rw [h1.2.2.2.2]; rfl
  · rw [h1.2.2.2]; rfl
  · rw [h1.2.2.2]; rfl
  · exact List.all_eq_true.2 fun e he => (valid_iff e).2 (ok_elem ((valid_iff _).1 h) (.inl h1.1) e he)
  · exact List.all_eq_true.2 fun e he => (valid_iff e).2 (ok_elem ((valid_iff _).1 h) (.inr h1.1) e he)
theorem keysOk_all : ∀ {ks : List ByteArray} {p : Option ByteArray}, keysOk p ks = true → ks.all okS = true ∧ ∀ k ∈ ks, k.size ≤ 4096
  | [], p, h => ⟨rfl, fun k hk => by cases hk⟩
  | x :: r, p, h => by
    have hx : keyOk x = true ∧ keysOk (some x) r = true := by
      cases p with
      | none => rw [keysOk] at h; simpa using h
      | some q => rw [keysOk] at h; simp only [Bool.and_eq_true] at h; exact ⟨h.1, h.2.2⟩
    obtain ⟨h1, h2⟩ := hx
    obtain ⟨h3, h4⟩ := keysOk_all h2
    unfold keyOk at h1
    simp only [Bool.and_eq_true, decide_eq_true_eq] at h1
    refine ⟨by rw [List.all_cons, h3, h1.2]; rfl, fun k hk => ?_⟩
    rcases List.mem_cons.1 hk with rfl | hk
    · exact h1.1
    · exact h4 k hk
theorem valid_keysok {k n : Int} {s : ByteArray} {ks : List ByteArray} {es : List V} (h : valid (.mk k n s ks es) = true) : ks.all okS = true ∧ ∀ k ∈ ks, k.size ≤ 4096 := keysOk_all (valid_parts h).2.2.2
theorem finV_ok {v : V} (h : valid v = true) : finV v = v := by unfold finV; rw [if_pos h]
theorem finE_ok {v : V} (h : valid v = true) : finE v = 0 := by unfold finE; rw [if_pos h]
theorem finE_zero {v : V} (h : finE v = 0) : valid v = true := by
  unfold finE at h
  split at h
  · assumption
  · cases h
theorem strR_ok {s : ByteArray} (h : okS s = true) : strR s = finV (strV s) ∧ strE s = finE (strV s) := by
  unfold strR strE
  rw [if_pos h, if_pos h]
  exact ⟨rfl, rfl⟩
theorem arrR_ok {l : List V} (h : l.all valid = true) : arrR l = finV (arrV l) ∧ arrE l = finE (arrV l) := by
  unfold arrR arrE
  rw [if_pos h, if_pos h]
  exact ⟨rfl, rfl⟩
theorem objR_ok {ms : List Mb} (h : (ms.map Mb.v).all valid = true) (k : (ms.map Mb.key).all okS = true) : objR ms = finV (objL (putAll ms)) ∧ objE ms = finE (objL (putAll ms)) := by
  unfold objR objE
  rw [if_pos h, if_pos k, if_pos h, if_pos k, obj_put]
  exact ⟨rfl, rfl⟩
/-- Members set one after another. -/
def putL (ps qs : PL) : PL := qs.foldl (fun ps p => putP ps p.1 p.2) ps
theorem putL_snoc (ps qs : PL) (p : ByteArray × V) : putL ps (qs ++ [p]) = putP (putL ps qs) p.1 p.2 := by simp [putL]
theorem rev_indP {α : Type} {p : List α → Prop} (h0 : p []) (h1 : ∀ l m, p l → p (l ++ [m])) : ∀ l, p l := by
  intro l
  have : ∀ r : List α, p r.reverse := by
    intro r
    induction r with
    | nil => exact h0
    | cons m r ih => rw [List.reverse_cons]; exact h1 _ _ ih
  have := this l.reverse
  simpa using this
theorem putL_asc {ps : PL} (h : PAsc ps) : ∀ qs, PAsc (putL ps qs) :=
  rev_indP h fun l m ih => by rw [putL_snoc]; exact putP_asc ih
/-- The last value of a key in a list of pairs. -/
def lastP (qs : PL) (k : ByteArray) : Option V := ((qs.filter fun p => decide (p.1 = k)).getLast?).map Prod.snd
theorem putL_look {ps : PL} (h : PAsc ps) (k : ByteArray) : ∀ qs, look (putL ps qs) k = (lastP qs k).or (look ps k) := by
  refine rev_indP rfl fun l m ih => ?_
  rw [putL_snoc, putP_look k (putL_asc h l), ih]
  unfold lastP
  rw [List.filter_append]
  by_cases e : m.1 = k
  · rw [if_pos e]; simp [e]
  · rw [if_neg e]; simp [e]
theorem lastP_asc (k : ByteArray) : ∀ {qs : PL}, PAsc qs → lastP qs k = look qs k
  | [], _ => rfl
  | (y, v) :: r, h => by
    obtain ⟨h1, h2⟩ := List.pairwise_cons.1 h
    have ih := lastP_asc k h2
    unfold lastP at ih ⊢
    rw [look]
    by_cases e : y = k
    · subst e
      have hn : r.filter (fun p => decide (p.1 = y)) = [] := List.filter_eq_nil_iff.2 fun p hp hk => by
        have h3 := h1 p hp
        have hk : p.1 = y := by simpa using hk
        rw [hk] at h3
        simp only [scmp_self] at h3
        omega
      rw [if_pos rfl, List.filter_cons_of_pos (by simp), hn]
      rfl
    · rw [if_neg e, List.filter_cons_of_neg (by simp [e]), ih]
theorem putAll_app (ma mb : List Mb) : putAll (ma ++ mb) = putL (putAll ma) (pairs mb) := by
  unfold putAll putL pairs
  rw [List.foldl_append, List.foldl_map]
theorem pasc_nil : PAsc [] := List.Pairwise.nil
theorem putL_nil_asc {qs : PL} (h : PAsc qs) : putL [] qs = qs :=
  canon (putL_asc pasc_nil qs) h fun k => by rw [putL_look pasc_nil k qs, lastP_asc k h]; simp [look]
theorem putAll_asc_self {ms : List Mb} (h : PAsc (pairs ms)) : putAll ms = pairs ms := by
  have := putAll_app [] ms
  rw [List.nil_append] at this
  rw [this]
  exact putL_nil_asc h
theorem putL_assoc {a b c : PL} (ha : PAsc a) (hb : PAsc b) (hc : PAsc c) : putL (putL a b) c = putL a (putL b c) := by
  refine canon (putL_asc (putL_asc ha b) c) (putL_asc ha _) fun k => ?_
  rw [putL_look (putL_asc ha b) k, putL_look ha k, putL_look ha k, lastP_asc k hc, lastP_asc k hb, lastP_asc k (putL_asc hb c), putL_look hb k, lastP_asc k hc]
  cases look c k <;> rfl
def kd : V → Int | .mk k _ _ _ _ => k
def nm : V → Int | .mk _ n _ _ _ => n
def stv : V → ByteArray | .mk _ _ s _ _ => s
def esv : V → List V | .mk _ _ _ _ es => es
/-- The members of an object. -/
def prs : V → PL | .mk _ _ _ ks es => ks.zip es
theorem prs_asc {k n : Int} {s : ByteArray} {ks : List ByteArray} {es : List V} (h : valid (.mk k n s ks es) = true) : PAsc (prs (.mk k n s ks es)) := by
  have ha := (valid_keys h).1
  unfold prs PAsc
  have : ∀ {ks : List ByteArray} {es : List V}, Asc ks → (ks.zip es).Pairwise fun x y => scmp x.1 y.1 < 0 := by
    intro ks
    induction ks with
    | nil => intro es _; simp
    | cons x r ih =>
      intro es h
      cases es with
      | nil => simp
      | cons e f =>
        obtain ⟨h1, h2⟩ := List.pairwise_cons.1 h
        rw [List.zip_cons_cons]
        exact List.Pairwise.cons (fun p hp => h1 p.1 (List.of_mem_zip (show (p.1, p.2) ∈ r.zip f from hp)).1) (ih h2)
  exact this ha
theorem objL_prs {es : List V} {ks : List ByteArray} (h : ks.length = es.length) : objL (prs (.mk 6 0 ⟨#[]⟩ ks es)) = .mk 6 0 ⟨#[]⟩ ks es := by
  unfold objL prs
  rw [List.map_fst_zip (by omega), List.map_snd_zip (by omega)]
theorem prs_objL (ps : PL) : prs (objL ps) = ps := by
  unfold objL prs
  induction ps with
  | nil => rfl
  | cons p r ih => simp [ih]
/-- Within the limits or not. -/
def lim (v : V) : V × Int := (finV v, finE v)

/-- The sum of two valid values. -/
def sumR (a b : V) : V × Int :=
  if kd a = 0 then (b, 0) else if kd b = 0 then (a, 0)
  else if kd a = 3 ∧ kd b = 3 then (numV (wrap64 (nm a + nm b)), 0)
  else if kd a = 4 ∧ kd b = 4 then lim (strV (stv a ++ stv b))
  else if kd a = 5 ∧ kd b = 5 then lim (arrV (esv a ++ esv b))
  else if kd a = 6 ∧ kd b = 6 then lim (objL (putL (prs a) (prs b)))
  else (vnull, 12)
theorem sum_null_left {a b : V} (h : kd a = 0) : sumR a b = (b, 0) := by unfold sumR; rw [if_pos h]
theorem vnull_of {a : V} (h : valid a = true) (k : kd a = 0) : a = vnull := by
  obtain ⟨k1, n, s, ks, es⟩ := a
  have hk : k1 = 0 := k
  subst hk
  rcases valid_shape h with h1 | h1 | h1 | h1 | h1
  · obtain ⟨_, rfl, rfl, rfl, rfl⟩ := h1; rfl
  all_goals exact absurd h1.1 (by decide)
theorem sum_null_right {a b : V} (ha : valid a = true) (hb : valid b = true) (h : kd b = 0) : sumR a b = (a, 0) := by
  unfold sumR
  by_cases k : kd a = 0
  · rw [if_pos k, vnull_of ha k, vnull_of hb h]
  · rw [if_neg k, if_pos h]
theorem valid_null : valid vnull = true := by decide +kernel
theorem valid_num (n : Int) : valid (numV n) = true := by
  rw [valid_iff]
  unfold numV
  refine ⟨?_, ?_, ?_, ?_⟩
  · rw [good, goodL]
    have h1 : fits 3 n ⟨#[]⟩ ([] : List ByteArray).length ([] : List V).length = true := rfl
    rw [h1]
    decide +kernel
  · rw [dep]; simp
  · rw [V.sz, V.szL]; decide
  · rw [vbyt, vbytL]; decide
/-- A sum without an error is valid. -/
theorem sum_valid {a b : V} (ha : valid a = true) (hb : valid b = true) (h : (sumR a b).2 = 0) : valid (sumR a b).1 = true := by
  unfold sumR at h ⊢
  split at h
  · rename_i k; rw [if_pos k]; exact hb
  rename_i k0
  split at h
  · rename_i k; rw [if_neg k0, if_pos k]; exact ha
  rename_i k1
  rw [if_neg k0, if_neg k1]
  split at h
  · rename_i k; rw [if_pos k]; exact valid_num _
  rename_i k2
  rw [if_neg k2]
  split at h
  · rename_i k; rw [if_pos k]; unfold lim at h ⊢; have := finE_zero h; rw [finV_ok this]; exact this
  rename_i k3
  rw [if_neg k3]
  split at h
  · rename_i k; rw [if_pos k]; unfold lim at h ⊢; have := finE_zero h; rw [finV_ok this]; exact this
  rename_i k4
  rw [if_neg k4]
  split at h
  · rename_i k; rw [if_pos k]; unfold lim at h ⊢; have := finE_zero h; rw [finV_ok this]; exact this
  · cases h
theorem w64_left (a b : Int) : wrap64 (wrap64 a + b) = wrap64 (a + b) := by
  unfold wrap64
  omega
theorem w64_right (a b : Int) : wrap64 (a + wrap64 b) = wrap64 (a + b) := by
  rw [Int.add_comm, w64_left, Int.add_comm]
theorem lim_ok {v : V} (h : (lim v).2 = 0) : lim v = (v, 0) := by
  have := finE_zero h
  unfold lim
  rw [finV_ok this, finE_ok this]
/-- The sum is associative. -/
theorem sum_assoc {a b c : V} (ha : valid a = true) (hb : valid b = true) (hc : valid c = true) (e : (sumR a b).2 = 0) (f : (sumR b c).2 = 0) : sumR (sumR a b).1 c = sumR a (sumR b c).1 := by
  by_cases k0 : kd a = 0
  · rw [sum_null_left k0, sum_null_left k0]
    generalize sumR b c = q at f
    obtain ⟨q1, q2⟩ := q
    simp only at f
    rw [f]
  by_cases k1 : kd b = 0
  · rw [sum_null_right ha hb k1, sum_null_left k1]
  by_cases k2 : kd c = 0
  · rw [sum_null_right (sum_valid ha hb e) hc k2, sum_null_right hb hc k2]
    generalize sumR a b = q at e
    obtain ⟨q1, q2⟩ := q
    simp only at e
    rw [e]
  unfold sumR at e f
  rw [if_neg k0, if_neg k1] at e
  rw [if_neg k1, if_neg k2] at f
  have key : (kd a = 3 ∧ kd b = 3 ∧ kd c = 3) ∨ (kd a = 4 ∧ kd b = 4 ∧ kd c = 4) ∨ (kd a = 5 ∧ kd b = 5 ∧ kd c = 5) ∨ (kd a = 6 ∧ kd b = 6 ∧ kd c = 6) := by
    (repeat' split at e) <;> (repeat' split at f) <;> first | omega | (simp at e; done) | (simp at f; done)
  rcases key with ⟨h1, h2, h3⟩ | ⟨h1, h2, h3⟩ | ⟨h1, h2, h3⟩ | ⟨h1, h2, h3⟩
  · have s1 : sumR a b = (numV (wrap64 (nm a + nm b)), 0) := by unfold sumR; rw [if_neg k0, if_neg k1, if_pos ⟨h1, h2⟩]
    have s2 : sumR b c = (numV (wrap64 (nm b + nm c)), 0) := by unfold sumR; rw [if_neg k1, if_neg k2, if_pos ⟨h2, h3⟩]
    rw [s1, s2]
    have t1 : ∀ n, kd (numV n) = 3 := fun _ => rfl
    have t2 : ∀ n, nm (numV n) = n := fun _ => rfl
    unfold sumR
    rw [if_neg (by rw [t1]; decide), if_neg k2, if_pos ⟨t1 _, h3⟩, if_neg k0, if_neg (by rw [t1]; decide), if_pos ⟨h1, t1 _⟩, t2, t2, w64_left, w64_right, Int.add_assoc]
  · have s1 : sumR a b = lim (strV (stv a ++ stv b)) := by unfold sumR; rw [if_neg k0, if_neg k1, if_neg (by omega), if_pos ⟨h1, h2⟩]
    have s2 : sumR b c = lim (strV (stv b ++ stv c)) := by unfold sumR; rw [if_neg k1, if_neg k2, if_neg (by omega), if_pos ⟨h2, h3⟩]
    rw [if_neg (by omega), if_pos ⟨h1, h2⟩] at e
    rw [if_neg (by omega), if_pos ⟨h2, h3⟩] at f
    rw [s1, s2, lim_ok e, lim_ok f]
    have t1 : ∀ n, kd (strV n) = 4 := fun _ => rfl
    have t2 : ∀ n, stv (strV n) = n := fun _ => rfl
    unfold sumR
    rw [if_neg (by rw [t1]; decide), if_neg k2, if_neg (by rw [t1]; omega), if_pos ⟨t1 _, h3⟩, if_neg k0, if_neg (by rw [t1]; decide), if_neg (by rw [t1]; omega), if_pos ⟨h1, t1 _⟩, t2, t2, ByteArray.append_assoc]
  · have s1 : sumR a b = lim (arrV (esv a ++ esv b)) := by unfold sumR; rw [if_neg k0, if_neg k1, if_neg (by omega), if_neg (by omega), if_pos ⟨h1, h2⟩]
    have s2 : sumR b c = lim (arrV (esv b ++ esv c)) := by unfold sumR; rw [if_neg k1, if_neg k2, if_neg (by omega), if_neg (by omega), if_pos ⟨h2, h3⟩]
    rw [if_neg (by omega), if_neg (by omega), if_pos ⟨h1, h2⟩] at e
    rw [if_neg (by omega), if_neg (by omega), if_pos ⟨h2, h3⟩] at f
    rw [s1, s2, lim_ok e, lim_ok f]
    have t1 : ∀ n, kd (arrV n) = 5 := fun _ => rfl
    have t2 : ∀ n, esv (arrV n) = n := fun _ => rfl
    unfold sumR
    rw [if_neg (by rw [t1]; decide), if_neg k2, if_neg (by rw [t1]; omega), if_neg (by rw [t1]; omega), if_pos ⟨t1 _, h3⟩, if_neg k0, if_neg (by rw [t1]; decide), if_neg (by rw [t1]; omega), if_neg (by rw [t1]; omega), if_pos ⟨h1, t1 _⟩, t2, t2, List.append_assoc]
  · have s1 : sumR a b = lim (objL (putL (prs a) (prs b))) := by unfold sumR; rw [if_neg k0, if_neg k1, if_neg (by omega), if_neg (by omega), if_neg (by omega), if_pos ⟨h1, h2⟩]
    have s2 : sumR b c = lim (objL (putL (prs b) (prs c))) := by unfold sumR; rw [if_neg k1, if_neg k2, if_neg (by omega), if_neg (by omega), if_neg (by omega), if_pos ⟨h2, h3⟩]
    rw [if_neg (by omega), if_neg (by omega), if_neg (by omega), if_pos ⟨h1, h2⟩] at e
    rw [if_neg (by omega), if_neg (by omega), if_neg (by omega), if_pos ⟨h2, h3⟩] at f
    rw [s1, s2, lim_ok e, lim_ok f]
    have t1 : ∀ n, kd (objL n) = 6 := fun _ => rfl
    have pa : PAsc (prs a) := by obtain ⟨k, n, s, ks, es⟩ := a; exact prs_asc ha
    have pb : PAsc (prs b) := by obtain ⟨k, n, s, ks, es⟩ := b; exact prs_asc hb
    have pc : PAsc (prs c) := by obtain ⟨k, n, s, ks, es⟩ := c; exact prs_asc hc
    unfold sumR
    rw [if_neg (by rw [t1]; decide), if_neg k2, if_neg (by rw [t1]; omega), if_neg (by rw [t1]; omega), if_neg (by rw [t1]; omega), if_pos ⟨t1 _, h3⟩, if_neg k0, if_neg (by rw [t1]; decide), if_neg (by rw [t1]; omega), if_neg (by rw [t1]; omega), if_neg (by rw [t1]; omega), if_pos ⟨h1, t1 _⟩, prs_objL, prs_objL, putL_assoc pa pb pc]
end Go.Proofs.YtkohnkofnobakaaGreatDoor
namespace Go.Proofs.YtkohnkofnobakaaGreatDoor
open Go.RowKit
def GrowPostS (w : World) (e : Ending) (w' : World) : Prop := Below w.heap.size w w' ∧ ∃ v, e = .returned v ∧ w'.ownsRow w.heap.size 9 1 v 0 []
set_option maxHeartbeats 2000000 in
set_option maxRecDepth 100000 in
theorem growS_nil (n : Nat) (w : World) (hn : n ≤ 2000000) : Calls Tryz.prog 157 #[.slice none 0 0, .int .i64 n] w (GrowPostS w) := by
  obtain ⟨i0, hi, hz0, hz1, hz2⟩ := info_parts inf_string
  by_cases hz : n = 0
  · subst hz
    go_enter Tryz.func157, Tryz.ntmps157
    go_wp2_with fail
    go_ret
    exact ⟨Below.refl _ _, _, rfl, World.ownsRow_nil _ _ _ _⟩
  · have hz' : 0 < n := by omega
    have hold : (Builtin.firstCells i0.size 0 (.slice none 0 0)).run Tryz.prog w.drew = .ok ([] : List Value).toArray w.drew := run_firstCells_none w.drew i0.size 0 0 0
    have hrz : ∀ ty, (Builtin.append_ #[23, 3] ty #[.slice none 0 0, .int .i64 (n : Int)]).run Tryz.prog w =
        .ok (.slice (some ⟨w.heap.size, 0, none⟩) (0 + n) (grownCap w (0 + n) 0 9)) (w.drew.alloc (.cells (([] : List Value).toArray ++ Builtin.zeroCells (Value.string ⟨#[]⟩).cells n ++ Builtin.zeroCells (Value.string ⟨#[]⟩).cells (grownCap w (0 + n) 0 9 - (0 + n))) 9)) := fun ty => by
      exact Lib.run_append_grow_zeros w 23 3 ty 9 i0 (.string ⟨#[]⟩) .i64 .i64 Tryz.underlying23 Tryz.underlying3 hi hz0 none 0 0 ([] : List Value) hold n hz' (by rw [hz1]; omega) (by omega) (by omega)
        (by rw [hz2]; omega) (growslice_fits (by omega) (by rw [hz2]; omega))
    have hGn : 0 + n ≤ grownCap w (0 + n) 0 9 := grownCap_ge w _ _ _
    have hG63 : grownCap w (0 + n) 0 9 ≤ maxLen := grownCap_le_maxLen w (0 + n) 0 9 (by unfold maxLen; omega)
    generalize hG : grownCap w (0 + n) 0 9 = G at hrz hGn hG63
    have hG63' : G ≤ 9223372036854775807 := by unfold maxLen at hG63; omega
    have HM := Lib.hid hG63
    clear hold hG hG63
    obtain ⟨C, hC⟩ : ∃ C : Array Value, C = ([] : List Value).toArray ++ Builtin.zeroCells (Value.string ⟨#[]⟩).cells n ++ Builtin.zeroCells (Value.string ⟨#[]⟩).cells (G - (0 + n)) := ⟨_, rfl⟩
    have hsz : Hid (C.size = G * 1) := Lib.hid (by
      rw [hC, Array.size_append, Array.size_append, size_zeroCells, size_zeroCells, show (Value.string ⟨#[]⟩).cells.size = 1 from rfl]
      simp
      omega)
    rw [← hC] at hrz
    have HRZ := Lib.hid hrz
    clear hrz hC
    go_enter Tryz.func157, Tryz.ntmps157
    go_wp2_with (at_builtin; refine Lib.wpList_append_run _ rfl _ _ _ _ rfl _ _ rfl rfl _ _ (HRZ.out _) ?_)
    go_ret
    refine ⟨((Below.refl _ _).drew).alloc (Nat.le_refl _) _, _, rfl, ?_⟩
    exact World.ownsRow_made (base := w.heap.size) (e := 9) (size := 1) w.drew C G (Nat.le_refl _) HM.out hsz.out
/-- The first loop: how much has been counted. -/
def CStC (n0 n1 : Nat) (t3 t11 : Value) : Prop := (t11 = .int .i64 0 ∧ t3 = .int .i64 0) ∨ (t11 = .int .i64 1 ∧ t3 = .int .i64 n0) ∨ (t11 = .int .i64 2 ∧ t3 = .int .i64 ((n0 : Int) + n1))
/-- What a concatenation of two slices hands back: a row of its own. -/
def CatPost (base : Nat) (ty : TypeId) (size : Nat) (w : World) (n : Nat) (xs : List Value) (e : Ending) (w' : World) : Prop :=
  ∃ v, e = .returned v ∧ w'.ownsRow base ty size v n xs ∧ Below base w w'
theorem own_ge' {w : World} {base n size : Nat} {e : TypeId} {v : Value} {xs : List Value} (h : w.ownsRow base e size v n xs) : ∀ g, v.ownBlock = some g → base ≤ g := fun g hg => (h.lt g hg).1
/-- The second loop: what has been put. -/
def DStC (ty : TypeId) (size : Nat) (W : World) (n0 n1 : Nat) (l0 l1 : List Value) (t6 t27 : Value) (wr : World) : Prop := ∃ (n : Nat) (out : List Value), wr.ownsRow W.heap.size ty size t6 n out ∧ Below W.heap.size W wr ∧
  ((t27 = .int .i64 0 ∧ out = [] ∧ n = 0) ∨ (t27 = .int .i64 1 ∧ out = l0 ∧ n = n0) ∨ (t27 = .int .i64 2 ∧ out = l0 ++ l1 ∧ n = n0 + n1))
set_option maxHeartbeats 4000000 in
set_option maxRecDepth 100000 in
theorem concatS_any (g : Nat) (A0 A1 : Option Addr) (n0 n1 c0 c1 : Nat) (l0 l1 : List Value) (w : World) (h0 : w.cell? ⟨g, 0, none⟩ = some (.slice A0 n0 c0)) (h1 : w.cell? ⟨g, 1, none⟩ = some (.slice A1 n1 c1))
    (hr0 : Rs w (· < w.heap.size) A0 l0) (hr1 : Rs w (· < w.heap.size) A1 l1) (hc0 : A0 = none → c0 = 0) (hc1 : A1 = none → c1 = 0) (hl0 : l0.length = n0 * 1) (hl1 : l1.length = n1 * 1) (hn0 : n0 ≤ 500000) (hn1 : n1 ≤ 500000) (ho0 : ∀ u ∈ l0, u.oneCell' = true) (ho1 : ∀ u ∈ l1, u.oneCell' = true) :
    Calls Tryz.prog 120 #[.slice (some ⟨g, 0, none⟩) 2 2] w (CatPost w.heap.size 9 1 w (n0 + n1) (l0 ++ l1)) := by
  obtain ⟨i0, hi, hz0, hz1, hz2⟩ := info_parts inf_string
  have hg : g < w.heap.size := World.block_lt_of_cell? w _ h0
  have HR0 := Lib.hid hr0
  have HR1 := Lib.hid hr1
  have HC0 := Lib.hid hc0
  have HC1 := Lib.hid hc1
  have H0 := Lib.hid h0
  have H1 := Lib.hid h1
  have HL0 := Lib.hid hl0
  have HL1 := Lib.hid hl1
  have HO0 := Lib.hid ho0
  have HO1 := Lib.hid ho1
  clear hr0 hr1 hc0 hc1 hl0 hl1 ho0 ho1
  go_enter Tryz.func120, Tryz.ntmps120
  go_wp2_with fail
  go_loop [3, 5, 11] (fun t3 _ t11 => CStC n0 n1 t3 t11) (fun _ _ t11 => 2 - (intOf t11).toNat)
  case atStart => exact .inl ⟨rfl, rfl⟩
  case round =>
    rcases hrel with ⟨rfl, rfl⟩ | ⟨rfl, rfl⟩ | ⟨rfl, rfl⟩
    · go_wp2_with fail
      go_round
      case rel => exact .inr (.inl ⟨rfl, rfl⟩)
      case measure => simp [intOf]
    · go_wp2_with fail
      go_round
      case rel => exact .inr (.inr ⟨rfl, rfl⟩)
      case measure => simp [intOf]
    · go_wp2_with (go_at_call 157; (refine (growS_nil (n0 + n1) _ (by omega)).mono ?_); rintro e w1 ⟨hb1, gv, rfl, hown1⟩)
      go_loopw [6, 8, 27] (fun t6 _ t27 wr => DStC 9 1 w n0 n1 l0 l1 t6 t27 wr) (fun _ _ t27 _ => 2 - (intOf t27).toNat)
      case atStart => exact ⟨0, [], hown1, hb1, .inl ⟨rfl, rfl, rfl⟩⟩
      case round =>
        clear hown1 hb1 h0 h1
        obtain ⟨m, out, hown, hbel, hcase⟩ := hrel
        have HO := Lib.hid hown
        have HBE := Lib.hid hbel
        clear hown hbel
        rcases hcase with ⟨rfl, rfl, rfl⟩ | ⟨rfl, rfl, rfl⟩ | ⟨rfl, rfl, rfl⟩
        · have q := (HBE.out.cell (p := ⟨g, 0, none⟩) hg).trans H0.out
          go_wp2_with (at_builtin; refine wpList_append_rs _ rfl (.tmp 31) (.tmp 32) 23 rfl w.heap.size 9 i0 (.string ⟨#[]⟩) 1 16 Tryz.underlying23 hi hz0 hz1 hz2 rfl (by omega) _ 0 [] rfl HO.out (· < w.heap.size) A0 n0 c0 l0 rfl HL0.out (HR0.out.move fun b hb => ⟨hb, HBE.out.block b hb⟩) HC0.out HO0.out (by unfold maxLen; omega) (by omega) HBE.out.size ?_; intro v2 w2 hown2 hgrow2; have hb2 := HBE.out.grown hgrow2 HBE.out.size (own_ge' HO.out); clear q hgrow2)
          go_roundw
          case rel => exact ⟨_, _, hown2, hb2, .inr (.inl ⟨rfl, List.nil_append _, Nat.zero_add _⟩)⟩
          case measure => simp [intOf]
        · have q := (HBE.out.cell (p := ⟨g, 1, none⟩) hg).trans H1.out
          go_wp2_with (at_builtin; refine wpList_append_rs _ rfl (.tmp 31) (.tmp 32) 23 rfl w.heap.size 9 i0 (.string ⟨#[]⟩) 1 16 Tryz.underlying23 hi hz0 hz1 hz2 rfl (by omega) _ _ _ rfl HO.out (· < w.heap.size) A1 n1 c1 l1 rfl HL1.out (HR1.out.move fun b hb => ⟨hb, HBE.out.block b hb⟩) HC1.out HO1.out (by unfold maxLen; omega) (by omega) HBE.out.size ?_; intro v2 w2 hown2 hgrow2; have hb2 := HBE.out.grown hgrow2 HBE.out.size (own_ge' HO.out); clear q hgrow2)
          go_roundw
          case rel => exact ⟨_, _, hown2, hb2, .inr (.inr ⟨rfl, rfl, rfl⟩)⟩
          case measure => simp [intOf]
        · go_wp2_with fail
          go_ret
          exact ⟨_, rfl, HO.out, HBE.out⟩
set_option maxHeartbeats 4000000 in
set_option maxRecDepth 100000 in
theorem concatV_any (g : Nat) (A0 A1 : Option Addr) (n0 n1 c0 c1 : Nat) (l0 l1 : List Value) (w : World) (h0 : w.cell? ⟨g, 0, none⟩ = some (.slice A0 n0 c0)) (h1 : w.cell? ⟨g, 1, none⟩ = some (.slice A1 n1 c1))
    (hr0 : Rs w (· < w.heap.size) A0 l0) (hr1 : Rs w (· < w.heap.size) A1 l1) (hc0 : A0 = none → c0 = 0) (hc1 : A1 = none → c1 = 0) (hl0 : l0.length = n0 * 5) (hl1 : l1.length = n1 * 5) (hn0 : n0 ≤ 500000) (hn1 : n1 ≤ 500000) (ho0 : ∀ u ∈ l0, u.oneCell' = true) (ho1 : ∀ u ∈ l1, u.oneCell' = true) :
    Calls Tryz.prog 85 #[.slice (some ⟨g, 0, none⟩) 2 2] w (CatPost w.heap.size 26 5 w (n0 + n1) (l0 ++ l1)) := by
  obtain ⟨i0, hi, hz0, hz1, hz2⟩ := info_parts inf_value
  have hg : g < w.heap.size := World.block_lt_of_cell? w _ h0
  have HR0 := Lib.hid hr0
  have HR1 := Lib.hid hr1
  have HC0 := Lib.hid hc0
  have HC1 := Lib.hid hc1
  have H0 := Lib.hid h0
  have H1 := Lib.hid h1
  have HL0 := Lib.hid hl0
  have HL1 := Lib.hid hl1
  have HO0 := Lib.hid ho0
  have HO1 := Lib.hid ho1
  clear hr0 hr1 hc0 hc1 hl0 hl1 ho0 ho1
  go_enter Tryz.func85, Tryz.ntmps85
  go_wp2_with fail
  go_loop [3, 5, 11] (fun t3 _ t11 => CStC n0 n1 t3 t11) (fun _ _ t11 => 2 - (intOf t11).toNat)
  case atStart => exact .inl ⟨rfl, rfl⟩
  case round =>
    rcases hrel with ⟨rfl, rfl⟩ | ⟨rfl, rfl⟩ | ⟨rfl, rfl⟩
    · go_wp2_with fail
      go_round
      case rel => exact .inr (.inl ⟨rfl, rfl⟩)
      case measure => simp [intOf]
    · go_wp2_with fail
      go_round
      case rel => exact .inr (.inr ⟨rfl, rfl⟩)
      case measure => simp [intOf]
    · go_wp2_with (go_at_call 109; (refine (grow_nil (n0 + n1) _ (by omega)).mono ?_); rintro e w1 ⟨hb1, gv, rfl, hown1⟩)
      go_loopw [6, 8, 27] (fun t6 _ t27 wr => DStC 26 5 w n0 n1 l0 l1 t6 t27 wr) (fun _ _ t27 _ => 2 - (intOf t27).toNat)
      case atStart => exact ⟨0, [], hown1, hb1, .inl ⟨rfl, rfl, rfl⟩⟩
      case round =>
        clear hown1 hb1 h0 h1
        obtain ⟨m, out, hown, hbel, hcase⟩ := hrel
        have HO := Lib.hid hown
        have HBE := Lib.hid hbel
        clear hown hbel
        rcases hcase with ⟨rfl, rfl, rfl⟩ | ⟨rfl, rfl, rfl⟩ | ⟨rfl, rfl, rfl⟩
        · have q := (HBE.out.cell (p := ⟨g, 0, none⟩) hg).trans H0.out
          go_wp2_with (at_builtin; refine wpList_append_rs _ rfl (.tmp 31) (.tmp 32) 24 rfl w.heap.size 26 i0 zeroVal 5 80 Tryz.underlying24 hi hz0 hz1 hz2 rfl (by omega) _ 0 [] rfl HO.out (· < w.heap.size) A0 n0 c0 l0 rfl HL0.out (HR0.out.move fun b hb => ⟨hb, HBE.out.block b hb⟩) HC0.out HO0.out (by unfold maxLen; omega) (by omega) HBE.out.size ?_; intro v2 w2 hown2 hgrow2; have hb2 := HBE.out.grown hgrow2 HBE.out.size (own_ge' HO.out); clear q hgrow2)
          go_roundw
          case rel => exact ⟨_, _, hown2, hb2, .inr (.inl ⟨rfl, List.nil_append _, Nat.zero_add _⟩)⟩
          case measure => simp [intOf]
        · have q := (HBE.out.cell (p := ⟨g, 1, none⟩) hg).trans H1.out
          go_wp2_with (at_builtin; refine wpList_append_rs _ rfl (.tmp 31) (.tmp 32) 24 rfl w.heap.size 26 i0 zeroVal 5 80 Tryz.underlying24 hi hz0 hz1 hz2 rfl (by omega) _ _ _ rfl HO.out (· < w.heap.size) A1 n1 c1 l1 rfl HL1.out (HR1.out.move fun b hb => ⟨hb, HBE.out.block b hb⟩) HC1.out HO1.out (by unfold maxLen; omega) (by omega) HBE.out.size ?_; intro v2 w2 hown2 hgrow2; have hb2 := HBE.out.grown hgrow2 HBE.out.size (own_ge' HO.out); clear q hgrow2)
          go_roundw
          case rel => exact ⟨_, _, hown2, hb2, .inr (.inr ⟨rfl, rfl, rfl⟩)⟩
          case measure => simp [intOf]
        · go_wp2_with fail
          go_ret
          exact ⟨_, rfl, HO.out, HBE.out⟩
end Go.Proofs.YtkohnkofnobakaaGreatDoor
namespace Go.Proofs.YtkohnkofnobakaaGreatDoor
open Go.RowKit Go.Sort
/-- Two arrays of two ints. -/
theorem eq_pair_aux (d : Nat) (x y x' y' : Int) (W : World) : Sem.run Tryz.prog (Op.equalIn (d + 1 + 1) 94 (.agg #[.int .i64 x, .int .i64 y]) (.agg #[.int .i64 x', .int .i64 y'])) W = .ok (x == x' && y == y') W := by
  have hi : ∀ a b W, Sem.run Tryz.prog (Op.equalIn (d + 1) 3 (.int .i64 a) (.int .i64 b)) W = .ok (a == b) W := fun a b W => run_equalIn_int W d 3 .i64 .i64 a b Tryz.underlying3
  have hs := Tryz.sizeOf3
  have ha := Tryz.isAgg3
  rw [Op.equalIn]
  simp only [Sem.run_bind, run_underlying Tryz.underlying94, Result.andThen_ok, hs]
  generalize Op.equalIn (d + 1) = f at hi
  have p0 : ∀ (a b : Value) W, Sem.run Tryz.prog (Go.part 3 #[a, b] 0) W = .ok a W := fun a b W => by simp [Go.part, ha]
  have p1 : ∀ (a b : Value) W, Sem.run Tryz.prog (Go.part 3 #[a, b] 1) W = .ok b W := fun a b W => by simp [Go.part, ha]
  simp [Std.Legacy.Range.forIn_eq_forIn_range', Std.Legacy.Range.size, List.range', hi, p0, p1]
  cases h1 : x == x' <;> cases h2 : y == y' <;> simp_all
theorem eq_pair (x y x' y' : Int) (W : World) : Sem.run Tryz.prog (Op.equalIn 10000 94 (.agg #[.int .i64 x, .int .i64 y]) (.agg #[.int .i64 x', .int .i64 y'])) W = .ok (x == x' && y == y') W := eq_pair_aux 9998 x y x' y' W
/-- The zero cells of a result. -/
def zer5 : Array Value := #[.int .i64 0, .int .i64 0, .string ⟨#[]⟩, .slice none 0 0, .slice none 0 0]
/-- A result stored into its block. -/
theorem ret_put {w W : World} {g : Nat} {v : V} {err : Int} {r0 r1 r2 r3 r4 : Value} (hB : Below w.heap.size w W) (hg : w.heap.size ≤ g) (hgW : g < W.heap.size) (hl : Lies W (fun b => w.heap.size ≤ b ∧ b < W.heap.size ∧ b ≠ g) v [r0, r1, r2, r3, r4]) :
    RetPost v err w (.returned (.tuple #[.agg #[r0, r1, r2, r3, r4], .int .i64 err])) (((((W.setCell ⟨g, 0, none⟩ r0).setCell ⟨g, 1, none⟩ r1).setCell ⟨g, 2, none⟩ r2).setCell ⟨g, 3, none⟩ r3).setCell ⟨g, 4, none⟩ r4) := by
  refine ret_of (ds := [r0, r1, r2, r3, r4]) (((((hB.setCell (by exact hg) _).setCell (by exact hg) _).setCell (by exact hg) _).setCell (by exact hg) _).setCell (by exact hg) _) ?_
  refine hl.move fun b hb => ⟨⟨hb.1, by simp [World.setCell]; omega⟩, ?_⟩
  have hne := hb.2.2
  rw [Below.heap_setCell _ _ _ _ (by simpa using hne), Below.heap_setCell _ _ _ _ (by simpa using hne), Below.heap_setCell _ _ _ _ (by simpa using hne), Below.heap_setCell _ _ _ _ (by simpa using hne), Below.heap_setCell _ _ _ _ (by simpa using hne)]
theorem lies_numv (w : World) (S : Nat → Prop) (n : Int) : Lies w S (numV n) [.int .i64 3, .int .i64 n, .string ⟨#[]⟩, .slice none 0 0, .slice none 0 0] := by
  unfold numV
  rw [Lies]
  exact ⟨⟨Nat.zero_le _, by simp, Nat.zero_le _, Nat.zero_le _⟩, none, 0, none, 0, [], rfl, fun _ => rfl, fun _ => rfl, ⟨Nat.le_refl _, Nat.zero_le _⟩, ⟨Nat.le_refl _, Nat.zero_le _⟩, Rs.nil _ _ _, Rs.nil _ _ _, by rw [LiesL]⟩
/-- The blocks of a function with two values and a result. -/
structure B3 (w : World) (cs ds : Array Value) (W : World) : Prop where
  below : Below w.heap.size w W
  x : Box W w.heap.size 26 cs
  y : Box W (w.heap.size + 1) 26 ds
  r : Box W (w.heap.size + 1 + 1) 26 #[.int .i64 0, .int .i64 0, .string ⟨#[]⟩, .slice none 0 0, .slice none 0 0]
theorem box_at (W : World) (t : TypeId) (cs : Array Value) (p : Nat) (hp : W.heap.size = p) : Box (W.alloc (.cells cs t)) p t cs := by
  subst hp
  exact Box.laid W t cs
theorem B3.start (w : World) (cs ds : Array Value) : B3 w cs ds (((w.alloc (.cells cs 26)).alloc (.cells ds 26)).alloc (.cells #[.int .i64 0, .int .i64 0, .string ⟨#[]⟩, .slice none 0 0, .slice none 0 0] 26)) := by
  exact ⟨((((Below.refl _ _).alloc (Nat.le_refl _) _).alloc (by simp) _).alloc (by simp; omega) _), ((Box.laid w _ cs).alloc _).alloc _, (box_at _ _ _ _ (by simp)).alloc _, box_at _ _ _ _ (by simp)⟩
theorem B3.next {w W W' : World} {cs ds : Array Value} (h : B3 w cs ds W) (hb : Below W.heap.size W W') : B3 w cs ds W' :=
  ⟨chain h.below hb, h.x.below hb h.x.lt, h.y.below hb h.y.lt, h.r.below hb h.r.lt⟩
end Go.Proofs.YtkohnkofnobakaaGreatDoor
namespace Go.Proofs.YtkohnkofnobakaaGreatDoor
open Go.RowKit Go.Sort
set_option maxHeartbeats 4000000 in
set_option maxRecDepth 100000 in
theorem add_num (n n2 : Int) (s s2 : ByteArray) (A B A2 B2 : Option Addr) (la a lb b la2 a2 lb2 b2 : Nat) (w : World) :
    Calls Tryz.prog 48 #[.agg #[.int .i64 3, .int .i64 n, .string s, .slice A la a, .slice B lb b], .agg #[.int .i64 3, .int .i64 n2, .string s2, .slice A2 la2 a2, .slice B2 lb2 b2]] w (RetPost (numV (wrap64 (n + n2))) 0 w) := by
  have EQ := eq_pair
  have hn := Lib.hid (fun (n : Int) W => num_any n W)
  have H0 := Lib.hid (B3.start w #[.int .i64 3, .int .i64 n, .string s, .slice A la a, .slice B lb b] #[.int .i64 3, .int .i64 n2, .string s2, .slice A2 la2 a2, .slice B2 lb2 b2])
  go_enter Tryz.func48, Tryz.ntmps48
  go_wp2_with fail
  refine (hn.out _ _).mono ?_
  rintro e1 w1 ⟨rfl, hb1⟩
  have H1 := Lib.hid (H0.out.next hb1)
  obtain ⟨t0, t1, t2, t3, t4⟩ := box5 H1.out.r
  have z0 := H1.out.r.free 0
  have z1 := H1.out.r.free 1
  have z2 := H1.out.r.free 2
  have z3 := H1.out.r.free 3
  have z4 := H1.out.r.free 4
  clear hb1
  go_wp2_with fail
  refine bodyPost_ret (v := .tuple #[.agg #[.int .i64 3, .int .i64 (wrap64 (n + n2)), .string ⟨#[]⟩, .slice none 0 0, .slice none 0 0], .int .i64 0]) (by simp [results, Tryz.results48, go_sem, t0, t1, t2, t3, t4]) rfl ?_
  exact ret_put H1.out.below (by omega) H1.out.r.lt (lies_numv _ _ _)
set_option maxHeartbeats 4000000 in
set_option maxRecDepth 100000 in
theorem sub_num (n n2 : Int) (s s2 : ByteArray) (A B A2 B2 : Option Addr) (la a lb b la2 a2 lb2 b2 : Nat) (w : World) :
    Calls Tryz.prog 49 #[.agg #[.int .i64 3, .int .i64 n, .string s, .slice A la a, .slice B lb b], .agg #[.int .i64 3, .int .i64 n2, .string s2, .slice A2 la2 a2, .slice B2 lb2 b2]] w (RetPost (numV (wrap64 (n - n2))) 0 w) := by
  have EQ := eq_pair
  have hn := Lib.hid (fun (n : Int) W => num_any n W)
  have H0 := Lib.hid (B3.start w #[.int .i64 3, .int .i64 n, .string s, .slice A la a, .slice B lb b] #[.int .i64 3, .int .i64 n2, .string s2, .slice A2 la2 a2, .slice B2 lb2 b2])
  go_enter Tryz.func49, Tryz.ntmps49
  go_wp2_with fail
  refine (hn.out _ _).mono ?_
  rintro e1 w1 ⟨rfl, hb1⟩
  have H1 := Lib.hid (H0.out.next hb1)
  obtain ⟨t0, t1, t2, t3, t4⟩ := box5 H1.out.r
  have z0 := H1.out.r.free 0
  have z1 := H1.out.r.free 1
  have z2 := H1.out.r.free 2
  have z3 := H1.out.r.free 3
  have z4 := H1.out.r.free 4
  clear hb1
  go_wp2_with fail
  refine bodyPost_ret (v := .tuple #[.agg #[.int .i64 3, .int .i64 (wrap64 (n - n2)), .string ⟨#[]⟩, .slice none 0 0, .slice none 0 0], .int .i64 0]) (by simp [results, Tryz.results49, go_sem, t0, t1, t2, t3, t4]) rfl ?_
  exact ret_put H1.out.below (by omega) H1.out.r.lt (lies_numv _ _ _)
set_option maxHeartbeats 4000000 in
set_option maxRecDepth 100000 in
theorem mul_num (n n2 : Int) (s s2 : ByteArray) (A B A2 B2 : Option Addr) (la a lb b la2 a2 lb2 b2 : Nat) (w : World) :
    Calls Tryz.prog 50 #[.agg #[.int .i64 3, .int .i64 n, .string s, .slice A la a, .slice B lb b], .agg #[.int .i64 3, .int .i64 n2, .string s2, .slice A2 la2 a2, .slice B2 lb2 b2]] w (RetPost (numV (wrap64 (n * n2))) 0 w) := by
  have EQ := eq_pair
  have hn := Lib.hid (fun (n : Int) W => num_any n W)
  have H0 := Lib.hid (B3.start w #[.int .i64 3, .int .i64 n, .string s, .slice A la a, .slice B lb b] #[.int .i64 3, .int .i64 n2, .string s2, .slice A2 la2 a2, .slice B2 lb2 b2])
  go_enter Tryz.func50, Tryz.ntmps50
  go_wp2_with fail
  refine (hn.out _ _).mono ?_
  rintro e1 w1 ⟨rfl, hb1⟩
  have H1 := Lib.hid (H0.out.next hb1)
  obtain ⟨t0, t1, t2, t3, t4⟩ := box5 H1.out.r
  have z0 := H1.out.r.free 0
  have z1 := H1.out.r.free 1
  have z2 := H1.out.r.free 2
  have z3 := H1.out.r.free 3
  have z4 := H1.out.r.free 4
  clear hb1
  go_wp2_with fail
  refine bodyPost_ret (v := .tuple #[.agg #[.int .i64 3, .int .i64 (wrap64 (n * n2)), .string ⟨#[]⟩, .slice none 0 0, .slice none 0 0], .int .i64 0]) (by simp [results, Tryz.results50, go_sem, t0, t1, t2, t3, t4]) rfl ?_
  exact ret_put H1.out.below (by omega) H1.out.r.lt (lies_numv _ _ _)
set_option maxHeartbeats 4000000 in
set_option maxRecDepth 100000 in
theorem div_num (n n2 : Int) (s s2 : ByteArray) (A B A2 B2 : Option Addr) (la a lb b la2 a2 lb2 b2 : Nat) (w : World) (h0 : n2 ≠ 0) :
    Calls Tryz.prog 51 #[.agg #[.int .i64 3, .int .i64 n, .string s, .slice A la a, .slice B lb b], .agg #[.int .i64 3, .int .i64 n2, .string s2, .slice A2 la2 a2, .slice B2 lb2 b2]] w (RetPost (numV (wrap64 (Int.tdiv n n2))) 0 w) := by
  have EQ := eq_pair
  have hn := Lib.hid (fun (n : Int) W => num_any n W)
  have H0 := Lib.hid (B3.start w #[.int .i64 3, .int .i64 n, .string s, .slice A la a, .slice B lb b] #[.int .i64 3, .int .i64 n2, .string s2, .slice A2 la2 a2, .slice B2 lb2 b2])
  have hz : ¬ n2 = 0 := h0
  have hzb : (n2 == 0) = false := by simpa using h0
  go_enter Tryz.func51, Tryz.ntmps51
  go_wp2_with fail
  refine (hn.out _ _).mono ?_
  rintro e1 w1 ⟨rfl, hb1⟩
  have H1 := Lib.hid (H0.out.next hb1)
  obtain ⟨t0, t1, t2, t3, t4⟩ := box5 H1.out.r
  have z0 := H1.out.r.free 0
  have z1 := H1.out.r.free 1
  have z2 := H1.out.r.free 2
  have z3 := H1.out.r.free 3
  have z4 := H1.out.r.free 4
  clear hb1
  go_wp2_with fail
  refine bodyPost_ret (v := .tuple #[.agg #[.int .i64 3, .int .i64 (wrap64 (Int.tdiv n n2)), .string ⟨#[]⟩, .slice none 0 0, .slice none 0 0], .int .i64 0]) (by simp [results, Tryz.results51, go_sem, t0, t1, t2, t3, t4]) rfl ?_
  exact ret_put H1.out.below (by omega) H1.out.r.lt (lies_numv _ _ _)
set_option maxHeartbeats 4000000 in
set_option maxRecDepth 100000 in
theorem rem_num (n n2 : Int) (s s2 : ByteArray) (A B A2 B2 : Option Addr) (la a lb b la2 a2 lb2 b2 : Nat) (w : World) (h0 : n2 ≠ 0) :
    Calls Tryz.prog 52 #[.agg #[.int .i64 3, .int .i64 n, .string s, .slice A la a, .slice B lb b], .agg #[.int .i64 3, .int .i64 n2, .string s2, .slice A2 la2 a2, .slice B2 lb2 b2]] w (RetPost (numV (Int.tmod n n2)) 0 w) := by
  have EQ := eq_pair
  have hn := Lib.hid (fun (n : Int) W => num_any n W)
  have H0 := Lib.hid (B3.start w #[.int .i64 3, .int .i64 n, .string s, .slice A la a, .slice B lb b] #[.int .i64 3, .int .i64 n2, .string s2, .slice A2 la2 a2, .slice B2 lb2 b2])
  have hz : ¬ n2 = 0 := h0
  have hzb : (n2 == 0) = false := by simpa using h0
  go_enter Tryz.func52, Tryz.ntmps52
  go_wp2_with fail
  refine (hn.out _ _).mono ?_
  rintro e1 w1 ⟨rfl, hb1⟩
  have H1 := Lib.hid (H0.out.next hb1)
  obtain ⟨t0, t1, t2, t3, t4⟩ := box5 H1.out.r
  have z0 := H1.out.r.free 0
  have z1 := H1.out.r.free 1
  have z2 := H1.out.r.free 2
  have z3 := H1.out.r.free 3
  have z4 := H1.out.r.free 4
  clear hb1
  go_wp2_with fail
  refine bodyPost_ret (v := .tuple #[.agg #[.int .i64 3, .int .i64 (Int.tmod n n2), .string ⟨#[]⟩, .slice none 0 0, .slice none 0 0], .int .i64 0]) (by simp [results, Tryz.results52, go_sem, t0, t1, t2, t3, t4]) rfl ?_
  exact ret_put H1.out.below (by omega) H1.out.r.lt (lies_numv _ _ _)
set_option maxHeartbeats 4000000 in
set_option maxRecDepth 100000 in
theorem div_zero (n : Int) (s s2 : ByteArray) (A B A2 B2 : Option Addr) (la a lb b la2 a2 lb2 b2 : Nat) (w : World) :
    Calls Tryz.prog 51 #[.agg #[.int .i64 3, .int .i64 n, .string s, .slice A la a, .slice B lb b], .agg #[.int .i64 3, .int .i64 0, .string s2, .slice A2 la2 a2, .slice B2 lb2 b2]] w (RetPost vnull 13 w) := by
  have EQ := eq_pair
  have H1 := Lib.hid (B3.start w #[.int .i64 3, .int .i64 n, .string s, .slice A la a, .slice B lb b] #[.int .i64 3, .int .i64 0, .string s2, .slice A2 la2 a2, .slice B2 lb2 b2])
  go_enter Tryz.func51, Tryz.ntmps51
  go_wp2_with fail
  refine bodyPost_ret (v := .tuple #[.agg #[.int .i64 0, .int .i64 0, .string ⟨#[]⟩, .slice none 0 0, .slice none 0 0], .int .i64 13]) (by simp [results, Tryz.results51, go_sem]) rfl ?_
  exact ret_of (ds := [.int .i64 0, .int .i64 0, .string ⟨#[]⟩, .slice none 0 0, .slice none 0 0]) H1.out.below (lies_null _ _)
set_option maxHeartbeats 4000000 in
set_option maxRecDepth 100000 in
theorem rem_zero (n : Int) (s s2 : ByteArray) (A B A2 B2 : Option Addr) (la a lb b la2 a2 lb2 b2 : Nat) (w : World) :
    Calls Tryz.prog 52 #[.agg #[.int .i64 3, .int .i64 n, .string s, .slice A la a, .slice B lb b], .agg #[.int .i64 3, .int .i64 0, .string s2, .slice A2 la2 a2, .slice B2 lb2 b2]] w (RetPost vnull 13 w) := by
  have EQ := eq_pair
  have H1 := Lib.hid (B3.start w #[.int .i64 3, .int .i64 n, .string s, .slice A la a, .slice B lb b] #[.int .i64 3, .int .i64 0, .string s2, .slice A2 la2 a2, .slice B2 lb2 b2])
  go_enter Tryz.func52, Tryz.ntmps52
  go_wp2_with fail
  refine bodyPost_ret (v := .tuple #[.agg #[.int .i64 0, .int .i64 0, .string ⟨#[]⟩, .slice none 0 0, .slice none 0 0], .int .i64 13]) (by simp [results, Tryz.results52, go_sem]) rfl ?_
  exact ret_of (ds := [.int .i64 0, .int .i64 0, .string ⟨#[]⟩, .slice none 0 0, .slice none 0 0]) H1.out.below (lies_null _ _)
/-- The blocks of a function with one value and a result. -/
structure B2 (w : World) (cs : Array Value) (W : World) : Prop where
  below : Below w.heap.size w W
  x : Box W w.heap.size 26 cs
  r : Box W (w.heap.size + 1) 26 #[.int .i64 0, .int .i64 0, .string ⟨#[]⟩, .slice none 0 0, .slice none 0 0]
theorem B2.start (w : World) (cs : Array Value) : B2 w cs ((w.alloc (.cells cs 26)).alloc (.cells #[.int .i64 0, .int .i64 0, .string ⟨#[]⟩, .slice none 0 0, .slice none 0 0] 26)) :=
  ⟨(((Below.refl _ _).alloc (Nat.le_refl _) _).alloc (by simp) _), (Box.laid w _ cs).alloc _, box_at _ _ _ _ (by simp)⟩
theorem B2.next {w W W' : World} {cs : Array Value} (h : B2 w cs W) (hb : Below W.heap.size W W') : B2 w cs W' :=
  ⟨chain h.below hb, h.x.below hb h.x.lt, h.r.below hb h.r.lt⟩
/-- What Neg answers. -/
def negR (v : V) : V × Int := if valid v = true then (if kd v = 3 then (numV (wrap64 (-nm v)), 0) else (vnull, 12)) else (vnull, 1)
set_option maxHeartbeats 4000000 in
set_option maxRecDepth 100000 in
theorem neg_any (v : V) (cs : List Value) (w : World) (h : Lies w (· < w.heap.size) v cs) : Calls Tryz.prog 23 #[.agg cs.toArray] w (RetPost (negR v).1 (negR v).2 w) := by
  have HV := Lib.hid (fun W (hW : Below w.heap.size w W) => valid_any v cs W (below_lies hW h))
  have hn := Lib.hid (fun (n : Int) W => num_any n W)
  obtain ⟨k, n, s, ks, es⟩ := v
  obtain ⟨A, a, B, b, xs, rfl, _⟩ := lies_open h
  clear h
  have hR : negR (.mk k n s ks es) = if valid (.mk k n s ks es) = true then (if k = 3 then (numV (wrap64 (-n)), 0) else (vnull, 12)) else (vnull, 1) := rfl
  rw [hR]
  clear hR
  generalize valid (.mk k n s ks es) = va at HV ⊢
  generalize ks.length = l1 at *
  generalize es.length = l2 at *
  show Calls _ _ #[.agg #[.int .i64 k, .int .i64 n, .string s, .slice A l1 a, .slice B l2 b]] w _
  have H0 := Lib.hid (B2.start w #[.int .i64 k, .int .i64 n, .string s, .slice A l1 a, .slice B l2 b])
  cases va with
  | false =>
    rw [if_neg (by decide)]
    go_enter Tryz.func23, Tryz.ntmps23
    go_wp2_with fail
    refine (HV.out _ H0.out.below).mono ?_
    rintro e1 w1 ⟨rfl, hb1⟩
    have H1 := Lib.hid (H0.out.next hb1)
    obtain ⟨t0, t1, t2, t3, t4⟩ := box5 H1.out.r
    have z0 := H1.out.r.free 0
    have z1 := H1.out.r.free 1
    have z2 := H1.out.r.free 2
    have z3 := H1.out.r.free 3
    have z4 := H1.out.r.free 4
    go_wp2_with fail
    refine bodyPost_ret (v := .tuple #[.agg #[.int .i64 0, .int .i64 0, .string ⟨#[]⟩, .slice none 0 0, .slice none 0 0], .int .i64 1]) (by simp [results, Tryz.results23, go_sem, t0, t1, t2, t3, t4]) rfl ?_
    exact ret_put H1.out.below (by omega) H1.out.r.lt (lies_null _ _)
  | true =>
    rw [if_pos rfl]
    by_cases hk : k = 3
    · subst hk
      rw [if_pos rfl]
      go_enter Tryz.func23, Tryz.ntmps23
      go_wp2_with fail
      refine (HV.out _ H0.out.below).mono ?_
      rintro e1 w1 ⟨rfl, hb1⟩
      have H1 := Lib.hid (H0.out.next hb1)
      obtain ⟨x0, x1, x2, x3, x4⟩ := box5 H1.out.x
      clear hb1 H0
      go_wp2_with fail
      refine (hn.out _ _).mono ?_
      rintro e2 w2 ⟨rfl, hb2⟩
      have H2 := Lib.hid (H1.out.next hb2)
      clear x0 x1 x2 x3 x4 hb2
      obtain ⟨t0, t1, t2, t3, t4⟩ := box5 H2.out.r
      have z0 := H2.out.r.free 0
      have z1 := H2.out.r.free 1
      have z2 := H2.out.r.free 2
      have z3 := H2.out.r.free 3
      have z4 := H2.out.r.free 4
      go_wp2_with fail
      refine bodyPost_ret (v := .tuple #[.agg #[.int .i64 3, .int .i64 (wrap64 (-n)), .string ⟨#[]⟩, .slice none 0 0, .slice none 0 0], .int .i64 0]) (by simp [results, Tryz.results23, go_sem, t0, t1, t2, t3, t4]) rfl ?_
      exact ret_put H2.out.below (by omega) H2.out.r.lt (lies_numv _ _ _)
    · rw [if_neg hk]
      have hkb : (k == 3) = false := by simpa using hk
      have hkc : (k != 3) = true := by simpa using hk
      go_enter Tryz.func23, Tryz.ntmps23
      go_wp2_with fail
      refine (HV.out _ H0.out.below).mono ?_
      rintro e1 w1 ⟨rfl, hb1⟩
      have H1 := Lib.hid (H0.out.next hb1)
      obtain ⟨x0, x1, x2, x3, x4⟩ := box5 H1.out.x
      obtain ⟨t0, t1, t2, t3, t4⟩ := box5 H1.out.r
      have z0 := H1.out.r.free 0
      have z1 := H1.out.r.free 1
      have z2 := H1.out.r.free 2
      have z3 := H1.out.r.free 3
      have z4 := H1.out.r.free 4
      go_wp2_with fail
      refine bodyPost_ret (v := .tuple #[.agg #[.int .i64 0, .int .i64 0, .string ⟨#[]⟩, .slice none 0 0, .slice none 0 0], .int .i64 12]) (by simp [results, Tryz.results23, go_sem, t0, t1, t2, t3, t4]) rfl ?_
      exact ret_put H1.out.below (by omega) H1.out.r.lt (lies_null _ _)
end Go.Proofs.YtkohnkofnobakaaGreatDoor
namespace Go.Proofs.YtkohnkofnobakaaGreatDoor
open Go.RowKit Go.Sort
set_option maxHeartbeats 1000000 in
set_option maxRecDepth 100000 in
theorem bin_add (v u : V) (cs ds : List Value) (w : World) (h : Lies w (· < w.heap.size) v cs) (h' : Lies w (· < w.heap.size) u ds) (hv : valid v = true) (hu : valid u = true) (r : V) (er : Int)
    (hc : ∀ W, Below w.heap.size w W → Calls Tryz.prog 48 #[.agg cs.toArray, .agg ds.toArray] W (RetPost r er W)) :
    Calls Tryz.prog 18 #[.string ⟨#[43]⟩, .agg cs.toArray, .agg ds.toArray] w (RetPost r er w) := by
  have HV := Lib.hid (fun W (hW : Below w.heap.size w W) => valid_any v cs W (below_lies hW h))
  have HU := Lib.hid (fun W (hW : Below w.heap.size w W) => valid_any u ds W (below_lies hW h'))
  rw [hv] at HV
  rw [hu] at HU
  obtain ⟨k, n, s, ks, es⟩ := v
  obtain ⟨A, a, B, b, xs, rfl, _⟩ := lies_open h
  obtain ⟨k2, n2, s2, ks2, es2⟩ := u
  obtain ⟨A2, a2, B2, b2, xs2, rfl, _⟩ := lies_open h'
  have HC := Lib.hid (fun W hW => ret_open (hc W hW))
  clear h h' hv hu hc
  generalize ks.length = l1 at *
  generalize es.length = l2 at *
  generalize ks2.length = l3 at *
  generalize es2.length = l4 at *
  show Calls _ _ #[_, .agg #[.int .i64 k, .int .i64 n, .string s, .slice A l1 a, .slice B l2 b], .agg #[.int .i64 k2, .int .i64 n2, .string s2, .slice A2 l3 a2, .slice B2 l4 b2]] w _
  have H0 := Lib.hid (B3.start w #[.int .i64 k, .int .i64 n, .string s, .slice A l1 a, .slice B l2 b] #[.int .i64 k2, .int .i64 n2, .string s2, .slice A2 l3 a2, .slice B2 l4 b2])
  go_enter Tryz.func18, Tryz.ntmps18
  go_wp2_with fail
  refine (HV.out _ H0.out.below).mono ?_
  rintro e1 w1 ⟨rfl, hb1⟩
  have H1 := Lib.hid (H0.out.next hb1)
  obtain ⟨y0, y1, y2, y3, y4⟩ := box5 H1.out.y
  clear hb1 H0
  go_wp2_with fail
  refine (HU.out _ H1.out.below).mono ?_
  rintro e2 w2 ⟨rfl, hb2⟩
  have H2 := Lib.hid (H1.out.next hb2)
  clear hb2 H1 y0 y1 y2 y3 y4
  obtain ⟨x0, x1, x2, x3, x4⟩ := box5 H2.out.x
  obtain ⟨y0, y1, y2, y3, y4⟩ := box5 H2.out.y
  go_wp2_with fail
  refine (HC.out _ H2.out.below).mono ?_
  rintro e3 w3 ⟨rk, rn, rs, rks, res, RA, ra, RC, rc, hrv, rfl, hb3, hl3⟩
  have H3 := Lib.hid (H2.out.next hb3)
  have HL := Lib.hid hl3
  have hs2 := H2.out.r.lt
  have hs3 := H2.out.below.size
  clear hb3 x0 x1 x2 x3 x4 y0 y1 y2 y3 y4 hl3 hrv
  obtain ⟨t0, t1, t2, t3, t4⟩ := box5 H3.out.r
  have z0 := H3.out.r.free 0
  have z1 := H3.out.r.free 1
  have z2 := H3.out.r.free 2
  have z3 := H3.out.r.free 3
  have z4 := H3.out.r.free 4
  go_wp2_with fail
  refine bodyPost_ret (v := .tuple #[.agg #[.int .i64 rk, .int .i64 rn, .string rs, .slice RA rks.length ra, .slice RC res.length rc], .int .i64 er]) (by simp [results, Tryz.results18, go_sem, t0, t1, t2, t3, t4]) rfl ?_
  exact ret_put H3.out.below (by omega) H3.out.r.lt (HL.out.move fun b hb => ⟨⟨by omega, hb.2, by omega⟩, rfl⟩)
set_option maxHeartbeats 1000000 in
set_option maxRecDepth 100000 in
theorem bin_sub (v u : V) (cs ds : List Value) (w : World) (h : Lies w (· < w.heap.size) v cs) (h' : Lies w (· < w.heap.size) u ds) (hv : valid v = true) (hu : valid u = true) (r : V) (er : Int)
    (hc : ∀ W, Below w.heap.size w W → Calls Tryz.prog 49 #[.agg cs.toArray, .agg ds.toArray] W (RetPost r er W)) :
    Calls Tryz.prog 18 #[.string ⟨#[45]⟩, .agg cs.toArray, .agg ds.toArray] w (RetPost r er w) := by
  have HV := Lib.hid (fun W (hW : Below w.heap.size w W) => valid_any v cs W (below_lies hW h))
  have HU := Lib.hid (fun W (hW : Below w.heap.size w W) => valid_any u ds W (below_lies hW h'))
  rw [hv] at HV
  rw [hu] at HU
  obtain ⟨k, n, s, ks, es⟩ := v
  obtain ⟨A, a, B, b, xs, rfl, _⟩ := lies_open h
  obtain ⟨k2, n2, s2, ks2, es2⟩ := u
  obtain ⟨A2, a2, B2, b2, xs2, rfl, _⟩ := lies_open h'
  have HC := Lib.hid (fun W hW => ret_open (hc W hW))
  clear h h' hv hu hc
  generalize ks.length = l1 at *
  generalize es.length = l2 at *
  generalize ks2.length = l3 at *
  generalize es2.length = l4 at *
  show Calls _ _ #[_, .agg #[.int .i64 k, .int .i64 n, .string s, .slice A l1 a, .slice B l2 b], .agg #[.int .i64 k2, .int .i64 n2, .string s2, .slice A2 l3 a2, .slice B2 l4 b2]] w _
  have H0 := Lib.hid (B3.start w #[.int .i64 k, .int .i64 n, .string s, .slice A l1 a, .slice B l2 b] #[.int .i64 k2, .int .i64 n2, .string s2, .slice A2 l3 a2, .slice B2 l4 b2])
  go_enter Tryz.func18, Tryz.ntmps18
  go_wp2_with fail
  refine (HV.out _ H0.out.below).mono ?_
  rintro e1 w1 ⟨rfl, hb1⟩
  have H1 := Lib.hid (H0.out.next hb1)
  obtain ⟨y0, y1, y2, y3, y4⟩ := box5 H1.out.y
  clear hb1 H0
  go_wp2_with fail
  refine (HU.out _ H1.out.below).mono ?_
  rintro e2 w2 ⟨rfl, hb2⟩
  have H2 := Lib.hid (H1.out.next hb2)
  clear hb2 H1 y0 y1 y2 y3 y4
  obtain ⟨x0, x1, x2, x3, x4⟩ := box5 H2.out.x
  obtain ⟨y0, y1, y2, y3, y4⟩ := box5 H2.out.y
  go_wp2_with fail
  refine (HC.out _ H2.out.below).mono ?_
  rintro e3 w3 ⟨rk, rn, rs, rks, res, RA, ra, RC, rc, hrv, rfl, hb3, hl3⟩
  have H3 := Lib.hid (H2.out.next hb3)
  have HL := Lib.hid hl3
  have hs2 := H2.out.r.lt
  have hs3 := H2.out.below.size
  clear hb3 x0 x1 x2 x3 x4 y0 y1 y2 y3 y4 hl3 hrv
  obtain ⟨t0, t1, t2, t3, t4⟩ := box5 H3.out.r
  have z0 := H3.out.r.free 0
  have z1 := H3.out.r.free 1
  have z2 := H3.out.r.free 2
  have z3 := H3.out.r.free 3
  have z4 := H3.out.r.free 4
  go_wp2_with fail
  refine bodyPost_ret (v := .tuple #[.agg #[.int .i64 rk, .int .i64 rn, .string rs, .slice RA rks.length ra, .slice RC res.length rc], .int .i64 er]) (by simp [results, Tryz.results18, go_sem, t0, t1, t2, t3, t4]) rfl ?_
  exact ret_put H3.out.below (by omega) H3.out.r.lt (HL.out.move fun b hb => ⟨⟨by omega, hb.2, by omega⟩, rfl⟩)
set_option maxHeartbeats 1000000 in
set_option maxRecDepth 100000 in
theorem bin_mul (v u : V) (cs ds : List Value) (w : World) (h : Lies w (· < w.heap.size) v cs) (h' : Lies w (· < w.heap.size) u ds) (hv : valid v = true) (hu : valid u = true) (r : V) (er : Int)
    (hc : ∀ W, Below w.heap.size w W → Calls Tryz.prog 50 #[.agg cs.toArray, .agg ds.toArray] W (RetPost r er W)) :
    Calls Tryz.prog 18 #[.string ⟨#[42]⟩, .agg cs.toArray, .agg ds.toArray] w (RetPost r er w) := by
  have HV := Lib.hid (fun W (hW : Below w.heap.size w W) => valid_any v cs W (below_lies hW h))
  have HU := Lib.hid (fun W (hW : Below w.heap.size w W) => valid_any u ds W (below_lies hW h'))
  rw [hv] at HV
  rw [hu] at HU
  obtain ⟨k, n, s, ks, es⟩ := v
  obtain ⟨A, a, B, b, xs, rfl, _⟩ := lies_open h
  obtain ⟨k2, n2, s2, ks2, es2⟩ := u
  obtain ⟨A2, a2, B2, b2, xs2, rfl, _⟩ := lies_open h'
  have HC := Lib.hid (fun W hW => ret_open (hc W hW))
  clear h h' hv hu hc
  generalize ks.length = l1 at *
  generalize es.length = l2 at *
  generalize ks2.length = l3 at *
  generalize es2.length = l4 at *
  show Calls _ _ #[_, .agg #[.int .i64 k, .int .i64 n, .string s, .slice A l1 a, .slice B l2 b], .agg #[.int .i64 k2, .int .i64 n2, .string s2, .slice A2 l3 a2, .slice B2 l4 b2]] w _
  have H0 := Lib.hid (B3.start w #[.int .i64 k, .int .i64 n, .string s, .slice A l1 a, .slice B l2 b] #[.int .i64 k2, .int .i64 n2, .string s2, .slice A2 l3 a2, .slice B2 l4 b2])
  go_enter Tryz.func18, Tryz.ntmps18
  go_wp2_with fail
  refine (HV.out _ H0.out.below).mono ?_
  rintro e1 w1 ⟨rfl, hb1⟩
  have H1 := Lib.hid (H0.out.next hb1)
  obtain ⟨y0, y1, y2, y3, y4⟩ := box5 H1.out.y
  clear hb1 H0
  go_wp2_with fail
  refine (HU.out _ H1.out.below).mono ?_
  rintro e2 w2 ⟨rfl, hb2⟩
  have H2 := Lib.hid (H1.out.next hb2)
  clear hb2 H1 y0 y1 y2 y3 y4
  obtain ⟨x0, x1, x2, x3, x4⟩ := box5 H2.out.x
  obtain ⟨y0, y1, y2, y3, y4⟩ := box5 H2.out.y
  go_wp2_with fail
  refine (HC.out _ H2.out.below).mono ?_
  rintro e3 w3 ⟨rk, rn, rs, rks, res, RA, ra, RC, rc, hrv, rfl, hb3, hl3⟩
  have H3 := Lib.hid (H2.out.next hb3)
  have HL := Lib.hid hl3
  have hs2 := H2.out.r.lt
  have hs3 := H2.out.below.size
  clear hb3 x0 x1 x2 x3 x4 y0 y1 y2 y3 y4 hl3 hrv
  obtain ⟨t0, t1, t2, t3, t4⟩ := box5 H3.out.r
  have z0 := H3.out.r.free 0
  have z1 := H3.out.r.free 1
  have z2 := H3.out.r.free 2
  have z3 := H3.out.r.free 3
  have z4 := H3.out.r.free 4
  go_wp2_with fail
  refine bodyPost_ret (v := .tuple #[.agg #[.int .i64 rk, .int .i64 rn, .string rs, .slice RA rks.length ra, .slice RC res.length rc], .int .i64 er]) (by simp [results, Tryz.results18, go_sem, t0, t1, t2, t3, t4]) rfl ?_
  exact ret_put H3.out.below (by omega) H3.out.r.lt (HL.out.move fun b hb => ⟨⟨by omega, hb.2, by omega⟩, rfl⟩)
set_option maxHeartbeats 1000000 in
set_option maxRecDepth 100000 in
theorem bin_div (v u : V) (cs ds : List Value) (w : World) (h : Lies w (· < w.heap.size) v cs) (h' : Lies w (· < w.heap.size) u ds) (hv : valid v = true) (hu : valid u = true) (r : V) (er : Int)
    (hc : ∀ W, Below w.heap.size w W → Calls Tryz.prog 51 #[.agg cs.toArray, .agg ds.toArray] W (RetPost r er W)) :
    Calls Tryz.prog 18 #[.string ⟨#[47]⟩, .agg cs.toArray, .agg ds.toArray] w (RetPost r er w) := by
  have HV := Lib.hid (fun W (hW : Below w.heap.size w W) => valid_any v cs W (below_lies hW h))
  have HU := Lib.hid (fun W (hW : Below w.heap.size w W) => valid_any u ds W (below_lies hW h'))
  rw [hv] at HV
  rw [hu] at HU
  obtain ⟨k, n, s, ks, es⟩ := v
  obtain ⟨A, a, B, b, xs, rfl, _⟩ := lies_open h
  obtain ⟨k2, n2, s2, ks2, es2⟩ := u
  obtain ⟨A2, a2, B2, b2, xs2, rfl, _⟩ := lies_open h'
  have HC := Lib.hid (fun W hW => ret_open (hc W hW))
  clear h h' hv hu hc
  generalize ks.length = l1 at *
  generalize es.length = l2 at *
  generalize ks2.length = l3 at *
  generalize es2.length = l4 at *
  show Calls _ _ #[_, .agg #[.int .i64 k, .int .i64 n, .string s, .slice A l1 a, .slice B l2 b], .agg #[.int .i64 k2, .int .i64 n2, .string s2, .slice A2 l3 a2, .slice B2 l4 b2]] w _
  have H0 := Lib.hid (B3.start w #[.int .i64 k, .int .i64 n, .string s, .slice A l1 a, .slice B l2 b] #[.int .i64 k2, .int .i64 n2, .string s2, .slice A2 l3 a2, .slice B2 l4 b2])
  go_enter Tryz.func18, Tryz.ntmps18
  go_wp2_with fail
  refine (HV.out _ H0.out.below).mono ?_
  rintro e1 w1 ⟨rfl, hb1⟩
  have H1 := Lib.hid (H0.out.next hb1)
  obtain ⟨y0, y1, y2, y3, y4⟩ := box5 H1.out.y
  clear hb1 H0
  go_wp2_with fail
  refine (HU.out _ H1.out.below).mono ?_
  rintro e2 w2 ⟨rfl, hb2⟩
  have H2 := Lib.hid (H1.out.next hb2)
  clear hb2 H1 y0 y1 y2 y3 y4
  obtain ⟨x0, x1, x2, x3, x4⟩ := box5 H2.out.x
  obtain ⟨y0, y1, y2, y3, y4⟩ := box5 H2.out.y
  go_wp2_with fail
  refine (HC.out _ H2.out.below).mono ?_
  rintro e3 w3 ⟨rk, rn, rs, rks, res, RA, ra, RC, rc, hrv, rfl, hb3, hl3⟩
  have H3 := Lib.hid (H2.out.next hb3)
  have HL := Lib.hid hl3
  have hs2 := H2.out.r.lt
  have hs3 := H2.out.below.size
  clear hb3 x0 x1 x2 x3 x4 y0 y1 y2 y3 y4 hl3 hrv
  obtain ⟨t0, t1, t2, t3, t4⟩ := box5 H3.out.r
  have z0 := H3.out.r.free 0
  have z1 := H3.out.r.free 1
  have z2 := H3.out.r.free 2
  have z3 := H3.out.r.free 3
  have z4 := H3.out.r.free 4
  go_wp2_with fail
  refine bodyPost_ret (v := .tuple #[.agg #[.int .i64 rk, .int .i64 rn, .string rs, .slice RA rks.length ra, .slice RC res.length rc], .int .i64 er]) (by simp [results, Tryz.results18, go_sem, t0, t1, t2, t3, t4]) rfl ?_
  exact ret_put H3.out.below (by omega) H3.out.r.lt (HL.out.move fun b hb => ⟨⟨by omega, hb.2, by omega⟩, rfl⟩)
set_option maxHeartbeats 1000000 in
set_option maxRecDepth 100000 in
theorem bin_rem (v u : V) (cs ds : List Value) (w : World) (h : Lies w (· < w.heap.size) v cs) (h' : Lies w (· < w.heap.size) u ds) (hv : valid v = true) (hu : valid u = true) (r : V) (er : Int)
    (hc : ∀ W, Below w.heap.size w W → Calls Tryz.prog 52 #[.agg cs.toArray, .agg ds.toArray] W (RetPost r er W)) :
    Calls Tryz.prog 18 #[.string ⟨#[37]⟩, .agg cs.toArray, .agg ds.toArray] w (RetPost r er w) := by
  have HV := Lib.hid (fun W (hW : Below w.heap.size w W) => valid_any v cs W (below_lies hW h))
  have HU := Lib.hid (fun W (hW : Below w.heap.size w W) => valid_any u ds W (below_lies hW h'))
  rw [hv] at HV
  rw [hu] at HU
  obtain ⟨k, n, s, ks, es⟩ := v
  obtain ⟨A, a, B, b, xs, rfl, _⟩ := lies_open h
  obtain ⟨k2, n2, s2, ks2, es2⟩ := u
  obtain ⟨A2, a2, B2, b2, xs2, rfl, _⟩ := lies_open h'
  have HC := Lib.hid (fun W hW => ret_open (hc W hW))
  clear h h' hv hu hc
  generalize ks.length = l1 at *
  generalize es.length = l2 at *
  generalize ks2.length = l3 at *
  generalize es2.length = l4 at *
  show Calls _ _ #[_, .agg #[.int .i64 k, .int .i64 n, .string s, .slice A l1 a, .slice B l2 b], .agg #[.int .i64 k2, .int .i64 n2, .string s2, .slice A2 l3 a2, .slice B2 l4 b2]] w _
  have H0 := Lib.hid (B3.start w #[.int .i64 k, .int .i64 n, .string s, .slice A l1 a, .slice B l2 b] #[.int .i64 k2, .int .i64 n2, .string s2, .slice A2 l3 a2, .slice B2 l4 b2])
  go_enter Tryz.func18, Tryz.ntmps18
  go_wp2_with fail
  refine (HV.out _ H0.out.below).mono ?_
  rintro e1 w1 ⟨rfl, hb1⟩
  have H1 := Lib.hid (H0.out.next hb1)
  obtain ⟨y0, y1, y2, y3, y4⟩ := box5 H1.out.y
  clear hb1 H0
  go_wp2_with fail
  refine (HU.out _ H1.out.below).mono ?_
  rintro e2 w2 ⟨rfl, hb2⟩
  have H2 := Lib.hid (H1.out.next hb2)
  clear hb2 H1 y0 y1 y2 y3 y4
  obtain ⟨x0, x1, x2, x3, x4⟩ := box5 H2.out.x
  obtain ⟨y0, y1, y2, y3, y4⟩ := box5 H2.out.y
  go_wp2_with fail
  refine (HC.out _ H2.out.below).mono ?_
  rintro e3 w3 ⟨rk, rn, rs, rks, res, RA, ra, RC, rc, hrv, rfl, hb3, hl3⟩
  have H3 := Lib.hid (H2.out.next hb3)
  have HL := Lib.hid hl3
  have hs2 := H2.out.r.lt
  have hs3 := H2.out.below.size
  clear hb3 x0 x1 x2 x3 x4 y0 y1 y2 y3 y4 hl3 hrv
  obtain ⟨t0, t1, t2, t3, t4⟩ := box5 H3.out.r
  have z0 := H3.out.r.free 0
  have z1 := H3.out.r.free 1
  have z2 := H3.out.r.free 2
  have z3 := H3.out.r.free 3
  have z4 := H3.out.r.free 4
  go_wp2_with fail
  refine bodyPost_ret (v := .tuple #[.agg #[.int .i64 rk, .int .i64 rn, .string rs, .slice RA rks.length ra, .slice RC res.length rc], .int .i64 er]) (by simp [results, Tryz.results18, go_sem, t0, t1, t2, t3, t4]) rfl ?_
  exact ret_put H3.out.below (by omega) H3.out.r.lt (HL.out.move fun b hb => ⟨⟨by omega, hb.2, by omega⟩, rfl⟩)
/-- The results of comparisons. -/
def opB (op : ByteArray) (c : Int) : Bool :=
  if op = ⟨#[61, 61]⟩ then decide (c = 0) else if op = ⟨#[33, 61]⟩ then !decide (c = 0) else if op = ⟨#[60]⟩ then decide (c < 0) else if op = ⟨#[60, 61]⟩ then decide (c ≤ 0) else if op = ⟨#[62]⟩ then decide (0 < c) else decide (0 ≤ c)
theorem lies_boolv (w : World) (S : Nat → Prop) (b : Bool) : Lies w S (boolV b) [.int .i64 (if b then 2 else 1), .int .i64 0, .string ⟨#[]⟩, .slice none 0 0, .slice none 0 0] := by
  unfold boolV
  rw [Lies]
  exact ⟨⟨Nat.zero_le _, by simp, Nat.zero_le _, Nat.zero_le _⟩, none, 0, none, 0, [], rfl, fun _ => rfl, fun _ => rfl, ⟨Nat.le_refl _, Nat.zero_le _⟩, ⟨Nat.le_refl _, Nat.zero_le _⟩, Rs.nil _ _ _, Rs.nil _ _ _, by rw [LiesL]⟩
set_option maxHeartbeats 1000000 in
set_option maxRecDepth 100000 in
theorem cmpop_eq (c : Int) (w : World) : Calls Tryz.prog 53 #[.string ⟨#[61, 61]⟩, .int .i64 c] w (RetPost (boolV (decide (c = 0))) 0 w) := by
  have hbl := Lib.hid (fun (b : Bool) W => bool_any b W)
  have hr := Lib.hid (box_at w 26 #[.int .i64 0, .int .i64 0, .string ⟨#[]⟩, .slice none 0 0, .slice none 0 0] w.heap.size rfl)
  by_cases hc : c = 0
  · have hcd : (decide (c = 0)) = true := by simp [hc]
    rw [hcd]
    have hcb : (c == 0) = decide (c = 0) := by by_cases h : c = 0 <;> simp [h]
    have hcn : (c != 0) = !decide (c = 0) := by by_cases h : c = 0 <;> simp [h]
    have hcd2 : decide (c = 0) = true := by simp [hc]
    go_enter Tryz.func53, Tryz.ntmps53
    go_wp2_with fail
    refine (hbl.out _ _).mono ?_
    rintro e1 w1 ⟨rfl, hb1⟩
    have H1 := Lib.hid (hr.out.below hb1 hr.out.lt)
    have HB := Lib.hid (chain (below1 w _) hb1)
    obtain ⟨t0, t1, t2, t3, t4⟩ := box5 H1.out
    have z0 := H1.out.free 0
    have z1 := H1.out.free 1
    have z2 := H1.out.free 2
    have z3 := H1.out.free 3
    have z4 := H1.out.free 4
    clear hb1 hcd
    go_wp2_with fail
    refine bodyPost_ret (v := .tuple #[.agg #[.int .i64 2, .int .i64 0, .string ⟨#[]⟩, .slice none 0 0, .slice none 0 0], .int .i64 0]) (by simp [results, Tryz.results53, go_sem, t0, t1, t2, t3, t4]) rfl ?_
    exact ret_put HB.out (Nat.le_refl _) H1.out.lt (lies_boolv w1 _ true)
  · have hcd : (decide (c = 0)) = false := by simp [hc]
    rw [hcd]
    have hcb : (c == 0) = decide (c = 0) := by by_cases h : c = 0 <;> simp [h]
    have hcn : (c != 0) = !decide (c = 0) := by by_cases h : c = 0 <;> simp [h]
    have hcd2 : decide (c = 0) = false := by simp [hc]
    go_enter Tryz.func53, Tryz.ntmps53
    go_wp2_with fail
    refine (hbl.out _ _).mono ?_
    rintro e1 w1 ⟨rfl, hb1⟩
    have H1 := Lib.hid (hr.out.below hb1 hr.out.lt)
    have HB := Lib.hid (chain (below1 w _) hb1)
    obtain ⟨t0, t1, t2, t3, t4⟩ := box5 H1.out
    have z0 := H1.out.free 0
    have z1 := H1.out.free 1
    have z2 := H1.out.free 2
    have z3 := H1.out.free 3
    have z4 := H1.out.free 4
    clear hb1 hcd
    go_wp2_with fail
    refine bodyPost_ret (v := .tuple #[.agg #[.int .i64 1, .int .i64 0, .string ⟨#[]⟩, .slice none 0 0, .slice none 0 0], .int .i64 0]) (by simp [results, Tryz.results53, go_sem, t0, t1, t2, t3, t4]) rfl ?_
    exact ret_put HB.out (Nat.le_refl _) H1.out.lt (lies_boolv w1 _ false)
set_option maxHeartbeats 1000000 in
set_option maxRecDepth 100000 in
theorem cmpop_ne (c : Int) (w : World) : Calls Tryz.prog 53 #[.string ⟨#[33, 61]⟩, .int .i64 c] w (RetPost (boolV (!decide (c = 0))) 0 w) := by
  have hbl := Lib.hid (fun (b : Bool) W => bool_any b W)
  have hr := Lib.hid (box_at w 26 #[.int .i64 0, .int .i64 0, .string ⟨#[]⟩, .slice none 0 0, .slice none 0 0] w.heap.size rfl)
  by_cases hc : c = 0
  · have hcd : (!decide (c = 0)) = false := by simp [hc]
    rw [hcd]
    have hcb : (c == 0) = decide (c = 0) := by by_cases h : c = 0 <;> simp [h]
    have hcn : (c != 0) = !decide (c = 0) := by by_cases h : c = 0 <;> simp [h]
    have hcd2 : decide (c = 0) = true := by simp [hc]
    go_enter Tryz.func53, Tryz.ntmps53
    go_wp2_with fail
    refine (hbl.out _ _).mono ?_
    rintro e1 w1 ⟨rfl, hb1⟩
    have H1 := Lib.hid (hr.out.below hb1 hr.out.lt)
    have HB := Lib.hid (chain (below1 w _) hb1)
    obtain ⟨t0, t1, t2, t3, t4⟩ := box5 H1.out
    have z0 := H1.out.free 0
    have z1 := H1.out.free 1
    have z2 := H1.out.free 2
    have z3 := H1.out.free 3
    have z4 := H1.out.free 4
    clear hb1 hcd
    go_wp2_with fail
    refine bodyPost_ret (v := .tuple #[.agg #[.int .i64 1, .int .i64 0, .string ⟨#[]⟩, .slice none 0 0, .slice none 0 0], .int .i64 0]) (by simp [results, Tryz.results53, go_sem, t0, t1, t2, t3, t4]) rfl ?_
    exact ret_put HB.out (Nat.le_refl _) H1.out.lt (lies_boolv w1 _ false)
  · have hcd : (!decide (c = 0)) = true := by simp [hc]
    rw [hcd]
    have hcb : (c == 0) = decide (c = 0) := by by_cases h : c = 0 <;> simp [h]
    have hcn : (c != 0) = !decide (c = 0) := by by_cases h : c = 0 <;> simp [h]
    have hcd2 : decide (c = 0) = false := by simp [hc]
    go_enter Tryz.func53, Tryz.ntmps53
    go_wp2_with fail
    refine (hbl.out _ _).mono ?_
    rintro e1 w1 ⟨rfl, hb1⟩
    have H1 := Lib.hid (hr.out.below hb1 hr.out.lt)
    have HB := Lib.hid (chain (below1 w _) hb1)
    obtain ⟨t0, t1, t2, t3, t4⟩ := box5 H1.out
    have z0 := H1.out.free 0
    have z1 := H1.out.free 1
    have z2 := H1.out.free 2
    have z3 := H1.out.free 3
    have z4 := H1.out.free 4
    clear hb1 hcd
    go_wp2_with fail
    refine bodyPost_ret (v := .tuple #[.agg #[.int .i64 2, .int .i64 0, .string ⟨#[]⟩, .slice none 0 0, .slice none 0 0], .int .i64 0]) (by simp [results, Tryz.results53, go_sem, t0, t1, t2, t3, t4]) rfl ?_
    exact ret_put HB.out (Nat.le_refl _) H1.out.lt (lies_boolv w1 _ true)
set_option maxHeartbeats 1000000 in
set_option maxRecDepth 100000 in
theorem cmpop_lt (c : Int) (w : World) : Calls Tryz.prog 53 #[.string ⟨#[60]⟩, .int .i64 c] w (RetPost (boolV (decide (c < 0))) 0 w) := by
  have hbl := Lib.hid (fun (b : Bool) W => bool_any b W)
  have hr := Lib.hid (box_at w 26 #[.int .i64 0, .int .i64 0, .string ⟨#[]⟩, .slice none 0 0, .slice none 0 0] w.heap.size rfl)
  by_cases hc : c < 0
  · have hcd : (decide (c < 0)) = true := by simp [hc]
    rw [hcd]
    have hcb : (c == 0) = decide (c = 0) := by by_cases h : c = 0 <;> simp [h]
    have hcn : (c != 0) = !decide (c = 0) := by by_cases h : c = 0 <;> simp [h]
    have hcd2 : decide (c < 0) = true := by simp [hc]
    go_enter Tryz.func53, Tryz.ntmps53
    go_wp2_with fail
    refine (hbl.out _ _).mono ?_
    rintro e1 w1 ⟨rfl, hb1⟩
    have H1 := Lib.hid (hr.out.below hb1 hr.out.lt)
    have HB := Lib.hid (chain (below1 w _) hb1)
    obtain ⟨t0, t1, t2, t3, t4⟩ := box5 H1.out
    have z0 := H1.out.free 0
    have z1 := H1.out.free 1
    have z2 := H1.out.free 2
    have z3 := H1.out.free 3
    have z4 := H1.out.free 4
    clear hb1 hcd
    go_wp2_with fail
    refine bodyPost_ret (v := .tuple #[.agg #[.int .i64 2, .int .i64 0, .string ⟨#[]⟩, .slice none 0 0, .slice none 0 0], .int .i64 0]) (by simp [results, Tryz.results53, go_sem, t0, t1, t2, t3, t4]) rfl ?_
    exact ret_put HB.out (Nat.le_refl _) H1.out.lt (lies_boolv w1 _ true)
  · have hcd : (decide (c < 0)) = false := by simp [hc]
    rw [hcd]
    have hcb : (c == 0) = decide (c = 0) := by by_cases h : c = 0 <;> simp [h]
    have hcn : (c != 0) = !decide (c = 0) := by by_cases h : c = 0 <;> simp [h]
    have hcd2 : decide (c < 0) = false := by simp [hc]
    go_enter Tryz.func53, Tryz.ntmps53
    go_wp2_with fail
    refine (hbl.out _ _).mono ?_
    rintro e1 w1 ⟨rfl, hb1⟩
    have H1 := Lib.hid (hr.out.below hb1 hr.out.lt)
    have HB := Lib.hid (chain (below1 w _) hb1)
    obtain ⟨t0, t1, t2, t3, t4⟩ := box5 H1.out
    have z0 := H1.out.free 0
    have z1 := H1.out.free 1
    have z2 := H1.out.free 2
    have z3 := H1.out.free 3
    have z4 := H1.out.free 4
    clear hb1 hcd
    go_wp2_with fail
    refine bodyPost_ret (v := .tuple #[.agg #[.int .i64 1, .int .i64 0, .string ⟨#[]⟩, .slice none 0 0, .slice none 0 0], .int .i64 0]) (by simp [results, Tryz.results53, go_sem, t0, t1, t2, t3, t4]) rfl ?_
    exact ret_put HB.out (Nat.le_refl _) H1.out.lt (lies_boolv w1 _ false)
set_option maxHeartbeats 1000000 in
set_option maxRecDepth 100000 in
theorem cmpop_le (c : Int) (w : World) : Calls Tryz.prog 53 #[.string ⟨#[60, 61]⟩, .int .i64 c] w (RetPost (boolV (decide (c ≤ 0))) 0 w) := by
  have hbl := Lib.hid (fun (b : Bool) W => bool_any b W)
  have hr := Lib.hid (box_at w 26 #[.int .i64 0, .int .i64 0, .string ⟨#[]⟩, .slice none 0 0, .slice none 0 0] w.heap.size rfl)
  by_cases hc : c ≤ 0
  · have hcd : (decide (c ≤ 0)) = true := by simp [hc]
    rw [hcd]
    have hcb : (c == 0) = decide (c = 0) := by by_cases h : c = 0 <;> simp [h]
    have hcn : (c != 0) = !decide (c = 0) := by by_cases h : c = 0 <;> simp [h]
    have hcd2 : decide (c ≤ 0) = true := by simp [hc]
    go_enter Tryz.func53, Tryz.ntmps53
    go_wp2_with fail
    refine (hbl.out _ _).mono ?_
    rintro e1 w1 ⟨rfl, hb1⟩
    have H1 := Lib.hid (hr.out.below hb1 hr.out.lt)
    have HB := Lib.hid (chain (below1 w _) hb1)
    obtain ⟨t0, t1, t2, t3, t4⟩ := box5 H1.out
    have z0 := H1.out.free 0
    have z1 := H1.out.free 1
    have z2 := H1.out.free 2
    have z3 := H1.out.free 3
    have z4 := H1.out.free 4
    clear hb1 hcd
    go_wp2_with fail
    refine bodyPost_ret (v := .tuple #[.agg #[.int .i64 2, .int .i64 0, .string ⟨#[]⟩, .slice none 0 0, .slice none 0 0], .int .i64 0]) (by simp [results, Tryz.results53, go_sem, t0, t1, t2, t3, t4]) rfl ?_
    exact ret_put HB.out (Nat.le_refl _) H1.out.lt (lies_boolv w1 _ true)
  · have hcd : (decide (c ≤ 0)) = false := by simp [hc]
    rw [hcd]
    have hcb : (c == 0) = decide (c = 0) := by by_cases h : c = 0 <;> simp [h]
    have hcn : (c != 0) = !decide (c = 0) := by by_cases h : c = 0 <;> simp [h]
    have hcd2 : decide (c ≤ 0) = false := by simp [hc]
    go_enter Tryz.func53, Tryz.ntmps53
    go_wp2_with fail
    refine (hbl.out _ _).mono ?_
    rintro e1 w1 ⟨rfl, hb1⟩
    have H1 := Lib.hid (hr.out.below hb1 hr.out.lt)
    have HB := Lib.hid (chain (below1 w _) hb1)
    obtain ⟨t0, t1, t2, t3, t4⟩ := box5 H1.out
    have z0 := H1.out.free 0
    have z1 := H1.out.free 1
    have z2 := H1.out.free 2
    have z3 := H1.out.free 3
    have z4 := H1.out.free 4
    clear hb1 hcd
    go_wp2_with fail
    refine bodyPost_ret (v := .tuple #[.agg #[.int .i64 1, .int .i64 0, .string ⟨#[]⟩, .slice none 0 0, .slice none 0 0], .int .i64 0]) (by simp [results, Tryz.results53, go_sem, t0, t1, t2, t3, t4]) rfl ?_
    exact ret_put HB.out (Nat.le_refl _) H1.out.lt (lies_boolv w1 _ false)
set_option maxHeartbeats 1000000 in
set_option maxRecDepth 100000 in
theorem cmpop_gt (c : Int) (w : World) : Calls Tryz.prog 53 #[.string ⟨#[62]⟩, .int .i64 c] w (RetPost (boolV (decide (0 < c))) 0 w) := by
  have hbl := Lib.hid (fun (b : Bool) W => bool_any b W)
  have hr := Lib.hid (box_at w 26 #[.int .i64 0, .int .i64 0, .string ⟨#[]⟩, .slice none 0 0, .slice none 0 0] w.heap.size rfl)
  by_cases hc : 0 < c
  · have hcd : (decide (0 < c)) = true := by simp [hc]
    rw [hcd]
    have hcb : (c == 0) = decide (c = 0) := by by_cases h : c = 0 <;> simp [h]
    have hcn : (c != 0) = !decide (c = 0) := by by_cases h : c = 0 <;> simp [h]
    have hcd2 : decide (0 < c) = true := by simp [hc]
    go_enter Tryz.func53, Tryz.ntmps53
    go_wp2_with fail
    refine (hbl.out _ _).mono ?_
    rintro e1 w1 ⟨rfl, hb1⟩
    have H1 := Lib.hid (hr.out.below hb1 hr.out.lt)
    have HB := Lib.hid (chain (below1 w _) hb1)
    obtain ⟨t0, t1, t2, t3, t4⟩ := box5 H1.out
    have z0 := H1.out.free 0
    have z1 := H1.out.free 1
    have z2 := H1.out.free 2
    have z3 := H1.out.free 3
    have z4 := H1.out.free 4
    clear hb1 hcd
    go_wp2_with fail
    refine bodyPost_ret (v := .tuple #[.agg #[.int .i64 2, .int .i64 0, .string ⟨#[]⟩, .slice none 0 0, .slice none 0 0], .int .i64 0]) (by simp [results, Tryz.results53, go_sem, t0, t1, t2, t3, t4]) rfl ?_
    exact ret_put HB.out (Nat.le_refl _) H1.out.lt (lies_boolv w1 _ true)
  · have hcd : (decide (0 < c)) = false := by simp [hc]
    rw [hcd]
    have hcb : (c == 0) = decide (c = 0) := by by_cases h : c = 0 <;> simp [h]
    have hcn : (c != 0) = !decide (c = 0) := by by_cases h : c = 0 <;> simp [h]
    have hcd2 : decide (0 < c) = false := by simp [hc]
    go_enter Tryz.func53, Tryz.ntmps53
    go_wp2_with fail
    refine (hbl.out _ _).mono ?_
    rintro e1 w1 ⟨rfl, hb1⟩
    have H1 := Lib.hid (hr.out.below hb1 hr.out.lt)
    have HB := Lib.hid (chain (below1 w _) hb1)
    obtain ⟨t0, t1, t2, t3, t4⟩ := box5 H1.out
    have z0 := H1.out.free 0
    have z1 := H1.out.free 1
    have z2 := H1.out.free 2
    have z3 := H1.out.free 3
    have z4 := H1.out.free 4
    clear hb1 hcd
    go_wp2_with fail
    refine bodyPost_ret (v := .tuple #[.agg #[.int .i64 1, .int .i64 0, .string ⟨#[]⟩, .slice none 0 0, .slice none 0 0], .int .i64 0]) (by simp [results, Tryz.results53, go_sem, t0, t1, t2, t3, t4]) rfl ?_
    exact ret_put HB.out (Nat.le_refl _) H1.out.lt (lies_boolv w1 _ false)
set_option maxHeartbeats 1000000 in
set_option maxRecDepth 100000 in
theorem cmpop_ge (c : Int) (w : World) : Calls Tryz.prog 53 #[.string ⟨#[62, 61]⟩, .int .i64 c] w (RetPost (boolV (decide (0 ≤ c))) 0 w) := by
  have hbl := Lib.hid (fun (b : Bool) W => bool_any b W)
  have hr := Lib.hid (box_at w 26 #[.int .i64 0, .int .i64 0, .string ⟨#[]⟩, .slice none 0 0, .slice none 0 0] w.heap.size rfl)
  by_cases hc : 0 ≤ c
  · have hcd : (decide (0 ≤ c)) = true := by simp [hc]
    rw [hcd]
    have hcb : (c == 0) = decide (c = 0) := by by_cases h : c = 0 <;> simp [h]
    have hcn : (c != 0) = !decide (c = 0) := by by_cases h : c = 0 <;> simp [h]
    have hcd2 : decide (0 ≤ c) = true := by simp [hc]
    go_enter Tryz.func53, Tryz.ntmps53
    go_wp2_with fail
    refine (hbl.out _ _).mono ?_
    rintro e1 w1 ⟨rfl, hb1⟩
    have H1 := Lib.hid (hr.out.below hb1 hr.out.lt)
    have HB := Lib.hid (chain (below1 w _) hb1)
    obtain ⟨t0, t1, t2, t3, t4⟩ := box5 H1.out
    have z0 := H1.out.free 0
    have z1 := H1.out.free 1
    have z2 := H1.out.free 2
    have z3 := H1.out.free 3
    have z4 := H1.out.free 4
    clear hb1 hcd
    go_wp2_with fail
    refine bodyPost_ret (v := .tuple #[.agg #[.int .i64 2, .int .i64 0, .string ⟨#[]⟩, .slice none 0 0, .slice none 0 0], .int .i64 0]) (by simp [results, Tryz.results53, go_sem, t0, t1, t2, t3, t4]) rfl ?_
    exact ret_put HB.out (Nat.le_refl _) H1.out.lt (lies_boolv w1 _ true)
  · have hcd : (decide (0 ≤ c)) = false := by simp [hc]
    rw [hcd]
    have hcb : (c == 0) = decide (c = 0) := by by_cases h : c = 0 <;> simp [h]
    have hcn : (c != 0) = !decide (c = 0) := by by_cases h : c = 0 <;> simp [h]
    have hcd2 : decide (0 ≤ c) = false := by simp [hc]
    go_enter Tryz.func53, Tryz.ntmps53
    go_wp2_with fail
    refine (hbl.out _ _).mono ?_
    rintro e1 w1 ⟨rfl, hb1⟩
    have H1 := Lib.hid (hr.out.below hb1 hr.out.lt)
    have HB := Lib.hid (chain (below1 w _) hb1)
    obtain ⟨t0, t1, t2, t3, t4⟩ := box5 H1.out
    have z0 := H1.out.free 0
    have z1 := H1.out.free 1
    have z2 := H1.out.free 2
    have z3 := H1.out.free 3
    have z4 := H1.out.free 4
    clear hb1 hcd
    go_wp2_with fail
    refine bodyPost_ret (v := .tuple #[.agg #[.int .i64 1, .int .i64 0, .string ⟨#[]⟩, .slice none 0 0, .slice none 0 0], .int .i64 0]) (by simp [results, Tryz.results53, go_sem, t0, t1, t2, t3, t4]) rfl ?_
    exact ret_put HB.out (Nat.le_refl _) H1.out.lt (lies_boolv w1 _ false)
end Go.Proofs.YtkohnkofnobakaaGreatDoor
namespace Go.Proofs.YtkohnkofnobakaaGreatDoor
open Go.RowKit Go.Sort
theorem own_base2 {w : World} {base base' : Nat} {e : TypeId} {size n : Nat} {v : Value} {xs : List Value} (h : w.ownsRow base e size v n xs) (hv : ∀ g, v.ownBlock = some g → base' ≤ g) : w.ownsRow base' e size v n xs := by
  refine ⟨h.1, ?_⟩
  rcases h.2 with h1 | ⟨g, cap, cur, rfl, h1, h2⟩
  · exact .inl h1
  · exact .inr ⟨g, cap, cur, rfl, hv g rfl, h2⟩
theorem lit2_0 (W : World) (t : TypeId) (x y : Value) (p : Nat) (hp : W.heap.size = p) : (W.alloc (.cells #[x, y] t)).cell? ⟨p, 0, none⟩ = some x := (box_at W t #[x, y] p hp).cell rfl
theorem lit2_1 (W : World) (t : TypeId) (x y : Value) (p : Nat) (hp : W.heap.size = p) : (W.alloc (.cells #[x, y] t)).cell? ⟨p, 1, none⟩ = some y := (box_at W t #[x, y] p hp).cell rfl
theorem lies_flat' (w : World) (S : Nat → Prop) (k n : Int) : Lies w S (.mk k n ⟨#[]⟩ [] []) [.int .i64 k, .int .i64 n, .string ⟨#[]⟩, .slice none 0 0, .slice none 0 0] := by
  rw [Lies]
  exact ⟨⟨Nat.zero_le _, by simp, Nat.zero_le _, Nat.zero_le _⟩, none, 0, none, 0, [], rfl, fun _ => rfl, fun _ => rfl, ⟨Nat.le_refl _, Nat.zero_le _⟩, ⟨Nat.le_refl _, Nat.zero_le _⟩, Rs.nil _ _ _, Rs.nil _ _ _, by rw [LiesL]⟩
set_option maxHeartbeats 4000000 in
set_option maxRecDepth 100000 in
theorem renew_flat0 (n : Int) (s : ByteArray) (A B : Option Addr) (la a lb b : Nat) (w : World) :
    Calls Tryz.prog 83 #[.agg #[.int .i64 0, .int .i64 n, .string s, .slice A la a, .slice B lb b]] w (RetPost (.mk 0 0 ⟨#[]⟩ [] []) 0 w) := by
  have H0 := Lib.hid (B2.start w #[.int .i64 0, .int .i64 n, .string s, .slice A la a, .slice B lb b])
  go_enter Tryz.func83, Tryz.ntmps83
  go_wp2_with fail
  refine bodyPost_ret (v := .tuple #[.agg #[.int .i64 0, .int .i64 0, .string ⟨#[]⟩, .slice none 0 0, .slice none 0 0], .int .i64 0]) (by simp [results, Tryz.results83, go_sem]) rfl ?_
  exact ret_of (ds := [.int .i64 0, .int .i64 0, .string ⟨#[]⟩, .slice none 0 0, .slice none 0 0]) ((((Below.refl _ _).alloc (Nat.le_refl _) _).alloc (by simp) _)) (lies_flat' _ _ _ _)
set_option maxHeartbeats 4000000 in
set_option maxRecDepth 100000 in
theorem renew_flat1 (n : Int) (s : ByteArray) (A B : Option Addr) (la a lb b : Nat) (w : World) :
    Calls Tryz.prog 83 #[.agg #[.int .i64 1, .int .i64 n, .string s, .slice A la a, .slice B lb b]] w (RetPost (.mk 1 0 ⟨#[]⟩ [] []) 0 w) := by
  have H0 := Lib.hid (B2.start w #[.int .i64 1, .int .i64 n, .string s, .slice A la a, .slice B lb b])
  go_enter Tryz.func83, Tryz.ntmps83
  go_wp2_with fail
  refine bodyPost_ret (v := .tuple #[.agg #[.int .i64 1, .int .i64 0, .string ⟨#[]⟩, .slice none 0 0, .slice none 0 0], .int .i64 0]) (by simp [results, Tryz.results83, go_sem]) rfl ?_
  exact ret_of (ds := [.int .i64 1, .int .i64 0, .string ⟨#[]⟩, .slice none 0 0, .slice none 0 0]) ((((Below.refl _ _).alloc (Nat.le_refl _) _).alloc (by simp) _)) (lies_flat' _ _ _ _)
set_option maxHeartbeats 4000000 in
set_option maxRecDepth 100000 in
theorem renew_flat2 (n : Int) (s : ByteArray) (A B : Option Addr) (la a lb b : Nat) (w : World) :
    Calls Tryz.prog 83 #[.agg #[.int .i64 2, .int .i64 n, .string s, .slice A la a, .slice B lb b]] w (RetPost (.mk 2 0 ⟨#[]⟩ [] []) 0 w) := by
  have H0 := Lib.hid (B2.start w #[.int .i64 2, .int .i64 n, .string s, .slice A la a, .slice B lb b])
  go_enter Tryz.func83, Tryz.ntmps83
  go_wp2_with fail
  refine bodyPost_ret (v := .tuple #[.agg #[.int .i64 2, .int .i64 0, .string ⟨#[]⟩, .slice none 0 0, .slice none 0 0], .int .i64 0]) (by simp [results, Tryz.results83, go_sem]) rfl ?_
  exact ret_of (ds := [.int .i64 2, .int .i64 0, .string ⟨#[]⟩, .slice none 0 0, .slice none 0 0]) ((((Below.refl _ _).alloc (Nat.le_refl _) _).alloc (by simp) _)) (lies_flat' _ _ _ _)
set_option maxHeartbeats 4000000 in
set_option maxRecDepth 100000 in
theorem renew_num (n : Int) (s : ByteArray) (A B : Option Addr) (la a lb b : Nat) (w : World) :
    Calls Tryz.prog 83 #[.agg #[.int .i64 3, .int .i64 n, .string s, .slice A la a, .slice B lb b]] w (RetPost (numV n) 0 w) := by
  have hn := Lib.hid (fun (n : Int) W => num_any n W)
  have H0 := Lib.hid (B2.start w #[.int .i64 3, .int .i64 n, .string s, .slice A la a, .slice B lb b])
  go_enter Tryz.func83, Tryz.ntmps83
  go_wp2_with fail
  refine (hn.out _ _).mono ?_
  rintro e1 w1 ⟨rfl, hb1⟩
  have H1 := Lib.hid (H0.out.next hb1)
  obtain ⟨t0, t1, t2, t3, t4⟩ := box5 H1.out.r
  have z0 := H1.out.r.free 0
  have z1 := H1.out.r.free 1
  have z2 := H1.out.r.free 2
  have z3 := H1.out.r.free 3
  have z4 := H1.out.r.free 4
  clear hb1
  go_wp2_with fail
  refine bodyPost_ret (v := .tuple #[.agg #[.int .i64 3, .int .i64 n, .string ⟨#[]⟩, .slice none 0 0, .slice none 0 0], .int .i64 0]) (by simp [results, Tryz.results83, go_sem, t0, t1, t2, t3, t4]) rfl ?_
  exact ret_put H1.out.below (by omega) H1.out.r.lt (lies_numv _ _ _)
set_option maxHeartbeats 4000000 in
set_option maxRecDepth 100000 in
theorem renew_str (n : Int) (s : ByteArray) (A B : Option Addr) (la a lb b : Nat) (w : World) (r : V) (er : Int) (hc : ∀ W, Below w.heap.size w W → Calls Tryz.prog 34 #[.string s] W (RetPost r er W)) :
    Calls Tryz.prog 83 #[.agg #[.int .i64 4, .int .i64 n, .string s, .slice A la a, .slice B lb b]] w (RetPost r er w) := by
  have HC := Lib.hid (fun W hW => ret_open (hc W hW))
  have H0 := Lib.hid (B2.start w #[.int .i64 4, .int .i64 n, .string s, .slice A la a, .slice B lb b])
  clear hc
  go_enter Tryz.func83, Tryz.ntmps83
  go_wp2_with fail
  refine (HC.out _ H0.out.below).mono ?_
  rintro e1 w1 ⟨rk, rn, rs, rks, res, RA, ra, RC, rc, hrv, rfl, hb1, hl1⟩
  have H1 := Lib.hid (H0.out.next hb1)
  have HL := Lib.hid hl1
  have hs2 := H0.out.r.lt
  have hs3 := H0.out.below.size
  clear hb1 hl1 hrv
  obtain ⟨t0, t1, t2, t3, t4⟩ := box5 H1.out.r
  have z0 := H1.out.r.free 0
  have z1 := H1.out.r.free 1
  have z2 := H1.out.r.free 2
  have z3 := H1.out.r.free 3
  have z4 := H1.out.r.free 4
  go_wp2_with fail
  refine bodyPost_ret (v := .tuple #[.agg #[.int .i64 rk, .int .i64 rn, .string rs, .slice RA rks.length ra, .slice RC res.length rc], .int .i64 er]) (by simp [results, Tryz.results83, go_sem, t0, t1, t2, t3, t4]) rfl ?_
  exact ret_put H1.out.below (by omega) H1.out.r.lt (HL.out.move fun b hb => ⟨⟨by omega, hb.2, by omega⟩, rfl⟩)
set_option maxHeartbeats 4000000 in
set_option maxRecDepth 100000 in
theorem renew_arr (n : Int) (s : ByteArray) (A B : Option Addr) (la a lb b : Nat) (w : World) (r : V) (er : Int) (hc : ∀ W, Below w.heap.size w W → Calls Tryz.prog 84 #[.slice B lb b] W (RetPost r er W)) :
    Calls Tryz.prog 83 #[.agg #[.int .i64 5, .int .i64 n, .string s, .slice A la a, .slice B lb b]] w (RetPost r er w) := by
  have HC := Lib.hid (fun W hW => ret_open (hc W hW))
  have H0 := Lib.hid (B2.start w #[.int .i64 5, .int .i64 n, .string s, .slice A la a, .slice B lb b])
  clear hc
  go_enter Tryz.func83, Tryz.ntmps83
  go_wp2_with fail
  refine (HC.out _ H0.out.below).mono ?_
  rintro e1 w1 ⟨rk, rn, rs, rks, res, RA, ra, RC, rc, hrv, rfl, hb1, hl1⟩
  have H1 := Lib.hid (H0.out.next hb1)
  have HL := Lib.hid hl1
  have hs2 := H0.out.r.lt
  have hs3 := H0.out.below.size
  clear hb1 hl1 hrv
  obtain ⟨t0, t1, t2, t3, t4⟩ := box5 H1.out.r
  have z0 := H1.out.r.free 0
  have z1 := H1.out.r.free 1
  have z2 := H1.out.r.free 2
  have z3 := H1.out.r.free 3
  have z4 := H1.out.r.free 4
  go_wp2_with fail
  refine bodyPost_ret (v := .tuple #[.agg #[.int .i64 rk, .int .i64 rn, .string rs, .slice RA rks.length ra, .slice RC res.length rc], .int .i64 er]) (by simp [results, Tryz.results83, go_sem, t0, t1, t2, t3, t4]) rfl ?_
  exact ret_put H1.out.below (by omega) H1.out.r.lt (HL.out.move fun b hb => ⟨⟨by omega, hb.2, by omega⟩, rfl⟩)
set_option maxHeartbeats 4000000 in
set_option maxRecDepth 100000 in
theorem renew_obj (n : Int) (s : ByteArray) (A B : Option Addr) (la a lb b : Nat) (w : World) (r : V) (er : Int) (hc : ∀ W, Below w.heap.size w W → Calls Tryz.prog 118 #[.slice A la a, .slice B lb b] W (RetPost r er W)) :
    Calls Tryz.prog 83 #[.agg #[.int .i64 6, .int .i64 n, .string s, .slice A la a, .slice B lb b]] w (RetPost r er w) := by
  have HC := Lib.hid (fun W hW => ret_open (hc W hW))
  have H0 := Lib.hid (B2.start w #[.int .i64 6, .int .i64 n, .string s, .slice A la a, .slice B lb b])
  clear hc
  go_enter Tryz.func83, Tryz.ntmps83
  go_wp2_with fail
  refine (HC.out _ H0.out.below).mono ?_
  rintro e1 w1 ⟨rk, rn, rs, rks, res, RA, ra, RC, rc, hrv, rfl, hb1, hl1⟩
  have H1 := Lib.hid (H0.out.next hb1)
  have HL := Lib.hid hl1
  have hs2 := H0.out.r.lt
  have hs3 := H0.out.below.size
  clear hb1 hl1 hrv
  obtain ⟨t0, t1, t2, t3, t4⟩ := box5 H1.out.r
  have z0 := H1.out.r.free 0
  have z1 := H1.out.r.free 1
  have z2 := H1.out.r.free 2
  have z3 := H1.out.r.free 3
  have z4 := H1.out.r.free 4
  go_wp2_with fail
  refine bodyPost_ret (v := .tuple #[.agg #[.int .i64 rk, .int .i64 rn, .string rs, .slice RA rks.length ra, .slice RC res.length rc], .int .i64 er]) (by simp [results, Tryz.results83, go_sem, t0, t1, t2, t3, t4]) rfl ?_
  exact ret_put H1.out.below (by omega) H1.out.r.lt (HL.out.move fun b hb => ⟨⟨by omega, hb.2, by omega⟩, rfl⟩)
set_option maxHeartbeats 4000000 in
set_option maxRecDepth 100000 in
theorem add_left (k2 : Int) (n n2 : Int) (s s2 : ByteArray) (A B A2 B2 : Option Addr) (la a lb b la2 a2 lb2 b2 : Nat) (w : World) (r : V) (er : Int) (hc : ∀ W, Below w.heap.size w W → Calls Tryz.prog 83 #[.agg #[.int .i64 k2, .int .i64 n2, .string s2, .slice A2 la2 a2, .slice B2 lb2 b2]] W (RetPost r er W)) :
    Calls Tryz.prog 48 #[.agg #[.int .i64 0, .int .i64 n, .string s, .slice A la a, .slice B lb b], .agg #[.int .i64 k2, .int .i64 n2, .string s2, .slice A2 la2 a2, .slice B2 lb2 b2]] w (RetPost r er w) := by
  have EQ := eq_pair
  have HC := Lib.hid (fun W hW => ret_open (hc W hW))
  have H0 := Lib.hid (B3.start w #[.int .i64 0, .int .i64 n, .string s, .slice A la a, .slice B lb b] #[.int .i64 k2, .int .i64 n2, .string s2, .slice A2 la2 a2, .slice B2 lb2 b2])
  clear hc
  go_enter Tryz.func48, Tryz.ntmps48
  go_wp2_with fail
  refine (HC.out _ H0.out.below).mono ?_
  rintro e1 w1 ⟨rk, rn, rs, rks, res, RA, ra, RC, rc, hrv, rfl, hb1, hl1⟩
  have H1 := Lib.hid (H0.out.next hb1)
  have HL := Lib.hid hl1
  have hs2 := H0.out.r.lt
  have hs3 := H0.out.below.size
  clear hb1 hl1 hrv
  obtain ⟨t0, t1, t2, t3, t4⟩ := box5 H1.out.r
  have z0 := H1.out.r.free 0
  have z1 := H1.out.r.free 1
  have z2 := H1.out.r.free 2
  have z3 := H1.out.r.free 3
  have z4 := H1.out.r.free 4
  go_wp2_with fail
  refine bodyPost_ret (v := .tuple #[.agg #[.int .i64 rk, .int .i64 rn, .string rs, .slice RA rks.length ra, .slice RC res.length rc], .int .i64 er]) (by simp [results, Tryz.results48, go_sem, t0, t1, t2, t3, t4]) rfl ?_
  exact ret_put H1.out.below (by omega) H1.out.r.lt (HL.out.move fun b hb => ⟨⟨by omega, hb.2, by omega⟩, rfl⟩)
set_option maxHeartbeats 4000000 in
set_option maxRecDepth 100000 in
theorem add_right (k : Int) (hk : k ≠ 0) (n n2 : Int) (s s2 : ByteArray) (A B A2 B2 : Option Addr) (la a lb b la2 a2 lb2 b2 : Nat) (w : World) (r : V) (er : Int) (hc : ∀ W, Below w.heap.size w W → Calls Tryz.prog 83 #[.agg #[.int .i64 k, .int .i64 n, .string s, .slice A la a, .slice B lb b]] W (RetPost r er W)) :
    Calls Tryz.prog 48 #[.agg #[.int .i64 k, .int .i64 n, .string s, .slice A la a, .slice B lb b], .agg #[.int .i64 0, .int .i64 n2, .string s2, .slice A2 la2 a2, .slice B2 lb2 b2]] w (RetPost r er w) := by
  have hk0 : (k == 0) = false := by simpa using hk
  have EQ := eq_pair
  have HC := Lib.hid (fun W hW => ret_open (hc W hW))
  have H0 := Lib.hid (B3.start w #[.int .i64 k, .int .i64 n, .string s, .slice A la a, .slice B lb b] #[.int .i64 0, .int .i64 n2, .string s2, .slice A2 la2 a2, .slice B2 lb2 b2])
  clear hc
  go_enter Tryz.func48, Tryz.ntmps48
  go_wp2_with fail
  refine (HC.out _ H0.out.below).mono ?_
  rintro e1 w1 ⟨rk, rn, rs, rks, res, RA, ra, RC, rc, hrv, rfl, hb1, hl1⟩
  have H1 := Lib.hid (H0.out.next hb1)
  have HL := Lib.hid hl1
  have hs2 := H0.out.r.lt
  have hs3 := H0.out.below.size
  clear hb1 hl1 hrv
  obtain ⟨t0, t1, t2, t3, t4⟩ := box5 H1.out.r
  have z0 := H1.out.r.free 0
  have z1 := H1.out.r.free 1
  have z2 := H1.out.r.free 2
  have z3 := H1.out.r.free 3
  have z4 := H1.out.r.free 4
  go_wp2_with fail
  refine bodyPost_ret (v := .tuple #[.agg #[.int .i64 rk, .int .i64 rn, .string rs, .slice RA rks.length ra, .slice RC res.length rc], .int .i64 er]) (by simp [results, Tryz.results48, go_sem, t0, t1, t2, t3, t4]) rfl ?_
  exact ret_put H1.out.below (by omega) H1.out.r.lt (HL.out.move fun b hb => ⟨⟨by omega, hb.2, by omega⟩, rfl⟩)
set_option maxHeartbeats 4000000 in
set_option maxRecDepth 100000 in
theorem add_str (n n2 : Int) (s s2 : ByteArray) (A B A2 B2 : Option Addr) (la a lb b la2 a2 lb2 b2 : Nat) (hs : s.size ≤ 4096) (hs2 : s2.size ≤ 4096) (w : World) (r : V) (er : Int) (hc : ∀ W, Below w.heap.size w W → Calls Tryz.prog 34 #[.string (s ++ s2)] W (RetPost r er W)) :
    Calls Tryz.prog 48 #[.agg #[.int .i64 4, .int .i64 n, .string s, .slice A la a, .slice B lb b], .agg #[.int .i64 4, .int .i64 n2, .string s2, .slice A2 la2 a2, .slice B2 lb2 b2]] w (RetPost r er w) := by
  have hz : ¬ (s.size + s2.size > 9223372036854775807) := by omega
  have EQ := eq_pair
  have HC := Lib.hid (fun W hW => ret_open (hc W hW))
  have H0 := Lib.hid (B3.start w #[.int .i64 4, .int .i64 n, .string s, .slice A la a, .slice B lb b] #[.int .i64 4, .int .i64 n2, .string s2, .slice A2 la2 a2, .slice B2 lb2 b2])
  clear hc
  go_enter Tryz.func48, Tryz.ntmps48
  go_wp2_with fail
  refine (HC.out _ H0.out.below).mono ?_
  rintro e1 w1 ⟨rk, rn, rs, rks, res, RA, ra, RC, rc, hrv, rfl, hb1, hl1⟩
  have H1 := Lib.hid (H0.out.next hb1)
  have HL := Lib.hid hl1
  have hs2 := H0.out.r.lt
  have hs3 := H0.out.below.size
  clear hb1 hl1 hrv
  obtain ⟨t0, t1, t2, t3, t4⟩ := box5 H1.out.r
  have z0 := H1.out.r.free 0
  have z1 := H1.out.r.free 1
  have z2 := H1.out.r.free 2
  have z3 := H1.out.r.free 3
  have z4 := H1.out.r.free 4
  go_wp2_with fail
  refine bodyPost_ret (v := .tuple #[.agg #[.int .i64 rk, .int .i64 rn, .string rs, .slice RA rks.length ra, .slice RC res.length rc], .int .i64 er]) (by simp [results, Tryz.results48, go_sem, t0, t1, t2, t3, t4]) rfl ?_
  exact ret_put H1.out.below (by omega) H1.out.r.lt (HL.out.move fun b hb => ⟨⟨by omega, hb.2, by omega⟩, rfl⟩)
set_option maxHeartbeats 4000000 in
set_option maxRecDepth 100000 in
theorem add_obj (n n2 : Int) (s s2 : ByteArray) (A B A2 B2 : Option Addr) (la a lb b la2 a2 lb2 b2 : Nat) (w : World) (r : V) (er : Int) (hc : ∀ W, Below w.heap.size w W → Calls Tryz.prog 86 #[.agg #[.int .i64 6, .int .i64 n, .string s, .slice A la a, .slice B lb b], .agg #[.int .i64 6, .int .i64 n2, .string s2, .slice A2 la2 a2, .slice B2 lb2 b2]] W (RetPost r er W)) :
    Calls Tryz.prog 48 #[.agg #[.int .i64 6, .int .i64 n, .string s, .slice A la a, .slice B lb b], .agg #[.int .i64 6, .int .i64 n2, .string s2, .slice A2 la2 a2, .slice B2 lb2 b2]] w (RetPost r er w) := by
  have EQ := eq_pair
  have HC := Lib.hid (fun W hW => ret_open (hc W hW))
  have H0 := Lib.hid (B3.start w #[.int .i64 6, .int .i64 n, .string s, .slice A la a, .slice B lb b] #[.int .i64 6, .int .i64 n2, .string s2, .slice A2 la2 a2, .slice B2 lb2 b2])
  clear hc
  go_enter Tryz.func48, Tryz.ntmps48
  go_wp2_with fail
  refine (HC.out _ H0.out.below).mono ?_
  rintro e1 w1 ⟨rk, rn, rs, rks, res, RA, ra, RC, rc, hrv, rfl, hb1, hl1⟩
  have H1 := Lib.hid (H0.out.next hb1)
  have HL := Lib.hid hl1
  have hs2 := H0.out.r.lt
  have hs3 := H0.out.below.size
  clear hb1 hl1 hrv
  obtain ⟨t0, t1, t2, t3, t4⟩ := box5 H1.out.r
  have z0 := H1.out.r.free 0
  have z1 := H1.out.r.free 1
  have z2 := H1.out.r.free 2
  have z3 := H1.out.r.free 3
  have z4 := H1.out.r.free 4
  go_wp2_with fail
  refine bodyPost_ret (v := .tuple #[.agg #[.int .i64 rk, .int .i64 rn, .string rs, .slice RA rks.length ra, .slice RC res.length rc], .int .i64 er]) (by simp [results, Tryz.results48, go_sem, t0, t1, t2, t3, t4]) rfl ?_
  exact ret_put H1.out.below (by omega) H1.out.r.lt (HL.out.move fun b hb => ⟨⟨by omega, hb.2, by omega⟩, rfl⟩)
set_option maxHeartbeats 4000000 in
set_option maxRecDepth 100000 in
theorem add_arr (n n2 : Int) (s s2 : ByteArray) (A B A2 B2 : Option Addr) (la a lb b la2 a2 lb2 b2 : Nat) (w : World) (n0 : Nat) (xs : List Value) (r : V) (er : Int)
    (hcat : ∀ W g, Below w.heap.size w W → W.cell? ⟨g, 0, none⟩ = some (.slice B lb b) → W.cell? ⟨g, 1, none⟩ = some (.slice B2 lb2 b2) → Calls Tryz.prog 85 #[.slice (some ⟨g, 0, none⟩) 2 2] W (CatPost W.heap.size 26 5 W n0 xs))
    (hc : ∀ W D d, Below w.heap.size w W → W.ownsRow w.heap.size 26 5 (.slice D n0 d) n0 xs → Calls Tryz.prog 84 #[.slice D n0 d] W (RetPost r er W)) :
    Calls Tryz.prog 48 #[.agg #[.int .i64 5, .int .i64 n, .string s, .slice A la a, .slice B lb b], .agg #[.int .i64 5, .int .i64 n2, .string s2, .slice A2 la2 a2, .slice B2 lb2 b2]] w (RetPost r er w) := by
  have EQ := eq_pair
  have HC := Lib.hid (fun W D d hW ho => ret_open (hc W D d hW ho))
  have HCat := Lib.hid hcat
  have H0 := Lib.hid (B3.start w #[.int .i64 5, .int .i64 n, .string s, .slice A la a, .slice B lb b] #[.int .i64 5, .int .i64 n2, .string s2, .slice A2 la2 a2, .slice B2 lb2 b2])
  clear hc hcat
  go_enter Tryz.func48, Tryz.ntmps48
  go_wp2_with fail
  refine (HCat.out _ _ (chain H0.out.below (below1 _ _)) (lit2_0 _ _ _ _ _ (by simp)) (lit2_1 _ _ _ _ _ (by simp))).mono ?_
  rintro e1 w1 ⟨v1, rfl, ho, hb1⟩
  obtain ⟨D, d, rfl, hdn, hdl, hdm, hrs⟩ := own_open ho
  have H1 := Lib.hid (H0.out.next (chain (below1 _ _) hb1))
  have HO := Lib.hid (own_base2 ho (base' := w.heap.size) (fun g hg => by have h1 := (ho.lt g hg).1; have h2 := H0.out.below.size; simp at h1 h2; omega))
  clear hb1 ho hrs hdn hdl hdm
  go_wp2_with fail
  refine (HC.out _ _ _ H1.out.below HO.out).mono ?_
  rintro e2 w2 ⟨rk, rn, rs, rks, res, RA, ra, RC, rc, hrv, rfl, hb2, hl2⟩
  have H2 := Lib.hid (H1.out.next hb2)
  have HL := Lib.hid hl2
  have hs2 := H1.out.r.lt
  have hs3 := H1.out.below.size
  clear hb2 hl2 hrv
  obtain ⟨t0, t1, t2, t3, t4⟩ := box5 H2.out.r
  have z0 := H2.out.r.free 0
  have z1 := H2.out.r.free 1
  have z2 := H2.out.r.free 2
  have z3 := H2.out.r.free 3
  have z4 := H2.out.r.free 4
  go_wp2_with fail
  refine bodyPost_ret (v := .tuple #[.agg #[.int .i64 rk, .int .i64 rn, .string rs, .slice RA rks.length ra, .slice RC res.length rc], .int .i64 er]) (by simp [results, Tryz.results48, go_sem, t0, t1, t2, t3, t4]) rfl ?_
  exact ret_put H2.out.below (by omega) H2.out.r.lt (HL.out.move fun b hb => ⟨⟨by omega, hb.2, by omega⟩, rfl⟩)
set_option maxHeartbeats 4000000 in
set_option maxRecDepth 100000 in
theorem add_type (k k2 : Int) (hk : k ≠ 0) (hk2 : k2 ≠ 0) (hne : ∀ c : Int, c = 3 ∨ c = 4 ∨ c = 5 ∨ c = 6 → ¬ (k = c ∧ k2 = c)) (n n2 : Int) (s s2 : ByteArray) (A B A2 B2 : Option Addr) (la a lb b la2 a2 lb2 b2 : Nat) (w : World) :
    Calls Tryz.prog 48 #[.agg #[.int .i64 k, .int .i64 n, .string s, .slice A la a, .slice B lb b], .agg #[.int .i64 k2, .int .i64 n2, .string s2, .slice A2 la2 a2, .slice B2 lb2 b2]] w (RetPost vnull 12 w) := by
  have hk0 : (k == 0) = false := by simpa using hk
  have hk20 : (k2 == 0) = false := by simpa using hk2
  have q3 : (k == 3 && k2 == 3) = false := by have := hne 3 (by omega); simpa using this
  have q4 : (k == 4 && k2 == 4) = false := by have := hne 4 (by omega); simpa using this
  have q5 : (k == 5 && k2 == 5) = false := by have := hne 5 (by omega); simpa using this
  have q6 : (k == 6 && k2 == 6) = false := by have := hne 6 (by omega); simpa using this
  have EQ := eq_pair
  clear hne
  have H1 := Lib.hid (B3.start w #[.int .i64 k, .int .i64 n, .string s, .slice A la a, .slice B lb b] #[.int .i64 k2, .int .i64 n2, .string s2, .slice A2 la2 a2, .slice B2 lb2 b2])
  go_enter Tryz.func48, Tryz.ntmps48
  go_wp2_with fail
  refine bodyPost_ret (v := .tuple #[.agg #[.int .i64 0, .int .i64 0, .string ⟨#[]⟩, .slice none 0 0, .slice none 0 0], .int .i64 12]) (by simp [results, Tryz.results48, go_sem]) rfl ?_
  exact ret_of (ds := [.int .i64 0, .int .i64 0, .string ⟨#[]⟩, .slice none 0 0, .slice none 0 0]) H1.out.below (lies_null _ _)
end Go.Proofs.YtkohnkofnobakaaGreatDoor
namespace Go.Proofs.YtkohnkofnobakaaGreatDoor
open Go.RowKit Go.Sort
theorem below_drw2 {B : Nat} {w w' : World} (h : Below B w w') : Below B w w'.drew := h.drew
theorem far5 {X : World} {g p : Nat} {t : TypeId} {cs : Array Value} (h : Box X g t cs) (hp : g ≠ p) (r0 r1 r2 r3 r4 : Value) : Box (((((X.setCell ⟨p, 0, none⟩ r0).setCell ⟨p, 1, none⟩ r1).setCell ⟨p, 2, none⟩ r2).setCell ⟨p, 3, none⟩ r3).setCell ⟨p, 4, none⟩ r4) g t cs :=
  ((((h.far (p := ⟨p, 0, none⟩) hp _).far (p := ⟨p, 1, none⟩) hp _).far (p := ⟨p, 2, none⟩) hp _).far (p := ⟨p, 3, none⟩) hp _).far (p := ⟨p, 4, none⟩) hp _
theorem own_stay {w w' w0 : World} {base : Nat} {e : TypeId} {size n : Nat} {v : Value} {xs : List Value} (hb0 : Below base w0 w) (h : w.ownsRow w.heap.size e size v n xs) : w.ownsRow w.heap.size e size v n xs := h
set_option maxHeartbeats 8000000 in
set_option maxRecDepth 100000 in
theorem union_over (k k2 n n2 : Int) (s s2 : ByteArray) (A B A2 B2 : Option Addr) (la a lb b la2 a2 lb2 b2 : Nat) (w : World) (n0 m0 : Nat) (xs ys : List Value) (r : V) (er : Int)
    (hcs : ∀ W g, Below w.heap.size w W → W.cell? ⟨g, 0, none⟩ = some (.slice A la a) → W.cell? ⟨g, 1, none⟩ = some (.slice A2 la2 a2) → Calls Tryz.prog 120 #[.slice (some ⟨g, 0, none⟩) 2 2] W (CatPost W.heap.size 9 1 W n0 xs))
    (hcv : ∀ W g, Below w.heap.size w W → W.cell? ⟨g, 0, none⟩ = some (.slice B lb b) → W.cell? ⟨g, 1, none⟩ = some (.slice B2 lb2 b2) → Calls Tryz.prog 85 #[.slice (some ⟨g, 0, none⟩) 2 2] W (CatPost W.heap.size 26 5 W m0 ys))
    (hob : ∀ W D d E e, Below w.heap.size w W → W.ownsRow w.heap.size 9 1 (.slice D n0 d) n0 xs → W.ownsRow w.heap.size 26 5 (.slice E m0 e) m0 ys → Calls Tryz.prog 118 #[.slice D n0 d, .slice E m0 e] W (RetPost r er W)) :
    Calls Tryz.prog 86 #[.agg #[.int .i64 k, .int .i64 n, .string s, .slice A la a, .slice B lb b], .agg #[.int .i64 k2, .int .i64 n2, .string s2, .slice A2 la2 a2, .slice B2 lb2 b2]] w (RetPost r er w) := by
  have HCS := Lib.hid hcs
  have HCV := Lib.hid hcv
  have HOB := Lib.hid (fun W D d E e hW h1 h2 => ret_open (hob W D d E e hW h1 h2))
  clear hcs hcv hob
  obtain ⟨W0, hW0⟩ : ∃ X, X = (((w.alloc (.cells #[.int .i64 k, .int .i64 n, .string s, .slice A la a, .slice B lb b] 26)).alloc (.cells #[.int .i64 k2, .int .i64 n2, .string s2, .slice A2 la2 a2, .slice B2 lb2 b2] 26)).alloc (.cells #[.int .i64 0, .int .i64 0, .string ⟨#[]⟩, .slice none 0 0, .slice none 0 0] 26)) := ⟨_, rfl⟩
  have H0 : Hid (B3 w #[.int .i64 k, .int .i64 n, .string s, .slice A la a, .slice B lb b] #[.int .i64 k2, .int .i64 n2, .string s2, .slice A2 la2 a2, .slice B2 lb2 b2] W0) := Lib.hid (by rw [hW0]; exact B3.start w _ _)
  have HW0 := Lib.hid hW0
  have hsz : w.heap.size + 1 + 1 < W0.heap.size := H0.out.r.lt
  clear hW0
  have keepS : Hid (∀ X, Below W0.heap.size W0 X → X.cell? ⟨w.heap.size, 3, none⟩ = some (.slice A la a) ∧ X.cell? ⟨w.heap.size, 4, none⟩ = some (.slice B lb b) ∧ X.cell? ⟨w.heap.size + 1, 3, none⟩ = some (.slice A2 la2 a2) ∧ X.cell? ⟨w.heap.size + 1, 4, none⟩ = some (.slice B2 lb2 b2)) := Lib.hid fun X hX => by
    obtain ⟨t0, t1, t2, t3, t4⟩ := box5 (H0.out.x.below hX H0.out.x.lt)
    obtain ⟨y0, y1, y2, y3, y4⟩ := box5 (H0.out.y.below hX H0.out.y.lt)
    exact ⟨t3, t4, y3, y4⟩
  have keepT : Hid (∀ X, Below W0.heap.size W0 X → ∀ r0 r1 r2 r3 r4, (((((X.setCell ⟨w.heap.size + 1 + 1, 0, none⟩ r0).setCell ⟨w.heap.size + 1 + 1, 1, none⟩ r1).setCell ⟨w.heap.size + 1 + 1, 2, none⟩ r2).setCell ⟨w.heap.size + 1 + 1, 3, none⟩ r3).setCell ⟨w.heap.size + 1 + 1, 4, none⟩ r4).cell? ⟨w.heap.size, 3, none⟩ = some (.slice A la a) ∧ (((((X.setCell ⟨w.heap.size + 1 + 1, 0, none⟩ r0).setCell ⟨w.heap.size + 1 + 1, 1, none⟩ r1).setCell ⟨w.heap.size + 1 + 1, 2, none⟩ r2).setCell ⟨w.heap.size + 1 + 1, 3, none⟩ r3).setCell ⟨w.heap.size + 1 + 1, 4, none⟩ r4).cell? ⟨w.heap.size, 4, none⟩ = some (.slice B lb b) ∧ (((((X.setCell ⟨w.heap.size + 1 + 1, 0, none⟩ r0).setCell ⟨w.heap.size + 1 + 1, 1, none⟩ r1).setCell ⟨w.heap.size + 1 + 1, 2, none⟩ r2).setCell ⟨w.heap.size + 1 + 1, 3, none⟩ r3).setCell ⟨w.heap.size + 1 + 1, 4, none⟩ r4).cell? ⟨w.heap.size + 1, 3, none⟩ = some (.slice A2 la2 a2) ∧ (((((X.setCell ⟨w.heap.size + 1 + 1, 0, none⟩ r0).setCell ⟨w.heap.size + 1 + 1, 1, none⟩ r1).setCell ⟨w.heap.size + 1 + 1, 2, none⟩ r2).setCell ⟨w.heap.size + 1 + 1, 3, none⟩ r3).setCell ⟨w.heap.size + 1 + 1, 4, none⟩ r4).cell? ⟨w.heap.size + 1, 4, none⟩ = some (.slice B2 lb2 b2)) := Lib.hid fun X hX r0 r1 r2 r3 r4 => by
    obtain ⟨t0, t1, t2, t3, t4⟩ := box5 (far5 (H0.out.x.below hX H0.out.x.lt) (p := w.heap.size + 1 + 1) (by omega) r0 r1 r2 r3 r4)
    obtain ⟨y0, y1, y2, y3, y4⟩ := box5 (far5 (H0.out.y.below hX H0.out.y.lt) (p := w.heap.size + 1 + 1) (by omega) r0 r1 r2 r3 r4)
    exact ⟨t3, t4, y3, y4⟩
  have k0 : Hid (Below W0.heap.size W0 W0.drew) := Lib.hid (below_drw2 (Below.refl _ _))
  have kA : Hid (Below W0.heap.size W0 (W0.alloc (Obj.cells #[.slice A la a, .slice A2 la2 a2] 23)).drew) := Lib.hid (below_drw2 (below1 _ _))
  have kB : Hid (Below W0.heap.size W0 (W0.alloc (Obj.cells #[.slice B lb b, .slice B2 lb2 b2] 24)).drew) := Lib.hid (below_drw2 (below1 _ _))
  have kC : Hid (Below W0.heap.size W0 ((W0.alloc (Obj.cells #[.slice A la a, .slice A2 la2 a2] 23)).alloc (Obj.cells #[.slice B lb b, .slice B2 lb2 b2] 24)).drew) := Lib.hid (below_drw2 (chain (below1 _ _) (below1 _ _)))
  have kD : Hid (Below W0.heap.size W0 ((W0.alloc (Obj.cells #[.slice B lb b, .slice B2 lb2 b2] 24)).alloc (Obj.cells #[.slice A la a, .slice A2 la2 a2] 23)).drew) := Lib.hid (below_drw2 (chain (below1 _ _) (below1 _ _)))
  have bC : Hid (Box ((W0.alloc (Obj.cells #[.slice A la a, .slice A2 la2 a2] 23)).alloc (Obj.cells #[.slice B lb b, .slice B2 lb2 b2] 24)).drew (W0.heap.size + 1) 24 #[.slice B lb b, .slice B2 lb2 b2]) := Lib.hid (by exact box_at _ _ _ _ (by simp))
  have bD : Hid (Box ((W0.alloc (Obj.cells #[.slice B lb b, .slice B2 lb2 b2] 24)).alloc (Obj.cells #[.slice A la a, .slice A2 la2 a2] 23)).drew W0.heap.size 24 #[.slice B lb b, .slice B2 lb2 b2]) := Lib.hid (by exact (Box.laid _ _ _).alloc _)
  have HB0 := Lib.hid H0.out.below
  have cA := Lib.hid (HCS.out _ W0.heap.size (chain HB0.out kA.out) (by exact lit2_0 W0 _ _ _ _ rfl) (by exact lit2_1 W0 _ _ _ _ rfl))
  have cC := Lib.hid (HCS.out _ W0.heap.size (chain HB0.out kC.out) (by exact ((Box.laid W0 _ _).alloc _).cell rfl) (by exact ((Box.laid W0 _ _).alloc _).cell rfl))
  have cD := Lib.hid (HCS.out _ (W0.heap.size + 1) (chain HB0.out kD.out) (by exact lit2_0 (W0.alloc _) _ _ _ _ (by simp)) (by exact lit2_1 (W0.alloc _) _ _ _ _ (by simp)))
  have cP := Lib.hid (fun W1 (hW : Below W0.heap.size W0 W1) => HCV.out _ W1.heap.size (chain HB0.out (chain hW (below1 W1 (Obj.cells #[.slice B lb b, .slice B2 lb2 b2] 24)))) (by exact lit2_0 W1 _ _ _ _ rfl) (by exact lit2_1 W1 _ _ _ _ rfl))
  go_enter Tryz.func86, Tryz.ntmps86
  go_upto_region 1 with fail
  rw [← HW0.out]
  obtain ⟨t3, t4, y3, y4⟩ := keepS.out W0 (Below.refl _ _)
  go_region_held3 (fun w' => w'.cell? ⟨w.heap.size, 3, none⟩ = some (.slice A la a) ∧ w'.cell? ⟨w.heap.size, 4, none⟩ = some (.slice B lb b) ∧ w'.cell? ⟨w.heap.size + 1, 3, none⟩ = some (.slice A2 la2 a2) ∧ w'.cell? ⟨w.heap.size + 1, 4, none⟩ = some (.slice B2 lb2 b2))
    (first | with_reducible exact keepS.out _ k0.out | with_reducible exact keepS.out _ kA.out | with_reducible exact keepS.out _ kB.out | with_reducible exact keepS.out _ kC.out | with_reducible exact keepS.out _ kD.out | with_reducible exact keepS.out _ hb3 | with_reducible exact keepT.out _ hb3 _ _ _ _ _ | with_reducible exact keepS.out _ hb2 | with_reducible exact keepS.out _ (chain hb1 (below1 _ _)) | with_reducible exact keepS.out _ hb1 | go_keep)
    (first
      | (go_at_call 120; (with_reducible refine cA.out.mono ?_); rintro e1 w1 ⟨v1, rfl, ho1', hb1'⟩; obtain ⟨D, d, rfl, -⟩ := own_open ho1'; have ho1 := own_base2 ho1' (base' := w.heap.size) (fun g hg => by have h1 := (ho1'.lt g hg).1; have h2 := (chain HB0.out kA.out).size; omega); have hb1 := chain kA.out hb1'; clear ho1' hb1')
      | (go_at_call 120; (with_reducible refine cC.out.mono ?_); rintro e1 w1 ⟨v1, rfl, ho1', hb1'⟩; obtain ⟨D, d, rfl, -⟩ := own_open ho1'; have ho1 := own_base2 ho1' (base' := w.heap.size) (fun g hg => by have h1 := (ho1'.lt g hg).1; have h2 := (chain HB0.out kC.out).size; omega); have hb1 := chain kC.out hb1'; have q := bC.out.below hb1' bC.out.lt; have q0 : w1.cell? ⟨W0.heap.size + 1, 0, none⟩ = some (.slice B lb b) := q.cell rfl; have q1 : w1.cell? ⟨W0.heap.size + 1, 1, none⟩ = some (.slice B2 lb2 b2) := q.cell rfl; clear q; clear ho1' hb1')
      | (go_at_call 120; (with_reducible refine cD.out.mono ?_); rintro e1 w1 ⟨v1, rfl, ho1', hb1'⟩; obtain ⟨D, d, rfl, -⟩ := own_open ho1'; have ho1 := own_base2 ho1' (base' := w.heap.size) (fun g hg => by have h1 := (ho1'.lt g hg).1; have h2 := (chain HB0.out kD.out).size; omega); have hb1 := chain kD.out hb1'; have q := bD.out.below hb1' bD.out.lt; have q0 : w1.cell? ⟨W0.heap.size, 0, none⟩ = some (.slice B lb b) := q.cell rfl; have q1 : w1.cell? ⟨W0.heap.size, 1, none⟩ = some (.slice B2 lb2 b2) := q.cell rfl; clear q; clear ho1' hb1')
      | (go_at_call 85; (with_reducible refine (HCV.out _ _ (chain HB0.out hb1) q0 q1).mono ?_); rintro e2 w2 ⟨v2, rfl, ho2', hb2'⟩; obtain ⟨E, e, rfl, -⟩ := own_open ho2'; have ho2 := own_base2 ho2' (base' := w.heap.size) (fun g hg => by have h1 := (ho2'.lt g hg).1; have h2 := (chain HB0.out hb1).size; omega); have hb2 := chain hb1 hb2'; have ho3 := own_below ho1 hb2'; clear ho2' hb2')
      | (go_at_call 85; (with_reducible refine (cP.out _ hb1).mono ?_); rintro e2 w2 ⟨v2, rfl, ho2', hb2'⟩; obtain ⟨E, e, rfl, -⟩ := own_open ho2'; have ho2 := own_base2 ho2' (base' := w.heap.size) (fun g hg => by have h1 := (ho2'.lt g hg).1; have h2 := (chain HB0.out (chain hb1 (below1 _ (Obj.cells #[.slice B lb b, .slice B2 lb2 b2] 24)))).size; omega); have hb2 := chain (chain hb1 (below1 _ _)) hb2'; have ho3 := own_below ho1 (chain (below1 _ _) hb2'); clear ho2' hb2')
      | (go_at_call 118; (with_reducible refine (HOB.out _ _ _ _ _ (chain HB0.out hb2) ho3 ho2).mono ?_); rintro e3 w3 ⟨rk, rn, rs, rks, res, RA, ra, RC, rc, hrv, rfl, hb3', hl3⟩; have hz2 := hb2.size; have hb3 := chain hb2 hb3'; have H3 := Lib.hid (H0.out.next hb3); obtain ⟨r0, r1, r2, r3, r4⟩ := box5 H3.out.r; have z0 := H3.out.r.free 0; have z1 := H3.out.r.free 1; have z2 := H3.out.r.free 2; have z3 := H3.out.r.free 3; have z4 := H3.out.r.free 4; clear hb3'))
  all_goals clear t3 t4 y3 y4
  all_goals (go_wp2_with fail)
  all_goals (refine bodyPost_ret (v := .tuple #[.agg #[.int .i64 rk, .int .i64 rn, .string rs, .slice RA rks.length ra, .slice RC res.length rc], .int .i64 er]) (by simp [results, Tryz.results86, go_sem, r0, r1, r2, r3, r4]) rfl ?_)
  all_goals exact ret_put H3.out.below (by omega) H3.out.r.lt (hl3.move fun b hb => ⟨⟨by omega, hb.2, by omega⟩, rfl⟩)
end Go.Proofs.YtkohnkofnobakaaGreatDoor
namespace Go.Proofs.YtkohnkofnobakaaGreatDoor
open Go.RowKit Go.Sort
theorem mat_below {w w' : World} {B : Option Addr} {i : Nat} {m : Mb} (h : MAt w (· < w.heap.size) B i m) (hW : Below w.heap.size w w') : MAt w' (· < w'.heap.size) B i m := by
  obtain ⟨⟨p, o, e, hp, c0, c1, c2, c3, c4⟩, hl⟩ := h
  exact ⟨⟨p, o, e, Nat.lt_of_lt_of_le hp hW.size, below_cell hW hp c0, below_cell hW hp c1, below_cell hW hp c2, below_cell hW hp c3, below_cell hW hp c4⟩, below_lies hW hl⟩
theorem pairs_zip : ∀ ms : List Mb, pairs ms = (ms.map Mb.key).zip (ms.map Mb.v) := by
  intro ms
  induction ms with
  | nil => rfl
  | cons m r ih => simp only [pairs, List.map_cons, List.zip_cons_cons] at ih ⊢; rw [ih]
theorem putAll_pairs (ms : List Mb) : putAll ms = putL [] (pairs ms) := by
  have := putAll_app [] ms
  rw [List.nil_append] at this
  exact this
theorem kv_append (k l : List ByteArray) : kv (k ++ l) = kv k ++ kv l := by simp [kv]
theorem members_at {w : World} {B : Option Addr} {keys : List ByteArray} {l : List V} {xs : List Value} (hk : keys.length = l.length) (hR : Row w B l xs) :
    ∃ ms : List Mb, ms.length = l.length ∧ ms.map Mb.key = keys ∧ ms.map Mb.v = l ∧ ∀ i m, ms[i]? = some m → MAt w (· < w.heap.size) B i m := by
  have hex : ∀ i : Nat, ∃ m : Mb, i < l.length → keys[i]? = some m.key ∧ l[i]? = some m.v ∧ MAt w (· < w.heap.size) B i m := by
    intro i
    by_cases hi : i < l.length
    · obtain ⟨e, he⟩ : ∃ e, l[i]? = some e := ⟨_, List.getElem?_eq_getElem hi⟩
      obtain ⟨k, n, s, ks, es⟩ := e
      obtain ⟨b, o, A, a, C, c, hB, hb, hl, c0, c1, c2, c3, c4⟩ := elem_open hR.rs hR.lies he
      exact ⟨⟨keys[i]'(by omega), k, n, s, ks, es, A, a, C, c⟩, fun _ => ⟨List.getElem?_eq_getElem (by omega), he, ⟨b, o, hB, hb, c0, c1, c2, c3, c4⟩, hl⟩⟩
    · exact ⟨default, fun h => absurd h hi⟩
  obtain ⟨f, hf⟩ := Classical.axiomOfChoice hex
  refine ⟨(List.range l.length).map f, by simp, ?_, ?_, ?_⟩
  · apply List.ext_getElem?
    intro i
    by_cases hi : i < l.length
    · rw [(hf i hi).1]; simp [hi]
    · rw [List.getElem?_eq_none (by simp; omega), List.getElem?_eq_none (by omega)]
  · apply List.ext_getElem?
    intro i
    by_cases hi : i < l.length
    · rw [(hf i hi).2.1]; simp [hi]
    · rw [List.getElem?_eq_none (by simp; omega), List.getElem?_eq_none (by omega)]
  · intro i m hm
    obtain ⟨h1, h2⟩ := List.getElem?_eq_some_iff.1 hm
    have hi : i < l.length := by simpa using h1
    simp at h2
    subst h2
    exact (hf i hi).2.2
/-- Obj at rows of keys and of values, each as long as the other. -/
theorem obj_rows (ks : List ByteArray) (es : List V) (hlen : ks.length = es.length) (hn : es.length ≤ 1000000) (hks : ks.all okS = true) (hkz : ∀ k ∈ ks, k.size ≤ 4096) (hes : es.all valid = true) (A B : Option Addr) (a b : Nat) (xs : List Value) (w : World)
    (hA : Rs w (· < w.heap.size) A (kv ks)) (hR : Row w B es xs) :
    Calls Tryz.prog 118 #[.slice A ks.length a, .slice B es.length b] w (RetPost (finV (objL (putL [] (ks.zip es)))) (finE (objL (putL [] (ks.zip es)))) w) := by
  obtain ⟨ms, hms, hmk, hmv, hmat⟩ := members_at hlen hR
  have h := obj_any ms A B a b xs w (by rw [hmk]; exact hA) (by rw [hmv]; exact hR) hmat (by omega) (fun m hm => by have := hkz m.key (by rw [← hmk]; exact List.mem_map_of_mem hm); omega)
  have hr := objR_ok (ms := ms) (by rw [hmv]; exact hes) (by rw [hmk]; exact hks)
  rw [hr.1, hr.2, putAll_pairs, pairs_zip, hmk, hmv, hms] at h
  rw [hlen]
  exact h
theorem obj_self {k n : Int} {s : ByteArray} {ks : List ByteArray} {es : List V} (hv : valid (.mk k n s ks es) = true) (hlen : ks.length = es.length) : objL (putL [] (ks.zip es)) = .mk 6 0 ⟨#[]⟩ ks es := by
  have := prs_asc hv
  rw [putL_nil_asc (qs := ks.zip es) this]
  unfold objL
  rw [List.map_fst_zip (by omega), List.map_snd_zip (by omega)]
theorem renew_any (v : V) (cs : List Value) (w : World) (h : Lies w (· < w.heap.size) v cs) (hv : valid v = true) : Calls Tryz.prog 83 #[.agg cs.toArray] w (RetPost v 0 w) := by
  obtain ⟨k, n, s, ks, es⟩ := v
  have h0 := h
  rw [Lies] at h0
  obtain ⟨⟨b1, b2, b3, b4⟩, A, a, B, b, xs, rfl, hA0, hB0, ⟨ha1, ha2⟩, ⟨hb1, hb2⟩, hA, hB, hL⟩ := h0
  have hp := valid_parts hv
  have hel := valid_elems hv
  have hko := valid_keysok hv
  rcases valid_shape hv with ⟨hk, rfl, rfl, rfl, rfl⟩ | ⟨rfl, rfl, rfl, rfl⟩ | ⟨rfl, rfl, rfl, rfl⟩ | ⟨rfl, rfl, rfl, rfl⟩ | ⟨rfl, rfl, rfl, hlen⟩
  · rcases hk with rfl | rfl | rfl
    · exact renew_flat0 _ _ A B _ a _ b w
    · exact renew_flat1 _ _ A B _ a _ b w
    · exact renew_flat2 _ _ A B _ a _ b w
  · exact renew_num n _ A B _ a _ b w
  · refine renew_str _ _ A B _ a _ b w _ _ fun W hW => ?_
    have := str_any s W b1
    rw [(strR_ok hp.2.1).1, (strR_ok hp.2.1).2, finV_ok (v := strV s) hv, finE_ok (v := strV s) hv] at this
    exact this
  · refine renew_arr _ _ A B _ a _ b w _ _ fun W hW => ?_
    have := arr_any es B b xs W ⟨(Row.mk hB hL).below hW, hB0, hb1, hb2, b4⟩
    rw [(arrR_ok hel).1, (arrR_ok hel).2, finV_ok (v := arrV es) hv, finE_ok (v := arrV es) hv] at this
    exact this
  · refine renew_obj _ _ A B _ a _ b w _ _ fun W hW => ?_
    have := obj_rows ks es hlen (by omega) hko.1 hko.2 hel A B a b xs W (hA.move fun x hx => ⟨Nat.lt_of_lt_of_le hx hW.size, hW.block x hx⟩) ((Row.mk hB hL).below hW)
    rw [obj_self hv hlen, finV_ok hv, finE_ok hv] at this
    exact this
theorem addv_any (v u : V) (cs ds : List Value) (w : World) (h : Lies w (· < w.heap.size) v cs) (h' : Lies w (· < w.heap.size) u ds) (hv : valid v = true) (hu : valid u = true) :
    Calls Tryz.prog 48 #[.agg cs.toArray, .agg ds.toArray] w (RetPost (sumR v u).1 (sumR v u).2 w) := by
  have hrv := fun W (hW : Below w.heap.size w W) => renew_any v cs W (below_lies hW h) hv
  have hru := fun W (hW : Below w.heap.size w W) => renew_any u ds W (below_lies hW h') hu
  obtain ⟨k, n, s, ks, es⟩ := v
  obtain ⟨k2, n2, s2, ks2, es2⟩ := u
  have h0 := h
  rw [Lies] at h0
  obtain ⟨⟨b1, b2, b3, b4⟩, A, a, B, b, xs, rfl, hA0, hB0, ⟨ha1, ha2⟩, ⟨hb1, hb2⟩, hA, hB, hL⟩ := h0
  have h1 := h'
  rw [Lies] at h1
  obtain ⟨⟨d1, d2, d3, d4⟩, A2, a2, B2, b2', ys, rfl, hA20, hB20, ⟨hc1, hc2⟩, ⟨hd1, hd2⟩, hA2, hB2, hL2⟩ := h1
  have hp := valid_parts hv
  have hp2 := valid_parts hu
  have hel := valid_elems hv
  have hel2 := valid_elems hu
  have hko := valid_keysok hv
  have hko2 := valid_keysok hu
  by_cases k0 : k = 0
  · subst k0
    have hs : sumR (V.mk 0 n s ks es) (V.mk k2 n2 s2 ks2 es2) = (V.mk k2 n2 s2 ks2 es2, 0) := sum_null_left rfl
    rw [hs]
    exact add_left k2 n n2 s s2 A B A2 B2 _ a _ b _ a2 _ b2' w _ _ hru
  by_cases k20 : k2 = 0
  · subst k20
    have hs : sumR (V.mk k n s ks es) (V.mk 0 n2 s2 ks2 es2) = (V.mk k n s ks es, 0) := sum_null_right hv hu rfl
    rw [hs]
    exact add_right k k0 n n2 s s2 A B A2 B2 _ a _ b _ a2 _ b2' w _ _ hrv
  have hsum : sumR (V.mk k n s ks es) (V.mk k2 n2 s2 ks2 es2) = if k = 3 ∧ k2 = 3 then (numV (wrap64 (n + n2)), 0) else if k = 4 ∧ k2 = 4 then lim (strV (s ++ s2)) else if k = 5 ∧ k2 = 5 then lim (arrV (es ++ es2)) else if k = 6 ∧ k2 = 6 then lim (objL (putL (ks.zip es) (ks2.zip es2))) else (vnull, 12) := by
    show (if k = 0 then _ else if k2 = 0 then _ else _) = _
    rw [if_neg k0, if_neg k20]
    rfl
  rw [hsum]
  clear hsum hrv hru
  by_cases c3 : k = 3 ∧ k2 = 3
  · rw [if_pos c3]
    obtain ⟨rfl, rfl⟩ := c3
    exact add_num n n2 s s2 A B A2 B2 _ a _ b _ a2 _ b2' w
  rw [if_neg c3]
  by_cases c4 : k = 4 ∧ k2 = 4
  · rw [if_pos c4]
    obtain ⟨rfl, rfl⟩ := c4
    refine add_str n n2 s s2 A B A2 B2 _ a _ b _ a2 _ b2' hp.1 hp2.1 w _ _ fun W hW => ?_
    have hok := okS_app hp.2.1 hp2.2.1
    have := str_any (s ++ s2) W (by have e := ByteArray.size_append (a := s) (b := s2); omega)
    rw [(strR_ok hok).1, (strR_ok hok).2] at this
    exact this
  rw [if_neg c4]
  by_cases c5 : k = 5 ∧ k2 = 5
  · rw [if_pos c5]
    obtain ⟨rfl, rfl⟩ := c5
    refine add_arr n n2 s s2 A B A2 B2 _ a _ b _ a2 _ b2' w (es.length + es2.length) (xs ++ ys) _ _ (fun W g hW q0 q1 => ?_) (fun W D d hW ho => ?_)
    · exact concatV_any g B B2 es.length es2.length b b2' xs ys W q0 q1 ((Row.mk hB hL).below hW).rs ((Row.mk hB2 hL2).below hW).rs hB0 hB20 hL.len hL2.len (by omega) (by omega) (liesL_one hL) (liesL_one hL2)
    · obtain ⟨D', d', he, hdn, hdl, hdm, hrs⟩ := own_open ho
      cases he
      have hall : (es ++ es2).all valid = true := by rw [List.all_append, hel, hel2]; rfl
      have := arr_any (es ++ es2) D d (xs ++ ys) W ⟨⟨hrs.move fun x hx => ⟨hx.2.1, rfl⟩, ((Row.mk hB hL).below hW).lies.append ((Row.mk hB2 hL2).below hW).lies⟩, hdn, by rw [List.length_append]; exact hdl, hdm, by rw [List.length_append]; omega⟩
      rw [(arrR_ok hall).1, (arrR_ok hall).2, List.length_append] at this
      exact this
  rw [if_neg c5]
  by_cases c6 : k = 6 ∧ k2 = 6
  · rw [if_pos c6]
    obtain ⟨rfl, rfl⟩ := c6
    have hlen : ks.length = es.length := (valid_keys hv).2.1 rfl
    have hlen2 : ks2.length = es2.length := (valid_keys hu).2.1 rfl
    refine add_obj n n2 s s2 A B A2 B2 _ a _ b _ a2 _ b2' w _ _ fun W1 hW1 => ?_
    refine union_over _ _ n n2 s s2 A B A2 B2 _ a _ b _ a2 _ b2' W1 (ks.length + ks2.length) (es.length + es2.length) (kv ks ++ kv ks2) (xs ++ ys) _ _ (fun W g hW' q0 q1 => ?_) (fun W g hW' q0 q1 => ?_) (fun W D d E e hW' ho1 ho2 => ?_)
    · have hW := chain hW1 hW'
      exact concatS_any g A A2 ks.length ks2.length a a2 (kv ks) (kv ks2) W q0 q1 (hA.move fun x hx => ⟨Nat.lt_of_lt_of_le hx hW.size, hW.block x hx⟩) (hA2.move fun x hx => ⟨Nat.lt_of_lt_of_le hx hW.size, hW.block x hx⟩) hA0 hA20 (by rw [kv_length]; omega) (by rw [kv_length]; omega) (by omega) (by omega) (kv_one _) (kv_one _)
    · have hW := chain hW1 hW'
      exact concatV_any g B B2 es.length es2.length b b2' xs ys W q0 q1 ((Row.mk hB hL).below hW).rs ((Row.mk hB2 hL2).below hW).rs hB0 hB20 hL.len hL2.len (by omega) (by omega) (liesL_one hL) (liesL_one hL2)
    · have hW := chain hW1 hW'
      obtain ⟨D', d', he, -, -, -, hr1⟩ := own_open ho1
      cases he
      obtain ⟨E', e', he, -, -, -, hr2⟩ := own_open ho2
      cases he
      have := obj_rows (ks ++ ks2) (es ++ es2) (by simp; omega) (by simp; omega) (by rw [List.all_append, hko.1, hko2.1]; rfl) (fun x hx => by rcases List.mem_append.1 hx with q | q; (· exact hko.2 x q); exact hko2.2 x q) (by rw [List.all_append, hel, hel2]; rfl) D E d e (xs ++ ys) W
        (by rw [kv_append]; exact hr1.move fun x hx => ⟨hx.2.1, rfl⟩) ⟨hr2.move fun x hx => ⟨hx.2.1, rfl⟩, ((Row.mk hB hL).below hW).lies.append ((Row.mk hB2 hL2).below hW).lies⟩
      have hz : putL [] ((ks ++ ks2).zip (es ++ es2)) = putL (ks.zip es) (ks2.zip es2) := by
        rw [List.zip_append hlen]
        unfold putL
        rw [List.foldl_append]
        have := putL_nil_asc (qs := ks.zip es) (prs_asc hv)
        unfold putL at this
        rw [this]
      rw [hz, List.length_append, List.length_append] at this
      exact this
  rw [if_neg c6]
  exact add_type k k2 k0 k20 (fun c hc => by rcases hc with rfl | rfl | rfl | rfl <;> assumption) n n2 s s2 A B A2 B2 _ a _ b _ a2 _ b2' w
/-- Binary at "+". -/
theorem sum_any (v u : V) (cs ds : List Value) (w : World) (h : Lies w (· < w.heap.size) v cs) (h' : Lies w (· < w.heap.size) u ds) (hv : valid v = true) (hu : valid u = true) :
    Calls Tryz.prog 18 #[.string ⟨#[43]⟩, .agg cs.toArray, .agg ds.toArray] w (RetPost (sumR v u).1 (sumR v u).2 w) :=
  bin_add v u cs ds w h h' hv hu _ _ fun W hW => addv_any v u cs ds W (below_lies hW h) (below_lies hW h') hv hu
end Go.Proofs.YtkohnkofnobakaaGreatDoor
namespace Go.Proofs
open Go.Shelf Go.RowKit
def Tryz.spl_ren : Go.Shelf.Ren := ⟨fun | 146 => 68 | 221 => 99 | 268 => 129 | 138 => 130 | 143 => 131 | 195 => 169 | 197 => 170 | 218 => 171 | 219 => 172 | 260 => 192 | 217 => 193 | 225 => 194 | 224 => 195 | 267 => 196 | 266 => 219 | 314 => 220 | n => n, fun | 9 => 9 | 31 => 23 | 3 => 3 | 4 => 4 | 0 => 0 | 105 => 169 | 21 => 21 | 5 => 5 | 46 => 111 | 119 => 211 | 139 => 214 | 138 => 213 | 146 => 187 | 51 => 186 | n => n, fun | 1 => 0 | 3 => 1 | 4 => 2 | n => n⟩
theorem Tryz.spl : Go.Proofs.LaysM.n146 Tryz.prog Tryz.spl_ren := {
  mixed := by kernel_rfl
  f138 := Tryz.func130.trans (congrArg some (by kernel_rfl))
  f143 := Tryz.func131.trans (congrArg some (by kernel_rfl))
  f146 := Tryz.func68.trans (congrArg some (by kernel_rfl))
  f195 := Tryz.func169.trans (congrArg some (by kernel_rfl))
  f197 := Tryz.func170.trans (congrArg some (by kernel_rfl))
  f217 := Tryz.func193.trans (congrArg some (by kernel_rfl))
  f218 := Tryz.func171.trans (congrArg some (by kernel_rfl))
  f219 := Tryz.func172.trans (congrArg some (by kernel_rfl))
  f221 := Tryz.func99.trans (congrArg some (by kernel_rfl))
  f224 := Tryz.func195.trans (congrArg some (by kernel_rfl))
  f225 := Tryz.func194.trans (congrArg some (by kernel_rfl))
  f260 := Tryz.func192.trans (congrArg some (by kernel_rfl))
  f266 := Tryz.func219.trans (congrArg some (by kernel_rfl))
  f267 := Tryz.func196.trans (congrArg some (by kernel_rfl))
  f268 := Tryz.func129.trans (congrArg some (by kernel_rfl))
  f314 := Tryz.func220.trans (congrArg some (by kernel_rfl))
  t0 := Tryz.underlying0
  a0 := Tryz.isAgg0
  z0 := Tryz.sizeOf0
  v0 := Tryz.zeroValue0
  t3 := Tryz.underlying3
  a3 := Tryz.isAgg3
  z3 := Tryz.sizeOf3
  v3 := Tryz.zeroValue3
  t4 := Tryz.underlying4
  a4 := Tryz.isAgg4
  z4 := Tryz.sizeOf4
  v4 := Tryz.zeroValue4
  t5 := Tryz.underlying5
  a5 := Tryz.isAgg5
  z5 := Tryz.sizeOf5
  v5 := Tryz.zeroValue5
  t9 := Tryz.underlying9
  a9 := Tryz.isAgg9
  z9 := Tryz.sizeOf9
  v9 := Tryz.zeroValue9
  t21 := Tryz.underlying21
  a21 := Tryz.isAgg21
  z21 := Tryz.sizeOf21
  v21 := Tryz.zeroValue21
  t31 := Tryz.underlying23
  a31 := Tryz.isAgg23
  z31 := Tryz.sizeOf23
  v31 := Tryz.zeroValue23
  t46 := Tryz.underlying111
  a46 := Tryz.isAgg111
  z46 := Tryz.sizeOf111
  v46 := Tryz.zeroValue111
  t51 := Tryz.underlying186
  a51 := Tryz.isAgg186
  z51 := Tryz.sizeOf186
  v51 := Tryz.zeroValue186
  t105 := Tryz.underlying169
  a105 := Tryz.isAgg169
  z105 := Tryz.sizeOf169
  v105 := Tryz.zeroValue169
  t119 := Tryz.underlying211
  a119 := Tryz.isAgg211
  z119 := Tryz.sizeOf211
  t138 := Tryz.underlying213
  a138 := Tryz.isAgg213
  z138 := Tryz.sizeOf213
  v138 := Tryz.zeroValue213
  t139 := Tryz.underlying214
  a139 := Tryz.isAgg214
  z139 := Tryz.sizeOf214
  v139 := Tryz.zeroValue214
  t146 := Tryz.underlying187
  a146 := Tryz.isAgg187
  z146 := Tryz.sizeOf187
  v146 := Tryz.zeroValue187
  g1 := by kernel_rfl
  g3 := by kernel_rfl
  g4 := by kernel_rfl
  i0 := by kernel_rfl
  i3 := by kernel_rfl
  i4 := by kernel_rfl
  i5 := by kernel_rfl
  i9 := by kernel_rfl
  i21 := by kernel_rfl
  i31 := by kernel_rfl
  i46 := by kernel_rfl
  i51 := by kernel_rfl
  i105 := by kernel_rfl
  i138 := by kernel_rfl
  i139 := by kernel_rfl
  i146 := by kernel_rfl
  m1 := by kernel_rfl
  s1_3 := fun w h => Go.Proofs.cell_of_shapedOpen_int (zero := #[.int .i64 0]) (t := 3) h (of_decide_eq_true (by kernel_rfl)) (by kernel_rfl) rfl (by kernel_rfl) (by kernel_rfl) Tryz.underlying3
  m3 := by kernel_rfl
  m4 := by kernel_rfl }


end Go.Proofs
namespace Go.Proofs.YtkohnkofnobakaaGreatDoor
open Go.RowKit
/-- internal/bytealg.MaxLen holds some int. -/
def MaxL (w : World) : Prop := ∃ m, w.cell? ⟨0, 0, none⟩ = some (.int .i64 m)
theorem MaxL.next {w W : World} (h : MaxL w) (hb : Below w.heap.size w W) : MaxL W := by
  obtain ⟨m, hm⟩ := h
  have hl := World.block_lt_of_cell? w _ hm
  exact ⟨m, (hb.cell (p := ⟨0, 0, none⟩) hl).trans hm⟩
theorem maxl_shaped {w : World} (h : w.ShapedOpen Tryz.prog) : MaxL w := Tryz.spl.s1_3 w h
/-- The pieces of a string between the occurrences of another. -/
def pieces (s sep : ByteArray) : List ByteArray := Lib.splitB sep 0 (Lib.countB s sep) s
theorem pieces_len (s sep : ByteArray) (h : 1 ≤ sep.size) : (pieces s sep).length = Lib.countB s sep + 1 := Lib.splitB_all sep h 0 _ s rfl
theorem split_lib (s sep : ByteArray) (w : World) (hm : MaxL w) (hs : s.size < 4294967281) (h1 : 1 ≤ sep.size) :
    Calls Tryz.prog 68 #[.string s, .string sep] w fun e w' => e = .returned (.slice (some ⟨w.heap.size, 0, none⟩) (pieces s sep).length (pieces s sep).length) ∧ w' = w.alloc (.cells (kv (pieces s sep)).toArray 9) := by
  obtain ⟨m, hm⟩ := hm
  rw [pieces_len s sep h1]
  exact Go.Proofs.Any.strings_Split { Tryz.spl with } Tryz.spl.i9 s sep m w hs hm h1
end Go.Proofs.YtkohnkofnobakaaGreatDoor
namespace Go.Proofs.YtkohnkofnobakaaGreatDoor
open Go.RowKit Go.Sort
/-- What Split hands back. -/
def SplitPost (l : List ByteArray) (ok : Bool) (w : World) (e : Ending) (w' : World) : Prop :=
  Below w.heap.size w w' ∧ ∃ A c, e = .returned (.tuple #[.slice A l.length c, .bool ok]) ∧ Rs w' (fun b => w.heap.size ≤ b ∧ b < w'.heap.size) A (kv l) ∧ (A = none → c = 0) ∧ l.length ≤ c ∧ c ≤ maxLen
theorem rs_newbox {w : World} {t : TypeId} {l : List ByteArray} : Rs (w.alloc (.cells (kv l).toArray t)) (fun b => w.heap.size ≤ b ∧ b < (w.alloc (.cells (kv l).toArray t)).heap.size) (some ⟨w.heap.size, 0, none⟩) (kv l) := by
  intro j u hj
  refine ⟨w.heap.size, 0, rfl, ⟨Nat.le_refl _, by simp⟩, ?_⟩
  rw [Nat.zero_add]
  exact (Box.laid w t (kv l).toArray).cell (by simpa using hj)
theorem splitB_le (s sep : ByteArray) (h : 1 ≤ sep.size) : (pieces s sep).length ≤ s.size + 1 := by
  rw [pieces_len s sep h]
  have := Lib.countB_le sep h s.size s (Nat.le_refl _)
  omega
set_option maxHeartbeats 1000000 in
set_option maxRecDepth 100000 in
theorem split_sep (s sep : ByteArray) (w : World) (hm : MaxL w) (hs : s.size ≤ 1000000) (hsep : sep.size ≤ 1000000) (h1 : 1 ≤ sep.size) (ho : okS s = true) (hp : okS sep = true) (hne : s.size ≠ 0) :
    Calls Tryz.prog 25 #[.string s, .string sep] w (SplitPost (pieces s sep) true w) := by
  have hv := Lib.hid (fun W => val_any s (by unfold maxLen; omega) W)
  have hu := Lib.hid (fun W => val_any sep (by unfold maxLen; omega) W)
  have e1 : (runes s.data.toList).isSome = true := ho
  have e2 : (runes sep.data.toList).isSome = true := hp
  rw [e1] at hv
  rw [e2] at hu
  have hl := Lib.hid (split_lib s sep w hm (by omega) h1)
  have hle := splitB_le s sep h1
  have hE : s.toList.isEmpty = false := by
    cases h : s.toList.isEmpty with
    | false => rfl
    | true =>
      rw [Lib.toList_data] at h
      have h3 : s.data.toList = [] := by simpa using h
      exact absurd (by rw [Lib.size_eq, h3]; rfl) hne
  generalize pieces s sep = l at hl hle ⊢
  clear e1 e2 ho hp
  go_enter Tryz.func25, Tryz.ntmps25
  go_wp2_with (first
    | (go_at_call 67; with_reducible refine (hv.out _).mono ?_; rintro e1 w1 ⟨rfl, rfl⟩)
    | (go_at_call 67; with_reducible refine (hu.out _).mono ?_; rintro e2 w2 ⟨rfl, rfl⟩)
    | (go_at_call 68; refine hl.out.mono ?_; rintro e3 w3 ⟨rfl, rfl⟩))
  go_ret2
  refine ⟨below1 _ _, _, _, rfl, rs_newbox, (fun h => by cases h), Nat.le_refl _, by unfold maxLen; omega⟩
theorem below_dn (w : World) (n : Nat) : Below w.heap.size w (w.drewN n) := ⟨rfl, rfl, rfl, Nat.le_refl _, fun _ _ => rfl⟩
/-- A number that a call hands back. -/
theorem num_open {f : FuncId} {args : Array Value} {w : World} {x err : Int} (h : Calls Tryz.prog f args w (RetPost (numV x) err w)) :
    Calls Tryz.prog f args w fun e w' => ∃ (A : Option Addr) (a : Nat) (B : Option Addr) (b : Nat), e = .returned (.tuple #[.agg #[.int .i64 3, .int .i64 x, .string ⟨#[]⟩, .slice A 0 a, .slice B 0 b], .int .i64 err]) ∧ Below w.heap.size w w' ∧
      Lies w' (· < w'.heap.size) (numV x) [.int .i64 3, .int .i64 x, .string ⟨#[]⟩, .slice A 0 a, .slice B 0 b] := by
  refine h.mono fun e w' hp => ?_
  obtain ⟨hb, ds, rfl, hl⟩ := hp
  have hl2 := hl
  unfold numV at hl2
  obtain ⟨A, a, B, b, xs, rfl, _⟩ := lies_open hl2
  exact ⟨A, a, B, b, rfl, hb, hl.move fun b hb => ⟨hb.2, rfl⟩⟩
theorem nb_add (n n2 : Int) (cs ds : List Value) (w : World) (h : Lies w (· < w.heap.size) (numV n) cs) (h' : Lies w (· < w.heap.size) (numV n2) ds) : Calls Tryz.prog 18 #[.string ⟨#[43]⟩, .agg cs.toArray, .agg ds.toArray] w (RetPost (numV (wrap64 (n + n2))) 0 w) :=
  bin_add (numV n) (numV n2) cs ds w h h' (valid_num _) (valid_num _) _ _ fun W hW => by
    have h1 := h
    have h2 := h'
    unfold numV at h1 h2
    obtain ⟨A, a, B, b, xs, rfl, _⟩ := lies_open h1
    obtain ⟨A2, a2, B2, b2, xs2, rfl, _⟩ := lies_open h2
    exact add_num n n2 _ _ A B A2 B2 _ a _ b _ a2 _ b2 W
theorem nb_sub (n n2 : Int) (cs ds : List Value) (w : World) (h : Lies w (· < w.heap.size) (numV n) cs) (h' : Lies w (· < w.heap.size) (numV n2) ds) : Calls Tryz.prog 18 #[.string ⟨#[45]⟩, .agg cs.toArray, .agg ds.toArray] w (RetPost (numV (wrap64 (n - n2))) 0 w) :=
  bin_sub (numV n) (numV n2) cs ds w h h' (valid_num _) (valid_num _) _ _ fun W hW => by
    have h1 := h
    have h2 := h'
    unfold numV at h1 h2
    obtain ⟨A, a, B, b, xs, rfl, _⟩ := lies_open h1
    obtain ⟨A2, a2, B2, b2, xs2, rfl, _⟩ := lies_open h2
    exact sub_num n n2 _ _ A B A2 B2 _ a _ b _ a2 _ b2 W
theorem nb_mul (n n2 : Int) (cs ds : List Value) (w : World) (h : Lies w (· < w.heap.size) (numV n) cs) (h' : Lies w (· < w.heap.size) (numV n2) ds) : Calls Tryz.prog 18 #[.string ⟨#[42]⟩, .agg cs.toArray, .agg ds.toArray] w (RetPost (numV (wrap64 (n * n2))) 0 w) :=
  bin_mul (numV n) (numV n2) cs ds w h h' (valid_num _) (valid_num _) _ _ fun W hW => by
    have h1 := h
    have h2 := h'
    unfold numV at h1 h2
    obtain ⟨A, a, B, b, xs, rfl, _⟩ := lies_open h1
    obtain ⟨A2, a2, B2, b2, xs2, rfl, _⟩ := lies_open h2
    exact mul_num n n2 _ _ A B A2 B2 _ a _ b _ a2 _ b2 W
theorem nb_div (n n2 : Int) (h0 : n2 ≠ 0) (cs ds : List Value) (w : World) (h : Lies w (· < w.heap.size) (numV n) cs) (h' : Lies w (· < w.heap.size) (numV n2) ds) : Calls Tryz.prog 18 #[.string ⟨#[47]⟩, .agg cs.toArray, .agg ds.toArray] w (RetPost (numV (wrap64 (Int.tdiv n n2))) 0 w) :=
  bin_div (numV n) (numV n2) cs ds w h h' (valid_num _) (valid_num _) _ _ fun W hW => by
    have h1 := h
    have h2 := h'
    unfold numV at h1 h2
    obtain ⟨A, a, B, b, xs, rfl, _⟩ := lies_open h1
    obtain ⟨A2, a2, B2, b2, xs2, rfl, _⟩ := lies_open h2
    exact div_num n n2 _ _ A B A2 B2 _ a _ b _ a2 _ b2 W h0
theorem nb_rem (n n2 : Int) (h0 : n2 ≠ 0) (cs ds : List Value) (w : World) (h : Lies w (· < w.heap.size) (numV n) cs) (h' : Lies w (· < w.heap.size) (numV n2) ds) : Calls Tryz.prog 18 #[.string ⟨#[37]⟩, .agg cs.toArray, .agg ds.toArray] w (RetPost (numV (Int.tmod n n2)) 0 w) :=
  bin_rem (numV n) (numV n2) cs ds w h h' (valid_num _) (valid_num _) _ _ fun W hW => by
    have h1 := h
    have h2 := h'
    unfold numV at h1 h2
    obtain ⟨A, a, B, b, xs, rfl, _⟩ := lies_open h1
    obtain ⟨A2, a2, B2, b2, xs2, rfl, _⟩ := lies_open h2
    exact rem_num n n2 _ _ A B A2 B2 _ a _ b _ a2 _ b2 W h0
theorem msg_zero (w : World) : Calls Tryz.prog 28 #[.int .i64 13] w fun e w' => e = .returned (.string ⟨#[100, 105, 118, 105, 115, 105, 111, 110, 32, 98, 121, 32, 122, 101, 114, 111]⟩) ∧ w' = w := by
  go_enter Tryz.func28, Tryz.ntmps28
  go_wp2_with fail
  go_ret
  exact ⟨rfl, rfl⟩
theorem pieces_ab : pieces ⟨#[97, 44, 98]⟩ ⟨#[44]⟩ = [⟨#[97]⟩, ⟨#[98]⟩] := by decide +kernel
set_option maxHeartbeats 2000000 in
set_option maxRecDepth 100000 in
theorem awake6_any (w : World) (hm : MaxL w) : Calls Tryz.prog 16 #[] w fun e w' => e = .returned (.bool true) ∧ Below w.heap.size w w' := by
  have hn := Lib.hid (fun (n : Int) W => num_any n W)
  have hD := Lib.hid (fun cs ds W h h' => num_open (nb_div (-7) 2 (by decide) cs ds W h h'))
  have hR := Lib.hid (fun cs ds W h h' => num_open (nb_rem (-7) 2 (by decide) cs ds W h h'))
  have hS := Lib.hid (fun W (hW : Below w.heap.size w W) => split_sep ⟨#[97, 44, 98]⟩ ⟨#[44]⟩ W (hm.next hW) (by decide) (by decide) (by decide) (by decide +kernel) (by decide +kernel) (by decide))
  rw [pieces_ab] at hS
  have ed : wrap64 (Int.tdiv (-7) 2) = -3 := by decide +kernel
  have er : Int.tmod (-7) 2 = -1 := by decide +kernel
  rw [ed] at hD
  rw [er] at hR
  clear ed er hm
  go_enter Tryz.func16, Tryz.ntmps16
  go_wp2_with fail
  refine (hn.out _ _).mono ?_
  rintro e1 w1 ⟨rfl, hb1⟩
  go_wp2_with fail
  refine (hn.out _ _).mono ?_
  rintro e2 w2 ⟨rfl, hb2⟩
  have HB2 := Lib.hid (chain hb1 hb2)
  clear hb1 hb2
  go_wp2_with fail
  refine (hD.out [.int .i64 3, .int .i64 (-7), .string ⟨#[]⟩, .slice none 0 0, .slice none 0 0] [.int .i64 3, .int .i64 2, .string ⟨#[]⟩, .slice none 0 0, .slice none 0 0] _ (lies_numv _ _ _) (lies_numv _ _ _)).mono ?_
  rintro e3 w3 ⟨A, a, B, b, rfl, hb3, -⟩
  have HB3 := Lib.hid (chain HB2.out hb3)
  have HX := Lib.hid (Box.laid w3 26 #[.int .i64 3, .int .i64 (-3), .string ⟨#[]⟩, .slice A 0 a, .slice B 0 b])
  clear hb3 HB2
  go_wp2_with fail
  refine (hn.out _ _).mono ?_
  rintro e4 w4 ⟨rfl, hb4⟩
  go_wp2_with fail
  refine (hn.out _ _).mono ?_
  rintro e5 w5 ⟨rfl, hb5⟩
  have HB5 := Lib.hid (chain HB3.out (chain (below1 w3 _) (chain hb4 hb5)))
  have HX5 := Lib.hid (HX.out.below (chain hb4 hb5) HX.out.lt)
  clear hb4 hb5 HX HB3
  go_wp2_with fail
  refine (hR.out [.int .i64 3, .int .i64 (-7), .string ⟨#[]⟩, .slice none 0 0, .slice none 0 0] [.int .i64 3, .int .i64 2, .string ⟨#[]⟩, .slice none 0 0, .slice none 0 0] _ (lies_numv _ _ _) (lies_numv _ _ _)).mono ?_
  rintro e6 w6 ⟨A2, a2, B2, b2, rfl, hb6, -⟩
  have HB6 := Lib.hid (chain HB5.out (chain hb6 (below1 w6 (.cells #[.int .i64 3, .int .i64 (-1), .string ⟨#[]⟩, .slice A2 0 a2, .slice B2 0 b2] 26))))
  have HX6 := Lib.hid ((HX5.out.below hb6 HX5.out.lt).alloc (.cells #[.int .i64 3, .int .i64 (-1), .string ⟨#[]⟩, .slice A2 0 a2, .slice B2 0 b2] 26))
  have HY6 := Lib.hid (Box.laid w6 26 #[.int .i64 3, .int .i64 (-1), .string ⟨#[]⟩, .slice A2 0 a2, .slice B2 0 b2])
  clear hb6 HX5 HB5
  go_wp2_with fail
  refine (hS.out _ HB6.out).mono ?_
  rintro e7 w7 ⟨hb7, A3, c3, rfl, hr3, -, -, -⟩
  have HB7 := Lib.hid (chain HB6.out hb7)
  have HX7 := Lib.hid (HX6.out.below hb7 HX6.out.lt)
  have HY7 := Lib.hid (HY6.out.below hb7 HY6.out.lt)
  have HR7 := Lib.hid hr3
  clear hb7 HX6 HY6 HB6 hr3
  obtain ⟨x0, x1, x2, x3, x4⟩ := box5 HX7.out
  obtain ⟨y0, y1, y2, y3, y4⟩ := box5 HY7.out
  go_wp2_with fail
  refine (strings_any A3 (some ⟨w7.heap.size, 0, none⟩) c3 2 [⟨#[97]⟩, ⟨#[98]⟩] [⟨#[97]⟩, ⟨#[98]⟩] (fun b => w6.heap.size ≤ b) (fun b => b = w7.heap.size) _ (HR7.out.move fun b hb => ⟨by have := hb.1; simp at this; omega, Below.heap_alloc _ _ _ (by have := hb.2; omega)⟩) (fun j u hj => ⟨w7.heap.size, 0, rfl, rfl, by rw [Nat.zero_add]; exact (Box.laid w7 _ _).cell (by simpa [kv] using hj)⟩) (by decide)).mono ?_
  rintro e8 w8 ⟨rfl, m8, rfl⟩
  go_wp2_with (go_at_call 28; refine (msg_zero _).mono ?_; rintro e9 w9 ⟨rfl, rfl⟩)
  go_ret
  exact ⟨rfl, chain HB7.out (chain (below1 w7 _) (below_dn _ _))⟩
end Go.Proofs.YtkohnkofnobakaaGreatDoor
namespace Go.Proofs.YtkohnkofnobakaaGreatDoor
open Go.RowKit Go.Sort
set_option maxHeartbeats 20000000 in
set_option maxRecDepth 100000 in
theorem bin_inv (op : ByteArray) (v u : V) (cs ds : List Value) (w : World) (h : Lies w (· < w.heap.size) v cs) (h' : Lies w (· < w.heap.size) u ds) (hn : (valid v && valid u) = false) :
    Calls Tryz.prog 18 #[.string op, .agg cs.toArray, .agg ds.toArray] w (RetPost vnull 1 w) := by
  have HV := Lib.hid (fun W (hW : Below w.heap.size w W) => valid_any v cs W (below_lies hW h))
  have HU := Lib.hid (fun W (hW : Below w.heap.size w W) => valid_any u ds W (below_lies hW h'))
  generalize valid v = x at HV hn
  generalize valid u = y at HU hn
  obtain ⟨k1, n1, s1, ks1, es1⟩ := v
  obtain ⟨A1, a1, B1, b1, xs1, rfl, _⟩ := lies_open h
  obtain ⟨k2, n2, s2, ks2, es2⟩ := u
  obtain ⟨A2, a2, B2, b2, xs2, rfl, _⟩ := lies_open h'
  clear h h'
  generalize ks1.length = l1 at *
  generalize es1.length = m1 at *
  generalize ks2.length = l2 at *
  generalize es2.length = m2 at *
  show Calls _ _ #[_, .agg #[.int .i64 k1, .int .i64 n1, .string s1, .slice A1 l1 a1, .slice B1 m1 b1], .agg #[.int .i64 k2, .int .i64 n2, .string s2, .slice A2 l2 a2, .slice B2 m2 b2]] w _
  have H0 := Lib.hid (B3.start w #[.int .i64 k1, .int .i64 n1, .string s1, .slice A1 l1 a1, .slice B1 m1 b1] #[.int .i64 k2, .int .i64 n2, .string s2, .slice A2 l2 a2, .slice B2 m2 b2])
  cases x with
  | false =>
    go_enter Tryz.func18, Tryz.ntmps18
    go_wp2_with fail
    refine (HV.out _ H0.out.below).mono ?_
    rintro e1 w1 ⟨rfl, hb1⟩
    have H1 := Lib.hid (H0.out.next hb1)
    obtain ⟨t0, t1, t2, t3, t4⟩ := box5 H1.out.r
    have z0 := H1.out.r.free 0
    have z1 := H1.out.r.free 1
    have z2 := H1.out.r.free 2
    have z3 := H1.out.r.free 3
    have z4 := H1.out.r.free 4
    clear hb1 H0
    go_wp2_with fail
    refine bodyPost_ret (v := .tuple #[.agg #[.int .i64 0, .int .i64 0, .string ⟨#[]⟩, .slice none 0 0, .slice none 0 0], .int .i64 1]) (by simp [results, Tryz.results18, go_sem, t0, t1, t2, t3, t4]) rfl ?_
    exact ret_put H1.out.below (by omega) H1.out.r.lt (lies_null _ _)
  | true =>
    have hy : y = false := by simpa using hn
    subst hy
    go_enter Tryz.func18, Tryz.ntmps18
    go_wp2_with fail
    refine (HV.out _ H0.out.below).mono ?_
    rintro e1 w1 ⟨rfl, hb1⟩
    have H1 := Lib.hid (H0.out.next hb1)
    obtain ⟨y0, y1, y2, y3, y4⟩ := box5 H1.out.y
    clear hb1 H0
    go_wp2_with fail
    refine (HU.out _ H1.out.below).mono ?_
    rintro e2 w2 ⟨rfl, hb2⟩
    have H2 := Lib.hid (H1.out.next hb2)
    clear hb2 y0 y1 y2 y3 y4
    obtain ⟨t0, t1, t2, t3, t4⟩ := box5 H2.out.r
    have z0 := H2.out.r.free 0
    have z1 := H2.out.r.free 1
    have z2 := H2.out.r.free 2
    have z3 := H2.out.r.free 3
    have z4 := H2.out.r.free 4
    go_wp2_with fail
    refine bodyPost_ret (v := .tuple #[.agg #[.int .i64 0, .int .i64 0, .string ⟨#[]⟩, .slice none 0 0, .slice none 0 0], .int .i64 1]) (by simp [results, Tryz.results18, go_sem, t0, t1, t2, t3, t4]) rfl ?_
    exact ret_put H2.out.below (by omega) H2.out.r.lt (lies_null _ _)
/-- The sum of two values. -/
def sumF (v u : V) : V × Int := if (valid v && valid u) = true then sumR v u else (vnull, 1)
theorem sumF_ok {v u : V} (h : valid v = true) (k : valid u = true) : sumF v u = sumR v u := by unfold sumF; rw [h, k]; rfl
theorem sumF_zero {v u : V} (h : (sumF v u).2 = 0) : valid v = true ∧ valid u = true := by
  unfold sumF at h
  by_cases c : (valid v && valid u) = true
  · simpa using c
  · rw [if_neg c] at h; exact absurd h (by decide)
theorem sumF_assoc {a b c : V} (e : (sumF a b).2 = 0) (f : (sumF b c).2 = 0) : sumF (sumF a b).1 c = sumF a (sumF b c).1 := by
  obtain ⟨ha, hb⟩ := sumF_zero e
  obtain ⟨_, hc⟩ := sumF_zero f
  rw [sumF_ok ha hb] at e ⊢
  rw [sumF_ok hb hc] at f ⊢
  rw [sumF_ok (sum_valid ha hb e) hc, sumF_ok ha (sum_valid hb hc f)]
  exact sum_assoc ha hb hc e f
theorem sum_full (v u : V) (cs ds : List Value) (w : World) (h : Lies w (· < w.heap.size) v cs) (h' : Lies w (· < w.heap.size) u ds) :
    Calls Tryz.prog 18 #[.string ⟨#[43]⟩, .agg cs.toArray, .agg ds.toArray] w (RetPost (sumF v u).1 (sumF v u).2 w) := by
  unfold sumF
  by_cases c : (valid v && valid u) = true
  · rw [if_pos c]
    have := c
    rw [Bool.and_eq_true] at this
    exact sum_any v u cs ds w h h' this.1 this.2
  · rw [if_neg c]
    exact bin_inv _ v u cs ds w h h' (by simpa using c)
/-- A value in a box. -/
structure Vx (w : World) (g : Nat) (v : V) (c : List Value) : Prop where
  box : Box w g 26 c.toArray
  lies : Lies w (· < w.heap.size) v c
theorem Vx.next {w w' : World} {g : Nat} {v : V} {c : List Value} (h : Vx w g v c) (hb : Below w.heap.size w w') : Vx w' g v c := ⟨h.box.below hb h.box.lt, below_lies hb h.lies⟩
theorem Vx.new {w : World} {v : V} {c : List Value} (h : Lies w (· < w.heap.size) v c) : Vx (w.alloc (.cells c.toArray 26)) w.heap.size v c := ⟨Box.laid _ _ _, below_lies (below1 _ _) h⟩
theorem three_row6 {w : World} {v u t : V} {c1 c2 c3 : List Value} {g : Nat} (h : Lies w (· < w.heap.size) v c1) (k : Lies w (· < w.heap.size) u c2) (l : Lies w (· < w.heap.size) t c3) (hg : Box w g 26 (c1 ++ (c2 ++ c3)).toArray) : Row w (some ⟨g, 0, none⟩) [v, u, t] (c1 ++ (c2 ++ c3)) := by
  refine ⟨rs_box hg hg.lt, ?_⟩
  rw [LiesL]
  refine ⟨c1, c2 ++ c3, rfl, h, ?_⟩
  rw [LiesL]
  refine ⟨c2, c3, rfl, k, ?_⟩
  rw [LiesL]
  exact ⟨c3, [], by simp, l, by rw [LiesL]⟩
theorem same_selfx {v : V} {cs ds : List Value} {W : World} (h : Lies W (· < W.heap.size) v cs) (k : Lies W (· < W.heap.size) v ds) : Calls Tryz.prog 14 #[.agg cs.toArray, .agg ds.toArray] W fun e w' => e = .returned (.bool true) ∧ Below W.heap.size W w' := by
  have := same_any v v cs ds W h k
  rw [(same_iff v v).2 rfl] at this
  exact this
set_option maxHeartbeats 20000000 in
set_option maxRecDepth 100000 in
theorem arithSums_walk (v u x : V) (cs ds fs : List Value) (w : World) (h : Lies w (· < w.heap.size) v cs) (h' : Lies w (· < w.heap.size) u ds) (h'' : Lies w (· < w.heap.size) x fs) (hml : MaxL w) :
    Calls Tryz.prog 7 #[.agg cs.toArray, .agg ds.toArray, .agg fs.toArray] w fun e w' => e = .returned (.bool true) ∧ Below w.heap.size w w' := by
  have haw := Lib.hid (fun W (hW : Below w.heap.size w W) => awake6_any W (hml.next hW))
  have hva := Lib.hid (fun W (hW : Below w.heap.size w W) => valid_any v cs W (below_lies hW h))
  have hsm := Lib.hid (fun W (hW : Below w.heap.size w W) g hg => small_any 80 [v, u, x] (some ⟨g, 0, none⟩) 3 (cs ++ (ds ++ fs)) W (three_row6 (below_lies hW h) (below_lies hW h') (below_lies hW h'') hg) (by simp) (by omega) (by omega))
  have hsum := Lib.hid (fun p q c d W (hp : Lies W (· < W.heap.size) p c) (hq : Lies W (· < W.heap.size) q d) => ret_open (sum_full p q c d W hp hq))
  have hsame := Lib.hid (fun p c d W (hp : Lies W (· < W.heap.size) p c) (hq : Lies W (· < W.heap.size) p d) => same_selfx (W := W) hp hq)
  have hassoc := Lib.hid (fun e f => sumF_assoc (a := v) (b := u) (c := x) e f)
  have hzl := Lib.hid (fun (hv : valid v = true) => show sumF v vnull = (v, 0) by rw [sumF_ok hv valid_null]; exact sum_null_right hv valid_null rfl)
  have hzr := Lib.hid (fun (hv : valid v = true) => show sumF vnull v = (v, 0) by rw [sumF_ok valid_null hv]; exact sum_null_left rfl)
  have hvz := Lib.hid (fun (e : (sumF v u).2 = 0) => (sumF_zero e).1)
  generalize smallP 80 [v, u, x] = sm at hsm
  generalize hva0 : valid v = va at hva hzl hzr hvz
  have L1 := Lib.hid h
  have L2 := Lib.hid h'
  have L3 := Lib.hid h''
  obtain ⟨A1, a1, B1, b1, l1, m1, k1, n1, s1, rfl⟩ : ∃ (A1 : Option Addr) (a1 : Nat) (B1 : Option Addr) (b1 : Nat) (l1 m1 : Nat) (k1 n1 : Int) (s1 : ByteArray), cs = [.int .i64 k1, .int .i64 n1, .string s1, .slice A1 l1 a1, .slice B1 m1 b1] := by
    obtain ⟨k, n, s, ks, es⟩ := v
    obtain ⟨A, a, B, b, xs, rfl, _⟩ := lies_open h
    exact ⟨A, a, B, b, _, _, k, n, s, rfl⟩
  obtain ⟨A2, a2, B2, b2, l2, m2, k2, n2, s2, rfl⟩ : ∃ (A2 : Option Addr) (a2 : Nat) (B2 : Option Addr) (b2 : Nat) (l2 m2 : Nat) (k2 n2 : Int) (s2 : ByteArray), ds = [.int .i64 k2, .int .i64 n2, .string s2, .slice A2 l2 a2, .slice B2 m2 b2] := by
    obtain ⟨k, n, s, ks, es⟩ := u
    obtain ⟨A, a, B, b, xs, rfl, _⟩ := lies_open h'
    exact ⟨A, a, B, b, _, _, k, n, s, rfl⟩
  obtain ⟨A3, a3, B3, b3, l3, m3, k3, n3, s3, rfl⟩ : ∃ (A3 : Option Addr) (a3 : Nat) (B3 : Option Addr) (b3 : Nat) (l3 m3 : Nat) (k3 n3 : Int) (s3 : ByteArray), fs = [.int .i64 k3, .int .i64 n3, .string s3, .slice A3 l3 a3, .slice B3 m3 b3] := by
    obtain ⟨k, n, s, ks, es⟩ := x
    obtain ⟨A, a, B, b, xs, rfl, _⟩ := lies_open h''
    exact ⟨A, a, B, b, _, _, k, n, s, rfl⟩
  clear h h' h'' hml
  show Calls _ _ #[.agg #[.int .i64 k1, .int .i64 n1, .string s1, .slice A1 l1 a1, .slice B1 m1 b1], .agg #[.int .i64 k2, .int .i64 n2, .string s2, .slice A2 l2 a2, .slice B2 m2 b2], .agg #[.int .i64 k3, .int .i64 n3, .string s3, .slice A3 l3 a3, .slice B3 m3 b3]] w _
  obtain ⟨W0, hW0⟩ : ∃ X, X = (((w.alloc (.cells #[.int .i64 k1, .int .i64 n1, .string s1, .slice A1 l1 a1, .slice B1 m1 b1] 26)).alloc (.cells #[.int .i64 k2, .int .i64 n2, .string s2, .slice A2 l2 a2, .slice B2 m2 b2] 26)).alloc (.cells #[.int .i64 k3, .int .i64 n3, .string s3, .slice A3 l3 a3, .slice B3 m3 b3] 26)) := ⟨_, rfl⟩
  have HB0 : Hid (Below w.heap.size w W0) := Lib.hid (by rw [hW0]; exact chain (below2 _ _ _) (below1 _ _))
  have HX0 : Hid (Vx W0 w.heap.size v [.int .i64 k1, .int .i64 n1, .string s1, .slice A1 l1 a1, .slice B1 m1 b1]) := Lib.hid ⟨by rw [hW0]; exact ((Box.laid w _ _).alloc _).alloc _, below_lies HB0.out L1.out⟩
  have HY0 : Hid (Vx W0 (w.heap.size + 1) u [.int .i64 k2, .int .i64 n2, .string s2, .slice A2 l2 a2, .slice B2 m2 b2]) := Lib.hid ⟨by rw [hW0]; exact (box_at _ _ _ _ (by simp)).alloc _, below_lies HB0.out L2.out⟩
  have HZ0 : Hid (Vx W0 (w.heap.size + 1 + 1) x [.int .i64 k3, .int .i64 n3, .string s3, .slice A3 l3 a3, .slice B3 m3 b3]) := Lib.hid ⟨by rw [hW0]; exact box_at _ _ _ _ (by simp), below_lies HB0.out L3.out⟩
  have HW0 := Lib.hid hW0
  have hsm1 := Lib.hid (hsm.out (W0.alloc (.cells #[.int .i64 k1, .int .i64 n1, .string s1, .slice A1 l1 a1, .slice B1 m1 b1, .int .i64 k2, .int .i64 n2, .string s2, .slice A2 l2 a2, .slice B2 m2 b2, .int .i64 k3, .int .i64 n3, .string s3, .slice A3 l3 a3, .slice B3 m3 b3] 26)) (chain HB0.out (below1 _ _)) W0.heap.size (Box.laid W0 _ _))
  clear hW0 hsm
  obtain ⟨x0, x1, x2, x3, x4⟩ := box5 HX0.out.box
  obtain ⟨y0, y1, y2, y3, y4⟩ := box5 HY0.out.box
  obtain ⟨z0, z1, z2, z3, z4⟩ := box5 HZ0.out.box
  go_enter Tryz.func7, Tryz.ntmps7
  go_upto_region 1 with fail
  rw [← HW0.out]
  go_wp2_with fail
  refine hsm1.out.mono ?_
  rintro e1 w1 ⟨rfl, hb1⟩
  have HB1 := Lib.hid (chain HB0.out (chain (below1 W0 _) hb1))
  have HX1 := Lib.hid (HX0.out.next (chain (below1 W0 _) hb1))
  have HY1 := Lib.hid (HY0.out.next (chain (below1 W0 _) hb1))
  have HZ1 := Lib.hid (HZ0.out.next (chain (below1 W0 _) hb1))
  clear hsm1 hb1 x0 x1 x2 x3 x4 y0 y1 y2 y3 y4 z0 z1 z2 z3 z4 HX0 HY0 HZ0 HB0 HW0
  cases sm with
  | false =>
    go_wp2_with fail
    refine (haw.out _ HB1.out).mono ?_
    rintro e2 w2 ⟨rfl, hb2⟩
    go_wp2_with fail
    go_ret
    exact ⟨rfl, chain HB1.out hb2⟩
  | true =>
    obtain ⟨x0, x1, x2, x3, x4⟩ := box5 HX1.out.box
    obtain ⟨y0, y1, y2, y3, y4⟩ := box5 HY1.out.box
    go_wp2_with fail
    clear x0 x1 x2 x3 x4 y0 y1 y2 y3 y4
    have hc5 := hsum.out _ _ _ _ _ (HX1.out.lies) (HY1.out.lies)
    refine hc5.mono ?_
    rintro e5 w5 ⟨k5, n5, s5, ks5, es5, A5, a5, C5, c5, hv5, rfl, hb5, hl5⟩
    have hN5 := Lib.hid (chain hb5 (below1 w5 (.cells #[.int .i64 k5, .int .i64 n5, .string s5, .slice A5 ks5.length a5, .slice C5 es5.length c5] 26)))
    have HB5 := Lib.hid (chain HB1.out hN5.out)
    have HX5 := Lib.hid (HX1.out.next hN5.out)
    have HY5 := Lib.hid (HY1.out.next hN5.out)
    have HZ5 := Lib.hid (HZ1.out.next hN5.out)
    have HP5 := Lib.hid (Vx.new (hl5.move fun b hb => ⟨hb.2, rfl⟩))
    clear hb5 hl5 hv5 hN5 hc5 HX1 HY1 HZ1 HB1
    obtain ⟨y0, y1, y2, y3, y4⟩ := box5 HY5.out.box
    obtain ⟨z0, z1, z2, z3, z4⟩ := box5 HZ5.out.box
    go_wp2_with fail
    clear y0 y1 y2 y3 y4 z0 z1 z2 z3 z4
    have hc6 := hsum.out _ _ _ _ _ (HY5.out.lies) (HZ5.out.lies)
    refine hc6.mono ?_
    rintro e6 w6 ⟨k6, n6, s6, ks6, es6, A6, a6, C6, c6, hv6, rfl, hb6, hl6⟩
    have hN6 := Lib.hid (chain hb6 (below1 w6 (.cells #[.int .i64 k6, .int .i64 n6, .string s6, .slice A6 ks6.length a6, .slice C6 es6.length c6] 26)))
    have HB6 := Lib.hid (chain HB5.out hN6.out)
    have HX6 := Lib.hid (HX5.out.next hN6.out)
    have HY6 := Lib.hid (HY5.out.next hN6.out)
    have HZ6 := Lib.hid (HZ5.out.next hN6.out)
    have HP6 := Lib.hid (HP5.out.next hN6.out)
    have HQ6 := Lib.hid (Vx.new (hl6.move fun b hb => ⟨hb.2, rfl⟩))
    clear hb6 hl6 hv6 hN6 hc6 HX5 HY5 HZ5 HP5 HB5
    obtain ⟨eab, heab⟩ : ∃ e, e = (sumF v u).2 := ⟨_, rfl⟩
    obtain ⟨ebc, hebc⟩ : ∃ e, e = (sumF u x).2 := ⟨_, rfl⟩
    rw [← heab, ← hebc]
    obtain ⟨x0, x1, x2, x3, x4⟩ := box5 HX6.out.box
    go_wp2_with fail
    clear x0 x1 x2 x3 x4
    refine (hva.out _ HB6.out).mono ?_
    rintro e7 w7 ⟨rfl, hb7⟩
    have HB7 := Lib.hid (chain HB6.out hb7)
    have HX7 := Lib.hid (HX6.out.next hb7)
    have HY7 := Lib.hid (HY6.out.next hb7)
    have HZ7 := Lib.hid (HZ6.out.next hb7)
    have HP7 := Lib.hid (HP6.out.next hb7)
    have HQ7 := Lib.hid (HQ6.out.next hb7)
    clear hb7 HB6 HX6 HY6 HZ6 HP6 HQ6
    cases va with
    | false =>
      have hne : eab ≠ 0 := fun e => by have := hvz.out (by rw [← heab]; exact e); exact absurd this (by decide)
      have hne1 : (eab != 0) = true := by simpa using hne
      go_wp2_with fail
      refine (haw.out _ HB7.out).mono ?_
      rintro e9 w9 ⟨rfl, hb9⟩
      go_wp2_with fail
      go_ret
      exact ⟨rfl, chain HB7.out hb9⟩
    | true =>
      have Hzl := Lib.hid (hzl.out rfl)
      have Hzr := Lib.hid (hzr.out rfl)
      obtain ⟨x0, x1, x2, x3, x4⟩ := box5 HX7.out.box
      go_wp2_with fail
      clear x0 x1 x2 x3 x4
      have hc8 := hsum.out _ _ _ _ _ (HX7.out.lies) (lies_null _ _)
      rw [Hzl.out] at hc8
      refine hc8.mono ?_
      rintro e8 w8 ⟨k8, n8, s8, ks8, es8, A8, a8, C8, c8, hv8, rfl, hb8, hl8⟩
      have hN8 := Lib.hid (chain hb8 (below1 w8 (.cells #[.int .i64 k8, .int .i64 n8, .string s8, .slice A8 ks8.length a8, .slice C8 es8.length c8] 26)))
      have HB8 := Lib.hid (chain HB7.out hN8.out)
      have HX8 := Lib.hid (HX7.out.next hN8.out)
      have HY8 := Lib.hid (HY7.out.next hN8.out)
      have HZ8 := Lib.hid (HZ7.out.next hN8.out)
      have HP8 := Lib.hid (HP7.out.next hN8.out)
      have HQ8 := Lib.hid (HQ7.out.next hN8.out)
      have HR8 := Lib.hid (Vx.new (hl8.move fun b hb => ⟨hb.2, rfl⟩))
      clear hb8 hl8 hv8 hN8 hc8 HX7 HY7 HZ7 HP7 HQ7 HB7
      obtain ⟨x0, x1, x2, x3, x4⟩ := box5 HX8.out.box
      go_wp2_with fail
      clear x0 x1 x2 x3 x4
      have hc10 := hsum.out _ _ _ _ _ (lies_null _ _) (HX8.out.lies)
      rw [Hzr.out] at hc10
      refine hc10.mono ?_
      rintro e10 w10 ⟨k10, n10, s10, ks10, es10, A10, a10, C10, c10, hv10, rfl, hb10, hl10⟩
      have hN10 := Lib.hid (chain hb10 (below1 w10 (.cells #[.int .i64 k10, .int .i64 n10, .string s10, .slice A10 ks10.length a10, .slice C10 es10.length c10] 26)))
      have HB10 := Lib.hid (chain HB8.out hN10.out)
      have HX10 := Lib.hid (HX8.out.next hN10.out)
      have HY10 := Lib.hid (HY8.out.next hN10.out)
      have HZ10 := Lib.hid (HZ8.out.next hN10.out)
      have HP10 := Lib.hid (HP8.out.next hN10.out)
      have HQ10 := Lib.hid (HQ8.out.next hN10.out)
      have HR10 := Lib.hid (HR8.out.next hN10.out)
      have HS10 := Lib.hid (Vx.new (hl10.move fun b hb => ⟨hb.2, rfl⟩))
      clear hb10 hl10 hv10 hN10 hc10 HX8 HY8 HZ8 HP8 HQ8 HR8 HB8
      obtain ⟨r0, r1, r2, r3, r4⟩ := box5 HR10.out.box
      obtain ⟨x0, x1, x2, x3, x4⟩ := box5 HX10.out.box
      go_wp2_with fail
      clear r0 r1 r2 r3 r4 x0 x1 x2 x3 x4
      refine (hsame.out _ _ _ _ HR10.out.lies HX10.out.lies).mono ?_
      rintro e11 w11 ⟨rfl, hb11⟩
      have HB11 := Lib.hid (chain HB10.out hb11)
      have HX11 := Lib.hid (HX10.out.next hb11)
      have HY11 := Lib.hid (HY10.out.next hb11)
      have HZ11 := Lib.hid (HZ10.out.next hb11)
      have HP11 := Lib.hid (HP10.out.next hb11)
      have HQ11 := Lib.hid (HQ10.out.next hb11)
      have HR11 := Lib.hid (HR10.out.next hb11)
      have HS11 := Lib.hid (HS10.out.next hb11)
      clear hb11 HX10 HY10 HZ10 HP10 HQ10 HR10 HS10 HB10
      obtain ⟨r0, r1, r2, r3, r4⟩ := box5 HS11.out.box
      obtain ⟨x0, x1, x2, x3, x4⟩ := box5 HX11.out.box
      go_wp2_with fail
      clear r0 r1 r2 r3 r4 x0 x1 x2 x3 x4
      refine (hsame.out _ _ _ _ HS11.out.lies HX11.out.lies).mono ?_
      rintro e12 w12 ⟨rfl, hb12⟩
      have HB12 := Lib.hid (chain HB11.out hb12)
      have HX12 := Lib.hid (HX11.out.next hb12)
      have HY12 := Lib.hid (HY11.out.next hb12)
      have HZ12 := Lib.hid (HZ11.out.next hb12)
      have HP12 := Lib.hid (HP11.out.next hb12)
      have HQ12 := Lib.hid (HQ11.out.next hb12)
      clear hb12 HX11 HY11 HZ11 HP11 HQ11 HB11
      by_cases c1 : eab = 0
      · by_cases c2 : ebc = 0
        · have hq := hassoc.out (by rw [← heab]; exact c1) (by rw [← hebc]; exact c2)
          subst c1 c2
          obtain ⟨err, herr⟩ : ∃ e, e = (sumF v (sumF u x).1).2 := ⟨_, rfl⟩
          have herr2 : ((err == 0) == (err == 0)) = true := by simp
          obtain ⟨p0, p1, p2, p3, p4⟩ := box5 HP12.out.box
          obtain ⟨z0, z1, z2, z3, z4⟩ := box5 HZ12.out.box
          go_wp2_with fail
          clear p0 p1 p2 p3 p4 z0 z1 z2 z3 z4
          have hc13 := hsum.out _ _ _ _ _ (HP12.out.lies) (HZ12.out.lies)
          rw [hq, ← herr] at hc13
          refine hc13.mono ?_
          rintro e13 w13 ⟨k13, n13, s13, ks13, es13, A13, a13, C13, c13, hv13, rfl, hb13, hl13⟩
          have hN13 := Lib.hid (chain hb13 (below1 w13 (.cells #[.int .i64 k13, .int .i64 n13, .string s13, .slice A13 ks13.length a13, .slice C13 es13.length c13] 26)))
          have HB13 := Lib.hid (chain HB12.out hN13.out)
          have HX13 := Lib.hid (HX12.out.next hN13.out)
          have HQ13 := Lib.hid (HQ12.out.next hN13.out)
          have HF13 := Lib.hid (Vx.new (hl13.move fun b hb => ⟨hb.2, rfl⟩))
          clear hb13 hl13 hv13 hN13 hc13 HX12 HQ12 HB12
          obtain ⟨x0, x1, x2, x3, x4⟩ := box5 HX13.out.box
          obtain ⟨q0, q1, q2, q3, q4⟩ := box5 HQ13.out.box
          go_wp2_with fail
          clear x0 x1 x2 x3 x4 q0 q1 q2 q3 q4
          have hc14 := hsum.out _ _ _ _ _ (HX13.out.lies) (HQ13.out.lies)
          rw [← herr] at hc14
          refine hc14.mono ?_
          rintro e14 w14 ⟨k14, n14, s14, ks14, es14, A14, a14, C14, c14, hv14, rfl, hb14, hl14⟩
          have hN14 := Lib.hid (chain hb14 (below1 w14 (.cells #[.int .i64 k14, .int .i64 n14, .string s14, .slice A14 ks14.length a14, .slice C14 es14.length c14] 26)))
          have HB14 := Lib.hid (chain HB13.out hN14.out)
          have HF14 := Lib.hid (HF13.out.next hN14.out)
          have HG14 := Lib.hid (Vx.new (hl14.move fun b hb => ⟨hb.2, rfl⟩))
          clear hb14 hl14 hv14 hN14 hc14 HF13 HB13
          obtain ⟨x0, x1, x2, x3, x4⟩ := box5 HF14.out.box
          obtain ⟨q0, q1, q2, q3, q4⟩ := box5 HG14.out.box
          go_wp2_with fail
          clear x0 x1 x2 x3 x4 q0 q1 q2 q3 q4
          refine (hsame.out _ _ _ _ HF14.out.lies HG14.out.lies).mono ?_
          rintro e15 w15 ⟨rfl, hb15⟩
          have HB15 := Lib.hid (chain HB14.out hb15)
          clear hb15  HB14
          go_wp2_with fail
          refine (haw.out _ HB15.out).mono ?_
          rintro e9 w9 ⟨rfl, hb9⟩
          go_wp2_with fail
          go_ret
          exact ⟨rfl, chain HB15.out hb9⟩
        · have hne1 : (ebc != 0) = true := by simpa using c2
          have hz1 : (eab != 0) = false := by simpa using c1
          go_wp2_with fail
          refine (haw.out _ HB12.out).mono ?_
          rintro e9 w9 ⟨rfl, hb9⟩
          go_wp2_with fail
          go_ret
          exact ⟨rfl, chain HB12.out hb9⟩
      · have hne1 : (eab != 0) = true := by simpa using c1
        go_wp2_with fail
        refine (haw.out _ HB12.out).mono ?_
        rintro e9 w9 ⟨rfl, hb9⟩
        go_wp2_with fail
        go_ret
        exact ⟨rfl, chain HB12.out hb9⟩
end Go.Proofs.YtkohnkofnobakaaGreatDoor

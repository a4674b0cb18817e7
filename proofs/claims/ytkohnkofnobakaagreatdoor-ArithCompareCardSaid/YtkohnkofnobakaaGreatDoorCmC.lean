/- The laws' sanity check: the chapter's second example. keep.Count and keep.Small: what a value takes. keep.Small: some answer, and nothing that was there has turned. Package arith, plain: what the sum of two values is. Nothing of the program is named here. slices.Grow and slices.Concat of two slices, of strings and of values. Package arith: boxes of arguments, what a call hands back. arith: sums, differences, products, quotients and remainders of numbers; negatives; messages. arith.Binary: which function an operator calls. strings.Split: the library's contract, laid at this program. arith.Split at a separator that is not empty; the laws' sanity check. keep.Mod: the remainder that is not negative. The order of values is total, antisymmetric and transitive; plain. ArithCompare answers true for every two values and every int. ArithCompare answers true for every two values and every int. -/
import Derived.Test.YtkohnkofnobakaaGreatDoorObj2
import Derived.Test.YtkohnkofnobakaaGreatDoorRows
import Derived.Test.YtkohnkofnobakaaGreatDoorVal
import Derived.Lib.Hide
import Derived.WalkSpells
import Derived.WalkLawsBesides
import Derived.Outline
import Derived.Test.YtkohnkofnobakaaGreatDoorObjC
import Derived.Test.YtkohnkofnobakaaGreatDoorRMake
import Derived.Test.YtkohnkofnobakaaGreatDoorBox
import Derived.Lib.AppendZerosOnto
import Derived.Test.YtkohnkofnobakaaGreatDoorMake2
import Derived.Test.YtkohnkofnobakaaGreatDoorCmp2
import Derived.Shelf.LaysM
import Derived.Shelf.Strings.Split
import Derived.Ground.NamesProg
import Derived.Test.YtkohnkofnobakaaGreatDoorStrs
import Derived.WalkKit
import Derived.Test.YtkohnkofnobakaaGreatDoorCmpP
import Derived.Test.YtkohnkofnobakaaGreatDoorSame
import Derived.Test.YtkohnkofnobakaaGreatDoorCalm
import Derived.Test.YtkohnkofnobakaaGreatDoorCmp
import Derived.Deep.RegionHeld3
import Derived.Deep.DeepCutAuto
import Derived.Deep.RegionWith
set_option linter.unusedVariables false
set_option linter.unusedSimpArgs false
namespace Go.Proofs.YtkohnkofnobakaaGreatDoor
open Go.RowKit Go.Sort
theorem rs_box {w : World} {g : Nat} {t : TypeId} {cs : List Value} {S : Nat → Prop} (h : Box w g t cs.toArray) (hg : S g) : Rs w S (some ⟨g, 0, none⟩) cs := fun j u hj => ⟨g, 0, rfl, hg, by rw [Nat.zero_add]; exact h.cell (by simpa using hj)⟩
end Go.Proofs.YtkohnkofnobakaaGreatDoor
namespace Go.Proofs.YtkohnkofnobakaaGreatDoor
open Go.RowKit
mutual
/-- What Count counts: at most a little more than m. -/
def cnt : V → Int → Int
  | .mk _ _ s ks es, m => cntL es m (cntK ks m (1 + s.size))
def cntL : List V → Int → Int → Int
  | [], _, n => n
  | e :: es, m, n => if n ≤ m then cntL es m (n + cnt e (m - n)) else n
def cntK : List ByteArray → Int → Int → Int
  | [], _, n => n
  | x :: ks, m, n => if n ≤ m then cntK ks m (n + (1 + x.size)) else n
end
theorem cntK_drop {ks : List ByteArray} {i : Nat} {x : ByteArray} (hi : ks[i]? = some x) {m q : Int} (hq : q ≤ m) : cntK (ks.drop i) m q = cntK (ks.drop (i + 1)) m (q + (1 + x.size)) := by
  obtain ⟨hl, rfl⟩ := List.getElem?_eq_some_iff.1 hi
  rw [List.drop_eq_getElem_cons hl, cntK, if_pos hq]
theorem cntK_end {ks : List ByteArray} {i : Nat} {m q : Int} (h : ¬ (i < ks.length ∧ q ≤ m)) : cntK (ks.drop i) m q = q := by
  cases hd : ks.drop i with
  | nil => rw [cntK]
  | cons x r =>
    rw [cntK, if_neg]
    intro hq
    refine h ⟨?_, hq⟩
    have := congrArg List.length hd
    simp at this
    omega
theorem cntL_drop {es : List V} {i : Nat} {e : V} (hi : es[i]? = some e) {m q : Int} (hq : q ≤ m) : cntL (es.drop i) m q = cntL (es.drop (i + 1)) m (q + cnt e (m - q)) := by
  obtain ⟨hl, rfl⟩ := List.getElem?_eq_some_iff.1 hi
  rw [List.drop_eq_getElem_cons hl, cntL, if_pos hq]
theorem cntL_end {es : List V} {i : Nat} {m q : Int} (h : ¬ (i < es.length ∧ q ≤ m)) : cntL (es.drop i) m q = q := by
  cases hd : es.drop i with
  | nil => rw [cntL]
  | cons x r =>
    rw [cntL, if_neg]
    intro hq
    refine h ⟨?_, hq⟩
    have := congrArg List.length hd
    simp at this
    omega
theorem cntK_bd (ks : List ByteArray) (hk : ∀ x ∈ ks, x.size ≤ 140737488355328) (m n : Int) (hm : 0 ≤ m) (h1 : 1 ≤ n) (hn : n ≤ m + 281474976710656) : 1 ≤ cntK ks m n ∧ cntK ks m n ≤ m + 281474976710656 := by
  induction ks generalizing n with
  | nil => rw [cntK]; exact ⟨h1, hn⟩
  | cons x r ih =>
    rw [cntK]
    have := hk x (by simp)
    split
    · exact ih (fun y hy => hk y (by simp [hy])) _ (by omega) (by omega)
    · exact ⟨h1, hn⟩
theorem cnt_bd : ∀ v : V, v.Fit → ∀ m : Int, 0 ≤ m → 1 ≤ cnt v m ∧ cnt v m ≤ m + 281474976710656 := by
  refine V.ind fun k n s ks es ih hf m hm => ?_
  rw [V.Fit] at hf
  obtain ⟨h1, h2, h3, h4, hL⟩ := hf
  rw [cnt]
  have hK := cntK_bd ks h2 m (1 + s.size) hm (by omega) (by omega)
  generalize cntK ks m (1 + s.size) = q at hK
  clear h4
  induction es generalizing q with
  | nil => rw [cntL]; exact hK
  | cons e es ihl =>
    rw [V.FitL] at hL
    rw [cntL]
    split
    · have := ih e (by simp) hL.1 (m - q) (by omega)
      exact ihl (fun u hu => ih u (by simp [hu])) hL.2 _ ⟨by omega, by omega⟩
    · exact hK
set_option maxHeartbeats 1000000 in
theorem count_any : ∀ v : V, ∀ (cs : List Value) (w : World) (m : Int), Lies w (· < w.heap.size) v cs → 0 ≤ m → m ≤ 1000000 →
    Calls Tryz.prog 47 #[.agg cs.toArray, .int .i64 m] w fun e w' => e = .returned (.int .i64 (cnt v m)) ∧ Below w.heap.size w w' := by
  refine V.ind fun k n s ks es ih cs w m h hm0 hm1 => ?_
  have hf := lies_fit _ _ h
  rw [V.Fit] at hf
  obtain ⟨h1, h2, h3, h4, hFL⟩ := hf
  obtain ⟨A, a, B, b, xs, rfl, hAn, hBn, ⟨ha1, ha2⟩, ⟨hb1, hb2⟩, hA, hB, hL⟩ := lies_open h
  have HA := Lib.hid hA
  have HB := Lib.hid hB
  have HL := Lib.hid hL
  have IH := Lib.hid ih
  have H2 := Lib.hid h2
  have HF := Lib.hid hFL
  clear hA hB hL ih h2 hFL h hAn hBn
  show Calls _ _ #[.agg #[.int .i64 k, .int .i64 n, .string s, .slice A ks.length a, .slice B es.length b], .int .i64 m] w _
  go_enter Tryz.func47, Tryz.ntmps47
  go_wp2
  unfold maxLen at ha2 hb2
  go_loop [5, 6] (fun c t => ∃ (i : Nat) (q : Int), i ≤ ks.length ∧ t = .int .i64 i ∧ c = .int .i64 q ∧ 1 ≤ q ∧ q ≤ m + 281474976710656 ∧ cntK ks m (1 + s.size) = cntK (ks.drop i) m q) (fun _ t => ks.length - (intOf t).toNat)
  case atStart => exact ⟨0, _, Nat.zero_le _, rfl, rfl, by omega, by omega, rfl⟩
  case round =>
    obtain ⟨i, q, hi, rfl, rfl, hq1, hq2, hK0⟩ := hrel
    have hK := Lib.hid hK0
    clear hK0
    by_cases hgo : i < ks.length ∧ q ≤ m
    · obtain ⟨hlt, hqm⟩ := hgo
      obtain ⟨x, hx⟩ : ∃ x, ks[i]? = some x := ⟨_, List.getElem?_eq_getElem hlt⟩
      have hxs := H2.out x (List.mem_of_getElem? hx)
      obtain ⟨b0, o0, rfl, hb0, hc0⟩ := HA.out.at_ (kv_at hx)
      have hstep := Lib.hid (hK.out.trans (cntK_drop hx hqm))
      have hX := Lib.hid hx
      clear hx
      go_wp2
      go_round
      case rel => exact ⟨i + 1, _, by omega, by go_num, rfl, by omega, by omega, hstep.out⟩
      case measure => simp [intOf]; omega
    · have hkk := Lib.hid (hK.out.trans (cntK_end hgo))
      by_cases hlt : i < ks.length
      all_goals
        go_wp2
        go_loopw [5, 7] (fun c t wr => ∃ (i : Nat) (q : Int), i ≤ es.length ∧ t = .int .i64 i ∧ c = .int .i64 q ∧ 1 ≤ q ∧ q ≤ m + 281474976710656 ∧ cnt (.mk k n s ks es) m = cntL (es.drop i) m q ∧ Below (w.heap.size + 1) (w.alloc (.cells #[.int .i64 k, .int .i64 n, .string s, .slice A ks.length a, .slice B es.length b] 26)) wr) (fun _ t _ => es.length - (intOf t).toNat)
        case atStart => exact ⟨0, _, Nat.zero_le _, rfl, rfl, hq1, hq2, by rw [cnt, hkk.out]; rfl, Below.refl _ _⟩
        case round =>
          clear hK hkk hlt hgo hi hq1 hq2
          obtain ⟨i, q, hi, rfl, rfl, hq1, hq2, hK0, hbel⟩ := hrel
          have hK := Lib.hid hK0
          clear hK0
          have hbox := box_cell hbel 4 _ rfl
          by_cases hgo : i < es.length ∧ q ≤ m
          · obtain ⟨hlt, hqm⟩ := hgo
            obtain ⟨e, he⟩ : ∃ e, es[i]? = some e := ⟨_, List.getElem?_eq_getElem hlt⟩
            obtain ⟨b0, o0, v0, v1, v2, v3, v4, rfl, hb0, hle, c0, c1, c2, c3, c4⟩ := elem_cells HB.out HL.out he
            have d0 := old_cell hbel hb0 c0
            have d1 := old_cell hbel hb0 c1
            have d2 := old_cell hbel hb0 c2
            have d3 := old_cell hbel hb0 c3
            have d4 := old_cell hbel hb0 c4
            clear c0 c1 c2 c3 c4
            have hstep := Lib.hid (hK.out.trans (cntL_drop he hqm))
            have hcb := cnt_bd e (fitL_mem HF.out (List.mem_of_getElem? he)) (m - q) (by omega)
            have hcall := Lib.hid (IH.out e (List.mem_of_getElem? he) [v0, v1, v2, v3, v4] wr (m - q) (old_lies hbel hle) (by omega) (by omega))
            have hX := Lib.hid he
            clear he hle
            go_wp2_with fail
            refine hcall.out.mono ?_
            rintro e' w' ⟨rfl, hb⟩
            go_wp2
            go_roundw
            case rel => exact ⟨i + 1, _, by omega, by go_num, rfl, by omega, by omega, hstep.out, hbel.trans (hb.mono (by have := hbel.size; simp at this; omega))⟩
            case measure => simp [intOf]; omega
          · have hkk := Lib.hid (hK.out.trans (cntL_end hgo))
            by_cases hlt : i < es.length
            all_goals
              go_wp2
              go_ret
              exact ⟨ret_int hkk.out.symm, below_old hbel⟩
end Go.Proofs.YtkohnkofnobakaaGreatDoor
namespace Go.Proofs.YtkohnkofnobakaaGreatDoor
open Go.RowKit Go.Sort
/-- What Small answers. -/
def smallP (m : Int) (l : List V) : Bool := l.all fun v => decide (cnt v m ≤ m)
def smallFrom (m : Int) (l : List V) (i : Nat) : Prop := smallP m l = smallP m (l.drop i)
theorem small_step {m : Int} {l : List V} {i : Nat} {e : V} (he : l[i]? = some e) (h : smallFrom m l i) : smallP m l = (decide (cnt e m ≤ m) && smallP m (l.drop (i + 1))) := by
  obtain ⟨h1, rfl⟩ := List.getElem?_eq_some_iff.1 he
  unfold smallFrom at h
  rw [h, List.drop_eq_getElem_cons h1]
  rfl
set_option maxHeartbeats 1000000 in
set_option maxRecDepth 100000 in
theorem small_any (m : Int) (l : List V) (A : Option Addr) (c : Nat) (xs : List Value) (w : World) (h : Row w A l xs) (hn : l.length ≤ 140737488355328) (hm0 : 0 ≤ m) (hm1 : m ≤ 1000000) :
    Calls Tryz.prog 15 #[.int .i64 m, .slice A l.length c] w fun e w' => e = .returned (.bool (smallP m l)) ∧ Below w.heap.size w w' := by
  have HR := Lib.hid h
  clear h
  go_enter Tryz.func15, Tryz.ntmps15
  go_wp2_with fail
  go_loopw [5] (fun t wr => ∃ i : Nat, i ≤ l.length ∧ t = .int .i64 i ∧ smallFrom m l i ∧ Below w.heap.size w wr) (fun t _ => l.length - (intOf t).toNat)
  case atStart => exact ⟨0, Nat.zero_le _, rfl, by unfold smallFrom; rw [List.drop_zero], Below.refl _ _⟩
  case round =>
    obtain ⟨i, hi, rfl, he0, hbel⟩ := hrel
    have HE := Lib.hid he0
    clear he0
    by_cases hlt : i < l.length
    · obtain ⟨e, he⟩ : ∃ e, l[i]? = some e := ⟨_, List.getElem?_eq_getElem hlt⟩
      have hst := Lib.hid (small_step he HE.out)
      have hv := count_any e
      obtain ⟨ek, en, es', eks, ees⟩ := e
      obtain ⟨bq, oq, A1, a1, C1, c1, rfl, hbq, hle, d0, d1, d2, d3, d4⟩ := elem_open HR.out.rs HR.out.lies he
      have q0 := below_cell hbel hbq d0
      have q1 := below_cell hbel hbq d1
      have q2 := below_cell hbel hbq d2
      have q3 := below_cell hbel hbq d3
      have q4 := below_cell hbel hbq d4
      clear d0 d1 d2 d3 d4
      have HC := Lib.hid (hv [.int .i64 ek, .int .i64 en, .string es', .slice A1 eks.length a1, .slice C1 ees.length c1] wr m (below_lies hbel hle) hm0 hm1)
      clear hv he hle
      generalize cnt (.mk ek en es' eks ees) m = x at HC hst
      by_cases hx : x ≤ m
      · have hst2 : Hid (smallFrom m l (i + 1)) := Lib.hid (by unfold smallFrom; rw [hst.out, decide_eq_true hx, Bool.true_and])
        have hx2 : ¬ m < x := by omega
        clear hst
        go_wp2_with fail
        refine HC.out.mono ?_
        rintro e1 w1 ⟨rfl, hb1⟩
        go_wp2_with fail
        go_roundw
        case rel => exact ⟨i + 1, by omega, by go_num, hst2.out, chain hbel hb1⟩
        case measure => simp [intOf]; omega
      · have hst2 : Hid (smallP m l = false) := Lib.hid (by rw [hst.out, decide_eq_false hx, Bool.false_and])
        have hx2 : m < x := by omega
        clear hst
        go_wp2_with fail
        refine HC.out.mono ?_
        rintro e1 w1 ⟨rfl, hb1⟩
        go_wp2_with fail
        go_ret
        exact ⟨ret_bool hst2.out.symm, chain hbel hb1⟩
    · have hend : Hid (smallP m l = true) := Lib.hid (by
        have := HE.out
        unfold smallFrom at this
        rw [this, List.drop_eq_nil_of_le (by omega)]
        rfl)
      go_wp2_with fail
      go_ret
      exact ⟨ret_bool hend.out.symm, hbel⟩
theorem one_row {w : World} {v : V} {k n : Int} {s : ByteArray} {ks : List ByteArray} {es : List V} {A C : Option Addr} {a c : Nat} {g : Nat}
    (h : Lies w (· < w.heap.size) v [.int .i64 k, .int .i64 n, .string s, .slice A ks.length a, .slice C es.length c]) (hg : Box w g 26 #[.int .i64 k, .int .i64 n, .string s, .slice A ks.length a, .slice C es.length c]) :
    Row w (some ⟨g, 0, none⟩) [v] [.int .i64 k, .int .i64 n, .string s, .slice A ks.length a, .slice C es.length c] := by
  refine ⟨rs_box (cs := [.int .i64 k, .int .i64 n, .string s, .slice A ks.length a, .slice C es.length c]) hg hg.lt, ?_⟩
  rw [LiesL]
  exact ⟨_, [], by simp, h, by rw [LiesL]⟩
end Go.Proofs.YtkohnkofnobakaaGreatDoor
namespace Go.Proofs.YtkohnkofnobakaaGreatDoor
open Go.RowKit Go.Sort
theorem tl_app {n acc r : Nat} {l m : List UInt8} (h : tl n acc l = some r) : tl n acc (l ++ m) = some r := by
  induction n generalizing acc l with
  | zero => rw [tl] at h ⊢; exact h
  | succ n ih =>
    cases l with
    | nil => rw [tl] at h; cases h
    | cons b t =>
      rw [List.cons_append]
      rw [tl] at h ⊢
      split at h
      · rename_i hb; rw [if_pos hb]; exact ih h
      · cases h
theorem fin_app {n least a : Nat} {l m : List UInt8} {q : Nat × Nat} (h : fin n least (tl n a l) = some q) : fin n least (tl n a (l ++ m)) = some q := by
  cases ht : tl n a l with
  | none => rw [ht] at h; cases h
  | some r => rw [tl_app ht, ← ht]; exact h
theorem dec_app {l m : List UInt8} {q : Nat × Nat} (h : dec l = some q) : dec (l ++ m) = some q := by
  cases l with
  | nil => simp [dec] at h
  | cons b t =>
    rw [List.cons_append]
    rw [dec_cons] at h ⊢
    by_cases c1 : b.toNat < 128
    · rw [if_pos c1] at h ⊢; exact h
    rw [if_neg c1] at h ⊢
    by_cases c2 : b.toNat < 192
    · rw [if_pos c2] at h ⊢; exact h
    rw [if_neg c2] at h ⊢
    by_cases c3 : b.toNat < 224
    · rw [if_pos c3] at h ⊢; exact fin_app h
    rw [if_neg c3] at h ⊢
    by_cases c4 : b.toNat < 240
    · rw [if_pos c4] at h ⊢; exact fin_app h
    rw [if_neg c4] at h ⊢
    by_cases c5 : b.toNat < 248
    · rw [if_pos c5] at h ⊢; exact fin_app h
    · rw [if_neg c5] at h; cases h
theorem runes_app : ∀ (n : Nat) {a b : List UInt8} {xs ys : List Nat}, a.length ≤ n → runes a = some xs → runes b = some ys → runes (a ++ b) = some (xs ++ ys)
  | n, [], b, xs, ys, hn, ha, hb => by
    rw [runes_nil] at ha
    injection ha with ha
    subst ha
    simpa using hb
  | 0, c :: t, b, xs, ys, hn, ha, hb => by simp at hn
  | n + 1, c :: t, b, xs, ys, hn, ha, hb => by
    cases hd : dec (c :: t) with
    | none => rw [runes_none (by simp) hd] at ha; cases ha
    | some q =>
      obtain ⟨r, k⟩ := q
      have hk := dec_some_cp hd
      rw [runes_some hd] at ha
      cases ht : runes ((c :: t).drop k) with
      | none => rw [ht] at ha; cases ha
      | some zs =>
        rw [ht] at ha
        injection ha with ha
        subst ha
        have h1 := runes_app n (a := (c :: t).drop k) (by simp at hn ⊢; omega) ht hb
        rw [runes_some (dec_app hd), List.drop_append_of_le_length hk.2.2.2, h1]
        rfl
theorem okS_app {s t : ByteArray} (hs : okS s = true) (ht : okS t = true) : okS (s ++ t) = true := by
  unfold okS at *
  obtain ⟨xs, hx⟩ := Option.isSome_iff_exists.1 hs
  obtain ⟨ys, hy⟩ := Option.isSome_iff_exists.1 ht
  have e : (s ++ t).data.toList = s.data.toList ++ t.data.toList := by simp [ByteArray.data_append]
  rw [e, runes_app _ (Nat.le_refl _) hx hy]
  rfl
theorem size0 {s : ByteArray} (h : s.size = 0) : s = ⟨#[]⟩ := by
  obtain ⟨a⟩ := s
  have : a = #[] := Array.size_eq_zero_iff.1 h
  rw [this]
/-- The shape of a valid value, kind by kind. -/
theorem valid_shape {k n : Int} {s : ByteArray} {ks : List ByteArray} {es : List V} (h : valid (.mk k n s ks es) = true) :
    ((k = 0 ∨ k = 1 ∨ k = 2) ∧ n = 0 ∧ s = ⟨#[]⟩ ∧ ks = [] ∧ es = []) ∨ (k = 3 ∧ s = ⟨#[]⟩ ∧ ks = [] ∧ es = []) ∨ (k = 4 ∧ n = 0 ∧ ks = [] ∧ es = []) ∨ (k = 5 ∧ n = 0 ∧ s = ⟨#[]⟩ ∧ ks = []) ∨ (k = 6 ∧ n = 0 ∧ s = ⟨#[]⟩ ∧ ks.length = es.length) := by
  have h0 := ((valid_iff _).1 h).1
  rw [good] at h0
  simp only [Bool.and_eq_true] at h0
  have h1 := h0.1
  unfold fits at h1
  have nil : ∀ {α : Type} {l : List α}, l.length = 0 → l = [] := fun h => List.eq_nil_of_length_eq_zero h
  split at h1
  · rename_i hk
    simp only [Bool.and_eq_true, decide_eq_true_eq] at h1
    exact .inl ⟨hk, h1.1.1.1, size0 h1.1.1.2, nil h1.1.2, nil h1.2⟩
  split at h1
  · rename_i hk
    simp only [Bool.and_eq_true, decide_eq_true_eq] at h1
    exact .inr (.inl ⟨hk, size0 h1.1.1, nil h1.1.2, nil h1.2⟩)
  split at h1
  · rename_i hk
    simp only [Bool.and_eq_true, decide_eq_true_eq] at h1
    exact .inr (.inr (.inl ⟨hk, h1.1.1, nil h1.1.2, nil h1.2⟩))
  split at h1
  · rename_i hk
    simp only [Bool.and_eq_true, decide_eq_true_eq] at h1
    exact .inr (.inr (.inr (.inl ⟨hk, h1.1.1, size0 h1.1.2, nil h1.2⟩)))
  split at h1
  · rename_i hk
    simp only [Bool.and_eq_true, decide_eq_true_eq] at h1
    exact .inr (.inr (.inr (.inr ⟨hk, h1.1.1, size0 h1.1.2, h1.2⟩)))
  · cases h1
theorem valid_parts {k n : Int} {s : ByteArray} {ks : List ByteArray} {es : List V} (h : valid (.mk k n s ks es) = true) : s.size ≤ 4096 ∧ okS s = true ∧ es.length ≤ 1024 ∧ keysOk none ks = true := by
  have h0 := ((valid_iff _).1 h).1
  rw [good] at h0
  simp only [Bool.and_eq_true, decide_eq_true_eq] at h0
  exact ⟨h0.2.1, h0.2.2.1, h0.2.2.2.1, h0.2.2.2.2.1⟩
theorem valid_elems {k n : Int} {s : ByteArray} {ks : List ByteArray} {es : List V} (h : valid (.mk k n s ks es) = true) : es.all valid = true := by
  rcases valid_shape h with h1 | h1 | h1 | h1 | h1
  · rw [h1.2.2.2.2]; rfl
  · rw [h1.2.2.2]; rfl
  · rw [h1.2.2.2]; rfl
  · exact List.all_eq_true.2 fun e he => (valid_iff e).2 (ok_elem ((valid_iff _).1 h) (.inl h1.1) e he)
  · exact List.all_eq_true.2 fun e he => (valid_iff e).2 (ok_elem ((valid_iff _).1 h) (.inr h1.1) e he)
theorem keysOk_all : ∀ {ks : List ByteArray} {p : Option ByteArray}, keysOk p ks = true → ks.all okS = true ∧ ∀ k ∈ ks, k.size ≤ 4096
  | [], p, h => ⟨rfl, fun k hk => by cases hk⟩
  | x :: r, p, h => by
    have hx : keyOk x = true ∧ keysOk (some x) r = true := by
      cases p with
      | none => rw [keysOk] at h; simpa using h
      | some q => rw [keysOk] at h; simp only [Bool.and_eq_true] at h; exact ⟨h.1, h.2.2⟩
    obtain ⟨h1, h2⟩ := hx
    obtain ⟨h3, h4⟩ := keysOk_all h2
    unfold keyOk at h1
    simp only [Bool.and_eq_true, decide_eq_true_eq] at h1
    refine ⟨by rw [List.all_cons, h3, h1.2]; rfl, fun k hk => ?_⟩
    rcases List.mem_cons.1 hk with rfl | hk
    · exact h1.1
    · exact h4 k hk
theorem valid_keysok {k n : Int} {s : ByteArray} {ks : List ByteArray} {es : List V} (h : valid (.mk k n s ks es) = true) : ks.all okS = true ∧ ∀ k ∈ ks, k.size ≤ 4096 := keysOk_all (valid_parts h).2.2.2
theorem finV_ok {v : V} (h : valid v = true) : finV v = v := by unfold finV; rw [if_pos h]
theorem finE_ok {v : V} (h : valid v = true) : finE v = 0 := by unfold finE; rw [if_pos h]
theorem finE_zero {v : V} (h : finE v = 0) : valid v = true := by
  unfold finE at h
  split at h
  · assumption
  · cases h
theorem strR_ok {s : ByteArray} (h : okS s = true) : strR s = finV (strV s) ∧ strE s = finE (strV s) := by
  unfold strR strE
  rw [if_pos h, if_pos h]
  exact ⟨rfl, rfl⟩
theorem arrR_ok {l : List V} (h : l.all valid = true) : arrR l = finV (arrV l) ∧ arrE l = finE (arrV l) := by
  unfold arrR arrE
  rw [if_pos h, if_pos h]
  exact ⟨rfl, rfl⟩
theorem objR_ok {ms : List Mb} (h : (ms.map Mb.v).all valid = true) (k : (ms.map Mb.key).all okS = true) : objR ms = finV (objL (putAll ms)) ∧ objE ms = finE (objL (putAll ms)) := by
  unfold objR objE
  rw [if_pos h, if_pos k, if_pos h, if_pos k, obj_put]
  exact ⟨rfl, rfl⟩
/-- Members set one after another. -/
def putL (ps qs : PL) : PL := qs.foldl (fun ps p => putP ps p.1 p.2) ps
theorem putL_snoc (ps qs : PL) (p : ByteArray × V) : putL ps (qs ++ [p]) = putP (putL ps qs) p.1 p.2 := by simp [putL]
theorem rev_indP {α : Type} {p : List α → Prop} (h0 : p []) (h1 : ∀ l m, p l → p (l ++ [m])) : ∀ l, p l := by
  intro l
  have : ∀ r : List α, p r.reverse := by
    intro r
    induction r with
    | nil => exact h0
    | cons m r ih => rw [List.reverse_cons]; exact h1 _ _ ih
  have := this l.reverse
  simpa using this
theorem putL_asc {ps : PL} (h : PAsc ps) : ∀ qs, PAsc (putL ps qs) :=
  rev_indP h fun l m ih => by rw [putL_snoc]; exact putP_asc ih
/-- The last value of a key in a list of pairs. -/
def lastP (qs : PL) (k : ByteArray) : Option V := ((qs.filter fun p => decide (p.1 = k)).getLast?).map Prod.snd
theorem putL_look {ps : PL} (h : PAsc ps) (k : ByteArray) : ∀ qs, look (putL ps qs) k = (lastP qs k).or (look ps k) := by
  refine rev_indP rfl fun l m ih => ?_
  rw [putL_snoc, putP_look k (putL_asc h l), ih]
  unfold lastP
  rw [List.filter_append]
  by_cases e : m.1 = k
  · rw [if_pos e]; simp [e]
  · rw [if_neg e]; simp [e]
theorem lastP_asc (k : ByteArray) : ∀ {qs : PL}, PAsc qs → lastP qs k = look qs k
  | [], _ => rfl
  | (y, v) :: r, h => by
    obtain ⟨h1, h2⟩ := List.pairwise_cons.1 h
    have ih := lastP_asc k h2
    unfold lastP at ih ⊢
    rw [look]
    by_cases e : y = k
    · subst e
      have hn : r.filter (fun p => decide (p.1 = y)) = [] := List.filter_eq_nil_iff.2 fun p hp hk => by
        have h3 := h1 p hp
        have hk : p.1 = y := by simpa using hk
        rw [hk] at h3
        simp only [scmp_self] at h3
        omega
      rw [if_pos rfl, List.filter_cons_of_pos (by simp), hn]
      rfl
    · rw [if_neg e, List.filter_cons_of_neg (by simp [e]), ih]
theorem putAll_app (ma mb : List Mb) : putAll (ma ++ mb) = putL (putAll ma) (pairs mb) := by
  unfold putAll putL pairs
  rw [List.foldl_append, List.foldl_map]
theorem pasc_nil : PAsc [] := List.Pairwise.nil
theorem putL_nil_asc {qs : PL} (h : PAsc qs) : putL [] qs = qs :=
  canon (putL_asc pasc_nil qs) h fun k => by rw [putL_look pasc_nil k qs, lastP_asc k h]; simp [look]
theorem putAll_asc_self {ms : List Mb} (h : PAsc (pairs ms)) : putAll ms = pairs ms := by
  have := putAll_app [] ms
  rw [List.nil_append] at this
  rw [this]
  exact putL_nil_asc h
theorem putL_assoc {a b c : PL} (ha : PAsc a) (hb : PAsc b) (hc : PAsc c) : putL (putL a b) c = putL a (putL b c) := by
  refine canon (putL_asc (putL_asc ha b) c) (putL_asc ha _) fun k => ?_
  rw [putL_look (putL_asc ha b) k, putL_look ha k, putL_look ha k, lastP_asc k hc, lastP_asc k hb, lastP_asc k (putL_asc hb c), putL_look hb k, lastP_asc k hc]
  cases look c k <;> rfl
def kd : V → Int | .mk k _ _ _ _ => k
def nm : V → Int | .mk _ n _ _ _ => n
def stv : V → ByteArray | .mk _ _ s _ _ => s
def esv : V → List V | .mk _ _ _ _ es => es
/-- The members of an object. -/
def prs : V → PL | .mk _ _ _ ks es => ks.zip es
theorem prs_asc {k n : Int} {s : ByteArray} {ks : List ByteArray} {es : List V} (h : valid (.mk k n s ks es) = true) : PAsc (prs (.mk k n s ks es)) := by
  have ha := (valid_keys h).1
  unfold prs PAsc
  have : ∀ {ks : List ByteArray} {es : List V}, Asc ks → (ks.zip es).Pairwise fun x y => scmp x.1 y.1 < 0 := by
    intro ks
    induction ks with
    | nil => intro es _; simp
    | cons x r ih =>
      intro es h
      cases es with
      | nil => simp
      | cons e f =>
        obtain ⟨h1, h2⟩ := List.pairwise_cons.1 h
        rw [List.zip_cons_cons]
        exact List.Pairwise.cons (fun p hp => h1 p.1 (List.of_mem_zip (show (p.1, p.2) ∈ r.zip f from hp)).1) (ih h2)
  exact this ha
theorem objL_prs {es : List V} {ks : List ByteArray} (h : ks.length = es.length) : objL (prs (.mk 6 0 ⟨#[]⟩ ks es)) = .mk 6 0 ⟨#[]⟩ ks es := by
  unfold objL prs
  rw [List.map_fst_zip (by omega), List.map_snd_zip (by omega)]
theorem prs_objL (ps : PL) : prs (objL ps) = ps := by
  unfold objL prs
  induction ps with
  | nil => rfl
  | cons p r ih => simp [ih]
/-- Within the limits or not. -/
def lim (v : V) : V × Int := (finV v, finE v)

/-- The sum of two valid values. -/
def sumR (a b : V) : V × Int :=
  if kd a = 0 then (b, 0) else if kd b = 0 then (a, 0)
  else if kd a = 3 ∧ kd b = 3 then (numV (wrap64 (nm a + nm b)), 0)
  else if kd a = 4 ∧ kd b = 4 then lim (strV (stv a ++ stv b))
  else if kd a = 5 ∧ kd b = 5 then lim (arrV (esv a ++ esv b))
  else if kd a = 6 ∧ kd b = 6 then lim (objL (putL (prs a) (prs b)))
  else (vnull, 12)
theorem sum_null_left {a b : V} (h : kd a = 0) : sumR a b = (b, 0) := by unfold sumR; rw [if_pos h]
theorem vnull_of {a : V} (h : valid a = true) (k : kd a = 0) : a = vnull := by
  obtain ⟨k1, n, s, ks, es⟩ := a
  have hk : k1 = 0 := k
  subst hk
  rcases valid_shape h with h1 | h1 | h1 | h1 | h1
  · obtain ⟨_, rfl, rfl, rfl, rfl⟩ := h1; rfl
  all_goals exact absurd h1.1 (by decide)
theorem sum_null_right {a b : V} (ha : valid a = true) (hb : valid b = true) (h : kd b = 0) : sumR a b = (a, 0) := by
  unfold sumR
  by_cases k : kd a = 0
  · rw [if_pos k, vnull_of ha k, vnull_of hb h]
  · rw [if_neg k, if_pos h]
theorem valid_null : valid vnull = true := by decide +kernel
theorem valid_num (n : Int) : valid (numV n) = true := by
  rw [valid_iff]
  unfold numV
  refine ⟨?_, ?_, ?_, ?_⟩
  · rw [good, goodL]
    have h1 : fits 3 n ⟨#[]⟩ ([] : List ByteArray).length ([] : List V).length = true := rfl
    rw [h1]
    decide +kernel
  · rw [dep]; simp
  · rw [V.sz, V.szL]; decide
  · rw [vbyt, vbytL]; decide
/-- A sum without an error is valid. -/
theorem sum_valid {a b : V} (ha : valid a = true) (hb : valid b = true) (h : (sumR a b).2 = 0) : valid (sumR a b).1 = true := by
  unfold sumR at h ⊢
  split at h
  · rename_i k; rw [if_pos k]; exact hb
  rename_i k0
  split at h
  · rename_i k; rw [if_neg k0, if_pos k]; exact ha
  rename_i k1
  rw [if_neg k0, if_neg k1]
  split at h
  · rename_i k; rw [if_pos k]; exact valid_num _
  rename_i k2
  rw [if_neg k2]
  split at h
  · rename_i k; rw [if_pos k]; unfold lim at h ⊢; have := finE_zero h; rw [finV_ok this]; exact this
  rename_i k3
  rw [if_neg k3]
  split at h
  · rename_i k; rw [if_pos k]; unfold lim at h ⊢; have := finE_zero h; rw [finV_ok this]; exact this
  rename_i k4
  rw [if_neg k4]
  split at h
  · rename_i k; rw [if_pos k]; unfold lim at h ⊢; have := finE_zero h; rw [finV_ok this]; exact this
  · cases h
theorem w64_left (a b : Int) : wrap64 (wrap64 a + b) = wrap64 (a + b) := by
  unfold wrap64
  omega
theorem w64_right (a b : Int) : wrap64 (a + wrap64 b) = wrap64 (a + b) := by
  rw [Int.add_comm, w64_left, Int.add_comm]
theorem lim_ok {v : V} (h : (lim v).2 = 0) : lim v = (v, 0) := by
  have := finE_zero h
  unfold lim
  rw [finV_ok this, finE_ok this]
/-- The sum is associative. -/
theorem sum_assoc {a b c : V} (ha : valid a = true) (hb : valid b = true) (hc : valid c = true) (e : (sumR a b).2 = 0) (f : (sumR b c).2 = 0) : sumR (sumR a b).1 c = sumR a (sumR b c).1 := by
  by_cases k0 : kd a = 0
  · rw [sum_null_left k0, sum_null_left k0]
    generalize sumR b c = q at f
    obtain ⟨q1, q2⟩ := q
    simp only at f
    rw [f]
  by_cases k1 : kd b = 0
  · rw [sum_null_right ha hb k1, sum_null_left k1]
  by_cases k2 : kd c = 0
  · rw [sum_null_right (sum_valid ha hb e) hc k2, sum_null_right hb hc k2]
    generalize sumR a b = q at e
    obtain ⟨q1, q2⟩ := q
    simp only at e
    rw [e]
  unfold sumR at e f
  rw [if_neg k0, if_neg k1] at e
  rw [if_neg k1, if_neg k2] at f
  have key : (kd a = 3 ∧ kd b = 3 ∧ kd c = 3) ∨ (kd a = 4 ∧ kd b = 4 ∧ kd c = 4) ∨ (kd a = 5 ∧ kd b = 5 ∧ kd c = 5) ∨ (kd a = 6 ∧ kd b = 6 ∧ kd c = 6) := by
    (repeat' split at e) <;> (repeat' split at f) <;> first | omega | (simp at e; done) | (simp at f; done)
  rcases key with ⟨h1, h2, h3⟩ | ⟨h1, h2, h3⟩ | ⟨h1, h2, h3⟩ | ⟨h1, h2, h3⟩
  · have s1 : sumR a b = (numV (wrap64 (nm a + nm b)), 0) := by unfold sumR; rw [if_neg k0, if_neg k1, if_pos ⟨h1, h2⟩]
    have s2 : sumR b c = (numV (wrap64 (nm b + nm c)), 0) := by unfold sumR; rw [if_neg k1, if_neg k2, if_pos ⟨h2, h3⟩]
    rw [s1, s2]
    have t1 : ∀ n, kd (numV n) = 3 := fun _ => rfl
    have t2 : ∀ n, nm (numV n) = n := fun _ => rfl
    unfold sumR
    rw [if_neg (by rw [t1]; decide), if_neg k2, if_pos ⟨t1 _, h3⟩, if_neg k0, if_neg (by rw [t1]; decide), if_pos ⟨h1, t1 _⟩, t2, t2, w64_left, w64_right, Int.add_assoc]
  · have s1 : sumR a b = lim (strV (stv a ++ stv b)) := by unfold sumR; rw [if_neg k0, if_neg k1, if_neg (by omega), if_pos ⟨h1, h2⟩]
    have s2 : sumR b c = lim (strV (stv b ++ stv c)) := by unfold sumR; rw [if_neg k1, if_neg k2, if_neg (by omega), if_pos ⟨h2, h3⟩]
    rw [if_neg (by omega), if_pos ⟨h1, h2⟩] at e
    rw [if_neg (by omega), if_pos ⟨h2, h3⟩] at f
    rw [s1, s2, lim_ok e, lim_ok f]
    have t1 : ∀ n, kd (strV n) = 4 := fun _ => rfl
    have t2 : ∀ n, stv (strV n) = n := fun _ => rfl
    unfold sumR
    rw [if_neg (by rw [t1]; decide), if_neg k2, if_neg (by rw [t1]; omega), if_pos ⟨t1 _, h3⟩, if_neg k0, if_neg (by rw [t1]; decide), if_neg (by rw [t1]; omega), if_pos ⟨h1, t1 _⟩, t2, t2, ByteArray.append_assoc]
  · have s1 : sumR a b = lim (arrV (esv a ++ esv b)) := by unfold sumR; rw [if_neg k0, if_neg k1, if_neg (by omega), if_neg (by omega), if_pos ⟨h1, h2⟩]
    have s2 : sumR b c = lim (arrV (esv b ++ esv c)) := by unfold sumR; rw [if_neg k1, if_neg k2, if_neg (by omega), if_neg (by omega), if_pos ⟨h2, h3⟩]
    rw [if_neg (by omega), if_neg (by omega), if_pos ⟨h1, h2⟩] at e
    rw [if_neg (by omega), if_neg (by omega), if_pos ⟨h2, h3⟩] at f
    rw [s1, s2, lim_ok e, lim_ok f]
    have t1 : ∀ n, kd (arrV n) = 5 := fun _ => rfl
    have t2 : ∀ n, esv (arrV n) = n := fun _ => rfl
    unfold sumR
    rw [if_neg (by rw [t1]; decide), if_neg k2, if_neg (by rw [t1]; omega), if_neg (by rw [t1]; omega), if_pos ⟨t1 _, h3⟩, if_neg k0, if_neg (by rw [t1]; decide), if_neg (by rw [t1]; omega), if_neg (by rw [t1]; omega), if_pos ⟨h1, t1 _⟩, t2, t2, List.append_assoc]
  · have s1 : sumR a b = lim (objL (putL (prs a) (prs b))) := by unfold sumR; rw [if_neg k0, if_neg k1, if_neg (by omega), if_neg (by omega), if_neg (by omega), if_pos ⟨h1, h2⟩]
    have s2 : sumR b c = lim (objL (putL (prs b) (prs c))) := by unfold sumR; rw [if_neg k1, if_neg k2, if_neg (by omega), if_neg (by omega), if_neg (by omega), if_pos ⟨h2, h3⟩]
    rw [if_neg (by omega), if_neg (by omega), if_neg (by omega), if_pos ⟨h1, h2⟩] at e
    rw [if_neg (by omega), if_neg (by omega), if_neg (by omega), if_pos ⟨h2, h3⟩] at f
    rw [s1, s2, lim_ok e, lim_ok f]
    have t1 : ∀ n, kd (objL n) = 6 := fun _ => rfl
    have pa : PAsc (prs a) := by obtain ⟨k, n, s, ks, es⟩ := a; exact prs_asc ha
    have pb : PAsc (prs b) := by obtain ⟨k, n, s, ks, es⟩ := b; exact prs_asc hb
    have pc : PAsc (prs c) := by obtain ⟨k, n, s, ks, es⟩ := c; exact prs_asc hc
    unfold sumR
    rw [if_neg (by rw [t1]; decide), if_neg k2, if_neg (by rw [t1]; omega), if_neg (by rw [t1]; omega), if_neg (by rw [t1]; omega), if_pos ⟨t1 _, h3⟩, if_neg k0, if_neg (by rw [t1]; decide), if_neg (by rw [t1]; omega), if_neg (by rw [t1]; omega), if_neg (by rw [t1]; omega), if_pos ⟨h1, t1 _⟩, prs_objL, prs_objL, putL_assoc pa pb pc]
end Go.Proofs.YtkohnkofnobakaaGreatDoor
namespace Go.Proofs.YtkohnkofnobakaaGreatDoor
open Go.RowKit
def GrowPostS (w : World) (e : Ending) (w' : World) : Prop := Below w.heap.size w w' ∧ ∃ v, e = .returned v ∧ w'.ownsRow w.heap.size 9 1 v 0 []
set_option maxHeartbeats 2000000 in
set_option maxRecDepth 100000 in
theorem growS_nil (n : Nat) (w : World) (hn : n ≤ 2000000) : Calls Tryz.prog 157 #[.slice none 0 0, .int .i64 n] w (GrowPostS w) := by
  obtain ⟨i0, hi, hz0, hz1, hz2⟩ := info_parts inf_string
  by_cases hz : n = 0
  · subst hz
    go_enter Tryz.func157, Tryz.ntmps157
    go_wp2_with fail
    go_ret
    exact ⟨Below.refl _ _, _, rfl, World.ownsRow_nil _ _ _ _⟩
  · have hz' : 0 < n := by omega
    have hold : (Builtin.firstCells i0.size 0 (.slice none 0 0)).run Tryz.prog w.drew = .ok ([] : List Value).toArray w.drew := run_firstCells_none w.drew i0.size 0 0 0
    have hrz : ∀ ty, (Builtin.append_ #[23, 3] ty #[.slice none 0 0, .int .i64 (n : Int)]).run Tryz.prog w =
        .ok (.slice (some ⟨w.heap.size, 0, none⟩) (0 + n) (grownCap w (0 + n) 0 9)) (w.drew.alloc (.cells (([] : List Value).toArray ++ Builtin.zeroCells (Value.string ⟨#[]⟩).cells n ++ Builtin.zeroCells (Value.string ⟨#[]⟩).cells (grownCap w (0 + n) 0 9 - (0 + n))) 9)) := fun ty => by
      exact Lib.run_append_grow_zeros w 23 3 ty 9 i0 (.string ⟨#[]⟩) .i64 .i64 Tryz.underlying23 Tryz.underlying3 hi hz0 none 0 0 ([] : List Value) hold n hz' (by rw [hz1]; omega) (by omega) (by omega)
        (by rw [hz2]; omega) (growslice_fits (by omega) (by rw [hz2]; omega))
    have hGn : 0 + n ≤ grownCap w (0 + n) 0 9 := grownCap_ge w _ _ _
    have hG63 : grownCap w (0 + n) 0 9 ≤ maxLen := grownCap_le_maxLen w (0 + n) 0 9 (by unfold maxLen; omega)
    generalize hG : grownCap w (0 + n) 0 9 = G at hrz hGn hG63
    have hG63' : G ≤ 9223372036854775807 := by unfold maxLen at hG63; omega
    have HM := Lib.hid hG63
    clear hold hG hG63
    obtain ⟨C, hC⟩ : ∃ C : Array Value, C = ([] : List Value).toArray ++ Builtin.zeroCells (Value.string ⟨#[]⟩).cells n ++ Builtin.zeroCells (Value.string ⟨#[]⟩).cells (G - (0 + n)) := ⟨_, rfl⟩
    have hsz : Hid (C.size = G * 1) := Lib.hid (by
      rw [hC, Array.size_append, Array.size_append, size_zeroCells, size_zeroCells, show (Value.string ⟨#[]⟩).cells.size = 1 from rfl]
      simp
      omega)
    rw [← hC] at hrz
    have HRZ := Lib.hid hrz
    clear hrz hC
    go_enter Tryz.func157, Tryz.ntmps157
    go_wp2_with (at_builtin; refine Lib.wpList_append_run _ rfl _ _ _ _ rfl _ _ rfl rfl _ _ (HRZ.out _) ?_)
    go_ret
    refine ⟨((Below.refl _ _).drew).alloc (Nat.le_refl _) _, _, rfl, ?_⟩
    exact World.ownsRow_made (base := w.heap.size) (e := 9) (size := 1) w.drew C G (Nat.le_refl _) HM.out hsz.out
/-- The first loop: how much has been counted. -/
def CStC (n0 n1 : Nat) (t3 t11 : Value) : Prop := (t11 = .int .i64 0 ∧ t3 = .int .i64 0) ∨ (t11 = .int .i64 1 ∧ t3 = .int .i64 n0) ∨ (t11 = .int .i64 2 ∧ t3 = .int .i64 ((n0 : Int) + n1))
/-- What a concatenation of two slices hands back: a row of its own. -/
def CatPost (base : Nat) (ty : TypeId) (size : Nat) (w : World) (n : Nat) (xs : List Value) (e : Ending) (w' : World) : Prop :=
  ∃ v, e = .returned v ∧ w'.ownsRow base ty size v n xs ∧ Below base w w'
theorem own_ge' {w : World} {base n size : Nat} {e : TypeId} {v : Value} {xs : List Value} (h : w.ownsRow base e size v n xs) : ∀ g, v.ownBlock = some g → base ≤ g := fun g hg => (h.lt g hg).1
/-- The second loop: what has been put. -/
def DStC (ty : TypeId) (size : Nat) (W : World) (n0 n1 : Nat) (l0 l1 : List Value) (t6 t27 : Value) (wr : World) : Prop := ∃ (n : Nat) (out : List Value), wr.ownsRow W.heap.size ty size t6 n out ∧ Below W.heap.size W wr ∧
  ((t27 = .int .i64 0 ∧ out = [] ∧ n = 0) ∨ (t27 = .int .i64 1 ∧ out = l0 ∧ n = n0) ∨ (t27 = .int .i64 2 ∧ out = l0 ++ l1 ∧ n = n0 + n1))
set_option maxHeartbeats 4000000 in
set_option maxRecDepth 100000 in
theorem concatS_any (g : Nat) (A0 A1 : Option Addr) (n0 n1 c0 c1 : Nat) (l0 l1 : List Value) (w : World) (h0 : w.cell? ⟨g, 0, none⟩ = some (.slice A0 n0 c0)) (h1 : w.cell? ⟨g, 1, none⟩ = some (.slice A1 n1 c1))
    (hr0 : Rs w (· < w.heap.size) A0 l0) (hr1 : Rs w (· < w.heap.size) A1 l1) (hc0 : A0 = none → c0 = 0) (hc1 : A1 = none → c1 = 0) (hl0 : l0.length = n0 * 1) (hl1 : l1.length = n1 * 1) (hn0 : n0 ≤ 500000) (hn1 : n1 ≤ 500000) (ho0 : ∀ u ∈ l0, u.oneCell' = true) (ho1 : ∀ u ∈ l1, u.oneCell' = true) :
    Calls Tryz.prog 120 #[.slice (some ⟨g, 0, none⟩) 2 2] w (CatPost w.heap.size 9 1 w (n0 + n1) (l0 ++ l1)) := by
  obtain ⟨i0, hi, hz0, hz1, hz2⟩ := info_parts inf_string
  have hg : g < w.heap.size := World.block_lt_of_cell? w _ h0
  have HR0 := Lib.hid hr0
  have HR1 := Lib.hid hr1
  have HC0 := Lib.hid hc0
  have HC1 := Lib.hid hc1
  have H0 := Lib.hid h0
  have H1 := Lib.hid h1
  have HL0 := Lib.hid hl0
  have HL1 := Lib.hid hl1
  have HO0 := Lib.hid ho0
  have HO1 := Lib.hid ho1
  clear hr0 hr1 hc0 hc1 hl0 hl1 ho0 ho1
  go_enter Tryz.func120, Tryz.ntmps120
  go_wp2_with fail
  go_loop [3, 5, 11] (fun t3 _ t11 => CStC n0 n1 t3 t11) (fun _ _ t11 => 2 - (intOf t11).toNat)
  case atStart => exact .inl ⟨rfl, rfl⟩
  case round =>
    rcases hrel with ⟨rfl, rfl⟩ | ⟨rfl, rfl⟩ | ⟨rfl, rfl⟩
    · go_wp2_with fail
      go_round
      case rel => exact .inr (.inl ⟨rfl, rfl⟩)
      case measure => simp [intOf]
    · go_wp2_with fail
      go_round
      case rel => exact .inr (.inr ⟨rfl, rfl⟩)
      case measure => simp [intOf]
    · go_wp2_with (go_at_call 157; (refine (growS_nil (n0 + n1) _ (by omega)).mono ?_); rintro e w1 ⟨hb1, gv, rfl, hown1⟩)
      go_loopw [6, 8, 27] (fun t6 _ t27 wr => DStC 9 1 w n0 n1 l0 l1 t6 t27 wr) (fun _ _ t27 _ => 2 - (intOf t27).toNat)
      case atStart => exact ⟨0, [], hown1, hb1, .inl ⟨rfl, rfl, rfl⟩⟩
      case round =>
        clear hown1 hb1 h0 h1
        obtain ⟨m, out, hown, hbel, hcase⟩ := hrel
        have HO := Lib.hid hown
        have HBE := Lib.hid hbel
        clear hown hbel
        rcases hcase with ⟨rfl, rfl, rfl⟩ | ⟨rfl, rfl, rfl⟩ | ⟨rfl, rfl, rfl⟩
        · have q := (HBE.out.cell (p := ⟨g, 0, none⟩) hg).trans H0.out
          go_wp2_with (at_builtin; refine wpList_append_rs _ rfl (.tmp 31) (.tmp 32) 23 rfl w.heap.size 9 i0 (.string ⟨#[]⟩) 1 16 Tryz.underlying23 hi hz0 hz1 hz2 rfl (by omega) _ 0 [] rfl HO.out (· < w.heap.size) A0 n0 c0 l0 rfl HL0.out (HR0.out.move fun b hb => ⟨hb, HBE.out.block b hb⟩) HC0.out HO0.out (by unfold maxLen; omega) (by omega) HBE.out.size ?_; intro v2 w2 hown2 hgrow2; have hb2 := HBE.out.grown hgrow2 HBE.out.size (own_ge' HO.out); clear q hgrow2)
          go_roundw
          case rel => exact ⟨_, _, hown2, hb2, .inr (.inl ⟨rfl, List.nil_append _, Nat.zero_add _⟩)⟩
          case measure => simp [intOf]
        · have q := (HBE.out.cell (p := ⟨g, 1, none⟩) hg).trans H1.out
          go_wp2_with (at_builtin; refine wpList_append_rs _ rfl (.tmp 31) (.tmp 32) 23 rfl w.heap.size 9 i0 (.string ⟨#[]⟩) 1 16 Tryz.underlying23 hi hz0 hz1 hz2 rfl (by omega) _ _ _ rfl HO.out (· < w.heap.size) A1 n1 c1 l1 rfl HL1.out (HR1.out.move fun b hb => ⟨hb, HBE.out.block b hb⟩) HC1.out HO1.out (by unfold maxLen; omega) (by omega) HBE.out.size ?_; intro v2 w2 hown2 hgrow2; have hb2 := HBE.out.grown hgrow2 HBE.out.size (own_ge' HO.out); clear q hgrow2)
          go_roundw
          case rel => exact ⟨_, _, hown2, hb2, .inr (.inr ⟨rfl, rfl, rfl⟩)⟩
          case measure => simp [intOf]
        · go_wp2_with fail
          go_ret
          exact ⟨_, rfl, HO.out, HBE.out⟩
set_option maxHeartbeats 4000000 in
set_option maxRecDepth 100000 in
theorem concatV_any (g : Nat) (A0 A1 : Option Addr) (n0 n1 c0 c1 : Nat) (l0 l1 : List Value) (w : World) (h0 : w.cell? ⟨g, 0, none⟩ = some (.slice A0 n0 c0)) (h1 : w.cell? ⟨g, 1, none⟩ = some (.slice A1 n1 c1))
    (hr0 : Rs w (· < w.heap.size) A0 l0) (hr1 : Rs w (· < w.heap.size) A1 l1) (hc0 : A0 = none → c0 = 0) (hc1 : A1 = none → c1 = 0) (hl0 : l0.length = n0 * 5) (hl1 : l1.length = n1 * 5) (hn0 : n0 ≤ 500000) (hn1 : n1 ≤ 500000) (ho0 : ∀ u ∈ l0, u.oneCell' = true) (ho1 : ∀ u ∈ l1, u.oneCell' = true) :
    Calls Tryz.prog 85 #[.slice (some ⟨g, 0, none⟩) 2 2] w (CatPost w.heap.size 26 5 w (n0 + n1) (l0 ++ l1)) := by
  obtain ⟨i0, hi, hz0, hz1, hz2⟩ := info_parts inf_value
  have hg : g < w.heap.size := World.block_lt_of_cell? w _ h0
  have HR0 := Lib.hid hr0
  have HR1 := Lib.hid hr1
  have HC0 := Lib.hid hc0
  have HC1 := Lib.hid hc1
  have H0 := Lib.hid h0
  have H1 := Lib.hid h1
  have HL0 := Lib.hid hl0
  have HL1 := Lib.hid hl1
  have HO0 := Lib.hid ho0
  have HO1 := Lib.hid ho1
  clear hr0 hr1 hc0 hc1 hl0 hl1 ho0 ho1
  go_enter Tryz.func85, Tryz.ntmps85
  go_wp2_with fail
  go_loop [3, 5, 11] (fun t3 _ t11 => CStC n0 n1 t3 t11) (fun _ _ t11 => 2 - (intOf t11).toNat)
  case atStart => exact .inl ⟨rfl, rfl⟩
  case round =>
    rcases hrel with ⟨rfl, rfl⟩ | ⟨rfl, rfl⟩ | ⟨rfl, rfl⟩
    · go_wp2_with fail
      go_round
      case rel => exact .inr (.inl ⟨rfl, rfl⟩)
      case measure => simp [intOf]
    · go_wp2_with fail
      go_round
      case rel => exact .inr (.inr ⟨rfl, rfl⟩)
      case measure => simp [intOf]
    · go_wp2_with (go_at_call 109; (refine (grow_nil (n0 + n1) _ (by omega)).mono ?_); rintro e w1 ⟨hb1, gv, rfl, hown1⟩)
      go_loopw [6, 8, 27] (fun t6 _ t27 wr => DStC 26 5 w n0 n1 l0 l1 t6 t27 wr) (fun _ _ t27 _ => 2 - (intOf t27).toNat)
      case atStart => exact ⟨0, [], hown1, hb1, .inl ⟨rfl, rfl, rfl⟩⟩
      case round =>
        clear hown1 hb1 h0 h1
        obtain ⟨m, out, hown, hbel, hcase⟩ := hrel
        have HO := Lib.hid hown
        have HBE := Lib.hid hbel
        clear hown hbel
        rcases hcase with ⟨rfl, rfl, rfl⟩ | ⟨rfl, rfl, rfl⟩ | ⟨rfl, rfl, rfl⟩
        · have q := (HBE.out.cell (p := ⟨g, 0, none⟩) hg).trans H0.out
          go_wp2_with (at_builtin; refine wpList_append_rs _ rfl (.tmp 31) (.tmp 32) 24 rfl w.heap.size 26 i0 zeroVal 5 80 Tryz.underlying24 hi hz0 hz1 hz2 rfl (by omega) _ 0 [] rfl HO.out (· < w.heap.size) A0 n0 c0 l0 rfl HL0.out (HR0.out.move fun b hb => ⟨hb, HBE.out.block b hb⟩) HC0.out HO0.out (by unfold maxLen; omega) (by omega) HBE.out.size ?_; intro v2 w2 hown2 hgrow2; have hb2 := HBE.out.grown hgrow2 HBE.out.size (own_ge' HO.out); clear q hgrow2)
          go_roundw
          case rel => exact ⟨_, _, hown2, hb2, .inr (.inl ⟨rfl, List.nil_append _, Nat.zero_add _⟩)⟩
          case measure => simp [intOf]
        · have q := (HBE.out.cell (p := ⟨g, 1, none⟩) hg).trans H1.out
          go_wp2_with (at_builtin; refine wpList_append_rs _ rfl (.tmp 31) (.tmp 32) 24 rfl w.heap.size 26 i0 zeroVal 5 80 Tryz.underlying24 hi hz0 hz1 hz2 rfl (by omega) _ _ _ rfl HO.out (· < w.heap.size) A1 n1 c1 l1 rfl HL1.out (HR1.out.move fun b hb => ⟨hb, HBE.out.block b hb⟩) HC1.out HO1.out (by unfold maxLen; omega) (by omega) HBE.out.size ?_; intro v2 w2 hown2 hgrow2; have hb2 := HBE.out.grown hgrow2 HBE.out.size (own_ge' HO.out); clear q hgrow2)
          go_roundw
          case rel => exact ⟨_, _, hown2, hb2, .inr (.inr ⟨rfl, rfl, rfl⟩)⟩
          case measure => simp [intOf]
        · go_wp2_with fail
          go_ret
          exact ⟨_, rfl, HO.out, HBE.out⟩
end Go.Proofs.YtkohnkofnobakaaGreatDoor
namespace Go.Proofs.YtkohnkofnobakaaGreatDoor
open Go.RowKit Go.Sort
/-- Two arrays of two ints. -/
theorem eq_pair_aux (d : Nat) (x y x' y' : Int) (W : World) : Sem.run Tryz.prog (Op.equalIn (d + 1 + 1) 94 (.agg #[.int .i64 x, .int .i64 y]) (.agg #[.int .i64 x', .int .i64 y'])) W = .ok (x == x' && y == y') W := by
  have hi : ∀ a b W, Sem.run Tryz.prog (Op.equalIn (d + 1) 3 (.int .i64 a) (.int .i64 b)) W = .ok (a == b) W := fun a b W => run_equalIn_int W d 3 .i64 .i64 a b Tryz.underlying3
  have hs := Tryz.sizeOf3
  have ha := Tryz.isAgg3
  rw [Op.equalIn]
  simp only [Sem.run_bind, run_underlying Tryz.underlying94, Result.andThen_ok, hs]
  generalize Op.equalIn (d + 1) = f at hi
  have p0 : ∀ (a b : Value) W, Sem.run Tryz.prog (Go.part 3 #[a, b] 0) W = .ok a W := fun a b W => by simp [Go.part, ha]
  have p1 : ∀ (a b : Value) W, Sem.run Tryz.prog (Go.part 3 #[a, b] 1) W = .ok b W := fun a b W => by simp [Go.part, ha]
  simp [Std.Legacy.Range.forIn_eq_forIn_range', Std.Legacy.Range.size, List.range', hi, p0, p1]
  cases h1 : x == x' <;> cases h2 : y == y' <;> simp_all
theorem eq_pair (x y x' y' : Int) (W : World) : Sem.run Tryz.prog (Op.equalIn 10000 94 (.agg #[.int .i64 x, .int .i64 y]) (.agg #[.int .i64 x', .int .i64 y'])) W = .ok (x == x' && y == y') W := eq_pair_aux 9998 x y x' y' W
/-- The zero cells of a result. -/
def zer5 : Array Value := #[.int .i64 0, .int .i64 0, .string ⟨#[]⟩, .slice none 0 0, .slice none 0 0]
/-- A result stored into its block. -/
theorem ret_put {w W : World} {g : Nat} {v : V} {err : Int} {r0 r1 r2 r3 r4 : Value} (hB : Below w.heap.size w W) (hg : w.heap.size ≤ g) (hgW : g < W.heap.size) (hl : Lies W (fun b => w.heap.size ≤ b ∧ b < W.heap.size ∧ b ≠ g) v [r0, r1, r2, r3, r4]) :
    RetPost v err w (.returned (.tuple #[.agg #[r0, r1, r2, r3, r4], .int .i64 err])) (((((W.setCell ⟨g, 0, none⟩ r0).setCell ⟨g, 1, none⟩ r1).setCell ⟨g, 2, none⟩ r2).setCell ⟨g, 3, none⟩ r3).setCell ⟨g, 4, none⟩ r4) := by
  refine ret_of (ds := [r0, r1, r2, r3, r4]) (((((hB.setCell (by exact hg) _).setCell (by exact hg) _).setCell (by exact hg) _).setCell (by exact hg) _).setCell (by exact hg) _) ?_
  refine hl.move fun b hb => ⟨⟨hb.1, by simp [World.setCell]; omega⟩, ?_⟩
  have hne := hb.2.2
  rw [Below.heap_setCell _ _ _ _ (by simpa using hne), Below.heap_setCell _ _ _ _ (by simpa using hne), Below.heap_setCell _ _ _ _ (by simpa using hne), Below.heap_setCell _ _ _ _ (by simpa using hne), Below.heap_setCell _ _ _ _ (by simpa using hne)]
theorem lies_numv (w : World) (S : Nat → Prop) (n : Int) : Lies w S (numV n) [.int .i64 3, .int .i64 n, .string ⟨#[]⟩, .slice none 0 0, .slice none 0 0] := by
  unfold numV
  rw [Lies]
  exact ⟨⟨Nat.zero_le _, by simp, Nat.zero_le _, Nat.zero_le _⟩, none, 0, none, 0, [], rfl, fun _ => rfl, fun _ => rfl, ⟨Nat.le_refl _, Nat.zero_le _⟩, ⟨Nat.le_refl _, Nat.zero_le _⟩, Rs.nil _ _ _, Rs.nil _ _ _, by rw [LiesL]⟩
/-- The blocks of a function with two values and a result. -/
structure B3 (w : World) (cs ds : Array Value) (W : World) : Prop where
  below : Below w.heap.size w W
  x : Box W w.heap.size 26 cs
  y : Box W (w.heap.size + 1) 26 ds
  r : Box W (w.heap.size + 1 + 1) 26 #[.int .i64 0, .int .i64 0, .string ⟨#[]⟩, .slice none 0 0, .slice none 0 0]
theorem box_at (W : World) (t : TypeId) (cs : Array Value) (p : Nat) (hp : W.heap.size = p) : Box (W.alloc (.cells cs t)) p t cs := by
  subst hp
  exact Box.laid W t cs
theorem B3.start (w : World) (cs ds : Array Value) : B3 w cs ds (((w.alloc (.cells cs 26)).alloc (.cells ds 26)).alloc (.cells #[.int .i64 0, .int .i64 0, .string ⟨#[]⟩, .slice none 0 0, .slice none 0 0] 26)) := by
  exact ⟨((((Below.refl _ _).alloc (Nat.le_refl _) _).alloc (by simp) _).alloc (by simp; omega) _), ((Box.laid w _ cs).alloc _).alloc _, (box_at _ _ _ _ (by simp)).alloc _, box_at _ _ _ _ (by simp)⟩
theorem B3.next {w W W' : World} {cs ds : Array Value} (h : B3 w cs ds W) (hb : Below W.heap.size W W') : B3 w cs ds W' :=
  ⟨chain h.below hb, h.x.below hb h.x.lt, h.y.below hb h.y.lt, h.r.below hb h.r.lt⟩
end Go.Proofs.YtkohnkofnobakaaGreatDoor
namespace Go.Proofs.YtkohnkofnobakaaGreatDoor
open Go.RowKit Go.Sort
set_option maxHeartbeats 4000000 in
set_option maxRecDepth 100000 in
theorem add_num (n n2 : Int) (s s2 : ByteArray) (A B A2 B2 : Option Addr) (la a lb b la2 a2 lb2 b2 : Nat) (w : World) :
    Calls Tryz.prog 48 #[.agg #[.int .i64 3, .int .i64 n, .string s, .slice A la a, .slice B lb b], .agg #[.int .i64 3, .int .i64 n2, .string s2, .slice A2 la2 a2, .slice B2 lb2 b2]] w (RetPost (numV (wrap64 (n + n2))) 0 w) := by
  have EQ := eq_pair
  have hn := Lib.hid (fun (n : Int) W => num_any n W)
  have H0 := Lib.hid (B3.start w #[.int .i64 3, .int .i64 n, .string s, .slice A la a, .slice B lb b] #[.int .i64 3, .int .i64 n2, .string s2, .slice A2 la2 a2, .slice B2 lb2 b2])
  go_enter Tryz.func48, Tryz.ntmps48
  go_wp2_with fail
  refine (hn.out _ _).mono ?_
  rintro e1 w1 ⟨rfl, hb1⟩
  have H1 := Lib.hid (H0.out.next hb1)
  obtain ⟨t0, t1, t2, t3, t4⟩ := box5 H1.out.r
  have z0 := H1.out.r.free 0
  have z1 := H1.out.r.free 1
  have z2 := H1.out.r.free 2
  have z3 := H1.out.r.free 3
  have z4 := H1.out.r.free 4
  clear hb1
  go_wp2_with fail
  refine bodyPost_ret (v := .tuple #[.agg #[.int .i64 3, .int .i64 (wrap64 (n + n2)), .string ⟨#[]⟩, .slice none 0 0, .slice none 0 0], .int .i64 0]) (by simp [results, Tryz.results48, go_sem, t0, t1, t2, t3, t4]) rfl ?_
  exact ret_put H1.out.below (by omega) H1.out.r.lt (lies_numv _ _ _)
set_option maxHeartbeats 4000000 in
set_option maxRecDepth 100000 in
theorem sub_num (n n2 : Int) (s s2 : ByteArray) (A B A2 B2 : Option Addr) (la a lb b la2 a2 lb2 b2 : Nat) (w : World) :
    Calls Tryz.prog 49 #[.agg #[.int .i64 3, .int .i64 n, .string s, .slice A la a, .slice B lb b], .agg #[.int .i64 3, .int .i64 n2, .string s2, .slice A2 la2 a2, .slice B2 lb2 b2]] w (RetPost (numV (wrap64 (n - n2))) 0 w) := by
  have EQ := eq_pair
  have hn := Lib.hid (fun (n : Int) W => num_any n W)
  have H0 := Lib.hid (B3.start w #[.int .i64 3, .int .i64 n, .string s, .slice A la a, .slice B lb b] #[.int .i64 3, .int .i64 n2, .string s2, .slice A2 la2 a2, .slice B2 lb2 b2])
  go_enter Tryz.func49, Tryz.ntmps49
  go_wp2_with fail
  refine (hn.out _ _).mono ?_
  rintro e1 w1 ⟨rfl, hb1⟩
  have H1 := Lib.hid (H0.out.next hb1)
  obtain ⟨t0, t1, t2, t3, t4⟩ := box5 H1.out.r
  have z0 := H1.out.r.free 0
  have z1 := H1.out.r.free 1
  have z2 := H1.out.r.free 2
  have z3 := H1.out.r.free 3
  have z4 := H1.out.r.free 4
  clear hb1
  go_wp2_with fail
  refine bodyPost_ret (v := .tuple #[.agg #[.int .i64 3, .int .i64 (wrap64 (n - n2)), .string ⟨#[]⟩, .slice none 0 0, .slice none 0 0], .int .i64 0]) (by simp [results, Tryz.results49, go_sem, t0, t1, t2, t3, t4]) rfl ?_
  exact ret_put H1.out.below (by omega) H1.out.r.lt (lies_numv _ _ _)
set_option maxHeartbeats 4000000 in
set_option maxRecDepth 100000 in
theorem mul_num (n n2 : Int) (s s2 : ByteArray) (A B A2 B2 : Option Addr) (la a lb b la2 a2 lb2 b2 : Nat) (w : World) :
    Calls Tryz.prog 50 #[.agg #[.int .i64 3, .int .i64 n, .string s, .slice A la a, .slice B lb b], .agg #[.int .i64 3, .int .i64 n2, .string s2, .slice A2 la2 a2, .slice B2 lb2 b2]] w (RetPost (numV (wrap64 (n * n2))) 0 w) := by
  have EQ := eq_pair
  have hn := Lib.hid (fun (n : Int) W => num_any n W)
  have H0 := Lib.hid (B3.start w #[.int .i64 3, .int .i64 n, .string s, .slice A la a, .slice B lb b] #[.int .i64 3, .int .i64 n2, .string s2, .slice A2 la2 a2, .slice B2 lb2 b2])
  go_enter Tryz.func50, Tryz.ntmps50
  go_wp2_with fail
  refine (hn.out _ _).mono ?_
  rintro e1 w1 ⟨rfl, hb1⟩
  have H1 := Lib.hid (H0.out.next hb1)
  obtain ⟨t0, t1, t2, t3, t4⟩ := box5 H1.out.r
  have z0 := H1.out.r.free 0
  have z1 := H1.out.r.free 1
  have z2 := H1.out.r.free 2
  have z3 := H1.out.r.free 3
  have z4 := H1.out.r.free 4
  clear hb1
  go_wp2_with fail
  refine bodyPost_ret (v := .tuple #[.agg #[.int .i64 3, .int .i64 (wrap64 (n * n2)), .string ⟨#[]⟩, .slice none 0 0, .slice none 0 0], .int .i64 0]) (by simp [results, Tryz.results50, go_sem, t0, t1, t2, t3, t4]) rfl ?_
  exact ret_put H1.out.below (by omega) H1.out.r.lt (lies_numv _ _ _)
set_option maxHeartbeats 4000000 in
set_option maxRecDepth 100000 in
theorem div_num (n n2 : Int) (s s2 : ByteArray) (A B A2 B2 : Option Addr) (la a lb b la2 a2 lb2 b2 : Nat) (w : World) (h0 : n2 ≠ 0) :
    Calls Tryz.prog 51 #[.agg #[.int .i64 3, .int .i64 n, .string s, .slice A la a, .slice B lb b], .agg #[.int .i64 3, .int .i64 n2, .string s2, .slice A2 la2 a2, .slice B2 lb2 b2]] w (RetPost (numV (wrap64 (Int.tdiv n n2))) 0 w) := by
  have EQ := eq_pair
  have hn := Lib.hid (fun (n : Int) W => num_any n W)
  have H0 := Lib.hid (B3.start w #[.int .i64 3, .int .i64 n, .string s, .slice A la a, .slice B lb b] #[.int .i64 3, .int .i64 n2, .string s2, .slice A2 la2 a2, .slice B2 lb2 b2])
  have hz : ¬ n2 = 0 := h0
  have hzb : (n2 == 0) = false := by simpa using h0
  go_enter Tryz.func51, Tryz.ntmps51
  go_wp2_with fail
  refine (hn.out _ _).mono ?_
  rintro e1 w1 ⟨rfl, hb1⟩
  have H1 := Lib.hid (H0.out.next hb1)
  obtain ⟨t0, t1, t2, t3, t4⟩ := box5 H1.out.r
  have z0 := H1.out.r.free 0
  have z1 := H1.out.r.free 1
  have z2 := H1.out.r.free 2
  have z3 := H1.out.r.free 3
  have z4 := H1.out.r.free 4
  clear hb1
  go_wp2_with fail
  refine bodyPost_ret (v := .tuple #[.agg #[.int .i64 3, .int .i64 (wrap64 (Int.tdiv n n2)), .string ⟨#[]⟩, .slice none 0 0, .slice none 0 0], .int .i64 0]) (by simp [results, Tryz.results51, go_sem, t0, t1, t2, t3, t4]) rfl ?_
  exact ret_put H1.out.below (by omega) H1.out.r.lt (lies_numv _ _ _)
set_option maxHeartbeats 4000000 in
set_option maxRecDepth 100000 in
theorem rem_num (n n2 : Int) (s s2 : ByteArray) (A B A2 B2 : Option Addr) (la a lb b la2 a2 lb2 b2 : Nat) (w : World) (h0 : n2 ≠ 0) :
    Calls Tryz.prog 52 #[.agg #[.int .i64 3, .int .i64 n, .string s, .slice A la a, .slice B lb b], .agg #[.int .i64 3, .int .i64 n2, .string s2, .slice A2 la2 a2, .slice B2 lb2 b2]] w (RetPost (numV (Int.tmod n n2)) 0 w) := by
  have EQ := eq_pair
  have hn := Lib.hid (fun (n : Int) W => num_any n W)
  have H0 := Lib.hid (B3.start w #[.int .i64 3, .int .i64 n, .string s, .slice A la a, .slice B lb b] #[.int .i64 3, .int .i64 n2, .string s2, .slice A2 la2 a2, .slice B2 lb2 b2])
  have hz : ¬ n2 = 0 := h0
  have hzb : (n2 == 0) = false := by simpa using h0
  go_enter Tryz.func52, Tryz.ntmps52
  go_wp2_with fail
  refine (hn.out _ _).mono ?_
  rintro e1 w1 ⟨rfl, hb1⟩
  have H1 := Lib.hid (H0.out.next hb1)
  obtain ⟨t0, t1, t2, t3, t4⟩ := box5 H1.out.r
  have z0 := H1.out.r.free 0
  have z1 := H1.out.r.free 1
  have z2 := H1.out.r.free 2
  have z3 := H1.out.r.free 3
  have z4 := H1.out.r.free 4
  clear hb1
  go_wp2_with fail
  refine bodyPost_ret (v := .tuple #[.agg #[.int .i64 3, .int .i64 (Int.tmod n n2), .string ⟨#[]⟩, .slice none 0 0, .slice none 0 0], .int .i64 0]) (by simp [results, Tryz.results52, go_sem, t0, t1, t2, t3, t4]) rfl ?_
  exact ret_put H1.out.below (by omega) H1.out.r.lt (lies_numv _ _ _)
set_option maxHeartbeats 4000000 in
set_option maxRecDepth 100000 in
theorem div_zero (n : Int) (s s2 : ByteArray) (A B A2 B2 : Option Addr) (la a lb b la2 a2 lb2 b2 : Nat) (w : World) :
    Calls Tryz.prog 51 #[.agg #[.int .i64 3, .int .i64 n, .string s, .slice A la a, .slice B lb b], .agg #[.int .i64 3, .int .i64 0, .string s2, .slice A2 la2 a2, .slice B2 lb2 b2]] w (RetPost vnull 13 w) := by
  have EQ := eq_pair
  have H1 := Lib.hid (B3.start w #[.int .i64 3, .int .i64 n, .string s, .slice A la a, .slice B lb b] #[.int .i64 3, .int .i64 0, .string s2, .slice A2 la2 a2, .slice B2 lb2 b2])
  go_enter Tryz.func51, Tryz.ntmps51
  go_wp2_with fail
  refine bodyPost_ret (v := .tuple #[.agg #[.int .i64 0, .int .i64 0, .string ⟨#[]⟩, .slice none 0 0, .slice none 0 0], .int .i64 13]) (by simp [results, Tryz.results51, go_sem]) rfl ?_
  exact ret_of (ds := [.int .i64 0, .int .i64 0, .string ⟨#[]⟩, .slice none 0 0, .slice none 0 0]) H1.out.below (lies_null _ _)
set_option maxHeartbeats 4000000 in
set_option maxRecDepth 100000 in
theorem rem_zero (n : Int) (s s2 : ByteArray) (A B A2 B2 : Option Addr) (la a lb b la2 a2 lb2 b2 : Nat) (w : World) :
    Calls Tryz.prog 52 #[.agg #[.int .i64 3, .int .i64 n, .string s, .slice A la a, .slice B lb b], .agg #[.int .i64 3, .int .i64 0, .string s2, .slice A2 la2 a2, .slice B2 lb2 b2]] w (RetPost vnull 13 w) := by
  have EQ := eq_pair
  have H1 := Lib.hid (B3.start w #[.int .i64 3, .int .i64 n, .string s, .slice A la a, .slice B lb b] #[.int .i64 3, .int .i64 0, .string s2, .slice A2 la2 a2, .slice B2 lb2 b2])
  go_enter Tryz.func52, Tryz.ntmps52
  go_wp2_with fail
  refine bodyPost_ret (v := .tuple #[.agg #[.int .i64 0, .int .i64 0, .string ⟨#[]⟩, .slice none 0 0, .slice none 0 0], .int .i64 13]) (by simp [results, Tryz.results52, go_sem]) rfl ?_
  exact ret_of (ds := [.int .i64 0, .int .i64 0, .string ⟨#[]⟩, .slice none 0 0, .slice none 0 0]) H1.out.below (lies_null _ _)
/-- The blocks of a function with one value and a result. -/
structure B2 (w : World) (cs : Array Value) (W : World) : Prop where
  below : Below w.heap.size w W
  x : Box W w.heap.size 26 cs
  r : Box W (w.heap.size + 1) 26 #[.int .i64 0, .int .i64 0, .string ⟨#[]⟩, .slice none 0 0, .slice none 0 0]
theorem B2.start (w : World) (cs : Array Value) : B2 w cs ((w.alloc (.cells cs 26)).alloc (.cells #[.int .i64 0, .int .i64 0, .string ⟨#[]⟩, .slice none 0 0, .slice none 0 0] 26)) :=
  ⟨(((Below.refl _ _).alloc (Nat.le_refl _) _).alloc (by simp) _), (Box.laid w _ cs).alloc _, box_at _ _ _ _ (by simp)⟩
theorem B2.next {w W W' : World} {cs : Array Value} (h : B2 w cs W) (hb : Below W.heap.size W W') : B2 w cs W' :=
  ⟨chain h.below hb, h.x.below hb h.x.lt, h.r.below hb h.r.lt⟩
/-- What Neg answers. -/
def negR (v : V) : V × Int := if valid v = true then (if kd v = 3 then (numV (wrap64 (-nm v)), 0) else (vnull, 12)) else (vnull, 1)
set_option maxHeartbeats 4000000 in
set_option maxRecDepth 100000 in
theorem neg_any (v : V) (cs : List Value) (w : World) (h : Lies w (· < w.heap.size) v cs) : Calls Tryz.prog 23 #[.agg cs.toArray] w (RetPost (negR v).1 (negR v).2 w) := by
  have HV := Lib.hid (fun W (hW : Below w.heap.size w W) => valid_any v cs W (below_lies hW h))
  have hn := Lib.hid (fun (n : Int) W => num_any n W)
  obtain ⟨k, n, s, ks, es⟩ := v
  obtain ⟨A, a, B, b, xs, rfl, _⟩ := lies_open h
  clear h
  have hR : negR (.mk k n s ks es) = if valid (.mk k n s ks es) = true then (if k = 3 then (numV (wrap64 (-n)), 0) else (vnull, 12)) else (vnull, 1) := rfl
  rw [hR]
  clear hR
  generalize valid (.mk k n s ks es) = va at HV ⊢
  generalize ks.length = l1 at *
  generalize es.length = l2 at *
  show Calls _ _ #[.agg #[.int .i64 k, .int .i64 n, .string s, .slice A l1 a, .slice B l2 b]] w _
  have H0 := Lib.hid (B2.start w #[.int .i64 k, .int .i64 n, .string s, .slice A l1 a, .slice B l2 b])
  cases va with
  | false =>
    rw [if_neg (by decide)]
    go_enter Tryz.func23, Tryz.ntmps23
    go_wp2_with fail
    refine (HV.out _ H0.out.below).mono ?_
    rintro e1 w1 ⟨rfl, hb1⟩
    have H1 := Lib.hid (H0.out.next hb1)
    obtain ⟨t0, t1, t2, t3, t4⟩ := box5 H1.out.r
    have z0 := H1.out.r.free 0
    have z1 := H1.out.r.free 1
    have z2 := H1.out.r.free 2
    have z3 := H1.out.r.free 3
    have z4 := H1.out.r.free 4
    go_wp2_with fail
    refine bodyPost_ret (v := .tuple #[.agg #[.int .i64 0, .int .i64 0, .string ⟨#[]⟩, .slice none 0 0, .slice none 0 0], .int .i64 1]) (by simp [results, Tryz.results23, go_sem, t0, t1, t2, t3, t4]) rfl ?_
    exact ret_put H1.out.below (by omega) H1.out.r.lt (lies_null _ _)
  | true =>
    rw [if_pos rfl]
    by_cases hk : k = 3
    · subst hk
      rw [if_pos rfl]
      go_enter Tryz.func23, Tryz.ntmps23
      go_wp2_with fail
      refine (HV.out _ H0.out.below).mono ?_
      rintro e1 w1 ⟨rfl, hb1⟩
      have H1 := Lib.hid (H0.out.next hb1)
      obtain ⟨x0, x1, x2, x3, x4⟩ := box5 H1.out.x
      clear hb1 H0
      go_wp2_with fail
      refine (hn.out _ _).mono ?_
      rintro e2 w2 ⟨rfl, hb2⟩
      have H2 := Lib.hid (H1.out.next hb2)
      clear x0 x1 x2 x3 x4 hb2
      obtain ⟨t0, t1, t2, t3, t4⟩ := box5 H2.out.r
      have z0 := H2.out.r.free 0
      have z1 := H2.out.r.free 1
      have z2 := H2.out.r.free 2
      have z3 := H2.out.r.free 3
      have z4 := H2.out.r.free 4
      go_wp2_with fail
      refine bodyPost_ret (v := .tuple #[.agg #[.int .i64 3, .int .i64 (wrap64 (-n)), .string ⟨#[]⟩, .slice none 0 0, .slice none 0 0], .int .i64 0]) (by simp [results, Tryz.results23, go_sem, t0, t1, t2, t3, t4]) rfl ?_
      exact ret_put H2.out.below (by omega) H2.out.r.lt (lies_numv _ _ _)
    · rw [if_neg hk]
      have hkb : (k == 3) = false := by simpa using hk
      have hkc : (k != 3) = true := by simpa using hk
      go_enter Tryz.func23, Tryz.ntmps23
      go_wp2_with fail
      refine (HV.out _ H0.out.below).mono ?_
      rintro e1 w1 ⟨rfl, hb1⟩
      have H1 := Lib.hid (H0.out.next hb1)
      obtain ⟨x0, x1, x2, x3, x4⟩ := box5 H1.out.x
      obtain ⟨t0, t1, t2, t3, t4⟩ := box5 H1.out.r
      have z0 := H1.out.r.free 0
      have z1 := H1.out.r.free 1
      have z2 := H1.out.r.free 2
      have z3 := H1.out.r.free 3
      have z4 := H1.out.r.free 4
      go_wp2_with fail
      refine bodyPost_ret (v := .tuple #[.agg #[.int .i64 0, .int .i64 0, .string ⟨#[]⟩, .slice none 0 0, .slice none 0 0], .int .i64 12]) (by simp [results, Tryz.results23, go_sem, t0, t1, t2, t3, t4]) rfl ?_
      exact ret_put H1.out.below (by omega) H1.out.r.lt (lies_null _ _)
end Go.Proofs.YtkohnkofnobakaaGreatDoor
namespace Go.Proofs.YtkohnkofnobakaaGreatDoor
open Go.RowKit Go.Sort
set_option maxHeartbeats 1000000 in
set_option maxRecDepth 100000 in
theorem bin_add (v u : V) (cs ds : List Value) (w : World) (h : Lies w (· < w.heap.size) v cs) (h' : Lies w (· < w.heap.size) u ds) (hv : valid v = true) (hu : valid u = true) (r : V) (er : Int)
    (hc : ∀ W, Below w.heap.size w W → Calls Tryz.prog 48 #[.agg cs.toArray, .agg ds.toArray] W (RetPost r er W)) :
    Calls Tryz.prog 18 #[.string ⟨#[43]⟩, .agg cs.toArray, .agg ds.toArray] w (RetPost r er w) := by
  have HV := Lib.hid (fun W (hW : Below w.heap.size w W) => valid_any v cs W (below_lies hW h))
  have HU := Lib.hid (fun W (hW : Below w.heap.size w W) => valid_any u ds W (below_lies hW h'))
  rw [hv] at HV
  rw [hu] at HU
  obtain ⟨k, n, s, ks, es⟩ := v
  obtain ⟨A, a, B, b, xs, rfl, _⟩ := lies_open h
  obtain ⟨k2, n2, s2, ks2, es2⟩ := u
  obtain ⟨A2, a2, B2, b2, xs2, rfl, _⟩ := lies_open h'
  have HC := Lib.hid (fun W hW => ret_open (hc W hW))
  clear h h' hv hu hc
  generalize ks.length = l1 at *
  generalize es.length = l2 at *
  generalize ks2.length = l3 at *
  generalize es2.length = l4 at *
  show Calls _ _ #[_, .agg #[.int .i64 k, .int .i64 n, .string s, .slice A l1 a, .slice B l2 b], .agg #[.int .i64 k2, .int .i64 n2, .string s2, .slice A2 l3 a2, .slice B2 l4 b2]] w _
  have H0 := Lib.hid (B3.start w #[.int .i64 k, .int .i64 n, .string s, .slice A l1 a, .slice B l2 b] #[.int .i64 k2, .int .i64 n2, .string s2, .slice A2 l3 a2, .slice B2 l4 b2])
  go_enter Tryz.func18, Tryz.ntmps18
  go_wp2_with fail
  refine (HV.out _ H0.out.below).mono ?_
  rintro e1 w1 ⟨rfl, hb1⟩
  have H1 := Lib.hid (H0.out.next hb1)
  obtain ⟨y0, y1, y2, y3, y4⟩ := box5 H1.out.y
  clear hb1 H0
  go_wp2_with fail
  refine (HU.out _ H1.out.below).mono ?_
  rintro e2 w2 ⟨rfl, hb2⟩
  have H2 := Lib.hid (H1.out.next hb2)
  clear hb2 H1 y0 y1 y2 y3 y4
  obtain ⟨x0, x1, x2, x3, x4⟩ := box5 H2.out.x
  obtain ⟨y0, y1, y2, y3, y4⟩ := box5 H2.out.y
  go_wp2_with fail
  refine (HC.out _ H2.out.below).mono ?_
  rintro e3 w3 ⟨rk, rn, rs, rks, res, RA, ra, RC, rc, hrv, rfl, hb3, hl3⟩
  have H3 := Lib.hid (H2.out.next hb3)
  have HL := Lib.hid hl3
  have hs2 := H2.out.r.lt
  have hs3 := H2.out.below.size
  clear hb3 x0 x1 x2 x3 x4 y0 y1 y2 y3 y4 hl3 hrv
  obtain ⟨t0, t1, t2, t3, t4⟩ := box5 H3.out.r
  have z0 := H3.out.r.free 0
  have z1 := H3.out.r.free 1
  have z2 := H3.out.r.free 2
  have z3 := H3.out.r.free 3
  have z4 := H3.out.r.free 4
  go_wp2_with fail
  refine bodyPost_ret (v := .tuple #[.agg #[.int .i64 rk, .int .i64 rn, .string rs, .slice RA rks.length ra, .slice RC res.length rc], .int .i64 er]) (by simp [results, Tryz.results18, go_sem, t0, t1, t2, t3, t4]) rfl ?_
  exact ret_put H3.out.below (by omega) H3.out.r.lt (HL.out.move fun b hb => ⟨⟨by omega, hb.2, by omega⟩, rfl⟩)
set_option maxHeartbeats 1000000 in
set_option maxRecDepth 100000 in
theorem bin_sub (v u : V) (cs ds : List Value) (w : World) (h : Lies w (· < w.heap.size) v cs) (h' : Lies w (· < w.heap.size) u ds) (hv : valid v = true) (hu : valid u = true) (r : V) (er : Int)
    (hc : ∀ W, Below w.heap.size w W → Calls Tryz.prog 49 #[.agg cs.toArray, .agg ds.toArray] W (RetPost r er W)) :
    Calls Tryz.prog 18 #[.string ⟨#[45]⟩, .agg cs.toArray, .agg ds.toArray] w (RetPost r er w) := by
  have HV := Lib.hid (fun W (hW : Below w.heap.size w W) => valid_any v cs W (below_lies hW h))
  have HU := Lib.hid (fun W (hW : Below w.heap.size w W) => valid_any u ds W (below_lies hW h'))
  rw [hv] at HV
  rw [hu] at HU
  obtain ⟨k, n, s, ks, es⟩ := v
  obtain ⟨A, a, B, b, xs, rfl, _⟩ := lies_open h
  obtain ⟨k2, n2, s2, ks2, es2⟩ := u
  obtain ⟨A2, a2, B2, b2, xs2, rfl, _⟩ := lies_open h'
  have HC := Lib.hid (fun W hW => ret_open (hc W hW))
  clear h h' hv hu hc
  generalize ks.length = l1 at *
  generalize es.length = l2 at *
  generalize ks2.length = l3 at *
  generalize es2.length = l4 at *
  show Calls _ _ #[_, .agg #[.int .i64 k, .int .i64 n, .string s, .slice A l1 a, .slice B l2 b], .agg #[.int .i64 k2, .int .i64 n2, .string s2, .slice A2 l3 a2, .slice B2 l4 b2]] w _
  have H0 := Lib.hid (B3.start w #[.int .i64 k, .int .i64 n, .string s, .slice A l1 a, .slice B l2 b] #[.int .i64 k2, .int .i64 n2, .string s2, .slice A2 l3 a2, .slice B2 l4 b2])
  go_enter Tryz.func18, Tryz.ntmps18
  go_wp2_with fail
  refine (HV.out _ H0.out.below).mono ?_
  rintro e1 w1 ⟨rfl, hb1⟩
  have H1 := Lib.hid (H0.out.next hb1)
  obtain ⟨y0, y1, y2, y3, y4⟩ := box5 H1.out.y
  clear hb1 H0
  go_wp2_with fail
  refine (HU.out _ H1.out.below).mono ?_
  rintro e2 w2 ⟨rfl, hb2⟩
  have H2 := Lib.hid (H1.out.next hb2)
  clear hb2 H1 y0 y1 y2 y3 y4
  obtain ⟨x0, x1, x2, x3, x4⟩ := box5 H2.out.x
  obtain ⟨y0, y1, y2, y3, y4⟩ := box5 H2.out.y
  go_wp2_with fail
  refine (HC.out _ H2.out.below).mono ?_
  rintro e3 w3 ⟨rk, rn, rs, rks, res, RA, ra, RC, rc, hrv, rfl, hb3, hl3⟩
  have H3 := Lib.hid (H2.out.next hb3)
  have HL := Lib.hid hl3
  have hs2 := H2.out.r.lt
  have hs3 := H2.out.below.size
  clear hb3 x0 x1 x2 x3 x4 y0 y1 y2 y3 y4 hl3 hrv
  obtain ⟨t0, t1, t2, t3, t4⟩ := box5 H3.out.r
  have z0 := H3.out.r.free 0
  have z1 := H3.out.r.free 1
  have z2 := H3.out.r.free 2
  have z3 := H3.out.r.free 3
  have z4 := H3.out.r.free 4
  go_wp2_with fail
  refine bodyPost_ret (v := .tuple #[.agg #[.int .i64 rk, .int .i64 rn, .string rs, .slice RA rks.length ra, .slice RC res.length rc], .int .i64 er]) (by simp [results, Tryz.results18, go_sem, t0, t1, t2, t3, t4]) rfl ?_
  exact ret_put H3.out.below (by omega) H3.out.r.lt (HL.out.move fun b hb => ⟨⟨by omega, hb.2, by omega⟩, rfl⟩)
set_option maxHeartbeats 1000000 in
set_option maxRecDepth 100000 in
theorem bin_mul (v u : V) (cs ds : List Value) (w : World) (h : Lies w (· < w.heap.size) v cs) (h' : Lies w (· < w.heap.size) u ds) (hv : valid v = true) (hu : valid u = true) (r : V) (er : Int)
    (hc : ∀ W, Below w.heap.size w W → Calls Tryz.prog 50 #[.agg cs.toArray, .agg ds.toArray] W (RetPost r er W)) :
    Calls Tryz.prog 18 #[.string ⟨#[42]⟩, .agg cs.toArray, .agg ds.toArray] w (RetPost r er w) := by
  have HV := Lib.hid (fun W (hW : Below w.heap.size w W) => valid_any v cs W (below_lies hW h))
  have HU := Lib.hid (fun W (hW : Below w.heap.size w W) => valid_any u ds W (below_lies hW h'))
  rw [hv] at HV
  rw [hu] at HU
  obtain ⟨k, n, s, ks, es⟩ := v
  obtain ⟨A, a, B, b, xs, rfl, _⟩ := lies_open h
  obtain ⟨k2, n2, s2, ks2, es2⟩ := u
  obtain ⟨A2, a2, B2, b2, xs2, rfl, _⟩ := lies_open h'
  have HC := Lib.hid (fun W hW => ret_open (hc W hW))
  clear h h' hv hu hc
  generalize ks.length = l1 at *
  generalize es.length = l2 at *
  generalize ks2.length = l3 at *
  generalize es2.length = l4 at *
  show Calls _ _ #[_, .agg #[.int .i64 k, .int .i64 n, .string s, .slice A l1 a, .slice B l2 b], .agg #[.int .i64 k2, .int .i64 n2, .string s2, .slice A2 l3 a2, .slice B2 l4 b2]] w _
  have H0 := Lib.hid (B3.start w #[.int .i64 k, .int .i64 n, .string s, .slice A l1 a, .slice B l2 b] #[.int .i64 k2, .int .i64 n2, .string s2, .slice A2 l3 a2, .slice B2 l4 b2])
  go_enter Tryz.func18, Tryz.ntmps18
  go_wp2_with fail
  refine (HV.out _ H0.out.below).mono ?_
  rintro e1 w1 ⟨rfl, hb1⟩
  have H1 := Lib.hid (H0.out.next hb1)
  obtain ⟨y0, y1, y2, y3, y4⟩ := box5 H1.out.y
  clear hb1 H0
  go_wp2_with fail
  refine (HU.out _ H1.out.below).mono ?_
  rintro e2 w2 ⟨rfl, hb2⟩
  have H2 := Lib.hid (H1.out.next hb2)
  clear hb2 H1 y0 y1 y2 y3 y4
  obtain ⟨x0, x1, x2, x3, x4⟩ := box5 H2.out.x
  obtain ⟨y0, y1, y2, y3, y4⟩ := box5 H2.out.y
  go_wp2_with fail
  refine (HC.out _ H2.out.below).mono ?_
  rintro e3 w3 ⟨rk, rn, rs, rks, res, RA, ra, RC, rc, hrv, rfl, hb3, hl3⟩
  have H3 := Lib.hid (H2.out.next hb3)
  have HL := Lib.hid hl3
  have hs2 := H2.out.r.lt
  have hs3 := H2.out.below.size
  clear hb3 x0 x1 x2 x3 x4 y0 y1 y2 y3 y4 hl3 hrv
  obtain ⟨t0, t1, t2, t3, t4⟩ := box5 H3.out.r
  have z0 := H3.out.r.free 0
  have z1 := H3.out.r.free 1
  have z2 := H3.out.r.free 2
  have z3 := H3.out.r.free 3
  have z4 := H3.out.r.free 4
  go_wp2_with fail
  refine bodyPost_ret (v := .tuple #[.agg #[.int .i64 rk, .int .i64 rn, .string rs, .slice RA rks.length ra, .slice RC res.length rc], .int .i64 er]) (by simp [results, Tryz.results18, go_sem, t0, t1, t2, t3, t4]) rfl ?_
  exact ret_put H3.out.below (by omega) H3.out.r.lt (HL.out.move fun b hb => ⟨⟨by omega, hb.2, by omega⟩, rfl⟩)
set_option maxHeartbeats 1000000 in
set_option maxRecDepth 100000 in
theorem bin_div (v u : V) (cs ds : List Value) (w : World) (h : Lies w (· < w.heap.size) v cs) (h' : Lies w (· < w.heap.size) u ds) (hv : valid v = true) (hu : valid u = true) (r : V) (er : Int)
    (hc : ∀ W, Below w.heap.size w W → Calls Tryz.prog 51 #[.agg cs.toArray, .agg ds.toArray] W (RetPost r er W)) :
    Calls Tryz.prog 18 #[.string ⟨#[47]⟩, .agg cs.toArray, .agg ds.toArray] w (RetPost r er w) := by
  have HV := Lib.hid (fun W (hW : Below w.heap.size w W) => valid_any v cs W (below_lies hW h))
  have HU := Lib.hid (fun W (hW : Below w.heap.size w W) => valid_any u ds W (below_lies hW h'))
  rw [hv] at HV
  rw [hu] at HU
  obtain ⟨k, n, s, ks, es⟩ := v
  obtain ⟨A, a, B, b, xs, rfl, _⟩ := lies_open h
  obtain ⟨k2, n2, s2, ks2, es2⟩ := u
  obtain ⟨A2, a2, B2, b2, xs2, rfl, _⟩ := lies_open h'
  have HC := Lib.hid (fun W hW => ret_open (hc W hW))
  clear h h' hv hu hc
  generalize ks.length = l1 at *
  generalize es.length = l2 at *
  generalize ks2.length = l3 at *
  generalize es2.length = l4 at *
  show Calls _ _ #[_, .agg #[.int .i64 k, .int .i64 n, .string s, .slice A l1 a, .slice B l2 b], .agg #[.int .i64 k2, .int .i64 n2, .string s2, .slice A2 l3 a2, .slice B2 l4 b2]] w _
  have H0 := Lib.hid (B3.start w #[.int .i64 k, .int .i64 n, .string s, .slice A l1 a, .slice B l2 b] #[.int .i64 k2, .int .i64 n2, .string s2, .slice A2 l3 a2, .slice B2 l4 b2])
  go_enter Tryz.func18, Tryz.ntmps18
  go_wp2_with fail
  refine (HV.out _ H0.out.below).mono ?_
  rintro e1 w1 ⟨rfl, hb1⟩
  have H1 := Lib.hid (H0.out.next hb1)
  obtain ⟨y0, y1, y2, y3, y4⟩ := box5 H1.out.y
  clear hb1 H0
  go_wp2_with fail
  refine (HU.out _ H1.out.below).mono ?_
  rintro e2 w2 ⟨rfl, hb2⟩
  have H2 := Lib.hid (H1.out.next hb2)
  clear hb2 H1 y0 y1 y2 y3 y4
  obtain ⟨x0, x1, x2, x3, x4⟩ := box5 H2.out.x
  obtain ⟨y0, y1, y2, y3, y4⟩ := box5 H2.out.y
  go_wp2_with fail
  refine (HC.out _ H2.out.below).mono ?_
  rintro e3 w3 ⟨rk, rn, rs, rks, res, RA, ra, RC, rc, hrv, rfl, hb3, hl3⟩
  have H3 := Lib.hid (H2.out.next hb3)
  have HL := Lib.hid hl3
  have hs2 := H2.out.r.lt
  have hs3 := H2.out.below.size
  clear hb3 x0 x1 x2 x3 x4 y0 y1 y2 y3 y4 hl3 hrv
  obtain ⟨t0, t1, t2, t3, t4⟩ := box5 H3.out.r
  have z0 := H3.out.r.free 0
  have z1 := H3.out.r.free 1
  have z2 := H3.out.r.free 2
  have z3 := H3.out.r.free 3
  have z4 := H3.out.r.free 4
  go_wp2_with fail
  refine bodyPost_ret (v := .tuple #[.agg #[.int .i64 rk, .int .i64 rn, .string rs, .slice RA rks.length ra, .slice RC res.length rc], .int .i64 er]) (by simp [results, Tryz.results18, go_sem, t0, t1, t2, t3, t4]) rfl ?_
  exact ret_put H3.out.below (by omega) H3.out.r.lt (HL.out.move fun b hb => ⟨⟨by omega, hb.2, by omega⟩, rfl⟩)
set_option maxHeartbeats 1000000 in
set_option maxRecDepth 100000 in
theorem bin_rem (v u : V) (cs ds : List Value) (w : World) (h : Lies w (· < w.heap.size) v cs) (h' : Lies w (· < w.heap.size) u ds) (hv : valid v = true) (hu : valid u = true) (r : V) (er : Int)
    (hc : ∀ W, Below w.heap.size w W → Calls Tryz.prog 52 #[.agg cs.toArray, .agg ds.toArray] W (RetPost r er W)) :
    Calls Tryz.prog 18 #[.string ⟨#[37]⟩, .agg cs.toArray, .agg ds.toArray] w (RetPost r er w) := by
  have HV := Lib.hid (fun W (hW : Below w.heap.size w W) => valid_any v cs W (below_lies hW h))
  have HU := Lib.hid (fun W (hW : Below w.heap.size w W) => valid_any u ds W (below_lies hW h'))
  rw [hv] at HV
  rw [hu] at HU
  obtain ⟨k, n, s, ks, es⟩ := v
  obtain ⟨A, a, B, b, xs, rfl, _⟩ := lies_open h
  obtain ⟨k2, n2, s2, ks2, es2⟩ := u
  obtain ⟨A2, a2, B2, b2, xs2, rfl, _⟩ := lies_open h'
  have HC := Lib.hid (fun W hW => ret_open (hc W hW))
  clear h h' hv hu hc
  generalize ks.length = l1 at *
  generalize es.length = l2 at *
  generalize ks2.length = l3 at *
  generalize es2.length = l4 at *
  show Calls _ _ #[_, .agg #[.int .i64 k, .int .i64 n, .string s, .slice A l1 a, .slice B l2 b], .agg #[.int .i64 k2, .int .i64 n2, .string s2, .slice A2 l3 a2, .slice B2 l4 b2]] w _
  have H0 := Lib.hid (B3.start w #[.int .i64 k, .int .i64 n, .string s, .slice A l1 a, .slice B l2 b] #[.int .i64 k2, .int .i64 n2, .string s2, .slice A2 l3 a2, .slice B2 l4 b2])
  go_enter Tryz.func18, Tryz.ntmps18
  go_wp2_with fail
  refine (HV.out _ H0.out.below).mono ?_
  rintro e1 w1 ⟨rfl, hb1⟩
  have H1 := Lib.hid (H0.out.next hb1)
  obtain ⟨y0, y1, y2, y3, y4⟩ := box5 H1.out.y
  clear hb1 H0
  go_wp2_with fail
  refine (HU.out _ H1.out.below).mono ?_
  rintro e2 w2 ⟨rfl, hb2⟩
  have H2 := Lib.hid (H1.out.next hb2)
  clear hb2 H1 y0 y1 y2 y3 y4
  obtain ⟨x0, x1, x2, x3, x4⟩ := box5 H2.out.x
  obtain ⟨y0, y1, y2, y3, y4⟩ := box5 H2.out.y
  go_wp2_with fail
  refine (HC.out _ H2.out.below).mono ?_
  rintro e3 w3 ⟨rk, rn, rs, rks, res, RA, ra, RC, rc, hrv, rfl, hb3, hl3⟩
  have H3 := Lib.hid (H2.out.next hb3)
  have HL := Lib.hid hl3
  have hs2 := H2.out.r.lt
  have hs3 := H2.out.below.size
  clear hb3 x0 x1 x2 x3 x4 y0 y1 y2 y3 y4 hl3 hrv
  obtain ⟨t0, t1, t2, t3, t4⟩ := box5 H3.out.r
  have z0 := H3.out.r.free 0
  have z1 := H3.out.r.free 1
  have z2 := H3.out.r.free 2
  have z3 := H3.out.r.free 3
  have z4 := H3.out.r.free 4
  go_wp2_with fail
  refine bodyPost_ret (v := .tuple #[.agg #[.int .i64 rk, .int .i64 rn, .string rs, .slice RA rks.length ra, .slice RC res.length rc], .int .i64 er]) (by simp [results, Tryz.results18, go_sem, t0, t1, t2, t3, t4]) rfl ?_
  exact ret_put H3.out.below (by omega) H3.out.r.lt (HL.out.move fun b hb => ⟨⟨by omega, hb.2, by omega⟩, rfl⟩)
/-- The results of comparisons. -/
def opB (op : ByteArray) (c : Int) : Bool :=
  if op = ⟨#[61, 61]⟩ then decide (c = 0) else if op = ⟨#[33, 61]⟩ then !decide (c = 0) else if op = ⟨#[60]⟩ then decide (c < 0) else if op = ⟨#[60, 61]⟩ then decide (c ≤ 0) else if op = ⟨#[62]⟩ then decide (0 < c) else decide (0 ≤ c)
theorem lies_boolv (w : World) (S : Nat → Prop) (b : Bool) : Lies w S (boolV b) [.int .i64 (if b then 2 else 1), .int .i64 0, .string ⟨#[]⟩, .slice none 0 0, .slice none 0 0] := by
  unfold boolV
  rw [Lies]
  exact ⟨⟨Nat.zero_le _, by simp, Nat.zero_le _, Nat.zero_le _⟩, none, 0, none, 0, [], rfl, fun _ => rfl, fun _ => rfl, ⟨Nat.le_refl _, Nat.zero_le _⟩, ⟨Nat.le_refl _, Nat.zero_le _⟩, Rs.nil _ _ _, Rs.nil _ _ _, by rw [LiesL]⟩
set_option maxHeartbeats 1000000 in
set_option maxRecDepth 100000 in
theorem cmpop_eq (c : Int) (w : World) : Calls Tryz.prog 53 #[.string ⟨#[61, 61]⟩, .int .i64 c] w (RetPost (boolV (decide (c = 0))) 0 w) := by
  have hbl := Lib.hid (fun (b : Bool) W => bool_any b W)
  have hr := Lib.hid (box_at w 26 #[.int .i64 0, .int .i64 0, .string ⟨#[]⟩, .slice none 0 0, .slice none 0 0] w.heap.size rfl)
  by_cases hc : c = 0
  · have hcd : (decide (c = 0)) = true := by simp [hc]
    rw [hcd]
    have hcb : (c == 0) = decide (c = 0) := by by_cases h : c = 0 <;> simp [h]
    have hcn : (c != 0) = !decide (c = 0) := by by_cases h : c = 0 <;> simp [h]
    have hcd2 : decide (c = 0) = true := by simp [hc]
    go_enter Tryz.func53, Tryz.ntmps53
    go_wp2_with fail
    refine (hbl.out _ _).mono ?_
    rintro e1 w1 ⟨rfl, hb1⟩
    have H1 := Lib.hid (hr.out.below hb1 hr.out.lt)
    have HB := Lib.hid (chain (below1 w _) hb1)
    obtain ⟨t0, t1, t2, t3, t4⟩ := box5 H1.out
    have z0 := H1.out.free 0
    have z1 := H1.out.free 1
    have z2 := H1.out.free 2
    have z3 := H1.out.free 3
    have z4 := H1.out.free 4
    clear hb1 hcd
    go_wp2_with fail
    refine bodyPost_ret (v := .tuple #[.agg #[.int .i64 2, .int .i64 0, .string ⟨#[]⟩, .slice none 0 0, .slice none 0 0], .int .i64 0]) (by simp [results, Tryz.results53, go_sem, t0, t1, t2, t3, t4]) rfl ?_
    exact ret_put HB.out (Nat.le_refl _) H1.out.lt (lies_boolv w1 _ true)
  · have hcd : (decide (c = 0)) = false := by simp [hc]
    rw [hcd]
    have hcb : (c == 0) = decide (c = 0) := by by_cases h : c = 0 <;> simp [h]
    have hcn : (c != 0) = !decide (c = 0) := by by_cases h : c = 0 <;> simp [h]
    have hcd2 : decide (c = 0) = false := by simp [hc]
    go_enter Tryz.func53, Tryz.ntmps53
    go_wp2_with fail
    refine (hbl.out _ _).mono ?_
    rintro e1 w1 ⟨rfl, hb1⟩
    have H1 := Lib.hid (hr.out.below hb1 hr.out.lt)
    have HB := Lib.hid (chain (below1 w _) hb1)
    obtain ⟨t0, t1, t2, t3, t4⟩ := box5 H1.out
    have z0 := H1.out.free 0
    have z1 := H1.out.free 1
    have z2 := H1.out.free 2
    have z3 := H1.out.free 3
    have z4 := H1.out.free 4
    clear hb1 hcd
    go_wp2_with fail
    refine bodyPost_ret (v := .tuple #[.agg #[.int .i64 1, .int .i64 0, .string ⟨#[]⟩, .slice none 0 0, .slice none 0 0], .int .i64 0]) (by simp [results, Tryz.results53, go_sem, t0, t1, t2, t3, t4]) rfl ?_
    exact ret_put HB.out (Nat.le_refl _) H1.out.lt (lies_boolv w1 _ false)
set_option maxHeartbeats 1000000 in
set_option maxRecDepth 100000 in
theorem cmpop_ne (c : Int) (w : World) : Calls Tryz.prog 53 #[.string ⟨#[33, 61]⟩, .int .i64 c] w (RetPost (boolV (!decide (c = 0))) 0 w) := by
  have hbl := Lib.hid (fun (b : Bool) W => bool_any b W)
  have hr := Lib.hid (box_at w 26 #[.int .i64 0, .int .i64 0, .string ⟨#[]⟩, .slice none 0 0, .slice none 0 0] w.heap.size rfl)
  by_cases hc : c = 0
  · have hcd : (!decide (c = 0)) = false := by simp [hc]
    rw [hcd]
    have hcb : (c == 0) = decide (c = 0) := by by_cases h : c = 0 <;> simp [h]
    have hcn : (c != 0) = !decide (c = 0) := by by_cases h : c = 0 <;> simp [h]
    have hcd2 : decide (c = 0) = true := by simp [hc]
    go_enter Tryz.func53, Tryz.ntmps53
    go_wp2_with fail
    refine (hbl.out _ _).mono ?_
    rintro e1 w1 ⟨rfl, hb1⟩
    have H1 := Lib.hid (hr.out.below hb1 hr.out.lt)
    have HB := Lib.hid (chain (below1 w _) hb1)
    obtain ⟨t0, t1, t2, t3, t4⟩ := box5 H1.out
    have z0 := H1.out.free 0
    have z1 := H1.out.free 1
    have z2 := H1.out.free 2
    have z3 := H1.out.free 3
    have z4 := H1.out.free 4
    clear hb1 hcd
    go_wp2_with fail
    refine bodyPost_ret (v := .tuple #[.agg #[.int .i64 1, .int .i64 0, .string ⟨#[]⟩, .slice none 0 0, .slice none 0 0], .int .i64 0]) (by simp [results, Tryz.results53, go_sem, t0, t1, t2, t3, t4]) rfl ?_
    exact ret_put HB.out (Nat.le_refl _) H1.out.lt (lies_boolv w1 _ false)
  · have hcd : (!decide (c = 0)) = true := by simp [hc]
    rw [hcd]
    have hcb : (c == 0) = decide (c = 0) := by by_cases h : c = 0 <;> simp [h]
    have hcn : (c != 0) = !decide (c = 0) := by by_cases h : c = 0 <;> simp [h]
    have hcd2 : decide (c = 0) = false := by simp [hc]
    go_enter Tryz.func53, Tryz.ntmps53
    go_wp2_with fail
    refine (hbl.out _ _).mono ?_
    rintro e1 w1 ⟨rfl, hb1⟩
    have H1 := Lib.hid (hr.out.below hb1 hr.out.lt)
    have HB := Lib.hid (chain (below1 w _) hb1)
    obtain ⟨t0, t1, t2, t3, t4⟩ := box5 H1.out
    have z0 := H1.out.free 0
    have z1 := H1.out.free 1
    have z2 := H1.out.free 2
    have z3 := H1.out.free 3
    have z4 := H1.out.free 4
    clear hb1 hcd
    go_wp2_with fail
    refine bodyPost_ret (v := .tuple #[.agg #[.int .i64 2, .int .i64 0, .string ⟨#[]⟩, .slice none 0 0, .slice none 0 0], .int .i64 0]) (by simp [results, Tryz.results53, go_sem, t0, t1, t2, t3, t4]) rfl ?_
    exact ret_put HB.out (Nat.le_refl _) H1.out.lt (lies_boolv w1 _ true)
set_option maxHeartbeats 1000000 in
set_option maxRecDepth 100000 in
theorem cmpop_lt (c : Int) (w : World) : Calls Tryz.prog 53 #[.string ⟨#[60]⟩, .int .i64 c] w (RetPost (boolV (decide (c < 0))) 0 w) := by
  have hbl := Lib.hid (fun (b : Bool) W => bool_any b W)
  have hr := Lib.hid (box_at w 26 #[.int .i64 0, .int .i64 0, .string ⟨#[]⟩, .slice none 0 0, .slice none 0 0] w.heap.size rfl)
  by_cases hc : c < 0
  · have hcd : (decide (c < 0)) = true := by simp [hc]
    rw [hcd]
    have hcb : (c == 0) = decide (c = 0) := by by_cases h : c = 0 <;> simp [h]
    have hcn : (c != 0) = !decide (c = 0) := by by_cases h : c = 0 <;> simp [h]
    have hcd2 : decide (c < 0) = true := by simp [hc]
    go_enter Tryz.func53, Tryz.ntmps53
    go_wp2_with fail
    refine (hbl.out _ _).mono ?_
    rintro e1 w1 ⟨rfl, hb1⟩
    have H1 := Lib.hid (hr.out.below hb1 hr.out.lt)
    have HB := Lib.hid (chain (below1 w _) hb1)
    obtain ⟨t0, t1, t2, t3, t4⟩ := box5 H1.out
    have z0 := H1.out.free 0
    have z1 := H1.out.free 1
    have z2 := H1.out.free 2
    have z3 := H1.out.free 3
    have z4 := H1.out.free 4
    clear hb1 hcd
    go_wp2_with fail
    refine bodyPost_ret (v := .tuple #[.agg #[.int .i64 2, .int .i64 0, .string ⟨#[]⟩, .slice none 0 0, .slice none 0 0], .int .i64 0]) (by simp [results, Tryz.results53, go_sem, t0, t1, t2, t3, t4]) rfl ?_
    exact ret_put HB.out (Nat.le_refl _) H1.out.lt (lies_boolv w1 _ true)
  · have hcd : (decide (c < 0)) = false := by simp [hc]
    rw [hcd]
    have hcb : (c == 0) = decide (c = 0) := by by_cases h : c = 0 <;> simp [h]
    have hcn : (c != 0) = !decide (c = 0) := by by_cases h : c = 0 <;> simp [h]
    have hcd2 : decide (c < 0) = false := by simp [hc]
    go_enter Tryz.func53, Tryz.ntmps53
    go_wp2_with fail
    refine (hbl.out _ _).mono ?_
    rintro e1 w1 ⟨rfl, hb1⟩
    have H1 := Lib.hid (hr.out.below hb1 hr.out.lt)
    have HB := Lib.hid (chain (below1 w _) hb1)
    obtain ⟨t0, t1, t2, t3, t4⟩ := box5 H1.out
    have z0 := H1.out.free 0
    have z1 := H1.out.free 1
    have z2 := H1.out.free 2
    have z3 := H1.out.free 3
    have z4 := H1.out.free 4
    clear hb1 hcd
    go_wp2_with fail
    refine bodyPost_ret (v := .tuple #[.agg #[.int .i64 1, .int .i64 0, .string ⟨#[]⟩, .slice none 0 0, .slice none 0 0], .int .i64 0]) (by simp [results, Tryz.results53, go_sem, t0, t1, t2, t3, t4]) rfl ?_
    exact ret_put HB.out (Nat.le_refl _) H1.out.lt (lies_boolv w1 _ false)
set_option maxHeartbeats 1000000 in
set_option maxRecDepth 100000 in
theorem cmpop_le (c : Int) (w : World) : Calls Tryz.prog 53 #[.string ⟨#[60, 61]⟩, .int .i64 c] w (RetPost (boolV (decide (c ≤ 0))) 0 w) := by
  have hbl := Lib.hid (fun (b : Bool) W => bool_any b W)
  have hr := Lib.hid (box_at w 26 #[.int .i64 0, .int .i64 0, .string ⟨#[]⟩, .slice none 0 0, .slice none 0 0] w.heap.size rfl)
  by_cases hc : c ≤ 0
  · have hcd : (decide (c ≤ 0)) = true := by simp [hc]
    rw [hcd]
    have hcb : (c == 0) = decide (c = 0) := by by_cases h : c = 0 <;> simp [h]
    have hcn : (c != 0) = !decide (c = 0) := by by_cases h : c = 0 <;> simp [h]
    have hcd2 : decide (c ≤ 0) = true := by simp [hc]
    go_enter Tryz.func53, Tryz.ntmps53
    go_wp2_with fail
    refine (hbl.out _ _).mono ?_
    rintro e1 w1 ⟨rfl, hb1⟩
    have H1 := Lib.hid (hr.out.below hb1 hr.out.lt)
    have HB := Lib.hid (chain (below1 w _) hb1)
    obtain ⟨t0, t1, t2, t3, t4⟩ := box5 H1.out
    have z0 := H1.out.free 0
    have z1 := H1.out.free 1
    have z2 := H1.out.free 2
    have z3 := H1.out.free 3
    have z4 := H1.out.free 4
    clear hb1 hcd
    go_wp2_with fail
    refine bodyPost_ret (v := .tuple #[.agg #[.int .i64 2, .int .i64 0, .string ⟨#[]⟩, .slice none 0 0, .slice none 0 0], .int .i64 0]) (by simp [results, Tryz.results53, go_sem, t0, t1, t2, t3, t4]) rfl ?_
    exact ret_put HB.out (Nat.le_refl _) H1.out.lt (lies_boolv w1 _ true)
  · have hcd : (decide (c ≤ 0)) = false := by simp [hc]
    rw [hcd]
    have hcb : (c == 0) = decide (c = 0) := by by_cases h : c = 0 <;> simp [h]
    have hcn : (c != 0) = !decide (c = 0) := by by_cases h : c = 0 <;> simp [h]
    have hcd2 : decide (c ≤ 0) = false := by simp [hc]
    go_enter Tryz.func53, Tryz.ntmps53
    go_wp2_with fail
    refine (hbl.out _ _).mono ?_
    rintro e1 w1 ⟨rfl, hb1⟩
    have H1 := Lib.hid (hr.out.below hb1 hr.out.lt)
    have HB := Lib.hid (chain (below1 w _) hb1)
    obtain ⟨t0, t1, t2, t3, t4⟩ := box5 H1.out
    have z0 := H1.out.free 0
    have z1 := H1.out.free 1
    have z2 := H1.out.free 2
    have z3 := H1.out.free 3
    have z4 := H1.out.free 4
    clear hb1 hcd
    go_wp2_with fail
    refine bodyPost_ret (v := .tuple #[.agg #[.int .i64 1, .int .i64 0, .string ⟨#[]⟩, .slice none 0 0, .slice none 0 0], .int .i64 0]) (by simp [results, Tryz.results53, go_sem, t0, t1, t2, t3, t4]) rfl ?_
    exact ret_put HB.out (Nat.le_refl _) H1.out.lt (lies_boolv w1 _ false)
set_option maxHeartbeats 1000000 in
set_option maxRecDepth 100000 in
theorem cmpop_gt (c : Int) (w : World) : Calls Tryz.prog 53 #[.string ⟨#[62]⟩, .int .i64 c] w (RetPost (boolV (decide (0 < c))) 0 w) := by
  have hbl := Lib.hid (fun (b : Bool) W => bool_any b W)
  have hr := Lib.hid (box_at w 26 #[.int .i64 0, .int .i64 0, .string ⟨#[]⟩, .slice none 0 0, .slice none 0 0] w.heap.size rfl)
  by_cases hc : 0 < c
  · have hcd : (decide (0 < c)) = true := by simp [hc]
    rw [hcd]
    have hcb : (c == 0) = decide (c = 0) := by by_cases h : c = 0 <;> simp [h]
    have hcn : (c != 0) = !decide (c = 0) := by by_cases h : c = 0 <;> simp [h]
    have hcd2 : decide (0 < c) = true := by simp [hc]
    go_enter Tryz.func53, Tryz.ntmps53
    go_wp2_with fail
    refine (hbl.out _ _).mono ?_
    rintro e1 w1 ⟨rfl, hb1⟩
    have H1 := Lib.hid (hr.out.below hb1 hr.out.lt)
    have HB := Lib.hid (chain (below1 w _) hb1)
    obtain ⟨t0, t1, t2, t3, t4⟩ := box5 H1.out
    have z0 := H1.out.free 0
    have z1 := H1.out.free 1
    have z2 := H1.out.free 2
    have z3 := H1.out.free 3
    have z4 := H1.out.free 4
    clear hb1 hcd
    go_wp2_with fail
    refine bodyPost_ret (v := .tuple #[.agg #[.int .i64 2, .int .i64 0, .string ⟨#[]⟩, .slice none 0 0, .slice none 0 0], .int .i64 0]) (by simp [results, Tryz.results53, go_sem, t0, t1, t2, t3, t4]) rfl ?_
    exact ret_put HB.out (Nat.le_refl _) H1.out.lt (lies_boolv w1 _ true)
  · have hcd : (decide (0 < c)) = false := by simp [hc]
    rw [hcd]
    have hcb : (c == 0) = decide (c = 0) := by by_cases h : c = 0 <;> simp [h]
    have hcn : (c != 0) = !decide (c = 0) := by by_cases h : c = 0 <;> simp [h]
    have hcd2 : decide (0 < c) = false := by simp [hc]
    go_enter Tryz.func53, Tryz.ntmps53
    go_wp2_with fail
    refine (hbl.out _ _).mono ?_
    rintro e1 w1 ⟨rfl, hb1⟩
    have H1 := Lib.hid (hr.out.below hb1 hr.out.lt)
    have HB := Lib.hid (chain (below1 w _) hb1)
    obtain ⟨t0, t1, t2, t3, t4⟩ := box5 H1.out
    have z0 := H1.out.free 0
    have z1 := H1.out.free 1
    have z2 := H1.out.free 2
    have z3 := H1.out.free 3
    have z4 := H1.out.free 4
    clear hb1 hcd
    go_wp2_with fail
    refine bodyPost_ret (v := .tuple #[.agg #[.int .i64 1, .int .i64 0, .string ⟨#[]⟩, .slice none 0 0, .slice none 0 0], .int .i64 0]) (by simp [results, Tryz.results53, go_sem, t0, t1, t2, t3, t4]) rfl ?_
    exact ret_put HB.out (Nat.le_refl _) H1.out.lt (lies_boolv w1 _ false)
set_option maxHeartbeats 1000000 in
set_option maxRecDepth 100000 in
theorem cmpop_ge (c : Int) (w : World) : Calls Tryz.prog 53 #[.string ⟨#[62, 61]⟩, .int .i64 c] w (RetPost (boolV (decide (0 ≤ c))) 0 w) := by
  have hbl := Lib.hid (fun (b : Bool) W => bool_any b W)
  have hr := Lib.hid (box_at w 26 #[.int .i64 0, .int .i64 0, .string ⟨#[]⟩, .slice none 0 0, .slice none 0 0] w.heap.size rfl)
  by_cases hc : 0 ≤ c
  · have hcd : (decide (0 ≤ c)) = true := by simp [hc]
    rw [hcd]
    have hcb : (c == 0) = decide (c = 0) := by by_cases h : c = 0 <;> simp [h]
    have hcn : (c != 0) = !decide (c = 0) := by by_cases h : c = 0 <;> simp [h]
    have hcd2 : decide (0 ≤ c) = true := by simp [hc]
    go_enter Tryz.func53, Tryz.ntmps53
    go_wp2_with fail
    refine (hbl.out _ _).mono ?_
    rintro e1 w1 ⟨rfl, hb1⟩
    have H1 := Lib.hid (hr.out.below hb1 hr.out.lt)
    have HB := Lib.hid (chain (below1 w _) hb1)
    obtain ⟨t0, t1, t2, t3, t4⟩ := box5 H1.out
    have z0 := H1.out.free 0
    have z1 := H1.out.free 1
    have z2 := H1.out.free 2
    have z3 := H1.out.free 3
    have z4 := H1.out.free 4
    clear hb1 hcd
    go_wp2_with fail
    refine bodyPost_ret (v := .tuple #[.agg #[.int .i64 2, .int .i64 0, .string ⟨#[]⟩, .slice none 0 0, .slice none 0 0], .int .i64 0]) (by simp [results, Tryz.results53, go_sem, t0, t1, t2, t3, t4]) rfl ?_
    exact ret_put HB.out (Nat.le_refl _) H1.out.lt (lies_boolv w1 _ true)
  · have hcd : (decide (0 ≤ c)) = false := by simp [hc]
    rw [hcd]
    have hcb : (c == 0) = decide (c = 0) := by by_cases h : c = 0 <;> simp [h]
    have hcn : (c != 0) = !decide (c = 0) := by by_cases h : c = 0 <;> simp [h]
    have hcd2 : decide (0 ≤ c) = false := by simp [hc]
    go_enter Tryz.func53, Tryz.ntmps53
    go_wp2_with fail
    refine (hbl.out _ _).mono ?_
    rintro e1 w1 ⟨rfl, hb1⟩
    have H1 := Lib.hid (hr.out.below hb1 hr.out.lt)
    have HB := Lib.hid (chain (below1 w _) hb1)
    obtain ⟨t0, t1, t2, t3, t4⟩ := box5 H1.out
    have z0 := H1.out.free 0
    have z1 := H1.out.free 1
    have z2 := H1.out.free 2
    have z3 := H1.out.free 3
    have z4 := H1.out.free 4
    clear hb1 hcd
    go_wp2_with fail
    refine bodyPost_ret (v := .tuple #[.agg #[.int .i64 1, .int .i64 0, .string ⟨#[]⟩, .slice none 0 0, .slice none 0 0], .int .i64 0]) (by simp [results, Tryz.results53, go_sem, t0, t1, t2, t3, t4]) rfl ?_
    exact ret_put HB.out (Nat.le_refl _) H1.out.lt (lies_boolv w1 _ false)
end Go.Proofs.YtkohnkofnobakaaGreatDoor
namespace Go.Proofs
open Go.Shelf Go.RowKit
def Tryz.spl_ren : Go.Shelf.Ren := ⟨fun | 146 => 68 | 221 => 99 | 268 => 129 | 138 => 130 | 143 => 131 | 195 => 169 | 197 => 170 | 218 => 171 | 219 => 172 | 260 => 192 | 217 => 193 | 225 => 194 | 224 => 195 | 267 => 196 | 266 => 219 | 314 => 220 | n => n, fun | 9 => 9 | 31 => 23 | 3 => 3 | 4 => 4 | 0 => 0 | 105 => 169 | 21 => 21 | 5 => 5 | 46 => 111 | 119 => 211 | 139 => 214 | 138 => 213 | 146 => 187 | 51 => 186 | n => n, fun | 1 => 0 | 3 => 1 | 4 => 2 | n => n⟩
theorem Tryz.spl : Go.Proofs.LaysM.n146 Tryz.prog Tryz.spl_ren := {
  mixed := by kernel_rfl
  f138 := Tryz.func130.trans (congrArg some (by kernel_rfl))
  f143 := Tryz.func131.trans (congrArg some (by kernel_rfl))
  f146 := Tryz.func68.trans (congrArg some (by kernel_rfl))
  f195 := Tryz.func169.trans (congrArg some (by kernel_rfl))
  f197 := Tryz.func170.trans (congrArg some (by kernel_rfl))
  f217 := Tryz.func193.trans (congrArg some (by kernel_rfl))
  f218 := Tryz.func171.trans (congrArg some (by kernel_rfl))
  f219 := Tryz.func172.trans (congrArg some (by kernel_rfl))
  f221 := Tryz.func99.trans (congrArg some (by kernel_rfl))
  f224 := Tryz.func195.trans (congrArg some (by kernel_rfl))
  f225 := Tryz.func194.trans (congrArg some (by kernel_rfl))
  f260 := Tryz.func192.trans (congrArg some (by kernel_rfl))
  f266 := Tryz.func219.trans (congrArg some (by kernel_rfl))
  f267 := Tryz.func196.trans (congrArg some (by kernel_rfl))
  f268 := Tryz.func129.trans (congrArg some (by kernel_rfl))
  f314 := Tryz.func220.trans (congrArg some (by kernel_rfl))
  t0 := Tryz.underlying0
  a0 := Tryz.isAgg0
  z0 := Tryz.sizeOf0
  v0 := Tryz.zeroValue0
  t3 := Tryz.underlying3
  a3 := Tryz.isAgg3
  z3 := Tryz.sizeOf3
  v3 := Tryz.zeroValue3
  t4 := Tryz.underlying4
  a4 := Tryz.isAgg4
  z4 := Tryz.sizeOf4
  v4 := Tryz.zeroValue4
  t5 := Tryz.underlying5
  a5 := Tryz.isAgg5
  z5 := Tryz.sizeOf5
  v5 := Tryz.zeroValue5
  t9 := Tryz.underlying9
  a9 := Tryz.isAgg9
  z9 := Tryz.sizeOf9
  v9 := Tryz.zeroValue9
  t21 := Tryz.underlying21
  a21 := Tryz.isAgg21
  z21 := Tryz.sizeOf21
  v21 := Tryz.zeroValue21
  t31 := Tryz.underlying23
  a31 := Tryz.isAgg23
  z31 := Tryz.sizeOf23
  v31 := Tryz.zeroValue23
  t46 := Tryz.underlying111
  a46 := Tryz.isAgg111
  z46 := Tryz.sizeOf111
  v46 := Tryz.zeroValue111
  t51 := Tryz.underlying186
  a51 := Tryz.isAgg186
  z51 := Tryz.sizeOf186
  v51 := Tryz.zeroValue186
  t105 := Tryz.underlying169
  a105 := Tryz.isAgg169
  z105 := Tryz.sizeOf169
  v105 := Tryz.zeroValue169
  t119 := Tryz.underlying211
  a119 := Tryz.isAgg211
  z119 := Tryz.sizeOf211
  t138 := Tryz.underlying213
  a138 := Tryz.isAgg213
  z138 := Tryz.sizeOf213
  v138 := Tryz.zeroValue213
  t139 := Tryz.underlying214
  a139 := Tryz.isAgg214
  z139 := Tryz.sizeOf214
  v139 := Tryz.zeroValue214
  t146 := Tryz.underlying187
  a146 := Tryz.isAgg187
  z146 := Tryz.sizeOf187
  v146 := Tryz.zeroValue187
  g1 := by kernel_rfl
  g3 := by kernel_rfl
  g4 := by kernel_rfl
  i0 := by kernel_rfl
  i3 := by kernel_rfl
  i4 := by kernel_rfl
  i5 := by kernel_rfl
  i9 := by kernel_rfl
  i21 := by kernel_rfl
  i31 := by kernel_rfl
  i46 := by kernel_rfl
  i51 := by kernel_rfl
  i105 := by kernel_rfl
  i138 := by kernel_rfl
  i139 := by kernel_rfl
  i146 := by kernel_rfl
  m1 := by kernel_rfl
  s1_3 := fun w h => Go.Proofs.cell_of_shapedOpen_int (zero := #[.int .i64 0]) (t := 3) h (of_decide_eq_true (by kernel_rfl)) (by kernel_rfl) rfl (by kernel_rfl) (by kernel_rfl) Tryz.underlying3
  m3 := by kernel_rfl
  m4 := by kernel_rfl }


end Go.Proofs
namespace Go.Proofs.YtkohnkofnobakaaGreatDoor
open Go.RowKit
/-- internal/bytealg.MaxLen holds some int. -/
def MaxL (w : World) : Prop := ∃ m, w.cell? ⟨0, 0, none⟩ = some (.int .i64 m)
theorem MaxL.next {w W : World} (h : MaxL w) (hb : Below w.heap.size w W) : MaxL W := by
  obtain ⟨m, hm⟩ := h
  have hl := World.block_lt_of_cell? w _ hm
  exact ⟨m, (hb.cell (p := ⟨0, 0, none⟩) hl).trans hm⟩
theorem maxl_shaped {w : World} (h : w.ShapedOpen Tryz.prog) : MaxL w := Tryz.spl.s1_3 w h
/-- The pieces of a string between the occurrences of another. -/
def pieces (s sep : ByteArray) : List ByteArray := Lib.splitB sep 0 (Lib.countB s sep) s
theorem pieces_len (s sep : ByteArray) (h : 1 ≤ sep.size) : (pieces s sep).length = Lib.countB s sep + 1 := Lib.splitB_all sep h 0 _ s rfl
theorem split_lib (s sep : ByteArray) (w : World) (hm : MaxL w) (hs : s.size < 4294967281) (h1 : 1 ≤ sep.size) :
    Calls Tryz.prog 68 #[.string s, .string sep] w fun e w' => e = .returned (.slice (some ⟨w.heap.size, 0, none⟩) (pieces s sep).length (pieces s sep).length) ∧ w' = w.alloc (.cells (kv (pieces s sep)).toArray 9) := by
  obtain ⟨m, hm⟩ := hm
  rw [pieces_len s sep h1]
  exact Go.Proofs.Any.strings_Split { Tryz.spl with } Tryz.spl.i9 s sep m w hs hm h1
end Go.Proofs.YtkohnkofnobakaaGreatDoor
namespace Go.Proofs.YtkohnkofnobakaaGreatDoor
open Go.RowKit Go.Sort
/-- What Split hands back. -/
def SplitPost (l : List ByteArray) (ok : Bool) (w : World) (e : Ending) (w' : World) : Prop :=
  Below w.heap.size w w' ∧ ∃ A c, e = .returned (.tuple #[.slice A l.length c, .bool ok]) ∧ Rs w' (fun b => w.heap.size ≤ b ∧ b < w'.heap.size) A (kv l) ∧ (A = none → c = 0) ∧ l.length ≤ c ∧ c ≤ maxLen
theorem rs_newbox {w : World} {t : TypeId} {l : List ByteArray} : Rs (w.alloc (.cells (kv l).toArray t)) (fun b => w.heap.size ≤ b ∧ b < (w.alloc (.cells (kv l).toArray t)).heap.size) (some ⟨w.heap.size, 0, none⟩) (kv l) := by
  intro j u hj
  refine ⟨w.heap.size, 0, rfl, ⟨Nat.le_refl _, by simp⟩, ?_⟩
  rw [Nat.zero_add]
  exact (Box.laid w t (kv l).toArray).cell (by simpa using hj)
theorem splitB_le (s sep : ByteArray) (h : 1 ≤ sep.size) : (pieces s sep).length ≤ s.size + 1 := by
  rw [pieces_len s sep h]
  have := Lib.countB_le sep h s.size s (Nat.le_refl _)
  omega
set_option maxHeartbeats 1000000 in
set_option maxRecDepth 100000 in
theorem split_sep (s sep : ByteArray) (w : World) (hm : MaxL w) (hs : s.size ≤ 1000000) (hsep : sep.size ≤ 1000000) (h1 : 1 ≤ sep.size) (ho : okS s = true) (hp : okS sep = true) (hne : s.size ≠ 0) :
    Calls Tryz.prog 25 #[.string s, .string sep] w (SplitPost (pieces s sep) true w) := by
  have hv := Lib.hid (fun W => val_any s (by unfold maxLen; omega) W)
  have hu := Lib.hid (fun W => val_any sep (by unfold maxLen; omega) W)
  have e1 : (runes s.data.toList).isSome = true := ho
  have e2 : (runes sep.data.toList).isSome = true := hp
  rw [e1] at hv
  rw [e2] at hu
  have hl := Lib.hid (split_lib s sep w hm (by omega) h1)
  have hle := splitB_le s sep h1
  have hE : s.toList.isEmpty = false := by
    cases h : s.toList.isEmpty with
    | false => rfl
    | true =>
      rw [Lib.toList_data] at h
      have h3 : s.data.toList = [] := by simpa using h
      exact absurd (by rw [Lib.size_eq, h3]; rfl) hne
  generalize pieces s sep = l at hl hle ⊢
  clear e1 e2 ho hp
  go_enter Tryz.func25, Tryz.ntmps25
  go_wp2_with (first
    | (go_at_call 67; with_reducible refine (hv.out _).mono ?_; rintro e1 w1 ⟨rfl, rfl⟩)
    | (go_at_call 67; with_reducible refine (hu.out _).mono ?_; rintro e2 w2 ⟨rfl, rfl⟩)
    | (go_at_call 68; refine hl.out.mono ?_; rintro e3 w3 ⟨rfl, rfl⟩))
  go_ret2
  refine ⟨below1 _ _, _, _, rfl, rs_newbox, (fun h => by cases h), Nat.le_refl _, by unfold maxLen; omega⟩
theorem below_dn (w : World) (n : Nat) : Below w.heap.size w (w.drewN n) := ⟨rfl, rfl, rfl, Nat.le_refl _, fun _ _ => rfl⟩
/-- A number that a call hands back. -/
theorem num_open {f : FuncId} {args : Array Value} {w : World} {x err : Int} (h : Calls Tryz.prog f args w (RetPost (numV x) err w)) :
    Calls Tryz.prog f args w fun e w' => ∃ (A : Option Addr) (a : Nat) (B : Option Addr) (b : Nat), e = .returned (.tuple #[.agg #[.int .i64 3, .int .i64 x, .string ⟨#[]⟩, .slice A 0 a, .slice B 0 b], .int .i64 err]) ∧ Below w.heap.size w w' ∧
      Lies w' (· < w'.heap.size) (numV x) [.int .i64 3, .int .i64 x, .string ⟨#[]⟩, .slice A 0 a, .slice B 0 b] := by
  refine h.mono fun e w' hp => ?_
  obtain ⟨hb, ds, rfl, hl⟩ := hp
  have hl2 := hl
  unfold numV at hl2
  obtain ⟨A, a, B, b, xs, rfl, _⟩ := lies_open hl2
  exact ⟨A, a, B, b, rfl, hb, hl.move fun b hb => ⟨hb.2, rfl⟩⟩
theorem nb_add (n n2 : Int) (cs ds : List Value) (w : World) (h : Lies w (· < w.heap.size) (numV n) cs) (h' : Lies w (· < w.heap.size) (numV n2) ds) : Calls Tryz.prog 18 #[.string ⟨#[43]⟩, .agg cs.toArray, .agg ds.toArray] w (RetPost (numV (wrap64 (n + n2))) 0 w) :=
  bin_add (numV n) (numV n2) cs ds w h h' (valid_num _) (valid_num _) _ _ fun W hW => by
    have h1 := h
    have h2 := h'
    unfold numV at h1 h2
    obtain ⟨A, a, B, b, xs, rfl, _⟩ := lies_open h1
    obtain ⟨A2, a2, B2, b2, xs2, rfl, _⟩ := lies_open h2
    exact add_num n n2 _ _ A B A2 B2 _ a _ b _ a2 _ b2 W
theorem nb_sub (n n2 : Int) (cs ds : List Value) (w : World) (h : Lies w (· < w.heap.size) (numV n) cs) (h' : Lies w (· < w.heap.size) (numV n2) ds) : Calls Tryz.prog 18 #[.string ⟨#[45]⟩, .agg cs.toArray, .agg ds.toArray] w (RetPost (numV (wrap64 (n - n2))) 0 w) :=
  bin_sub (numV n) (numV n2) cs ds w h h' (valid_num _) (valid_num _) _ _ fun W hW => by
    have h1 := h
    have h2 := h'
    unfold numV at h1 h2
    obtain ⟨A, a, B, b, xs, rfl, _⟩ := lies_open h1
    obtain ⟨A2, a2, B2, b2, xs2, rfl, _⟩ := lies_open h2
    exact sub_num n n2 _ _ A B A2 B2 _ a _ b _ a2 _ b2 W
theorem nb_mul (n n2 : Int) (cs ds : List Value) (w : World) (h : Lies w (· < w.heap.size) (numV n) cs) (h' : Lies w (· < w.heap.size) (numV n2) ds) : Calls Tryz.prog 18 #[.string ⟨#[42]⟩, .agg cs.toArray, .agg ds.toArray] w (RetPost (numV (wrap64 (n * n2))) 0 w) :=
  bin_mul (numV n) (numV n2) cs ds w h h' (valid_num _) (valid_num _) _ _ fun W hW => by
    have h1 := h
    have h2 := h'
    unfold numV at h1 h2
    obtain ⟨A, a, B, b, xs, rfl, _⟩ := lies_open h1
    obtain ⟨A2, a2, B2, b2, xs2, rfl, _⟩ := lies_open h2
    exact mul_num n n2 _ _ A B A2 B2 _ a _ b _ a2 _ b2 W
theorem nb_div (n n2 : Int) (h0 : n2 ≠ 0) (cs ds : List Value) (w : World) (h : Lies w (· < w.heap.size) (numV n) cs) (h' : Lies w (· < w.heap.size) (numV n2) ds) : Calls Tryz.prog 18 #[.string ⟨#[47]⟩, .agg cs.toArray, .agg ds.toArray] w (RetPost (numV (wrap64 (Int.tdiv n n2))) 0 w) :=
  bin_div (numV n) (numV n2) cs ds w h h' (valid_num _) (valid_num _) _ _ fun W hW => by
    have h1 := h
    have h2 := h'
    unfold numV at h1 h2
    obtain ⟨A, a, B, b, xs, rfl, _⟩ := lies_open h1
    obtain ⟨A2, a2, B2, b2, xs2, rfl, _⟩ := lies_open h2
    exact div_num n n2 _ _ A B A2 B2 _ a _ b _ a2 _ b2 W h0
theorem nb_rem (n n2 : Int) (h0 : n2 ≠ 0) (cs ds : List Value) (w : World) (h : Lies w (· < w.heap.size) (numV n) cs) (h' : Lies w (· < w.heap.size) (numV n2) ds) : Calls Tryz.prog 18 #[.string ⟨#[37]⟩, .agg cs.toArray, .agg ds.toArray] w (RetPost (numV (Int.tmod n n2)) 0 w) :=
  bin_rem (numV n) (numV n2) cs ds w h h' (valid_num _) (valid_num _) _ _ fun W hW => by
    have h1 := h
    have h2 := h'
    unfold numV at h1 h2
    obtain ⟨A, a, B, b, xs, rfl, _⟩ := lies_open h1
    obtain ⟨A2, a2, B2, b2, xs2, rfl, _⟩ := lies_open h2
    exact rem_num n n2 _ _ A B A2 B2 _ a _ b _ a2 _ b2 W h0
theorem msg_zero (w : World) : Calls Tryz.prog 28 #[.int .i64 13] w fun e w' => e = .returned (.string ⟨#[100, 105, 118, 105, 115, 105, 111, 110, 32, 98, 121, 32, 122, 101, 114, 111]⟩) ∧ w' = w := by
  go_enter Tryz.func28, Tryz.ntmps28
  go_wp2_with fail
  go_ret
  exact ⟨rfl, rfl⟩
theorem pieces_ab : pieces ⟨#[97, 44, 98]⟩ ⟨#[44]⟩ = [⟨#[97]⟩, ⟨#[98]⟩] := by decide +kernel
set_option maxHeartbeats 2000000 in
set_option maxRecDepth 100000 in
theorem awake6_any (w : World) (hm : MaxL w) : Calls Tryz.prog 16 #[] w fun e w' => e = .returned (.bool true) ∧ Below w.heap.size w w' := by
  have hn := Lib.hid (fun (n : Int) W => num_any n W)
  have hD := Lib.hid (fun cs ds W h h' => num_open (nb_div (-7) 2 (by decide) cs ds W h h'))
  have hR := Lib.hid (fun cs ds W h h' => num_open (nb_rem (-7) 2 (by decide) cs ds W h h'))
  have hS := Lib.hid (fun W (hW : Below w.heap.size w W) => split_sep ⟨#[97, 44, 98]⟩ ⟨#[44]⟩ W (hm.next hW) (by decide) (by decide) (by decide) (by decide +kernel) (by decide +kernel) (by decide))
  rw [pieces_ab] at hS
  have ed : wrap64 (Int.tdiv (-7) 2) = -3 := by decide +kernel
  have er : Int.tmod (-7) 2 = -1 := by decide +kernel
  rw [ed] at hD
  rw [er] at hR
  clear ed er hm
  go_enter Tryz.func16, Tryz.ntmps16
  go_wp2_with fail
  refine (hn.out _ _).mono ?_
  rintro e1 w1 ⟨rfl, hb1⟩
  go_wp2_with fail
  refine (hn.out _ _).mono ?_
  rintro e2 w2 ⟨rfl, hb2⟩
  have HB2 := Lib.hid (chain hb1 hb2)
  clear hb1 hb2
  go_wp2_with fail
  refine (hD.out [.int .i64 3, .int .i64 (-7), .string ⟨#[]⟩, .slice none 0 0, .slice none 0 0] [.int .i64 3, .int .i64 2, .string ⟨#[]⟩, .slice none 0 0, .slice none 0 0] _ (lies_numv _ _ _) (lies_numv _ _ _)).mono ?_
  rintro e3 w3 ⟨A, a, B, b, rfl, hb3, -⟩
  have HB3 := Lib.hid (chain HB2.out hb3)
  have HX := Lib.hid (Box.laid w3 26 #[.int .i64 3, .int .i64 (-3), .string ⟨#[]⟩, .slice A 0 a, .slice B 0 b])
  clear hb3 HB2
  go_wp2_with fail
  refine (hn.out _ _).mono ?_
  rintro e4 w4 ⟨rfl, hb4⟩
  go_wp2_with fail
  refine (hn.out _ _).mono ?_
  rintro e5 w5 ⟨rfl, hb5⟩
  have HB5 := Lib.hid (chain HB3.out (chain (below1 w3 _) (chain hb4 hb5)))
  have HX5 := Lib.hid (HX.out.below (chain hb4 hb5) HX.out.lt)
  clear hb4 hb5 HX HB3
  go_wp2_with fail
  refine (hR.out [.int .i64 3, .int .i64 (-7), .string ⟨#[]⟩, .slice none 0 0, .slice none 0 0] [.int .i64 3, .int .i64 2, .string ⟨#[]⟩, .slice none 0 0, .slice none 0 0] _ (lies_numv _ _ _) (lies_numv _ _ _)).mono ?_
  rintro e6 w6 ⟨A2, a2, B2, b2, rfl, hb6, -⟩
  have HB6 := Lib.hid (chain HB5.out (chain hb6 (below1 w6 (.cells #[.int .i64 3, .int .i64 (-1), .string ⟨#[]⟩, .slice A2 0 a2, .slice B2 0 b2] 26))))
  have HX6 := Lib.hid ((HX5.out.below hb6 HX5.out.lt).alloc (.cells #[.int .i64 3, .int .i64 (-1), .string ⟨#[]⟩, .slice A2 0 a2, .slice B2 0 b2] 26))
  have HY6 := Lib.hid (Box.laid w6 26 #[.int .i64 3, .int .i64 (-1), .string ⟨#[]⟩, .slice A2 0 a2, .slice B2 0 b2])
  clear hb6 HX5 HB5
  go_wp2_with fail
  refine (hS.out _ HB6.out).mono ?_
  rintro e7 w7 ⟨hb7, A3, c3, rfl, hr3, -, -, -⟩
  have HB7 := Lib.hid (chain HB6.out hb7)
  have HX7 := Lib.hid (HX6.out.below hb7 HX6.out.lt)
  have HY7 := Lib.hid (HY6.out.below hb7 HY6.out.lt)
  have HR7 := Lib.hid hr3
  clear hb7 HX6 HY6 HB6 hr3
  obtain ⟨x0, x1, x2, x3, x4⟩ := box5 HX7.out
  obtain ⟨y0, y1, y2, y3, y4⟩ := box5 HY7.out
  go_wp2_with fail
  refine (strings_any A3 (some ⟨w7.heap.size, 0, none⟩) c3 2 [⟨#[97]⟩, ⟨#[98]⟩] [⟨#[97]⟩, ⟨#[98]⟩] (fun b => w6.heap.size ≤ b) (fun b => b = w7.heap.size) _ (HR7.out.move fun b hb => ⟨by have := hb.1; simp at this; omega, Below.heap_alloc _ _ _ (by have := hb.2; omega)⟩) (fun j u hj => ⟨w7.heap.size, 0, rfl, rfl, by rw [Nat.zero_add]; exact (Box.laid w7 _ _).cell (by simpa [kv] using hj)⟩) (by decide)).mono ?_
  rintro e8 w8 ⟨rfl, m8, rfl⟩
  go_wp2_with (go_at_call 28; refine (msg_zero _).mono ?_; rintro e9 w9 ⟨rfl, rfl⟩)
  go_ret
  exact ⟨rfl, chain HB7.out (chain (below1 w7 _) (below_dn _ _))⟩
end Go.Proofs.YtkohnkofnobakaaGreatDoor
namespace Go.Proofs.YtkohnkofnobakaaGreatDoor
open Go.RowKit
theorem retm {k : IntKind} {a b : Int} (h : a = b) : Ending.returned (.int k a) = .returned (.int k b) := by rw [h]
theorem mod_fix' (x n : Int) (hn : 0 < n) : (if x.tmod n < 0 then x.tmod n + n else x.tmod n) = x % n := by
  have h1 := Int.tmod_add_mul_tdiv x n
  have h2 := Int.lt_tmod_of_pos x hn
  have h3 := Int.tmod_lt_of_pos x hn
  split
  · rename_i h
    have : (x.tmod n + n) % n = x % n := by
      conv => rhs; rw [← h1]
      simp
    rw [← this, Int.emod_eq_of_lt (by omega) (by omega)]
  · rename_i h
    have : (x.tmod n) % n = x % n := by
      conv => rhs; rw [← h1]
      simp
    rw [← this, Int.emod_eq_of_lt (by omega) (by omega)]
set_option maxHeartbeats 400000 in
theorem kmod_any (x n : Int) (hn : 0 < n) (hn2 : n ≤ 4611686018427387903) (w : World) :
    Calls Tryz.prog 33 #[.int .i64 x, .int .i64 n] w fun e w' => e = .returned (.int .i64 (x % n)) ∧ w = w' := by
  have hf := Lib.hid (mod_fix' x n hn)
  have hb : Hid (-n < x.tmod n ∧ x.tmod n < n) := Lib.hid (by
    have h1 := Int.lt_tmod_of_pos x hn
    have h2 := Int.tmod_lt_of_pos x hn
    exact ⟨h1, h2⟩)
  have hne : (n == 0) = false := by simp; omega
  have hne1 : n ≠ 0 := by omega
  obtain ⟨hb1, hb2⟩ := hb.out
  by_cases hs : x.tmod n < 0
  · have he : Hid (x.tmod n + n = x % n) := Lib.hid (by rw [← hf.out, if_pos hs])
    go_enter Tryz.func33, Tryz.ntmps33
    go_wp2
    go_ret
    exact ⟨retm he.out, rfl⟩
  · have he : Hid (x.tmod n = x % n) := Lib.hid (by rw [← hf.out, if_neg hs])
    go_enter Tryz.func33, Tryz.ntmps33
    go_wp2
    go_ret
    exact ⟨retm he.out, rfl⟩
/-- Mod as a number of its own. -/
theorem kmod_nat (x : Int) (n : Nat) (hn : 0 < n) (hn2 : n ≤ 1000000) : ∃ d : Nat, d < n ∧ ∀ w, Calls Tryz.prog 33 #[.int .i64 x, .int .i64 (n : Int)] w fun e w' => e = .returned (.int .i64 (d : Int)) ∧ w = w' := by
  have h1 := Int.emod_nonneg x (b := (n : Int)) (by omega)
  have h2 := Int.emod_lt_of_pos x (b := (n : Int)) (by omega)
  refine ⟨(x % n).toNat, by omega, fun w => ?_⟩
  rw [Int.toNat_of_nonneg h1]
  exact kmod_any x n (by omega) (by omega) w
end Go.Proofs.YtkohnkofnobakaaGreatDoor
namespace Go.Proofs.YtkohnkofnobakaaGreatDoor
theorem icmp_anti (x y : Int) : icmp y x = - icmp x y := by unfold icmp; (repeat' split) <;> omega
theorem icmp_range (x y : Int) : icmp x y = -1 ∨ icmp x y = 0 ∨ icmp x y = 1 := by unfold icmp; (repeat' split) <;> omega
/-- Three results of one order: of a and b, of b and c, of a and c. -/
def Tr (x y z : Int) : Prop := (x ≤ 0 → y ≤ 0 → z ≤ 0) ∧ (x ≤ 0 → y ≤ 0 → (x < 0 ∨ y < 0) → z < 0) ∧ (x = 0 → y = 0 → z = 0)
theorem tr_icmp (a b c : Int) : Tr (icmp a b) (icmp b c) (icmp a c) := by unfold Tr icmp; (repeat' split) <;> omega
theorem tr_scmp (a b c : ByteArray) : Tr (scmp a b) (scmp b c) (scmp a c) :=
  ⟨scmp_trans, fun h k o => (cb_trans _ _ _ h k).2 o, fun h k => by rw [scmp_zero] at *; exact h.trans k⟩
theorem tr_lex {x1 x2 x3 y1 y2 y3 : Int} (h : Tr x1 x2 x3) (k : Tr y1 y2 y3) : Tr (if x1 = 0 then y1 else x1) (if x2 = 0 then y2 else x2) (if x3 = 0 then y3 else x3) := by
  obtain ⟨h1, h2, h3⟩ := h
  obtain ⟨k1, k2, k3⟩ := k
  unfold Tr
  (repeat' split) <;> omega
theorem anti_lex {x x' y y' : Int} (h : x' = -x) (k : y' = -y) : (if x' = 0 then y' else x') = - (if x = 0 then y else x) := by
  subst h; subst k
  (repeat' split) <;> omega
theorem range_lex {x y : Int} (h : x = -1 ∨ x = 0 ∨ x = 1) (k : y = -1 ∨ y = 0 ∨ y = 1) : (if x = 0 then y else x) = -1 ∨ (if x = 0 then y else x) = 0 ∨ (if x = 0 then y else x) = 1 := by
  split
  · exact k
  · exact h
theorem kcmp_range : ∀ a b : List ByteArray, kcmp a b = -1 ∨ kcmp a b = 0 ∨ kcmp a b = 1
  | [], [] => by simp [kcmp]
  | [], _ :: _ => by simp [kcmp]
  | _ :: _, [] => by simp [kcmp]
  | x :: a, y :: b => by rw [kcmp]; exact range_lex (scmp_range x y) (kcmp_range a b)
theorem kcmp_anti : ∀ a b : List ByteArray, kcmp b a = - kcmp a b
  | [], [] => by simp [kcmp]
  | [], _ :: _ => by simp [kcmp]
  | _ :: _, [] => by simp [kcmp]
  | x :: a, y :: b => by rw [kcmp, kcmp]; exact anti_lex (scmp_anti x y) (kcmp_anti a b)
theorem kcmp_zero : ∀ a b : List ByteArray, kcmp a b = 0 ↔ a = b
  | [], [] => by simp [kcmp]
  | [], _ :: _ => by simp [kcmp]
  | _ :: _, [] => by simp [kcmp]
  | x :: a, y :: b => by
    rw [kcmp]
    have h1 := scmp_zero x y
    have h2 := kcmp_zero a b
    by_cases h : scmp x y = 0
    · rw [if_pos h, h2, List.cons.injEq]
      exact ⟨fun k => ⟨h1.1 h, k⟩, fun k => k.2⟩
    · rw [if_neg h, List.cons.injEq]
      exact ⟨fun k => absurd k h, fun k => absurd (h1.2 k.1) h⟩
theorem tr_kcmp : ∀ a b c : List ByteArray, Tr (kcmp a b) (kcmp b c) (kcmp a c)
  | [], [], [] => by simp [kcmp, Tr]
  | [], [], _ :: _ => by simp [kcmp, Tr]
  | [], _ :: _, [] => by simp [kcmp, Tr]
  | [], _ :: _, _ :: _ => by simp [kcmp, Tr]
  | _ :: _, [], [] => by simp [kcmp, Tr]
  | _ :: _, [], _ :: _ => by simp [kcmp, Tr]
  | _ :: _, _ :: _, [] => by simp [kcmp, Tr]
  | x :: a, y :: b, z :: c => by rw [kcmp, kcmp, kcmp]; exact tr_lex (tr_scmp x y z) (tr_kcmp a b c)
theorem vcmp_lex (k n : Int) (s : ByteArray) (ks : List ByteArray) (es : List V) (k' n' : Int) (s' : ByteArray) (ks' : List ByteArray) (es' : List V) :
    vcmp (.mk k n s ks es) (.mk k' n' s' ks' es') = if icmp k k' = 0 then (if icmp n n' = 0 then (if scmp s s' = 0 then (if kcmp ks ks' = 0 then vcmpL es es' else kcmp ks ks') else scmp s s') else icmp n n') else icmp k k' := by rw [vcmp]
theorem vcmpL_lex (e f : V) (es fs : List V) : vcmpL (e :: es) (f :: fs) = if vcmp e f = 0 then vcmpL es fs else vcmp e f := by rw [vcmpL]
theorem vcmpL_nn : vcmpL [] [] = 0 := by rw [vcmpL]
theorem vcmpL_nc (f : V) (fs : List V) : vcmpL [] (f :: fs) = -1 := by rw [vcmpL]
theorem vcmpL_cn (f : V) (fs : List V) : vcmpL (f :: fs) [] = 1 := by rw [vcmpL]
theorem vcmp_range : ∀ v u : V, vcmp v u = -1 ∨ vcmp v u = 0 ∨ vcmp v u = 1 := by
  refine V.ind fun k n s ks es ih u => ?_
  obtain ⟨k', n', s', ks', es'⟩ := u
  rw [vcmp_lex]
  refine range_lex (icmp_range _ _) (range_lex (icmp_range _ _) (range_lex (scmp_range _ _) (range_lex (kcmp_range _ _) ?_)))
  clear ks ks' s s' k k' n n'
  induction es generalizing es' with
  | nil =>
    cases es' with
    | nil => rw [vcmpL_nn]; simp
    | cons f fs => rw [vcmpL_nc]; simp
  | cons e es ihl =>
    cases es' with
    | nil => rw [vcmpL_cn]; simp
    | cons f fs =>
      rw [vcmpL_lex]
      exact range_lex (ih e (by simp) f) (ihl (fun x hx => ih x (by simp [hx])) fs)
theorem vcmp_anti : ∀ v u : V, vcmp u v = - vcmp v u := by
  refine V.ind fun k n s ks es ih u => ?_
  obtain ⟨k', n', s', ks', es'⟩ := u
  rw [vcmp_lex, vcmp_lex]
  refine anti_lex (icmp_anti _ _) (anti_lex (icmp_anti _ _) (anti_lex (scmp_anti _ _) (anti_lex (kcmp_anti _ _) ?_)))
  clear ks ks' s s' k k' n n'
  induction es generalizing es' with
  | nil =>
    cases es' with
    | nil => rw [vcmpL_nn]; rfl
    | cons f fs => rw [vcmpL_nc, vcmpL_cn]; rfl
  | cons e es ihl =>
    cases es' with
    | nil => rw [vcmpL_cn, vcmpL_nc]
    | cons f fs =>
      rw [vcmpL_lex, vcmpL_lex]
      exact anti_lex (ih e (by simp) f) (ihl (fun x hx => ih x (by simp [hx])) fs)
theorem vcmp_tr : ∀ v u t : V, Tr (vcmp v u) (vcmp u t) (vcmp v t) := by
  refine V.ind fun k n s ks es ih u t => ?_
  obtain ⟨k', n', s', ks', es'⟩ := u
  obtain ⟨k2, n2, s2, ks2, es2⟩ := t
  rw [vcmp_lex, vcmp_lex, vcmp_lex]
  refine tr_lex (tr_icmp _ _ _) (tr_lex (tr_icmp _ _ _) (tr_lex (tr_scmp _ _ _) (tr_lex (tr_kcmp _ _ _) ?_)))
  clear ks ks' s s' k k' n n' ks2 s2 k2 n2
  induction es generalizing es' es2 with
  | nil =>
    cases es' with
    | nil => rw [vcmpL_nn]; cases es2 with
      | nil => rw [vcmpL_nn]; simp [Tr]
      | cons g gs => rw [vcmpL_nc]; simp [Tr]
    | cons f fs => rw [vcmpL_nc]; cases es2 with
      | nil => rw [vcmpL_nn, vcmpL_cn]; simp [Tr]
      | cons g gs => rw [vcmpL_nc]; simp [Tr]
  | cons e es ihl =>
    cases es' with
    | nil => rw [vcmpL_cn]; simp [Tr]
    | cons f fs => cases es2 with
      | nil => rw [vcmpL_cn]; simp [Tr]
      | cons g gs =>
        rw [vcmpL_lex, vcmpL_lex, vcmpL_lex]
        exact tr_lex (ih e (by simp) f g) (ihl (fun x hx => ih x (by simp [hx])) fs gs)
theorem vcmp_zero : ∀ v u : V, vcmp v u = 0 ↔ v = u := by
  refine V.ind fun k n s ks es ih u => ?_
  obtain ⟨k', n', s', ks', es'⟩ := u
  have hL : vcmpL es es' = 0 ↔ es = es' := by
    clear ks ks' s s' k k' n n'
    induction es generalizing es' with
    | nil =>
      cases es' with
      | nil => rw [vcmpL_nn]; simp
      | cons f fs => rw [vcmpL_nc]; simp
    | cons e es ihl =>
      cases es' with
      | nil => rw [vcmpL_cn]; simp
      | cons f fs =>
        rw [vcmpL_lex]
        have h1 := ih e (by simp) f
        have h2 := ihl (fun x hx => ih x (by simp [hx])) fs
        by_cases h : vcmp e f = 0
        · rw [if_pos h, h2, List.cons.injEq]
          exact ⟨fun k => ⟨h1.1 h, k⟩, fun k => k.2⟩
        · rw [if_neg h, List.cons.injEq]
          exact ⟨fun k => absurd k h, fun k => absurd (h1.2 k.1) h⟩
  rw [vcmp_lex, V.mk.injEq, ← hL, ← kcmp_zero ks ks', ← scmp_zero s s', ← icmp_zero (x := k) (y := k'), ← icmp_zero (x := n) (y := n')]
  generalize icmp k k' = a
  generalize icmp n n' = b
  generalize scmp s s' = c
  generalize kcmp ks ks' = d
  generalize vcmpL es es' = f
  by_cases h1 : a = 0 <;> by_cases h2 : b = 0 <;> by_cases h3 : c = 0 <;> by_cases h4 : d = 0 <;> simp [h1, h2, h3, h4]
theorem vcmp_same (v u : V) : decide (vcmp v u = 0) = same v u := by
  rw [Bool.eq_iff_iff, same_iff, decide_eq_true_iff, vcmp_zero]
end Go.Proofs.YtkohnkofnobakaaGreatDoor
namespace Go.Proofs.YtkohnkofnobakaaGreatDoor
open Go.RowKit Go.Sort
theorem same_refl (v : V) : same v v = true := (same_iff v v).2 rfl
theorem rs_box6 {w : World} {g : Nat} {t : TypeId} {cs : List Value} {S : Nat → Prop} (h : Box w g t cs.toArray) (hg : S g) : Rs w S (some ⟨g, 0, none⟩) cs := fun j u hj => ⟨g, 0, rfl, hg, by rw [Nat.zero_add]; exact h.cell (by simpa using hj)⟩
theorem two_row6 {w : World} {v u : V} {cs ds : List Value} {g : Nat} (h : Lies w (· < w.heap.size) v cs) (k : Lies w (· < w.heap.size) u ds) (hg : Box w g 26 (cs ++ ds).toArray) : Row w (some ⟨g, 0, none⟩) [v, u] (cs ++ ds) := by
  refine ⟨rs_box6 hg hg.lt, ?_⟩
  rw [LiesL]
  refine ⟨cs, ds, rfl, h, ?_⟩
  rw [LiesL]
  exact ⟨ds, [], by simp, k, by rw [LiesL]⟩
/-- The operators of comparisons. -/
def cmpOp (i : Nat) : ByteArray := if i = 0 then ⟨#[61, 61]⟩ else if i = 1 then ⟨#[33, 61]⟩ else if i = 2 then ⟨#[60]⟩ else if i = 3 then ⟨#[60, 61]⟩ else if i = 4 then ⟨#[62]⟩ else ⟨#[62, 61]⟩
/-- What they answer. -/
def cmpB (i : Nat) (c : Int) : Bool := if i = 0 then decide (c = 0) else if i = 1 then !decide (c = 0) else if i = 2 then decide (c < 0) else if i = 3 then decide (c ≤ 0) else if i = 4 then decide (0 < c) else decide (0 ≤ c)
theorem cmp_at (i : Nat) (c : Int) (w : World) : Calls Tryz.prog 53 #[.string (cmpOp i), .int .i64 c] w (RetPost (boolV (cmpB i c)) 0 w) := by
  unfold cmpOp cmpB
  (repeat' split)
  · exact cmpop_eq c w
  · exact cmpop_ne c w
  · exact cmpop_lt c w
  · exact cmpop_le c w
  · exact cmpop_gt c w
  · exact cmpop_ge c w
theorem cmpOp_ne (i : Nat) : ((cmpOp i).toList == [43]) = false ∧ ((cmpOp i).toList == [45]) = false ∧ ((cmpOp i).toList == [42]) = false ∧ ((cmpOp i).toList == [47]) = false ∧ ((cmpOp i).toList == [37]) = false := by
  unfold cmpOp
  (repeat' split) <;> decide +kernel
set_option maxHeartbeats 1000000 in
set_option maxRecDepth 100000 in
theorem bin_cmp (i : Nat) (v u : V) (cs ds : List Value) (w : World) (h : Lies w (· < w.heap.size) v cs) (h' : Lies w (· < w.heap.size) u ds) (hv : valid v = true) (hu : valid u = true) :
    Calls Tryz.prog 18 #[.string (cmpOp i), .agg cs.toArray, .agg ds.toArray] w (RetPost (boolV (cmpB i (cmpV v u))) 0 w) := by
  have HV := Lib.hid (fun W (hW : Below w.heap.size w W) => valid_any v cs W (below_lies hW h))
  have HU := Lib.hid (fun W (hW : Below w.heap.size w W) => valid_any u ds W (below_lies hW h'))
  have HQ := Lib.hid (fun W (hW : Below w.heap.size w W) => cmp_any v u cs ds W (below_lies hW h) (below_lies hW h'))
  rw [hv] at HV
  rw [hu] at HU
  obtain ⟨n1, n2, n3, n4, n5⟩ := cmpOp_ne i
  generalize cmpV v u = q at HQ ⊢
  have HC := Lib.hid (fun W => ret_open (cmp_at i q W))
  generalize cmpB i q = bb at HC ⊢
  generalize cmpOp i = op at n1 n2 n3 n4 n5 HC ⊢
  obtain ⟨k, n, s, ks, es⟩ := v
  obtain ⟨A, a, B, b, xs, rfl, _⟩ := lies_open h
  obtain ⟨k2, m2, s2, ks2, es2⟩ := u
  obtain ⟨A2, a2, B2, b2, xs2, rfl, _⟩ := lies_open h'
  clear h h' hv hu
  generalize ks.length = l1 at *
  generalize es.length = l2 at *
  generalize ks2.length = l3 at *
  generalize es2.length = l4 at *
  show Calls _ _ #[_, .agg #[.int .i64 k, .int .i64 n, .string s, .slice A l1 a, .slice B l2 b], .agg #[.int .i64 k2, .int .i64 m2, .string s2, .slice A2 l3 a2, .slice B2 l4 b2]] w _
  have H0 := Lib.hid (B3.start w #[.int .i64 k, .int .i64 n, .string s, .slice A l1 a, .slice B l2 b] #[.int .i64 k2, .int .i64 m2, .string s2, .slice A2 l3 a2, .slice B2 l4 b2])
  go_enter Tryz.func18, Tryz.ntmps18
  go_wp2_with fail
  refine (HV.out _ H0.out.below).mono ?_
  rintro e1 w1 ⟨rfl, hb1⟩
  have H1 := Lib.hid (H0.out.next hb1)
  obtain ⟨y0, y1, y2, y3, y4⟩ := box5 H1.out.y
  clear hb1 H0
  go_wp2_with fail
  refine (HU.out _ H1.out.below).mono ?_
  rintro e2 w2 ⟨rfl, hb2⟩
  have H2 := Lib.hid (H1.out.next hb2)
  clear hb2 H1 y0 y1 y2 y3 y4
  obtain ⟨x0, x1, x2, x3, x4⟩ := box5 H2.out.x
  obtain ⟨y0, y1, y2, y3, y4⟩ := box5 H2.out.y
  go_wp2_with fail
  refine (HQ.out _ H2.out.below).mono ?_
  rintro e3 w3 ⟨rfl, hb3⟩
  have H3 := Lib.hid (H2.out.next hb3)
  clear hb3 x0 x1 x2 x3 x4 y0 y1 y2 y3 y4 H2
  go_wp2_with fail
  refine (HC.out _).mono ?_
  rintro e4 w4 ⟨rk, rn, rs, rks, res, RA, ra, RC, rc, hrv, rfl, hb4, hl4⟩
  have H4 := Lib.hid (H3.out.next hb4)
  have HL := Lib.hid hl4
  have hs3 := H3.out.r.lt
  have hs4 := H3.out.below.size
  clear hb4 hl4 hrv
  obtain ⟨t0, t1, t2, t3, t4⟩ := box5 H4.out.r
  have z0 := H4.out.r.free 0
  have z1 := H4.out.r.free 1
  have z2 := H4.out.r.free 2
  have z3 := H4.out.r.free 3
  have z4 := H4.out.r.free 4
  go_wp2_with fail
  refine bodyPost_ret (v := .tuple #[.agg #[.int .i64 rk, .int .i64 rn, .string rs, .slice RA rks.length ra, .slice RC res.length rc], .int .i64 0]) (by simp [results, Tryz.results18, go_sem, t0, t1, t2, t3, t4]) rfl ?_
  exact ret_put H4.out.below (by omega) H4.out.r.lt (HL.out.move fun b hb => ⟨⟨by omega, hb.2, by omega⟩, rfl⟩)
end Go.Proofs.YtkohnkofnobakaaGreatDoor
namespace Go.Proofs.YtkohnkofnobakaaGreatDoor
open Go.RowKit Go.Sort
theorem lit_cell (w : World) (xs : Array Value) (ty : TypeId) (j : Nat) {v : Value} (hv : xs[j]? = some v) : (w.alloc (.cells xs ty)).drew.cell? ⟨w.heap.size, j, none⟩ = some v :=
  ((Box.laid w ty xs).drewN 1).cell hv
theorem lit_cell_alloc (w : World) (xs : Array Value) (ty : TypeId) (o : Obj) (j : Nat) {v : Value} (hv : xs[j]? = some v) : ((w.alloc (.cells xs ty)).alloc o).drew.cell? ⟨w.heap.size, j, none⟩ = some v :=
  (((Box.laid w ty xs).alloc o).drewN 1).cell hv
theorem lit_cell2 (w : World) (xs : Array Value) (ty : TypeId) (o : Obj) (j : Nat) {v : Value} (hv : xs[j]? = some v) : ((w.alloc o).alloc (.cells xs ty)).drew.cell? ⟨w.heap.size + 1, j, none⟩ = some v := by
  have := ((Box.laid (w.alloc o) ty xs).drewN 1).cell hv
  simpa using this
theorem box_put5 {W : World} {g : Nat} {t : TypeId} {x0 x1 x2 x3 x4 : Value} (h : Box W g t #[x0, x1, x2, x3, x4]) (r0 r1 r2 r3 r4 : Value) :
    Box (((((W.setCell ⟨g, 0, none⟩ r0).setCell ⟨g, 1, none⟩ r1).setCell ⟨g, 2, none⟩ r2).setCell ⟨g, 3, none⟩ r3).setCell ⟨g, 4, none⟩ r4) g t #[r0, r1, r2, r3, r4] := by
  have := ((((h.put 0 r0).put 1 r1).put 2 r2).put 3 r3).put 4 r4
  simpa using this
theorem put5_lies {W : World} {g : Nat} {v : V} {cs : List Value} (r0 r1 r2 r3 r4 : Value) (hl : Lies W (fun b => b < W.heap.size ∧ b ≠ g) v cs) :
    Lies (((((W.setCell ⟨g, 0, none⟩ r0).setCell ⟨g, 1, none⟩ r1).setCell ⟨g, 2, none⟩ r2).setCell ⟨g, 3, none⟩ r3).setCell ⟨g, 4, none⟩ r4) (· < (((((W.setCell ⟨g, 0, none⟩ r0).setCell ⟨g, 1, none⟩ r1).setCell ⟨g, 2, none⟩ r2).setCell ⟨g, 3, none⟩ r3).setCell ⟨g, 4, none⟩ r4).heap.size) v cs := by
  refine hl.move fun b hb => ⟨by simp [World.setCell]; omega, ?_⟩
  have hne := hb.2
  rw [Below.heap_setCell _ _ _ _ (by simpa using hne), Below.heap_setCell _ _ _ _ (by simpa using hne), Below.heap_setCell _ _ _ _ (by simpa using hne), Below.heap_setCell _ _ _ _ (by simpa using hne), Below.heap_setCell _ _ _ _ (by simpa using hne)]
theorem wpAnyH_weaken {P : Program} {md : Region.Mode} {ops : Array Oper} {Q : Exit → Act → World → Prop} {S S' : World → Prop} (hS : ∀ w, S' w → S w) : ∀ (fuel : Nat) (listed : Array Bool) (a : Act) (w : World), wpAnyH P md ops Q S' fuel listed a w → wpAnyH P md ops Q S fuel listed a w
  | 0, _, _, _, h => h
  | fuel + 1, listed, a, w, h => ⟨h.1, fun i hi => wpOp_mono (fun a' w' h' => ⟨hS w' h'.1, wpAnyH_weaken hS fuel _ a' w' h'.2⟩) (h.2 i hi)⟩
theorem far5c {X : World} {g p : Nat} {t : TypeId} {cs : Array Value} (h : Box X g t cs) (hp : g ≠ p) (r0 r1 r2 r3 r4 : Value) : Box (((((X.setCell ⟨p, 0, none⟩ r0).setCell ⟨p, 1, none⟩ r1).setCell ⟨p, 2, none⟩ r2).setCell ⟨p, 3, none⟩ r3).setCell ⟨p, 4, none⟩ r4) g t cs :=
  ((((h.far (p := ⟨p, 0, none⟩) hp _).far (p := ⟨p, 1, none⟩) hp _).far (p := ⟨p, 2, none⟩) hp _).far (p := ⟨p, 3, none⟩) hp _).far (p := ⟨p, 4, none⟩) hp _
theorem below_drw {B : Nat} {w w' : World} (h : Below B w w') : Below B w w'.drew := h.drew
set_option maxHeartbeats 8000000 in
set_option maxRecDepth 100000 in
theorem arithCompare_walk (v u : V) (cs ds : List Value) (z : Int) (w : World) (h : Lies w (· < w.heap.size) v cs) (h' : Lies w (· < w.heap.size) u ds) (hml : MaxL w) :
    Calls Tryz.prog 9 #[.agg cs.toArray, .agg ds.toArray, .int .i64 z] w fun e w' => e = .returned (.bool true) ∧ Below w.heap.size w w' := by
  have haw := Lib.hid (fun W (hW : Below w.heap.size w W) => awake6_any W (hml.next hW))
  have hva := Lib.hid (fun W (hW : Below w.heap.size w W) => valid_any v cs W (below_lies hW h))
  have hvb := Lib.hid (fun W (hW : Below w.heap.size w W) => valid_any u ds W (below_lies hW h'))
  have hcm := Lib.hid (fun W (hW : Below w.heap.size w W) => cmp_any v u cs ds W (below_lies hW h) (below_lies hW h'))
  have hbl := Lib.hid (fun (b : Bool) W => bool_any b W)
  have hsm := Lib.hid (fun W (hW : Below w.heap.size w W) g hg => small_any 100 [v, u] (some ⟨g, 0, none⟩) 2 (cs ++ ds) W (two_row6 (below_lies hW h) (below_lies hW h') hg) (by simp) (by omega) (by omega))
  have hbn := Lib.hid (fun (hv : valid v = true) (hu : valid u = true) i W (hW : Below w.heap.size w W) => ret_open (bin_cmp i v u cs ds W (below_lies hW h) (below_lies hW h') hv hu))
  generalize smallP 100 [v, u] = sm at hsm
  obtain ⟨j, hj, hmod⟩ := (⟨(z % 6).toNat, by omega, by omega⟩ : ∃ j : Nat, j < 6 ∧ z % 6 = (j : Int))
  have hkm := Lib.hid (fun W => kmod_any z 6 (by omega) (by omega) W)
  rw [hmod] at hkm
  obtain ⟨k, n, s, ks, es⟩ := v
  obtain ⟨A, a, B, b, xs, rfl, -⟩ := lies_open h
  obtain ⟨k2, n2, s2, ks2, es2⟩ := u
  obtain ⟨A2, a2, B2, b2, xs2, rfl, -⟩ := lies_open h'
  clear h h' hml hmod
  generalize valid (V.mk k n s ks es) = va at hva hbn
  generalize valid (V.mk k2 n2 s2 ks2 es2) = vb at hvb hbn
  generalize cmpV (V.mk k n s ks es) (V.mk k2 n2 s2 ks2 es2) = q at hcm hbn
  generalize ks.length = l1 at *
  generalize es.length = l2 at *
  generalize ks2.length = l3 at *
  generalize es2.length = l4 at *
  show Calls _ _ #[.agg #[.int .i64 k, .int .i64 n, .string s, .slice A l1 a, .slice B l2 b], .agg #[.int .i64 k2, .int .i64 n2, .string s2, .slice A2 l3 a2, .slice B2 l4 b2], .int .i64 z] w _
  obtain ⟨W0, hW0⟩ : ∃ X, X = (w.alloc (.cells #[.int .i64 k, .int .i64 n, .string s, .slice A l1 a, .slice B l2 b] 26)).alloc (.cells #[.int .i64 k2, .int .i64 n2, .string s2, .slice A2 l3 a2, .slice B2 l4 b2] 26) := ⟨_, rfl⟩
  have HX0 := Lib.hid (show Box W0 w.heap.size 26 #[.int .i64 k, .int .i64 n, .string s, .slice A l1 a, .slice B l2 b] by rw [hW0]; exact (Box.laid w _ _).alloc _)
  have HY0 := Lib.hid (show Box W0 (w.heap.size + 1) 26 #[.int .i64 k2, .int .i64 n2, .string s2, .slice A2 l3 a2, .slice B2 l4 b2] by rw [hW0]; exact box_at _ _ _ _ (by simp))
  have HB0 := Lib.hid (show Below w.heap.size w W0 by rw [hW0]; exact ((Below.refl _ _).alloc (Nat.le_refl _) _).alloc (by simp) _)
  have HW0 := Lib.hid hW0
  have hsm1 := Lib.hid (hsm.out (W0.alloc (.cells #[.int .i64 k, .int .i64 n, .string s, .slice A l1 a, .slice B l2 b, .int .i64 k2, .int .i64 n2, .string s2, .slice A2 l3 a2, .slice B2 l4 b2] 26)) (chain HB0.out (below1 _ _)) W0.heap.size (Box.laid W0 _ _))
  clear hW0 hsm
  obtain ⟨t0, t1, t2, t3, t4⟩ := box5 HX0.out
  obtain ⟨y0, y1, y2, y3, y4⟩ := box5 HY0.out
  go_enter Tryz.func9, Tryz.ntmps9
  go_upto_region 1 with fail
  rw [← HW0.out]
  go_wp2_with fail
  refine hsm1.out.mono ?_
  rintro e1 w1 ⟨rfl, hb1⟩
  have HB1 := Lib.hid (chain HB0.out (chain (below1 W0 _) hb1))
  have HX1 := Lib.hid (HX0.out.below (chain (below1 W0 _) hb1) HX0.out.lt)
  have HY1 := Lib.hid (HY0.out.below (chain (below1 W0 _) hb1) HY0.out.lt)
  clear hsm1 hb1 t0 t1 t2 t3 t4 y0 y1 y2 y3 y4 HX0 HY0 HB0 HW0
  cases sm with
  | false =>
    go_wp2_with fail
    refine (haw.out _ HB1.out).mono ?_
    rintro e2 w2 ⟨rfl, hb2⟩
    go_wp2_with fail
    go_ret
    exact ⟨rfl, chain HB1.out hb2⟩
  | true =>
    obtain ⟨t0, t1, t2, t3, t4⟩ := box5 HX1.out
    go_wp2_with fail
    refine (hva.out _ HB1.out).mono ?_
    rintro e2 w2 ⟨rfl, hb2⟩
    have HB2 := Lib.hid (chain HB1.out hb2)
    have HX2 := Lib.hid (HX1.out.below hb2 HX1.out.lt)
    have HY2 := Lib.hid (HY1.out.below hb2 HY1.out.lt)
    clear hb2 t0 t1 t2 t3 t4 HB1 HX1 HY1
    cases va with
    | false =>
      go_wp2_with fail
      refine (haw.out _ HB2.out).mono ?_
      rintro e3 w3 ⟨rfl, hb3⟩
      go_wp2_with fail
      go_ret
      exact ⟨rfl, chain HB2.out hb3⟩
    | true =>
      obtain ⟨y0, y1, y2, y3, y4⟩ := box5 HY2.out
      go_wp2_with fail
      refine (hvb.out _ HB2.out).mono ?_
      rintro e3 w3 ⟨rfl, hb3⟩
      have HB3 := Lib.hid (chain HB2.out hb3)
      have HX3 := Lib.hid (HX2.out.below hb3 HX2.out.lt)
      have HY3 := Lib.hid (HY2.out.below hb3 HY2.out.lt)
      clear hb3 y0 y1 y2 y3 y4 HB2 HX2 HY2
      cases vb with
      | false =>
        go_wp2_with fail
        refine (haw.out _ HB3.out).mono ?_
        rintro e4 w4 ⟨rfl, hb4⟩
        go_wp2_with fail
        go_ret
        exact ⟨rfl, chain HB3.out hb4⟩
      | true =>
        have hbn2 := Lib.hid (hbn.out (by trivial) (by trivial))
        obtain ⟨t0, t1, t2, t3, t4⟩ := box5 HX3.out
        obtain ⟨y0, y1, y2, y3, y4⟩ := box5 HY3.out
        go_wp2_with fail
        refine (hcm.out _ HB3.out).mono ?_
        rintro e4 w4 ⟨rfl, hb4⟩
        have HB4 := Lib.hid (chain HB3.out hb4)
        have HX4 := Lib.hid (HX3.out.below hb4 HX3.out.lt)
        have HY4 := Lib.hid (HY3.out.below hb4 HY3.out.lt)
        clear hb4 t0 t1 t2 t3 t4 y0 y1 y2 y3 y4 HB3 HX3 HY3 hbn hcm hva hvb
        go_wp2_with fail
        refine (hkm.out _).mono ?_
        rintro e5 w5 ⟨rfl, rfl⟩
        clear hkm
        have hj0 : (0 : Int) ≤ (j : Int) := by omega
        have hj6 : (j : Int) < 6 := by omega
        have hbt : ∀ (hh : j < 6), ([Value.bool (q == 0), Value.bool (q != 0), Value.bool (decide (q < 0)), Value.bool (decide (q ≤ 0)), Value.bool (decide (0 < q)), Value.bool (decide (0 ≤ q))] : List Value)[j]'(by simpa using hh) = .bool (cmpB j q) := fun hh => by
          rcases (by omega : j = 0 ∨ j = 1 ∨ j = 2 ∨ j = 3 ∨ j = 4 ∨ j = 5) with rfl | rfl | rfl | rfl | rfl | rfl <;> simp [cmpB] <;> by_cases h : q = 0 <;> simp [h]
        have hst : ∀ (hh : j < 6), ([Value.string ⟨#[61, 61]⟩, Value.string ⟨#[33, 61]⟩, Value.string ⟨#[60]⟩, Value.string ⟨#[60, 61]⟩, Value.string ⟨#[62]⟩, Value.string ⟨#[62, 61]⟩] : List Value)[j]'(by simpa using hh) = .string (cmpOp j) := fun hh => by
          rcases (by omega : j = 0 ∨ j = 1 ∨ j = 2 ∨ j = 3 ∨ j = 4 ∨ j = 5) with rfl | rfl | rfl | rfl | rfl | rfl <;> simp [cmpOp]
        go_upto_region 5 with fail
        go_cut [9] (fun t wx => t = .bool (cmpB j q) ∧ Below w.heap.size w wx ∧ Box wx w.heap.size 26 #[.int .i64 k, .int .i64 n, .string s, .slice A l1 a, .slice B l2 b] ∧ Box wx (w.heap.size + 1) 26 #[.int .i64 k2, .int .i64 n2, .string s2, .slice A2 l3 a2, .slice B2 l4 b2])
        case first =>
          go_wp2_with fail
          go_meet
          exact ⟨rfl, chain HB4.out (below1 _ _), HX4.out.alloc _, HY4.out.alloc _⟩
        case rest =>
          obtain ⟨rfl, hb5, hx5, hy5⟩ := hcut
          have HB5 := Lib.hid hb5
          have HX5 := Lib.hid hx5
          have HY5 := Lib.hid hy5
          have hbn3 := Lib.hid (hbn2.out j)
          clear hb5 hx5 hy5 HB4 HX4 HY4 hbt hbn2
          generalize cmpB j q = bb at hbn3 ⊢
          go_upto_region 6 with fail
          go_cut [10, 11] (fun t10 t11 wx => t11 = .int .i64 0 ∧ ∃ (g : Nat) (c : List Value), t10 = .pointer (some ⟨g, 0, none⟩) ∧ Box wx g 26 c.toArray ∧ Lies wx (· < wx.heap.size) (boolV bb) c ∧ Below w.heap.size w wx)
          case first =>
            obtain ⟨t0, t1, t2, t3, t4⟩ := box5 HX5.out
            obtain ⟨y0, y1, y2, y3, y4⟩ := box5 HY5.out
            have keepS : Hid (∀ X, Below wc.heap.size wc X → (fun w' : World => w'.cell? ⟨w.heap.size, 0, none⟩ = some (.int .i64 k) ∧ w'.cell? ⟨w.heap.size, 1, none⟩ = some (.int .i64 n) ∧ w'.cell? ⟨w.heap.size, 2, none⟩ = some (.string s) ∧ w'.cell? ⟨w.heap.size, 3, none⟩ = some (.slice A l1 a) ∧ w'.cell? ⟨w.heap.size, 4, none⟩ = some (.slice B l2 b) ∧ w'.cell? ⟨w.heap.size + 1, 0, none⟩ = some (.int .i64 k2) ∧ w'.cell? ⟨w.heap.size + 1, 1, none⟩ = some (.int .i64 n2) ∧ w'.cell? ⟨w.heap.size + 1, 2, none⟩ = some (.string s2) ∧ w'.cell? ⟨w.heap.size + 1, 3, none⟩ = some (.slice A2 l3 a2) ∧ w'.cell? ⟨w.heap.size + 1, 4, none⟩ = some (.slice B2 l4 b2)) X) := Lib.hid fun X hX => by
              obtain ⟨t0, t1, t2, t3, t4⟩ := box5 (HX5.out.below hX HX5.out.lt)
              obtain ⟨y0, y1, y2, y3, y4⟩ := box5 (HY5.out.below hX HY5.out.lt)
              exact ⟨t0, t1, t2, t3, t4, y0, y1, y2, y3, y4⟩
            have hst2 : (#[Value.string ⟨#[61, 61]⟩, Value.string ⟨#[33, 61]⟩, Value.string ⟨#[60]⟩, Value.string ⟨#[60, 61]⟩, Value.string ⟨#[62]⟩, Value.string ⟨#[62, 61]⟩] : Array Value)[j]? = some (.string (cmpOp j)) := by
              rcases (by omega : j = 0 ∨ j = 1 ∨ j = 2 ∨ j = 3 ∨ j = 4 ∨ j = 5) with rfl | rfl | rfl | rfl | rfl | rfl <;> simp [cmpOp]
            have kA : Hid (Below wc.heap.size wc (wc.alloc (Obj.cells #[.string ⟨#[61, 61]⟩, .string ⟨#[33, 61]⟩, .string ⟨#[60]⟩, .string ⟨#[60, 61]⟩, .string ⟨#[62]⟩, .string ⟨#[62, 61]⟩] 9)).drew) := Lib.hid (below_drw (below1 _ _))
            have kB : Hid (Below wc.heap.size wc ((wc.alloc (Obj.cells #[.string ⟨#[61, 61]⟩, .string ⟨#[33, 61]⟩, .string ⟨#[60]⟩, .string ⟨#[60, 61]⟩, .string ⟨#[62]⟩, .string ⟨#[62, 61]⟩] 9)).alloc (Obj.cells #[.int .i64 0, .int .i64 0, .string ⟨#[]⟩, .slice none 0 0, .slice none 0 0] 26)).drew) := Lib.hid (below_drw (chain (below1 _ _) (below1 _ _)))
            have kC : Hid (Below wc.heap.size wc ((wc.alloc (Obj.cells #[.int .i64 0, .int .i64 0, .string ⟨#[]⟩, .slice none 0 0, .slice none 0 0] 26)).alloc (Obj.cells #[.string ⟨#[61, 61]⟩, .string ⟨#[33, 61]⟩, .string ⟨#[60]⟩, .string ⟨#[60, 61]⟩, .string ⟨#[62]⟩, .string ⟨#[62, 61]⟩] 9)).drew) := Lib.hid (below_drw (chain (below1 _ _) (below1 _ _)))
            have kD : Hid (Below wc.heap.size wc (wc.alloc (Obj.cells #[.int .i64 0, .int .i64 0, .string ⟨#[]⟩, .slice none 0 0, .slice none 0 0] 26)).drew) := Lib.hid (below_drw (below1 _ _))
            have bA : Hid (Box (wc.alloc (Obj.cells #[.string ⟨#[61, 61]⟩, .string ⟨#[33, 61]⟩, .string ⟨#[60]⟩, .string ⟨#[60, 61]⟩, .string ⟨#[62]⟩, .string ⟨#[62, 61]⟩] 9)).drew wc.heap.size 9 #[.string ⟨#[61, 61]⟩, .string ⟨#[33, 61]⟩, .string ⟨#[60]⟩, .string ⟨#[60, 61]⟩, .string ⟨#[62]⟩, .string ⟨#[62, 61]⟩]) := Lib.hid ((Box.laid _ _ _).drewN 1)
            have bB : Hid (Box ((wc.alloc (Obj.cells #[.string ⟨#[61, 61]⟩, .string ⟨#[33, 61]⟩, .string ⟨#[60]⟩, .string ⟨#[60, 61]⟩, .string ⟨#[62]⟩, .string ⟨#[62, 61]⟩] 9)).alloc (Obj.cells #[.int .i64 0, .int .i64 0, .string ⟨#[]⟩, .slice none 0 0, .slice none 0 0] 26)).drew wc.heap.size 9 #[.string ⟨#[61, 61]⟩, .string ⟨#[33, 61]⟩, .string ⟨#[60]⟩, .string ⟨#[60, 61]⟩, .string ⟨#[62]⟩, .string ⟨#[62, 61]⟩]) := Lib.hid (((Box.laid _ _ _).alloc _).drewN 1)
            have bC : Hid (Box ((wc.alloc (Obj.cells #[.int .i64 0, .int .i64 0, .string ⟨#[]⟩, .slice none 0 0, .slice none 0 0] 26)).alloc (Obj.cells #[.string ⟨#[61, 61]⟩, .string ⟨#[33, 61]⟩, .string ⟨#[60]⟩, .string ⟨#[60, 61]⟩, .string ⟨#[62]⟩, .string ⟨#[62, 61]⟩] 9)).drew (wc.heap.size + 1) 9 #[.string ⟨#[61, 61]⟩, .string ⟨#[33, 61]⟩, .string ⟨#[60]⟩, .string ⟨#[60, 61]⟩, .string ⟨#[62]⟩, .string ⟨#[62, 61]⟩]) := Lib.hid ((box_at _ _ _ _ (by simp)).drewN 1)
            have zB : Hid (Box ((wc.alloc (Obj.cells #[.string ⟨#[61, 61]⟩, .string ⟨#[33, 61]⟩, .string ⟨#[60]⟩, .string ⟨#[60, 61]⟩, .string ⟨#[62]⟩, .string ⟨#[62, 61]⟩] 9)).alloc (Obj.cells #[.int .i64 0, .int .i64 0, .string ⟨#[]⟩, .slice none 0 0, .slice none 0 0] 26)).drew (wc.heap.size + 1) 26 #[.int .i64 0, .int .i64 0, .string ⟨#[]⟩, .slice none 0 0, .slice none 0 0]) := Lib.hid ((box_at _ _ _ _ (by simp)).drewN 1)
            have zC : Hid (Box ((wc.alloc (Obj.cells #[.int .i64 0, .int .i64 0, .string ⟨#[]⟩, .slice none 0 0, .slice none 0 0] 26)).alloc (Obj.cells #[.string ⟨#[61, 61]⟩, .string ⟨#[33, 61]⟩, .string ⟨#[60]⟩, .string ⟨#[60, 61]⟩, .string ⟨#[62]⟩, .string ⟨#[62, 61]⟩] 9)).drew wc.heap.size 26 #[.int .i64 0, .int .i64 0, .string ⟨#[]⟩, .slice none 0 0, .slice none 0 0]) := Lib.hid (((Box.laid _ _ _).alloc _).drewN 1)
            have cA := Lib.hid (hbn3.out _ (chain HB5.out kA.out))
            have cB := Lib.hid (hbn3.out _ (chain HB5.out kB.out))
            have cC := Lib.hid (hbn3.out _ (chain HB5.out kC.out))
            clear hst haw hbl hbn3 t0 t1 t2 t3 t4 y0 y1 y2 y3 y4
            refine wp_region_noPanic ?_
            refine wp_region_held_drew (S := fun w' => w'.cell? ⟨w.heap.size, 0, none⟩ = some (.int .i64 k) ∧ w'.cell? ⟨w.heap.size, 1, none⟩ = some (.int .i64 n) ∧ w'.cell? ⟨w.heap.size, 2, none⟩ = some (.string s) ∧ w'.cell? ⟨w.heap.size, 3, none⟩ = some (.slice A l1 a) ∧ w'.cell? ⟨w.heap.size, 4, none⟩ = some (.slice B l2 b) ∧ w'.cell? ⟨w.heap.size + 1, 0, none⟩ = some (.int .i64 k2) ∧ w'.cell? ⟨w.heap.size + 1, 1, none⟩ = some (.int .i64 n2) ∧ w'.cell? ⟨w.heap.size + 1, 2, none⟩ = some (.string s2) ∧ w'.cell? ⟨w.heap.size + 1, 3, none⟩ = some (.slice A2 l3 a2) ∧ w'.cell? ⟨w.heap.size + 1, 4, none⟩ = some (.slice B2 l4 b2)) (by kernel_rfl) (keepS.out _ (below_drw (Below.refl _ _))) (fun hHeld => ?_)
            refine wpAnyH_take (i := 1) (oi := { dst := some 51, op := Op.move (Operand.tmp 8), type := 3, pos := "law.go:134", after := #[], guard := none }) (v := ?_) rfl (by kernel_rfl) (by kernel_rfl) (by kernel_rfl) (fun _ _ _ h => h) (Or.inl ⟨by rfl, ?ytk1⟩) (by assumption) ?_
            case ytk1 => (intro w hSw; (try dsimp only at hSw); go_simp <;> with_reducible rfl)
            try simp only [Act.put, List.setIfInBounds_toArray, List.set_cons_zero, List.set_cons_succ]
            refine wpAnyH_take (i := 4) (oi := { dst := some 54, op := Op.load 26 (Operand.tmp 3), type := 26, pos := "law.go:134", after := #[], guard := none }) (v := ?_) rfl (by kernel_rfl) (by kernel_rfl) (by kernel_rfl) (fun _ _ _ h => h) (Or.inl ⟨by rfl, ?ytk2⟩) (by assumption) ?_
            case ytk2 => (intro w hSw; (try dsimp only at hSw); go_simp <;> with_reducible rfl)
            try simp only [Act.put, List.setIfInBounds_toArray, List.set_cons_zero, List.set_cons_succ]
            refine wpAnyH_take (i := 5) (oi := { dst := some 55, op := Op.load 26 (Operand.tmp 4), type := 26, pos := "law.go:134", after := #[], guard := none }) (v := ?_) rfl (by kernel_rfl) (by kernel_rfl) (by kernel_rfl) (fun _ _ _ h => h) (Or.inl ⟨by rfl, ?ytk3⟩) (by assumption) ?_
            case ytk3 => (intro w hSw; (try dsimp only at hSw); go_simp <;> with_reducible rfl)
            try simp only [Act.put, List.setIfInBounds_toArray, List.set_cons_zero, List.set_cons_succ]
            refine wpAnyH_ready (rs := [0, 10]) (by kernel_rfl) (by simp) ?_
            refine AllReadyH.cons (o := { dst := some 50, op := Op.buildSlice 23 6 #[(0, Operand.const (Value.string { data := #[61, 61] })), (1, Operand.const (Value.string { data := #[33, 61] })), (2, Operand.const (Value.string { data := #[60] })), (3, Operand.const (Value.string { data := #[60, 61] })), (4, Operand.const (Value.string { data := #[62] })), (5, Operand.const (Value.string { data := #[62, 61] }))], type := 23, pos := "law.go:134", after := #[], guard := none }) rfl (fun K hK => ?_) (AllReadyH.cons (o := { dst := some 10, op := Op.alloc 26, type := 0, pos := "law.go:134", after := #[], guard := none }) rfl (fun K hK => ?_) (AllReadyH.nil))
            · skip
              go_simp
              refine hK.out _ _ (keepS.out _ kA.out) (fun hHeld => ?_)
              clear hK K
              try simp only [Act.put, List.setIfInBounds_toArray, List.set_cons_zero, List.set_cons_succ]
              refine wpAnyH_weaken (S' := fun w' => (w'.cell? ⟨w.heap.size, 0, none⟩ = some (.int .i64 k) ∧ w'.cell? ⟨w.heap.size, 1, none⟩ = some (.int .i64 n) ∧ w'.cell? ⟨w.heap.size, 2, none⟩ = some (.string s) ∧ w'.cell? ⟨w.heap.size, 3, none⟩ = some (.slice A l1 a) ∧ w'.cell? ⟨w.heap.size, 4, none⟩ = some (.slice B l2 b) ∧ w'.cell? ⟨w.heap.size + 1, 0, none⟩ = some (.int .i64 k2) ∧ w'.cell? ⟨w.heap.size + 1, 1, none⟩ = some (.int .i64 n2) ∧ w'.cell? ⟨w.heap.size + 1, 2, none⟩ = some (.string s2) ∧ w'.cell? ⟨w.heap.size + 1, 3, none⟩ = some (.slice A2 l3 a2) ∧ w'.cell? ⟨w.heap.size + 1, 4, none⟩ = some (.slice B2 l4 b2)) ∧ w'.cell? ⟨wc.heap.size, j, none⟩ = some (.string (cmpOp j))) (fun w h => h.1) _ _ _ _ ?_
              have hHeld2 : (fun w' : World => (w'.cell? ⟨w.heap.size, 0, none⟩ = some (.int .i64 k) ∧ w'.cell? ⟨w.heap.size, 1, none⟩ = some (.int .i64 n) ∧ w'.cell? ⟨w.heap.size, 2, none⟩ = some (.string s) ∧ w'.cell? ⟨w.heap.size, 3, none⟩ = some (.slice A l1 a) ∧ w'.cell? ⟨w.heap.size, 4, none⟩ = some (.slice B l2 b) ∧ w'.cell? ⟨w.heap.size + 1, 0, none⟩ = some (.int .i64 k2) ∧ w'.cell? ⟨w.heap.size + 1, 1, none⟩ = some (.int .i64 n2) ∧ w'.cell? ⟨w.heap.size + 1, 2, none⟩ = some (.string s2) ∧ w'.cell? ⟨w.heap.size + 1, 3, none⟩ = some (.slice A2 l3 a2) ∧ w'.cell? ⟨w.heap.size + 1, 4, none⟩ = some (.slice B2 l4 b2)) ∧ w'.cell? ⟨wc.heap.size, j, none⟩ = some (.string (cmpOp j))) _ := ⟨hHeld, bA.out.cell hst2⟩
              clear hHeld
              refine wpAnyH_take (i := 2) (oi := { dst := some 52, op := Op.indexAddr 23 (Operand.tmp 50) (Operand.tmp 51), type := 0, pos := "law.go:134", after := #[{ on := 0, ground := Ground.data }, { on := 1, ground := Ground.data }], guard := none }) (v := ?_) rfl (by kernel_rfl) (by kernel_rfl) (by kernel_rfl) (fun _ _ _ h => h) (Or.inl ⟨by rfl, ?ytk4⟩) (by assumption) ?_
              case ytk4 => (intro w hSw; (try dsimp only at hSw); go_simp <;> with_reducible rfl)
              try simp only [Act.put, List.setIfInBounds_toArray, List.set_cons_zero, List.set_cons_succ]
              refine wpAnyH_take (i := 3) (oi := { dst := some 53, op := Op.load 9 (Operand.tmp 52), type := 9, pos := "law.go:134", after := #[{ on := 2, ground := Ground.data }], guard := none }) (v := ?_) rfl (by kernel_rfl) (by kernel_rfl) (by kernel_rfl) (fun _ _ _ h => h) (Or.inl ⟨by rfl, ?ytk5⟩) (by assumption) ?_
              case ytk5 => (intro w hSw; (try dsimp only at hSw); go_simp <;> with_reducible rfl)
              try simp only [Act.put, List.setIfInBounds_toArray, List.set_cons_zero, List.set_cons_succ]
              refine wpAnyH_ready (rs := [6, 10]) (by kernel_rfl) (by simp) ?_
              refine AllReadyH.cons (o := { dst := some 56, op := Op.call { callee := Callee.value (Operand.func 18), args := #[Operand.tmp 53, Operand.tmp 54, Operand.tmp 55], argTypes := #[9, 26, 26] }, type := 35, pos := "law.go:134", after := #[{ on := 3, ground := Ground.data }, { on := 4, ground := Ground.data }, { on := 5, ground := Ground.data }], guard := none }) rfl (fun K hK => ?_) (AllReadyH.cons (o := { dst := some 10, op := Op.alloc 26, type := 0, pos := "law.go:134", after := #[], guard := none }) rfl (fun K hK => ?_) (AllReadyH.nil))
              · skip
                go_simp
                refine (cA.out).mono ?_
                rintro e6 w6 ⟨rk, rn, rs, rks, res, RA, ra, RC, rc, hrv, rfl, hb6', hl6⟩
                have hb6 := chain kA.out hb6'
                have bq := bA.out.below hb6' bA.out.lt
                go_wp2_with fail
                refine hK.out _ _ (⟨keepS.out _ hb6, bq.cell hst2⟩) (fun hHeld => ?_)
                clear hK K
                try simp only [Act.put, List.setIfInBounds_toArray, List.set_cons_zero, List.set_cons_succ]
                refine wpAnyH_take (i := 7) (oi := { dst := some 49, op := Op.move (Operand.tmp 56), type := 35, pos := "law.go:134", after := #[{ on := 6, ground := Ground.data }], guard := none }) (v := ?_) rfl (by kernel_rfl) (by kernel_rfl) (by kernel_rfl) (fun _ _ _ h => h) (Or.inl ⟨by rfl, ?ytk6⟩) (by assumption) ?_
                case ytk6 => (intro w hSw; (try dsimp only at hSw); go_simp <;> with_reducible rfl)
                try simp only [Act.put, List.setIfInBounds_toArray, List.set_cons_zero, List.set_cons_succ]
                refine wpAnyH_take (i := 8) (oi := { dst := some 57, op := Op.extract (Operand.tmp 49) 0, type := 26, pos := "law.go:134", after := #[{ on := 7, ground := Ground.data }], guard := none }) (v := ?_) rfl (by kernel_rfl) (by kernel_rfl) (by kernel_rfl) (fun _ _ _ h => h) (Or.inl ⟨by rfl, ?ytk7⟩) (by assumption) ?_
                case ytk7 => (intro w hSw; (try dsimp only at hSw); go_simp <;> with_reducible rfl)
                try simp only [Act.put, List.setIfInBounds_toArray, List.set_cons_zero, List.set_cons_succ]
                refine wpAnyH_take (i := 9) (oi := { dst := some 58, op := Op.extract (Operand.tmp 49) 1, type := 27, pos := "law.go:134", after := #[{ on := 7, ground := Ground.data }, { on := 11, ground := Ground.gcOnly Departure.lateStores }], guard := none }) (v := ?_) rfl (by kernel_rfl) (by kernel_rfl) (by kernel_rfl) (fun _ _ _ h => h) (Or.inl ⟨by rfl, ?ytk8⟩) (by assumption) ?_
                case ytk8 => (intro w hSw; (try dsimp only at hSw); go_simp <;> with_reducible rfl)
                try simp only [Act.put, List.setIfInBounds_toArray, List.set_cons_zero, List.set_cons_succ]
                refine wpAnyH_ready (rs := [10]) (by kernel_rfl) (by simp) ?_
                refine AllReadyH.cons (o := { dst := some 10, op := Op.alloc 26, type := 0, pos := "law.go:134", after := #[], guard := none }) rfl (fun K hK => ?_) (AllReadyH.nil)
                go_simp
                refine hK.out _ _ (⟨keepS.out _ (chain hb6 (below1 _ _)), (bq.alloc _).cell hst2⟩) (fun hHeld => ?_)
                clear hK K
                try simp only [Act.put, List.setIfInBounds_toArray, List.set_cons_zero, List.set_cons_succ]
                refine wpAnyH_ready (rs := [11]) (by kernel_rfl) (by simp) ?_
                refine AllReadyH.cons (o := { dst := none, op := Op.store 26 (Operand.tmp 10) (Operand.tmp 57), type := 0, pos := "law.go:134", after := #[{ on := 10, ground := Ground.data }, { on := 8, ground := Ground.data }, { on := 6, ground := Ground.chain }, { on := 0, ground := Ground.phase }, { on := 1, ground := Ground.phase }, { on := 2, ground := Ground.phase }, { on := 3, ground := Ground.phase }, { on := 4, ground := Ground.phase }, { on := 5, ground := Ground.phase }, { on := 6, ground := Ground.phase }, { on := 7, ground := Ground.phase }, { on := 8, ground := Ground.phase }, { on := 9, ground := Ground.textOnly Departure.lateStores }, { on := 10, ground := Ground.phase }], guard := none }) rfl (fun K hK => ?_) (AllReadyH.nil)
                go_simp
                refine hK.out _ _ (⟨keepS.out _ (chain hb6 (below1 _ _)), (bq.alloc _).cell hst2⟩) (fun hHeld => ?_)
                clear hK K
                try simp only [Act.put, List.setIfInBounds_toArray, List.set_cons_zero, List.set_cons_succ]
                refine wpAnyH_take (i := 12) (oi := { dst := some 11, op := Op.assign (Operand.tmp 58), type := 27, pos := "law.go:134", after := #[{ on := 9, ground := Ground.data }, { on := 11, ground := Ground.chain }, { on := 0, ground := Ground.phase }, { on := 1, ground := Ground.phase }, { on := 2, ground := Ground.phase }, { on := 3, ground := Ground.phase }, { on := 4, ground := Ground.phase }, { on := 5, ground := Ground.phase }, { on := 6, ground := Ground.phase }, { on := 7, ground := Ground.phase }, { on := 8, ground := Ground.phase }, { on := 9, ground := Ground.phase }, { on := 10, ground := Ground.phase }, { on := 11, ground := Ground.phase }], guard := none }) (v := ?_) rfl (by kernel_rfl) (by kernel_rfl) (by kernel_rfl) (fun _ _ _ h => h) (Or.inl ⟨by rfl, ?ytk9⟩) (by assumption) ?_
                case ytk9 => (intro w hSw; (try dsimp only at hSw); go_simp <;> with_reducible rfl)
                try simp only [Act.put, List.setIfInBounds_toArray, List.set_cons_zero, List.set_cons_succ]
                refine wpAnyH_done (by kernel_rfl) ?_ _
                refine NoPanic.normal ?_
                go_wp2_with fail
                go_meet
                exact ⟨rfl, w6.heap.size, [.int .i64 rk, .int .i64 rn, .string rs, .slice RA rks.length ra, .slice RC res.length rc], rfl, Box.laid _ _ _, below_lies (below1 _ _) (hl6.move fun b hb => ⟨hb.2, rfl⟩), chain HB5.out (chain hb6 (below1 _ _))⟩
              · skip
                go_simp
                refine hK.out _ _ (⟨keepS.out _ kB.out, bB.out.cell hst2⟩) (fun hHeld => ?_)
                clear hK K
                try simp only [Act.put, List.setIfInBounds_toArray, List.set_cons_zero, List.set_cons_succ]
                refine wpAnyH_ready (rs := [6]) (by kernel_rfl) (by simp) ?_
                refine AllReadyH.cons (o := { dst := some 56, op := Op.call { callee := Callee.value (Operand.func 18), args := #[Operand.tmp 53, Operand.tmp 54, Operand.tmp 55], argTypes := #[9, 26, 26] }, type := 35, pos := "law.go:134", after := #[{ on := 3, ground := Ground.data }, { on := 4, ground := Ground.data }, { on := 5, ground := Ground.data }], guard := none }) rfl (fun K hK => ?_) (AllReadyH.nil)
                go_simp
                refine (cB.out).mono ?_
                rintro e6 w6 ⟨rk, rn, rs, rks, res, RA, ra, RC, rc, hrv, rfl, hb6', hl6⟩
                have hb6 := chain kB.out hb6'
                have bq := bB.out.below hb6' bB.out.lt
                have zb5 := zB.out.below hb6' zB.out.lt
                obtain ⟨r0, r1, r2, r3, r4⟩ := box5 zb5
                have z0 := zb5.free 0
                have z1 := zb5.free 1
                have z2 := zb5.free 2
                have z3 := zb5.free 3
                have z4 := zb5.free 4
                go_wp2_with fail
                refine hK.out _ _ (⟨keepS.out _ hb6, bq.cell hst2⟩) (fun hHeld => ?_)
                clear hK K
                try simp only [Act.put, List.setIfInBounds_toArray, List.set_cons_zero, List.set_cons_succ]
                refine wpAnyH_take (i := 7) (oi := { dst := some 49, op := Op.move (Operand.tmp 56), type := 35, pos := "law.go:134", after := #[{ on := 6, ground := Ground.data }], guard := none }) (v := ?_) rfl (by kernel_rfl) (by kernel_rfl) (by kernel_rfl) (fun _ _ _ h => h) (Or.inl ⟨by rfl, ?ytk10⟩) (by assumption) ?_
                case ytk10 => (intro w hSw; (try dsimp only at hSw); go_simp <;> with_reducible rfl)
                try simp only [Act.put, List.setIfInBounds_toArray, List.set_cons_zero, List.set_cons_succ]
                refine wpAnyH_take (i := 8) (oi := { dst := some 57, op := Op.extract (Operand.tmp 49) 0, type := 26, pos := "law.go:134", after := #[{ on := 7, ground := Ground.data }], guard := none }) (v := ?_) rfl (by kernel_rfl) (by kernel_rfl) (by kernel_rfl) (fun _ _ _ h => h) (Or.inl ⟨by rfl, ?ytk11⟩) (by assumption) ?_
                case ytk11 => (intro w hSw; (try dsimp only at hSw); go_simp <;> with_reducible rfl)
                try simp only [Act.put, List.setIfInBounds_toArray, List.set_cons_zero, List.set_cons_succ]
                refine wpAnyH_take (i := 9) (oi := { dst := some 58, op := Op.extract (Operand.tmp 49) 1, type := 27, pos := "law.go:134", after := #[{ on := 7, ground := Ground.data }, { on := 11, ground := Ground.gcOnly Departure.lateStores }], guard := none }) (v := ?_) rfl (by kernel_rfl) (by kernel_rfl) (by kernel_rfl) (fun _ _ _ h => h) (Or.inl ⟨by rfl, ?ytk12⟩) (by assumption) ?_
                case ytk12 => (intro w hSw; (try dsimp only at hSw); go_simp <;> with_reducible rfl)
                try simp only [Act.put, List.setIfInBounds_toArray, List.set_cons_zero, List.set_cons_succ]
                refine wpAnyH_ready (rs := [11]) (by kernel_rfl) (by simp) ?_
                refine AllReadyH.cons (o := { dst := none, op := Op.store 26 (Operand.tmp 10) (Operand.tmp 57), type := 0, pos := "law.go:134", after := #[{ on := 10, ground := Ground.data }, { on := 8, ground := Ground.data }, { on := 6, ground := Ground.chain }, { on := 0, ground := Ground.phase }, { on := 1, ground := Ground.phase }, { on := 2, ground := Ground.phase }, { on := 3, ground := Ground.phase }, { on := 4, ground := Ground.phase }, { on := 5, ground := Ground.phase }, { on := 6, ground := Ground.phase }, { on := 7, ground := Ground.phase }, { on := 8, ground := Ground.phase }, { on := 9, ground := Ground.textOnly Departure.lateStores }, { on := 10, ground := Ground.phase }], guard := none }) rfl (fun K hK => ?_) (AllReadyH.nil)
                go_simp
                refine hK.out _ _ (⟨keepS.out _ (below_five_at (Nat.le_add_right _ _) hb6 _ _ _ _ _), (far5c bq (by simp) _ _ _ _ _).cell hst2⟩) (fun hHeld => ?_)
                clear hK K
                try simp only [Act.put, List.setIfInBounds_toArray, List.set_cons_zero, List.set_cons_succ]
                refine wpAnyH_take (i := 12) (oi := { dst := some 11, op := Op.assign (Operand.tmp 58), type := 27, pos := "law.go:134", after := #[{ on := 9, ground := Ground.data }, { on := 11, ground := Ground.chain }, { on := 0, ground := Ground.phase }, { on := 1, ground := Ground.phase }, { on := 2, ground := Ground.phase }, { on := 3, ground := Ground.phase }, { on := 4, ground := Ground.phase }, { on := 5, ground := Ground.phase }, { on := 6, ground := Ground.phase }, { on := 7, ground := Ground.phase }, { on := 8, ground := Ground.phase }, { on := 9, ground := Ground.phase }, { on := 10, ground := Ground.phase }, { on := 11, ground := Ground.phase }], guard := none }) (v := ?_) rfl (by kernel_rfl) (by kernel_rfl) (by kernel_rfl) (fun _ _ _ h => h) (Or.inl ⟨by rfl, ?ytk13⟩) (by assumption) ?_
                case ytk13 => (intro w hSw; (try dsimp only at hSw); go_simp <;> with_reducible rfl)
                try simp only [Act.put, List.setIfInBounds_toArray, List.set_cons_zero, List.set_cons_succ]
                refine wpAnyH_done (by kernel_rfl) ?_ _
                refine NoPanic.normal ?_
                go_wp2_with fail
                go_meet
                exact ⟨rfl, wc.heap.size + 1, [.int .i64 rk, .int .i64 rn, .string rs, .slice RA rks.length ra, .slice RC res.length rc], rfl, box_put5 zb5 _ _ _ _ _, put5_lies _ _ _ _ _ (hl6.move fun b hb => ⟨⟨hb.2, by have := hb.1; simp at this; omega⟩, rfl⟩), chain HB5.out (below_five_at (Nat.le_add_right _ _) hb6 _ _ _ _ _)⟩
            · skip
              go_simp
              refine hK.out _ _ (keepS.out _ kD.out) (fun hHeld => ?_)
              clear hK K
              try simp only [Act.put, List.setIfInBounds_toArray, List.set_cons_zero, List.set_cons_succ]
              refine wpAnyH_ready (rs := [0]) (by kernel_rfl) (by simp) ?_
              refine AllReadyH.cons (o := { dst := some 50, op := Op.buildSlice 23 6 #[(0, Operand.const (Value.string { data := #[61, 61] })), (1, Operand.const (Value.string { data := #[33, 61] })), (2, Operand.const (Value.string { data := #[60] })), (3, Operand.const (Value.string { data := #[60, 61] })), (4, Operand.const (Value.string { data := #[62] })), (5, Operand.const (Value.string { data := #[62, 61] }))], type := 23, pos := "law.go:134", after := #[], guard := none }) rfl (fun K hK => ?_) (AllReadyH.nil)
              go_simp
              refine hK.out _ _ (keepS.out _ kC.out) (fun hHeld => ?_)
              clear hK K
              try simp only [Act.put, List.setIfInBounds_toArray, List.set_cons_zero, List.set_cons_succ]
              refine wpAnyH_weaken (S' := fun w' => (w'.cell? ⟨w.heap.size, 0, none⟩ = some (.int .i64 k) ∧ w'.cell? ⟨w.heap.size, 1, none⟩ = some (.int .i64 n) ∧ w'.cell? ⟨w.heap.size, 2, none⟩ = some (.string s) ∧ w'.cell? ⟨w.heap.size, 3, none⟩ = some (.slice A l1 a) ∧ w'.cell? ⟨w.heap.size, 4, none⟩ = some (.slice B l2 b) ∧ w'.cell? ⟨w.heap.size + 1, 0, none⟩ = some (.int .i64 k2) ∧ w'.cell? ⟨w.heap.size + 1, 1, none⟩ = some (.int .i64 n2) ∧ w'.cell? ⟨w.heap.size + 1, 2, none⟩ = some (.string s2) ∧ w'.cell? ⟨w.heap.size + 1, 3, none⟩ = some (.slice A2 l3 a2) ∧ w'.cell? ⟨w.heap.size + 1, 4, none⟩ = some (.slice B2 l4 b2)) ∧ w'.cell? ⟨wc.heap.size + 1, j, none⟩ = some (.string (cmpOp j))) (fun w h => h.1) _ _ _ _ ?_
              have hHeld2 : (fun w' : World => (w'.cell? ⟨w.heap.size, 0, none⟩ = some (.int .i64 k) ∧ w'.cell? ⟨w.heap.size, 1, none⟩ = some (.int .i64 n) ∧ w'.cell? ⟨w.heap.size, 2, none⟩ = some (.string s) ∧ w'.cell? ⟨w.heap.size, 3, none⟩ = some (.slice A l1 a) ∧ w'.cell? ⟨w.heap.size, 4, none⟩ = some (.slice B l2 b) ∧ w'.cell? ⟨w.heap.size + 1, 0, none⟩ = some (.int .i64 k2) ∧ w'.cell? ⟨w.heap.size + 1, 1, none⟩ = some (.int .i64 n2) ∧ w'.cell? ⟨w.heap.size + 1, 2, none⟩ = some (.string s2) ∧ w'.cell? ⟨w.heap.size + 1, 3, none⟩ = some (.slice A2 l3 a2) ∧ w'.cell? ⟨w.heap.size + 1, 4, none⟩ = some (.slice B2 l4 b2)) ∧ w'.cell? ⟨wc.heap.size + 1, j, none⟩ = some (.string (cmpOp j))) _ := ⟨hHeld, bC.out.cell hst2⟩
              clear hHeld
              refine wpAnyH_take (i := 2) (oi := { dst := some 52, op := Op.indexAddr 23 (Operand.tmp 50) (Operand.tmp 51), type := 0, pos := "law.go:134", after := #[{ on := 0, ground := Ground.data }, { on := 1, ground := Ground.data }], guard := none }) (v := ?_) rfl (by kernel_rfl) (by kernel_rfl) (by kernel_rfl) (fun _ _ _ h => h) (Or.inl ⟨by rfl, ?ytk14⟩) (by assumption) ?_
              case ytk14 => (intro w hSw; (try dsimp only at hSw); go_simp <;> with_reducible rfl)
              try simp only [Act.put, List.setIfInBounds_toArray, List.set_cons_zero, List.set_cons_succ]
              refine wpAnyH_take (i := 3) (oi := { dst := some 53, op := Op.load 9 (Operand.tmp 52), type := 9, pos := "law.go:134", after := #[{ on := 2, ground := Ground.data }], guard := none }) (v := ?_) rfl (by kernel_rfl) (by kernel_rfl) (by kernel_rfl) (fun _ _ _ h => h) (Or.inl ⟨by rfl, ?ytk15⟩) (by assumption) ?_
              case ytk15 => (intro w hSw; (try dsimp only at hSw); go_simp <;> with_reducible rfl)
              try simp only [Act.put, List.setIfInBounds_toArray, List.set_cons_zero, List.set_cons_succ]
              refine wpAnyH_ready (rs := [6]) (by kernel_rfl) (by simp) ?_
              refine AllReadyH.cons (o := { dst := some 56, op := Op.call { callee := Callee.value (Operand.func 18), args := #[Operand.tmp 53, Operand.tmp 54, Operand.tmp 55], argTypes := #[9, 26, 26] }, type := 35, pos := "law.go:134", after := #[{ on := 3, ground := Ground.data }, { on := 4, ground := Ground.data }, { on := 5, ground := Ground.data }], guard := none }) rfl (fun K hK => ?_) (AllReadyH.nil)
              go_simp
              refine (cC.out).mono ?_
              rintro e6 w6 ⟨rk, rn, rs, rks, res, RA, ra, RC, rc, hrv, rfl, hb6', hl6⟩
              have hb6 := chain kC.out hb6'
              have bq := bC.out.below hb6' bC.out.lt
              have zb5 := zC.out.below hb6' zC.out.lt
              obtain ⟨r0, r1, r2, r3, r4⟩ := box5 zb5
              have z0 := zb5.free 0
              have z1 := zb5.free 1
              have z2 := zb5.free 2
              have z3 := zb5.free 3
              have z4 := zb5.free 4
              go_wp2_with fail
              refine hK.out _ _ (⟨keepS.out _ hb6, bq.cell hst2⟩) (fun hHeld => ?_)
              clear hK K
              try simp only [Act.put, List.setIfInBounds_toArray, List.set_cons_zero, List.set_cons_succ]
              refine wpAnyH_take (i := 7) (oi := { dst := some 49, op := Op.move (Operand.tmp 56), type := 35, pos := "law.go:134", after := #[{ on := 6, ground := Ground.data }], guard := none }) (v := ?_) rfl (by kernel_rfl) (by kernel_rfl) (by kernel_rfl) (fun _ _ _ h => h) (Or.inl ⟨by rfl, ?ytk16⟩) (by assumption) ?_
              case ytk16 => (intro w hSw; (try dsimp only at hSw); go_simp <;> with_reducible rfl)
              try simp only [Act.put, List.setIfInBounds_toArray, List.set_cons_zero, List.set_cons_succ]
              refine wpAnyH_take (i := 8) (oi := { dst := some 57, op := Op.extract (Operand.tmp 49) 0, type := 26, pos := "law.go:134", after := #[{ on := 7, ground := Ground.data }], guard := none }) (v := ?_) rfl (by kernel_rfl) (by kernel_rfl) (by kernel_rfl) (fun _ _ _ h => h) (Or.inl ⟨by rfl, ?ytk17⟩) (by assumption) ?_
              case ytk17 => (intro w hSw; (try dsimp only at hSw); go_simp <;> with_reducible rfl)
              try simp only [Act.put, List.setIfInBounds_toArray, List.set_cons_zero, List.set_cons_succ]
              refine wpAnyH_take (i := 9) (oi := { dst := some 58, op := Op.extract (Operand.tmp 49) 1, type := 27, pos := "law.go:134", after := #[{ on := 7, ground := Ground.data }, { on := 11, ground := Ground.gcOnly Departure.lateStores }], guard := none }) (v := ?_) rfl (by kernel_rfl) (by kernel_rfl) (by kernel_rfl) (fun _ _ _ h => h) (Or.inl ⟨by rfl, ?ytk18⟩) (by assumption) ?_
              case ytk18 => (intro w hSw; (try dsimp only at hSw); go_simp <;> with_reducible rfl)
              try simp only [Act.put, List.setIfInBounds_toArray, List.set_cons_zero, List.set_cons_succ]
              refine wpAnyH_ready (rs := [11]) (by kernel_rfl) (by simp) ?_
              refine AllReadyH.cons (o := { dst := none, op := Op.store 26 (Operand.tmp 10) (Operand.tmp 57), type := 0, pos := "law.go:134", after := #[{ on := 10, ground := Ground.data }, { on := 8, ground := Ground.data }, { on := 6, ground := Ground.chain }, { on := 0, ground := Ground.phase }, { on := 1, ground := Ground.phase }, { on := 2, ground := Ground.phase }, { on := 3, ground := Ground.phase }, { on := 4, ground := Ground.phase }, { on := 5, ground := Ground.phase }, { on := 6, ground := Ground.phase }, { on := 7, ground := Ground.phase }, { on := 8, ground := Ground.phase }, { on := 9, ground := Ground.textOnly Departure.lateStores }, { on := 10, ground := Ground.phase }], guard := none }) rfl (fun K hK => ?_) (AllReadyH.nil)
              go_simp
              refine hK.out _ _ (⟨keepS.out _ (below_five_at (Nat.le_refl _) hb6 _ _ _ _ _), (far5c bq (by simp) _ _ _ _ _).cell hst2⟩) (fun hHeld => ?_)
              clear hK K
              try simp only [Act.put, List.setIfInBounds_toArray, List.set_cons_zero, List.set_cons_succ]
              refine wpAnyH_take (i := 12) (oi := { dst := some 11, op := Op.assign (Operand.tmp 58), type := 27, pos := "law.go:134", after := #[{ on := 9, ground := Ground.data }, { on := 11, ground := Ground.chain }, { on := 0, ground := Ground.phase }, { on := 1, ground := Ground.phase }, { on := 2, ground := Ground.phase }, { on := 3, ground := Ground.phase }, { on := 4, ground := Ground.phase }, { on := 5, ground := Ground.phase }, { on := 6, ground := Ground.phase }, { on := 7, ground := Ground.phase }, { on := 8, ground := Ground.phase }, { on := 9, ground := Ground.phase }, { on := 10, ground := Ground.phase }, { on := 11, ground := Ground.phase }], guard := none }) (v := ?_) rfl (by kernel_rfl) (by kernel_rfl) (by kernel_rfl) (fun _ _ _ h => h) (Or.inl ⟨by rfl, ?ytk19⟩) (by assumption) ?_
              case ytk19 => (intro w hSw; (try dsimp only at hSw); go_simp <;> with_reducible rfl)
              try simp only [Act.put, List.setIfInBounds_toArray, List.set_cons_zero, List.set_cons_succ]
              refine wpAnyH_done (by kernel_rfl) ?_ _
              refine NoPanic.normal ?_
              go_wp2_with fail
              go_meet
              exact ⟨rfl, wc.heap.size, [.int .i64 rk, .int .i64 rn, .string rs, .slice RA rks.length ra, .slice RC res.length rc], rfl, box_put5 zb5 _ _ _ _ _, put5_lies _ _ _ _ _ (hl6.move fun b hb => ⟨⟨hb.2, by have := hb.1; simp at this; omega⟩, rfl⟩), chain HB5.out (below_five_at (Nat.le_refl _) hb6 _ _ _ _ _)⟩
          case rest =>
            obtain ⟨rfl, g, c, rfl, hbx, hlc, hB6⟩ := hcut
            obtain ⟨kk, hkk⟩ : ∃ kk : Int, kk = if bb = true then 2 else 1 := ⟨_, rfl⟩
            have HBl := Lib.hid (fun W => by have := hbl.out bb W; rw [← hkk] at this; exact this)
            have hb7 : boolV bb = .mk kk 0 ⟨#[]⟩ [] [] := by rw [hkk]; rfl
            rw [hb7] at hlc
            obtain ⟨A6, a6, B6, b6, xs6, rfl, -⟩ := lies_open hlc
            have HS := Lib.hid (fun u : Calm wc.heap.size wc => by have := same_any (.mk kk 0 ⟨#[]⟩ [] []) (.mk kk 0 ⟨#[]⟩ [] []) _ [.int .i64 kk, .int .i64 0, .string ⟨#[]⟩, .slice none 0 0, .slice none 0 0] u.val (calm_lies u hlc) (by rw [← hb7, hkk]; exact lies_boolv _ _ bb); rw [same_refl] at this; exact this)
            obtain ⟨r0, r1, r2, r3, r4⟩ := box5 hbx
            have f0 := fun u : Calm wc.heap.size wc => u.cell hbx.lt r0
            have f1 := fun u : Calm wc.heap.size wc => u.cell hbx.lt r1
            have f2 := fun u : Calm wc.heap.size wc => u.cell hbx.lt r2
            have f3 := fun u : Calm wc.heap.size wc => u.cell hbx.lt r3
            have f4 := fun u : Calm wc.heap.size wc => u.cell hbx.lt r4
            have hawc := Lib.hid (fun u : Calm wc.heap.size wc => haw.out u.val (chain hB6 u.below))
            have HB6 := Lib.hid hB6
            clear hbl haw hbn3 hB6 hlc hkk hb7 r0 r1 r2 r3 r4 hbx HX5 HY5 HB5
            go_wp2_with fail
            refine wp_region_calm (w0 := wc) (B := wc.heap.size) (by kernel_rfl) (by kernel_rfl) (Below.refl _ _) ?_
            repeat (go_big_quiet_step (first
              | (go_at_call 37; refine Calm.call (Nat.le_refl _) (HBl.out _))
              | (go_at_call 14; refine Calm.call (Nat.le_refl _) (HS.out _))
              | (go_at_call 16; with_reducible refine Calm.call (Nat.le_refl _) (hawc.out _))))
            refine wpQuiet_nil ?_
            intro _ hw'
            obtain ⟨u, rfl⟩ := hw'
            go_wp2_with fail
            go_ret
            exact ⟨rfl, chain HB6.out u.below⟩
end Go.Proofs.YtkohnkofnobakaaGreatDoor

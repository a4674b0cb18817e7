/- keep.Same and keep.Values: two values are the same. The order of values, plain. The program's add. -/
import Derived.Test.YtfmpdcmedaiooaaGreatDoorU10
import Derived.StillTailTactics
set_option linter.unusedVariables false
set_option linter.unusedSimpArgs false
namespace Go.Proofs.YtfmpdcmedaiooaaGreatDoor
open Go.RowKit
mutual
def same : V → V → Bool
  | .mk k n s ks es, .mk k' n' s' ks' es' => decide (k = k') && decide (n = n') && decide (s = s') && decide (ks = ks') && sameL es es'
def sameL : List V → List V → Bool
  | [], [] => true
  | e :: es, f :: fs => same e f && sameL es fs
  | [], _ :: _ => false
  | _ :: _, [] => false
end
theorem same_iff : ∀ v u : V, same v u = true ↔ v = u := by
  refine V.ind fun k n s ks es ih u => ?_
  cases u with
  | mk k' n' s' ks' es' =>
    have hL : ∀ fs, sameL es fs = true ↔ es = fs := by
      clear n n' s s' ks ks' es' k k'
      induction es with
      | nil => intro fs; cases fs <;> simp [sameL]
      | cons e es ihl =>
        intro fs
        cases fs with
        | nil => simp [sameL]
        | cons f fs =>
          rw [sameL, Bool.and_eq_true, ih e (by simp), ihl (fun x hx => ih x (by simp [hx])), List.cons.injEq]
    rw [same]
    simp [hL, and_assoc]
theorem sameL_iff : ∀ es fs : List V, sameL es fs = true ↔ es = fs
  | [], [] => by simp [sameL]
  | [], _ :: _ => by simp [sameL]
  | _ :: _, [] => by simp [sameL]
  | e :: es, f :: fs => by rw [sameL, Bool.and_eq_true, same_iff, sameL_iff es fs, List.cons.injEq]
theorem sameL_step {es fs : List V} {i : Nat} {x y : V} (hx : es[i]? = some x) (hy : fs[i]? = some y) : sameL (es.drop i) (fs.drop i) = (same x y && sameL (es.drop (i + 1)) (fs.drop (i + 1))) := by
  obtain ⟨h1, rfl⟩ := List.getElem?_eq_some_iff.1 hx
  obtain ⟨h2, rfl⟩ := List.getElem?_eq_some_iff.1 hy
  rw [List.drop_eq_getElem_cons h1, List.drop_eq_getElem_cons h2, sameL]
def SameOk (v : V) : Prop := ∀ (u : V) (cs ds : List Value) (w : World), Lies w (· < w.heap.size) v cs → Lies w (· < w.heap.size) u ds →
  Calls Tryz.prog 9 #[.agg cs.toArray, .agg ds.toArray] w fun e w' => e = .returned (.bool (same v u)) ∧ Below w.heap.size w w'
theorem below2 (w : World) (o p : Obj) : Below w.heap.size w ((w.alloc o).alloc p) := ((Below.refl _ _).alloc (Nat.le_refl _) o).alloc (by simp) p
set_option maxHeartbeats 1000000 in
set_option maxRecDepth 100000 in
theorem values_of (es fs : List V) (ih : ∀ e ∈ es, SameOk e) (A B : Option Addr) (a b : Nat) (xs ys : List Value) (w : World) (hA : Rs w (· < w.heap.size) A xs) (hL : LiesL w (· < w.heap.size) es xs) (hB : Rs w (· < w.heap.size) B ys) (hM : LiesL w (· < w.heap.size) fs ys)
    (hn : es.length ≤ 140737488355328) :
    Calls Tryz.prog 21 #[.slice A es.length a, .slice B fs.length b] w fun e w' => e = .returned (.bool (sameL es fs)) ∧ Below w.heap.size w w' := by
  have HA := Lib.hid hA
  have HB := Lib.hid hB
  have HL := Lib.hid hL
  have HM := Lib.hid hM
  have IH := Lib.hid ih
  clear hA hB hL hM ih
  by_cases hl : es.length = fs.length
  · have hbq : (((es.length : Nat) : Int) != ((fs.length : Nat) : Int)) = false := by simp [hl]
    have HE := Lib.hid hl
    clear hl
    go_enter Tryz.func21, Tryz.ntmps21
    go_wp2
    go_loopw [5] (fun t wr => ∃ i : Nat, i ≤ es.length ∧ t = .int .i64 i ∧ sameL es fs = sameL (es.drop i) (fs.drop i) ∧ Below w.heap.size w wr) (fun t _ => es.length - (intOf t).toNat)
    case atStart => exact ⟨0, Nat.zero_le _, rfl, rfl, Below.refl _ _⟩
    case round =>
      obtain ⟨i, hi, rfl, heq0, hbel⟩ := hrel
      have heq := Lib.hid heq0
      clear heq0
      by_cases hlt : i < es.length
      · have hltb : i < fs.length := by have := HE.out; omega
        obtain ⟨x, hx⟩ : ∃ x, es[i]? = some x := ⟨_, List.getElem?_eq_getElem hlt⟩
        obtain ⟨y, hy⟩ : ∃ y, fs[i]? = some y := ⟨_, List.getElem?_eq_getElem hltb⟩
        obtain ⟨b0, o0, v0, v1, v2, v3, v4, rfl, hb0, hle, c0, c1, c2, c3, c4⟩ := elem_cells HA.out HL.out hx
        obtain ⟨b1, o1, u0, u1, u2, u3, u4, rfl, hb1, hlf, d0, d1, d2, d3, d4⟩ := elem_cells HB.out HM.out hy
        have c0' := below_cell hbel hb0 c0
        have c1' := below_cell hbel hb0 c1
        have c2' := below_cell hbel hb0 c2
        have c3' := below_cell hbel hb0 c3
        have c4' := below_cell hbel hb0 c4
        have d0' := below_cell hbel hb1 d0
        have d1' := below_cell hbel hb1 d1
        have d2' := below_cell hbel hb1 d2
        have d3' := below_cell hbel hb1 d3
        have d4' := below_cell hbel hb1 d4
        clear c0 c1 c2 c3 c4 d0 d1 d2 d3 d4
        have hst := Lib.hid (heq.out.trans (sameL_step hx hy))
        have hcall := Lib.hid (fun W (hW : Below wr.heap.size wr W) => IH.out x (List.mem_of_getElem? hx) y [v0, v1, v2, v3, v4] [u0, u1, u2, u3, u4] W (below_lies (chain hbel hW) hle) (below_lies (chain hbel hW) hlf))
        have hi1 : (i : Int) < (es.length : Int) := by omega
        have hi2 : (i : Int) < (fs.length : Int) := by omega
        clear hle hlf hx hy
        cases hsm : same x y with
        | true =>
          rw [hsm] at hcall hst
          clear hsm
          go_wp2_with fail
          go_still_tail 8, (by kernel_rfl)
          change wpList _ _ _ _ _ wr.drew
          go_wp2_with fail
          refine (hcall.out _ ((Below.refl _ _).drew)).mono ?_
          rintro e' w' ⟨rfl, hb⟩
          have hb' := below_of_drew hb
          go_wp2
          go_roundw
          case rel => exact ⟨i + 1, by omega, by go_num, by rw [hst.out, Bool.true_and], chain hbel hb'⟩
          case measure => simp [intOf]; omega
        | false =>
          rw [hsm] at hcall hst
          clear hsm
          go_wp2_with fail
          go_still_tail 8, (by kernel_rfl)
          change wpList _ _ _ _ _ wr.drew
          go_wp2_with fail
          refine (hcall.out _ ((Below.refl _ _).drew)).mono ?_
          rintro e' w' ⟨rfl, hb⟩
          have hb' := below_of_drew hb
          go_wp2
          go_ret
          exact ⟨ret_bool (by rw [hst.out, Bool.false_and]), chain hbel hb'⟩
      · have he : Hid (sameL es fs = true) := Lib.hid (by
          rw [heq.out, List.drop_eq_nil_of_le (by omega), List.drop_eq_nil_of_le (by have := HE.out; omega), sameL])
        go_wp2
        go_ret
        exact ⟨ret_bool he.out.symm, hbel⟩
  · have hbq : (((es.length : Nat) : Int) != ((fs.length : Nat) : Int)) = true := by simp; omega
    have hne : Hid (sameL es fs = false) := Lib.hid (by
      rw [Bool.eq_false_iff]
      exact fun h => hl (by rw [(sameL_iff es fs).1 h]))
    clear hl
    go_enter Tryz.func21, Tryz.ntmps21
    go_wp2
    go_ret
    exact ⟨ret_bool hne.out.symm, Below.refl _ _⟩
set_option maxHeartbeats 1000000 in
set_option maxRecDepth 100000 in
theorem same_any : ∀ v : V, SameOk v := by
  refine V.ind fun k n s ks es ih u cs ds w h1 h2 => ?_
  cases u with
  | mk k' n' s' ks' es' =>
    have hf := lies_fit _ _ h1
    have hg := lies_fit _ _ h2
    rw [V.Fit] at hf hg
    obtain ⟨_, _, f3, f4, _⟩ := hf
    obtain ⟨_, _, g3, g4, _⟩ := hg
    obtain ⟨A, a, B, b, xs, rfl, _, _, _, _, hA, hB, hL⟩ := lies_open h1
    obtain ⟨A', a', B', b', ys, rfl, _, _, _, _, hA', hB', hL'⟩ := lies_open h2
    have HS := Lib.hid (fun (W : World) (hb : Below w.heap.size w W) => strings_any A A' a a' ks ks' (· < w.heap.size) (· < w.heap.size) W (hA.move fun b h => ⟨h, hb.block b h⟩) (hA'.move fun b h => ⟨h, hb.block b h⟩) (by unfold maxLen; omega))
    have HV := Lib.hid (fun (W : World) (hb : Below w.heap.size w W) => values_of es es' ih B B' b b' xs ys W (hB.move fun b h => ⟨Nat.lt_of_lt_of_le h hb.size, hb.block b h⟩) (hL.move fun b h => ⟨Nat.lt_of_lt_of_le h hb.size, hb.block b h⟩) (hB'.move fun b h => ⟨Nat.lt_of_lt_of_le h hb.size, hb.block b h⟩) (hL'.move fun b h => ⟨Nat.lt_of_lt_of_le h hb.size, hb.block b h⟩) f4)
    have hv : Hid (same (.mk k n s ks es) (.mk k' n' s' ks' es') = (decide (k = k') && decide (n = n') && decide (s = s') && decide (ks = ks') && sameL es es')) := Lib.hid (by rw [same])
    clear hA hB hL hA' hB' hL' h1 h2 ih
    show Calls _ _ #[.agg #[.int .i64 k, .int .i64 n, .string s, .slice A ks.length a, .slice B es.length b], .agg #[.int .i64 k', .int .i64 n', .string s', .slice A' ks'.length a', .slice B' es'.length b']] w _
    have hse := same_eq s s'
    by_cases c1 : k = k'
    · subst c1
      by_cases c2 : n = n'
      · subst c2
        by_cases c3 : s = s'
        · subst c3
          clear hse
          by_cases c4 : ks = ks'
          · have hz := Lib.hid (hv.out.trans (by rw [decide_eq_true rfl, decide_eq_true rfl, decide_eq_true rfl, decide_eq_true c4, Bool.true_and, Bool.true_and, Bool.true_and, Bool.true_and]))
            have HS' := Lib.hid (fun (W : World) (hb : Below w.heap.size w W) => by have := HS.out W hb; rw [decide_eq_true c4] at this; exact this)
            clear c4 HS
            go_enter Tryz.func9, Tryz.ntmps9
            go_wp2_with fail
            refine (HS'.out _ (below2 _ _ _)).mono ?_
            rintro e' w' ⟨rfl, m, rfl⟩
            go_wp2_with fail
            refine (HV.out _ (below_drewN (below2 _ _ _) m)).mono ?_
            rintro e' w' ⟨rfl, hb⟩
            go_wp2_with fail
            go_ret
            exact ⟨ret_bool hz.out.symm, chain (below_drewN (below2 _ _ _) m) hb⟩
          · have hz := Lib.hid (hv.out.trans (by rw [decide_eq_true rfl, decide_eq_true rfl, decide_eq_true rfl, decide_eq_false c4, Bool.and_false, Bool.false_and]))
            have HS' := Lib.hid (fun (W : World) (hb : Below w.heap.size w W) => by have := HS.out W hb; rw [decide_eq_false c4] at this; exact this)
            clear c4 HS
            go_enter Tryz.func9, Tryz.ntmps9
            go_wp2_with fail
            refine (HS'.out _ (below2 _ _ _)).mono ?_
            rintro e' w' ⟨rfl, m, rfl⟩
            go_wp2_with fail
            go_ret
            exact ⟨ret_bool hz.out.symm, below_drewN (below2 _ _ _) m⟩
        · have hq : (s.toList == s'.toList) = false := by rw [hse]; exact decide_eq_false fun h => c3 ((scmp_zero s s').1 h)
          have hz := Lib.hid (hv.out.trans (by rw [decide_eq_true rfl, decide_eq_true rfl, decide_eq_false c3, Bool.and_false, Bool.false_and, Bool.false_and]))
          clear c3 hse
          go_enter Tryz.func9, Tryz.ntmps9
          go_wp2_with fail
          go_ret
          exact ⟨ret_bool hz.out.symm, below2 _ _ _⟩
      · have hq : (n == n') = false := by simp [c2]
        have hz := Lib.hid (hv.out.trans (by rw [decide_eq_false c2, Bool.and_false, Bool.false_and, Bool.false_and, Bool.false_and]))
        clear c2 hse
        go_enter Tryz.func9, Tryz.ntmps9
        go_wp2_with fail
        go_ret
        exact ⟨ret_bool hz.out.symm, below2 _ _ _⟩
    · have hq : (k == k') = false := by simp [c1]
      have hz := Lib.hid (hv.out.trans (by rw [decide_eq_false c1, Bool.false_and, Bool.false_and, Bool.false_and, Bool.false_and]))
      clear c1 hse
      go_enter Tryz.func9, Tryz.ntmps9
      go_wp2_with fail
      go_ret
      exact ⟨ret_bool hz.out.symm, below2 _ _ _⟩
end Go.Proofs.YtfmpdcmedaiooaaGreatDoor
namespace Go.Proofs.YtfmpdcmedaiooaaGreatDoor
mutual
/-- The order of two values. -/
def vcmp : V → V → Int
  | .mk k n s ks es, .mk k' n' s' ks' es' =>
    if icmp k k' = 0 then (if icmp n n' = 0 then (if scmp s s' = 0 then (if kcmp ks ks' = 0 then vcmpL es es' else kcmp ks ks') else scmp s s') else icmp n n') else icmp k k'
def vcmpL : List V → List V → Int
  | [], [] => 0
  | [], _ :: _ => -1
  | _ :: _, [] => 1
  | e :: es, f :: fs => if vcmp e f = 0 then vcmpL es fs else vcmp e f
end
theorem icmp_zero {x y : Int} : icmp x y = 0 ↔ x = y := by unfold icmp; (repeat' split) <;> omega
theorem vcmpL_step {es fs : List V} {i : Nat} {x y : V} (hx : es[i]? = some x) (hy : fs[i]? = some y) (h : vcmp x y = 0) : vcmpL (es.drop i) (fs.drop i) = vcmpL (es.drop (i + 1)) (fs.drop (i + 1)) := by
  obtain ⟨h1, rfl⟩ := List.getElem?_eq_some_iff.1 hx
  obtain ⟨h2, rfl⟩ := List.getElem?_eq_some_iff.1 hy
  rw [List.drop_eq_getElem_cons h1, List.drop_eq_getElem_cons h2, vcmpL, if_pos h]
theorem vcmpL_part {es fs : List V} {i : Nat} {x y : V} (hx : es[i]? = some x) (hy : fs[i]? = some y) (h : ¬ vcmp x y = 0) : vcmpL (es.drop i) (fs.drop i) = vcmp x y := by
  obtain ⟨h1, rfl⟩ := List.getElem?_eq_some_iff.1 hx
  obtain ⟨h2, rfl⟩ := List.getElem?_eq_some_iff.1 hy
  rw [List.drop_eq_getElem_cons h1, List.drop_eq_getElem_cons h2, vcmpL, if_neg h]
theorem vcmpL_end {es fs : List V} {i : Nat} (h : ¬ (i < es.length ∧ i < fs.length)) (hi : i ≤ es.length) (hj : i ≤ fs.length) : vcmpL (es.drop i) (fs.drop i) = icmp es.length fs.length := by
  by_cases h1 : i < es.length
  · have h2 : i = fs.length := by omega
    subst h2
    rw [List.drop_eq_getElem_cons h1, List.drop_eq_nil_of_le (Nat.le_refl _), vcmpL]
    unfold icmp
    rw [if_neg (by omega), if_pos (by omega)]
  · have h2 : i = es.length := by omega
    subst h2
    rw [List.drop_eq_nil_of_le (Nat.le_refl _)]
    by_cases h3 : es.length < fs.length
    · rw [List.drop_eq_getElem_cons h3, vcmpL]
      unfold icmp
      rw [if_pos (by omega)]
    · rw [List.drop_eq_nil_of_le (by omega), vcmpL]
      unfold icmp
      rw [if_neg (by omega), if_neg (by omega)]
end Go.Proofs.YtfmpdcmedaiooaaGreatDoor
namespace Go.Proofs.YtfmpdcmedaiooaaGreatDoor
open Go.RowKit
/-- What add leaves: false, or true and the new counts; nothing but block g has turned. -/
def AddPost (g : Nat) (o : Option (Int × Int × Int)) (w : World) (e : Ending) (w' : World) : Prop :=
  w.grownBy w' (some g) ∧ match o with
  | none => e = .returned (.bool false)
  | some (d, m, b) => e = .returned (.bool true) ∧ Box w' g 37 #[.int .i64 d, .int .i64 m, .int .i64 b]
def AddOk (v : V) : Prop := ∀ (g : Nat) (lv d m b : Int) (cs : List Value) (S : Nat → Prop) (w : World), Box w g 37 #[.int .i64 d, .int .i64 m, .int .i64 b] → Lies w S v cs → (∀ b, S b → b < w.heap.size ∧ b ≠ g) →
  0 ≤ lv → lv ≤ 32 → 0 ≤ d → d ≤ 32 → 0 ≤ m → m ≤ 4096 → 0 ≤ b → b ≤ 65536 →
  Calls Tryz.prog 25 #[.pointer (some ⟨g, 0, none⟩), .agg cs.toArray, .int .i64 lv] w (AddPost g (addP v lv d m b) w)
theorem addL_none {es : List V} {i : Nat} {e : V} (he : es[i]? = some e) {lv d m b : Int} (h : addP e lv d m b = none) : addL (es.drop i) lv d m b = none := by
  obtain ⟨hl, rfl⟩ := List.getElem?_eq_some_iff.1 he
  rw [List.drop_eq_getElem_cons hl, addL, h]
theorem addL_some {es : List V} {i : Nat} {e : V} (he : es[i]? = some e) {lv d m b d' m' b' : Int} (h : addP e lv d m b = some (d', m', b')) : addL (es.drop i) lv d m b = addL (es.drop (i + 1)) lv d' m' b' := by
  obtain ⟨hl, rfl⟩ := List.getElem?_eq_some_iff.1 he
  rw [List.drop_eq_getElem_cons hl, addL, h]
/-- A world in the course of add: the counts in block g, the value's own box in block p; all else is as it was in w0. -/
structure St (g p : Nat) (cs : Array Value) (w0 : World) (d m b : Int) (w : World) : Prop where
  gr : w0.grownBy w (some g)
  box : Box w g 37 #[.int .i64 d, .int .i64 m, .int .i64 b]
  own : Box w p 25 cs
theorem St.below {g p : Nat} {cs : Array Value} {w0 w w' : World} {d m b : Int} (h : St g p cs w0 d m b w) (hb : Below w.heap.size w w') (_ : ¬ g = p) : St g p cs w0 d m b w' :=
  ⟨grown_trans h.gr (below_grown hb _), h.box.below hb h.box.lt, h.own.below hb h.own.lt⟩
theorem St.str {g p : Nat} {cs : Array Value} {w0 w : World} {d m b : Int} (h : St g p cs w0 d m b w) (hne : ¬ g = p) (c : Int) : St g p cs w0 d m c (w.setCell ⟨g, 2, none⟩ (.int .i64 c)) :=
  ⟨grown_trans h.gr (grown_set _ _ _ _), h.box.put 2 _, h.own.far (fun e => hne e.symm) _⟩
theorem St.dep {g p : Nat} {cs : Array Value} {w0 w : World} {d m b : Int} (h : St g p cs w0 d m b w) (hne : ¬ g = p) (c : Int) : St g p cs w0 c m b (w.setCell ⟨g, 0, none⟩ (.int .i64 c)) :=
  ⟨grown_trans h.gr (grown_set _ _ _ _), h.box.put 0 _, h.own.far (fun e => hne e.symm) _⟩
theorem St.keys {g p : Nat} {cs : Array Value} {w0 w w' : World} {d m b c : Int} (h : St g p cs w0 d m b w) (hne : ¬ g = p) (hg : w.grownBy w' (some g)) (hb : Box w' g 37 #[.int .i64 d, .int .i64 m, .int .i64 c]) : St g p cs w0 d m c w' :=
  ⟨grown_trans h.gr hg, hb, h.own.grown hg (fun e => hne (by injection e with e; exact e.symm))⟩
set_option maxHeartbeats 4000000 in
set_option maxRecDepth 100000 in
theorem add_loop (k n : Int) (s : ByteArray) (ks : List ByteArray) (es : List V) (ih : ∀ e ∈ es, AddOk e) (g : Nat) (lv d m b b2 : Int) (A B : Option Addr) (a bb : Nat) (xs : List Value) (S : Nat → Prop) (w : World)
    (hbox : Box w g 37 #[.int .i64 d, .int .i64 m, .int .i64 b]) (hA : Rs w S A (kv ks)) (hB : Rs w S B xs) (hL : LiesL w S es xs) (hS : ∀ b, S b → b < w.heap.size ∧ b ≠ g)
    (h1 : s.size ≤ 140737488355328) (h2 : ∀ x ∈ ks, x.size ≤ 140737488355328) (h3 : ks.length ≤ 140737488355328) (h4 : es.length ≤ 140737488355328)
    (l0 : 0 ≤ lv) (hlv : lv + 1 ≤ 32) (d0 : 0 ≤ d) (d1 : d ≤ 32) (m0 : 0 ≤ m) (hm : m + 1 ≤ 4096) (b0 : 0 ≤ b) (b1 : b ≤ 65536) (hle : b + s.size ≤ 65536) (hel : es.length ≤ 1024)
    (hfv : fits k n s ks.length es.length = true) (hok : strOk s b = true) (hkk : keysP ks none (b + s.size) = some b2) (hk2 : (k != 5) = false ∨ ((k != 5) = true ∧ (k != 6) = false)) :
    Calls Tryz.prog 25 #[.pointer (some ⟨g, 0, none⟩), .agg #[.int .i64 k, .int .i64 n, .string s, .slice A ks.length a, .slice B es.length bb], .int .i64 lv] w (AddPost g (addL es (lv + 1) (max d (lv + 1)) (m + 1) b2) w) := by
  have hg : g < w.heap.size := hbox.lt
  have hgne : ¬ g = w.heap.size := by omega
  have HX := Lib.hid hbox
  have HA := Lib.hid hA
  have HB := Lib.hid hB
  have HL := Lib.hid hL
  have IH := Lib.hid ih
  have HS := Lib.hid hS
  have H2 := Lib.hid h2
  obtain ⟨gc0, gc1, gc2, gf0, gf1, gf2⟩ := box3 hbox
  clear hA hB hL ih hS h2 hbox
  have hW0 : Hid (St g w.heap.size #[.int .i64 k, .int .i64 n, .string s, .slice A ks.length a, .slice B es.length bb] w d (m + 1) b ((w.setCell ⟨g, 1, none⟩ (.int .i64 (m + 1))).alloc (.cells #[.int .i64 k, .int .i64 n, .string s, .slice A ks.length a, .slice B es.length bb] 25))) :=
    Lib.hid ⟨grown_trans (grown_set _ _ _ _) (World.grownBy_alloc _ _ _), (HX.out.put 1 _).alloc _, by have := Box.laid (w.setCell ⟨g, 1, none⟩ (.int .i64 (m + 1))) 25 #[.int .i64 k, .int .i64 n, .string s, .slice A ks.length a, .slice B es.length bb]; simpa using this⟩
  have hfit := Lib.hid (fun W => fits_any k n s A B ks.length es.length a bb W h1 h3 h4)
  rw [hfv] at hfit
  generalize hq : addL es (lv + 1) (max d (lv + 1)) (m + 1) b2 = r
  have hr := Lib.hid hq
  clear hq hfv
  obtain ⟨hb20, hb21⟩ := keysP_bd hle hkk
  rcases hk2 with hk5 | ⟨hk5, hk6⟩
  all_goals
    go_enter Tryz.func25, Tryz.ntmps25
    go_wp2_with fail
    refine (hfit.out _).mono ?_
    rintro e1 w1 ⟨rfl, hb1⟩
    have hs1 := Lib.hid (hW0.out.below hb1 hgne)
    obtain ⟨p0, p1, p2, p3, p4⟩ := box5 hs1.out.own
    obtain ⟨gc0, gc1, gc2, gf0, gf1, gf2⟩ := box3 hs1.out.box
    have hcall := Lib.hid (addString_any g d (m + 1) b s w1 hs1.out.box h1 b0 b1)
    rw [hok] at hcall
    clear hok
    go_wp2_with fail
    refine hcall.out.mono ?_
    rintro e2 w2 ⟨rfl, rfl⟩
    have hs3 := Lib.hid ((hs1.out.str hgne (b + s.size)).dep hgne (max d (lv + 1)))
    have hk3 := Lib.hid (addKeys_any g (max d (lv + 1)) (m + 1) (b + s.size) A a ks S _ hs3.out.box (HA.out.move fun b hb => ⟨hb, hs3.out.gr.block b (HS.out b hb).1 (fun e => (HS.out b hb).2 (by injection e with e))⟩) (fun b hb => ⟨Nat.lt_of_lt_of_le (HS.out b hb).1 hs3.out.gr.size, (HS.out b hb).2⟩) H2.out h3 (by omega) hle)
    rw [hkk] at hk3
    clear hkk
    go_wp2_with fail
    refine hk3.out.mono ?_
    rintro e3 w3 ⟨hg3, rfl, hbox3⟩
    have hs4 := Lib.hid (hs3.out.keys hgne hg3 hbox3)
    clear gc0 gc1 gc2 gf0 gf1 gf2 p0 p1 p2 p3 p4
    obtain ⟨p0, p1, p2, p3, p4⟩ := box5 hs4.out.own
    clear hg3 hbox3
    go_wp2_with fail
    go_loopw [70] (fun t wr => ∃ (i : Nat) (d' m' b' : Int), i ≤ es.length ∧ t = .int .i64 i ∧ (0 ≤ d' ∧ d' ≤ 32 ∧ 0 ≤ m' ∧ m' ≤ 4096 ∧ 0 ≤ b' ∧ b' ≤ 65536) ∧ addL (es.drop i) (lv + 1) d' m' b' = r ∧ Box wr g 37 #[.int .i64 d', .int .i64 m', .int .i64 b'] ∧ w.grownBy wr (some g)) (fun t _ => es.length - (intOf t).toNat)
    case atStart => exact ⟨0, _, _, _, Nat.zero_le _, rfl, ⟨by omega, by omega, by omega, hm, by omega, hb21⟩, hr.out, hs4.out.box, hs4.out.gr⟩
    case round =>
      obtain ⟨i, d', m', b', hi, rfl, ⟨x0, x1, x2, x3, x4, x5⟩, hr0, hbox0, hgr0⟩ := hrel
      have HR := Lib.hid hr0
      have HB' := Lib.hid hbox0
      have HG := Lib.hid hgr0
      have hgl : g < wr.heap.size := hbox0.lt
      clear hr0 hbox0 hgr0
      by_cases hlt : i < es.length
      · obtain ⟨e, he⟩ : ∃ e, es[i]? = some e := ⟨_, List.getElem?_eq_getElem hlt⟩
        obtain ⟨ek, en, es', eks, ees⟩ := e
        obtain ⟨b0, o0, eA, ea, eC, ec, rfl, hb0, hle, c0, c1, c2, c3, c4⟩ := elem_open HB.out HL.out he
        have hbn : some b0 ≠ some g := fun e => (HS.out b0 hb0).2 (by injection e)
        have q0 := HG.out.cell c0 hbn
        have q1 := HG.out.cell c1 hbn
        have q2 := HG.out.cell c2 hbn
        have q3 := HG.out.cell c3 hbn
        have q4 := HG.out.cell c4 hbn
        clear c0 c1 c2 c3 c4 hbn p0 p1 p2 p3 p4
        have hcall := Lib.hid (IH.out _ (List.mem_of_getElem? he) g (lv + 1) d' m' b' [.int .i64 ek, .int .i64 en, .string es', .slice eA eks.length ea, .slice eC ees.length ec] S (wr.alloc (.cells #[.int .i64 ek, .int .i64 en, .string es', .slice eA eks.length ea, .slice eC ees.length ec] 25)) (HB'.out.alloc _)
          (hle.move fun b hb => ⟨hb, (Below.heap_alloc wr _ b (Nat.lt_of_lt_of_le (HS.out b hb).1 HG.out.size)).trans (HG.out.block b (HS.out b hb).1 (fun e => (HS.out b hb).2 (by injection e with e)))⟩)
          (fun b hb => ⟨by have := (HS.out b hb).1; have := HG.out.size; simp; omega, (HS.out b hb).2⟩) (by omega) (by omega) x0 x1 x2 x3 x4 x5)
        clear hle
        cases hap : addP (.mk ek en es' eks ees) (lv + 1) d' m' b' with
        | none =>
          rw [hap] at hcall
          have hst := Lib.hid ((addL_none he hap).symm.trans HR.out)
          clear he hap
          go_wp2_with fail
          refine hcall.out.mono ?_
          rintro e3 w3 ⟨hg3, rfl⟩
          go_wp2
          go_ret
          rw [← hst.out]
          exact ⟨grown_trans HG.out (grown_one hg3), rfl⟩
        | some q =>
          obtain ⟨d2, m2, b2⟩ := q
          rw [hap] at hcall
          have hbd := addP_bd _ (lv + 1) d' m' b' d2 m2 b2 (by omega) (by omega) x0 x1 x2 x3 x4 x5 hap
          obtain ⟨⟨y0, y1⟩, ⟨y2, y3⟩, y4, y5⟩ := hbd
          have hst := Lib.hid ((addL_some he hap).symm.trans HR.out)
          clear he hap
          go_wp2_with fail
          refine hcall.out.mono ?_
          rintro e3 w3 ⟨hg3, rfl, hbox3⟩
          have HB3 := Lib.hid hbox3
          have HG3 := Lib.hid hg3
          clear hbox3 hg3
          go_wp2
          go_roundw
          case rel => exact ⟨i + 1, d2, m2, b2, by omega, by go_num, ⟨y0, y1, by omega, y3, by omega, y5⟩, hst.out, HB3.out, grown_trans HG.out (grown_one HG3.out)⟩
          case measure => simp [intOf]; omega
      · have hend : Hid (some (d', m', b') = r) := Lib.hid (by rw [← HR.out, List.drop_eq_nil_of_le (by omega), addL])
        go_wp2
        go_ret
        rw [← hend.out]
        exact ⟨HG.out, rfl, HB'.out⟩
end Go.Proofs.YtfmpdcmedaiooaaGreatDoor

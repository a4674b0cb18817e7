/- value.Compare, with a relation of worlds that says besides that draws only grow: what a sort's comparison must hold. -/
import Derived.Test.YtnokmlclephjgaaCmp
import Derived.Test.YtnokmlclephjgaaCmpP
import Derived.Sort.Grow
set_option linter.unusedVariables false
set_option linter.unusedSimpArgs false
namespace Go.Proofs.Ytnokmlclephjgaa.Dr
open Go.RowKit Go.Proofs.Ytnokmlclephjgaa
/-- Below, and draws only grow. -/
structure Below (B : Nat) (w w' : World) : Prop where
  b : Go.RowKit.Below B w w'
  dr : w.drawn ≤ w'.drawn
theorem Below.refl (B : Nat) (w : World) : Below B w w := ⟨Go.RowKit.Below.refl _ _, Nat.le_refl _⟩
theorem Below.trans {B : Nat} {a b c : World} (h : Below B a b) (k : Below B b c) : Below B a c := ⟨h.b.trans k.b, Nat.le_trans h.dr k.dr⟩
theorem Below.mono {B B' : Nat} {w w' : World} (h : Below B w w') (hB : B' ≤ B) : Below B' w w' := ⟨h.b.mono hB, h.dr⟩
theorem Below.drew {B : Nat} {a w : World} (h : Below B a w) : Below B a w.drew := ⟨h.b.drew, Nat.le_trans h.dr (Nat.le_succ _)⟩
theorem Below.alloc {B : Nat} {a w : World} (h : Below B a w) (hB : B ≤ w.heap.size) (o : Obj) : Below B a (w.alloc o) := ⟨h.b.alloc hB o, h.dr⟩
theorem Below.setCell {B : Nat} {a w : World} (h : Below B a w) {p : Addr} (hp : B ≤ p.block) (u : Value) : Below B a (w.setCell p u) := ⟨h.b.setCell hp u, h.dr⟩
theorem Below.size {B : Nat} {w w' : World} (h : Below B w w') : w.heap.size ≤ w'.heap.size := h.b.size
theorem Below.block {B : Nat} {w w' : World} (h : Below B w w') : ∀ k, k < B → w'.heap[k]? = w.heap[k]? := h.b.block
theorem Below.cell {B : Nat} {w w' : World} (h : Below B w w') {p : Addr} (hp : p.block < B) : w'.cell? p = w.cell? p := h.b.cell hp
structure Gd (w w' : World) (row : Option Nat) : Prop where
  g : w.grownBy w' row
  dr : w.drawn ≤ w'.drawn
theorem Gd.alloc_ (w : World) (o : Obj) (row : Option Nat) : Gd w (w.alloc o) row := ⟨World.grownBy_alloc _ _ _, Nat.le_refl _⟩
theorem Gd.refl_ (w : World) (row : Option Nat) : Gd w w row := ⟨World.grownBy.refl _ _, Nat.le_refl _⟩
theorem Gd.size {w w' : World} {row : Option Nat} (h : Gd w w' row) : w.heap.size ≤ w'.heap.size := h.g.size
theorem Gd.block {w w' : World} {row : Option Nat} (h : Gd w w' row) : ∀ i, i < w.heap.size → some i ≠ row → w'.heap[i]? = w.heap[i]? := h.g.block
theorem Gd.cell {w w' : World} {row : Option Nat} (h : Gd w w' row) {a : Addr} {v : Value} (k : w.cell? a = some v) (hne : some a.block ≠ row) : w'.cell? a = some v := h.g.cell k hne
theorem grown_trans {a b c : World} {row : Option Nat} (h : Gd a b row) (k : Gd b c row) : Gd a c row := ⟨Go.Proofs.Ytnokmlclephjgaa.grown_trans h.g k.g, Nat.le_trans h.dr k.dr⟩
theorem grown_set (w : World) (g i : Nat) (u : Value) : Gd w (w.setCell ⟨g, i, none⟩ u) (some g) := ⟨Go.Proofs.Ytnokmlclephjgaa.grown_set _ _ _ _, Nat.le_refl _⟩
theorem grown_below {w w' : World} {g : Nat} (h : Gd w w' (some g)) (hg : g ≤ w.heap.size) : Below g w w' := ⟨Go.Proofs.Ytnokmlclephjgaa.grown_below h.g hg, h.dr⟩
theorem below_grown {w w' : World} (h : Below w.heap.size w w') (row : Option Nat) : Gd w w' row := ⟨Go.Proofs.Ytnokmlclephjgaa.below_grown h.b row, h.dr⟩
theorem grown_one {w w' : World} {o : Obj} {row : Option Nat} (h : Gd (w.alloc o) w' row) : Gd w w' row := ⟨Go.Proofs.Ytnokmlclephjgaa.grown_one h.g, h.dr⟩
theorem _root_.Go.Proofs.Ytnokmlclephjgaa.Box.grownd {w w' : World} {g : Nat} {t : TypeId} {cs : Array Value} (h : Box w g t cs) {row : Option Nat} (hb : Gd w w' row) (hg : some g ≠ row) : Box w' g t cs := h.grown hb.g hg
theorem _root_.Go.Proofs.Ytnokmlclephjgaa.Box.belowd {w w' : World} {g : Nat} {t : TypeId} {cs : Array Value} {B : Nat} (h : Box w g t cs) (hb : Below B w w') (hg : g < B) : Box w' g t cs := h.below hb.b hg
theorem below_drewN {B : Nat} {a w : World} (h : Below B a w) (n : Nat) : Below B a (w.drewN n) := ⟨⟨h.b.os, h.b.tape, h.b.output, h.b.size, h.b.block⟩, Nat.le_trans h.dr (Nat.le_add_right _ _)⟩
theorem chain {a b c : World} (h : Below a.heap.size a b) (k : Below b.heap.size b c) : Below a.heap.size a c := h.trans (k.mono h.size)
theorem below2 (w : World) (o p : Obj) : Below w.heap.size w ((w.alloc o).alloc p) := ((Below.refl _ _).alloc (Nat.le_refl _) o).alloc (by simp) p
theorem below_lies {w w' : World} (hb : Below w.heap.size w w') {v : V} {cs : List Value} (h : Lies w (· < w.heap.size) v cs) : Lies w' (· < w'.heap.size) v cs := Go.Proofs.Ytnokmlclephjgaa.below_lies hb.b h
theorem below_cell {w w' : World} (hb : Below w.heap.size w w') {b i : Nat} (hlt : b < w.heap.size) {u : Value} (hu : w.cell? ⟨b, i, none⟩ = some u) : w'.cell? ⟨b, i, none⟩ = some u := Go.Proofs.Ytnokmlclephjgaa.below_cell hb.b hlt hu
/-- A world that such a call leaves, spelled out. -/
theorem below_grow {w w' : World} (h : Below w.heap.size w w') : ∃ q os, w' = Go.Sort.grow (w.drewN q) os := by
  refine ⟨w'.drawn - w.drawn, w'.heap.extract w.heap.size w'.heap.size, ?_⟩
  have hh : w'.heap = w.heap ++ w'.heap.extract w.heap.size w'.heap.size := by
    apply Array.ext_getElem?
    intro i
    by_cases hi : i < w.heap.size
    · rw [h.b.block i hi, Array.getElem?_append_left hi]
    · rw [Array.getElem?_append_right (by omega), Array.getElem?_extract]
      have := h.b.size
      by_cases hj : i < w'.heap.size
      · rw [if_pos (by omega)]
        congr 1
        omega
      · rw [if_neg (by omega), Array.getElem?_eq_none (by omega)]
  have e1 := h.b.os
  have e2 := h.b.tape
  have e3 := h.b.output
  have e4 := h.dr
  obtain ⟨hp, tp, d, os, ou⟩ := w
  obtain ⟨hp', tp', d', os', ou'⟩ := w'
  simp only at hh e1 e2 e3 e4
  subst e1 e2 e3
  unfold Go.Sort.grow World.drewN
  simp only at hh ⊢
  rw [← hh, Nat.add_sub_cancel' e4]
set_option maxHeartbeats 4000000 in
set_option maxRecDepth 100000 in
theorem fits_any (k n : Int) (s : ByteArray) (A B : Option Addr) (nk ne a b : Nat) (w : World) (hs : s.size ≤ 140737488355328) (hk : nk ≤ 140737488355328) (he : ne ≤ 140737488355328) :
    Calls Try.prog 57 #[.agg #[.int .i64 k, .int .i64 n, .string s, .slice A nk a, .slice B ne b]] w fun e w' => e = .returned (.bool (fits k n s nk ne)) ∧ Below w.heap.size w w' := by
  have hse := size_empty s
  generalize hq : fits k n s nk ne = r
  have HQ := Lib.hid hq
  clear hq
  go_enter Try.func57, Try.ntmps57
  go_wp2
  go_quiet (fail)
  go_wp2
  go_quiet (fail)
  go_wp2
  all_goals
    go_ret
    refine ⟨ret_bool (Eq.trans ?_ HQ.out), below_drewN ((Below.refl _ _).alloc (Nat.le_refl _) _) _⟩
    simp_all [fits, natz, nateq]
set_option maxHeartbeats 1000000 in
set_option maxRecDepth 100000 in
theorem addString_any (g : Nat) (d m b : Int) (s : ByteArray) (w : World) (hbox : Box w g 66 #[.int .i64 d, .int .i64 m, .int .i64 b]) (hs : s.size ≤ 140737488355328) (h0 : 0 ≤ b) (h1 : b ≤ 65536) :
    Calls Try.prog 58 #[.pointer (some ⟨g, 0, none⟩), .string s] w fun e w' => e = .returned (.bool (strOk s b)) ∧ w' = w.setCell ⟨g, 2, none⟩ (.int .i64 (b + s.size)) := by
  have c2 := hbox.cell (i := 2) rfl
  have f2 := hbox.free 2
  have HB := Lib.hid hbox
  clear hbox
  have n2 : (w.setCell ⟨g, 2, none⟩ (.int .i64 (b + s.size))).cell? ⟨g, 2, none⟩ = some (.int .i64 (b + s.size)) := (HB.out.put 2 _).cell rfl
  have hm : s.size ≤ maxLen := by unfold maxLen; omega
  have HM := Lib.hid hm
  generalize hq : strOk s b = r
  have HQ := Lib.hid hq
  clear hq hm
  by_cases hz : s.size ≤ 4096
  · by_cases hy : b + s.size ≤ 65536
    · have hv := Lib.hid (fun w => val_any s HM.out w)
      have hr : Hid (okS s = r) := Lib.hid (by rw [← HQ.out, strOk, decide_eq_true hz, decide_eq_true hy]; rfl)
      go_enter Try.func58, Try.ntmps58
      go_wp2_with (go_at_call 38; refine (hv.out _).mono ?_; rintro e w' ⟨rfl, rfl⟩)
      go_ret
      exact ⟨ret_bool hr.out, rfl⟩
    · have hr : Hid (false = r) := Lib.hid (by rw [← HQ.out, strOk, decide_eq_true hz, decide_eq_false hy]; rfl)
      go_enter Try.func58, Try.ntmps58
      go_wp2_with fail
      go_ret
      exact ⟨ret_bool hr.out, rfl⟩
  · have hr : Hid (false = r) := Lib.hid (by rw [← HQ.out, strOk, decide_eq_false hz]; rfl)
    go_enter Try.func58, Try.ntmps58
    go_wp2_with fail
    go_ret
    exact ⟨ret_bool hr.out, rfl⟩
/-- What addKeys and add leave: false, or true and the new counts; nothing but block g has turned. -/
def KeysPost (g : Nat) (d m : Int) (o : Option Int) (w : World) (e : Ending) (w' : World) : Prop :=
  Gd w w' (some g) ∧ match o with
  | none => e = .returned (.bool false)
  | some b => e = .returned (.bool true) ∧ Box w' g 66 #[.int .i64 d, .int .i64 m, .int .i64 b]
set_option maxHeartbeats 2000000 in
set_option maxRecDepth 100000 in
theorem addKeys_any (g : Nat) (d m b : Int) (A : Option Addr) (a : Nat) (ks : List ByteArray) (S : Nat → Prop) (w : World) (hbox : Box w g 66 #[.int .i64 d, .int .i64 m, .int .i64 b]) (hA : Rs w S A (kv ks)) (hS : ∀ b, S b → b < w.heap.size ∧ b ≠ g)
    (hks : ∀ x ∈ ks, x.size ≤ 140737488355328) (hn : ks.length ≤ 140737488355328) (h0 : 0 ≤ b) (h1 : b ≤ 65536) :
    Calls Try.prog 59 #[.pointer (some ⟨g, 0, none⟩), .slice A ks.length a] w (KeysPost g d m (keysP ks none b) w) := by
  have HX := Lib.hid hbox
  have HA := Lib.hid hA
  have HS := Lib.hid hS
  have HK := Lib.hid hks
  clear hbox hA hS hks
  generalize hq : keysP ks none b = r
  have HQ := Lib.hid hq
  clear hq
  go_enter Try.func59, Try.ntmps59
  go_wp2
  go_loopw [9] (fun t wr => ∃ (i : Nat) (q : Int), i ≤ ks.length ∧ t = .int .i64 i ∧ 0 ≤ q ∧ q ≤ 65536 ∧ keysP (ks.drop i) (prevK ks i) q = r ∧ Box wr g 66 #[.int .i64 d, .int .i64 m, .int .i64 q] ∧ Gd w wr (some g)) (fun t _ => ks.length - (intOf t).toNat)
  case atStart => exact ⟨0, b, Nat.zero_le _, rfl, h0, h1, HQ.out, HX.out, Gd.refl_ _ _⟩
  case round =>
    obtain ⟨i, q, hi, rfl, hq0, hq1, hr0, hbox0, hgr0⟩ := hrel
    have HR := Lib.hid hr0
    have HB := Lib.hid hbox0
    have HG := Lib.hid hgr0
    clear hr0 hbox0 hgr0
    by_cases hlt : i < ks.length
    · obtain ⟨x, hx⟩ : ∃ x, ks[i]? = some x := ⟨_, List.getElem?_eq_getElem hlt⟩
      have hxs := HK.out x (List.mem_of_getElem? hx)
      obtain ⟨b0, o0, hAe, hb0, hc0⟩ := HA.out.at_ (kv_at hx)
      have hc1 := HG.out.cell hc0 (by have := (HS.out b0 hb0).2; intro e; injection e with e; exact this e)
      have hcall := Lib.hid (addString_any g d m q x wr HB.out hxs hq0 hq1)
      have hstrict : Hid (strOk x q = true → q + x.size ≤ 65536) := Lib.hid (by intro h; simp [strOk] at h; omega)
      have hprev : prevK ks i = none ∧ i ≤ 0 ∨ 0 < i := by
        by_cases hz : i = 0
        · exact .inl ⟨by rw [hz]; rfl, by omega⟩
        · exact .inr (by omega)
      obtain rfl := hAe
      rcases hprev with ⟨hp, hz⟩ | hz
      · have hst : Hid ((if strOk x q then keysP (ks.drop (i + 1)) (prevK ks (i + 1)) (q + x.size) else none) = r) := Lib.hid (by
          obtain rfl : i = 0 := by omega
          exact (keysP_first (b := q) hx).symm.trans HR.out)
        have HX2 := Lib.hid hx
        clear hc0 hx hp
        cases hok : strOk x q with
        | true =>
          rw [hok] at hcall hst hstrict
          have hle := hstrict.out rfl
          have hst2 := Lib.hid ((if_pos rfl).symm.trans hst.out)
          clear hok hstrict
          go_wp2_with fail
          refine hcall.out.mono ?_
          rintro e' w' ⟨rfl, rfl⟩
          go_wp2
          go_roundw
          case rel => exact ⟨i + 1, q + x.size, by omega, by go_num, by omega, hle, hst2.out, HB.out.put 2 _, grown_trans HG.out (grown_set _ _ _ _)⟩
          case measure => simp [intOf]; omega
        | false =>
          rw [hok] at hcall hst
          have hst2 := Lib.hid ((if_neg (by decide)).symm.trans hst.out)
          clear hok hstrict
          go_wp2_with fail
          refine hcall.out.mono ?_
          rintro e' w' ⟨rfl, rfl⟩
          go_wp2
          go_ret
          rw [← hst2.out]
          exact ⟨grown_trans HG.out (grown_set _ _ _ _), rfl⟩
      · obtain ⟨p, hp⟩ : ∃ p, ks[i - 1]? = some p := ⟨_, List.getElem?_eq_getElem (by omega)⟩
        have hst := Lib.hid ((keysP_next (b := q) hz hp hx).symm.trans HR.out)
        have hpc : wr.cell? ⟨b0, o0 + (i - 1), none⟩ = some (.string p) := by
          obtain ⟨b1, o1, e1, hb1, hd⟩ := HA.out.at_ (kv_at hp)
          injection e1 with e1
          injection e1 with e1 e2
          subst e1
          subst e2
          exact HG.out.cell hd (by have := (HS.out b0 hb0).2; intro e; injection e with e; exact this e)
        have hls := less_eq p x
        have HX2 := Lib.hid hx
        clear hc0 hx hp
        by_cases hlp : scmp p x < 0
        · rw [decide_eq_true hlp] at hls
          have hst1 := Lib.hid ((if_pos hlp).symm.trans hst.out)
          clear hlp hst
          cases hok : strOk x q with
          | true =>
            rw [hok] at hcall hst1 hstrict
            have hle := hstrict.out rfl
            have hst2 := Lib.hid ((if_pos rfl).symm.trans hst1.out)
            clear hok hstrict
            go_wp2_with fail
            refine hcall.out.mono ?_
            rintro e' w' ⟨rfl, rfl⟩
            go_wp2
            go_roundw
            case rel => exact ⟨i + 1, q + x.size, by omega, by go_num, by omega, hle, hst2.out, HB.out.put 2 _, grown_trans HG.out (grown_set _ _ _ _)⟩
            case measure => simp [intOf]; omega
          | false =>
            rw [hok] at hcall hst1
            have hst2 := Lib.hid ((if_neg (by decide)).symm.trans hst1.out)
            clear hok hstrict
            go_wp2_with fail
            refine hcall.out.mono ?_
            rintro e' w' ⟨rfl, rfl⟩
            go_wp2
            go_ret
            rw [← hst2.out]
            exact ⟨grown_trans HG.out (grown_set _ _ _ _), rfl⟩
        · rw [decide_eq_false hlp] at hls
          have hst1 := Lib.hid ((if_neg hlp).symm.trans hst.out)
          clear hlp hst hstrict
          go_wp2
          go_ret
          rw [← hst1.out]
          exact ⟨HG.out, rfl⟩
    · have hst := Lib.hid ((keysP_end (b := q) (by omega)).symm.trans HR.out)
      go_wp2
      go_ret
      rw [← hst.out]
      exact ⟨HG.out, rfl, HB.out⟩
/-- What add leaves: false, or true and the new counts; nothing but block g has turned. -/
def AddPost (g : Nat) (o : Option (Int × Int × Int)) (w : World) (e : Ending) (w' : World) : Prop :=
  Gd w w' (some g) ∧ match o with
  | none => e = .returned (.bool false)
  | some (d, m, b) => e = .returned (.bool true) ∧ Box w' g 66 #[.int .i64 d, .int .i64 m, .int .i64 b]
def AddOk (v : V) : Prop := ∀ (g : Nat) (lv d m b : Int) (cs : List Value) (S : Nat → Prop) (w : World), Box w g 66 #[.int .i64 d, .int .i64 m, .int .i64 b] → Lies w S v cs → (∀ b, S b → b < w.heap.size ∧ b ≠ g) →
  0 ≤ lv → lv ≤ 32 → 0 ≤ d → d ≤ 32 → 0 ≤ m → m ≤ 4096 → 0 ≤ b → b ≤ 65536 →
  Calls Try.prog 51 #[.pointer (some ⟨g, 0, none⟩), .agg cs.toArray, .int .i64 lv] w (AddPost g (addP v lv d m b) w)
/-- A world in the course of add: the counts in block g, the value's own box in block p; all else is as it was in w0. -/
structure St (g p : Nat) (cs : Array Value) (w0 : World) (d m b : Int) (w : World) : Prop where
  gr : Gd w0 w (some g)
  box : Box w g 66 #[.int .i64 d, .int .i64 m, .int .i64 b]
  own : Box w p 27 cs
theorem St.below {g p : Nat} {cs : Array Value} {w0 w w' : World} {d m b : Int} (h : St g p cs w0 d m b w) (hb : Below w.heap.size w w') (_ : ¬ g = p) : St g p cs w0 d m b w' :=
  ⟨grown_trans h.gr (below_grown hb _), h.box.belowd hb h.box.lt, h.own.belowd hb h.own.lt⟩
theorem St.str {g p : Nat} {cs : Array Value} {w0 w : World} {d m b : Int} (h : St g p cs w0 d m b w) (hne : ¬ g = p) (c : Int) : St g p cs w0 d m c (w.setCell ⟨g, 2, none⟩ (.int .i64 c)) :=
  ⟨grown_trans h.gr (grown_set _ _ _ _), h.box.put 2 _, h.own.far (fun e => hne e.symm) _⟩
theorem St.dep {g p : Nat} {cs : Array Value} {w0 w : World} {d m b : Int} (h : St g p cs w0 d m b w) (hne : ¬ g = p) (c : Int) : St g p cs w0 c m b (w.setCell ⟨g, 0, none⟩ (.int .i64 c)) :=
  ⟨grown_trans h.gr (grown_set _ _ _ _), h.box.put 0 _, h.own.far (fun e => hne e.symm) _⟩
theorem St.keys {g p : Nat} {cs : Array Value} {w0 w w' : World} {d m b c : Int} (h : St g p cs w0 d m b w) (hne : ¬ g = p) (hg : Gd w w' (some g)) (hb : Box w' g 66 #[.int .i64 d, .int .i64 m, .int .i64 c]) : St g p cs w0 d m c w' :=
  ⟨grown_trans h.gr hg, hb, h.own.grownd hg (fun e => hne (by injection e with e; exact e.symm))⟩
set_option maxHeartbeats 4000000 in
set_option maxRecDepth 100000 in
theorem add_loop (k n : Int) (s : ByteArray) (ks : List ByteArray) (es : List V) (ih : ∀ e ∈ es, AddOk e) (g : Nat) (lv d m b b2 : Int) (A B : Option Addr) (a bb : Nat) (xs : List Value) (S : Nat → Prop) (w : World)
    (hbox : Box w g 66 #[.int .i64 d, .int .i64 m, .int .i64 b]) (hA : Rs w S A (kv ks)) (hB : Rs w S B xs) (hL : LiesL w S es xs) (hS : ∀ b, S b → b < w.heap.size ∧ b ≠ g)
    (h1 : s.size ≤ 140737488355328) (h2 : ∀ x ∈ ks, x.size ≤ 140737488355328) (h3 : ks.length ≤ 140737488355328) (h4 : es.length ≤ 140737488355328)
    (l0 : 0 ≤ lv) (hlv : lv + 1 ≤ 32) (d0 : 0 ≤ d) (d1 : d ≤ 32) (m0 : 0 ≤ m) (hm : m + 1 ≤ 4096) (b0 : 0 ≤ b) (b1 : b ≤ 65536) (hle : b + s.size ≤ 65536) (hel : es.length ≤ 1024)
    (hfv : fits k n s ks.length es.length = true) (hok : strOk s b = true) (hkk : keysP ks none (b + s.size) = some b2) (hk2 : (k != 5) = false ∨ ((k != 5) = true ∧ (k != 6) = false)) :
    Calls Try.prog 51 #[.pointer (some ⟨g, 0, none⟩), .agg #[.int .i64 k, .int .i64 n, .string s, .slice A ks.length a, .slice B es.length bb], .int .i64 lv] w (AddPost g (addL es (lv + 1) (max d (lv + 1)) (m + 1) b2) w) := by
  have hg : g < w.heap.size := hbox.lt
  have hgne : ¬ g = w.heap.size := by omega
  have HX := Lib.hid hbox
  have HA := Lib.hid hA
  have HB := Lib.hid hB
  have HL := Lib.hid hL
  have IH := Lib.hid ih
  have HS := Lib.hid hS
  have H2 := Lib.hid h2
  obtain ⟨gc0, gc1, gc2, gf0, gf1, gf2⟩ := box3 hbox
  clear hA hB hL ih hS h2 hbox
  have hW0 : Hid (St g w.heap.size #[.int .i64 k, .int .i64 n, .string s, .slice A ks.length a, .slice B es.length bb] w d (m + 1) b ((w.setCell ⟨g, 1, none⟩ (.int .i64 (m + 1))).alloc (.cells #[.int .i64 k, .int .i64 n, .string s, .slice A ks.length a, .slice B es.length bb] 27))) :=
    Lib.hid ⟨grown_trans (grown_set _ _ _ _) (Gd.alloc_ _ _ _), (HX.out.put 1 _).alloc _, by have := Box.laid (w.setCell ⟨g, 1, none⟩ (.int .i64 (m + 1))) 27 #[.int .i64 k, .int .i64 n, .string s, .slice A ks.length a, .slice B es.length bb]; simpa using this⟩
  have hfit := Lib.hid (fun W => fits_any k n s A B ks.length es.length a bb W h1 h3 h4)
  rw [hfv] at hfit
  generalize hq : addL es (lv + 1) (max d (lv + 1)) (m + 1) b2 = r
  have hr := Lib.hid hq
  clear hq hfv
  obtain ⟨hb20, hb21⟩ := keysP_bd hle hkk
  rcases hk2 with hk5 | ⟨hk5, hk6⟩
  all_goals
    go_enter Try.func51, Try.ntmps51
    go_wp2_with fail
    refine (hfit.out _).mono ?_
    rintro e1 w1 ⟨rfl, hb1⟩
    have hs1 := Lib.hid (hW0.out.below hb1 hgne)
    obtain ⟨p0, p1, p2, p3, p4⟩ := box5 hs1.out.own
    obtain ⟨gc0, gc1, gc2, gf0, gf1, gf2⟩ := box3 hs1.out.box
    have hcall := Lib.hid (addString_any g d (m + 1) b s w1 hs1.out.box h1 b0 b1)
    rw [hok] at hcall
    clear hok
    go_wp2_with fail
    refine hcall.out.mono ?_
    rintro e2 w2 ⟨rfl, rfl⟩
    have hs3 := Lib.hid ((hs1.out.str hgne (b + s.size)).dep hgne (max d (lv + 1)))
    have hk3 := Lib.hid (addKeys_any g (max d (lv + 1)) (m + 1) (b + s.size) A a ks S _ hs3.out.box (HA.out.move fun b hb => ⟨hb, hs3.out.gr.block b (HS.out b hb).1 (fun e => (HS.out b hb).2 (by injection e with e))⟩) (fun b hb => ⟨Nat.lt_of_lt_of_le (HS.out b hb).1 hs3.out.gr.size, (HS.out b hb).2⟩) H2.out h3 (by omega) hle)
    rw [hkk] at hk3
    clear hkk
    go_wp2_with fail
    refine hk3.out.mono ?_
    rintro e3 w3 ⟨hg3, rfl, hbox3⟩
    have hs4 := Lib.hid (hs3.out.keys hgne hg3 hbox3)
    clear gc0 gc1 gc2 gf0 gf1 gf2 p0 p1 p2 p3 p4
    obtain ⟨p0, p1, p2, p3, p4⟩ := box5 hs4.out.own
    clear hg3 hbox3
    go_wp2_with fail
    go_loopw [70] (fun t wr => ∃ (i : Nat) (d' m' b' : Int), i ≤ es.length ∧ t = .int .i64 i ∧ (0 ≤ d' ∧ d' ≤ 32 ∧ 0 ≤ m' ∧ m' ≤ 4096 ∧ 0 ≤ b' ∧ b' ≤ 65536) ∧ addL (es.drop i) (lv + 1) d' m' b' = r ∧ Box wr g 66 #[.int .i64 d', .int .i64 m', .int .i64 b'] ∧ Gd w wr (some g)) (fun t _ => es.length - (intOf t).toNat)
    case atStart => exact ⟨0, _, _, _, Nat.zero_le _, rfl, ⟨by omega, by omega, by omega, hm, by omega, hb21⟩, hr.out, hs4.out.box, hs4.out.gr⟩
    case round =>
      obtain ⟨i, d', m', b', hi, rfl, ⟨x0, x1, x2, x3, x4, x5⟩, hr0, hbox0, hgr0⟩ := hrel
      have HR := Lib.hid hr0
      have HB' := Lib.hid hbox0
      have HG := Lib.hid hgr0
      have hgl : g < wr.heap.size := hbox0.lt
      clear hr0 hbox0 hgr0
      by_cases hlt : i < es.length
      · obtain ⟨e, he⟩ : ∃ e, es[i]? = some e := ⟨_, List.getElem?_eq_getElem hlt⟩
        obtain ⟨ek, en, es', eks, ees⟩ := e
        obtain ⟨b0, o0, eA, ea, eC, ec, rfl, hb0, hle, c0, c1, c2, c3, c4⟩ := elem_open HB.out HL.out he
        have hbn : some b0 ≠ some g := fun e => (HS.out b0 hb0).2 (by injection e)
        have q0 := HG.out.cell c0 hbn
        have q1 := HG.out.cell c1 hbn
        have q2 := HG.out.cell c2 hbn
        have q3 := HG.out.cell c3 hbn
        have q4 := HG.out.cell c4 hbn
        clear c0 c1 c2 c3 c4 hbn p0 p1 p2 p3 p4
        have hcall := Lib.hid (IH.out _ (List.mem_of_getElem? he) g (lv + 1) d' m' b' [.int .i64 ek, .int .i64 en, .string es', .slice eA eks.length ea, .slice eC ees.length ec] S (wr.alloc (.cells #[.int .i64 ek, .int .i64 en, .string es', .slice eA eks.length ea, .slice eC ees.length ec] 27)) (HB'.out.alloc _)
          (hle.move fun b hb => ⟨hb, (Go.RowKit.Below.heap_alloc wr _ b (Nat.lt_of_lt_of_le (HS.out b hb).1 HG.out.size)).trans (HG.out.block b (HS.out b hb).1 (fun e => (HS.out b hb).2 (by injection e with e)))⟩)
          (fun b hb => ⟨by have := (HS.out b hb).1; have := HG.out.size; simp; omega, (HS.out b hb).2⟩) (by omega) (by omega) x0 x1 x2 x3 x4 x5)
        clear hle
        cases hap : addP (.mk ek en es' eks ees) (lv + 1) d' m' b' with
        | none =>
          rw [hap] at hcall
          have hst := Lib.hid ((addL_none he hap).symm.trans HR.out)
          clear he hap
          go_wp2_with fail
          refine hcall.out.mono ?_
          rintro e3 w3 ⟨hg3, rfl⟩
          go_wp2
          go_ret
          rw [← hst.out]
          exact ⟨grown_trans HG.out (grown_one hg3), rfl⟩
        | some q =>
          obtain ⟨d2, m2, b2⟩ := q
          rw [hap] at hcall
          have hbd := addP_bd _ (lv + 1) d' m' b' d2 m2 b2 (by omega) (by omega) x0 x1 x2 x3 x4 x5 hap
          obtain ⟨⟨y0, y1⟩, ⟨y2, y3⟩, y4, y5⟩ := hbd
          have hst := Lib.hid ((addL_some he hap).symm.trans HR.out)
          clear he hap
          go_wp2_with fail
          refine hcall.out.mono ?_
          rintro e3 w3 ⟨hg3, rfl, hbox3⟩
          have HB3 := Lib.hid hbox3
          have HG3 := Lib.hid hg3
          clear hbox3 hg3
          go_wp2
          go_roundw
          case rel => exact ⟨i + 1, d2, m2, b2, by omega, by go_num, ⟨y0, y1, by omega, y3, by omega, y5⟩, hst.out, HB3.out, grown_trans HG.out (grown_one HG3.out)⟩
          case measure => simp [intOf]; omega
      · have hend : Hid (some (d', m', b') = r) := Lib.hid (by rw [← HR.out, List.drop_eq_nil_of_le (by omega), addL])
        go_wp2
        go_ret
        rw [← hend.out]
        exact ⟨HG.out, rfl, HB'.out⟩
set_option maxHeartbeats 4000000 in
set_option maxRecDepth 100000 in
theorem add_any : ∀ v : V, AddOk v := by
  refine V.ind fun k n s ks es ih g lv d m b cs S w hbox h hS l0 l1 d0 d1 m0 m1 b0 b1 => ?_
  have hf := lies_fit _ _ h
  rw [V.Fit] at hf
  obtain ⟨h1, h2, h3, h4, _⟩ := hf
  obtain ⟨A, a, B, bb, xs, rfl, hAn, hBn, ⟨ha1, ha2⟩, ⟨hb1, hb2⟩, hA, hB, hL⟩ := lies_open h
  have hg : g < w.heap.size := hbox.lt
  have hgne : ¬ g = w.heap.size := by omega
  have HX := Lib.hid hbox
  have HA := Lib.hid hA
  have HB := Lib.hid hB
  have HL := Lib.hid hL
  have IH := Lib.hid ih
  have HS := Lib.hid hS
  have H2 := Lib.hid h2
  obtain ⟨gc0, gc1, gc2, gf0, gf1, gf2⟩ := box3 hbox
  clear hA hB hL ih hS h2 h hbox hAn hBn
  generalize hq : addP (.mk k n s ks es) lv d m b = r
  have HQ := Lib.hid hq
  clear hq
  show Calls _ _ #[.pointer (some ⟨g, 0, none⟩), .agg #[.int .i64 k, .int .i64 n, .string s, .slice A ks.length a, .slice B es.length bb], .int .i64 lv] w _
  have hW0 : Hid (St g w.heap.size #[.int .i64 k, .int .i64 n, .string s, .slice A ks.length a, .slice B es.length bb] w d (m + 1) b ((w.setCell ⟨g, 1, none⟩ (.int .i64 (m + 1))).alloc (.cells #[.int .i64 k, .int .i64 n, .string s, .slice A ks.length a, .slice B es.length bb] 27))) :=
    Lib.hid ⟨grown_trans (grown_set _ _ _ _) (Gd.alloc_ _ _ _), (HX.out.put 1 _).alloc _, by have := Box.laid (w.setCell ⟨g, 1, none⟩ (.int .i64 (m + 1))) 27 #[.int .i64 k, .int .i64 n, .string s, .slice A ks.length a, .slice B es.length bb]; simpa using this⟩
  by_cases hm : m + 1 ≤ 4096
  · have hfit := Lib.hid (fun W => fits_any k n s A B ks.length es.length a bb W h1 h3 h4)
    cases hfv : fits k n s ks.length es.length with
    | false =>
      rw [hfv] at hfit
      have hr : Hid (none = r) := Lib.hid (by rw [← HQ.out, addP, if_pos (.inr (.inl hfv))])
      clear hfv
      go_enter Try.func51, Try.ntmps51
      go_wp2_with fail
      refine (hfit.out _).mono ?_
      rintro e1 w1 ⟨rfl, hb1⟩
      have h1 := Lib.hid (hW0.out.below hb1 hgne)
      go_wp2_with fail
      go_ret
      rw [← hr.out]
      exact ⟨h1.out.gr, rfl⟩
    | true =>
      rw [hfv] at hfit
      cases hok : strOk s b with
      | false =>
        have hr : Hid (none = r) := Lib.hid (by rw [← HQ.out, addP, if_pos (.inr (.inr hok))])
        clear hfv
        go_enter Try.func51, Try.ntmps51
        go_wp2_with fail
        refine (hfit.out _).mono ?_
        rintro e1 w1 ⟨rfl, hb1⟩
        have hs1 := Lib.hid (hW0.out.below hb1 hgne)
        obtain ⟨p0, p1, p2, p3, p4⟩ := box5 hs1.out.own
        obtain ⟨gc0, gc1, gc2, gf0, gf1, gf2⟩ := box3 hs1.out.box
        have hcall := Lib.hid (addString_any g d (m + 1) b s w1 hs1.out.box h1 b0 b1)
        rw [hok] at hcall
        clear hok
        go_wp2_with fail
        refine hcall.out.mono ?_
        rintro e2 w2 ⟨rfl, rfl⟩
        go_wp2_with fail
        go_ret
        rw [← hr.out]
        exact ⟨grown_trans hs1.out.gr (grown_set _ _ _ _), rfl⟩
      | true =>
        have hle : b + s.size ≤ 65536 := by simp [strOk] at hok; omega
        by_cases hk : k = 5 ∨ k = 6
        · have hnc : ¬ (4096 < m + 1 ∨ fits k n s ks.length es.length = false ∨ strOk s b = false) := by
            rintro (h | h | h)
            · omega
            · rw [hfv] at h; cases h
            · rw [hok] at h; cases h
          have hr1 : Hid ((if 32 < lv + 1 ∨ 1024 < es.length then none else match keysP ks none (b + s.size) with | none => none | some b' => addL es (lv + 1) (max d (lv + 1)) (m + 1) b') = r) := Lib.hid (by
            have e := HQ.out
            rw [addP, if_neg hnc, if_neg (by omega)] at e
            exact e)
          have hk2 : (k != 5) = false ∨ ((k != 5) = true ∧ (k != 6) = false) := by rcases hk with rfl | rfl <;> simp
          have hfv' := hfv
          clear hnc hk hfv
          by_cases hlv : lv + 1 ≤ 32
          · by_cases hel : es.length ≤ 1024
            · have hr2 := Lib.hid ((if_neg (by omega)).symm.trans hr1.out)
              cases hkk : keysP ks none (b + s.size) with
              | none =>
                have hr : Hid (none = r) := Lib.hid (by rw [← hr2.out, hkk])
                rcases hk2 with hk5 | ⟨hk5, hk6⟩
                all_goals
                  go_enter Try.func51, Try.ntmps51
                  go_wp2_with fail
                  refine (hfit.out _).mono ?_
                  rintro e1 w1 ⟨rfl, hb1⟩
                  have hs1 := Lib.hid (hW0.out.below hb1 hgne)
                  obtain ⟨p0, p1, p2, p3, p4⟩ := box5 hs1.out.own
                  obtain ⟨gc0, gc1, gc2, gf0, gf1, gf2⟩ := box3 hs1.out.box
                  have hcall := Lib.hid (addString_any g d (m + 1) b s w1 hs1.out.box h1 b0 b1)
                  rw [hok] at hcall
                  clear hok
                  go_wp2_with fail
                  refine hcall.out.mono ?_
                  rintro e2 w2 ⟨rfl, rfl⟩
                  have hs3 := Lib.hid ((hs1.out.str hgne (b + s.size)).dep hgne (max d (lv + 1)))
                  have hk3 := Lib.hid (addKeys_any g (max d (lv + 1)) (m + 1) (b + s.size) A a ks S _ hs3.out.box (HA.out.move fun b hb => ⟨hb, hs3.out.gr.block b (HS.out b hb).1 (fun e => (HS.out b hb).2 (by injection e with e))⟩) (fun b hb => ⟨Nat.lt_of_lt_of_le (HS.out b hb).1 hs3.out.gr.size, (HS.out b hb).2⟩) H2.out h3 (by omega) hle)
                  rw [hkk] at hk3
                  clear hkk
                  go_wp2_with fail
                  refine hk3.out.mono ?_
                  rintro e3 w3 ⟨hg3, rfl⟩
                  go_wp2_with fail
                  go_ret
                  rw [← hr.out]
                  exact ⟨grown_trans hs3.out.gr hg3, rfl⟩
              | some b2 =>
                have hr : Hid (addL es (lv + 1) (max d (lv + 1)) (m + 1) b2 = r) := Lib.hid (by rw [← hr2.out, hkk])
                rw [← hr.out]
                exact add_loop k n s ks es IH.out g lv d m b b2 A B a bb xs S w HX.out HA.out HB.out HL.out HS.out h1 H2.out h3 h4 l0 hlv d0 d1 m0 hm b0 b1 hle hel hfv' hok hkk hk2
            · have hr : Hid (none = r) := Lib.hid (by rw [← hr1.out, if_pos (.inr (by omega))])
              rcases hk2 with hk5 | ⟨hk5, hk6⟩
              all_goals
                go_enter Try.func51, Try.ntmps51
                go_wp2_with fail
                refine (hfit.out _).mono ?_
                rintro e1 w1 ⟨rfl, hb1⟩
                have hs1 := Lib.hid (hW0.out.below hb1 hgne)
                obtain ⟨p0, p1, p2, p3, p4⟩ := box5 hs1.out.own
                obtain ⟨gc0, gc1, gc2, gf0, gf1, gf2⟩ := box3 hs1.out.box
                have hcall := Lib.hid (addString_any g d (m + 1) b s w1 hs1.out.box h1 b0 b1)
                rw [hok] at hcall
                clear hok
                go_wp2_with fail
                refine hcall.out.mono ?_
                rintro e2 w2 ⟨rfl, rfl⟩
                have hs3 := Lib.hid ((hs1.out.str hgne (b + s.size)).dep hgne (max d (lv + 1)))
                go_wp2_with fail
                go_ret
                rw [← hr.out]
                exact ⟨hs3.out.gr, rfl⟩
          · have hr : Hid (none = r) := Lib.hid (by rw [← hr1.out, if_pos (.inl (by omega))])
            rcases hk2 with hk5 | ⟨hk5, hk6⟩
            all_goals
              go_enter Try.func51, Try.ntmps51
              go_wp2_with fail
              refine (hfit.out _).mono ?_
              rintro e1 w1 ⟨rfl, hb1⟩
              have hs1 := Lib.hid (hW0.out.below hb1 hgne)
              obtain ⟨p0, p1, p2, p3, p4⟩ := box5 hs1.out.own
              obtain ⟨gc0, gc1, gc2, gf0, gf1, gf2⟩ := box3 hs1.out.box
              have hcall := Lib.hid (addString_any g d (m + 1) b s w1 hs1.out.box h1 b0 b1)
              rw [hok] at hcall
              clear hok
              go_wp2_with fail
              refine hcall.out.mono ?_
              rintro e2 w2 ⟨rfl, rfl⟩
              have hs3 := Lib.hid ((hs1.out.str hgne (b + s.size)).dep hgne (max d (lv + 1)))
              go_wp2_with fail
              go_ret
              rw [← hr.out]
              exact ⟨hs3.out.gr, rfl⟩
        · have hr : Hid (some (d, m + 1, b + (s.size : Int)) = r) := Lib.hid (by
            rw [← HQ.out, addP, if_neg (by rintro (h | h | h); · omega
                                           · rw [hfv] at h; cases h
                                           · rw [hok] at h; cases h), if_pos (by omega)])
          have hk5 : (k != 5) = true := by simp; omega
          have hk6 : (k != 6) = true := by simp; omega
          clear hfv hk
          go_enter Try.func51, Try.ntmps51
          go_wp2_with fail
          refine (hfit.out _).mono ?_
          rintro e1 w1 ⟨rfl, hb1⟩
          have hs1 := Lib.hid (hW0.out.below hb1 hgne)
          obtain ⟨p0, p1, p2, p3, p4⟩ := box5 hs1.out.own
          obtain ⟨gc0, gc1, gc2, gf0, gf1, gf2⟩ := box3 hs1.out.box
          have hcall := Lib.hid (addString_any g d (m + 1) b s w1 hs1.out.box h1 b0 b1)
          rw [hok] at hcall
          clear hok
          go_wp2_with fail
          refine hcall.out.mono ?_
          rintro e2 w2 ⟨rfl, rfl⟩
          go_wp2_with fail
          go_ret
          rw [← hr.out]
          exact ⟨grown_trans hs1.out.gr (grown_set _ _ _ _), rfl, hs1.out.box.put 2 _⟩
  · have hr : Hid (none = r) := Lib.hid (by rw [← HQ.out, addP, if_pos (.inl (by omega))])
    go_enter Try.func51, Try.ntmps51
    go_wp2_with fail
    go_ret
    rw [← hr.out]
    exact ⟨hW0.out.gr, rfl⟩
set_option maxHeartbeats 1000000 in
set_option maxRecDepth 100000 in
theorem measure_any (v : V) (cs : List Value) (w : World) (h : Lies w (· < w.heap.size) v cs) :
    Calls Try.prog 40 #[.agg cs.toArray] w fun e w' => e = .returned (measV (meas v)) ∧ Below w.heap.size w w' := by
  generalize hq : meas v = o
  have HQ := Lib.hid hq
  clear hq
  have hl := Lib.hid h
  obtain ⟨k, n, s, ks, es⟩ := v
  obtain ⟨A, a, B, b, xs, rfl, _⟩ := lies_open h
  clear h
  show Calls _ _ #[.agg #[.int .i64 k, .int .i64 n, .string s, .slice A ks.length a, .slice B es.length b]] w _
  have hbx : ∀ (x y z : Obj), Lies (((w.alloc x).alloc y).alloc z) (· < w.heap.size) (.mk k n s ks es) [.int .i64 k, .int .i64 n, .string s, .slice A ks.length a, .slice B es.length b] := fun x y z =>
    hl.out.move fun i hi => ⟨hi, by rw [Go.RowKit.Below.heap_alloc _ _ _ (by simp; omega), Go.RowKit.Below.heap_alloc _ _ _ (by simp; omega), Go.RowKit.Below.heap_alloc _ _ _ hi]⟩
  have HL := Lib.hid hbx
  clear hbx
  have hcall : ∀ x y : Obj, Calls Try.prog 51 #[.pointer (some ⟨w.heap.size + 2, 0, none⟩), .agg #[.int .i64 k, .int .i64 n, .string s, .slice A ks.length a, .slice B es.length b], .int .i64 0]
      (((w.alloc x).alloc y).alloc (.cells #[.int .i64 0, .int .i64 0, .int .i64 0] 66)) (AddPost (w.heap.size + 2) o (((w.alloc x).alloc y).alloc (.cells #[.int .i64 0, .int .i64 0, .int .i64 0] 66))) := by
    intro x y
    have hb := Box.laid ((w.alloc x).alloc y) 66 #[.int .i64 0, .int .i64 0, .int .i64 0]
    have e : ((w.alloc x).alloc y).heap.size = w.heap.size + 2 := by simp
    rw [e] at hb
    rw [← HQ.out]
    exact add_any (.mk k n s ks es) (w.heap.size + 2) 0 0 0 0 [.int .i64 k, .int .i64 n, .string s, .slice A ks.length a, .slice B es.length b] (· < w.heap.size) _ hb (HL.out _ _ _) (fun b hb => ⟨by simp; omega, by omega⟩) (by omega) (by omega) (by omega) (by omega) (by omega) (by omega) (by omega) (by omega)
  have HC := Lib.hid hcall
  clear hcall
  cases o with
  | none =>
    go_enter Try.func40, Try.ntmps40
    go_wp2_with fail
    refine (HC.out _ _).mono ?_
    rintro e1 w1 ⟨hg, rfl⟩
    have hsz : w.heap.size + 2 < w1.heap.size := by have := hg.size; simp at this; omega
    have hres : Hid (Box w1 (w.heap.size + 1) 66 #[.int .i64 0, .int .i64 0, .int .i64 0]) := Lib.hid (by
      have h1 := Box.laid (w.alloc (.cells #[.int .i64 k, .int .i64 n, .string s, .slice A ks.length a, .slice B es.length b] 27)) 66 #[.int .i64 0, .int .i64 0, .int .i64 0]
      have e : (w.alloc (.cells #[.int .i64 k, .int .i64 n, .string s, .slice A ks.length a, .slice B es.length b] 27)).heap.size = w.heap.size + 1 := by simp
      rw [e] at h1
      exact (h1.alloc _).grownd hg (by simp))
    have hb : Hid (Below w.heap.size w w1) := Lib.hid (((((Below.refl _ _).alloc (Nat.le_refl _) _).alloc (by simp) _).alloc (by simp; omega) _).trans ((grown_below hg (by simp)).mono (by omega)))
    obtain ⟨r0, r1, r2, f0, f1, f2⟩ := box3 hres.out
    go_wp2_with fail
    refine bodyPost_ret (v := .tuple #[.agg #[.int .i64 0, .int .i64 0, .int .i64 0], .bool false]) (by simp [results, Try.results40, go_sem, r0, r1, r2]) rfl ⟨rfl, ?_⟩
    exact ((hb.out.setCell (by simp) _).setCell (by simp) _).setCell (by simp) _
  | some q =>
    obtain ⟨d, m, c⟩ := q
    go_enter Try.func40, Try.ntmps40
    go_wp2_with fail
    refine (HC.out _ _).mono ?_
    rintro e1 w1 ⟨hg, rfl, hbx⟩
    have hsz : w.heap.size + 2 < w1.heap.size := by have := hg.size; simp at this; omega
    have hres : Hid (Box w1 (w.heap.size + 1) 66 #[.int .i64 0, .int .i64 0, .int .i64 0]) := Lib.hid (by
      have h1 := Box.laid (w.alloc (.cells #[.int .i64 k, .int .i64 n, .string s, .slice A ks.length a, .slice B es.length b] 27)) 66 #[.int .i64 0, .int .i64 0, .int .i64 0]
      have e : (w.alloc (.cells #[.int .i64 k, .int .i64 n, .string s, .slice A ks.length a, .slice B es.length b] 27)).heap.size = w.heap.size + 1 := by simp
      rw [e] at h1
      exact (h1.alloc _).grownd hg (by simp))
    have hb : Hid (Below w.heap.size w w1) := Lib.hid (((((Below.refl _ _).alloc (Nat.le_refl _) _).alloc (by simp) _).alloc (by simp; omega) _).trans ((grown_below hg (by simp)).mono (by omega)))
    obtain ⟨r0, r1, r2, f0, f1, f2⟩ := box3 hres.out
    obtain ⟨q0, q1, q2, _, _, _⟩ := box3 hbx
    clear hbx
    go_wp2_with fail
    refine bodyPost_ret (v := .tuple #[.agg #[.int .i64 d, .int .i64 m, .int .i64 c], .bool true]) (by simp [results, Try.results40, go_sem, r0, r1, r2]) rfl ⟨rfl, ?_⟩
    exact ((hb.out.setCell (by simp) _).setCell (by simp) _).setCell (by simp) _
set_option maxHeartbeats 1000000 in
set_option maxRecDepth 100000 in
theorem valid_any (v : V) (cs : List Value) (w : World) (h : Lies w (· < w.heap.size) v cs) :
    Calls Try.prog 26 #[.agg cs.toArray] w fun e w' => e = .returned (.bool (valid v)) ∧ Below w.heap.size w w' := by
  have HC : Hid (∀ W, Below w.heap.size w W → Calls Try.prog 40 #[.agg cs.toArray] W fun e w' => e = .returned (measV (meas v)) ∧ Below W.heap.size W w') := Lib.hid fun W hW => measure_any v cs W (below_lies hW h)
  obtain ⟨k, n, s, ks, es⟩ := v
  obtain ⟨A, a, B, b, xs, rfl, _⟩ := lies_open h
  clear h
  show Calls _ _ #[.agg #[.int .i64 k, .int .i64 n, .string s, .slice A ks.length a, .slice B es.length b]] w _
  generalize hq : V.mk k n s ks es = v at HC ⊢
  clear hq
  unfold valid
  generalize meas v = o at HC ⊢
  rcases o with _ | ⟨d, m, c⟩
  all_goals
    simp only [measV] at HC
    go_enter Try.func26, Try.ntmps26
    go_wp2_with fail
    refine (HC.out _ ((Below.refl _ _).alloc (Nat.le_refl _) _)).mono ?_
    rintro e1 w1 ⟨rfl, hb⟩
    have hb2 := Lib.hid (((Below.refl w.heap.size w).alloc (Nat.le_refl _) _).trans (hb.mono (by simp)))
    go_wp2_with fail
    go_ret
    exact ⟨rfl, hb2.out.alloc (hb2.out.size) _⟩
/-- A world that parts from w0 above block B alone. -/
structure Calm (B : Nat) (w0 : World) where
  val : World
  below : Below B w0 val
instance {B : Nat} {w0 : World} : Nonempty (Calm B w0) := ⟨⟨w0, Below.refl _ _⟩⟩
theorem wp_region_calm {P : Program} {id : Nat} {Q : Exit → Act → World → Prop} {a : Act} {w w0 : World} {B : Nat} {l : List Oper} (hm : P.follows .mixedOrders = true) (hB : Region.lexB .any l.toArray = true) (hC : Below B w0 w)
    (h : wpQuiet P l.toArray (fun w' => ∃ u : Calm B w0, w' = u.val) (fun a' => ∀ w', (∃ u : Calm B w0, w' = u.val) → Q .normal a' w') l a) : (Code.region id l.toArray true).wp P Q a w :=
  wp_region_quiet (C := fun w' => ∃ u : Calm B w0, w' = u.val) hm hB ⟨⟨_, hC.drew⟩, rfl⟩ (by simpa using h)
/-- A callee's contract, met in such a world. -/
theorem Calm.call {P : Program} {f : FuncId} {args : Array Value} {B : Nat} {w0 : World} {u : Calm B w0} {v : Value} (hB : B ≤ w0.heap.size) (h : Calls P f args u.val fun e w' => e = .returned v ∧ Below u.val.heap.size u.val w') :
    Calls P f args u.val fun e w'' => e = .returned v ∧ ∃ u' : Calm B w0, w'' = u'.val :=
  h.mono fun _ w' ⟨he, hb⟩ => ⟨he, ⟨w', u.below.trans (hb.mono (Nat.le_trans hB u.below.size))⟩, rfl⟩
theorem Calm.cell {B : Nat} {w0 : World} (u : Calm B w0) {b i : Nat} (hlt : b < B) {x : Value} (h : w0.cell? ⟨b, i, none⟩ = some x) : u.val.cell? ⟨b, i, none⟩ = some x := (u.below.cell (p := ⟨b, i, none⟩) hlt).trans h
def CmpOk (v : V) : Prop := ∀ (u : V) (cs ds : List Value) (w : World), Lies w (· < w.heap.size) v cs → Lies w (· < w.heap.size) u ds →
  Calls Try.prog 44 #[.agg cs.toArray, .agg ds.toArray] w fun e w' => e = .returned (.int .i64 (vcmp v u)) ∧ Below w.heap.size w w'
theorem calm_lies {w : World} (u : Calm w.heap.size w) {v : V} {cs : List Value} (h : Lies w (· < w.heap.size) v cs) : Lies u.val (· < u.val.heap.size) v cs := below_lies u.below h
/-- The two boxes that a call lays first. -/
theorem box_two {w w' : World} {cs ds : Array Value} {t : TypeId} (hb : Below (w.heap.size + 2) ((w.alloc (.cells cs t)).alloc (.cells ds t)) w') (i : Nat) : w'.cell? ⟨w.heap.size, i, none⟩ = cs[i]? ∧ w'.cell? ⟨w.heap.size + 1, i, none⟩ = ds[i]? := by
  refine ⟨?_, ?_⟩
  · rw [hb.cell (p := ⟨w.heap.size, i, none⟩) (by show w.heap.size < _; omega)]
    have h1 : Box ((w.alloc (.cells cs t)).alloc (.cells ds t)) w.heap.size t cs := (Box.laid w t cs).alloc _
    exact cell_of_row _ _ i cs t (0, 0) h1
  · rw [hb.cell (p := ⟨w.heap.size + 1, i, none⟩) (by show w.heap.size + 1 < _; omega)]
    have h1 : Box ((w.alloc (.cells cs t)).alloc (.cells ds t)) (w.alloc (.cells cs t)).heap.size t ds := Box.laid _ t ds
    have e : (w.alloc (.cells cs t)).heap.size = w.heap.size + 1 := by simp
    rw [e] at h1
    exact cell_of_row _ _ i ds t (0, 0) h1
theorem below_two {w w' : World} {o p : Obj} (hb : Below (w.heap.size + 2) ((w.alloc o).alloc p) w') : Below w.heap.size w w' := (below2 w o p).trans (hb.mono (by omega))
set_option maxHeartbeats 2000000 in
set_option maxRecDepth 100000 in
theorem compare_any : ∀ v : V, CmpOk v := by
  refine V.ind fun k n s ks es ih u cs ds w h1 h2 => ?_
  cases u with
  | mk k' n' s' ks' es' =>
    have hf := lies_fit _ _ h1
    have hg := lies_fit _ _ h2
    rw [V.Fit] at hf hg
    obtain ⟨_, _, f3, f4, _⟩ := hf
    obtain ⟨_, _, g3, g4, _⟩ := hg
    obtain ⟨A, a, B, b, xs, rfl, _, _, _, _, hA, hB, hL⟩ := lies_open h1
    obtain ⟨A', a', B', b', ys, rfl, _, _, _, _, hA', hB', hL'⟩ := lies_open h2
    have HS := Lib.hid (fun (W : World) (hb : Below w.heap.size w W) => slcmp_any A A' a a' ks ks' (· < w.heap.size) (· < w.heap.size) W (hA.move fun b h => ⟨h, hb.block b h⟩) (hA'.move fun b h => ⟨h, hb.block b h⟩) (by unfold maxLen; omega) (by unfold maxLen; omega))
    have HB := Lib.hid hB
    have HL := Lib.hid hL
    have HB' := Lib.hid hB'
    have HL' := Lib.hid hL'
    have IH := Lib.hid ih
    have hv : Hid (vcmp (.mk k n s ks es) (.mk k' n' s' ks' es') = if icmp k k' = 0 then (if icmp n n' = 0 then (if scmp s s' = 0 then (if kcmp ks ks' = 0 then vcmpL es es' else kcmp ks ks') else scmp s s') else icmp n n') else icmp k k') := Lib.hid (by rw [vcmp])
    clear hA hB hL hA' hB' hL' h1 h2 ih
    show Calls _ _ #[.agg #[.int .i64 k, .int .i64 n, .string s, .slice A ks.length a, .slice B es.length b], .agg #[.int .i64 k', .int .i64 n', .string s', .slice A' ks'.length a', .slice B' es'.length b']] w _
    have hse := same_eq s s'
    by_cases c1 : k = k'
    · subst c1
      by_cases c2 : n = n'
      · subst c2
        by_cases c3 : s = s'
        · subst c3
          clear hse
          have hv1 : Hid (vcmp (.mk k n s ks es) (.mk k n s ks' es') = if kcmp ks ks' = 0 then vcmpL es es' else kcmp ks ks') := Lib.hid (by rw [hv.out, if_pos (icmp_zero.2 rfl), if_pos (icmp_zero.2 rfl), if_pos (scmp_self _)])
          by_cases c4 : kcmp ks ks' = 0
          · have hv2 := Lib.hid (hv1.out.trans (if_pos c4))
            have hq : ((kcmp ks ks') != 0) = false := by simp [c4]
            clear c4
            go_enter Try.func44, Try.ntmps44
            go_wp2_with fail
            refine (HS.out _ (below2 _ _ _)).mono ?_
            rintro e' w' ⟨rfl, rfl⟩
            go_wp2_with fail
            go_loopw [56] (fun t wr => ∃ i : Nat, i ≤ es.length ∧ i ≤ es'.length ∧ t = .int .i64 i ∧ vcmpL es es' = vcmpL (es.drop i) (es'.drop i) ∧ Below (w.heap.size + 2) ((w.alloc (.cells #[.int .i64 k, .int .i64 n, .string s, .slice A ks.length a, .slice B es.length b] 27)).alloc (.cells #[.int .i64 k, .int .i64 n, .string s, .slice A' ks'.length a', .slice B' es'.length b'] 27)) wr) (fun t _ => es.length - (intOf t).toNat)
            case atStart => exact ⟨0, Nat.zero_le _, Nat.zero_le _, rfl, rfl, Below.refl _ _⟩
            case round =>
              obtain ⟨i, hi, hj, rfl, he0, hbel0⟩ := hrel
              have HE := Lib.hid he0
              have HBL := Lib.hid hbel0
              have p4 := (box_two hbel0 4).1
              have p4' := (box_two hbel0 4).2
              simp only [List.getElem?_toArray, List.getElem?_cons_succ, List.getElem?_cons_zero] at p4 p4'
              clear he0 hbel0
              by_cases hlt : i < es.length ∧ i < es'.length
              · obtain ⟨hlt1, hlt2⟩ := hlt
                obtain ⟨x, hx⟩ : ∃ x, es[i]? = some x := ⟨_, List.getElem?_eq_getElem hlt1⟩
                obtain ⟨y, hy⟩ : ∃ y, es'[i]? = some y := ⟨_, List.getElem?_eq_getElem hlt2⟩
                obtain ⟨xk, xn, xs', xks, xes⟩ := x
                obtain ⟨yk, yn, ys', yks, yes⟩ := y
                obtain ⟨b0, o0, xA, xa, xC, xc, rfl, hb0, hlx, c0, c1, c2, c3, c4⟩ := elem_open HB.out HL.out hx
                obtain ⟨b1, o1, yA, ya, yC, yc, rfl, hb1, hly, d0, d1, d2, d3, d4⟩ := elem_open HB'.out HL'.out hy
                have HBO := Lib.hid (below_two HBL.out)
                have g0 : w.heap.size < wr.heap.size := by have := HBL.out.size; simp at this; omega
                have g1 : w.heap.size + 1 < wr.heap.size := by have := HBL.out.size; simp at this; omega
                have gb0 : b0 < wr.heap.size := by omega
                have gb1 : b1 < wr.heap.size := by omega
                have m0 := fun u : Calm wr.heap.size wr => u.cell g0 p4
                have m1 := fun u : Calm wr.heap.size wr => u.cell g1 p4'
                have e0 := fun u : Calm wr.heap.size wr => u.cell gb0 (below_cell HBO.out hb0 c0)
                have e1 := fun u : Calm wr.heap.size wr => u.cell gb0 (below_cell HBO.out hb0 c1)
                have e2 := fun u : Calm wr.heap.size wr => u.cell gb0 (below_cell HBO.out hb0 c2)
                have e3 := fun u : Calm wr.heap.size wr => u.cell gb0 (below_cell HBO.out hb0 c3)
                have e4 := fun u : Calm wr.heap.size wr => u.cell gb0 (below_cell HBO.out hb0 c4)
                have f0 := fun u : Calm wr.heap.size wr => u.cell gb1 (below_cell HBO.out hb1 d0)
                have f1 := fun u : Calm wr.heap.size wr => u.cell gb1 (below_cell HBO.out hb1 d1)
                have f2 := fun u : Calm wr.heap.size wr => u.cell gb1 (below_cell HBO.out hb1 d2)
                have f3 := fun u : Calm wr.heap.size wr => u.cell gb1 (below_cell HBO.out hb1 d3)
                have f4 := fun u : Calm wr.heap.size wr => u.cell gb1 (below_cell HBO.out hb1 d4)
                clear c0 c1 c2 c3 c4 d0 d1 d2 d3 d4
                have hcall := Lib.hid (fun u : Calm wr.heap.size wr => IH.out _ (List.mem_of_getElem? hx) (.mk yk yn ys' yks yes) [.int .i64 xk, .int .i64 xn, .string xs', .slice xA xks.length xa, .slice xC xes.length xc] [.int .i64 yk, .int .i64 yn, .string ys', .slice yA yks.length ya, .slice yC yes.length yc] u.val (calm_lies u (below_lies HBO.out hlx)) (calm_lies u (below_lies HBO.out hly)))
                have hi1 : (i : Int) < (es.length : Int) := by omega
                have hi2 : (i : Int) < (es'.length : Int) := by omega
                by_cases hz : vcmp (.mk xk xn xs' xks xes) (.mk yk yn ys' yks yes) = 0
                · rw [hz] at hcall
                  have hst := Lib.hid (HE.out.trans (vcmpL_step hx hy hz))
                  clear hx hy hz hlx hly
                  go_wp2_with fail
                  refine wp_region_calm (w0 := wr) (B := wr.heap.size) (by kernel_rfl) (by kernel_rfl) (Below.refl _ _) ?_
                  repeat (go_big_quiet_step ((go_at_call 44; refine Calm.call (Nat.le_refl _) (hcall.out _))))
                  refine wpQuiet_nil ?_
                  intro _ hw'
                  obtain ⟨u, rfl⟩ := hw'
                  go_wp2_with fail
                  go_roundw
                  case rel => exact ⟨i + 1, by omega, by omega, by go_num, hst.out, HBL.out.trans (u.below.mono (by omega))⟩
                  case measure => simp [intOf]; omega
                · have hst := Lib.hid (hv2.out.trans (HE.out.trans (vcmpL_part hx hy hz)))
                  have hzb : ((vcmp (.mk xk xn xs' xks xes) (.mk yk yn ys' yks yes)) != 0) = true := by simp [hz]
                  generalize vcmp (.mk xk xn xs' xks xes) (.mk yk yn ys' yks yes) = z at hcall hst hzb
                  clear hx hy hz hlx hly
                  go_wp2_with fail
                  refine wp_region_calm (w0 := wr) (B := wr.heap.size) (by kernel_rfl) (by kernel_rfl) (Below.refl _ _) ?_
                  repeat (go_big_quiet_step ((go_at_call 44; refine Calm.call (Nat.le_refl _) (hcall.out _))))
                  refine wpQuiet_nil ?_
                  intro _ hw'
                  obtain ⟨u, rfl⟩ := hw'
                  go_wp2_with fail
                  go_ret
                  exact ⟨ret_int hst.out.symm, HBO.out.trans (u.below.mono (by omega))⟩
              · have hst := Lib.hid (hv2.out.trans (HE.out.trans (vcmpL_end hlt hi hj)))
                go_wp2_with fail
                refine (cmp_int _ _ _).mono ?_
                rintro e' w' ⟨rfl, rfl⟩
                go_wp2_with fail
                go_ret
                exact ⟨ret_int hst.out.symm, below_two HBL.out⟩
          · have hv2 := Lib.hid (hv1.out.trans (if_neg c4))
            have hq : ((kcmp ks ks') != 0) = true := by simp [c4]
            clear c4
            go_enter Try.func44, Try.ntmps44
            go_wp2_with fail
            refine (HS.out _ (below2 _ _ _)).mono ?_
            rintro e' w' ⟨rfl, rfl⟩
            go_wp2_with fail
            go_ret
            exact ⟨ret_int hv2.out.symm, below2 _ _ _⟩
        · have hq : (s.toList == s'.toList) = false := by rw [hse]; exact decide_eq_false fun h => c3 ((scmp_zero s s').1 h)
          have hz := Lib.hid (hv.out.trans (by rw [if_pos (icmp_zero.2 rfl), if_pos (icmp_zero.2 rfl), if_neg (fun h => c3 ((scmp_zero s s').1 h))]))
          clear c3 hse
          go_enter Try.func44, Try.ntmps44
          go_wp2_with fail
          refine (cmp_strings _ _ _).mono ?_
          rintro e' w' ⟨rfl, rfl⟩
          go_wp2_with fail
          go_ret
          exact ⟨ret_int hz.out.symm, below2 _ _ _⟩
      · have hq : (n != n') = true := by simp [c2]
        have hz := Lib.hid (hv.out.trans (by rw [if_pos (icmp_zero.2 rfl), if_neg (fun h => c2 (icmp_zero.1 h))]))
        clear c2 hse
        go_enter Try.func44, Try.ntmps44
        go_wp2_with fail
        refine (cmp_int64 _ _ _).mono ?_
        rintro e' w' ⟨rfl, rfl⟩
        go_wp2_with fail
        go_ret
        exact ⟨ret_int hz.out.symm, below2 _ _ _⟩
    · have hq : (k != k') = true := by simp [c1]
      have hz := Lib.hid (hv.out.trans (by rw [if_neg (fun h => c1 (icmp_zero.1 h))]))
      clear c1 hse
      go_enter Try.func44, Try.ntmps44
      go_wp2_with fail
      refine (cmp_int _ _ _).mono ?_
      rintro e' w' ⟨rfl, rfl⟩
      go_wp2_with fail
      go_ret
      exact ⟨ret_int hz.out.symm, below2 _ _ _⟩
/-- Compare on any two values. -/
def cmpV (a b : V) : Int := if valid a = true then (if valid b = true then vcmp a b else 0) else 0
/-- What Compare and Equal lean on, at two values that lie in w. -/
structure Two (v u : V) (cs ds : List Value) (w : World) : Prop where
  h1 : Lies w (· < w.heap.size) v cs
  h2 : Lies w (· < w.heap.size) u ds
theorem Two.val1 {v u : V} {cs ds : List Value} {w W : World} (h : Two v u cs ds w) (hb : Below w.heap.size w W) : Calls Try.prog 26 #[.agg cs.toArray] W fun e w' => e = .returned (.bool (valid v)) ∧ Below W.heap.size W w' := valid_any v cs W (below_lies hb h.h1)
theorem Two.val2 {v u : V} {cs ds : List Value} {w W : World} (h : Two v u cs ds w) (hb : Below w.heap.size w W) : Calls Try.prog 26 #[.agg ds.toArray] W fun e w' => e = .returned (.bool (valid u)) ∧ Below W.heap.size W w' := valid_any u ds W (below_lies hb h.h2)
theorem Two.cmp {v u : V} {cs ds : List Value} {w W : World} (h : Two v u cs ds w) (hb : Below w.heap.size w W) : Calls Try.prog 44 #[.agg cs.toArray, .agg ds.toArray] W fun e w' => e = .returned (.int .i64 (vcmp v u)) ∧ Below W.heap.size W w' := compare_any v u cs ds W (below_lies hb h.h1) (below_lies hb h.h2)
theorem two_step {w w1 w2 : World} {cs ds : Array Value} {t : TypeId} (hb : Below (w.heap.size + 2) ((w.alloc (.cells cs t)).alloc (.cells ds t)) w1) (hc : Below w1.heap.size w1 w2) : Below (w.heap.size + 2) ((w.alloc (.cells cs t)).alloc (.cells ds t)) w2 :=
  hb.trans (hc.mono (by have := hb.size; simp at this; omega))
set_option maxHeartbeats 1000000 in
set_option maxRecDepth 100000 in
theorem cmp_any (v u : V) (cs ds : List Value) (w : World) (h1 : Lies w (· < w.heap.size) v cs) (h2 : Lies w (· < w.heap.size) u ds) :
    Calls Try.prog 43 #[.agg cs.toArray, .agg ds.toArray] w fun e w' => e = .returned (.int .i64 (cmpV v u)) ∧ Below w.heap.size w w' := by
  have HT : Hid (Two v u cs ds w) := Lib.hid ⟨h1, h2⟩
  obtain ⟨k, n, s, ks, es⟩ := v
  obtain ⟨k', n', s', ks', es'⟩ := u
  obtain ⟨A, a, B, b, xs, rfl, _⟩ := lies_open h1
  obtain ⟨A', a', B', b', ys, rfl, _⟩ := lies_open h2
  clear h1 h2
  show Calls _ _ #[.agg #[.int .i64 k, .int .i64 n, .string s, .slice A ks.length a, .slice B es.length b], .agg #[.int .i64 k', .int .i64 n', .string s', .slice A' ks'.length a', .slice B' es'.length b']] w _
  generalize V.mk k n s ks es = v at HT ⊢
  generalize V.mk k' n' s' ks' es' = u at HT ⊢
  have q1 := Lib.hid (fun W hW => HT.out.val1 (W := W) hW)
  have q2 := Lib.hid (fun W hW => HT.out.val2 (W := W) hW)
  have q3 := Lib.hid (fun W hW => HT.out.cmp (W := W) hW)
  unfold cmpV
  generalize valid v = x at q1 ⊢
  generalize valid u = y at q2 ⊢
  generalize vcmp v u = z at q3 ⊢
  clear HT
  cases x with
  | false =>
    go_enter Try.func43, Try.ntmps43
    go_wp2_with fail
    refine (q1.out _ (below2 _ _ _)).mono ?_
    rintro e1 w1 ⟨rfl, hb1⟩
    have hB1 := Lib.hid (two_step (Below.refl _ _) (hb1))
    go_wp2_with fail
    go_ret
    exact ⟨rfl, below_two hB1.out⟩
  | true =>
    cases y with
    | false =>
      go_enter Try.func43, Try.ntmps43
      go_wp2_with fail
      refine (q1.out _ (below2 _ _ _)).mono ?_
      rintro e1 w1 ⟨rfl, hb1⟩
      have hB1 := Lib.hid (two_step (Below.refl _ _) (hb1))
      have m0 := (box_two hB1.out 0).2
      have m1 := (box_two hB1.out 1).2
      have m2 := (box_two hB1.out 2).2
      have m3 := (box_two hB1.out 3).2
      have m4 := (box_two hB1.out 4).2
      simp only [List.getElem?_toArray, List.getElem?_cons_succ, List.getElem?_cons_zero] at m0 m1 m2 m3 m4
      go_wp2_with fail
      refine (q2.out _ (below_two hB1.out)).mono ?_
      rintro e2 w2 ⟨rfl, hb2⟩
      have hB2 := Lib.hid (two_step hB1.out hb2)
      go_wp2_with fail
      go_ret
      exact ⟨rfl, below_two hB2.out⟩
    | true =>
      go_enter Try.func43, Try.ntmps43
      go_wp2_with fail
      refine (q1.out _ (below2 _ _ _)).mono ?_
      rintro e1 w1 ⟨rfl, hb1⟩
      have hB1 := Lib.hid (two_step (Below.refl _ _) (hb1))
      have m0 := (box_two hB1.out 0).2
      have m1 := (box_two hB1.out 1).2
      have m2 := (box_two hB1.out 2).2
      have m3 := (box_two hB1.out 3).2
      have m4 := (box_two hB1.out 4).2
      simp only [List.getElem?_toArray, List.getElem?_cons_succ, List.getElem?_cons_zero] at m0 m1 m2 m3 m4
      go_wp2_with fail
      refine (q2.out _ (below_two hB1.out)).mono ?_
      rintro e2 w2 ⟨rfl, hb2⟩
      have hB2 := Lib.hid (two_step hB1.out hb2)
      clear m0 m1 m2 m3 m4
      have m0 := box_two hB2.out 0
      have m1 := box_two hB2.out 1
      have m2 := box_two hB2.out 2
      have m3 := box_two hB2.out 3
      have m4 := box_two hB2.out 4
      simp only [List.getElem?_toArray, List.getElem?_cons_succ, List.getElem?_cons_zero] at m0 m1 m2 m3 m4
      go_wp2_with fail
      refine (q3.out _ (below_two hB2.out)).mono ?_
      rintro e3 w3 ⟨rfl, hb3⟩
      go_wp2_with fail
      go_ret
      exact ⟨rfl, chain (below_two hB2.out) hb3⟩
end Go.Proofs.Ytnokmlclephjgaa.Dr

/- The program's add. -/
import Derived.Test.YtnokmlclephjgaaMA
set_option linter.unusedVariables false
set_option linter.unusedSimpArgs false
namespace Go.Proofs.Ytnokmlclephjgaa
open Go.RowKit
/-- What add leaves: false, or true and the new counts; nothing but block g has turned. -/
def AddPost (g : Nat) (o : Option (Int × Int × Int)) (w : World) (e : Ending) (w' : World) : Prop :=
  w.grownBy w' (some g) ∧ match o with
  | none => e = .returned (.bool false)
  | some (d, m, b) => e = .returned (.bool true) ∧ Box w' g 66 #[.int .i64 d, .int .i64 m, .int .i64 b]
def AddOk (v : V) : Prop := ∀ (g : Nat) (lv d m b : Int) (cs : List Value) (S : Nat → Prop) (w : World), Box w g 66 #[.int .i64 d, .int .i64 m, .int .i64 b] → Lies w S v cs → (∀ b, S b → b < w.heap.size ∧ b ≠ g) →
  0 ≤ lv → lv ≤ 32 → 0 ≤ d → d ≤ 32 → 0 ≤ m → m ≤ 4096 → 0 ≤ b → b ≤ 65536 →
  Calls Try.prog 51 #[.pointer (some ⟨g, 0, none⟩), .agg cs.toArray, .int .i64 lv] w (AddPost g (addP v lv d m b) w)
theorem addL_none {es : List V} {i : Nat} {e : V} (he : es[i]? = some e) {lv d m b : Int} (h : addP e lv d m b = none) : addL (es.drop i) lv d m b = none := by
  obtain ⟨hl, rfl⟩ := List.getElem?_eq_some_iff.1 he
  rw [List.drop_eq_getElem_cons hl, addL, h]
theorem addL_some {es : List V} {i : Nat} {e : V} (he : es[i]? = some e) {lv d m b d' m' b' : Int} (h : addP e lv d m b = some (d', m', b')) : addL (es.drop i) lv d m b = addL (es.drop (i + 1)) lv d' m' b' := by
  obtain ⟨hl, rfl⟩ := List.getElem?_eq_some_iff.1 he
  rw [List.drop_eq_getElem_cons hl, addL, h]
/-- A world in the course of add: the counts in block g, the value's own box in block p; all else is as it was in w0. -/
structure St (g p : Nat) (cs : Array Value) (w0 : World) (d m b : Int) (w : World) : Prop where
  gr : w0.grownBy w (some g)
  box : Box w g 66 #[.int .i64 d, .int .i64 m, .int .i64 b]
  own : Box w p 27 cs
theorem St.below {g p : Nat} {cs : Array Value} {w0 w w' : World} {d m b : Int} (h : St g p cs w0 d m b w) (hb : Below w.heap.size w w') (_ : ¬ g = p) : St g p cs w0 d m b w' :=
  ⟨grown_trans h.gr (below_grown hb _), h.box.below hb h.box.lt, h.own.below hb h.own.lt⟩
theorem St.str {g p : Nat} {cs : Array Value} {w0 w : World} {d m b : Int} (h : St g p cs w0 d m b w) (hne : ¬ g = p) (c : Int) : St g p cs w0 d m c (w.setCell ⟨g, 2, none⟩ (.int .i64 c)) :=
  ⟨grown_trans h.gr (grown_set _ _ _ _), h.box.put 2 _, h.own.far (fun e => hne e.symm) _⟩
theorem St.dep {g p : Nat} {cs : Array Value} {w0 w : World} {d m b : Int} (h : St g p cs w0 d m b w) (hne : ¬ g = p) (c : Int) : St g p cs w0 c m b (w.setCell ⟨g, 0, none⟩ (.int .i64 c)) :=
  ⟨grown_trans h.gr (grown_set _ _ _ _), h.box.put 0 _, h.own.far (fun e => hne e.symm) _⟩
theorem St.keys {g p : Nat} {cs : Array Value} {w0 w w' : World} {d m b c : Int} (h : St g p cs w0 d m b w) (hne : ¬ g = p) (hg : w.grownBy w' (some g)) (hb : Box w' g 66 #[.int .i64 d, .int .i64 m, .int .i64 c]) : St g p cs w0 d m c w' :=
  ⟨grown_trans h.gr hg, hb, h.own.grown hg (fun e => hne (by injection e with e; exact e.symm))⟩
set_option maxHeartbeats 4000000 in
set_option maxRecDepth 100000 in
theorem add_loop (k n : Int) (s : ByteArray) (ks : List ByteArray) (es : List V) (ih : ∀ e ∈ es, AddOk e) (g : Nat) (lv d m b b2 : Int) (A B : Option Addr) (a bb : Nat) (xs : List Value) (S : Nat → Prop) (w : World)
    (hbox : Box w g 66 #[.int .i64 d, .int .i64 m, .int .i64 b]) (hA : Rs w S A (kv ks)) (hB : Rs w S B xs) (hL : LiesL w S es xs) (hS : ∀ b, S b → b < w.heap.size ∧ b ≠ g)
    (h1 : s.size ≤ 140737488355328) (h2 : ∀ x ∈ ks, x.size ≤ 140737488355328) (h3 : ks.length ≤ 140737488355328) (h4 : es.length ≤ 140737488355328)
    (l0 : 0 ≤ lv) (hlv : lv + 1 ≤ 32) (d0 : 0 ≤ d) (d1 : d ≤ 32) (m0 : 0 ≤ m) (hm : m + 1 ≤ 4096) (b0 : 0 ≤ b) (b1 : b ≤ 65536) (hle : b + s.size ≤ 65536) (hel : es.length ≤ 1024)
    (hfv : fits k n s ks.length es.length = true) (hok : strOk s b = true) (hkk : keysP ks none (b + s.size) = some b2) (hk2 : (k != 5) = false ∨ ((k != 5) = true ∧ (k != 6) = false)) :
    Calls Try.prog 51 #[.pointer (some ⟨g, 0, none⟩), .agg #[.int .i64 k, .int .i64 n, .string s, .slice A ks.length a, .slice B es.length bb], .int .i64 lv] w (AddPost g (addL es (lv + 1) (max d (lv + 1)) (m + 1) b2) w) := by
  have hg : g < w.heap.size := hbox.lt
  have hgne : ¬ g = w.heap.size := by omega
  have HX := Lib.hid hbox
  have HA := Lib.hid hA
  have HB := Lib.hid hB
  have HL := Lib.hid hL
  have IH := Lib.hid ih
  have HS := Lib.hid hS
  have H2 := Lib.hid h2
  obtain ⟨gc0, gc1, gc2, gf0, gf1, gf2⟩ := box3 hbox
  clear hA hB hL ih hS h2 hbox
  have hW0 : Hid (St g w.heap.size #[.int .i64 k, .int .i64 n, .string s, .slice A ks.length a, .slice B es.length bb] w d (m + 1) b ((w.setCell ⟨g, 1, none⟩ (.int .i64 (m + 1))).alloc (.cells #[.int .i64 k, .int .i64 n, .string s, .slice A ks.length a, .slice B es.length bb] 27))) :=
    Lib.hid ⟨grown_trans (grown_set _ _ _ _) (World.grownBy_alloc _ _ _), (HX.out.put 1 _).alloc _, by have := Box.laid (w.setCell ⟨g, 1, none⟩ (.int .i64 (m + 1))) 27 #[.int .i64 k, .int .i64 n, .string s, .slice A ks.length a, .slice B es.length bb]; simpa using this⟩
  have hfit := Lib.hid (fun W => fits_any k n s A B ks.length es.length a bb W h1 h3 h4)
  rw [hfv] at hfit
  generalize hq : addL es (lv + 1) (max d (lv + 1)) (m + 1) b2 = r
  have hr := Lib.hid hq
  clear hq hfv
  obtain ⟨hb20, hb21⟩ := keysP_bd hle hkk
  rcases hk2 with hk5 | ⟨hk5, hk6⟩
  all_goals
    go_enter Try.func51, Try.ntmps51
    go_wp2_with fail
    refine (hfit.out _).mono ?_
    rintro e1 w1 ⟨rfl, hb1⟩
    have hs1 := Lib.hid (hW0.out.below hb1 hgne)
    obtain ⟨p0, p1, p2, p3, p4⟩ := box5 hs1.out.own
    obtain ⟨gc0, gc1, gc2, gf0, gf1, gf2⟩ := box3 hs1.out.box
    have hcall := Lib.hid (addString_any g d (m + 1) b s w1 hs1.out.box h1 b0 b1)
    rw [hok] at hcall
    clear hok
    go_wp2_with fail
    refine hcall.out.mono ?_
    rintro e2 w2 ⟨rfl, rfl⟩
    have hs3 := Lib.hid ((hs1.out.str hgne (b + s.size)).dep hgne (max d (lv + 1)))
    have hk3 := Lib.hid (addKeys_any g (max d (lv + 1)) (m + 1) (b + s.size) A a ks S _ hs3.out.box (HA.out.move fun b hb => ⟨hb, hs3.out.gr.block b (HS.out b hb).1 (fun e => (HS.out b hb).2 (by injection e with e))⟩) (fun b hb => ⟨Nat.lt_of_lt_of_le (HS.out b hb).1 hs3.out.gr.size, (HS.out b hb).2⟩) H2.out h3 (by omega) hle)
    rw [hkk] at hk3
    clear hkk
    go_wp2_with fail
    refine hk3.out.mono ?_
    rintro e3 w3 ⟨hg3, rfl, hbox3⟩
    have hs4 := Lib.hid (hs3.out.keys hgne hg3 hbox3)
    clear gc0 gc1 gc2 gf0 gf1 gf2 p0 p1 p2 p3 p4
    obtain ⟨p0, p1, p2, p3, p4⟩ := box5 hs4.out.own
    clear hg3 hbox3
    go_wp2_with fail
    go_loopw [70] (fun t wr => ∃ (i : Nat) (d' m' b' : Int), i ≤ es.length ∧ t = .int .i64 i ∧ (0 ≤ d' ∧ d' ≤ 32 ∧ 0 ≤ m' ∧ m' ≤ 4096 ∧ 0 ≤ b' ∧ b' ≤ 65536) ∧ addL (es.drop i) (lv + 1) d' m' b' = r ∧ Box wr g 66 #[.int .i64 d', .int .i64 m', .int .i64 b'] ∧ w.grownBy wr (some g)) (fun t _ => es.length - (intOf t).toNat)
    case atStart => exact ⟨0, _, _, _, Nat.zero_le _, rfl, ⟨by omega, by omega, by omega, hm, by omega, hb21⟩, hr.out, hs4.out.box, hs4.out.gr⟩
    case round =>
      obtain ⟨i, d', m', b', hi, rfl, ⟨x0, x1, x2, x3, x4, x5⟩, hr0, hbox0, hgr0⟩ := hrel
      have HR := Lib.hid hr0
      have HB' := Lib.hid hbox0
      have HG := Lib.hid hgr0
      have hgl : g < wr.heap.size := hbox0.lt
      clear hr0 hbox0 hgr0
      by_cases hlt : i < es.length
      · obtain ⟨e, he⟩ : ∃ e, es[i]? = some e := ⟨_, List.getElem?_eq_getElem hlt⟩
        obtain ⟨ek, en, es', eks, ees⟩ := e
        obtain ⟨b0, o0, eA, ea, eC, ec, rfl, hb0, hle, c0, c1, c2, c3, c4⟩ := elem_open HB.out HL.out he
        have hbn : some b0 ≠ some g := fun e => (HS.out b0 hb0).2 (by injection e)
        have q0 := HG.out.cell c0 hbn
        have q1 := HG.out.cell c1 hbn
        have q2 := HG.out.cell c2 hbn
        have q3 := HG.out.cell c3 hbn
        have q4 := HG.out.cell c4 hbn
        clear c0 c1 c2 c3 c4 hbn p0 p1 p2 p3 p4
        have hcall := Lib.hid (IH.out _ (List.mem_of_getElem? he) g (lv + 1) d' m' b' [.int .i64 ek, .int .i64 en, .string es', .slice eA eks.length ea, .slice eC ees.length ec] S (wr.alloc (.cells #[.int .i64 ek, .int .i64 en, .string es', .slice eA eks.length ea, .slice eC ees.length ec] 27)) (HB'.out.alloc _)
          (hle.move fun b hb => ⟨hb, (Below.heap_alloc wr _ b (Nat.lt_of_lt_of_le (HS.out b hb).1 HG.out.size)).trans (HG.out.block b (HS.out b hb).1 (fun e => (HS.out b hb).2 (by injection e with e)))⟩)
          (fun b hb => ⟨by have := (HS.out b hb).1; have := HG.out.size; simp; omega, (HS.out b hb).2⟩) (by omega) (by omega) x0 x1 x2 x3 x4 x5)
        clear hle
        cases hap : addP (.mk ek en es' eks ees) (lv + 1) d' m' b' with
        | none =>
          rw [hap] at hcall
          have hst := Lib.hid ((addL_none he hap).symm.trans HR.out)
          clear he hap
          go_wp2_with fail
          refine hcall.out.mono ?_
          rintro e3 w3 ⟨hg3, rfl⟩
          go_wp2
          go_ret
          rw [← hst.out]
          exact ⟨grown_trans HG.out (grown_one hg3), rfl⟩
        | some q =>
          obtain ⟨d2, m2, b2⟩ := q
          rw [hap] at hcall
          have hbd := addP_bd _ (lv + 1) d' m' b' d2 m2 b2 (by omega) (by omega) x0 x1 x2 x3 x4 x5 hap
          obtain ⟨⟨y0, y1⟩, ⟨y2, y3⟩, y4, y5⟩ := hbd
          have hst := Lib.hid ((addL_some he hap).symm.trans HR.out)
          clear he hap
          go_wp2_with fail
          refine hcall.out.mono ?_
          rintro e3 w3 ⟨hg3, rfl, hbox3⟩
          have HB3 := Lib.hid hbox3
          have HG3 := Lib.hid hg3
          clear hbox3 hg3
          go_wp2
          go_roundw
          case rel => exact ⟨i + 1, d2, m2, b2, by omega, by go_num, ⟨y0, y1, by omega, y3, by omega, y5⟩, hst.out, HB3.out, grown_trans HG.out (grown_one HG3.out)⟩
          case measure => simp [intOf]; omega
      · have hend : Hid (some (d', m', b') = r) := Lib.hid (by rw [← HR.out, List.drop_eq_nil_of_le (by omega), addL])
        go_wp2
        go_ret
        rw [← hend.out]
        exact ⟨HG.out, rfl, HB'.out⟩
end Go.Proofs.Ytnokmlclephjgaa

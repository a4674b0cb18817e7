/- The JSON parser's state in memory, and what its smallest methods do with it. -/
import Derived.Test.YtfmpdcmedaiooaaGreatDoorU08
import Derived.Test.YtfmpdcmedaiooaaGreatDoorU14
import Derived.Test.YtfmpdcmedaiooaaGreatDoorU18
import Derived.Lib.Hide
import Derived.Deep.QuietTactic
import Derived.BigQuiet
import Derived.StillTailTactics
import Derived.Deep.RegionHeld3
import Derived.Deep.CutBlock
import Derived.Deep.DeepCutAuto
set_option linter.unusedVariables false
set_option linter.unusedSimpArgs false
namespace Go.Proofs.YtfmpdcmedaiooaaGreatDoor
open Go.RowKit
/-- Nothing that was there has turned but block g. -/
def Gr (g : Nat) (w w' : World) : Prop := w.grownBy w' (some g)
theorem Gr.refl (g : Nat) (w : World) : Gr g w w := World.grownBy.refl w _
theorem Gr.trans {g : Nat} {a b c : World} (h : Gr g a b) (k : Gr g b c) : Gr g a c := grown_trans h k
theorem Gr.below {g : Nat} {w w' : World} (h : Below w.heap.size w w') : Gr g w w' := below_grown h _
theorem Gr.size {g : Nat} {w w' : World} (h : Gr g w w') : w.heap.size ≤ w'.heap.size := World.grownBy.size h
theorem Gr.block {g : Nat} {w w' : World} (h : Gr g w w') {b : Nat} (hb : b < w.heap.size) (hn : b ≠ g) : w'.heap[b]? = w.heap[b]? := World.grownBy.block h b hb (fun e => hn (by injection e))
theorem Gr.cell {g : Nat} {w w' : World} (h : Gr g w w') {b o : Nat} (hb : b < w.heap.size) (hn : b ≠ g) : w'.cell? ⟨b, o, none⟩ = w.cell? ⟨b, o, none⟩ := World.cell?_of_block (h.block hb hn)
theorem Gr.alloc {g : Nat} {w w' : World} (h : Gr g w w') (o : Obj) : Gr g w (w'.alloc o) := h.trans (World.grownBy_alloc w' o _)
theorem Gr.set {g : Nat} {w w' : World} (h : Gr g w w') (i : Nat) (u : Value) : Gr g w (w'.setCell ⟨g, i, none⟩ u) := h.trans (grown_set w' g i u)
theorem Gr.low {g : Nat} {w w' : World} (h : Gr g w w') {w2 : World} (hb : Below w'.heap.size w' w2) : Gr g w w2 := h.trans (Gr.below hb)
theorem Gr.drew {g : Nat} {w w' : World} (h : Gr g w w') : Gr g w w'.drew := h.low (Below.refl _ _).drew
theorem Gr.one {g : Nat} (w : World) (o : Obj) : Gr g w (w.alloc o) := (Gr.refl g w).alloc o
theorem Gr.put {g : Nat} {w w' : World} (h : Gr g w w') {r : Nat} (hr : w.heap.size ≤ r) (i : Nat) (u : Value) : Gr g w (w'.setCell ⟨r, i, none⟩ u) := by
  refine ⟨h.os, h.tape, h.output, by have := h.size; simpa [World.setCell] using this, fun k hk hn => ?_⟩
  rw [Below.heap_setCell w' ⟨r, i, none⟩ u k (by show k ≠ r; omega)]
  exact World.grownBy.block h k hk hn
def jcells (s : ByteArray) (σ : JS) : Array Value := #[.string s, .int .i64 σ.at_, .int .i64 σ.err, .int .i64 σ.op, .int .i64 σ.nd, .int .i64 σ.sz]
/-- The parser lies in block g. -/
structure JAt (s : ByteArray) (g : Nat) (w : World) (σ : JS) : Prop where
  box : Box w g 130 (jcells s σ)
  ss : s.size ≤ 1048576
  ei : ErrIn w
  ne : ¬ g = 5
  op : σ.op ≤ 32
  nd : σ.nd ≤ 4096
  sz : σ.sz ≤ 70000
section
variable {s : ByteArray} {g : Nat} {w w' : World} {σ τ : JS}
theorem JAt.glt (h : JAt s g w σ) : g < w.heap.size := h.box.lt
theorem JAt.next (h : JAt s g w σ) (hb : Below w.heap.size w w') : JAt s g w' σ := ⟨h.box.below hb h.glt, h.ss, h.ei.next hb, h.ne, h.op, h.nd, h.sz⟩
theorem JAt.alloc (h : JAt s g w σ) (o : Obj) : JAt s g (w.alloc o) σ := h.next ((Below.refl _ _).alloc (Nat.le_refl _) o)
theorem JAt.drew (h : JAt s g w σ) : JAt s g w.drew σ := h.next (Below.refl _ _).drew
theorem errIn_set (h : ErrIn w) {r : Nat} (hr : ¬ r = 5) (i : Nat) (u : Value) : ErrIn (w.setCell ⟨r, i, none⟩ u) := by
  obtain ⟨te, pe, hc⟩ := h
  exact ⟨te, pe, (World.cell?_of_block (Below.heap_setCell w ⟨r, i, none⟩ u _ (fun e => hr e.symm))).trans hc⟩
theorem errIn_lt (h : ErrIn w) : 5 < w.heap.size := by
  obtain ⟨te, pe, hc⟩ := h
  exact World.block_lt_of_cell? w ⟨5, 0, none⟩ hc
theorem JAt.own (h : JAt s g w σ) (i : Nat) (u : Value) (he : (jcells s σ).setIfInBounds i u = jcells s τ) (h1 : τ.op ≤ 32) (h2 : τ.nd ≤ 4096) (h3 : τ.sz ≤ 70000) : JAt s g (w.setCell ⟨g, i, none⟩ u) τ :=
  ⟨by have := h.box.put i u; rw [he] at this; exact this, h.ss, errIn_set h.ei h.ne i u, h.ne, h1, h2, h3⟩
theorem JAt.far (h : JAt s g w σ) {r : Nat} (h1 : ¬ r = g) (h2 : ¬ r = 5) (i : Nat) (u : Value) : JAt s g (w.setCell ⟨r, i, none⟩ u) σ :=
  ⟨h.box.far (p := ⟨r, i, none⟩) (fun e => h1 e.symm) u, h.ss, errIn_set h.ei h2 i u, h.ne, h.op, h.nd, h.sz⟩
/-- A block that came since lies far from both. -/
theorem JAt.new (h : JAt s g w σ) (h' : JAt s g w' τ) {r : Nat} (hr : w.heap.size ≤ r) (i : Nat) (u : Value) : JAt s g (w'.setCell ⟨r, i, none⟩ u) τ :=
  h'.far (by have := h.glt; omega) (by have := errIn_lt h.ei; omega) i u
theorem JAt.six (h : JAt s g w σ) : (w.cell? ⟨g, 0, none⟩ = some (.string s) ∧ w.cell? ⟨g, 1, none⟩ = some (.int .i64 σ.at_) ∧ w.cell? ⟨g, 2, none⟩ = some (.int .i64 σ.err) ∧ w.cell? ⟨g, 3, none⟩ = some (.int .i64 σ.op) ∧ w.cell? ⟨g, 4, none⟩ = some (.int .i64 σ.nd) ∧ w.cell? ⟨g, 5, none⟩ = some (.int .i64 σ.sz)) ∧
    w.frozen? ⟨g, 0, none⟩ = false ∧ w.frozen? ⟨g, 1, none⟩ = false ∧ w.frozen? ⟨g, 2, none⟩ = false ∧ w.frozen? ⟨g, 3, none⟩ = false ∧ w.frozen? ⟨g, 4, none⟩ = false ∧ w.frozen? ⟨g, 5, none⟩ = false := ⟨box6 h.box, free6 h.box⟩
end
def JDone (s : ByteArray) (g : Nat) (w : World) (τ : JS) (e : Ending) (w' : World) : Prop := e = .returned (.tuple #[]) ∧ Gr g w w' ∧ JAt s g w' τ
def JTok (s : ByteArray) (g : Nat) (w : World) (x : Lx) (τ : JS) (e : Ending) (w' : World) : Prop := e = .returned (.agg #[.int .i64 x.k, .int .i64 x.f, .int .i64 x.t, .int .u8 x.b, .int .i64 x.i, .string x.s]) ∧ Gr g w w' ∧ JAt s g w' τ
def JBool (s : ByteArray) (g : Nat) (w : World) (b : Bool) (τ : JS) (e : Ending) (w' : World) : Prop := e = .returned (.bool b) ∧ Gr g w w' ∧ JAt s g w' τ
def JStr (s : ByteArray) (g : Nat) (w : World) (x : ByteArray) (τ : JS) (e : Ending) (w' : World) : Prop := e = .returned (.string x) ∧ Gr g w w' ∧ JAt s g w' τ
set_option maxHeartbeats 4000000 in
set_option maxRecDepth 100000 in
theorem jfail_any {s : ByteArray} {g : Nat} {w : World} {σ : JS} (a e : Nat) (hP : JAt s g w σ) : Calls Tryz.prog 153 #[.pointer (some ⟨g, 0, none⟩), .int .i64 a, .int .i64 e] w (JDone s g w (jfail a e σ)) := by
  have HP := Lib.hid hP
  obtain ⟨⟨b0, b1, b2, b3, b4, b5⟩, f0, f1, f2, f3, f4, f5⟩ := hP.six
  have hg := hP.glt
  unfold jfail
  by_cases h0 : σ.err = 0
  · rw [if_pos h0]
    have q0 : ((σ.err : Int) == 0) = true := by rw [beq_iff_eq]; omega
    clear hP h0
    go_enter Tryz.func153, Tryz.ntmps153
    go_wp2_with fail
    refine bodyPost_end (v := .tuple #[]) (by simp [results, Tryz.results153, go_sem]) rfl ?_
    have h1 : JAt s g _ { σ with at_ := a } := HP.out.own 1 (.int .i64 a) rfl HP.out.op HP.out.nd HP.out.sz
    exact ⟨rfl, ((Gr.refl g w).set 1 _).set 2 _, h1.own 2 (.int .i64 e) rfl HP.out.op HP.out.nd HP.out.sz⟩
  · rw [if_neg h0]
    have q0 : ((σ.err : Int) == 0) = false := by rw [beq_eq_false_iff_ne]; omega
    clear hP h0
    go_enter Tryz.func153, Tryz.ntmps153
    go_wp2_with fail
    refine bodyPost_end (v := .tuple #[]) (by simp [results, Tryz.results153, go_sem]) rfl ?_
    exact ⟨rfl, Gr.refl g w, HP.out⟩
theorem u8eq (b c : Nat) : ((b : Int) == (c : Int)) = decide (b = c) := by
  rw [Bool.eq_iff_iff, beq_iff_eq, decide_eq_true_eq]; omega
set_option maxHeartbeats 4000000 in
set_option maxRecDepth 100000 in
theorem isSign_any (x : Lx) (c : Nat) (w : World) : Calls Tryz.prog 152 #[.agg #[.int .i64 x.k, .int .i64 x.f, .int .i64 x.t, .int .u8 x.b, .int .i64 x.i, .string x.s], .int .u8 c] w (fun e w' => e = .returned (.bool (isSg x c)) ∧ Below w.heap.size w w') := by
  have e2 := u8eq x.b c
  have hs : Hid (isSg x c = (decide (x.k = 1) && decide (x.b = c))) := Lib.hid rfl
  rw [hs.out]
  by_cases hk : x.k = 1
  · have q1 : ((x.k : Int) == 1) = true := by rw [beq_iff_eq]; omega
    rw [decide_eq_true hk, Bool.true_and]
    generalize decide (x.b = c) = y at e2 ⊢
    clear hk hs
    go_enter Tryz.func152, Tryz.ntmps152
    go_wp2_with fail
    go_ret
    exact ⟨rfl, (Below.refl _ _).alloc (Nat.le_refl _) _⟩
  · have q1 : ((x.k : Int) == 1) = false := by rw [beq_eq_false_iff_ne]; omega
    rw [decide_eq_false hk, Bool.false_and]
    clear hk hs e2
    go_enter Tryz.func152, Tryz.ntmps152
    go_wp2_with fail
    go_ret
    exact ⟨rfl, (Below.refl _ _).alloc (Nat.le_refl _) _⟩
set_option maxHeartbeats 4000000 in
set_option maxRecDepth 100000 in
theorem hasRoom_any {s : ByteArray} {g : Nat} {w : World} {σ : JS} (x : Lx) (hP : JAt s g w σ) (h1 : σ.sz ≤ 65536) (h2 : x.s.size ≤ 4096) : Calls Tryz.prog 154 #[.pointer (some ⟨g, 0, none⟩), .agg #[.int .i64 x.k, .int .i64 x.f, .int .i64 x.t, .int .u8 x.b, .int .i64 x.i, .string x.s]] w (JBool s g w (decide (σ.sz + x.s.size ≤ 65536)) { σ with sz := σ.sz + x.s.size }) := by
  have HP := Lib.hid hP
  obtain ⟨⟨b0, b1, b2, b3, b4, b5⟩, f0, f1, f2, f3, f4, f5⟩ := hP.six
  have hg := hP.glt
  have hgw : ¬ g = w.heap.size := by omega
  have hwr : IntKind.i64.wrap ((σ.sz : Int) + (x.s.size : Int)) = ((σ.sz + x.s.size : Nat) : Int) := by
    rw [IntKind.wrap_i64]; omega
  have HS := Lib.hid h1
  have HX := Lib.hid h2
  have e3 : decide ((σ.sz : Int) + (x.s.size : Int) ≤ 65536) = decide (σ.sz + x.s.size ≤ 65536) := by
    rw [Bool.eq_iff_iff, decide_eq_true_eq, decide_eq_true_eq]; omega
  have hc := Lib.hid (show (σ.sz : Int) + (x.s.size : Int) = ((σ.sz + x.s.size : Nat) : Int) by omega)
  clear hP h1 h2
  go_enter Tryz.func154, Tryz.ntmps154
  go_upto_region 1 with (fail)
  go_region
  go_wp2_with fail
  go_ret
  have h5 : JAt s g (w.setCell ⟨g, 5, none⟩ (.int .i64 ((σ.sz : Int) + (x.s.size : Int)))) { σ with sz := σ.sz + x.s.size } := by
    rw [hc.out]
    have := HS.out
    have := HX.out
    exact HP.out.own 5 _ rfl HP.out.op HP.out.nd (by show σ.sz + x.s.size ≤ 70000; omega)
  exact ⟨ret_bool (by first | rfl | exact e3), (((Gr.refl g w).set 5 _).alloc _).drew, (h5.alloc _).drew⟩
theorem far6 {w : World} {g r : Nat} {t : TypeId} {cs : Array Value} (hr : g ≠ r) (h : Box w g t cs) (u0 u1 u2 u3 u4 u5 : Value) : Box ((((((w.setCell ⟨r, 0, none⟩ u0).setCell ⟨r, 1, none⟩ u1).setCell ⟨r, 2, none⟩ u2).setCell ⟨r, 3, none⟩ u3).setCell ⟨r, 4, none⟩ u4).setCell ⟨r, 5, none⟩ u5) g t cs :=
  (((((h.far (p := ⟨r, 0, none⟩) hr u0).far (p := ⟨r, 1, none⟩) hr u1).far (p := ⟨r, 2, none⟩) hr u2).far (p := ⟨r, 3, none⟩) hr u3).far (p := ⟨r, 4, none⟩) hr u4).far (p := ⟨r, 5, none⟩) hr u5
theorem two_boxes {w w1 : World} {t u : TypeId} {x y : Array Value} (hb : Below ((w.alloc (.cells x t)).alloc (.cells y u)).drew.heap.size ((w.alloc (.cells x t)).alloc (.cells y u)).drew w1) : Box w1 (w.heap.size + 1) u y ∧ Box w1 w.heap.size t x := by
  have h1 := ((Box.laid w t x).alloc (.cells y u)).drewN 1
  have h2 := (Box.laid (w.alloc (.cells x t)) u y).drewN 1
  have e : (w.alloc (.cells x t)).heap.size = w.heap.size + 1 := by simp
  rw [e] at h2
  have es : ((w.alloc (.cells x t)).alloc (.cells y u)).drew.heap.size = w.heap.size + 1 + 1 := by simp
  exact ⟨Box.below (w := ((w.alloc (.cells x t)).alloc (.cells y u)).drew) h2 hb (by rw [es]; omega), Box.below (w := ((w.alloc (.cells x t)).alloc (.cells y u)).drew) h1 hb (by rw [es]; omega)⟩
theorem put6x {w : World} {r : Nat} {t : TypeId} {x0 x1 x2 x3 x4 x5 : Value} (h : Box w r t #[x0, x1, x2, x3, x4, x5]) (u0 u1 u2 u3 u4 u5 : Value) : Box ((((((w.setCell ⟨r, 0, none⟩ u0).setCell ⟨r, 1, none⟩ u1).setCell ⟨r, 2, none⟩ u2).setCell ⟨r, 3, none⟩ u3).setCell ⟨r, 4, none⟩ u4).setCell ⟨r, 5, none⟩ u5) r t #[u0, u1, u2, u3, u4, u5] := (((((h.put 0 u0).put 1 u1).put 2 u2).put 3 u3).put 4 u4).put 5 u5
section
variable {s : ByteArray} {g : Nat} {w w' : World} {σ τ : JS}
theorem JAt.new6 (h : JAt s g w σ) (h' : JAt s g w' τ) {r : Nat} (hr : w.heap.size ≤ r) (u0 u1 u2 u3 u4 u5 : Value) : JAt s g ((((((w'.setCell ⟨r, 0, none⟩ u0).setCell ⟨r, 1, none⟩ u1).setCell ⟨r, 2, none⟩ u2).setCell ⟨r, 3, none⟩ u3).setCell ⟨r, 4, none⟩ u4).setCell ⟨r, 5, none⟩ u5) τ :=
  h.new (h.new (h.new (h.new (h.new (h.new h' hr 0 u0) hr 1 u1) hr 2 u2) hr 3 u3) hr 4 u4) hr 5 u5
theorem Gr.put6 (h : Gr g w w') {r : Nat} (hr : w.heap.size ≤ r) (u0 u1 u2 u3 u4 u5 : Value) : Gr g w ((((((w'.setCell ⟨r, 0, none⟩ u0).setCell ⟨r, 1, none⟩ u1).setCell ⟨r, 2, none⟩ u2).setCell ⟨r, 3, none⟩ u3).setCell ⟨r, 4, none⟩ u4).setCell ⟨r, 5, none⟩ u5) :=
  (((((h.put hr 0 u0).put hr 1 u1).put hr 2 u2).put hr 3 u3).put hr 4 u4).put hr 5 u5
end
theorem postK {w : World} {r : Nat} {t : TypeId} {fn : Func} {a : Act} {R : Ending → World → Prop} {slot : Nat} {c0 c1 c2 c3 c4 c5 : Value} (hres : fn.results = #[ResultVar.cell slot 93]) (ht : a.tmps.getD slot undef = .pointer (some ⟨r, 0, none⟩)) (hd : a.defers = [])
    (hB : Box w r t #[c0, c1, c2, c3, c4, c5]) (h : R (.returned (.agg #[c0, c1, c2, c3, c4, c5])) w) : bodyPost Tryz.prog fn R Exit.ret a w := by
  obtain ⟨y0, y1, y2, y3, y4, y5⟩ := box6 hB
  have ht2 : a.tmps[slot]?.getD undef = .pointer (some ⟨r, 0, none⟩) := by simpa using ht
  exact bodyPost_ret (v := .agg #[c0, c1, c2, c3, c4, c5]) (by simp [results, hres, ht2, go_sem, y0, y1, y2, y3, y4, y5]) hd h
/-- Within read, behind Next. -/
structure RdSt (s : ByteArray) (g : Nat) (w : World) (σ : JS) (x : Lx) (W : World) (r : Nat) : Prop where
  p : JAt s g W σ
  t : Box W r 93 #[.int .i64 x.k, .int .i64 x.f, .int .i64 x.t, .int .u8 x.b, .int .i64 x.i, .string x.s]
  z : Box W w.heap.size 93 #[.int .i64 0, .int .i64 0, .int .i64 0, .int .u8 0, .int .i64 0, .string ⟨#[]⟩]
  gr : Gr g w W
  lt : w.heap.size < r
set_option maxHeartbeats 4000000 in
set_option maxRecDepth 100000 in
theorem jread_any {s : ByteArray} {g : Nat} {w : World} {σ : JS} (hP : JAt s g w σ) : Calls Tryz.prog 156 #[.pointer (some ⟨g, 0, none⟩)] w (JTok s g w (jread s.data.toList σ).1 (jread s.data.toList σ).2) := by
  have HP := Lib.hid hP
  have hg := hP.glt
  have hgw : ¬ g = w.heap.size := by omega
  have HR0 := Lib.hid (Box.laid w 93 #[.int .i64 0, .int .i64 0, .int .i64 0, .int .u8 0, .int .i64 0, .string ⟨#[]⟩])
  obtain ⟨⟨b0, b1, b2, b3, b4, b5⟩, f0, f1, f2, f3, f4, f5⟩ := hP.six
  have HX := Lib.hid (fun W (h : ErrIn W) => next_any s σ.at_ hP.ss W h)
  unfold jread
  by_cases h0 : σ.err = 0
  · rw [if_pos h0]
    have q0 : ((σ.err : Int) != 0) = false := by rw [bne_eq_false_iff_eq]; omega
    generalize lexP s.data.toList σ.at_ = x at HX ⊢
    have HE := Lib.hid h0
    clear h0
    by_cases he : x.e = 0
    · rw [if_pos he]
      have qe : ((x.e : Int) != 0) = false := by rw [bne_eq_false_iff_eq]; omega
      dsimp only
      clear he
      clear hP
      go_enter Tryz.func156, Tryz.ntmps156
      go_upto_region 3 with (fail)
      unfold LexPost Lx.val at HX
      have hP6 : Hid (∀ X, JAt s g X σ → ∀ u0 u1 u2 u3 u4 u5, JAt s g ((((((X.setCell ⟨w.heap.size + 1, 0, none⟩ u0).setCell ⟨w.heap.size + 1, 1, none⟩ u1).setCell ⟨w.heap.size + 1, 2, none⟩ u2).setCell ⟨w.heap.size + 1, 3, none⟩ u3).setCell ⟨w.heap.size + 1, 4, none⟩ u4).setCell ⟨w.heap.size + 1, 5, none⟩ u5) σ) := Lib.hid (fun X h u0 u1 u2 u3 u4 u5 => HP.out.new6 h (Nat.le_succ _) u0 u1 u2 u3 u4 u5)
      have keep : Hid (∀ X, JAt s g X σ → X.cell? ⟨g, 0, none⟩ = some (.string s) ∧ X.cell? ⟨g, 1, none⟩ = some (.int .i64 σ.at_)) := Lib.hid (fun X h => ⟨h.six.1.1, h.six.1.2.1⟩)
      go_region_held3 (fun X => X.cell? ⟨g, 0, none⟩ = some (.string s) ∧ X.cell? ⟨g, 1, none⟩ = some (.int .i64 σ.at_))
        (first
          | with_reducible exact keep.out _ (HP.out.alloc _).drew
          | with_reducible exact keep.out _ ((HP.out.alloc _).alloc _).drew
          | with_reducible exact keep.out _ HP1.out
          | with_reducible exact keep.out _ (HP1.out.alloc _)
          | with_reducible exact keep.out _ (hP6.out _ HP1.out _ _ _ _ _ _))
        (first
          | (go_at_call 80; (with_reducible refine (HX.out _ (HP.out.alloc _).drew.ei).mono ?_); rintro e1 w1 ⟨rfl, hb1⟩; have HP1 := Lib.hid ((HP.out.alloc _).drew.next hb1); have HB1 := Lib.hid hb1; clear hb1)
          | (go_at_call 80; (with_reducible refine (HX.out _ ((HP.out.alloc _).alloc _).drew.ei).mono ?_); rintro e1 w1 ⟨rfl, hb1⟩; have HP1 := Lib.hid (((HP.out.alloc _).alloc _).drew.next hb1); have HT := Lib.hid (two_boxes hb1); obtain ⟨t0, t1, t2, t3, t4, t5⟩ := box6 HT.out.1; obtain ⟨z0, z1, z2, z3, z4, z5⟩ := free6 HT.out.1; have HB1 := Lib.hid hb1; clear hb1))
      · skip
        have HS : Hid (RdSt s g w σ x (w1.alloc (.cells #[.int .i64 x.k, .int .i64 x.f, .int .i64 x.t, .int .u8 x.b, .int .i64 x.i, .string x.s] 93)) w1.heap.size) := Lib.hid ⟨HP1.out.alloc _, Box.laid _ _ _, ((Box.laid w _ _).drewN 1 |>.below HB1.out (by simp)).alloc _, (((Gr.one w _).drew).low HB1.out).alloc _, by have := HB1.out.size; simp at this; omega⟩
        clear HP1 HB1 HX keep hP6
        generalize w1.alloc (.cells #[.int .i64 x.k, .int .i64 x.f, .int .i64 x.t, .int .u8 x.b, .int .i64 x.i, .string x.s] 93) = W at HS ⊢
        generalize w1.heap.size = r at HS ⊢
        obtain ⟨⟨b0, b1, b2, b3, b4, b5⟩, f0, f1, f2, f3, f4, f5⟩ := HS.out.p.six
        obtain ⟨t0, t1, t2, t3, t4, t5⟩ := box6 HS.out.t
        obtain ⟨y0, y1, y2, y3, y4, y5⟩ := box6 HS.out.z
        obtain ⟨z0, z1, z2, z3, z4, z5⟩ := free6 HS.out.z
        have hlt := HS.out.lt
        go_wp2_with fail
        refine postK Tryz.results156 rfl rfl (put6x (HS.out.z.far (p := ⟨g, 1, none⟩) (by show _ ≠ g; omega) _) _ _ _ _ _ _) ?_
        have h1 : JAt s g (W.setCell ⟨g, 1, none⟩ (.int .i64 x.p)) { σ with at_ := x.p } := HS.out.p.own 1 (.int .i64 x.p) rfl HS.out.p.op HS.out.p.nd HS.out.p.sz
        exact ⟨rfl, (HS.out.gr.set 1 _).put6 (Nat.le_refl _) _ _ _ _ _ _, HP.out.new6 h1 (Nat.le_refl _) _ _ _ _ _ _⟩
      · skip
        have HS : Hid (RdSt s g w σ x ((((((w1.setCell ⟨w.heap.size + 1, 0, none⟩ (.int .i64 x.k)).setCell ⟨w.heap.size + 1, 1, none⟩ (.int .i64 x.f)).setCell ⟨w.heap.size + 1, 2, none⟩ (.int .i64 x.t)).setCell ⟨w.heap.size + 1, 3, none⟩ (.int .u8 x.b)).setCell ⟨w.heap.size + 1, 4, none⟩ (.int .i64 x.i)).setCell ⟨w.heap.size + 1, 5, none⟩ (.string x.s)) (w.heap.size + 1)) := Lib.hid ⟨hP6.out _ HP1.out _ _ _ _ _ _, put6x HT.out.1 _ _ _ _ _ _, far6 (by omega) HT.out.2 _ _ _ _ _ _, (((((Gr.one w _).alloc _).drew).low HB1.out)).put6 (Nat.le_succ _) _ _ _ _ _ _, Nat.lt_succ_self _⟩
        clear t0 t1 t2 t3 t4 t5 z0 z1 z2 z3 z4 z5
        clear HP1 HB1 HX keep hP6 HT
        generalize ((((((w1.setCell ⟨w.heap.size + 1, 0, none⟩ (.int .i64 x.k)).setCell ⟨w.heap.size + 1, 1, none⟩ (.int .i64 x.f)).setCell ⟨w.heap.size + 1, 2, none⟩ (.int .i64 x.t)).setCell ⟨w.heap.size + 1, 3, none⟩ (.int .u8 x.b)).setCell ⟨w.heap.size + 1, 4, none⟩ (.int .i64 x.i)).setCell ⟨w.heap.size + 1, 5, none⟩ (.string x.s)) = W at HS ⊢
        generalize w.heap.size + 1 = r at HS ⊢
        obtain ⟨⟨b0, b1, b2, b3, b4, b5⟩, f0, f1, f2, f3, f4, f5⟩ := HS.out.p.six
        obtain ⟨t0, t1, t2, t3, t4, t5⟩ := box6 HS.out.t
        obtain ⟨y0, y1, y2, y3, y4, y5⟩ := box6 HS.out.z
        obtain ⟨z0, z1, z2, z3, z4, z5⟩ := free6 HS.out.z
        have hlt := HS.out.lt
        go_wp2_with fail
        refine postK Tryz.results156 rfl rfl (put6x (HS.out.z.far (p := ⟨g, 1, none⟩) (by show _ ≠ g; omega) _) _ _ _ _ _ _) ?_
        have h1 : JAt s g (W.setCell ⟨g, 1, none⟩ (.int .i64 x.p)) { σ with at_ := x.p } := HS.out.p.own 1 (.int .i64 x.p) rfl HS.out.p.op HS.out.p.nd HS.out.p.sz
        exact ⟨rfl, (HS.out.gr.set 1 _).put6 (Nat.le_refl _) _ _ _ _ _ _, HP.out.new6 h1 (Nat.le_refl _) _ _ _ _ _ _⟩
    · rw [if_neg he]
      have qe : ((x.e : Int) != 0) = true := by rw [bne_iff_ne]; omega
      dsimp only
      clear he
      clear hP
      go_enter Tryz.func156, Tryz.ntmps156
      go_upto_region 3 with (fail)
      unfold LexPost Lx.val at HX
      have hP6 : Hid (∀ X, JAt s g X σ → ∀ u0 u1 u2 u3 u4 u5, JAt s g ((((((X.setCell ⟨w.heap.size + 1, 0, none⟩ u0).setCell ⟨w.heap.size + 1, 1, none⟩ u1).setCell ⟨w.heap.size + 1, 2, none⟩ u2).setCell ⟨w.heap.size + 1, 3, none⟩ u3).setCell ⟨w.heap.size + 1, 4, none⟩ u4).setCell ⟨w.heap.size + 1, 5, none⟩ u5) σ) := Lib.hid (fun X h u0 u1 u2 u3 u4 u5 => HP.out.new6 h (Nat.le_succ _) u0 u1 u2 u3 u4 u5)
      have keep : Hid (∀ X, JAt s g X σ → X.cell? ⟨g, 0, none⟩ = some (.string s) ∧ X.cell? ⟨g, 1, none⟩ = some (.int .i64 σ.at_)) := Lib.hid (fun X h => ⟨h.six.1.1, h.six.1.2.1⟩)
      go_region_held3 (fun X => X.cell? ⟨g, 0, none⟩ = some (.string s) ∧ X.cell? ⟨g, 1, none⟩ = some (.int .i64 σ.at_))
        (first
          | with_reducible exact keep.out _ (HP.out.alloc _).drew
          | with_reducible exact keep.out _ ((HP.out.alloc _).alloc _).drew
          | with_reducible exact keep.out _ HP1.out
          | with_reducible exact keep.out _ (HP1.out.alloc _)
          | with_reducible exact keep.out _ (hP6.out _ HP1.out _ _ _ _ _ _))
        (first
          | (go_at_call 80; (with_reducible refine (HX.out _ (HP.out.alloc _).drew.ei).mono ?_); rintro e1 w1 ⟨rfl, hb1⟩; have HP1 := Lib.hid ((HP.out.alloc _).drew.next hb1); have HB1 := Lib.hid hb1; clear hb1)
          | (go_at_call 80; (with_reducible refine (HX.out _ ((HP.out.alloc _).alloc _).drew.ei).mono ?_); rintro e1 w1 ⟨rfl, hb1⟩; have HP1 := Lib.hid (((HP.out.alloc _).alloc _).drew.next hb1); have HT := Lib.hid (two_boxes hb1); obtain ⟨t0, t1, t2, t3, t4, t5⟩ := box6 HT.out.1; obtain ⟨z0, z1, z2, z3, z4, z5⟩ := free6 HT.out.1; have HB1 := Lib.hid hb1; clear hb1))
      · skip
        have HS : Hid (RdSt s g w σ x (w1.alloc (.cells #[.int .i64 x.k, .int .i64 x.f, .int .i64 x.t, .int .u8 x.b, .int .i64 x.i, .string x.s] 93)) w1.heap.size) := Lib.hid ⟨HP1.out.alloc _, Box.laid _ _ _, ((Box.laid w _ _).drewN 1 |>.below HB1.out (by simp)).alloc _, (((Gr.one w _).drew).low HB1.out).alloc _, by have := HB1.out.size; simp at this; omega⟩
        clear HP1 HB1 HX keep hP6
        generalize w1.alloc (.cells #[.int .i64 x.k, .int .i64 x.f, .int .i64 x.t, .int .u8 x.b, .int .i64 x.i, .string x.s] 93) = W at HS ⊢
        generalize w1.heap.size = r at HS ⊢
        obtain ⟨⟨b0, b1, b2, b3, b4, b5⟩, f0, f1, f2, f3, f4, f5⟩ := HS.out.p.six
        obtain ⟨t0, t1, t2, t3, t4, t5⟩ := box6 HS.out.t
        obtain ⟨y0, y1, y2, y3, y4, y5⟩ := box6 HS.out.z
        obtain ⟨z0, z1, z2, z3, z4, z5⟩ := free6 HS.out.z
        have hlt := HS.out.lt
        go_wp2_with fail
        refine (jfail_any x.p x.e HS.out.p).mono ?_
        rintro e w2 ⟨rfl, hg2, hp2⟩
        have HZ := Lib.hid (HS.out.z.grown hg2 (by intro h; injection h with h; omega))
        obtain ⟨y0, y1, y2, y3, y4, y5⟩ := box6 HZ.out
        obtain ⟨z0, z1, z2, z3, z4, z5⟩ := free6 HZ.out
        have H2 := Lib.hid (And.intro (HS.out.gr.trans hg2) hp2)
        clear hg2 hp2
        go_wp2_with fail
        refine postK Tryz.results156 rfl rfl (put6x HZ.out _ _ _ _ _ _) ?_
        have he2 : jfail x.p x.e σ = { σ with at_ := x.p, err := x.e } := by unfold jfail; rw [if_pos HE.out]
        have h2 := H2.out.2
        rw [he2] at h2
        exact ⟨rfl, H2.out.1.put6 (Nat.le_refl _) _ _ _ _ _ _, HP.out.new6 h2 (Nat.le_refl _) _ _ _ _ _ _⟩
      · skip
        have HS : Hid (RdSt s g w σ x ((((((w1.setCell ⟨w.heap.size + 1, 0, none⟩ (.int .i64 x.k)).setCell ⟨w.heap.size + 1, 1, none⟩ (.int .i64 x.f)).setCell ⟨w.heap.size + 1, 2, none⟩ (.int .i64 x.t)).setCell ⟨w.heap.size + 1, 3, none⟩ (.int .u8 x.b)).setCell ⟨w.heap.size + 1, 4, none⟩ (.int .i64 x.i)).setCell ⟨w.heap.size + 1, 5, none⟩ (.string x.s)) (w.heap.size + 1)) := Lib.hid ⟨hP6.out _ HP1.out _ _ _ _ _ _, put6x HT.out.1 _ _ _ _ _ _, far6 (by omega) HT.out.2 _ _ _ _ _ _, (((((Gr.one w _).alloc _).drew).low HB1.out)).put6 (Nat.le_succ _) _ _ _ _ _ _, Nat.lt_succ_self _⟩
        clear t0 t1 t2 t3 t4 t5 z0 z1 z2 z3 z4 z5
        clear HP1 HB1 HX keep hP6 HT
        generalize ((((((w1.setCell ⟨w.heap.size + 1, 0, none⟩ (.int .i64 x.k)).setCell ⟨w.heap.size + 1, 1, none⟩ (.int .i64 x.f)).setCell ⟨w.heap.size + 1, 2, none⟩ (.int .i64 x.t)).setCell ⟨w.heap.size + 1, 3, none⟩ (.int .u8 x.b)).setCell ⟨w.heap.size + 1, 4, none⟩ (.int .i64 x.i)).setCell ⟨w.heap.size + 1, 5, none⟩ (.string x.s)) = W at HS ⊢
        generalize w.heap.size + 1 = r at HS ⊢
        obtain ⟨⟨b0, b1, b2, b3, b4, b5⟩, f0, f1, f2, f3, f4, f5⟩ := HS.out.p.six
        obtain ⟨t0, t1, t2, t3, t4, t5⟩ := box6 HS.out.t
        obtain ⟨y0, y1, y2, y3, y4, y5⟩ := box6 HS.out.z
        obtain ⟨z0, z1, z2, z3, z4, z5⟩ := free6 HS.out.z
        have hlt := HS.out.lt
        go_wp2_with fail
        refine (jfail_any x.p x.e HS.out.p).mono ?_
        rintro e w2 ⟨rfl, hg2, hp2⟩
        have HZ := Lib.hid (HS.out.z.grown hg2 (by intro h; injection h with h; omega))
        obtain ⟨y0, y1, y2, y3, y4, y5⟩ := box6 HZ.out
        obtain ⟨z0, z1, z2, z3, z4, z5⟩ := free6 HZ.out
        have H2 := Lib.hid (And.intro (HS.out.gr.trans hg2) hp2)
        clear hg2 hp2
        go_wp2_with fail
        refine postK Tryz.results156 rfl rfl (put6x HZ.out _ _ _ _ _ _) ?_
        have he2 : jfail x.p x.e σ = { σ with at_ := x.p, err := x.e } := by unfold jfail; rw [if_pos HE.out]
        have h2 := H2.out.2
        rw [he2] at h2
        exact ⟨rfl, H2.out.1.put6 (Nat.le_refl _) _ _ _ _ _ _, HP.out.new6 h2 (Nat.le_refl _) _ _ _ _ _ _⟩
  · rw [if_neg h0]
    have q0 : ((σ.err : Int) != 0) = true := by rw [bne_iff_ne]; omega
    clear hP h0 HX
    go_enter Tryz.func156, Tryz.ntmps156
    go_wp2_with fail
    refine postK Tryz.results156 rfl rfl HR0.out ?_
    exact ⟨rfl, Gr.one w _, HP.out.alloc _⟩
end Go.Proofs.YtfmpdcmedaiooaaGreatDoor

/- The JSON parser's key, result and nested. The JSON parser's build and element. -/
import Derived.Test.YtfmpdcmedaiooaaGreatDoorU20
set_option linter.unusedVariables false
set_option linter.unusedSimpArgs false
namespace Go.Proofs.YtfmpdcmedaiooaaGreatDoor
open Go.RowKit
set_option maxHeartbeats 4000000 in
set_option maxRecDepth 100000 in
theorem jkey_any {s : ByteArray} {g : Nat} {w : World} {σ : JS} (x : Lx) (b : Nat) (hP : JAt s g w σ) (hE : x.k = 4 → σ.sz ≤ 65536 ∧ x.s.size ≤ 4096) : Calls Tryz.prog 210 #[.pointer (some ⟨g, 0, none⟩), .agg #[.int .i64 x.k, .int .i64 x.f, .int .i64 x.t, .int .u8 x.b, .int .i64 x.i, .string x.s], .int .i64 b] w (JStr s g w x.s (jkey x b σ)) := by
  have HP := Lib.hid hP
  have hg := hP.glt
  have HT := Lib.hid (Box.laid w 93 #[.int .i64 x.k, .int .i64 x.f, .int .i64 x.t, .int .u8 x.b, .int .i64 x.i, .string x.s])
  unfold jkey
  by_cases hk : x.k = 4
  · rw [if_pos hk]
    have hE2 := hE hk
    have q : ((x.k : Int) != 4) = false := by rw [bne_eq_false_iff_eq]; omega
    by_cases hb : b = 1024
    · rw [if_pos hb]
      have q2 : ((b : Int) == 1024) = true := by rw [beq_iff_eq]; omega
      clear hE hk hP hE2 hb
      go_enter Tryz.func210, Tryz.ntmps210
      go_wp2_with fail
      refine (jfail_lit x.f 2 rfl rfl (HP.out.alloc _)).mono ?_
      rintro e w1 ⟨rfl, hg1, hp1⟩
      have HT1 := Lib.hid (HT.out.gr hg1 (by omega))
      obtain ⟨t0, t1, t2, t3, t4, t5⟩ := box6 HT1.out
      have HG1 := Lib.hid ((Gr.one w _).trans hg1)
      have HP1 := Lib.hid hp1
      clear hg1 hp1
      go_wp2_with fail
      go_ret
      exact ⟨rfl, HG1.out, HP1.out⟩
    · rw [if_neg hb]
      have q2 : ((b : Int) == 1024) = false := by rw [beq_eq_false_iff_ne]; omega
      have HH := Lib.hid (fun W (h : JAt s g W σ) => hasRoom_any x h hE2.1 hE2.2)
      by_cases hr : σ.sz + x.s.size ≤ 65536
      · rw [if_neg (by omega)]
        rw [decide_eq_true hr] at HH
        clear hE hk hP hE2 hb hr
        go_enter Tryz.func210, Tryz.ntmps210
        go_wp2_with fail
        refine (HH.out _ (HP.out.alloc _)).mono ?_
        rintro e w1 ⟨rfl, hg1, hp1⟩
        have HT1 := Lib.hid (HT.out.gr hg1 (by omega))
        obtain ⟨t0, t1, t2, t3, t4, t5⟩ := box6 HT1.out
        have HG1 := Lib.hid ((Gr.one w _).trans hg1)
        have HP1 := Lib.hid hp1
        clear hg1 hp1
        go_wp2_with fail
        go_ret
        exact ⟨rfl, HG1.out, HP1.out⟩
      · rw [if_pos (by omega)]
        rw [decide_eq_false hr] at HH
        clear hE hk hP hE2 hb hr
        go_enter Tryz.func210, Tryz.ntmps210
        go_wp2_with fail
        refine (HH.out _ (HP.out.alloc _)).mono ?_
        rintro e w1 ⟨rfl, hg1, hp1⟩
        have HT1 := Lib.hid (HT.out.gr hg1 (by omega))
        obtain ⟨t0, t1, t2, t3, t4, t5⟩ := box6 HT1.out
        have HG1 := Lib.hid ((Gr.one w _).trans hg1)
        have HP1 := Lib.hid hp1
        clear hg1 hp1
        go_wp2_with fail
        refine (jfail_lit x.f 2 rfl rfl HP1.out).mono ?_
        rintro e w2 ⟨rfl, hg2, hp2⟩
        have hne : ¬ w.heap.size = g := by omega
        have HT2 := Lib.hid (HT1.out.gr hg2 hne)
        clear t0 t1 t2 t3 t4 t5
        obtain ⟨t0, t1, t2, t3, t4, t5⟩ := box6 HT2.out
        have HG2 := Lib.hid (HG1.out.trans hg2)
        have HP2 := Lib.hid hp2
        clear hg2 hp2
        go_wp2_with fail
        go_ret
        exact ⟨rfl, HG2.out, HP2.out⟩
  · rw [if_neg hk]
    have q : ((x.k : Int) != 4) = true := by rw [bne_iff_ne]; omega
    clear hE hk hP
    go_enter Tryz.func210, Tryz.ntmps210
    go_wp2_with fail
    refine (jfail_lit x.f 4 rfl rfl (HP.out.alloc _)).mono ?_
    rintro e w1 ⟨rfl, hg1, hp1⟩
    have HT1 := Lib.hid (HT.out.gr hg1 (by omega))
    obtain ⟨t0, t1, t2, t3, t4, t5⟩ := box6 HT1.out
    have HG1 := Lib.hid ((Gr.one w _).trans hg1)
    have HP1 := Lib.hid hp1
    clear hg1 hp1
    go_wp2_with fail
    go_ret
    exact ⟨rfl, HG1.out, HP1.out⟩
/-- Blocks made since. -/
def Nw (B E b : Nat) : Prop := B ≤ b ∧ b < E
/-- What a method with a value for its result hands back. -/
def JVal (s : ByteArray) (g : Nat) (w : World) (v : V) (τ : JS) (e : Ending) (w' : World) : Prop := ∃ c0 c1 c2 c3 c4, e = .returned (.agg #[c0, c1, c2, c3, c4]) ∧ Gr g w w' ∧ JAt s g w' τ ∧ Lies w' (Nw w.heap.size w'.heap.size) v [c0, c1, c2, c3, c4]
theorem put5x {w : World} {r : Nat} {t : TypeId} {x0 x1 x2 x3 x4 : Value} (h : Box w r t #[x0, x1, x2, x3, x4]) (u0 u1 u2 u3 u4 : Value) : Box (((((w.setCell ⟨r, 0, none⟩ u0).setCell ⟨r, 1, none⟩ u1).setCell ⟨r, 2, none⟩ u2).setCell ⟨r, 3, none⟩ u3).setCell ⟨r, 4, none⟩ u4) r t #[u0, u1, u2, u3, u4] := ((((h.put 0 u0).put 1 u1).put 2 u2).put 3 u3).put 4 u4
theorem free5 {w : World} {r : Nat} {t : TypeId} {x0 x1 x2 x3 x4 : Value} (h : Box w r t #[x0, x1, x2, x3, x4]) : w.frozen? ⟨r, 0, none⟩ = false ∧ w.frozen? ⟨r, 1, none⟩ = false ∧ w.frozen? ⟨r, 2, none⟩ = false ∧ w.frozen? ⟨r, 3, none⟩ = false ∧ w.frozen? ⟨r, 4, none⟩ = false := ⟨h.free 0, h.free 1, h.free 2, h.free 3, h.free 4⟩
section
variable {s : ByteArray} {g : Nat} {w w' : World} {σ τ : JS}
theorem JAt.new5 (h : JAt s g w σ) (h' : JAt s g w' τ) {r : Nat} (hr : w.heap.size ≤ r) (u0 u1 u2 u3 u4 : Value) : JAt s g (((((w'.setCell ⟨r, 0, none⟩ u0).setCell ⟨r, 1, none⟩ u1).setCell ⟨r, 2, none⟩ u2).setCell ⟨r, 3, none⟩ u3).setCell ⟨r, 4, none⟩ u4) τ :=
  h.new (h.new (h.new (h.new (h.new h' hr 0 u0) hr 1 u1) hr 2 u2) hr 3 u3) hr 4 u4
theorem Gr.put5 (h : Gr g w w') {r : Nat} (hr : w.heap.size ≤ r) (u0 u1 u2 u3 u4 : Value) : Gr g w (((((w'.setCell ⟨r, 0, none⟩ u0).setCell ⟨r, 1, none⟩ u1).setCell ⟨r, 2, none⟩ u2).setCell ⟨r, 3, none⟩ u3).setCell ⟨r, 4, none⟩ u4) :=
  ((((h.put hr 0 u0).put hr 1 u1).put hr 2 u2).put hr 3 u3).put hr 4 u4
end
theorem size5 (w : World) (r : Nat) (u0 u1 u2 u3 u4 : Value) : (((((w.setCell ⟨r, 0, none⟩ u0).setCell ⟨r, 1, none⟩ u1).setCell ⟨r, 2, none⟩ u2).setCell ⟨r, 3, none⟩ u3).setCell ⟨r, 4, none⟩ u4).heap.size = w.heap.size := by simp [World.setCell]
theorem heap5 (w : World) (r : Nat) (u0 u1 u2 u3 u4 : Value) (b : Nat) (hb : ¬ b = r) : (((((w.setCell ⟨r, 0, none⟩ u0).setCell ⟨r, 1, none⟩ u1).setCell ⟨r, 2, none⟩ u2).setCell ⟨r, 3, none⟩ u3).setCell ⟨r, 4, none⟩ u4).heap[b]? = w.heap[b]? := by
  repeat rw [Below.heap_setCell _ _ _ _ (by exact hb)]
/-- The result is put into its box: what lies in blocks behind the box is a result. -/
theorem JVal.close {s : ByteArray} {g : Nat} {w W : World} {σ τ : JS} {v : V} {u0 u1 u2 u3 u4 : Value} (hP : JAt s g w σ) (hg : Gr g w W) (hp : JAt s g W τ) (hl : Lies W (Nw (w.heap.size + 1) W.heap.size) v [u0, u1, u2, u3, u4]) :
    JVal s g w v τ (.returned (.agg #[u0, u1, u2, u3, u4])) (((((W.setCell ⟨w.heap.size, 0, none⟩ u0).setCell ⟨w.heap.size, 1, none⟩ u1).setCell ⟨w.heap.size, 2, none⟩ u2).setCell ⟨w.heap.size, 3, none⟩ u3).setCell ⟨w.heap.size, 4, none⟩ u4) := by
  refine ⟨_, _, _, _, _, rfl, hg.put5 (Nat.le_refl _) _ _ _ _ _, hP.new5 hp (Nat.le_refl _) _ _ _ _ _, hl.move fun b hb => ?_⟩
  rw [size5]
  exact ⟨⟨by have := hb.1; omega, hb.2⟩, heap5 _ _ _ _ _ _ _ b (by have := hb.1; omega)⟩
theorem JVal.alloc {s : ByteArray} {g : Nat} {w w' : World} {v : V} {τ : JS} {e : Ending} (h : JVal s g w v τ e w') (o : Obj) : JVal s g w v τ e (w'.alloc o) := by
  obtain ⟨c0, c1, c2, c3, c4, h1, h2, h3, h4⟩ := h
  exact ⟨c0, c1, c2, c3, c4, h1, h2.alloc o, h3.alloc o, h4.move fun b hb => ⟨⟨hb.1, by have := hb.2; simp; omega⟩, Below.heap_alloc _ _ _ hb.2⟩⟩
theorem post5v {w : World} {r : Nat} {t : TypeId} {fn : Func} {a : Act} {R : Ending → World → Prop} {slot : Nat} {c0 c1 c2 c3 c4 : Value} (hres : fn.results = #[ResultVar.cell slot 25]) (ht : a.tmps.getD slot undef = .pointer (some ⟨r, 0, none⟩)) (hd : a.defers = [])
    (hB : Box w r t #[c0, c1, c2, c3, c4]) (h : R (.returned (.agg #[c0, c1, c2, c3, c4])) w) : bodyPost Tryz.prog fn R Exit.ret a w := by
  obtain ⟨y0, y1, y2, y3, y4⟩ := box5 hB
  have ht2 : a.tmps[slot]?.getD undef = .pointer (some ⟨r, 0, none⟩) := by simpa using ht
  exact bodyPost_ret (v := .agg #[c0, c1, c2, c3, c4]) (by simp [results, hres, ht2, go_sem, y0, y1, y2, y3, y4]) hd h
set_option maxHeartbeats 4000000 in
set_option maxRecDepth 100000 in
theorem jresult_any {s : ByteArray} {g : Nat} {w : World} {σ : JS} (k n : Int) (t : ByteArray) (A B : Option Addr) (na ca nb cb : Nat) (hP : JAt s g w σ) : Calls Tryz.prog 121 #[.pointer (some ⟨g, 0, none⟩), .agg #[.int .i64 k, .int .i64 n, .string t, .slice A na ca, .slice B nb cb]] w (fun e w' => e = .returned (.tuple #[.agg (if σ.err = 0 then #[.int .i64 k, .int .i64 n, .string t, .slice A na ca, .slice B nb cb] else #[.int .i64 0, .int .i64 0, .string ⟨#[]⟩, .slice none 0 0, .slice none 0 0]), .int .i64 σ.at_, .int .i64 σ.err]) ∧ Below w.heap.size w w') := by
  have HP := Lib.hid hP
  have hg := hP.glt
  have hgw : ¬ g = w.heap.size := by omega
  have hgw2 : ¬ g = w.heap.size + 1 := by omega
  obtain ⟨⟨b0, b1, b2, b3, b4, b5⟩, f0, f1, f2, f3, f4, f5⟩ := hP.six
  by_cases h0 : σ.err = 0
  · rw [if_pos h0]
    have q : ((σ.err : Int) != 0) = false := by rw [bne_eq_false_iff_eq]; omega
    clear hP
    go_enter Tryz.func121, Tryz.ntmps121
    go_upto_region 3 with (fail)
    go_region
    go_wp2_with fail
    refine bodyPost_ret (v := .tuple #[.agg #[.int .i64 k, .int .i64 n, .string t, .slice A na ca, .slice B nb cb], .int .i64 σ.at_, .int .i64 0]) (by simp [results, Tryz.results121, go_sem]) rfl ?_
    rw [show ((σ.err : Nat) : Int) = 0 by omega]
    exact ⟨rfl, (((Below.refl _ _).alloc (Nat.le_refl _) _).alloc (by simp) _).drew⟩
  · rw [if_neg h0]
    have q : ((σ.err : Int) != 0) = true := by rw [bne_iff_ne]; omega
    clear hP
    go_enter Tryz.func121, Tryz.ntmps121
    go_upto_region 2 with (fail)
    go_region
    go_wp2_with fail
    refine bodyPost_ret (v := .tuple #[.agg #[.int .i64 0, .int .i64 0, .string ⟨#[]⟩, .slice none 0 0, .slice none 0 0], .int .i64 σ.at_, .int .i64 σ.err]) (by simp [results, Tryz.results121, go_sem]) rfl ?_
    exact ⟨rfl, (((Below.refl _ _).alloc (Nat.le_refl _) _).alloc (by simp) _).drew⟩
/-- A method value's contract: what the call with the parser alone does. -/
def OkM (s : ByteArray) (g : Nat) (f : Nat) (m : JM) : Prop := ∀ W σ v τ, JAt s g W σ → JB σ → m σ = some (v, τ) → Calls Tryz.prog f #[.pointer (some ⟨g, 0, none⟩)] W (JVal s g W v τ)
def EntM (f : Nat) : Prop := ∀ (args : Array Value) (W : World), Sem.run Tryz.prog (callFunc f args) W = .ok (.enter f args) W
theorem lies_five {w : World} {S : Nat → Prop} {v : V} {c0 c1 c2 c3 c4 : Value} (h : Lies w S v [c0, c1, c2, c3, c4]) : ∃ (k n : Int) (t : ByteArray) (A : Option Addr) (na ca : Nat) (B : Option Addr) (nb cb : Nat), c0 = .int .i64 k ∧ c1 = .int .i64 n ∧ c2 = .string t ∧ c3 = .slice A na ca ∧ c4 = .slice B nb cb := by
  obtain ⟨k, n, t, ks, es⟩ := v
  obtain ⟨A, a, B, b, xs, he, _⟩ := lies_open h
  simp only [List.cons.injEq, and_true] at he
  obtain ⟨rfl, rfl, rfl, rfl, rfl⟩ := he
  exact ⟨_, _, _, _, _, _, _, _, _, rfl, rfl, rfl, rfl, rfl⟩
set_option maxHeartbeats 4000000 in
set_option maxRecDepth 100000 in
theorem nested_any {s : ByteArray} {g : Nat} {w : World} {σ τ : JS} {v : V} (fl : Nat) (em : EntM fl) {m : JM} (hM : OkM s g fl m) (hP : JAt s g w σ) (hop : σ.op < 32) (hB : JB { σ with op := σ.op + 1 }) (hm : jnest m σ = some (v, τ)) (hsame : ∀ u ρ, m { σ with op := σ.op + 1 } = some (u, ρ) → ρ.op = σ.op + 1) : Calls Tryz.prog 183 #[.pointer (some ⟨g, 0, none⟩), .func (.func fl) #[.pointer (some ⟨g, 0, none⟩)] #[]] w (JVal s g w v τ) := by
  have HP := Lib.hid hP
  have hg := hP.glt
  have hgw : ¬ g = w.heap.size := by omega
  obtain ⟨⟨b0, b1, b2, b3, b4, b5⟩, f0, f1, f2, f3, f4, f5⟩ := hP.six
  obtain ⟨u, ρ, h1, h2⟩ := jbnd_some hm
  simp only [Option.some.injEq, Prod.mk.injEq] at h2
  obtain ⟨rfl, rfl⟩ := h2
  have hop2 := hsame u ρ h1
  have HM := Lib.hid (fun W (h : JAt s g W { σ with op := σ.op + 1 }) => hM W _ u ρ h hB h1)
  have hw1 : IntKind.i64.wrap ((σ.op : Int) + 1) = (σ.op : Int) + 1 := by rw [IntKind.wrap_i64]; omega
  have HOP := Lib.hid hop
  have HO2 := Lib.hid hop2
  have HR0 := Lib.hid (Box.laid w 25 #[.int .i64 0, .int .i64 0, .string ⟨#[]⟩, .slice none 0 0, .slice none 0 0])
  clear hP hM hm h1 hsame hop2 hB
  have em2 : ∀ (args : Array Value) (W : World), Sem.run Tryz.prog (callFunc fl args) W = .ok (.enter fl args) W := em
  have H1 : Hid (JAt s g (w.setCell ⟨g, 3, none⟩ (.int .i64 ((σ.op : Int) + 1))) { σ with op := σ.op + 1 }) := Lib.hid (HP.out.own 3 _ rfl (by have := HOP.out; show σ.op + 1 ≤ 32; omega) HP.out.nd HP.out.sz)
  clear em
  go_enter Tryz.func183, Tryz.ntmps183
  go_wp2_with fail
  refine (HM.out _ (H1.out.alloc _)).mono ?_
  rintro e w1 ⟨c0, c1, c2, c3, c4, rfl, hg1, hp1, hl1⟩
  obtain ⟨k, n, t, A, na, ca, B, nb, cb, rfl, rfl, rfl, rfl, rfl⟩ := lies_five hl1
  have HZ1 := Lib.hid (Box.gr (b := w.heap.size) (t := 25) (cs := #[.int .i64 0, .int .i64 0, .string ⟨#[]⟩, .slice none 0 0, .slice none 0 0]) (w := (w.setCell ⟨g, 3, none⟩ (.int .i64 ((σ.op : Int) + 1))).alloc (.cells #[.int .i64 0, .int .i64 0, .string ⟨#[]⟩, .slice none 0 0, .slice none 0 0] 25)) (by have h := Box.laid (w.setCell ⟨g, 3, none⟩ (.int .i64 ((σ.op : Int) + 1))) 25 #[.int .i64 0, .int .i64 0, .string ⟨#[]⟩, .slice none 0 0, .slice none 0 0]; rw [show (w.setCell ⟨g, 3, none⟩ (.int .i64 ((σ.op : Int) + 1))).heap.size = w.heap.size by simp [World.setCell]] at h; exact h) hg1 (by omega))
  have HG1 := Lib.hid ((((Gr.refl g w).set 3 _).alloc _).trans hg1)
  have HP1 := Lib.hid hp1
  have HL1 := Lib.hid hl1
  have hlt : w.heap.size < w1.heap.size := by have := hg1.size; simp [World.setCell] at this; omega
  obtain ⟨⟨b0, b1, b2, b3, b4, b5⟩, f0, f1, f2, f3, f4, f5⟩ := hp1.six
  have hgl := hp1.glt
  have hgw1 : ¬ g = w1.heap.size := by omega
  have hw2 : IntKind.i64.wrap ((ρ.op : Int) - 1) = (ρ.op : Int) - 1 := by have := hp1.op; rw [IntKind.wrap_i64]; omega
  obtain ⟨y0, y1, y2, y3, y4⟩ := box5 HZ1.out
  obtain ⟨z0, z1, z2, z3, z4⟩ := free5 HZ1.out
  clear hg1 hp1 hl1
  go_wp2_with fail
  refine post5v Tryz.results183 rfl rfl ((put5x (HZ1.out.far (p := ⟨g, 3, none⟩) (by show _ ≠ g; omega) _) _ _ _ _ _).alloc _) ?_
  have hc : ((ρ.op - 1 : Nat) : Int) = (ρ.op : Int) - 1 := by have := HO2.out; omega
  have h2 : JAt s g (w1.setCell ⟨g, 3, none⟩ (.int .i64 ((ρ.op : Int) - 1))) { ρ with op := ρ.op - 1 } := by
    rw [← hc]
    exact HP1.out.own 3 _ rfl (by have := HP1.out.op; show ρ.op - 1 ≤ 32; omega) HP1.out.nd HP1.out.sz
  have h3 : Lies (w1.setCell ⟨g, 3, none⟩ (.int .i64 ((ρ.op : Int) - 1))) (Nw (w.heap.size + 1) (w1.setCell ⟨g, 3, none⟩ (.int .i64 ((ρ.op : Int) - 1))).heap.size) u [.int .i64 k, .int .i64 n, .string t, .slice A na ca, .slice B nb cb] := HL1.out.move fun b hb => by
    have h4 := hb.1
    simp [World.setCell] at h4
    exact ⟨⟨by omega, by have := hb.2; simp [World.setCell]; omega⟩, Below.heap_setCell _ _ _ _ (by show b ≠ g; omega)⟩
  exact (JVal.close HP.out (HG1.out.set 3 _) h2 h3).alloc _
end Go.Proofs.YtfmpdcmedaiooaaGreatDoor
namespace Go.Proofs.YtfmpdcmedaiooaaGreatDoor
open Go.RowKit
theorem lies_leafV {w : World} {S : Nat → Prop} (k n : Int) (t : ByteArray) (ht : t.size ≤ 140737488355328) : Lies w S (.mk k n t [] []) [.int .i64 k, .int .i64 n, .string t, .slice none 0 0, .slice none 0 0] := by
  rw [Lies]
  exact ⟨⟨ht, by simp, Nat.zero_le _, Nat.zero_le _⟩, none, 0, none, 0, [], rfl, fun _ => rfl, fun _ => rfl, ⟨Nat.le_refl _, Nat.zero_le _⟩, ⟨Nat.le_refl _, Nat.zero_le _⟩, Rs.nil _ _ _, Rs.nil _ _ _, by rw [LiesL]⟩
/-- The result is put into its box, wherever that lies. -/
theorem JVal.closeAt {s : ByteArray} {g : Nat} {w W : World} {σ τ : JS} {v : V} {S : Nat → Prop} {u0 u1 u2 u3 u4 : Value} {r : Nat} (hr : w.heap.size ≤ r) (hP : JAt s g w σ) (hg : Gr g w W) (hp : JAt s g W τ) (hl : Lies W S v [u0, u1, u2, u3, u4]) (hS : ∀ b, S b → w.heap.size ≤ b ∧ b < W.heap.size ∧ ¬ b = r) :
    JVal s g w v τ (.returned (.agg #[u0, u1, u2, u3, u4])) (((((W.setCell ⟨r, 0, none⟩ u0).setCell ⟨r, 1, none⟩ u1).setCell ⟨r, 2, none⟩ u2).setCell ⟨r, 3, none⟩ u3).setCell ⟨r, 4, none⟩ u4) := by
  refine ⟨_, _, _, _, _, rfl, hg.put5 hr _ _ _ _ _, hP.new5 hp hr _ _ _ _ _, hl.move fun b hb => ?_⟩
  rw [size5]
  have := hS b hb
  exact ⟨⟨this.1, this.2.1⟩, heap5 _ _ _ _ _ _ _ b this.2.2⟩
def noB : Nat → Prop := fun _ => False
theorem em52 : EntM 184 := fun args W => by kernel_rfl
theorem em53 : EntM 185 := fun args W => by kernel_rfl
/-- The token's box and the result's, laid first. -/
theorem laid2 (w : World) (x y : Array Value) (t u : TypeId) : Box ((w.alloc (.cells x t)).alloc (.cells y u)) w.heap.size t x ∧ Box ((w.alloc (.cells x t)).alloc (.cells y u)) (w.heap.size + 1) u y := by
  have h1 := (Box.laid w t x).alloc (.cells y u)
  have h2 := Box.laid (w.alloc (.cells x t)) u y
  have e : (w.alloc (.cells x t)).heap.size = w.heap.size + 1 := by simp
  rw [e] at h2
  exact ⟨h1, h2⟩
set_option maxHeartbeats 4000000 in
set_option maxRecDepth 100000 in
theorem build_any {s : ByteArray} {g : Nat} {w : World} {σ τ : JS} {v : V} {arr obj : JM} (x : Lx) (hx : TokF x) (hA : OkM s g 184 arr) (hO : OkM s g 185 obj) (hsA : ∀ ρ u ρ', JB ρ → arr ρ = some (u, ρ') → ρ'.op = ρ.op) (hsO : ∀ ρ u ρ', JB ρ → obj ρ = some (u, ρ') → ρ'.op = ρ.op)
    (hP : JAt s g w σ) (hB : JB σ) (hop : x.k ≠ 3 → x.k ≠ 4 → (x.b = 91 ∨ x.b = 123) → σ.op < 32) (hm : jbuild arr obj x σ = some (v, τ)) : Calls Tryz.prog 155 #[.pointer (some ⟨g, 0, none⟩), .agg #[.int .i64 x.k, .int .i64 x.f, .int .i64 x.t, .int .u8 x.b, .int .i64 x.i, .string x.s]] w (JVal s g w v τ) := by
  have HP := Lib.hid hP
  have hg := hP.glt
  have HT0 := Lib.hid (laid2 w #[.int .i64 x.k, .int .i64 x.f, .int .i64 x.t, .int .u8 x.b, .int .i64 x.i, .string x.s] #[.int .i64 0, .int .i64 0, .string ⟨#[]⟩, .slice none 0 0, .slice none 0 0] 93 25).1
  have HZ0 := Lib.hid (laid2 w #[.int .i64 x.k, .int .i64 x.f, .int .i64 x.t, .int .u8 x.b, .int .i64 x.i, .string x.s] #[.int .i64 0, .int .i64 0, .string ⟨#[]⟩, .slice none 0 0, .slice none 0 0] 93 25).2
  have hzz : (⟨#[]⟩ : ByteArray).size ≤ 140737488355328 := by decide
  have hne : ¬ w.heap.size + 1 = g := by omega
  have hsz : x.s.size ≤ 140737488355328 := by
    by_cases h : x.k = 4
    · have := (hx.str h).1; omega
    · rw [hx.no h]; exact hzz
  have HZZ := Lib.hid hzz
  have HSZ := Lib.hid hsz
  unfold jbuild at hm
  by_cases k3 : x.k = 3
  · rw [if_pos k3] at hm
    simp only [Option.some.injEq, Prod.mk.injEq] at hm
    obtain ⟨rfl, rfl⟩ := hm
    have q3 : ((x.k : Int) == 3) = true := by rw [beq_iff_eq]; omega
    clear hA hO hsA hsO hP hB hop hx hzz hsz k3
    go_enter Tryz.func155, Tryz.ntmps155
    go_wp2_with fail
    refine (num_any x.i _).mono ?_
    rintro e w1 ⟨rfl, hb1⟩
    have HZ1 := Lib.hid (HZ0.out.below hb1 HZ0.out.lt)
    have HG1 := Lib.hid (((Gr.one w _).alloc _).low hb1 : Gr g w w1)
    have HP1 := Lib.hid (((HP.out.alloc _).alloc _).next hb1)
    obtain ⟨y0, y1, y2, y3, y4⟩ := box5 HZ1.out
    obtain ⟨z0, z1, z2, z3, z4⟩ := free5 HZ1.out
    clear hb1
    go_wp2_with fail
    refine post5v Tryz.results155 rfl rfl (put5x HZ1.out _ _ _ _ _) ?_
    exact JVal.closeAt (S := noB) (Nat.le_succ _) HP.out HG1.out HP1.out (lies_leafV _ _ _ HZZ.out) (fun b h => h.elim)
  rw [if_neg k3] at hm
  have q3 : ((x.k : Int) == 3) = false := by rw [beq_eq_false_iff_ne]; omega
  by_cases k4 : x.k = 4
  · rw [if_pos k4] at hm
    simp only [Option.some.injEq, Prod.mk.injEq] at hm
    obtain ⟨rfl, rfl⟩ := hm
    have q4 : ((x.k : Int) == 4) = true := by rw [beq_iff_eq]; omega
    clear hA hO hsA hsO hP hB hop hx hzz hsz k3 k4
    go_enter Tryz.func155, Tryz.ntmps155
    go_wp2_with fail
    refine post5v Tryz.results155 rfl rfl (laid2 w _ _ _ _).2 ?_
    exact ⟨_, _, _, _, _, rfl, ((Gr.one w _).alloc _), (HP.out.alloc _).alloc _, lies_leafV _ _ _ HSZ.out⟩
  rw [if_neg k4] at hm
  have q4 : ((x.k : Int) == 4) = false := by rw [beq_eq_false_iff_ne]; omega
  by_cases b91 : x.b = 91
  · rw [if_pos b91] at hm
    have p91 : ((x.b : Int) == 91) = true := by rw [beq_iff_eq]; omega
    have hop2 := hop k3 k4 (.inl b91)
    have HN := Lib.hid (fun W (h : JAt s g W σ) => nested_any 184 em52 hA h hop2 ⟨by show σ.op + 1 ≤ 32; omega, hB.2⟩ hm (fun u ρ hr => hsA { σ with op := σ.op + 1 } u ρ ⟨by show σ.op + 1 ≤ 32; omega, hB.2⟩ hr))
    clear hA hO hsA hsO hP hB hop hx hzz hsz k3 k4 b91 hm
    go_enter Tryz.func155, Tryz.ntmps155
    go_wp2_with fail
    refine (HN.out _ ((HP.out.alloc _).alloc _)).mono ?_
    rintro e w1 ⟨c0, c1, c2, c3, c4, rfl, hg1, hp1, hl1⟩
    obtain ⟨k, n, t, A, na, ca, B, nb, cb, rfl, rfl, rfl, rfl, rfl⟩ := lies_five hl1
    have HZ1 := Lib.hid (HZ0.out.gr hg1 hne)
    have HG1 := Lib.hid ((((Gr.one w _).alloc _).trans hg1) : Gr g w w1)
    have HP1 := Lib.hid hp1
    have HL1 := Lib.hid hl1
    obtain ⟨y0, y1, y2, y3, y4⟩ := box5 HZ1.out
    obtain ⟨z0, z1, z2, z3, z4⟩ := free5 HZ1.out
    clear hg1 hp1 hl1
    go_wp2_with fail
    refine post5v Tryz.results155 rfl rfl (put5x HZ1.out _ _ _ _ _) ?_
    exact JVal.closeAt (Nat.le_succ _) HP.out HG1.out HP1.out HL1.out (fun b h => by have := h.1; have := h.2; simp at *; omega)
  rw [if_neg b91] at hm
  have p91 : ((x.b : Int) == 91) = false := by rw [beq_eq_false_iff_ne]; omega
  by_cases b123 : x.b = 123
  · rw [if_pos b123] at hm
    have p123 : ((x.b : Int) == 123) = true := by rw [beq_iff_eq]; omega
    have hop2 := hop k3 k4 (.inr b123)
    have HN := Lib.hid (fun W (h : JAt s g W σ) => nested_any 185 em53 hO h hop2 ⟨by show σ.op + 1 ≤ 32; omega, hB.2⟩ hm (fun u ρ hr => hsO { σ with op := σ.op + 1 } u ρ ⟨by show σ.op + 1 ≤ 32; omega, hB.2⟩ hr))
    clear hA hO hsA hsO hP hB hop hx hzz hsz k3 k4 b123 hm
    go_enter Tryz.func155, Tryz.ntmps155
    go_wp2_with fail
    refine (HN.out _ ((HP.out.alloc _).alloc _)).mono ?_
    rintro e w1 ⟨c0, c1, c2, c3, c4, rfl, hg1, hp1, hl1⟩
    obtain ⟨k, n, t, A, na, ca, B, nb, cb, rfl, rfl, rfl, rfl, rfl⟩ := lies_five hl1
    have HZ1 := Lib.hid (HZ0.out.gr hg1 hne)
    have HG1 := Lib.hid ((((Gr.one w _).alloc _).trans hg1) : Gr g w w1)
    have HP1 := Lib.hid hp1
    have HL1 := Lib.hid hl1
    obtain ⟨y0, y1, y2, y3, y4⟩ := box5 HZ1.out
    obtain ⟨z0, z1, z2, z3, z4⟩ := free5 HZ1.out
    clear hg1 hp1 hl1
    go_wp2_with fail
    refine post5v Tryz.results155 rfl rfl (put5x HZ1.out _ _ _ _ _) ?_
    exact JVal.closeAt (Nat.le_succ _) HP.out HG1.out HP1.out HL1.out (fun b h => by have := h.1; have := h.2; simp at *; omega)
  rw [if_neg b123] at hm
  have p123 : ((x.b : Int) == 123) = false := by rw [beq_eq_false_iff_ne]; omega
  by_cases b110 : x.b = 110
  · rw [if_pos b110] at hm
    simp only [Option.some.injEq, Prod.mk.injEq] at hm
    obtain ⟨rfl, rfl⟩ := hm
    have p110 : ((x.b : Int) == 110) = true := by rw [beq_iff_eq]; omega
    clear hA hO hsA hsO hP hB hop hx hzz hsz k3 k4 b91 b123 b110
    go_enter Tryz.func155, Tryz.ntmps155
    go_wp2_with fail
    refine post5v Tryz.results155 rfl rfl (laid2 w _ _ _ _).2 ?_
    exact ⟨_, _, _, _, _, rfl, ((Gr.one w _).alloc _), (HP.out.alloc _).alloc _, lies_leafV _ _ _ HZZ.out⟩
  rw [if_neg b110] at hm
  have p110 : ((x.b : Int) == 110) = false := by rw [beq_eq_false_iff_ne]; omega
  simp only [Option.some.injEq, Prod.mk.injEq] at hm
  obtain ⟨rfl, rfl⟩ := hm
  by_cases b116 : x.b = 116
  · rw [if_pos b116]
    have p116 : ((x.b : Int) == 116) = true := by rw [beq_iff_eq]; omega
    clear hA hO hsA hsO hP hB hop hx hzz hsz k3 k4 b91 b123 b110 b116
    go_enter Tryz.func155, Tryz.ntmps155
    go_wp2_with fail
    refine (bool_any true _).mono ?_
    rintro e w1 ⟨rfl, hb1⟩
    have HZ1 := Lib.hid (HZ0.out.below hb1 HZ0.out.lt)
    have HG1 := Lib.hid (((Gr.one w _).alloc _).low hb1 : Gr g w w1)
    have HP1 := Lib.hid (((HP.out.alloc _).alloc _).next hb1)
    obtain ⟨y0, y1, y2, y3, y4⟩ := box5 HZ1.out
    obtain ⟨z0, z1, z2, z3, z4⟩ := free5 HZ1.out
    clear hb1
    go_wp2_with fail
    refine post5v Tryz.results155 rfl rfl (put5x HZ1.out _ _ _ _ _) ?_
    exact JVal.closeAt (S := noB) (Nat.le_succ _) HP.out HG1.out HP1.out (lies_leafV _ _ _ HZZ.out) (fun b h => h.elim)
  · rw [if_neg b116]
    have p116 : ((x.b : Int) == 116) = false := by rw [beq_eq_false_iff_ne]; omega
    clear hA hO hsA hsO hP hB hop hx hzz hsz k3 k4 b91 b123 b110 b116
    go_enter Tryz.func155, Tryz.ntmps155
    go_wp2_with fail
    refine (bool_any false _).mono ?_
    rintro e w1 ⟨rfl, hb1⟩
    have HZ1 := Lib.hid (HZ0.out.below hb1 HZ0.out.lt)
    have HG1 := Lib.hid (((Gr.one w _).alloc _).low hb1 : Gr g w w1)
    have HP1 := Lib.hid (((HP.out.alloc _).alloc _).next hb1)
    obtain ⟨y0, y1, y2, y3, y4⟩ := box5 HZ1.out
    obtain ⟨z0, z1, z2, z3, z4⟩ := free5 HZ1.out
    clear hb1
    go_wp2_with fail
    refine post5v Tryz.results155 rfl rfl (put5x HZ1.out _ _ _ _ _) ?_
    exact JVal.closeAt (S := noB) (Nat.le_succ _) HP.out HG1.out HP1.out (lies_leafV _ _ _ HZZ.out) (fun b h => h.elim)
end Go.Proofs.YtfmpdcmedaiooaaGreatDoor

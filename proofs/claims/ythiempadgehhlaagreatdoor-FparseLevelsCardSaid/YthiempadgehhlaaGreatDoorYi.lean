/- The parser: objects. -/
import Derived.Test.YthiempadgehhlaaGreatDoorYh
import Derived.Test.YthiempadgehhlaaGreatDoorYb
set_option linter.unusedVariables false
set_option linter.unusedSectionVars false
set_option linter.unusedSimpArgs false
namespace Go.Proofs.YthiempadgehhlaaGreatDoor
open Go.RowKit
/-- The head of object's loop: the box q holds the node, its parts are the trees l. -/
structure ObSt (L : List Fk) (gt C g : Nat) (w0 w : World) (σ : PS) (q : Nat) (l : List Ft) (A : Option Addr) (n c : Nat) : Prop where
  s : RSt L gt C g w0 w σ
  hn : l.length = n
  hq : q = w0.heap.size + 1
  bx : Box w q 32 #[.int .i64 10, .string ⟨#[]⟩, .int .i64 0, .int .i64 0, .string ⟨#[]⟩, .slice none 0 0, .slice none 0 0, .slice none 0 0, .slice A n c]
  row : ∃ xs, w.ownsRow (w0.heap.size + 2) 32 9 (.slice A n c) n xs ∧ LiesFL w (fun b => w0.heap.size < b ∧ b < w.heap.size ∧ ¬ b = q ∧ (Value.slice A n c).ownBlock ≠ some b) l xs
section
variable {L : List Fk} {gt C g : Nat} {w w' w0 : World} {σ τ : PS} {q : Nat} {l : List Ft} {A : Option Addr} {n c : Nat}
theorem ObSt.next (h : ObSt L gt C g w0 w σ q l A n c) (hg : Gr g w w') (hp : PAt L gt C g w' τ) : ObSt L gt C g w0 w' τ q l A n c := by
  obtain ⟨xs, h1, h2⟩ := h.row
  have hge := ownBlock_ge h1
  have hg0 := h.s.g0
  have hq := h.hq
  refine ⟨h.s.next hg hp, h.hn, h.hq, h.bx.grown hg (by intro e; injection e with e; omega), xs, h1.kept hg ?_, LiesFL.move h2 fun b hb => ⟨⟨hb.1, Nat.lt_of_lt_of_le hb.2.1 hg.size, hb.2.2⟩, hg.block hb.2.1 (by have := hb.1; omega)⟩⟩
  cases hv : (Value.slice A n c).ownBlock with
  | none => exact .inl rfl
  | some b => exact .inr (by intro e; injection e with e; have := (hge b hv).1; omega)
theorem ObSt.low (h : ObSt L gt C g w0 w σ q l A n c) (hb : Below w.heap.size w w') : ObSt L gt C g w0 w' σ q l A n c := h.next (Gr.below hb) (h.s.p.next hb)
theorem ObSt.alloc (h : ObSt L gt C g w0 w σ q l A n c) (o : Obj) : ObSt L gt C g w0 (w.alloc o) σ q l A n c := h.low ((Below.refl _ _).alloc (Nat.le_refl _) o)
/-- Two trees more. -/
theorem ObSt.append (h : ObSt L gt C g w0 w σ q l A n c) {f u : Ft} {cs ds : List Value} {row : Array Value} (hr : row.toList = cs ++ ds) (hf : LiesF w (fun b => w0.heap.size < b ∧ b < w.heap.size ∧ ¬ b = q ∧ (Value.slice A n c).ownBlock ≠ some b) f cs) (hu : LiesF w (fun b => w0.heap.size < b ∧ b < w.heap.size ∧ ¬ b = q ∧ (Value.slice A n c).ownBlock ≠ some b) u ds) {xs : List Value} (hx : w.ownsRow (w0.heap.size + 2) 32 9 (.slice A n c) n xs) (hlx : LiesFL w (fun b => w0.heap.size < b ∧ b < w.heap.size ∧ ¬ b = q ∧ (Value.slice A n c).ownBlock ≠ some b) l xs)
    {g2 c2 : Nat} (ho : w'.ownsRow (w0.heap.size + 2) 32 9 (.slice (some ⟨g2, 0, none⟩) (n + 2) c2) (n + 2) (xs ++ row.toList)) (hg : (w.alloc (.cells row 32)).grownBy w' (Value.slice A n c).ownBlock) (hor : (Value.slice A n c).ownBlock = some g2 ∨ g2 = (w.alloc (.cells row 32)).heap.size) :
    ObSt L gt C g w0 (w'.setCell ⟨q, 8, none⟩ (.slice (some ⟨g2, 0, none⟩) (n + 2) c2)) σ q (l ++ [f, u]) (some ⟨g2, 0, none⟩) (n + 2) c2 := by
  have hge := ownBlock_ge hx
  have hq := h.hq
  have hg0 := h.s.g0
  have hgt0 := h.s.gt0
  have hlt := h.s.lt
  have hqlt := h.bx.lt
  have hn1 : ∀ b, b < w0.heap.size + 2 → (Value.slice A n c).ownBlock ≠ some b := fun b hb e => by have := (hge _ e).1; omega
  have hsz : w.heap.size + 1 ≤ w'.heap.size := by have := hg.size; simpa using this
  have hblk : ∀ b, b < w.heap.size → (Value.slice A n c).ownBlock ≠ some b → w'.heap[b]? = w.heap[b]? := fun b hb hne => (hg.block b (by simp; omega) (fun e => hne e.symm)).trans (Below.heap_alloc _ _ _ hb)
  have hg2 : w0.heap.size + 2 ≤ g2 := by rcases hor with h3 | h3; exact (hge _ h3).1; simp at h3; omega
  have hS : ∀ b, (w0.heap.size < b ∧ b < w.heap.size ∧ ¬ b = q ∧ (Value.slice A n c).ownBlock ≠ some b) → (w0.heap.size < b ∧ b < (w'.setCell ⟨q, 8, none⟩ (.slice (some ⟨g2, 0, none⟩) (n + 2) c2)).heap.size ∧ ¬ b = q ∧ (Value.slice (some ⟨g2, 0, none⟩) (n + 2) c2).ownBlock ≠ some b) ∧ (w'.setCell ⟨q, 8, none⟩ (.slice (some ⟨g2, 0, none⟩) (n + 2) c2)).heap[b]? = w.heap[b]? := by
    intro b hb
    refine ⟨⟨hb.1, by simp [World.setCell]; omega, hb.2.2.1, ?_⟩, (Below.heap_setCell _ _ _ _ hb.2.2.1).trans (hblk b hb.2.1 hb.2.2.2)⟩
    intro e
    simp only [Value.ownBlock, Option.some.injEq] at e
    subst e
    rcases hor with h3 | h3
    · exact hb.2.2.2 h3
    · have := hb.2.1; simp at h3; omega
  have hbx : Box w' q 32 #[.int .i64 10, .string ⟨#[]⟩, .int .i64 0, .int .i64 0, .string ⟨#[]⟩, .slice none 0 0, .slice none 0 0, .slice none 0 0, .slice A n c] := (hblk q hqlt (hn1 q (by omega))).trans h.bx
  have hput := hbx.put 8 (.slice (some ⟨g2, 0, none⟩) (n + 2) c2)
  have hp : PAt L gt C g w' σ := (h.s.p.alloc _).grown hg (hn1 _ (by omega)) (hn1 _ (by omega))
  refine ⟨⟨hp.far (by omega) (by omega) 8 _, ⟨?_, ?_, ?_, by simp [World.setCell]; omega, ?_⟩, Box.far (p := ⟨q, 8, none⟩) ((hblk _ hlt (hn1 _ (by omega))).trans h.s.r) (by show _ ≠ q; omega) _, hg0, hgt0⟩, by rw [List.length_append, h.hn]; rfl, hq, hput, xs ++ row.toList, ?_, ?_⟩
  · exact hg.os.trans h.s.gr.os
  · exact hg.tape.trans h.s.gr.tape
  · exact hg.output.trans h.s.gr.output
  · intro b hb hne
    rw [Below.heap_setCell _ _ _ _ (by show b ≠ q; omega)]
    exact (hblk b (by omega) (hn1 b (by omega))).trans (World.grownBy.block h.s.gr b hb hne)
  · exact ho.kept (grown_set w' q 8 _) (.inr (by simp only [Value.ownBlock]; intro e; injection e with e; omega))
  · rw [hr]
    exact LiesFL.append (LiesFL.move hlx hS) (LiesFL.append (LiesFL.one (LiesF.move hf hS)) (LiesFL.one (LiesF.move hu hS)))
theorem ObSt.tree (h : ObSt L gt C g w0 w σ q l A n c) (hn : n ≤ 1000000) : TreeAt w0 w (nodeF 10 l) [.int .i64 10, .string ⟨#[]⟩, .int .i64 0, .int .i64 0, .string ⟨#[]⟩, .slice none 0 0, .slice none 0 0, .slice none 0 0, .slice A n c] := by
  obtain ⟨xs, h1, h2⟩ := h.row
  obtain ⟨A', c', he, a1, a2, a3, a4, a5, a6⟩ := own_open h1
  simp only [Value.slice.injEq, true_and] at he
  obtain ⟨rfl, rfl⟩ := he
  exact liesF_node 10 ⟨#[]⟩ (by decide) h.hn a3 a1 a2 (by omega) (a6.move fun b hb => ⟨⟨by have := hb.1; omega, hb.2⟩, rfl⟩) (LiesFL.move h2 fun b hb => ⟨⟨hb.1, hb.2.1⟩, rfl⟩)
end
def ObHead (L : List Fk) (call : Ru → PM) (gt C g : Nat) (w0 : World) (q N : Nat) (t : Ft) (τ : PS) (gg : Nat) (s4 : Value) (wr : World) : Prop :=
  ∃ (m n c : Nat) (A : Option Addr) (l : List Ft) (σ : PS) (b : Bool), s4 = .bool b ∧ m ≤ gg ∧ n + 2 * m ≤ N ∧ ObSt L gt C g w0 wr σ q l A n c ∧ (if b = true then objL L call m l σ = some (t, τ) else (t = nodeF 10 l ∧ τ = needP L (⟨#[125]⟩ : ByteArray) σ))
theorem one18 {xs ys : List Value} (h : ∀ u ∈ xs, u.oneCell' = true) (k : ∀ u ∈ ys, u.oneCell' = true) : ∀ u ∈ xs ++ ys, u.oneCell' = true := fun u hu => (List.mem_append.1 hu).elim (h u) (k u)
set_option maxHeartbeats 10000000 in
set_option maxRecDepth 100000 in
theorem object_any {L : List Fk} (hL : TokL L) {gt C g : Nat} {call : Ru → PM} (n : Nat) (hn : n ≤ 400000) (hA : OkA L gt C g call) (W : World) (σ τ : PS) (t : Ft) (hP : PAt L gt C g W σ) (hm : objectM L call n σ = some (t, τ)) :
    Calls Tryz.prog 160 #[.pointer (some ⟨g, 0, none⟩)] W (RetF L gt C g W t τ) := by
  have hsz0 : (W.alloc (.cells z9 32)).heap.size = W.heap.size + 1 := by simp
  have H0 := Lib.hid ((St.begin hP).box #[.int .i64 10, .string ⟨#[]⟩, .int .i64 0, .int .i64 0, .string ⟨#[]⟩, .slice none 0 0, .slice none 0 0, .slice none 0 0, .slice none 0 0])
  rw [hsz0] at H0
  have hB0 : Box ((W.alloc (.cells z9 32)).alloc (.cells #[.int .i64 10, .string ⟨#[]⟩, .int .i64 0, .int .i64 0, .string ⟨#[]⟩, .slice none 0 0, .slice none 0 0, .slice none 0 0, .slice none 0 0] 32)) (W.heap.size + 1) 32 #[.int .i64 10, .string ⟨#[]⟩, .int .i64 0, .int .i64 0, .string ⟨#[]⟩, .slice none 0 0, .slice none 0 0, .slice none 0 0, .slice none 0 0] := Box.laidAt _ _ _ hsz0
  have HB0 := Lib.hid hB0
  unfold objectM at hm
  obtain ⟨b, hb⟩ : ∃ b, sees L (⟨#[125]⟩ : ByteArray) σ = b := ⟨_, rfl⟩
  rw [hb] at hm
  have HT := Lib.hid (fun W (h : PAt L gt C g W σ) => take_any hL (⟨#[125]⟩ : ByteArray) b hb h)
  clear hP hb hsz0 hB0
  cases b with
  | true =>
    rw [if_pos rfl] at hm
    injection hm with hm
    injection hm with h3 h4
    subst h3; subst h4
    clear hA hn
    go_enter Tryz.func160, Tryz.ntmps160
    go_wp2_with fail
    refine (HT.out _ H0.out.r.p).mono ?_
    rintro e w1 ⟨rfl, hg1, hp1⟩
    have H1 := Lib.hid (H0.out.next hg1 hp1)
    clear hg1 hp1
    have H2 := Lib.hid (H1.out.leaf 10 ⟨#[]⟩ 0 0 ⟨#[]⟩ (by decide) (by decide))
    obtain ⟨y0, y1, y2, y3, y4, y5, y6, y7, y8⟩ := box9 (H2.out.bx (q := W.heap.size + 1) (c := #[.int .i64 10, .string ⟨#[]⟩, .int .i64 0, .int .i64 0, .string ⟨#[]⟩, .slice none 0 0, .slice none 0 0, .slice none 0 0, .slice none 0 0]) (by simp))
    obtain ⟨⟨x0, x1, x2, x3, x4, x5, x6, x7, x8⟩, z0, z1, z2, z3, z4, z5, z6, z7, z8⟩ := H2.out.r.cells
    go_wp2_with fail
    refine post9 Tryz.results160 rfl rfl (H2.out.r.r.put9z _ _ _ _ _ _ _ _ _) ?_
    exact retF_of (H2.out.close (by first | exact List.mem_cons_self | simp))
  | false =>
    rw [if_neg (by decide)] at hm
    obtain ⟨i0, hi, hz0, hz1, hz2⟩ := infoF inf_fi
    have HE := Lib.hid (fun W σ τ t u (h : PAt L gt C g W σ) hm => entry_any hL hA W σ τ t u h hm)
    have HT2 := Lib.hid (fun W σ b hb (h : PAt L gt C g W σ) => take_any hL (⟨#[44]⟩ : ByteArray) b hb h)
    have HN := Lib.hid (fun W σ (h : PAt L gt C g W σ) => need_any hL (⟨#[125]⟩ : ByteArray) h)
    have HM := Lib.hid hm
    clear hA hm
    go_enter Tryz.func160, Tryz.ntmps160
    go_wp2_with fail
    refine (HT.out _ H0.out.r.p).mono ?_
    rintro e w1 ⟨rfl, hg1, hp1⟩
    have H1 := Lib.hid (H0.out.next hg1 hp1)
    clear hg1 hp1
    have HO : Hid (ObHead L call gt C g W (W.heap.size + 1) (2 * n) t τ n (.bool true) w1) := Lib.hid ⟨n, 0, 0, none, [], σ, true, rfl, Nat.le_refl _, by omega, ⟨H1.out.r, rfl, rfl, H1.out.bx (by simp), [], World.ownsRow_nil _ _ _ _, LiesFL.nil _ _⟩, HM.out⟩
    clear HM H0 HB0
    go_wp2_with fail
    go_loopg [4] n (fun gg s4 wr => Hid (ObHead L call gt C g W (W.heap.size + 1) (2 * n) t τ gg s4 wr))
    case atStart => exact HO
    case round =>
      clear HO H1
      obtain ⟨m, nl, c, A, l, σk, b, rfl, hmg, hnl, HS, hc⟩ := hrel.out
      clear hrel
      have HS := Lib.hid HS
      have hltq := HS.out.bx.lt
      have hltr := HS.out.s.lt
      cases b with
      | false =>
        rw [if_neg (by decide)] at hc
        obtain ⟨h3, h4⟩ := hc
        subst h3; subst h4
        go_wp2_with fail
        (try simp only [Exit.inBlock, Exit.then])
        go_wp2_with fail
        refine (HN.out _ _ HS.out.s.p).mono ?_
        rintro e w2 ⟨rfl, hg2, hp2⟩
        have H2 := Lib.hid (HS.out.next hg2 hp2)
        obtain ⟨y0, y1, y2, y3, y4, y5, y6, y7, y8⟩ := box9 H2.out.bx
        obtain ⟨⟨x0, x1, x2, x3, x4, x5, x6, x7, x8⟩, z0, z1, z2, z3, z4, z5, z6, z7, z8⟩ := H2.out.s.cells
        clear hg2 hp2
        go_wp2_with fail
        refine post9 Tryz.results160 rfl rfl (H2.out.s.r.put9z _ _ _ _ _ _ _ _ _) ?_
        exact H2.out.s.close (H2.out.tree (by omega))
      | true =>
        rw [if_pos rfl] at hc
        obtain ⟨m2, hm2⟩ : ∃ m2, m = m2 + 1 := by
          cases m with
          | zero => exact absurd hc (by simp [objL])
          | succ m => exact ⟨m, rfl⟩
        subst hm2
        rw [objL] at hc
        dsimp only at hc
        obtain ⟨⟨f, u⟩, σ1, h1, h2⟩ := bnd_some hc
        obtain ⟨b2, hb2⟩ : ∃ b, sees L (⟨#[44]⟩ : ByteArray) σ1 = b := ⟨_, rfl⟩
        have HB2 := Lib.hid hb2
        rw [hb2] at h2
        have H2X := Lib.hid h2
        have HE1 := Lib.hid (fun W h => HE.out W σk σ1 f u h h1)
        clear hc h1 h2 hb2
        go_wp2_with fail
        refine (HE1.out _ HS.out.s.p).mono ?_
        rintro e w2 ⟨c10, c11, c12, c13, c14, c15, c16, c17, c18, c20, c21, c22, c23, c24, c25, c26, c27, c28, rfl, hg2, hp2, hl2, hr2⟩
        obtain ⟨op1, tx1, k1, j1, s1, A1, na1, ma1, B1, nb1, mb1, C1, nc1, mc1, D1, nd1, md1, rfl, rfl, rfl, rfl, rfl, rfl, rfl, rfl, rfl⟩ := liesF_form hl2
        obtain ⟨op2, tx2, k2, j2, s2, A2, na2, ma2, B2, nb2, mb2, C2, nc2, mc2, D2, nd2, md2, rfl, rfl, rfl, rfl, rfl, rfl, rfl, rfl, rfl⟩ := liesF_form hr2
        have H2 := Lib.hid (HS.out.next hg2 hp2)
        obtain ⟨xs0, hx0, -⟩ := HS.out.row
        have hge := ownBlock_ge hx0
        have hSn : ∀ b, Nw wr.heap.size w2.heap.size b → (W.heap.size < b ∧ b < ((w2.alloc (.cells #[.int .i64 op1, .string tx1, .int .i64 k1, .int .i64 j1, .string s1, .slice A1 na1 ma1, .slice B1 nb1 mb1, .slice C1 nc1 mc1, .slice D1 nd1 md1] 32)).alloc (.cells #[.int .i64 op2, .string tx2, .int .i64 k2, .int .i64 j2, .string s2, .slice A2 na2 ma2, .slice B2 nb2 mb2, .slice C2 nc2 mc2, .slice D2 nd2 md2] 32)).heap.size ∧ ¬ b = W.heap.size + 1 ∧ (Value.slice A nl c).ownBlock ≠ some b) ∧ ((w2.alloc (.cells #[.int .i64 op1, .string tx1, .int .i64 k1, .int .i64 j1, .string s1, .slice A1 na1 ma1, .slice B1 nb1 mb1, .slice C1 nc1 mc1, .slice D1 nd1 md1] 32)).alloc (.cells #[.int .i64 op2, .string tx2, .int .i64 k2, .int .i64 j2, .string s2, .slice A2 na2 ma2, .slice B2 nb2 mb2, .slice C2 nc2 mc2, .slice D2 nd2 md2] 32)).heap[b]? = w2.heap[b]? := by
          intro b hb
          refine ⟨⟨by have := hb.1; omega, by have := hb.2; simp; omega, by have := hb.1; omega, fun e => by have := (hge b e).2; have := hb.1; omega⟩, ?_⟩
          rw [Below.heap_alloc _ _ _ (by simp; have := hb.2; omega), Below.heap_alloc _ _ _ hb.2]
        have HF1 := Lib.hid (LiesF.move hl2 hSn)
        have HF2 := Lib.hid (LiesF.move hr2 hSn)
        have H4 := Lib.hid ((H2.out.alloc (.cells #[.int .i64 op1, .string tx1, .int .i64 k1, .int .i64 j1, .string s1, .slice A1 na1 ma1, .slice B1 nb1 mb1, .slice C1 nc1 mc1, .slice D1 nd1 md1] 32)).alloc (.cells #[.int .i64 op2, .string tx2, .int .i64 k2, .int .i64 j2, .string s2, .slice A2 na2 ma2, .slice B2 nb2 mb2, .slice C2 nc2 mc2, .slice D2 nd2 md2] 32))
        obtain ⟨xs, hx, hlx⟩ := H4.out.row
        have HX := Lib.hid (And.intro hx hlx)
        have hge2 := ownBlock_ge hx
        have HBX : Hid (∀ w', (((w2.alloc (.cells #[.int .i64 op1, .string tx1, .int .i64 k1, .int .i64 j1, .string s1, .slice A1 na1 ma1, .slice B1 nb1 mb1, .slice C1 nc1 mc1, .slice D1 nd1 md1] 32)).alloc (.cells #[.int .i64 op2, .string tx2, .int .i64 k2, .int .i64 j2, .string s2, .slice A2 na2 ma2, .slice B2 nb2 mb2, .slice C2 nc2 mc2, .slice D2 nd2 md2] 32)).alloc (.cells #[.int .i64 op1, .string tx1, .int .i64 k1, .int .i64 j1, .string s1, .slice A1 na1 ma1, .slice B1 nb1 mb1, .slice C1 nc1 mc1, .slice D1 nd1 md1, .int .i64 op2, .string tx2, .int .i64 k2, .int .i64 j2, .string s2, .slice A2 na2 ma2, .slice B2 nb2 mb2, .slice C2 nc2 mc2, .slice D2 nd2 md2] 32)).grownBy w' (Value.slice A nl c).ownBlock → Box w' (W.heap.size + 1) 32 _) := Lib.hid fun w' hg => (H4.out.bx.alloc (.cells #[.int .i64 op1, .string tx1, .int .i64 k1, .int .i64 j1, .string s1, .slice A1 na1 ma1, .slice B1 nb1 mb1, .slice C1 nc1 mc1, .slice D1 nd1 md1, .int .i64 op2, .string tx2, .int .i64 k2, .int .i64 j2, .string s2, .slice A2 na2 ma2, .slice B2 nb2 mb2, .slice C2 nc2 mc2, .slice D2 nd2 md2] 32)).grown hg (fun e => by have := (hge2 _ e.symm).1; omega)
        obtain ⟨y0, y1, y2, y3, y4, y5, y6, y7, y8⟩ := box9 H2.out.bx
        have hq2 := H2.out.bx.lt
        have hW2 : W.heap.size + 2 ≤ w2.heap.size := by omega
        have hfr := H2.out.bx.free 8
        have hq3 : W.heap.size < w2.heap.size := by omega
        have c84 := H4.out.bx.cell (i := 8) rfl
        clear hg2 hp2 hl2 hr2 hx0 hge hSn hx hlx hge2 xs0
        go_wp2_with (at_builtin; refine wpList_append_lies _ rfl _ _ 30 rfl (W.heap.size + 2) 32 i0 (.agg #[.int .i64 0, .string ⟨#[]⟩, .int .i64 0, .int .i64 0, .string ⟨#[]⟩, .slice none 0 0, .slice none 0 0, .slice none 0 0, .slice none 0 0]) 9 152 Tryz.underlying30 hi hz0 hz1 hz2 rfl (by decide) (.slice A nl c) nl xs rfl (own_keepB' HX.out.1 ((Below.refl _ _).alloc (Nat.le_refl _) _)) ⟨w2.heap.size + 1 + 1, 0, none⟩ 2 2 ([.int .i64 op1, .string tx1, .int .i64 k1, .int .i64 j1, .string s1, .slice A1 na1 ma1, .slice B1 nb1 mb1, .slice C1 nc1 mc1, .slice D1 nd1 md1] ++ [.int .i64 op2, .string tx2, .int .i64 k2, .int .i64 j2, .string s2, .slice A2 na2 ma2, .slice B2 nb2 mb2, .slice C2 nc2 mc2, .slice D2 nd2 md2]) rfl rfl (new9 _ _ #[.int .i64 op1, .string tx1, .int .i64 k1, .int .i64 j1, .string s1, .slice A1 na1 ma1, .slice B1 nb1 mb1, .slice C1 nc1 mc1, .slice D1 nd1 md1, .int .i64 op2, .string tx2, .int .i64 k2, .int .i64 j2, .string s2, .slice A2 na2 ma2, .slice B2 nb2 mb2, .slice C2 nc2 mc2, .slice D2 nd2 md2] (by simp)) (one18 (one9 _ _ _ _ _ _ _ _ _ _ _ _ _ _ _ _ _) (one9 _ _ _ _ _ _ _ _ _ _ _ _ _ _ _ _ _)) (by decide) (by unfold maxLen; omega) (by omega) (by simp; omega) _ rfl ?_; intro g4 c4 w4 hown4 hgr4 hor4 hlt4; have hbx4 := HBX.out _ hgr4; have c8w := hbx4.cell (i := 8) rfl; have f8w := hbx4.free 8)
        have H5 := Lib.hid (H4.out.append (row := #[.int .i64 op1, .string tx1, .int .i64 k1, .int .i64 j1, .string s1, .slice A1 na1 ma1, .slice B1 nb1 mb1, .slice C1 nc1 mc1, .slice D1 nd1 md1, .int .i64 op2, .string tx2, .int .i64 k2, .int .i64 j2, .string s2, .slice A2 na2 ma2, .slice B2 nb2 mb2, .slice C2 nc2 mc2, .slice D2 nd2 md2]) rfl HF1.out HF2.out HX.out.1 HX.out.2 hown4 hgr4 hor4)
        clear hown4 hgr4 hor4 hlt4 hbx4 c8w f8w c84 hfr y0 y1 y2 y3 y4 y5 y6 y7 y8
        refine (HT2.out _ _ _ HB2.out H5.out.s.p).mono ?_
        rintro e w6 ⟨rfl, hg6, hp6⟩
        have H6 := Lib.hid (H5.out.next hg6 hp6)
        clear hg6 hp6
        have HX6 : Hid (ObHead L call gt C g W (W.heap.size + 1) (2 * n) t τ m2 (.bool b2) w6) := Lib.hid ⟨m2, nl + 2, c4, some ⟨g4, 0, none⟩, l ++ [f, u], _, b2, rfl, Nat.le_refl _, by omega, H6.out, by
          have h2 := H2X.out
          cases b2 with
          | true => rw [if_pos rfl] at h2; rw [if_pos rfl]; exact h2
          | false =>
            rw [if_neg (by decide)] at h2
            injection h2 with h2
            injection h2 with h3 h4
            rw [if_neg (by decide)]
            exact ⟨h3.symm, h4.symm⟩⟩
        go_wp2_with fail
        go_roundg m2
        case measure => omega
        case rel => exact HX6
end Go.Proofs.YthiempadgehhlaaGreatDoor

/- The program's Obj. clone, finish and Obj hand back rows of their own. -/
import Derived.Test.YtfmpdcmedaiooaaGreatDoorU29
import Derived.Test.YtfmpdcmedaiooaaGreatDoorU24
set_option linter.unusedVariables false
set_option linter.unusedSimpArgs false
namespace Go.Proofs.YtfmpdcmedaiooaaGreatDoor
open Go.RowKit Go.Sort
theorem below_five {w0 w : World} (h : Below w0.heap.size w0 w) (a b c d e : Value) :
    Below w0.heap.size w0 (((((w.setCell ⟨w0.heap.size, 0, none⟩ a).setCell ⟨w0.heap.size, 1, none⟩ b).setCell ⟨w0.heap.size, 2, none⟩ c).setCell ⟨w0.heap.size, 3, none⟩ d).setCell ⟨w0.heap.size, 4, none⟩ e) :=
  (((((h.setCell (by simp) _).setCell (by simp) _).setCell (by simp) _).setCell (by simp) _).setCell (by simp) _)
theorem all_take {α : Type} {p : α → Bool} {l : List α} {i : Nat} {x : α} (hx : l[i]? = some x) (h : (l.take i).all p = true) (hp : p x = true) : (l.take (i + 1)).all p = true := by
  rw [List.take_add_one, hx, List.all_append, h]
  simp [hp]
def KeysOk (ms : List Mb) (i : Nat) : Prop := ((ms.map Mb.key).take i).all okS = true
theorem keysOk0 (ms : List Mb) : KeysOk ms 0 := by simp [KeysOk]
end Go.Proofs.YtfmpdcmedaiooaaGreatDoor
namespace Go.Proofs.YtfmpdcmedaiooaaGreatDoor
open Go.RowKit Go.Sort
/-- The rows of a value that was made since: each is its own, and the elements' parts lie elsewhere. -/
structure FreshV (w : World) (base : Nat) (ks : List ByteArray) (es : List V) (d3 d4 : Value) : Prop where
  keys : w.ownsRow base 9 1 d3 ks.length (kv ks)
  elems : ∃ xs, w.ownsRow base 25 5 d4 es.length xs ∧ LiesL w (fun b => base ≤ b ∧ b < w.heap.size ∧ d4.ownBlock ≠ some b) es xs
theorem FreshV.le {w : World} {base base' : Nat} {ks : List ByteArray} {es : List V} {d3 d4 : Value} (h : FreshV w base ks es d3 d4) (hb : base' ≤ base) : FreshV w base' ks es d3 d4 := by
  obtain ⟨xs, h1, h2⟩ := h.elems
  exact ⟨Go.Joins.ownsRow_le h.keys hb, xs, Go.Joins.ownsRow_le h1 hb, h2.move fun b hb' => ⟨⟨by have := hb'.1; omega, hb'.2⟩, rfl⟩⟩
theorem FreshV.set5 {w : World} {base r : Nat} {ks : List ByteArray} {es : List V} {d3 d4 : Value} (h : FreshV w base ks es d3 d4) (hr : r < base) (u0 u1 u2 u3 u4 : Value) : FreshV (((((w.setCell ⟨r, 0, none⟩ u0).setCell ⟨r, 1, none⟩ u1).setCell ⟨r, 2, none⟩ u2).setCell ⟨r, 3, none⟩ u3).setCell ⟨r, 4, none⟩ u4) base ks es d3 d4 := by
  obtain ⟨xs, h1, h2⟩ := h.elems
  refine ⟨ownsRow_setCell_below (ownsRow_setCell_below (ownsRow_setCell_below (ownsRow_setCell_below (ownsRow_setCell_below h.keys hr _) hr _) hr _) hr _) hr _, xs, ownsRow_setCell_below (ownsRow_setCell_below (ownsRow_setCell_below (ownsRow_setCell_below (ownsRow_setCell_below h1 hr _) hr _) hr _) hr _) hr _, h2.move fun b hb => ?_⟩
  rw [size5]
  exact ⟨hb, heap5 _ _ _ _ _ _ _ b (by have := hb.1; omega)⟩
theorem FreshV.next {w w' : World} {base : Nat} {ks : List ByteArray} {es : List V} {d3 d4 : Value} (h : FreshV w base ks es d3 d4) (hb : Below w.heap.size w w') : FreshV w' base ks es d3 d4 := by
  obtain ⟨xs, h1, h2⟩ := h.elems
  exact ⟨own_keepJ h.keys hb, xs, own_keepJ h1 hb, h2.move fun b hb' => ⟨⟨hb'.1, Nat.lt_of_lt_of_le hb'.2.1 hb.size, hb'.2.2⟩, hb.block b hb'.2.1⟩⟩
set_option maxHeartbeats 4000000 in
set_option maxRecDepth 100000 in
theorem clone_own (k n : Int) (s : ByteArray) (ks : List ByteArray) (es : List V) (cs : List Value) (w : World) (hg : good (.mk k n s ks es) = true) (h : Lies w (· < w.heap.size) (.mk k n s ks es) cs) : Calls Tryz.prog 44 #[.agg cs.toArray] w (fun e w' => Below w.heap.size w w' ∧ ∃ d3 d4, e = .returned (.agg #[.int .i64 k, .int .i64 n, .string s, d3, d4]) ∧ FreshV w' w.heap.size ks es d3 d4) := by
  have ih : ∀ e ∈ es, CloneOk e := fun e _ => clone_any e
  obtain ⟨hl1, hl2, hl3, hgl⟩ := good_len hg
  have hf := lies_fit _ _ h
  rw [V.Fit] at hf
  obtain ⟨h1, h2, h3, h4, _⟩ := hf
  obtain ⟨A, a, B, bb, xs, rfl, hAn, hBn, ⟨ha1, ha2⟩, ⟨hb1, hb2⟩, hA, hB, hL⟩ := lies_open h
  have HA := Lib.hid hA
  have HAN := Lib.hid hAn
  have HB := Lib.hid hB
  have HL := Lib.hid hL
  have IH := Lib.hid ih
  have H2 := Lib.hid h2
  have HGL := Lib.hid hgl
  clear hA hB hL ih h2 h hAn hBn hg hgl
  obtain ⟨i0, hi, hz0, hz1, hz2⟩ := info_parts inf_value
  obtain ⟨i1, hi', hz0', hz1', hz2'⟩ := info_parts inf_string
  show Calls _ _ #[.agg #[.int .i64 k, .int .i64 n, .string s, .slice A ks.length a, .slice B es.length bb]] w _
  go_enter Tryz.func44, Tryz.ntmps44
  have hkl : Hid ((kv ks).length = ks.length) := Lib.hid (kv_length ks)
  go_wp2_with (at_builtin; refine wpList_append_rd _ rfl _ _ 22 rfl (w.heap.size + 3) 9 i1 (.string ⟨#[]⟩) 16 Tryz.underlying22 hi' hz0' hz1' hz2' rfl _ 0 [] rfl (World.ownsRow_nil _ _ _ _) w.heap.size A a (kv ks) (by rw [hkl.out]; rfl) ?c0 HAN.out ?c2 ?c3 ?c4 ?c5 ?_)
  case c0 => exact (HA.out.move fun b hb => ⟨hb, by rw [Below.heap_alloc _ _ _ (by simp; omega), Below.heap_alloc _ _ _ (by simp; omega), Below.heap_alloc _ _ _ hb]⟩).rd
  case c2 =>
    intro u hu
    simp only [kv, List.mem_map] at hu
    obtain ⟨x, _, rfl⟩ := hu
    rfl
  case c3 => rw [hkl.out]; unfold maxLen; omega
  case c4 => rw [hkl.out]; omega
  case c5 => simp
  intro vK w1 hown1 hgr1
  rw [hkl.out] at hown1
  obtain ⟨KA, kc, rfl, hkA, hkn, hkc, hkR⟩ := own_open hown1
  have HKA := Lib.hid hkA
  have HKR := Lib.hid hkR
  clear hkA hkR
  have hP1 : Box w1 w.heap.size 25 #[.int .i64 k, .int .i64 n, .string s, .slice A ks.length a, .slice B es.length bb] := (((Box.laid w _ _).alloc _).alloc _).grown hgr1 (by simp [Value.ownBlock])
  have hR1 : Box w1 (w.heap.size + 1) 25 #[.int .i64 0, .int .i64 0, .string ⟨#[]⟩, .slice none 0 0, .slice none 0 0] := by
    have h1 := Box.laid (w.alloc (.cells #[.int .i64 k, .int .i64 n, .string s, .slice A ks.length a, .slice B es.length bb] 25)) 25 #[.int .i64 0, .int .i64 0, .string ⟨#[]⟩, .slice none 0 0, .slice none 0 0]
    have e : (w.alloc (.cells #[.int .i64 k, .int .i64 n, .string s, .slice A ks.length a, .slice B es.length bb] 25)).heap.size = w.heap.size + 1 := by simp
    rw [e] at h1
    exact (h1.alloc _).grown hgr1 (by simp [Value.ownBlock])
  have hO1 : Box w1 (w.heap.size + 1 + 1) 25 #[.int .i64 k, .int .i64 n, .string s, .slice none 0 0, .slice none 0 0] := by
    have h1 := Box.laid ((w.alloc (.cells #[.int .i64 k, .int .i64 n, .string s, .slice A ks.length a, .slice B es.length bb] 25)).alloc (.cells #[.int .i64 0, .int .i64 0, .string ⟨#[]⟩, .slice none 0 0, .slice none 0 0] 25)) 25 #[.int .i64 k, .int .i64 n, .string s, .slice none 0 0, .slice none 0 0]
    have e : ((w.alloc (.cells #[.int .i64 k, .int .i64 n, .string s, .slice A ks.length a, .slice B es.length bb] 25)).alloc (.cells #[.int .i64 0, .int .i64 0, .string ⟨#[]⟩, .slice none 0 0, .slice none 0 0] 25)).heap.size = w.heap.size + 1 + 1 := by simp
    rw [e] at h1
    exact h1.grown hgr1 (by simp [Value.ownBlock])
  have hB1 : Below w.heap.size w w1 := ((((Below.refl _ _).alloc (Nat.le_refl _) _).alloc (by simp) _).alloc (by simp; omega) _).grown hgr1 (by simp; omega) (by simp [Value.ownBlock])
  have hs1 : w.heap.size + 3 ≤ w1.heap.size := by have := hgr1.size; simp at this; omega
  have HP1 := Lib.hid hP1
  have HR1 := Lib.hid hR1
  have HO1 := Lib.hid hO1
  have HB1 := Lib.hid hB1
  have HK1 := Lib.hid hown1
  clear hgr1
  have o3 := hO1.cell (i := 3) rfl
  have f3' := hO1.free 3
  have o4 : (w1.setCell ⟨w.heap.size + 1 + 1, 3, none⟩ (.slice KA ks.length kc)).cell? ⟨w.heap.size + 1 + 1, 4, none⟩ = some (.slice none 0 0) := (hO1.put 3 _).cell rfl
  have p4 : (w1.setCell ⟨w.heap.size + 1 + 1, 3, none⟩ (.slice KA ks.length kc)).cell? ⟨w.heap.size, 4, none⟩ = some (.slice B es.length bb) := (hP1.far (by simp; omega) _).cell rfl
  clear hP1 hR1 hO1 hB1 hown1
  go_wp2_with fail
  refine (grow_nil es.length _ (by omega)).mono ?_
  rintro e3 w3 ⟨hb3, vE, rfl, hown3⟩
  obtain ⟨EA, ec, rfl, _, _, _, _⟩ := own_open hown3
  have hs2 : (w1.setCell ⟨w.heap.size + 1 + 1, 3, none⟩ (.slice KA ks.length kc)).heap.size = w1.heap.size := by simp [World.setCell]
  have hO3 := (HO1.out.put 3 (.slice KA ks.length kc)).below hb3 (by rw [hs2]; omega)
  have hP3 := (HP1.out.far (p := ⟨w.heap.size + 1 + 1, 3, none⟩) (by simp; omega) (.slice KA ks.length kc)).below hb3 (by rw [hs2]; omega)
  have hR3 := (HR1.out.far (p := ⟨w.heap.size + 1 + 1, 3, none⟩) (by simp) (.slice KA ks.length kc)).below hb3 (by rw [hs2]; omega)
  have hK3 := own_below (ownsRow_setCell_below HK1.out (a := ⟨w.heap.size + 1 + 1, 3, none⟩) (by simp) (.slice KA ks.length kc)) hb3
  have hE3 : w3.ownsRow (w.heap.size + 3) 25 5 (.slice EA 0 ec) 0 [] := Go.Joins.ownsRow_le hown3 (by rw [hs2]; omega)
  have hB3 : Below w.heap.size w w3 := (HB1.out.setCell (p := ⟨w.heap.size + 1 + 1, 3, none⟩) (by simp; omega) _).trans (hb3.mono (by rw [hs2]; omega))
  have hst0 : Hid (CSt w k n s ks es (.slice KA ks.length kc) (.slice EA 0 ec) 0 [] (w3.setCell ⟨w.heap.size + 1 + 1, 4, none⟩ (.slice EA 0 ec))) := Lib.hid
    ⟨hB3.setCell (by simp; omega) _, hO3.put 4 _, hR3.far (by simp) _, ownsRow_setCell_below hK3 (by simp) _, ownsRow_setCell_below hE3 (by simp) _, by rw [List.take_zero, LiesL]⟩
  have o4' := hO3.cell (i := 4) rfl
  have f4' := hO3.free 4
  have p4' : (w3.setCell ⟨w.heap.size + 1 + 1, 4, none⟩ (.slice EA 0 ec)).cell? ⟨w.heap.size, 4, none⟩ = some (.slice B es.length bb) := (hP3.far (by simp; omega) _).cell rfl
  clear hO3 hP3 hR3 hK3 hE3 hB3 hb3 hown3 o3 f3' o4 p4 hs2
  go_wp2_with fail
  go_loopw [29] (fun t wr => ∃ (i : Nat) (EA : Option Addr) (ec : Nat) (xs : List Value), i ≤ es.length ∧ t = .int .i64 i ∧ CSt w k n s ks es (.slice KA ks.length kc) (.slice EA i ec) i xs wr) (fun t _ => es.length - (intOf t).toNat)
  case atStart => exact ⟨0, EA, ec, [], Nat.zero_le _, rfl, hst0.out⟩
  case round =>
    clear hst0 o4' f4' p4'
    obtain ⟨i, FA, fc, zs, hi1, rfl, hst⟩ := hrel
    have HST := Lib.hid hst
    have o4 := hst.out.cell (i := 4) rfl
    have f4 := hst.out.free 4
    have hOs := hst.out.lt
    clear hst
    by_cases hlt : i < es.length
    · obtain ⟨e, he⟩ : ∃ e, es[i]? = some e := ⟨_, List.getElem?_eq_getElem hlt⟩
      have hin := List.mem_of_getElem? he
      have hIH := IH.out e hin
      have hge := goodL_mem HGL.out hin
      obtain ⟨ek, en, es', eks, ees⟩ := e
      obtain ⟨bq, oq, A1, a1, C1, c1, rfl, hbq, hle, d0, d1, d2, d3, d4⟩ := elem_open HB.out HL.out he
      have q0 := below_cell HST.out.below hbq d0
      have q1 := below_cell HST.out.below hbq d1
      have q2 := below_cell HST.out.below hbq d2
      have q3 := below_cell HST.out.below hbq d3
      have q4 := below_cell HST.out.below hbq d4
      clear d0 d1 d2 d3 d4
      have HC := Lib.hid (fun W (hW : Below wr.heap.size wr W) => clone_open hW (hIH [.int .i64 ek, .int .i64 en, .string es', .slice A1 eks.length a1, .slice C1 ees.length c1] W hge (below_lies hW (below_lies HST.out.below hle))))
      have HE := Lib.hid he
      clear hIH hin hge hle he
      go_wp2_with fail
      go_region_law (first
        | (refine step_append_lies _ rfl (.tmp 34) (.tmp 37) 23 rfl (w.heap.size + 3) 25 i0 zeroVal 5 80 Tryz.underlying23 hi hz0 hz1 hz2 rfl (by decide) (.slice FA i fc) i zs rfl (own_below HST.out.elems (hb5.alloc hb5.size _)) ⟨w5.heap.size, 0, none⟩ 1 1 [.int .i64 ek, .int .i64 en, .string es', .slice DA eks.length da, .slice DC ees.length dc] rfl rfl (new_cellsV w5 _ _) (five_one _ _ _ _ _ _ _ _ _) (by decide) (by unfold maxLen; omega) (by omega) (by have := hb5.size; simp; omega) _ rfl ?_; intro g gc w6 ho6 hg6 hv6 _; have hO6 := HST.out.out6 hb5 hg6; have o6 := hO6.cell (i := 4) rfl; have f6 := hO6.free 4)
        | (go_simp; go_at_call 44; refine (HC.out _ (by first | exact (Below.refl _ _).alloc (Nat.le_refl _) _ | exact ((Below.refl _ _).alloc (Nat.le_refl _) _).drew)).mono ?_; rintro e5 w5 ⟨hb5, DA, da, DC, dc, rfl, hl5⟩; have o5 := below_cell hb5 hOs o4; have hOs5 : w.heap.size + 1 + 1 < w5.heap.size := Nat.lt_of_lt_of_le hOs hb5.size))
      all_goals
        have hfin := Lib.hid (HST.out.step hb5 HE.out hl5 ((Below.refl _ _).alloc (Nat.le_refl _) _) hg6 ho6 hv6)
        go_wp2_with fail
        go_roundw
        case rel => exact ⟨i + 1, _, _, _, by omega, by go_num, hfin.out⟩
        case measure => simp [intOf]; omega
    · obtain rfl : i = es.length := by omega
      have hout := Lib.hid HST.out.out
      obtain ⟨r0, r1, r2, r3, r4⟩ := box5 hout.out
      have hres := Lib.hid HST.out.res
      obtain ⟨t0, t1, t2, t3, t4⟩ := box5 hres.out
      have z0 := hres.out.free 0
      have z1 := hres.out.free 1
      have z2 := hres.out.free 2
      have z3 := hres.out.free 3
      have z4 := hres.out.free 4
      go_wp2_with fail
      refine bodyPost_ret (v := .agg #[.int .i64 k, .int .i64 n, .string s, .slice KA ks.length kc, .slice FA es.length fc]) (by simp [results, Tryz.results44, go_sem, t0, t1, t2, t3, t4]) rfl ?_
      refine ⟨(((((HST.out.below.setCell (by simp) _).setCell (by simp) _).setCell (by simp) _).setCell (by simp) _).setCell (by simp) _), _, _, rfl, ?_⟩
      have hl := HST.out.lies
      rw [List.take_of_length_le (Nat.le_refl _)] at hl
      have hfr : FreshV wr (w.heap.size + 3) ks es (.slice KA ks.length kc) (.slice FA es.length fc) := ⟨HST.out.keys, zs, HST.out.elems, hl⟩
      exact (hfr.set5 (by omega) _ _ _ _ _).le (by omega)
set_option maxHeartbeats 4000000 in
set_option maxRecDepth 100000 in
theorem finish_own (k n : Int) (s : ByteArray) (ks : List ByteArray) (es : List V) (cs : List Value) (w : World) (hv : valid (.mk k n s ks es) = true) (h : Lies w (· < w.heap.size) (.mk k n s ks es) cs) :
    Calls Tryz.prog 31 #[.agg cs.toArray] w (fun e w' => Below w.heap.size w w' ∧ ∃ d3 d4, e = .returned (.tuple #[.agg #[.int .i64 k, .int .i64 n, .string s, d3, d4], .int .i64 0]) ∧ FreshV w' w.heap.size ks es d3 d4) := by
  have HV := Lib.hid (fun W (hW : Below w.heap.size w W) => valid_any (.mk k n s ks es) cs W (below_lies hW h))
  have HC2 := Lib.hid (fun W (hW : Below w.heap.size w W) => clone_own k n s ks es cs W ((valid_iff _).1 hv).1 (below_lies hW h))
  obtain ⟨A, a, B, b, xs, rfl, _⟩ := lies_open h
  clear h
  show Calls _ _ #[.agg #[.int .i64 k, .int .i64 n, .string s, .slice A ks.length a, .slice B es.length b]] w _
  have hb2 : Hid (∀ W, Below (w.heap.size + 2) ((w.alloc (.cells #[.int .i64 k, .int .i64 n, .string s, .slice A ks.length a, .slice B es.length b] 25)).alloc (.cells #[.int .i64 0, .int .i64 0, .string ⟨#[]⟩, .slice none 0 0, .slice none 0 0] 25)) W →
      Box W (w.heap.size + 1) 25 #[.int .i64 0, .int .i64 0, .string ⟨#[]⟩, .slice none 0 0, .slice none 0 0]) := Lib.hid fun W hW => by
    have h1 := Box.laid (w.alloc (.cells #[.int .i64 k, .int .i64 n, .string s, .slice A ks.length a, .slice B es.length b] 25)) 25 #[.int .i64 0, .int .i64 0, .string ⟨#[]⟩, .slice none 0 0, .slice none 0 0]
    have e : (w.alloc (.cells #[.int .i64 k, .int .i64 n, .string s, .slice A ks.length a, .slice B es.length b] 25)).heap.size = w.heap.size + 1 := by simp
    rw [e] at h1
    exact h1.below hW (by omega)
  rw [hv] at HV
  go_enter Tryz.func31, Tryz.ntmps31
  go_wp2_with fail
  refine (HV.out _ (below2 _ _ _)).mono ?_
  rintro e1 w1 ⟨rfl, hb1⟩
  have hB1 := Lib.hid (two_step (Below.refl _ _) hb1)
  have m0 := (box_two hB1.out 0).1
  have m1 := (box_two hB1.out 1).1
  have m2 := (box_two hB1.out 2).1
  have m3 := (box_two hB1.out 3).1
  have m4 := (box_two hB1.out 4).1
  simp only [List.getElem?_toArray, List.getElem?_cons_succ, List.getElem?_cons_zero] at m0 m1 m2 m3 m4
  go_wp2_with fail
  refine (HC2.out _ (below_two hB1.out)).mono ?_
  rintro e2 w2 ⟨hb3, d3, d4, rfl, hl2⟩
  obtain ⟨KA, kc, rfl, -⟩ := own_open hl2.keys
  obtain ⟨zs, hz, -⟩ := hl2.elems
  obtain ⟨EA, ec, rfl, -⟩ := own_open hz
  clear hz
  have hB2 := Lib.hid (two_step hB1.out hb3)
  have hw1 : w.heap.size + 2 ≤ w1.heap.size := by have := hB1.out.size; simp at this; omega
  have hres := Lib.hid (hb2.out _ hB2.out)
  have HL2 := Lib.hid hl2
  clear hl2 m0 m1 m2 m3 m4 hb3
  obtain ⟨t0, t1, t2, t3, t4⟩ := box5 hres.out
  have z0 := hres.out.free 0
  have z1 := hres.out.free 1
  have z2 := hres.out.free 2
  have z3 := hres.out.free 3
  have z4 := hres.out.free 4
  go_wp2_with fail
  refine bodyPost_ret (v := .tuple #[.agg #[.int .i64 k, .int .i64 n, .string s, .slice KA ks.length kc, .slice EA es.length ec], .int .i64 0]) (by simp [results, Tryz.results31, go_sem, t0, t1, t2, t3, t4]) rfl ?_
  refine ⟨((((((below_two hB2.out).setCell (by simp) _).setCell (by simp) _).setCell (by simp) _).setCell (by simp) _).setCell (by simp) _), _, _, rfl, ?_⟩
  exact (HL2.out.set5 (by omega) _ _ _ _ _).le (by omega)
set_option maxHeartbeats 4000000 in
set_option maxRecDepth 100000 in
theorem obj_own (ms : List Mb) (A B : Option Addr) (a b : Nat) (xs : List Value) (w : World) (hA : Rs w (· < w.heap.size) A (kv (ms.map Mb.key))) (hR : Row w B (ms.map Mb.v) xs) (hmat : ∀ i m, ms[i]? = some m → MAt w (· < w.heap.size) B i m) (hn : ms.length ≤ 1000000)
    (hsz : ∀ m ∈ ms, m.key.size ≤ 140737488355328) (hval : (ms.map Mb.v).all valid = true) (hkey : ∀ m ∈ ms, okS m.key = true) (hfin : valid (objV (lastOf (srt ms))) = true) :
    Calls Tryz.prog 128 #[.slice A ms.length a, .slice B ms.length b] w (fun e w' => Below w.heap.size w w' ∧ ∃ d3 d4, e = .returned (.tuple #[.agg #[.int .i64 6, .int .i64 0, .string ⟨#[]⟩, d3, d4], .int .i64 0]) ∧ FreshV w' w.heap.size ((lastOf (srt ms)).map Mb.key) ((lastOf (srt ms)).map Mb.v) d3 d4) := by
  have hv := Lib.hid (fun W (hW : Below w.heap.size w W) => allValid_any (ms.map Mb.v) B b xs W (hR.below hW) (by simp; omega))
  have HO := Lib.hid (fun W (hW : Below w.heap.size w W) => object_ms ms A B a b W (hA.move fun x hx => ⟨Nat.lt_of_lt_of_le hx hW.size, hW.block x hx⟩) (fun i m hm => by
    obtain ⟨⟨p, o, e, hp, c0, c1, c2, c3, c4⟩, hl⟩ := hmat i m hm
    exact ⟨⟨p, o, e, Nat.lt_of_lt_of_le hp hW.size, below_cell hW hp c0, below_cell hW hp c1, below_cell hW hp c2, below_cell hW hp c3, below_cell hW hp c4⟩, below_lies hW hl⟩) hn hsz)
  have HA := Lib.hid hA
  have HSZ := Lib.hid hsz
  clear hA hR hmat hsz
  have hlen : (ms.map Mb.v).length = ms.length := by simp
  rw [hlen] at hv
  clear hlen
  rw [hval] at hv
  have hov : objV (lastOf (srt ms)) = .mk 6 0 ⟨#[]⟩ ((lastOf (srt ms)).map Mb.key) ((lastOf (srt ms)).map Mb.v) := rfl
  have HF := Lib.hid (fun cs W h => finish_own 6 0 ⟨#[]⟩ ((lastOf (srt ms)).map Mb.key) ((lastOf (srt ms)).map Mb.v) cs W hfin h)
  have HKO := Lib.hid hkey
  clear hfin hkey hval
  generalize (lastOf (srt ms)).map Mb.key = oks at hov HF ⊢
  generalize (lastOf (srt ms)).map Mb.v = oes at hov HF ⊢
  rw [hov] at HO
  clear hov
  go_enter Tryz.func128, Tryz.ntmps128
  go_wp2_with fail
  refine (hv.out _ (below1 _ _)).mono ?_
  rintro e1 w1 ⟨rfl, hb1⟩
  have hB1 := Lib.hid (one_step (Below.refl _ _) hb1)
  have hr1 := Lib.hid ((Box.laid w 25 #[.int .i64 0, .int .i64 0, .string ⟨#[]⟩, .slice none 0 0, .slice none 0 0]).below hB1.out (by omega))
  have hw1 : w.heap.size + 1 ≤ w1.heap.size := by have := hB1.out.size; simpa using this
  go_wp2_with fail
  go_loopw [20] (fun t wr => ∃ i : Nat, i ≤ ms.length ∧ t = .int .i64 i ∧ wr = w1 ∧ KeysOk ms i) (fun t _ => ms.length - (intOf t).toNat)
  case atStart => (refine ⟨0, Nat.zero_le _, rfl, ?_⟩; first | exact ⟨rfl, keysOk0 ms⟩ | (simp; exact keysOk0 ms))
  case round =>
    obtain ⟨i, hi, rfl, rfl, hok0⟩ := hrel
    have HOK := Lib.hid hok0
    clear hok0
    by_cases hlt : i < ms.length
    · obtain ⟨m, hm⟩ : ∃ m, ms[i]? = some m := ⟨_, List.getElem?_eq_getElem hlt⟩
      have hkey : (ms.map Mb.key)[i]? = some m.key := by simp [hm]
      obtain ⟨b0, o0, rfl, hb0, hc0⟩ := HA.out.at_ (kv_at hkey)
      have q := below_cell (below_one hB1.out) hb0 hc0
      have hu := Lib.hid (fun W => val_any m.key (by have := HSZ.out m (List.mem_of_getElem? hm); unfold maxLen; omega) W)
      have hok : Hid ((runes m.key.data.toList).isSome = okS m.key) := Lib.hid rfl
      rw [hok.out] at hu
      have HKEY := Lib.hid hkey
      have HMM := Lib.hid hm
      clear hok hkey hm hc0
      have hx : okS m.key = true := HKO.out m (List.mem_of_getElem? HMM.out)
      rw [hx] at hu
      have HX := Lib.hid hx
      clear hx
      go_wp2_with (go_at_call 30; refine (hu.out _).mono ?_; rintro e w' ⟨rfl, rfl⟩)
      go_roundw
      case rel => exact ⟨i + 1, by omega, by go_num, trivial, all_take HKEY.out HOK.out HX.out⟩
      case measure => simp [intOf]; omega
    · go_wp2_with fail
      refine (HO.out _ (below_one hB1.out)).mono ?_
      rintro e2 w2 ⟨hb2, ds, rfl, hl2⟩
      obtain ⟨VA, va, VB, vb, ys, rfl, _⟩ := lies_open hl2
      have hB2 := Lib.hid (chain (below_one hB1.out) hb2)
      have hr2 := Lib.hid (hr1.out.below hb2 hr1.out.lt)
      have hf := Lib.hid (HF.out _ _ hl2)
      have hsz2 := hb2.size
      clear hl2 hb2
      go_wp2_with fail
      refine hf.out.mono ?_
      rintro e3 w3 ⟨hb3, d3, d4, rfl, hl4⟩
      obtain ⟨KA, kc, rfl, -⟩ := own_open hl4.keys
      obtain ⟨zs, hz, -⟩ := hl4.elems
      obtain ⟨EA, ec, rfl, -⟩ := own_open hz
      clear hz
      have HL3 := Lib.hid hl4
      have hres : Box w3 w.heap.size 25 #[.int .i64 0, .int .i64 0, .string ⟨#[]⟩, .slice none 0 0, .slice none 0 0] := hr2.out.below hb3 hr2.out.lt
      have hB3 := Lib.hid (chain hB2.out hb3)
      clear hl4 hb3
      obtain ⟨t0, t1, t2, t3, t4⟩ := box5 hres
      have z0 := hres.free 0
      have z1 := hres.free 1
      have z2 := hres.free 2
      have z3 := hres.free 3
      have z4 := hres.free 4
      clear hres
      go_wp2_with fail
      refine bodyPost_ret (v := .tuple #[.agg #[.int .i64 6, .int .i64 0, .string ⟨#[]⟩, .slice KA oks.length kc, .slice EA oes.length ec], .int .i64 0]) (by simp [results, Tryz.results128, go_sem, t0, t1, t2, t3, t4]) rfl ?_
      refine ⟨below_five hB3.out _ _ _ _ _, _, _, rfl, ?_⟩
      exact (HL3.out.set5 (by have := hr2.out.lt; omega) _ _ _ _ _).le (by have := hr2.out.lt; omega)
end Go.Proofs.YtfmpdcmedaiooaaGreatDoor

/- The program's object. -/
import Derived.Test.YtfmpdcmedaiooaaGreatDoorU28
set_option linter.unusedVariables false
set_option linter.unusedSimpArgs false
namespace Go.Proofs.YtfmpdcmedaiooaaGreatDoor
open Go.RowKit Go.Sort
/-- The state of object after i members were stored. -/
structure MSt (w0 : World) (ms : List Mb) (i : Nat) (w : World) : Prop where
  below : Below w0.heap.size w0 w
  res : Box w w0.heap.size 25 #[.int .i64 0, .int .i64 0, .string ⟨#[]⟩, .slice none 0 0, .slice none 0 0]
  row : HoldsK Mb.six 6 w (w0.heap.size + 1) 0 (part ms i)
  lt : w0.heap.size + 1 < w.heap.size
theorem MSt.step {w0 : World} {ms : List Mb} {i : Nat} {m : Mb} {w : World} (h : MSt w0 ms i w) (hm : ms[i]? = some m) : MSt w0 ms (i + 1) (w.setCells (w0.heap.size + 1) (0 + i * 6) m.six) := by
  refine ⟨Lib.below_setCells _ (by omega) _ _ h.below, ?_, part_holds h.row hm, by simpa using h.lt⟩
  have := h.res
  simp only [Mb.six, Mb.five, World.setCells]
  exact (((((this.far (by simp) _).far (by simp) _).far (by simp) _).far (by simp) _).far (by simp) _).far (by simp) _
def zeroMb : Value := .agg #[.string ⟨#[]⟩, .int .i64 0, .int .i64 0, .string ⟨#[]⟩, .slice none 0 0, .slice none 0 0]
theorem inf_member : (Tryz.prog.info? 197).map (fun i => (i.zero, i.size, i.bytes)) = some (some zeroMb, 6, 96) := by kernel_rfl
theorem made_members (n : Nat) (hn : n ≤ 1000000) : ∃ C : Array Value, (∀ W, (Instr.makeSlice 195 (.int .i64 (n : Int)) (.int .i64 (n : Int))).run Tryz.prog W = .ok (.slice (some ⟨W.heap.size, 0, none⟩) n n) (W.alloc (.cells C 197))) ∧
    C.size = n * 6 ∧ ∀ j, j < n * 6 → C[j]! = (default : Mb).six[j % 6]! := by
  obtain ⟨i, hi, hz, hs, hb⟩ := info_parts inf_member
  refine ⟨madeCells zeroMb.cells (n * 6), fun W => ?_, by simp [madeCells], fun j hj => ?_⟩
  · have := run_make W 195 197 i zeroMb Tryz.underlying195 hi hz .i64 .i64 n n (by omega) (by omega) (by rw [hb]; omega) (by omega)
    rw [hs] at this
    simpa using this
  · have hm : j % 6 < 6 := Nat.mod_lt _ (by omega)
    simp only [madeCells, zeroMb, Value.cells]
    have : ∀ r, r < 6 → (#[Value.string ⟨#[]⟩, .int .i64 0, .int .i64 0, .string ⟨#[]⟩, .slice none 0 0, .slice none 0 0] : Array Value)[r]! = (default : Mb).six[r]! := by
      intro r hr
      match r, hr with
      | 0, _ => rfl
      | 1, _ => rfl
      | 2, _ => rfl
      | 3, _ => rfl
      | 4, _ => rfl
      | 5, _ => rfl
    rw [← this _ hm]
    simp [hj]
theorem made_holds {w : World} {C : Array Value} {t : TypeId} {ms : List Mb} (hs : C.size = ms.length * 6) (hC : ∀ j, j < ms.length * 6 → C[j]! = (default : Mb).six[j % 6]!) {g : Nat} (hb : w.heap[g]? = some (.cells C t (0, 0))) : HoldsK Mb.six 6 w g 0 (part ms 0) := by
  have hsz := part_size ms (Nat.zero_le _)
  intro j hj
  rw [size_flatK, hsz] at hj
  have hx : (part ms 0)[j / 6]! = default := by
    unfold part
    rw [getElem!_def, List.getElem?_toArray, List.take_zero, List.nil_append, List.getElem?_replicate, if_pos (by omega)]
  rw [get_flatK _ _ _ j (by rw [hsz]; exact hj), hx, ← hC j hj, Nat.zero_add]
  refine ⟨(cell_of_row w g j C t (0, 0) hb).trans ?_, by simp [World.frozen?, hb]⟩
  rw [getElem!_def, Array.getElem?_eq_getElem (by omega)]
  simp
theorem own_apart {w : World} {base n m : Nat} {vK vE : Value} {xs ys : List Value} (h : w.ownsRow base 9 1 vK n xs) (k : w.ownsRow base 25 5 vE m ys) : (vK.ownBlock = none ∨ vK.ownBlock ≠ vE.ownBlock) ∧ (vE.ownBlock = none ∨ vE.ownBlock ≠ vK.ownBlock) := by
  rcases h.2 with ⟨rfl, _⟩ | ⟨g1, c1, cur1, rfl, _, hh1, _⟩
  · refine ⟨.inl rfl, ?_⟩
    rcases k.2 with ⟨rfl, _⟩ | ⟨g2, c2, cur2, rfl, _, hh2, _⟩
    · exact .inl rfl
    · exact .inr (by simp [Value.ownBlock])
  · rcases k.2 with ⟨rfl, _⟩ | ⟨g2, c2, cur2, rfl, _, hh2, _⟩
    · exact ⟨.inr (by simp [Value.ownBlock]), .inl rfl⟩
    · have hne : g1 ≠ g2 := by
        rintro rfl
        rw [hh1] at hh2
        simp at hh2
      exact ⟨.inr (by simpa [Value.ownBlock] using hne), .inr (by simpa [Value.ownBlock] using fun e => hne e.symm)⟩
/-- The state of object's second loop: the keys and the elements so far. -/
structure OSt (w0 : World) (d : Array Mb) (gv : Nat) (kl : List ByteArray) (el : List V) (vK vE : Value) (xs : List Value) (w : World) : Prop where
  below : Below w0.heap.size w0 w
  res : Box w w0.heap.size 25 #[.int .i64 0, .int .i64 0, .string ⟨#[]⟩, .slice none 0 0, .slice none 0 0]
  row : HoldsK Mb.six 6 w (w0.heap.size + 1) 0 d
  hgv : w0.heap.size + 1 < gv
  out : Box w gv 25 #[.int .i64 6, .int .i64 0, .string ⟨#[]⟩, vK, vE]
  keys : w.ownsRow (gv + 1) 9 1 vK kl.length (kv kl)
  elems : w.ownsRow (gv + 1) 25 5 vE el.length xs
  lies : LiesL w (· < w0.heap.size) el xs
section
variable {w0 : World} {d : Array Mb} {gv : Nat} {kl : List ByteArray} {el : List V} {vK vE : Value} {xs : List Value} {w : World}
theorem OSt.quiet (h : OSt w0 d gv kl el vK vE xs w) {w1 : World} (hb : Below w.heap.size w w1) : OSt w0 d gv kl el vK vE xs w1 := by
  have h1 := h.out.lt
  have h2 := h.below.size
  have h3 := h.hgv
  exact ⟨chain h.below hb, h.res.below hb (by omega), holds_below h.row (hb.block _ (by omega)), h.hgv, h.out.below hb h1, own_below h.keys hb, own_below h.elems hb, h.lies.move fun b hlt => ⟨hlt, hb.block b (by omega)⟩⟩
theorem OSt.addK (h : OSt w0 d gv kl el vK vE xs w) {w2 : World} {o : Obj} {k : ByteArray} {vK' : Value} (hg : (w.alloc o).grownBy w2 vK.ownBlock) (ho : w2.ownsRow (gv + 1) 9 1 vK' (kl.length + 1) (kv kl ++ [.string k])) :
    OSt w0 d gv (kl ++ [k]) el vK' vE xs (w2.setCell ⟨gv, 3, none⟩ vK') := by
  have h := h.quiet ((Below.refl _ _).alloc (Nat.le_refl _) o)
  generalize w.alloc o = w at *
  have h1 := h.out.lt
  have h2 := h.below.size
  have h3 := h.hgv
  have hne : ∀ x, x < gv + 1 → some x ≠ vK.ownBlock := by
    intro x hx e
    have := (h.keys.lt x e.symm).1
    omega
  have hB : Below w0.heap.size w0 w2 := h.below.grown hg h2 (fun x hx => by have := (h.keys.lt x hx).1; omega)
  refine ⟨hB.setCell (by simp; omega) _, (h.res.grown hg (hne _ (by omega))).far (by simp; omega) _, ?_, h.hgv, (h.out.grown hg (hne _ (by omega))).put 3 _, ?_, ownsRow_setCell_below (h.elems.kept hg (own_apart h.keys h.elems).2) (by simp) _, ?_⟩
  · refine holds_below h.row ?_
    rw [Below.heap_setCell _ _ _ _ (by simp; omega)]
    exact hg.block _ (by omega) (hne _ (by omega))
  · have := ownsRow_setCell_below ho (a := ⟨gv, 3, none⟩) (by simp) vK'
    simpa [kv] using this
  · refine h.lies.move fun b hlt => ⟨hlt, ?_⟩
    rw [Below.heap_setCell _ _ _ _ (by simp; omega)]
    exact hg.block _ (by omega) (hne _ (by omega))
theorem OSt.addE (h : OSt w0 d gv kl el vK vE xs w) {w2 : World} {o : Obj} {e : V} {ds : List Value} {vE' : Value} (hl : Lies w0 (· < w0.heap.size) e ds) (hg : (w.alloc o).grownBy w2 vE.ownBlock) (ho : w2.ownsRow (gv + 1) 25 5 vE' (el.length + 1) (xs ++ ds)) :
    OSt w0 d gv kl (el ++ [e]) vK vE' (xs ++ ds) (w2.setCell ⟨gv, 4, none⟩ vE') := by
  have h := h.quiet ((Below.refl _ _).alloc (Nat.le_refl _) o)
  generalize w.alloc o = w at *
  have h1 := h.out.lt
  have h2 := h.below.size
  have h3 := h.hgv
  have hne : ∀ x, x < gv + 1 → some x ≠ vE.ownBlock := by
    intro x hx e
    have := (h.elems.lt x e.symm).1
    omega
  have hB : Below w0.heap.size w0 w2 := h.below.grown hg h2 (fun x hx => by have := (h.elems.lt x hx).1; omega)
  have hB2 : Below w0.heap.size w0 (w2.setCell ⟨gv, 4, none⟩ vE') := hB.setCell (by simp; omega) _
  refine ⟨hB2, (h.res.grown hg (hne _ (by omega))).far (by simp; omega) _, ?_, h.hgv, (h.out.grown hg (hne _ (by omega))).put 4 _, ownsRow_setCell_below (h.keys.kept hg (own_apart h.keys h.elems).1) (by simp) _, ?_, ?_⟩
  · refine holds_below h.row ?_
    rw [Below.heap_setCell _ _ _ _ (by simp; omega)]
    exact hg.block _ (by omega) (hne _ (by omega))
  · have := ownsRow_setCell_below ho (a := ⟨gv, 4, none⟩) (by simp) vE'
    simpa using this
  · refine LiesL.snoc (h.lies.move fun b hlt => ⟨hlt, ?_⟩) (hl.below hB2)
    rw [Below.heap_setCell _ _ _ _ (by simp; omega)]
    exact hg.block _ (by omega) (hne _ (by omega))
end
theorem box6o {w : World} {g : Nat} {t : TypeId} {x0 x1 x2 x3 x4 x5 : Value} (h : Box w g t #[x0, x1, x2, x3, x4, x5]) : w.cell? ⟨g, 0, none⟩ = some x0 ∧ w.cell? ⟨g, 1, none⟩ = some x1 ∧ w.cell? ⟨g, 2, none⟩ = some x2 ∧ w.cell? ⟨g, 3, none⟩ = some x3 ∧ w.cell? ⟨g, 4, none⟩ = some x4 ∧ w.cell? ⟨g, 5, none⟩ = some x5 :=
  ⟨h.cell rfl, h.cell rfl, h.cell rfl, h.cell rfl, h.cell rfl, h.cell rfl⟩
theorem sorted_any (ms : List Mb) (g : Nat) (w : World) (hH : HoldsK Mb.six 6 w g 0 (part ms ms.length)) (hg : g < w.heap.size) (hn : ms.length ≤ 1000000) :
    Calls Tryz.prog 189 #[.slice (some ⟨g, 0, none⟩) ms.length ms.length, .func (.func 190) #[] #[]] w fun e w' =>
      e = .returned (.tuple #[]) ∧ w.grownBy w' (some g) ∧ HoldsK Mb.six 6 w' g 0 (srt ms).toArray := by
  rw [part_all] at hH
  have hs : ms.toArray.size = ms.length := by simp
  have h := sortStable_any g ms.length ms.toArray w hH hg (by omega)
  rw [hs] at h
  refine h.mono ?_
  rintro e w' ⟨rfl, n, os, rfl⟩
  refine ⟨rfl, sort_grown, ?_⟩
  have := holdsK_sortWorldK_c Mb.six 6 w g 0 ms.toArray (insertionSort (Go.Proofs.ltOf mcf) ms.toArray 0 ms.length) n os hH hg (sort_size _ _ _ (Nat.zero_le _) (by omega))
  simpa [srt] using this
theorem new_cells2 (w : World) (cs : List Value) (t : TypeId) (n : Nat) (hn : w.heap.size = n) : ∀ j u, cs[j]? = some u → (w.alloc (.cells cs.toArray t)).cell? ((⟨n, 0, none⟩ : Addr).add j) = some u := by
  subst hn
  exact new_cellsV w cs t
theorem keep_same {ms : List Mb} {i : Nat} {m y : Mb} (hm : ms[i]? = some m) (hy : ms[i + 1]? = some y) (h : y.key = m.key) : lastOf (ms.drop i) = lastOf (ms.drop (i + 1)) := by
  obtain ⟨h1, rfl⟩ := List.getElem?_eq_some_iff.1 hm
  obtain ⟨h2, rfl⟩ := List.getElem?_eq_some_iff.1 hy
  rw [List.drop_eq_getElem_cons h1, List.drop_eq_getElem_cons h2, lastOf_same h]
theorem keep_next {ms : List Mb} {i : Nat} {m y : Mb} (hm : ms[i]? = some m) (hy : ms[i + 1]? = some y) (h : ¬ y.key = m.key) : lastOf (ms.drop i) = m :: lastOf (ms.drop (i + 1)) := by
  obtain ⟨h1, rfl⟩ := List.getElem?_eq_some_iff.1 hm
  obtain ⟨h2, rfl⟩ := List.getElem?_eq_some_iff.1 hy
  rw [List.drop_eq_getElem_cons h1, List.drop_eq_getElem_cons h2, lastOf_keep h]
theorem keep_end {ms : List Mb} {i : Nat} {m : Mb} (hm : ms[i]? = some m) (h : ¬ i + 1 < ms.length) : lastOf (ms.drop i) = m :: lastOf (ms.drop (i + 1)) := by
  obtain ⟨h1, rfl⟩ := List.getElem?_eq_some_iff.1 hm
  rw [List.drop_eq_getElem_cons h1, List.drop_eq_nil_of_le (show ms.length ≤ i + 1 by omega)]
  rfl
theorem below_alloc_drewN (w : World) (o : Obj) (n : Nat) : Below w.heap.size w ((w.alloc o).drewN n) := below_drewN ((Below.refl _ _).alloc (Nat.le_refl _) o) n
theorem srt_lies {ms : List Mb} {w : World} {S : Nat → Prop} {B : Option Addr} {i : Nat} {m : Mb} (h : ∀ i m, ms[i]? = some m → MAt w S B i m) (hm : (srt ms)[i]? = some m) : Lies w S m.v m.five := by
  have := (srt_mem ms m).1 (List.mem_of_getElem? hm)
  obtain ⟨j, hj⟩ := List.mem_iff_getElem?.1 this
  exact (h j m hj).lies
/-- What object leaves. -/
def ObjPost (v : V) (w : World) (e : Ending) (w' : World) : Prop := Below w.heap.size w w' ∧ ∃ ds : List Value, e = .returned (.agg ds.toArray) ∧ Lies w' (· < w'.heap.size) v ds
theorem OSt.lies_out {w0 : World} {d : Array Mb} {gv : Nat} {acc : List Mb} {KA EA : Option Addr} {kc ec : Nat} {ys : List Value} {w : World} (h : OSt w0 d gv (acc.map Mb.key) (acc.map Mb.v) (.slice KA acc.length kc) (.slice EA acc.length ec) ys w)
    (hk : ∀ m ∈ acc, m.key.size ≤ 140737488355328) (hn : acc.length ≤ 140737488355328) :
    Lies w (fun b => b ≠ w0.heap.size ∧ b < w.heap.size) (objV acc) [.int .i64 6, .int .i64 0, .string ⟨#[]⟩, .slice KA acc.length kc, .slice EA acc.length ec] := by
  have h1 := h.out.lt
  have h2 := h.below.size
  have h3 := h.hgv
  obtain ⟨A1, c1, e1, a1, a2, a3, a4⟩ := own_open h.keys
  obtain ⟨A2, c2, e2, b1, b2, b3, b4⟩ := own_open h.elems
  injection e1 with e1 _ e1'
  injection e2 with e2 _ e2'
  subst e1 e1' e2 e2'
  simp only [List.length_map] at a2 b2
  unfold objV
  rw [Lies]
  refine ⟨⟨Nat.zero_le _, ?_, by simpa using hn, by simpa using hn⟩, KA, kc, EA, ec, ys, by simp, a1, b1, ⟨by simpa using a2, a3⟩, ⟨by simpa using b2, b3⟩, a4.move ?_, b4.move ?_, h.lies.move ?_⟩
  · intro x hx
    simp only [List.mem_map] at hx
    obtain ⟨m, hm, rfl⟩ := hx
    exact hk m hm
  · rintro b ⟨x1, x2, _⟩; exact ⟨⟨by omega, by omega⟩, rfl⟩
  · rintro b ⟨x1, x2, _⟩; exact ⟨⟨by omega, by omega⟩, rfl⟩
  · intro b hb; exact ⟨⟨by omega, by omega⟩, rfl⟩
theorem obj_post {ms acc : List Mb} {w0 w w' : World} {S : Nat → Prop} {KA EA : Option Addr} {kc ec : Nat} (hall : acc = lastOf (srt ms)) (hf : Lies w S (objV acc) [.int .i64 6, .int .i64 0, .string ⟨#[]⟩, .slice KA acc.length kc, .slice EA acc.length ec])
    (hb : Below w0.heap.size w0 w') (hm : ∀ b, S b → b < w'.heap.size ∧ w'.heap[b]? = w.heap[b]?) :
    ObjPost (objV (lastOf (srt ms))) w0 (.returned (.agg #[.int .i64 6, .int .i64 0, .string ⟨#[]⟩, .slice KA acc.length kc, .slice EA acc.length ec])) w' := by
  subst hall
  exact ⟨hb, _, rfl, hf.move hm⟩
set_option maxHeartbeats 4000000 in
set_option maxRecDepth 100000 in
theorem object_ms (ms : List Mb) (A B : Option Addr) (a b : Nat) (w : World) (hA : Rs w (· < w.heap.size) A (kv (ms.map Mb.key))) (hmat : ∀ i m, ms[i]? = some m → MAt w (· < w.heap.size) B i m) (hn : ms.length ≤ 1000000)
    (hsz : ∀ m ∈ ms, m.key.size ≤ 140737488355328) : Calls Tryz.prog 158 #[.slice A ms.length a, .slice B ms.length b] w (ObjPost (objV (lastOf (srt ms))) w) := by
  have HM := Lib.hid hmat
  have HA := Lib.hid hA
  have HSZ : Hid (∀ m ∈ lastOf (srt ms), m.key.size ≤ 140737488355328) := Lib.hid (fun m hm => hsz m ((srt_mem ms m).1 (lastOf_mem hm)))
  clear hmat hA hsz
  have hn1 : ms.length ≤ 1000000 := by omega
  obtain ⟨i0, hi0, hz0, hz1, hz2⟩ := info_parts inf_value
  obtain ⟨i1, hi', hz0', hz1', hz2'⟩ := info_parts inf_string
  obtain ⟨C, hmk, hCs, hCd⟩ := made_members ms.length hn1
  have HCS := Lib.hid hCs
  have HCD := Lib.hid hCd
  clear hCs hCd
  go_enter Tryz.func158, Tryz.ntmps158
  go_wp2
  go_loopw [16] (fun t wr => ∃ i : Nat, i ≤ ms.length ∧ t = .int .i64 i ∧ MSt w ms i wr) (fun t _ => ms.length - (intOf t).toNat)
  case atStart => 
    refine ⟨0, Nat.zero_le _, rfl, ⟨((Below.refl _ _).alloc (Nat.le_refl _) _).alloc (by simp) _, (Box.laid w _ _).alloc _, made_holds (t := 197) HCS.out HCD.out ?_, by simp⟩⟩
    have := heap_alloc_new (w.alloc (.cells #[.int .i64 0, .int .i64 0, .string ⟨#[]⟩, .slice none 0 0, .slice none 0 0] 25)) (.cells C 197)
    simpa using this
  case round =>
    obtain ⟨i, hi, rfl, hst⟩ := hrel
    have HST := Lib.hid hst
    have hw1 := hst.lt
    clear hst
    by_cases hlt : i < ms.length
    · obtain ⟨m, hm⟩ : ∃ m, ms[i]? = some m := ⟨_, List.getElem?_eq_getElem hlt⟩
      have hkey : (kv (ms.map Mb.key))[i]? = some (.string m.key) := kv_at (by simp [hm])
      obtain ⟨b0, o0, rfl, hb0, hc0⟩ := HA.out.at_ hkey
      have q := below_cell HST.out.below hb0 hc0
      obtain ⟨⟨b1, o1, rfl, hb1, d0, d1, d2, d3, d4⟩, -⟩ := HM.out i m hm
      have q0 := below_cell HST.out.below hb1 d0
      have q1 := below_cell HST.out.below hb1 d1
      have q2 := below_cell HST.out.below hb1 d2
      have q3 := below_cell HST.out.below hb1 d3
      have q4 := below_cell HST.out.below hb1 d4
      clear d0 d1 d2 d3 d4 hc0 hkey
      have hps : i < (part ms i).size := by rw [part_size ms hi]; exact hlt
      obtain ⟨y, hy⟩ : ∃ y, (part ms i)[i]? = some y := ⟨_, Array.getElem?_eq_getElem hps⟩
      obtain ⟨s0, s1, s2, s3, s4, s5⟩ := holds_six HST.out.row hy
      obtain ⟨f0, f1, f2, f3, f4, f5⟩ := holds_free HST.out.row hps
      have hfin := Lib.hid (HST.out.step hm)
      clear hy hps hm
      go_wp2
      go_roundw
      case rel =>
        refine ⟨i + 1, by omega, by go_num, ?_⟩
        have h := hfin.out
        simp only [Nat.zero_add, Mb.six, Mb.five, World.setCells, Nat.add_assoc] at h
        exact h
      case measure => simp [intOf]; omega
    · clear hmk
      obtain rfl : i = ms.length := by omega
      have hsort := Lib.hid (sorted_any ms _ wr HST.out.row hw1 hn)
      go_wp2_with (go_at_call 189; refine hsort.out.mono ?_; rintro e2 w2 ⟨rfl, hg2, hr2⟩)
      have HR2 := Lib.hid hr2
      have HB2 := Lib.hid (HST.out.below.grown hg2 HST.out.below.size (fun x hx => by injection hx with hx; omega))
      have HE2 := Lib.hid (HST.out.res.grown hg2 (by simp))
      have hw2 : w.heap.size + 1 < w2.heap.size := by have := hg2.size; omega
      clear hr2 hg2
      go_wp2
      have HL : Hid ((srt ms).length = ms.length) := Lib.hid (srt_len ms)
      go_loopw [36] (fun t wr => ∃ (i : Nat) (acc : List Mb) (KA EA : Option Addr) (kc ec : Nat) (ys : List Value), i ≤ ms.length ∧ t = .int .i64 i ∧ acc.length ≤ i ∧ acc ++ lastOf ((srt ms).drop i) = lastOf (srt ms) ∧
        OSt w (srt ms).toArray w2.heap.size (acc.map Mb.key) (acc.map Mb.v) (.slice KA acc.length kc) (.slice EA acc.length ec) ys wr) (fun t _ => ms.length - (intOf t).toNat)
      case atStart =>
        exact ⟨0, [], none, none, 0, 0, [], Nat.zero_le _, rfl, Nat.le_refl _, by simp, HB2.out.alloc HB2.out.size _, HE2.out.alloc _, holds_below HR2.out (Below.heap_alloc _ _ _ (by omega)), hw2, Box.laid w2 _ _, World.ownsRow_nil _ _ _ _, World.ownsRow_nil _ _ _ _, by simp [LiesL]⟩
      case round =>
        obtain ⟨i, acc, KA, EA, kc, ec, ys, hi, rfl, hal, hacc, hst⟩ := hrel
        have HAC := Lib.hid hacc
        have HOS := Lib.hid hst
        clear hacc hst
        by_cases hlt : i < ms.length
        · obtain ⟨m, hm⟩ : ∃ m, (srt ms)[i]? = some m := ⟨_, List.getElem?_eq_getElem (by rw [HL.out]; exact hlt)⟩
          obtain ⟨s0, s1, s2, s3, s4, s5⟩ := holds_six HOS.out.row (i := i) (m := m) (by simpa using hm)
          have hw9 : w.heap.size + 1 < wr.heap.size := by have := HOS.out.out.lt; omega
          have e0 : ((i : Int) + 1).toNat = i + 1 := by omega
          have p0 : (0 : Int) ≤ (i : Int) + 1 := by omega
          have HMi := Lib.hid hm
          clear hm
          by_cases hn2 : i + 1 < ms.length
          · obtain ⟨y, hy⟩ : ∃ m, (srt ms)[i + 1]? = some m := ⟨_, List.getElem?_eq_getElem (by rw [HL.out]; exact hn2)⟩
            have r0 := (holds_six HOS.out.row (i := i + 1) (m := y) (by simpa using hy)).1
            have HY := Lib.hid hy
            clear hy
            have hd : decide ((i : Int) + 1 < (ms.length : Int)) = true := decide_eq_true (by omega)
            have hd1 : (i : Int) + 1 < (ms.length : Int) := by omega
            have hd2 : decide (i + 1 < ms.length) = true := decide_eq_true hn2
            have r1 : (wr.alloc (.cells #[.string m.key, .int .i64 m.k, .int .i64 m.n, .string m.s, .slice m.A m.ks.length m.a, .slice m.B m.es.length m.b] 197)).cell? ⟨w.heap.size + 1, (i + 1) * 6, none⟩ = some (.string y.key) := by rw [World.cell?_alloc_lt _ _ _ (by simpa using hw9)]; exact r0
            clear r0
            have hse := same_eq y.key m.key
            by_cases hz : scmp y.key m.key = 0
            · have hz1 : decide (scmp y.key m.key = 0) = true := decide_eq_true hz
              rw [hz1] at hse
              go_wp2_with fail
              go_quiet (fail)
              go_wp2_with fail
              go_roundw
              case rel => exact ⟨i + 1, acc, KA, EA, kc, ec, ys, by omega, by go_num, by omega, by rw [← HAC.out, keep_same HMi.out HY.out ((scmp_zero _ _).1 hz)], HOS.out.quiet (below_alloc_drewN _ _ _)⟩
              case measure => simp [intOf]; omega
            · have hz1 : decide (scmp y.key m.key = 0) = false := decide_eq_false hz
              rw [hz1] at hse
              go_wp2_with fail
              go_quiet (fail)
              have hkeep := Lib.hid (keep_next HMi.out HY.out (fun h => hz ((scmp_zero _ _).2 h)))
              clear hse hz hz1
              obtain ⟨w4, hw4⟩ : ∃ W, W = ((wr.alloc (.cells #[.string m.key, .int .i64 m.k, .int .i64 m.n, .string m.s, .slice m.A m.ks.length m.a, .slice m.B m.es.length m.b] 197)).drewN nq) := ⟨_, rfl⟩
              have hb4 : Below wr.heap.size wr w4 := by rw [hw4]; exact below_alloc_drewN _ _ _
              have hM : Hid (Box w4 wr.heap.size 197 #[.string m.key, .int .i64 m.k, .int .i64 m.n, .string m.s, .slice m.A m.ks.length m.a, .slice m.B m.es.length m.b]) := Lib.hid (by rw [hw4]; exact Box.laid wr _ _)
              rw [← hw4]
              clear hw4
              have hS := Lib.hid (HOS.out.quiet hb4)
              have hgw : w2.heap.size < wr.heap.size := HOS.out.out.lt
              have hsz4 := hb4.size
              have hKo : Hid (w4.ownsRow (w2.heap.size + 1) 9 1 (.slice KA acc.length kc) acc.length (kv (acc.map Mb.key))) := Lib.hid (by simpa using hS.out.keys)
              have hneK : ∀ x, x ≤ w2.heap.size ∨ x = wr.heap.size → some x ≠ (Value.slice KA acc.length kc).ownBlock := by
                intro x hx e
                have := HOS.out.keys.lt x e.symm
                omega
              have hneE : ∀ x, x ≤ w2.heap.size ∨ x = wr.heap.size → some x ≠ (Value.slice EA acc.length ec).ownBlock := by
                intro x hx e
                have := HOS.out.elems.lt x e.symm
                omega
              have HNK := Lib.hid hneK
              have HNE := Lib.hid hneE
              have o3 := hS.out.out.cell (i := 3) rfl
              have m0 := hM.out.cell (i := 0) rfl
              clear hneK hneE hb4 s0 s1 s2 s3 s4 s5
              go_wp2_with (first
                | (at_builtin; refine wpList_append_lies _ rfl (.tmp 58) (.tmp 61) 22 rfl (w2.heap.size + 1) 9 i1 (.string ⟨#[]⟩) 1 16 Tryz.underlying22 hi' hz0' hz1' hz2' rfl (by decide) (.slice KA acc.length kc) acc.length (kv (acc.map Mb.key)) rfl (own_below hKo.out ((Below.refl _ _).alloc (Nat.le_refl _) _)) ⟨w4.heap.size, 0, none⟩ 1 1 [.string m.key] rfl rfl (new_cellsV w4 _ _) (by intro u hu; rw [List.mem_singleton.1 hu]; rfl) (by decide) (by unfold maxLen; omega) (by omega) (by simp; omega) _ rfl ?_; intro g gc w5 ho5 hg5 hv5 _; have hO5 := (hS.out.out.alloc (.cells #[.string m.key] 9)).grown hg5 (HNK.out _ (.inl (Nat.le_refl _))); have o5 := hO5.cell (i := 3) rfl; have f5 := hO5.free 3; have hS5 := Lib.hid (hS.out.addK hg5 (vK' := .slice (some ⟨g, 0, none⟩) (acc.length + 1) gc) (by simpa using ho5)); have hM5 := Lib.hid (((hM.out.alloc (.cells #[.string m.key] 9)).grown hg5 (HNK.out _ (.inr rfl))).far (p := ⟨w2.heap.size, 3, none⟩) (by simp; omega) (.slice (some ⟨g, 0, none⟩) (acc.length + 1) gc)); have hsz5 : w4.heap.size + 1 ≤ w5.heap.size := (by have h0 := hg5.size; simpa using h0); have o6 := hS5.out.out.cell (i := 4) rfl; have f6 := hS5.out.out.free 4; obtain ⟨_, q1, q2, q3, q4, q5⟩ := box6o hM5.out; have hE5 : Hid ((w5.setCell ⟨w2.heap.size, 3, none⟩ (.slice (some ⟨g, 0, none⟩) (acc.length + 1) gc)).ownsRow (w2.heap.size + 1) 25 5 (.slice EA acc.length ec) acc.length ys) := Lib.hid (by simpa using hS5.out.elems); clear m0 o3 hO5)
                | (at_builtin; refine wpList_append_lies _ rfl (.tmp 65) (.tmp 68) 23 rfl (w2.heap.size + 1) 25 i0 zeroVal 5 80 Tryz.underlying23 hi0 hz0 hz1 hz2 rfl (by decide) (.slice EA acc.length ec) acc.length ys rfl (own_below hE5.out ((Below.refl _ _).alloc (Nat.le_refl _) _)) ⟨w5.heap.size, 0, none⟩ 1 1 [.int .i64 m.k, .int .i64 m.n, .string m.s, .slice m.A m.ks.length m.a, .slice m.B m.es.length m.b] rfl rfl (new_cells2 _ _ _ _ (by simp [World.setCell])) (five_one _ _ _ _ _ _ _ _ _) (by decide) (by unfold maxLen; omega) (by omega) (by simp [World.setCell]; omega) _ rfl ?_; intro g2 gc2 w6 ho6 hg6 hv6 _; have hO6 := (hS5.out.out.alloc (.cells #[.int .i64 m.k, .int .i64 m.n, .string m.s, .slice m.A m.ks.length m.a, .slice m.B m.es.length m.b] 25)).grown hg6 (HNE.out _ (.inl (Nat.le_refl _))); have o7 := hO6.cell (i := 4) rfl; have f7 := hO6.free 4; clear hO6 o6 f6 q1 q2 q3 q4 q5))
              have hl := Lib.hid (srt_lies HM.out HMi.out)
              have hfin := Lib.hid (hS5.out.addE hl.out hg6 (vE' := .slice (some ⟨g2, 0, none⟩) (acc.length + 1) gc2) (by simpa [Mb.five] using ho6))
              go_wp2_with fail
              go_roundw
              case rel => exact ⟨i + 1, acc ++ [m], some ⟨g, 0, none⟩, some ⟨g2, 0, none⟩, gc, gc2, _, by omega, by go_num, by simp; omega, by rw [← HAC.out, hkeep.out]; simp, by simpa using hfin.out⟩
              case measure => simp [intOf]; omega
          · have hd : decide ((i : Int) + 1 < (ms.length : Int)) = false := decide_eq_false (by omega)
            have hd1 : ¬ (i : Int) + 1 < (ms.length : Int) := by omega
            have hd2 : decide (i + 1 < ms.length) = false := decide_eq_false hn2
            have hkeep := Lib.hid (keep_end HMi.out (by rw [HL.out]; exact hn2))
            go_wp2_with fail
            go_quiet (fail)
            obtain ⟨w4, hw4⟩ : ∃ W, W = ((wr.alloc (.cells #[.string m.key, .int .i64 m.k, .int .i64 m.n, .string m.s, .slice m.A m.ks.length m.a, .slice m.B m.es.length m.b] 197)).drewN nq) := ⟨_, rfl⟩
            have hb4 : Below wr.heap.size wr w4 := by rw [hw4]; exact below_alloc_drewN _ _ _
            have hM : Hid (Box w4 wr.heap.size 197 #[.string m.key, .int .i64 m.k, .int .i64 m.n, .string m.s, .slice m.A m.ks.length m.a, .slice m.B m.es.length m.b]) := Lib.hid (by rw [hw4]; exact Box.laid wr _ _)
            rw [← hw4]
            clear hw4
            have hS := Lib.hid (HOS.out.quiet hb4)
            have hgw : w2.heap.size < wr.heap.size := HOS.out.out.lt
            have hsz4 := hb4.size
            have hKo : Hid (w4.ownsRow (w2.heap.size + 1) 9 1 (.slice KA acc.length kc) acc.length (kv (acc.map Mb.key))) := Lib.hid (by simpa using hS.out.keys)
            have hneK : ∀ x, x ≤ w2.heap.size ∨ x = wr.heap.size → some x ≠ (Value.slice KA acc.length kc).ownBlock := by
              intro x hx e
              have := HOS.out.keys.lt x e.symm
              omega
            have hneE : ∀ x, x ≤ w2.heap.size ∨ x = wr.heap.size → some x ≠ (Value.slice EA acc.length ec).ownBlock := by
              intro x hx e
              have := HOS.out.elems.lt x e.symm
              omega
            have HNK := Lib.hid hneK
            have HNE := Lib.hid hneE
            have o3 := hS.out.out.cell (i := 3) rfl
            have m0 := hM.out.cell (i := 0) rfl
            clear hneK hneE hb4 s0 s1 s2 s3 s4 s5
            go_wp2_with (first
              | (at_builtin; refine wpList_append_lies _ rfl (.tmp 58) (.tmp 61) 22 rfl (w2.heap.size + 1) 9 i1 (.string ⟨#[]⟩) 1 16 Tryz.underlying22 hi' hz0' hz1' hz2' rfl (by decide) (.slice KA acc.length kc) acc.length (kv (acc.map Mb.key)) rfl (own_below hKo.out ((Below.refl _ _).alloc (Nat.le_refl _) _)) ⟨w4.heap.size, 0, none⟩ 1 1 [.string m.key] rfl rfl (new_cellsV w4 _ _) (by intro u hu; rw [List.mem_singleton.1 hu]; rfl) (by decide) (by unfold maxLen; omega) (by omega) (by simp; omega) _ rfl ?_; intro g gc w5 ho5 hg5 hv5 _; have hO5 := (hS.out.out.alloc (.cells #[.string m.key] 9)).grown hg5 (HNK.out _ (.inl (Nat.le_refl _))); have o5 := hO5.cell (i := 3) rfl; have f5 := hO5.free 3; have hS5 := Lib.hid (hS.out.addK hg5 (vK' := .slice (some ⟨g, 0, none⟩) (acc.length + 1) gc) (by simpa using ho5)); have hM5 := Lib.hid (((hM.out.alloc (.cells #[.string m.key] 9)).grown hg5 (HNK.out _ (.inr rfl))).far (p := ⟨w2.heap.size, 3, none⟩) (by simp; omega) (.slice (some ⟨g, 0, none⟩) (acc.length + 1) gc)); have hsz5 : w4.heap.size + 1 ≤ w5.heap.size := (by have h0 := hg5.size; simpa using h0); have o6 := hS5.out.out.cell (i := 4) rfl; have f6 := hS5.out.out.free 4; obtain ⟨_, q1, q2, q3, q4, q5⟩ := box6o hM5.out; have hE5 : Hid ((w5.setCell ⟨w2.heap.size, 3, none⟩ (.slice (some ⟨g, 0, none⟩) (acc.length + 1) gc)).ownsRow (w2.heap.size + 1) 25 5 (.slice EA acc.length ec) acc.length ys) := Lib.hid (by simpa using hS5.out.elems); clear m0 o3 hO5)
              | (at_builtin; refine wpList_append_lies _ rfl (.tmp 65) (.tmp 68) 23 rfl (w2.heap.size + 1) 25 i0 zeroVal 5 80 Tryz.underlying23 hi0 hz0 hz1 hz2 rfl (by decide) (.slice EA acc.length ec) acc.length ys rfl (own_below hE5.out ((Below.refl _ _).alloc (Nat.le_refl _) _)) ⟨w5.heap.size, 0, none⟩ 1 1 [.int .i64 m.k, .int .i64 m.n, .string m.s, .slice m.A m.ks.length m.a, .slice m.B m.es.length m.b] rfl rfl (new_cells2 _ _ _ _ (by simp [World.setCell])) (five_one _ _ _ _ _ _ _ _ _) (by decide) (by unfold maxLen; omega) (by omega) (by simp [World.setCell]; omega) _ rfl ?_; intro g2 gc2 w6 ho6 hg6 hv6 _; have hO6 := (hS5.out.out.alloc (.cells #[.int .i64 m.k, .int .i64 m.n, .string m.s, .slice m.A m.ks.length m.a, .slice m.B m.es.length m.b] 25)).grown hg6 (HNE.out _ (.inl (Nat.le_refl _))); have o7 := hO6.cell (i := 4) rfl; have f7 := hO6.free 4; clear hO6 o6 f6 q1 q2 q3 q4 q5))
            have hl := Lib.hid (srt_lies HM.out HMi.out)
            have hfin := Lib.hid (hS5.out.addE hl.out hg6 (vE' := .slice (some ⟨g2, 0, none⟩) (acc.length + 1) gc2) (by simpa [Mb.five] using ho6))
            go_wp2_with fail
            go_roundw
            case rel => exact ⟨i + 1, acc ++ [m], some ⟨g, 0, none⟩, some ⟨g2, 0, none⟩, gc, gc2, _, by omega, by go_num, by simp; omega, by rw [← HAC.out, hkeep.out]; simp, by simpa using hfin.out⟩
            case measure => simp [intOf]; omega
        · obtain rfl : i = ms.length := by omega
          have hall : acc = lastOf (srt ms) := by
            rw [← HAC.out, List.drop_eq_nil_of_le (by rw [HL.out]; omega)]
            simp [lastOf]
          have HALL := Lib.hid hall
          have HF := Lib.hid (OSt.lies_out HOS.out (by rw [hall]; exact HSZ.out) (by omega))
          have HBF := Lib.hid HOS.out.below
          have hwF : w.heap.size < wr.heap.size := HOS.out.res.lt
          obtain ⟨r0, r1, r2, r3, r4⟩ := box5 HOS.out.out
          have hres := HOS.out.res
          obtain ⟨t0, t1, t2, t3, t4⟩ := box5 hres
          have z0 := hres.free 0
          have z1 := hres.free 1
          have z2 := hres.free 2
          have z3 := hres.free 3
          have z4 := hres.free 4
          clear hres hall
          go_wp2_with fail
          refine bodyPost_ret (v := .agg #[.int .i64 6, .int .i64 0, .string ⟨#[]⟩, .slice KA acc.length kc, .slice EA acc.length ec]) (by simp [results, Tryz.results158, go_sem, t0, t1, t2, t3, t4]) rfl ?_
          refine obj_post HALL.out HF.out ((((((HBF.out.setCell (by simp) _).setCell (by simp) _).setCell (by simp) _).setCell (by simp) _).setCell (by simp) _)) fun b hb => ⟨by simp [World.setCell]; omega, ?_⟩
          have hbb := hb.1
          rw [Below.heap_setCell _ _ _ _ (by simp; omega), Below.heap_setCell _ _ _ _ (by simp; omega), Below.heap_setCell _ _ _ _ (by simp; omega), Below.heap_setCell _ _ _ _ (by simp; omega), Below.heap_setCell _ _ _ _ (by simp; omega)]
end Go.Proofs.YtfmpdcmedaiooaaGreatDoor

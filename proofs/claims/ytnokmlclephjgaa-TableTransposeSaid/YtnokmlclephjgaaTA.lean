/- Rows of rows of the call's own. Nothing of the program is named here. The groups of the elements with equal keys, as lists of indexes. Nothing of the program is named here. slices.Concat of rows of the call's own. More on rows of rows: a cell of the last row is set; the base is lowered; the states of a loop that groups. Nothing of the program is named here. -/
import Derived.Test.YtnokmlclephjgaaBox
import Derived.Laws.AppendOwn
import Derived.Laws.OwnMore
import Derived.Test.YtnokmlclephjgaaCmpP
import Derived.Test.YtnokmlclephjgaaCmp
import Derived.Test.YtnokmlclephjgaaRMake
import Derived.Test.YtnokmlclephjgaaGrow
set_option linter.unusedVariables false
set_option linter.unusedSimpArgs false
namespace Go.Proofs.Ytnokmlclephjgaa
open Go.RowKit
/-- An inner row: its value, its length, its cells. -/
structure Gr where
  v : Value
  n : Nat
  xs : List Value
/-- The outer row V holds the rows gs, all of the call's own, no two in one block. -/
structure Grp (w : World) (base : Nat) (te tr : TypeId) (V : Value) (gs : List Gr) : Prop where
  out : w.ownsRow base tr 1 V gs.length (gs.map Gr.v)
  row : ∀ x ∈ gs, w.ownsRow base te 5 x.v x.n x.xs
  off : ∀ x ∈ gs, ∀ b, x.v.ownBlock = some b → V.ownBlock ≠ some b
  part : gs.Pairwise fun x y => ∀ b, x.v.ownBlock = some b → y.v.ownBlock ≠ some b
/-- Where an appended row lies: in the old one's block or in a new one. -/
def FarG (w : World) (v v' : Value) : Prop := ∀ g, v'.ownBlock = some g → v.ownBlock = some g ∨ w.heap.size ≤ g
theorem own_keepG {w w' : World} {base : Nat} {e : TypeId} {size n : Nat} {v : Value} {xs : List Value} (h : w.ownsRow base e size v n xs) (hb : Below w.heap.size w w') : w'.ownsRow base e size v n xs :=
  h.kept (below_grown hb none) (by cases h2 : v.ownBlock with | none => exact .inl rfl | some g => exact .inr (by simp))
theorem own_keepR {w w' : World} {base : Nat} {e : TypeId} {size n : Nat} {v : Value} {xs : List Value} {row : Option Nat} (h : w.ownsRow base e size v n xs) (hg : w.grownBy w' row) (hne : ∀ b, v.ownBlock = some b → row ≠ some b) : w'.ownsRow base e size v n xs :=
  h.kept hg (by
    cases h2 : v.ownBlock with
    | none => exact .inl rfl
    | some g => exact .inr (fun e => hne g h2 e.symm))
section
variable {w w' : World} {base : Nat} {te tr : TypeId} {V V' : Value} {gs : List Gr}
theorem Grp.start (w : World) (base : Nat) (te tr : TypeId) : Grp w base te tr (.slice none 0 0) [] :=
  ⟨World.ownsRow_nil _ _ _ _, (fun x h => by cases h), (fun x h => by cases h), List.Pairwise.nil⟩
theorem Grp.below (h : Grp w base te tr V gs) (hb : Below w.heap.size w w') : Grp w' base te tr V gs :=
  ⟨own_keepG h.out hb, fun x hx => own_keepG (h.row x hx) hb, h.off, h.part⟩
theorem Grp.push (h : Grp w base te tr V gs) (ho : w'.ownsRow base tr 1 V' (gs.length + 1) (gs.map Gr.v ++ [.slice none 0 0])) (hg : w.grownBy w' V.ownBlock) (hf : FarG w V V') : Grp w' base te tr V' (gs ++ [⟨.slice none 0 0, 0, []⟩]) := by
  refine ⟨?_, fun x hx => ?_, fun x hx b hb e => ?_, ?_⟩
  · rw [List.length_append, List.map_append]
    exact ho
  · rcases List.mem_append.1 hx with h1 | h1
    · exact own_keepR (h.row x h1) hg (h.off x h1)
    · rw [List.mem_singleton] at h1
      subst h1
      exact World.ownsRow_nil _ _ _ _
  · rcases List.mem_append.1 hx with h1 | h1
    · rcases hf b e with h2 | h2
      · exact h.off x h1 b hb h2
      · have := ((h.row x h1).lt b hb).2
        omega
    · rw [List.mem_singleton] at h1
      subst h1
      cases hb
  · rw [List.pairwise_append]
    refine ⟨h.part, List.pairwise_singleton _ _, fun x hx y hy b hb e => ?_⟩
    rw [List.mem_singleton] at hy
    subst hy
    cases e
theorem Grp.put {g n c : Nat} {x : Gr} {v' : Value} {n' : Nat} {ys : List Value} (h : Grp w base te tr (.slice (some ⟨g, 0, none⟩) n c) (gs ++ [x])) (ho : w'.ownsRow base te 5 v' n' ys) (hg : w.grownBy w' x.v.ownBlock) (hf : FarG w x.v v') (hn : n = gs.length + 1) :
    Grp (w'.setCell ⟨g, gs.length, none⟩ v') base te tr (.slice (some ⟨g, 0, none⟩) n c) (gs ++ [⟨v', n', ys⟩]) := by
  have hlen : (gs ++ [x]).length = gs.length + 1 := by simp
  have hx : x ∈ gs ++ [x] := by simp
  have hout := h.out
  rw [hlen] at hout
  have hgw : g < w.heap.size := (hout.lt g rfl).2
  have hgx : ∀ b, x.v.ownBlock = some b → b ≠ g := fun b hb e => h.off x hx b hb (by rw [e]; rfl)
  have ho1 : w'.ownsRow base tr 1 (.slice (some ⟨g, 0, none⟩) n c) (gs.length + 1) ((gs ++ [x]).map Gr.v) := own_keepR hout hg (fun b hb => fun e => by
    have e2 : b = g := by injection hb with hb; exact hb.symm
    exact hgx b e e2)
  subst hn
  obtain ⟨hs1, hs2⟩ := ho1.stored gs.length v'
  have hv' : ∀ b, v'.ownBlock = some b → b ≠ g := fun b hb => by
    rcases hf b hb with h1 | h1
    · exact hgx b h1
    · omega
  have hold : ∀ y ∈ gs, (w'.setCell ⟨g, gs.length, none⟩ v').ownsRow base te 5 y.v y.n y.xs := fun y hy => by
    have hy2 : y ∈ gs ++ [x] := by simp [hy]
    have h1 := own_keepR (h.row y hy2) hg (fun b hb => ((List.pairwise_append.1 h.part).2.2 y hy x (by simp)) b hb)
    exact own_keepR h1 hs2 (fun b hb e => h.off y hy2 b hb (by injection e with e; rw [← e]; rfl))
  refine ⟨?_, fun y hy => ?_, fun y hy b hb e => ?_, ?_⟩
  · have e1 : ((gs ++ [x]).map Gr.v).set gs.length v' = (gs ++ [(⟨v', n', ys⟩ : Gr)]).map Gr.v := by
      rw [List.map_append, List.map_append, List.set_append_right _ _ (by simp)]
      simp
    rw [e1] at hs1
    have e2 : (gs ++ [(⟨v', n', ys⟩ : Gr)]).length = gs.length + 1 := by simp
    rw [e2]
    exact hs1
  · rcases List.mem_append.1 hy with h1 | h1
    · exact hold y h1
    · rw [List.mem_singleton] at h1
      subst h1
      exact own_keepR ho hs2 (fun b hb e => hv' b hb (by injection e with e; exact e.symm))
  · rcases List.mem_append.1 hy with h1 | h1
    · exact h.off y (by simp [h1]) b hb e
    · rw [List.mem_singleton] at h1
      subst h1
      injection e with e
      exact hv' b hb e.symm
  · rw [List.pairwise_append]
    refine ⟨(List.pairwise_append.1 h.part).1, List.pairwise_singleton _ _, fun y hy z hz b hb e => ?_⟩
    rw [List.mem_singleton] at hz
    subst hz
    rcases hf b e with h1 | h1
    · exact (List.pairwise_append.1 h.part).2.2 y hy x (by simp) b hb h1
    · have := ((h.row y (by simp [hy])).lt b hb).2
      omega
end
/-- The last row of the rows. -/
theorem Grp.last {w : World} {base : Nat} {te tr : TypeId} {V : Value} {gs : List Gr} {x : Gr} (h : Grp w base te tr V (gs ++ [x])) :
    ∃ g c, V = .slice (some ⟨g, 0, none⟩) (gs.length + 1) c ∧ base ≤ g ∧ g < w.heap.size ∧ w.cell? ⟨g, gs.length, none⟩ = some x.v ∧ w.frozen? ⟨g, gs.length, none⟩ = false := by
  have hlen : (gs ++ [x]).length = gs.length + 1 := by simp
  have ho := h.out
  rw [hlen] at ho
  rcases ho.2 with ⟨e, e2⟩ | ⟨g, cap, cur, rfl, hb, hh, -⟩
  · omega
  · refine ⟨g, cap, rfl, hb, (ho.lt g rfl).2, ?_, ho.frozenAt _⟩
    rw [ho.cellAt _ (by omega), List.map_append, List.getElem?_append_right (by simp)]
    simp
end Go.Proofs.Ytnokmlclephjgaa
namespace Go.Proofs.Ytnokmlclephjgaa
open Go.RowKit
def keyB (K : List V) (p q : Nat) : Bool := match K[p]?, K[q]? with
  | some x, some y => eqV x y
  | _, _ => false
def grpS (K : List V) (gs : List (List Nat)) (pr : Option Nat) (a : Nat) : List (List Nat) := match pr with
  | none => gs ++ [[a]]
  | some p => if keyB K p a = true then gs.dropLast ++ [gs.getLast?.getD [] ++ [a]] else gs ++ [[a]]
/-- The groups of the first i indexes of the order. -/
def grpF (K : List V) (ord : List Nat) : Nat → List (List Nat)
  | 0 => []
  | i + 1 => grpS K (grpF K ord i) (if i = 0 then none else ord[i - 1]?) (ord[i]?.getD 0)
theorem last_split {α : Type} : ∀ (l : List (List α)), l ≠ [] → l = l.dropLast ++ [l.getLast?.getD []] := fun l h => by
  rw [List.getLast?_eq_some_getLast h]
  exact (List.dropLast_concat_getLast h).symm
theorem grpF_ne {K : List V} {ord : List Nat} : ∀ i, grpF K ord (i + 1) ≠ [] := fun i => by
  rw [grpF]
  unfold grpS
  split
  · simp
  · split <;> simp
theorem grpF_flat {K : List V} {ord : List Nat} : ∀ i, i ≤ ord.length → (grpF K ord i).flatten = ord.take i
  | 0, _ => rfl
  | i + 1, hi => by
    have ih := grpF_flat (K := K) (ord := ord) i (by omega)
    have hx : ord[i]? = some ord[i] := List.getElem?_eq_getElem (by omega)
    rw [grpF, List.take_add_one, hx]
    unfold grpS
    split
    · simp [ih]
    · rename_i p hp
      split
      · have hne : grpF K ord i ≠ [] := by
          cases i with
          | zero => simp at hp
          | succ j => exact grpF_ne j
        have h1 := last_split _ hne
        have h2 : (grpF K ord i).flatten = (grpF K ord i).dropLast.flatten ++ (grpF K ord i).getLast?.getD [] := by
          conv => lhs; rw [h1]
          simp
        rw [h2] at ih
        simp [← ih]
      · simp [ih]
/-- The cells of the element with an index. -/
def fiveC (xs : List Value) (a : Nat) : List Value := (xs.drop (a * 5)).take 5
def cellsI (xs : List Value) (I : List Nat) : List Value := I.flatMap (fiveC xs)
theorem cellsI_snoc (xs : List Value) (I : List Nat) (a : Nat) : cellsI xs (I ++ [a]) = cellsI xs I ++ fiveC xs a := by simp [cellsI]
/-- The rows are those of the groups. -/
def Like (xs : List Value) (gs : List Gr) (ig : List (List Nat)) : Prop := gs.map (fun x => (x.n, x.xs)) = ig.map fun I => (I.length, cellsI xs I)
theorem Like.nil (xs : List Value) : Like xs [] [] := rfl
theorem Like.len {xs : List Value} {gs : List Gr} {ig : List (List Nat)} (h : Like xs gs ig) : gs.length = ig.length := by
  have := congrArg List.length h
  simpa using this
theorem Like.snoc {xs : List Value} {gs : List Gr} {ig : List (List Nat)} (h : Like xs gs ig) {x : Gr} {I : List Nat} (h1 : x.n = I.length) (h2 : x.xs = cellsI xs I) : Like xs (gs ++ [x]) (ig ++ [I]) := by
  unfold Like at h ⊢
  rw [List.map_append, List.map_append, h]
  simp [h1, h2]
theorem Like.split {xs : List Value} {gs : List Gr} {ig : List (List Nat)} (h : Like xs gs ig) (hne : ig ≠ []) : ∃ gs' x, gs = gs' ++ [x] ∧ Like xs gs' ig.dropLast ∧ x.n = (ig.getLast?.getD []).length ∧ x.xs = cellsI xs (ig.getLast?.getD []) := by
  have hl := h.len
  have hg : gs ≠ [] := fun e => by
    rw [e] at hl
    exact hne (List.eq_nil_of_length_eq_zero hl.symm)
  have e1 : gs = gs.dropLast ++ [gs.getLast hg] := (List.dropLast_concat_getLast hg).symm
  have e2 := last_split ig hne
  refine ⟨gs.dropLast, gs.getLast hg, e1, ?_, ?_⟩
  · unfold Like at h ⊢
    have := congrArg List.dropLast h
    rw [← List.map_dropLast, ← List.map_dropLast] at this
    exact this
  · unfold Like at h
    rw [e1, e2, List.map_append, List.map_append] at h
    have h3 := (List.append_inj' h (by simp)).2
    simp at h3
    exact h3
end Go.Proofs.Ytnokmlclephjgaa
namespace Go.Proofs.Ytnokmlclephjgaa
open Go.RowKit
/-- How many elements the first i rows have, and their cells. -/
def totG (gs : List Gr) (i : Nat) : Nat := ((gs.take i).map Gr.n).sum
def outG (gs : List Gr) (i : Nat) : List Value := (gs.take i).flatMap Gr.xs
theorem totG_succ {gs : List Gr} {i : Nat} {x : Gr} (h : gs[i]? = some x) : totG gs (i + 1) = totG gs i + x.n := by
  unfold totG
  rw [List.take_add_one, h]
  simp
theorem outG_succ {gs : List Gr} {i : Nat} {x : Gr} (h : gs[i]? = some x) : outG gs (i + 1) = outG gs i ++ x.xs := by
  unfold outG
  rw [List.take_add_one, h]
  simp
theorem totG_le {gs : List Gr} : ∀ i, totG gs i ≤ totG gs gs.length := fun i => by
  unfold totG
  rw [List.take_length]
  have h : gs.map Gr.n = (gs.take i).map Gr.n ++ (gs.drop i).map Gr.n := by rw [← List.map_append, List.take_append_drop]
  rw [h, List.sum_append]
  omega
/-- The header of a row of one's own. -/
theorem own_head {w : World} {base n size : Nat} {e : TypeId} {v : Value} {xs : List Value} (h : w.ownsRow base e size v n xs) :
    ∃ A c, v = .slice A n c ∧ (A = none → c = 0) ∧ Rs w (fun b => base ≤ b ∧ b < w.heap.size) A xs ∧ xs.length = n * size := by
  rcases h.2 with ⟨rfl, rfl⟩ | ⟨g, cap, cur, rfl, hb, hh, -⟩
  · refine ⟨none, 0, rfl, fun _ => rfl, ?_, h.1⟩
    have : xs = [] := List.eq_nil_of_length_eq_zero (by have := h.1; omega)
    subst this
    exact Rs.nil _ _ _
  · refine ⟨_, cap, rfl, fun h => (by cases h), fun j u hj => ⟨g, 0, rfl, ⟨hb, (h.lt g rfl).2⟩, ?_⟩, h.1⟩
    obtain ⟨hjl, _⟩ := List.getElem?_eq_some_iff.1 hj
    rw [Nat.zero_add, h.cellAt j (by rw [← h.1]; exact hjl), hj]
/-- The outer header, and the cell of each row. -/
theorem Grp.head {w : World} {base : Nat} {te tr : TypeId} {V : Value} {gs : List Gr} (h : Grp w base te tr V gs) :
    ∃ A c, V = .slice A gs.length c ∧ ∀ i x, gs[i]? = some x → ∃ g, A = some ⟨g, 0, none⟩ ∧ g < w.heap.size ∧ w.cell? ⟨g, i, none⟩ = some x.v := by
  obtain ⟨A, c, rfl, _, hr, _⟩ := own_head h.out
  refine ⟨A, c, rfl, fun i x hx => ?_⟩
  obtain ⟨b, o, hA, hb, hc⟩ := hr i x.v (by rw [List.getElem?_map, hx]; rfl)
  have ho := h.out
  rcases ho.2 with ⟨e, e2⟩ | ⟨g, cap, cur, e, _, hh, -⟩
  · rw [hA] at e
    cases e
  · rw [hA] at e
    injection e with e
    injection e with e
    injection e with e1 e2
    subst e1 e2
    exact ⟨b, hA, hb.2, by rw [Nat.zero_add] at hc; exact hc⟩
def CnPost (w : World) (n : Nat) (xs : List Value) (e : Ending) (w' : World) : Prop :=
  ∃ v, e = .returned v ∧ w'.ownsRow w.heap.size 27 5 v n xs ∧ Below w.heap.size w w'
/-- The second loop: what has been put. -/
def CnSt (W : World) (gs : List Gr) (i : Nat) (t6 : Value) (wr : World) : Prop := wr.ownsRow W.heap.size 27 5 t6 (totG gs i) (outG gs i) ∧ Below W.heap.size W wr
set_option maxHeartbeats 4000000 in
set_option maxRecDepth 100000 in
theorem concat_any {base : Nat} {V : Value} {gs : List Gr} {w : World} (h : Grp w base 27 24 V gs) (hone : ∀ x ∈ gs, ∀ u ∈ x.xs, u.oneCell' = true) (hn : totG gs gs.length ≤ 1000000) (hg : gs.length ≤ 1000000) :
    Calls Try.prog 17 #[V] w (CnPost w (totG gs gs.length) (outG gs gs.length)) := by
  obtain ⟨i0, hi, hz0, hz1, hz2⟩ := info_parts inf_value
  obtain ⟨A, c, rfl, hA⟩ := h.head
  have HR := Lib.hid (fun (i : Nat) (x : Gr) (hx : gs[i]? = some x) => own_head (h.row x (List.mem_of_getElem? hx)))
  have HO := Lib.hid (fun (i : Nat) (x : Gr) (hx : gs[i]? = some x) => hone x (List.mem_of_getElem? hx))
  have HA := Lib.hid hA
  have HT := Lib.hid (fun i => totG_le (gs := gs) i)
  have HX := Lib.hid (fun (i : Nat) (hi : i < gs.length) => (⟨gs[i], List.getElem?_eq_getElem hi⟩ : ∃ x, gs[i]? = some x))
  have HS := Lib.hid (fun (i : Nat) (x : Gr) (hx : gs[i]? = some x) => totG_succ hx)
  have HU := Lib.hid (fun (i : Nat) (x : Gr) (hx : gs[i]? = some x) => outG_succ hx)
  have HZ : Hid (totG gs 0 = 0 ∧ outG gs 0 = []) := Lib.hid ⟨rfl, rfl⟩
  clear h hone hA
  generalize hL : gs.length = N at *
  go_enter Try.func17, Try.ntmps17
  go_wp2_with fail
  go_loop [3, 5, 11] (fun t3 _ t11 => ∃ i : Nat, i ≤ N ∧ t11 = .int .i64 i ∧ t3 = .int .i64 (totG gs i : Nat)) (fun _ _ t11 => N - (intOf t11).toNat)
  case atStart => exact ⟨0, Nat.zero_le _, rfl, by rw [HZ.out.1]; rfl⟩
  case round =>
    obtain ⟨i, hiN, rfl, rfl⟩ := hrel
    by_cases hlt : i < N
    · have hi0 : (0 : Int) ≤ (i : Int) := by omega
      have hil : (i : Int) < (N : Int) := by omega
      obtain ⟨x, hx⟩ := HX.out i hlt
      obtain ⟨g, rfl, hgw, hc⟩ := HA.out i x hx
      obtain ⟨B, b, hv, -⟩ := HR.out i x hx
      rw [hv] at hc
      have ht1 := HT.out (i + 1)
      have hs := HS.out i x hx
      rw [hs] at ht1
      generalize ht : totG gs i = t at *
      have hneg : ¬ ((t : Int) + (x.n : Int) < 0) := by omega
      go_wp2_with fail
      go_round
      case rel => exact ⟨i + 1, by omega, by first | rfl | go_num, by rw [hs]; first | rfl | go_num⟩
      case measure => simp [intOf]; omega
    · obtain rfl : i = N := by omega
      have hil : ¬ ((i : Int) < (i : Int)) := by omega
      go_wp2_with (go_at_call 33; (refine (grow_nil (totG gs i) _ (by omega)).mono ?_); rintro e w1 ⟨hb1, gv, rfl, hown1⟩)
      go_loopw [6, 8, 27] (fun t6 _ t27 wr => ∃ j : Nat, j ≤ i ∧ t27 = .int .i64 j ∧ Hid (CnSt w gs j t6 wr)) (fun _ _ t27 _ => i - (intOf t27).toNat)
      case atStart => exact ⟨0, Nat.zero_le _, rfl, Lib.hid ⟨by rw [HZ.out.1, HZ.out.2]; exact hown1, hb1⟩⟩
      case round =>
        clear hown1 hb1
        obtain ⟨j, hjN, rfl, HST⟩ := hrel
        by_cases hlt : j < i
        · have hi0 : (0 : Int) ≤ (j : Int) := by omega
          have hil : (j : Int) < (i : Int) := by omega
          obtain ⟨x, hx⟩ := HX.out j hlt
          obtain ⟨g, rfl, hgw, hc⟩ := HA.out j x hx
          obtain ⟨B, b, hv, hnil, hrs, hlen⟩ := HR.out j x hx
          rw [hv] at hc
          have q := (HST.out.2.cell (p := ⟨g, j, none⟩) hgw).trans hc
          have ht1 := HT.out (j + 1)
          have hs := HS.out j x hx
          have hu := HU.out j x hx
          rw [hs] at ht1
          have HRS := Lib.hid hrs
          have HNI := Lib.hid hnil
          have HLE := Lib.hid hlen
          have HON := Lib.hid (HO.out j x hx)
          clear hrs hnil hlen hc
          go_wp2_with (at_builtin; refine wpList_append_rs _ rfl (.tmp 31) (.tmp 32) 24 rfl w.heap.size 27 i0 zeroVal 5 80 Try.underlying24 hi hz0 hz1 hz2 rfl (by omega) _ _ _ rfl HST.out.1 (· < w.heap.size) B x.n b x.xs rfl HLE.out (HRS.out.move fun b hb => ⟨hb.2, HST.out.2.block b hb.2⟩) HNI.out HON.out (by unfold maxLen; omega) (by omega) HST.out.2.size ?_; intro v2 w2 hown2 hgrow2; have hb2 := HST.out.2.grown hgrow2 HST.out.2.size (fun g hg => (HST.out.1.lt g hg).1); clear q hgrow2)
          go_roundw
          case rel => exact ⟨j + 1, by omega, by first | rfl | go_num, Lib.hid ⟨by rw [hs, hu]; exact hown2, hb2⟩⟩
          case measure => simp [intOf]; omega
        · obtain rfl : j = i := by omega
          have hil : ¬ ((j : Int) < (j : Int)) := by omega
          go_wp2_with fail
          go_ret
          exact ⟨_, rfl, HST.out.1, HST.out.2⟩
end Go.Proofs.Ytnokmlclephjgaa
namespace Go.Proofs.Ytnokmlclephjgaa
open Go.RowKit
theorem own_low {w : World} {base base' n size : Nat} {e : TypeId} {v : Value} {xs : List Value} (h : w.ownsRow base e size v n xs) (hb : base' ≤ base) : w.ownsRow base' e size v n xs := by
  rcases h.2 with h2 | ⟨g, cap, cur, h2, h3, h4⟩
  · exact ⟨h.1, .inl h2⟩
  · exact ⟨h.1, .inr ⟨g, cap, cur, h2, Nat.le_trans hb h3, h4⟩⟩
theorem Grp.low {w : World} {base base' : Nat} {te tr : TypeId} {V : Value} {gs : List Gr} (h : Grp w base te tr V gs) (hb : base' ≤ base) : Grp w base' te tr V gs :=
  ⟨own_low h.out hb, fun x hx => own_low (h.row x hx) hb, h.off, h.part⟩
theorem Grp.setLast {w : World} {base : Nat} {te tr : TypeId} {V : Value} {gs : List Gr} {g n c : Nat} {ys : List Value} (h : Grp w base te tr V (gs ++ [⟨.slice (some ⟨g, 0, none⟩) n c, n, ys⟩])) (j : Nat) (u : Value) :
    Grp (w.setCell ⟨g, j, none⟩ u) base te tr V (gs ++ [⟨.slice (some ⟨g, 0, none⟩) n c, n, ys.set j u⟩]) := by
  obtain ⟨hs1, hs2⟩ := (h.row ⟨.slice (some ⟨g, 0, none⟩) n c, n, ys⟩ (by simp)).stored j u
  have hV : ∀ b, V.ownBlock = some b → some g ≠ some b := fun b hb e => h.off ⟨.slice (some ⟨g, 0, none⟩) n c, n, ys⟩ (by simp) g rfl (by rw [hb, e])
  have hold : ∀ y ∈ gs, (w.setCell ⟨g, j, none⟩ u).ownsRow base te 5 y.v y.n y.xs := fun y hy =>
    own_keepR (h.row y (by simp [hy])) hs2 (fun b hb e => (List.pairwise_append.1 h.part).2.2 y hy ⟨.slice (some ⟨g, 0, none⟩) n c, n, ys⟩ (by simp) b hb (by rw [← e]; rfl))
  refine ⟨?_, fun y hy => ?_, fun y hy b hb e => ?_, ?_⟩
  · have := own_keepR h.out hs2 hV
    simpa using this
  · rcases List.mem_append.1 hy with h1 | h1
    · exact hold y h1
    · rw [List.mem_singleton] at h1
      subst h1
      exact hs1
  · rcases List.mem_append.1 hy with h1 | h1
    · exact h.off y (by simp [h1]) b hb e
    · rw [List.mem_singleton] at h1
      subst h1
      exact h.off ⟨.slice (some ⟨g, 0, none⟩) n c, n, ys⟩ (by simp) b hb e
  · rw [List.pairwise_append]
    refine ⟨(List.pairwise_append.1 h.part).1, List.pairwise_singleton _ _, fun y hy z hz b hb e => ?_⟩
    rw [List.mem_singleton] at hz
    subst hz
    exact (List.pairwise_append.1 h.part).2.2 y hy ⟨.slice (some ⟨g, 0, none⟩) n c, n, ys⟩ (by simp) b hb e
theorem set_at {l r : List Value} {k : Nat} {z u : Value} (hk : l.length = k) : (l ++ z :: r).set k u = l ++ u :: r := by
  subst hk
  simp
/-- The five cells of a new last element. -/
theorem Grp.fill {w : World} {base : Nat} {te tr : TypeId} {V : Value} {gs : List Gr} {g n c : Nat} {ys : List Value} {z0 z1 z2 z3 z4 : Value} (h : Grp w base te tr V (gs ++ [⟨.slice (some ⟨g, 0, none⟩) (n + 1) c, n + 1, ys ++ [z0, z1, z2, z3, z4]⟩])) (hy : ys.length = n * 5) (v0 v1 v2 v3 v4 : Value) :
    Grp (((((w.setCell ⟨g, n * 5, none⟩ v0).setCell ⟨g, n * 5 + 1, none⟩ v1).setCell ⟨g, n * 5 + 2, none⟩ v2).setCell ⟨g, n * 5 + 3, none⟩ v3).setCell ⟨g, n * 5 + 4, none⟩ v4) base te tr V (gs ++ [⟨.slice (some ⟨g, 0, none⟩) (n + 1) c, n + 1, ys ++ [v0, v1, v2, v3, v4]⟩]) := by
  have h0 := h.setLast (n * 5) v0
  rw [set_at hy] at h0
  have h1 := h0.setLast (n * 5 + 1) v1
  rw [show ys ++ v0 :: [z1, z2, z3, z4] = (ys ++ [v0]) ++ z1 :: [z2, z3, z4] by simp, set_at (by simp [hy])] at h1
  have h2 := h1.setLast (n * 5 + 2) v2
  rw [show (ys ++ [v0]) ++ v1 :: [z2, z3, z4] = (ys ++ [v0, v1]) ++ z2 :: [z3, z4] by simp, set_at (by simp [hy])] at h2
  have h3 := h2.setLast (n * 5 + 3) v3
  rw [show (ys ++ [v0, v1]) ++ v2 :: [z3, z4] = (ys ++ [v0, v1, v2]) ++ z3 :: [z4] by simp, set_at (by simp [hy])] at h3
  have h4 := h3.setLast (n * 5 + 4) v4
  rw [show (ys ++ [v0, v1, v2]) ++ v3 :: [z4] = (ys ++ [v0, v1, v2, v3]) ++ z4 :: [] by simp, set_at (by simp [hy])] at h4
  have e : (ys ++ [v0, v1, v2, v3]) ++ v4 :: [] = ys ++ [v0, v1, v2, v3, v4] := by simp
  rw [e] at h4
  exact h4
/-- Between two rounds. -/
structure GsSt (te tr : TypeId) (W1 : World) (K : List V) (ord : List Nat) (xs : List Value) (V : Value) (i : Nat) (wr : World) : Prop where
  below : Below W1.heap.size W1 wr
  rows : ∃ gs, Grp wr W1.heap.size te tr V gs ∧ Like xs gs (grpF K ord i)
/-- Where the last row is the one to be put onto. -/
structure GsMid (te tr : TypeId) (W1 : World) (K : List V) (ord : List Nat) (xs : List Value) (a : Nat) (V : Value) (i : Nat) (wr : World) : Prop where
  below : Below W1.heap.size W1 wr
  rows : ∃ gs x, Grp wr W1.heap.size te tr V (gs ++ [x]) ∧ (gs.length < i + 1 ∧ x.n ≤ i) ∧ ∀ v' n' ys, n' = x.n + 1 → ys = x.xs ++ fiveC xs a → Like xs (gs ++ [⟨v', n', ys⟩]) (grpF K ord (i + 1))
theorem grpF_sizes {K : List V} {ord : List Nat} : ∀ i, (grpF K ord i).length ≤ i ∧ ∀ I ∈ grpF K ord i, I.length ≤ i
  | 0 => ⟨Nat.le_refl _, fun I h => by cases h⟩
  | i + 1 => by
    obtain ⟨h1, h2⟩ := grpF_sizes (K := K) (ord := ord) i
    rw [grpF]
    unfold grpS
    have hp : ∀ a, (grpF K ord i ++ [[a]]).length ≤ i + 1 ∧ ∀ I ∈ grpF K ord i ++ [[a]], I.length ≤ i + 1 := fun a => ⟨by simp; omega, fun I hI => by
      rcases List.mem_append.1 hI with h | h
      · have := h2 I h; omega
      · rw [List.mem_singleton] at h; subst h; simp⟩
    split
    · exact hp _
    · split
      · refine ⟨by simp; omega, fun I hI => ?_⟩
        rcases List.mem_append.1 hI with h | h
        · have := h2 I (List.dropLast_subset _ h); omega
        · rw [List.mem_singleton] at h
          subst h
          cases hl : (grpF K ord i).getLast? with
          | none => simp
          | some J =>
            have := h2 J (List.mem_of_getLast? hl)
            simp
            omega
      · exact hp _
theorem GsSt.same {te tr : TypeId} {W1 : World} {K : List V} {ord : List Nat} {xs : List Value} {V : Value} {i : Nat} {wr : World} (h : GsSt te tr W1 K ord xs V (i + 1) wr) {p a : Nat} (hp : ord[i]? = some p) (ha : ord[i + 1]? = some a) (hk : keyB K p a = true) :
    GsMid te tr W1 K ord xs a V (i + 1) wr := by
  obtain ⟨gs, hg, hl⟩ := h.rows
  obtain ⟨gs', x, rfl, hl', hn, hx⟩ := hl.split (grpF_ne i)
  obtain ⟨s1, s2⟩ := grpF_sizes (K := K) (ord := ord) (i + 1)
  have hlen := hl.len
  refine ⟨h.below, gs', x, hg, ⟨by simp at hlen; omega, ?_⟩, fun v' n' ys e1 e2 => ?_⟩
  · rw [hn]
    cases hq : (grpF K ord (i + 1)).getLast? with
    | none => simp
    | some J => exact s2 J (List.mem_of_getLast? hq)
  · rw [grpF, if_neg (by omega), show i + 1 - 1 = i by omega, hp, ha]
    unfold grpS
    simp only [hk, if_true, Option.getD_some]
    exact hl'.snoc (by rw [e1, hn]; simp) (by rw [e2, hx, cellsI_snoc])
theorem GsSt.push {te tr : TypeId} {W1 : World} {K : List V} {ord : List Nat} {xs : List Value} {V V' : Value} {i : Nat} {wr w2 : World} {gs : List Gr} (hb : Below W1.heap.size W1 w2) (hg : Grp wr W1.heap.size te tr V gs) (hl : Like xs gs (grpF K ord i)) {a : Nat} (ha : ord[i]? = some a)
    (hk : ∀ j p, i = j + 1 → ord[j]? = some p → keyB K p a = false) (ho : w2.ownsRow W1.heap.size tr 1 V' (gs.length + 1) (gs.map Gr.v ++ [.slice none 0 0])) (hgr : wr.grownBy w2 V.ownBlock) (hf : FarG wr V V') :
    GsMid te tr W1 K ord xs a V' i w2 := by
  obtain ⟨s1, s2⟩ := grpF_sizes (K := K) (ord := ord) i
  have hlen := hl.len
  refine ⟨hb, gs, _, hg.push ho hgr hf, ⟨by omega, Nat.zero_le _⟩, fun v' n' ys e1 e2 => ?_⟩
  have e : grpF K ord (i + 1) = grpF K ord i ++ [[a]] := by
    rw [grpF, ha]
    unfold grpS
    by_cases h0 : i = 0
    · rw [if_pos h0]
      rfl
    · rw [if_neg h0]
      cases hq : ord[i - 1]? with
      | none => rfl
      | some p =>
        have := hk (i - 1) p (by omega) hq
        simp [this]
  rw [e]
  exact hl.snoc (by rw [e1]; rfl) (by rw [e2]; simp [cellsI])
/-- Whether a new row begins. -/
def newB (K : List V) (ord : List Nat) (i a : Nat) : Bool := if i = 0 then true else match ord[i - 1]? with | some p => !keyB K p a | none => true
theorem newB_false {K : List V} {ord : List Nat} {i a : Nat} (h : newB K ord i a = false) : ∃ m p, i = m + 1 ∧ ord[m]? = some p ∧ keyB K p a = true := by
  unfold newB at h
  by_cases h0 : i = 0
  · rw [if_pos h0] at h
    cases h
  · rw [if_neg h0] at h
    cases hq : ord[i - 1]? with
    | none =>
      rw [hq] at h
      cases h
    | some p =>
      rw [hq] at h
      exact ⟨i - 1, p, by omega, hq, by simpa using h⟩
theorem newB_true {K : List V} {ord : List Nat} {i a : Nat} (h : newB K ord i a = true) : ∀ j p, i = j + 1 → ord[j]? = some p → keyB K p a = false := fun j p hi hp => by
  subst hi
  unfold newB at h
  rw [if_neg (by omega), show j + 1 - 1 = j by omega, hp] at h
  simpa using h
theorem GsSt.same' {te tr : TypeId} {W1 : World} {K : List V} {ord : List Nat} {xs : List Value} {V : Value} {i : Nat} {wr : World} (h : GsSt te tr W1 K ord xs V i wr) {a : Nat} (ha : ord[i]? = some a) (hk : newB K ord i a = false) :
    GsMid te tr W1 K ord xs a V i wr := by
  obtain ⟨m, p, rfl, hp, hkk⟩ := newB_false hk
  exact h.same hp ha hkk
theorem GsMid.put {te tr : TypeId} {W1 : World} {K : List V} {ord : List Nat} {xs : List Value} {V : Value} {i a : Nat} {wr w' : World} {gs : List Gr} {x : Gr} {g n c : Nat} (hb : Below W1.heap.size W1 w') (hgw : W1.heap.size ≤ g) (hg : Grp (w'.setCell ⟨g, gs.length, none⟩ x.v) W1.heap.size te tr V (gs ++ [x])) (hl : Like xs (gs ++ [x]) (grpF K ord (i + 1))) :
    GsSt te tr W1 K ord xs V (i + 1) (w'.setCell ⟨g, gs.length, none⟩ x.v) := ⟨hb.setCell hgw _, _, hg, hl⟩
end Go.Proofs.Ytnokmlclephjgaa

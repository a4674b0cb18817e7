/- What the groups' rows hold, joined: the elements in the order of their keys. Nothing of the program is named here. table.array: value.Arr with ErrLimit for every error. Rows of values by five cells: support for the walks of table (cut out of the texts named inside). -/
import Derived.Test.YtnokmlclephjgaaTA
import Derived.Test.YtnokmlclephjgaaMake2
import Derived.Test.YtnokmlclephjgaaRMake
import Derived.Test.YtnokmlclephjgaaBox
import Derived.Test.YtnokmlclephjgaaGrow
import Derived.Test.YtnokmlclephjgaaClone
import Derived.Test.YtnokmlclephjgaaCmp2
import Derived.Lib.SliceRun
import Derived.Laws.MakeOwn
import Derived.OneCell
set_option linter.unusedVariables false
set_option linter.unusedSimpArgs false
namespace Go.Proofs.Ytnokmlclephjgaa
open Go.RowKit
/-- The elements with the indexes. -/
def pickV (es : List V) (I : List Nat) : List V := I.filterMap fun a => es[a]?
theorem pickV_len {es : List V} : ∀ {I : List Nat}, (∀ a ∈ I, a < es.length) → (pickV es I).length = I.length
  | [], _ => rfl
  | a :: I, h => by
    have ih := pickV_len (es := es) (I := I) (fun b hb => h b (by simp [hb]))
    unfold pickV at ih ⊢
    rw [List.filterMap_cons, List.getElem?_eq_getElem (h a (by simp))]
    simp [ih]
theorem LiesL.five {w : World} {S : Nat → Prop} {es : List V} {xs : List Value} (h : LiesL w S es xs) {a : Nat} {e : V} (ha : es[a]? = some e) : Lies w S e (fiveC xs a) := by
  obtain ⟨c, hc, hx⟩ := h.at_ ha
  have h5 := hc.five
  have e1 : fiveC xs a = c := by
    unfold fiveC
    apply List.ext_getElem?
    intro i
    by_cases hi : i < 5
    · rw [List.getElem?_take_of_lt hi, List.getElem?_drop]
      exact hx i hi
    · rw [List.getElem?_eq_none (by simp; omega), List.getElem?_eq_none (by omega)]
  rw [e1]
  exact hc
theorem LiesL.pick {w : World} {S : Nat → Prop} {es : List V} {xs : List Value} (h : LiesL w S es xs) : ∀ {I : List Nat}, (∀ a ∈ I, a < es.length) → LiesL w S (pickV es I) (cellsI xs I)
  | [], _ => by
    show LiesL w S [] []
    rw [LiesL]
  | a :: I, hI => by
    have ih := h.pick (I := I) (fun b hb => hI b (by simp [hb]))
    have ha := List.getElem?_eq_getElem (hI a (by simp))
    have e1 : pickV es (a :: I) = es[a]'(hI a (by simp)) :: pickV es I := by
      unfold pickV
      rw [List.filterMap_cons, ha]
    have e2 : cellsI xs (a :: I) = fiveC xs a ++ cellsI xs I := by simp [cellsI]
    rw [e1, e2, LiesL]
    exact ⟨_, _, rfl, h.five ha, ih⟩
theorem Like.joined {xs : List Value} : ∀ {gs : List Gr} {ig : List (List Nat)}, Like xs gs ig → gs.flatMap Gr.xs = cellsI xs ig.flatten ∧ (gs.map Gr.n).sum = ig.flatten.length
  | [], [], _ => ⟨rfl, rfl⟩
  | [], _ :: _, h => by simp [Like] at h
  | _ :: _, [], h => by simp [Like] at h
  | x :: gs, I :: ig, h => by
    unfold Like at h
    simp only [List.map_cons, List.cons.injEq, Prod.mk.injEq] at h
    obtain ⟨⟨h1, h2⟩, h3⟩ := h
    obtain ⟨i1, i2⟩ := Like.joined (xs := xs) (gs := gs) (ig := ig) h3
    refine ⟨?_, ?_⟩
    · rw [List.flatMap_cons, i1, h2, List.flatten_cons]
      simp [cellsI]
    · rw [List.map_cons, List.sum_cons, i2, h1, List.flatten_cons, List.length_append]
theorem Like.mem {xs : List Value} : ∀ {gs : List Gr} {ig : List (List Nat)}, Like xs gs ig → ∀ x ∈ gs, ∃ I ∈ ig, x.n = I.length ∧ x.xs = cellsI xs I
  | [], _, _, x, hx => by cases hx
  | _ :: _, [], h, _, _ => by simp [Like] at h
  | y :: gs, I :: ig, h, x, hx => by
    unfold Like at h
    simp only [List.map_cons, List.cons.injEq, Prod.mk.injEq] at h
    obtain ⟨⟨h1, h2⟩, h3⟩ := h
    rcases List.mem_cons.1 hx with rfl | hx
    · exact ⟨I, by simp, h1, h2⟩
    · obtain ⟨J, hJ, r⟩ := Like.mem (xs := xs) (gs := gs) (ig := ig) h3 x hx
      exact ⟨J, by simp [hJ], r⟩
theorem cellsI_mem {xs : List Value} {I : List Nat} {u : Value} (h : u ∈ cellsI xs I) : u ∈ xs := by
  unfold cellsI at h
  obtain ⟨a, _, ha⟩ := List.mem_flatMap.1 h
  unfold fiveC at ha
  exact List.mem_of_mem_drop (List.mem_of_mem_take ha)
theorem Like.out {xs : List Value} {gs : List Gr} {K : List V} {ord : List Nat} (h : Like xs gs (grpF K ord ord.length)) : outG gs gs.length = cellsI xs ord ∧ totG gs gs.length = ord.length := by
  obtain ⟨h1, h2⟩ := h.joined
  rw [grpF_flat _ (Nat.le_refl _), List.take_length] at h1 h2
  unfold outG totG
  rw [List.take_length]
  exact ⟨h1, h2⟩
end Go.Proofs.Ytnokmlclephjgaa
namespace Go.Proofs.Ytnokmlclephjgaa
open Go.RowKit
def tabR (l : List V) : V := if arrE l = 0 then arrR l else vnull
def tabE (l : List V) : Int := if arrE l = 0 then 0 else 2
set_option maxHeartbeats 2000000 in
set_option maxRecDepth 100000 in
theorem tarr_any (l : List V) (A : Option Addr) (c : Nat) (xs : List Value) (w : World) (h : SliceV w A c l xs) : Calls Try.prog 16 #[.slice A l.length c] w (RetPost (tabR l) (tabE l) w) := by
  have hq := Lib.hid (fun W (hW : Below w.heap.size w W) => ret_open (arr_any l A c xs W (h.below hW)))
  unfold tabR tabE
  clear h
  generalize arrR l = R at *
  generalize arrE l = E at *
  by_cases hE : E = 0
  · subst hE
    rw [if_pos rfl, if_pos rfl]
    go_enter Try.func16, Try.ntmps16
    go_wp2_with fail
    refine (hq.out _ (below1 _ _)).mono ?_
    rintro e1 w1 ⟨rk, rn, rs, rks, res, RA, ra, RC, rc, hrv, rfl, hb1, hl1⟩
    have hB1 := Lib.hid (one_step (Below.refl _ _) hb1)
    have HL1 := Lib.hid hl1
    have hr1 : Box w1 w.heap.size 27 #[.int .i64 0, .int .i64 0, .string ⟨#[]⟩, .slice none 0 0, .slice none 0 0] := (Box.laid w 27 #[.int .i64 0, .int .i64 0, .string ⟨#[]⟩, .slice none 0 0, .slice none 0 0]).below hB1.out (by omega)
    have hw1 : w.heap.size + 1 ≤ w1.heap.size := by have := hB1.out.size; simpa using this
    clear hrv hl1 hb1 hq
    obtain ⟨t0, t1, t2, t3, t4⟩ := box5 hr1
    have z0 := hr1.free 0
    have z1 := hr1.free 1
    have z2 := hr1.free 2
    have z3 := hr1.free 3
    have z4 := hr1.free 4
    have c0 := fun o => (hr1.alloc o).cell (i := 0) (u := .int .i64 0) rfl
    have c1 := fun o => (hr1.alloc o).cell (i := 1) (u := .int .i64 0) rfl
    have c2 := fun o => (hr1.alloc o).cell (i := 2) (u := .string ⟨#[]⟩) rfl
    have c3 := fun o => (hr1.alloc o).cell (i := 3) (u := .slice none 0 0) rfl
    have c4 := fun o => (hr1.alloc o).cell (i := 4) (u := .slice none 0 0) rfl
    have f0 := fun o => (hr1.alloc o).free 0
    have f1 := fun o => (hr1.alloc o).free 1
    have f2 := fun o => (hr1.alloc o).free 2
    have f3 := fun o => (hr1.alloc o).free 3
    have f4 := fun o => (hr1.alloc o).free 4
    clear hr1
    have hne : ¬ w.heap.size = w1.heap.size := by omega
    have hne2 : ¬ w1.heap.size = w.heap.size := by omega
    go_wp2_with fail
    refine bodyPost_ret (v := .tuple #[.agg #[.int .i64 rk, .int .i64 rn, .string rs, .slice RA rks.length ra, .slice RC res.length rc], .int .i64 0]) (by simp [results, Try.results16, go_sem, c0, c1, c2, c3, c4]) rfl ?_
    refine ret_of (ds := [.int .i64 rk, .int .i64 rn, .string rs, .slice RA rks.length ra, .slice RC res.length rc]) ((((((((below_one hB1.out).alloc (by omega) _).setCell (by simp) _).setCell (by simp) _).setCell (by simp) _).setCell (by simp) _).setCell (by simp) _)) ?_
    refine HL1.out.move fun b hb => ⟨⟨by simp at hb; omega, by simp [World.setCell]; omega⟩, ?_⟩
    have hbb : w.heap.size + 1 ≤ b := by simp at hb; omega
    rw [Below.heap_setCell _ _ _ _ (by simp; omega), Below.heap_setCell _ _ _ _ (by simp; omega), Below.heap_setCell _ _ _ _ (by simp; omega), Below.heap_setCell _ _ _ _ (by simp; omega), Below.heap_setCell _ _ _ _ (by simp; omega)]
    exact (((Below.refl _ w1).alloc (Nat.le_refl _) _).block b hb.2)
  · rw [if_neg hE, if_neg hE]
    go_enter Try.func16, Try.ntmps16
    go_wp2_with fail
    refine (hq.out _ (below1 _ _)).mono ?_
    rintro e1 w1 ⟨rk, rn, rs, rks, res, RA, ra, RC, rc, hrv, rfl, hb1, hl1⟩
    have hB1 := Lib.hid (one_step (Below.refl _ _) hb1)
    have HL1 := Lib.hid hl1
    have hr1 : Box w1 w.heap.size 27 #[.int .i64 0, .int .i64 0, .string ⟨#[]⟩, .slice none 0 0, .slice none 0 0] := (Box.laid w 27 #[.int .i64 0, .int .i64 0, .string ⟨#[]⟩, .slice none 0 0, .slice none 0 0]).below hB1.out (by omega)
    have hw1 : w.heap.size + 1 ≤ w1.heap.size := by have := hB1.out.size; simpa using this
    clear hrv hl1 hb1 hq
    obtain ⟨t0, t1, t2, t3, t4⟩ := box5 hr1
    have z0 := hr1.free 0
    have z1 := hr1.free 1
    have z2 := hr1.free 2
    have z3 := hr1.free 3
    have z4 := hr1.free 4
    have c0 := fun o => (hr1.alloc o).cell (i := 0) (u := .int .i64 0) rfl
    have c1 := fun o => (hr1.alloc o).cell (i := 1) (u := .int .i64 0) rfl
    have c2 := fun o => (hr1.alloc o).cell (i := 2) (u := .string ⟨#[]⟩) rfl
    have c3 := fun o => (hr1.alloc o).cell (i := 3) (u := .slice none 0 0) rfl
    have c4 := fun o => (hr1.alloc o).cell (i := 4) (u := .slice none 0 0) rfl
    have f0 := fun o => (hr1.alloc o).free 0
    have f1 := fun o => (hr1.alloc o).free 1
    have f2 := fun o => (hr1.alloc o).free 2
    have f3 := fun o => (hr1.alloc o).free 3
    have f4 := fun o => (hr1.alloc o).free 4
    clear hr1
    have hne : ¬ w.heap.size = w1.heap.size := by omega
    have hne2 : ¬ w1.heap.size = w.heap.size := by omega
    go_wp2_with fail
    refine bodyPost_ret (v := .tuple #[.agg #[.int .i64 0, .int .i64 0, .string ⟨#[]⟩, .slice none 0 0, .slice none 0 0], .int .i64 2]) (by simp [results, Try.results16, go_sem, c0, c1, c2, c3, c4]) rfl ?_
    exact ret_of (ds := [.int .i64 0, .int .i64 0, .string ⟨#[]⟩, .slice none 0 0, .slice none 0 0]) ((((((((below_one hB1.out).alloc (by omega) _).setCell (by simp) _).setCell (by simp) _).setCell (by simp) _).setCell (by simp) _).setCell (by simp) _)) (lies_null _ _)
end Go.Proofs.Ytnokmlclephjgaa
namespace Go.Proofs.Ytnokmlclephjgaa
open Go.RowKit
/- Cat -/
theorem own_ge' {w : World} {base n size : Nat} {e : TypeId} {v : Value} {xs : List Value} (h : w.ownsRow base e size v n xs) : ∀ g, v.ownBlock = some g → base ≤ g := fun g hg => (h.lt g hg).1
/- Itr -/
/-- Five cells that can hold a value. -/
structure Fv where
  k : Int
  n : Int
  s : ByteArray
  A : Option Addr
  la : Nat
  a : Nat
  C : Option Addr
  lc : Nat
  c : Nat
def Fv.cs (x : Fv) : List Value := [.int .i64 x.k, .int .i64 x.n, .string x.s, .slice x.A x.la x.a, .slice x.C x.lc x.c]
instance : Inhabited Fv := ⟨⟨0, 0, ⟨#[]⟩, none, 0, 0, none, 0, 0⟩⟩
theorem Fv.len (x : Fv) : x.cs.length = 5 := rfl
theorem Fv.one (x : Fv) : ∀ u ∈ x.cs, u.oneCell' = true := by
  intro u hu
  simp only [Fv.cs, List.mem_cons, List.not_mem_nil, or_false] at hu
  rcases hu with rfl | rfl | rfl | rfl | rfl <;> rfl
/-- The five cells from o on in block b hold x. -/
def FiveAt (W : World) (b o : Nat) (x : Fv) : Prop :=
  W.cell? ⟨b, o, none⟩ = some (.int .i64 x.k) ∧ W.cell? ⟨b, o + 1, none⟩ = some (.int .i64 x.n) ∧ W.cell? ⟨b, o + 2, none⟩ = some (.string x.s) ∧ W.cell? ⟨b, o + 3, none⟩ = some (.slice x.A x.la x.a) ∧ W.cell? ⟨b, o + 4, none⟩ = some (.slice x.C x.lc x.c)
theorem FiveAt.below {W W' : World} {b o B : Nat} {x : Fv} (h : FiveAt W b o x) (hb : Below B W W') (hlt : b < B) : FiveAt W' b o x :=
  ⟨(hb.cell (p := ⟨b, o, none⟩) hlt).trans h.1, (hb.cell (p := ⟨b, o + 1, none⟩) hlt).trans h.2.1, (hb.cell (p := ⟨b, o + 2, none⟩) hlt).trans h.2.2.1, (hb.cell (p := ⟨b, o + 3, none⟩) hlt).trans h.2.2.2.1, (hb.cell (p := ⟨b, o + 4, none⟩) hlt).trans h.2.2.2.2⟩
/- Col -/
def fvZero : Fv := ⟨0, 0, ⟨#[]⟩, none, 0, 0, none, 0, 0⟩
/-- The slice value reads as the five-cell rows zs, in blocks below n₀. -/
def FvRow (n₀ : Nat) (W : World) (A : Option Addr) (zs : List Fv) : Prop := ∀ j x, zs[j]? = some x → ∃ b o, A = some ⟨b, o, none⟩ ∧ b < n₀ ∧ FiveAt W b (o + j * 5) x
theorem FvRow.below {n₀ B : Nat} {W W' : World} {A : Option Addr} {zs : List Fv} (h : FvRow n₀ W A zs) (hb : Below B W W') (hB : n₀ ≤ B) : FvRow n₀ W' A zs := fun j x hx =>
  let ⟨b, o, e, hlt, hf⟩ := h j x hx
  ⟨b, o, e, hlt, hf.below hb (by omega)⟩
/-- One cell of a row of the call's own turned. -/
theorem own_set {w : World} {base g i n size cap : Nat} {e : TypeId} {xs : List Value} (h : w.ownsRow base e size (.slice (some ⟨g, 0, none⟩) n cap) n xs) (hi : i < n * size) (u : Value) :
    (w.setCell ⟨g, i, none⟩ u).ownsRow base e size (.slice (some ⟨g, 0, none⟩) n cap) n (xs.set i u) := by
  refine ⟨by rw [List.length_set]; exact h.1, ?_⟩
  rcases h.2 with ⟨h0, _⟩ | ⟨g', cap', cur, hv, hbg, hg, hnc, hcm, hcs, ht⟩
  · cases h0
  · cases hv
    refine .inr ⟨g, cap, cur.setIfInBounds i u, rfl, hbg, ?_, hnc, hcm, by rw [Array.size_setIfInBounds]; exact hcs, ?_⟩
    · have := (show Box w g e cur from hg).put i u
      exact this
    · rw [Array.toList_setIfInBounds, List.take_set, ht]
theorem flat_len (xs : List Fv) : (xs.flatMap Fv.cs).length = xs.length * 5 := by
  induction xs with
  | nil => rfl
  | cons x r ih => rw [List.flatMap_cons, List.length_append, ih, Fv.len, List.length_cons]; omega
/- Srt -/
theorem five_get (x : Fv) (c : Nat) (hc : c < 5) : x.cs[c]? = some (x.cs[c]!) := by
  rw [getElem!_pos x.cs c (by rw [Fv.len]; exact hc)]
  exact List.getElem?_eq_getElem _
theorem flat_get : ∀ (xs : List Fv) (t : Nat), t < xs.length * 5 → (xs.flatMap Fv.cs)[t]? = some ((xs[t / 5]!).cs[t % 5]!)
  | [], t, h => by simp at h
  | x :: r, t, h => by
    rw [List.flatMap_cons]
    rcases Nat.lt_or_ge t 5 with h5 | h5
    · rw [List.getElem?_append_left (by rw [Fv.len]; exact h5), Nat.div_eq_of_lt h5, Nat.mod_eq_of_lt h5]
      exact five_get x t h5
    · obtain ⟨u, rfl⟩ : ∃ u, t = u + 5 := ⟨t - 5, by omega⟩
      rw [List.getElem?_append_right (by rw [Fv.len]; omega), Fv.len, Nat.add_sub_cancel, flat_get r u (by simp at h; omega), Nat.add_mod_right, Nat.add_div_right _ (by omega)]
      simp
/- Bsf -/
/- Gone -/
theorem FvRow.mono {n₀ n₁ : Nat} {W : World} {A : Option Addr} {zs : List Fv} (h : FvRow n₀ W A zs) (hB : n₀ ≤ n₁) : FvRow n₁ W A zs := fun j x hx => by
  obtain ⟨b, o, e, hb, hf⟩ := h j x hx
  exact ⟨b, o, e, Nat.lt_of_lt_of_le hb hB, hf⟩
/- Del1 -/
theorem flat_set (x : Fv) : ∀ (ys : List Fv) (i : Nat), i < ys.length → ((((((ys.flatMap Fv.cs).set (i * 5) (.int .i64 x.k)).set (i * 5 + 1) (.int .i64 x.n)).set (i * 5 + 2) (.string x.s)).set (i * 5 + 3) (.slice x.A x.la x.a)).set (i * 5 + 4) (.slice x.C x.lc x.c)) = (ys.set i x).flatMap Fv.cs
  | [], i, h => by simp at h
  | y :: r, 0, _ => by simp [Fv.cs]
  | y :: r, i + 1, h => by
    have ih := flat_set x r i (by simpa using h)
    rw [List.set_cons_succ, List.flatMap_cons, List.flatMap_cons, ← ih]
    have e : (i + 1) * 5 = i * 5 + 1 + 1 + 1 + 1 + 1 := by omega
    rw [e]
    simp only [Fv.cs, List.cons_append, List.nil_append, List.set_cons_succ, Nat.add_right_comm _ _ 1]
theorem own_belowV {w w' : World} {base size n : Nat} {e : TypeId} {v : Value} {xs : List Value} (h : w.ownsRow base e size v n xs) (hb : Below w.heap.size w w') : w'.ownsRow base e size v n xs := by
  refine ⟨h.1, ?_⟩
  rcases h.2 with h1 | ⟨g, cap, cur, rfl, h1, h2, h3⟩
  · exact .inl h1
  · exact .inr ⟨g, cap, cur, rfl, h1, (hb.block g (h.lt g rfl).2).trans h2, h3⟩
/- Wo1 -/
/-- The cells of values, five by five. -/
theorem lies_fv {w : World} {S : Nat → Prop} {v : V} {cs : List Value} (h : Lies w S v cs) : ∃ x : Fv, cs = x.cs := by
  obtain ⟨k, n, s, ks, es⟩ := v
  obtain ⟨A, a, B, b, xs, rfl, _⟩ := lies_open h
  exact ⟨⟨k, n, s, A, ks.length, a, B, es.length, b⟩, rfl⟩
theorem liesL_fv {w : World} {S : Nat → Prop} : ∀ (es : List V) (xs : List Value), LiesL w S es xs → ∃ l : List (V × Fv), l.map Prod.fst = es ∧ xs = (l.map Prod.snd).flatMap Fv.cs ∧ ∀ p ∈ l, Lies w S p.1 p.2.cs
  | [], xs, h => by rw [LiesL] at h; subst h; exact ⟨[], rfl, rfl, fun p hp => by cases hp⟩
  | e :: es, xs, h => by
    rw [LiesL] at h
    obtain ⟨c, r, rfl, hc, hr⟩ := h
    obtain ⟨x, rfl⟩ := lies_fv hc
    obtain ⟨l, h1, rfl, h3⟩ := liesL_fv es r hr
    refine ⟨(e, x) :: l, by rw [List.map_cons, h1], rfl, fun p hp => ?_⟩
    rcases List.mem_cons.1 hp with rfl | hp
    · exact hc
    · exact h3 p hp
theorem rs_row {w : World} {B : Nat} {A : Option Addr} {zs : List Fv} (h : Rs w (· < B) A (zs.flatMap Fv.cs)) : FvRow B w A zs := by
  intro j x hx
  have hjl : j < zs.length := (List.getElem?_eq_some_iff.1 hx).1
  have hyy : zs[j]! = x := by rw [getElem!_def, hx]
  have c : ∀ c, c < 5 → ∃ b o, A = some ⟨b, o, none⟩ ∧ b < B ∧ w.cell? ⟨b, o + (j * 5 + c), none⟩ = some (x.cs[c]!) := fun c hc =>
    h (j * 5 + c) _ (by rw [flat_get _ _ (by omega), show (j * 5 + c) / 5 = j by omega, show (j * 5 + c) % 5 = c by omega, hyy])
  obtain ⟨b, o, rfl, hb, h0⟩ := c 0 (by omega)
  have c' : ∀ k, k < 5 → w.cell? ⟨b, o + j * 5 + k, none⟩ = some (x.cs[k]!) := fun k hk => by
    obtain ⟨b', o', e, _, h1⟩ := c k hk
    injection e with e
    injection e with e1 e2
    subst e1 e2
    rw [Nat.add_assoc]
    exact h1
  exact ⟨b, o, rfl, hb, c' 0 (by omega), c' 1 (by omega), c' 2 (by omega), c' 3 (by omega), c' 4 (by omega)⟩
theorem flat_one (zs : List Fv) : ∀ u ∈ zs.flatMap Fv.cs, u.oneCell' = true := by
  intro u hu
  obtain ⟨x, _, hx⟩ := List.mem_flatMap.1 hu
  exact Fv.one x u hx
set_option maxHeartbeats 2000000 in
set_option maxRecDepth 100000 in
theorem sclone_any (A : Option Addr) (n c : Nat) (zs : List Fv) (w : World) (hr : Rs w (· < w.heap.size) A (zs.flatMap Fv.cs)) (hl : zs.length = n) (hnil : A = none → c = 0) (hn : n ≤ 1000000) :
    Calls Try.prog 24 #[.slice A n c] w fun e w' => ∃ v, e = .returned v ∧ w'.ownsRow w.heap.size 27 5 v n (zs.flatMap Fv.cs) ∧ Below w.heap.size w w' := by
  obtain ⟨i0, hi, hz0, hz1, hz2⟩ := info_parts inf_value
  have HR := Lib.hid hr
  have HL := Lib.hid hl
  cases A with
  | none =>
    obtain rfl := hnil rfl
    have h0 := rs_none hr
    have hz : zs.length = 0 := by have := flat_len zs; rw [h0] at this; simp at this; omega
    obtain rfl : n = 0 := by omega
    obtain rfl : zs = [] := List.eq_nil_of_length_eq_zero hz
    clear hr
    have hq : ∀ W, (binOp .eql 24 (.slice none 0 0) (.slice none 0 0)).run Try.prog W = .ok (.bool true) W := fun W => Lib.run_eql_slice_nil W _ _ none 0 0 0 0 Try.underlying24
    go_enter Try.func24, Try.ntmps24
    go_wp2_with fail
    go_ret
    exact ⟨_, rfl, World.ownsRow_nil _ _ _ _, Below.refl _ _⟩
  | some ad =>
    clear hr hnil
    have HO : Hid ((w.alloc (.cells #[] 27)).ownsRow w.heap.size 27 5 (.slice (some ⟨w.heap.size, 0, none⟩) 0 0) 0 []) :=
      Lib.hid ⟨rfl, .inr ⟨w.heap.size, 0, #[], rfl, Nat.le_refl _, Box.laid w _ _, Nat.le_refl _, Nat.zero_le _, rfl, rfl⟩⟩
    have HB : Hid (Below w.heap.size w (w.alloc (.cells #[] 27))) := Lib.hid ((Go.RowKit.Below.refl _ w).alloc (Nat.le_refl _) _)
    have hq : ∀ W, (binOp .eql 24 (.slice (some ad) n c) (.slice none 0 0)).run Try.prog W = .ok (.bool false) W := fun W => Lib.run_eql_slice_nil W _ _ (some ad) n c 0 0 Try.underlying24
    have HN := Lib.hid (show (zs.flatMap Fv.cs).length = n * 5 by rw [flat_len, hl])
    go_enter Try.func24, Try.ntmps24
    go_wp2_with (at_builtin; refine wpList_append_rs _ rfl (.tmp 5) (.tmp 6) 24 rfl w.heap.size 27 i0 zeroVal 5 80 Try.underlying24 hi hz0 hz1 hz2 rfl (by omega) _ 0 [] rfl HO.out (· < w.heap.size) (some ad) n c (zs.flatMap Fv.cs) rfl HN.out (HR.out.move fun b hb => ⟨hb, HB.out.block b hb⟩) (fun h => by cases h) (flat_one zs) (by unfold maxLen; omega) (by omega) HB.out.size ?_; intro v2 w2 hown2 hgrow2; have hb2 := HB.out.grown hgrow2 HB.out.size (own_ge' HO.out))
    go_ret
    rw [Nat.zero_add, List.nil_append] at hown2
    exact ⟨v2, rfl, hown2, hb2⟩
/- Sb -/
theorem liesL_of {w : World} {S : Nat → Prop} : ∀ (l : List (V × Fv)), (∀ p ∈ l, Lies w S p.1 p.2.cs) → LiesL w S (l.map Prod.fst) ((l.map Prod.snd).flatMap Fv.cs)
  | [], _ => by rw [List.map_nil, LiesL]; rfl
  | p :: r, h => by
    rw [List.map_cons, LiesL]
    exact ⟨p.2.cs, _, rfl, h p (by simp), liesL_of r fun q hq => h q (by simp [hq])⟩
/- Sa -/
def zl : Nat → List Value
  | 0 => []
  | n + 1 => [.int .i64 0, .int .i64 0, .string ⟨#[]⟩, .slice none 0 0, .slice none 0 0] ++ zl n
theorem zl_len : ∀ n, (zl n).length = n * 5
  | 0 => rfl
  | n + 1 => by rw [zl, List.length_append, zl_len n]; simp; omega
theorem zl_get : ∀ (n j : Nat), j < n * 5 → (zl n)[j]? = ([Value.int .i64 0, .int .i64 0, .string ⟨#[]⟩, .slice none 0 0, .slice none 0 0] : List Value)[j % 5]?
  | 0, j, h => by omega
  | n + 1, j, h => by
    rw [zl]
    by_cases hj : j < 5
    · rw [List.getElem?_append_left (by simpa using hj), Nat.mod_eq_of_lt hj]
    · rw [List.getElem?_append_right (by simp; omega), zl_get n _ (by simp; omega)]
      congr 1
      simp
      omega
set_option maxRecDepth 100000 in
theorem made_nulls (n : Nat) (hn : n ≤ 1000000) : ∀ W, (Instr.makeSlice 24 (.int .i64 (n : Int)) (.int .i64 (n : Int))).run Try.prog W = .ok (.slice (some ⟨W.heap.size, 0, none⟩) n n) (W.alloc (.cells (zl n).toArray 27)) := by
  obtain ⟨i, hi, hz, hs, hb⟩ := info_parts inf_value
  intro W
  have := run_make W 24 27 i zeroVal Try.underlying24 hi hz .i64 .i64 n n (by omega) (by omega) (by rw [hb]; omega) (by omega)
  rw [hs] at this
  have hC : madeCells zeroVal.cells (n * 5) = (zl n).toArray := by
    refine Array.ext (by simp [madeCells, zl_len]) fun j h1 h2 => ?_
    have hj : j < n * 5 := by simpa [madeCells] using h1
    have hm : j % 5 < 5 := Nat.mod_lt _ (by omega)
    have hz2 := zl_get n j hj
    have : (madeCells zeroVal.cells (n * 5))[j] = ([Value.int .i64 0, .int .i64 0, .string ⟨#[]⟩, .slice none 0 0, .slice none 0 0] : List Value)[j % 5] := by
      simp only [madeCells, zeroVal, Value.cells]
      simp
      rw [List.getElem?_eq_getElem hm, Option.getD_some]
    rw [this]
    rw [List.getElem?_eq_getElem (by rw [zl_len]; exact hj), List.getElem?_eq_getElem hm] at hz2
    injection hz2 with hz2
    rw [← hz2]
    simp
  simp only [Int.toNat_natCast] at this
  rw [hC] at this
  exact this
/-- The cells of a string as a value. -/
def strFv (s : ByteArray) : Fv := ⟨4, 0, s, none, 0, 0, none, 0, 0⟩
theorem zl_flat : ∀ n, zl n = (List.replicate n fvZero).flatMap Fv.cs
  | 0 => rfl
  | n + 1 => by
    rw [List.replicate_succ, List.flatMap_cons, ← zl_flat n]
    rfl
/- Ar1 -/
/-- A result stored into its block. -/
theorem ret_put {w W : World} {g : Nat} {v : V} {err : Int} {r0 r1 r2 r3 r4 : Value} (hB : Below w.heap.size w W) (hg : w.heap.size ≤ g) (hgW : g < W.heap.size) (hl : Lies W (fun b => w.heap.size ≤ b ∧ b < W.heap.size ∧ b ≠ g) v [r0, r1, r2, r3, r4]) :
    RetPost v err w (.returned (.tuple #[.agg #[r0, r1, r2, r3, r4], .int .i64 err])) (((((W.setCell ⟨g, 0, none⟩ r0).setCell ⟨g, 1, none⟩ r1).setCell ⟨g, 2, none⟩ r2).setCell ⟨g, 3, none⟩ r3).setCell ⟨g, 4, none⟩ r4) := by
  refine ret_of (ds := [r0, r1, r2, r3, r4]) (((((hB.setCell (by exact hg) _).setCell (by exact hg) _).setCell (by exact hg) _).setCell (by exact hg) _).setCell (by exact hg) _) ?_
  refine hl.move fun b hb => ⟨⟨hb.1, by simp [World.setCell]; omega⟩, ?_⟩
  have hne := hb.2.2
  rw [Below.heap_setCell _ _ _ _ (by simpa using hne), Below.heap_setCell _ _ _ _ (by simpa using hne), Below.heap_setCell _ _ _ _ (by simpa using hne), Below.heap_setCell _ _ _ _ (by simpa using hne), Below.heap_setCell _ _ _ _ (by simpa using hne)]
theorem lies_numv (w : World) (S : Nat → Prop) (n : Int) : Lies w S (numV n) [.int .i64 3, .int .i64 n, .string ⟨#[]⟩, .slice none 0 0, .slice none 0 0] := by
  unfold numV
  rw [Lies]
  exact ⟨⟨Nat.zero_le _, by simp, Nat.zero_le _, Nat.zero_le _⟩, none, 0, none, 0, [], rfl, fun _ => rfl, fun _ => rfl, ⟨Nat.le_refl _, Nat.zero_le _⟩, ⟨Nat.le_refl _, Nat.zero_le _⟩, Rs.nil _ _ _, Rs.nil _ _ _, by rw [LiesL]⟩
theorem liesL_one {w : World} {S : Nat → Prop} : ∀ {es : List V} {xs : List Value}, LiesL w S es xs → ∀ u ∈ xs, u.oneCell' = true
  | [], xs, h, u, hu => by rw [LiesL] at h; subst h; cases hu
  | e :: es, xs, h, u, hu => by
    rw [LiesL] at h
    obtain ⟨c, r, rfl, hc, hr⟩ := h
    rcases List.mem_append.1 hu with hu | hu
    · obtain ⟨k, n, s, ks, fs⟩ := e
      rw [Lies] at hc
      obtain ⟨_, A, a, B, b, ys, rfl, _⟩ := hc
      simp only [List.mem_cons, List.not_mem_nil, or_false] at hu
      rcases hu with rfl | rfl | rfl | rfl | rfl <;> rfl
    · exact liesL_one hr u hu
end Go.Proofs.Ytnokmlclephjgaa

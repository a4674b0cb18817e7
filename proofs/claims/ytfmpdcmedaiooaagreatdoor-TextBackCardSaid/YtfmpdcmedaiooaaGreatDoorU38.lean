/- How long a canonical text is: plain. jsonwrite's text, Text, Size and Quote. slices.Values at values: the iterator's contract. slices.Values, AppendSeq and Collect at values. slices.SortFunc at values: the contract. The closure of arith.without, and slices.IndexFunc over it. slices.DeleteFunc at values, over the closure of arith.without. The reference's Bool, Num, Text, Fit, Str, all. append(v, x...), v a row of the call's own, x any slice that reads as a list: nil, empty or not; elements of any size; at a plain list and at a step of a region that draws. Slices of slices. Nothing of the program is named here. The reference's List and Arr. -/
import Derived.Test.YtfmpdcmedaiooaaGreatDoorU15
import Derived.Test.YtfmpdcmedaiooaaGreatDoorU36
import Derived.Test.YtfmpdcmedaiooaaGreatDoorU12
import Derived.Test.YtfmpdcmedaiooaaGreatDoorU37
import Derived.RangeFuncNested
import Derived.RangeFuncBound
import Derived.RangeFuncCalls
import Derived.RangeFuncLeaves
import Derived.RangeFuncBox
import Derived.Shelf.Abstract
import Derived.Shelf.RegionOpen
import Derived.WalkKit
import Derived.OwnWalkIn
import Derived.TacticsInMore
import Derived.LoopNIn
import Derived.LoopIn
import Derived.Lib.Hide
import Derived.Test.YtfmpdcmedaiooaaGreatDoorRows
import Derived.Test.YtfmpdcmedaiooaaGreatDoorU01
import Derived.Test.YtfmpdcmedaiooaaGreatDoorU09
import Derived.Test.YtfmpdcmedaiooaaGreatDoorU08
import Derived.RangeFuncFrom
import Derived.OneCell
import Derived.Shelf.SlSortCmp.WholeK
import Derived.Ground.SlsfProg
import Derived.Test.YtfmpdcmedaiooaaGreatDoorU11
import Derived.Sort.Grow
import Derived.Shelf.AbstractIn
import Derived.Deep.LoopGhost
import Derived.Deep.RegionHeld3
import Derived.Deep.QuietTactic
import Derived.Test.YtfmpdcmedaiooaaGreatDoorU28
import Derived.Test.YtfmpdcmedaiooaaGreatDoorU10
import Derived.Deep.DeepCutAuto
import Derived.Deep.Light
import Derived.Laws.AppendOwnNone
import Derived.Laws.OwnMore
import Derived.RegionTactic
set_option linter.unusedVariables false
set_option linter.unusedSimpArgs false
namespace Go.Proofs.YtfmpdcmedaiooaaGreatDoor
theorem flat_lenW (l : List (List UInt8)) : (l.flatMap (44 :: ·)).length = (l.map List.length).sum + l.length := by
  induction l with
  | nil => rfl
  | cons x r ih => simp only [List.flatMap_cons, List.length_append, List.length_cons, List.map_cons, List.sum_cons, ih]; omega
theorem commas_len (l : List (List UInt8)) : (commas l).length ≤ (l.map List.length).sum + l.length := by
  cases l with
  | nil => exact Nat.le_refl _
  | cons x r => rw [commas, List.length_append, flat_lenW]; simp; omega
theorem wrs_len {es : List V} (h : ∀ e ∈ es, (wr e).length + 4 ≤ 25 * e.sz + 6 * vbyt e) : ((es.map wr).map List.length).sum + 4 * es.length ≤ 25 * V.szL es + 6 * vbytL es := by
  induction es with
  | nil => simp [V.szL, vbytL]
  | cons e es ih =>
    have h1 := h e (by simp)
    have h2 := ih fun x hx => h x (by simp [hx])
    rw [V.szL, vbytL]
    simp only [List.map_cons, List.sum_cons, List.length_cons]
    omega
theorem mems_sum : ∀ (ks : List ByteArray) (es : List V), ks.length = es.length → ((mems ks es).map List.length).sum ≤ ((es.map wr).map List.length).sum + 3 * es.length + 6 * kb ks
  | [], [], _ => Nat.zero_le _
  | [], e :: es, h => by simp at h
  | k :: ks, [], h => by simp at h
  | k :: ks, e :: es, h => by
    have ih := mems_sum ks es (by simpa using h)
    have h1 := (qt_len k.data.toList).2
    rw [show k.data.toList.length = k.size from by simp] at h1
    have e1 : mems (k :: ks) (e :: es) = mem k.data.toList (wr e) :: mems ks es := by simp [mems_map]
    rw [e1, kb]
    simp only [List.map_cons, List.sum_cons, List.length_cons, mem, List.length_append]
    omega
theorem wr_len : ∀ v : V, good v = true → rng v → (wr v).length + 4 ≤ 25 * v.sz + 6 * vbyt v := by
  refine V.ind fun k n s ks es ih hg hr => ?_
  obtain ⟨hf, hL⟩ := good_parts hg
  rw [rng, rngL_iff] at hr
  have h4 := wrs_len fun e he => ih e he (goodL_memW hL he) (hr.2 e he)
  rw [V.sz, vbyt]
  rcases fits_kind hf with ⟨hk, -, -, -, -⟩ | ⟨rfl, -, -, -⟩ | ⟨rfl, -, -, -⟩ | ⟨rfl, -, -, h3⟩ | ⟨rfl, -, -, h3⟩
  · rcases hk with rfl | rfl | rfl
    · rw [wr_null (by decide) (by decide) (by decide) (by decide) (by decide) (by decide)]; simp; omega
    · rw [wr_false]; simp; omega
    · rw [wr_true]; simp; omega
  · rw [wr_num]
    have := (numL_len hr.1).2
    omega
  · rw [wr_str]
    have h1 := (qt_len s.data.toList).2
    rw [show s.data.toList.length = s.size from by simp] at h1
    omega
  · rw [wr_arr, wrM_eq]
    have h1 := commas_len (es.map wr)
    simp only [List.length_cons, List.length_append, List.length_map, List.length_nil] at h1 ⊢
    omega
  · rw [wr_obj]
    have h1 := commas_len (mems ks es)
    have h2 := mems_sum ks es h3
    rw [mems_len h3] at h1
    simp only [List.length_cons, List.length_append, List.length_nil]
    omega
/-- The text of a value; none of one that is not valid. -/
def txt (v : V) : List UInt8 := if valid v then wr v else []
end Go.Proofs.YtfmpdcmedaiooaaGreatDoor
namespace Go.Proofs.YtfmpdcmedaiooaaGreatDoor
open Go.RowKit
set_option maxHeartbeats 4000000 in
set_option maxRecDepth 100000 in
theorem text_any (v : V) (cs : List Value) (w : World) (h : Lies w (· < w.heap.size) v cs) (hr : rng v) (ht : TabS w) :
    Calls Tryz.prog 32 #[.agg cs.toArray] w (AppC w.heap.size w (txt v)) := by
  have HV := Lib.hid (fun W (hW : Below w.heap.size w W) => valid_any v cs W (below_lies hW h))
  have HA : Hid (valid v = true → ∀ W, Below w.heap.size w W → Calls Tryz.prog 45 #[.slice none 0 0, .agg cs.toArray] W (AppC w.heap.size W (wr v))) := Lib.hid fun hv W hW => by
    have hok := (valid_iff v).1 hv
    have hl := wr_len v hok.1 hr
    have h1 := val_app v hok.1 hr w.heap.size 0 0 none [] W cs (World.ownsRow_nil _ _ _ _) hW.size (h.below hW) (by have := hok.2.2.1; have := hok.2.2.2; omega) (ht.below.on hW)
    simpa using h1
  have HTX : Hid (txt v = if valid v then wr v else []) := Lib.hid rfl
  obtain ⟨k, n, s, ks, es⟩ := v
  obtain ⟨A, a, B, b, xs, rfl, _⟩ := lies_open h
  clear h ht hr
  show Calls _ _ #[.agg #[.int .i64 k, .int .i64 n, .string s, .slice A ks.length a, .slice B es.length b]] w _
  generalize hq : V.mk k n s ks es = v at HV HA HTX ⊢
  clear hq
  rw [HTX.out]
  generalize wr v = u at HA HTX ⊢
  generalize valid v = x at HV HA HTX ⊢
  cases x with
  | false =>
    rw [if_neg (by decide)]
    go_enter Tryz.func32, Tryz.ntmps32
    go_wp2_with (go_at_call 5; refine (HV.out _ (below1 _ _)).mono ?_; rintro e w1 ⟨rfl, hb1⟩)
    go_ret
    exact ⟨none, 0, 0, rfl, World.ownsRow_nil _ _ _ _, chain (below1 _ _) hb1⟩
  | true =>
    rw [if_pos rfl]
    have HA2 := Lib.hid (HA.out rfl)
    clear HA
    go_enter Tryz.func32, Tryz.ntmps32
    go_wp2_with (first
      | (go_at_call 5; refine (HV.out _ (below1 _ _)).mono ?_; rintro e w1 ⟨rfl, hb1⟩; have hB1 := Lib.hid (chain (below1 w _) hb1); have hbx := (Box.laid w 25 #[.int .i64 k, .int .i64 n, .string s, .slice A ks.length a, .slice B es.length b]).below hb1 (by simp); obtain ⟨t0, t1, t2, t3, t4⟩ := box5 hbx; clear hbx hb1)
      | (go_at_call 45; refine (HA2.out _ hB1.out).mono ?_; rintro e w2 ⟨A2, n2, c2, rfl, hown2, hbel2⟩))
    go_ret
    exact ⟨A2, n2, c2, rfl, hown2, hB1.out.trans hbel2⟩
/-- A value's cells as arguments. -/
theorem arg_five {v : V} {cs : List Value} {w : World} (h : Lies w (· < w.heap.size) v cs) : ∃ a0 a1 a2 a3 a4, cs = [a0, a1, a2, a3, a4] := by
  have h5 := h.five
  match cs, h5 with
  | [a0, a1, a2, a3, a4], _ => exact ⟨_, _, _, _, _, rfl⟩
set_option maxHeartbeats 1000000 in
theorem wText_any (v : V) (cs : List Value) (w : World) (h : Lies w (· < w.heap.size) v cs) (hr : rng v) (ht : TabS w) :
    Calls Tryz.prog 18 #[.agg cs.toArray] w fun e w' => e = .returned (.string ⟨(txt v).toArray⟩) ∧ Below w.heap.size w w' := by
  have HX := Lib.hid (fun W (hW : Below w.heap.size w W) => text_any v cs W (below_lies hW h) hr (ht.next hW))
  obtain ⟨a0, a1, a2, a3, a4, rfl⟩ := arg_five h
  clear h ht hr
  show Calls _ _ #[.agg #[a0, a1, a2, a3, a4]] w _
  go_enter Tryz.func18, Tryz.ntmps18
  go_wp2_with (go_at_call 32; refine (HX.out _ (below1 _ _)).mono ?_; rintro e w1 ⟨A, n, c, rfl, hown, hb1⟩; have hcv := conv_own hown)
  go_ret
  exact ⟨rfl, chain (below1 _ _) hb1⟩
end Go.Proofs.YtfmpdcmedaiooaaGreatDoor
namespace Go.Proofs.YtfmpdcmedaiooaaGreatDoor
open Go.RowKit Go.Shelf
attribute [local go_sem] Oper.semAt_some
/-- Five cells that can hold a value. -/
structure Fv where
  k : Int
  n : Int
  s : ByteArray
  A : Option Addr
  la : Nat
  a : Nat
  C : Option Addr
  lc : Nat
  c : Nat
def Fv.cs (x : Fv) : List Value := [.int .i64 x.k, .int .i64 x.n, .string x.s, .slice x.A x.la x.a, .slice x.C x.lc x.c]
instance : Inhabited Fv := ⟨⟨0, 0, ⟨#[]⟩, none, 0, 0, none, 0, 0⟩⟩
theorem Fv.len (x : Fv) : x.cs.length = 5 := rfl
theorem Fv.one (x : Fv) : ∀ u ∈ x.cs, u.oneCell' = true := by
  intro u hu
  simp only [Fv.cs, List.mem_cons, List.not_mem_nil, or_false] at hu
  rcases hu with rfl | rfl | rfl | rfl | rfl <;> rfl
/-- The five cells from o on in block b hold x. -/
def FiveAt (W : World) (b o : Nat) (x : Fv) : Prop :=
  W.cell? ⟨b, o, none⟩ = some (.int .i64 x.k) ∧ W.cell? ⟨b, o + 1, none⟩ = some (.int .i64 x.n) ∧ W.cell? ⟨b, o + 2, none⟩ = some (.string x.s) ∧ W.cell? ⟨b, o + 3, none⟩ = some (.slice x.A x.la x.a) ∧ W.cell? ⟨b, o + 4, none⟩ = some (.slice x.C x.lc x.c)
theorem FiveAt.below {W W' : World} {b o B : Nat} {x : Fv} (h : FiveAt W b o x) (hb : Below B W W') (hlt : b < B) : FiveAt W' b o x :=
  ⟨(hb.cell (p := ⟨b, o, none⟩) hlt).trans h.1, (hb.cell (p := ⟨b, o + 1, none⟩) hlt).trans h.2.1, (hb.cell (p := ⟨b, o + 2, none⟩) hlt).trans h.2.2.1, (hb.cell (p := ⟨b, o + 3, none⟩) hlt).trans h.2.2.2.1, (hb.cell (p := ⟨b, o + 4, none⟩) hlt).trans h.2.2.2.2⟩
end Go.Proofs.YtfmpdcmedaiooaaGreatDoor
namespace Go.Proofs.YtfmpdcmedaiooaaGreatDoor
open Go.RowKit Go.Shelf
attribute [local go_sem] Oper.semAt_some
def fvZero : Fv := ⟨0, 0, ⟨#[]⟩, none, 0, 0, none, 0, 0⟩
/-- The slice value reads as the five-cell rows zs, in blocks below n₀. -/
def FvRow (n₀ : Nat) (W : World) (A : Option Addr) (zs : List Fv) : Prop := ∀ j x, zs[j]? = some x → ∃ b o, A = some ⟨b, o, none⟩ ∧ b < n₀ ∧ FiveAt W b (o + j * 5) x
theorem FvRow.below {n₀ B : Nat} {W W' : World} {A : Option Addr} {zs : List Fv} (h : FvRow n₀ W A zs) (hb : Below B W W') (hB : n₀ ≤ B) : FvRow n₀ W' A zs := fun j x hx =>
  let ⟨b, o, e, hlt, hf⟩ := h j x hx
  ⟨b, o, e, hlt, hf.below hb (by omega)⟩
/-- One cell of a row of the call's own turned. -/
theorem own_set {w : World} {base g i n size cap : Nat} {e : TypeId} {xs : List Value} (h : w.ownsRow base e size (.slice (some ⟨g, 0, none⟩) n cap) n xs) (hi : i < n * size) (u : Value) :
    (w.setCell ⟨g, i, none⟩ u).ownsRow base e size (.slice (some ⟨g, 0, none⟩) n cap) n (xs.set i u) := by
  refine ⟨by rw [List.length_set]; exact h.1, ?_⟩
  rcases h.2 with ⟨h0, _⟩ | ⟨g', cap', cur, hv, hbg, hg, hnc, hcm, hcs, ht⟩
  · cases h0
  · cases hv
    refine .inr ⟨g, cap, cur.setIfInBounds i u, rfl, hbg, ?_, hnc, hcm, by rw [Array.size_setIfInBounds]; exact hcs, ?_⟩
    · have := (show Box w g e cur from hg).put i u
      exact this
    · rw [Array.toList_setIfInBounds, List.take_set, ht]
theorem flat_len (xs : List Fv) : (xs.flatMap Fv.cs).length = xs.length * 5 := by
  induction xs with
  | nil => rfl
  | cons x r ih => rw [List.flatMap_cons, List.length_append, ih, Fv.len, List.length_cons]; omega
end Go.Proofs.YtfmpdcmedaiooaaGreatDoor
namespace Go.Proofs.YtfmpdcmedaiooaaGreatDoor
open Go.RowKit Go.Shelf Go.Sort
theorem five_get (x : Fv) (c : Nat) (hc : c < 5) : x.cs[c]? = some (x.cs[c]!) := by
  rw [getElem!_pos x.cs c (by rw [Fv.len]; exact hc)]
  exact List.getElem?_eq_getElem _
theorem flat_get : ∀ (xs : List Fv) (t : Nat), t < xs.length * 5 → (xs.flatMap Fv.cs)[t]? = some ((xs[t / 5]!).cs[t % 5]!)
  | [], t, h => by simp at h
  | x :: r, t, h => by
    rw [List.flatMap_cons]
    rcases Nat.lt_or_ge t 5 with h5 | h5
    · rw [List.getElem?_append_left (by rw [Fv.len]; exact h5), Nat.div_eq_of_lt h5, Nat.mod_eq_of_lt h5]
      exact five_get x t h5
    · obtain ⟨u, rfl⟩ : ∃ u, t = u + 5 := ⟨t - 5, by omega⟩
      rw [List.getElem?_append_right (by rw [Fv.len]; omega), Fv.len, Nat.add_sub_cancel, flat_get r u (by simp at h; omega), Nat.add_mod_right, Nat.add_div_right _ (by omega)]
      simp
end Go.Proofs.YtfmpdcmedaiooaaGreatDoor
namespace Go.Proofs.YtfmpdcmedaiooaaGreatDoor
open Go.RowKit Go.Shelf Go.Sort
theorem FvRow.mono {n₀ n₁ : Nat} {W : World} {A : Option Addr} {zs : List Fv} (h : FvRow n₀ W A zs) (hB : n₀ ≤ n₁) : FvRow n₁ W A zs := fun j x hx => by
  obtain ⟨b, o, e, hb, hf⟩ := h j x hx
  exact ⟨b, o, e, Nat.lt_of_lt_of_le hb hB, hf⟩
end Go.Proofs.YtfmpdcmedaiooaaGreatDoor
namespace Go.Proofs.YtfmpdcmedaiooaaGreatDoor
open Go.RowKit Go.Shelf Go.Sort
theorem flat_set (x : Fv) : ∀ (ys : List Fv) (i : Nat), i < ys.length → ((((((ys.flatMap Fv.cs).set (i * 5) (.int .i64 x.k)).set (i * 5 + 1) (.int .i64 x.n)).set (i * 5 + 2) (.string x.s)).set (i * 5 + 3) (.slice x.A x.la x.a)).set (i * 5 + 4) (.slice x.C x.lc x.c)) = (ys.set i x).flatMap Fv.cs
  | [], i, h => by simp at h
  | y :: r, 0, _ => by simp [Fv.cs]
  | y :: r, i + 1, h => by
    have ih := flat_set x r i (by simpa using h)
    rw [List.set_cons_succ, List.flatMap_cons, List.flatMap_cons, ← ih]
    have e : (i + 1) * 5 = i * 5 + 1 + 1 + 1 + 1 + 1 := by omega
    rw [e]
    simp only [Fv.cs, List.cons_append, List.nil_append, List.set_cons_succ, Nat.add_right_comm _ _ 1]
theorem own_belowV {w w' : World} {base size n : Nat} {e : TypeId} {v : Value} {xs : List Value} (h : w.ownsRow base e size v n xs) (hb : Below w.heap.size w w') : w'.ownsRow base e size v n xs := by
  refine ⟨h.1, ?_⟩
  rcases h.2 with h1 | ⟨g, cap, cur, rfl, h1, h2, h3⟩
  · exact .inl h1
  · exact .inr ⟨g, cap, cur, rfl, h1, (hb.block g (h.lt g rfl).2).trans h2, h3⟩
namespace DelSt
variable {base g cap : Nat} {gone l : List (V × Fv)} {w0 w w' : World} {i j : Nat} {ys : List Fv}
end DelSt
end Go.Proofs.YtfmpdcmedaiooaaGreatDoor
namespace Go.Proofs.YtfmpdcmedaiooaaGreatDoor
open Go.RowKit
end Go.Proofs.YtfmpdcmedaiooaaGreatDoor
namespace Go.Proofs.YtfmpdcmedaiooaaGreatDoor
open Go.RowKit
/-- A beginning of a slice that reads as a list. -/
theorem Rs.take {w : World} {S : Nat → Prop} {A : Option Addr} {xs : List Value} (h : Rs w S A xs) (m : Nat) : Rs w S A (xs.take m) := by
  intro j u hj
  rw [List.getElem?_take] at hj
  split at hj
  · exact h j u hj
  · cases hj
/-- A rest of it: the address that the model gives. -/
def dropA (A : Option Addr) (c l s : Nat) : Option Addr := if c = l then A else A.map (·.add (l * s))
theorem Rs.drop {w : World} {S : Nat → Prop} {A : Option Addr} {xs : List Value} (h : Rs w S A xs) (c l s n : Nat) (hn : xs.length = n * s) (hnc : n ≤ c) (hl : l ≤ n) : Rs w S (dropA A c l s) (xs.drop (l * s)) := by
  intro j u hj
  rw [List.getElem?_drop] at hj
  obtain ⟨b, o, e, hb, hc⟩ := h _ u hj
  have hlt : l * s + j < n * s := by
    rw [← hn]
    exact (List.getElem?_eq_some_iff.1 hj).1
  have hcl : ¬ c = l := by
    intro e2
    have : n ≤ l := by omega
    have := Nat.mul_le_mul_right s this
    omega
  refine ⟨b, o + l * s, ?_, hb, by rw [Nat.add_assoc]; exact hc⟩
  unfold dropA
  rw [if_neg hcl, e]
  simp only [Option.map_some]
  congr 1
  unfold Addr.add
  by_cases h0 : l * s = 0 <;> simp [h0]
theorem LiesL.take {w : World} {S : Nat → Prop} : ∀ {es : List V} {xs : List Value}, LiesL w S es xs → ∀ m, LiesL w S (es.take m) (xs.take (m * 5))
  | [], xs, h, m => by rw [LiesL] at h; subst h; simp; rw [LiesL]
  | e :: es, xs, h, 0 => by simp; rw [LiesL]
  | e :: es, xs, h, m + 1 => by
    rw [LiesL] at h
    obtain ⟨c, r, rfl, hc, hr⟩ := h
    have h5 := hc.five
    rw [List.take_succ_cons, LiesL]
    refine ⟨c, r.take (m * 5), ?_, hc, hr.take m⟩
    rw [List.take_append, h5, List.take_of_length_le (by omega), show (m + 1) * 5 - 5 = m * 5 from by omega]
theorem LiesL.drop {w : World} {S : Nat → Prop} : ∀ {es : List V} {xs : List Value}, LiesL w S es xs → ∀ m, LiesL w S (es.drop m) (xs.drop (m * 5))
  | [], xs, h, m => by rw [LiesL] at h; subst h; simp; rw [LiesL]
  | e :: es, xs, h, 0 => by simpa using h
  | e :: es, xs, h, m + 1 => by
    rw [LiesL] at h
    obtain ⟨c, r, rfl, hc, hr⟩ := h
    have h5 := hc.five
    rw [List.drop_succ_cons, show (m + 1) * 5 = 5 + m * 5 from by omega, ← List.drop_drop]
    have : (c ++ r).drop 5 = r := by rw [← h5]; simp
    rw [this]
    exact hr.drop m
end Go.Proofs.YtfmpdcmedaiooaaGreatDoor
namespace Go.Proofs.YtfmpdcmedaiooaaGreatDoor
open Go.RowKit
end Go.Proofs.YtfmpdcmedaiooaaGreatDoor

/- slices.Clone at values, and arith.without. arith.without. Members of objects, and a stable sort of them, plain. Nothing of the program is named here. The program's stable sort of members. -/
import Derived.Test.YtgdnkankleoaoaaGreatDoorA13
import Derived.Test.YtgdnkankleoaoaaGreatDoorA20
import Derived.Lib.SliceRun
import Derived.Sort.LotA
import Derived.Shelf.SlSortCmp.Insertion
import Derived.Test.YtgdnkankleoaoaaGreatDoorA02
import Derived.Test.YtgdnkankleoaoaaGreatDoorA01
import Derived.Shelf.SlSortCmp.InsertionK
import Derived.Shelf.SlGeneric
import Derived.Ground.SlsfProg
set_option linter.unusedVariables false
set_option linter.unusedSimpArgs false
namespace Go.Proofs.YtgdnkankleoaoaaGreatDoor
open Go.RowKit Go.Shelf Go.Sort
/-- The cells of values, five by five. -/
theorem lies_fv {w : World} {S : Nat → Prop} {v : V} {cs : List Value} (h : Lies w S v cs) : ∃ x : Fv, cs = x.cs := by
  obtain ⟨k, n, s, ks, es⟩ := v
  obtain ⟨A, a, B, b, xs, rfl, _⟩ := lies_open h
  exact ⟨⟨k, n, s, A, ks.length, a, B, es.length, b⟩, rfl⟩
theorem liesL_fv {w : World} {S : Nat → Prop} : ∀ (es : List V) (xs : List Value), LiesL w S es xs → ∃ l : List (V × Fv), l.map Prod.fst = es ∧ xs = (l.map Prod.snd).flatMap Fv.cs ∧ ∀ p ∈ l, Lies w S p.1 p.2.cs
  | [], xs, h => by rw [LiesL] at h; subst h; exact ⟨[], rfl, rfl, fun p hp => by cases hp⟩
  | e :: es, xs, h => by
    rw [LiesL] at h
    obtain ⟨c, r, rfl, hc, hr⟩ := h
    obtain ⟨x, rfl⟩ := lies_fv hc
    obtain ⟨l, h1, rfl, h3⟩ := liesL_fv es r hr
    refine ⟨(e, x) :: l, by rw [List.map_cons, h1], rfl, fun p hp => ?_⟩
    rcases List.mem_cons.1 hp with rfl | hp
    · exact hc
    · exact h3 p hp
theorem rs_row {w : World} {B : Nat} {A : Option Addr} {zs : List Fv} (h : Rs w (· < B) A (zs.flatMap Fv.cs)) : FvRow B w A zs := by
  intro j x hx
  have hjl : j < zs.length := (List.getElem?_eq_some_iff.1 hx).1
  have hyy : zs[j]! = x := by rw [getElem!_def, hx]
  have c : ∀ c, c < 5 → ∃ b o, A = some ⟨b, o, none⟩ ∧ b < B ∧ w.cell? ⟨b, o + (j * 5 + c), none⟩ = some (x.cs[c]!) := fun c hc =>
    h (j * 5 + c) _ (by rw [flat_get _ _ (by omega), show (j * 5 + c) / 5 = j by omega, show (j * 5 + c) % 5 = c by omega, hyy])
  obtain ⟨b, o, rfl, hb, h0⟩ := c 0 (by omega)
  have c' : ∀ k, k < 5 → w.cell? ⟨b, o + j * 5 + k, none⟩ = some (x.cs[k]!) := fun k hk => by
    obtain ⟨b', o', e, _, h1⟩ := c k hk
    injection e with e
    injection e with e1 e2
    subst e1 e2
    rw [Nat.add_assoc]
    exact h1
  exact ⟨b, o, rfl, hb, c' 0 (by omega), c' 1 (by omega), c' 2 (by omega), c' 3 (by omega), c' 4 (by omega)⟩
theorem flat_one (zs : List Fv) : ∀ u ∈ zs.flatMap Fv.cs, u.oneCell' = true := by
  intro u hu
  obtain ⟨x, _, hx⟩ := List.mem_flatMap.1 hu
  exact Fv.one x u hx
set_option maxHeartbeats 2000000 in
set_option maxRecDepth 100000 in
theorem sclone_any (A : Option Addr) (n c : Nat) (zs : List Fv) (w : World) (hr : Rs w (· < w.heap.size) A (zs.flatMap Fv.cs)) (hl : zs.length = n) (hnil : A = none → c = 0) (hn : n ≤ 1000000) :
    Calls Tryz.prog 170 #[.slice A n c] w fun e w' => ∃ v, e = .returned v ∧ w'.ownsRow w.heap.size 25 5 v n (zs.flatMap Fv.cs) ∧ Below w.heap.size w w' := by
  obtain ⟨i0, hi, hz0, hz1, hz2⟩ := info_parts inf_value
  have HR := Lib.hid hr
  have HL := Lib.hid hl
  cases A with
  | none =>
    obtain rfl := hnil rfl
    have h0 := rs_none hr
    have hz : zs.length = 0 := by have := flat_len zs; rw [h0] at this; simp at this; omega
    obtain rfl : n = 0 := by omega
    obtain rfl : zs = [] := List.eq_nil_of_length_eq_zero hz
    clear hr
    have hq : ∀ W, (binOp .eql 23 (.slice none 0 0) (.slice none 0 0)).run Tryz.prog W = .ok (.bool true) W := fun W => Lib.run_eql_slice_nil W _ _ none 0 0 0 0 Tryz.underlying23
    go_enter Tryz.func170, Tryz.ntmps170
    go_wp2_with fail
    go_ret
    exact ⟨_, rfl, World.ownsRow_nil _ _ _ _, Below.refl _ _⟩
  | some ad =>
    clear hr hnil
    have HO : Hid ((w.alloc (.cells #[] 25)).ownsRow w.heap.size 25 5 (.slice (some ⟨w.heap.size, 0, none⟩) 0 0) 0 []) :=
      Lib.hid ⟨rfl, .inr ⟨w.heap.size, 0, #[], rfl, Nat.le_refl _, Box.laid w _ _, Nat.le_refl _, Nat.zero_le _, rfl, rfl⟩⟩
    have HB : Hid (Below w.heap.size w (w.alloc (.cells #[] 25))) := Lib.hid ((Go.RowKit.Below.refl _ w).alloc (Nat.le_refl _) _)
    have hq : ∀ W, (binOp .eql 23 (.slice (some ad) n c) (.slice none 0 0)).run Tryz.prog W = .ok (.bool false) W := fun W => Lib.run_eql_slice_nil W _ _ (some ad) n c 0 0 Tryz.underlying23
    have HN := Lib.hid (show (zs.flatMap Fv.cs).length = n * 5 by rw [flat_len, hl])
    go_enter Tryz.func170, Tryz.ntmps170
    go_wp2_with (at_builtin; refine wpList_append_rs _ rfl (.tmp 5) (.tmp 6) 23 rfl w.heap.size 25 i0 zeroVal 5 80 Tryz.underlying23 hi hz0 hz1 hz2 rfl (by omega) _ 0 [] rfl HO.out (· < w.heap.size) (some ad) n c (zs.flatMap Fv.cs) rfl HN.out (HR.out.move fun b hb => ⟨hb, HB.out.block b hb⟩) (fun h => by cases h) (flat_one zs) (by unfold maxLen; omega) (by omega) HB.out.size ?_; intro v2 w2 hown2 hgrow2; have hb2 := HB.out.grown hgrow2 HB.out.size (own_ge' HO.out))
    go_ret
    rw [Nat.zero_add, List.nil_append] at hown2
    exact ⟨v2, rfl, hown2, hb2⟩
end Go.Proofs.YtgdnkankleoaoaaGreatDoor
namespace Go.Proofs.YtgdnkankleoaoaaGreatDoor
open Go.RowKit Go.Shelf Go.Sort
/-- What a function that makes a row of its own hands back. -/
def RowOf (base : Nat) (l : List (V × Fv)) (w : World) (e : Ending) (w' : World) : Prop :=
  ∃ u, e = .returned u ∧ w'.ownsRow base 25 5 u l.length ((l.map Prod.snd).flatMap Fv.cs) ∧ Below base w w'
theorem delf_nil (B S : Nat) (gone : List (V × Fv)) (w : World) (hB : B ≤ w.heap.size) (hG : GoneAt B S gone [] w) :
    Calls Tryz.prog 241 #[.slice none 0 0, .func (.func 242) #[] #[.pointer (some ⟨S, 0, none⟩)]] w (RowOf B (keptL gone []) w) := by
  have HIX := Lib.hid (idxf_any none 0 S B gone [] w hB (fun j x h => by simp at h) (by simp) hG)
  have HB := Lib.hid hB
  clear hG hB
  go_enter Tryz.func241, Tryz.ntmps241
  go_wp2_with fail
  refine HIX.out.mono ?_
  rintro e w1 ⟨hsays, hb1⟩
  rcases hsays with ⟨k, hk, _⟩ | ⟨hall, rfl⟩
  · simp at hk
  · go_wp2_with fail
    go_ret
    exact ⟨_, rfl, World.ownsRow_nil _ _ _ _, hb1.mono HB.out⟩
theorem delf_both {base S : Nat} {v : Value} {gone l : List (V × Fv)} {w : World} (hown : w.ownsRow base 25 5 v l.length ((l.map Prod.snd).flatMap Fv.cs)) (hlen : l.length ≤ 1000000) (hB : base ≤ w.heap.size) (hG : GoneAt base S gone l w) :
    Calls Tryz.prog 241 #[v, .func (.func 242) #[] #[.pointer (some ⟨S, 0, none⟩)]] w (RowOf base (keptL gone l) w) := by
  rcases hown.2 with ⟨rfl, hz⟩ | ⟨g, cap, cur, rfl, _⟩
  · obtain rfl : l = [] := List.eq_nil_of_length_eq_zero hz
    exact delf_nil base S gone w hB hG
  · refine (delf_any base g cap S gone l w hown hlen hG).mono ?_
    rintro e w' ⟨i, rfl, rfl, h1, h2, _⟩
    exact ⟨_, rfl, h1, h2⟩
theorem own_row {w : World} {base n cap : Nat} {A : Option Addr} {e : TypeId} {ys : List Fv} (h : w.ownsRow base e 5 (.slice A n cap) n (ys.flatMap Fv.cs)) : FvRow w.heap.size w A ys := by
  have h1 := h.1
  rcases h.2 with ⟨h0, rfl⟩ | ⟨g, cap', cur, hv, _⟩
  · have := flat_len ys
    obtain rfl : ys = [] := List.eq_nil_of_length_eq_zero (by omega)
    exact fun j x hx => by simp at hx
  · cases hv
    exact row_own h
theorem ownsRow_baseV {W : World} {base base' : Nat} {e : TypeId} {size n : Nat} {v : Value} {xs : List Value} (h : W.ownsRow base e size v n xs) (hb : base' ≤ base) : W.ownsRow base' e size v n xs := by
  refine ⟨h.1, ?_⟩
  rcases h.2 with hn | ⟨g, cap, cur, hv, hbg, rest⟩
  · exact .inl hn
  · exact .inr ⟨g, cap, cur, hv, Nat.le_trans hb hbg, rest⟩
theorem gone_perm {ps gone : List (V × Fv)} (h : ps.Perm gone) (t : V) : goneB ps t = goneB gone t := by
  unfold goneB
  rw [Bool.eq_iff_iff, List.any_eq_true, List.any_eq_true]
  constructor
  · rintro ⟨p, hp, hh⟩; exact ⟨p, h.mem_iff.1 hp, hh⟩
  · rintro ⟨p, hp, hh⟩; exact ⟨p, h.mem_iff.2 hp, hh⟩
theorem kept_perm {ps gone : List (V × Fv)} (h : ps.Perm gone) (l : List (V × Fv)) : keptL ps l = keptL gone l := by
  unfold keptL
  congr 1
  funext p
  rw [gone_perm h]
set_option maxHeartbeats 2000000 in
set_option maxRecDepth 100000 in
theorem without_any (A G : Option Addr) (c d : Nat) (l gone : List (V × Fv)) (w : World) (hA : Rs w (· < w.heap.size) A ((l.map Prod.snd).flatMap Fv.cs)) (hnil : A = none → c = 0) (hG : FvRow w.heap.size w G (gone.map Prod.snd))
    (hl : ∀ p ∈ l, Lies w (· < w.heap.size) p.1 p.2.cs ∧ valid p.1 = true) (hg : ∀ p ∈ gone, Lies w (· < w.heap.size) p.1 p.2.cs ∧ valid p.1 = true) (hll : l.length ≤ 1000000) (hgl : gone.length ≤ 1000000) :
    Calls Tryz.prog 194 #[.slice A l.length c, .slice G gone.length d] w (RowOf w.heap.size (keptL gone l) w) := by
  have HV := Lib.hid (callsIn_wide (n := 1).1 (values_any Fence.wide 1 trivial rfl G gone.length d w))
  obtain ⟨w1, hw1⟩ : ∃ X, X = w.alloc (.cells #[.slice G gone.length d] 23) := ⟨_, rfl⟩
  have hb1 : Below w.heap.size w w1 := by rw [hw1]; exact (Go.RowKit.Below.refl _ w).alloc (Nat.le_refl _) _
  have hs1 : w.heap.size < w1.heap.size := by rw [hw1]; simp
  have hx1 : Box w1 w.heap.size 23 #[.slice G gone.length d] := by rw [hw1]; exact Box.laid _ _ _
  rw [← hw1] at HV
  clear hw1
  have HS := Lib.hid (sortedFunc_any w.heap.size d G gone w1 hgl hs1 (hx1.cell (i := 0) rfl) ((hG.below hb1 (Nat.le_refl _)).mono (Nat.le_of_lt hs1)) (fun p hp => ⟨(hg p hp).1.move fun b hb => ⟨Nat.lt_trans hb hs1, hb1.block b hb⟩, (hg p hp).2⟩))
  have HB1 := Lib.hid hb1
  have HA := Lib.hid hA
  have HNIL := Lib.hid hnil
  have HL := Lib.hid hl
  have HGG := Lib.hid hg
  clear hA hnil hG hl hg hx1 hb1
  go_enter Tryz.func194, Tryz.ntmps194
  go_wp2_with fail
  refine HV.out.mono ?_
  rintro e x ⟨rfl, rfl⟩
  go_wp2_with fail
  refine HS.out.mono ?_
  rintro e w2 ⟨v, ps, rfl, hperm, hsrt, hown, hvn, hb2⟩
  obtain ⟨G2, d2, rfl⟩ := own_sl hown
  have HLEN := Lib.hid (show ps.length = gone.length from hperm.length_eq)
  obtain ⟨w3, hw3⟩ : ∃ X, X = w2.alloc (.cells #[.slice G2 ps.length d2] 23) := ⟨_, rfl⟩
  have hb3 : Below w2.heap.size w2 w3 := by rw [hw3]; exact (Go.RowKit.Below.refl _ w2).alloc (Nat.le_refl _) _
  have hs3 : w2.heap.size < w3.heap.size := by rw [hw3]; simp
  have hx3 : Box w3 w2.heap.size 23 #[.slice G2 ps.length d2] := by rw [hw3]; exact Box.laid _ _ _
  have hbw2 : Below w.heap.size w w2 := HB1.out.trans (hb2.mono HB1.out.size)
  have hbw3 : Below w.heap.size w w3 := hbw2.trans (hb3.mono hbw2.size)
  have hrow2 : FvRow w3.heap.size w3 G2 (ps.map Prod.snd) := ((own_row hown).below hb3 (Nat.le_refl _)).mono (Nat.le_of_lt hs3)
  have HC := Lib.hid (sclone_any A l.length c (l.map Prod.snd) w3 (HA.out.move fun b hb => ⟨Nat.lt_of_lt_of_le hb hbw3.size, hbw3.block b hb⟩) (by rw [List.length_map]) HNIL.out hll)
  have HR2 := Lib.hid hrow2
  have HBW3 := Lib.hid hbw3
  have HX3 := Lib.hid hx3
  have HP := Lib.hid hperm
  have HSR := Lib.hid hsrt
  clear hown hvn hb2 hb3 hrow2 hbw2 hbw3 hx3 hperm hsrt HS HV HB1
  go_wp2_with fail
  rw [← hw3]
  clear hw3
  refine HC.out.mono ?_
  rintro e w4 ⟨v4, rfl, hown4, hb4⟩
  have hw4 : Below w.heap.size w w4 := HBW3.out.trans (hb4.mono HBW3.out.size)
  have hga : GoneAt w3.heap.size w2.heap.size ps l w4 := gone_at (A := G2) (cap := d2) hb4.size ⟨HR2.out.below hb4 (Nat.le_refl _), fun p hp => (HGG.out p (HP.out.mem_iff.1 hp)).1.move (fun b hb => ⟨Nat.lt_of_lt_of_le hb HBW3.out.size, hw4.block b hb⟩), fun p hp => (HGG.out p (HP.out.mem_iff.1 hp)).2, by rw [HLEN.out]; exact hgl⟩ HSR.out
    ((hb4.cell (p := ⟨w2.heap.size, 0, none⟩) hs3).trans (HX3.out.cell (i := 0) rfl)) hs3 (fun p hp => ⟨(HL.out p hp).1.move fun b hb => ⟨Nat.lt_of_lt_of_le hb HBW3.out.size, hw4.block b hb⟩, (HL.out p hp).2⟩)
  have HD := Lib.hid (delf_both hown4 hll hb4.size hga)
  have HW4 := Lib.hid hw4
  clear hown4 hb4 hw4 hga
  go_wp2_with fail
  refine HD.out.mono ?_
  rintro e w5 ⟨u, rfl, hown5, hb5⟩
  go_wp2_with fail
  go_ret
  rw [kept_perm HP.out] at hown5
  exact ⟨u, rfl, ownsRow_baseV hown5 HBW3.out.size, HW4.out.trans (hb5.mono HBW3.out.size)⟩
end Go.Proofs.YtgdnkankleoaoaaGreatDoor
namespace Go.Proofs.YtgdnkankleoaoaaGreatDoor
open Go.RowKit Go.Sort
section
variable {α : Type} [Inhabited α] {lt : α → α → Bool} {p : α → Bool}
theorem swp_list (d : Array α) (t r : List α) (x y : α) (h : d.toList = t ++ x :: y :: r) : (swp d (t.length + 1) t.length).toList = t ++ y :: x :: r := by
  obtain ⟨l⟩ := d
  simp only at h
  subst h
  have h1 : (t ++ x :: y :: r)[t.length]! = x := by simp
  have h2 : (t ++ x :: y :: r)[t.length + 1]! = y := by simp
  unfold swp
  rw [Array.toList_setIfInBounds, Array.toList_setIfInBounds]
  simp only [List.getElem!_toArray, h1, h2]
  simp [List.set_append]
theorem cut_at (d : Array α) (j : Nat) (h : j + 1 < d.size) : ∃ t r, d.toList = t ++ d[j]! :: d[j + 1]! :: r ∧ t.length = j := by
  obtain ⟨l⟩ := d
  have hl : j + 1 < l.length := h
  refine ⟨l.take j, l.drop (j + 2), ?_, by simp; omega⟩
  conv => lhs; rw [show l = l.take j ++ l.drop j from (List.take_append_drop j l).symm, List.drop_eq_getElem_cons (show j < l.length by omega), List.drop_eq_getElem_cons hl]
  simp [getElem!_def, List.getElem?_eq_getElem (show j < l.length by omega), List.getElem?_eq_getElem hl]
theorem swp_filter (hp : ∀ x y, lt x y = true → ¬ (p x = true ∧ p y = true)) (d : Array α) (j : Nat) (h : j + 1 < d.size) (hl : lt d[j + 1]! d[j]! = true) : (swp d (j + 1) j).toList.filter p = d.toList.filter p := by
  obtain ⟨t, r, e, rfl⟩ := cut_at d j h
  generalize d[t.length]! = x at *
  generalize d[t.length + 1]! = y at *
  rw [swp_list d t r x y e, e]
  have := hp _ _ hl
  rw [List.filter_append, List.filter_append]
  congr 1
  cases hx : p x <;> cases hy : p y <;> simp_all
theorem inner_filter (hp : ∀ x y, lt x y = true → ¬ (p x = true ∧ p y = true)) (a : Nat) : ∀ (j : Nat) (d : Array α), j < d.size → (insInner lt a j d).toList.filter p = d.toList.filter p ∧ (insInner lt a j d).size = d.size
  | 0, d, _ => by unfold insInner; exact ⟨rfl, rfl⟩
  | j + 1, d, h => by
    unfold insInner
    split
    · rename_i hc
      simp only [Bool.and_eq_true, decide_eq_true_eq] at hc
      have ih := inner_filter hp a j (swp d (j + 1) j) (by rw [swp_size]; omega)
      exact ⟨ih.1.trans (swp_filter hp d j h hc.2), ih.2.trans (swp_size ..)⟩
    · exact ⟨rfl, rfl⟩
theorem outer_filter (hp : ∀ x y, lt x y = true → ¬ (p x = true ∧ p y = true)) (a b : Nat) : ∀ (n i : Nat) (d : Array α), b - i = n → b ≤ d.size → (insOuter lt a b i d).toList.filter p = d.toList.filter p
  | 0, i, d, hn, hb => by rw [insOuter, if_neg (by omega)]
  | n + 1, i, d, hn, hb => by
    rw [insOuter, if_pos (by omega)]
    have h1 := inner_filter hp a i d (by omega)
    rw [outer_filter hp a b n (i + 1) _ (by omega) (by rw [h1.2]; exact hb), h1.1]
/-- The insertion sort is stable: what no comparison parts keeps its order. -/
theorem sort_filter (hp : ∀ x y, lt x y = true → ¬ (p x = true ∧ p y = true)) (d : Array α) (a b : Nat) (hb : b ≤ d.size) : (insertionSort lt d a b).toList.filter p = d.toList.filter p := outer_filter hp a b _ _ d rfl hb
end
/-- A member: its key, its value, and where the value's lists lie. -/
structure Mb where
  key : ByteArray
  k : Int
  n : Int
  s : ByteArray
  ks : List ByteArray
  es : List V
  A : Option Addr
  a : Nat
  B : Option Addr
  b : Nat
instance : Inhabited Mb := ⟨⟨⟨#[]⟩, 0, 0, ⟨#[]⟩, [], [], none, 0, none, 0⟩⟩
def Mb.v (m : Mb) : V := .mk m.k m.n m.s m.ks m.es
def Mb.five (m : Mb) : List Value := [.int .i64 m.k, .int .i64 m.n, .string m.s, .slice m.A m.ks.length m.a, .slice m.B m.es.length m.b]
def Mb.six (m : Mb) : List Value := .string m.key :: m.five
theorem six_len (m : Mb) : m.six.length = 6 := rfl
theorem six_one (m : Mb) : ∀ v ∈ m.six, v.oneCell' = true := by
  intro v hv
  simp only [Mb.six, Mb.five, List.mem_cons, List.not_mem_nil, or_false] at hv
  rcases hv with rfl | rfl | rfl | rfl | rfl | rfl <;> rfl
def mcf (x y : Mb) : Int := scmp x.key y.key
theorem ltm (x y : Mb) : Go.Proofs.ltOf mcf x y = decide (scmp x.key y.key < 0) := rfl
theorem mcf_swo : SWO (Go.Proofs.ltOf mcf) := by
  refine ⟨fun x => ?_, fun x y z h k => ?_, fun x y z h k => ?_⟩
  · rw [ltm, scmp_self]; rfl
  · rw [ltm] at h k ⊢
    exact decide_eq_true (scmp_lt (of_decide_eq_true h) (of_decide_eq_true k))
  · rw [ltm] at h k ⊢
    have h := of_decide_eq_false h
    have k := of_decide_eq_false k
    have h1 := scmp_anti x.key y.key
    have h2 := scmp_anti y.key z.key
    have h3 := scmp_anti x.key z.key
    have := scmp_trans (a := z.key) (b := y.key) (c := x.key) (by omega) (by omega)
    exact decide_eq_false (by omega)
/-- The sorted members. -/
def srt (ms : List Mb) : List Mb := (insertionSort (Go.Proofs.ltOf mcf) ms.toArray 0 ms.length).toList
theorem srt_len (ms : List Mb) : (srt ms).length = ms.length := by
  have := (insertionSort_holds (lt := Go.Proofs.ltOf mcf) mcf_swo ms.toArray 0 ms.length (Nat.zero_le _) (by simp)).1.1
  simpa [srt] using this
theorem srt_filter (ms : List Mb) (k : ByteArray) : (srt ms).filter (fun m => decide (m.key = k)) = ms.filter (fun m => decide (m.key = k)) := by
  unfold srt
  refine (sort_filter (lt := Go.Proofs.ltOf mcf) (p := fun m => decide (m.key = k)) ?_ ms.toArray 0 ms.length (by simp)).trans (by simp)
  intro x y h hk
  have h1 := of_decide_eq_true hk.1
  have h2 := of_decide_eq_true hk.2
  rw [ltm, h1, h2, scmp_self] at h
  exact absurd h (by decide)
theorem srt_mem (ms : List Mb) (m : Mb) : m ∈ srt ms ↔ m ∈ ms := by
  have h := srt_filter ms m.key
  constructor
  · intro hm
    have : m ∈ (srt ms).filter (fun x => decide (x.key = m.key)) := by simp [hm]
    rw [h] at this
    exact (List.mem_filter.1 this).1
  · intro hm
    have : m ∈ ms.filter (fun x => decide (x.key = m.key)) := by simp [hm]
    rw [← h] at this
    exact (List.mem_filter.1 this).1
theorem srt_asc (ms : List Mb) {i j : Nat} {x y : Mb} (hij : i < j) (hx : (srt ms)[i]? = some x) (hy : (srt ms)[j]? = some y) : scmp x.key y.key ≤ 0 := by
  have h := (insertionSort_holds (lt := Go.Proofs.ltOf mcf) mcf_swo ms.toArray 0 ms.length (Nat.zero_le _) (by simp)).2
  obtain ⟨hj, -⟩ := List.getElem?_eq_some_iff.1 hy
  rw [srt_len] at hj
  have h := h i j (Nat.zero_le _) hij hj
  unfold srt at hx hy
  rw [Array.getElem?_toList] at hx hy
  rw [getElem!_def, getElem!_def, hx, hy] at h
  simp only [ltm] at h
  have h := of_decide_eq_false h
  have := scmp_anti x.key y.key
  omega
end Go.Proofs.YtgdnkankleoaoaaGreatDoor
namespace Go.Proofs
open Go.Shelf Go.RowKit Go.Lib Go.Sort
def Tryz.insl_ren : Go.Shelf.Ren := ⟨fun | 20 => 363 | n => n, fun | 24 => 190 | 22 => 188 | 3 => 3 | 25 => 192 | 4 => 4 | 0 => 0 | n => n, fun | n => n⟩
theorem Tryz.insl : Go.Proofs.SlLaysF0.n20 Tryz.prog Tryz.insl_ren := {
  mixed := by kernel_rfl
  f20 := ⟨Tryz.f363.name, by decide, Tryz.func363.trans (congrArg some (by kernel_rfl))⟩
  t0 := Tryz.underlying0
  a0 := Tryz.isAgg0
  z0 := Tryz.sizeOf0
  v0 := Tryz.zeroValue0
  t3 := Tryz.underlying3
  a3 := Tryz.isAgg3
  z3 := Tryz.sizeOf3
  v3 := Tryz.zeroValue3
  t4 := Tryz.underlying4
  a4 := Tryz.isAgg4
  z4 := Tryz.sizeOf4
  v4 := Tryz.zeroValue4
  t22 := Tryz.underlying188
  a22 := Tryz.isAgg188
  z22 := Tryz.sizeOf188
  v22 := Tryz.zeroValue188
  t25 := Tryz.underlying192
  a25 := Tryz.isAgg192
  z25 := Tryz.sizeOf192
  v25 := Tryz.zeroValue192 }

end Go.Proofs
namespace Go.Proofs.YtgdnkankleoaoaaGreatDoor
open Go.RowKit Go.Sort
set_option maxHeartbeats 1000000 in
/-- The comparison of two members: two blocks are laid. -/
theorem order_members (x y : Mb) (W : World) : Calls Tryz.prog 275 #[.agg x.six.toArray, .agg y.six.toArray] W fun e w' => e = .returned (.int .i64 (mcf x y)) ∧ ∃ q os', w' = grow (W.drewN q) os' := by
  have hcon := fun W' => cmp_strings x.key y.key W'
  unfold mcf
  generalize scmp x.key y.key = r at hcon ⊢
  obtain ⟨k1, k, n, s, ks, es, A, a, B, b⟩ := x
  obtain ⟨k2, l, o, t, ls, fs, C, c, D, d⟩ := y
  simp only [Mb.six, Mb.five] at *
  go_enter Tryz.func275, Tryz.ntmps275
  go_wp2_with (go_at_call 236; refine (hcon _).mono ?_; rintro e w' ⟨rfl, rfl⟩)
  go_ret
  exact ⟨rfl, 0, _, by rw [alloc_eq_grow, alloc_eq_grow, grow_grow]; rfl⟩
theorem mlays (blk off size : Nat) (w : World) : CmpLays Tryz.prog 275 #[] Mb.six 6 mcf blk off size w := fun _ _ _ _ x y => order_members x y _
/-- The insertion sort of a row of members. -/
theorem ins_any (g cap a b : Nat) (d : Array Mb) (w : World) (hH : HoldsK Mb.six 6 w g 0 d) (hg : g < w.heap.size) (hab : a ≤ b) (hb : b ≤ d.size) (hsz : d.size < 4611686018427387904) :
    Calls Tryz.prog 363 #[.slice (some ⟨g, 0, none⟩) d.size cap, .int .i64 a, .int .i64 b, .func (.func 275) #[] #[]] w fun e w' =>
      e = .returned (.tuple #[]) ∧ ∃ n os, w' = sortWorldK Mb.six 6 w g 0 n (Sort.insertionSort (Go.Proofs.ltOf mcf) d a b) os := by
  have eg : ∀ args w, (callFunc 275 args).run Tryz.prog w = .ok (.enter 275 args) w := enters_of Tryz.func275 (by kernel_rfl) rfl
  exact AnyQ.insertionSortCmpFunc Tryz.insl 6 Tryz.isAgg190 Tryz.sizeOf190 Mb.six six_len six_one mcf 275 #[] g 0 cap a b d w eg (mlays g 0 d.size w) hH hg hab hb hsz
end Go.Proofs.YtgdnkankleoaoaaGreatDoor

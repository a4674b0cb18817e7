/- slices.Index and slices.Contains at ints, table.misfit. table.column at rows of arrays. table.Transpose at a valid array of arrays. -/
import Derived.Test.YtnokmlclephjgaaMem
import Derived.Test.YtnokmlclephjgaaBox
import Derived.Test.YtnokmlclephjgaaMeas5
import Derived.Test.YtnokmlclephjgaaSame
import Derived.Test.YtnokmlclephjgaaCmp2
import Derived.Deep.LoopGhost
import Derived.BigQuiet
import Derived.Test.YtnokmlclephjgaaTC
import Derived.Test.YtnokmlclephjgaaTD
set_option linter.unusedVariables false
set_option linter.unusedSimpArgs false
namespace Go.Proofs.Ytnokmlclephjgaa
open Go.RowKit
set_option maxHeartbeats 2000000 in
set_option maxRecDepth 100000 in
theorem idxInt_any (A : Option Addr) (c : Nat) (ks : List Int) (x : Int) (w : World) (hR : Rd w w.heap.size A (ks.map (Value.int .i64))) (hn : ks.length ≤ 1000000) :
    Calls Try.prog 46 #[.slice A ks.length c, .int .i64 x] w fun e w' => ∃ r : Int, e = .returned (.int .i64 r) ∧ (0 ≤ r ↔ x ∈ ks) ∧ Below w.heap.size w w' := by
  have HR := Lib.hid hR
  obtain ⟨n, hk⟩ : ∃ n, ks.length = n := ⟨_, rfl⟩
  have HK := Lib.hid hk
  rw [hk] at hn ⊢
  have HB0 := Lib.hid (Below.refl w.heap.size w)
  have HA0 : Hid (∀ j : Nat, j < 0 → ks[j]? ≠ some x) := Lib.hid fun j hj => absurd hj (by omega)
  clear hk hR
  go_enter Try.func46, Try.ntmps46
  go_wp2_with fail
  go_loopg [8] n (fun gg s8 wr => ∃ i : Nat, s8 = .int .i64 i ∧ i ≤ n ∧ n - i ≤ gg ∧ Hid (∀ j : Nat, j < i → ks[j]? ≠ some x) ∧ Hid (Below w.heap.size w wr))
  case atStart => exact ⟨0, rfl, Nat.zero_le _, by omega, HA0, HB0⟩
  case round =>
    clear HA0 HB0
    obtain ⟨i, rfl, hin, hg, HA, HB⟩ := hrel
    by_cases hlt : i < n
    · obtain ⟨y, hy⟩ : ∃ y, ks[i]? = some y := ⟨_, List.getElem?_eq_getElem (by rw [HK.out]; exact hlt)⟩
      obtain ⟨b, o, rfl, hb, hc⟩ := HR.out.at_ (j := i) (u := .int .i64 y) (by simp [hy])
      have hcr := (HB.out.cell (p := ⟨b, o + i, none⟩) hb).trans hc
      have hi0 : (0 : Int) ≤ (i : Int) := by omega
      have hil : (i : Int) < (n : Int) := by omega
      clear hc
      by_cases hxy : x = y
      · subst hxy
        go_wp2_with fail
        go_ret
        exact ⟨(i : Int), rfl, ⟨fun _ => List.mem_of_getElem? hy, fun _ => hi0⟩, HB.out⟩
      · have hxb : (x == y) = false := by simpa using hxy
        have HA2 : Hid (∀ j : Nat, j < i + 1 → ks[j]? ≠ some x) := Lib.hid fun j hj e => by
          rcases Nat.lt_or_ge j i with h | h
          · exact HA.out j h e
          · obtain rfl : j = i := by omega
            rw [hy] at e
            injection e with e
            exact hxy e.symm
        clear HA hy
        go_wp2_with fail
        go_roundg (n - (i + 1))
        case measure => omega
        case rel => exact ⟨i + 1, by first | rfl | go_num, by omega, Nat.le_refl _, HA2, HB⟩
    · obtain rfl : i = n := by omega
      have hil : ¬ ((i : Int) < (i : Int)) := by omega
      go_wp2_with fail
      go_ret
      refine ⟨-1, rfl, ⟨fun h => absurd h (by decide), fun h => ?_⟩, HB.out⟩
      obtain ⟨j, hj⟩ := List.getElem?_of_mem h
      have := (List.getElem?_eq_some_iff.1 hj).1
      exact absurd hj (HA.out j (by rw [HK.out] at this; exact this))
set_option maxHeartbeats 2000000 in
set_option maxRecDepth 100000 in
theorem contInt_any (A : Option Addr) (c : Nat) (ks : List Int) (x : Int) (w : World) (hR : Rd w w.heap.size A (ks.map (Value.int .i64))) (hn : ks.length ≤ 1000000) :
    Calls Try.prog 34 #[.slice A ks.length c, .int .i64 x] w fun e w' => e = .returned (.bool (decide (x ∈ ks))) ∧ Below w.heap.size w w' := by
  have HI := Lib.hid (idxInt_any A c ks x w hR hn)
  clear hR hn
  generalize ks.length = n at *
  go_enter Try.func34, Try.ntmps34
  go_wp2_with fail
  refine HI.out.mono ?_
  rintro e1 w1 ⟨r, rfl, hr, hb1⟩
  by_cases h0 : 0 ≤ r
  · go_wp2_with fail
    go_ret
    exact ⟨by rw [decide_eq_true (hr.1 h0)]; rfl, hb1⟩
  · go_wp2_with fail
    go_ret
    exact ⟨by rw [decide_eq_false fun h => by have := hr.2 h; omega]; rfl, hb1⟩
/-- A row that has just been laid. -/
theorem rd_laid {X : World} {g : Nat} {t : TypeId} {cs : List Value} (hg : X.heap.size = g) : Rd (X.alloc (.cells cs.toArray t)) (X.alloc (.cells cs.toArray t)).heap.size (some ⟨g, 0, none⟩) cs := fun j u hj => by
  subst hg
  exact ⟨_, 0, rfl, by simp, by rw [Nat.zero_add]; exact (Box.laid X t cs.toArray).cell (by simpa using hj)⟩
def misE (v : V) (ks : List Int) : Int := match v with | .mk k _ _ _ _ => if valid v = true then (if k ∈ ks then 0 else 12) else 1
set_option maxHeartbeats 2000000 in
set_option maxRecDepth 100000 in
theorem misfit_any {v : V} {cs : List Value} {w : World} (hl : Lies w (· < w.heap.size) v cs) (A : Option Addr) (c : Nat) (ks : List Int) (hR : Rd w w.heap.size A (ks.map (Value.int .i64))) (hn : ks.length ≤ 1000000) :
    Calls Try.prog 18 #[.agg cs.toArray, .slice A ks.length c] w fun e w' => e = .returned (.int .i64 (misE v ks)) ∧ Below w.heap.size w w' := by
  obtain ⟨k, n, s, kk, es⟩ := v
  have HV := Lib.hid (fun W (hW : Below w.heap.size w W) => valid_any _ cs W (below_lies hW hl))
  have HC := Lib.hid (fun W (hW : Below w.heap.size w W) => contInt_any A c ks k W (hR.below hW (Nat.le_refl _) |>.mono hW.size) hn)
  obtain ⟨A1, a1, B1, b1, xs1, rfl, -⟩ := lies_open hl
  have HM : Hid (misE (.mk k n s kk es) ks = if valid (.mk k n s kk es) = true then (if k ∈ ks then 0 else 12) else 1) := Lib.hid rfl
  clear hl hR hn
  show Calls _ _ #[.agg #[.int .i64 k, .int .i64 n, .string s, .slice A1 kk.length a1, .slice B1 es.length b1], .slice A ks.length c] w _
  generalize misE (.mk k n s kk es) ks = E at *
  generalize valid (.mk k n s kk es) = vb at *
  generalize kk.length = n1 at *
  generalize es.length = n2 at *
  generalize ks.length = n3 at *
  have hx := Box.laid w 27 #[.int .i64 k, .int .i64 n, .string s, .slice A1 n1 a1, .slice B1 n2 b1]
  cases vb with
  | false =>
    have hE : E = 1 := by rw [HM.out, if_neg (by decide)]
    subst hE
    go_enter Try.func18, Try.ntmps18
    go_wp2_with fail
    refine (HV.out _ (below1 _ _)).mono ?_
    rintro e1 w1 ⟨rfl, hb1⟩
    go_wp2_with fail
    go_ret
    exact ⟨rfl, (below1 _ _).trans (hb1.mono (below1 w _).size)⟩
  | true =>
    have hE : E = if k ∈ ks then 0 else 12 := by rw [HM.out, if_pos rfl]
    clear HM
    by_cases hk : k ∈ ks
    · rw [if_pos hk] at hE
      subst hE
      have hd : decide (k ∈ ks) = true := decide_eq_true hk
      rw [hd] at HC
      clear hk hd
      go_enter Try.func18, Try.ntmps18
      go_wp2_with fail
      refine (HV.out _ (below1 _ _)).mono ?_
      rintro e1 w1 ⟨rfl, hb1⟩
      obtain ⟨t0, t1, t2, t3, t4⟩ := box5 (hx.below hb1 hx.lt)
      have HB1 : Hid (Below w.heap.size w w1) := Lib.hid ((below1 _ _).trans (hb1.mono (below1 w _).size))
      clear hb1 hx
      go_wp2_with fail
      refine (HC.out _ HB1.out).mono ?_
      rintro e2 w2 ⟨rfl, hb2⟩
      go_wp2_with fail
      go_ret
      exact ⟨rfl, HB1.out.trans (hb2.mono HB1.out.size)⟩
    · rw [if_neg hk] at hE
      subst hE
      have hd : decide (k ∈ ks) = false := decide_eq_false hk
      rw [hd] at HC
      clear hk hd
      go_enter Try.func18, Try.ntmps18
      go_wp2_with fail
      refine (HV.out _ (below1 _ _)).mono ?_
      rintro e1 w1 ⟨rfl, hb1⟩
      obtain ⟨t0, t1, t2, t3, t4⟩ := box5 (hx.below hb1 hx.lt)
      have HB1 : Hid (Below w.heap.size w w1) := Lib.hid ((below1 _ _).trans (hb1.mono (below1 w _).size))
      clear hb1 hx
      go_wp2_with fail
      refine (HC.out _ HB1.out).mono ?_
      rintro e2 w2 ⟨rfl, hb2⟩
      go_wp2_with fail
      go_ret
      exact ⟨rfl, HB1.out.trans (hb2.mono HB1.out.size)⟩
end Go.Proofs.Ytnokmlclephjgaa
namespace Go.Proofs.Ytnokmlclephjgaa
open Go.RowKit
def elemsV : V → List V
  | .mk _ _ _ _ es => es
/-- The element of a row with the index, or null. -/
def cellV (i : Nat) (e : V) : V := (elemsV e)[i]?.getD vnull
theorem lies_fvZero (w : World) (S : Nat → Prop) : Lies w S vnull fvZero.cs := lies_null w S
theorem own_arr {W : World} {base g n : Nat} {xs : List Value} {es : List V} {S : Nat → Prop} (ho : W.ownsRow base 27 5 (.slice (some ⟨g, 0, none⟩) n n) n xs) (hl : LiesL W S es xs) (hn : es.length = n) (hlim : n ≤ 1000000) (hS : ∀ b, (Value.slice (some ⟨g, 0, none⟩) n n).ownBlock = some b → S b) :
    Lies W S (arrV es) [.int .i64 5, .int .i64 0, .string ⟨#[]⟩, .slice none 0 0, .slice (some ⟨g, 0, none⟩) n n] := by
  obtain ⟨A, c, e, h0, hc, hm, hr⟩ := own_open ho
  injection e with e1 e2 e3
  subst e1 e3
  unfold arrV
  rw [Lies]
  exact ⟨⟨Nat.zero_le _, by simp, Nat.zero_le _, by omega⟩, none, 0, some ⟨g, 0, none⟩, n, xs, by rw [hn]; rfl, fun _ => rfl, h0, ⟨Nat.le_refl _, Nat.zero_le _⟩, ⟨by omega, hm⟩, Rs.nil _ _ _, hr.move fun b hb => ⟨hS b hb.2.2, rfl⟩, hl⟩
/-- Between two rounds. -/
structure CoSt (S : Nat → Prop) (g n : Nat) (es : List V) (ix : Nat) (w0 w : World) (i : Nat) (ys : List Fv) : Prop where
  own : w.ownsRow w0.heap.size 27 5 (.slice (some ⟨g, 0, none⟩) n n) n (ys.flatMap Fv.cs)
  len : ys.length = n
  head : LiesL w0 S ((es.take i).map (cellV ix)) ((ys.take i).flatMap Fv.cs)
  rest : ∀ j, i ≤ j → j < n → ys[j]? = some fvZero
  res : Box w w0.heap.size 27 #[.int .i64 0, .int .i64 0, .string ⟨#[]⟩, .slice none 0 0, .slice none 0 0]
  ne : w0.heap.size < g
  below : Below w0.heap.size w0 w
section
variable {S : Nat → Prop} {g n : Nat} {es : List V} {ix : Nat} {w0 w : World} {i : Nat} {ys : List Fv}
theorem liesL_snoc {w : World} {S : Nat → Prop} : ∀ {es : List V} {xs : List Value} {e : V} {c : List Value}, LiesL w S es xs → Lies w S e c → LiesL w S (es ++ [e]) (xs ++ c)
  | [], xs, e, c, h, he => by
    rw [LiesL] at h
    subst h
    rw [List.nil_append, List.nil_append, LiesL]
    exact ⟨c, [], by simp, he, by rw [LiesL]⟩
  | x :: es, xs, e, c, h, he => by
    rw [LiesL] at h
    obtain ⟨d, r, rfl, h1, h2⟩ := h
    rw [List.cons_append, LiesL]
    exact ⟨d, r ++ c, by rw [List.append_assoc], h1, liesL_snoc h2 he⟩
theorem CoSt.nextB {w2 : World} (h : CoSt S g n es ix w0 w i ys) (hb : Below w.heap.size w w2) : CoSt S g n es ix w0 w2 i ys :=
  ⟨own_belowV h.own hb, h.len, h.head, h.rest, h.res.below hb h.res.lt, h.ne, h.below.trans (hb.mono h.below.size)⟩
theorem CoSt.skip (h : CoSt S g n es ix w0 w i ys) {e : V} (he : es[i]? = some e) (hi : i < n) (hz : cellV ix e = vnull) : CoSt S g n es ix w0 w (i + 1) ys := by
  refine ⟨h.own, h.len, ?_, fun j h1 h2 => h.rest j (by omega) h2, h.res, h.ne, h.below⟩
  rw [List.take_add_one, List.take_add_one, he, h.rest i (Nat.le_refl _) hi, List.map_append, List.flatMap_append]
  have h2 : (Option.toList (some fvZero)).flatMap Fv.cs = fvZero.cs := by simp
  rw [h2]
  show LiesL w0 _ (_ ++ [cellV ix e]) _
  rw [hz]
  exact liesL_snoc h.head (lies_fvZero _ _)
theorem CoSt.put (h : CoSt S g n es ix w0 w i ys) {e : V} {x : Fv} (he : es[i]? = some e) (hi : i < n) (hx : Lies w0 S (cellV ix e) x.cs) :
    CoSt S g n es ix w0 (((((w.setCell ⟨g, i * 5, none⟩ (.int .i64 x.k)).setCell ⟨g, i * 5 + 1, none⟩ (.int .i64 x.n)).setCell ⟨g, i * 5 + 2, none⟩ (.string x.s)).setCell ⟨g, i * 5 + 3, none⟩ (.slice x.A x.la x.a)).setCell ⟨g, i * 5 + 4, none⟩ (.slice x.C x.lc x.c)) (i + 1) (ys.set i x) := by
  have hl := h.len
  have hg : w0.heap.size ≤ g := Nat.le_of_lt h.ne
  have hne : w0.heap.size ≠ g := Nat.ne_of_lt h.ne
  refine ⟨?_, by rw [List.length_set]; exact hl, ?_, fun j h1 h2 => ?_, ((((h.res.far hne _).far hne _).far hne _).far hne _).far hne _, h.ne, ((((h.below.setCell hg _).setCell hg _).setCell hg _).setCell hg _).setCell hg _⟩
  · rw [← flat_set x ys i (by omega)]
    exact own_set (own_set (own_set (own_set (own_set h.own (i := i * 5) (by omega) _) (i := i * 5 + 1) (by omega) _) (i := i * 5 + 2) (by omega) _) (i := i * 5 + 3) (by omega) _) (i := i * 5 + 4) (by omega) _
  · rw [List.take_add_one, List.take_add_one, he, List.getElem?_set_self (by omega), List.take_set_of_le (Nat.le_refl _), List.map_append, List.flatMap_append]
    have h2 : (Option.toList (some x)).flatMap Fv.cs = x.cs := by simp
    rw [h2]
    exact liesL_snoc h.head hx
  · rw [List.getElem?_set_ne (by omega)]
    exact h.rest j (by omega) h2
theorem CoSt.free (h : CoSt S g n es ix w0 w i ys) (k : Nat) : w.frozen? ⟨g, k, none⟩ = false := h.own.frozenAt k
theorem CoSt.there (h : CoSt S g n es ix w0 w i ys) (k : Nat) (hk : k < n * 5) : ∃ u, w.cell? ⟨g, k, none⟩ = some u := by
  have h1 := h.own.1
  rw [h.own.cellAt k hk]
  exact ⟨_, List.getElem?_eq_getElem (by omega)⟩
end
/-- What a row of values gives at an index: the value's cells. -/
theorem row_at {w : World} {S : Nat → Prop} {A : Option Addr} {es : List V} {xs : List Value} (hR : Rs w S A xs) (hL : LiesL w S es xs) {i : Nat} {e : V} (he : es[i]? = some e) :
    ∃ (b o : Nat) (x : Fv), A = some ⟨b, o, none⟩ ∧ S b ∧ Lies w S e x.cs ∧ FiveAt w b (o + i * 5) x := by
  obtain ⟨c, hc, hx⟩ := hL.at_ he
  obtain ⟨x, rfl⟩ := lies_fv hc
  have g : ∀ j, j < 5 → ∀ u, x.cs[j]? = some u → ∃ b o, A = some ⟨b, o, none⟩ ∧ S b ∧ w.cell? ⟨b, o + (i * 5 + j), none⟩ = some u := fun j hj u hu => hR.at_ (j := i * 5 + j) (by rw [hx j hj]; exact hu)
  obtain ⟨b, o, rfl, hb, h0⟩ := g 0 (by decide) _ rfl
  have g' : ∀ j, j < 5 → ∀ u, x.cs[j]? = some u → w.cell? ⟨b, o + i * 5 + j, none⟩ = some u := fun j hj u hu => by
    obtain ⟨b', o', e', _, h1⟩ := g j hj u hu
    injection e' with e'
    injection e' with e1 e2
    subst e1 e2
    rw [Nat.add_assoc]
    exact h1
  exact ⟨b, o, x, rfl, hb, hc, g' 0 (by decide) _ rfl, g' 1 (by decide) _ rfl, g' 2 (by decide) _ rfl, g' 3 (by decide) _ rfl, g' 4 (by decide) _ rfl⟩
/-- What column hands back. -/
def CoPost (S : Nat → Prop) (es : List V) (ix : Nat) (n : Nat) (w : World) (e : Ending) (w' : World) : Prop :=
  Below w.heap.size w w' ∧ ∃ (g : Nat), e = .returned (.agg #[.int .i64 5, .int .i64 0, .string ⟨#[]⟩, .slice none 0 0, .slice (some ⟨g, 0, none⟩) n n]) ∧ w.heap.size ≤ g ∧ g < w'.heap.size ∧
    Lies w' (fun b => b = g ∨ S b) (arrV (es.map (cellV ix))) [.int .i64 5, .int .i64 0, .string ⟨#[]⟩, .slice none 0 0, .slice (some ⟨g, 0, none⟩) n n]
set_option maxHeartbeats 4000000 in
set_option maxRecDepth 100000 in
theorem column_any (S : Nat → Prop) (es : List V) (ix : Nat) (A : Option Addr) (c : Nat) (xs : List Value) (w : World) (hSw : ∀ b, S b → b < w.heap.size) (hR : Rs w S A xs) (hL : LiesL w S es xs) (hn : es.length ≤ 1000000) (hix : ix ≤ 1000000) :
    Calls Try.prog 19 #[.slice A es.length c, .int .i64 (ix : Int)] w (CoPost S es ix es.length w) := by
  have HE : Hid (∀ (i : Nat) (e : V), es[i]? = some e → ∃ (b o : Nat) (x : Fv), A = some ⟨b, o, none⟩ ∧ b < w.heap.size ∧ FiveAt w b (o + i * 5) x ∧ ((ix < x.lc ∧ ∃ (b2 o2 : Nat) (y : Fv), x.C = some ⟨b2, o2, none⟩ ∧ b2 < w.heap.size ∧ Lies w S (cellV ix e) y.cs ∧ FiveAt w b2 (o2 + ix * 5) y) ∨ (x.lc ≤ ix ∧ cellV ix e = vnull))) := Lib.hid fun i e he => by
    obtain ⟨b, o, x, e1, e2, hx, h5⟩ := row_at hR hL he
    refine ⟨b, o, x, e1, hSw b e2, h5, ?_⟩
    obtain ⟨k, n, s, kk, fs⟩ := e
    obtain ⟨A1, a1, B1, b1, ys, hcs, -, -, -, -, -, hRy, hLy⟩ := lies_open hx
    unfold Fv.cs at hcs
    simp only [List.cons.injEq, and_true, Value.slice.injEq] at hcs
    obtain ⟨-, -, -, -, hC, hlc, -⟩ := hcs
    rcases Nat.lt_or_ge ix fs.length with h | h
    · refine .inl ⟨by rw [hlc]; exact h, ?_⟩
      obtain ⟨b2, o2, y, f1, f2, f3, f4⟩ := row_at hRy hLy (List.getElem?_eq_getElem h)
      refine ⟨b2, o2, y, by rw [hC]; exact f1, hSw b2 f2, ?_, f4⟩
      have : cellV ix (.mk k n s kk fs) = fs[ix] := by unfold cellV elemsV; rw [List.getElem?_eq_getElem h]; rfl
      rw [this]
      exact f3
    · refine .inr ⟨by rw [hlc]; exact h, ?_⟩
      unfold cellV elemsV
      rw [List.getElem?_eq_none h]
      rfl
  obtain ⟨n, hk⟩ : ∃ n, es.length = n := ⟨_, rfl⟩
  have HK := Lib.hid hk
  rw [hk] at hn ⊢
  have hmk := made_nulls n hn
  have HM := Lib.hid hn
  have HSW := Lib.hid hSw
  clear hR hL hk hSw
  go_enter Try.func19, Try.ntmps19
  go_wp2_with fail
  obtain ⟨w1, hw1⟩ : ∃ X, X = (w.alloc (.cells #[.int .i64 0, .int .i64 0, .string ⟨#[]⟩, .slice none 0 0, .slice none 0 0] 27)).alloc (.cells (zl n).toArray 27) := ⟨_, rfl⟩
  have HS : Hid (CoSt S (w.heap.size + 1) n es ix w w1 0 (List.replicate n fvZero)) := Lib.hid (by
    refine ⟨⟨by rw [flat_len, List.length_replicate], .inr ⟨w.heap.size + 1, n, (zl n).toArray, rfl, by omega, ?_, Nat.le_refl _, by unfold maxLen; omega, by rw [List.size_toArray, zl_flat, flat_len, List.length_replicate], ?_⟩⟩, List.length_replicate, by rw [List.take_zero, List.take_zero, List.map_nil, LiesL]; rfl, fun j _ h2 => by rw [List.getElem?_replicate, if_pos h2], ?_, by omega, ?_⟩
    · rw [hw1]
      have := Box.laid (w.alloc (.cells #[.int .i64 0, .int .i64 0, .string ⟨#[]⟩, .slice none 0 0, .slice none 0 0] 27)) 27 (zl n).toArray
      have e : (w.alloc (.cells #[.int .i64 0, .int .i64 0, .string ⟨#[]⟩, .slice none 0 0, .slice none 0 0] 27)).heap.size = w.heap.size + 1 := by simp
      rw [e] at this
      exact this
    · rw [List.toList_toArray, ← zl_flat, List.take_of_length_le (by rw [zl_flat, flat_len, List.length_replicate]; exact Nat.le_refl _)]
    · rw [hw1]; exact (Box.laid w _ _).alloc _
    · rw [hw1]; exact ((Go.RowKit.Below.refl _ w).alloc (Nat.le_refl _) _).alloc (by simp) _)
  rw [← hw1]
  clear hw1 hmk
  go_loopg [13] n (fun gg s13 wr => ∃ (i : Nat) (ys : List Fv), s13 = .int .i64 i ∧ i ≤ n ∧ n - i ≤ gg ∧ Hid (CoSt S (w.heap.size + 1) n es ix w wr i ys))
  case atStart => exact ⟨0, _, rfl, Nat.zero_le _, by omega, HS⟩
  case round =>
    clear HS
    obtain ⟨i, ys, rfl, hin, hg, HS⟩ := hrel
    by_cases hlt : i < n
    · obtain ⟨e, he⟩ : ∃ e, es[i]? = some e := ⟨_, List.getElem?_eq_getElem (by rw [HK.out]; exact hlt)⟩
      obtain ⟨b, o, x, rfl, hb, h5, hor⟩ := HE.out i e he
      have hi0 : (0 : Int) ≤ (i : Int) := by omega
      have hil : (i : Int) < (n : Int) := by omega
      have hm := HM.out
      obtain ⟨f0, f1, f2, f3, f4⟩ := h5.below HS.out.below hb
      have HX := Lib.hid (Box.laid wr 27 #[.int .i64 x.k, .int .i64 x.n, .string x.s, .slice x.A x.la x.a, .slice x.C x.lc x.c])
      obtain ⟨t0, t1, t2, t3, t4⟩ := box5 HX.out
      have HS2 := Lib.hid (HS.out.nextB (below1 wr (.cells #[.int .i64 x.k, .int .i64 x.n, .string x.s, .slice x.A x.la x.a, .slice x.C x.lc x.c] 27)))
      clear HS
      rcases hor with ⟨hix2, b2, o2, y, hC, hb2, hy, hy5⟩ | ⟨hix2, hz⟩
      · obtain ⟨xk, xn, xs0, xA, xla, xa, xC, xlc, xc⟩ := x
        obtain ⟨yk, yn, ys0, yA, yla, ya, yC, ylc, yc⟩ := y
        dsimp only at hC hix2 f0 f1 f2 f3 f4 HX t0 t1 t2 t3 t4 HS2
        subst hC
        have hc1 : ((ix : Int) < (xlc : Int)) := by omega
        have hix0 : (0 : Int) ≤ (ix : Int) := by omega
        obtain ⟨q0, q1, q2, q3, q4⟩ := hy5.below HS2.out.below hb2
        dsimp only at q0 q1 q2 q3 q4
        obtain ⟨y0, hy0⟩ := HS2.out.there (i * 5) (by omega)
        obtain ⟨y1, hy1⟩ := HS2.out.there (i * 5 + 1) (by omega)
        obtain ⟨y2, hy2⟩ := HS2.out.there (i * 5 + 2) (by omega)
        obtain ⟨y3, hy3⟩ := HS2.out.there (i * 5 + 3) (by omega)
        obtain ⟨y4, hy4⟩ := HS2.out.there (i * 5 + 4) (by omega)
        have z0 := HS2.out.free (i * 5)
        have z1 := HS2.out.free (i * 5 + 1)
        have z2 := HS2.out.free (i * 5 + 2)
        have z3 := HS2.out.free (i * 5 + 3)
        have z4 := HS2.out.free (i * 5 + 4)
        have HD3 := HS2.out.put he hlt hy
        dsimp only at HD3
        clear hy he HX hy5
        go_wp2_with fail
        generalize ((((((wr.alloc (.cells #[.int .i64 xk, .int .i64 xn, .string xs0, .slice xA xla xa, .slice (some ⟨b2, o2, none⟩) xlc xc] 27)).setCell ⟨w.heap.size + 1, i * 5, none⟩ (.int .i64 yk)).setCell ⟨w.heap.size + 1, i * 5 + 1, none⟩ (.int .i64 yn)).setCell ⟨w.heap.size + 1, i * 5 + 2, none⟩ (.string ys0)).setCell ⟨w.heap.size + 1, i * 5 + 3, none⟩ (.slice yA yla ya)).setCell ⟨w.heap.size + 1, i * 5 + 4, none⟩ (.slice yC ylc yc)) = W9 at HD3 ⊢
        have HD4 := Lib.hid HD3
        clear HD3 HS2 hy0 hy1 hy2 hy3 hy4 z0 z1 z2 z3 z4
        go_roundg (n - (i + 1))
        case measure => omega
        case rel => exact ⟨i + 1, _, by first | rfl | go_num, by omega, Nat.le_refl _, HD4⟩
      · have hc1 : ¬ ((ix : Int) < (x.lc : Int)) := by omega
        have HS3 := Lib.hid (HS2.out.skip he hlt hz)
        clear HS2
        go_wp2_with fail
        go_roundg (n - (i + 1))
        case measure => omega
        case rel => exact ⟨i + 1, _, by first | rfl | go_num, by omega, Nat.le_refl _, HS3⟩
    · obtain rfl : i = n := by omega
      have hil : ¬ ((i : Int) < (i : Int)) := by omega
      obtain ⟨c0, c1, c2, c3, c4⟩ := box5 HS.out.res
      have z0 := HS.out.res.free 0
      have z1 := HS.out.res.free 1
      have z2 := HS.out.res.free 2
      have z3 := HS.out.res.free 3
      have z4 := HS.out.res.free 4
      go_wp2_with fail
      refine bodyPost_ret (v := .agg #[.int .i64 5, .int .i64 0, .string ⟨#[]⟩, .slice none 0 0, .slice (some ⟨w.heap.size + 1, 0, none⟩) i i]) (by simp [results, Try.results19, go_sem, c0, c1, c2, c3, c4]) rfl ?_
      have hsz : w.heap.size + 1 < wr.heap.size := (HS.out.own.lt _ rfl).2
      have hh : LiesL w S (es.map (cellV ix)) (ys.flatMap Fv.cs) := by
        have h := HS.out.head
        rw [List.take_of_length_le (by rw [HK.out]; exact Nat.le_refl _), List.take_of_length_le (by rw [HS.out.len]; exact Nat.le_refl _)] at h
        exact h
      have hfar : ∀ b, w.heap.size ≠ b → (((((wr.setCell ⟨w.heap.size, 0, none⟩ (.int .i64 5)).setCell ⟨w.heap.size, 1, none⟩ (.int .i64 0)).setCell ⟨w.heap.size, 2, none⟩ (.string ⟨#[]⟩)).setCell ⟨w.heap.size, 3, none⟩ (.slice none 0 0)).setCell ⟨w.heap.size, 4, none⟩ (.slice (some ⟨w.heap.size + 1, 0, none⟩) i i)).heap[b]? = wr.heap[b]? := fun b hb => by
        rw [Below.heap_setCell _ _ _ _ (by simpa using hb.symm), Below.heap_setCell _ _ _ _ (by simpa using hb.symm), Below.heap_setCell _ _ _ _ (by simpa using hb.symm), Below.heap_setCell _ _ _ _ (by simpa using hb.symm), Below.heap_setCell _ _ _ _ (by simpa using hb.symm)]
      refine ⟨((((HS.out.below.setCell (Nat.le_refl _) _).setCell (Nat.le_refl _) _).setCell (Nat.le_refl _) _).setCell (Nat.le_refl _) _).setCell (Nat.le_refl _) _, w.heap.size + 1, rfl, by omega, by simp [World.setCell]; omega, ?_⟩
      exact own_arr (own_still HS.out.own fun b hb => hfar b (Nat.ne_of_lt (by have e : w.heap.size + 1 = b := (by injection hb); omega))) (hh.move fun b hb => ⟨.inr hb, (hfar b (by have := HSW.out b hb; omega)).trans (HS.out.below.block b (HSW.out b hb))⟩) (by rw [List.length_map]; exact HK.out) HM.out fun b hb => .inl (by injection hb with hb; exact hb.symm)
end Go.Proofs.Ytnokmlclephjgaa
namespace Go.Proofs.Ytnokmlclephjgaa
open Go.RowKit
def kdV : V → Int
  | .mk k _ _ _ _ => k
/-- The longest of the first i rows. -/
def lng (es : List V) (i : Nat) : Nat := (es.take i).foldl (fun m e => max m (elemsV e).length) 0
theorem lng_succ {es : List V} {i : Nat} {e : V} (h : es[i]? = some e) : lng es (i + 1) = max (lng es i) (elemsV e).length := by
  unfold lng
  rw [List.take_add_one, h, List.foldl_append]
  rfl
theorem lng_mono {es : List V} {i j : Nat} (h : i ≤ j) : lng es i ≤ lng es j := by
  induction j with
  | zero => obtain rfl : i = 0 := by omega
            exact Nat.le_refl _
  | succ j ih =>
    rcases Nat.lt_or_ge i (j + 1) with h1 | h1
    · refine Nat.le_trans (ih (by omega)) ?_
      rcases Nat.lt_or_ge j es.length with h2 | h2
      · rw [lng_succ (List.getElem?_eq_getElem h2)]
        exact Nat.le_max_left _ _
      · unfold lng
        rw [List.take_of_length_le h2, List.take_of_length_le (by omega)]
        exact Nat.le_refl _
    · obtain rfl : i = j + 1 := by omega
      exact Nat.le_refl _
/-- The columns. -/
def colsV (es : List V) (m : Nat) : List V := (List.range m).map fun i => arrV (es.map (cellV i))
theorem colsV_len (es : List V) (m : Nat) : (colsV es m).length = m := by simp [colsV]
theorem colsV_succ (es : List V) (m : Nat) : colsV es (m + 1) = colsV es m ++ [arrV (es.map (cellV m))] := by simp [colsV, List.range_succ]
/-- Between two columns. -/
structure TrSt (g m : Nat) (es : List V) (w1 w : World) (i : Nat) (ys : List Fv) : Prop where
  own : w.ownsRow w1.heap.size 27 5 (.slice (some ⟨g, 0, none⟩) m m) m (ys.flatMap Fv.cs)
  len : ys.length = m
  head : LiesL w (fun b => b < w.heap.size ∧ b ≠ g) (colsV es i) ((ys.take i).flatMap Fv.cs)
  below : Below w1.heap.size w1 w
section
variable {g m n : Nat} {es : List V} {w1 w w2 : World} {i : Nat} {ys : List Fv}
theorem TrSt.nextB (h : TrSt g m es w1 w i ys) (hb : Below w.heap.size w w2) : TrSt g m es w1 w2 i ys :=
  ⟨own_belowV h.own hb, h.len, h.head.move fun b hb' => ⟨⟨Nat.lt_of_lt_of_le hb'.1 hb.size, hb'.2⟩, hb.block b hb'.1⟩, h.below.trans (hb.mono h.below.size)⟩
theorem TrSt.put {x : Fv} (h : TrSt g m es w1 w i ys) (hi : i < m) (hx : Lies w (fun b => b < w.heap.size ∧ b ≠ g) (arrV (es.map (cellV i))) x.cs) :
    TrSt g m es w1 (((((w.setCell ⟨g, i * 5, none⟩ (.int .i64 x.k)).setCell ⟨g, i * 5 + 1, none⟩ (.int .i64 x.n)).setCell ⟨g, i * 5 + 2, none⟩ (.string x.s)).setCell ⟨g, i * 5 + 3, none⟩ (.slice x.A x.la x.a)).setCell ⟨g, i * 5 + 4, none⟩ (.slice x.C x.lc x.c)) (i + 1) (ys.set i x) := by
  have hl := h.len
  have hg : w1.heap.size ≤ g := (h.own.lt g rfl).1
  refine ⟨?_, by rw [List.length_set]; exact hl, ?_, ((((h.below.setCell hg _).setCell hg _).setCell hg _).setCell hg _).setCell hg _⟩
  · rw [← flat_set x ys i (by omega)]
    exact own_set (own_set (own_set (own_set (own_set h.own (i := i * 5) (by omega) _) (i := i * 5 + 1) (by omega) _) (i := i * 5 + 2) (by omega) _) (i := i * 5 + 3) (by omega) _) (i := i * 5 + 4) (by omega) _
  · rw [List.take_add_one, colsV_succ, List.getElem?_set_self (by omega), List.take_set_of_le (Nat.le_refl _), List.flatMap_append]
    have h2 : (Option.toList (some x)).flatMap Fv.cs = x.cs := by simp
    rw [h2]
    refine (liesL_snoc h.head hx).move fun b hb => ⟨⟨by simp [World.setCell]; exact hb.1, hb.2⟩, ?_⟩
    have hne := hb.2
    rw [Below.heap_setCell _ _ _ _ (by simpa using hne), Below.heap_setCell _ _ _ _ (by simpa using hne), Below.heap_setCell _ _ _ _ (by simpa using hne), Below.heap_setCell _ _ _ _ (by simpa using hne), Below.heap_setCell _ _ _ _ (by simpa using hne)]
theorem TrSt.free (h : TrSt g m es w1 w i ys) (k : Nat) : w.frozen? ⟨g, k, none⟩ = false := h.own.frozenAt k
theorem TrSt.there (h : TrSt g m es w1 w i ys) (k : Nat) (hk : k < m * 5) : ∃ u, w.cell? ⟨g, k, none⟩ = some u := by
  have h1 := h.own.1
  rw [h.own.cellAt k hk]
  exact ⟨_, List.getElem?_eq_getElem (by omega)⟩
theorem TrSt.start (w1 : World) (m : Nat) (es : List V) (hm : m ≤ 1000000) : TrSt w1.heap.size m es w1 (w1.alloc (.cells (zl m).toArray 27)) 0 (List.replicate m fvZero) := by
  refine ⟨⟨by rw [flat_len, List.length_replicate], .inr ⟨w1.heap.size, m, (zl m).toArray, rfl, Nat.le_refl _, Box.laid w1 _ _, Nat.le_refl _, by unfold maxLen; omega, by rw [List.size_toArray, zl_flat, flat_len, List.length_replicate], ?_⟩⟩, List.length_replicate, by rw [List.take_zero]; unfold colsV; rw [List.range_zero, List.map_nil, LiesL]; rfl, below1 _ _⟩
  rw [List.toList_toArray, ← zl_flat, List.take_of_length_le (by rw [zl_flat, flat_len, List.length_replicate]; exact Nat.le_refl _)]
end
/-- The first loop. -/
structure TrLo (es : List V) (cs : Array Value) (w w' : World) : Prop where
  box : Box w' w.heap.size 27 cs
  res : Box w' (w.heap.size + 1) 27 #[.int .i64 0, .int .i64 0, .string ⟨#[]⟩, .slice none 0 0, .slice none 0 0]
  below : Below w.heap.size w w'
theorem TrLo.nextB {es : List V} {cs : Array Value} {w w1 w2 : World} (h : TrLo es cs w w1) (hb : Below w1.heap.size w1 w2) : TrLo es cs w w2 :=
  ⟨h.box.below hb h.box.lt, h.res.below hb h.res.lt, h.below.trans (hb.mono h.below.size)⟩
theorem TrLo.start (es : List V) (cs : Array Value) (w : World) : TrLo es cs w ((w.alloc (.cells cs 27)).alloc (.cells #[.int .i64 0, .int .i64 0, .string ⟨#[]⟩, .slice none 0 0, .slice none 0 0] 27)) := by
  refine ⟨(Box.laid w _ _).alloc _, ?_, below2 _ _ _⟩
  have := Box.laid (w.alloc (.cells cs 27)) 27 #[.int .i64 0, .int .i64 0, .string ⟨#[]⟩, .slice none 0 0, .slice none 0 0]
  have e : (w.alloc (.cells cs 27)).heap.size = w.heap.size + 1 := by simp
  rw [e] at this
  exact this
set_option maxHeartbeats 4000000 in
set_option maxRecDepth 100000 in
theorem transpose_any {nv : Int} {sv : ByteArray} {kv1 : List ByteArray} {es : List V} {cs : List Value} {w : World} (hl : Lies w (· < w.heap.size) (.mk 5 nv sv kv1 es) cs) (hv : valid (.mk 5 nv sv kv1 es) = true) (hk : ∀ e ∈ es, kdV e = 5) (hm : lng es es.length * es.length ≤ 4096) (hm2 : lng es es.length ≤ 4096) (hlen : es.length ≤ 4096) :
    Calls Try.prog 10 #[.agg cs.toArray] w (RetPost (tabR (colsV es (lng es es.length))) (tabE (colsV es (lng es es.length))) w) := by
  have HMF := Lib.hid (fun W (hW : Below w.heap.size w W) A c (hR : Rd W W.heap.size A ([5].map (Value.int .i64))) => misfit_any (below_lies hW hl) A c [5] hR (by decide))
  have hmi : misE (.mk 5 nv sv kv1 es) [5] = 0 := by unfold misE; simp only; rw [if_pos hv, if_pos (by decide)]
  rw [hmi] at HMF
  obtain ⟨A, a, B, b0, xs, rfl, -, -, -, -, -, hR, hL⟩ := lies_open hl
  have HE : Hid (∀ (i : Nat), i < es.length → ∃ (e : V) (b o : Nat) (x : Fv), es[i]? = some e ∧ B = some ⟨b, o, none⟩ ∧ b < w.heap.size ∧ FiveAt w b (o + i * 5) x ∧ x.k = 5 ∧ x.lc = (elemsV e).length) := Lib.hid fun i hi => by
    obtain ⟨b, o, x, e1, e2, hx, h5⟩ := row_at hR hL (List.getElem?_eq_getElem hi)
    have hke := hk es[i] (List.getElem_mem hi)
    refine ⟨es[i], b, o, x, List.getElem?_eq_getElem hi, e1, e2, h5, ?_⟩
    generalize es[i] = e at hx hke ⊢
    obtain ⟨k, n, s, kk, fs⟩ := e
    obtain ⟨A1, a1, B1, b1, ys, hcs, -⟩ := lies_open hx
    unfold Fv.cs at hcs
    simp only [List.cons.injEq, and_true, Value.slice.injEq, Value.int.injEq] at hcs
    unfold kdV at hke
    unfold elemsV
    exact ⟨by rw [hcs.1.2]; exact hke, hcs.2.2.2.2.2.1⟩
  have HCO : Hid (∀ (ix : Nat) W, Below w.heap.size w W → ix ≤ 1000000 → Calls Try.prog 19 #[.slice B es.length b0, .int .i64 (ix : Int)] W (CoPost (· < w.heap.size) es ix es.length W)) := Lib.hid fun ix W hW hix => column_any (· < w.heap.size) es ix B b0 xs W (fun b hb => Nat.lt_of_lt_of_le hb hW.size) (hR.move fun b hb => ⟨hb, hW.block b hb⟩) (hL.move fun b hb => ⟨hb, hW.block b hb⟩) (by omega) hix
  have HTA : Hid (∀ (g : Nat) (w1 wr : World) (ys : List Fv), TrSt g (lng es es.length) es w1 wr (lng es es.length) ys → Calls Try.prog 16 #[.slice (some ⟨g, 0, none⟩) (lng es es.length) (lng es es.length)] wr (RetPost (tabR (colsV es (lng es es.length))) (tabE (colsV es (lng es es.length))) wr)) := Lib.hid fun g w1 wr ys h => by
    obtain ⟨A', c', he, h0, hc, hmx, hr⟩ := own_open h.own
    cases he
    have hh := h.head
    rw [List.take_of_length_le (by rw [h.len]; exact Nat.le_refl _)] at hh
    have := tarr_any (colsV es (lng es es.length)) (some ⟨g, 0, none⟩) (lng es es.length) _ wr ⟨⟨hr.move fun b hb => ⟨hb.2.1, rfl⟩, hh.move fun b hb => ⟨hb.1, rfl⟩⟩, h0, by rw [colsV_len]; exact hc, hmx, by rw [colsV_len]; omega⟩
    rw [colsV_len] at this
    exact this
  have HLS : Hid (∀ i e, es[i]? = some e → lng es (i + 1) = max (lng es i) (elemsV e).length) := Lib.hid fun i e he => lng_succ he
  have HLM : Hid (∀ i, i ≤ es.length → lng es i ≤ lng es es.length) := Lib.hid fun i hi => lng_mono hi
  have HL0 : Hid (lng es 0 = 0) := Lib.hid rfl
  clear hl hv hk hmi hR hL
  show Calls _ _ #[.agg #[.int .i64 5, .int .i64 nv, .string sv, .slice A kv1.length a, .slice B es.length b0]] w _
  generalize kv1.length = n1 at *
  generalize tabR (colsV es (lng es es.length)) = R at *
  generalize tabE (colsV es (lng es es.length)) = E at *
  have hT0 := TrLo.start es #[.int .i64 5, .int .i64 nv, .string sv, .slice A n1 a, .slice B es.length b0] w
  generalize hnn : es.length = n at *
  generalize hmm : lng es n = m at *
  have hmk := made_nulls m (by omega)
  have HT0 := Lib.hid hT0
  have HMM := Lib.hid hmm
  have HST := Lib.hid (fun w1 => TrSt.start w1 m es (by omega))
  clear hT0 hnn hmm
  go_enter Try.func10, Try.ntmps10
  go_wp2_with fail
  refine (HMF.out _ (HT0.out.nextB (below1 _ (.cells #[.int .i64 5] 3))).below (some ⟨w.heap.size + 1 + 1, 0, none⟩) 1 (rd_laid (cs := [.int .i64 5]) (by simp))).mono ?_
  rintro e1 w1 ⟨rfl, hb1⟩
  have HT1 := Lib.hid ((HT0.out.nextB (below1 _ (.cells #[.int .i64 5] 3))).nextB hb1)
  clear hb1 HMF HT0
  obtain ⟨t0, t1, t2, t3, t4⟩ := box5 HT1.out.box
  go_wp2_with fail
  clear t0 t1 t2 t3 t4
  go_loopg [5, 20] n (fun gg s5 s20 wr => ∃ i : Nat, s5 = .int .i64 (lng es i) ∧ s20 = .int .i64 i ∧ i ≤ n ∧ n - i ≤ gg ∧ Hid (TrLo es #[.int .i64 5, .int .i64 nv, .string sv, .slice A n1 a, .slice B n b0] w wr))
  case atStart => exact ⟨0, by rw [HL0.out]; rfl, rfl, Nat.zero_le _, by omega, HT1⟩
  case round =>
    clear HT1
    obtain ⟨i, rfl, rfl, hin, hg, HT⟩ := hrel
    by_cases hlt : i < n
    · obtain ⟨e, b, o, x, he, rfl, hb, h5, hx5, hxl⟩ := HE.out i hlt
      obtain ⟨f0, f1, f2, f3, f4⟩ := h5.below HT.out.below hb
      obtain ⟨xk, xn, xs0, xA, xla, xa, xC, xlc, xc⟩ := x
      dsimp only at f0 f1 f2 f3 f4 hx5 hxl
      subst hx5
      have hi0 : (0 : Int) ≤ (i : Int) := by omega
      have hil : (i : Int) < (n : Int) := by omega
      have HT2 := Lib.hid (HT.out.nextB (below1 wr (.cells #[.int .i64 5, .int .i64 xn, .string xs0, .slice xA xla xa, .slice xC xlc xc] 27)))
      have HLX : Hid ((max (lng es i : Int) (xlc : Int)) = ((lng es (i + 1) : Nat) : Int)) := Lib.hid (by have hls := HLS.out i e he; rw [← hxl] at hls; omega)
      have hil1 := HLM.out i hin
      generalize hL1 : lng es i = L1 at HLX hil1 ⊢
      clear HT h5 hxl hL1
      go_wp2_with fail
      go_roundg (n - (i + 1))
      case measure => omega
      case rel => exact ⟨i + 1, by rw [HLX.out], by first | rfl | go_num, by omega, Nat.le_refl _, HT2⟩
    · obtain rfl : i = n := by omega
      have hil : ¬ ((i : Int) < (i : Int)) := by omega
      generalize wr = wq at *
      have hmn0 : (0 : Int) ≤ (m : Int) * (i : Int) := Int.mul_nonneg (by omega) (by omega)
      have hmn1 : (m : Int) * (i : Int) ≤ 4096 := by exact_mod_cast hm
      have hmn2 : ¬ ((4096 : Int) < (m : Int) * (i : Int)) := by omega
      obtain ⟨t0, t1, t2, t3, t4⟩ := box5 HT.out.box
      rw [HMM.out]
      have HS0 := Lib.hid (HST.out wq)
      have HTB := Lib.hid HT.out.below
      have HTX := Lib.hid HT.out.box
      have HTR := Lib.hid HT.out.res
      have hwr : w.heap.size < wq.heap.size := HT.out.box.lt
      clear HST HT HE HLS HLM HL0 HMM
      go_wp2_with fail
      clear hmk t0 t1 t2 t3 t4
      generalize (wq.alloc (.cells (zl m).toArray 27)) = w2 at HS0 ⊢
      go_loopg [9, 45] m (fun gg s9 s45 wr => ∃ (j : Nat) (ys : List Fv), s45 = .int .i64 j ∧ j ≤ m ∧ m - j ≤ gg ∧ Hid (TrSt wq.heap.size m es wq wr j ys))
      case atStart => exact ⟨0, _, rfl, Nat.zero_le _, by omega, HS0⟩
      case round =>
        clear HS0
        obtain ⟨j, ys, rfl, hjm, hg2, HS⟩ := hrel
        have hbw := HS.out.below
        obtain ⟨t0, t1, t2, t3, t4⟩ := box5 (HTX.out.below hbw HTX.out.lt)
        by_cases hlt : j < m
        · have hi0 : (0 : Int) ≤ (j : Int) := by omega
          have hil2 : (j : Int) < (m : Int) := by omega
          have HC := Lib.hid (HCO.out j wr (HTB.out.trans (hbw.mono HTB.out.size)) (by omega))
          clear hbw
          go_wp2_with fail
          refine HC.out.mono ?_
          rintro e2 w3 ⟨hb3, g3, rfl, hg3, hg3l, hl3⟩
          have HS3 := Lib.hid (HS.out.nextB hb3)
          have hsx := HS.out.below.size
          have hglt : wq.heap.size < w3.heap.size := (HS3.out.own.lt _ rfl).2
          have hgw : wq.heap.size < wr.heap.size := (HS.out.own.lt _ rfl).2
          have HD3 := HS3.out.put (x := ⟨5, 0, ⟨#[]⟩, none, 0, 0, some ⟨g3, 0, none⟩, i, i⟩) hlt (hl3.move fun b hb => ⟨by rcases hb with h | h <;> omega, rfl⟩)
          dsimp only at HD3
          obtain ⟨y0, hy0⟩ := HS3.out.there (j * 5) (by omega)
          obtain ⟨y1, hy1⟩ := HS3.out.there (j * 5 + 1) (by omega)
          obtain ⟨y2, hy2⟩ := HS3.out.there (j * 5 + 2) (by omega)
          obtain ⟨y3, hy3⟩ := HS3.out.there (j * 5 + 3) (by omega)
          obtain ⟨y4, hy4⟩ := HS3.out.there (j * 5 + 4) (by omega)
          have z0 := HS3.out.free (j * 5)
          have z1 := HS3.out.free (j * 5 + 1)
          have z2 := HS3.out.free (j * 5 + 2)
          have z3 := HS3.out.free (j * 5 + 3)
          have z4 := HS3.out.free (j * 5 + 4)
          clear hl3 hb3 HS t0 t1 t2 t3 t4
          go_wp2_with fail
          generalize (((((w3.setCell ⟨wq.heap.size, j * 5, none⟩ (.int .i64 5)).setCell ⟨wq.heap.size, j * 5 + 1, none⟩ (.int .i64 0)).setCell ⟨wq.heap.size, j * 5 + 2, none⟩ (.string ⟨#[]⟩)).setCell ⟨wq.heap.size, j * 5 + 3, none⟩ (.slice none 0 0)).setCell ⟨wq.heap.size, j * 5 + 4, none⟩ (.slice (some ⟨g3, 0, none⟩) i i)) = W9 at HD3 ⊢
          have HD4 := Lib.hid HD3
          clear HD3 HS3 hy0 hy1 hy2 hy3 hy4 z0 z1 z2 z3 z4
          go_roundg (m - (j + 1))
          case measure => omega
          case rel => exact ⟨j + 1, _, by first | rfl | go_num, by omega, Nat.le_refl _, HD4⟩
        · obtain rfl : j = m := by omega
          have hil2 : ¬ ((j : Int) < (j : Int)) := by omega
          have HC2 := Lib.hid (ret_open (HTA.out _ _ _ _ HS.out))
          have HB2 := Lib.hid (HTB.out.trans (hbw.mono HTB.out.size))
          have HR2 := Lib.hid (HTR.out.below hbw HTR.out.lt)
          clear HTA HCO hbw t0 t1 t2 t3 t4
          go_wp2_with fail
          refine HC2.out.mono ?_
          rintro e3 w3 ⟨rk, rn, rs, rks, res, RA, ra, RC, rc, hrv, rfl, hb3, hl3⟩
          have hres := HR2.out.below hb3 HR2.out.lt
          have h3lt : w.heap.size + 1 < wr.heap.size := HR2.out.lt
          have HL3 := Lib.hid hl3
          obtain ⟨t0, t1, t2, t3, t4⟩ := box5 hres
          have z0 := hres.free 0
          have z1 := hres.free 1
          have z2 := hres.free 2
          have z3 := hres.free 3
          have z4 := hres.free 4
          have HB3 := Lib.hid (HB2.out.trans (hb3.mono HB2.out.size))
          have HRL := Lib.hid hres.lt
          have hs3 := hb3.size
          clear hrv hl3 hb3 hres
          go_wp2_with fail
          refine bodyPost_ret (v := .tuple #[.agg #[.int .i64 rk, .int .i64 rn, .string rs, .slice RA rks.length ra, .slice RC res.length rc], .int .i64 E]) (by simp [results, Try.results10, go_sem, t0, t1, t2, t3, t4]) rfl ?_
          exact ret_put HB3.out (by omega) HRL.out (HL3.out.move fun b hb => ⟨⟨by omega, hb.2, by omega⟩, rfl⟩)
end Go.Proofs.Ytnokmlclephjgaa

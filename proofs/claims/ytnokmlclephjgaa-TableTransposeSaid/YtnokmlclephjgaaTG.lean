/- slices.Reverse at values: a row of the call's own. table.Reverse at a valid array. table.flatten at depth 0 and at depth 1, table.Flatten. table.flatten at depth 1 over rows of arrays; table.Flatten at both depths. -/
import Derived.Test.YtnokmlclephjgaaTB
import Derived.Test.YtnokmlclephjgaaTD
import Derived.Deep.LoopGhost
import Derived.Deep.DeepCutAuto
import Derived.BigRegion
import Derived.Test.YtnokmlclephjgaaTF
import Derived.Test.YtnokmlclephjgaaTC
import Derived.Deep.AppendLies
set_option linter.unusedVariables false
set_option linter.unusedSimpArgs false
namespace Go.Proofs.Ytnokmlclephjgaa
open Go.RowKit
/-- Behind i rounds. -/
structure RvSt (g n c base : Nat) (zs : List Fv) (w : World) (i : Nat) (wr : World) (ys : List Fv) : Prop where
  own : wr.ownsRow base 27 5 (.slice (some ⟨g, 0, none⟩) n c) n (ys.flatMap Fv.cs)
  len : ys.length = n
  rev : ∀ k, k < n → ys[k]? = if k < i ∨ n ≤ k + i then zs[n - 1 - k]? else zs[k]?
  grown : w.grownBy wr (some g)
section
variable {g n c base : Nat} {zs : List Fv} {w wr : World} {i j : Nat} {ys : List Fv}
theorem RvSt.free (h : RvSt g n c base zs w i wr ys) (k : Nat) : wr.frozen? ⟨g, k, none⟩ = false := h.own.frozenAt k
theorem RvSt.at_ (h : RvSt g n c base zs w i wr ys) {k : Nat} {x : Fv} (hx : ys[k]? = some x) : FiveAt wr g (k * 5) x := by
  obtain ⟨hk, _⟩ := List.getElem?_eq_some_iff.1 hx
  have hkn : k < n := by rw [← h.len]; exact hk
  have g' : ∀ r, r < 5 → ∀ u, x.cs[r]? = some u → wr.cell? ⟨g, k * 5 + r, none⟩ = some u := fun r hr u hu => by
    rw [h.own.cellAt (k * 5 + r) (by omega), flat_get _ _ (by have := h.len; omega), show (k * 5 + r) / 5 = k by omega, show (k * 5 + r) % 5 = r by omega]
    have : ys[k]! = x := by rw [getElem!_def, hx]
    rw [this]
    have h5 := five_get x r hr
    rw [h5] at hu
    exact hu
  exact ⟨g' 0 (by decide) _ rfl, g' 1 (by decide) _ rfl, g' 2 (by decide) _ rfl, g' 3 (by decide) _ rfl, g' 4 (by decide) _ rfl⟩
theorem RvSt.put (h : RvSt g n c base zs w i wr ys) {x y : Fv} (hx : ys[i]? = some x) (hy : ys[j]? = some y) (hij : i < j) (hs : i + j + 1 = n) :
    RvSt g n c base zs w (i + 1) ((((((((((wr.setCell ⟨g, i * 5, none⟩ (.int .i64 y.k)).setCell ⟨g, i * 5 + 1, none⟩ (.int .i64 y.n)).setCell ⟨g, i * 5 + 2, none⟩ (.string y.s)).setCell ⟨g, i * 5 + 3, none⟩ (.slice y.A y.la y.a)).setCell ⟨g, i * 5 + 4, none⟩ (.slice y.C y.lc y.c)).setCell ⟨g, j * 5, none⟩ (.int .i64 x.k)).setCell ⟨g, j * 5 + 1, none⟩ (.int .i64 x.n)).setCell ⟨g, j * 5 + 2, none⟩ (.string x.s)).setCell ⟨g, j * 5 + 3, none⟩ (.slice x.A x.la x.a)).setCell ⟨g, j * 5 + 4, none⟩ (.slice x.C x.lc x.c)) ((ys.set i y).set j x) := by
  have hl := h.len
  have hg := fun {W : World} {k : Nat} {u : Value} (hW : w.grownBy W (some g)) => grown_trans hW (grown_set W g k u)
  refine ⟨?_, by rw [List.length_set, List.length_set]; exact hl, fun k hk => ?_, hg (hg (hg (hg (hg (hg (hg (hg (hg (hg h.grown)))))))))⟩
  · rw [← flat_set x (ys.set i y) j (by rw [List.length_set]; omega), ← flat_set y ys i (by omega)]
    exact own_set (own_set (own_set (own_set (own_set (own_set (own_set (own_set (own_set (own_set h.own (i := i * 5) (by omega) _) (i := i * 5 + 1) (by omega) _) (i := i * 5 + 2) (by omega) _) (i := i * 5 + 3) (by omega) _) (i := i * 5 + 4) (by omega) _) (i := j * 5) (by omega) _) (i := j * 5 + 1) (by omega) _) (i := j * 5 + 2) (by omega) _) (i := j * 5 + 3) (by omega) _) (i := j * 5 + 4) (by omega) _
  · have hri := h.rev i (by omega)
    have hrj := h.rev j (by omega)
    rw [if_neg (by omega)] at hri hrj
    have h1 : n - 1 - j = i := by omega
    have h2 : n - 1 - i = j := by omega
    by_cases hkj : k = j
    · subst hkj
      rw [List.getElem?_set_self (by rw [List.length_set]; omega), if_pos (by omega), h1, ← hri, hx]
    · rw [List.getElem?_set_ne (by omega)]
      by_cases hki : k = i
      · subst hki
        rw [List.getElem?_set_self (by omega), if_pos (by omega), h2, ← hrj, hy]
      · rw [List.getElem?_set_ne (by omega), h.rev k hk]
        by_cases hc : k < i ∨ n ≤ k + i
        · rw [if_pos hc, if_pos (by omega)]
        · rw [if_neg hc, if_neg (by omega)]
theorem RvSt.drew (h : RvSt g n c base zs w i wr ys) : RvSt g n c base zs w i wr.drew ys :=
  ⟨own_still h.own fun b _ => rfl, h.len, h.rev, grown_trans h.grown ⟨rfl, rfl, rfl, Nat.le_refl _, fun _ _ _ => rfl⟩⟩
theorem RvSt.done (h : RvSt g n c base zs w i wr ys) (hz : zs.length = n) (hi : n ≤ 2 * i + 1) : ys = zs.reverse := by
  apply List.ext_getElem?
  intro k
  rcases Nat.lt_or_ge k n with hk | hk
  · rw [h.rev k hk, List.getElem?_reverse (by omega), hz]
    by_cases hc : k < i ∨ n ≤ k + i
    · rw [if_pos hc]
    · rw [if_neg hc]
      have : n - 1 - k = k := by omega
      rw [this]
  · rw [List.getElem?_eq_none (by rw [h.len]; exact hk), List.getElem?_eq_none (by rw [List.length_reverse, hz]; exact hk)]
end
set_option maxHeartbeats 4000000 in
set_option maxRecDepth 100000 in
theorem reverse_any (g n c base : Nat) (zs : List Fv) (w : World) (ho : w.ownsRow base 27 5 (.slice (some ⟨g, 0, none⟩) n c) n (zs.flatMap Fv.cs)) (hz : zs.length = n) (hn : n ≤ 1000000) :
    Calls Try.prog 25 #[.slice (some ⟨g, 0, none⟩) n c] w fun e w' => (∃ v, e = .returned v) ∧ w'.ownsRow base 27 5 (.slice (some ⟨g, 0, none⟩) n c) n (zs.reverse.flatMap Fv.cs) ∧ w.grownBy w' (some g) := by
  have HS0 : Hid (RvSt g n c base zs w 0 w zs) := Lib.hid ⟨ho, hz, fun k hk => by rw [if_neg (by omega)], ⟨rfl, rfl, rfl, Nat.le_refl _, fun _ _ _ => rfl⟩⟩
  have HZ := Lib.hid hz
  clear ho hz
  go_enter Try.func25, Try.ntmps25
  go_wp2_with fail
  go_loopg [2, 3] n (fun gg s2 s3 wr => ∃ (i : Nat) (j : Int) (ys : List Fv), s2 = .int .i64 i ∧ s3 = .int .i64 j ∧ (i : Int) + j + 1 = n ∧ i ≤ n ∧ n - i ≤ gg ∧ Hid (RvSt g n c base zs w i wr ys))
  case atStart => exact ⟨0, (n : Int) - 1, zs, rfl, by first | rfl | go_num, by omega, Nat.zero_le _, by omega, HS0⟩
  case round =>
    clear HS0
    obtain ⟨i, jj, ys, rfl, rfl, hsum, hin, hg, HS⟩ := hrel
    by_cases hlt : (i : Int) < jj
    · obtain ⟨j, rfl⟩ : ∃ j : Nat, jj = (j : Int) := ⟨jj.toNat, by omega⟩
      obtain ⟨x, hx⟩ : ∃ x, ys[i]? = some x := ⟨_, List.getElem?_eq_getElem (by rw [HS.out.len]; omega)⟩
      obtain ⟨y, hy⟩ : ∃ y, ys[j]? = some y := ⟨_, List.getElem?_eq_getElem (by rw [HS.out.len]; omega)⟩
      obtain ⟨x0, x1, x2, x3, x4⟩ := HS.out.at_ hx
      obtain ⟨y0, y1, y2, y3, y4⟩ := HS.out.at_ hy
      have HD := HS.out.put hx hy (by omega) (by omega)
      have z0 := HS.out.free (i * 5)
      have z1 := HS.out.free (i * 5 + 1)
      have z2 := HS.out.free (i * 5 + 2)
      have z3 := HS.out.free (i * 5 + 3)
      have z4 := HS.out.free (i * 5 + 4)
      have q0 := HS.out.free (j * 5)
      have q1 := HS.out.free (j * 5 + 1)
      have q2 := HS.out.free (j * 5 + 2)
      have q3 := HS.out.free (j * 5 + 3)
      have q4 := HS.out.free (j * 5 + 4)
      have hi0 : (0 : Int) ≤ (i : Int) := by omega
      have hj0 : (0 : Int) ≤ (j : Int) := by omega
      have hin2 : (i : Int) < (n : Int) := by omega
      have hjn2 : (j : Int) < (n : Int) := by omega
      clear hx hy HS
      go_upto_region 3 with fail
      go_region
      have HD2 := Lib.hid HD.drew
      generalize (((((((((((wr.setCell ⟨g, i * 5, none⟩ (.int .i64 y.k)).setCell ⟨g, i * 5 + 1, none⟩ (.int .i64 y.n)).setCell ⟨g, i * 5 + 2, none⟩ (.string y.s)).setCell ⟨g, i * 5 + 3, none⟩ (.slice y.A y.la y.a)).setCell ⟨g, i * 5 + 4, none⟩ (.slice y.C y.lc y.c)).setCell ⟨g, j * 5, none⟩ (.int .i64 x.k)).setCell ⟨g, j * 5 + 1, none⟩ (.int .i64 x.n)).setCell ⟨g, j * 5 + 2, none⟩ (.string x.s)).setCell ⟨g, j * 5 + 3, none⟩ (.slice x.A x.la x.a)).setCell ⟨g, j * 5 + 4, none⟩ (.slice x.C x.lc x.c)).drew) = W9 at HD2 ⊢
      clear HD x0 x1 x2 x3 x4 y0 y1 y2 y3 y4 z0 z1 z2 z3 z4 q0 q1 q2 q3 q4
      go_wp2_with fail
      go_roundg (n - (i + 1))
      case measure => omega
      case rel => exact ⟨i + 1, (j : Int) - 1, _, by first | rfl | go_num, by first | rfl | go_num, by omega, by omega, Nat.le_refl _, HD2⟩
    · have hrev := HS.out.done HZ.out (by omega)
      subst hrev
      go_wp2_with fail
      go_end0
      exact ⟨⟨_, rfl⟩, HS.out.own, HS.out.grown⟩
end Go.Proofs.Ytnokmlclephjgaa
namespace Go.Proofs.Ytnokmlclephjgaa
open Go.RowKit
set_option maxHeartbeats 4000000 in
set_option maxRecDepth 100000 in
theorem reverse_nil (w : World) : Calls Try.prog 25 #[.slice none 0 0] w fun e w' => (∃ v, e = .returned v) ∧ w' = w := by
  go_enter Try.func25, Try.ntmps25
  go_wp2_with fail
  go_loopg [2, 3] 0 (fun gg s2 s3 wr => s2 = .int .i64 0 ∧ s3 = .int .i64 (-1) ∧ wr = w)
  case atStart => exact ⟨rfl, by first | rfl | go_num, rfl⟩
  case round =>
    obtain ⟨rfl, rfl, rfl⟩ := hrel
    go_wp2_with fail
    go_end0
    exact ⟨⟨_, rfl⟩, rfl⟩
theorem rev_own {base n : Nat} {V : Value} {zs : List Fv} {w : World} (ho : w.ownsRow base 27 5 V n (zs.flatMap Fv.cs)) (hn : n ≤ 1000000) :
    Calls Try.prog 25 #[V] w fun e w' => (∃ v, e = .returned v) ∧ w'.ownsRow base 27 5 V n (zs.reverse.flatMap Fv.cs) ∧ w.grownBy w' V.ownBlock := by
  have hz : zs.length = n := by have h1 := ho.1; rw [flat_len] at h1; omega
  rcases ho.2 with ⟨rfl, rfl⟩ | ⟨g, cap, cur, rfl, _⟩
  · obtain rfl : zs = [] := List.eq_nil_of_length_eq_zero hz
    refine (reverse_nil w).mono ?_
    rintro e w' ⟨he, rfl⟩
    exact ⟨he, World.ownsRow_nil _ _ _ _, ⟨rfl, rfl, rfl, Nat.le_refl _, fun _ _ _ => rfl⟩⟩
  · exact reverse_any g n cap base zs w ho hz hn
/-- What Reverse does behind the call of Clone, told ahead. -/
def RePost (n : Nat) (R : V) (E : Int) (W : World) (e : Ending) (w1 : World) : Prop :=
  Below W.heap.size W w1 ∧ ∃ (A : Option Addr) (c : Nat), e = .returned (.slice A n c) ∧ Hid (Calls Try.prog 25 #[.slice A n c] w1 fun e3 w3 => (∃ v, e3 = .returned v) ∧ Below W.heap.size w1 w3 ∧ Hid (Calls Try.prog 16 #[.slice A n c] w3 (RetPost R E w3)))
theorem clone_rev {es : List V} {A : Option Addr} {c : Nat} {xs : List Value} {w : World} (hR : Rs w (· < w.heap.size) A xs) (hL : LiesL w (· < w.heap.size) es xs) (hnil : A = none → c = 0) (hn : es.length ≤ 1000000) :
    Calls Try.prog 24 #[.slice A es.length c] w (RePost es.length (tabR es.reverse) (tabE es.reverse) w) := by
  obtain ⟨l, rfl, rfl, hl⟩ := liesL_fv es xs hL
  have hlen : (l.map Prod.snd).length = (l.map Prod.fst).length := by simp
  refine (sclone_any A (l.map Prod.fst).length c (l.map Prod.snd) w hR hlen hnil hn).mono ?_
  rintro e w1 ⟨V1, rfl, ho, hb⟩
  obtain ⟨A1, c1, rfl, h0, hc, hm, hr⟩ := own_open ho
  refine ⟨hb, A1, c1, rfl, Lib.hid ((rev_own ho hn).mono ?_)⟩
  rintro e3 w3 ⟨he3, ho3, hg3⟩
  have hB : Below w.heap.size w1 w3 := ⟨hg3.os, hg3.tape, hg3.output, hg3.size, fun k hk => hg3.block k (Nat.lt_of_lt_of_le hk hb.size) fun e => by have := (ho.lt k e.symm).1; omega⟩
  refine ⟨he3, hB, Lib.hid ?_⟩
  obtain ⟨A2, c2, e2, h02, hc2, hm2, hr2⟩ := own_open ho3
  injection e2 with e2 _ e3'
  subst e2 e3'
  have hlies : LiesL w3 (· < w3.heap.size) (l.map Prod.fst).reverse ((l.map Prod.snd).reverse.flatMap Fv.cs) := by
    rw [← List.map_reverse, ← List.map_reverse]
    refine liesL_of l.reverse fun p hp => ?_
    exact (hl p (by simpa using hp)).move fun b hb' => ⟨Nat.lt_of_lt_of_le (Nat.lt_of_lt_of_le hb' hb.size) hB.size, (hB.block b hb').trans (hb.block b hb')⟩
  have := tarr_any (l.map Prod.fst).reverse A1 c1 _ w3 ⟨⟨hr2.move fun b hb => ⟨hb.2.1, rfl⟩, hlies⟩, h02, by rw [List.length_reverse]; exact hc2, hm2, by rw [List.length_reverse]; omega⟩
  rw [List.length_reverse] at this
  exact this
set_option maxHeartbeats 4000000 in
set_option maxRecDepth 100000 in
theorem tReverse_any {nv : Int} {sv : ByteArray} {kv1 : List ByteArray} {es : List V} {cs : List Value} {w : World} (hl : Lies w (· < w.heap.size) (.mk 5 nv sv kv1 es) cs) (hv : valid (.mk 5 nv sv kv1 es) = true) (hlen : es.length ≤ 1000000) :
    Calls Try.prog 11 #[.agg cs.toArray] w (RetPost (tabR es.reverse) (tabE es.reverse) w) := by
  have HMF := Lib.hid (fun W (hW : Below w.heap.size w W) A c (hR : Rd W W.heap.size A ([0, 5, 4].map (Value.int .i64))) => misfit_any (below_lies hW hl) A c [0, 5, 4] hR (by decide))
  have hmi : misE (.mk 5 nv sv kv1 es) [0, 5, 4] = 0 := by unfold misE; simp only; rw [if_pos hv, if_pos (by decide)]
  rw [hmi] at HMF
  obtain ⟨A, a, B, b0, xs, rfl, -, hB0, -, -, -, hR, hL⟩ := lies_open hl
  have HCL : Hid (∀ W, Below w.heap.size w W → Calls Try.prog 24 #[.slice B es.length b0] W (RePost es.length (tabR es.reverse) (tabE es.reverse) W)) := Lib.hid fun W hW => clone_rev (hR.move fun b hb => ⟨Nat.lt_of_lt_of_le hb hW.size, hW.block b hb⟩) (hL.move fun b hb => ⟨Nat.lt_of_lt_of_le hb hW.size, hW.block b hb⟩) hB0 hlen
  clear hl hv hmi hR hL hlen hB0
  show Calls _ _ #[.agg #[.int .i64 5, .int .i64 nv, .string sv, .slice A kv1.length a, .slice B es.length b0]] w _
  have HT0 := Lib.hid (TrLo.start es #[.int .i64 5, .int .i64 nv, .string sv, .slice A kv1.length a, .slice B es.length b0] w)
  generalize kv1.length = n1 at *
  generalize tabR es.reverse = R at *
  generalize tabE es.reverse = E at *
  generalize es.length = n at *
  generalize hS : RePost n R E = SP at HCL
  go_enter Try.func11, Try.ntmps11
  go_wp2_with fail
  refine (HMF.out _ (HT0.out.nextB (below1 _ (.cells #[.int .i64 0, .int .i64 5, .int .i64 4] 3))).below (some ⟨w.heap.size + 1 + 1, 0, none⟩) 3 (rd_laid (cs := [.int .i64 0, .int .i64 5, .int .i64 4]) (by simp))).mono ?_
  rintro e1 w1 ⟨rfl, hb1⟩
  have HT1 := Lib.hid ((HT0.out.nextB (below1 _ (.cells #[.int .i64 0, .int .i64 5, .int .i64 4] 3))).nextB hb1)
  clear hb1 HMF HT0
  obtain ⟨t0, t1, t2, t3, t4⟩ := box5 HT1.out.box
  go_wp2_with fail
  refine (HCL.out _ HT1.out.below).mono ?_
  rintro e2 w2 hp
  subst hS
  obtain ⟨hb2, A2, c2, rfl, HRV⟩ := hp
  have HT2 := Lib.hid (HT1.out.nextB hb2)
  have hs2 := hb2.size
  have hs1 : w.heap.size + 1 < w1.heap.size := HT1.out.res.lt
  clear hb2 HCL t0 t1 t2 t3 t4
  go_wp2_with fail
  refine HRV.out.mono ?_
  rintro e3 w3 ⟨⟨v3, rfl⟩, hb3, HAR⟩
  have HA := Lib.hid (ret_open HAR.out)
  have HB3 : Hid (Below w.heap.size w w3) := Lib.hid (HT2.out.below.trans (hb3.mono (by have := HT1.out.below.size; omega)))
  have HR3 : Hid (Box w3 (w.heap.size + 1) 27 #[.int .i64 0, .int .i64 0, .string ⟨#[]⟩, .slice none 0 0, .slice none 0 0]) := Lib.hid (HT2.out.res.below hb3 hs1)
  clear hb3 HRV HT2 HAR HT1
  go_wp2_with fail
  refine HA.out.mono ?_
  rintro e4 w4 ⟨rk, rn, rs, rks, res, RA, ra, RC, rc, hrv, rfl, hb4, hl4⟩
  have hres := HR3.out.below hb4 HR3.out.lt
  have h3lt : w.heap.size + 1 < w3.heap.size := HR3.out.lt
  have HL4 := Lib.hid hl4
  obtain ⟨t0, t1, t2, t3, t4⟩ := box5 hres
  have z0 := hres.free 0
  have z1 := hres.free 1
  have z2 := hres.free 2
  have z3 := hres.free 3
  have z4 := hres.free 4
  have HB4 := Lib.hid (HB3.out.trans (hb4.mono HB3.out.size))
  have HRL := Lib.hid hres.lt
  have hs4 := hb4.size
  clear hrv hl4 hb4 hres
  go_wp2_with fail
  refine bodyPost_ret (v := .tuple #[.agg #[.int .i64 rk, .int .i64 rn, .string rs, .slice RA rks.length ra, .slice RC res.length rc], .int .i64 E]) (by simp [results, Try.results11, go_sem, t0, t1, t2, t3, t4]) rfl ?_
  exact ret_put HB4.out (by omega) HRL.out (HL4.out.move fun b hb => ⟨⟨by omega, hb.2, by omega⟩, rfl⟩)
end Go.Proofs.Ytnokmlclephjgaa
namespace Go.Proofs.Ytnokmlclephjgaa
open Go.RowKit
/-- Between two rounds: the row so far. -/
structure FlSt (base n : Nat) (xs : List Value) (zs : List Fv) (w wr : World) (i : Nat) (V : Value) : Prop where
  own : wr.ownsRow base 27 5 V (n + i) (xs ++ (zs.take i).flatMap Fv.cs)
  below : Below base w wr
set_option maxHeartbeats 4000000 in
set_option maxRecDepth 100000 in
theorem flat0_any (base n m : Nat) (V : Value) (xs : List Value) (zs : List Fv) (B : Option Addr) (b : Nat) (w : World) (ho : w.ownsRow base 27 5 V n xs) (hR : FvRow base w B zs) (hm : zs.length = m) (hb : base ≤ w.heap.size) (hnm : n + m ≤ 1000000) :
    Calls Try.prog 27 #[V, .slice B m b, .int .i64 0] w fun e w' => ∃ V', e = .returned V' ∧ w'.ownsRow base 27 5 V' (n + m) (xs ++ zs.flatMap Fv.cs) ∧ Below base w w' := by
  obtain ⟨i0, hi, hz0, hz1, hz2⟩ := info_parts inf_value
  have HS0 : Hid (FlSt base n xs zs w w 0 V) := Lib.hid ⟨by rw [List.take_zero]; simpa using ho, Below.refl _ _⟩
  have HR := Lib.hid hR
  have HM := Lib.hid hm
  have HBB := Lib.hid hb
  obtain ⟨V0, hV0⟩ : ∃ V0, V0 = V := ⟨_, rfl⟩
  clear ho hR hm hb hV0 V0
  go_enter Try.func27, Try.ntmps27
  go_wp2_with fail
  go_loopg [0, 11] m (fun gg s0 s11 wr => ∃ i : Nat, s11 = .int .i64 i ∧ i ≤ m ∧ m - i ≤ gg ∧ Hid (FlSt base n xs zs w wr i s0))
  case atStart => exact ⟨0, rfl, Nat.zero_le _, by omega, HS0⟩
  case round =>
    clear HS0
    obtain ⟨i, rfl, hin, hg, HS⟩ := hrel
    by_cases hlt : i < m
    · obtain ⟨x, hx⟩ : ∃ x, zs[i]? = some x := ⟨_, List.getElem?_eq_getElem (by rw [HM.out]; exact hlt)⟩
      obtain ⟨bB, oB, rfl, hbB, h5⟩ := HR.out i x hx
      obtain ⟨f0, f1, f2, f3, f4⟩ := h5.below HS.out.below hbB
      obtain ⟨xk, xn, xs0, xA, xla, xa, xC, xlc, xc⟩ := x
      dsimp only at f0 f1 f2 f3 f4
      have hi0 : (0 : Int) ≤ (i : Int) := by omega
      have hil : (i : Int) < (m : Int) := by omega
      have HBS : Hid (base ≤ ((wr.alloc (.cells #[.int .i64 xk, .int .i64 xn, .string xs0, .slice xA xla xa, .slice xC xlc xc] 27)).alloc (.cells #[.int .i64 xk, .int .i64 xn, .string xs0, .slice xA xla xa, .slice xC xlc xc] 27)).heap.size) := Lib.hid (by have h1 := HS.out.below.size; have h2 := HBB.out; simp; omega)
      have hb2 : Below wr.heap.size wr ((wr.alloc (.cells #[.int .i64 xk, .int .i64 xn, .string xs0, .slice xA xla xa, .slice xC xlc xc] 27)).alloc (.cells #[.int .i64 xk, .int .i64 xn, .string xs0, .slice xA xla xa, .slice xC xlc xc] 27)) := below2 _ _ _
      have HO := Lib.hid (own_belowV HS.out.own hb2)
      have hcell : Hid (∀ j u, ([.int .i64 xk, .int .i64 xn, .string xs0, .slice xA xla xa, .slice xC xlc xc] : List Value)[j]? = some u → ((wr.alloc (.cells #[.int .i64 xk, .int .i64 xn, .string xs0, .slice xA xla xa, .slice xC xlc xc] 27)).alloc (.cells #[.int .i64 xk, .int .i64 xn, .string xs0, .slice xA xla xa, .slice xC xlc xc] 27)).cell? ((⟨wr.heap.size + 1, 0, none⟩ : Addr).add j) = some u) := Lib.hid fun j u hj => by
        have h3 : ((⟨wr.heap.size + 1, 0, none⟩ : Addr).add j) = ⟨wr.heap.size + 1, j, none⟩ := by
          unfold Addr.add
          by_cases h : j = 0 <;> simp [h]
        rw [h3]
        have hbx := Box.laid (wr.alloc (.cells #[.int .i64 xk, .int .i64 xn, .string xs0, .slice xA xla xa, .slice xC xlc xc] 27)) 27 #[.int .i64 xk, .int .i64 xn, .string xs0, .slice xA xla xa, .slice xC xlc xc]
        have e : (wr.alloc (.cells #[.int .i64 xk, .int .i64 xn, .string xs0, .slice xA xla xa, .slice xC xlc xc] 27)).heap.size = wr.heap.size + 1 := by simp
        rw [e] at hbx
        exact hbx.cell (by simpa using hj)
      have HNX : Hid (∀ g cap w5, w5.ownsRow base 27 5 (.slice (some ⟨g, 0, none⟩) (n + i + 1) cap) (n + i + 1) (xs ++ (zs.take i).flatMap Fv.cs ++ [.int .i64 xk, .int .i64 xn, .string xs0, .slice xA xla xa, .slice xC xlc xc]) → ((wr.alloc (.cells #[.int .i64 xk, .int .i64 xn, .string xs0, .slice xA xla xa, .slice xC xlc xc] 27)).alloc (.cells #[.int .i64 xk, .int .i64 xn, .string xs0, .slice xA xla xa, .slice xC xlc xc] 27)).grownBy w5 u0.ownBlock → FlSt base n xs zs w w5 (i + 1) (.slice (some ⟨g, 0, none⟩) (n + i + 1) cap)) := Lib.hid fun g cap w5 ho5 hg5 => by
        refine ⟨?_, ?_⟩
        · rw [List.take_add_one, hx, List.flatMap_append, ← List.append_assoc]
          exact ho5
        · have hbb : Below base wr ((wr.alloc (.cells #[.int .i64 xk, .int .i64 xn, .string xs0, .slice xA xla xa, .slice xC xlc xc] 27)).alloc (.cells #[.int .i64 xk, .int .i64 xn, .string xs0, .slice xA xla xa, .slice xC xlc xc] 27)) := hb2.mono (Nat.le_trans HBB.out HS.out.below.size)
          have hall := HS.out.below.trans hbb
          exact ⟨hg5.os.trans hall.os, hg5.tape.trans hall.tape, hg5.output.trans hall.output, Nat.le_trans hall.size hg5.size, fun k hk => (hg5.block k (Nat.lt_of_lt_of_le hk HBS.out) (fun e => by have := (HO.out.lt k e.symm).1; omega)).trans (hall.block k hk)⟩
      clear HS hb2 hx h5
      by_cases hk5 : xk = 5
      · subst hk5
        go_wp2_with (at_builtin; refine wpList_append_lies _ rfl (.tmp 28) (.tmp 30) 24 rfl base 27 i0 zeroVal 5 80 Try.underlying24 hi hz0 hz1 hz2 rfl (by decide) u0 (n + i) (xs ++ (zs.take i).flatMap Fv.cs) rfl HO.out ⟨wr.heap.size + 1, 0, none⟩ 1 1 [.int .i64 5, .int .i64 xn, .string xs0, .slice xA xla xa, .slice xC xlc xc] rfl rfl (hcell.out) (Fv.one ⟨5, xn, xs0, xA, xla, xa, xC, xlc, xc⟩) (by decide) (by unfold maxLen; omega) (by omega) HBS.out (wr.heap.size + 2) (by simp) ?_; intro g cap w5 hown5 hgr5 hor5 hlt5)
        have HS5 : Hid (FlSt base n xs zs w w5 (i + 1) (.slice (some ⟨g, 0, none⟩) (n + i + 1) cap)) := Lib.hid (HNX.out g cap w5 hown5 hgr5)
        clear hown5 hgr5 hor5 hlt5 HO HNX hcell HBS
        go_roundg (m - (i + 1))
        case measure => omega
        case rel => exact ⟨i + 1, by first | rfl | go_num, by omega, Nat.le_refl _, HS5⟩
      · have hkb : (xk == 5) = false := by simpa using hk5
        go_wp2_with (at_builtin; refine wpList_append_lies _ rfl (.tmp 28) (.tmp 30) 24 rfl base 27 i0 zeroVal 5 80 Try.underlying24 hi hz0 hz1 hz2 rfl (by decide) u0 (n + i) (xs ++ (zs.take i).flatMap Fv.cs) rfl HO.out ⟨wr.heap.size + 1, 0, none⟩ 1 1 [.int .i64 xk, .int .i64 xn, .string xs0, .slice xA xla xa, .slice xC xlc xc] rfl rfl (hcell.out) (Fv.one ⟨xk, xn, xs0, xA, xla, xa, xC, xlc, xc⟩) (by decide) (by unfold maxLen; omega) (by omega) HBS.out (wr.heap.size + 2) (by simp) ?_; intro g cap w5 hown5 hgr5 hor5 hlt5)
        have HS5 : Hid (FlSt base n xs zs w w5 (i + 1) (.slice (some ⟨g, 0, none⟩) (n + i + 1) cap)) := Lib.hid (HNX.out g cap w5 hown5 hgr5)
        clear hown5 hgr5 hor5 hlt5 HO HNX hcell HBS
        go_roundg (m - (i + 1))
        case measure => omega
        case rel => exact ⟨i + 1, by first | rfl | go_num, by omega, Nat.le_refl _, HS5⟩
    · obtain rfl : i = m := by omega
      have hil : ¬ ((i : Int) < (i : Int)) := by omega
      have hown := HS.out.own
      rw [List.take_of_length_le (by rw [HM.out]; exact Nat.le_refl _)] at hown
      go_wp2_with fail
      go_ret
      exact ⟨_, rfl, hown, HS.out.below⟩
end Go.Proofs.Ytnokmlclephjgaa
namespace Go.Proofs.Ytnokmlclephjgaa
open Go.RowKit
/-- How many elements the first i rows have. -/
def totQ (qs : List (List Fv)) (i : Nat) : Nat := ((qs.take i).map List.length).sum
theorem totQ_succ {qs : List (List Fv)} {i : Nat} {q : List Fv} (h : qs[i]? = some q) : totQ qs (i + 1) = totQ qs i + q.length := by
  unfold totQ
  rw [List.take_add_one, h]
  simp
theorem totQ_mono {qs : List (List Fv)} {i : Nat} : totQ qs i ≤ totQ qs qs.length := by
  unfold totQ
  rw [List.take_length]
  have h : qs.map List.length = (qs.take i).map List.length ++ (qs.drop i).map List.length := by rw [← List.map_append, List.take_append_drop]
  rw [h, List.sum_append]
  omega
/-- Between two rounds: the row so far. -/
structure FmSt (base n : Nat) (xs : List Value) (qs : List (List Fv)) (w wr : World) (i : Nat) (V : Value) : Prop where
  own : wr.ownsRow base 27 5 V (n + totQ qs i) (xs ++ ((qs.take i).flatten).flatMap Fv.cs)
  below : Below base w wr
set_option maxHeartbeats 4000000 in
set_option maxRecDepth 100000 in
theorem flat1_any (base n m : Nat) (V : Value) (xs : List Value) (zs : List Fv) (qs : List (List Fv)) (B : Option Addr) (b : Nat) (w : World) (ho : w.ownsRow base 27 5 V n xs) (hR : FvRow base w B zs) (hm : zs.length = m) (hq : qs.length = m)
    (hQ : ∀ (i : Nat) (x : Fv) (q : List Fv), zs[i]? = some x → qs[i]? = some q → x.k = 5 ∧ q.length = x.lc ∧ FvRow base w x.C q) (hb : base ≤ w.heap.size) (hnm : n + totQ qs m ≤ 1000000) (hmm : m ≤ 1000000) :
    Calls Try.prog 27 #[V, .slice B m b, .int .i64 1] w fun e w' => ∃ V', e = .returned V' ∧ w'.ownsRow base 27 5 V' (n + totQ qs m) (xs ++ (qs.flatten).flatMap Fv.cs) ∧ Below base w w' := by
  have HS0 : Hid (FmSt base n xs qs w w 0 V) := Lib.hid ⟨by unfold totQ; rw [List.take_zero]; simpa using ho, Below.refl _ _⟩
  have HR := Lib.hid hR
  have HM := Lib.hid hm
  have HQL := Lib.hid hq
  have HQ := Lib.hid hQ
  have HBB := Lib.hid hb
  have HNM : Hid (∀ i, n + totQ qs i ≤ 1000000) := Lib.hid fun i => by
    have := totQ_mono (qs := qs) (i := i)
    rw [hq] at this
    omega
  clear ho hR hm hb hq hQ hnm
  go_enter Try.func27, Try.ntmps27
  go_wp2_with fail
  go_loopg [0, 11] m (fun gg s0 s11 wr => ∃ i : Nat, s11 = .int .i64 i ∧ i ≤ m ∧ m - i ≤ gg ∧ Hid (FmSt base n xs qs w wr i s0))
  case atStart => exact ⟨0, rfl, Nat.zero_le _, by omega, HS0⟩
  case round =>
    clear HS0
    obtain ⟨i, rfl, hin, hg, HS⟩ := hrel
    by_cases hlt : i < m
    · obtain ⟨x, hx⟩ : ∃ x, zs[i]? = some x := ⟨_, List.getElem?_eq_getElem (by rw [HM.out]; exact hlt)⟩
      obtain ⟨q, hq⟩ : ∃ q, qs[i]? = some q := ⟨_, List.getElem?_eq_getElem (by rw [HQL.out]; exact hlt)⟩
      obtain ⟨bB, oB, rfl, hbB, h5⟩ := HR.out i x hx
      obtain ⟨hx5, hql, hqR⟩ := HQ.out i x q hx hq
      obtain ⟨f0, f1, f2, f3, f4⟩ := h5.below HS.out.below hbB
      obtain ⟨xk, xn, xs0, xA, xla, xa, xC, xlc, xc⟩ := x
      dsimp only at f0 f1 f2 f3 f4 hx5 hql hqR
      subst hx5
      have hi0 : (0 : Int) ≤ (i : Int) := by omega
      have hil : (i : Int) < (m : Int) := by omega
      have hm1 := HNM.out (i + 1)
      rw [totQ_succ hq, hql] at hm1
      have hbx : Below base wr (wr.alloc (.cells #[.int .i64 5, .int .i64 xn, .string xs0, .slice xA xla xa, .slice xC xlc xc] 27)) := (below1 wr _).mono (Nat.le_trans HBB.out HS.out.below.size)
      have hbl := (HS.out.below.trans hbx)
      have HC := Lib.hid (flat0_any base (n + totQ qs i) xlc u0 _ q xC xc _ (own_belowV HS.out.own (below1 wr (.cells #[.int .i64 5, .int .i64 xn, .string xs0, .slice xA xla xa, .slice xC xlc xc] 27))) (hqR.below hbl (Nat.le_refl _)) hql (Nat.le_trans HBB.out hbl.size) (by omega))
      have HBL := Lib.hid hbl
      have HX : Hid (n + totQ qs i + xlc = n + totQ qs (i + 1) ∧ xs ++ ((qs.take i).flatten).flatMap Fv.cs ++ q.flatMap Fv.cs = xs ++ ((qs.take (i + 1)).flatten).flatMap Fv.cs) := Lib.hid ⟨by rw [totQ_succ hq, hql]; omega, by rw [List.take_add_one, hq]; simp⟩
      clear HS hx hq h5 hql hqR hbx hbl hm1
      go_wp2_with fail
      refine HC.out.mono ?_
      rintro e3 w3 ⟨V3, rfl, ho3, hb3⟩
      rw [HX.out.1, HX.out.2] at ho3
      have HS3 : Hid (FmSt base n xs qs w w3 (i + 1) V3) := Lib.hid ⟨ho3, HBL.out.trans hb3⟩
      clear ho3 hb3 HC HX HBL
      go_wp2_with fail
      go_roundg (m - (i + 1))
      case measure => omega
      case rel => exact ⟨i + 1, by first | rfl | go_num, by omega, Nat.le_refl _, HS3⟩
    · obtain rfl : i = m := by omega
      have hil : ¬ ((i : Int) < (i : Int)) := by omega
      have hown := HS.out.own
      rw [List.take_of_length_le (by rw [HQL.out]; exact Nat.le_refl _)] at hown
      go_wp2_with fail
      go_ret
      exact ⟨_, rfl, hown, HS.out.below⟩
/-- What Flatten does behind the call of flatten, told ahead. -/
def FlPost (m : Nat) (R : V) (E : Int) (W : World) (e : Ending) (w1 : World) : Prop :=
  Below W.heap.size W w1 ∧ ∃ (A : Option Addr) (c : Nat), e = .returned (.slice A m c) ∧ Hid (Calls Try.prog 16 #[.slice A m c] w1 (RetPost R E w1))
theorem flat0_then {es : List V} {A : Option Addr} {c : Nat} {xs : List Value} {w : World} (hR : Rs w (· < w.heap.size) A xs) (hL : LiesL w (· < w.heap.size) es xs) (hn : es.length ≤ 1000000) :
    Calls Try.prog 27 #[.slice none 0 0, .slice A es.length c, .int .i64 0] w (FlPost es.length (tabR es) (tabE es) w) := by
  obtain ⟨l, rfl, rfl, hl⟩ := liesL_fv es xs hL
  have hlen : (l.map Prod.snd).length = (l.map Prod.fst).length := by simp
  refine (flat0_any w.heap.size 0 (l.map Prod.fst).length (.slice none 0 0) [] (l.map Prod.snd) A c w (World.ownsRow_nil _ _ _ _) (rs_row hR) hlen (Nat.le_refl _) (by omega)).mono ?_
  rintro e w1 ⟨V1, rfl, ho, hb⟩
  rw [Nat.zero_add, List.nil_append] at ho
  obtain ⟨A1, c1, rfl, h0, hc, hm, hr⟩ := own_open ho
  refine ⟨hb, A1, c1, rfl, Lib.hid ?_⟩
  have hlies : LiesL w1 (· < w1.heap.size) (l.map Prod.fst) ((l.map Prod.snd).flatMap Fv.cs) := liesL_of l fun p hp => (hl p hp).move fun b hb' => ⟨Nat.lt_of_lt_of_le hb' hb.size, hb.block b hb'⟩
  exact tarr_any (l.map Prod.fst) A1 c1 _ w1 ⟨⟨hr.move fun b hb => ⟨hb.2.1, rfl⟩, hlies⟩, h0, hc, hm, by omega⟩
theorem liesL_app {w : World} {S : Nat → Prop} : ∀ {es fs : List V} {xs ys : List Value}, LiesL w S es xs → LiesL w S fs ys → LiesL w S (es ++ fs) (xs ++ ys)
  | [], fs, xs, ys, h, k => by
    rw [LiesL] at h
    subst h
    exact k
  | e :: es, fs, xs, ys, h, k => by
    rw [LiesL] at h
    obtain ⟨c, r, rfl, h1, h2⟩ := h
    rw [List.cons_append, LiesL]
    exact ⟨c, r ++ ys, by rw [List.append_assoc], h1, liesL_app h2 k⟩
/-- The elements of rows of arrays, row by row. -/
theorem rows_of {w : World} : ∀ (es : List V) (zs : List Fv), zs.length = es.length → LiesL w (· < w.heap.size) es (zs.flatMap Fv.cs) → ∃ qs : List (List Fv), qs.length = es.length ∧ LiesL w (· < w.heap.size) (es.flatMap elemsV) ((qs.flatten).flatMap Fv.cs) ∧ ∀ (i : Nat) (x : Fv) (q : List Fv), zs[i]? = some x → qs[i]? = some q → q.length = x.lc ∧ FvRow w.heap.size w x.C q
  | [], zs, hz, _ => by
    obtain rfl : zs = [] := List.eq_nil_of_length_eq_zero hz
    exact ⟨[], rfl, by simp [LiesL], fun i x q h => by simp at h⟩
  | e :: es, [], hz, _ => by simp at hz
  | e :: es, z :: zs, hz, h => by
    rw [List.flatMap_cons, LiesL] at h
    obtain ⟨c, r, hcr, hc, hr⟩ := h
    obtain ⟨x, rfl⟩ := lies_fv hc
    have hx : z.cs = x.cs ∧ zs.flatMap Fv.cs = r := List.append_inj hcr rfl
    obtain ⟨h1, rfl⟩ := hx
    have hzx : z = x := by
      obtain ⟨a1, a2, a3, a4, a5, a6, a7, a8, a9⟩ := z
      obtain ⟨b1, b2, b3, b4, b5, b6, b7, b8, b9⟩ := x
      unfold Fv.cs at h1
      simp only [List.cons.injEq, and_true, Value.slice.injEq, Value.int.injEq, Value.string.injEq, true_and] at h1
      obtain ⟨rfl, rfl, rfl, ⟨rfl, rfl, rfl⟩, rfl, rfl, rfl⟩ := h1
      rfl
    subst hzx
    obtain ⟨qs, q1, q2, q3⟩ := rows_of es zs (by simpa using hz) hr
    obtain ⟨k, n, s, kk, fs⟩ := e
    obtain ⟨A1, a1, B1, b1, ys, hcs, -, -, -, -, -, hRy, hLy⟩ := lies_open hc
    unfold Fv.cs at hcs
    simp only [List.cons.injEq, and_true, Value.slice.injEq] at hcs
    obtain ⟨-, -, -, -, hC, hlc, -⟩ := hcs
    obtain ⟨l, rfl, rfl, hl⟩ := liesL_fv fs ys hLy
    refine ⟨l.map Prod.snd :: qs, by simp [q1], ?_, fun i x q hx hq => ?_⟩
    · rw [List.flatMap_cons, List.flatten_cons, List.flatMap_append]
      exact liesL_app (liesL_of l hl) q2
    · cases i with
      | zero =>
        simp at hx hq
        subst hx hq
        refine ⟨by rw [hlc]; simp, ?_⟩
        rw [hC]
        exact rs_row hRy
      | succ i => exact q3 i x q (by simpa using hx) (by simpa using hq)
theorem flat1_then {es : List V} {A : Option Addr} {c : Nat} {xs : List Value} {w : World} (hR : Rs w (· < w.heap.size) A xs) (hL : LiesL w (· < w.heap.size) es xs) (hn : es.length ≤ 1000000) (hk : ∀ e ∈ es, ∃ n s kk fs, e = .mk 5 n s kk fs) (ht : (es.flatMap elemsV).length ≤ 1000000) :
    Calls Try.prog 27 #[.slice none 0 0, .slice A es.length c, .int .i64 1] w (FlPost (es.flatMap elemsV).length (tabR (es.flatMap elemsV)) (tabE (es.flatMap elemsV)) w) := by
  have HK5 : ∀ (i : Nat) (x : Fv), (∀ (l : List (V × Fv)), l.map Prod.fst = es → xs = (l.map Prod.snd).flatMap Fv.cs → (∀ p ∈ l, Lies w (· < w.heap.size) p.1 p.2.cs) → (l.map Prod.snd)[i]? = some x → x.k = 5) := fun i x l h1 h2 hl hx => by
    rw [List.getElem?_map] at hx
    obtain ⟨p, hp, rfl⟩ := Option.map_eq_some_iff.1 hx
    have hpm := List.mem_of_getElem? hp
    have hlp := hl p hpm
    obtain ⟨n, s, kk, fs, he⟩ := hk p.1 (by rw [← h1]; exact List.mem_map.2 ⟨p, hpm, rfl⟩)
    rw [he] at hlp
    obtain ⟨A1, a1, B1, b1, ys, hcs, -⟩ := lies_open hlp
    unfold Fv.cs at hcs
    simp only [List.cons.injEq, Value.int.injEq] at hcs
    exact hcs.1.2
  obtain ⟨l, h1, h2, hl⟩ := liesL_fv es xs hL
  subst h2
  have hlen : (l.map Prod.snd).length = es.length := by rw [← h1]; simp
  obtain ⟨qs, q1, q2, q3⟩ := rows_of es (l.map Prod.snd) hlen hL
  have hq5 := fun (i : Nat) (x : Fv) => HK5 i x l h1 rfl hl
  have htot : (qs.flatten).length = (es.flatMap elemsV).length := by
    obtain ⟨l2, e1, e2, _⟩ := liesL_fv _ _ q2
    have e3 := congrArg List.length e2
    rw [flat_len, flat_len, List.length_map] at e3
    have e4 := congrArg List.length e1
    rw [List.length_map] at e4
    omega
  have htq : totQ qs es.length = (es.flatMap elemsV).length := by
    rw [← htot, List.length_flatten]
    unfold totQ
    rw [List.take_of_length_le (by omega)]
  refine (flat1_any w.heap.size 0 es.length (.slice none 0 0) [] (l.map Prod.snd) qs A c w (World.ownsRow_nil _ _ _ _) (rs_row hR) hlen q1 (fun i x q hx hq => ⟨hq5 i x hx, q3 i x q hx hq⟩) (Nat.le_refl _) (by omega) hn).mono ?_
  rintro e w1 ⟨V1, rfl, ho, hb⟩
  rw [Nat.zero_add, List.nil_append, htq] at ho
  obtain ⟨A1, c1, rfl, h0, hc, hm, hr⟩ := own_open ho
  refine ⟨hb, A1, c1, rfl, Lib.hid ?_⟩
  exact tarr_any (es.flatMap elemsV) A1 c1 _ w1 ⟨⟨hr.move fun b hb => ⟨hb.2.1, rfl⟩, q2.move fun b hb' => ⟨Nat.lt_of_lt_of_le hb' hb.size, hb.block b hb'⟩⟩, h0, hc, hm, by omega⟩
set_option maxHeartbeats 4000000 in
set_option maxRecDepth 100000 in
theorem tFlatten_any {nv : Int} {sv : ByteArray} {kv1 : List ByteArray} {es : List V} {cs ds : List Value} {d : Int} {m : Nat} {R : V} {E : Int} {w : World} (hl : Lies w (· < w.heap.size) (.mk 5 nv sv kv1 es) cs) (hl2 : Lies w (· < w.heap.size) (numV d) ds) (hv : valid (.mk 5 nv sv kv1 es) = true) (hv2 : valid (numV d) = true) (hd : 0 ≤ d)
    (hF : ∀ W, Below w.heap.size w W → ∀ A c xs, Rs W (· < W.heap.size) A xs → LiesL W (· < W.heap.size) es xs → Calls Try.prog 27 #[.slice none 0 0, .slice A es.length c, .int .i64 d] W (FlPost m R E W)) :
    Calls Try.prog 12 #[.agg cs.toArray, .agg ds.toArray] w (RetPost R E w) := by
  have HV1 := Lib.hid (fun W (hW : Below w.heap.size w W) => valid_any _ cs W (below_lies hW hl))
  have HV2 := Lib.hid (fun W (hW : Below w.heap.size w W) => valid_any _ ds W (below_lies hW hl2))
  rw [hv] at HV1
  rw [hv2] at HV2
  obtain ⟨A, a, B, b0, xs, rfl, -, -, -, -, -, hR, hL⟩ := lies_open hl
  unfold numV at hl2
  obtain ⟨C, c0, D, d0, ys, rfl, -⟩ := lies_open hl2
  have HFL : Hid (∀ W, Below w.heap.size w W → Calls Try.prog 27 #[.slice none 0 0, .slice B es.length b0, .int .i64 d] W (FlPost m R E W)) := Lib.hid fun W hW => hF W hW B b0 xs (hR.move fun b hb => ⟨Nat.lt_of_lt_of_le hb hW.size, hW.block b hb⟩) (hL.move fun b hb => ⟨Nat.lt_of_lt_of_le hb hW.size, hW.block b hb⟩)
  clear hl hl2 hv hv2 hR hL hF
  show Calls _ _ #[.agg #[.int .i64 5, .int .i64 nv, .string sv, .slice A kv1.length a, .slice B es.length b0], .agg #[.int .i64 3, .int .i64 d, .string ⟨#[]⟩, .slice C 0 c0, .slice D 0 d0]] w _
  generalize kv1.length = n1 at *
  generalize es.length = n at *
  have HB1 : Hid (Box (((w.alloc (.cells #[.int .i64 5, .int .i64 nv, .string sv, .slice A n1 a, .slice B n b0] 27)).alloc (.cells #[.int .i64 3, .int .i64 d, .string ⟨#[]⟩, .slice C 0 c0, .slice D 0 d0] 27)).alloc (.cells #[.int .i64 0, .int .i64 0, .string ⟨#[]⟩, .slice none 0 0, .slice none 0 0] 27)) w.heap.size 27 #[.int .i64 5, .int .i64 nv, .string sv, .slice A n1 a, .slice B n b0]) := Lib.hid (((Box.laid w _ _).alloc _).alloc _)
  have HB2 : Hid (Box (((w.alloc (.cells #[.int .i64 5, .int .i64 nv, .string sv, .slice A n1 a, .slice B n b0] 27)).alloc (.cells #[.int .i64 3, .int .i64 d, .string ⟨#[]⟩, .slice C 0 c0, .slice D 0 d0] 27)).alloc (.cells #[.int .i64 0, .int .i64 0, .string ⟨#[]⟩, .slice none 0 0, .slice none 0 0] 27)) (w.heap.size + 1) 27 #[.int .i64 3, .int .i64 d, .string ⟨#[]⟩, .slice C 0 c0, .slice D 0 d0]) := Lib.hid (Box.alloc (by
    have := Box.laid (w.alloc (.cells #[.int .i64 5, .int .i64 nv, .string sv, .slice A n1 a, .slice B n b0] 27)) 27 #[.int .i64 3, .int .i64 d, .string ⟨#[]⟩, .slice C 0 c0, .slice D 0 d0]
    have e : (w.alloc (.cells #[.int .i64 5, .int .i64 nv, .string sv, .slice A n1 a, .slice B n b0] 27)).heap.size = w.heap.size + 1 := by simp
    rw [e] at this
    exact this) _)
  have hd2 : ¬ (d < 0) := by omega
  generalize hS : FlPost m R E = SP at HFL
  go_enter Try.func12, Try.ntmps12
  go_wp2_with fail
  refine (HV1.out _ (below3 _ _ _ _)).mono ?_
  rintro e1 w1 ⟨rfl, hb1⟩
  have HW1 : Hid (Below w.heap.size w w1) := Lib.hid ((below3 w _ _ _).trans (hb1.mono (by simp; omega)))
  have HX1 := Lib.hid (HB1.out.below hb1 HB1.out.lt)
  have HX2 := Lib.hid (HB2.out.below hb1 HB2.out.lt)
  have HX3 := Lib.hid ((box_third w _ _ _).below hb1 (by simp))
  obtain ⟨t0, t1, t2, t3, t4⟩ := box5 HX2.out
  clear hb1 HB1 HB2 HV1
  go_wp2_with fail
  refine (HV2.out _ HW1.out).mono ?_
  rintro e2 w2 ⟨rfl, hb2⟩
  have HW2 : Hid (Below w.heap.size w w2) := Lib.hid (HW1.out.trans (hb2.mono HW1.out.size))
  have HY1 := Lib.hid (HX1.out.below hb2 HX1.out.lt)
  have HY2 := Lib.hid (HX2.out.below hb2 HX2.out.lt)
  have HY3 := Lib.hid (HX3.out.below hb2 HX3.out.lt)
  clear t0 t1 t2 t3 t4 hb2 HX1 HX2 HX3 HW1 HV2
  obtain ⟨t0, t1, t2, t3, t4⟩ := box5 HY1.out
  obtain ⟨s0, s1, s2, s3, s4⟩ := box5 HY2.out
  go_wp2_with fail
  refine (HFL.out _ HW2.out).mono ?_
  rintro e3 w3 hp
  subst hS
  obtain ⟨hb3, A3, c3, rfl, HAR⟩ := hp
  have HW3 : Hid (Below w.heap.size w w3) := Lib.hid (HW2.out.trans (hb3.mono HW2.out.size))
  have HZ3 := Lib.hid (HY3.out.below hb3 HY3.out.lt)
  have HA := Lib.hid (ret_open HAR.out)
  clear hb3 t0 t1 t2 t3 t4 s0 s1 s2 s3 s4 HY1 HY2 HY3 HAR HFL
  go_wp2_with fail
  refine HA.out.mono ?_
  rintro e4 w4 ⟨rk, rn, rs, rks, res, RA, ra, RC, rc, hrv, rfl, hb4, hl4⟩
  have hres := HZ3.out.below hb4 HZ3.out.lt
  have h3lt : w.heap.size + 2 < w3.heap.size := HZ3.out.lt
  have HL4 := Lib.hid hl4
  obtain ⟨t0, t1, t2, t3, t4⟩ := box5 hres
  have z0 := hres.free 0
  have z1 := hres.free 1
  have z2 := hres.free 2
  have z3 := hres.free 3
  have z4 := hres.free 4
  have HB4 := Lib.hid (HW3.out.trans (hb4.mono HW3.out.size))
  have HRL := Lib.hid hres.lt
  have hs4 := hb4.size
  clear hrv hl4 hb4 hres
  go_wp2_with fail
  refine bodyPost_ret (v := .tuple #[.agg #[.int .i64 rk, .int .i64 rn, .string rs, .slice RA rks.length ra, .slice RC res.length rc], .int .i64 E]) (by simp [results, Try.results12, go_sem, t0, t1, t2, t3, t4]) rfl ?_
  exact ret_put HB4.out (by omega) HRL.out (HL4.out.move fun b hb => ⟨⟨by omega, hb.2, by omega⟩, rfl⟩)
end Go.Proofs.Ytnokmlclephjgaa

/- text.numbers. -/
import Derived.Test.YtjafmdngbphacaaGreatDoorC34
set_option linter.unusedVariables false
set_option linter.unusedSimpArgs false
namespace Go.Proofs.YtjafmdngbphacaaGreatDoor
open Go.RowKit Go.Shelf Go.Sort
/-- The cells of a number as a value. -/
def numF (n : Int) : Fv := ⟨3, n, ⟨#[]⟩, none, 0, 0, none, 0, 0⟩
/-- Between two rounds. -/
structure NsSt (g n : Nat) (ps : List Int) (w0 w : World) (i : Nat) (ys : List Fv) : Prop where
  own : w.ownsRow w0.heap.size 25 5 (.slice (some ⟨g, 0, none⟩) n n) n (ys.flatMap Fv.cs)
  len : ys.length = n
  head : ys.take i = (ps.take i).map numF
  res : Box w w0.heap.size 25 #[.int .i64 0, .int .i64 0, .string ⟨#[]⟩, .slice none 0 0, .slice none 0 0]
  ne : w0.heap.size < g
  below : Below w0.heap.size w0 w
theorem NsSt.next {g n i : Nat} {ps : List Int} {w0 w w2 : World} {ys : List Fv} (h : NsSt g n ps w0 w i ys) (hb : Below w.heap.size w w2) : NsSt g n ps w0 w2 i ys :=
  ⟨own_belowV h.own hb, h.len, h.head, h.res.below hb h.res.lt, h.ne, chain h.below hb⟩
theorem NsSt.put {g n i : Nat} {ps : List Int} {w0 w : World} {ys : List Fv} {s : Int} (h : NsSt g n ps w0 w i ys) (hs : ps[i]? = some s) (hi : i < n) :
    NsSt g n ps w0 (((((w.setCell ⟨g, i * 5, none⟩ (.int .i64 3)).setCell ⟨g, i * 5 + 1, none⟩ (.int .i64 s)).setCell ⟨g, i * 5 + 2, none⟩ (.string ⟨#[]⟩)).setCell ⟨g, i * 5 + 3, none⟩ (.slice none 0 0)).setCell ⟨g, i * 5 + 4, none⟩ (.slice none 0 0)) (i + 1) (ys.set i (numF s)) := by
  have hl := h.len
  have hg : w0.heap.size ≤ g := Nat.le_of_lt h.ne
  have hne : w0.heap.size ≠ g := Nat.ne_of_lt h.ne
  refine ⟨?_, by rw [List.length_set]; exact hl, ?_, ((((h.res.far hne _).far hne _).far hne _).far hne _).far hne _, h.ne, ((((h.below.setCell hg _).setCell hg _).setCell hg _).setCell hg _).setCell hg _⟩
  · rw [← flat_set (numF s) ys i (by omega)]
    exact own_set (own_set (own_set (own_set (own_set h.own (i := i * 5) (by omega) _) (i := i * 5 + 1) (by omega) _) (i := i * 5 + 2) (by omega) _) (i := i * 5 + 3) (by omega) _) (i := i * 5 + 4) (by omega) _
  · rw [List.take_add_one, List.getElem?_set_self (by omega), List.take_set_of_le (Nat.le_refl _), h.head, List.take_add_one, hs, List.map_append]
    rfl
theorem NsSt.free {g n i : Nat} {ps : List Int} {w0 w : World} {ys : List Fv} (h : NsSt g n ps w0 w i ys) (k : Nat) : w.frozen? ⟨g, k, none⟩ = false := by
  rcases h.own.2 with ⟨h0, _⟩ | ⟨g', cap', cur, hv, hbg, hgg, _⟩
  · cases h0
  · cases hv
    exact (show Box w g _ cur from hgg).free k
theorem NsSt.there {g n i : Nat} {ps : List Int} {w0 w : World} {ys : List Fv} (h : NsSt g n ps w0 w i ys) (k : Nat) (hk : k < n * 5) : ∃ u, w.cell? ⟨g, k, none⟩ = some u := by
  have h1 := h.own.1
  rw [h.own.cellAt k hk]
  exact ⟨_, List.getElem?_eq_getElem (by omega)⟩
def zvs (zs : List Int) : List Value := zs.map (Value.int .i64)
theorem zvs_at {zs : List Int} {i : Nat} {x : Int} (h : zs[i]? = some x) : (zvs zs)[i]? = some (.int .i64 x) := by simp [zvs, h]
set_option maxHeartbeats 4000000 in
set_option maxRecDepth 100000 in
theorem numbers_any (A : Option Addr) (c n : Nat) (ps : List Int) (w : World) (hA : Rs w (· < w.heap.size) A (zvs ps)) (hn : ps.length = n) (hps : n ≤ 1000000) :
    Calls Tryz.prog 166 #[.slice A n c] w (RetPost (arrR (ps.map numV)) (arrE (ps.map numV)) w) := by
  have hmk := made_nulls n hps
  have hnum := Lib.hid (fun (n : Int) W => num_any n W)
  have HA := Lib.hid hA
  have HN := Lib.hid hn
  clear hA hn
  go_enter Tryz.func166, Tryz.ntmps166
  go_wp2_with fail
  obtain ⟨w1, hw1⟩ : ∃ X, X = (w.alloc (.cells #[.int .i64 0, .int .i64 0, .string ⟨#[]⟩, .slice none 0 0, .slice none 0 0] 25)).alloc (.cells (zl n).toArray 25) := ⟨_, rfl⟩
  have HS : Hid (NsSt (w.heap.size + 1) n ps w w1 0 (List.replicate n fvZero)) := Lib.hid (by
    refine ⟨⟨by rw [flat_len, List.length_replicate], .inr ⟨w.heap.size + 1, n, (zl n).toArray, rfl, by omega, ?_, Nat.le_refl _, by unfold maxLen; omega, by rw [List.size_toArray, zl_flat, flat_len, List.length_replicate], ?_⟩⟩, List.length_replicate, rfl, ?_, by omega, ?_⟩
    · rw [hw1]
      have := Box.laid (w.alloc (.cells #[.int .i64 0, .int .i64 0, .string ⟨#[]⟩, .slice none 0 0, .slice none 0 0] 25)) 25 (zl n).toArray
      have e : (w.alloc (.cells #[.int .i64 0, .int .i64 0, .string ⟨#[]⟩, .slice none 0 0, .slice none 0 0] 25)).heap.size = w.heap.size + 1 := by simp
      rw [e] at this
      exact this
    · rw [List.toList_toArray, ← zl_flat, List.take_of_length_le (by rw [zl_flat, flat_len, List.length_replicate]; exact Nat.le_refl _)]
    · rw [hw1]; exact (Box.laid w _ _).alloc _
    · rw [hw1]; exact ((Go.RowKit.Below.refl _ w).alloc (Nat.le_refl _) _).alloc (by simp) _)
  rw [← hw1]
  clear hw1 hmk
  go_loopg [5, 6, 12] n (fun gg _ _ s12 wr => ∃ (i : Nat) (ys : List Fv), s12 = .int .i64 i ∧ i ≤ n ∧ n - i ≤ gg ∧ Hid (NsSt (w.heap.size + 1) n ps w wr i ys))
  case atStart => exact ⟨0, _, rfl, Nat.zero_le _, by omega, HS⟩
  case round =>
    clear HS
    obtain ⟨i, ys, rfl, hin, hg, HS⟩ := hrel
    by_cases hlt : i < n
    · obtain ⟨s, hs⟩ : ∃ s, ps[i]? = some s := ⟨_, List.getElem?_eq_getElem (by rw [HN.out]; exact hlt)⟩
      obtain ⟨b, o, rfl, hb, hc⟩ := HA.out.at_ (zvs_at hs)
      have hcr := (HS.out.below.cell (p := ⟨b, o + i, none⟩) hb).trans hc
      have hi0 : (0 : Int) ≤ (i : Int) := by omega
      have hil : (i : Int) < (n : Int) := by omega
      clear hb hc
      go_wp2_with fail
      refine (hnum.out _ _).mono ?_
      rintro e2 w2 ⟨rfl, hb2⟩
      have HS2 := Lib.hid (HS.out.next hb2)
      clear HS hb2
      obtain ⟨y0, hy0⟩ := HS2.out.there (i * 5) (by omega)
      obtain ⟨y1, hy1⟩ := HS2.out.there (i * 5 + 1) (by omega)
      obtain ⟨y2, hy2⟩ := HS2.out.there (i * 5 + 2) (by omega)
      obtain ⟨y3, hy3⟩ := HS2.out.there (i * 5 + 3) (by omega)
      obtain ⟨y4, hy4⟩ := HS2.out.there (i * 5 + 4) (by omega)
      have z0 := HS2.out.free (i * 5)
      have z1 := HS2.out.free (i * 5 + 1)
      have z2 := HS2.out.free (i * 5 + 2)
      have z3 := HS2.out.free (i * 5 + 3)
      have z4 := HS2.out.free (i * 5 + 4)
      have HD3 := HS2.out.put hs hlt
      clear hs hcr
      go_wp2_with fail
      generalize (((((w2.setCell ⟨w.heap.size + 1, i * 5, none⟩ (.int .i64 3)).setCell ⟨w.heap.size + 1, i * 5 + 1, none⟩ (.int .i64 s)).setCell ⟨w.heap.size + 1, i * 5 + 2, none⟩ (.string ⟨#[]⟩)).setCell ⟨w.heap.size + 1, i * 5 + 3, none⟩ (.slice none 0 0)).setCell ⟨w.heap.size + 1, i * 5 + 4, none⟩ (.slice none 0 0)) = W9 at HD3 ⊢
      have HD4 := Lib.hid HD3
      clear HD3 HS2 hy0 hy1 hy2 hy3 hy4 z0 z1 z2 z3 z4
      go_roundg (n - (i + 1))
      case measure => omega
      case rel => exact ⟨i + 1, _, by first | rfl | go_num, by omega, Nat.le_refl _, HD4⟩
    · obtain rfl : i = n := by omega
      have hil : ¬ ((i : Int) < (i : Int)) := by omega
      have hys : ys = ps.map numF := by
        have := HS.out.head
        rw [List.take_of_length_le (by rw [HS.out.len]; exact Nat.le_refl _), List.take_of_length_le (by rw [HN.out]; exact Nat.le_refl _)] at this
        exact this
      subst hys
      obtain ⟨D', d', he, hdn, hdl, hdm, hrs⟩ := own_open HS.out.own
      cases he
      have hm : (ps.map fun s => (numV s, numF s)).map Prod.fst = ps.map numV := by rw [List.map_map]; rfl
      have hm2 : (ps.map fun s => (numV s, numF s)).map Prod.snd = ps.map numF := by rw [List.map_map]; rfl
      have hsl : SliceV wr (some ⟨w.heap.size + 1, 0, none⟩) i (ps.map numV) ((ps.map numF).flatMap Fv.cs) :=
        ⟨⟨hrs.move fun x hx => ⟨hx.2.1, rfl⟩, by rw [← hm, ← hm2]; exact liesL_of _ fun p hp => by obtain ⟨s, hs, rfl⟩ := List.mem_map.1 hp; exact lies_numv _ _ s⟩, hdn, by rw [List.length_map, HN.out]; exact Nat.le_refl _, hdm, by rw [List.length_map, HN.out]; omega⟩
      have har := arr_any _ _ _ _ _ hsl
      rw [List.length_map, HN.out] at har
      have HC := Lib.hid (ret_open har)
      clear hdn hdl hdm hrs hm hm2 hsl har
      go_wp2_with fail
      refine HC.out.mono ?_
      rintro e2 w2 ⟨rk, rn, rs, rks, res, RA, ra, RC, rc, hrv, rfl, hb2, hl2⟩
      have HB := Lib.hid (HS.out.below.trans (hb2.mono HS.out.below.size))
      have HR := Lib.hid (HS.out.res.below hb2 HS.out.res.lt)
      have HL := Lib.hid hl2
      have hs2 := HS.out.res.lt
      clear hb2 hl2 hrv
      obtain ⟨t0, t1, t2, t3, t4⟩ := box5 HR.out
      have z0 := HR.out.free 0
      have z1 := HR.out.free 1
      have z2 := HR.out.free 2
      have z3 := HR.out.free 3
      have z4 := HR.out.free 4
      go_wp2_with fail
      refine bodyPost_ret (v := .tuple #[.agg #[.int .i64 rk, .int .i64 rn, .string rs, .slice RA rks.length ra, .slice RC res.length rc], .int .i64 (arrE (ps.map numV))]) (by simp [results, Tryz.results166, go_sem, t0, t1, t2, t3, t4]) rfl ?_
      exact ret_put HB.out (Nat.le_refl _) HR.out.lt (HL.out.move fun b hb => ⟨⟨by omega, hb.2, by omega⟩, rfl⟩)
end Go.Proofs.YtjafmdngbphacaaGreatDoor

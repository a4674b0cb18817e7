/- The program's add. The program's measure, Valid, Depth, Nodes. The program's compare, Compare, Equal, Truthy, TypeName. The program's Equal, Truthy, TypeName. The program's answers and the reference's are the same. -/
import Derived.Test.YtfmpdcmedaiooaaGreatDoorU11
import Derived.Test.YtfmpdcmedaiooaaGreatDoorU08
import Derived.Test.YtfmpdcmedaiooaaGreatDoorU10
import Derived.Test.YtfmpdcmedaiooaaGreatDoorU09
import Derived.Test.YtfmpdcmedaiooaaGreatDoorU01
import Derived.Deep.DeepCutAuto
import Derived.Deep.RegionHeld3
import Derived.Deep.Light
set_option linter.unusedVariables false
set_option linter.unusedSimpArgs false
namespace Go.Proofs.YtfmpdcmedaiooaaGreatDoor
open Go.RowKit
set_option maxHeartbeats 4000000 in
set_option maxRecDepth 100000 in
theorem add_any : ∀ v : V, AddOk v := by
  refine V.ind fun k n s ks es ih g lv d m b cs S w hbox h hS l0 l1 d0 d1 m0 m1 b0 b1 => ?_
  have hf := lies_fit _ _ h
  rw [V.Fit] at hf
  obtain ⟨h1, h2, h3, h4, _⟩ := hf
  obtain ⟨A, a, B, bb, xs, rfl, hAn, hBn, ⟨ha1, ha2⟩, ⟨hb1, hb2⟩, hA, hB, hL⟩ := lies_open h
  have hg : g < w.heap.size := hbox.lt
  have hgne : ¬ g = w.heap.size := by omega
  have HX := Lib.hid hbox
  have HA := Lib.hid hA
  have HB := Lib.hid hB
  have HL := Lib.hid hL
  have IH := Lib.hid ih
  have HS := Lib.hid hS
  have H2 := Lib.hid h2
  obtain ⟨gc0, gc1, gc2, gf0, gf1, gf2⟩ := box3 hbox
  clear hA hB hL ih hS h2 h hbox hAn hBn
  generalize hq : addP (.mk k n s ks es) lv d m b = r
  have HQ := Lib.hid hq
  clear hq
  show Calls _ _ #[.pointer (some ⟨g, 0, none⟩), .agg #[.int .i64 k, .int .i64 n, .string s, .slice A ks.length a, .slice B es.length bb], .int .i64 lv] w _
  have hW0 : Hid (St g w.heap.size #[.int .i64 k, .int .i64 n, .string s, .slice A ks.length a, .slice B es.length bb] w d (m + 1) b ((w.setCell ⟨g, 1, none⟩ (.int .i64 (m + 1))).alloc (.cells #[.int .i64 k, .int .i64 n, .string s, .slice A ks.length a, .slice B es.length bb] 25))) :=
    Lib.hid ⟨grown_trans (grown_set _ _ _ _) (World.grownBy_alloc _ _ _), (HX.out.put 1 _).alloc _, by have := Box.laid (w.setCell ⟨g, 1, none⟩ (.int .i64 (m + 1))) 25 #[.int .i64 k, .int .i64 n, .string s, .slice A ks.length a, .slice B es.length bb]; simpa using this⟩
  by_cases hm : m + 1 ≤ 4096
  · have hfit := Lib.hid (fun W => fits_any k n s A B ks.length es.length a bb W h1 h3 h4)
    cases hfv : fits k n s ks.length es.length with
    | false =>
      rw [hfv] at hfit
      have hr : Hid (none = r) := Lib.hid (by rw [← HQ.out, addP, if_pos (.inr (.inl hfv))])
      clear hfv
      go_enter Tryz.func25, Tryz.ntmps25
      go_wp2_with fail
      refine (hfit.out _).mono ?_
      rintro e1 w1 ⟨rfl, hb1⟩
      have h1 := Lib.hid (hW0.out.below hb1 hgne)
      go_wp2_with fail
      go_ret
      rw [← hr.out]
      exact ⟨h1.out.gr, rfl⟩
    | true =>
      rw [hfv] at hfit
      cases hok : strOk s b with
      | false =>
        have hr : Hid (none = r) := Lib.hid (by rw [← HQ.out, addP, if_pos (.inr (.inr hok))])
        clear hfv
        go_enter Tryz.func25, Tryz.ntmps25
        go_wp2_with fail
        refine (hfit.out _).mono ?_
        rintro e1 w1 ⟨rfl, hb1⟩
        have hs1 := Lib.hid (hW0.out.below hb1 hgne)
        obtain ⟨p0, p1, p2, p3, p4⟩ := box5 hs1.out.own
        obtain ⟨gc0, gc1, gc2, gf0, gf1, gf2⟩ := box3 hs1.out.box
        have hcall := Lib.hid (addString_any g d (m + 1) b s w1 hs1.out.box h1 b0 b1)
        rw [hok] at hcall
        clear hok
        go_wp2_with fail
        refine hcall.out.mono ?_
        rintro e2 w2 ⟨rfl, rfl⟩
        go_wp2_with fail
        go_ret
        rw [← hr.out]
        exact ⟨grown_trans hs1.out.gr (grown_set _ _ _ _), rfl⟩
      | true =>
        have hle : b + s.size ≤ 65536 := by simp [strOk] at hok; omega
        by_cases hk : k = 5 ∨ k = 6
        · have hnc : ¬ (4096 < m + 1 ∨ fits k n s ks.length es.length = false ∨ strOk s b = false) := by
            rintro (h | h | h)
            · omega
            · rw [hfv] at h; cases h
            · rw [hok] at h; cases h
          have hr1 : Hid ((if 32 < lv + 1 ∨ 1024 < es.length then none else match keysP ks none (b + s.size) with | none => none | some b' => addL es (lv + 1) (max d (lv + 1)) (m + 1) b') = r) := Lib.hid (by
            have e := HQ.out
            rw [addP, if_neg hnc, if_neg (by omega)] at e
            exact e)
          have hk2 : (k != 5) = false ∨ ((k != 5) = true ∧ (k != 6) = false) := by rcases hk with rfl | rfl <;> simp
          have hfv' := hfv
          clear hnc hk hfv
          by_cases hlv : lv + 1 ≤ 32
          · by_cases hel : es.length ≤ 1024
            · have hr2 := Lib.hid ((if_neg (by omega)).symm.trans hr1.out)
              cases hkk : keysP ks none (b + s.size) with
              | none =>
                have hr : Hid (none = r) := Lib.hid (by rw [← hr2.out, hkk])
                rcases hk2 with hk5 | ⟨hk5, hk6⟩
                all_goals
                  go_enter Tryz.func25, Tryz.ntmps25
                  go_wp2_with fail
                  refine (hfit.out _).mono ?_
                  rintro e1 w1 ⟨rfl, hb1⟩
                  have hs1 := Lib.hid (hW0.out.below hb1 hgne)
                  obtain ⟨p0, p1, p2, p3, p4⟩ := box5 hs1.out.own
                  obtain ⟨gc0, gc1, gc2, gf0, gf1, gf2⟩ := box3 hs1.out.box
                  have hcall := Lib.hid (addString_any g d (m + 1) b s w1 hs1.out.box h1 b0 b1)
                  rw [hok] at hcall
                  clear hok
                  go_wp2_with fail
                  refine hcall.out.mono ?_
                  rintro e2 w2 ⟨rfl, rfl⟩
                  have hs3 := Lib.hid ((hs1.out.str hgne (b + s.size)).dep hgne (max d (lv + 1)))
                  have hk3 := Lib.hid (addKeys_any g (max d (lv + 1)) (m + 1) (b + s.size) A a ks S _ hs3.out.box (HA.out.move fun b hb => ⟨hb, hs3.out.gr.block b (HS.out b hb).1 (fun e => (HS.out b hb).2 (by injection e with e))⟩) (fun b hb => ⟨Nat.lt_of_lt_of_le (HS.out b hb).1 hs3.out.gr.size, (HS.out b hb).2⟩) H2.out h3 (by omega) hle)
                  rw [hkk] at hk3
                  clear hkk
                  go_wp2_with fail
                  refine hk3.out.mono ?_
                  rintro e3 w3 ⟨hg3, rfl⟩
                  go_wp2_with fail
                  go_ret
                  rw [← hr.out]
                  exact ⟨grown_trans hs3.out.gr hg3, rfl⟩
              | some b2 =>
                have hr : Hid (addL es (lv + 1) (max d (lv + 1)) (m + 1) b2 = r) := Lib.hid (by rw [← hr2.out, hkk])
                rw [← hr.out]
                exact add_loop k n s ks es IH.out g lv d m b b2 A B a bb xs S w HX.out HA.out HB.out HL.out HS.out h1 H2.out h3 h4 l0 hlv d0 d1 m0 hm b0 b1 hle hel hfv' hok hkk hk2
            · have hr : Hid (none = r) := Lib.hid (by rw [← hr1.out, if_pos (.inr (by omega))])
              rcases hk2 with hk5 | ⟨hk5, hk6⟩
              all_goals
                go_enter Tryz.func25, Tryz.ntmps25
                go_wp2_with fail
                refine (hfit.out _).mono ?_
                rintro e1 w1 ⟨rfl, hb1⟩
                have hs1 := Lib.hid (hW0.out.below hb1 hgne)
                obtain ⟨p0, p1, p2, p3, p4⟩ := box5 hs1.out.own
                obtain ⟨gc0, gc1, gc2, gf0, gf1, gf2⟩ := box3 hs1.out.box
                have hcall := Lib.hid (addString_any g d (m + 1) b s w1 hs1.out.box h1 b0 b1)
                rw [hok] at hcall
                clear hok
                go_wp2_with fail
                refine hcall.out.mono ?_
                rintro e2 w2 ⟨rfl, rfl⟩
                have hs3 := Lib.hid ((hs1.out.str hgne (b + s.size)).dep hgne (max d (lv + 1)))
                go_wp2_with fail
                go_ret
                rw [← hr.out]
                exact ⟨hs3.out.gr, rfl⟩
          · have hr : Hid (none = r) := Lib.hid (by rw [← hr1.out, if_pos (.inl (by omega))])
            rcases hk2 with hk5 | ⟨hk5, hk6⟩
            all_goals
              go_enter Tryz.func25, Tryz.ntmps25
              go_wp2_with fail
              refine (hfit.out _).mono ?_
              rintro e1 w1 ⟨rfl, hb1⟩
              have hs1 := Lib.hid (hW0.out.below hb1 hgne)
              obtain ⟨p0, p1, p2, p3, p4⟩ := box5 hs1.out.own
              obtain ⟨gc0, gc1, gc2, gf0, gf1, gf2⟩ := box3 hs1.out.box
              have hcall := Lib.hid (addString_any g d (m + 1) b s w1 hs1.out.box h1 b0 b1)
              rw [hok] at hcall
              clear hok
              go_wp2_with fail
              refine hcall.out.mono ?_
              rintro e2 w2 ⟨rfl, rfl⟩
              have hs3 := Lib.hid ((hs1.out.str hgne (b + s.size)).dep hgne (max d (lv + 1)))
              go_wp2_with fail
              go_ret
              rw [← hr.out]
              exact ⟨hs3.out.gr, rfl⟩
        · have hr : Hid (some (d, m + 1, b + (s.size : Int)) = r) := Lib.hid (by
            rw [← HQ.out, addP, if_neg (by rintro (h | h | h); · omega
                                           · rw [hfv] at h; cases h
                                           · rw [hok] at h; cases h), if_pos (by omega)])
          have hk5 : (k != 5) = true := by simp; omega
          have hk6 : (k != 6) = true := by simp; omega
          clear hfv hk
          go_enter Tryz.func25, Tryz.ntmps25
          go_wp2_with fail
          refine (hfit.out _).mono ?_
          rintro e1 w1 ⟨rfl, hb1⟩
          have hs1 := Lib.hid (hW0.out.below hb1 hgne)
          obtain ⟨p0, p1, p2, p3, p4⟩ := box5 hs1.out.own
          obtain ⟨gc0, gc1, gc2, gf0, gf1, gf2⟩ := box3 hs1.out.box
          have hcall := Lib.hid (addString_any g d (m + 1) b s w1 hs1.out.box h1 b0 b1)
          rw [hok] at hcall
          clear hok
          go_wp2_with fail
          refine hcall.out.mono ?_
          rintro e2 w2 ⟨rfl, rfl⟩
          go_wp2_with fail
          go_ret
          rw [← hr.out]
          exact ⟨grown_trans hs1.out.gr (grown_set _ _ _ _), rfl, hs1.out.box.put 2 _⟩
  · have hr : Hid (none = r) := Lib.hid (by rw [← HQ.out, addP, if_pos (.inl (by omega))])
    go_enter Tryz.func25, Tryz.ntmps25
    go_wp2_with fail
    go_ret
    rw [← hr.out]
    exact ⟨hW0.out.gr, rfl⟩
end Go.Proofs.YtfmpdcmedaiooaaGreatDoor
namespace Go.Proofs.YtfmpdcmedaiooaaGreatDoor
open Go.RowKit
/-- The program's measure of a value: depth, nodes, bytes, or none. -/
def meas (v : V) : Option (Int × Int × Int) := addP v 0 0 0 0
def measV : Option (Int × Int × Int) → Value
  | none => .tuple #[.agg #[.int .i64 0, .int .i64 0, .int .i64 0], .bool false]
  | some (d, m, b) => .tuple #[.agg #[.int .i64 d, .int .i64 m, .int .i64 b], .bool true]
set_option maxHeartbeats 1000000 in
set_option maxRecDepth 100000 in
theorem measure_any (v : V) (cs : List Value) (w : World) (h : Lies w (· < w.heap.size) v cs) :
    Calls Tryz.prog 14 #[.agg cs.toArray] w fun e w' => e = .returned (measV (meas v)) ∧ Below w.heap.size w w' := by
  generalize hq : meas v = o
  have HQ := Lib.hid hq
  clear hq
  have hl := Lib.hid h
  obtain ⟨k, n, s, ks, es⟩ := v
  obtain ⟨A, a, B, b, xs, rfl, _⟩ := lies_open h
  clear h
  show Calls _ _ #[.agg #[.int .i64 k, .int .i64 n, .string s, .slice A ks.length a, .slice B es.length b]] w _
  have hbx : ∀ (x y z : Obj), Lies (((w.alloc x).alloc y).alloc z) (· < w.heap.size) (.mk k n s ks es) [.int .i64 k, .int .i64 n, .string s, .slice A ks.length a, .slice B es.length b] := fun x y z =>
    hl.out.move fun i hi => ⟨hi, by rw [Below.heap_alloc _ _ _ (by simp; omega), Below.heap_alloc _ _ _ (by simp; omega), Below.heap_alloc _ _ _ hi]⟩
  have HL := Lib.hid hbx
  clear hbx
  have hcall : ∀ x y : Obj, Calls Tryz.prog 25 #[.pointer (some ⟨w.heap.size + 2, 0, none⟩), .agg #[.int .i64 k, .int .i64 n, .string s, .slice A ks.length a, .slice B es.length b], .int .i64 0]
      (((w.alloc x).alloc y).alloc (.cells #[.int .i64 0, .int .i64 0, .int .i64 0] 37)) (AddPost (w.heap.size + 2) o (((w.alloc x).alloc y).alloc (.cells #[.int .i64 0, .int .i64 0, .int .i64 0] 37))) := by
    intro x y
    have hb := Box.laid ((w.alloc x).alloc y) 37 #[.int .i64 0, .int .i64 0, .int .i64 0]
    have e : ((w.alloc x).alloc y).heap.size = w.heap.size + 2 := by simp
    rw [e] at hb
    rw [← HQ.out]
    exact add_any (.mk k n s ks es) (w.heap.size + 2) 0 0 0 0 [.int .i64 k, .int .i64 n, .string s, .slice A ks.length a, .slice B es.length b] (· < w.heap.size) _ hb (HL.out _ _ _) (fun b hb => ⟨by simp; omega, by omega⟩) (by omega) (by omega) (by omega) (by omega) (by omega) (by omega) (by omega) (by omega)
  have HC := Lib.hid hcall
  clear hcall
  cases o with
  | none =>
    go_enter Tryz.func14, Tryz.ntmps14
    go_wp2_with fail
    refine (HC.out _ _).mono ?_
    rintro e1 w1 ⟨hg, rfl⟩
    have hsz : w.heap.size + 2 < w1.heap.size := by have := hg.size; simp at this; omega
    have hres : Hid (Box w1 (w.heap.size + 1) 37 #[.int .i64 0, .int .i64 0, .int .i64 0]) := Lib.hid (by
      have h1 := Box.laid (w.alloc (.cells #[.int .i64 k, .int .i64 n, .string s, .slice A ks.length a, .slice B es.length b] 25)) 37 #[.int .i64 0, .int .i64 0, .int .i64 0]
      have e : (w.alloc (.cells #[.int .i64 k, .int .i64 n, .string s, .slice A ks.length a, .slice B es.length b] 25)).heap.size = w.heap.size + 1 := by simp
      rw [e] at h1
      exact (h1.alloc _).grown hg (by simp))
    have hb : Hid (Below w.heap.size w w1) := Lib.hid (((((Below.refl _ _).alloc (Nat.le_refl _) _).alloc (by simp) _).alloc (by simp; omega) _).trans ((grown_below hg (by simp)).mono (by omega)))
    obtain ⟨r0, r1, r2, f0, f1, f2⟩ := box3 hres.out
    go_wp2_with fail
    refine bodyPost_ret (v := .tuple #[.agg #[.int .i64 0, .int .i64 0, .int .i64 0], .bool false]) (by simp [results, Tryz.results14, go_sem, r0, r1, r2]) rfl ⟨rfl, ?_⟩
    exact ((hb.out.setCell (by simp) _).setCell (by simp) _).setCell (by simp) _
  | some q =>
    obtain ⟨d, m, c⟩ := q
    go_enter Tryz.func14, Tryz.ntmps14
    go_wp2_with fail
    refine (HC.out _ _).mono ?_
    rintro e1 w1 ⟨hg, rfl, hbx⟩
    have hsz : w.heap.size + 2 < w1.heap.size := by have := hg.size; simp at this; omega
    have hres : Hid (Box w1 (w.heap.size + 1) 37 #[.int .i64 0, .int .i64 0, .int .i64 0]) := Lib.hid (by
      have h1 := Box.laid (w.alloc (.cells #[.int .i64 k, .int .i64 n, .string s, .slice A ks.length a, .slice B es.length b] 25)) 37 #[.int .i64 0, .int .i64 0, .int .i64 0]
      have e : (w.alloc (.cells #[.int .i64 k, .int .i64 n, .string s, .slice A ks.length a, .slice B es.length b] 25)).heap.size = w.heap.size + 1 := by simp
      rw [e] at h1
      exact (h1.alloc _).grown hg (by simp))
    have hb : Hid (Below w.heap.size w w1) := Lib.hid (((((Below.refl _ _).alloc (Nat.le_refl _) _).alloc (by simp) _).alloc (by simp; omega) _).trans ((grown_below hg (by simp)).mono (by omega)))
    obtain ⟨r0, r1, r2, f0, f1, f2⟩ := box3 hres.out
    obtain ⟨q0, q1, q2, _, _, _⟩ := box3 hbx
    clear hbx
    go_wp2_with fail
    refine bodyPost_ret (v := .tuple #[.agg #[.int .i64 d, .int .i64 m, .int .i64 c], .bool true]) (by simp [results, Tryz.results14, go_sem, r0, r1, r2]) rfl ⟨rfl, ?_⟩
    exact ((hb.out.setCell (by simp) _).setCell (by simp) _).setCell (by simp) _
def valid (v : V) : Bool := (meas v).isSome
set_option maxHeartbeats 1000000 in
set_option maxRecDepth 100000 in
theorem valid_any (v : V) (cs : List Value) (w : World) (h : Lies w (· < w.heap.size) v cs) :
    Calls Tryz.prog 5 #[.agg cs.toArray] w fun e w' => e = .returned (.bool (valid v)) ∧ Below w.heap.size w w' := by
  have HC : Hid (∀ W, Below w.heap.size w W → Calls Tryz.prog 14 #[.agg cs.toArray] W fun e w' => e = .returned (measV (meas v)) ∧ Below W.heap.size W w') := Lib.hid fun W hW => measure_any v cs W (below_lies hW h)
  obtain ⟨k, n, s, ks, es⟩ := v
  obtain ⟨A, a, B, b, xs, rfl, _⟩ := lies_open h
  clear h
  show Calls _ _ #[.agg #[.int .i64 k, .int .i64 n, .string s, .slice A ks.length a, .slice B es.length b]] w _
  generalize hq : V.mk k n s ks es = v at HC ⊢
  clear hq
  unfold valid
  generalize meas v = o at HC ⊢
  rcases o with _ | ⟨d, m, c⟩
  all_goals
    simp only [measV] at HC
    go_enter Tryz.func5, Tryz.ntmps5
    go_wp2_with fail
    refine (HC.out _ ((Below.refl _ _).alloc (Nat.le_refl _) _)).mono ?_
    rintro e1 w1 ⟨rfl, hb⟩
    have hb2 := Lib.hid (((Below.refl w.heap.size w).alloc (Nat.le_refl _) _).trans (hb.mono (by simp)))
    go_wp2_with fail
    go_ret
    exact ⟨rfl, hb2.out.alloc (hb2.out.size) _⟩
end Go.Proofs.YtfmpdcmedaiooaaGreatDoor
namespace Go.Proofs.YtfmpdcmedaiooaaGreatDoor
open Go.RowKit
def CmpOk (v : V) : Prop := ∀ (u : V) (cs ds : List Value) (w : World), Lies w (· < w.heap.size) v cs → Lies w (· < w.heap.size) u ds →
  Calls Tryz.prog 97 #[.agg cs.toArray, .agg ds.toArray] w fun e w' => e = .returned (.int .i64 (vcmp v u)) ∧ Below w.heap.size w w'
theorem calm_lies {w : World} (u : Calm w.heap.size w) {v : V} {cs : List Value} (h : Lies w (· < w.heap.size) v cs) : Lies u.val (· < u.val.heap.size) v cs := below_lies u.below h
/-- The two boxes that a call lays first. -/
theorem box_two {w w' : World} {cs ds : Array Value} {t : TypeId} (hb : Below (w.heap.size + 2) ((w.alloc (.cells cs t)).alloc (.cells ds t)) w') (i : Nat) : w'.cell? ⟨w.heap.size, i, none⟩ = cs[i]? ∧ w'.cell? ⟨w.heap.size + 1, i, none⟩ = ds[i]? := by
  refine ⟨?_, ?_⟩
  · rw [hb.cell (p := ⟨w.heap.size, i, none⟩) (by show w.heap.size < _; omega)]
    have h1 : Box ((w.alloc (.cells cs t)).alloc (.cells ds t)) w.heap.size t cs := (Box.laid w t cs).alloc _
    exact cell_of_row _ _ i cs t (0, 0) h1
  · rw [hb.cell (p := ⟨w.heap.size + 1, i, none⟩) (by show w.heap.size + 1 < _; omega)]
    have h1 : Box ((w.alloc (.cells cs t)).alloc (.cells ds t)) (w.alloc (.cells cs t)).heap.size t ds := Box.laid _ t ds
    have e : (w.alloc (.cells cs t)).heap.size = w.heap.size + 1 := by simp
    rw [e] at h1
    exact cell_of_row _ _ i ds t (0, 0) h1
theorem below_two {w w' : World} {o p : Obj} (hb : Below (w.heap.size + 2) ((w.alloc o).alloc p) w') : Below w.heap.size w w' := (below2 w o p).trans (hb.mono (by omega))
set_option maxHeartbeats 2000000 in
set_option maxRecDepth 100000 in
theorem compare_any : ∀ v : V, CmpOk v := by
  refine V.ind fun k n s ks es ih u cs ds w h1 h2 => ?_
  cases u with
  | mk k' n' s' ks' es' =>
    have hf := lies_fit _ _ h1
    have hg := lies_fit _ _ h2
    rw [V.Fit] at hf hg
    obtain ⟨_, _, f3, f4, _⟩ := hf
    obtain ⟨_, _, g3, g4, _⟩ := hg
    obtain ⟨A, a, B, b, xs, rfl, _, _, _, _, hA, hB, hL⟩ := lies_open h1
    obtain ⟨A', a', B', b', ys, rfl, _, _, _, _, hA', hB', hL'⟩ := lies_open h2
    have HS := Lib.hid (fun (W : World) (hb : Below w.heap.size w W) => slcmp_any A A' a a' ks ks' (· < w.heap.size) (· < w.heap.size) W (hA.move fun b h => ⟨h, hb.block b h⟩) (hA'.move fun b h => ⟨h, hb.block b h⟩) (by unfold maxLen; omega) (by unfold maxLen; omega))
    have HB := Lib.hid hB
    have HL := Lib.hid hL
    have HB' := Lib.hid hB'
    have HL' := Lib.hid hL'
    have IH := Lib.hid ih
    have hv : Hid (vcmp (.mk k n s ks es) (.mk k' n' s' ks' es') = if icmp k k' = 0 then (if icmp n n' = 0 then (if scmp s s' = 0 then (if kcmp ks ks' = 0 then vcmpL es es' else kcmp ks ks') else scmp s s') else icmp n n') else icmp k k') := Lib.hid (by rw [vcmp])
    clear hA hB hL hA' hB' hL' h1 h2 ih
    show Calls _ _ #[.agg #[.int .i64 k, .int .i64 n, .string s, .slice A ks.length a, .slice B es.length b], .agg #[.int .i64 k', .int .i64 n', .string s', .slice A' ks'.length a', .slice B' es'.length b']] w _
    have hse := same_eq s s'
    by_cases c1 : k = k'
    · subst c1
      by_cases c2 : n = n'
      · subst c2
        by_cases c3 : s = s'
        · subst c3
          clear hse
          have hv1 : Hid (vcmp (.mk k n s ks es) (.mk k n s ks' es') = if kcmp ks ks' = 0 then vcmpL es es' else kcmp ks ks') := Lib.hid (by rw [hv.out, if_pos (icmp_zero.2 rfl), if_pos (icmp_zero.2 rfl), if_pos (scmp_self _)])
          by_cases c4 : kcmp ks ks' = 0
          · have hv2 := Lib.hid (hv1.out.trans (if_pos c4))
            have hq : ((kcmp ks ks') != 0) = false := by simp [c4]
            clear c4
            go_enter Tryz.func97, Tryz.ntmps97
            go_wp2_with fail
            refine (HS.out _ (below2 _ _ _)).mono ?_
            rintro e' w' ⟨rfl, rfl⟩
            go_wp2_with fail
            go_loopw [56] (fun t wr => ∃ i : Nat, i ≤ es.length ∧ i ≤ es'.length ∧ t = .int .i64 i ∧ vcmpL es es' = vcmpL (es.drop i) (es'.drop i) ∧ Below (w.heap.size + 2) ((w.alloc (.cells #[.int .i64 k, .int .i64 n, .string s, .slice A ks.length a, .slice B es.length b] 25)).alloc (.cells #[.int .i64 k, .int .i64 n, .string s, .slice A' ks'.length a', .slice B' es'.length b'] 25)) wr) (fun t _ => es.length - (intOf t).toNat)
            case atStart => exact ⟨0, Nat.zero_le _, Nat.zero_le _, rfl, rfl, Below.refl _ _⟩
            case round =>
              obtain ⟨i, hi, hj, rfl, he0, hbel0⟩ := hrel
              have HE := Lib.hid he0
              have HBL := Lib.hid hbel0
              have p4 := (box_two hbel0 4).1
              have p4' := (box_two hbel0 4).2
              simp only [List.getElem?_toArray, List.getElem?_cons_succ, List.getElem?_cons_zero] at p4 p4'
              clear he0 hbel0
              by_cases hlt : i < es.length ∧ i < es'.length
              · obtain ⟨hlt1, hlt2⟩ := hlt
                obtain ⟨x, hx⟩ : ∃ x, es[i]? = some x := ⟨_, List.getElem?_eq_getElem hlt1⟩
                obtain ⟨y, hy⟩ : ∃ y, es'[i]? = some y := ⟨_, List.getElem?_eq_getElem hlt2⟩
                obtain ⟨xk, xn, xs', xks, xes⟩ := x
                obtain ⟨yk, yn, ys', yks, yes⟩ := y
                obtain ⟨b0, o0, xA, xa, xC, xc, rfl, hb0, hlx, c0, c1, c2, c3, c4⟩ := elem_open HB.out HL.out hx
                obtain ⟨b1, o1, yA, ya, yC, yc, rfl, hb1, hly, d0, d1, d2, d3, d4⟩ := elem_open HB'.out HL'.out hy
                have HBO := Lib.hid (below_two HBL.out)
                have g0 : w.heap.size < wr.heap.size := by have := HBL.out.size; simp at this; omega
                have g1 : w.heap.size + 1 < wr.heap.size := by have := HBL.out.size; simp at this; omega
                have gb0 : b0 < wr.heap.size := by omega
                have gb1 : b1 < wr.heap.size := by omega
                have m0 := fun u : Calm wr.heap.size wr => u.cell g0 p4
                have m1 := fun u : Calm wr.heap.size wr => u.cell g1 p4'
                have e0 := fun u : Calm wr.heap.size wr => u.cell gb0 (below_cell HBO.out hb0 c0)
                have e1 := fun u : Calm wr.heap.size wr => u.cell gb0 (below_cell HBO.out hb0 c1)
                have e2 := fun u : Calm wr.heap.size wr => u.cell gb0 (below_cell HBO.out hb0 c2)
                have e3 := fun u : Calm wr.heap.size wr => u.cell gb0 (below_cell HBO.out hb0 c3)
                have e4 := fun u : Calm wr.heap.size wr => u.cell gb0 (below_cell HBO.out hb0 c4)
                have f0 := fun u : Calm wr.heap.size wr => u.cell gb1 (below_cell HBO.out hb1 d0)
                have f1 := fun u : Calm wr.heap.size wr => u.cell gb1 (below_cell HBO.out hb1 d1)
                have f2 := fun u : Calm wr.heap.size wr => u.cell gb1 (below_cell HBO.out hb1 d2)
                have f3 := fun u : Calm wr.heap.size wr => u.cell gb1 (below_cell HBO.out hb1 d3)
                have f4 := fun u : Calm wr.heap.size wr => u.cell gb1 (below_cell HBO.out hb1 d4)
                clear c0 c1 c2 c3 c4 d0 d1 d2 d3 d4
                have hcall := Lib.hid (fun u : Calm wr.heap.size wr => IH.out _ (List.mem_of_getElem? hx) (.mk yk yn ys' yks yes) [.int .i64 xk, .int .i64 xn, .string xs', .slice xA xks.length xa, .slice xC xes.length xc] [.int .i64 yk, .int .i64 yn, .string ys', .slice yA yks.length ya, .slice yC yes.length yc] u.val (calm_lies u (below_lies HBO.out hlx)) (calm_lies u (below_lies HBO.out hly)))
                have hi1 : (i : Int) < (es.length : Int) := by omega
                have hi2 : (i : Int) < (es'.length : Int) := by omega
                by_cases hz : vcmp (.mk xk xn xs' xks xes) (.mk yk yn ys' yks yes) = 0
                · rw [hz] at hcall
                  have hst := Lib.hid (HE.out.trans (vcmpL_step hx hy hz))
                  clear hx hy hz hlx hly
                  go_wp2_with fail
                  refine wp_region_calm (w0 := wr) (B := wr.heap.size) (by kernel_rfl) (by kernel_rfl) (Below.refl _ _) ?_
                  repeat (go_big_quiet_step ((go_at_call 97; refine Calm.call (Nat.le_refl _) (hcall.out _))))
                  refine wpQuiet_nil ?_
                  intro _ hw'
                  obtain ⟨u, rfl⟩ := hw'
                  go_wp2_with fail
                  go_roundw
                  case rel => exact ⟨i + 1, by omega, by omega, by go_num, hst.out, HBL.out.trans (u.below.mono (by omega))⟩
                  case measure => simp [intOf]; omega
                · have hst := Lib.hid (hv2.out.trans (HE.out.trans (vcmpL_part hx hy hz)))
                  have hzb : ((vcmp (.mk xk xn xs' xks xes) (.mk yk yn ys' yks yes)) != 0) = true := by simp [hz]
                  generalize vcmp (.mk xk xn xs' xks xes) (.mk yk yn ys' yks yes) = z at hcall hst hzb
                  clear hx hy hz hlx hly
                  go_wp2_with fail
                  refine wp_region_calm (w0 := wr) (B := wr.heap.size) (by kernel_rfl) (by kernel_rfl) (Below.refl _ _) ?_
                  repeat (go_big_quiet_step ((go_at_call 97; refine Calm.call (Nat.le_refl _) (hcall.out _))))
                  refine wpQuiet_nil ?_
                  intro _ hw'
                  obtain ⟨u, rfl⟩ := hw'
                  go_wp2_with fail
                  go_ret
                  exact ⟨ret_int hst.out.symm, HBO.out.trans (u.below.mono (by omega))⟩
              · have hst := Lib.hid (hv2.out.trans (HE.out.trans (vcmpL_end hlt hi hj)))
                go_wp2_with fail
                refine (cmp_int _ _ _).mono ?_
                rintro e' w' ⟨rfl, rfl⟩
                go_wp2_with fail
                go_ret
                exact ⟨ret_int hst.out.symm, below_two HBL.out⟩
          · have hv2 := Lib.hid (hv1.out.trans (if_neg c4))
            have hq : ((kcmp ks ks') != 0) = true := by simp [c4]
            clear c4
            go_enter Tryz.func97, Tryz.ntmps97
            go_wp2_with fail
            refine (HS.out _ (below2 _ _ _)).mono ?_
            rintro e' w' ⟨rfl, rfl⟩
            go_wp2_with fail
            go_ret
            exact ⟨ret_int hv2.out.symm, below2 _ _ _⟩
        · have hq : (s.toList == s'.toList) = false := by rw [hse]; exact decide_eq_false fun h => c3 ((scmp_zero s s').1 h)
          have hz := Lib.hid (hv.out.trans (by rw [if_pos (icmp_zero.2 rfl), if_pos (icmp_zero.2 rfl), if_neg (fun h => c3 ((scmp_zero s s').1 h))]))
          clear c3 hse
          go_enter Tryz.func97, Tryz.ntmps97
          go_wp2_with fail
          refine (cmp_strings _ _ _).mono ?_
          rintro e' w' ⟨rfl, rfl⟩
          go_wp2_with fail
          go_ret
          exact ⟨ret_int hz.out.symm, below2 _ _ _⟩
      · have hq : (n != n') = true := by simp [c2]
        have hz := Lib.hid (hv.out.trans (by rw [if_pos (icmp_zero.2 rfl), if_neg (fun h => c2 (icmp_zero.1 h))]))
        clear c2 hse
        go_enter Tryz.func97, Tryz.ntmps97
        go_wp2_with fail
        refine (cmp_int64 _ _ _).mono ?_
        rintro e' w' ⟨rfl, rfl⟩
        go_wp2_with fail
        go_ret
        exact ⟨ret_int hz.out.symm, below2 _ _ _⟩
    · have hq : (k != k') = true := by simp [c1]
      have hz := Lib.hid (hv.out.trans (by rw [if_neg (fun h => c1 (icmp_zero.1 h))]))
      clear c1 hse
      go_enter Tryz.func97, Tryz.ntmps97
      go_wp2_with fail
      refine (cmp_int _ _ _).mono ?_
      rintro e' w' ⟨rfl, rfl⟩
      go_wp2_with fail
      go_ret
      exact ⟨ret_int hz.out.symm, below2 _ _ _⟩
def eqV (a b : V) : Bool := valid a && (valid b && decide (vcmp a b = 0))
/-- What Compare and Equal lean on, at two values that lie in w. -/
structure Two (v u : V) (cs ds : List Value) (w : World) : Prop where
  h1 : Lies w (· < w.heap.size) v cs
  h2 : Lies w (· < w.heap.size) u ds
theorem Two.cmp {v u : V} {cs ds : List Value} {w W : World} (h : Two v u cs ds w) (hb : Below w.heap.size w W) : Calls Tryz.prog 97 #[.agg cs.toArray, .agg ds.toArray] W fun e w' => e = .returned (.int .i64 (vcmp v u)) ∧ Below W.heap.size W w' := compare_any v u cs ds W (below_lies hb h.h1) (below_lies hb h.h2)
theorem two_step {w w1 w2 : World} {cs ds : Array Value} {t : TypeId} (hb : Below (w.heap.size + 2) ((w.alloc (.cells cs t)).alloc (.cells ds t)) w1) (hc : Below w1.heap.size w1 w2) : Below (w.heap.size + 2) ((w.alloc (.cells cs t)).alloc (.cells ds t)) w2 :=
  hb.trans (hc.mono (by have := hb.size; simp at this; omega))
end Go.Proofs.YtfmpdcmedaiooaaGreatDoor
namespace Go.Proofs.YtfmpdcmedaiooaaGreatDoor
open Go.RowKit
theorem below_one {w w' : World} {o : Obj} (hb : Below (w.heap.size + 1) (w.alloc o) w') : Below w.heap.size w w' := below_old hb
theorem one_step {w w1 w2 : World} {o : Obj} (hb : Below (w.heap.size + 1) (w.alloc o) w1) (hc : Below w1.heap.size w1 w2) : Below (w.heap.size + 1) (w.alloc o) w2 :=
  hb.trans (hc.mono (by have := hb.size; simp at this; omega))
theorem below1 (w : World) (o : Obj) : Below w.heap.size w (w.alloc o) := (Below.refl _ _).alloc (Nat.le_refl _) o
end Go.Proofs.YtfmpdcmedaiooaaGreatDoor
namespace Go.Proofs.YtfmpdcmedaiooaaGreatDoor
open Go.RowKit
theorem meas_some (v : V) (d m b : Int) : meas v = some (d, m, b) ↔ good v = true ∧ dep v ≤ 32 ∧ v.sz ≤ 4096 ∧ vbyt v ≤ 65536 ∧ d = dep v ∧ m = v.sz ∧ b = vbyt v := by
  unfold meas
  rw [addP_iff v 0 0 0 0 d m b (by omega) (by omega) (by omega) (by omega) (by omega)]
  constructor
  · rintro ⟨h0, h1, h2, h3, h4, h5, h6⟩; exact ⟨h0, by omega, by omega, by omega, by omega, by omega, by omega⟩
  · rintro ⟨h0, h1, h2, h3, h4, h5, h6⟩; exact ⟨h0, by omega, by omega, by omega, by omega, by omega, by omega⟩
/-- A valid value, said once. -/
def Ok (v : V) : Prop := good v = true ∧ dep v ≤ 32 ∧ v.sz ≤ 4096 ∧ vbyt v ≤ 65536
theorem valid_iff (v : V) : valid v = true ↔ Ok v := by
  unfold valid
  cases h : meas v with
  | none =>
    constructor
    · intro h; cases h
    · rintro ⟨h0, h1, h2, h3⟩
      have := (meas_some v (dep v) v.sz (vbyt v)).2 ⟨h0, h1, h2, h3, rfl, rfl, rfl⟩
      rw [h] at this
      cases this
  | some q =>
    obtain ⟨d, m, b⟩ := q
    obtain ⟨h0, h1, h2, h3, _⟩ := (meas_some v d m b).1 h
    exact ⟨fun _ => ⟨h0, h1, h2, h3⟩, fun _ => rfl⟩
end Go.Proofs.YtfmpdcmedaiooaaGreatDoor

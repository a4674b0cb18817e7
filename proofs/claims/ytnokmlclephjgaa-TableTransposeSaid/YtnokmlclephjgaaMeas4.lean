/- The program's add. -/
import Derived.Test.YtnokmlclephjgaaMeas3
set_option linter.unusedVariables false
set_option linter.unusedSimpArgs false
namespace Go.Proofs.Ytnokmlclephjgaa
open Go.RowKit
set_option maxHeartbeats 4000000 in
set_option maxRecDepth 100000 in
theorem add_any : ∀ v : V, AddOk v := by
  refine V.ind fun k n s ks es ih g lv d m b cs S w hbox h hS l0 l1 d0 d1 m0 m1 b0 b1 => ?_
  have hf := lies_fit _ _ h
  rw [V.Fit] at hf
  obtain ⟨h1, h2, h3, h4, _⟩ := hf
  obtain ⟨A, a, B, bb, xs, rfl, hAn, hBn, ⟨ha1, ha2⟩, ⟨hb1, hb2⟩, hA, hB, hL⟩ := lies_open h
  have hg : g < w.heap.size := hbox.lt
  have hgne : ¬ g = w.heap.size := by omega
  have HX := Lib.hid hbox
  have HA := Lib.hid hA
  have HB := Lib.hid hB
  have HL := Lib.hid hL
  have IH := Lib.hid ih
  have HS := Lib.hid hS
  have H2 := Lib.hid h2
  obtain ⟨gc0, gc1, gc2, gf0, gf1, gf2⟩ := box3 hbox
  clear hA hB hL ih hS h2 h hbox hAn hBn
  generalize hq : addP (.mk k n s ks es) lv d m b = r
  have HQ := Lib.hid hq
  clear hq
  show Calls _ _ #[.pointer (some ⟨g, 0, none⟩), .agg #[.int .i64 k, .int .i64 n, .string s, .slice A ks.length a, .slice B es.length bb], .int .i64 lv] w _
  have hW0 : Hid (St g w.heap.size #[.int .i64 k, .int .i64 n, .string s, .slice A ks.length a, .slice B es.length bb] w d (m + 1) b ((w.setCell ⟨g, 1, none⟩ (.int .i64 (m + 1))).alloc (.cells #[.int .i64 k, .int .i64 n, .string s, .slice A ks.length a, .slice B es.length bb] 27))) :=
    Lib.hid ⟨grown_trans (grown_set _ _ _ _) (World.grownBy_alloc _ _ _), (HX.out.put 1 _).alloc _, by have := Box.laid (w.setCell ⟨g, 1, none⟩ (.int .i64 (m + 1))) 27 #[.int .i64 k, .int .i64 n, .string s, .slice A ks.length a, .slice B es.length bb]; simpa using this⟩
  by_cases hm : m + 1 ≤ 4096
  · have hfit := Lib.hid (fun W => fits_any k n s A B ks.length es.length a bb W h1 h3 h4)
    cases hfv : fits k n s ks.length es.length with
    | false =>
      rw [hfv] at hfit
      have hr : Hid (none = r) := Lib.hid (by rw [← HQ.out, addP, if_pos (.inr (.inl hfv))])
      clear hfv
      go_enter Try.func51, Try.ntmps51
      go_wp2_with fail
      refine (hfit.out _).mono ?_
      rintro e1 w1 ⟨rfl, hb1⟩
      have h1 := Lib.hid (hW0.out.below hb1 hgne)
      go_wp2_with fail
      go_ret
      rw [← hr.out]
      exact ⟨h1.out.gr, rfl⟩
    | true =>
      rw [hfv] at hfit
      cases hok : strOk s b with
      | false =>
        have hr : Hid (none = r) := Lib.hid (by rw [← HQ.out, addP, if_pos (.inr (.inr hok))])
        clear hfv
        go_enter Try.func51, Try.ntmps51
        go_wp2_with fail
        refine (hfit.out _).mono ?_
        rintro e1 w1 ⟨rfl, hb1⟩
        have hs1 := Lib.hid (hW0.out.below hb1 hgne)
        obtain ⟨p0, p1, p2, p3, p4⟩ := box5 hs1.out.own
        obtain ⟨gc0, gc1, gc2, gf0, gf1, gf2⟩ := box3 hs1.out.box
        have hcall := Lib.hid (addString_any g d (m + 1) b s w1 hs1.out.box h1 b0 b1)
        rw [hok] at hcall
        clear hok
        go_wp2_with fail
        refine hcall.out.mono ?_
        rintro e2 w2 ⟨rfl, rfl⟩
        go_wp2_with fail
        go_ret
        rw [← hr.out]
        exact ⟨grown_trans hs1.out.gr (grown_set _ _ _ _), rfl⟩
      | true =>
        have hle : b + s.size ≤ 65536 := by simp [strOk] at hok; omega
        by_cases hk : k = 5 ∨ k = 6
        · have hnc : ¬ (4096 < m + 1 ∨ fits k n s ks.length es.length = false ∨ strOk s b = false) := by
            rintro (h | h | h)
            · omega
            · rw [hfv] at h; cases h
            · rw [hok] at h; cases h
          have hr1 : Hid ((if 32 < lv + 1 ∨ 1024 < es.length then none else match keysP ks none (b + s.size) with | none => none | some b' => addL es (lv + 1) (max d (lv + 1)) (m + 1) b') = r) := Lib.hid (by
            have e := HQ.out
            rw [addP, if_neg hnc, if_neg (by omega)] at e
            exact e)
          have hk2 : (k != 5) = false ∨ ((k != 5) = true ∧ (k != 6) = false) := by rcases hk with rfl | rfl <;> simp
          have hfv' := hfv
          clear hnc hk hfv
          by_cases hlv : lv + 1 ≤ 32
          · by_cases hel : es.length ≤ 1024
            · have hr2 := Lib.hid ((if_neg (by omega)).symm.trans hr1.out)
              cases hkk : keysP ks none (b + s.size) with
              | none =>
                have hr : Hid (none = r) := Lib.hid (by rw [← hr2.out, hkk])
                rcases hk2 with hk5 | ⟨hk5, hk6⟩
                all_goals
                  go_enter Try.func51, Try.ntmps51
                  go_wp2_with fail
                  refine (hfit.out _).mono ?_
                  rintro e1 w1 ⟨rfl, hb1⟩
                  have hs1 := Lib.hid (hW0.out.below hb1 hgne)
                  obtain ⟨p0, p1, p2, p3, p4⟩ := box5 hs1.out.own
                  obtain ⟨gc0, gc1, gc2, gf0, gf1, gf2⟩ := box3 hs1.out.box
                  have hcall := Lib.hid (addString_any g d (m + 1) b s w1 hs1.out.box h1 b0 b1)
                  rw [hok] at hcall
                  clear hok
                  go_wp2_with fail
                  refine hcall.out.mono ?_
                  rintro e2 w2 ⟨rfl, rfl⟩
                  have hs3 := Lib.hid ((hs1.out.str hgne (b + s.size)).dep hgne (max d (lv + 1)))
                  have hk3 := Lib.hid (addKeys_any g (max d (lv + 1)) (m + 1) (b + s.size) A a ks S _ hs3.out.box (HA.out.move fun b hb => ⟨hb, hs3.out.gr.block b (HS.out b hb).1 (fun e => (HS.out b hb).2 (by injection e with e))⟩) (fun b hb => ⟨Nat.lt_of_lt_of_le (HS.out b hb).1 hs3.out.gr.size, (HS.out b hb).2⟩) H2.out h3 (by omega) hle)
                  rw [hkk] at hk3
                  clear hkk
                  go_wp2_with fail
                  refine hk3.out.mono ?_
                  rintro e3 w3 ⟨hg3, rfl⟩
                  go_wp2_with fail
                  go_ret
                  rw [← hr.out]
                  exact ⟨grown_trans hs3.out.gr hg3, rfl⟩
              | some b2 =>
                have hr : Hid (addL es (lv + 1) (max d (lv + 1)) (m + 1) b2 = r) := Lib.hid (by rw [← hr2.out, hkk])
                rw [← hr.out]
                exact add_loop k n s ks es IH.out g lv d m b b2 A B a bb xs S w HX.out HA.out HB.out HL.out HS.out h1 H2.out h3 h4 l0 hlv d0 d1 m0 hm b0 b1 hle hel hfv' hok hkk hk2
            · have hr : Hid (none = r) := Lib.hid (by rw [← hr1.out, if_pos (.inr (by omega))])
              rcases hk2 with hk5 | ⟨hk5, hk6⟩
              all_goals
                go_enter Try.func51, Try.ntmps51
                go_wp2_with fail
                refine (hfit.out _).mono ?_
                rintro e1 w1 ⟨rfl, hb1⟩
                have hs1 := Lib.hid (hW0.out.below hb1 hgne)
                obtain ⟨p0, p1, p2, p3, p4⟩ := box5 hs1.out.own
                obtain ⟨gc0, gc1, gc2, gf0, gf1, gf2⟩ := box3 hs1.out.box
                have hcall := Lib.hid (addString_any g d (m + 1) b s w1 hs1.out.box h1 b0 b1)
                rw [hok] at hcall
                clear hok
                go_wp2_with fail
                refine hcall.out.mono ?_
                rintro e2 w2 ⟨rfl, rfl⟩
                have hs3 := Lib.hid ((hs1.out.str hgne (b + s.size)).dep hgne (max d (lv + 1)))
                go_wp2_with fail
                go_ret
                rw [← hr.out]
                exact ⟨hs3.out.gr, rfl⟩
          · have hr : Hid (none = r) := Lib.hid (by rw [← hr1.out, if_pos (.inl (by omega))])
            rcases hk2 with hk5 | ⟨hk5, hk6⟩
            all_goals
              go_enter Try.func51, Try.ntmps51
              go_wp2_with fail
              refine (hfit.out _).mono ?_
              rintro e1 w1 ⟨rfl, hb1⟩
              have hs1 := Lib.hid (hW0.out.below hb1 hgne)
              obtain ⟨p0, p1, p2, p3, p4⟩ := box5 hs1.out.own
              obtain ⟨gc0, gc1, gc2, gf0, gf1, gf2⟩ := box3 hs1.out.box
              have hcall := Lib.hid (addString_any g d (m + 1) b s w1 hs1.out.box h1 b0 b1)
              rw [hok] at hcall
              clear hok
              go_wp2_with fail
              refine hcall.out.mono ?_
              rintro e2 w2 ⟨rfl, rfl⟩
              have hs3 := Lib.hid ((hs1.out.str hgne (b + s.size)).dep hgne (max d (lv + 1)))
              go_wp2_with fail
              go_ret
              rw [← hr.out]
              exact ⟨hs3.out.gr, rfl⟩
        · have hr : Hid (some (d, m + 1, b + (s.size : Int)) = r) := Lib.hid (by
            rw [← HQ.out, addP, if_neg (by rintro (h | h | h); · omega
                                           · rw [hfv] at h; cases h
                                           · rw [hok] at h; cases h), if_pos (by omega)])
          have hk5 : (k != 5) = true := by simp; omega
          have hk6 : (k != 6) = true := by simp; omega
          clear hfv hk
          go_enter Try.func51, Try.ntmps51
          go_wp2_with fail
          refine (hfit.out _).mono ?_
          rintro e1 w1 ⟨rfl, hb1⟩
          have hs1 := Lib.hid (hW0.out.below hb1 hgne)
          obtain ⟨p0, p1, p2, p3, p4⟩ := box5 hs1.out.own
          obtain ⟨gc0, gc1, gc2, gf0, gf1, gf2⟩ := box3 hs1.out.box
          have hcall := Lib.hid (addString_any g d (m + 1) b s w1 hs1.out.box h1 b0 b1)
          rw [hok] at hcall
          clear hok
          go_wp2_with fail
          refine hcall.out.mono ?_
          rintro e2 w2 ⟨rfl, rfl⟩
          go_wp2_with fail
          go_ret
          rw [← hr.out]
          exact ⟨grown_trans hs1.out.gr (grown_set _ _ _ _), rfl, hs1.out.box.put 2 _⟩
  · have hr : Hid (none = r) := Lib.hid (by rw [← HQ.out, addP, if_pos (.inl (by omega))])
    go_enter Try.func51, Try.ntmps51
    go_wp2_with fail
    go_ret
    rw [← hr.out]
    exact ⟨hW0.out.gr, rfl⟩
end Go.Proofs.Ytnokmlclephjgaa

/- JsonwriteInjective answers true for every two values. -/
import Derived.Test.YtacnpligpbiamaaDoorG14
import Derived.Test.YtacnpligpbiamaaDoorG12
import Derived.Test.YtacnpligpbiamaaDoorG20
import Derived.Test.YtacnpligpbiamaaDoorG8
import Derived.Test.YtacnpligpbiamaaDoorJt
import Derived.Lib.Strings
set_option linter.unusedVariables false
set_option linter.unusedSimpArgs false
namespace Go.Proofs.YtacnpligpbiamaaDoor
open Go.RowKit
theorem two_rowW {w : World} {v u : V} {cs ds : List Value} {g : Nat} (h : Lies w (· < w.heap.size) v cs) (k : Lies w (· < w.heap.size) u ds) (hg : Box w g 35 (cs ++ ds).toArray) : Row w (some ⟨g, 0, none⟩) [v, u] (cs ++ ds) := by
  refine ⟨rs_boxW (cs := cs ++ ds) hg hg.lt, ?_⟩
  rw [LiesL]
  refine ⟨cs, ds, rfl, h, ?_⟩
  rw [LiesL]
  exact ⟨ds, [], by simp, k, by rw [LiesL]⟩
theorem eqV_txt {a b : V} (h : valid a = true) (k : valid b = true) : eqV a b = decide (txt a = txt b) := by
  unfold eqV txt
  rw [h, k, if_pos rfl, if_pos rfl]
  simp only [Bool.true_and]
  rw [Bool.eq_iff_iff]
  simp only [decide_eq_true_eq]
  rw [vcmp_zero]
  exact ⟨fun e => by rw [e], fun e => wr_inj ((valid_iff a).1 h).1 ((valid_iff b).1 k).1 e⟩
theorem txt_ge {v : V} : ∀ b ∈ txt v, 32 ≤ b.toNat := by
  unfold txt
  split
  · exact wr_ge v
  · intro b hb; cases hb
theorem txt_ne {v : V} (h : valid v = true) : txt v ≠ [] := by
  unfold txt
  rw [if_pos h]
  exact wr_ne v
set_option maxHeartbeats 8000000 in
set_option maxRecDepth 100000 in
theorem jinj_walk (v u : V) (cs ds : List Value) (w : World) (h : Lies w (· < w.heap.size) v cs) (h' : Lies w (· < w.heap.size) u ds) (hr : rng v) (hr' : rng u) (ht : TabS w) :
    Calls Tryd.prog 6 #[.agg cs.toArray, .agg ds.toArray] w fun e w' => e = .returned (.bool true) ∧ Below w.heap.size w w' := by
  have haw := Lib.hid (fun W (hW : Below w.heap.size w W) => awake5_any W (ht.next hW))
  have hva := Lib.hid (fun W (hW : Below w.heap.size w W) => valid_any v cs W (below_lies hW h))
  have hvb := Lib.hid (fun W (hW : Below w.heap.size w W) => valid_any u ds W (below_lies hW h'))
  have hta := Lib.hid (fun W (hW : Below w.heap.size w W) => wText_any v cs W (below_lies hW h) hr (ht.next hW))
  have htb := Lib.hid (fun W (hW : Below w.heap.size w W) => wText_any u ds W (below_lies hW h') hr' (ht.next hW))
  have heq := Lib.hid (fun W (hW : Below w.heap.size w W) => equal_any v u cs ds W (below_lies hW h) (below_lies hW h'))
  have hsmr := Lib.hid (fun W (hW : Below w.heap.size w W) g hg => small_any 100 [v, u] (some ⟨g, 0, none⟩) 2 (cs ++ ds) W (two_rowW (below_lies hW h) (below_lies hW h') hg) (by simp) (by omega) (by omega))
  generalize smallP 100 [v, u] = sm at hsmr
  have HET := Lib.hid (fun a b => eqV_txt (a := v) (b := u) a b)
  have HNE := Lib.hid (fun a => txt_ne (v := v) a)
  have HGE := Lib.hid (txt_ge (v := v))
  have HTL := Lib.hid (txt_len hr)
  obtain ⟨k, n, s, ks, es⟩ := v
  obtain ⟨A, a, B, b, xs, rfl, _⟩ := lies_open h
  obtain ⟨k2, n2, s2, ks2, es2⟩ := u
  obtain ⟨A2, a2, B2, b2, xs2, rfl, _⟩ := lies_open h'
  clear h h' hr hr' ht
  generalize valid (V.mk k n s ks es) = va at hva HET HNE
  generalize valid (V.mk k2 n2 s2 ks2 es2) = vb at hvb HET
  generalize eqV (V.mk k n s ks es) (V.mk k2 n2 s2 ks2 es2) = E at heq HET
  generalize txt (V.mk k n s ks es) = T0 at hta HET HNE HGE HTL
  generalize txt (V.mk k2 n2 s2 ks2 es2) = T1 at htb HET
  generalize ks.length = l1 at *
  generalize es.length = l2 at *
  generalize ks2.length = l3 at *
  generalize es2.length = l4 at *
  show Calls _ _ #[.agg #[.int .i64 k, .int .i64 n, .string s, .slice A l1 a, .slice B l2 b], .agg #[.int .i64 k2, .int .i64 n2, .string s2, .slice A2 l3 a2, .slice B2 l4 b2]] w _
  obtain ⟨W0, hW0⟩ : ∃ X, X = (w.alloc (.cells #[.int .i64 k, .int .i64 n, .string s, .slice A l1 a, .slice B l2 b] 35)).alloc (.cells #[.int .i64 k2, .int .i64 n2, .string s2, .slice A2 l3 a2, .slice B2 l4 b2] 35) := ⟨_, rfl⟩
  have HX0 := Lib.hid (show Box W0 w.heap.size 35 #[.int .i64 k, .int .i64 n, .string s, .slice A l1 a, .slice B l2 b] by rw [hW0]; exact (Box.laid w _ _).alloc _)
  have HY0 := Lib.hid (show Box W0 (w.heap.size + 1) 35 #[.int .i64 k2, .int .i64 n2, .string s2, .slice A2 l3 a2, .slice B2 l4 b2] by rw [hW0]; exact box_new _ _ _ _ (by simp))
  have HB0 := Lib.hid (show Below w.heap.size w W0 by rw [hW0]; exact ((Below.refl _ _).alloc (Nat.le_refl _) _).alloc (by simp) _)
  have hz0 : W0.heap.size = w.heap.size + 2 := by rw [hW0]; simp
  have HW0 := Lib.hid hW0
  have hsm := Lib.hid (hsmr.out (W0.alloc (.cells #[.int .i64 k, .int .i64 n, .string s, .slice A l1 a, .slice B l2 b, .int .i64 k2, .int .i64 n2, .string s2, .slice A2 l3 a2, .slice B2 l4 b2] 35)) (chain HB0.out (below1 _ _)) W0.heap.size (Box.laid W0 _ _))
  clear hW0 hsmr hz0
  obtain ⟨t0, t1, t2, t3, t4⟩ := box5 HX0.out
  obtain ⟨y0, y1, y2, y3, y4⟩ := box5 HY0.out
  go_enter Tryd.func6, Tryd.ntmps6
  go_upto_region 1 with fail
  rw [← HW0.out]
  go_wp2_with fail
  refine hsm.out.mono ?_
  rintro e1 w1 ⟨rfl, hb1⟩
  have HB1 := Lib.hid (chain HB0.out (chain (below1 W0 _) hb1))
  have HX1 := Lib.hid (HX0.out.below (chain (below1 W0 _) hb1) HX0.out.lt)
  have HY1 := Lib.hid (HY0.out.below (chain (below1 W0 _) hb1) HY0.out.lt)
  clear hsm hb1 t0 t1 t2 t3 t4 y0 y1 y2 y3 y4
  cases sm with
  | false =>
    go_wp2_with (go_at_call 15; refine (haw.out _ HB1.out).mono ?_; rintro e2 w2 ⟨rfl, hb2⟩)
    go_ret
    exact ⟨rfl, chain HB1.out hb2⟩
  | true =>
    obtain ⟨t0, t1, t2, t3, t4⟩ := box5 HX1.out
    go_wp2_with fail
    refine (hva.out _ HB1.out).mono ?_
    rintro e2 w2 ⟨rfl, hb2⟩
    have HB2 := Lib.hid (chain HB1.out hb2)
    have HX2 := Lib.hid (HX1.out.below hb2 HX1.out.lt)
    have HY2 := Lib.hid (HY1.out.below hb2 HY1.out.lt)
    clear hb2 t0 t1 t2 t3 t4
    cases va with
    | false =>
      go_wp2_with (go_at_call 15; refine (haw.out _ HB2.out).mono ?_; rintro e3 w3 ⟨rfl, hb3⟩)
      go_ret
      exact ⟨rfl, chain HB2.out hb3⟩
    | true =>
      obtain ⟨y0, y1, y2, y3, y4⟩ := box5 HY2.out
      go_wp2_with fail
      refine (hvb.out _ HB2.out).mono ?_
      rintro e3 w3 ⟨rfl, hb3⟩
      have HB3 := Lib.hid (chain HB2.out hb3)
      have HX3 := Lib.hid (HX2.out.below hb3 HX2.out.lt)
      have HY3 := Lib.hid (HY2.out.below hb3 HY2.out.lt)
      clear hb3 y0 y1 y2 y3 y4
      cases vb with
      | false =>
        go_wp2_with (go_at_call 15; refine (haw.out _ HB3.out).mono ?_; rintro e4 w4 ⟨rfl, hb4⟩)
        go_ret
        exact ⟨rfl, chain HB3.out hb4⟩
      | true =>
        obtain ⟨S0, hS0⟩ : ∃ S : ByteArray, ⟨T0.toArray⟩ = S := ⟨_, rfl⟩
        obtain ⟨S1, hS1⟩ : ∃ S : ByteArray, ⟨T1.toArray⟩ = S := ⟨_, rfl⟩
        rw [hS0] at hta
        rw [hS1] at htb
        have hd0 : S0.data.toList = T0 := by rw [← hS0]
        have hd1 : S1.data.toList = T1 := by rw [← hS1]
        have hz : S0.size = T0.length := by rw [← hS0]; simp [ByteArray.size]
        have hsz : S0.size ≤ 600000 := by rw [hz]; exact HTL.out
        have HE2 : Hid (E = decide (S0 = S1)) := Lib.hid (by
          rw [HET.out (by trivial) (by trivial), Bool.eq_iff_iff]
          simp only [decide_eq_true_eq]
          rw [← hd0, ← hd1]
          refine ⟨fun h => ?_, fun h => by rw [h]⟩
          exact ByteArray.ext (Array.toList_inj.1 h))
        have HBY : Hid (∀ i (hi : i < S0.size), 32 ≤ S0[i].toNat) := Lib.hid (fun i hi => HGE.out _ (by
          rw [← hd0]
          have h1 := at_byte (s := S0) hi rfl
          exact List.mem_of_getElem? h1))
        have hne : S0.toList.isEmpty = false := by
          rw [size_empty']
          have h1 := HNE.out (by trivial)
          have h2 : S0.size ≠ 0 := by
            rw [hz]
            intro h3
            exact h1 (List.eq_nil_of_length_eq_zero h3)
          simp [h2]
        have hne2 : (!S0.toList.isEmpty) = true := by rw [hne]; rfl
        clear hS0 hS1 hd0 hd1 hz
        obtain ⟨t0, t1, t2, t3, t4⟩ := box5 HX3.out
        obtain ⟨y0, y1, y2, y3, y4⟩ := box5 HY3.out
        have hx := HX3.out.lt
        have hy := HY3.out.lt
        have j0 := fun c : Calm w3.heap.size w3 => c.cell hx t0
        have j1 := fun c : Calm w3.heap.size w3 => c.cell hx t1
        have j2 := fun c : Calm w3.heap.size w3 => c.cell hx t2
        have j3 := fun c : Calm w3.heap.size w3 => c.cell hx t3
        have j4 := fun c : Calm w3.heap.size w3 => c.cell hx t4
        have q0 := fun c : Calm w3.heap.size w3 => c.cell hy y0
        have q1 := fun c : Calm w3.heap.size w3 => c.cell hy y1
        have q2 := fun c : Calm w3.heap.size w3 => c.cell hy y2
        have q3 := fun c : Calm w3.heap.size w3 => c.cell hy y3
        have q4 := fun c : Calm w3.heap.size w3 => c.cell hy y4
        have HTA := Lib.hid (fun c : Calm w3.heap.size w3 => hta.out c.val (chain HB3.out c.below))
        have HTB := Lib.hid (fun c : Calm w3.heap.size w3 => htb.out c.val (chain HB3.out c.below))
        clear t0 t1 t2 t3 t4 y0 y1 y2 y3 y4
        go_wp2_with fail
        refine wp_region_calm (w0 := w3) (B := w3.heap.size) (by kernel_rfl) (by kernel_rfl) (Below.refl _ _) ?_
        repeat (go_big_quiet_step (first
          | (go_at_call 17; with_reducible refine Calm.call (Nat.le_refl _) (HTA.out _))
          | (go_at_call 17; with_reducible refine Calm.call (Nat.le_refl _) (HTB.out _))))
        refine wpQuiet_nil ?_
        intro _ hw'
        obtain ⟨c, rfl⟩ := hw'
        have HB4 := Lib.hid (chain HB3.out c.below)
        have HX4 := Lib.hid (HX3.out.below c.below HX3.out.lt)
        have HY4 := Lib.hid (HY3.out.below c.below HY3.out.lt)
        obtain ⟨w4, hw4⟩ : ∃ X, c.val = X := ⟨_, rfl⟩
        rw [hw4] at HB4 HX4 HY4 ⊢
        clear j0 j1 j2 j3 j4 q0 q1 q2 q3 q4 HTA HTB hx hy hw4
        go_wp2_with fail
        go_loop [7] (fun ti => ∃ i : Nat, ti = .int .i64 i ∧ i ≤ S0.size) (fun ti => S0.size - (intOf ti).toNat)
        case atStart => exact ⟨0, rfl, Nat.zero_le _⟩
        case round =>
          obtain ⟨i, rfl, hil⟩ := hrel
          by_cases hlt : i < S0.size
          · obtain ⟨b, hb⟩ : ∃ b, S0[i] = b := ⟨_, rfl⟩
            have hb1 : 32 ≤ b.toNat := by rw [← hb]; exact HBY.out i hlt
            have hb2 : b.toNat ≤ 255 := by have := b.toNat_lt; omega
            go_wp2_with fail
            go_round
            case rel => exact ⟨i + 1, by first | rfl | go_num, by omega⟩
            case measure => simp [intOf]; omega
          · have hie : i = S0.size := by omega
            obtain ⟨t0, t1, t2, t3, t4⟩ := box5 HX4.out
            obtain ⟨y0, y1, y2, y3, y4⟩ := box5 HY4.out
            have HQ := Lib.hid (heq.out w4 HB4.out)
            clear hie
            by_cases hS : S0 = S1
            · subst hS
              have hE : E = true := by rw [HE2.out]; simp
              subst hE
              go_wp2_with fail
              refine HQ.out.mono ?_
              rintro e5 w5 ⟨rfl, hb5⟩
              have HB5 := Lib.hid (chain HB4.out hb5)
              clear hb5 t0 t1 t2 t3 t4 y0 y1 y2 y3 y4
              go_wp2_with fail
              refine (haw.out _ HB5.out).mono ?_
              rintro e6 w6 ⟨rfl, hb6⟩
              go_wp2_with fail
              go_ret
              exact ⟨rfl, chain HB5.out hb6⟩
            · have hE : E = false := by rw [HE2.out]; simp [hS]
              subst hE
              have hq : (S0.toList == S1.toList) = false := by
                rw [beq_eq_false_iff_ne]
                intro h1
                rw [Lib.toList_data, Lib.toList_data] at h1
                exact hS (ByteArray.ext (Array.toList_inj.1 h1))
              go_wp2_with fail
              refine HQ.out.mono ?_
              rintro e5 w5 ⟨rfl, hb5⟩
              have HB5 := Lib.hid (chain HB4.out hb5)
              clear hb5 t0 t1 t2 t3 t4 y0 y1 y2 y3 y4
              go_wp2_with fail
              refine (haw.out _ HB5.out).mono ?_
              rintro e6 w6 ⟨rfl, hb6⟩
              go_wp2_with fail
              go_ret
              exact ⟨rfl, chain HB5.out hb6⟩
end Go.Proofs.YtacnpligpbiamaaDoor

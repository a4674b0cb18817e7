/- ArithMerge at two arrays. -/
import Derived.Test.YtjafmdngbphacaaGreatDoorM47
import Derived.StillTailTactics
import Derived.Deep.QuietTactic
import Derived.Deep.LoopGhost
set_option linter.unusedVariables false
set_option linter.unusedSimpArgs false
namespace Go.Proofs.YtjafmdngbphacaaGreatDoor
open Go.RowKit Go.Sort
set_option maxHeartbeats 8000000 in
set_option maxRecDepth 100000 in
theorem merge_arrs (n n2 : Int) (s s2 : ByteArray) (ks ks2 : List ByteArray) (es es2 : List V) (cs ds : List Value) (w : World) (h : Lies w (· < w.heap.size) (.mk 5 n s ks es) cs) (h' : Lies w (· < w.heap.size) (.mk 5 n2 s2 ks2 es2) ds) (hml : MaxL w)
    (hsmall : smallP 100 [.mk 5 n s ks es, .mk 5 n2 s2 ks2 es2] = true) (hv : valid (.mk 5 n s ks es) = true) (hu : valid (.mk 5 n2 s2 ks2 es2) = true) :
    Calls Tryz.prog 5 #[.agg cs.toArray, .agg ds.toArray] w fun e w' => e = .returned (.bool true) ∧ Below w.heap.size w w' := by
  have haw := Lib.hid (fun W (hW : Below w.heap.size w W) => awake6_any W (hml.next hW))
  have hva := Lib.hid (fun W (hW : Below w.heap.size w W) => valid_any _ cs W (below_lies hW h))
  have hvb := Lib.hid (fun W (hW : Below w.heap.size w W) => valid_any _ ds W (below_lies hW h'))
  have hsm := Lib.hid (fun W (hW : Below w.heap.size w W) g hg => small_any 100 [.mk 5 n s ks es, .mk 5 n2 s2 ks2 es2] (some ⟨g, 0, none⟩) 2 (cs ++ ds) W (two_rowM (below_lies hW h) (below_lies hW h') hg) (by simp) (by omega) (by omega))
  have hlen1 : es.length ≤ 1024 := (valid_keys hv).2.2.2
  have hlen2 : es2.length ≤ 1024 := (valid_keys hu).2.2.2
  have hlen3 : ks.length ≤ 1024 := (valid_keys hv).2.2.1
  have hlen4 : ks2.length ≤ 1024 := (valid_keys hu).2.2.1
  rw [hsmall] at hsm
  rw [hv] at hva
  rw [hu] at hvb
  have hbn := Lib.hid (fun W (hW : Below w.heap.size w W) => v_open (sub_open (below_lies hW h) (below_lies hW h') hv hu))
  have HEQ := Lib.hid (fun (x y : V) (c d : List Value) W (hx : Lies W (· < W.heap.size) x c) (hy : Lies W (· < W.heap.size) y d) => equal_any x y c d W hx hy)
  have HSA := Lib.hid (fun (x : V) (c d : List Value) W (hx : Lies W (· < W.heap.size) x c) (hy : Lies W (· < W.heap.size) x d) => same_selfx (W := W) hx hy)
  have HAT := Lib.hid (fun (i : Nat) (x : V) (hx : es[i]? = some x) (hi : inB es2 x = false) => left_at hx hi)
  have HEND := Lib.hid (left_end es es2)
  generalize (es.filter fun v => !inB es2 v) = D at hbn HAT HEND
  obtain ⟨A, a, B, b, xs, rfl, -⟩ := lies_open h
  obtain ⟨A2, a2, B2, b2, xs2, rfl, -⟩ := lies_open h'
  have L1 := Lib.hid h
  have L2 := Lib.hid h'
  clear h h' hml hsmall hv hu
  show Calls _ _ #[.agg #[.int .i64 5, .int .i64 n, .string s, .slice A ks.length a, .slice B es.length b], .agg #[.int .i64 5, .int .i64 n2, .string s2, .slice A2 ks2.length a2, .slice B2 es2.length b2]] w _
  obtain ⟨W0, hW0⟩ : ∃ X, X = (w.alloc (.cells #[.int .i64 5, .int .i64 n, .string s, .slice A ks.length a, .slice B es.length b] 25)).alloc (.cells #[.int .i64 5, .int .i64 n2, .string s2, .slice A2 ks2.length a2, .slice B2 es2.length b2] 25) := ⟨_, rfl⟩
  have HB0 := Lib.hid (show Below w.heap.size w W0 by rw [hW0]; exact ((Below.refl _ _).alloc (Nat.le_refl _) _).alloc (by simp) _)
  have HX0 : Hid (Vx W0 w.heap.size (.mk 5 n s ks es) [.int .i64 5, .int .i64 n, .string s, .slice A ks.length a, .slice B es.length b]) := Lib.hid ⟨by rw [hW0]; exact (Box.laid w _ _).alloc _, below_lies HB0.out L1.out⟩
  have HY0 : Hid (Vx W0 (w.heap.size + 1) (.mk 5 n2 s2 ks2 es2) [.int .i64 5, .int .i64 n2, .string s2, .slice A2 ks2.length a2, .slice B2 es2.length b2]) := Lib.hid ⟨by rw [hW0]; exact box_at _ _ _ _ (by simp), below_lies HB0.out L2.out⟩
  have HW0 := Lib.hid hW0
  have hsm1 := Lib.hid (hsm.out (W0.alloc (.cells #[.int .i64 5, .int .i64 n, .string s, .slice A ks.length a, .slice B es.length b, .int .i64 5, .int .i64 n2, .string s2, .slice A2 ks2.length a2, .slice B2 es2.length b2] 25)) (chain HB0.out (below1 _ _)) W0.heap.size (Box.laid W0 _ _))
  clear hW0 hsm L1 L2
  obtain ⟨t0, t1, t2, t3, t4⟩ := box5 HX0.out.box
  obtain ⟨y0, y1, y2, y3, y4⟩ := box5 HY0.out.box
  go_enter Tryz.func5, Tryz.ntmps5
  go_upto_region 1 with fail
  rw [← HW0.out]
  go_wp2_with fail
  refine hsm1.out.mono ?_
  rintro e1 w1 ⟨rfl, hb1⟩
  have HB1 := Lib.hid (chain HB0.out (chain (below1 W0 _) hb1))
  have HX1 := Lib.hid (HX0.out.next (chain (below1 W0 _) hb1))
  have HY1 := Lib.hid (HY0.out.next (chain (below1 W0 _) hb1))
  clear hsm1 hb1 t0 t1 t2 t3 t4 y0 y1 y2 y3 y4 HX0 HY0 HB0 HW0
  obtain ⟨t0, t1, t2, t3, t4⟩ := box5 HX1.out.box
  go_wp2_with fail
  refine (hva.out _ HB1.out).mono ?_
  rintro e2 w2 ⟨rfl, hb2⟩
  have HB2 := Lib.hid (chain HB1.out hb2)
  have HX2 := Lib.hid (HX1.out.next hb2)
  have HY2 := Lib.hid (HY1.out.next hb2)
  clear hb2 t0 t1 t2 t3 t4 HB1 HX1 HY1 hva
  obtain ⟨y0, y1, y2, y3, y4⟩ := box5 HY2.out.box
  go_wp2_with fail
  refine (hvb.out _ HB2.out).mono ?_
  rintro e3 w3 ⟨rfl, hb3⟩
  have HB3 := Lib.hid (chain HB2.out hb3)
  have HX3 := Lib.hid (HX2.out.next hb3)
  have HY3 := Lib.hid (HY2.out.next hb3)
  clear hb3 y0 y1 y2 y3 y4 HB2 HX2 HY2 hvb
  obtain ⟨t0, t1, t2, t3, t4⟩ := box5 HX3.out.box
  obtain ⟨y0, y1, y2, y3, y4⟩ := box5 HY3.out.box
  go_wp2_with fail
  refine (hbn.out _ HB3.out).mono ?_
  rintro e4 w4 ⟨DA, da, DC, dc, rfl, hb4, hl4⟩
  obtain ⟨w5, hw5⟩ : ∃ X, X = w4.alloc (.cells #[.int .i64 5, .int .i64 0, .string ⟨#[]⟩, .slice DA 0 da, .slice DC D.length dc] 25) := ⟨_, rfl⟩
  have hb5 : Below w3.heap.size w3 w5 := by rw [hw5]; exact chain hb4 (below1 _ _)
  have HB5 := Lib.hid (chain HB3.out hb5)
  have HX5 := Lib.hid (HX3.out.next hb5)
  have HY5 := Lib.hid (HY3.out.next hb5)
  have HD5 : Hid (Vx w5 w4.heap.size (.mk 5 0 ⟨#[]⟩ [] D) [.int .i64 5, .int .i64 0, .string ⟨#[]⟩, .slice DA 0 da, .slice DC D.length dc]) := Lib.hid (by rw [hw5]; exact Vx.new hl4)
  have HW5 := Lib.hid hw5
  clear hb4 hl4 hb5 hw5 HB3 HX3 HY3 hbn t0 t1 t2 t3 t4 y0 y1 y2 y3 y4
  go_upto_region 5 with fail
  rw [← HW5.out]
  clear HW5
  go_wp2_with fail
  go_loopg [7, 8] es.length (fun gg s7 s8 wr => ∃ i : Nat, s7 = .int .i64 (left es es2 i) ∧ s8 = .int .i64 i ∧ i ≤ es.length ∧ es.length - i ≤ gg ∧ Hid (Below w5.heap.size w5 wr))
  case atStart => exact ⟨0, rfl, rfl, Nat.zero_le _, by omega, Lib.hid (below_self _)⟩
  case round =>
    obtain ⟨i, rfl, rfl, hin, hg, HBR⟩ := hrel
    have hx4 := (HX5.out.next HBR.out).box.cell (i := 4) rfl
    by_cases hlt : i < es.length
    · obtain ⟨x, hx⟩ : ∃ x, es[i]? = some x := ⟨_, List.getElem?_eq_getElem hlt⟩
      have HXI := Lib.hid hx
      have hi0 : (0 : Int) ≤ (i : Int) := by omega
      have hil : (i : Int) < (es.length : Int) := by omega
      obtain ⟨bX, oX, v0, v1, v2, v3, v4, rfl, hbX, hlX, hcX⟩ := vx_elem HX5.out hx
      have HLX := Lib.hid hlX
      have HCX := Lib.hid hcX
      clear hlX hcX hx
      go_wp2_with fail
      go_loopg [9, 10] es2.length (fun gg s9 s10 wr2 => ∃ k : Nat, s9 = .bool (inB (es2.take k) x) ∧ s10 = .int .i64 k ∧ k ≤ es2.length ∧ es2.length - k ≤ gg ∧ Hid (Below w5.heap.size w5 wr2))
      case atStart => exact ⟨0, rfl, rfl, Nat.zero_le _, by omega, HBR⟩
      case round =>
        clear hx4 HBR
        obtain ⟨k, rfl, rfl, hkn, hgk, HBR⟩ := hrel
        have hx4 := (HX5.out.next HBR.out).box.cell (i := 4) rfl
        have hy4 := (HY5.out.next HBR.out).box.cell (i := 4) rfl
        by_cases hlk : k < es2.length
        · obtain ⟨y, hy⟩ : ∃ y, es2[k]? = some y := ⟨_, List.getElem?_eq_getElem hlk⟩
          have HST := Lib.hid (inB_step (x := x) hy)
          have hk0 : (0 : Int) ≤ (k : Int) := by omega
          have hkl : (k : Int) < (es2.length : Int) := by omega
          obtain ⟨bY, oY, u0, u1, u2, u3, u4, rfl, hbY, hlY, hcY⟩ := vx_elem HY5.out hy
          clear hy
          cases hin2 : inB (es2.take k) x with
          | true =>
            rw [hin2] at HST
            clear hin2 hlY hcY
            go_wp2_with fail
            go_quiet (fail)
            go_wp2_with fail
            go_roundg (es2.length - (k + 1))
            case measure => omega
            case rel => exact ⟨k + 1, by rw [HST.out]; rfl, by first | rfl | go_num, by omega, Nat.le_refl _, Lib.hid (below_drewN HBR.out _)⟩
          | false =>
            rw [hin2] at HST
            clear hin2
            obtain ⟨p0, p1, p2, p3, p4⟩ := HCX.out
            obtain ⟨q0, q1, q2, q3, q4⟩ := hcY
            have p0' := below_cell HBR.out hbX p0
            have p1' := below_cell HBR.out hbX p1
            have p2' := below_cell HBR.out hbX p2
            have p3' := below_cell HBR.out hbX p3
            have p4' := below_cell HBR.out hbX p4
            have q0' := below_cell HBR.out hbY q0
            have q1' := below_cell HBR.out hbY q1
            have q2' := below_cell HBR.out hbY q2
            have q3' := below_cell HBR.out hbY q3
            have q4' := below_cell HBR.out hbY q4
            have hcall := Lib.hid (fun W (hW : Below wr.heap.size wr W) => HEQ.out x y [v0, v1, v2, v3, v4] [u0, u1, u2, u3, u4] W (below_lies (chain HBR.out hW) HLX.out) (below_lies (chain HBR.out hW) hlY))
            clear p0 p1 p2 p3 p4 q0 q1 q2 q3 q4 hlY
            generalize eqV x y = bq at hcall HST
            go_wp2_with fail
            go_still_tail 12, (by kernel_rfl)
            change wpList _ _ _ _ _ wr.drew
            go_wp2_with fail
            refine (hcall.out _ ((Below.refl _ _).drew)).mono ?_
            rintro e6 w6 ⟨rfl, hb6⟩
            have HB6 := Lib.hid (chain HBR.out (below_of_drew hb6))
            clear hb6 hcall p0' p1' p2' p3' p4' q0' q1' q2' q3' q4' hx4 hy4 HBR
            go_wp2_with fail
            go_roundg (es2.length - (k + 1))
            case measure => omega
            case rel => exact ⟨k + 1, by rw [HST.out, Bool.false_or], by first | rfl | go_num, by omega, Nat.le_refl _, HB6⟩
        · have hk : k = es2.length := by omega
          have hnl : ¬ ((k : Int) < (es2.length : Int)) := by omega
          have HIN : Hid (inB (es2.take k) x = inB es2 x) := Lib.hid (by rw [hk, List.take_length])
          rw [HIN.out]
          clear HIN hk
          have HLI := Lib.hid (fun (h : inB es2 x = true) => left_in HXI.out h)
          have HLO := Lib.hid (fun (h : inB es2 x = false) => left_out HXI.out h)
          have HAI := Lib.hid (fun (h : inB es2 x = false) => HAT.out i x HXI.out h)
          generalize inB es2 x = ib at *
          cases ib with
          | true =>
            have hle := HLI.out rfl
            go_wp2_with fail
            go_roundg (es.length - (i + 1))
            case measure => omega
            case rel => exact ⟨i + 1, by rw [hle], by first | rfl | go_num, by omega, Nat.le_refl _, HBR⟩
          | false =>
            have hle := HLO.out rfl
            have hat := HAI.out rfl
            have HD6 := Lib.hid (HD5.out.next HBR.out)
            obtain ⟨j, hj⟩ : ∃ j, j = left es es2 i := ⟨_, rfl⟩
            rw [← hj] at hat hle ⊢
            have HJ := Lib.hid hj
            have hji : j ≤ i := by rw [hj]; exact left_le _ _ _
            have HLE := Lib.hid hle
            have hjD : j < D.length := (List.getElem?_eq_some_iff.1 hat).1
            have hj0 : (0 : Int) ≤ (j : Int) := by omega
            have hjl : (j : Int) < (D.length : Int) := by omega
            have hjg : ¬ ((D.length : Int) ≤ (j : Int)) := by omega
            have hjd : decide ((D.length : Int) ≤ (j : Int)) = false := by simp; omega
            have hd4 := HD6.out.box.cell (i := 4) rfl
            obtain ⟨bD, oD, u0, u1, u2, u3, u4, rfl, hbD, hlD, q0, q1, q2, q3, q4⟩ := vx_elem HD6.out hat
            obtain ⟨p0, p1, p2, p3, p4⟩ := HCX.out
            have p0' := below_cell HBR.out hbX p0
            have p1' := below_cell HBR.out hbX p1
            have p2' := below_cell HBR.out hbX p2
            have p3' := below_cell HBR.out hbX p3
            have p4' := below_cell HBR.out hbX p4
            have hcall := Lib.hid (fun W (hW : Below wr.heap.size wr W) => HSA.out x [u0, u1, u2, u3, u4] [v0, v1, v2, v3, v4] W (below_lies hW hlD) (below_lies (chain HBR.out hW) HLX.out))
            clear p0 p1 p2 p3 p4 hlD hle hat hj
            go_wp2_with fail
            go_still_tail 16, (by kernel_rfl)
            change wpList _ _ _ _ _ wr.drew
            go_wp2_with fail
            refine (hcall.out _ ((Below.refl _ _).drew)).mono ?_
            rintro e6 w6 ⟨rfl, hb6⟩
            have HB6 := Lib.hid (chain HBR.out (below_of_drew hb6))
            clear hb6 hcall p0' p1' p2' p3' p4' q0 q1 q2 q3 q4 hx4 hy4 hd4 HBR HD6
            go_wp2_with fail
            go_roundg (es.length - (i + 1))
            case measure => omega
            case rel => exact ⟨i + 1, by rw [HLE.out]; first | rfl | go_num, by first | rfl | go_num, by omega, Nat.le_refl _, HB6⟩
    · have hi : i = es.length := by omega
      have hnl : ¬ ((i : Int) < (es.length : Int)) := by omega
      have HI : Hid (left es es2 i = D.length) := Lib.hid (by rw [hi]; exact HEND.out)
      rw [HI.out]
      clear HI hi
      have hd4 := (HD5.out.next HBR.out).box.cell (i := 4) rfl
      have hq : ((D.length : Int) == (D.length : Int)) = true := by simp
      go_wp2_with fail
      refine (haw.out _ (chain HB5.out HBR.out)).mono ?_
      rintro e9 w9 ⟨rfl, hb9⟩
      go_wp2_with fail
      go_ret
      exact ⟨rfl, chain (chain HB5.out HBR.out) hb9⟩
end Go.Proofs.YtjafmdngbphacaaGreatDoor

/- FparsePrefix answers true for every string and every int. -/
import Derived.Test.YthiempadgehhlaaGreatDoorHP
import Derived.Test.YthiempadgehhlaaGreatDoorQL
import Derived.Test.YthiempadgehhlaaGreatDoorZo
import Derived.Test.YthiempadgehhlaaGreatDoorQJ
set_option linter.unusedVariables false
set_option linter.unusedSimpArgs false
set_option linter.unusedSectionVars false
namespace Go.Proofs.YthiempadgehhlaaGreatDoor
open Go.RowKit
theorem take_list (s : ByteArray) (p : Nat) : (s.extract 0 p).data.toList = s.data.toList.take p := by
  rw [ext_subd]
  unfold sub
  simp
set_option maxHeartbeats 10000000 in
set_option maxRecDepth 100000 in
theorem prefix_walk (s : ByteArray) (z : Int) (w : World) (hE : ErrIn w) (hG : SgIn w) (hz : s.size ≤ 140737488355328) : Calls Tryz.prog 3 #[.string s, .int .i64 z] w fun e w' => e = .returned (.bool true) ∧ Below w.heap.size w w' := by
  have HAW := Lib.hid (fun (W : World) (h : Below w.heap.size w W) => pawake_any W (hE.next h) (hG.next h))
  have HLX := Lib.hid (rflex_any s (by omega) w)
  have HPA := Lib.hid (fun (t : ByteArray) (ht : t.size ≤ 281474976710656) (W : World) (h : Below w.heap.size w W) => fparse_any t ht W (hE.next h) (hG.next h))
  have HPX := Lib.hid (HPA.out s (by omega))
  have hsl : s.data.toList.length = s.size := by simp
  clear hE hG
  by_cases h150 : 150 < s.size
  · generalize parseP s.data.toList = r at HPX
    obtain ⟨f, a, e⟩ := r
    have q150 : (150 : Int) < (s.size : Int) := by omega
    clear HPA hsl
    go_enter Tryz.func3, Tryz.ntmps3
    go_wp2_with fail
    refine HLX.out.mono ?_
    rintro e1 w1 ⟨hb1, A0, n0, c0, rfl, -⟩
    have HB1 := Lib.hid hb1
    clear hb1
    go_wp2_with fail
    refine (HPX.out _ HB1.out).mono ?_
    rintro e2 w2 ⟨c0, c1, c2, c3, c4, c5, c6, c7, c8, rfl, hb2, hl2⟩
    obtain ⟨op2, tx2, k2, j2, s2, A2, na2, ma2, B2, nb2, mb2, C2, nc2, mc2, D2, nd2, md2, rfl, rfl, rfl, rfl, rfl, rfl, rfl, rfl, rfl⟩ := liesF_form hl2
    have HB2 := Lib.hid (chain HB1.out hb2)
    clear hb2 hl2
    go_wp2_with fail
    refine (HAW.out _ (HB2.out.alloc HB2.out.size _)).mono ?_
    rintro e3 w3 ⟨rfl, hb3⟩
    have HB3 := Lib.hid (chain (HB2.out.alloc HB2.out.size _) hb3)
    clear hb3
    go_wp2_with fail
    go_ret
    exact ⟨rfl, HB3.out⟩
  · have q150 : ¬ (150 : Int) < (s.size : Int) := by omega
    by_cases he0 : (lexFP s.data.toList).e = 0
    · by_cases hp0 : (parseP s.data.toList).2.2 = 0
      · obtain ⟨us, hus⟩ := lexFP_some he0
        have hpos : 0 < us.length := by
          obtain ⟨vs, rfl, -⟩ := lexFP_toks hus
          simp
        have hlen := (lexFP_len hus).1
        obtain ⟨d, hd, hmod⟩ := kmod_nat z us.length hpos (by omega)
        obtain ⟨t, ht⟩ : ∃ t, us[d]? = some t := ⟨_, List.getElem?_eq_getElem hd⟩
        obtain ⟨hto, hor⟩ := prefix_ok hus hp0 ht
        have hlx2 := HLX.out.mono fun e w' h => flex_open h hus hpos
        have HX := Lib.hid hlx2
        have HT := Lib.hid ht
        rw [hsl] at hto
        have HPS0 := HPA.out (s.extract 0 t.o) (by rw [ByteArray.size_extract]; omega)
        rw [take_list] at HPS0
        have hsz : (s.extract 0 t.o).size = t.o := by rw [ByteArray.size_extract]; omega
        have hln : (s.data.toList.take t.o).length = t.o := by rw [List.length_take, hsl]; omega
        rw [hln] at hor
        obtain ⟨p, hp⟩ : ∃ p, t.o = p := ⟨_, rfl⟩
        have HO := Lib.hid hp
        rw [hp] at hor hto HPS0 hsz
        obtain ⟨N, hN⟩ : ∃ N, us.length = N := ⟨_, rfl⟩
        rw [hN] at hlen hd hmod hpos HX
        have HM : Hid (∀ W, Calls Tryz.prog 10 #[.int .i64 z, .int .i64 N] W fun e w' => e = .returned (.int .i64 (d : Int)) ∧ W = w') := Lib.hid hmod
        have qN0 : ((N : Int) == 0) = false := beq_eq_false_iff_ne.2 (fun h => by omega)
        have hpz : (p : Int) ≤ (s.size : Int) := by omega
        generalize parseP s.data.toList = r at HPX hp0
        obtain ⟨f, a, e⟩ := r
        dsimp only at hp0
        subst hp0
        generalize parseP (s.data.toList.take p) = r2 at HPS0 hor
        obtain ⟨f2, a2, e2⟩ := r2
        dsimp only at hor
        have HPS := Lib.hid HPS0
        clear HPS0 HLX HPA hus he0 hlx2 ht hmod hN hp hln h150 hsl
        rcases hor with rfl | ⟨rfl, rfl⟩
        · clear hsz
          go_enter Tryz.func3, Tryz.ntmps3
          go_wp2_with fail
          refine HX.out.mono ?_
          rintro e1 w1 ⟨hb1, g, c, rfl, -, hg, hc⟩
          have HB1 := Lib.hid hb1
          have HC1 := Lib.hid hc
          clear hb1 hc
          go_wp2_with fail
          refine (HPX.out _ HB1.out).mono ?_
          rintro e2 w2 ⟨b0, b1, b2, b3, b4, b5, b6, b7, b8, rfl, hb2, hl2⟩
          obtain ⟨op2, tx2, k2, j2, s2, A2, na2, ma2, B2, nb2, mb2, C2, nc2, mc2, D2, nd2, md2, rfl, rfl, rfl, rfl, rfl, rfl, rfl, rfl, rfl⟩ := liesF_form hl2
          have HB2 := Lib.hid (chain HB1.out hb2)
          have hci := (tok_cells HT.out (below_cells hb2 hg HC1.out)).2.1
          rw [HO.out] at hci
          have hg2 : g < w2.heap.size := Nat.lt_of_lt_of_le hg hb2.size
          clear hb2 hl2
          go_wp2_with (go_at_call 10; (with_reducible refine (HM.out _).mono ?_); rintro e w' ⟨rfl, rfl⟩)
          refine (HPS.out _ (HB2.out.alloc HB2.out.size _)).mono ?_
          rintro e3 w3 ⟨d0, d1, d2, d3, d4, d5, d6, d7, d8, rfl, hb3, hl3⟩
          obtain ⟨op3, tx3, k3, j3, s3, A3, na3, ma3, B3, nb3, mb3, C3, nc3, mc3, D3, nd3, md3, rfl, rfl, rfl, rfl, rfl, rfl, rfl, rfl, rfl⟩ := liesF_form hl3
          have HB3 := Lib.hid (chain (HB2.out.alloc HB2.out.size _) hb3)
          clear hb3 hl3
          go_wp2_with fail
          refine (HAW.out _ (HB3.out.alloc HB3.out.size _)).mono ?_
          rintro e4 w4 ⟨rfl, hb4⟩
          have HB4 := Lib.hid (chain (HB3.out.alloc HB3.out.size _) hb4)
          clear hb4
          go_wp2_with fail
          go_ret
          exact ⟨rfl, HB4.out⟩
        · have qeq : ((a2 : Int) == ((s.extract 0 a2).size : Int)) = true := by rw [hsz]; simp
          skip
          go_enter Tryz.func3, Tryz.ntmps3
          go_wp2_with fail
          refine HX.out.mono ?_
          rintro e1 w1 ⟨hb1, g, c, rfl, -, hg, hc⟩
          have HB1 := Lib.hid hb1
          have HC1 := Lib.hid hc
          clear hb1 hc
          go_wp2_with fail
          refine (HPX.out _ HB1.out).mono ?_
          rintro e2 w2 ⟨b0, b1, b2, b3, b4, b5, b6, b7, b8, rfl, hb2, hl2⟩
          obtain ⟨op2, tx2, k2, j2, s2, A2, na2, ma2, B2, nb2, mb2, C2, nc2, mc2, D2, nd2, md2, rfl, rfl, rfl, rfl, rfl, rfl, rfl, rfl, rfl⟩ := liesF_form hl2
          have HB2 := Lib.hid (chain HB1.out hb2)
          have hci := (tok_cells HT.out (below_cells hb2 hg HC1.out)).2.1
          rw [HO.out] at hci
          have hg2 : g < w2.heap.size := Nat.lt_of_lt_of_le hg hb2.size
          clear hb2 hl2
          go_wp2_with (go_at_call 10; (with_reducible refine (HM.out _).mono ?_); rintro e w' ⟨rfl, rfl⟩)
          refine (HPS.out _ (HB2.out.alloc HB2.out.size _)).mono ?_
          rintro e3 w3 ⟨d0, d1, d2, d3, d4, d5, d6, d7, d8, rfl, hb3, hl3⟩
          obtain ⟨op3, tx3, k3, j3, s3, A3, na3, ma3, B3, nb3, mb3, C3, nc3, mc3, D3, nd3, md3, rfl, rfl, rfl, rfl, rfl, rfl, rfl, rfl, rfl⟩ := liesF_form hl3
          have HB3 := Lib.hid (chain (HB2.out.alloc HB2.out.size _) hb3)
          clear hb3 hl3
          go_wp2_with fail
          refine (HAW.out _ (HB3.out.alloc HB3.out.size _)).mono ?_
          rintro e4 w4 ⟨rfl, hb4⟩
          have HB4 := Lib.hid (chain (HB3.out.alloc HB3.out.size _) hb4)
          clear hb4
          go_wp2_with fail
          go_ret
          exact ⟨rfl, HB4.out⟩
      · generalize parseP s.data.toList = r at HPX hp0
        obtain ⟨f, a, e⟩ := r
        dsimp only at hp0
        have qp : ((e : Int) != 0) = true := by rw [bne_iff_ne]; omega
        generalize lexFP s.data.toList = q at HLX he0
        obtain ⟨ts, pp, ee⟩ := q
        dsimp only at he0
        subst he0
        clear HPA hsl
        go_enter Tryz.func3, Tryz.ntmps3
        go_wp2_with fail
        refine HLX.out.mono ?_
        rintro e1 w1 ⟨hb1, A0, n0, c0, rfl, -⟩
        have HB1 := Lib.hid hb1
        clear hb1
        go_wp2_with fail
        refine (HPX.out _ HB1.out).mono ?_
        rintro e2 w2 ⟨c0, c1, c2, c3, c4, c5, c6, c7, c8, rfl, hb2, hl2⟩
        obtain ⟨op2, tx2, k2, j2, s2, A2, na2, ma2, B2, nb2, mb2, C2, nc2, mc2, D2, nd2, md2, rfl, rfl, rfl, rfl, rfl, rfl, rfl, rfl, rfl⟩ := liesF_form hl2
        have HB2 := Lib.hid (chain HB1.out hb2)
        clear hb2 hl2
        go_wp2_with fail
        refine (HAW.out _ (HB2.out.alloc HB2.out.size _)).mono ?_
        rintro e3 w3 ⟨rfl, hb3⟩
        have HB3 := Lib.hid (chain (HB2.out.alloc HB2.out.size _) hb3)
        clear hb3
        go_wp2_with fail
        go_ret
        exact ⟨rfl, HB3.out⟩
    · generalize parseP s.data.toList = r at HPX
      obtain ⟨f, a, e⟩ := r
      generalize lexFP s.data.toList = q at HLX he0
      obtain ⟨ts, pp, ee⟩ := q
      dsimp only at he0
      have qp : ((ee : Int) != 0) = true := by rw [bne_iff_ne]; omega
      clear HPA hsl
      go_enter Tryz.func3, Tryz.ntmps3
      go_wp2_with fail
      refine HLX.out.mono ?_
      rintro e1 w1 ⟨hb1, A0, n0, c0, rfl, -⟩
      have HB1 := Lib.hid hb1
      clear hb1
      go_wp2_with fail
      refine (HPX.out _ HB1.out).mono ?_
      rintro e2 w2 ⟨c0, c1, c2, c3, c4, c5, c6, c7, c8, rfl, hb2, hl2⟩
      obtain ⟨op2, tx2, k2, j2, s2, A2, na2, ma2, B2, nb2, mb2, C2, nc2, mc2, D2, nd2, md2, rfl, rfl, rfl, rfl, rfl, rfl, rfl, rfl, rfl⟩ := liesF_form hl2
      have HB2 := Lib.hid (chain HB1.out hb2)
      clear hb2 hl2
      go_wp2_with fail
      refine (HAW.out _ (HB2.out.alloc HB2.out.size _)).mono ?_
      rintro e3 w3 ⟨rfl, hb3⟩
      have HB3 := Lib.hid (chain (HB2.out.alloc HB2.out.size _) hb3)
      clear hb3
      go_wp2_with fail
      go_ret
      exact ⟨rfl, HB3.out⟩
end Go.Proofs.YthiempadgehhlaaGreatDoor

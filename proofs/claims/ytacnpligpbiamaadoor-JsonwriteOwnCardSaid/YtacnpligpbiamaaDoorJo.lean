/- JsonwriteOwn answers true for every value and every int. -/
import Derived.Test.YtacnpligpbiamaaDoorG14
import Derived.Test.YtacnpligpbiamaaDoorRw
import Derived.Test.YtacnpligpbiamaaDoorG16
import Derived.Test.YtacnpligpbiamaaDoorG20
import Derived.Test.YtacnpligpbiamaaDoorKmod
import Derived.Test.YtacnpligpbiamaaDoorJt
import Derived.Deep.RegionHeld3
import Derived.Deep.CutBlock
import Derived.Deep.DeepCutAuto
set_option linter.unusedVariables false
set_option linter.unusedSimpArgs false
namespace Go.Proofs.YtacnpligpbiamaaDoor
open Go.RowKit
def fillB (i : Nat) : List UInt8 := List.replicate i 120 ++ List.replicate (100 - i) 0
theorem fill_at {i : Nat} (h : i < 100) : (bv (fillB i))[i]? = some (.int .u8 0) := by
  unfold bv fillB
  rw [List.getElem?_map, List.getElem?_append_right (by simp), List.length_replicate, Nat.sub_self]
  have e1 : 100 - i = (100 - (i + 1)) + 1 := by omega
  rw [e1, List.replicate_succ]
  rfl
theorem fill_set {i : Nat} (h : i < 100) : (bv (fillB i)).set i (.int .u8 120) = bv (fillB (i + 1)) := by
  unfold bv fillB
  have e1 : 100 - i = (100 - (i + 1)) + 1 := by omega
  rw [e1, List.replicate_succ, List.map_append, List.set_append_right _ _ (by simp)]
  simp [List.replicate_succ', List.map_append]
theorem fill_all : fillB 100 = List.replicate 100 120 := by unfold fillB; simp
theorem x100_at {i : Nat} (h : i < 100) : (bv (List.replicate 100 120))[i]? = some (.int .u8 120) := by
  unfold bv
  rw [List.getElem?_map, List.getElem?_replicate, if_pos h]
  rfl
theorem made_zero : (madeCells (Value.int .u8 0).cells (100 * 1)).toList = bv (fillB 0) := by
  have h := toList_madeCells_one (Value.int .u8 0) 100
  have e : (Value.int IntKind.u8 0).cells = #[.int .u8 0] := rfl
  rw [e, Nat.mul_one, h]
  unfold bv fillB
  simp
set_option maxHeartbeats 8000000 in
set_option maxRecDepth 100000 in
theorem jown_walk (v : V) (z : Int) (cs : List Value) (w : World) (h : Lies w (· < w.heap.size) v cs) (hr : rng v) (ht : TabS w) :
    Calls Tryd.prog 5 #[.agg cs.toArray, .int .i64 z] w fun e w' => e = .returned (.bool true) ∧ Below w.heap.size w w' := by
  obtain ⟨i0, hi, hz0, hz1, hz2⟩ := info_parts inf_u8
  have haw := Lib.hid (fun W (hW : Below w.heap.size w W) => awake5_any W (ht.next hW))
  have HRT := Lib.hid (fun W (hW : Below w.heap.size w W) => rText_any v cs W (below_lies hW h) hr)
  have HWA := Lib.hid (fun W (hW : Below w.heap.size w W) A0 c0 l0 h1 h2 h3 => wAppend_any A0 c0 l0 v cs W h1 h2 h3 (below_lies hW h) hr (ht.next hW))
  have HTL := Lib.hid (txt_len hr)
  have HL := Lib.hid h
  obtain ⟨k, n, vs, ks, es⟩ := v
  obtain ⟨A, a, B, bb, xs, rfl, _⟩ := lies_open h
  clear h hr ht
  show Calls _ _ #[.agg #[.int .i64 k, .int .i64 n, .string vs, .slice A ks.length a, .slice B es.length bb], .int .i64 z] w _
  have hsm := Lib.hid (small_any 100 [.mk k n vs ks es] (some ⟨w.heap.size + 1, 0, none⟩) 1 [.int .i64 k, .int .i64 n, .string vs, .slice A ks.length a, .slice B es.length bb]
    ((w.alloc (.cells #[.int .i64 k, .int .i64 n, .string vs, .slice A ks.length a, .slice B es.length bb] 35)).alloc (.cells #[.int .i64 k, .int .i64 n, .string vs, .slice A ks.length a, .slice B es.length bb] 35))
    (one_rowW (below_lies (((Below.refl _ _).alloc (Nat.le_refl _) _).alloc (by simp) _) HL.out) (box_new _ _ _ _ (by simp))) (by simp) (by omega) (by omega))
  generalize smallP 100 [.mk k n vs ks es] = x at hsm
  generalize txt (V.mk k n vs ks es) = T at HRT HWA HTL
  generalize ks.length = lk at hsm HRT HWA HL
  generalize es.length = le at hsm HRT HWA HL
  obtain ⟨d, hd, hmod⟩ : ∃ d : Nat, d < 20 ∧ ∀ W, Calls Tryd.prog 12 #[.int .i64 z, .int .i64 20] W fun e w' => e = .returned (.int .i64 (d : Int)) ∧ W = w' := by
    have h1 := Int.emod_nonneg z (b := 20) (by omega)
    have h2 := Int.emod_lt_of_pos z (b := 20) (by omega)
    refine ⟨(z % 20).toNat, by omega, fun W => ?_⟩
    rw [Int.toNat_of_nonneg h1]
    exact kmod_any z 20 (by omega) (by omega) W
  have HMOD := Lib.hid hmod
  clear hmod
  go_enter Tryd.func5, Tryd.ntmps5
  go_wp2_with fail
  refine hsm.out.mono ?_
  rintro e1 w1 ⟨rfl, hb1⟩
  have hB1 := Lib.hid (chain (((Below.refl w.heap.size w).alloc (Nat.le_refl _) (.cells #[.int .i64 k, .int .i64 n, .string vs, .slice A lk a, .slice B le bb] 35)).alloc (by simp) (.cells #[.int .i64 k, .int .i64 n, .string vs, .slice A lk a, .slice B le bb] 35)) hb1)
  have hX1 := Lib.hid (((Box.laid w 35 #[.int .i64 k, .int .i64 n, .string vs, .slice A lk a, .slice B le bb]).alloc (.cells #[.int .i64 k, .int .i64 n, .string vs, .slice A lk a, .slice B le bb] 35)).below hb1 (by simp; omega))
  clear hsm hb1
  cases x with
  | false =>
    go_wp2_with fail
    refine (haw.out _ hB1.out).mono ?_
    rintro e2 w2 ⟨rfl, hb2⟩
    go_wp2_with fail
    go_ret
    exact ⟨rfl, chain hB1.out hb2⟩
  | true =>
    obtain ⟨w3, hmk, hown3, hgr3⟩ := run_make_full (P := Tryd.prog) w1 w1.heap.size 39 5 i0 (.int .u8 0) 1 Tryd.underlying39 hi hz0 hz1 .i64 .i64 100 (by rw [hz2]; omega) (by unfold maxLen; omega) (Nat.le_refl _)
    rw [made_zero] at hown3
    have hmk' : (Instr.makeSlice 39 (.int .i64 100) (.int .i64 100)).run Tryd.prog w1 = .ok (.slice (some ⟨w1.heap.size, 0, none⟩) 100 100) w3 := hmk
    obtain ⟨g, hg⟩ : ∃ g, w1.heap.size = g := ⟨_, rfl⟩
    have hlt1 := hX1.out.lt
    have HB3 := Lib.hid ((Below.refl w1.heap.size w1).grown hgr3 (Nat.le_refl _) (fun k hk => by cases hk))
    have HX3 := Lib.hid (hX1.out.grown hgr3 (by simp))
    rw [hg] at hown3 hmk'
    have HO3 := Lib.hid hown3
    have hgp : w.heap.size ≠ g := by omega
    have HG := Lib.hid hg
    clear hmk hown3 hgr3 hg
    go_wp2_with (go_at_call 12; refine (HMOD.out _).mono ?_; rintro e2 w2 ⟨rfl, rfl⟩)
    clear hmk'
    go_loopw [6] (fun ti wr => ∃ i : Nat, ti = .int .i64 i ∧ i ≤ 100 ∧ wr.ownsRow g 5 1 (.slice (some ⟨g, 0, none⟩) 100 100) 100 (bv (fillB i)) ∧ Box wr w.heap.size 35 #[.int .i64 k, .int .i64 n, .string vs, .slice A lk a, .slice B le bb] ∧ Below g w1 wr) (fun ti _ => 100 - (intOf ti).toNat)
    case atStart => exact ⟨0, rfl, Nat.zero_le _, HO3.out, HX3.out, by rw [← HG.out]; exact HB3.out⟩
    case round =>
      clear HO3 HX3 HB3
      obtain ⟨i, rfl, hi100, hown, hbx, hbel⟩ := hrel
      have HO := Lib.hid hown
      have HX := Lib.hid hbx
      have HBE := Lib.hid hbel
      clear hown hbx hbel
      by_cases hlt : i < 100
      · have hc := (HO.out.cellAt i (by omega)).trans (fill_at hlt)
        have hf := HO.out.frozenAt i
        have HS : Hid ((wr.setCell ⟨g, i, none⟩ (.int .u8 120)).ownsRow g 5 1 (.slice (some ⟨g, 0, none⟩) 100 100) 100 (bv (fillB (i + 1)))) := Lib.hid (by rw [← fill_set hlt]; exact (HO.out.stored i _).1)
        go_wp2_with fail
        go_roundw
        case rel => exact ⟨i + 1, by first | rfl | go_num, by omega, HS.out, HX.out.far (p := ⟨g, i, none⟩) hgp _, HBE.out.setCell (p := ⟨g, i, none⟩) (Nat.le_refl _) _⟩
        case measure => simp [intOf]; omega
      · have hie : i = 100 := by omega
        subst hie
        rw [fill_all] at HO
        have hgw : g < wr.heap.size := (HO.out.lt g rfl).2
        have HBW : Hid (Below w.heap.size w wr) := Lib.hid (chain hB1.out (by rw [HG.out]; exact HBE.out))
        have hrd := own_rdB HO.out
        have hll : (List.replicate d (120 : UInt8)).length = d := by simp
        have hwa := HWA.out wr.drew HBW.out.drew (some ⟨g, 0, none⟩) 100 (List.replicate d 120) (fun j u hj => hrd j u (by
          have hjd : j < d := by
            rcases Nat.lt_or_ge j d with h1 | h1
            · exact h1
            · rw [List.getElem?_eq_none (by rw [bv_length, hll]; exact h1)] at hj; cases hj
          simp only [bv, List.getElem?_map, List.getElem?_replicate] at hj ⊢
          rw [if_pos hjd] at hj
          rw [if_pos (by omega)]
          exact hj)) (fun h => by cases h) (by rw [hll]; omega)
        rw [hll] at hwa
        have HWC := Lib.hid hwa
        have hd0 : (0 : Int) ≤ (d : Int) := by omega
        have hd1 : (d : Int) ≤ 100 := by omega
        have hd2 : (d : Int) < 20 := by omega
        clear hrd hwa hlt
        have keepS : Hid (∀ X, Below wr.heap.size wr X → X.cell? ⟨w.heap.size, 0, none⟩ = some (.int .i64 k) ∧ X.cell? ⟨w.heap.size, 1, none⟩ = some (.int .i64 n) ∧ X.cell? ⟨w.heap.size, 2, none⟩ = some (.string vs) ∧ X.cell? ⟨w.heap.size, 3, none⟩ = some (.slice A lk a) ∧ X.cell? ⟨w.heap.size, 4, none⟩ = some (.slice B le bb)) := Lib.hid fun X hX => box5 (HX.out.below hX HX.out.lt)
        obtain ⟨t0, t1, t2, t3, t4⟩ := box5 HX.out
        go_wp2_with fail
        go_region_held3 (fun w' => w'.cell? ⟨w.heap.size, 0, none⟩ = some (.int .i64 k) ∧ w'.cell? ⟨w.heap.size, 1, none⟩ = some (.int .i64 n) ∧ w'.cell? ⟨w.heap.size, 2, none⟩ = some (.string vs) ∧ w'.cell? ⟨w.heap.size, 3, none⟩ = some (.slice A lk a) ∧ w'.cell? ⟨w.heap.size, 4, none⟩ = some (.slice B le bb)) (first | exact keepS.out _ hb4 | go_keep) ((go_at_call 18; refine HWC.out.mono ?_; rintro e4 w4 ⟨A4, n4, c4, rfl, hown4, hb4'⟩; have hb4 : Below wr.heap.size wr w4 := ((Below.refl wr.heap.size wr).drew).trans hb4'))
        have HB4 := Lib.hid hb4
        have HO4 := Lib.hid (own_belowW HO.out hb4)
        have HX4 := Lib.hid (HX.out.below hb4 HX.out.lt)
        have HOUT := Lib.hid (show w4.ownsRow wr.heap.size 5 1 (.slice A4 n4 c4) n4 (bv (List.replicate d 120 ++ T)) from hown4)
        have HBW4 := Lib.hid (chain HBW.out hb4)
        clear hb4 hb4' hown4 HWC keepS t0 t1 t2 t3 t4
        obtain ⟨XD, hXD⟩ : ∃ XD : ByteArray, ⟨(List.replicate d (120 : UInt8)).toArray⟩ = XD := ⟨_, rfl⟩
        obtain ⟨S, hS⟩ : ∃ S, XD ++ ⟨T.toArray⟩ = S := ⟨_, rfl⟩
        have hSV : (⟨(List.replicate d 120 ++ T).toArray⟩ : ByteArray) = S := by rw [← hS, ← hXD, cat_text]
        have keepT : Hid (∀ w', Below w4.heap.size w4 w' → w'.cell? ⟨w.heap.size, 0, none⟩ = some (.int .i64 k) ∧ w'.cell? ⟨w.heap.size, 1, none⟩ = some (.int .i64 n) ∧ w'.cell? ⟨w.heap.size, 2, none⟩ = some (.string vs) ∧ w'.cell? ⟨w.heap.size, 3, none⟩ = some (.slice A lk a) ∧ w'.cell? ⟨w.heap.size, 4, none⟩ = some (.slice B le bb) ∧ (convert 39 9 (.slice A4 n4 c4)).run Tryd.prog w' = .ok (.string S) w' ∧ (convert 39 9 (.slice (some ⟨g, 0, none⟩) d 100)).run Tryd.prog w' = .ok (.string XD) w') := Lib.hid fun X hX => by
          obtain ⟨q0, q1, q2, q3, q4⟩ := box5 (HX4.out.below hX HX4.out.lt)
          refine ⟨q0, q1, q2, q3, q4, ?_, ?_⟩
          · rw [← hSV]
            exact conv_own (own_belowW HOUT.out hX)
          · have hrd := own_rdB (own_belowW HO4.out hX)
            have h1 := conv_rd (P := Tryd.prog) (l := List.replicate d 120) (A := some ⟨g, 0, none⟩) (w := X) (B := X.heap.size) (fun j u hj => hrd j u (by
              have hjd : j < d := by
                rcases Nat.lt_or_ge j d with h1 | h1
                · exact h1
                · rw [List.getElem?_eq_none (by rw [bv_length, hll]; exact h1)] at hj; cases hj
              simp only [bv, List.getElem?_map, List.getElem?_replicate] at hj ⊢
              rw [if_pos hjd] at hj
              rw [if_pos (by omega)]
              exact hj)) 39 9 5 100 Tryd.underlying39 Tryd.underlying5 Tryd.underlying9
            rw [hll, hXD] at h1
            exact h1
        have hXs : XD.size ≤ 20 := by rw [← hXD]; simp [ByteArray.size]; omega
        have htl := HTL.out
        have hTs : (⟨T.toArray⟩ : ByteArray).size = T.length := by simp [ByteArray.size]
        have hadd : ∀ W, (Op.stringOp .add XD ⟨T.toArray⟩).run Tryd.prog W = .ok (.string S) W := fun W => by rw [run_string_add_sum W XD _ (by rw [hTs]; omega), hS]
        have hadd2 : ∀ W, (binOp .add 9 (.string XD) (.string ⟨T.toArray⟩)).run Tryd.prog W = .ok (.string S) W := hadd
        have HTS := Lib.hid hTs
        have HSS := Lib.hid hS
        clear hSV hXD hll hTs hS
        go_wp2_with fail
        go_loop [8] (fun ti => ∃ i : Nat, ti = .int .i64 i ∧ i ≤ 100) (fun ti => 100 - (intOf ti).toNat)
        case atStart => exact ⟨0, rfl, Nat.zero_le _⟩
        case round =>
          obtain ⟨i, rfl, hi100'⟩ := hrel
          by_cases hlt : i < 100
          · have hc := (HO4.out.cellAt i (by omega)).trans (x100_at hlt)
            go_wp2_with fail
            go_round
            case rel => exact ⟨i + 1, by first | rfl | go_num, by omega⟩
            case measure => simp [intOf]; omega
          · have hie : i = 100 := by omega
            subst hie
            obtain ⟨t0, t1, t2, t3, t4, hv1, hv2⟩ := keepT.out w4 (Below.refl _ _)
            have HRT2 := Lib.hid (HRT.out w4.drew HBW4.out.drew)
            go_wp2_with fail
            go_region_held3 (fun w' => w'.cell? ⟨w.heap.size, 0, none⟩ = some (.int .i64 k) ∧ w'.cell? ⟨w.heap.size, 1, none⟩ = some (.int .i64 n) ∧ w'.cell? ⟨w.heap.size, 2, none⟩ = some (.string vs) ∧ w'.cell? ⟨w.heap.size, 3, none⟩ = some (.slice A lk a) ∧ w'.cell? ⟨w.heap.size, 4, none⟩ = some (.slice B le bb) ∧ (convert 39 9 (.slice A4 n4 c4)).run Tryd.prog w' = .ok (.string S) w' ∧ (convert 39 9 (.slice (some ⟨g, 0, none⟩) d 100)).run Tryd.prog w' = .ok (.string XD) w') (first | exact keepT.out _ hb6 | exact keepT.out _ hb5 | exact keepT.out _ ((Below.refl _ _).drew) | exact keepT.out _ (Below.refl _ _) | go_keep)
              (first
                | (go_at_call 16; refine HRT2.out.mono ?_; rintro e5 w5 ⟨rfl, hb5'⟩; have hb5 : Below w4.heap.size w4 w5 := ((Below.refl w4.heap.size w4).drew).trans hb5')
                | (go_at_call 15; refine (haw.out _ (chain HBW4.out hb5)).mono ?_; rintro e6 w6 ⟨rfl, hb6'⟩; have hb6 : Below w4.heap.size w4 w6 := chain hb5 hb6'))
            all_goals
              go_wp2_with fail
              go_ret
              exact ⟨rfl, chain HBW4.out hb6⟩
end Go.Proofs.YtacnpligpbiamaaDoor

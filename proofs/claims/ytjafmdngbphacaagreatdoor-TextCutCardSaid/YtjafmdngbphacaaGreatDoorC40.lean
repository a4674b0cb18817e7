/- TextCut: its walk. -/
import Derived.Test.YtjafmdngbphacaaGreatDoorC39
import Derived.Test.YtjafmdngbphacaaGreatDoorC29
set_option linter.unusedVariables false
set_option linter.unusedSimpArgs false
namespace Go.Proofs.YtjafmdngbphacaaGreatDoor
open Go.RowKit Go.Sort
theorem okS_of_valid {s : ByteArray} (h : valid (strV s) = true) : okS s = true := by
  unfold strV at h
  exact (valid_parts h).2.1
theorem rs_boxk {w : World} {t : TypeId} {g : Nat} {l : List ByteArray} {S : Nat → Prop} (h : Box w g t (kv l).toArray) (hS : S g) : Rs w S (some ⟨g, 0, none⟩) (kv l) := by
  intro j u hj
  refine ⟨g, 0, rfl, hS, ?_⟩
  rw [Nat.zero_add]
  exact h.cell (by simpa using hj)
theorem vx_bool {w : World} {g : Nat} {c : Bool} {cs : List Value} (h : Vx w g (boolV c) cs) : ∃ (A : Option Addr) (a : Nat) (B : Option Addr) (b : Nat), cs = [.int .i64 (if c then 2 else 1), .int .i64 0, .string ⟨#[]⟩, .slice A 0 a, .slice B 0 b] := by
  have hl := h.lies
  unfold boolV at hl
  obtain ⟨A, a, B, b, xs, e, _⟩ := lies_open hl
  exact ⟨A, a, B, b, e⟩
theorem vx_str {w : World} {g : Nat} {s : ByteArray} {cs : List Value} (h : Vx w g (strV s) cs) : ∃ (A : Option Addr) (a : Nat) (B : Option Addr) (b : Nat), cs = [.int .i64 4, .int .i64 0, .string s, .slice A 0 a, .slice B 0 b] := by
  have hl := h.lies
  unfold strV at hl
  obtain ⟨A, a, B, b, xs, e, _⟩ := lies_open hl
  exact ⟨A, a, B, b, e⟩
set_option maxHeartbeats 20000000 in
set_option maxRecDepth 100000 in
theorem textCut_walk (a b : ByteArray) (w : World) (ha0 : a.size ≤ 140737488355328) (hb0 : b.size ≤ 140737488355328) :
    Calls Tryz.prog 10 #[.string a, .string b] w fun e w' => e = .returned (.bool true) ∧ Below w.heap.size w w' := by
  have haw := Lib.hid (fun W => awake8_any W)
  have hst := Lib.hid (fun (s : ByteArray) W => str8_any s W)
  have HSH := Lib.hid (fun W hR => short_any 60 (some ⟨w.heap.size, 0, none⟩) 2 [a, b] (fun x => x = w.heap.size) W hR (by simp [maxLen]) (by intro k hk; simp at hk; rcases hk with rfl | rfl <;> assumption) (by decide) (by decide))
  have HSP := Lib.hid (fun h => shortP_mem (m := 60) (ks := [a, b]) h)
  have HVA := Lib.hid (fun W => valid_any (strV a) (sc a) W (lies_str _ _ _ ha0))
  have HVB := Lib.hid (fun W => valid_any (strV b) (sc b) W (lies_str _ _ _ hb0))
  have HRS := Lib.hid (show Rs (w.alloc (.cells #[.string a, .string b] 9)) (fun x => x = w.heap.size) (some ⟨w.heap.size, 0, none⟩) (kv [a, b]) from rs_boxk (Box.laid w 9 (kv [a, b]).toArray) rfl)
  unfold sc at HVA HVB
  clear ha0 hb0
  go_enter Tryz.func10, Tryz.ntmps10
  go_wp2_with fail
  refine (HSH.out _ HRS.out).mono ?_
  rintro e1 w1 ⟨rfl, hb1⟩
  have HB1 := Lib.hid (chain (below1 w (.cells #[.string a, .string b] 9)) hb1)
  clear hb1 HRS HSH
  generalize shortP 60 [a, b] = sh at HSP ⊢
  cases sh with
  | false =>
    go_wp2_with fail
    refine (haw.out _).mono ?_
    rintro e9 w9 ⟨rfl, hb9⟩
    go_wp2_with fail
    go_ret
    exact ⟨rfl, chain HB1.out hb9⟩
  | true =>
  have hsz := HSP.out rfl
  have hsa : a.size ≤ 60 := by have := hsz a (by simp); omega
  have hsb : b.size ≤ 60 := by have := hsz b (by simp); omega
  clear hsz HSP
  go_wp2_with fail
  refine (hst.out _ _).mono ?_
  rintro e2 w2 ⟨rfl, hb2⟩
  go_wp2_with fail
  refine (HVA.out _).mono ?_
  rintro e3 w3 ⟨rfl, hb3⟩
  have HB3 := Lib.hid (chain HB1.out (chain hb2 hb3))
  clear hb2 hb3 HVA HB1
  obtain ⟨va, hva⟩ : ∃ x, valid (strV a) = x := ⟨_, rfl⟩
  rw [hva]
  have HA := Lib.hid hva
  clear hva
  cases va with
  | false =>
    go_wp2_with fail
    refine (haw.out _).mono ?_
    rintro e9 w9 ⟨rfl, hb9⟩
    go_wp2_with fail
    go_ret
    exact ⟨rfl, chain HB3.out hb9⟩
  | true =>
  go_wp2_with fail
  refine (hst.out _ _).mono ?_
  rintro e4 w4 ⟨rfl, hb4⟩
  go_wp2_with fail
  refine (HVB.out _).mono ?_
  rintro e5 w5 ⟨rfl, hb5⟩
  have HB5 := Lib.hid (chain HB3.out (chain hb4 hb5))
  clear hb4 hb5 HVB HB3
  obtain ⟨vb, hvb⟩ : ∃ x, valid (strV b) = x := ⟨_, rfl⟩
  rw [hvb]
  have HB := Lib.hid hvb
  clear hvb
  cases vb with
  | false =>
    go_wp2_with fail
    refine (haw.out _).mono ?_
    rintro e9 w9 ⟨rfl, hb9⟩
    go_wp2_with fail
    go_ret
    exact ⟨rfl, chain HB5.out hb9⟩
  | true =>
  have hsum : ¬ (a.size + b.size > 9223372036854775807) := by omega
  have hab4 : (a ++ b).size ≤ 4096 := by simp; omega
  have HOA := Lib.hid (okS_of_valid HA.out)
  have HOB := Lib.hid (okS_of_valid HB.out)
  have HAB := Lib.hid (valid_str (okS_app HOA.out HOB.out) hab4)
  have HF1 := Lib.hid (fun W => starts_two a b HA.out HAB.out W (by omega) (by omega))
  have HF2 := Lib.hid (fun W => ends_two a b HB.out HAB.out W (by omega) (by omega))
  have HF3 := Lib.hid (fun W => cutp_two a b HA.out HAB.out HOB.out (by omega) W (by omega) (by omega))
  have HF4 := Lib.hid (fun W => cuts_two a b HB.out HAB.out HOA.out (by omega) W (by omega) (by omega))
  unfold sc at HF1 HF2 HF3 HF4
  have HLAB := Lib.hid (fun (W : World) => lies_str W (· < W.heap.size) (a ++ b) (by omega))
  clear HOA HOB HAB HA HB
  go_wp2_with fail
  refine (hst.out _ _).mono ?_
  rintro e6 w6 ⟨rfl, hb6⟩
  have HB6 := Lib.hid (chain HB5.out hb6)
  clear hb6 HB5 hsum
  obtain ⟨AB, hAB⟩ : ∃ X, X = a ++ b := ⟨_, rfl⟩
  rw [← hAB] at HF1 HF2 HF3 HF4 HLAB ⊢
  clear hAB hab4
  obtain ⟨W0, hW0⟩ : ∃ X, X = w6.alloc (.cells #[.int .i64 4, .int .i64 0, .string AB, .slice none 0 0, .slice none 0 0] 25) := ⟨_, rfl⟩
  have HB0 : Hid (Below w.heap.size w W0) := Lib.hid (by rw [hW0]; exact chain HB6.out (below1 _ _))
  have HV0 : Hid (Vx W0 w6.heap.size (strV AB) [.int .i64 4, .int .i64 0, .string AB, .slice none 0 0, .slice none 0 0]) := Lib.hid (by rw [hW0]; exact Vx.new (HLAB.out _))
  have HW0 := Lib.hid hW0
  clear hW0 HLAB HB6
  go_upto_region 4 with fail
  rw [← HW0.out]
  go_cut [6, 7] (fun tr te wx => GotB W0 (boolV true) 0 tr te wx)
  case first =>
    rename_i Jm Km hRJ hMet
    have keepS : Hid (∀ X, Below W0.heap.size W0 X → X.cell? ⟨w6.heap.size, 0, none⟩ = some (.int .i64 4) ∧ X.cell? ⟨w6.heap.size, 1, none⟩ = some (.int .i64 0) ∧ X.cell? ⟨w6.heap.size, 2, none⟩ = some (.string AB) ∧ X.cell? ⟨w6.heap.size, 3, none⟩ = some (.slice none 0 0) ∧ X.cell? ⟨w6.heap.size, 4, none⟩ = some (.slice none 0 0)) := Lib.hid fun X hX => box5 (HV0.out.box.below hX HV0.out.box.lt)
    have HBIN : Hid (∀ z W, Sb W0 W z → Calls Tryz.prog 51 #[.agg #[.int .i64 4, .int .i64 0, .string AB, .slice none 0 0, .slice none 0 0], .agg #[.int .i64 4, .int .i64 0, .string a, .slice none 0 0, .slice none 0 0]] W (OpS W0 z (boolV true) 0)) := Lib.hid fun z W h => opS_of h (HF1.out W)
    have st0 := Sb.start W0
    obtain ⟨x0, x1, x2, x3, x4⟩ := keepS.out _ (Below.refl _ _)
    go_region_held3 (fun w' => w'.cell? ⟨w6.heap.size, 0, none⟩ = some (.int .i64 4) ∧ w'.cell? ⟨w6.heap.size, 1, none⟩ = some (.int .i64 0) ∧ w'.cell? ⟨w6.heap.size, 2, none⟩ = some (.string AB) ∧ w'.cell? ⟨w6.heap.size, 3, none⟩ = some (.slice none 0 0) ∧ w'.cell? ⟨w6.heap.size, 4, none⟩ = some (.slice none 0 0))
      (first
        | with_reducible exact keepS.out _ (Sb.drew st0).below
        | with_reducible exact keepS.out _ (Sb.drew (Sb.zbox st0)).below
        | with_reducible exact keepS.out _ st5.below
        | with_reducible exact keepS.out _ (Sb.drew st5).below
        | with_reducible exact keepS.out _ (Sb.zbox st5).below
        | with_reducible exact keepS.out _ (Sb.zbox (Sb.drew st5)).below
        | with_reducible exact keepS.out _ st6.below
        | (refine keepS.out _ ?_; with_reducible exact below_five_m hp6 st6.below _ _ _ _ _)
        | with_reducible exact keepS.out _ (chain st6.below (below1 _ _)))
      (first
        | (go_at_call 65; (with_reducible refine (hst.out _ _).mono ?_); rintro e5 w5 ⟨rfl, hb5⟩; (first | (have st5 : Sb W0 w5 none := by with_reducible exact Sb.call hb5 (Sb.drew st0)) | (have st5 : Sb W0 w5 (some W0.heap.size) := by with_reducible exact Sb.call hb5 (Sb.drew (Sb.zbox st0)))))
        | (go_at_call 51; (with_reducible refine (HBIN.out _ _ st5).mono ?_); rintro e6 w7 ⟨k6, n6, s6, A6, la6, a6, C6, lc6, c6, rfl, st6, hl6⟩; (first | (obtain ⟨hp6, zz⟩ := st6.box _ rfl; obtain ⟨y0, y1, y2, y3, y4⟩ := box5 zz; have z0 := zz.free 0; have z1 := zz.free 1; have z2 := zz.free 2; have z3 := zz.free 3; have z4 := zz.free 4) | skip))
        | (go_at_call 51; (with_reducible refine (HBIN.out _ _ (Sb.zbox st5)).mono ?_); rintro e6 w7 ⟨k6, n6, s6, A6, la6, a6, C6, lc6, c6, rfl, st6, hl6⟩; (first | (obtain ⟨hp6, zz⟩ := st6.box _ rfl; obtain ⟨y0, y1, y2, y3, y4⟩ := box5 zz; have z0 := zz.free 0; have z1 := zz.free 1; have z2 := zz.free 2; have z3 := zz.free 3; have z4 := zz.free 4) | skip)))
    all_goals
      refine hMet _ _ (Met.intro (hRJ _ _ ?_))
      (repeat apply Exists.intro)
      refine ⟨?_, rfl⟩
      first
        | exact gotB_fill st6 hl6
        | exact gotB_last st6 hl6
  case rest =>
    obtain ⟨hbx, rfl, g1, k7, n7, s7, A7, la7, a7, C7, lc7, c7, rfl, hvx⟩ := hcut
    obtain ⟨A11, a11, C11, c11, hcs1⟩ := vx_bool hvx
    rw [hcs1] at hvx
    have HB1 := Lib.hid (chain HB0.out hbx)
    have HV1 := Lib.hid (HV0.out.next hbx)
    have HG1_1 := Lib.hid hvx
    clear hbx hvx hcs1 HB0 HV0 
    obtain ⟨W1, hW1⟩ : ∃ X, X = wc := ⟨_, rfl⟩
    subst hW1
    go_upto_region 5 with fail
    skip
    go_cut [8, 9] (fun tr te wx => GotB W1 (boolV true) 0 tr te wx)
    case first =>
      rename_i Jm Km hRJ hMet
      have keepS : Hid (∀ X, Below W1.heap.size W1 X → X.cell? ⟨w6.heap.size, 0, none⟩ = some (.int .i64 4) ∧ X.cell? ⟨w6.heap.size, 1, none⟩ = some (.int .i64 0) ∧ X.cell? ⟨w6.heap.size, 2, none⟩ = some (.string AB) ∧ X.cell? ⟨w6.heap.size, 3, none⟩ = some (.slice none 0 0) ∧ X.cell? ⟨w6.heap.size, 4, none⟩ = some (.slice none 0 0)) := Lib.hid fun X hX => box5 (HV1.out.box.below hX HV1.out.box.lt)
      have HBIN : Hid (∀ z W, Sb W1 W z → Calls Tryz.prog 53 #[.agg #[.int .i64 4, .int .i64 0, .string AB, .slice none 0 0, .slice none 0 0], .agg #[.int .i64 4, .int .i64 0, .string b, .slice none 0 0, .slice none 0 0]] W (OpS W1 z (boolV true) 0)) := Lib.hid fun z W h => opS_of h (HF2.out W)
      have st0 := Sb.start W1
      obtain ⟨x0, x1, x2, x3, x4⟩ := keepS.out _ (Below.refl _ _)
      go_region_held3 (fun w' => w'.cell? ⟨w6.heap.size, 0, none⟩ = some (.int .i64 4) ∧ w'.cell? ⟨w6.heap.size, 1, none⟩ = some (.int .i64 0) ∧ w'.cell? ⟨w6.heap.size, 2, none⟩ = some (.string AB) ∧ w'.cell? ⟨w6.heap.size, 3, none⟩ = some (.slice none 0 0) ∧ w'.cell? ⟨w6.heap.size, 4, none⟩ = some (.slice none 0 0))
        (first
          | with_reducible exact keepS.out _ (Sb.drew st0).below
          | with_reducible exact keepS.out _ (Sb.drew (Sb.zbox st0)).below
          | with_reducible exact keepS.out _ st5.below
          | with_reducible exact keepS.out _ (Sb.drew st5).below
          | with_reducible exact keepS.out _ (Sb.zbox st5).below
          | with_reducible exact keepS.out _ (Sb.zbox (Sb.drew st5)).below
          | with_reducible exact keepS.out _ st6.below
          | (refine keepS.out _ ?_; with_reducible exact below_five_m hp6 st6.below _ _ _ _ _)
          | with_reducible exact keepS.out _ (chain st6.below (below1 _ _)))
        (first
          | (go_at_call 65; (with_reducible refine (hst.out _ _).mono ?_); rintro e5 w5 ⟨rfl, hb5⟩; (first | (have st5 : Sb W1 w5 none := by with_reducible exact Sb.call hb5 (Sb.drew st0)) | (have st5 : Sb W1 w5 (some W1.heap.size) := by with_reducible exact Sb.call hb5 (Sb.drew (Sb.zbox st0)))))
          | (go_at_call 53; (with_reducible refine (HBIN.out _ _ st5).mono ?_); rintro e6 w7 ⟨k6, n6, s6, A6, la6, a6, C6, lc6, c6, rfl, st6, hl6⟩; (first | (obtain ⟨hp6, zz⟩ := st6.box _ rfl; obtain ⟨y0, y1, y2, y3, y4⟩ := box5 zz; have z0 := zz.free 0; have z1 := zz.free 1; have z2 := zz.free 2; have z3 := zz.free 3; have z4 := zz.free 4) | skip))
          | (go_at_call 53; (with_reducible refine (HBIN.out _ _ (Sb.zbox st5)).mono ?_); rintro e6 w7 ⟨k6, n6, s6, A6, la6, a6, C6, lc6, c6, rfl, st6, hl6⟩; (first | (obtain ⟨hp6, zz⟩ := st6.box _ rfl; obtain ⟨y0, y1, y2, y3, y4⟩ := box5 zz; have z0 := zz.free 0; have z1 := zz.free 1; have z2 := zz.free 2; have z3 := zz.free 3; have z4 := zz.free 4) | skip)))
      all_goals
        refine hMet _ _ (Met.intro (hRJ _ _ ?_))
        (repeat apply Exists.intro)
        refine ⟨?_, rfl⟩
        first
          | exact gotB_fill st6 hl6
          | exact gotB_last st6 hl6
    case rest =>
      obtain ⟨hbx, rfl, g2, k7, n7, s7, A7, la7, a7, C7, lc7, c7, rfl, hvx⟩ := hcut
      obtain ⟨A12, a12, C12, c12, hcs2⟩ := vx_bool hvx
      rw [hcs2] at hvx
      have HB2 := Lib.hid (chain HB1.out hbx)
      have HV2 := Lib.hid (HV1.out.next hbx)
      have HG1_2 := Lib.hid (HG1_1.out.next hbx)
      have HG2_2 := Lib.hid hvx
      clear hbx hvx hcs2 HB1 HV1 HG1_1
      obtain ⟨W2, hW2⟩ : ∃ X, X = wc := ⟨_, rfl⟩
      subst hW2
      go_upto_region 6 with fail
      skip
      go_cut [10, 11] (fun tr te wx => GotB W2 (strV b) 0 tr te wx)
      case first =>
        rename_i Jm Km hRJ hMet
        have keepS : Hid (∀ X, Below W2.heap.size W2 X → X.cell? ⟨w6.heap.size, 0, none⟩ = some (.int .i64 4) ∧ X.cell? ⟨w6.heap.size, 1, none⟩ = some (.int .i64 0) ∧ X.cell? ⟨w6.heap.size, 2, none⟩ = some (.string AB) ∧ X.cell? ⟨w6.heap.size, 3, none⟩ = some (.slice none 0 0) ∧ X.cell? ⟨w6.heap.size, 4, none⟩ = some (.slice none 0 0)) := Lib.hid fun X hX => box5 (HV2.out.box.below hX HV2.out.box.lt)
        have HBIN : Hid (∀ z W, Sb W2 W z → Calls Tryz.prog 55 #[.agg #[.int .i64 4, .int .i64 0, .string AB, .slice none 0 0, .slice none 0 0], .agg #[.int .i64 4, .int .i64 0, .string a, .slice none 0 0, .slice none 0 0]] W (OpS W2 z (strV b) 0)) := Lib.hid fun z W h => opS_of h (HF3.out W)
        have st0 := Sb.start W2
        obtain ⟨x0, x1, x2, x3, x4⟩ := keepS.out _ (Below.refl _ _)
        go_region_held3 (fun w' => w'.cell? ⟨w6.heap.size, 0, none⟩ = some (.int .i64 4) ∧ w'.cell? ⟨w6.heap.size, 1, none⟩ = some (.int .i64 0) ∧ w'.cell? ⟨w6.heap.size, 2, none⟩ = some (.string AB) ∧ w'.cell? ⟨w6.heap.size, 3, none⟩ = some (.slice none 0 0) ∧ w'.cell? ⟨w6.heap.size, 4, none⟩ = some (.slice none 0 0))
          (first
            | with_reducible exact keepS.out _ (Sb.drew st0).below
            | with_reducible exact keepS.out _ (Sb.drew (Sb.zbox st0)).below
            | with_reducible exact keepS.out _ st5.below
            | with_reducible exact keepS.out _ (Sb.drew st5).below
            | with_reducible exact keepS.out _ (Sb.zbox st5).below
            | with_reducible exact keepS.out _ (Sb.zbox (Sb.drew st5)).below
            | with_reducible exact keepS.out _ st6.below
            | (refine keepS.out _ ?_; with_reducible exact below_five_m hp6 st6.below _ _ _ _ _)
            | with_reducible exact keepS.out _ (chain st6.below (below1 _ _)))
          (first
            | (go_at_call 65; (with_reducible refine (hst.out _ _).mono ?_); rintro e5 w5 ⟨rfl, hb5⟩; (first | (have st5 : Sb W2 w5 none := by with_reducible exact Sb.call hb5 (Sb.drew st0)) | (have st5 : Sb W2 w5 (some W2.heap.size) := by with_reducible exact Sb.call hb5 (Sb.drew (Sb.zbox st0)))))
            | (go_at_call 55; (with_reducible refine (HBIN.out _ _ st5).mono ?_); rintro e6 w7 ⟨k6, n6, s6, A6, la6, a6, C6, lc6, c6, rfl, st6, hl6⟩; (first | (obtain ⟨hp6, zz⟩ := st6.box _ rfl; obtain ⟨y0, y1, y2, y3, y4⟩ := box5 zz; have z0 := zz.free 0; have z1 := zz.free 1; have z2 := zz.free 2; have z3 := zz.free 3; have z4 := zz.free 4) | skip))
            | (go_at_call 55; (with_reducible refine (HBIN.out _ _ (Sb.zbox st5)).mono ?_); rintro e6 w7 ⟨k6, n6, s6, A6, la6, a6, C6, lc6, c6, rfl, st6, hl6⟩; (first | (obtain ⟨hp6, zz⟩ := st6.box _ rfl; obtain ⟨y0, y1, y2, y3, y4⟩ := box5 zz; have z0 := zz.free 0; have z1 := zz.free 1; have z2 := zz.free 2; have z3 := zz.free 3; have z4 := zz.free 4) | skip)))
        all_goals
          refine hMet _ _ (Met.intro (hRJ _ _ ?_))
          (repeat apply Exists.intro)
          refine ⟨?_, rfl⟩
          first
            | exact gotB_fill st6 hl6
            | exact gotB_last st6 hl6
      case rest =>
        obtain ⟨hbx, rfl, g3, k7, n7, s7, A7, la7, a7, C7, lc7, c7, rfl, hvx⟩ := hcut
        obtain ⟨A13, a13, C13, c13, hcs3⟩ := vx_str hvx
        rw [hcs3] at hvx
        have HB3 := Lib.hid (chain HB2.out hbx)
        have HV3 := Lib.hid (HV2.out.next hbx)
        have HG1_3 := Lib.hid (HG1_2.out.next hbx)
        have HG2_3 := Lib.hid (HG2_2.out.next hbx)
        have HG3_3 := Lib.hid hvx
        clear hbx hvx hcs3 HB2 HV2 HG1_2 HG2_2
        obtain ⟨W3, hW3⟩ : ∃ X, X = wc := ⟨_, rfl⟩
        subst hW3
        go_upto_region 7 with fail
        skip
        go_cut [12, 13] (fun tr te wx => GotB W3 (strV a) 0 tr te wx)
        case first =>
          rename_i Jm Km hRJ hMet
          have keepS : Hid (∀ X, Below W3.heap.size W3 X → X.cell? ⟨w6.heap.size, 0, none⟩ = some (.int .i64 4) ∧ X.cell? ⟨w6.heap.size, 1, none⟩ = some (.int .i64 0) ∧ X.cell? ⟨w6.heap.size, 2, none⟩ = some (.string AB) ∧ X.cell? ⟨w6.heap.size, 3, none⟩ = some (.slice none 0 0) ∧ X.cell? ⟨w6.heap.size, 4, none⟩ = some (.slice none 0 0)) := Lib.hid fun X hX => box5 (HV3.out.box.below hX HV3.out.box.lt)
          have HBIN : Hid (∀ z W, Sb W3 W z → Calls Tryz.prog 57 #[.agg #[.int .i64 4, .int .i64 0, .string AB, .slice none 0 0, .slice none 0 0], .agg #[.int .i64 4, .int .i64 0, .string b, .slice none 0 0, .slice none 0 0]] W (OpS W3 z (strV a) 0)) := Lib.hid fun z W h => opS_of h (HF4.out W)
          have st0 := Sb.start W3
          obtain ⟨x0, x1, x2, x3, x4⟩ := keepS.out _ (Below.refl _ _)
          go_region_held3 (fun w' => w'.cell? ⟨w6.heap.size, 0, none⟩ = some (.int .i64 4) ∧ w'.cell? ⟨w6.heap.size, 1, none⟩ = some (.int .i64 0) ∧ w'.cell? ⟨w6.heap.size, 2, none⟩ = some (.string AB) ∧ w'.cell? ⟨w6.heap.size, 3, none⟩ = some (.slice none 0 0) ∧ w'.cell? ⟨w6.heap.size, 4, none⟩ = some (.slice none 0 0))
            (first
              | with_reducible exact keepS.out _ (Sb.drew st0).below
              | with_reducible exact keepS.out _ (Sb.drew (Sb.zbox st0)).below
              | with_reducible exact keepS.out _ st5.below
              | with_reducible exact keepS.out _ (Sb.drew st5).below
              | with_reducible exact keepS.out _ (Sb.zbox st5).below
              | with_reducible exact keepS.out _ (Sb.zbox (Sb.drew st5)).below
              | with_reducible exact keepS.out _ st6.below
              | (refine keepS.out _ ?_; with_reducible exact below_five_m hp6 st6.below _ _ _ _ _)
              | with_reducible exact keepS.out _ (chain st6.below (below1 _ _)))
            (first
              | (go_at_call 65; (with_reducible refine (hst.out _ _).mono ?_); rintro e5 w5 ⟨rfl, hb5⟩; (first | (have st5 : Sb W3 w5 none := by with_reducible exact Sb.call hb5 (Sb.drew st0)) | (have st5 : Sb W3 w5 (some W3.heap.size) := by with_reducible exact Sb.call hb5 (Sb.drew (Sb.zbox st0)))))
              | (go_at_call 57; (with_reducible refine (HBIN.out _ _ st5).mono ?_); rintro e6 w7 ⟨k6, n6, s6, A6, la6, a6, C6, lc6, c6, rfl, st6, hl6⟩; (first | (obtain ⟨hp6, zz⟩ := st6.box _ rfl; obtain ⟨y0, y1, y2, y3, y4⟩ := box5 zz; have z0 := zz.free 0; have z1 := zz.free 1; have z2 := zz.free 2; have z3 := zz.free 3; have z4 := zz.free 4) | skip))
              | (go_at_call 57; (with_reducible refine (HBIN.out _ _ (Sb.zbox st5)).mono ?_); rintro e6 w7 ⟨k6, n6, s6, A6, la6, a6, C6, lc6, c6, rfl, st6, hl6⟩; (first | (obtain ⟨hp6, zz⟩ := st6.box _ rfl; obtain ⟨y0, y1, y2, y3, y4⟩ := box5 zz; have z0 := zz.free 0; have z1 := zz.free 1; have z2 := zz.free 2; have z3 := zz.free 3; have z4 := zz.free 4) | skip)))
          all_goals
            refine hMet _ _ (Met.intro (hRJ _ _ ?_))
            (repeat apply Exists.intro)
            refine ⟨?_, rfl⟩
            first
              | exact gotB_fill st6 hl6
              | exact gotB_last st6 hl6
        case rest =>
          obtain ⟨hbx, rfl, g4, k7, n7, s7, A7, la7, a7, C7, lc7, c7, rfl, hvx⟩ := hcut
          obtain ⟨A14, a14, C14, c14, hcs4⟩ := vx_str hvx
          rw [hcs4] at hvx
          have HB4 := Lib.hid (chain HB3.out hbx)
          have HV4 := Lib.hid (HV3.out.next hbx)
          have HG1_4 := Lib.hid (HG1_3.out.next hbx)
          have HG2_4 := Lib.hid (HG2_3.out.next hbx)
          have HG3_4 := Lib.hid (HG3_3.out.next hbx)
          have HG4_4 := Lib.hid hvx
          clear hbx hvx hcs4 HB3 HV3 HG1_3 HG2_3 HG3_3
          obtain ⟨W4, hW4⟩ : ∃ X, X = wc := ⟨_, rfl⟩
          subst hW4
          obtain ⟨p0, p1, p2, p3, p4⟩ := box5 HG1_4.out.box
          obtain ⟨q0, q1, q2, q3, q4⟩ := box5 HG2_4.out.box
          obtain ⟨r0, r1, r2, r3, r4⟩ := box5 HG3_4.out.box
          obtain ⟨s0, s1, s2, s3, s4⟩ := box5 HG4_4.out.box
          have f1 : (a.toList == a.toList) = true := by simp
          have f2 : (b.toList == b.toList) = true := by simp
          go_wp2_with fail
          refine (haw.out _).mono ?_
          rintro e9 w9 ⟨rfl, hb9⟩
          go_wp2_with fail
          go_ret
          exact ⟨rfl, chain HB4.out hb9⟩
end Go.Proofs.YtjafmdngbphacaaGreatDoor

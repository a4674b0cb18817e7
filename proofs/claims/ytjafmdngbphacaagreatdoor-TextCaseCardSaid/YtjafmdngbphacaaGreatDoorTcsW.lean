/- TextCase: its walk. -/
import Derived.Test.YtjafmdngbphacaaGreatDoorC49
import Derived.Test.YtjafmdngbphacaaGreatDoorC39
import Derived.Test.YtjafmdngbphacaaGreatDoorC29
import Derived.StillTailTactics
import Derived.Deep.QuietTactic
import Derived.BigQuiet
set_option linter.unusedVariables false
set_option linter.unusedSimpArgs false
namespace Go.Proofs.YtjafmdngbphacaaGreatDoor
open Go.RowKit Go.Sort
theorem okS_of_valid2 {s : ByteArray} (h : valid (strV s) = true) : okS s = true := by
  unfold strV at h
  exact (valid_parts h).2.1
theorem lul (b : UInt8) : lowB (upB (lowB b)) = lowB b := by
  refine UInt8.toNat_inj.1 ?_
  rw [low_nat, up_nat, low_nat]
  repeat' split
  all_goals omega
theorem mapS_lul (s : ByteArray) : mapS lowB (mapS upB (mapS lowB s)) = mapS lowB s := by
  unfold mapS
  simp only [List.map_map]
  congr 3
  funext b
  exact lul b
theorem byte_ofB {s : ByteArray} {i : Nat} (h : i < s.size) : s.data.toList[i]? = some s[i] := at_list h rfl
theorem mapS_at (g : UInt8 → UInt8) (s : ByteArray) (i : Nat) (h : i < s.size) (h2 : i < (mapS g s).size) : (mapS g s)[i] = g s[i] := by
  have e1 := byte_ofB h2
  rw [mapS_list, List.getElem?_map, byte_ofB h] at e1
  injection e1 with e1
  exact e1.symm
theorem pre_trim (s : ByteArray) (h : okS s = true) : (trimS s).size ≤ (s.extract (span blankB s.data.toList 0) s.size).size ∧ (s.extract (span blankB s.data.toList 0) s.size).extract 0 (trimS s).size = trimS s := by
  obtain ⟨_, _, te, h1, h2, h3⟩ := trimS_ok h
  rw [h3]
  have hz : (s.extract (span blankB s.data.toList 0) te).size = te - span blankB s.data.toList 0 := by simp; omega
  refine ⟨by simp; omega, ?_⟩
  rw [hz]
  refine bytes_ext ?_
  rw [Lib.extract_data, Lib.extract_data, Lib.extract_data]
  rw [List.drop_zero, Nat.sub_zero, List.take_take]
  congr 1
  omega
/-- A string that lies in a box: its cells are written out. -/
theorem vx_strC {w : World} {g : Nat} {s : ByteArray} {cs : List Value} (h : Vx w g (strV s) cs) : ∃ (A : Option Addr) (a : Nat) (B : Option Addr) (b : Nat), cs = [.int .i64 4, .int .i64 0, .string s, .slice A 0 a, .slice B 0 b] := by
  have hl := h.lies
  unfold strV at hl
  obtain ⟨A, a, B, b, xs, e, _⟩ := lies_open hl
  exact ⟨A, a, B, b, e⟩
set_option maxHeartbeats 20000000 in
set_option maxRecDepth 100000 in
theorem textCase_walk (s : ByteArray) (w : World) (hs0 : s.size ≤ 140737488355328) (hT : Tabs w) :
    Calls Tryz.prog 11 #[.string s] w fun e w' => e = .returned (.bool true) ∧ Below w.heap.size w w' := by
  have haw := Lib.hid (fun W => awake8_any W)
  have hst := Lib.hid (fun (s : ByteArray) W => str8_any s W)
  have HVA := Lib.hid (fun W => valid_any (strV s) (sc s) W (lies_str _ _ _ hs0))
  have HTB := Lib.hid (fun W (hW : Below w.heap.size w W) => hT.next hW)
  unfold sc at HVA
  clear hT hs0
  by_cases c1 : 100 < s.size
  · have d1 : decide ((s.size : Int) > 100) = true := decide_eq_true (by omega)
    have d2 : (100 : Int) < (s.size : Int) := by omega
    go_enter Tryz.func11, Tryz.ntmps11
    go_wp2_with fail
    refine (haw.out _).mono ?_
    rintro e9 w9 ⟨rfl, hb9⟩
    go_wp2_with fail
    go_ret
    exact ⟨rfl, hb9⟩
  have d1 : decide ((s.size : Int) > 100) = false := decide_eq_false (by omega)
  have d2 : ¬ ((100 : Int) < (s.size : Int)) := by omega
  go_enter Tryz.func11, Tryz.ntmps11
  go_wp2_with fail
  refine (hst.out _ _).mono ?_
  rintro e2 w2 ⟨rfl, hb2⟩
  go_wp2_with fail
  refine (HVA.out _).mono ?_
  rintro e3 w3 ⟨rfl, hb3⟩
  have HB3 := Lib.hid (chain hb2 hb3)
  clear hb2 hb3 HVA
  obtain ⟨va, hva⟩ : ∃ x, valid (strV s) = x := ⟨_, rfl⟩
  rw [hva]
  have HV := Lib.hid hva
  clear hva
  cases va with
  | false =>
    go_wp2_with fail
    refine (haw.out _).mono ?_
    rintro e9 w9 ⟨rfl, hb9⟩
    go_wp2_with fail
    go_ret
    exact ⟨rfl, chain HB3.out hb9⟩
  | true =>
  have HO := Lib.hid (okS_of_valid2 HV.out)
  have h4 : s.size ≤ 4096 := by omega
  obtain ⟨l, hl⟩ : ∃ X, X = mapS lowB s := ⟨_, rfl⟩
  obtain ⟨u, hu⟩ : ∃ X, X = mapS upB l := ⟨_, rfl⟩
  obtain ⟨t, ht⟩ : ∃ X, X = trimS s := ⟨_, rfl⟩
  have HLD := Lib.hid hl
  have hll : l.size = s.size := by rw [hl, mapS_size]
  have hol : okS l = true := by rw [hl]; exact okS_map asc_low HO.out
  have huu : u.size = s.size := by rw [hu, mapS_size, hll]
  have hou : okS u = true := by rw [hu]; exact okS_map asc_up hol
  have htt : t.size ≤ s.size := by rw [ht]; exact (trimS_ok HO.out).2.1
  have hml : mapS lowB u = l := by rw [hu, hl]; exact mapS_lul s
  have HPF := Lib.hid (pre_trim s HO.out)
  rw [← ht] at HPF
  have HLO := Lib.hid (fun W (hW : Below w.heap.size w W) => str_open (lower_one s HV.out HO.out h4 [.int .i64 4, .int .i64 0, .string s, .slice none 0 0, .slice none 0 0] W (HTB.out W hW) (lies_str _ _ _ (by omega))))
  have HUP := Lib.hid (fun W cs (hW : Below w.heap.size w W) (h : Lies W (· < W.heap.size) (strV l) cs) => str_open (upper_one l (valid_str hol (by omega)) hol (by omega) cs W (HTB.out W hW) h))
  have HL2 := Lib.hid (fun W cs (hW : Below w.heap.size w W) (h : Lies W (· < W.heap.size) (strV u) cs) => str_open (lower_one u (valid_str hou (by omega)) hou (by omega) cs W (HTB.out W hW) h))
  have HTR := Lib.hid (fun W => str_open (trim_one s HV.out HO.out h4 [.int .i64 4, .int .i64 0, .string s, .slice none 0 0, .slice none 0 0] W (lies_str _ _ _ (by omega))))
  rw [← hl] at HLO
  rw [← hu] at HUP
  rw [hml] at HL2
  rw [← ht] at HTR
  clear hl hu ht hol hou hml HV HO HTB
  go_wp2_with fail
  refine (hst.out _ _).mono ?_
  rintro e4 w4 ⟨rfl, hb4⟩
  have HB4 := Lib.hid (chain HB3.out hb4)
  clear hb4 HB3
  go_wp2_with fail
  refine (HLO.out _ HB4.out).mono ?_
  rintro e5 w5 ⟨A5, a5, C5, c5, rfl, hb5, hl5⟩
  obtain ⟨W5, hW5⟩ : ∃ X, X = w5.alloc (.cells #[.int .i64 4, .int .i64 0, .string l, .slice A5 0 a5, .slice C5 0 c5] 25) := ⟨_, rfl⟩
  have HB5 : Hid (Below w.heap.size w W5) := Lib.hid (by rw [hW5]; exact chain HB4.out (chain hb5 (below1 _ _)))
  have HV5 : Hid (Vx W5 w5.heap.size (strV l) [.int .i64 4, .int .i64 0, .string l, .slice A5 0 a5, .slice C5 0 c5]) := Lib.hid (by rw [hW5]; exact Vx.new hl5)
  have HW5 := Lib.hid hW5
  clear hW5 hb5 hl5 HLO HB4
  go_wp2_with fail
  rw [← HW5.out]
  refine (HUP.out _ _ HB5.out HV5.out.lies).mono ?_
  rintro e6 w6 ⟨A6, a6, C6, c6, rfl, hb6, hl6⟩
  obtain ⟨W6, hW6⟩ : ∃ X, X = w6.alloc (.cells #[.int .i64 4, .int .i64 0, .string u, .slice A6 0 a6, .slice C6 0 c6] 25) := ⟨_, rfl⟩
  have hb6' : Below W5.heap.size W5 W6 := by rw [hW6]; exact chain hb6 (below1 _ _)
  have HB6 := Lib.hid (chain HB5.out hb6')
  have HV6 : Hid (Vx W6 w6.heap.size (strV u) [.int .i64 4, .int .i64 0, .string u, .slice A6 0 a6, .slice C6 0 c6]) := Lib.hid (by rw [hW6]; exact Vx.new hl6)
  have HX6 := Lib.hid (HV5.out.next hb6')
  have HW6 := Lib.hid hW6
  clear hW6 hb6 hb6' hl6 HUP HB5 HV5
  go_wp2_with fail
  rw [← HW6.out]
  refine (HL2.out _ _ HB6.out HV6.out.lies).mono ?_
  rintro e7 w7 ⟨A7, a7, C7, c7, rfl, hb7, hl7⟩
  obtain ⟨W7, hW7⟩ : ∃ X, X = w7.alloc (.cells #[.int .i64 4, .int .i64 0, .string l, .slice A7 0 a7, .slice C7 0 c7] 25) := ⟨_, rfl⟩
  have hb7' : Below W6.heap.size W6 W7 := by rw [hW7]; exact chain hb7 (below1 _ _)
  have HB7 := Lib.hid (chain HB6.out hb7')
  have HV7 : Hid (Vx W7 w7.heap.size (strV l) [.int .i64 4, .int .i64 0, .string l, .slice A7 0 a7, .slice C7 0 c7]) := Lib.hid (by rw [hW7]; exact Vx.new hl7)
  have HX7 := Lib.hid (HX6.out.next hb7')
  have HW7 := Lib.hid hW7
  clear hW7 hb7 hb7' hl7 HL2 HB6 HV6 HX6
  go_wp2_with fail
  rw [← HW7.out]
  refine (hst.out _ _).mono ?_
  rintro e8 w8 ⟨rfl, hb8⟩
  have HB8 := Lib.hid (chain HB7.out hb8)
  have HV8 := Lib.hid (HV7.out.next hb8)
  have HX8 := Lib.hid (HX7.out.next hb8)
  clear hb8 HB7 HV7 HX7
  go_wp2_with fail
  refine (HTR.out _).mono ?_
  rintro e9 w9 ⟨A9, a9, C9, c9, rfl, hb9, hl9⟩
  obtain ⟨W9, hW9⟩ : ∃ X, X = w9.alloc (.cells #[.int .i64 4, .int .i64 0, .string t, .slice A9 0 a9, .slice C9 0 c9] 25) := ⟨_, rfl⟩
  have hb9' : Below w8.heap.size w8 W9 := by rw [hW9]; exact chain hb9 (below1 _ _)
  have HB9 := Lib.hid (chain HB8.out hb9')
  have HV9 : Hid (Vx W9 w9.heap.size (strV t) [.int .i64 4, .int .i64 0, .string t, .slice A9 0 a9, .slice C9 0 c9]) := Lib.hid (by rw [hW9]; exact Vx.new hl9)
  have HX9 := Lib.hid (HX8.out.next hb9')
  have HM9 := Lib.hid (HV8.out.next hb9')
  have HW9 := Lib.hid hW9
  clear hW9 hb9 hb9' hl9 HTR HB8 HV8 HX8
  have HSA := Lib.hid (same_selfx HX9.out.lies HM9.out.lies)
  obtain ⟨x0, x1, x2, x3, x4⟩ := box5 HX9.out.box
  obtain ⟨y0, y1, y2, y3, y4⟩ := box5 HM9.out.box
  obtain ⟨z0, z1, z2, z3, z4⟩ := box5 HV9.out.box
  have g1 : ((l.size : Int) != (s.size : Int)) = false := by rw [hll]; simp
  have g2 : decide ((t.size : Int) > (s.size : Int)) = false := decide_eq_false (by omega)
  have g3 : ¬ ((s.size : Int) < (t.size : Int)) := by omega
  go_upto_region 7 with fail
  rw [← HW9.out]
  go_wp2_with fail
  refine HSA.out.mono ?_
  rintro e10 w10 ⟨rfl, hb10⟩
  have HB10 := Lib.hid (chain HB9.out hb10)
  have HX10 := Lib.hid (HX9.out.next hb10)
  have HT10 := Lib.hid (HV9.out.next hb10)
  clear x0 x1 x2 x3 x4 y0 y1 y2 y3 y4 z0 z1 z2 z3 z4 hb10 HSA HX9 HM9 HV9 HB9
  obtain ⟨x0, x1, x2, x3, x4⟩ := box5 HX10.out.box
  obtain ⟨z0, z1, z2, z3, z4⟩ := box5 HT10.out.box
  go_wp2_with fail
  go_loopw [11, 12, 13] (fun i c d wr => ∃ (k q : Nat), k ≤ s.size ∧ i = .int .i64 k ∧ wr = w10.drewN q) (fun i _ _ _ => s.size - (intOf i).toNat)
  case atStart => exact ⟨0, 0, Nat.zero_le _, rfl, rfl⟩
  case round =>
    obtain ⟨k, q, hk, rfl, hwr⟩ := hrel
    subst hwr
    by_cases hlt : k < s.size
    · have q0 : (0 : Int) ≤ (k : Int) := by omega
      have q1 : (k : Int) < (s.size : Int) := by omega
      have q2 : (k : Int) < (l.size : Int) := by omega
      have q3 : k < l.size := by omega
      have x2' : (w10.drewN q).cell? ⟨w5.heap.size, 2, none⟩ = some (.string l) := x2
      obtain ⟨b, hb⟩ : ∃ b, s[k] = b := ⟨_, rfl⟩
      obtain ⟨b2, hb2⟩ : ∃ b, l[k] = b := ⟨_, rfl⟩
      have hbb : b2.toNat = if 65 ≤ b.toNat ∧ b.toNat ≤ 90 then b.toNat + 32 else b.toNat := by
        have e := HLD.out
        have e2 : l[k] = lowB s[k] := by
          subst e
          exact mapS_at lowB s k hlt q3
        rw [← hb2, e2, low_nat, hb]
      have HBB := Lib.hid hbb
      have HN256 := Lib.hid b.toNat_lt
      clear hbb
      go_wp2_with fail
      go_quiet (fail)
      rw [drewN_two]
      clear hb hb2 x2' q2
      have hmn := HBB.out
      have hn256 := HN256.out
      clear HBB HN256
      generalize b.toNat = n at hmn hn256 ⊢
      generalize b2.toNat = m at hmn ⊢
      by_cases ca : 65 ≤ n
      · have p1 : (65 : Int) ≤ (n : Int) := by omega
        have p1b : ¬ ((n : Int) < 65) := by omega
        by_cases cb : n ≤ 90
        · have p2 : (n : Int) ≤ 90 := by omega
          have p2b : ¬ ((90 : Int) < (n : Int)) := by omega
          rw [if_pos ⟨ca, cb⟩] at hmn
          subst hmn
          have p3 : ((n : Int) + 32) % 256 = (n : Int) + 32 := by omega
          have p4 : (((n + 32 : Nat) : Int)) = (n : Int) + 32 := by omega
          go_wp2_with fail
          go_roundw
          case rel => exact ⟨k + 1, _, by omega, by first | rfl | go_num, rfl⟩
          case measure => (simp [intOf] <;> omega)
        · have p2 : ¬ ((n : Int) ≤ 90) := by omega
          have p2b : (90 : Int) < (n : Int) := by omega
          rw [if_neg (by omega)] at hmn
          subst hmn
          go_wp2_with fail
          go_roundw
          case rel => exact ⟨k + 1, _, by omega, by first | rfl | go_num, rfl⟩
          case measure => (simp [intOf] <;> omega)
      · have p1 : ¬ ((65 : Int) ≤ (n : Int)) := by omega
        have p1b : (n : Int) < 65 := by omega
        rw [if_neg (by omega)] at hmn
        subst hmn
        go_wp2_with fail
        go_roundw
        case rel => exact ⟨k + 1, _, by omega, by first | rfl | go_num, rfl⟩
        case measure => (simp [intOf] <;> omega)
    · have q1 : ¬ ((k : Int) < (s.size : Int)) := by omega
      go_wp2_with fail
      obtain ⟨WL, hWL⟩ : ∃ X, X = w10.drewN q := ⟨_, rfl⟩
      have HBL : Hid (Below w.heap.size w WL) := Lib.hid (by rw [hWL]; exact chain HB10.out (below_dq _ _))
      have HTL : Hid (Vx WL w9.heap.size (strV t) [.int .i64 4, .int .i64 0, .string t, .slice A9 0 a9, .slice C9 0 c9]) := Lib.hid (by rw [hWL]; exact HT10.out.next (below_dq _ _))
      rw [← hWL]
      clear hWL x0 x1 x2 x3 x4 z0 z1 z2 z3 z4 hlt hk q1 HX10 HT10 HB10
      go_loopw [14] (fun t14 wr => ∃ k : Nat, k ≤ s.size ∧ t14 = .int .i64 k ∧ wr = WL ∧ Aside (span blankB s.data.toList 0 = span blankB s.data.toList k)) (fun t14 _ => s.size - (intOf t14).toNat)
      case atStart => exact ⟨0, Nat.zero_le _, rfl, rfl, rfl⟩
      case round =>
        obtain ⟨k, hk, rfl, hwr, hsp⟩ := hrel
        have hwr2 := hwr.symm
        clear hwr
        subst hwr2
        have HSP := Lib.hid hsp.out
        clear hsp
        by_cases hlt : k < s.size
        · have q0 : (0 : Int) ≤ (k : Int) := by omega
          have q1 : (k : Int) < (s.size : Int) := by omega
          obtain ⟨b, hb⟩ : ∃ b, s[k] = b := ⟨_, rfl⟩
          have H3 := Lib.hid (at_list hlt hb)
          by_cases e1 : b.toNat = 32
          · have HNX := Lib.hid (span_inq H3.out (p := blankB) (by unfold blankB; simp [e1]))
            have e1i : (b.toNat : Int) = 32 := by omega
            go_wp2_with fail
            go_roundw
            case rel => exact ⟨k + 1, by omega, by first | rfl | go_num, by first | trivial | rfl, HSP.out.trans HNX.out⟩
            case measure => (simp [intOf] <;> omega)
          have n1 : ¬ ((b.toNat : Int) = 32) := by omega
          have n1b : ((b.toNat : Int) == 32) = false := by simpa using n1
          by_cases e2 : b.toNat = 9
          · have HNX := Lib.hid (span_inq H3.out (p := blankB) (by unfold blankB; simp [e2]))
            have e2i : (b.toNat : Int) = 9 := by omega
            go_wp2_with fail
            go_roundw
            case rel => exact ⟨k + 1, by omega, by first | rfl | go_num, by first | trivial | rfl, HSP.out.trans HNX.out⟩
            case measure => (simp [intOf] <;> omega)
          have n2 : ¬ ((b.toNat : Int) = 9) := by omega
          have n2b : ((b.toNat : Int) == 9) = false := by simpa using n2
          by_cases e3 : b.toNat = 10
          · have HNX := Lib.hid (span_inq H3.out (p := blankB) (by unfold blankB; simp [e3]))
            have e3i : (b.toNat : Int) = 10 := by omega
            go_wp2_with fail
            go_roundw
            case rel => exact ⟨k + 1, by omega, by first | rfl | go_num, by first | trivial | rfl, HSP.out.trans HNX.out⟩
            case measure => (simp [intOf] <;> omega)
          have n3 : ¬ ((b.toNat : Int) = 10) := by omega
          have n3b : ((b.toNat : Int) == 10) = false := by simpa using n3
          by_cases e4 : b.toNat = 13
          · have HNX := Lib.hid (span_inq H3.out (p := blankB) (by unfold blankB; simp [e4]))
            have e4i : (b.toNat : Int) = 13 := by omega
            go_wp2_with fail
            go_roundw
            case rel => exact ⟨k + 1, by omega, by first | rfl | go_num, by first | trivial | rfl, HSP.out.trans HNX.out⟩
            case measure => (simp [intOf] <;> omega)
          have n4 : ¬ ((b.toNat : Int) = 13) := by omega
          have n4b : ((b.toNat : Int) == 13) = false := by simpa using n4
          have HFk : span blankB s.data.toList 0 = k := HSP.out.trans (span_noq H3.out (by unfold blankB; simp [e1, e2, e3, e4]))
          have HP := Lib.hid (fun W => prefix_any t (s.extract k s.size) W (by omega) (by simp; omega) (by have := HPF.out; rw [HFk] at this; exact this))
          have z2' := HTL.out.box.cell (i := 2) rfl
          go_wp2_with fail
          refine wp_region_still_tail 7 (by kernel_rfl) (by kernel_rfl) ?_
          simp only [List.take_succ_cons, List.take_zero, List.drop_succ_cons, List.drop_zero]
          repeat still_step
          still_call (HP.out _)
          repeat still_step
          try refine wpStill_nil ?_
          change wpList _ _ _ _ _ WL.drew
          go_wp2_with fail
          refine (haw.out _).mono ?_
          rintro e11 w11 ⟨rfl, hb11⟩
          go_wp2_with fail
          go_ret
          exact ⟨rfl, chain HBL.out (below_of_drew hb11)⟩
        · have q1 : ¬ ((k : Int) < (s.size : Int)) := by omega
          have HFk : span blankB s.data.toList 0 = k := HSP.out.trans (span_end (by simp; omega))
          have hks : (k : Int) ≤ (s.size : Int) := by omega
          have HP := Lib.hid (fun W => prefix_any t (s.extract k s.size) W (by omega) (by simp; omega) (by have := HPF.out; rw [HFk] at this; exact this))
          have z2' := HTL.out.box.cell (i := 2) rfl
          go_wp2_with fail
          refine wp_region_still_tail 7 (by kernel_rfl) (by kernel_rfl) ?_
          simp only [List.take_succ_cons, List.take_zero, List.drop_succ_cons, List.drop_zero]
          repeat still_step
          still_call (HP.out _)
          repeat still_step
          try refine wpStill_nil ?_
          change wpList _ _ _ _ _ WL.drew
          go_wp2_with fail
          refine (haw.out _).mono ?_
          rintro e11 w11 ⟨rfl, hb11⟩
          go_wp2_with fail
          go_ret
          exact ⟨rfl, chain HBL.out (below_of_drew hb11)⟩
end Go.Proofs.YtjafmdngbphacaaGreatDoor

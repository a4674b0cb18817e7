/- slices.symMergeCmpFunc at int, the indexes into a list of keys. -/
import Derived.Test.YtnokmlclephjgaaIx1
import Derived.Deep.CutBlock
import Derived.Deep.DeepCutAuto
import Derived.Shelf.SlSortCmp.QuietGrown
set_option linter.unusedVariables false
set_option linter.unusedSimpArgs false
set_option linter.unusedSectionVars false
namespace Go.Proofs.Ytnokmlclephjgaa.Ix
open Go.Shelf Go.RowKit Go.Lib Go.Sort Go.Proofs.Ytnokmlclephjgaa
variable {K : List V} [Inhabited (Ik K)]
/-- How far one member has moved to the right. -/
def MvR (X l Y : List (Ik K)) (x : (Ik K)) (t : Nat) (d : Array (Ik K)) : Prop := ∃ c r, l = c ++ r ∧ c.length = t ∧ d.toList = X ++ (c ++ x :: (r ++ Y))
theorem MvR.step {X l Y : List (Ik K)} {x : (Ik K)} {t : Nat} {d : Array (Ik K)} (h : MvR X l Y x t d) (hl : t < l.length) : MvR X l Y x (t + 1) (swp d (X.length + t) (X.length + t + 1)) := by
  obtain ⟨c, r, rfl, h1, h2⟩ := h
  cases r with
  | nil => simp at hl; omega
  | cons y s =>
    refine ⟨c ++ [y], s, by simp, by simp [h1], ?_⟩
    rw [swp_far (A := X ++ c) (M := []) (B := s ++ Y) (x := x) (y := y) (by rw [h2]; simp) (by simp; omega) (by simp; omega)]
    simp
theorem MvR.done {X l Y : List (Ik K)} {x : (Ik K)} {t : Nat} {d : Array (Ik K)} (h : MvR X l Y x t d) (hl : l.length ≤ t) : d.toList = X ++ (l ++ x :: Y) := by
  obtain ⟨c, r, rfl, h1, h2⟩ := h
  simp at hl
  obtain rfl : r = [] := List.eq_nil_of_length_eq_zero (by omega)
  simpa using h2
/-- How far one member has moved to the left: t members are still ahead of it. -/
def MvL (X l Y : List (Ik K)) (x : (Ik K)) (t : Nat) (d : Array (Ik K)) : Prop := ∃ c r, l = c ++ r ∧ c.length = t ∧ d.toList = X ++ (c ++ x :: (r ++ Y))
theorem MvL.step {X l Y : List (Ik K)} {x : (Ik K)} {t : Nat} {d : Array (Ik K)} (h : MvL X l Y x (t + 1) d) : MvL X l Y x t (swp d (X.length + t + 1) (X.length + t)) := by
  obtain ⟨c, r, rfl, h1, h2⟩ := h
  rcases list_snoc c with rfl | ⟨c', y, rfl⟩
  · simp at h1
  · simp at h1
    refine ⟨c', y :: r, by simp, h1, ?_⟩
    rw [swp_far' (A := X ++ c') (M := []) (B := r ++ Y) (x := y) (y := x) (by rw [h2]; simp) (by simp; omega) (by simp; omega)]
    simp
theorem MvL.done {X l Y : List (Ik K)} {x : (Ik K)} {d : Array (Ik K)} (h : MvL X l Y x 0 d) : d.toList = X ++ (x :: (l ++ Y)) := by
  obtain ⟨c, r, rfl, h1, h2⟩ := h
  obtain rfl : c = [] := List.eq_nil_of_length_eq_zero h1
  simpa using h2
/-- What a merge leaves. -/
def MgPost (w0 : World) (blk off N : Nat) (X u v Y : List (Ik K)) (e : Ending) (w' : World) : Prop :=
  e = .returned (.tuple #[]) ∧ ∃ (d' : Array (Ik K)) (z : List (Ik K)), d'.toList = X ++ (z ++ Y) ∧ Mg u v z ∧ d'.size = N ∧ SW Ik.enc w0 blk off d' w'
set_option maxHeartbeats 16000000 in
set_option maxRecDepth 1000000 in
theorem symMerge_any (g : Nat) (cb : Array Value) (blk off cap N : Nat) (d0 : Array (Ik K)) (w0 : World) (eg : ∀ args w, (callFunc g args).run Try.prog w = .ok (.enter g args) w) (R : Row1 Ik.enc w0 blk off d0) (hN : d0.size = N) (hcmp : CmpLays1 Try.prog g cb (Ik.enc (K := K)) (mcI (K := K)) blk off N w0) (hsz : N < 4611686018427387904) :
    ∀ (n : Nat) (X u v Y : List (Ik K)) (d : Array (Ik K)) (w : World), u.length + v.length ≤ n → d.size = N → SW Ik.enc w0 blk off d w → d.toList = X ++ (u ++ (v ++ Y)) → So u → So v → 1 ≤ u.length → 1 ≤ v.length → ∀ (a m b : Nat), a = X.length → m = X.length + u.length → b = X.length + u.length + v.length →
      Calls Try.prog 61 #[.slice (some ⟨blk, off, none⟩) N cap, .int .i64 a, .int .i64 m, .int .i64 b, .func (.func g) #[] cb] w (MgPost w0 blk off N X u v Y) := by
  intro n
  induction n with
  | zero => intro X u v Y d w h1 _ _ _ _ _ h2; omega
  | succ n ih =>
  intro X u v Y d w hn hs S hd hu hv hu1 hv1 a m b ha hm hb
  have mixed : Try.prog.follows .mixedOrders = true := by kernel_rfl
  have hbN : b ≤ N := by
    rw [← hs, ← Array.length_toList, hd]
    simp
    omega
  have ham : a < m := by omega
  have hmb : m < b := by omega
  have HC := Lib.hid hcmp
  have S0 := Lib.hid S
  have HD := Lib.hid hd
  have HU := Lib.hid hu
  have HV := Lib.hid hv
  have IH := Lib.hid ih
  have RT := Lib.hid (fun (X u v Y : List (Ik K)) (dk : Array (Ik K)) (W : World) (hk : dk.size = N) (hS : SW Ik.enc w0 blk off dk W) (hd : dk.toList = X ++ (u ++ (v ++ Y))) (hu : 1 ≤ u.length) (hv : 1 ≤ v.length) (a m b : Nat) (ha : a = X.length) (hm : m = X.length + u.length) (hb : b = X.length + u.length + v.length) =>
    show Calls Try.prog 66 #[.slice (some ⟨blk, off, none⟩) N cap, .int .i64 a, .int .i64 m, .int .i64 b, .func (.func g) #[] cb] W fun e w' => e = .returned (.tuple #[]) ∧ ∃ d' : Array (Ik K), d'.toList = X ++ (v ++ (u ++ Y)) ∧ d'.size = N ∧ SW Ik.enc w0 blk off d' w' by
      have := rotate_any g cb blk off cap X u v Y d0 dk w0 W R (by omega) hS hd hu hv (by omega) a m b ha hm hb
      rw [hk] at this
      exact this)
  have HA := Lib.hid ha
  have HM0 := Lib.hid hm
  have HB0 := Lib.hid hb
  have hub : a + u.length = m := by omega
  have hvb : m + v.length = b := by omega
  have HUB := Lib.hid hub
  have HVB := Lib.hid hvb
  clear hcmp S hd hu hv ih ha hm hb hub hvb
  by_cases h1 : u.length = 1
  · obtain ⟨x, rfl⟩ : ∃ x, u = [x] := by
      match u, h1 with
      | [x], _ => exact ⟨x, rfl⟩
    have hma2 : m = a + 1 := by have := HUB.out; simp at this; omega
    have hma : (m : Int) - (a : Int) = 1 := by omega
    have HMA2 := Lib.hid hma2
    have hx : Hid (d[a]! = x) := Lib.hid (at_mid (A := X) (B := v ++ Y) (by rw [HD.out]; simp) HA.out)
    have hbv : b = a + 1 + v.length := by have := HVB.out; omega
    have HBV := Lib.hid hbv
    have ML := Lib.hid (fun (i : Nat) (h1 : X.length + 1 ≤ i) (h2 : i ≤ X.length + 1 + v.length) hlo hhi => merge_one_left (d := d) (X := X) (Y := Y) (v := v) (x := x) (i := i) (by rw [HD.out]; simp) HV.out h1 h2 hlo hhi)
    have HD2 : Hid (d.toList = X ++ (x :: (v ++ Y))) := Lib.hid (by rw [HD.out]; simp)
    rw [← HA.out] at ML
    clear HD h1 hn IH RT hu1 hma2 hbv
    go_enter Try.func61, Try.ntmps61
    go_wp2_with fail
    go_loopg [10, 11] (b - m) (fun kx s10 s11 wr => ∃ i j : Nat, s10 = .int .i64 i ∧ s11 = .int .i64 j ∧ m ≤ i ∧ i ≤ j ∧ j ≤ b ∧ j - i ≤ kx ∧ Hid (SW Ik.enc w0 blk off d wr) ∧ Hid (i = a + 1 ∨ lk d[i - 1]! x = true) ∧ Hid (j = a + 1 + v.length ∨ lk d[j]! x = false))
    case atStart => exact ⟨m, b, rfl, rfl, Nat.le_refl _, by omega, Nat.le_refl _, Nat.le_refl _, S0, Lib.hid (.inl HMA2.out), Lib.hid (.inl HBV.out)⟩
    case round =>
      clear S0
      obtain ⟨i, j, rfl, rfl, hmi, hij, hjb, hkx, S1, I1, I2⟩ := hrel
      by_cases hlt : i < j
      · have hltz : (i : Int) < (j : Int) := by omega
        cases hL : lk d[(i + j) / 2]! d[a]! with
        | true =>
          have ea1 : (((i : Int) + (j : Int)) / 2).toNat = (i + j) / 2 := by omega
          have pa1 : (0 : Int) ≤ ((i : Int) + (j : Int)) / 2 := by omega
          have ba1 : ((i : Int) + (j : Int)) / 2 < (N : Int) := by omega
          have ec1 : ((a : Int)).toNat = a := by omega
          have pc1 : (0 : Int) ≤ (a : Int) := by omega
          have bc1 : (a : Int) < (N : Int) := by omega
          obtain ⟨x1, hx1⟩ : ∃ x, x = d[(i + j) / 2]! := ⟨_, rfl⟩
          obtain ⟨y1, hy1⟩ : ∃ x, x = d[a]! := ⟨_, rfl⟩
          have l1a := S1.out.cl R (by omega) ((i + j) / 2) (by omega)
          have l1b := S1.out.cl R (by omega) (a) (by omega)
          rw [← hx1] at l1a
          rw [← hy1] at l1b
          have hc1 := S1.out.cmp HC.out (by omega) x1 y1
          obtain ⟨nx1, hnx1⟩ : ∃ n : Int, Ik.enc x1 = .int .i64 n := ⟨_, rfl⟩
          obtain ⟨ny1, hny1⟩ : ∃ n : Int, Ik.enc y1 = .int .i64 n := ⟨_, rfl⟩
          rw [hnx1] at l1a hc1
          rw [hny1] at l1b hc1
          clear hnx1 hny1
          have hv1 : mcI x1 y1 < 0 := by rw [hx1, hy1]; exact of_decide_eq_true hL
          have hd1 : decide (mcI x1 y1 < 0) = true := decide_eq_true hv1
          clear hx1 hy1
          generalize mcI x1 y1 = cm1 at hc1 hv1 hd1
          go_wp2_with fail
          refine wp_region_quiet_grown (by assumption) (by kernel_rfl) ?_
          repeat (go_big_quiet_step (first | (go_at_fn g; refine Calls.grown_of (hc1 _ _))))
          refine wpQuiet_nil ?_
          intro _ hw'
          obtain ⟨⟨nq, osq⟩, hw''⟩ := hw'
          subst hw''
          have S2 := Lib.hid (S1.out.grown nq osq)
          clear l1a l1b hc1 S1
          generalize grow (wr.drewN nq) osq = w2 at S2 ⊢
          clear nq osq
          go_wp2_with fail
          go_roundg (j - ((i + j) / 2 + 1))
          case measure => omega
          case rel => exact ⟨(i + j) / 2 + 1, j, by rw [show ((i : Int) + (j : Int)) / 2 + 1 = (((i + j) / 2 + 1 : Nat) : Int) by omega], rfl, by omega, by omega, hjb, Nat.le_refl _, S2, Lib.hid (.inr (by rw [hx.out] at hL; exact hL)), I2⟩
        | false =>
          have ea2 : (((i : Int) + (j : Int)) / 2).toNat = (i + j) / 2 := by omega
          have pa2 : (0 : Int) ≤ ((i : Int) + (j : Int)) / 2 := by omega
          have ba2 : ((i : Int) + (j : Int)) / 2 < (N : Int) := by omega
          have ec2 : ((a : Int)).toNat = a := by omega
          have pc2 : (0 : Int) ≤ (a : Int) := by omega
          have bc2 : (a : Int) < (N : Int) := by omega
          obtain ⟨x2, hx2⟩ : ∃ x, x = d[(i + j) / 2]! := ⟨_, rfl⟩
          obtain ⟨y2, hy2⟩ : ∃ x, x = d[a]! := ⟨_, rfl⟩
          have l2a := S1.out.cl R (by omega) ((i + j) / 2) (by omega)
          have l2b := S1.out.cl R (by omega) (a) (by omega)
          rw [← hx2] at l2a
          rw [← hy2] at l2b
          have hc2 := S1.out.cmp HC.out (by omega) x2 y2
          obtain ⟨nx2, hnx2⟩ : ∃ n : Int, Ik.enc x2 = .int .i64 n := ⟨_, rfl⟩
          obtain ⟨ny2, hny2⟩ : ∃ n : Int, Ik.enc y2 = .int .i64 n := ⟨_, rfl⟩
          rw [hnx2] at l2a hc2
          rw [hny2] at l2b hc2
          clear hnx2 hny2
          have hv2 : ¬ mcI x2 y2 < 0 := by rw [hx2, hy2]; exact of_decide_eq_false hL
          have hd2 : decide (mcI x2 y2 < 0) = false := decide_eq_false hv2
          clear hx2 hy2
          generalize mcI x2 y2 = cm2 at hc2 hv2 hd2
          go_wp2_with fail
          refine wp_region_quiet_grown (by assumption) (by kernel_rfl) ?_
          repeat (go_big_quiet_step (first | (go_at_fn g; refine Calls.grown_of (hc2 _ _))))
          refine wpQuiet_nil ?_
          intro _ hw'
          obtain ⟨⟨nq, osq⟩, hw''⟩ := hw'
          subst hw''
          have S2 := Lib.hid (S1.out.grown nq osq)
          clear l2a l2b hc2 S1
          generalize grow (wr.drewN nq) osq = w2 at S2 ⊢
          clear nq osq
          go_wp2_with fail
          go_roundg ((i + j) / 2 - i)
          case measure => omega
          case rel => exact ⟨i, (i + j) / 2, rfl, by rw [show ((i : Int) + (j : Int)) / 2 = (((i + j) / 2 : Nat) : Int) by omega], hmi, by omega, by omega, Nat.le_refl _, S2, I1, Lib.hid (.inr (by rw [hx.out] at hL; exact hL))⟩
      · obtain rfl : i = j := by omega
        obtain ⟨v1, v2, hvv, hl, hMg⟩ := ML.out i (by have := HMA2.out; omega) (by have := HBV.out; omega) I1.out I2.out
        have HM := Lib.hid hMg
        have HD3 : Hid (MvR X v1 (v2 ++ Y) x 0 d) := Lib.hid ⟨[], v1, rfl, rfl, by rw [HD2.out, hvv]; simp⟩
        have ST := Lib.hid (fun (t : Nat) (dk : Array (Ik K)) (h : MvR X v1 (v2 ++ Y) x t dk) (ht : t < v1.length) => show MvR X v1 (v2 ++ Y) x (t + 1) (swp dk (a + t) (a + t + 1)) by have := h.step ht; rw [← HA.out] at this; exact this)
        clear hMg I1 I2 HD2 ML hvv hx HC hlt hij
        have HI1 := Lib.hid (show a + v1.length + 1 = i by omega)
        clear hl
        go_wp2_with fail
        go_loopg [13] (v1.length) (fun kx s13 wr2 => ∃ (t : Nat) (dk : Array (Ik K)), s13 = .int .i64 ((a + t : Nat) : Int) ∧ t ≤ v1.length ∧ v1.length - t ≤ kx ∧ dk.size = N ∧ Hid (SW Ik.enc w0 blk off dk wr2) ∧ Hid (MvR X v1 (v2 ++ Y) x t dk))
        case atStart => exact ⟨0, d, rfl, Nat.zero_le _, Nat.le_refl _, hs, S1, HD3⟩
        case round =>
          clear S1 HD3
          obtain ⟨t, dk, rfl, htl, hkx2, hds, S1, HS⟩ := hrel
          by_cases hlt2 : t < v1.length
          · have hltz2 : ((a + t : Nat) : Int) < (i : Int) - 1 := by have := HI1.out; omega
            have hatN : a + t + 1 < N := by have := HI1.out; omega
            have ea3 : (((a + t : Nat) : Int)).toNat = a + t := by omega
            have pa3 : (0 : Int) ≤ ((a + t : Nat) : Int) := by omega
            have ba3 : ((a + t : Nat) : Int) < (N : Int) := by omega
            have ra3 : IntKind.i64.wrap (((a + t : Nat) : Int)) = ((a + t : Nat) : Int) := by rw [IntKind.wrap_i64]; omega
            have ec3 : (((a + t : Nat) : Int) + 1).toNat = a + t + 1 := by omega
            have pc3 : (0 : Int) ≤ ((a + t : Nat) : Int) + 1 := by omega
            have bc3 : ((a + t : Nat) : Int) + 1 < (N : Int) := by omega
            have rc3 : IntKind.i64.wrap (((a + t : Nat) : Int) + 1) = ((a + t : Nat) : Int) + 1 := by rw [IntKind.wrap_i64]; omega
            obtain ⟨x3, hx3⟩ : ∃ n : Int, Ik.enc dk[a + t]! = .int .i64 n := ⟨_, rfl⟩
            obtain ⟨y3, hy3⟩ : ∃ n : Int, Ik.enc dk[a + t + 1]! = .int .i64 n := ⟨_, rfl⟩
            have S2 : Hid (SW Ik.enc w0 blk off (swp dk (a + t) (a + t + 1)) ((wr.setCell ⟨blk, off + (a + t), none⟩ (.int .i64 y3)).setCell ⟨blk, off + (a + t + 1), none⟩ (.int .i64 x3)).drew) := Lib.hid (by rw [← hx3, ← hy3]; exact S1.out.swapped R (a + t) (a + t + 1) (by omega) (by omega))
            have c3a := S1.out.c1 R (by omega) (a + t) (by omega)
            have c3b := S1.out.c1 R (by omega) (a + t + 1) (by omega)
            have f3a := S1.out.f1 R (by omega) (a + t) (by omega)
            have f3b := S1.out.f1 R (by omega) (a + t + 1) (by omega)
            obtain ⟨u3, c3c⟩ := S1.out.c2 R (by omega) (a + t) (a + t + 1) (by omega) (by omega) (.int .i64 y3)
            rw [hx3] at c3a
            rw [hy3] at c3b
            clear S1 hx3 hy3
            go_wp2_with fail
            go_big_region_o
            clear c3a c3b c3c f3a f3b
            generalize ((wr.setCell ⟨blk, off + (a + t), none⟩ (.int .i64 y3)).setCell ⟨blk, off + (a + t + 1), none⟩ (.int .i64 x3)).drew = w3 at S2 ⊢
            go_wp2_with fail
            go_roundg (v1.length - (t + 1))
            case measure => omega
            case rel => exact ⟨t + 1, swp dk (a + t) (a + t + 1), by go_num, by omega, Nat.le_refl _, by rw [size_swp]; exact hds, S2, Lib.hid (ST.out t dk HS.out hlt2)⟩
          · have hltz2 : ¬ ((a + t : Nat) : Int) < (i : Int) - 1 := by have := HI1.out; omega
            go_wp2_with fail
            go_end0
            exact ⟨rfl, dk, _, by rw [HS.out.done (by omega)]; simp, HM.out, hds, S1.out⟩
  by_cases h2 : v.length = 1
  · obtain ⟨x, rfl⟩ : ∃ x, v = [x] := by
      match v, h2 with
      | [x], _ => exact ⟨x, rfl⟩
    have hma : ¬ (m : Int) - (a : Int) = 1 := by have := HUB.out; omega
    have hmaB : ((m : Int) - (a : Int) == 1) = false := by simp; omega
    have hbm : (b : Int) - (m : Int) = 1 := by have := HVB.out; simp at this; omega
    have hbmB : ((b : Int) - (m : Int) == 1) = true := by simp; omega
    have hx : Hid (d[m]! = x) := Lib.hid (at_mid (A := X ++ u) (B := Y) (by rw [HD.out]; simp) (by have := HUB.out; have := HA.out; simp; omega))
    have HMU := Lib.hid (show m = a + u.length from HUB.out.symm)
    have ML := Lib.hid (fun (i : Nat) (h1 : X.length ≤ i) (h2 : i ≤ X.length + u.length) hlo hhi => merge_one_right (d := d) (X := X) (Y := Y) (u := u) (x := x) (i := i) (by rw [HD.out]; simp) HU.out h1 h2 hlo hhi)
    have HD2 : Hid (d.toList = X ++ (u ++ x :: Y)) := Lib.hid (by rw [HD.out]; simp)
    rw [← HA.out] at ML
    clear HD h2 hn IH RT hv1
    go_enter Try.func61, Try.ntmps61
    go_wp2_with fail
    go_loopg [14, 15] (m - a) (fun kx s14 s15 wr => ∃ i j : Nat, s14 = .int .i64 i ∧ s15 = .int .i64 j ∧ a ≤ i ∧ i ≤ j ∧ j ≤ m ∧ j - i ≤ kx ∧ Hid (SW Ik.enc w0 blk off d wr) ∧ Hid (i = a ∨ lk x d[i - 1]! = false) ∧ Hid (j = a + u.length ∨ lk x d[j]! = true))
    case atStart => exact ⟨a, m, rfl, rfl, Nat.le_refl _, by omega, Nat.le_refl _, Nat.le_refl _, S0, Lib.hid (.inl rfl), Lib.hid (.inl HMU.out)⟩
    case round =>
      clear S0
      obtain ⟨i, j, rfl, rfl, hmi, hij, hjb, hkx, S1, I1, I2⟩ := hrel
      by_cases hlt : i < j
      · have hltz : (i : Int) < (j : Int) := by omega
        cases hL : lk d[m]! d[(i + j) / 2]! with
        | false =>
          have ea4 : ((m : Int)).toNat = m := by omega
          have pa4 : (0 : Int) ≤ (m : Int) := by omega
          have ba4 : (m : Int) < (N : Int) := by omega
          have ec4 : (((i : Int) + (j : Int)) / 2).toNat = (i + j) / 2 := by omega
          have pc4 : (0 : Int) ≤ ((i : Int) + (j : Int)) / 2 := by omega
          have bc4 : ((i : Int) + (j : Int)) / 2 < (N : Int) := by omega
          obtain ⟨x4, hx4⟩ : ∃ x, x = d[m]! := ⟨_, rfl⟩
          obtain ⟨y4, hy4⟩ : ∃ x, x = d[(i + j) / 2]! := ⟨_, rfl⟩
          have l4a := S1.out.cl R (by omega) (m) (by omega)
          have l4b := S1.out.cl R (by omega) ((i + j) / 2) (by omega)
          rw [← hx4] at l4a
          rw [← hy4] at l4b
          have hc4 := S1.out.cmp HC.out (by omega) x4 y4
          obtain ⟨nx4, hnx4⟩ : ∃ n : Int, Ik.enc x4 = .int .i64 n := ⟨_, rfl⟩
          obtain ⟨ny4, hny4⟩ : ∃ n : Int, Ik.enc y4 = .int .i64 n := ⟨_, rfl⟩
          rw [hnx4] at l4a hc4
          rw [hny4] at l4b hc4
          clear hnx4 hny4
          have hv4 : ¬ mcI x4 y4 < 0 := by rw [hx4, hy4]; exact of_decide_eq_false hL
          have hd4 : decide (mcI x4 y4 < 0) = false := decide_eq_false hv4
          clear hx4 hy4
          generalize mcI x4 y4 = cm4 at hc4 hv4 hd4
          go_wp2_with fail
          refine wp_region_quiet_grown (by assumption) (by kernel_rfl) ?_
          repeat (go_big_quiet_step (first | (go_at_fn g; refine Calls.grown_of (hc4 _ _))))
          refine wpQuiet_nil ?_
          intro _ hw'
          obtain ⟨⟨nq, osq⟩, hw''⟩ := hw'
          subst hw''
          have S2 := Lib.hid (S1.out.grown nq osq)
          clear l4a l4b hc4 S1
          generalize grow (wr.drewN nq) osq = w2 at S2 ⊢
          clear nq osq
          go_wp2_with fail
          go_roundg (j - ((i + j) / 2 + 1))
          case measure => omega
          case rel => exact ⟨(i + j) / 2 + 1, j, by rw [show ((i : Int) + (j : Int)) / 2 + 1 = (((i + j) / 2 + 1 : Nat) : Int) by omega], rfl, by omega, by omega, hjb, Nat.le_refl _, S2, Lib.hid (.inr (by rw [hx.out] at hL; exact hL)), I2⟩
        | true =>
          have ea5 : ((m : Int)).toNat = m := by omega
          have pa5 : (0 : Int) ≤ (m : Int) := by omega
          have ba5 : (m : Int) < (N : Int) := by omega
          have ec5 : (((i : Int) + (j : Int)) / 2).toNat = (i + j) / 2 := by omega
          have pc5 : (0 : Int) ≤ ((i : Int) + (j : Int)) / 2 := by omega
          have bc5 : ((i : Int) + (j : Int)) / 2 < (N : Int) := by omega
          obtain ⟨x5, hx5⟩ : ∃ x, x = d[m]! := ⟨_, rfl⟩
          obtain ⟨y5, hy5⟩ : ∃ x, x = d[(i + j) / 2]! := ⟨_, rfl⟩
          have l5a := S1.out.cl R (by omega) (m) (by omega)
          have l5b := S1.out.cl R (by omega) ((i + j) / 2) (by omega)
          rw [← hx5] at l5a
          rw [← hy5] at l5b
          have hc5 := S1.out.cmp HC.out (by omega) x5 y5
          obtain ⟨nx5, hnx5⟩ : ∃ n : Int, Ik.enc x5 = .int .i64 n := ⟨_, rfl⟩
          obtain ⟨ny5, hny5⟩ : ∃ n : Int, Ik.enc y5 = .int .i64 n := ⟨_, rfl⟩
          rw [hnx5] at l5a hc5
          rw [hny5] at l5b hc5
          clear hnx5 hny5
          have hv5 : mcI x5 y5 < 0 := by rw [hx5, hy5]; exact of_decide_eq_true hL
          have hd5 : decide (mcI x5 y5 < 0) = true := decide_eq_true hv5
          clear hx5 hy5
          generalize mcI x5 y5 = cm5 at hc5 hv5 hd5
          go_wp2_with fail
          refine wp_region_quiet_grown (by assumption) (by kernel_rfl) ?_
          repeat (go_big_quiet_step (first | (go_at_fn g; refine Calls.grown_of (hc5 _ _))))
          refine wpQuiet_nil ?_
          intro _ hw'
          obtain ⟨⟨nq, osq⟩, hw''⟩ := hw'
          subst hw''
          have S2 := Lib.hid (S1.out.grown nq osq)
          clear l5a l5b hc5 S1
          generalize grow (wr.drewN nq) osq = w2 at S2 ⊢
          clear nq osq
          go_wp2_with fail
          go_roundg ((i + j) / 2 - i)
          case measure => omega
          case rel => exact ⟨i, (i + j) / 2, rfl, by rw [show ((i : Int) + (j : Int)) / 2 = (((i + j) / 2 : Nat) : Int) by omega], hmi, by omega, by omega, Nat.le_refl _, S2, I1, Lib.hid (.inr (by rw [hx.out] at hL; exact hL))⟩
      · obtain rfl : i = j := by omega
        obtain ⟨u1, u2, hvv, hl, hMg⟩ := ML.out i (by omega) (by have := HMU.out; omega) I1.out I2.out
        have HM := Lib.hid hMg
        have HD3 : Hid (MvL (X ++ u1) u2 Y x u2.length d) := Lib.hid ⟨u2, [], by simp, rfl, by rw [HD2.out, hvv]; simp⟩
        have hXu : (X ++ u1).length = i := by have := HA.out; simp; omega
        have ST := Lib.hid (fun (t : Nat) (dk : Array (Ik K)) (h : MvL (X ++ u1) u2 Y x (t + 1) dk) => show MvL (X ++ u1) u2 Y x t (swp dk (i + t + 1) (i + t)) by have := h.step; rw [hXu] at this; exact this)
        have HMI := Lib.hid (show m = i + u2.length by have := HMU.out; rw [hvv] at this; simp at this; omega)
        clear hXu hl
        clear hMg I1 I2 HD2 ML hvv hx HC hlt hij
        go_wp2_with fail
        go_loopg [17] (u2.length) (fun kx s17 wr2 => ∃ (t : Nat) (dk : Array (Ik K)), s17 = .int .i64 ((i + t : Nat) : Int) ∧ t ≤ u2.length ∧ t ≤ kx ∧ dk.size = N ∧ Hid (SW Ik.enc w0 blk off dk wr2) ∧ Hid (MvL (X ++ u1) u2 Y x t dk))
        case atStart => exact ⟨u2.length, d, by rw [← HMI.out], Nat.le_refl _, Nat.le_refl _, hs, S1, HD3⟩
        case round =>
          clear S1 HD3
          obtain ⟨t, dk, rfl, htl, hkx2, hds, S1, HS⟩ := hrel
          cases t with
          | succ t =>
            have hltz2 : (i : Int) < ((i + (t + 1) : Nat) : Int) := by omega
            have hitN : i + t + 1 < N := by have := HMI.out; omega
            have ea6 : (((i + (t + 1) : Nat) : Int)).toNat = i + (t + 1) := by omega
            have pa6 : (0 : Int) ≤ ((i + (t + 1) : Nat) : Int) := by omega
            have ba6 : ((i + (t + 1) : Nat) : Int) < (N : Int) := by omega
            have ra6 : IntKind.i64.wrap (((i + (t + 1) : Nat) : Int)) = ((i + (t + 1) : Nat) : Int) := by rw [IntKind.wrap_i64]; omega
            have ec6 : (((i + (t + 1) : Nat) : Int) - 1).toNat = i + t := by omega
            have pc6 : (0 : Int) ≤ ((i + (t + 1) : Nat) : Int) - 1 := by omega
            have bc6 : ((i + (t + 1) : Nat) : Int) - 1 < (N : Int) := by omega
            have rc6 : IntKind.i64.wrap (((i + (t + 1) : Nat) : Int) - 1) = ((i + (t + 1) : Nat) : Int) - 1 := by rw [IntKind.wrap_i64]; omega
            obtain ⟨x6, hx6⟩ : ∃ n : Int, Ik.enc dk[i + (t + 1)]! = .int .i64 n := ⟨_, rfl⟩
            obtain ⟨y6, hy6⟩ : ∃ n : Int, Ik.enc dk[i + t]! = .int .i64 n := ⟨_, rfl⟩
            have S2 : Hid (SW Ik.enc w0 blk off (swp dk (i + (t + 1)) (i + t)) ((wr.setCell ⟨blk, off + (i + (t + 1)), none⟩ (.int .i64 y6)).setCell ⟨blk, off + (i + t), none⟩ (.int .i64 x6)).drew) := Lib.hid (by rw [← hx6, ← hy6]; exact S1.out.swapped R (i + (t + 1)) (i + t) (by omega) (by omega))
            have c6a := S1.out.c1 R (by omega) (i + (t + 1)) (by omega)
            have c6b := S1.out.c1 R (by omega) (i + t) (by omega)
            have f6a := S1.out.f1 R (by omega) (i + (t + 1)) (by omega)
            have f6b := S1.out.f1 R (by omega) (i + t) (by omega)
            obtain ⟨u6, c6c⟩ := S1.out.c2 R (by omega) (i + (t + 1)) (i + t) (by omega) (by omega) (.int .i64 y6)
            rw [hx6] at c6a
            rw [hy6] at c6b
            clear S1 hx6 hy6
            go_wp2_with fail
            go_big_region_o
            clear c6a c6b c6c f6a f6b
            generalize ((wr.setCell ⟨blk, off + (i + (t + 1)), none⟩ (.int .i64 y6)).setCell ⟨blk, off + (i + t), none⟩ (.int .i64 x6)).drew = w3 at S2 ⊢
            go_wp2_with fail
            go_roundg t
            case measure => omega
            case rel => exact ⟨t, swp dk (i + t + 1) (i + t), by go_num, by omega, Nat.le_refl _, by rw [size_swp]; exact hds, S2, Lib.hid (ST.out t dk HS.out)⟩
          | zero =>
            go_wp2_with fail
            go_end0
            exact ⟨rfl, dk, _, by rw [HS.out.done]; simp, HM.out, hds, S1.out⟩
  · have hma : ¬ (m : Int) - (a : Int) = 1 := by have := HUB.out; omega
    have hbm : ¬ (b : Int) - (m : Int) = 1 := by have := HVB.out; omega
    have hmaB : ((m : Int) - (a : Int) == 1) = false := by simp; omega
    have hbmB : ((b : Int) - (m : Int) == 1) = false := by simp; omega
    have hab2 : a + 2 ≤ m := by have := HUB.out; omega
    have hmb3 : m + 2 ≤ b := by have := HVB.out; omega
    obtain ⟨mid, hmid⟩ : ∃ mid, mid = (a + b) / 2 := ⟨_, rfl⟩
    have hmz : ((a : Int) + (b : Int)) / 2 = (mid : Int) := by omega
    have ham2 : a < mid := by omega
    have hmb2 : mid < b := by omega
    obtain ⟨lo, hi, hlohi⟩ : ∃ lo hi, (m > mid ∧ lo = mid + m - b ∧ hi = mid) ∨ (m ≤ mid ∧ lo = a ∧ hi = m) := by
      by_cases h : m > mid
      · exact ⟨_, _, .inl ⟨h, rfl, rfl⟩⟩
      · exact ⟨_, _, .inr ⟨by omega, rfl, rfl⟩⟩
    have MS := Lib.hid (fun (s : Nat) (h1 : lo ≤ s) (h2 : s ≤ hi) hlo hhi => merge_sym (d := d) (X := X) (Y := Y) (u := u) (v := v) (m := m) (b := b) (mid := mid) (s := s) (lo := lo) (hi := hi) HD.out HU.out HV.out HM0.out HVB.out.symm (by omega) (by omega) (by rw [← HA.out]; exact hmid) (by rw [← HA.out]; exact hlohi) h1 h2 hlo hhi)
    have HLH := Lib.hid hlohi
    have HMZ := Lib.hid hmz
    have HMID := Lib.hid hmid
    have hmid2 : 2 * mid ≤ a + b ∧ a + b ≤ 2 * mid + 1 := by omega
    obtain ⟨hmid2, hmid3⟩ := hmid2
    clear hlohi hmz hmid
    go_enter Try.func61, Try.ntmps61
    go_upto_region 24 with fail
    go_cut [18] (fun t wx => wx = w ∧ t = .int .i64 (mid : Int))
    case first =>
      go_wp2_with fail
      go_meet
      exact ⟨rfl, by rw [HMZ.out]⟩
    case rest =>
      obtain ⟨hweq, rfl⟩ := hcut
      have hweq := hweq.symm
      subst hweq
      go_upto_if 140 with fail
      go_cut [20, 21] (fun t20 t21 wx => wx = w ∧ t20 = .int .i64 (lo : Int) ∧ t21 = .int .i64 (hi : Int))
      case first =>
        by_cases hmm : mid < m
        · have hmmz : (mid : Int) < (m : Int) := by omega
          go_wp2_with fail
          go_meet
          have := HLH.out
          refine ⟨rfl, ?_, ?_⟩
          · congr 1; omega
          · congr 1; omega
        · have hmmz : ¬ (mid : Int) < (m : Int) := by omega
          go_wp2_with fail
          go_meet
          have := HLH.out
          refine ⟨rfl, ?_, ?_⟩
          · congr 1; omega
          · congr 1; omega
      case rest =>
        obtain ⟨hweq, rfl, rfl⟩ := hcut
        have hweq := hweq.symm
        subst hweq
        have hlh : lo ≤ hi ∧ a ≤ lo ∧ hi ≤ m ∧ hi ≤ mid ∧ mid + m ≤ lo + b := by have := HLH.out; omega
        obtain ⟨hlh1, hlh2, hlh3, hlh4, hlh5⟩ := hlh
        go_wp2_with fail
        go_loopg [20, 21] (hi - lo) (fun kx s20 s21 wr => ∃ s r : Nat, s20 = .int .i64 s ∧ s21 = .int .i64 r ∧ lo ≤ s ∧ s ≤ r ∧ r ≤ hi ∧ r - s ≤ kx ∧ Hid (SW Ik.enc w0 blk off d wr) ∧ Hid (s = lo ∨ lk d[mid + m - 1 - (s - 1)]! d[s - 1]! = false) ∧ Hid (r = hi ∨ lk d[mid + m - 1 - r]! d[r]! = true))
        case atStart => exact ⟨lo, hi, rfl, rfl, Nat.le_refl _, hlh1, Nat.le_refl _, Nat.le_refl _, S0, Lib.hid (.inl rfl), Lib.hid (.inl rfl)⟩
        case round =>
          clear S0
          obtain ⟨s, r, rfl, rfl, hls, hsr, hrh, hkx, S1, I1, I2⟩ := hrel
          by_cases hlt : s < r
          · have hltz : (s : Int) < (r : Int) := by omega
            clear IH RT MS HD HU HV
            have rr1 : IntKind.i64.wrap ((mid : Int) + (m : Int) - 1 - ((s : Int) + (r : Int)) / 2) = (mid : Int) + (m : Int) - 1 - ((s : Int) + (r : Int)) / 2 := by rw [IntKind.wrap_i64]; omega
            cases hL : lk d[mid + m - 1 - (s + r) / 2]! d[(s + r) / 2]! with
            | false =>
              have ea7 : ((mid : Int) + (m : Int) - 1 - ((s : Int) + (r : Int)) / 2).toNat = mid + m - 1 - (s + r) / 2 := by omega
              have pa7 : (0 : Int) ≤ (mid : Int) + (m : Int) - 1 - ((s : Int) + (r : Int)) / 2 := by omega
              have ba7 : (mid : Int) + (m : Int) - 1 - ((s : Int) + (r : Int)) / 2 < (N : Int) := by omega
              have ec7 : (((s : Int) + (r : Int)) / 2).toNat = (s + r) / 2 := by omega
              have pc7 : (0 : Int) ≤ ((s : Int) + (r : Int)) / 2 := by omega
              have bc7 : ((s : Int) + (r : Int)) / 2 < (N : Int) := by omega
              obtain ⟨x7, hx7⟩ : ∃ x, x = d[mid + m - 1 - (s + r) / 2]! := ⟨_, rfl⟩
              obtain ⟨y7, hy7⟩ : ∃ x, x = d[(s + r) / 2]! := ⟨_, rfl⟩
              have l7a := S1.out.cl R (by omega) (mid + m - 1 - (s + r) / 2) (by omega)
              have l7b := S1.out.cl R (by omega) ((s + r) / 2) (by omega)
              rw [← hx7] at l7a
              rw [← hy7] at l7b
              have hc7 := S1.out.cmp HC.out (by omega) x7 y7
              obtain ⟨nx7, hnx7⟩ : ∃ n : Int, Ik.enc x7 = .int .i64 n := ⟨_, rfl⟩
              obtain ⟨ny7, hny7⟩ : ∃ n : Int, Ik.enc y7 = .int .i64 n := ⟨_, rfl⟩
              rw [hnx7] at l7a hc7
              rw [hny7] at l7b hc7
              clear hnx7 hny7
              have hv7 : ¬ mcI x7 y7 < 0 := by rw [hx7, hy7]; exact of_decide_eq_false hL
              have hd7 : decide (mcI x7 y7 < 0) = false := decide_eq_false hv7
              clear hx7 hy7
              generalize mcI x7 y7 = cm7 at hc7 hv7 hd7
              go_wp2_with fail
              refine wp_region_quiet_grown (by assumption) (by kernel_rfl) ?_
              repeat (go_big_quiet_step (first | (go_at_fn g; refine Calls.grown_of (hc7 _ _))))
              refine wpQuiet_nil ?_
              intro _ hw'
              obtain ⟨⟨nq, osq⟩, hw''⟩ := hw'
              subst hw''
              have S2 := Lib.hid (S1.out.grown nq osq)
              clear l7a l7b hc7 S1
              generalize grow (wr.drewN nq) osq = w2 at S2 ⊢
              clear nq osq
              go_wp2_with fail
              go_roundg (r - ((s + r) / 2 + 1))
              case measure => omega
              case rel => exact ⟨(s + r) / 2 + 1, r, by rw [show ((s : Int) + (r : Int)) / 2 + 1 = (((s + r) / 2 + 1 : Nat) : Int) by omega], rfl, by omega, by omega, hrh, Nat.le_refl _, S2, Lib.hid (.inr hL), I2⟩
            | true =>
              have ea8 : ((mid : Int) + (m : Int) - 1 - ((s : Int) + (r : Int)) / 2).toNat = mid + m - 1 - (s + r) / 2 := by omega
              have pa8 : (0 : Int) ≤ (mid : Int) + (m : Int) - 1 - ((s : Int) + (r : Int)) / 2 := by omega
              have ba8 : (mid : Int) + (m : Int) - 1 - ((s : Int) + (r : Int)) / 2 < (N : Int) := by omega
              have ec8 : (((s : Int) + (r : Int)) / 2).toNat = (s + r) / 2 := by omega
              have pc8 : (0 : Int) ≤ ((s : Int) + (r : Int)) / 2 := by omega
              have bc8 : ((s : Int) + (r : Int)) / 2 < (N : Int) := by omega
              obtain ⟨x8, hx8⟩ : ∃ x, x = d[mid + m - 1 - (s + r) / 2]! := ⟨_, rfl⟩
              obtain ⟨y8, hy8⟩ : ∃ x, x = d[(s + r) / 2]! := ⟨_, rfl⟩
              have l8a := S1.out.cl R (by omega) (mid + m - 1 - (s + r) / 2) (by omega)
              have l8b := S1.out.cl R (by omega) ((s + r) / 2) (by omega)
              rw [← hx8] at l8a
              rw [← hy8] at l8b
              have hc8 := S1.out.cmp HC.out (by omega) x8 y8
              obtain ⟨nx8, hnx8⟩ : ∃ n : Int, Ik.enc x8 = .int .i64 n := ⟨_, rfl⟩
              obtain ⟨ny8, hny8⟩ : ∃ n : Int, Ik.enc y8 = .int .i64 n := ⟨_, rfl⟩
              rw [hnx8] at l8a hc8
              rw [hny8] at l8b hc8
              clear hnx8 hny8
              have hv8 : mcI x8 y8 < 0 := by rw [hx8, hy8]; exact of_decide_eq_true hL
              have hd8 : decide (mcI x8 y8 < 0) = true := decide_eq_true hv8
              clear hx8 hy8
              generalize mcI x8 y8 = cm8 at hc8 hv8 hd8
              go_wp2_with fail
              refine wp_region_quiet_grown (by assumption) (by kernel_rfl) ?_
              repeat (go_big_quiet_step (first | (go_at_fn g; refine Calls.grown_of (hc8 _ _))))
              refine wpQuiet_nil ?_
              intro _ hw'
              obtain ⟨⟨nq, osq⟩, hw''⟩ := hw'
              subst hw''
              have S2 := Lib.hid (S1.out.grown nq osq)
              clear l8a l8b hc8 S1
              generalize grow (wr.drewN nq) osq = w2 at S2 ⊢
              clear nq osq
              go_wp2_with fail
              go_roundg ((s + r) / 2 - s)
              case measure => omega
              case rel => exact ⟨s, (s + r) / 2, rfl, by rw [show ((s : Int) + (r : Int)) / 2 = (((s + r) / 2 : Nat) : Int) by omega], hls, by omega, by omega, Nat.le_refl _, S2, I1, Lib.hid (.inr hL)⟩
          · obtain rfl : s = r := by omega
            obtain ⟨u1, u2, v1, v2, huu, hvv, hl1, hl2, hlt1, hle1⟩ := MS.out s hls (by omega) I1.out I2.out
            subst huu
            subst hvv
            simp only [List.length_append] at hn hu1 hv1 h1 h2
            have hl3 : v1.length + s = mid := by omega
            have hl4 : u2.length + s = m := by have h9 := HUB.out; simp only [List.length_append] at h9; have := HA.out; omega
            have hl5 : mid + m - s + v2.length = b := by have h9 := HVB.out; simp only [List.length_append] at h9; omega
            have hl6 : a + u1.length = s := by have := HA.out; omega
            have HA1 := HA.out
            have HL := Lib.hid (show v1.length + s = mid ∧ u2.length + s = m ∧ mid + m - s + v2.length = b ∧ a + u1.length = s ∧ a = X.length from ⟨hl3, hl4, hl5, hl6, HA.out⟩)
            have hn1 : u1.length + v1.length ≤ n := by omega
            have hn2 : u2.length + v2.length ≤ n := by omega
            clear hl1 hl2 hl3 hl4 hl5 hl6 HA1 hn h1 h2 hu1 hv1
            have HLT := Lib.hid hlt1
            have HLE := Lib.hid hle1
            clear MS I1 I2 hlt1 hle1 HC
            have FIN := Lib.hid (fun (d' : Array (Ik K)) (z1 z2 : List (Ik K)) (W : World) (h1 : Mg u1 v1 z1) (h2 : Mg u2 v2 z2) (hd : d'.toList = X ++ (z1 ++ (z2 ++ Y))) (hs : d'.size = N) (hS : SW Ik.enc w0 blk off d' W) =>
              show MgPost w0 blk off N X (u1 ++ u2) (v1 ++ v2) Y (.returned (.tuple #[])) W from ⟨rfl, d', z1 ++ z2, by rw [hd]; simp, Mg.split h1 h2 HU.out HV.out HLT.out HLE.out, hs, hS⟩)
            have HU1 := Lib.hid HU.out.app_left
            have HU2 := Lib.hid HU.out.app_right
            have HV1 := Lib.hid HV.out.app_left
            have HV2 := Lib.hid HV.out.app_right
            have ez1 : ((mid + m - s : Nat) : Int) = (mid : Int) + (m : Int) - (s : Int) := by omega
            by_cases g11 : s < m
            · by_cases g12 : m < mid + m - s
              · have g11z : (s : Int) < (m : Int) := by omega
                have g12z : (m : Int) < (mid : Int) + (m : Int) - (s : Int) := by omega
                have hc1 := Lib.hid (RT.out (X ++ u1) u2 v1 (v2 ++ Y) d wr hs S1.out (by rw [HD.out]; simp) (by have := HL.out; omega) (by have := HL.out; omega) s m (mid + m - s) (by have := HL.out; simp; omega) (by have := HL.out; simp; omega) (by have := HL.out; simp; omega))
                rw [ez1] at hc1
                go_wp2_with fail
                refine hc1.out.mono ?_
                rintro e w1 ⟨rfl, d1, hd1, hs1, hS1⟩
                have S3 := Lib.hid hS1
                have HD1 : Hid (d1.toList = X ++ (u1 ++ (v1 ++ (u2 ++ (v2 ++ Y))))) := Lib.hid (by rw [hd1]; simp)
                clear hS1 hd1 hc1 RT S1
                by_cases g21 : a < s
                · by_cases g22 : s < mid
                  · have g21z : (a : Int) < (s : Int) := by omega
                    have g22z : (s : Int) < (mid : Int) := by omega
                    have hc2 := Lib.hid (IH.out X u1 v1 (u2 ++ (v2 ++ Y)) d1 w1 hn1 hs1 S3.out HD1.out HU1.out HV1.out (by have := HL.out; omega) (by have := HL.out; omega) a s mid HA.out (by have := HL.out; omega) (by have := HL.out; omega))
                    go_wp2_with fail
                    refine hc2.out.mono ?_
                    rintro e w2 ⟨rfl, d2, z1, hd2, hm2, hs2, hS2⟩
                    have S2 := Lib.hid hS2
                    have HD2 := Lib.hid hd2
                    have M1 := Lib.hid hm2
                    clear hS2 hd2 hm2 hc2 S3
                    by_cases g31 : mid < mid + m - s
                    · by_cases g32 : mid + m - s < b
                      · have g31z : (mid : Int) < (mid : Int) + (m : Int) - (s : Int) := by omega
                        have g32z : (mid : Int) + (m : Int) - (s : Int) < (b : Int) := by omega
                        have hc3 := Lib.hid (IH.out (X ++ z1) u2 v2 Y d2 w2 hn2 hs2 S2.out (by rw [HD2.out]; try simp) HU2.out HV2.out (by have := HL.out; omega) (by have := HL.out; omega) mid (mid + m - s) b (by have := M1.out.len; have := HL.out; simp; omega) (by have := M1.out.len; have := HL.out; simp; omega) (by have := M1.out.len; have := HL.out; simp; omega))
                        rw [ez1] at hc3
                        go_wp2_with fail
                        refine hc3.out.mono ?_
                        rintro e w' ⟨rfl, d3, z2, hd3, hm3, hs3, hS3⟩
                        go_wp2_with fail
                        all_goals go_end0
                        all_goals simpa using FIN.out d3 z1 z2 _ M1.out hm3 (by rw [hd3]; try simp) hs3 hS3
                      · have g31z : (mid : Int) < (mid : Int) + (m : Int) - (s : Int) := by omega
                        have g32z : ¬ (mid : Int) + (m : Int) - (s : Int) < (b : Int) := by omega
                        obtain rfl : v2 = [] := List.eq_nil_of_length_eq_zero (by have := HL.out; omega)
                        go_wp2_with fail
                        all_goals go_end0
                        all_goals simpa using FIN.out d2 z1 u2 _ M1.out (Mg.right HU2.out) (by rw [HD2.out]; try simp) hs2 S2.out
                    · have g31z : ¬ (mid : Int) < (mid : Int) + (m : Int) - (s : Int) := by omega
                      obtain rfl : u2 = [] := List.eq_nil_of_length_eq_zero (by have := HL.out; omega)
                      go_wp2_with fail
                      all_goals go_end0
                      all_goals simpa using FIN.out d2 z1 v2 _ M1.out (Mg.left HV2.out) (by rw [HD2.out]; try simp) hs2 S2.out
                  · have g21z : (a : Int) < (s : Int) := by omega
                    have g22z : ¬ (s : Int) < (mid : Int) := by omega
                    obtain rfl : v1 = [] := List.eq_nil_of_length_eq_zero (by have := HL.out; omega)
                    have HD2 : Hid (d1.toList = X ++ (u1 ++ (u2 ++ (v2 ++ Y)))) := Lib.hid (by rw [HD1.out]; simp)
                    have M1 := Lib.hid (Mg.right HU1.out)
                    by_cases g31 : mid < mid + m - s
                    · by_cases g32 : mid + m - s < b
                      · have g31z : (mid : Int) < (mid : Int) + (m : Int) - (s : Int) := by omega
                        have g32z : (mid : Int) + (m : Int) - (s : Int) < (b : Int) := by omega
                        have hc3 := Lib.hid (IH.out (X ++ u1) u2 v2 Y d1 w1 hn2 hs1 S3.out (by rw [HD2.out]; try simp) HU2.out HV2.out (by have := HL.out; omega) (by have := HL.out; omega) mid (mid + m - s) b (by have := M1.out.len; have := HL.out; simp; omega) (by have := M1.out.len; have := HL.out; simp; omega) (by have := M1.out.len; have := HL.out; simp; omega))
                        rw [ez1] at hc3
                        go_wp2_with fail
                        refine hc3.out.mono ?_
                        rintro e w' ⟨rfl, d3, z2, hd3, hm3, hs3, hS3⟩
                        go_wp2_with fail
                        all_goals go_end0
                        all_goals simpa using FIN.out d3 u1 z2 _ M1.out hm3 (by rw [hd3]; try simp) hs3 hS3
                      · have g31z : (mid : Int) < (mid : Int) + (m : Int) - (s : Int) := by omega
                        have g32z : ¬ (mid : Int) + (m : Int) - (s : Int) < (b : Int) := by omega
                        obtain rfl : v2 = [] := List.eq_nil_of_length_eq_zero (by have := HL.out; omega)
                        go_wp2_with fail
                        all_goals go_end0
                        all_goals simpa using FIN.out d1 u1 u2 _ M1.out (Mg.right HU2.out) (by rw [HD2.out]; try simp) hs1 S3.out
                    · have g31z : ¬ (mid : Int) < (mid : Int) + (m : Int) - (s : Int) := by omega
                      obtain rfl : u2 = [] := List.eq_nil_of_length_eq_zero (by have := HL.out; omega)
                      go_wp2_with fail
                      all_goals go_end0
                      all_goals simpa using FIN.out d1 u1 v2 _ M1.out (Mg.left HV2.out) (by rw [HD2.out]; try simp) hs1 S3.out
                · have g21z : ¬ (a : Int) < (s : Int) := by omega
                  obtain rfl : u1 = [] := List.eq_nil_of_length_eq_zero (by have := HL.out; omega)
                  have HD2 : Hid (d1.toList = X ++ (v1 ++ (u2 ++ (v2 ++ Y)))) := Lib.hid (by rw [HD1.out]; simp)
                  have M1 := Lib.hid (Mg.left HV1.out)
                  by_cases g31 : mid < mid + m - s
                  · by_cases g32 : mid + m - s < b
                    · have g31z : (mid : Int) < (mid : Int) + (m : Int) - (s : Int) := by omega
                      have g32z : (mid : Int) + (m : Int) - (s : Int) < (b : Int) := by omega
                      have hc3 := Lib.hid (IH.out (X ++ v1) u2 v2 Y d1 w1 hn2 hs1 S3.out (by rw [HD2.out]; try simp) HU2.out HV2.out (by have := HL.out; omega) (by have := HL.out; omega) mid (mid + m - s) b (by have := M1.out.len; have := HL.out; simp; omega) (by have := M1.out.len; have := HL.out; simp; omega) (by have := M1.out.len; have := HL.out; simp; omega))
                      rw [ez1] at hc3
                      go_wp2_with fail
                      refine hc3.out.mono ?_
                      rintro e w' ⟨rfl, d3, z2, hd3, hm3, hs3, hS3⟩
                      go_wp2_with fail
                      all_goals go_end0
                      all_goals simpa using FIN.out d3 v1 z2 _ M1.out hm3 (by rw [hd3]; try simp) hs3 hS3
                    · have g31z : (mid : Int) < (mid : Int) + (m : Int) - (s : Int) := by omega
                      have g32z : ¬ (mid : Int) + (m : Int) - (s : Int) < (b : Int) := by omega
                      obtain rfl : v2 = [] := List.eq_nil_of_length_eq_zero (by have := HL.out; omega)
                      go_wp2_with fail
                      all_goals go_end0
                      all_goals simpa using FIN.out d1 v1 u2 _ M1.out (Mg.right HU2.out) (by rw [HD2.out]; try simp) hs1 S3.out
                  · have g31z : ¬ (mid : Int) < (mid : Int) + (m : Int) - (s : Int) := by omega
                    obtain rfl : u2 = [] := List.eq_nil_of_length_eq_zero (by have := HL.out; omega)
                    go_wp2_with fail
                    all_goals go_end0
                    all_goals simpa using FIN.out d1 v1 v2 _ M1.out (Mg.left HV2.out) (by rw [HD2.out]; try simp) hs1 S3.out
              · have g11z : (s : Int) < (m : Int) := by omega
                have g12z : ¬ (m : Int) < (mid : Int) + (m : Int) - (s : Int) := by omega
                have HD1 : Hid (d.toList = X ++ (u1 ++ (v1 ++ (u2 ++ (v2 ++ Y))))) := Lib.hid (by
                  have : v1 = [] := List.eq_nil_of_length_eq_zero (by have := HL.out; omega)
                  rw [HD.out, this]; simp)
                clear RT
                by_cases g21 : a < s
                · by_cases g22 : s < mid
                  · have g21z : (a : Int) < (s : Int) := by omega
                    have g22z : (s : Int) < (mid : Int) := by omega
                    have hc2 := Lib.hid (IH.out X u1 v1 (u2 ++ (v2 ++ Y)) d wr hn1 hs S1.out HD1.out HU1.out HV1.out (by have := HL.out; omega) (by have := HL.out; omega) a s mid HA.out (by have := HL.out; omega) (by have := HL.out; omega))
                    go_wp2_with fail
                    refine hc2.out.mono ?_
                    rintro e w2 ⟨rfl, d2, z1, hd2, hm2, hs2, hS2⟩
                    have S2 := Lib.hid hS2
                    have HD2 := Lib.hid hd2
                    have M1 := Lib.hid hm2
                    clear hS2 hd2 hm2 hc2 S1
                    by_cases g31 : mid < mid + m - s
                    · by_cases g32 : mid + m - s < b
                      · have g31z : (mid : Int) < (mid : Int) + (m : Int) - (s : Int) := by omega
                        have g32z : (mid : Int) + (m : Int) - (s : Int) < (b : Int) := by omega
                        have hc3 := Lib.hid (IH.out (X ++ z1) u2 v2 Y d2 w2 hn2 hs2 S2.out (by rw [HD2.out]; try simp) HU2.out HV2.out (by have := HL.out; omega) (by have := HL.out; omega) mid (mid + m - s) b (by have := M1.out.len; have := HL.out; simp; omega) (by have := M1.out.len; have := HL.out; simp; omega) (by have := M1.out.len; have := HL.out; simp; omega))
                        rw [ez1] at hc3
                        go_wp2_with fail
                        refine hc3.out.mono ?_
                        rintro e w' ⟨rfl, d3, z2, hd3, hm3, hs3, hS3⟩
                        go_wp2_with fail
                        all_goals go_end0
                        all_goals simpa using FIN.out d3 z1 z2 _ M1.out hm3 (by rw [hd3]; try simp) hs3 hS3
                      · have g31z : (mid : Int) < (mid : Int) + (m : Int) - (s : Int) := by omega
                        have g32z : ¬ (mid : Int) + (m : Int) - (s : Int) < (b : Int) := by omega
                        obtain rfl : v2 = [] := List.eq_nil_of_length_eq_zero (by have := HL.out; omega)
                        go_wp2_with fail
                        all_goals go_end0
                        all_goals simpa using FIN.out d2 z1 u2 _ M1.out (Mg.right HU2.out) (by rw [HD2.out]; try simp) hs2 S2.out
                    · have g31z : ¬ (mid : Int) < (mid : Int) + (m : Int) - (s : Int) := by omega
                      obtain rfl : u2 = [] := List.eq_nil_of_length_eq_zero (by have := HL.out; omega)
                      go_wp2_with fail
                      all_goals go_end0
                      all_goals simpa using FIN.out d2 z1 v2 _ M1.out (Mg.left HV2.out) (by rw [HD2.out]; try simp) hs2 S2.out
                  · have g21z : (a : Int) < (s : Int) := by omega
                    have g22z : ¬ (s : Int) < (mid : Int) := by omega
                    obtain rfl : v1 = [] := List.eq_nil_of_length_eq_zero (by have := HL.out; omega)
                    have HD2 : Hid (d.toList = X ++ (u1 ++ (u2 ++ (v2 ++ Y)))) := Lib.hid (by rw [HD1.out]; simp)
                    have M1 := Lib.hid (Mg.right HU1.out)
                    by_cases g31 : mid < mid + m - s
                    · by_cases g32 : mid + m - s < b
                      · have g31z : (mid : Int) < (mid : Int) + (m : Int) - (s : Int) := by omega
                        have g32z : (mid : Int) + (m : Int) - (s : Int) < (b : Int) := by omega
                        have hc3 := Lib.hid (IH.out (X ++ u1) u2 v2 Y d wr hn2 hs S1.out (by rw [HD2.out]; try simp) HU2.out HV2.out (by have := HL.out; omega) (by have := HL.out; omega) mid (mid + m - s) b (by have := M1.out.len; have := HL.out; simp; omega) (by have := M1.out.len; have := HL.out; simp; omega) (by have := M1.out.len; have := HL.out; simp; omega))
                        rw [ez1] at hc3
                        go_wp2_with fail
                        refine hc3.out.mono ?_
                        rintro e w' ⟨rfl, d3, z2, hd3, hm3, hs3, hS3⟩
                        go_wp2_with fail
                        all_goals go_end0
                        all_goals simpa using FIN.out d3 u1 z2 _ M1.out hm3 (by rw [hd3]; try simp) hs3 hS3
                      · have g31z : (mid : Int) < (mid : Int) + (m : Int) - (s : Int) := by omega
                        have g32z : ¬ (mid : Int) + (m : Int) - (s : Int) < (b : Int) := by omega
                        obtain rfl : v2 = [] := List.eq_nil_of_length_eq_zero (by have := HL.out; omega)
                        go_wp2_with fail
                        all_goals go_end0
                        all_goals simpa using FIN.out d u1 u2 _ M1.out (Mg.right HU2.out) (by rw [HD2.out]; try simp) hs S1.out
                    · have g31z : ¬ (mid : Int) < (mid : Int) + (m : Int) - (s : Int) := by omega
                      obtain rfl : u2 = [] := List.eq_nil_of_length_eq_zero (by have := HL.out; omega)
                      go_wp2_with fail
                      all_goals go_end0
                      all_goals simpa using FIN.out d u1 v2 _ M1.out (Mg.left HV2.out) (by rw [HD2.out]; try simp) hs S1.out
                · have g21z : ¬ (a : Int) < (s : Int) := by omega
                  obtain rfl : u1 = [] := List.eq_nil_of_length_eq_zero (by have := HL.out; omega)
                  have HD2 : Hid (d.toList = X ++ (v1 ++ (u2 ++ (v2 ++ Y)))) := Lib.hid (by rw [HD1.out]; simp)
                  have M1 := Lib.hid (Mg.left HV1.out)
                  by_cases g31 : mid < mid + m - s
                  · by_cases g32 : mid + m - s < b
                    · have g31z : (mid : Int) < (mid : Int) + (m : Int) - (s : Int) := by omega
                      have g32z : (mid : Int) + (m : Int) - (s : Int) < (b : Int) := by omega
                      have hc3 := Lib.hid (IH.out (X ++ v1) u2 v2 Y d wr hn2 hs S1.out (by rw [HD2.out]; try simp) HU2.out HV2.out (by have := HL.out; omega) (by have := HL.out; omega) mid (mid + m - s) b (by have := M1.out.len; have := HL.out; simp; omega) (by have := M1.out.len; have := HL.out; simp; omega) (by have := M1.out.len; have := HL.out; simp; omega))
                      rw [ez1] at hc3
                      go_wp2_with fail
                      refine hc3.out.mono ?_
                      rintro e w' ⟨rfl, d3, z2, hd3, hm3, hs3, hS3⟩
                      go_wp2_with fail
                      all_goals go_end0
                      all_goals simpa using FIN.out d3 v1 z2 _ M1.out hm3 (by rw [hd3]; try simp) hs3 hS3
                    · have g31z : (mid : Int) < (mid : Int) + (m : Int) - (s : Int) := by omega
                      have g32z : ¬ (mid : Int) + (m : Int) - (s : Int) < (b : Int) := by omega
                      obtain rfl : v2 = [] := List.eq_nil_of_length_eq_zero (by have := HL.out; omega)
                      go_wp2_with fail
                      all_goals go_end0
                      all_goals simpa using FIN.out d v1 u2 _ M1.out (Mg.right HU2.out) (by rw [HD2.out]; try simp) hs S1.out
                  · have g31z : ¬ (mid : Int) < (mid : Int) + (m : Int) - (s : Int) := by omega
                    obtain rfl : u2 = [] := List.eq_nil_of_length_eq_zero (by have := HL.out; omega)
                    go_wp2_with fail
                    all_goals go_end0
                    all_goals simpa using FIN.out d v1 v2 _ M1.out (Mg.left HV2.out) (by rw [HD2.out]; try simp) hs S1.out
            · have g11z : ¬ (s : Int) < (m : Int) := by omega
              have HD1 : Hid (d.toList = X ++ (u1 ++ (v1 ++ (u2 ++ (v2 ++ Y))))) := Lib.hid (by
                have : u2 = [] := List.eq_nil_of_length_eq_zero (by have := HL.out; omega)
                rw [HD.out, this]; simp)
              clear RT
              by_cases g21 : a < s
              · by_cases g22 : s < mid
                · have g21z : (a : Int) < (s : Int) := by omega
                  have g22z : (s : Int) < (mid : Int) := by omega
                  have hc2 := Lib.hid (IH.out X u1 v1 (u2 ++ (v2 ++ Y)) d wr hn1 hs S1.out HD1.out HU1.out HV1.out (by have := HL.out; omega) (by have := HL.out; omega) a s mid HA.out (by have := HL.out; omega) (by have := HL.out; omega))
                  go_wp2_with fail
                  refine hc2.out.mono ?_
                  rintro e w2 ⟨rfl, d2, z1, hd2, hm2, hs2, hS2⟩
                  have S2 := Lib.hid hS2
                  have HD2 := Lib.hid hd2
                  have M1 := Lib.hid hm2
                  clear hS2 hd2 hm2 hc2 S1
                  by_cases g31 : mid < mid + m - s
                  · by_cases g32 : mid + m - s < b
                    · have g31z : (mid : Int) < (mid : Int) + (m : Int) - (s : Int) := by omega
                      have g32z : (mid : Int) + (m : Int) - (s : Int) < (b : Int) := by omega
                      have hc3 := Lib.hid (IH.out (X ++ z1) u2 v2 Y d2 w2 hn2 hs2 S2.out (by rw [HD2.out]; try simp) HU2.out HV2.out (by have := HL.out; omega) (by have := HL.out; omega) mid (mid + m - s) b (by have := M1.out.len; have := HL.out; simp; omega) (by have := M1.out.len; have := HL.out; simp; omega) (by have := M1.out.len; have := HL.out; simp; omega))
                      rw [ez1] at hc3
                      go_wp2_with fail
                      refine hc3.out.mono ?_
                      rintro e w' ⟨rfl, d3, z2, hd3, hm3, hs3, hS3⟩
                      go_wp2_with fail
                      all_goals go_end0
                      all_goals simpa using FIN.out d3 z1 z2 _ M1.out hm3 (by rw [hd3]; try simp) hs3 hS3
                    · have g31z : (mid : Int) < (mid : Int) + (m : Int) - (s : Int) := by omega
                      have g32z : ¬ (mid : Int) + (m : Int) - (s : Int) < (b : Int) := by omega
                      obtain rfl : v2 = [] := List.eq_nil_of_length_eq_zero (by have := HL.out; omega)
                      go_wp2_with fail
                      all_goals go_end0
                      all_goals simpa using FIN.out d2 z1 u2 _ M1.out (Mg.right HU2.out) (by rw [HD2.out]; try simp) hs2 S2.out
                  · have g31z : ¬ (mid : Int) < (mid : Int) + (m : Int) - (s : Int) := by omega
                    obtain rfl : u2 = [] := List.eq_nil_of_length_eq_zero (by have := HL.out; omega)
                    go_wp2_with fail
                    all_goals go_end0
                    all_goals simpa using FIN.out d2 z1 v2 _ M1.out (Mg.left HV2.out) (by rw [HD2.out]; try simp) hs2 S2.out
                · have g21z : (a : Int) < (s : Int) := by omega
                  have g22z : ¬ (s : Int) < (mid : Int) := by omega
                  obtain rfl : v1 = [] := List.eq_nil_of_length_eq_zero (by have := HL.out; omega)
                  have HD2 : Hid (d.toList = X ++ (u1 ++ (u2 ++ (v2 ++ Y)))) := Lib.hid (by rw [HD1.out]; simp)
                  have M1 := Lib.hid (Mg.right HU1.out)
                  by_cases g31 : mid < mid + m - s
                  · by_cases g32 : mid + m - s < b
                    · have g31z : (mid : Int) < (mid : Int) + (m : Int) - (s : Int) := by omega
                      have g32z : (mid : Int) + (m : Int) - (s : Int) < (b : Int) := by omega
                      have hc3 := Lib.hid (IH.out (X ++ u1) u2 v2 Y d wr hn2 hs S1.out (by rw [HD2.out]; try simp) HU2.out HV2.out (by have := HL.out; omega) (by have := HL.out; omega) mid (mid + m - s) b (by have := M1.out.len; have := HL.out; simp; omega) (by have := M1.out.len; have := HL.out; simp; omega) (by have := M1.out.len; have := HL.out; simp; omega))
                      rw [ez1] at hc3
                      go_wp2_with fail
                      refine hc3.out.mono ?_
                      rintro e w' ⟨rfl, d3, z2, hd3, hm3, hs3, hS3⟩
                      go_wp2_with fail
                      all_goals go_end0
                      all_goals simpa using FIN.out d3 u1 z2 _ M1.out hm3 (by rw [hd3]; try simp) hs3 hS3
                    · have g31z : (mid : Int) < (mid : Int) + (m : Int) - (s : Int) := by omega
                      have g32z : ¬ (mid : Int) + (m : Int) - (s : Int) < (b : Int) := by omega
                      obtain rfl : v2 = [] := List.eq_nil_of_length_eq_zero (by have := HL.out; omega)
                      go_wp2_with fail
                      all_goals go_end0
                      all_goals simpa using FIN.out d u1 u2 _ M1.out (Mg.right HU2.out) (by rw [HD2.out]; try simp) hs S1.out
                  · have g31z : ¬ (mid : Int) < (mid : Int) + (m : Int) - (s : Int) := by omega
                    obtain rfl : u2 = [] := List.eq_nil_of_length_eq_zero (by have := HL.out; omega)
                    go_wp2_with fail
                    all_goals go_end0
                    all_goals simpa using FIN.out d u1 v2 _ M1.out (Mg.left HV2.out) (by rw [HD2.out]; try simp) hs S1.out
              · have g21z : ¬ (a : Int) < (s : Int) := by omega
                obtain rfl : u1 = [] := List.eq_nil_of_length_eq_zero (by have := HL.out; omega)
                have HD2 : Hid (d.toList = X ++ (v1 ++ (u2 ++ (v2 ++ Y)))) := Lib.hid (by rw [HD1.out]; simp)
                have M1 := Lib.hid (Mg.left HV1.out)
                by_cases g31 : mid < mid + m - s
                · by_cases g32 : mid + m - s < b
                  · have g31z : (mid : Int) < (mid : Int) + (m : Int) - (s : Int) := by omega
                    have g32z : (mid : Int) + (m : Int) - (s : Int) < (b : Int) := by omega
                    have hc3 := Lib.hid (IH.out (X ++ v1) u2 v2 Y d wr hn2 hs S1.out (by rw [HD2.out]; try simp) HU2.out HV2.out (by have := HL.out; omega) (by have := HL.out; omega) mid (mid + m - s) b (by have := M1.out.len; have := HL.out; simp; omega) (by have := M1.out.len; have := HL.out; simp; omega) (by have := M1.out.len; have := HL.out; simp; omega))
                    rw [ez1] at hc3
                    go_wp2_with fail
                    refine hc3.out.mono ?_
                    rintro e w' ⟨rfl, d3, z2, hd3, hm3, hs3, hS3⟩
                    go_wp2_with fail
                    all_goals go_end0
                    all_goals simpa using FIN.out d3 v1 z2 _ M1.out hm3 (by rw [hd3]; try simp) hs3 hS3
                  · have g31z : (mid : Int) < (mid : Int) + (m : Int) - (s : Int) := by omega
                    have g32z : ¬ (mid : Int) + (m : Int) - (s : Int) < (b : Int) := by omega
                    obtain rfl : v2 = [] := List.eq_nil_of_length_eq_zero (by have := HL.out; omega)
                    go_wp2_with fail
                    all_goals go_end0
                    all_goals simpa using FIN.out d v1 u2 _ M1.out (Mg.right HU2.out) (by rw [HD2.out]; try simp) hs S1.out
                · have g31z : ¬ (mid : Int) < (mid : Int) + (m : Int) - (s : Int) := by omega
                  obtain rfl : u2 = [] := List.eq_nil_of_length_eq_zero (by have := HL.out; omega)
                  go_wp2_with fail
                  all_goals go_end0
                  all_goals simpa using FIN.out d v1 v2 _ M1.out (Mg.left HV2.out) (by rw [HD2.out]; try simp) hs S1.out
end Go.Proofs.Ytnokmlclephjgaa.Ix

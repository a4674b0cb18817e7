/- slices.BinarySearchFunc at values. -/
import Derived.Test.YtgdnkankleoaoaaGreatDoorA11
import Derived.Deep.LoopGhost
import Derived.Deep.RegionHeld3
import Derived.Deep.QuietTactic
set_option linter.unusedVariables false
set_option linter.unusedSimpArgs false
namespace Go.Proofs.YtgdnkankleoaoaaGreatDoor
open Go.RowKit Go.Shelf Go.Sort
/-- A row of valid values that lies below B. -/
structure Rw (w : World) (B : Nat) (A : Option Addr) (l : List (V × Fv)) : Prop where
  row : FvRow B w A (l.map Prod.snd)
  lies : ∀ p ∈ l, Lies w (· < B) p.1 p.2.cs
  ok : ∀ p ∈ l, valid p.1 = true
  len : l.length ≤ 1000000
theorem Rw.below {w W : World} {B C : Nat} {A : Option Addr} {l : List (V × Fv)} (h : Rw w B A l) (hb : Below C w W) (hB : B ≤ C) : Rw W B A l :=
  ⟨h.row.below hb hB, fun p hp => (h.lies p hp).move fun b hlt => ⟨hlt, hb.block b (Nat.lt_of_lt_of_le hlt hB)⟩, h.ok, h.len⟩
theorem Rw.at {w : World} {B : Nat} {A : Option Addr} {l : List (V × Fv)} (h : Rw w B A l) {j : Nat} {p : V × Fv} (hj : l[j]? = some p) : ∃ b o, A = some ⟨b, o, none⟩ ∧ b < B ∧ FiveAt w b (o + j * 5) p.2 :=
  h.row j p.2 (by rw [List.getElem?_map, hj]; rfl)
theorem cmp_ok {p q : V} {cp cq : List Value} {W : World} (hp : Lies W (· < W.heap.size) p cp) (hq : Lies W (· < W.heap.size) q cq) (vp : valid p = true) (vq : valid q = true) :
    Calls Tryz.prog 101 #[.agg cp.toArray, .agg cq.toArray] W fun e w' => e = .returned (.int .i64 (vcmp p q)) ∧ Below W.heap.size W w' := by
  refine (Dr.cmp_any p q cp cq W hp hq).mono ?_
  rintro e w' ⟨rfl, hb⟩
  refine ⟨?_, hb.b⟩
  unfold Dr.cmpV
  rw [if_pos vp, if_pos vq]
theorem srt_le {l : List (V × Fv)} (hs : l.Pairwise (fun a b => vcmp a.1 b.1 ≤ 0)) {i j : Nat} {p q : V × Fv} (hij : i < j) (hi : l[i]? = some p) (hj : l[j]? = some q) : vcmp p.1 q.1 ≤ 0 := by
  obtain ⟨h1, rfl⟩ := List.getElem?_eq_some_iff.1 hi
  obtain ⟨h2, rfl⟩ := List.getElem?_eq_some_iff.1 hj
  exact List.pairwise_iff_getElem.1 hs i j h1 h2 hij
theorem srt_mono {l : List (V × Fv)} (hs : l.Pairwise (fun a b => vcmp a.1 b.1 ≤ 0)) {t : V} {i j : Nat} {p q : V × Fv} (hij : i ≤ j) (hi : l[i]? = some p) (hj : l[j]? = some q) (h : vcmp q.1 t < 0) : vcmp p.1 t < 0 := by
  rcases Nat.lt_or_ge i j with hlt | hge
  · exact (vcmp_tr p.1 q.1 t).2.1 (srt_le hs hlt hi hj) (by omega) (Or.inr h)
  · obtain rfl : i = j := by omega
    rw [hi] at hj; injection hj with hj; subst hj; exact h
theorem any_found {l : List (V × Fv)} {t : V} {lo : Nat} (hs : l.Pairwise (fun a b => vcmp a.1 b.1 ≤ 0)) (h1 : ∀ j p, j < lo → l[j]? = some p → vcmp p.1 t < 0) (h2 : ∀ j p, lo ≤ j → l[j]? = some p → ¬ vcmp p.1 t < 0) {b : Bool}
    (hb : b = true ↔ ∃ p, l[lo]? = some p ∧ vcmp p.1 t = 0) : (l.any fun p => decide (vcmp p.1 t = 0)) = b := by
  rw [Bool.eq_iff_iff, hb, List.any_eq_true]
  constructor
  · rintro ⟨p, hp, h⟩
    have h := of_decide_eq_true h
    obtain ⟨j, hj⟩ := List.getElem?_of_mem hp
    rcases Nat.lt_or_ge j lo with h3 | h3
    · have := h1 j p h3 hj; omega
    · rcases Nat.lt_or_ge lo j with h4 | h4
      · have h5 : lo < l.length := by have := (List.getElem?_eq_some_iff.1 hj).1; omega
        refine ⟨_, List.getElem?_eq_getElem h5, ?_⟩
        have a1 := srt_le hs h4 (List.getElem?_eq_getElem h5) hj
        have a2 := h2 lo _ (Nat.le_refl _) (List.getElem?_eq_getElem h5)
        have a3 := (vcmp_tr _ p.1 t).1 a1 (by omega)
        omega
      · obtain rfl : j = lo := by omega
        exact ⟨p, hj, h⟩
  · rintro ⟨p, hp, h⟩
    exact ⟨p, List.mem_of_getElem? hp, decide_eq_true h⟩
set_option maxHeartbeats 4000000 in
set_option maxRecDepth 100000 in
theorem bsf_any (A : Option Addr) (cap : Nat) (l : List (V × Fv)) (t : V) (tk tn : Int) (ts : ByteArray) (tA : Option Addr) (tla ta : Nat) (tC : Option Addr) (tlc tc : Nat) (w : World) (hR : Rw w w.heap.size A l) (hsrt : l.Pairwise (fun a b => vcmp a.1 b.1 ≤ 0))
    (ht : Lies w (· < w.heap.size) t [.int .i64 tk, .int .i64 tn, .string ts, .slice tA tla ta, .slice tC tlc tc]) (hok : valid t = true) :
    Calls Tryz.prog 243 #[.slice A l.length cap, .agg #[.int .i64 tk, .int .i64 tn, .string ts, .slice tA tla ta, .slice tC tlc tc], .func (.func 101) #[] #[]] w fun e w' =>
      (∃ i : Int, e = .returned (.tuple #[.int .i64 i, .bool (l.any fun p => decide (vcmp p.1 t = 0))])) ∧ Below w.heap.size w w' := by
  have hlen := hR.len
  have HR : Hid (Rw w w.heap.size A l) := Lib.hid hR
  have HS := Lib.hid hsrt
  have HT := Lib.hid ht
  clear hR hsrt ht
  go_enter Tryz.func243, Tryz.ntmps243
  go_wp2_with fail
  obtain ⟨w1, hw1⟩ : ∃ X, X = w.alloc (.cells #[.int .i64 tk, .int .i64 tn, .string ts, .slice tA tla ta, .slice tC tlc tc] 25) := ⟨_, rfl⟩
  have HW : Hid (Below w.heap.size w w1 ∧ Box w1 w.heap.size 25 #[.int .i64 tk, .int .i64 tn, .string ts, .slice tA tla ta, .slice tC tlc tc]) := Lib.hid (by rw [hw1]; exact ⟨(Go.RowKit.Below.refl _ w).alloc (Nat.le_refl _) _, Box.laid _ _ _⟩)
  rw [← hw1]
  clear hw1
  go_loopg [9, 10] l.length (fun kx s9 s10 wr => ∃ lo hi : Nat, s9 = .int .i64 lo ∧ s10 = .int .i64 hi ∧ lo ≤ hi ∧ hi ≤ l.length ∧ hi - lo ≤ kx ∧ Hid (Below w1.heap.size w1 wr) ∧
    Hid ((∀ j p, j < lo → l[j]? = some p → vcmp p.1 t < 0) ∧ (∀ j p, hi ≤ j → l[j]? = some p → ¬ vcmp p.1 t < 0)))
  case atStart => exact ⟨0, l.length, rfl, rfl, Nat.zero_le _, Nat.le_refl _, by omega, Lib.hid (Below.refl _ _), Lib.hid ⟨fun j p h => absurd h (Nat.not_lt_zero _), fun j p h1 h2 => by rw [List.getElem?_eq_none h1] at h2; cases h2⟩⟩
  case round =>
    obtain ⟨lo, hi, rfl, rfl, hlh, hin, hg, HB, HI⟩ := hrel
    have HBW : Hid (Below w.heap.size w wr) := Lib.hid (HW.out.1.trans (HB.out.mono HW.out.1.size))
    by_cases hlt : lo < hi
    · obtain ⟨m, hm⟩ : ∃ m, (lo + hi) / 2 = m := ⟨_, rfl⟩
      have hm1 : m < l.length := by omega
      have hmi : ((lo : Int) + (hi : Int)) / 2 = (m : Int) := by omega
      obtain ⟨⟨pv, xk, xn, xs, xA, xla, xa, xC, xlc, xc⟩, hp⟩ : ∃ p, l[m]? = some p := ⟨_, List.getElem?_eq_getElem hm1⟩
      have HP := Lib.hid hp
      obtain ⟨b, o, rfl, hb, hf⟩ := (HR.out.below HBW.out (Nat.le_refl _)).at hp
      obtain ⟨f0, f1, f2, f3, f4⟩ := hf
      simp only at f0 f1 f2 f3 f4
      have hlt2 : (lo : Int) < (hi : Int) := by omega
      have keepS : Hid (∀ X, Below wr.heap.size wr X → (fun w' => w'.cell? ⟨b, o + m * 5, none⟩ = some (.int .i64 xk) ∧ w'.cell? ⟨b, o + m * 5 + 1, none⟩ = some (.int .i64 xn) ∧ w'.cell? ⟨b, o + m * 5 + 2, none⟩ = some (.string xs) ∧ w'.cell? ⟨b, o + m * 5 + 3, none⟩ = some (.slice xA xla xa) ∧ w'.cell? ⟨b, o + m * 5 + 4, none⟩ = some (.slice xC xlc xc) ∧ w'.cell? ⟨w.heap.size, 0, none⟩ = some (.int .i64 tk) ∧ w'.cell? ⟨w.heap.size, 1, none⟩ = some (.int .i64 tn) ∧ w'.cell? ⟨w.heap.size, 2, none⟩ = some (.string ts) ∧ w'.cell? ⟨w.heap.size, 3, none⟩ = some (.slice tA tla ta) ∧ w'.cell? ⟨w.heap.size, 4, none⟩ = some (.slice tC tlc tc)) X) := Lib.hid fun X hX => by
        obtain ⟨b', o', e', hb', g0, g1, g2, g3, g4⟩ := (HR.out.below (HBW.out.trans (hX.mono HBW.out.size)) (Nat.le_refl _)).at HP.out
        injection e' with e'
        injection e' with e1 e2
        subst e1 e2
        obtain ⟨u0, u1, u2, u3, u4⟩ := box5 ((HW.out.2.below HB.out HW.out.2.lt).below hX (Nat.lt_of_lt_of_le HW.out.2.lt HB.out.size))
        exact ⟨g0, g1, g2, g3, g4, u0, u1, u2, u3, u4⟩
      have HC : Hid (∀ X, Below wr.heap.size wr X → Calls Tryz.prog 101 #[.agg #[.int .i64 xk, .int .i64 xn, .string xs, .slice xA xla xa, .slice xC xlc xc], .agg #[.int .i64 tk, .int .i64 tn, .string ts, .slice tA tla ta, .slice tC tlc tc]] X fun e w' => e = .returned (.int .i64 (vcmp pv t)) ∧ Below X.heap.size X w') := Lib.hid fun X hX => by
        have hbx := HBW.out.trans (hX.mono HBW.out.size)
        exact cmp_ok (((HR.out.below hbx (Nat.le_refl _)).lies _ (List.mem_of_getElem? HP.out)).move fun b hb => ⟨Nat.lt_of_lt_of_le hb hbx.size, rfl⟩) (HT.out.move fun b hb => ⟨Nat.lt_of_lt_of_le hb hbx.size, hbx.block b hb⟩) (HR.out.ok _ (List.mem_of_getElem? HP.out)) hok
      obtain ⟨t0, t1, t2, t3, t4⟩ := box5 (HW.out.2.below HB.out HW.out.2.lt)
      have hm0 : (0 : Int) ≤ (m : Int) := by omega
      have hml : (m : Int) < (l.length : Int) := by omega
      obtain ⟨c, hc⟩ : ∃ c, vcmp pv t = c := ⟨_, rfl⟩
      have HCC := Lib.hid hc
      rw [hc] at HC
      clear hc hp hb
      by_cases hcc : c < 0
      · go_wp2_with fail
        go_region_held3 (fun w' => w'.cell? ⟨b, o + m * 5, none⟩ = some (.int .i64 xk) ∧ w'.cell? ⟨b, o + m * 5 + 1, none⟩ = some (.int .i64 xn) ∧ w'.cell? ⟨b, o + m * 5 + 2, none⟩ = some (.string xs) ∧ w'.cell? ⟨b, o + m * 5 + 3, none⟩ = some (.slice xA xla xa) ∧ w'.cell? ⟨b, o + m * 5 + 4, none⟩ = some (.slice xC xlc xc) ∧ w'.cell? ⟨w.heap.size, 0, none⟩ = some (.int .i64 tk) ∧ w'.cell? ⟨w.heap.size, 1, none⟩ = some (.int .i64 tn) ∧ w'.cell? ⟨w.heap.size, 2, none⟩ = some (.string ts) ∧ w'.cell? ⟨w.heap.size, 3, none⟩ = some (.slice tA tla ta) ∧ w'.cell? ⟨w.heap.size, 4, none⟩ = some (.slice tC tlc tc)) (first | with_reducible exact keepS.out _ (Below.drew (Below.refl _ _)) | with_reducible exact keepS.out _ hb4) ((go_at_call 101; (with_reducible refine (HC.out _ (Below.drew (Below.refl _ _))).mono ?_); rintro e4 w4 ⟨rfl, hb4'⟩; have hb4 : Below wr.heap.size wr w4 := (Below.drew (Below.refl _ wr)).trans hb4'))
        all_goals
          go_wp2_with fail
          go_roundg (hi - (m + 1))
          case measure => omega
          case rel =>
            refine ⟨m + 1, hi, by first | rfl | go_num, rfl, by omega, hin, Nat.le_refl _, Lib.hid (HB.out.trans (hb4.mono HB.out.size)), Lib.hid ⟨fun j p hj hp => ?_, HI.out.2⟩⟩
            exact srt_mono HS.out (by omega) hp HP.out (by rw [HCC.out]; exact hcc)
      · go_wp2_with fail
        go_region_held3 (fun w' => w'.cell? ⟨b, o + m * 5, none⟩ = some (.int .i64 xk) ∧ w'.cell? ⟨b, o + m * 5 + 1, none⟩ = some (.int .i64 xn) ∧ w'.cell? ⟨b, o + m * 5 + 2, none⟩ = some (.string xs) ∧ w'.cell? ⟨b, o + m * 5 + 3, none⟩ = some (.slice xA xla xa) ∧ w'.cell? ⟨b, o + m * 5 + 4, none⟩ = some (.slice xC xlc xc) ∧ w'.cell? ⟨w.heap.size, 0, none⟩ = some (.int .i64 tk) ∧ w'.cell? ⟨w.heap.size, 1, none⟩ = some (.int .i64 tn) ∧ w'.cell? ⟨w.heap.size, 2, none⟩ = some (.string ts) ∧ w'.cell? ⟨w.heap.size, 3, none⟩ = some (.slice tA tla ta) ∧ w'.cell? ⟨w.heap.size, 4, none⟩ = some (.slice tC tlc tc)) (first | with_reducible exact keepS.out _ (Below.drew (Below.refl _ _)) | with_reducible exact keepS.out _ hb4) ((go_at_call 101; (with_reducible refine (HC.out _ (Below.drew (Below.refl _ _))).mono ?_); rintro e4 w4 ⟨rfl, hb4'⟩; have hb4 : Below wr.heap.size wr w4 := (Below.drew (Below.refl _ wr)).trans hb4'))
        all_goals
          go_wp2_with fail
          go_roundg (m - lo)
          case measure => omega
          case rel =>
            refine ⟨lo, m, rfl, by first | rfl | go_num, by omega, by omega, Nat.le_refl _, Lib.hid (HB.out.trans (hb4.mono HB.out.size)), Lib.hid ⟨HI.out.1, fun j p hj hp => ?_⟩⟩
            refine Int.not_lt.1 fun hl => ?_
            have := srt_mono HS.out hj HP.out hp hl
            rw [HCC.out] at this
            omega
    · obtain rfl : hi = lo := by omega
      have hlt2 : ¬ ((hi : Int) < (hi : Int)) := by omega
      by_cases hn : hi < l.length
      · obtain ⟨⟨pv, xk, xn, xs, xA, xla, xa, xC, xlc, xc⟩, hp⟩ : ∃ p, l[hi]? = some p := ⟨_, List.getElem?_eq_getElem hn⟩
        have HP := Lib.hid hp
        obtain ⟨b, o, rfl, hb, hf⟩ := (HR.out.below HBW.out (Nat.le_refl _)).at hp
        obtain ⟨f0, f1, f2, f3, f4⟩ := hf
        simp only at f0 f1 f2 f3 f4
        have keepS : Hid (∀ X, Below wr.heap.size wr X → (fun w' => w'.cell? ⟨b, o + hi * 5, none⟩ = some (.int .i64 xk) ∧ w'.cell? ⟨b, o + hi * 5 + 1, none⟩ = some (.int .i64 xn) ∧ w'.cell? ⟨b, o + hi * 5 + 2, none⟩ = some (.string xs) ∧ w'.cell? ⟨b, o + hi * 5 + 3, none⟩ = some (.slice xA xla xa) ∧ w'.cell? ⟨b, o + hi * 5 + 4, none⟩ = some (.slice xC xlc xc) ∧ w'.cell? ⟨w.heap.size, 0, none⟩ = some (.int .i64 tk) ∧ w'.cell? ⟨w.heap.size, 1, none⟩ = some (.int .i64 tn) ∧ w'.cell? ⟨w.heap.size, 2, none⟩ = some (.string ts) ∧ w'.cell? ⟨w.heap.size, 3, none⟩ = some (.slice tA tla ta) ∧ w'.cell? ⟨w.heap.size, 4, none⟩ = some (.slice tC tlc tc)) X) := Lib.hid fun X hX => by
          obtain ⟨b', o', e', hb', g0, g1, g2, g3, g4⟩ := (HR.out.below (HBW.out.trans (hX.mono HBW.out.size)) (Nat.le_refl _)).at HP.out
          injection e' with e'
          injection e' with e1 e2
          subst e1 e2
          obtain ⟨u0, u1, u2, u3, u4⟩ := box5 ((HW.out.2.below HB.out HW.out.2.lt).below hX (Nat.lt_of_lt_of_le HW.out.2.lt HB.out.size))
          exact ⟨g0, g1, g2, g3, g4, u0, u1, u2, u3, u4⟩
        have HC : Hid (∀ X, Below wr.heap.size wr X → Calls Tryz.prog 101 #[.agg #[.int .i64 xk, .int .i64 xn, .string xs, .slice xA xla xa, .slice xC xlc xc], .agg #[.int .i64 tk, .int .i64 tn, .string ts, .slice tA tla ta, .slice tC tlc tc]] X fun e w' => e = .returned (.int .i64 (vcmp pv t)) ∧ Below X.heap.size X w') := Lib.hid fun X hX => by
          have hbx := HBW.out.trans (hX.mono HBW.out.size)
          exact cmp_ok (((HR.out.below hbx (Nat.le_refl _)).lies _ (List.mem_of_getElem? HP.out)).move fun b hb => ⟨Nat.lt_of_lt_of_le hb hbx.size, rfl⟩) (HT.out.move fun b hb => ⟨Nat.lt_of_lt_of_le hb hbx.size, hbx.block b hb⟩) (HR.out.ok _ (List.mem_of_getElem? HP.out)) hok
        obtain ⟨t0, t1, t2, t3, t4⟩ := box5 (HW.out.2.below HB.out HW.out.2.lt)
        have hm0 : (0 : Int) ≤ (hi : Int) := by omega
        have hml : (hi : Int) < (l.length : Int) := by omega
        obtain ⟨c, hc⟩ : ∃ c, vcmp pv t = c := ⟨_, rfl⟩
        have hfin : (l.any fun p => decide (vcmp p.1 t = 0)) = decide (c = 0) := any_found HS.out HI.out.1 HI.out.2 (by
          rw [decide_eq_true_iff, ← hc]
          exact ⟨fun h => ⟨_, hp, h⟩, fun ⟨p, h1, h2⟩ => by rw [hp] at h1; injection h1 with h1; subst h1; exact h2⟩)
        have HF := Lib.hid hfin
        rw [hc] at HC
        clear hc hp hb hfin
        go_wp2_with fail
        go_region_held3 (fun w' => w'.cell? ⟨b, o + hi * 5, none⟩ = some (.int .i64 xk) ∧ w'.cell? ⟨b, o + hi * 5 + 1, none⟩ = some (.int .i64 xn) ∧ w'.cell? ⟨b, o + hi * 5 + 2, none⟩ = some (.string xs) ∧ w'.cell? ⟨b, o + hi * 5 + 3, none⟩ = some (.slice xA xla xa) ∧ w'.cell? ⟨b, o + hi * 5 + 4, none⟩ = some (.slice xC xlc xc) ∧ w'.cell? ⟨w.heap.size, 0, none⟩ = some (.int .i64 tk) ∧ w'.cell? ⟨w.heap.size, 1, none⟩ = some (.int .i64 tn) ∧ w'.cell? ⟨w.heap.size, 2, none⟩ = some (.string ts) ∧ w'.cell? ⟨w.heap.size, 3, none⟩ = some (.slice tA tla ta) ∧ w'.cell? ⟨w.heap.size, 4, none⟩ = some (.slice tC tlc tc)) (first | with_reducible exact keepS.out _ (Below.drew (Below.refl _ _)) | with_reducible exact keepS.out _ hb4) ((go_at_call 101; (with_reducible refine (HC.out _ (Below.drew (Below.refl _ _))).mono ?_); rintro e4 w4 ⟨rfl, hb4'⟩; have hb4 : Below wr.heap.size wr w4 := (Below.drew (Below.refl _ wr)).trans hb4'))
        all_goals
          go_wp2_with fail
          go_ret2
          exact ⟨⟨hi, by rw [HF.out]; rfl⟩, HBW.out.trans (hb4.mono HBW.out.size)⟩
      · have hml : ¬ ((hi : Int) < (l.length : Int)) := by omega
        have hfin : (l.any fun p => decide (vcmp p.1 t = 0)) = false := any_found HS.out HI.out.1 HI.out.2 (by
          constructor
          · intro h; cases h
          · rintro ⟨p, h1, _⟩; rw [List.getElem?_eq_none (by omega)] at h1; cases h1)
        have HF := Lib.hid hfin
        clear hfin
        go_wp2_with fail
        go_quiet (fail)
        go_wp2_with fail
        go_ret2
        exact ⟨⟨hi, by rw [HF.out]; rfl⟩, ⟨HBW.out.os, HBW.out.tape, HBW.out.output, HBW.out.size, HBW.out.block⟩⟩
end Go.Proofs.YtgdnkankleoaoaaGreatDoor

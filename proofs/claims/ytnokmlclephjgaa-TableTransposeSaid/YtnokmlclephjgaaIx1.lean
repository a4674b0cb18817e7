/- slices.swapRangeCmpFunc and rotateCmpFunc at int, the indexes into a list of keys. -/
import Derived.Shelf.SlSortCmp.Kit1
import Derived.Sort.WalkB2
import Derived.Sort.WalkB12
import Derived.Deep.LoopGhost
import Derived.Test.YtnokmlclephjgaaIX
import Derived.Test.YtnokmlclephjgaaRows
import Derived.Lib.Hide
set_option linter.unusedVariables false
set_option linter.unusedSimpArgs false
set_option linter.unusedSectionVars false
namespace Go.Proofs.Ytnokmlclephjgaa.Ix
open Go.Shelf Go.RowKit Go.Lib Go.Sort Go.Proofs.Ytnokmlclephjgaa
def Ik.enc {K : List V} (x : Ik K) : Value := .int .i64 x.1
/-- How far two stretches have changed places. -/
def SwSt {α : Type} (X p Q q Y : List α) (i : Nat) (d : Array α) : Prop :=
  ∃ p1 p2 q1 q2, p = p1 ++ p2 ∧ q = q1 ++ q2 ∧ p1.length = i ∧ q1.length = i ∧ d.toList = X ++ (q1 ++ (p2 ++ (Q ++ (p1 ++ (q2 ++ Y)))))
theorem SwSt.start {α : Type} {X p Q q Y : List α} {d : Array α} (h : d.toList = X ++ (p ++ (Q ++ (q ++ Y)))) : SwSt X p Q q Y 0 d := ⟨[], p, [], q, rfl, rfl, rfl, rfl, by simpa using h⟩
theorem SwSt.step {α : Type} [Inhabited α] {X p Q q Y : List α} {i n : Nat} {d : Array α} (h : SwSt X p Q q Y i d) (hp : p.length = n) (hq : q.length = n) (hi : i < n) : SwSt X p Q q Y (i + 1) (swp d (X.length + i) (X.length + n + Q.length + i)) := by
  obtain ⟨p1, p2, q1, q2, rfl, rfl, h1, h2, h⟩ := h
  simp only [List.length_append] at hp hq
  cases p2 with
  | nil => simp at hp; omega
  | cons x r =>
    cases q2 with
    | nil => simp at hq; omega
    | cons y s =>
      simp only [List.length_cons] at hp hq
      refine ⟨p1 ++ [x], r, q1 ++ [y], s, by simp, by simp, by simp [h1], by simp [h2], ?_⟩
      rw [swp_far (A := X ++ q1) (M := r ++ (Q ++ p1)) (B := s ++ Y) (x := x) (y := y) (by rw [h]; simp) (by simp; omega) (by simp; omega)]
      simp
theorem SwSt.done {α : Type} {X p Q q Y : List α} {i : Nat} {d : Array α} (h : SwSt X p Q q Y i d) (hp : p.length ≤ i) (hq : q.length ≤ i) : d.toList = X ++ (q ++ (Q ++ (p ++ Y))) := by
  obtain ⟨p1, p2, q1, q2, rfl, rfl, h1, h2, h⟩ := h
  simp only [List.length_append] at hp hq
  obtain rfl : p2 = [] := List.eq_nil_of_length_eq_zero (by omega)
  obtain rfl : q2 = [] := List.eq_nil_of_length_eq_zero (by omega)
  simpa using h
set_option maxHeartbeats 4000000 in
set_option maxRecDepth 1000000 in
theorem swapRange_any {K : List V} [Inhabited (Ik K)] (g : Nat) (cb : Array Value) (blk off cap n : Nat) (X p Q q Y : List (Ik K)) (d0 d : Array (Ik K)) (w0 w : World)
    (R : Row1 Ik.enc w0 blk off d0) (hs : d0.size = d.size) (S : SW Ik.enc w0 blk off d w) (hd : d.toList = X ++ (p ++ (Q ++ (q ++ Y)))) (hp : p.length = n) (hq : q.length = n) (hsz : d.size < 4611686018427387904) (a b : Nat) (ha : a = X.length) (hb : b = X.length + n + Q.length) :
    Calls Try.prog 69 #[.slice (some ⟨blk, off, none⟩) d.size cap, .int .i64 a, .int .i64 b, .int .i64 n, .func (.func g) #[] cb] w fun e w' => e = .returned (.tuple #[]) ∧ ∃ d' : Array (Ik K), d'.toList = X ++ (q ++ (Q ++ (p ++ Y))) ∧ d'.size = d.size ∧ SW Ik.enc w0 blk off d' w' := by
  have mixed : Try.prog.follows .mixedOrders = true := by kernel_rfl
  have hbd : b + n ≤ d.size := by
    rw [← Array.length_toList, hd]
    simp
    omega
  have hab : a + n ≤ b := by omega
  have S0 : Aside (SW Ik.enc w0 blk off d w) := S
  have HD : Aside (SwSt X p Q q Y 0 d) := SwSt.start hd
  have ST : Aside (∀ (i : Nat) (dk : Array (Ik K)), SwSt X p Q q Y i dk → i < n → SwSt X p Q q Y (i + 1) (swp dk (a + i) (b + i))) := fun i dk h hi => by
    have := h.step hp hq hi
    rw [ha, hb]
    exact this
  have DN : Aside (∀ (i : Nat) (dk : Array (Ik K)), SwSt X p Q q Y i dk → n ≤ i → dk.toList = X ++ (q ++ (Q ++ (p ++ Y)))) := fun i dk h hi => h.done (by omega) (by omega)
  clear S hd hp hq ha hb
  go_enter Try.func69, Try.ntmps69
  go_wp2
  go_loopg [10] n (fun kx s10 wr => ∃ (i : Nat) (dk : Array (Ik K)), s10 = .int .i64 i ∧ i ≤ n ∧ n - i ≤ kx ∧ dk.size = d.size ∧ Aside (SW Ik.enc w0 blk off dk wr) ∧ Aside (SwSt X p Q q Y i dk))
  case atStart => exact ⟨0, d, rfl, Nat.zero_le _, Nat.le_refl _, rfl, S0, HD⟩
  case round =>
    clear S0 HD
    obtain ⟨i, dk, rfl, hin, hkx, hds, S1, HS⟩ := hrel
    by_cases hlt : i < n
    · have hltz : (i : Int) < (n : Int) := by omega
      have ea44 : ((a : Int) + (i : Int)).toNat = a + i := by omega
      have pa44 : (0 : Int) ≤ (a : Int) + (i : Int) := by omega
      have ba44 : (a : Int) + (i : Int) < (d.size : Int) := by omega
      have ra44 : IntKind.i64.wrap ((a : Int) + (i : Int)) = (a : Int) + (i : Int) := by rw [IntKind.wrap_i64]; omega
      have ec44 : ((b : Int) + (i : Int)).toNat = b + i := by omega
      have pc44 : (0 : Int) ≤ (b : Int) + (i : Int) := by omega
      have bc44 : (b : Int) + (i : Int) < (d.size : Int) := by omega
      have rc44 : IntKind.i64.wrap ((b : Int) + (i : Int)) = (b : Int) + (i : Int) := by rw [IntKind.wrap_i64]; omega
      obtain ⟨x44, hx44⟩ : ∃ n : Int, Ik.enc dk[a + i]! = .int .i64 n := ⟨_, rfl⟩
      obtain ⟨y44, hy44⟩ : ∃ n : Int, Ik.enc dk[b + i]! = .int .i64 n := ⟨_, rfl⟩
      have S2 : Aside (SW Ik.enc w0 blk off (swp dk (a + i) (b + i)) ((wr.setCell ⟨blk, off + (a + i), none⟩ (.int .i64 y44)).setCell ⟨blk, off + (b + i), none⟩ (.int .i64 x44)).drew) := by rw [← hx44, ← hy44]; exact S1.out.swapped R (a + i) (b + i) (by omega) (by omega)
      have c44a := S1.out.c1 R (by omega) (a + i) (by omega)
      have c44b := S1.out.c1 R (by omega) (b + i) (by omega)
      have f44a := S1.out.f1 R (by omega) (a + i) (by omega)
      have f44b := S1.out.f1 R (by omega) (b + i) (by omega)
      obtain ⟨u44, c44c⟩ := S1.out.c2 R (by omega) (a + i) (b + i) (by omega) (by omega) (.int .i64 y44)
      rw [hx44] at c44a
      rw [hy44] at c44b
      clear S1 hx44 hy44
      go_wp2_with fail
      go_big_region_o
      clear c44a c44b c44c f44a f44b
      generalize ((wr.setCell ⟨blk, off + (a + i), none⟩ (.int .i64 y44)).setCell ⟨blk, off + (b + i), none⟩ (.int .i64 x44)).drew = w2 at S2 ⊢
      go_wp2
      go_roundg (n - (i + 1))
      case measure => omega
      case rel => exact ⟨i + 1, swp dk (a + i) (b + i), by go_num, by omega, Nat.le_refl _, by rw [size_swp]; exact hds, S2, ST.out i dk HS.out hlt⟩
    · go_wp2
      go_end0
      exact ⟨rfl, dk, DN.out i dk HS.out (by omega), hds, S1.out⟩
/-- Two neighbours whose change of places leaves T. -/
def RoSt {α : Type} (T : List α) (m i j : Nat) (d : Array α) : Prop := ∃ X u v Y : List α, X.length + i = m ∧ u.length = i ∧ v.length = j ∧ d.toList = X ++ (u ++ (v ++ Y)) ∧ X ++ (v ++ (u ++ Y)) = T
set_option maxHeartbeats 4000000 in
set_option maxRecDepth 1000000 in
theorem rotate_any {K : List V} [Inhabited (Ik K)] (g : Nat) (cb : Array Value) (blk off cap : Nat) (X u v Y : List (Ik K)) (d0 d : Array (Ik K)) (w0 w : World)
    (R : Row1 Ik.enc w0 blk off d0) (hs : d0.size = d.size) (S : SW Ik.enc w0 blk off d w) (hd : d.toList = X ++ (u ++ (v ++ Y))) (hu : 1 ≤ u.length) (hv : 1 ≤ v.length) (hsz : d.size < 4611686018427387904) (a m b : Nat) (ha : a = X.length) (hm : m = X.length + u.length) (hb : b = X.length + u.length + v.length) :
    Calls Try.prog 66 #[.slice (some ⟨blk, off, none⟩) d.size cap, .int .i64 a, .int .i64 m, .int .i64 b, .func (.func g) #[] cb] w fun e w' => e = .returned (.tuple #[]) ∧ ∃ d' : Array (Ik K), d'.toList = X ++ (v ++ (u ++ Y)) ∧ d'.size = d.size ∧ SW Ik.enc w0 blk off d' w' := by
  have hbd : b ≤ d.size := by
    rw [← Array.length_toList, hd]
    simp
    omega
  have ham : a < m := by omega
  have hmb : m < b := by omega
  have S0 : Aside (SW Ik.enc w0 blk off d w) := S
  have HD : Aside (RoSt (X ++ (v ++ (u ++ Y))) m (m - a) (b - m) d) := ⟨X, u, v, Y, by omega, by omega, by omega, hd, rfl⟩
  generalize X ++ (v ++ (u ++ Y)) = T at HD ⊢
  -- the callee, whatever the row holds
  have SWR : Aside (∀ (n : Nat) (X p Q q Y : List (Ik K)) (dk : Array (Ik K)) (W : World), dk.size = d.size → SW Ik.enc w0 blk off dk W → dk.toList = X ++ (p ++ (Q ++ (q ++ Y))) → p.length = n → q.length = n → ∀ (a b : Nat), a = X.length → b = X.length + n + Q.length →
      Calls Try.prog 69 #[.slice (some ⟨blk, off, none⟩) d.size cap, .int .i64 a, .int .i64 b, .int .i64 n, .func (.func g) #[] cb] W fun e w' => e = .returned (.tuple #[]) ∧ ∃ d' : Array (Ik K), d'.toList = X ++ (q ++ (Q ++ (p ++ Y))) ∧ d'.size = d.size ∧ SW Ik.enc w0 blk off d' w') :=
    fun n X p Q q Y dk W hk hS hd hp hq a b ha hb => by
      have := swapRange_any g cb blk off cap n X p Q q Y d0 dk w0 W R (by omega) hS hd hp hq (by omega) a b ha hb
      rw [hk] at this
      exact this
  clear S hd hu hv ha hm hb
  go_enter Try.func66, Try.ntmps66
  go_wp2
  go_loopg [10, 11] (b - a) (fun kx s10 s11 wr => ∃ (i j : Nat) (dk : Array (Ik K)), s10 = .int .i64 i ∧ s11 = .int .i64 j ∧ 1 ≤ i ∧ 1 ≤ j ∧ i ≤ m ∧ m + j ≤ d.size ∧ i + j ≤ kx ∧ dk.size = d.size ∧ Aside (SW Ik.enc w0 blk off dk wr) ∧ Aside (RoSt T m i j dk))
  case atStart => exact ⟨m - a, b - m, d, by go_num, by go_num, by omega, by omega, by omega, by omega, by omega, rfl, S0, HD⟩
  case round =>
    clear S0 HD
    obtain ⟨i, j, dk, rfl, rfl, hi1, hj1, him, hjm, hkx, hds, S1, HS⟩ := hrel
    obtain ⟨X, u, v, Y, h1, h2, h3, h4, h5⟩ := HS.out
    have H5 := Lib.hid h5
    by_cases hij : i = j
    · subst hij
      have hc := Lib.hid (SWR.out i X u [] v Y dk wr hds S1.out (by simpa using h4) h2 h3 (m - i) m (by omega) (by simp; omega))
      have e1 : ((m - i : Nat) : Int) = (m : Int) - (i : Int) := by omega
      rw [e1] at hc
      clear h1 h2 h3 h4 h5 S1 e1
      go_wp2_with fail
      refine hc.out.mono ?_
      rintro e w' ⟨rfl, d', hd', hs', hS'⟩
      go_wp2_with fail
      go_end0
      exact ⟨rfl, d', by rw [hd', ← H5.out]; simp, hs', hS'⟩
    · by_cases hgt : j < i
      · have hne : ¬ (i : Int) = (j : Int) := by omega
        have hgz : (j : Int) < (i : Int) := by omega
        obtain ⟨u1, u2, rfl, hl⟩ := cut_list u j (by omega)
        simp only [List.length_append] at h2
        have hc := Lib.hid (SWR.out j X u1 u2 v Y dk wr hds S1.out (by simpa using h4) hl h3 (m - i) m (by omega) (by omega))
        have e1 : ((m - i : Nat) : Int) = (m : Int) - (i : Int) := by omega
        rw [e1] at hc
        have HN : Aside (∀ d' : Array (Ik K), d'.toList = X ++ (v ++ (u2 ++ (u1 ++ Y))) → RoSt T m (i - j) j d') := fun d' hd' => ⟨X ++ v, u2, u1, Y, by simp; omega, by omega, hl, by rw [hd']; simp, by rw [← H5.out]; simp⟩
        clear h1 h2 h3 h4 h5 S1 e1 hl
        go_wp2_with fail
        refine hc.out.mono ?_
        rintro e w' ⟨rfl, d', hd', hs', hS'⟩
        go_wp2_with fail
        go_roundg (i - j + j)
        case measure => omega
        case rel => exact ⟨i - j, j, d', by go_num, rfl, by omega, hj1, by omega, hjm, Nat.le_refl _, hs', (hS' : Aside _), (HN.out d' hd' : Aside _)⟩
      · have hne : ¬ (i : Int) = (j : Int) := by omega
        have hgz : ¬ (j : Int) < (i : Int) := by omega
        obtain ⟨v1, v2, rfl, hl⟩ := cut_list v (j - i) (by omega)
        simp only [List.length_append] at h3
        have hc := Lib.hid (SWR.out i X u v1 v2 Y dk wr hds S1.out (by simpa using h4) h2 (by omega) (m - i) (m + j - i) (by omega) (by omega))
        have e1 : ((m - i : Nat) : Int) = (m : Int) - (i : Int) := by omega
        have e2 : ((m + j - i : Nat) : Int) = (m : Int) + (j : Int) - (i : Int) := by omega
        rw [e1, e2] at hc
        have HN : Aside (∀ d' : Array (Ik K), d'.toList = X ++ (v2 ++ (v1 ++ (u ++ Y))) → RoSt T m i (j - i) d') := fun d' hd' => ⟨X, v2, v1, u ++ Y, h1, by omega, hl, hd', by rw [← H5.out]; simp⟩
        have rr1 : IntKind.i64.wrap ((m : Int) + (j : Int)) = (m : Int) + (j : Int) := by rw [IntKind.wrap_i64]; omega
        clear h1 h2 h3 h4 h5 S1 e1 e2 hl
        go_wp2_with fail
        refine hc.out.mono ?_
        rintro e w' ⟨rfl, d', hd', hs', hS'⟩
        go_wp2_with fail
        go_roundg (i + (j - i))
        case measure => omega
        case rel => exact ⟨i, j - i, d', rfl, by go_num, hi1, by omega, him, by omega, Nat.le_refl _, hs', (hS' : Aside _), (HN.out d' hd' : Aside _)⟩
end Go.Proofs.Ytnokmlclephjgaa.Ix

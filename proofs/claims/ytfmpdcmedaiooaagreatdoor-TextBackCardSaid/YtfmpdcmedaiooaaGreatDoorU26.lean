/- slices.swapRangeCmpFunc and rotateCmpFunc at elements of k cells, k a variable: over any program that bears their bodies. -/
import Derived.Shelf.SlSortCmp.KitK
import Derived.Sort.WalkB2
import Derived.Sort.WalkB12
import Derived.Deep.LoopGhost
import Derived.Test.YtfmpdcmedaiooaaGreatDoorU25
import Derived.Test.YtfmpdcmedaiooaaGreatDoorRows
import Derived.Lib.Hide
set_option linter.unusedVariables false
set_option linter.unusedSimpArgs false
namespace Go.Proofs.YtfmpdcmedaiooaaGreatDoor
open Go.Shelf Go.RowKit Go.Lib Go.Sort
/-- What the walks ask of the types, the element's size left open. -/
structure MemT (P : Program) (k : Nat) : Prop where
  mixed : P.follows .mixedOrders = true
  t0 : P.underlying 0 = some (TypeDesc.tuple #[])
  a0 : ∀ w, (isAgg 0).run P w = .ok false w
  z0 : ∀ w, (Go.sizeOf 0).run P w = .ok 1 w
  v0 : ∀ w, (zeroValue 0).run P w = .ok (Value.tuple #[]) w
  t3 : P.underlying 3 = some (TypeDesc.int IntKind.i64)
  a3 : ∀ w, (isAgg 3).run P w = .ok false w
  z3 : ∀ w, (Go.sizeOf 3).run P w = .ok 1 w
  v3 : ∀ w, (zeroValue 3).run P w = .ok (Value.int IntKind.i64 0) w
  t4 : P.underlying 4 = some (TypeDesc.bool)
  a4 : ∀ w, (isAgg 4).run P w = .ok false w
  z4 : ∀ w, (Go.sizeOf 4).run P w = .ok 1 w
  v4 : ∀ w, (zeroValue 4).run P w = .ok (Value.bool false) w
  t22 : P.underlying 195 = some (TypeDesc.slice 197)
  a22 : ∀ w, (isAgg 195).run P w = .ok false w
  z22 : ∀ w, (Go.sizeOf 195).run P w = .ok 1 w
  v22 : ∀ w, (zeroValue 195).run P w = .ok (Value.slice none 0 0) w
  a24 : ∀ w, (isAgg 197).run P w = .ok true w
  z24 : ∀ w, (Go.sizeOf 197).run P w = .ok k w
  t25 : P.underlying 199 = some (TypeDesc.func #[197, 197] #[3] false)
  a25 : ∀ w, (isAgg 199).run P w = .ok false w
  z25 : ∀ w, (Go.sizeOf 199).run P w = .ok 1 w
  v25 : ∀ w, (zeroValue 199).run P w = .ok (Value.nilFunc) w
  t40 : P.underlying 73 = some (TypeDesc.int IntKind.u64)
  a40 : ∀ w, (isAgg 73).run P w = .ok false w
  z40 : ∀ w, (Go.sizeOf 73).run P w = .ok 1 w
  v40 : ∀ w, (zeroValue 73).run P w = .ok (Value.int IntKind.u64 0) w
/-- How far two stretches have changed places. -/
def SwSt {α : Type} (X p Q q Y : List α) (i : Nat) (d : Array α) : Prop :=
  ∃ p1 p2 q1 q2, p = p1 ++ p2 ∧ q = q1 ++ q2 ∧ p1.length = i ∧ q1.length = i ∧ d.toList = X ++ (q1 ++ (p2 ++ (Q ++ (p1 ++ (q2 ++ Y)))))
theorem SwSt.start {α : Type} {X p Q q Y : List α} {d : Array α} (h : d.toList = X ++ (p ++ (Q ++ (q ++ Y)))) : SwSt X p Q q Y 0 d := ⟨[], p, [], q, rfl, rfl, rfl, rfl, by simpa using h⟩
theorem SwSt.step {α : Type} [Inhabited α] {X p Q q Y : List α} {i n : Nat} {d : Array α} (h : SwSt X p Q q Y i d) (hp : p.length = n) (hq : q.length = n) (hi : i < n) : SwSt X p Q q Y (i + 1) (swp d (X.length + i) (X.length + n + Q.length + i)) := by
  obtain ⟨p1, p2, q1, q2, rfl, rfl, h1, h2, h⟩ := h
  simp only [List.length_append] at hp hq
  cases p2 with
  | nil => simp at hp; omega
  | cons x r =>
    cases q2 with
    | nil => simp at hq; omega
    | cons y s =>
      simp only [List.length_cons] at hp hq
      refine ⟨p1 ++ [x], r, q1 ++ [y], s, by simp, by simp, by simp [h1], by simp [h2], ?_⟩
      rw [swp_far (A := X ++ q1) (M := r ++ (Q ++ p1)) (B := s ++ Y) (x := x) (y := y) (by rw [h]; simp) (by simp; omega) (by simp; omega)]
      simp
theorem SwSt.done {α : Type} {X p Q q Y : List α} {i : Nat} {d : Array α} (h : SwSt X p Q q Y i d) (hp : p.length ≤ i) (hq : q.length ≤ i) : d.toList = X ++ (q ++ (Q ++ (p ++ Y))) := by
  obtain ⟨p1, p2, q1, q2, rfl, rfl, h1, h2, h⟩ := h
  simp only [List.length_append] at hp hq
  obtain rfl : p2 = [] := List.eq_nil_of_length_eq_zero (by omega)
  obtain rfl : q2 = [] := List.eq_nil_of_length_eq_zero (by omega)
  simpa using h
set_option maxHeartbeats 4000000 in
set_option maxRecDepth 1000000 in
theorem swapRange_gen {P : Program} {α : Type} [Inhabited α] {k : Nat} (L : MemT P k) (FG : P.funcs[252]? = some Tryz.f252) (enc : α → List Value) (g : Nat) (cb : Array Value) (blk off cap n : Nat) (X p Q q Y : List α) (d0 d : Array α) (w0 w : World)
    (R : RowK enc k w0 blk off d0) (hs : d0.size = d.size) (S : SWK enc k w0 blk off d w) (hd : d.toList = X ++ (p ++ (Q ++ (q ++ Y)))) (hp : p.length = n) (hq : q.length = n) (hsz : d.size < 4611686018427387904) (a b : Nat) (ha : a = X.length) (hb : b = X.length + n + Q.length) :
    Calls P 252 #[.slice (some ⟨blk, off, none⟩) d.size cap, .int .i64 a, .int .i64 b, .int .i64 n, .func (.func g) #[] cb] w fun e w' => e = .returned (.tuple #[]) ∧ ∃ d' : Array α, d'.toList = X ++ (q ++ (Q ++ (p ++ Y))) ∧ d'.size = d.size ∧ SWK enc k w0 blk off d' w' := by
  have mixed := L.mixed; have t0 := L.t0; have a0 := L.a0; have z0 := L.z0; have v0 := L.v0; have t3 := L.t3; have a3 := L.a3; have z3 := L.z3; have v3 := L.v3; have t4 := L.t4; have a4 := L.a4; have z4 := L.z4; have v4 := L.v4; have t22 := L.t22; have a22 := L.a22; have z22 := L.z22; have v22 := L.v22; have aE := L.a24; have zE := L.z24; have t25 := L.t25; have a25 := L.a25; have z25 := L.z25; have v25 := L.v25
  have hbd : b + n ≤ d.size := by
    rw [← Array.length_toList, hd]
    simp
    omega
  have hab : a + n ≤ b := by omega
  have S0 : Aside (SWK enc k w0 blk off d w) := S
  have HD : Aside (SwSt X p Q q Y 0 d) := SwSt.start hd
  have ST : Aside (∀ (i : Nat) (dk : Array α), SwSt X p Q q Y i dk → i < n → SwSt X p Q q Y (i + 1) (swp dk (a + i) (b + i))) := fun i dk h hi => by
    have := h.step hp hq hi
    rw [ha, hb]
    exact this
  have DN : Aside (∀ (i : Nat) (dk : Array α), SwSt X p Q q Y i dk → n ≤ i → dk.toList = X ++ (q ++ (Q ++ (p ++ Y)))) := fun i dk h hi => h.done (by omega) (by omega)
  clear S hd hp hq ha hb
  go_enter FG, Tryz.ntmps252
  go_wp2
  go_loopg [10] n (fun kx s10 wr => ∃ (i : Nat) (dk : Array α), s10 = .int .i64 i ∧ i ≤ n ∧ n - i ≤ kx ∧ dk.size = d.size ∧ Aside (SWK enc k w0 blk off dk wr) ∧ Aside (SwSt X p Q q Y i dk))
  case atStart => exact ⟨0, d, rfl, Nat.zero_le _, Nat.le_refl _, rfl, S0, HD⟩
  case round =>
    clear S0 HD
    obtain ⟨i, dk, rfl, hin, hkx, hds, S1, HS⟩ := hrel
    by_cases hlt : i < n
    · have hltz : (i : Int) < (n : Int) := by omega
      have ea44 : ((a : Int) + (i : Int)).toNat = a + i := by omega
      have pa44 : (0 : Int) ≤ (a : Int) + (i : Int) := by omega
      have ba44 : (a : Int) + (i : Int) < (d.size : Int) := by omega
      have ra44 : IntKind.i64.wrap ((a : Int) + (i : Int)) = (a : Int) + (i : Int) := by rw [IntKind.wrap_i64]; omega
      have ec44 : ((b : Int) + (i : Int)).toNat = b + i := by omega
      have pc44 : (0 : Int) ≤ (b : Int) + (i : Int) := by omega
      have bc44 : (b : Int) + (i : Int) < (d.size : Int) := by omega
      have rc44 : IntKind.i64.wrap ((b : Int) + (i : Int)) = (b : Int) + (i : Int) := by rw [IntKind.wrap_i64]; omega
      have S2 : Aside (SWK enc k w0 blk off (swp dk (a + i) (b + i)) ((wr.drew.setCells blk (off + (a + i) * k) (enc dk[b + i]!)).setCells blk (off + (b + i) * k) (enc dk[a + i]!))) := S1.out.swapped R (a + i) (b + i) (by omega) (by omega)
      have l44a := S1.out.ld1 R (by omega) P (a + i) (by omega)
      have l44b := S1.out.ld1 R (by omega) P (b + i) (by omega)
      have s44a := S1.out.st1 R (by omega) P (a + i) (by omega) dk[b + i]!
      have s44b := S1.out.st2 R (by omega) P (a + i) (b + i) (by omega) (by omega) dk[b + i]! dk[a + i]!
      have n44a : (enc dk[a + i]!).length = k := R.hk _
      have n44b : (enc dk[b + i]!).length = k := R.hk _
      generalize enc dk[a + i]! = cI44 at S2 l44a s44b n44a
      generalize enc dk[b + i]! = cJ44 at S2 l44b s44a s44b n44b
      clear S1
      go_wp2_with fail
      go_big_region_o
      clear l44a l44b s44a s44b
      generalize (wr.drew.setCells blk (off + (a + i) * k) cJ44).setCells blk (off + (b + i) * k) cI44 = w2 at S2 ⊢
      go_wp2
      go_roundg (n - (i + 1))
      case measure => omega
      case rel => exact ⟨i + 1, swp dk (a + i) (b + i), by go_num, by omega, Nat.le_refl _, by rw [size_swp]; exact hds, S2, ST.out i dk HS.out hlt⟩
    · go_wp2
      go_end0
      exact ⟨rfl, dk, DN.out i dk HS.out (by omega), hds, S1.out⟩
/-- Two neighbours whose change of places leaves T. -/
def RoSt {α : Type} (T : List α) (m i j : Nat) (d : Array α) : Prop := ∃ X u v Y : List α, X.length + i = m ∧ u.length = i ∧ v.length = j ∧ d.toList = X ++ (u ++ (v ++ Y)) ∧ X ++ (v ++ (u ++ Y)) = T
set_option maxHeartbeats 4000000 in
set_option maxRecDepth 1000000 in
theorem rotate_gen {P : Program} {α : Type} [Inhabited α] {k : Nat} (L : MemT P k) (FS : P.funcs[252]? = some Tryz.f252) (FG : P.funcs[249]? = some Tryz.f249)
    (es : ∀ args w, (callFunc 252 args).run P w = .ok (.enter 252 args) w) (enc : α → List Value) (g : Nat) (cb : Array Value) (blk off cap : Nat) (X u v Y : List α) (d0 d : Array α) (w0 w : World)
    (R : RowK enc k w0 blk off d0) (hs : d0.size = d.size) (S : SWK enc k w0 blk off d w) (hd : d.toList = X ++ (u ++ (v ++ Y))) (hu : 1 ≤ u.length) (hv : 1 ≤ v.length) (hsz : d.size < 4611686018427387904) (a m b : Nat) (ha : a = X.length) (hm : m = X.length + u.length) (hb : b = X.length + u.length + v.length) :
    Calls P 249 #[.slice (some ⟨blk, off, none⟩) d.size cap, .int .i64 a, .int .i64 m, .int .i64 b, .func (.func g) #[] cb] w fun e w' => e = .returned (.tuple #[]) ∧ ∃ d' : Array α, d'.toList = X ++ (v ++ (u ++ Y)) ∧ d'.size = d.size ∧ SWK enc k w0 blk off d' w' := by
  have mixed := L.mixed; have t0 := L.t0; have a0 := L.a0; have z0 := L.z0; have v0 := L.v0; have t3 := L.t3; have a3 := L.a3; have z3 := L.z3; have v3 := L.v3; have t4 := L.t4; have a4 := L.a4; have z4 := L.z4; have v4 := L.v4; have t22 := L.t22; have a22 := L.a22; have z22 := L.z22; have v22 := L.v22; have aE := L.a24; have zE := L.z24; have t25 := L.t25; have a25 := L.a25; have z25 := L.z25; have v25 := L.v25
  have hbd : b ≤ d.size := by
    rw [← Array.length_toList, hd]
    simp
    omega
  have ham : a < m := by omega
  have hmb : m < b := by omega
  have S0 : Aside (SWK enc k w0 blk off d w) := S
  have HD : Aside (RoSt (X ++ (v ++ (u ++ Y))) m (m - a) (b - m) d) := ⟨X, u, v, Y, by omega, by omega, by omega, hd, rfl⟩
  generalize X ++ (v ++ (u ++ Y)) = T at HD ⊢
  -- the callee, whatever the row holds
  have SW : Aside (∀ (n : Nat) (X p Q q Y : List α) (dk : Array α) (W : World), dk.size = d.size → SWK enc k w0 blk off dk W → dk.toList = X ++ (p ++ (Q ++ (q ++ Y))) → p.length = n → q.length = n → ∀ (a b : Nat), a = X.length → b = X.length + n + Q.length →
      Calls P 252 #[.slice (some ⟨blk, off, none⟩) d.size cap, .int .i64 a, .int .i64 b, .int .i64 n, .func (.func g) #[] cb] W fun e w' => e = .returned (.tuple #[]) ∧ ∃ d' : Array α, d'.toList = X ++ (q ++ (Q ++ (p ++ Y))) ∧ d'.size = d.size ∧ SWK enc k w0 blk off d' w') :=
    fun n X p Q q Y dk W hk hS hd hp hq a b ha hb => by
      have := swapRange_gen L FS enc g cb blk off cap n X p Q q Y d0 dk w0 W R (by omega) hS hd hp hq (by omega) a b ha hb
      rw [hk] at this
      exact this
  clear S hd hu hv ha hm hb FS
  go_enter FG, Tryz.ntmps249
  go_wp2
  go_loopg [10, 11] (b - a) (fun kx s10 s11 wr => ∃ (i j : Nat) (dk : Array α), s10 = .int .i64 i ∧ s11 = .int .i64 j ∧ 1 ≤ i ∧ 1 ≤ j ∧ i ≤ m ∧ m + j ≤ d.size ∧ i + j ≤ kx ∧ dk.size = d.size ∧ Aside (SWK enc k w0 blk off dk wr) ∧ Aside (RoSt T m i j dk))
  case atStart => exact ⟨m - a, b - m, d, by go_num, by go_num, by omega, by omega, by omega, by omega, by omega, rfl, S0, HD⟩
  case round =>
    clear S0 HD
    obtain ⟨i, j, dk, rfl, rfl, hi1, hj1, him, hjm, hkx, hds, S1, HS⟩ := hrel
    obtain ⟨X, u, v, Y, h1, h2, h3, h4, h5⟩ := HS.out
    have H5 := Lib.hid h5
    by_cases hij : i = j
    · subst hij
      have hc := Lib.hid (SW.out i X u [] v Y dk wr hds S1.out (by simpa using h4) h2 h3 (m - i) m (by omega) (by simp; omega))
      have e1 : ((m - i : Nat) : Int) = (m : Int) - (i : Int) := by omega
      rw [e1] at hc
      clear h1 h2 h3 h4 h5 S1 e1
      go_wp2_with fail
      refine hc.out.mono ?_
      rintro e w' ⟨rfl, d', hd', hs', hS'⟩
      go_wp2_with fail
      go_end0
      exact ⟨rfl, d', by rw [hd', ← H5.out]; simp, hs', hS'⟩
    · by_cases hgt : j < i
      · have hne : ¬ (i : Int) = (j : Int) := by omega
        have hgz : (j : Int) < (i : Int) := by omega
        obtain ⟨u1, u2, rfl, hl⟩ := cut_list u j (by omega)
        simp only [List.length_append] at h2
        have hc := Lib.hid (SW.out j X u1 u2 v Y dk wr hds S1.out (by simpa using h4) hl h3 (m - i) m (by omega) (by omega))
        have e1 : ((m - i : Nat) : Int) = (m : Int) - (i : Int) := by omega
        rw [e1] at hc
        have HN : Aside (∀ d' : Array α, d'.toList = X ++ (v ++ (u2 ++ (u1 ++ Y))) → RoSt T m (i - j) j d') := fun d' hd' => ⟨X ++ v, u2, u1, Y, by simp; omega, by omega, hl, by rw [hd']; simp, by rw [← H5.out]; simp⟩
        clear h1 h2 h3 h4 h5 S1 e1 hl
        go_wp2_with fail
        refine hc.out.mono ?_
        rintro e w' ⟨rfl, d', hd', hs', hS'⟩
        go_wp2_with fail
        go_roundg (i - j + j)
        case measure => omega
        case rel => exact ⟨i - j, j, d', by go_num, rfl, by omega, hj1, by omega, hjm, Nat.le_refl _, hs', (hS' : Aside _), (HN.out d' hd' : Aside _)⟩
      · have hne : ¬ (i : Int) = (j : Int) := by omega
        have hgz : ¬ (j : Int) < (i : Int) := by omega
        obtain ⟨v1, v2, rfl, hl⟩ := cut_list v (j - i) (by omega)
        simp only [List.length_append] at h3
        have hc := Lib.hid (SW.out i X u v1 v2 Y dk wr hds S1.out (by simpa using h4) h2 (by omega) (m - i) (m + j - i) (by omega) (by omega))
        have e1 : ((m - i : Nat) : Int) = (m : Int) - (i : Int) := by omega
        have e2 : ((m + j - i : Nat) : Int) = (m : Int) + (j : Int) - (i : Int) := by omega
        rw [e1, e2] at hc
        have HN : Aside (∀ d' : Array α, d'.toList = X ++ (v2 ++ (v1 ++ (u ++ Y))) → RoSt T m i (j - i) d') := fun d' hd' => ⟨X, v2, v1, u ++ Y, h1, by omega, hl, hd', by rw [← H5.out]; simp⟩
        have rr1 : IntKind.i64.wrap ((m : Int) + (j : Int)) = (m : Int) + (j : Int) := by rw [IntKind.wrap_i64]; omega
        clear h1 h2 h3 h4 h5 S1 e1 e2 hl
        go_wp2_with fail
        refine hc.out.mono ?_
        rintro e w' ⟨rfl, d', hd', hs', hS'⟩
        go_wp2_with fail
        go_roundg (i + (j - i))
        case measure => omega
        case rel => exact ⟨i, j - i, d', rfl, by go_num, hi1, by omega, him, by omega, Nat.le_refl _, hs', (hS' : Aside _), (HN.out d' hd' : Aside _)⟩
end Go.Proofs.YtfmpdcmedaiooaaGreatDoor

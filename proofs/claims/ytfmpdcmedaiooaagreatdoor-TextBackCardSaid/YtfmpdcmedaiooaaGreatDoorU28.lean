/- Blocks of ascending members, plain: what the passes of a stable sort leave. Nothing of the program is named here. slices.stableCmpFunc and SortStableFunc at members, whatever their number: the stable order. The program's Arr. What object leaves of its members, plain; the row of members in memory. Nothing of the program is named here. -/
import Derived.Test.YtfmpdcmedaiooaaGreatDoorU25
import Derived.Test.YtfmpdcmedaiooaaGreatDoorU27
import Derived.Test.YtfmpdcmedaiooaaGreatDoorU14
import Derived.Shelf.SlSortCmp.InsertionK
import Derived.Lib.SlBuf
set_option linter.unusedVariables false
set_option linter.unusedSimpArgs false
namespace Go.Proofs.YtfmpdcmedaiooaaGreatDoor
open Go.RowKit Go.Sort
/-- Blocks of B ascending members, the last one perhaps shorter. -/
inductive Bk (B : Nat) : List Mb → Prop
  | last {l : List Mb} : l.length ≤ B → So l → Bk B l
  | cons {a r : List Mb} : a.length = B → So a → Bk B r → Bk B (a ++ r)
/-- Whole blocks of B ascending members. -/
inductive FB (B : Nat) : List Mb → Prop
  | nil : FB B []
  | snoc {p z : List Mb} : FB B p → z.length = B → So z → FB B (p ++ z)
theorem FB.bk {B : Nat} {p : List Mb} (h : FB B p) : ∀ {r : List Mb}, Bk B r → Bk B (p ++ r) := by
  induction h with
  | nil => exact fun h => h
  | snoc h1 h2 h3 ih =>
    intro r hr
    rw [List.append_assoc]
    exact ih (Bk.cons h2 h3 hr)
theorem so_nil : So [] := List.Pairwise.nil
theorem Bk.small {B : Nat} {l : List Mb} (h : Bk B l) (hl : l.length ≤ B) : So l := by
  cases h with
  | last _ h => exact h
  | @cons a r h1 h2 _ =>
    simp at hl
    obtain rfl : r = [] := List.eq_nil_of_length_eq_zero (by omega)
    simpa using h2
theorem Bk.one {B : Nat} {l : List Mb} (h : Bk B l) (hl : B < l.length) : ∃ a r, l = a ++ r ∧ a.length = B ∧ So a ∧ Bk B r := by
  cases h with
  | last h _ => omega
  | @cons a r h1 h2 h3 => exact ⟨a, r, rfl, h1, h2, h3⟩
theorem Bk.two {B : Nat} {l : List Mb} (h : Bk B l) (hB : 1 ≤ B) (hl : 2 * B ≤ l.length) : ∃ u v Y, l = u ++ (v ++ Y) ∧ u.length = B ∧ v.length = B ∧ So u ∧ So v ∧ Bk B Y := by
  obtain ⟨u, r, rfl, h1, h2, h3⟩ := h.one (by omega)
  simp at hl
  cases h3 with
  | last h4 h5 => exact ⟨u, r, [], by simp, h1, by omega, h2, h5, Bk.last (by simp) so_nil⟩
  | @cons v Y h4 h5 h6 => exact ⟨u, v, Y, rfl, h1, h4, h2, h5, h6⟩
theorem Bk.part {B : Nat} {l : List Mb} (h : Bk B l) (hl : B < l.length) (hl2 : l.length < 2 * B) : ∃ u v, l = u ++ v ∧ u.length = B ∧ So u ∧ So v := by
  obtain ⟨u, r, rfl, h1, h2, h3⟩ := h.one hl
  simp at hl2
  exact ⟨u, r, rfl, h1, h2, h3.small (by omega)⟩
/-- The same members at each key, in one order. -/
def SameK (l l' : List Mb) : Prop := ∀ k, fk k l' = fk k l
theorem SameK.refl (l : List Mb) : SameK l l := fun _ => rfl
theorem SameK.mid {l X u z Y : List Mb} (h : SameK l (X ++ (u ++ Y))) (hz : ∀ k, fk k z = fk k u) : SameK l (X ++ (z ++ Y)) := fun k => by
  rw [← h k]
  simp only [fk_app, hz]
theorem Mg.same {l X u v z Y : List Mb} (h : SameK l (X ++ (u ++ (v ++ Y)))) (hz : Mg u v z) : SameK l (X ++ (z ++ Y)) := fun k => by
  rw [← h k]
  simp only [fk_app, hz.cls, List.append_assoc]
/-- The state of the first pass. -/
structure P1 (l : List Mb) (a : Nat) (d : Array Mb) : Prop where
  ex : ∃ p r, d.toList = p ++ r ∧ p.length = a ∧ FB 20 p
  same : SameK l d.toList
theorem P1.start (d : Array Mb) : P1 d.toList 0 d := ⟨⟨[], d.toList, rfl, rfl, FB.nil⟩, SameK.refl _⟩
theorem P1.step {l : List Mb} {a : Nat} {d : Array Mb} (h : P1 l a d) (ha : a + 20 ≤ d.size) : P1 l (a + 20) (insertionSort (Go.Proofs.ltOf mcf) d a (a + 20)) := by
  obtain ⟨⟨p, r, h1, h2, h3⟩, h4⟩ := h
  have hl : d.size = p.length + r.length := by rw [← Array.length_toList, h1]; simp
  obtain ⟨u, Y, rfl, hu⟩ := cut_list r 20 (by omega)
  obtain ⟨z, z1, z2, z3, z4⟩ := ins_part (d := d) (X := p) (u := u) (Y := Y) h1 h2.symm (show a + 20 = p.length + u.length by omega)
  refine ⟨⟨p ++ z, Y, by rw [z1]; simp, by simp; omega, FB.snoc h3 (by omega) z2⟩, ?_⟩
  rw [z1]
  rw [h1] at h4
  exact h4.mid z4
/-- The state between two passes. -/
structure P2 (l : List Mb) (B : Nat) (d : Array Mb) : Prop where
  bk : Bk B d.toList
  same : SameK l d.toList
theorem P1.done {l : List Mb} {a n : Nat} {d : Array Mb} (h : P1 l a d) (ha : ¬ a + 20 ≤ d.size) (han : a ≤ d.size) (hn : n = d.size) : P2 l 20 (insertionSort (Go.Proofs.ltOf mcf) d a n) := by
  subst hn
  obtain ⟨⟨p, r, h1, h2, h3⟩, h4⟩ := h
  have hl : d.size = p.length + r.length := by rw [← Array.length_toList, h1]; simp
  obtain ⟨z, z1, z2, z3, z4⟩ := ins_part (d := d) (X := p) (u := r) (Y := []) (by rw [h1]; simp) h2.symm hl
  refine ⟨?_, ?_⟩
  · rw [z1, List.append_nil]
    exact h3.bk (Bk.last (by omega) z2)
  · rw [z1]
    rw [h1, ← List.append_nil r] at h4
    exact h4.mid z4
/-- The state within a pass. -/
structure P3 (l : List Mb) (B a : Nat) (d : Array Mb) : Prop where
  ex : ∃ p r, d.toList = p ++ r ∧ p.length = a ∧ FB (2 * B) p ∧ Bk B r
  same : SameK l d.toList
theorem P2.start {l : List Mb} {B : Nat} {d : Array Mb} (h : P2 l B d) : P3 l B 0 d := ⟨⟨[], d.toList, rfl, rfl, FB.nil, h.bk⟩, h.same⟩
/-- Two blocks to merge .. -/
theorem P3.two {l : List Mb} {B a : Nat} {d : Array Mb} (h : P3 l B a d) (hB : 1 ≤ B) (ha : a + 2 * B ≤ d.size) : ∃ X u v Y, d.toList = X ++ (u ++ (v ++ Y)) ∧ So u ∧ So v ∧ X.length = a ∧ u.length = B ∧ v.length = B ∧
    ∀ (d' : Array Mb) (z : List Mb), d'.toList = X ++ (z ++ Y) → Mg u v z → P3 l B (a + 2 * B) d' := by
  obtain ⟨⟨p, r, h1, h2, h3, h5⟩, h4⟩ := h
  have hl : d.size = p.length + r.length := by rw [← Array.length_toList, h1]; simp
  obtain ⟨u, v, Y, rfl, k1, k2, k3, k4, k5⟩ := h5.two hB (by omega)
  refine ⟨p, u, v, Y, h1, k3, k4, h2, k1, k2, fun d' z hd hz => ⟨⟨p ++ z, Y, by rw [hd]; simp, by simp [hz.len]; omega, FB.snoc h3 (by rw [hz.len]; omega) hz.so, k5⟩, ?_⟩⟩
  rw [hd]
  rw [h1] at h4
  exact hz.same h4
/-- .. or one and a part .. -/
theorem P3.part {l : List Mb} {B a : Nat} {d : Array Mb} (h : P3 l B a d) (ha : ¬ a + 2 * B ≤ d.size) (ha2 : a + B < d.size) : ∃ X u v, d.toList = X ++ (u ++ (v ++ [])) ∧ So u ∧ So v ∧ X.length = a ∧ u.length = B ∧ 1 ≤ v.length ∧ X.length + u.length + v.length = d.size ∧
    ∀ (d' : Array Mb) (z : List Mb), d'.toList = X ++ (z ++ []) → Mg u v z → P2 l (B * 2) d' := by
  obtain ⟨⟨p, r, h1, h2, h3, h5⟩, h4⟩ := h
  have hl : d.size = p.length + r.length := by rw [← Array.length_toList, h1]; simp
  obtain ⟨u, v, rfl, k1, k2, k3⟩ := h5.part (by omega) (by omega)
  simp only [List.length_append] at hl
  refine ⟨p, u, v, by rw [h1]; simp, k2, k3, h2, k1, by omega, by omega, fun d' z hd hz => ⟨?_, ?_⟩⟩
  · rw [hd, List.append_nil, Nat.mul_comm]
    exact h3.bk (Bk.last (by rw [hz.len]; omega) hz.so)
  · rw [hd]
    rw [h1, ← List.append_nil v] at h4
    exact hz.same h4
/-- .. or nothing. -/
theorem P3.done {l : List Mb} {B a : Nat} {d : Array Mb} (h : P3 l B a d) (ha2 : ¬ a + B < d.size) : P2 l (B * 2) d := by
  obtain ⟨⟨p, r, h1, h2, h3, h5⟩, h4⟩ := h
  have hl : d.size = p.length + r.length := by rw [← Array.length_toList, h1]; simp
  refine ⟨?_, h4⟩
  rw [h1, Nat.mul_comm]
  exact h3.bk (Bk.last (by omega) (h5.small (by omega)))
/-- The end: it is what the insertion sort makes. -/
theorem P2.fin {B : Nat} {d d' : Array Mb} (h : P2 d.toList B d') (hB : d'.size ≤ B) : d' = insertionSort (Go.Proofs.ltOf mcf) d 0 d.size := by
  have h1 := h.bk.small (by simpa using hB)
  obtain ⟨i1, i2⟩ := ins_so d
  have := stable_one h1 i1 (fun k => (h.same k).trans (i2 k).symm)
  exact Array.toList_inj.1 this
end Go.Proofs.YtfmpdcmedaiooaaGreatDoor
namespace Go.Proofs.YtfmpdcmedaiooaaGreatDoor
open Go.Shelf Go.RowKit Go.Lib Go.Sort
theorem memT : MemT Tryz.prog 6 := {
  mixed := by kernel_rfl
  t0 := Tryz.underlying0
  a0 := Tryz.isAgg0
  z0 := Tryz.sizeOf0
  v0 := Tryz.zeroValue0
  t3 := Tryz.underlying3
  a3 := Tryz.isAgg3
  z3 := Tryz.sizeOf3
  v3 := Tryz.zeroValue3
  t4 := Tryz.underlying4
  a4 := Tryz.isAgg4
  z4 := Tryz.sizeOf4
  v4 := Tryz.zeroValue4
  t22 := Tryz.underlying195
  a22 := Tryz.isAgg195
  z22 := Tryz.sizeOf195
  v22 := Tryz.zeroValue195
  t25 := Tryz.underlying199
  a25 := Tryz.isAgg199
  z25 := Tryz.sizeOf199
  v25 := Tryz.zeroValue199
  t40 := Tryz.underlying73
  a40 := Tryz.isAgg73
  z40 := Tryz.sizeOf73
  v40 := Tryz.zeroValue73
  a24 := Tryz.isAgg197
  z24 := Tryz.sizeOf197 }
theorem sort_size (d : Array Mb) (a b : Nat) (hab : a ≤ b) (hb : b ≤ d.size) : (insertionSort (Go.Proofs.ltOf mcf) d a b).size = d.size := (insertionSort_holds (lt := Go.Proofs.ltOf mcf) mcf_swo d a b hab hb).1.1
/-- The insertion sort of a stretch, from a world of the sort's to a world of the sort's. -/
theorem ins_swk {g cap a b N : Nat} {d0 d : Array Mb} {w0 w : World} (hH : HoldsK Mb.six 6 w0 g 0 d0) (hg : g < w0.heap.size) (hs : d.size = d0.size) (hN : N = d0.size) (S : SWK Mb.six 6 w0 g 0 d w) (hab : a ≤ b) (hb : b ≤ d.size) (hsz : d.size < 4611686018427387904) :
    Calls Tryz.prog 239 #[.slice (some ⟨g, 0, none⟩) N cap, .int .i64 a, .int .i64 b, .func (.func 190) #[] #[]] w fun e w' =>
      e = .returned (.tuple #[]) ∧ SWK Mb.six 6 w0 g 0 (insertionSort (Go.Proofs.ltOf mcf) d a b) w' := by
  have hHd := S.holds hg hH hs
  have h := ins_any g cap a b d w hHd (S.lt hg) hab hb hsz
  rw [hN, ← hs]
  refine h.mono ?_
  rintro e w' ⟨rfl, n, os, rfl⟩
  exact ⟨rfl, S.on hg n _ os (sort_size d a b hab hb)⟩
theorem enters_obj1 : ∀ args w, (callFunc 190 args).run Tryz.prog w = .ok (.enter 190 args) w := enters_of Tryz.func190 (by kernel_rfl) rfl
theorem enters_swap : ∀ args w, (callFunc 252 args).run Tryz.prog w = .ok (.enter 252 args) w := enters_of Tryz.func252 (by kernel_rfl) rfl
theorem enters_rot : ∀ args w, (callFunc 249 args).run Tryz.prog w = .ok (.enter 249 args) w := enters_of Tryz.func249 (by kernel_rfl) rfl
theorem enters_sym : ∀ args w, (callFunc 240 args).run Tryz.prog w = .ok (.enter 240 args) w := enters_of Tryz.func240 (by kernel_rfl) rfl
theorem sym_any (g cap N : Nat) (d0 : Array Mb) (w0 : World) (hH : HoldsK Mb.six 6 w0 g 0 d0) (hg : g < w0.heap.size) (hN : d0.size = N) (hsz : N < 4611686018427387904) (X u v Y : List Mb) (d : Array Mb) (w : World) (hs : d.size = N) (S : SWK Mb.six 6 w0 g 0 d w) (hd : d.toList = X ++ (u ++ (v ++ Y))) (hu : So u) (hv : So v) (hu1 : 1 ≤ u.length) (hv1 : 1 ≤ v.length) (a m b : Nat) (ha : a = X.length) (hm : m = X.length + u.length) (hb : b = X.length + u.length + v.length) :
    Calls Tryz.prog 240 #[.slice (some ⟨g, 0, none⟩) N cap, .int .i64 a, .int .i64 m, .int .i64 b, .func (.func 190) #[] #[]] w (MgPost Mb.six 6 w0 g 0 N X u v Y) :=
  symMerge_gen memT Tryz.func252 Tryz.func249 Tryz.func240 enters_swap enters_rot enters_sym Mb.six 190 #[] g 0 cap N d0 w0 enters_obj1 ⟨six_len, six_one, hH, hg⟩ hN (mlays g 0 N w0) hsz _ X u v Y d w (Nat.le_refl _) hs S hd hu hv hu1 hv1 a m b ha hm hb
set_option maxHeartbeats 4000000 in
set_option maxRecDepth 100000 in
theorem stable_any (g cap : Nat) (d : Array Mb) (w : World) (hH : HoldsK Mb.six 6 w g 0 d) (hg : g < w.heap.size) (hn : d.size ≤ 1000000) :
    Calls Tryz.prog 216 #[.slice (some ⟨g, 0, none⟩) d.size cap, .int .i64 d.size, .func (.func 190) #[] #[]] w fun e w' =>
      e = .returned (.tuple #[]) ∧ ∃ n os, w' = sortWorldK Mb.six 6 w g 0 n (Sort.insertionSort (Go.Proofs.ltOf mcf) d 0 d.size) os := by
  have INS := Lib.hid (fun (a b : Nat) (dk : Array Mb) (W : World) (hs : dk.size = d.size) (S : SWK Mb.six 6 w g 0 dk W) (hab : a ≤ b) (hb : b ≤ d.size) => ins_swk (cap := cap) (N := d.size) (a := a) (b := b) hH hg hs rfl S hab (by omega) (by omega))
  have SYM := Lib.hid (fun (X u v Y : List Mb) (dk : Array Mb) (W : World) (hs : dk.size = d.size) (S : SWK Mb.six 6 w g 0 dk W) hd hu hv hu1 hv1 (a m b : Nat) ha hm hb => sym_any g cap d.size d w hH hg rfl (by omega) X u v Y dk W hs S hd hu hv hu1 hv1 a m b ha hm hb)
  have FIN := Lib.hid (fun (B : Nat) (dk : Array Mb) (W : World) (h : P2 d.toList B dk) (hs : dk.size = d.size) (hB : d.size ≤ B) (S : SWK Mb.six 6 w g 0 dk W) => show ∃ n os, W = sortWorldK Mb.six 6 w g 0 n (Sort.insertionSort (Go.Proofs.ltOf mcf) d 0 d.size) os by
    have := h.fin (by omega)
    rw [← this]
    exact S)
  have SZ := Lib.hid (fun (dk : Array Mb) (a b : Nat) hab hb => sort_size dk a b hab hb)
  have S0 := Lib.hid (SWK.start hH)
  have HP := Lib.hid (P1.start d)
  clear hH hg
  generalize insertionSort (Go.Proofs.ltOf mcf) d 0 d.size = res at FIN ⊢
  obtain ⟨l, hl⟩ : ∃ l, d.toList = l := ⟨_, rfl⟩
  rw [hl] at HP FIN
  clear hl
  obtain ⟨N, hN⟩ : ∃ N, d.size = N := ⟨_, rfl⟩
  have HN := Lib.hid hN
  rw [hN] at INS SYM FIN hn ⊢
  clear hN
  go_enter Tryz.func216, Tryz.ntmps216
  go_wp2_with fail
  go_loopg [7, 8] N (fun kx s7 s8 wr => ∃ (a : Nat) (dk : Array Mb), s7 = .int .i64 a ∧ s8 = .int .i64 ((a + 20 : Nat) : Int) ∧ a ≤ N ∧ N - a ≤ kx ∧ dk.size = N ∧ Hid (SWK Mb.six 6 w g 0 dk wr) ∧ Hid (P1 l a dk))
  case atStart => exact ⟨0, d, rfl, rfl, Nat.zero_le _, Nat.le_refl _, HN.out, S0, HP⟩
  case round =>
    clear S0 HP
    obtain ⟨a, dk, rfl, rfl, haN, hkx, hds, S1, HP⟩ := hrel
    by_cases hlt : a + 20 ≤ N
    · have hltz : ((a + 20 : Nat) : Int) ≤ (N : Int) := by omega
      have HC := Lib.hid (INS.out a (a + 20) dk wr hds S1.out (by omega) hlt)
      have HP2 := Lib.hid (HP.out.step (by omega))
      have hsz2 := SZ.out dk a (a + 20) (by omega) (by omega)
      generalize insertionSort (Go.Proofs.ltOf mcf) dk a (a + 20) = d2 at HC HP2 hsz2
      clear HP S1
      go_wp2_with fail
      refine HC.out.mono ?_
      rintro e w1 ⟨rfl, hS⟩
      have S2 := Lib.hid hS
      clear hS HC
      go_wp2_with fail
      go_roundg (N - (a + 20))
      case measure => omega
      case rel => exact ⟨a + 20, d2, rfl, by go_num, hlt, Nat.le_refl _, by omega, S2, HP2⟩
    · have hltz : ¬ ((a + 20 : Nat) : Int) ≤ (N : Int) := by omega
      have HC := Lib.hid (INS.out a N dk wr hds S1.out haN (Nat.le_refl _))
      have HP2 := Lib.hid (HP.out.done (n := N) (by omega) (by omega) (by omega))
      have hsz2 := SZ.out dk a N haN (by omega)
      generalize insertionSort (Go.Proofs.ltOf mcf) dk a N = d2 at HC HP2 hsz2
      rw [hds] at hsz2
      clear HP S1
      go_wp2_with fail
      refine HC.out.mono ?_
      rintro e w1 ⟨rfl, hS⟩
      have S2 := Lib.hid hS
      clear hS HC hltz hlt haN hkx hds
      go_wp2_with fail
      go_loopg [6, 7, 8, 9] N (fun kx s6 s7 s8 s9 wr => ∃ (B : Nat) (dk : Array Mb), s6 = .int .i64 B ∧ 20 ≤ B ∧ B ≤ 2000000 ∧ N - B ≤ kx ∧ dk.size = N ∧ Hid (SWK Mb.six 6 w g 0 dk wr) ∧ Hid (P2 l B dk))
      case atStart => exact ⟨20, d2, rfl, Nat.le_refl _, by omega, by omega, hsz2, S2, HP2⟩
      case round =>
        clear S2 HP2
        obtain ⟨B, dk, rfl, hB20, hBm, hkx, hds, S1, HP⟩ := hrel
        by_cases hlt : B < N
        · have hltz : (B : Int) < (N : Int) := by omega
          have HP3 := Lib.hid HP.out.start
          clear HP
          go_wp2_with fail
          go_loopg [7, 8] N (fun kx s7 s8 wr => ∃ (a : Nat) (dk : Array Mb), s7 = .int .i64 a ∧ s8 = .int .i64 ((a + 2 * B : Nat) : Int) ∧ a ≤ N ∧ N - a ≤ kx ∧ dk.size = N ∧ Hid (SWK Mb.six 6 w g 0 dk wr) ∧ Hid (P3 l B a dk))
          case atStart => exact ⟨0, dk, rfl, by go_num, Nat.zero_le _, Nat.le_refl _, hds, S1, HP3⟩
          case round =>
            clear S1 HP3
            obtain ⟨a, dk, rfl, rfl, haN, hkx2, hds2, S1, HP⟩ := hrel
            by_cases hlt2 : a + 2 * B ≤ N
            · have hltz2 : ((a + 2 * B : Nat) : Int) ≤ (N : Int) := by omega
              obtain ⟨X, u, v, Y, h1, h2, h3, h4, h5, h6, h7⟩ := HP.out.two (by omega) (by omega)
              have HC := Lib.hid (SYM.out X u v Y dk wr hds2 S1.out h1 h2 h3 (by omega) (by omega) a (a + B) (a + 2 * B) h4.symm (by omega) (by omega))
              have H7 := Lib.hid h7
              have e1 : ((a + B : Nat) : Int) = (a : Int) + (B : Int) := by omega
              rw [e1] at HC
              clear h1 h2 h3 h4 h5 h6 h7 e1 HP S1
              go_wp2_with fail
              refine HC.out.mono ?_
              rintro e w1 ⟨rfl, d3, z, hd3, hm3, hs3, hS3⟩
              have S3 := Lib.hid hS3
              have HP4 := Lib.hid (H7.out d3 z hd3 hm3)
              clear hS3 HC H7 hd3 hm3
              go_wp2_with fail
              go_roundg (N - (a + 2 * B))
              case measure => omega
              case rel => exact ⟨a + 2 * B, d3, rfl, by go_num, hlt2, Nat.le_refl _, hs3, S3, HP4⟩
            · have hltz2 : ¬ ((a + 2 * B : Nat) : Int) ≤ (N : Int) := by omega
              by_cases hlt3 : a + B < N
              · have hltz3 : (a : Int) + (B : Int) < (N : Int) := by omega
                obtain ⟨X, u, v, h1, h2, h3, h4, h5, h6, h8, h7⟩ := HP.out.part (by omega) (by omega)
                have HC := Lib.hid (SYM.out X u v [] dk wr hds2 S1.out h1 h2 h3 (by omega) h6 a (a + B) N h4.symm (by omega) (by omega))
                have H7 := Lib.hid h7
                have e1 : ((a + B : Nat) : Int) = (a : Int) + (B : Int) := by omega
                rw [e1] at HC
                clear h1 h2 h3 h4 h5 h6 h7 h8 e1 HP S1
                go_wp2_with fail
                refine HC.out.mono ?_
                rintro e w1 ⟨rfl, d3, z, hd3, hm3, hs3, hS3⟩
                have S3 := Lib.hid hS3
                have HP4 := Lib.hid (H7.out d3 z hd3 hm3)
                clear hS3 HC H7 hd3 hm3
                go_wp2_with fail
                go_roundg (N - B * 2)
                case measure => omega
                case rel => exact ⟨B * 2, d3, by go_num, by omega, by omega, Nat.le_refl _, hs3, S3, HP4⟩
              · have hltz3 : ¬ (a : Int) + (B : Int) < (N : Int) := by omega
                have HP4 := Lib.hid (HP.out.done (by omega))
                clear HP
                go_wp2_with fail
                go_roundg (N - B * 2)
                case measure => omega
                case rel => exact ⟨B * 2, dk, by go_num, by omega, by omega, Nat.le_refl _, hds2, S1, HP4⟩
        · have hltz : ¬ (B : Int) < (N : Int) := by omega
          go_wp2_with fail
          go_end0
          exact ⟨rfl, FIN.out B dk _ HP.out hds (by omega) S1.out⟩
theorem sortStable_any (g cap : Nat) (d : Array Mb) (w : World) (hH : HoldsK Mb.six 6 w g 0 d) (hg : g < w.heap.size) (hn : d.size ≤ 1000000) :
    Calls Tryz.prog 189 #[.slice (some ⟨g, 0, none⟩) d.size cap, .func (.func 190) #[] #[]] w fun e w' =>
      e = .returned (.tuple #[]) ∧ ∃ n os, w' = sortWorldK Mb.six 6 w g 0 n (Sort.insertionSort (Go.Proofs.ltOf mcf) d 0 d.size) os := by
  have hcon := Lib.hid (stable_any g cap d w hH hg hn)
  clear hH hg hn
  generalize insertionSort (Go.Proofs.ltOf mcf) d 0 d.size = r at *
  generalize d.size = n at *
  go_enter Tryz.func189, Tryz.ntmps189
  go_wp2_with (go_at_call 216; refine hcon.out.mono ?_; rintro e w' ⟨rfl, m, ps, rfl⟩)
  go_end0
  exact ⟨rfl, _, _, rfl⟩
end Go.Proofs.YtfmpdcmedaiooaaGreatDoor
namespace Go.Proofs.YtfmpdcmedaiooaaGreatDoor
open Go.RowKit
/-- A slice of values that came in. -/
structure SliceV (w : World) (A : Option Addr) (c : Nat) (l : List V) (xs : List Value) : Prop where
  row : Row w A l xs
  nil : A = none → c = 0
  le : l.length ≤ c
  cap : c ≤ maxLen
  lim : l.length ≤ 140737488355328
theorem SliceV.lies {w : World} {A : Option Addr} {c : Nat} {l : List V} {xs : List Value} (h : SliceV w A c l xs) : Lies w (· < w.heap.size) (arrV l) [.int .i64 5, .int .i64 0, .string ⟨#[]⟩, .slice none 0 0, .slice A l.length c] := by
  unfold arrV
  rw [Lies]
  exact ⟨⟨Nat.zero_le _, by simp, Nat.zero_le _, h.lim⟩, none, 0, A, c, xs, rfl, fun _ => rfl, h.nil, ⟨Nat.le_refl _, Nat.zero_le _⟩, ⟨h.le, h.cap⟩, Rs.nil _ _ _, h.row.rs, h.row.lies⟩
theorem SliceV.below {w w' : World} {A : Option Addr} {c : Nat} {l : List V} {xs : List Value} (h : SliceV w A c l xs) (hb : Below w.heap.size w w') : SliceV w' A c l xs := ⟨h.row.below hb, h.nil, h.le, h.cap, h.lim⟩
/-- What Arr hands back. -/
def arrR (l : List V) : V := if l.all valid = true then finV (arrV l) else vnull
def arrE (l : List V) : Int := if l.all valid = true then finE (arrV l) else 1
set_option maxHeartbeats 1000000 in
set_option maxRecDepth 100000 in
theorem arr_any (l : List V) (A : Option Addr) (c : Nat) (xs : List Value) (w : World) (h : SliceV w A c l xs) : Calls Tryz.prog 60 #[.slice A l.length c] w (RetPost (arrR l) (arrE l) w) := by
  have hv := Lib.hid (fun W (hW : Below w.heap.size w W) => allValid_any l A c xs W (h.row.below hW) h.lim)
  unfold arrR arrE
  generalize l.all valid = x at hv ⊢
  cases x with
  | false =>
    rw [if_neg (by decide), if_neg (by decide)]
    go_enter Tryz.func60, Tryz.ntmps60
    go_wp2_with fail
    refine (hv.out _ (below1 _ _)).mono ?_
    rintro e1 w1 ⟨rfl, hb1⟩
    have hB1 := Lib.hid (one_step (Below.refl _ _) hb1)
    have hr1 := Lib.hid ((Box.laid w 25 #[.int .i64 0, .int .i64 0, .string ⟨#[]⟩, .slice none 0 0, .slice none 0 0]).below hB1.out (by omega))
    obtain ⟨t0, t1, t2, t3, t4⟩ := box5 hr1.out
    have z0 := hr1.out.free 0
    have z1 := hr1.out.free 1
    have z2 := hr1.out.free 2
    have z3 := hr1.out.free 3
    have z4 := hr1.out.free 4
    go_wp2_with fail
    refine bodyPost_ret (v := .tuple #[.agg #[.int .i64 0, .int .i64 0, .string ⟨#[]⟩, .slice none 0 0, .slice none 0 0], .int .i64 1]) (by simp [results, Tryz.results60, go_sem, t0, t1, t2, t3, t4]) rfl ?_
    exact ret_of (ds := [.int .i64 0, .int .i64 0, .string ⟨#[]⟩, .slice none 0 0, .slice none 0 0]) ((((((below_one hB1.out).setCell (by simp) _).setCell (by simp) _).setCell (by simp) _).setCell (by simp) _).setCell (by simp) _) (lies_null _ _)
  | true =>
    rw [if_pos rfl, if_pos rfl]
    have hf := Lib.hid (fun W (hW : Below w.heap.size w W) => ret_open (finish_any (arrV l) [.int .i64 5, .int .i64 0, .string ⟨#[]⟩, .slice none 0 0, .slice A l.length c] W (below_lies hW h.lies)))
    clear h
    go_enter Tryz.func60, Tryz.ntmps60
    go_wp2_with fail
    refine (hv.out _ (below1 _ _)).mono ?_
    rintro e1 w1 ⟨rfl, hb1⟩
    have hB1 := Lib.hid (one_step (Below.refl _ _) hb1)
    have hr1 := Lib.hid ((Box.laid w 25 #[.int .i64 0, .int .i64 0, .string ⟨#[]⟩, .slice none 0 0, .slice none 0 0]).below hB1.out (by omega))
    go_wp2_with fail
    refine (hf.out _ (below_one hB1.out)).mono ?_
    rintro e2 w2 ⟨rk, rn, rs, rks, res, RA, ra, RC, rc, hrv, rfl, hb2, hl2⟩
    have HRV := Lib.hid hrv
    have HL2 := Lib.hid hl2
    have hres : Box w2 w.heap.size 25 #[.int .i64 0, .int .i64 0, .string ⟨#[]⟩, .slice none 0 0, .slice none 0 0] := hr1.out.below hb2 hr1.out.lt
    have hB2 := Lib.hid (chain (below_one hB1.out) hb2)
    have hw1 : w.heap.size + 1 ≤ w1.heap.size := by have := hB1.out.size; simpa using this
    clear hrv hl2 hb2
    obtain ⟨t0, t1, t2, t3, t4⟩ := box5 hres
    have z0 := hres.free 0
    have z1 := hres.free 1
    have z2 := hres.free 2
    have z3 := hres.free 3
    have z4 := hres.free 4
    clear hres
    go_wp2_with fail
    refine bodyPost_ret (v := .tuple #[.agg #[.int .i64 rk, .int .i64 rn, .string rs, .slice RA rks.length ra, .slice RC res.length rc], .int .i64 (finE (arrV l))]) (by simp [results, Tryz.results60, go_sem, t0, t1, t2, t3, t4]) rfl ?_
    refine ret_of (ds := [.int .i64 rk, .int .i64 rn, .string rs, .slice RA rks.length ra, .slice RC res.length rc]) (((((hB2.out.setCell (by simp) _).setCell (by simp) _).setCell (by simp) _).setCell (by simp) _).setCell (by simp) _) ?_
    refine HL2.out.move fun b hb => ⟨⟨by omega, by simp [World.setCell]; omega⟩, ?_⟩
    have hbb : w.heap.size + 1 ≤ b := by omega
    rw [Below.heap_setCell _ _ _ _ (by simp; omega), Below.heap_setCell _ _ _ _ (by simp; omega), Below.heap_setCell _ _ _ _ (by simp; omega), Below.heap_setCell _ _ _ _ (by simp; omega), Below.heap_setCell _ _ _ _ (by simp; omega)]
end Go.Proofs.YtfmpdcmedaiooaaGreatDoor
namespace Go.Proofs.YtfmpdcmedaiooaaGreatDoor
open Go.RowKit Go.Sort
/-- Of several neighbours with one key, the last. -/
def lastOf : List Mb → List Mb
  | [] => []
  | m :: r => match r with
    | [] => [m]
    | x :: _ => if x.key = m.key then lastOf r else m :: lastOf r
theorem lastOf_same {m x : Mb} {r : List Mb} (h : x.key = m.key) : lastOf (m :: x :: r) = lastOf (x :: r) := by rw [lastOf]; simp only [if_pos h]
theorem lastOf_keep {m x : Mb} {r : List Mb} (h : ¬ x.key = m.key) : lastOf (m :: x :: r) = m :: lastOf (x :: r) := by rw [lastOf]; simp only [if_neg h]
theorem lastOf_mem {m : Mb} : ∀ {l : List Mb}, m ∈ lastOf l → m ∈ l
  | [], h => by simp [lastOf] at h
  | [x], h => by simpa [lastOf] using h
  | x :: y :: r, h => by
    by_cases hk : y.key = x.key
    · rw [lastOf_same hk] at h
      exact List.mem_cons_of_mem _ (lastOf_mem h)
    · rw [lastOf_keep hk] at h
      rcases List.mem_cons.1 h with rfl | h
      · exact List.mem_cons_self
      · exact List.mem_cons_of_mem _ (lastOf_mem h)
/-- The object of members. -/
def objV (ms : List Mb) : V := .mk 6 0 ⟨#[]⟩ (ms.map Mb.key) (ms.map Mb.v)
/-- A member and where its value's cells are read. -/
structure MAt (w : World) (S : Nat → Prop) (B : Option Addr) (i : Nat) (m : Mb) : Prop where
  at_ : ∃ b o, B = some ⟨b, o, none⟩ ∧ S b ∧ w.cell? ⟨b, o + i * 5, none⟩ = some (.int .i64 m.k) ∧ w.cell? ⟨b, o + i * 5 + 1, none⟩ = some (.int .i64 m.n) ∧ w.cell? ⟨b, o + i * 5 + 2, none⟩ = some (.string m.s) ∧
    w.cell? ⟨b, o + i * 5 + 3, none⟩ = some (.slice m.A m.ks.length m.a) ∧ w.cell? ⟨b, o + i * 5 + 4, none⟩ = some (.slice m.B m.es.length m.b)
  lies : Lies w S m.v m.five
/-- The row after i members were stored. -/
def part (ms : List Mb) (i : Nat) : Array Mb := (ms.take i ++ List.replicate (ms.length - i) default).toArray
theorem part_size (ms : List Mb) {i : Nat} (h : i ≤ ms.length) : (part ms i).size = ms.length := by simp [part]; omega
theorem part_all (ms : List Mb) : part ms ms.length = ms.toArray := by simp [part]
theorem part_step (ms : List Mb) {i : Nat} {m : Mb} (hm : ms[i]? = some m) : flatK Mb.six 6 (part ms (i + 1)) = setMany (flatK Mb.six 6 (part ms i)) (i * 6) m.six := by
  obtain ⟨hi, hm'⟩ := List.getElem?_eq_some_iff.1 hm
  have s1 := part_size ms (Nat.le_of_lt hi)
  have s2 := part_size ms (show i + 1 ≤ ms.length from hi)
  refine ext_get! (by simp [s1, s2]) fun t ht => ?_
  have ht1 : t < (part ms (i + 1)).size * 6 := by simpa using ht
  have ht2 : t < (part ms i).size * 6 := by rw [s2] at ht1; rw [s1]; exact ht1
  rw [get_setMany _ _ _ t (by simpa using ht2), get_flatK _ _ _ t ht1, get_flatK _ _ _ t ht2, six_len]
  have hq : t / 6 < ms.length := by rw [s1] at ht2; omega
  by_cases h : i * 6 ≤ t ∧ t < i * 6 + 6
  · rw [if_pos h]
    have e1 : t / 6 = i := by omega
    have e2 : t % 6 = t - i * 6 := by omega
    have : (part ms (i + 1))[i]! = m := by
      unfold part
      rw [getElem!_def, List.getElem?_toArray, List.getElem?_append_left (by simp; omega), List.getElem?_take_of_lt (by omega), hm]
    rw [e1, e2, this]
  · rw [if_neg h]
    have e1 : t / 6 ≠ i := by omega
    have : (part ms (i + 1))[t / 6]! = (part ms i)[t / 6]! := by
      unfold part
      rw [getElem!_def, getElem!_def, List.getElem?_toArray, List.getElem?_toArray]
      by_cases hlt : t / 6 < i
      · rw [List.getElem?_append_left (by simp; omega), List.getElem?_append_left (by simp; omega), List.getElem?_take_of_lt (by omega), List.getElem?_take_of_lt (by omega)]
      · rw [List.getElem?_append_right (by simp; omega), List.getElem?_append_right (by simp; omega), List.getElem?_replicate, List.getElem?_replicate, if_pos (by simp; omega), if_pos (by simp; omega)]
    rw [this]
theorem part_holds {w : World} {g i : Nat} {ms : List Mb} {m : Mb} (h : HoldsK Mb.six 6 w g 0 (part ms i)) (hm : ms[i]? = some m) : HoldsK Mb.six 6 (w.setCells g (0 + i * 6) m.six) g 0 (part ms (i + 1)) := by
  obtain ⟨hi, -⟩ := List.getElem?_eq_some_iff.1 hm
  unfold HoldsK
  rw [part_step ms hm]
  exact Go.Proofs.holds_setCells_c h (i * 6) m.six (by rw [size_flatK, part_size ms (Nat.le_of_lt hi), six_len]; omega)
/-- A member's six cells. -/
theorem holds_six {w : World} {g : Nat} {d : Array Mb} (h : HoldsK Mb.six 6 w g 0 d) {i : Nat} {m : Mb} (hm : d[i]? = some m) :
    w.cell? ⟨g, i * 6, none⟩ = some (.string m.key) ∧ w.cell? ⟨g, i * 6 + 1, none⟩ = some (.int .i64 m.k) ∧ w.cell? ⟨g, i * 6 + 2, none⟩ = some (.int .i64 m.n) ∧ w.cell? ⟨g, i * 6 + 3, none⟩ = some (.string m.s) ∧
      w.cell? ⟨g, i * 6 + 4, none⟩ = some (.slice m.A m.ks.length m.a) ∧ w.cell? ⟨g, i * 6 + 5, none⟩ = some (.slice m.B m.es.length m.b) := by
  obtain ⟨hi, hm'⟩ := Array.getElem?_eq_some_iff.1 hm
  have e : d[i]! = m := by rw [getElem!_def, hm]
  have c := fun (c : Nat) (hc : c < 6) => (HoldsK.cell h hi hc).1
  rw [e] at c
  simp only [Nat.zero_add] at c
  exact ⟨c 0 (by omega), c 1 (by omega), c 2 (by omega), c 3 (by omega), c 4 (by omega), c 5 (by omega)⟩
theorem holds_free {w : World} {g : Nat} {d : Array Mb} (h : HoldsK Mb.six 6 w g 0 d) {i : Nat} (hi : i < d.size) :
    w.frozen? ⟨g, i * 6, none⟩ = false ∧ w.frozen? ⟨g, i * 6 + 1, none⟩ = false ∧ w.frozen? ⟨g, i * 6 + 2, none⟩ = false ∧ w.frozen? ⟨g, i * 6 + 3, none⟩ = false ∧ w.frozen? ⟨g, i * 6 + 4, none⟩ = false ∧ w.frozen? ⟨g, i * 6 + 5, none⟩ = false := by
  have c := fun (c : Nat) (hc : c < 6) => (HoldsK.cell h hi hc).2
  simp only [Nat.zero_add] at c
  exact ⟨c 0 (by omega), c 1 (by omega), c 2 (by omega), c 3 (by omega), c 4 (by omega), c 5 (by omega)⟩
/-- Behind a sort nothing but its row has turned. -/
theorem sort_grown {w : World} {g n : Nat} {d : Array Mb} {os : Array Obj} : w.grownBy (sortWorldK Mb.six 6 w g 0 n d os) (some g) := by
  unfold sortWorldK putRowK
  refine ⟨rfl, rfl, rfl, by simp, fun k hk hne => ?_⟩
  rw [heap_grow_old _ _ (by simpa using hk)]
  have : g ≠ k := fun e => hne (by rw [e])
  simp [putRow, mapBlock, Sort.ahead, Array.getElem?_modify, this]
theorem holds_below {w w' : World} {g : Nat} {d : Array Mb} (h : HoldsK Mb.six 6 w g 0 d) (hb : w'.heap[g]? = w.heap[g]?) : HoldsK Mb.six 6 w' g 0 d := by
  intro j hj
  have := h j hj
  refine ⟨(World.cell?_of_block hb).trans this.1, ?_⟩
  have e : w'.frozen? ⟨g, 0 + j, none⟩ = w.frozen? ⟨g, 0 + j, none⟩ := by simp only [World.frozen?, hb]
  rw [e]
  exact this.2
end Go.Proofs.YtfmpdcmedaiooaaGreatDoor

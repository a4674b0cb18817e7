/- Blocks of ascending members, plain: what the passes of a stable sort leave. Nothing of the program is named here. slices.stableCmpFunc and SortStableFunc at members, whatever their number: the stable order. -/
import Derived.Test.YtmfjpcmbdgbjjaaGreatDoorQ33
import Derived.Test.YtmfjpcmbdgbjjaaGreatDoorQ32
import Derived.Test.YtmfjpcmbdgbjjaaGreatDoorQ35
set_option linter.unusedVariables false
set_option linter.unusedSimpArgs false
namespace Go.Proofs.YtmfjpcmbdgbjjaaGreatDoor
open Go.RowKit Go.Sort
/-- Blocks of B ascending members, the last one perhaps shorter. -/
inductive Bk (B : Nat) : List Mb → Prop
  | last {l : List Mb} : l.length ≤ B → So l → Bk B l
  | cons {a r : List Mb} : a.length = B → So a → Bk B r → Bk B (a ++ r)
/-- Whole blocks of B ascending members. -/
inductive FB (B : Nat) : List Mb → Prop
  | nil : FB B []
  | snoc {p z : List Mb} : FB B p → z.length = B → So z → FB B (p ++ z)
theorem FB.bk {B : Nat} {p : List Mb} (h : FB B p) : ∀ {r : List Mb}, Bk B r → Bk B (p ++ r) := by
  induction h with
  | nil => exact fun h => h
  | snoc h1 h2 h3 ih =>
    intro r hr
    rw [List.append_assoc]
    exact ih (Bk.cons h2 h3 hr)
theorem so_nil : So [] := List.Pairwise.nil
theorem Bk.small {B : Nat} {l : List Mb} (h : Bk B l) (hl : l.length ≤ B) : So l := by
  cases h with
  | last _ h => exact h
  | @cons a r h1 h2 _ =>
    simp at hl
    obtain rfl : r = [] := List.eq_nil_of_length_eq_zero (by omega)
    simpa using h2
theorem Bk.one {B : Nat} {l : List Mb} (h : Bk B l) (hl : B < l.length) : ∃ a r, l = a ++ r ∧ a.length = B ∧ So a ∧ Bk B r := by
  cases h with
  | last h _ => omega
  | @cons a r h1 h2 h3 => exact ⟨a, r, rfl, h1, h2, h3⟩
theorem Bk.two {B : Nat} {l : List Mb} (h : Bk B l) (hB : 1 ≤ B) (hl : 2 * B ≤ l.length) : ∃ u v Y, l = u ++ (v ++ Y) ∧ u.length = B ∧ v.length = B ∧ So u ∧ So v ∧ Bk B Y := by
  obtain ⟨u, r, rfl, h1, h2, h3⟩ := h.one (by omega)
  simp at hl
  cases h3 with
  | last h4 h5 => exact ⟨u, r, [], by simp, h1, by omega, h2, h5, Bk.last (by simp) so_nil⟩
  | @cons v Y h4 h5 h6 => exact ⟨u, v, Y, rfl, h1, h4, h2, h5, h6⟩
theorem Bk.part {B : Nat} {l : List Mb} (h : Bk B l) (hl : B < l.length) (hl2 : l.length < 2 * B) : ∃ u v, l = u ++ v ∧ u.length = B ∧ So u ∧ So v := by
  obtain ⟨u, r, rfl, h1, h2, h3⟩ := h.one hl
  simp at hl2
  exact ⟨u, r, rfl, h1, h2, h3.small (by omega)⟩
/-- The same members at each key, in one order. -/
def SameK (l l' : List Mb) : Prop := ∀ k, fk k l' = fk k l
theorem SameK.refl (l : List Mb) : SameK l l := fun _ => rfl
theorem SameK.mid {l X u z Y : List Mb} (h : SameK l (X ++ (u ++ Y))) (hz : ∀ k, fk k z = fk k u) : SameK l (X ++ (z ++ Y)) := fun k => by
  rw [← h k]
  simp only [fk_app, hz]
theorem Mg.same {l X u v z Y : List Mb} (h : SameK l (X ++ (u ++ (v ++ Y)))) (hz : Mg u v z) : SameK l (X ++ (z ++ Y)) := fun k => by
  rw [← h k]
  simp only [fk_app, hz.cls, List.append_assoc]
/-- The state of the first pass. -/
structure P1 (l : List Mb) (a : Nat) (d : Array Mb) : Prop where
  ex : ∃ p r, d.toList = p ++ r ∧ p.length = a ∧ FB 20 p
  same : SameK l d.toList
theorem P1.start (d : Array Mb) : P1 d.toList 0 d := ⟨⟨[], d.toList, rfl, rfl, FB.nil⟩, SameK.refl _⟩
theorem P1.step {l : List Mb} {a : Nat} {d : Array Mb} (h : P1 l a d) (ha : a + 20 ≤ d.size) : P1 l (a + 20) (insertionSort (Go.Proofs.ltOf mcf) d a (a + 20)) := by
  obtain ⟨⟨p, r, h1, h2, h3⟩, h4⟩ := h
  have hl : d.size = p.length + r.length := by rw [← Array.length_toList, h1]; simp
  obtain ⟨u, Y, rfl, hu⟩ := cut_list r 20 (by omega)
  obtain ⟨z, z1, z2, z3, z4⟩ := ins_part (d := d) (X := p) (u := u) (Y := Y) h1 h2.symm (show a + 20 = p.length + u.length by omega)
  refine ⟨⟨p ++ z, Y, by rw [z1]; simp, by simp; omega, FB.snoc h3 (by omega) z2⟩, ?_⟩
  rw [z1]
  rw [h1] at h4
  exact h4.mid z4
/-- The state between two passes. -/
structure P2 (l : List Mb) (B : Nat) (d : Array Mb) : Prop where
  bk : Bk B d.toList
  same : SameK l d.toList
theorem P1.done {l : List Mb} {a n : Nat} {d : Array Mb} (h : P1 l a d) (ha : ¬ a + 20 ≤ d.size) (han : a ≤ d.size) (hn : n = d.size) : P2 l 20 (insertionSort (Go.Proofs.ltOf mcf) d a n) := by
  subst hn
  obtain ⟨⟨p, r, h1, h2, h3⟩, h4⟩ := h
  have hl : d.size = p.length + r.length := by rw [← Array.length_toList, h1]; simp
  obtain ⟨z, z1, z2, z3, z4⟩ := ins_part (d := d) (X := p) (u := r) (Y := []) (by rw [h1]; simp) h2.symm hl
  refine ⟨?_, ?_⟩
  · rw [z1, List.append_nil]
    exact h3.bk (Bk.last (by omega) z2)
  · rw [z1]
    rw [h1, ← List.append_nil r] at h4
    exact h4.mid z4
/-- The state within a pass. -/
structure P3 (l : List Mb) (B a : Nat) (d : Array Mb) : Prop where
  ex : ∃ p r, d.toList = p ++ r ∧ p.length = a ∧ FB (2 * B) p ∧ Bk B r
  same : SameK l d.toList
theorem P2.start {l : List Mb} {B : Nat} {d : Array Mb} (h : P2 l B d) : P3 l B 0 d := ⟨⟨[], d.toList, rfl, rfl, FB.nil, h.bk⟩, h.same⟩
/-- Two blocks to merge .. -/
theorem P3.two {l : List Mb} {B a : Nat} {d : Array Mb} (h : P3 l B a d) (hB : 1 ≤ B) (ha : a + 2 * B ≤ d.size) : ∃ X u v Y, d.toList = X ++ (u ++ (v ++ Y)) ∧ So u ∧ So v ∧ X.length = a ∧ u.length = B ∧ v.length = B ∧
    ∀ (d' : Array Mb) (z : List Mb), d'.toList = X ++ (z ++ Y) → Mg u v z → P3 l B (a + 2 * B) d' := by
  obtain ⟨⟨p, r, h1, h2, h3, h5⟩, h4⟩ := h
  have hl : d.size = p.length + r.length := by rw [← Array.length_toList, h1]; simp
  obtain ⟨u, v, Y, rfl, k1, k2, k3, k4, k5⟩ := h5.two hB (by omega)
  refine ⟨p, u, v, Y, h1, k3, k4, h2, k1, k2, fun d' z hd hz => ⟨⟨p ++ z, Y, by rw [hd]; simp, by simp [hz.len]; omega, FB.snoc h3 (by rw [hz.len]; omega) hz.so, k5⟩, ?_⟩⟩
  rw [hd]
  rw [h1] at h4
  exact hz.same h4
/-- .. or one and a part .. -/
theorem P3.part {l : List Mb} {B a : Nat} {d : Array Mb} (h : P3 l B a d) (ha : ¬ a + 2 * B ≤ d.size) (ha2 : a + B < d.size) : ∃ X u v, d.toList = X ++ (u ++ (v ++ [])) ∧ So u ∧ So v ∧ X.length = a ∧ u.length = B ∧ 1 ≤ v.length ∧ X.length + u.length + v.length = d.size ∧
    ∀ (d' : Array Mb) (z : List Mb), d'.toList = X ++ (z ++ []) → Mg u v z → P2 l (B * 2) d' := by
  obtain ⟨⟨p, r, h1, h2, h3, h5⟩, h4⟩ := h
  have hl : d.size = p.length + r.length := by rw [← Array.length_toList, h1]; simp
  obtain ⟨u, v, rfl, k1, k2, k3⟩ := h5.part (by omega) (by omega)
  simp only [List.length_append] at hl
  refine ⟨p, u, v, by rw [h1]; simp, k2, k3, h2, k1, by omega, by omega, fun d' z hd hz => ⟨?_, ?_⟩⟩
  · rw [hd, List.append_nil, Nat.mul_comm]
    exact h3.bk (Bk.last (by rw [hz.len]; omega) hz.so)
  · rw [hd]
    rw [h1, ← List.append_nil v] at h4
    exact hz.same h4
/-- .. or nothing. -/
theorem P3.done {l : List Mb} {B a : Nat} {d : Array Mb} (h : P3 l B a d) (ha2 : ¬ a + B < d.size) : P2 l (B * 2) d := by
  obtain ⟨⟨p, r, h1, h2, h3, h5⟩, h4⟩ := h
  have hl : d.size = p.length + r.length := by rw [← Array.length_toList, h1]; simp
  refine ⟨?_, h4⟩
  rw [h1, Nat.mul_comm]
  exact h3.bk (Bk.last (by omega) (h5.small (by omega)))
/-- The end: it is what the insertion sort makes. -/
theorem P2.fin {B : Nat} {d d' : Array Mb} (h : P2 d.toList B d') (hB : d'.size ≤ B) : d' = insertionSort (Go.Proofs.ltOf mcf) d 0 d.size := by
  have h1 := h.bk.small (by simpa using hB)
  obtain ⟨i1, i2⟩ := ins_so d
  have := stable_one h1 i1 (fun k => (h.same k).trans (i2 k).symm)
  exact Array.toList_inj.1 this
end Go.Proofs.YtmfjpcmbdgbjjaaGreatDoor
namespace Go.Proofs.YtmfjpcmbdgbjjaaGreatDoor
open Go.Shelf Go.RowKit Go.Lib Go.Sort
theorem memT : MemT Tryz.prog 6 := {
  mixed := by kernel_rfl
  t0 := Tryz.underlying0
  a0 := Tryz.isAgg0
  z0 := Tryz.sizeOf0
  v0 := Tryz.zeroValue0
  t3 := Tryz.underlying3
  a3 := Tryz.isAgg3
  z3 := Tryz.sizeOf3
  v3 := Tryz.zeroValue3
  t4 := Tryz.underlying4
  a4 := Tryz.isAgg4
  z4 := Tryz.sizeOf4
  v4 := Tryz.zeroValue4
  t22 := Tryz.underlying178
  a22 := Tryz.isAgg178
  z22 := Tryz.sizeOf178
  v22 := Tryz.zeroValue178
  t25 := Tryz.underlying182
  a25 := Tryz.isAgg182
  z25 := Tryz.sizeOf182
  v25 := Tryz.zeroValue182
  t40 := Tryz.underlying98
  a40 := Tryz.isAgg98
  z40 := Tryz.sizeOf98
  v40 := Tryz.zeroValue98
  a24 := Tryz.isAgg180
  z24 := Tryz.sizeOf180 }
theorem sort_size (d : Array Mb) (a b : Nat) (hab : a ≤ b) (hb : b ≤ d.size) : (insertionSort (Go.Proofs.ltOf mcf) d a b).size = d.size := (insertionSort_holds (lt := Go.Proofs.ltOf mcf) mcf_swo d a b hab hb).1.1
/-- The insertion sort of a stretch, from a world of the sort's to a world of the sort's. -/
theorem ins_swk {g cap a b N : Nat} {d0 d : Array Mb} {w0 w : World} (hH : HoldsK Mb.six 6 w0 g 0 d0) (hg : g < w0.heap.size) (hs : d.size = d0.size) (hN : N = d0.size) (S : SWK Mb.six 6 w0 g 0 d w) (hab : a ≤ b) (hb : b ≤ d.size) (hsz : d.size < 4611686018427387904) :
    Calls Tryz.prog 226 #[.slice (some ⟨g, 0, none⟩) N cap, .int .i64 a, .int .i64 b, .func (.func 174) #[] #[]] w fun e w' =>
      e = .returned (.tuple #[]) ∧ SWK Mb.six 6 w0 g 0 (insertionSort (Go.Proofs.ltOf mcf) d a b) w' := by
  have hHd := S.holds hg hH hs
  have h := ins_any g cap a b d w hHd (S.lt hg) hab hb hsz
  rw [hN, ← hs]
  refine h.mono ?_
  rintro e w' ⟨rfl, n, os, rfl⟩
  exact ⟨rfl, S.on hg n _ os (sort_size d a b hab hb)⟩
theorem enters_obj1 : ∀ args w, (callFunc 174 args).run Tryz.prog w = .ok (.enter 174 args) w := enters_of Tryz.func174 (by kernel_rfl) rfl
theorem enters_swap : ∀ args w, (callFunc 252 args).run Tryz.prog w = .ok (.enter 252 args) w := enters_of Tryz.func252 (by kernel_rfl) rfl
theorem enters_rot : ∀ args w, (callFunc 241 args).run Tryz.prog w = .ok (.enter 241 args) w := enters_of Tryz.func241 (by kernel_rfl) rfl
theorem enters_sym : ∀ args w, (callFunc 227 args).run Tryz.prog w = .ok (.enter 227 args) w := enters_of Tryz.func227 (by kernel_rfl) rfl
theorem sym_any (g cap N : Nat) (d0 : Array Mb) (w0 : World) (hH : HoldsK Mb.six 6 w0 g 0 d0) (hg : g < w0.heap.size) (hN : d0.size = N) (hsz : N < 4611686018427387904) (X u v Y : List Mb) (d : Array Mb) (w : World) (hs : d.size = N) (S : SWK Mb.six 6 w0 g 0 d w) (hd : d.toList = X ++ (u ++ (v ++ Y))) (hu : So u) (hv : So v) (hu1 : 1 ≤ u.length) (hv1 : 1 ≤ v.length) (a m b : Nat) (ha : a = X.length) (hm : m = X.length + u.length) (hb : b = X.length + u.length + v.length) :
    Calls Tryz.prog 227 #[.slice (some ⟨g, 0, none⟩) N cap, .int .i64 a, .int .i64 m, .int .i64 b, .func (.func 174) #[] #[]] w (MgPost Mb.six 6 w0 g 0 N X u v Y) :=
  symMerge_gen memT Tryz.func252 Tryz.func241 Tryz.func227 enters_swap enters_rot enters_sym Mb.six 174 #[] g 0 cap N d0 w0 enters_obj1 ⟨six_len, six_one, hH, hg⟩ hN (mlays g 0 N w0) hsz _ X u v Y d w (Nat.le_refl _) hs S hd hu hv hu1 hv1 a m b ha hm hb
set_option maxHeartbeats 4000000 in
set_option maxRecDepth 100000 in
theorem stable_any (g cap : Nat) (d : Array Mb) (w : World) (hH : HoldsK Mb.six 6 w g 0 d) (hg : g < w.heap.size) (hn : d.size ≤ 1000000) :
    Calls Tryz.prog 203 #[.slice (some ⟨g, 0, none⟩) d.size cap, .int .i64 d.size, .func (.func 174) #[] #[]] w fun e w' =>
      e = .returned (.tuple #[]) ∧ ∃ n os, w' = sortWorldK Mb.six 6 w g 0 n (Sort.insertionSort (Go.Proofs.ltOf mcf) d 0 d.size) os := by
  have INS := Lib.hid (fun (a b : Nat) (dk : Array Mb) (W : World) (hs : dk.size = d.size) (S : SWK Mb.six 6 w g 0 dk W) (hab : a ≤ b) (hb : b ≤ d.size) => ins_swk (cap := cap) (N := d.size) (a := a) (b := b) hH hg hs rfl S hab (by omega) (by omega))
  have SYM := Lib.hid (fun (X u v Y : List Mb) (dk : Array Mb) (W : World) (hs : dk.size = d.size) (S : SWK Mb.six 6 w g 0 dk W) hd hu hv hu1 hv1 (a m b : Nat) ha hm hb => sym_any g cap d.size d w hH hg rfl (by omega) X u v Y dk W hs S hd hu hv hu1 hv1 a m b ha hm hb)
  have FIN := Lib.hid (fun (B : Nat) (dk : Array Mb) (W : World) (h : P2 d.toList B dk) (hs : dk.size = d.size) (hB : d.size ≤ B) (S : SWK Mb.six 6 w g 0 dk W) => show ∃ n os, W = sortWorldK Mb.six 6 w g 0 n (Sort.insertionSort (Go.Proofs.ltOf mcf) d 0 d.size) os by
    have := h.fin (by omega)
    rw [← this]
    exact S)
  have SZ := Lib.hid (fun (dk : Array Mb) (a b : Nat) hab hb => sort_size dk a b hab hb)
  have S0 := Lib.hid (SWK.start hH)
  have HP := Lib.hid (P1.start d)
  clear hH hg
  generalize insertionSort (Go.Proofs.ltOf mcf) d 0 d.size = res at FIN ⊢
  obtain ⟨l, hl⟩ : ∃ l, d.toList = l := ⟨_, rfl⟩
  rw [hl] at HP FIN
  clear hl
  obtain ⟨N, hN⟩ : ∃ N, d.size = N := ⟨_, rfl⟩
  have HN := Lib.hid hN
  rw [hN] at INS SYM FIN hn ⊢
  clear hN
  go_enter Tryz.func203, Tryz.ntmps203
  go_wp2_with fail
  go_loopg [7, 8] N (fun kx s7 s8 wr => ∃ (a : Nat) (dk : Array Mb), s7 = .int .i64 a ∧ s8 = .int .i64 ((a + 20 : Nat) : Int) ∧ a ≤ N ∧ N - a ≤ kx ∧ dk.size = N ∧ Hid (SWK Mb.six 6 w g 0 dk wr) ∧ Hid (P1 l a dk))
  case atStart => exact ⟨0, d, rfl, rfl, Nat.zero_le _, Nat.le_refl _, HN.out, S0, HP⟩
  case round =>
    clear S0 HP
    obtain ⟨a, dk, rfl, rfl, haN, hkx, hds, S1, HP⟩ := hrel
    by_cases hlt : a + 20 ≤ N
    · have hltz : ((a + 20 : Nat) : Int) ≤ (N : Int) := by omega
      have HC := Lib.hid (INS.out a (a + 20) dk wr hds S1.out (by omega) hlt)
      have HP2 := Lib.hid (HP.out.step (by omega))
      have hsz2 := SZ.out dk a (a + 20) (by omega) (by omega)
      generalize insertionSort (Go.Proofs.ltOf mcf) dk a (a + 20) = d2 at HC HP2 hsz2
      clear HP S1
      go_wp2_with fail
      refine HC.out.mono ?_
      rintro e w1 ⟨rfl, hS⟩
      have S2 := Lib.hid hS
      clear hS HC
      go_wp2_with fail
      go_roundg (N - (a + 20))
      case measure => omega
      case rel => exact ⟨a + 20, d2, rfl, by go_num, hlt, Nat.le_refl _, by omega, S2, HP2⟩
    · have hltz : ¬ ((a + 20 : Nat) : Int) ≤ (N : Int) := by omega
      have HC := Lib.hid (INS.out a N dk wr hds S1.out haN (Nat.le_refl _))
      have HP2 := Lib.hid (HP.out.done (n := N) (by omega) (by omega) (by omega))
      have hsz2 := SZ.out dk a N haN (by omega)
      generalize insertionSort (Go.Proofs.ltOf mcf) dk a N = d2 at HC HP2 hsz2
      rw [hds] at hsz2
      clear HP S1
      go_wp2_with fail
      refine HC.out.mono ?_
      rintro e w1 ⟨rfl, hS⟩
      have S2 := Lib.hid hS
      clear hS HC hltz hlt haN hkx hds
      go_wp2_with fail
      go_loopg [6, 7, 8, 9] N (fun kx s6 s7 s8 s9 wr => ∃ (B : Nat) (dk : Array Mb), s6 = .int .i64 B ∧ 20 ≤ B ∧ B ≤ 2000000 ∧ N - B ≤ kx ∧ dk.size = N ∧ Hid (SWK Mb.six 6 w g 0 dk wr) ∧ Hid (P2 l B dk))
      case atStart => exact ⟨20, d2, rfl, Nat.le_refl _, by omega, by omega, hsz2, S2, HP2⟩
      case round =>
        clear S2 HP2
        obtain ⟨B, dk, rfl, hB20, hBm, hkx, hds, S1, HP⟩ := hrel
        by_cases hlt : B < N
        · have hltz : (B : Int) < (N : Int) := by omega
          have HP3 := Lib.hid HP.out.start
          clear HP
          go_wp2_with fail
          go_loopg [7, 8] N (fun kx s7 s8 wr => ∃ (a : Nat) (dk : Array Mb), s7 = .int .i64 a ∧ s8 = .int .i64 ((a + 2 * B : Nat) : Int) ∧ a ≤ N ∧ N - a ≤ kx ∧ dk.size = N ∧ Hid (SWK Mb.six 6 w g 0 dk wr) ∧ Hid (P3 l B a dk))
          case atStart => exact ⟨0, dk, rfl, by go_num, Nat.zero_le _, Nat.le_refl _, hds, S1, HP3⟩
          case round =>
            clear S1 HP3
            obtain ⟨a, dk, rfl, rfl, haN, hkx2, hds2, S1, HP⟩ := hrel
            by_cases hlt2 : a + 2 * B ≤ N
            · have hltz2 : ((a + 2 * B : Nat) : Int) ≤ (N : Int) := by omega
              obtain ⟨X, u, v, Y, h1, h2, h3, h4, h5, h6, h7⟩ := HP.out.two (by omega) (by omega)
              have HC := Lib.hid (SYM.out X u v Y dk wr hds2 S1.out h1 h2 h3 (by omega) (by omega) a (a + B) (a + 2 * B) h4.symm (by omega) (by omega))
              have H7 := Lib.hid h7
              have e1 : ((a + B : Nat) : Int) = (a : Int) + (B : Int) := by omega
              rw [e1] at HC
              clear h1 h2 h3 h4 h5 h6 h7 e1 HP S1
              go_wp2_with fail
              refine HC.out.mono ?_
              rintro e w1 ⟨rfl, d3, z, hd3, hm3, hs3, hS3⟩
              have S3 := Lib.hid hS3
              have HP4 := Lib.hid (H7.out d3 z hd3 hm3)
              clear hS3 HC H7 hd3 hm3
              go_wp2_with fail
              go_roundg (N - (a + 2 * B))
              case measure => omega
              case rel => exact ⟨a + 2 * B, d3, rfl, by go_num, hlt2, Nat.le_refl _, hs3, S3, HP4⟩
            · have hltz2 : ¬ ((a + 2 * B : Nat) : Int) ≤ (N : Int) := by omega
              by_cases hlt3 : a + B < N
              · have hltz3 : (a : Int) + (B : Int) < (N : Int) := by omega
                obtain ⟨X, u, v, h1, h2, h3, h4, h5, h6, h8, h7⟩ := HP.out.part (by omega) (by omega)
                have HC := Lib.hid (SYM.out X u v [] dk wr hds2 S1.out h1 h2 h3 (by omega) h6 a (a + B) N h4.symm (by omega) (by omega))
                have H7 := Lib.hid h7
                have e1 : ((a + B : Nat) : Int) = (a : Int) + (B : Int) := by omega
                rw [e1] at HC
                clear h1 h2 h3 h4 h5 h6 h7 h8 e1 HP S1
                go_wp2_with fail
                refine HC.out.mono ?_
                rintro e w1 ⟨rfl, d3, z, hd3, hm3, hs3, hS3⟩
                have S3 := Lib.hid hS3
                have HP4 := Lib.hid (H7.out d3 z hd3 hm3)
                clear hS3 HC H7 hd3 hm3
                go_wp2_with fail
                go_roundg (N - B * 2)
                case measure => omega
                case rel => exact ⟨B * 2, d3, by go_num, by omega, by omega, Nat.le_refl _, hs3, S3, HP4⟩
              · have hltz3 : ¬ (a : Int) + (B : Int) < (N : Int) := by omega
                have HP4 := Lib.hid (HP.out.done (by omega))
                clear HP
                go_wp2_with fail
                go_roundg (N - B * 2)
                case measure => omega
                case rel => exact ⟨B * 2, dk, by go_num, by omega, by omega, Nat.le_refl _, hds2, S1, HP4⟩
        · have hltz : ¬ (B : Int) < (N : Int) := by omega
          go_wp2_with fail
          go_end0
          exact ⟨rfl, FIN.out B dk _ HP.out hds (by omega) S1.out⟩
theorem sortStable_any (g cap : Nat) (d : Array Mb) (w : World) (hH : HoldsK Mb.six 6 w g 0 d) (hg : g < w.heap.size) (hn : d.size ≤ 1000000) :
    Calls Tryz.prog 173 #[.slice (some ⟨g, 0, none⟩) d.size cap, .func (.func 174) #[] #[]] w fun e w' =>
      e = .returned (.tuple #[]) ∧ ∃ n os, w' = sortWorldK Mb.six 6 w g 0 n (Sort.insertionSort (Go.Proofs.ltOf mcf) d 0 d.size) os := by
  have hcon := Lib.hid (stable_any g cap d w hH hg hn)
  clear hH hg hn
  generalize insertionSort (Go.Proofs.ltOf mcf) d 0 d.size = r at *
  generalize d.size = n at *
  go_enter Tryz.func173, Tryz.ntmps173
  go_wp2_with (go_at_call 203; refine hcon.out.mono ?_; rintro e w' ⟨rfl, m, ps, rfl⟩)
  go_end0
  exact ⟨rfl, _, _, rfl⟩
end Go.Proofs.YtmfjpcmbdgbjjaaGreatDoor

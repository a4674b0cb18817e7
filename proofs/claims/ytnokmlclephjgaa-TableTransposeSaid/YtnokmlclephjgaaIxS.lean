/- slices.insertionSortCmpFunc, stableCmpFunc and SortStableFunc at int, the indexes into a list of keys: the stable order. -/
import Derived.Shelf.SlSortCmp.Insertion1
import Derived.Shelf.SlGeneric
import Derived.Ground.SlsfProg
import Derived.Test.YtnokmlclephjgaaIx2
set_option linter.unusedVariables false
set_option linter.unusedSimpArgs false
set_option linter.unusedSectionVars false
namespace Go.Proofs
open Go.Shelf Go.RowKit Go.Lib Go.Sort
def Try.insi_ren : Go.Shelf.Ren := ⟨fun | 20 => 60 | n => n, fun | 24 => 3 | 22 => 22 | 3 => 3 | 25 => 29 | 4 => 4 | 0 => 0 | n => n, fun | n => n⟩
theorem Try.insi : Go.Proofs.SlLaysF.n20 Try.prog Try.insi_ren := {
  mixed := by kernel_rfl
  f20 := ⟨Try.f60.name, by decide, Try.func60.trans (congrArg some (by kernel_rfl))⟩
  t0 := Try.underlying0
  a0 := Try.isAgg0
  z0 := Try.sizeOf0
  v0 := Try.zeroValue0
  t3 := Try.underlying3
  a3 := Try.isAgg3
  z3 := Try.sizeOf3
  v3 := Try.zeroValue3
  t4 := Try.underlying4
  a4 := Try.isAgg4
  z4 := Try.sizeOf4
  v4 := Try.zeroValue4
  t22 := Try.underlying22
  a22 := Try.isAgg22
  z22 := Try.sizeOf22
  v22 := Try.zeroValue22
  a24 := Try.isAgg3
  z24 := Try.sizeOf3
  t25 := Try.underlying29
  a25 := Try.isAgg29
  z25 := Try.sizeOf29
  v25 := Try.zeroValue29 }
end Go.Proofs
namespace Go.Proofs.Ytnokmlclephjgaa.Ix
open Go.Shelf Go.RowKit Go.Lib Go.Sort Go.Proofs.Ytnokmlclephjgaa
variable {K : List V} [Inhabited (Ik K)]
theorem ik_one : OneCell (Ik.enc (K := K)) := fun x => rfl
theorem sort_size (d : Array (Ik K)) (a b : Nat) (hab : a ≤ b) (hb : b ≤ d.size) : (insertionSort (Go.Proofs.ltOf mcI) d a b).size = d.size := (insertionSort_holds (lt := Go.Proofs.ltOf mcI) mcI_swo d a b hab hb).1.1
/-- The insertion sort of a stretch, from a world of the sort's to a world of the sort's. -/
theorem ins_swk {fg : Nat} {cb : Array Value} {g cap a b N : Nat} {d0 d : Array (Ik K)} {w0 w : World} (eg : ∀ args w, (callFunc fg args).run Try.prog w = .ok (.enter fg args) w) (hC : CmpLays1 Try.prog fg cb (Ik.enc (K := K)) (mcI (K := K)) g 0 d0.size w0) (R : Row1 Ik.enc w0 g 0 d0) (hs : d.size = d0.size) (hN : N = d0.size) (S : SW Ik.enc w0 g 0 d w) (hab : a ≤ b) (hb : b ≤ d.size) (hsz : d.size < 4611686018427387904) :
    Calls Try.prog 60 #[.slice (some ⟨g, 0, none⟩) N cap, .int .i64 a, .int .i64 b, .func (.func fg) #[] cb] w fun e w' =>
      e = .returned (.tuple #[]) ∧ SW Ik.enc w0 g 0 (insertionSort (Go.Proofs.ltOf mcI) d a b) w' := by
  have h := Any.insertionSortCmpFunc_s Try.insi Ik.enc mcI fg cb g 0 cap a b d0 d w0 w eg hC R hs.symm S hab hb hsz
  rw [hN, ← hs]
  exact h
set_option maxHeartbeats 4000000 in
set_option maxRecDepth 100000 in
theorem stable_any (fg : Nat) (cb : Array Value) (eg : ∀ args w, (callFunc fg args).run Try.prog w = .ok (.enter fg args) w) (g cap : Nat) (d : Array (Ik K)) (w : World) (hC : CmpLays1 Try.prog fg cb (Ik.enc (K := K)) (mcI (K := K)) g 0 d.size w) (hH : Holds Ik.enc w g 0 d) (hg : g < w.heap.size) (hn : d.size ≤ 1000000) :
    Calls Try.prog 52 #[.slice (some ⟨g, 0, none⟩) d.size cap, .int .i64 d.size, .func (.func fg) #[] cb] w fun e w' =>
      e = .returned (.tuple #[]) ∧ ∃ n os, w' = sortWorld Ik.enc w g 0 n (Sort.insertionSort (Go.Proofs.ltOf mcI) d 0 d.size) os := by
  have INS := Lib.hid (fun (a b : Nat) (dk : Array (Ik K)) (W : World) (hs : dk.size = d.size) (S : SW Ik.enc w g 0 dk W) (hab : a ≤ b) (hb : b ≤ d.size) => ins_swk (cap := cap) (N := d.size) (a := a) (b := b) eg hC ⟨ik_one, hH, hg⟩ hs rfl S hab (by omega) (by omega))
  have SYM := Lib.hid (fun (X u v Y : List (Ik K)) (dk : Array (Ik K)) (W : World) (hs : dk.size = d.size) (S : SW Ik.enc w g 0 dk W) hd hu hv hu1 hv1 (a m b : Nat) ha hm hb => symMerge_any fg cb g 0 cap d.size d w eg ⟨ik_one, hH, hg⟩ rfl hC (by omega) _ X u v Y dk W (Nat.le_refl _) hs S hd hu hv hu1 hv1 a m b ha hm hb)
  have FIN := Lib.hid (fun (B : Nat) (dk : Array (Ik K)) (W : World) (h : P2 d.toList B dk) (hs : dk.size = d.size) (hB : d.size ≤ B) (S : SW Ik.enc w g 0 dk W) => show ∃ n os, W = sortWorld Ik.enc w g 0 n (Sort.insertionSort (Go.Proofs.ltOf mcI) d 0 d.size) os by
    have := h.fin (by omega)
    rw [← this]
    exact S)
  have SZ := Lib.hid (fun (dk : Array (Ik K)) (a b : Nat) hab hb => sort_size dk a b hab hb)
  have S0 := Lib.hid (SW.start hH)
  have HP := Lib.hid (P1.start d)
  clear hH hg hC
  generalize insertionSort (Go.Proofs.ltOf mcI) d 0 d.size = res at FIN ⊢
  obtain ⟨l, hl⟩ : ∃ l, d.toList = l := ⟨_, rfl⟩
  rw [hl] at HP FIN
  clear hl
  obtain ⟨N, hN⟩ : ∃ N, d.size = N := ⟨_, rfl⟩
  have HN := Lib.hid hN
  rw [hN] at INS SYM FIN hn ⊢
  clear hN
  go_enter Try.func52, Try.ntmps52
  go_wp2_with fail
  go_loopg [7, 8] N (fun kx s7 s8 wr => ∃ (a : Nat) (dk : Array (Ik K)), s7 = .int .i64 a ∧ s8 = .int .i64 ((a + 20 : Nat) : Int) ∧ a ≤ N ∧ N - a ≤ kx ∧ dk.size = N ∧ Hid (SW Ik.enc w g 0 dk wr) ∧ Hid (P1 l a dk))
  case atStart => exact ⟨0, d, rfl, rfl, Nat.zero_le _, Nat.le_refl _, HN.out, S0, HP⟩
  case round =>
    clear S0 HP
    obtain ⟨a, dk, rfl, rfl, haN, hkx, hds, S1, HP⟩ := hrel
    by_cases hlt : a + 20 ≤ N
    · have hltz : ((a + 20 : Nat) : Int) ≤ (N : Int) := by omega
      have HC := Lib.hid (INS.out a (a + 20) dk wr hds S1.out (by omega) hlt)
      have HP2 := Lib.hid (HP.out.step (by omega))
      have hsz2 := SZ.out dk a (a + 20) (by omega) (by omega)
      generalize insertionSort (Go.Proofs.ltOf mcI) dk a (a + 20) = d2 at HC HP2 hsz2
      clear HP S1
      go_wp2_with fail
      refine HC.out.mono ?_
      rintro e w1 ⟨rfl, hS⟩
      have S2 := Lib.hid hS
      clear hS HC
      go_wp2_with fail
      go_roundg (N - (a + 20))
      case measure => omega
      case rel => exact ⟨a + 20, d2, rfl, by go_num, hlt, Nat.le_refl _, by omega, S2, HP2⟩
    · have hltz : ¬ ((a + 20 : Nat) : Int) ≤ (N : Int) := by omega
      have HC := Lib.hid (INS.out a N dk wr hds S1.out haN (Nat.le_refl _))
      have HP2 := Lib.hid (HP.out.done (n := N) (by omega) (by omega) (by omega))
      have hsz2 := SZ.out dk a N haN (by omega)
      generalize insertionSort (Go.Proofs.ltOf mcI) dk a N = d2 at HC HP2 hsz2
      rw [hds] at hsz2
      clear HP S1
      go_wp2_with fail
      refine HC.out.mono ?_
      rintro e w1 ⟨rfl, hS⟩
      have S2 := Lib.hid hS
      clear hS HC hltz hlt haN hkx hds
      go_wp2_with fail
      go_loopg [6, 7, 8, 9] N (fun kx s6 s7 s8 s9 wr => ∃ (B : Nat) (dk : Array (Ik K)), s6 = .int .i64 B ∧ 20 ≤ B ∧ B ≤ 2000000 ∧ N - B ≤ kx ∧ dk.size = N ∧ Hid (SW Ik.enc w g 0 dk wr) ∧ Hid (P2 l B dk))
      case atStart => exact ⟨20, d2, rfl, Nat.le_refl _, by omega, by omega, hsz2, S2, HP2⟩
      case round =>
        clear S2 HP2
        obtain ⟨B, dk, rfl, hB20, hBm, hkx, hds, S1, HP⟩ := hrel
        by_cases hlt : B < N
        · have hltz : (B : Int) < (N : Int) := by omega
          have HP3 := Lib.hid HP.out.start
          clear HP
          go_wp2_with fail
          go_loopg [7, 8] N (fun kx s7 s8 wr => ∃ (a : Nat) (dk : Array (Ik K)), s7 = .int .i64 a ∧ s8 = .int .i64 ((a + 2 * B : Nat) : Int) ∧ a ≤ N ∧ N - a ≤ kx ∧ dk.size = N ∧ Hid (SW Ik.enc w g 0 dk wr) ∧ Hid (P3 l B a dk))
          case atStart => exact ⟨0, dk, rfl, by go_num, Nat.zero_le _, Nat.le_refl _, hds, S1, HP3⟩
          case round =>
            clear S1 HP3
            obtain ⟨a, dk, rfl, rfl, haN, hkx2, hds2, S1, HP⟩ := hrel
            by_cases hlt2 : a + 2 * B ≤ N
            · have hltz2 : ((a + 2 * B : Nat) : Int) ≤ (N : Int) := by omega
              obtain ⟨X, u, v, Y, h1, h2, h3, h4, h5, h6, h7⟩ := HP.out.two (by omega) (by omega)
              have HC := Lib.hid (SYM.out X u v Y dk wr hds2 S1.out h1 h2 h3 (by omega) (by omega) a (a + B) (a + 2 * B) h4.symm (by omega) (by omega))
              have H7 := Lib.hid h7
              have e1 : ((a + B : Nat) : Int) = (a : Int) + (B : Int) := by omega
              rw [e1] at HC
              clear h1 h2 h3 h4 h5 h6 h7 e1 HP S1
              go_wp2_with fail
              refine HC.out.mono ?_
              rintro e w1 ⟨rfl, d3, z, hd3, hm3, hs3, hS3⟩
              have S3 := Lib.hid hS3
              have HP4 := Lib.hid (H7.out d3 z hd3 hm3)
              clear hS3 HC H7 hd3 hm3
              go_wp2_with fail
              go_roundg (N - (a + 2 * B))
              case measure => omega
              case rel => exact ⟨a + 2 * B, d3, rfl, by go_num, hlt2, Nat.le_refl _, hs3, S3, HP4⟩
            · have hltz2 : ¬ ((a + 2 * B : Nat) : Int) ≤ (N : Int) := by omega
              by_cases hlt3 : a + B < N
              · have hltz3 : (a : Int) + (B : Int) < (N : Int) := by omega
                obtain ⟨X, u, v, h1, h2, h3, h4, h5, h6, h8, h7⟩ := HP.out.part (by omega) (by omega)
                have HC := Lib.hid (SYM.out X u v [] dk wr hds2 S1.out h1 h2 h3 (by omega) h6 a (a + B) N h4.symm (by omega) (by omega))
                have H7 := Lib.hid h7
                have e1 : ((a + B : Nat) : Int) = (a : Int) + (B : Int) := by omega
                rw [e1] at HC
                clear h1 h2 h3 h4 h5 h6 h7 h8 e1 HP S1
                go_wp2_with fail
                refine HC.out.mono ?_
                rintro e w1 ⟨rfl, d3, z, hd3, hm3, hs3, hS3⟩
                have S3 := Lib.hid hS3
                have HP4 := Lib.hid (H7.out d3 z hd3 hm3)
                clear hS3 HC H7 hd3 hm3
                go_wp2_with fail
                go_roundg (N - B * 2)
                case measure => omega
                case rel => exact ⟨B * 2, d3, by go_num, by omega, by omega, Nat.le_refl _, hs3, S3, HP4⟩
              · have hltz3 : ¬ (a : Int) + (B : Int) < (N : Int) := by omega
                have HP4 := Lib.hid (HP.out.done (by omega))
                clear HP
                go_wp2_with fail
                go_roundg (N - B * 2)
                case measure => omega
                case rel => exact ⟨B * 2, dk, by go_num, by omega, by omega, Nat.le_refl _, hds2, S1, HP4⟩
        · have hltz : ¬ (B : Int) < (N : Int) := by omega
          go_wp2_with fail
          go_end0
          exact ⟨rfl, FIN.out B dk _ HP.out hds (by omega) S1.out⟩
theorem sortStable_any (fg : Nat) (cb : Array Value) (eg : ∀ args w, (callFunc fg args).run Try.prog w = .ok (.enter fg args) w) (g cap : Nat) (d : Array (Ik K)) (w : World) (hC : CmpLays1 Try.prog fg cb (Ik.enc (K := K)) (mcI (K := K)) g 0 d.size w) (hH : Holds Ik.enc w g 0 d) (hg : g < w.heap.size) (hn : d.size ≤ 1000000) :
    Calls Try.prog 41 #[.slice (some ⟨g, 0, none⟩) d.size cap, .func (.func fg) #[] cb] w fun e w' =>
      e = .returned (.tuple #[]) ∧ ∃ n os, w' = sortWorld Ik.enc w g 0 n (Sort.insertionSort (Go.Proofs.ltOf mcI) d 0 d.size) os := by
  have hcon := Lib.hid (stable_any fg cb eg g cap d w hC hH hg hn)
  clear hH hg hn hC
  generalize insertionSort (Go.Proofs.ltOf mcI) d 0 d.size = r at *
  generalize d.size = n at *
  go_enter Try.func41, Try.ntmps41
  go_wp2_with (go_at_call 52; refine hcon.out.mono ?_; rintro e w' ⟨rfl, m, ps, rfl⟩)
  go_end0
  exact ⟨rfl, _, _, rfl⟩
end Go.Proofs.Ytnokmlclephjgaa.Ix

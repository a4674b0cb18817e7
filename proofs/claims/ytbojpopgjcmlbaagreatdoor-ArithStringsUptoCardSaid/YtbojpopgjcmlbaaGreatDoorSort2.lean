/- slices.stableCmpFunc and SortStableFunc at members, whatever their number: the stable order. -/
import Derived.Test.YtbojpopgjcmlbaaGreatDoorSort
import Derived.Test.YtbojpopgjcmlbaaGreatDoorMrg2
import Derived.Test.YtbojpopgjcmlbaaGreatDoorMrg3
set_option linter.unusedVariables false
set_option linter.unusedSimpArgs false
namespace Go.Proofs.YtbojpopgjcmlbaaGreatDoor
open Go.Shelf Go.RowKit Go.Lib Go.Sort
theorem memT : MemT Tryz.prog 6 := {
  mixed := by kernel_rfl
  t0 := Tryz.underlying0
  a0 := Tryz.isAgg0
  z0 := Tryz.sizeOf0
  v0 := Tryz.zeroValue0
  t3 := Tryz.underlying3
  a3 := Tryz.isAgg3
  z3 := Tryz.sizeOf3
  v3 := Tryz.zeroValue3
  t4 := Tryz.underlying4
  a4 := Tryz.isAgg4
  z4 := Tryz.sizeOf4
  v4 := Tryz.zeroValue4
  t22 := Tryz.underlying175
  a22 := Tryz.isAgg175
  z22 := Tryz.sizeOf175
  v22 := Tryz.zeroValue175
  t25 := Tryz.underlying179
  a25 := Tryz.isAgg179
  z25 := Tryz.sizeOf179
  v25 := Tryz.zeroValue179
  t40 := Tryz.underlying108
  a40 := Tryz.isAgg108
  z40 := Tryz.sizeOf108
  v40 := Tryz.zeroValue108
  a24 := Tryz.isAgg177
  z24 := Tryz.sizeOf177 }
theorem sort_size (d : Array Mb) (a b : Nat) (hab : a ≤ b) (hb : b ≤ d.size) : (insertionSort (Go.Proofs.ltOf mcf) d a b).size = d.size := (insertionSort_holds (lt := Go.Proofs.ltOf mcf) mcf_swo d a b hab hb).1.1
/-- The insertion sort of a stretch, from a world of the sort's to a world of the sort's. -/
theorem ins_swk {g cap a b N : Nat} {d0 d : Array Mb} {w0 w : World} (hH : HoldsK Mb.six 6 w0 g 0 d0) (hg : g < w0.heap.size) (hs : d.size = d0.size) (hN : N = d0.size) (S : SWK Mb.six 6 w0 g 0 d w) (hab : a ≤ b) (hb : b ≤ d.size) (hsz : d.size < 4611686018427387904) :
    Calls Tryz.prog 229 #[.slice (some ⟨g, 0, none⟩) N cap, .int .i64 a, .int .i64 b, .func (.func 179) #[] #[]] w fun e w' =>
      e = .returned (.tuple #[]) ∧ SWK Mb.six 6 w0 g 0 (insertionSort (Go.Proofs.ltOf mcf) d a b) w' := by
  have hHd := S.holds hg hH hs
  have h := ins_any g cap a b d w hHd (S.lt hg) hab hb hsz
  rw [hN, ← hs]
  refine h.mono ?_
  rintro e w' ⟨rfl, n, os, rfl⟩
  exact ⟨rfl, S.on hg n _ os (sort_size d a b hab hb)⟩
theorem enters_obj1 : ∀ args w, (callFunc 179 args).run Tryz.prog w = .ok (.enter 179 args) w := enters_of Tryz.func179 (by kernel_rfl) rfl
theorem enters_swap : ∀ args w, (callFunc 249 args).run Tryz.prog w = .ok (.enter 249 args) w := enters_of Tryz.func249 (by kernel_rfl) rfl
theorem enters_rot : ∀ args w, (callFunc 246 args).run Tryz.prog w = .ok (.enter 246 args) w := enters_of Tryz.func246 (by kernel_rfl) rfl
theorem enters_sym : ∀ args w, (callFunc 230 args).run Tryz.prog w = .ok (.enter 230 args) w := enters_of Tryz.func230 (by kernel_rfl) rfl
theorem sym_any (g cap N : Nat) (d0 : Array Mb) (w0 : World) (hH : HoldsK Mb.six 6 w0 g 0 d0) (hg : g < w0.heap.size) (hN : d0.size = N) (hsz : N < 4611686018427387904) (X u v Y : List Mb) (d : Array Mb) (w : World) (hs : d.size = N) (S : SWK Mb.six 6 w0 g 0 d w) (hd : d.toList = X ++ (u ++ (v ++ Y))) (hu : So u) (hv : So v) (hu1 : 1 ≤ u.length) (hv1 : 1 ≤ v.length) (a m b : Nat) (ha : a = X.length) (hm : m = X.length + u.length) (hb : b = X.length + u.length + v.length) :
    Calls Tryz.prog 230 #[.slice (some ⟨g, 0, none⟩) N cap, .int .i64 a, .int .i64 m, .int .i64 b, .func (.func 179) #[] #[]] w (MgPost Mb.six 6 w0 g 0 N X u v Y) :=
  symMerge_gen memT Tryz.func249 Tryz.func246 Tryz.func230 enters_swap enters_rot enters_sym Mb.six 179 #[] g 0 cap N d0 w0 enters_obj1 ⟨six_len, six_one, hH, hg⟩ hN (mlays g 0 N w0) hsz _ X u v Y d w (Nat.le_refl _) hs S hd hu hv hu1 hv1 a m b ha hm hb
set_option maxHeartbeats 4000000 in
set_option maxRecDepth 100000 in
theorem stable_any (g cap : Nat) (d : Array Mb) (w : World) (hH : HoldsK Mb.six 6 w g 0 d) (hg : g < w.heap.size) (hn : d.size ≤ 1000000) :
    Calls Tryz.prog 203 #[.slice (some ⟨g, 0, none⟩) d.size cap, .int .i64 d.size, .func (.func 179) #[] #[]] w fun e w' =>
      e = .returned (.tuple #[]) ∧ ∃ n os, w' = sortWorldK Mb.six 6 w g 0 n (Sort.insertionSort (Go.Proofs.ltOf mcf) d 0 d.size) os := by
  have INS := Lib.hid (fun (a b : Nat) (dk : Array Mb) (W : World) (hs : dk.size = d.size) (S : SWK Mb.six 6 w g 0 dk W) (hab : a ≤ b) (hb : b ≤ d.size) => ins_swk (cap := cap) (N := d.size) (a := a) (b := b) hH hg hs rfl S hab (by omega) (by omega))
  have SYM := Lib.hid (fun (X u v Y : List Mb) (dk : Array Mb) (W : World) (hs : dk.size = d.size) (S : SWK Mb.six 6 w g 0 dk W) hd hu hv hu1 hv1 (a m b : Nat) ha hm hb => sym_any g cap d.size d w hH hg rfl (by omega) X u v Y dk W hs S hd hu hv hu1 hv1 a m b ha hm hb)
  have FIN := Lib.hid (fun (B : Nat) (dk : Array Mb) (W : World) (h : P2 d.toList B dk) (hs : dk.size = d.size) (hB : d.size ≤ B) (S : SWK Mb.six 6 w g 0 dk W) => show ∃ n os, W = sortWorldK Mb.six 6 w g 0 n (Sort.insertionSort (Go.Proofs.ltOf mcf) d 0 d.size) os by
    have := h.fin (by omega)
    rw [← this]
    exact S)
  have SZ := Lib.hid (fun (dk : Array Mb) (a b : Nat) hab hb => sort_size dk a b hab hb)
  have S0 := Lib.hid (SWK.start hH)
  have HP := Lib.hid (P1.start d)
  clear hH hg
  generalize insertionSort (Go.Proofs.ltOf mcf) d 0 d.size = res at FIN ⊢
  obtain ⟨l, hl⟩ : ∃ l, d.toList = l := ⟨_, rfl⟩
  rw [hl] at HP FIN
  clear hl
  obtain ⟨N, hN⟩ : ∃ N, d.size = N := ⟨_, rfl⟩
  have HN := Lib.hid hN
  rw [hN] at INS SYM FIN hn ⊢
  clear hN
  go_enter Tryz.func203, Tryz.ntmps203
  go_wp2_with fail
  go_loopg [7, 8] N (fun kx s7 s8 wr => ∃ (a : Nat) (dk : Array Mb), s7 = .int .i64 a ∧ s8 = .int .i64 ((a + 20 : Nat) : Int) ∧ a ≤ N ∧ N - a ≤ kx ∧ dk.size = N ∧ Hid (SWK Mb.six 6 w g 0 dk wr) ∧ Hid (P1 l a dk))
  case atStart => exact ⟨0, d, rfl, rfl, Nat.zero_le _, Nat.le_refl _, HN.out, S0, HP⟩
  case round =>
    clear S0 HP
    obtain ⟨a, dk, rfl, rfl, haN, hkx, hds, S1, HP⟩ := hrel
    by_cases hlt : a + 20 ≤ N
    · have hltz : ((a + 20 : Nat) : Int) ≤ (N : Int) := by omega
      have HC := Lib.hid (INS.out a (a + 20) dk wr hds S1.out (by omega) hlt)
      have HP2 := Lib.hid (HP.out.step (by omega))
      have hsz2 := SZ.out dk a (a + 20) (by omega) (by omega)
      generalize insertionSort (Go.Proofs.ltOf mcf) dk a (a + 20) = d2 at HC HP2 hsz2
      clear HP S1
      go_wp2_with fail
      refine HC.out.mono ?_
      rintro e w1 ⟨rfl, hS⟩
      have S2 := Lib.hid hS
      clear hS HC
      go_wp2_with fail
      go_roundg (N - (a + 20))
      case measure => omega
      case rel => exact ⟨a + 20, d2, rfl, by go_num, hlt, Nat.le_refl _, by omega, S2, HP2⟩
    · have hltz : ¬ ((a + 20 : Nat) : Int) ≤ (N : Int) := by omega
      have HC := Lib.hid (INS.out a N dk wr hds S1.out haN (Nat.le_refl _))
      have HP2 := Lib.hid (HP.out.done (n := N) (by omega) (by omega) (by omega))
      have hsz2 := SZ.out dk a N haN (by omega)
      generalize insertionSort (Go.Proofs.ltOf mcf) dk a N = d2 at HC HP2 hsz2
      rw [hds] at hsz2
      clear HP S1
      go_wp2_with fail
      refine HC.out.mono ?_
      rintro e w1 ⟨rfl, hS⟩
      have S2 := Lib.hid hS
      clear hS HC hltz hlt haN hkx hds
      go_wp2_with fail
      go_loopg [6, 7, 8, 9] N (fun kx s6 s7 s8 s9 wr => ∃ (B : Nat) (dk : Array Mb), s6 = .int .i64 B ∧ 20 ≤ B ∧ B ≤ 2000000 ∧ N - B ≤ kx ∧ dk.size = N ∧ Hid (SWK Mb.six 6 w g 0 dk wr) ∧ Hid (P2 l B dk))
      case atStart => exact ⟨20, d2, rfl, Nat.le_refl _, by omega, by omega, hsz2, S2, HP2⟩
      case round =>
        clear S2 HP2
        obtain ⟨B, dk, rfl, hB20, hBm, hkx, hds, S1, HP⟩ := hrel
        by_cases hlt : B < N
        · have hltz : (B : Int) < (N : Int) := by omega
          have HP3 := Lib.hid HP.out.start
          clear HP
          go_wp2_with fail
          go_loopg [7, 8] N (fun kx s7 s8 wr => ∃ (a : Nat) (dk : Array Mb), s7 = .int .i64 a ∧ s8 = .int .i64 ((a + 2 * B : Nat) : Int) ∧ a ≤ N ∧ N - a ≤ kx ∧ dk.size = N ∧ Hid (SWK Mb.six 6 w g 0 dk wr) ∧ Hid (P3 l B a dk))
          case atStart => exact ⟨0, dk, rfl, by go_num, Nat.zero_le _, Nat.le_refl _, hds, S1, HP3⟩
          case round =>
            clear S1 HP3
            obtain ⟨a, dk, rfl, rfl, haN, hkx2, hds2, S1, HP⟩ := hrel
            by_cases hlt2 : a + 2 * B ≤ N
            · have hltz2 : ((a + 2 * B : Nat) : Int) ≤ (N : Int) := by omega
              obtain ⟨X, u, v, Y, h1, h2, h3, h4, h5, h6, h7⟩ := HP.out.two (by omega) (by omega)
              have HC := Lib.hid (SYM.out X u v Y dk wr hds2 S1.out h1 h2 h3 (by omega) (by omega) a (a + B) (a + 2 * B) h4.symm (by omega) (by omega))
              have H7 := Lib.hid h7
              have e1 : ((a + B : Nat) : Int) = (a : Int) + (B : Int) := by omega
              rw [e1] at HC
              clear h1 h2 h3 h4 h5 h6 h7 e1 HP S1
              go_wp2_with fail
              refine HC.out.mono ?_
              rintro e w1 ⟨rfl, d3, z, hd3, hm3, hs3, hS3⟩
              have S3 := Lib.hid hS3
              have HP4 := Lib.hid (H7.out d3 z hd3 hm3)
              clear hS3 HC H7 hd3 hm3
              go_wp2_with fail
              go_roundg (N - (a + 2 * B))
              case measure => omega
              case rel => exact ⟨a + 2 * B, d3, rfl, by go_num, hlt2, Nat.le_refl _, hs3, S3, HP4⟩
            · have hltz2 : ¬ ((a + 2 * B : Nat) : Int) ≤ (N : Int) := by omega
              by_cases hlt3 : a + B < N
              · have hltz3 : (a : Int) + (B : Int) < (N : Int) := by omega
                obtain ⟨X, u, v, h1, h2, h3, h4, h5, h6, h8, h7⟩ := HP.out.part (by omega) (by omega)
                have HC := Lib.hid (SYM.out X u v [] dk wr hds2 S1.out h1 h2 h3 (by omega) h6 a (a + B) N h4.symm (by omega) (by omega))
                have H7 := Lib.hid h7
                have e1 : ((a + B : Nat) : Int) = (a : Int) + (B : Int) := by omega
                rw [e1] at HC
                clear h1 h2 h3 h4 h5 h6 h7 h8 e1 HP S1
                go_wp2_with fail
                refine HC.out.mono ?_
                rintro e w1 ⟨rfl, d3, z, hd3, hm3, hs3, hS3⟩
                have S3 := Lib.hid hS3
                have HP4 := Lib.hid (H7.out d3 z hd3 hm3)
                clear hS3 HC H7 hd3 hm3
                go_wp2_with fail
                go_roundg (N - B * 2)
                case measure => omega
                case rel => exact ⟨B * 2, d3, by go_num, by omega, by omega, Nat.le_refl _, hs3, S3, HP4⟩
              · have hltz3 : ¬ (a : Int) + (B : Int) < (N : Int) := by omega
                have HP4 := Lib.hid (HP.out.done (by omega))
                clear HP
                go_wp2_with fail
                go_roundg (N - B * 2)
                case measure => omega
                case rel => exact ⟨B * 2, dk, by go_num, by omega, by omega, Nat.le_refl _, hds2, S1, HP4⟩
        · have hltz : ¬ (B : Int) < (N : Int) := by omega
          go_wp2_with fail
          go_end0
          exact ⟨rfl, FIN.out B dk _ HP.out hds (by omega) S1.out⟩
theorem sortStable_any (g cap : Nat) (d : Array Mb) (w : World) (hH : HoldsK Mb.six 6 w g 0 d) (hg : g < w.heap.size) (hn : d.size ≤ 1000000) :
    Calls Tryz.prog 178 #[.slice (some ⟨g, 0, none⟩) d.size cap, .func (.func 179) #[] #[]] w fun e w' =>
      e = .returned (.tuple #[]) ∧ ∃ n os, w' = sortWorldK Mb.six 6 w g 0 n (Sort.insertionSort (Go.Proofs.ltOf mcf) d 0 d.size) os := by
  have hcon := Lib.hid (stable_any g cap d w hH hg hn)
  clear hH hg hn
  generalize insertionSort (Go.Proofs.ltOf mcf) d 0 d.size = r at *
  generalize d.size = n at *
  go_enter Tryz.func178, Tryz.ntmps178
  go_wp2_with (go_at_call 203; refine hcon.out.mono ?_; rintro e w' ⟨rfl, m, ps, rfl⟩)
  go_end0
  exact ⟨rfl, _, _, rfl⟩
end Go.Proofs.YtbojpopgjcmlbaaGreatDoor

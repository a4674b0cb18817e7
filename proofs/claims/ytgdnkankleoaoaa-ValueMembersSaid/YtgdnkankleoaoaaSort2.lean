/- slices.stableCmpFunc and SortStableFunc at members, 20 or fewer. -/
import Derived.Test.YtgdnkankleoaoaaSort
set_option linter.unusedVariables false
set_option linter.unusedSimpArgs false
namespace Go.Proofs.Ytgdnkankleoaoaa
open Go.RowKit Go.Sort
theorem sort_again {α : Type} [Inhabited α] (lt : α → α → Bool) (d : Array α) : insertionSort lt d 20 20 = d := by
  unfold insertionSort
  rw [insOuter, if_neg (by omega)]
theorem sort_size (d : Array Mb) (a b : Nat) (hab : a ≤ b) (hb : b ≤ d.size) : (insertionSort (Go.Proofs.ltOf mcf) d a b).size = d.size := (insertionSort_holds (lt := Go.Proofs.ltOf mcf) mcf_swo d a b hab hb).1.1
theorem sort_twice {w : World} {g n m : Nat} {d e : Array Mb} {os ps : Array Obj} (hg : g < w.heap.size) (hH : HoldsK Mb.six 6 w g 0 d) (hs : e.size = d.size) :
    sortWorldK Mb.six 6 (sortWorldK Mb.six 6 w g 0 n e os) g 0 m e ps = sortWorldK Mb.six 6 w g 0 (n + m) e (os ++ ps) := by
  have h := holdsK_sortWorldK_c Mb.six 6 w g 0 d e (n + m) os hH hg hs
  have e1 : Sort.ahead (sortWorldK Mb.six 6 w g 0 n e os) m = sortWorldK Mb.six 6 w g 0 (n + m) e os := by
    rw [← Array.append_empty (xs := os), ← sortWorldK_grown_c, grow_empty]
    rfl
  show grow (putRowK Mb.six 6 (Sort.ahead (sortWorldK Mb.six 6 w g 0 n e os) m) g 0 e) ps = _
  rw [e1, putRowK_self _ _ _ _ _ _ h]
  unfold sortWorldK
  rw [grow_grow]
set_option maxHeartbeats 1000000 in
set_option maxRecDepth 100000 in
theorem stable_any (g cap : Nat) (d : Array Mb) (w : World) (hH : HoldsK Mb.six 6 w g 0 d) (hg : g < w.heap.size) (hn : d.size ≤ 20) :
    Calls Try.prog 61 #[.slice (some ⟨g, 0, none⟩) d.size cap, .int .i64 d.size, .func (.func 48) #[] #[]] w fun e w' =>
      e = .returned (.tuple #[]) ∧ ∃ n os, w' = sortWorldK Mb.six 6 w g 0 n (Sort.insertionSort (Go.Proofs.ltOf mcf) d 0 d.size) os := by
  by_cases h20 : d.size = 20
  · have hcon := Lib.hid (ins_any g cap 0 20 d w hH hg (by omega) (by omega) (by omega))
    have hs := sort_size d 0 20 (by omega) (by omega)
    have hcon2 := Lib.hid (fun n os => ins_any g cap 20 20 (insertionSort (Go.Proofs.ltOf mcf) d 0 20) (sortWorldK Mb.six 6 w g 0 n (insertionSort (Go.Proofs.ltOf mcf) d 0 20) os) (holdsK_sortWorldK_c Mb.six 6 w g 0 d _ n os hH hg hs) (Nat.lt_of_lt_of_le hg (size_sortWorldK_c ..)) (by omega) (by omega) (by omega))
    have htw := Lib.hid (fun n m os ps => sort_twice (n := n) (m := m) (os := os) (ps := ps) hg hH hs)
    rw [h20] at hs hcon ⊢
    simp only [sort_again] at hcon2
    rw [hs] at hcon2
    clear hH hg hn h20
    generalize insertionSort (Go.Proofs.ltOf mcf) d 0 20 = r at *
    go_enter Try.func61, Try.ntmps61
    go_wp2
    go_loopw [7, 8] (fun ta tb wr => (ta = .int .i64 0 ∧ tb = .int .i64 20 ∧ wr = w) ∨ (ta = .int .i64 20 ∧ tb = .int .i64 40 ∧ ∃ n os, wr = sortWorldK Mb.six 6 w g 0 n r os)) (fun ta _ _ => 40 - (intOf ta).toNat)
    case atStart => exact .inl ⟨rfl, rfl, rfl⟩
    case round =>
      rcases hrel with ⟨rfl, rfl, rfl⟩ | ⟨rfl, rfl, n, os, rfl⟩
      · go_wp2_with (go_at_call 72; refine hcon.out.mono ?_; rintro e w' ⟨rfl, n, os, rfl⟩)
        go_roundw
        case rel => (repeat apply Exists.intro); exact ⟨.inr ⟨rfl, rfl, _, _, rfl⟩, rfl⟩
        case measure => simp [intOf]
      · go_wp2_with (go_at_call 72; refine (hcon2.out n os).mono ?_; rintro e w' ⟨rfl, m, ps, rfl⟩)
        go_loopw [6] (fun t wr => t = .int .i64 20 ∧ wr = sortWorldK Mb.six 6 (sortWorldK Mb.six 6 w g 0 n r os) g 0 m r ps) (fun _ _ => 0)
        case atStart => exact ⟨rfl, rfl⟩
        case round =>
          obtain ⟨rfl, rfl⟩ := hrel
          go_wp2
          go_end0
          exact ⟨rfl, _, _, htw.out n m os ps⟩
  · have hcon := Lib.hid (ins_any g cap 0 d.size d w hH hg (by omega) (by omega) (by omega))
    have hlt : d.size < 20 := by omega
    clear hH hg hn h20
    generalize insertionSort (Go.Proofs.ltOf mcf) d 0 d.size = r at *
    generalize d.size = n at *
    have hz : ¬ (20 : Int) ≤ (n : Int) := by omega
    have hz2 : ¬ (20 : Int) < (n : Int) := by omega
    clear hlt
    go_enter Try.func61, Try.ntmps61
    go_wp2
    go_loopw [7, 8] (fun ta tb wr => ta = .int .i64 0 ∧ tb = .int .i64 20 ∧ wr = w) (fun _ _ _ => 0)
    case atStart => exact ⟨rfl, rfl, rfl⟩
    case round =>
      obtain ⟨rfl, rfl, rfl⟩ := hrel
      go_wp2_with (go_at_call 72; refine hcon.out.mono ?_; rintro e w' ⟨rfl, m, ps, rfl⟩)
      go_loopw [6] (fun t wq => t = .int .i64 20 ∧ wq = sortWorldK Mb.six 6 wr g 0 m r ps) (fun _ _ => 0)
      case atStart => exact ⟨rfl, rfl⟩
      case round =>
        obtain ⟨rfl, rfl⟩ := hrel
        go_wp2
        go_end0
        exact ⟨rfl, _, _, rfl⟩
theorem sortStable_any (g cap : Nat) (d : Array Mb) (w : World) (hH : HoldsK Mb.six 6 w g 0 d) (hg : g < w.heap.size) (hn : d.size ≤ 20) :
    Calls Try.prog 47 #[.slice (some ⟨g, 0, none⟩) d.size cap, .func (.func 48) #[] #[]] w fun e w' =>
      e = .returned (.tuple #[]) ∧ ∃ n os, w' = sortWorldK Mb.six 6 w g 0 n (Sort.insertionSort (Go.Proofs.ltOf mcf) d 0 d.size) os := by
  have hcon := Lib.hid (stable_any g cap d w hH hg hn)
  clear hH hg hn
  generalize insertionSort (Go.Proofs.ltOf mcf) d 0 d.size = r at *
  generalize d.size = n at *
  go_enter Try.func47, Try.ntmps47
  go_wp2_with (go_at_call 61; refine hcon.out.mono ?_; rintro e w' ⟨rfl, m, ps, rfl⟩)
  go_end0
  exact ⟨rfl, _, _, rfl⟩
end Go.Proofs.Ytgdnkankleoaoaa

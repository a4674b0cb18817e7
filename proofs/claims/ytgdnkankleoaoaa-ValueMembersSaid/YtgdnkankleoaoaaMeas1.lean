/- The program's fieldsFit, addString and addKeys. -/
import Derived.Test.YtgdnkankleoaoaaStrs
import Derived.Test.YtgdnkankleoaoaaG2
import Derived.Test.YtgdnkankleoaoaaG1
import Derived.Test.YtgdnkankleoaoaaUtf3
set_option linter.unusedVariables false
set_option linter.unusedSimpArgs false
namespace Go.Proofs.Ytgdnkankleoaoaa
open Go.RowKit
theorem size_empty (s : ByteArray) : s.toList.isEmpty = decide (s.size = 0) := by
  rw [Lib.toList_data]
  obtain ⟨⟨l⟩⟩ := s
  cases l <;> simp [ByteArray.size]
theorem natz (n : Nat) : ((n : Int) == 0) = decide (n = 0) := by rw [Bool.eq_iff_iff]; simp
theorem nateq (a b : Nat) : ((a : Int) == (b : Int)) = decide (a = b) := by rw [Bool.eq_iff_iff]; simp; omega
set_option maxHeartbeats 4000000 in
set_option maxRecDepth 100000 in
theorem fits_any (k n : Int) (s : ByteArray) (A B : Option Addr) (nk ne a b : Nat) (w : World) (hs : s.size ≤ 140737488355328) (hk : nk ≤ 140737488355328) (he : ne ≤ 140737488355328) :
    Calls Try.prog 75 #[.agg #[.int .i64 k, .int .i64 n, .string s, .slice A nk a, .slice B ne b]] w fun e w' => e = .returned (.bool (fits k n s nk ne)) ∧ Below w.heap.size w w' := by
  have hse := size_empty s
  generalize hq : fits k n s nk ne = r
  have HQ := Lib.hid hq
  clear hq
  go_enter Try.func75, Try.ntmps75
  go_wp2
  go_quiet (fail)
  go_wp2
  go_quiet (fail)
  go_wp2
  all_goals
    go_ret
    refine ⟨ret_bool (Eq.trans ?_ HQ.out), below_drewN ((Below.refl _ _).alloc (Nat.le_refl _) _) _⟩
    simp_all [fits, natz, nateq]
set_option maxHeartbeats 1000000 in
set_option maxRecDepth 100000 in
theorem addString_any (g : Nat) (d m b : Int) (s : ByteArray) (w : World) (hbox : Box w g 79 #[.int .i64 d, .int .i64 m, .int .i64 b]) (hs : s.size ≤ 140737488355328) (h0 : 0 ≤ b) (h1 : b ≤ 65536) :
    Calls Try.prog 76 #[.pointer (some ⟨g, 0, none⟩), .string s] w fun e w' => e = .returned (.bool (strOk s b)) ∧ w' = w.setCell ⟨g, 2, none⟩ (.int .i64 (b + s.size)) := by
  have c2 := hbox.cell (i := 2) rfl
  have f2 := hbox.free 2
  have HB := Lib.hid hbox
  clear hbox
  have n2 : (w.setCell ⟨g, 2, none⟩ (.int .i64 (b + s.size))).cell? ⟨g, 2, none⟩ = some (.int .i64 (b + s.size)) := (HB.out.put 2 _).cell rfl
  have hm : s.size ≤ maxLen := by unfold maxLen; omega
  have HM := Lib.hid hm
  generalize hq : strOk s b = r
  have HQ := Lib.hid hq
  clear hq hm
  by_cases hz : s.size ≤ 4096
  · by_cases hy : b + s.size ≤ 65536
    · have hv := Lib.hid (fun w => val_any s HM.out w)
      have hr : Hid (okS s = r) := Lib.hid (by rw [← HQ.out, strOk, decide_eq_true hz, decide_eq_true hy]; rfl)
      go_enter Try.func76, Try.ntmps76
      go_wp2_with (go_at_call 26; refine (hv.out _).mono ?_; rintro e w' ⟨rfl, rfl⟩)
      go_ret
      exact ⟨ret_bool hr.out, rfl⟩
    · have hr : Hid (false = r) := Lib.hid (by rw [← HQ.out, strOk, decide_eq_true hz, decide_eq_false hy]; rfl)
      go_enter Try.func76, Try.ntmps76
      go_wp2_with fail
      go_ret
      exact ⟨ret_bool hr.out, rfl⟩
  · have hr : Hid (false = r) := Lib.hid (by rw [← HQ.out, strOk, decide_eq_false hz]; rfl)
    go_enter Try.func76, Try.ntmps76
    go_wp2_with fail
    go_ret
    exact ⟨ret_bool hr.out, rfl⟩
end Go.Proofs.Ytgdnkankleoaoaa

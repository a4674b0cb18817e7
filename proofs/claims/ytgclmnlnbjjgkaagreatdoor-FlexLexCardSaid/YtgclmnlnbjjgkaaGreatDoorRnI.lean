/- The contract of the reference's Integer. -/
import Derived.Test.YtgclmnlnbjjgkaaGreatDoorJl3
import Derived.Test.YtgclmnlnbjjgkaaGreatDoorJlNum
set_option linter.unusedVariables false
set_option linter.unusedSimpArgs false
namespace Go.Proofs.YtgclmnlnbjjgkaaGreatDoor
open Go.RowKit
def IntPost (o : Option Int) (w : World) (e : Ending) (w' : World) : Prop := (∃ x : Int, e = .returned (.tuple #[.int .i64 x, .bool o.isSome]) ∧ ∀ v, o = some v → x = v) ∧ w = w'
set_option maxHeartbeats 4000000 in
set_option maxRecDepth 100000 in
theorem integer_any (s : ByteArray) (neg : Bool) (hs : s.size ≤ 1048576) (hd : ∀ b ∈ s.data.toList, digB b = true) (w : World) : Calls Tryz.prog 47 #[.string s, .bool neg] w (IntPost (fitP neg (natF 0 s.data.toList)) w) := by
  have hl : s.data.toList.length = s.size := by simp
  have HL := Lib.hid hl
  have HD := Lib.hid hd
  obtain ⟨o, ho⟩ : ∃ o, fitP neg (natF 0 s.data.toList) = o := ⟨_, rfl⟩
  have HO := Lib.hid ho
  rw [ho]
  clear hl hd ho
  go_enter Tryz.func47, Tryz.ntmps47
  go_wp2
  go_loop [6, 7] (fun tn ti => ∃ (i : Nat) (n : Int), i ≤ s.size ∧ ti = .int .i64 i ∧ tn = .int .u64 n ∧ 0 ≤ n ∧ n ≤ 9223372036854775808 ∧ Hid (n = ((natF 0 (s.data.toList.take i) : Nat) : Int))) (fun _ ti => s.size - (intOf ti).toNat)
  case atStart => exact ⟨0, 0, Nat.zero_le _, rfl, rfl, by omega, by omega, Lib.hid (by simp [natF])⟩
  case round =>
    obtain ⟨i, n, hi, rfl, rfl, hn0, hn1, HN⟩ := hrel
    by_cases hlt : i < s.size
    · obtain ⟨b, hb⟩ : ∃ b, s[i] = b := ⟨_, rfl⟩
      have HB := Lib.hid (at_list hlt hb)
      have hdb : 48 ≤ b.toNat ∧ b.toNat ≤ 57 := by
        have h := HD.out b (List.mem_of_getElem? HB.out)
        unfold digB at h; simpa using h
      obtain ⟨d, hdd⟩ : ∃ d : Int, d = (b.toNat : Int) - 48 := ⟨_, rfl⟩
      have hd0 : 0 ≤ d := by omega
      have hd9 : d ≤ 9 := by omega
      have HT := Lib.hid (natF_take HB.out)
      have HTL := Lib.hid (natF_take_le s.data.toList (i + 1))
      have hsub : ((b.toNat : Int) - 48) = d := hdd.symm
      have HDD := Lib.hid hdd
      obtain ⟨g1, g2⟩ := hdb
      clear hdd
      by_cases hq : (9223372036854775808 - d) / 10 < n
      · have hbig : o = none := by
          rw [← HO.out]
          apply fitP_big
          have h1 := HT.out
          have h2 := HTL.out
          have h3 := HN.out
          have h4 := HDD.out
          omega
        subst hbig
        go_wp2_with fail
        go_ret2
        exact ⟨⟨0, rfl, fun v h => by cases h⟩, rfl⟩
      · have hr : 0 ≤ n * 10 + d ∧ n * 10 + d ≤ 9223372036854775808 := by omega
        obtain ⟨r1, r2⟩ := hr
        have HM : Hid (n * 10 + d = ((natF 0 (s.data.toList.take (i + 1)) : Nat) : Int)) := Lib.hid (by
          have h1 := HT.out
          have h3 := HN.out
          have h4 := HDD.out
          omega)
        go_wp2_with fail
        go_round
        case rel => exact ⟨i + 1, n * 10 + d, by omega, by go_num, rfl, r1, r2, HM⟩
        case measure => simp [intOf]; omega
    · have HT : Hid (n = ((natF 0 s.data.toList : Nat) : Int)) := Lib.hid (by
        have h := HN.out
        rw [List.take_of_length_le (by rw [HL.out]; omega)] at h
        exact h)
      cases neg with
      | true =>
        have ho : o = some (-n) := by
          rw [← HO.out]
          unfold fitP
          have h := HT.out
          simp only []
          rw [if_pos (by omega), h]
        subst ho
        by_cases hm : n = 9223372036854775808
        · subst hm
          go_wp2_with fail
          go_ret2
          exact ⟨⟨_, rfl, fun v h => by
            injection h with h
            rw [← h]
            unfold wrap64
            omega⟩, rfl⟩
        · have hlt : n < 9223372036854775808 := by omega
          go_wp2_with fail
          go_ret2
          exact ⟨⟨_, rfl, fun v h => by injection h⟩, rfl⟩
      | false =>
        by_cases hm : n < 9223372036854775808
        · have ho : o = some n := by
            rw [← HO.out]
            unfold fitP
            have h := HT.out
            simp only []
            rw [if_pos (by omega), h]
          subst ho
          go_wp2_with fail
          go_ret2
          exact ⟨⟨_, rfl, fun v h => by injection h⟩, rfl⟩
        · have ho : o = none := by
            rw [← HO.out]
            unfold fitP
            have h := HT.out
            simp only []
            rw [if_neg (by omega)]
          subst ho
          have hm2 : n = 9223372036854775808 := by omega
          subst hm2
          go_wp2_with fail
          go_ret2
          exact ⟨⟨_, rfl, fun v h => by cases h⟩, rfl⟩
end Go.Proofs.YtgclmnlnbjjgkaaGreatDoor

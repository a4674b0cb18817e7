/- The walk of UtfEncode. -/
import Derived.Test.YtfabdodkjohldaaShort
import Derived.Lib.ConvBytes
namespace Go.Proofs.Ytfabdodkjohldaa
open Go.RowKit
theorem conv_nil' (w : World) : (convert 33 9 (.slice none 0 0)).run Try.prog w = .ok (.string ⟨#[]⟩) w := conv_nil w _ _ 5 0 Try.underlying33 Try.underlying5 Try.underlying9
theorem conv_below {w w' : World} {base n : Nat} {v : Value} {l : List UInt8} (h : w.ownsRow base 5 1 v n (bv l)) (hb : Below w.heap.size w w') : (convert 33 9 v).run Try.prog w' = .ok (.string ⟨l.toArray⟩) w' := by
  obtain ⟨A, c, rfl, hl, hr⟩ := own_slice h
  rw [bv_length] at hl
  subst hl
  exact conv_rd (hr.below hb (Nat.le_refl _)) _ _ 5 c Try.underlying33 Try.underlying5 Try.underlying9
theorem conv_back {w w' : World} {B : Nat} {A : Option Addr} {c : Nat} {s : ByteArray} (h : Rd w B A (bv s.data.toList)) (hb : Below w.heap.size w w') (hB : B ≤ w.heap.size) : (convert 33 9 (.slice A s.size c)).run Try.prog w' = .ok (.string s) w' := by
  have h2 := conv_rd (h.below hb hB) 33 9 5 c Try.underlying33 Try.underlying5 Try.underlying9
  have e1 : s.data.toList.length = s.size := by simp
  rw [e1] at h2
  exact h2
theorem bytes_of (w : World) (s : ByteArray) : ∃ (c : Nat) (w1 : World), (convert 9 33 (.string s)).run Try.prog w = .ok (.slice (some ⟨w.heap.size, 0, none⟩) s.size c) w1 ∧
    Rd w1 (w.heap.size + 1) (some ⟨w.heap.size, 0, none⟩) (bv s.data.toList) ∧ Below w.heap.size w w1 ∧ w.heap.size + 1 ≤ w1.heap.size := by
  refine ⟨_, _, Lib.run_convert_string_bytes w 9 33 5 s Try.underlying9 Try.underlying33 Try.underlying5, ?_, ?_, ?_⟩
  · intro j u hj
    refine ⟨w.heap.size, 0, rfl, by omega, ?_⟩
    have hjl : j < s.size := by
      rcases Nat.lt_or_ge j s.size with h | h
      · exact h
      · rw [List.getElem?_eq_none (by rw [bv_length]; simpa using h)] at hj; cases hj
    rw [Nat.zero_add, Lib.bytesWorld_cell w _ s j hjl]
    rw [← hj]
    have hjl2 : j < s.data.toList.length := by simpa using hjl
    simp [bv, List.getD, List.getElem?_eq_getElem hjl2]
  · refine ⟨?_, ?_, ?_, ?_, fun k hk => Lib.bytesWorld_at_old w _ s k hk⟩
    · unfold Lib.bytesWorld World.freeze; (repeat' split) <;> rfl
    · unfold Lib.bytesWorld World.freeze; (repeat' split) <;> rfl
    · unfold Lib.bytesWorld World.freeze; (repeat' split) <;> rfl
    · rw [Lib.bytesWorld_size]; omega
  · rw [Lib.bytesWorld_size]; omega
set_option maxRecDepth 100000 in
set_option maxHeartbeats 4000000 in
theorem encode_walk (s : ByteArray) (r : Int) (A : Option Addr) (c : Nat) (zs : List Int) (hs : s.size ≤ maxLen) (w : World) (hr : Rd w w.heap.size A (zv zs)) (hzm : zs.length ≤ maxLen) :
    Calls Try.prog 4 #[.string s, .int .i64 r, .slice A zs.length c] w fun e w' => e = .returned (.bool true) ∧ Below w.heap.size w w' := by
  unfold maxLen at hs hzm
  by_cases hbig : 200 < s.size
  · go_enter Try.func4, Try.ntmps4
    go_wp2_with (go_at_call 9; refine (awake_any _).mono ?_; rintro e w' ⟨rfl, rfl⟩)
    go_ret
    exact ⟨rfl, Below.refl _ _⟩
  by_cases hbig2 : 100 < zs.length
  · go_enter Try.func4, Try.ntmps4
    go_wp2_with (go_at_call 9; refine (awake_any _).mono ?_; rintro e w' ⟨rfl, rfl⟩)
    go_ret
    exact ⟨rfl, Below.refl _ _⟩
  have hR := Lib.hid hr
  have hsl : Hid (s.data.toList.length ≤ 16777216) := Lib.hid (by simp; omega)
  have hzl : Hid (zs.length ≤ 16777216) := Lib.hid (by omega)
  obtain ⟨c1, w1, hcv, hrd0, hb0, hsz1⟩ := bytes_of w s
  have hrd1 := hrd0
  have hB1 := Lib.hid hb0
  have e1 : s.data.toList.length = s.size := by simp
  clear hr hb0 hrd0
  cases hc : cp r with
  | true =>
    cases hd : allCp zs
    · have hF : Hid (frV zs = .tuple #[.string ⟨#[]⟩, .bool false]) := Lib.hid (frV_false hd)
      clear hd
      go_enter Try.func4, Try.ntmps4
      go_wp2_with (first
        | (go_at_call 19; refine (append_true_of (append_any _ c1 s.data.toList r _ _ hrd1 (by omega) (fun h => by cases h) hsl.out) hc).mono ?_; rintro e w2 ⟨v2, rfl, ho2, hb2⟩)
        | (go_at_call 20; refine (append_true_of (rappend_any _ c1 s.data.toList r _ _ (hrd1.below hb2 (by omega)) (by have := hb2.size; omega) (fun h => by cases h) hsl.out) hc).mono ?_; rintro e w3 ⟨v3, rfl, ho3, hb3⟩)
        | (go_at_call 21; refine (from_any A c zs w.heap.size _ ((hR.out.below hB1.out (Nat.le_refl _)).below (chain hb2 hb3) hB1.out.size) (by have := hB1.out.size; have := hb2.size; have := hb3.size; omega) hzl.out).mono ?_; rintro e w4 ⟨rfl, hb4⟩; rw [hF.out])
        | (go_at_call 9; refine (awake_any _).mono ?_; rintro e w' ⟨rfl, rfl⟩))
      have z1 : w.heap.size ≤ w3.heap.size := by have := hB1.out.size; have := hb2.size; have := hb3.size; omega
      have z2 : w.heap.size ≤ w4.heap.size := by have := hb4.size; omega
      refine (rfrom_any A c zs w.heap.size _ (((hR.out.below hB1.out (Nat.le_refl _)).below (chain hb2 hb3) hB1.out.size).below hb4 z1) z2 hzl.out).mono ?_
      rintro e w5 ⟨rfl, hb5⟩
      rw [hF.out]
      have q2 := conv_below ho2 (chain hb3 (chain hb4 hb5))
      have q3 := conv_below ho3 (chain hb4 hb5)
      have q1 := conv_back (c := c1) hrd1 (chain hb2 (chain hb3 (chain hb4 hb5))) (by omega)
      have hb := chain hB1.out (chain hb2 (chain hb3 (chain hb4 hb5)))
      clear hb2 hb3 hb4 hb5 z1 z2 hrd1 hsz1
      go_wp2_with (go_at_call 9; refine (awake_any _).mono ?_; rintro e w' ⟨rfl, rfl⟩)
      go_ret
      exact ⟨rfl, hb⟩
    · have hF : Hid (frV zs = .tuple #[.string ⟨(encs (zs.map Int.toNat)).toArray⟩, .bool true]) := Lib.hid (frV_true hd)
      clear hd
      go_enter Try.func4, Try.ntmps4
      go_wp2_with (first
        | (go_at_call 19; refine (append_true_of (append_any _ c1 s.data.toList r _ _ hrd1 (by omega) (fun h => by cases h) hsl.out) hc).mono ?_; rintro e w2 ⟨v2, rfl, ho2, hb2⟩)
        | (go_at_call 20; refine (append_true_of (rappend_any _ c1 s.data.toList r _ _ (hrd1.below hb2 (by omega)) (by have := hb2.size; omega) (fun h => by cases h) hsl.out) hc).mono ?_; rintro e w3 ⟨v3, rfl, ho3, hb3⟩)
        | (go_at_call 21; refine (from_any A c zs w.heap.size _ ((hR.out.below hB1.out (Nat.le_refl _)).below (chain hb2 hb3) hB1.out.size) (by have := hB1.out.size; have := hb2.size; have := hb3.size; omega) hzl.out).mono ?_; rintro e w4 ⟨rfl, hb4⟩; rw [hF.out])
        | (go_at_call 9; refine (awake_any _).mono ?_; rintro e w' ⟨rfl, rfl⟩))
      have z1 : w.heap.size ≤ w3.heap.size := by have := hB1.out.size; have := hb2.size; have := hb3.size; omega
      have z2 : w.heap.size ≤ w4.heap.size := by have := hb4.size; omega
      refine (rfrom_any A c zs w.heap.size _ (((hR.out.below hB1.out (Nat.le_refl _)).below (chain hb2 hb3) hB1.out.size).below hb4 z1) z2 hzl.out).mono ?_
      rintro e w5 ⟨rfl, hb5⟩
      rw [hF.out]
      have q2 := conv_below ho2 (chain hb3 (chain hb4 hb5))
      have q3 := conv_below ho3 (chain hb4 hb5)
      have q1 := conv_back (c := c1) hrd1 (chain hb2 (chain hb3 (chain hb4 hb5))) (by omega)
      have hb := chain hB1.out (chain hb2 (chain hb3 (chain hb4 hb5)))
      clear hb2 hb3 hb4 hb5 z1 z2 hrd1 hsz1
      go_wp2_with (go_at_call 9; refine (awake_any _).mono ?_; rintro e w' ⟨rfl, rfl⟩)
      go_ret
      exact ⟨rfl, hb⟩
  | false =>
    cases hd : allCp zs
    · have hF : Hid (frV zs = .tuple #[.string ⟨#[]⟩, .bool false]) := Lib.hid (frV_false hd)
      clear hd
      go_enter Try.func4, Try.ntmps4
      go_wp2_with (first
        | (go_at_call 19; refine (append_false_of (append_any _ c1 s.data.toList r _ _ hrd1 (by omega) (fun h => by cases h) hsl.out) hc).mono ?_; rintro e w2 ⟨rfl, hb2⟩)
        | (go_at_call 20; refine (append_false_of (rappend_any _ c1 s.data.toList r _ _ (hrd1.below hb2 (by omega)) (by have := hb2.size; omega) (fun h => by cases h) hsl.out) hc).mono ?_; rintro e w3 ⟨rfl, hb3⟩)
        | (go_at_call 21; refine (from_any A c zs w.heap.size _ ((hR.out.below hB1.out (Nat.le_refl _)).below (chain hb2 hb3) hB1.out.size) (by have := hB1.out.size; have := hb2.size; have := hb3.size; omega) hzl.out).mono ?_; rintro e w4 ⟨rfl, hb4⟩; rw [hF.out])
        | (go_at_call 9; refine (awake_any _).mono ?_; rintro e w' ⟨rfl, rfl⟩))
      have z1 : w.heap.size ≤ w3.heap.size := by have := hB1.out.size; have := hb2.size; have := hb3.size; omega
      have z2 : w.heap.size ≤ w4.heap.size := by have := hb4.size; omega
      refine (rfrom_any A c zs w.heap.size _ (((hR.out.below hB1.out (Nat.le_refl _)).below (chain hb2 hb3) hB1.out.size).below hb4 z1) z2 hzl.out).mono ?_
      rintro e w5 ⟨rfl, hb5⟩
      rw [hF.out]
      have q2 := conv_nil' w5
      have q1 := conv_back (c := c1) hrd1 (chain hb2 (chain hb3 (chain hb4 hb5))) (by omega)
      have hb := chain hB1.out (chain hb2 (chain hb3 (chain hb4 hb5)))
      clear hb2 hb3 hb4 hb5 z1 z2 hrd1 hsz1
      go_wp2_with (go_at_call 9; refine (awake_any _).mono ?_; rintro e w' ⟨rfl, rfl⟩)
      go_ret
      exact ⟨rfl, hb⟩
    · have hF : Hid (frV zs = .tuple #[.string ⟨(encs (zs.map Int.toNat)).toArray⟩, .bool true]) := Lib.hid (frV_true hd)
      clear hd
      go_enter Try.func4, Try.ntmps4
      go_wp2_with (first
        | (go_at_call 19; refine (append_false_of (append_any _ c1 s.data.toList r _ _ hrd1 (by omega) (fun h => by cases h) hsl.out) hc).mono ?_; rintro e w2 ⟨rfl, hb2⟩)
        | (go_at_call 20; refine (append_false_of (rappend_any _ c1 s.data.toList r _ _ (hrd1.below hb2 (by omega)) (by have := hb2.size; omega) (fun h => by cases h) hsl.out) hc).mono ?_; rintro e w3 ⟨rfl, hb3⟩)
        | (go_at_call 21; refine (from_any A c zs w.heap.size _ ((hR.out.below hB1.out (Nat.le_refl _)).below (chain hb2 hb3) hB1.out.size) (by have := hB1.out.size; have := hb2.size; have := hb3.size; omega) hzl.out).mono ?_; rintro e w4 ⟨rfl, hb4⟩; rw [hF.out])
        | (go_at_call 9; refine (awake_any _).mono ?_; rintro e w' ⟨rfl, rfl⟩))
      have z1 : w.heap.size ≤ w3.heap.size := by have := hB1.out.size; have := hb2.size; have := hb3.size; omega
      have z2 : w.heap.size ≤ w4.heap.size := by have := hb4.size; omega
      refine (rfrom_any A c zs w.heap.size _ (((hR.out.below hB1.out (Nat.le_refl _)).below (chain hb2 hb3) hB1.out.size).below hb4 z1) z2 hzl.out).mono ?_
      rintro e w5 ⟨rfl, hb5⟩
      rw [hF.out]
      have q2 := conv_nil' w5
      have q1 := conv_back (c := c1) hrd1 (chain hb2 (chain hb3 (chain hb4 hb5))) (by omega)
      have hb := chain hB1.out (chain hb2 (chain hb3 (chain hb4 hb5)))
      clear hb2 hb3 hb4 hb5 z1 z2 hrd1 hsz1
      go_wp2_with (go_at_call 9; refine (awake_any _).mono ?_; rintro e w' ⟨rfl, rfl⟩)
      go_ret
      exact ⟨rfl, hb⟩
end Go.Proofs.Ytfabdodkjohldaa

/- The walk of UtfShortest. -/
import Derived.Test.YtfabdodkjohldaaEnc4
import Derived.Lib.Strings
namespace Go.Proofs.Ytfabdodkjohldaa
open Go.RowKit
set_option maxHeartbeats 400000 in
theorem mod_any (x n : Int) (hn : 0 < n) (hn2 : n ≤ 4611686018427387903) (w : World) :
    Calls Try.prog 25 #[.int .i64 x, .int .i64 n] w fun e w' => e = .returned (.int .i64 (x % n)) ∧ w = w' := by
  have hf := Lib.hid (mod_fix x n hn)
  have hb : Hid (-n < x.tmod n ∧ x.tmod n < n) := Lib.hid (by
    have h1 := Int.lt_tmod_of_pos x hn
    have h2 := Int.tmod_lt_of_pos x hn
    exact ⟨h1, h2⟩)
  have hne : (n == 0) = false := by simp; omega
  have hne1 : n ≠ 0 := by omega
  obtain ⟨hb1, hb2⟩ := hb.out
  by_cases hs : x.tmod n < 0
  · have he : Hid (x.tmod n + n = x % n) := Lib.hid (by rw [← hf.out, if_pos hs])
    go_enter Try.func25, Try.ntmps25
    go_wp2
    go_ret
    exact ⟨ret_int he.out, rfl⟩
  · have he : Hid (x.tmod n = x % n) := Lib.hid (by rw [← hf.out, if_neg hs])
    go_enter Try.func25, Try.ntmps25
    go_wp2
    go_ret
    exact ⟨ret_int he.out, rfl⟩
theorem append_false_of {w : World} {f : FuncId} {args : Array Value} {l : List UInt8} {r : Int} (h : Calls Try.prog f args w fun e w' => AppendPost l r w e w') (hc : cp r = false) :
    Calls Try.prog f args w fun e w' => e = .returned (.tuple #[.slice none 0 0, .bool false]) ∧ Below w.heap.size w w' := by
  refine h.mono fun e w' h => ?_
  obtain ⟨hb, h⟩ := h
  rw [hc] at h
  exact ⟨h, hb⟩
theorem append_true_of {w : World} {f : FuncId} {args : Array Value} {l : List UInt8} {r : Int} (h : Calls Try.prog f args w fun e w' => AppendPost l r w e w') (hc : cp r = true) :
    Calls Try.prog f args w fun e w' => ∃ v, e = .returned (.tuple #[v, .bool true]) ∧ w'.ownsRow w.heap.size 5 1 v (l ++ enc r.toNat).length (bv (l ++ enc r.toNat)) ∧ Below w.heap.size w w' := by
  refine h.mono fun e w' h => ?_
  obtain ⟨hb, h⟩ := h
  rw [hc] at h
  obtain ⟨v, h1, h2⟩ := h
  exact ⟨v, h1, h2, hb⟩
theorem arr_size (l : List UInt8) : (⟨l.toArray⟩ : ByteArray).size = l.length := by simp [ByteArray.size]
theorem val_false (s : ByteArray) (hs : s.size ≤ maxLen) (h : runes s.data.toList = none) (w : World) :
    Calls Try.prog 16 #[.string s] w fun e w' => e = .returned (.bool false) ∧ w = w' := by
  have h2 := val_any s hs w
  rw [h] at h2; exact h2
set_option maxHeartbeats 2000000 in
theorem short_walk (x : Int) (w : World) :
    Calls Try.prog 8 #[.int .i64 x] w fun e w' => e = .returned (.bool true) ∧ Below w.heap.size w w' := by
  obtain ⟨r, hr⟩ : ∃ r, x % 1114112 = r := ⟨_, rfl⟩
  have h0 : 0 ≤ r := by omega
  have h1 : r ≤ 1114111 := by omega
  have hM : Hid (∀ w : World, Calls Try.prog 25 #[.int .i64 x, .int .i64 1114112] w fun e w' => e = .returned (.int .i64 r) ∧ w = w') := Lib.hid fun w => by
    have h := mod_any x 1114112 (by omega) (by omega) w
    rw [hr] at h; exact h
  clear hr
  have hA := Lib.hid (fun (w : World) => append_any none 0 [] r 0 w (Rd.nil _ _ _) (Nat.zero_le _) (fun _ => rfl) (by simp))
  cases hc : cp r with
  | false =>
    have hrange : 55296 ≤ r ∧ r ≤ 57343 := by unfold cp at hc; simp at hc; omega
    obtain ⟨g1, g2⟩ := hrange
    go_enter Try.func8, Try.ntmps8
    go_wp2_with (first
      | (go_at_call 25; refine (hM.out _).mono ?_; rintro e w' ⟨rfl, rfl⟩)
      | (go_at_call 19; refine (append_false_of (hA.out _) hc).mono ?_; rintro e w1 ⟨rfl, hb1⟩)
      | (go_at_call 9; refine (awake_any _).mono ?_; rintro e w' ⟨rfl, rfl⟩))
    go_ret
    exact ⟨rfl, hb1⟩
  | true =>
    have hrange : r < 55296 ∨ 57343 < r := by unfold cp at hc; simp at hc; omega
    have hlen := enc_len r.toNat
    have hcn : cp ((r.toNat : Nat) : Int) = true := by rw [show ((r.toNat : Nat) : Int) = r from by omega]; exact hc
    have hdec : dec (enc r.toNat) = some (r.toNat, (enc r.toNat).length) := by
      have h := dec_enc hcn []
      rw [List.append_nil] at h; exact h
    have hsz : Hid ((⟨(enc r.toNat).toArray⟩ : ByteArray).size ≤ maxLen) := Lib.hid (by rw [arr_size]; unfold maxLen; omega)
    have hsz2 : (⟨(enc r.toNat).toArray⟩ : ByteArray).size = (enc r.toNat).length := arr_size _
    have hD : Hid (∀ w : World, Calls Try.prog 10 #[.string ⟨(enc r.toNat).toArray⟩, .int .i64 0] w fun e w' => e = .returned (.tuple #[.int .i64 r, .int .i64 ((enc r.toNat).length : Nat), .bool true]) ∧ w = w') := Lib.hid fun w => by
      have h := dec_some_of (dec_any ⟨(enc r.toNat).toArray⟩ 0 hsz.out w) r.toNat (enc r.toNat).length (by simpa using hdec)
      rw [show ((r.toNat : Nat) : Int) = r from by omega] at h
      exact h
    have hV1 : Hid (∀ (k : Nat) (w : World), 1 ≤ k → k < (enc r.toNat).length → Calls Try.prog 16 #[.string ((⟨(enc r.toNat).toArray⟩ : ByteArray).extract 0 k)] w fun e w' => e = .returned (.bool false) ∧ w = w') := Lib.hid fun k w hk1 hk2 => by
      refine val_false _ ?_ ?_ w
      · have h1 : ((⟨(enc r.toNat).toArray⟩ : ByteArray).extract 0 k).size = k := by rw [ByteArray.size_extract, arr_size]; omega
        rw [h1]; unfold maxLen; omega
      · rw [Lib.extract_data]
        show runes ((enc r.toNat).take k) = none
        exact runes_none (List.ne_nil_of_length_pos (by rw [List.length_take]; omega)) (dec_short hdec hk2)
    have hV2 : Hid (∀ (k : Nat) (w : World), 1 ≤ k → k < (enc r.toNat).length → Calls Try.prog 16 #[.string ((⟨(enc r.toNat).toArray⟩ : ByteArray).extract k (enc r.toNat).length)] w fun e w' => e = .returned (.bool false) ∧ w = w') := Lib.hid fun k w hk1 hk2 => by
      refine val_false _ ?_ ?_ w
      · have h1 : ((⟨(enc r.toNat).toArray⟩ : ByteArray).extract k (enc r.toNat).length).size ≤ 4 := by rw [ByteArray.size_extract, arr_size]; omega
        unfold maxLen; omega
      · rw [← hsz2, drop_extract]
        show runes ((enc r.toNat).drop k) = none
        exact runes_none (List.ne_nil_of_length_pos (by rw [List.length_drop]; omega)) (dec_tail (by omega) hk1 hk2)
    have hS := Lib.hid hsz2
    have HD := Lib.hid hdec
    obtain ⟨hl1, hl4⟩ := hlen
    clear hsz2 hdec hcn
    rcases hrange with hrange | hrange
    all_goals
      go_enter Try.func8, Try.ntmps8
      go_wp2_with (first
        | (go_at_call 25; refine (hM.out _).mono ?_; rintro e w' ⟨rfl, rfl⟩)
        | (go_at_call 19; refine (append_true_of (hA.out _) hc).mono ?_; rintro e w1 ⟨v1, rfl, hown1, hb1⟩; have hcv := conv_own hown1; simp only [List.nil_append] at hcv)
        | (go_at_call 10; refine (hD.out _).mono ?_; rintro e w' ⟨rfl, rfl⟩))
      go_loop [9] (fun i => ∃ k : Nat, 1 ≤ k ∧ k ≤ (enc r.toNat).length ∧ i = .int .i64 k) (fun i => (enc r.toNat).length - (intOf i).toNat)
      case atStart => exact ⟨1, by omega, by omega, rfl⟩
      case round =>
        obtain ⟨k, hk1, hk2, rfl⟩ := hrel
        by_cases hlt : k < (enc r.toNat).length
        · have hp1 := Lib.hid (hV1.out k w1 hk1 hlt)
          have hp2 := Lib.hid (hV2.out k w1 hk1 hlt)
          go_wp2_with fail
          refine hp1.out.mono ?_
          rintro e w' ⟨rfl, rfl⟩
          go_wp2_with fail
          refine hp2.out.mono ?_
          rintro e w' ⟨rfl, rfl⟩
          go_wp2_with fail
          go_round
          case rel => exact ⟨k + 1, by omega, by omega, by go_num⟩
          case measure => simp [intOf]; omega
        · go_wp2_with (go_at_call 9; refine (awake_any _).mono ?_; rintro e w' ⟨rfl, rfl⟩)
          go_ret
          exact ⟨rfl, hb1⟩
end Go.Proofs.Ytfabdodkjohldaa

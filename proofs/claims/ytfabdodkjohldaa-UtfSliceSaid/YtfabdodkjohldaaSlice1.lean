/- The contract of Slice. -/
import Derived.Test.YtfabdodkjohldaaTrip
import Derived.Lib.AppendStr
namespace Go.Proofs.Ytfabdodkjohldaa
open Go.RowKit
/-- The elements with the indexes from f up to, but not including, t. -/
def sel (xs : List Nat) (f t : Int) : List Nat := (xs.take t.toNat).drop f.toNat
theorem sel_nil (f t : Int) : sel [] f t = [] := by simp [sel]
theorem sel_snoc_in {xs : List Nat} {f t : Int} (r : Nat) (h1 : f ≤ xs.length) (h2 : (xs.length : Int) < t) : sel (xs ++ [r]) f t = sel xs f t ++ [r] := by
  unfold sel
  rw [List.take_of_length_le (by simp; omega), List.take_of_length_le (by omega), List.drop_append_of_le_length (by omega)]
theorem sel_snoc_lo {xs : List Nat} {f t : Int} (r : Nat) (h1 : (xs.length : Int) < f) : sel (xs ++ [r]) f t = sel xs f t := by
  unfold sel
  rw [List.drop_eq_nil_of_le (by simp; omega), List.drop_eq_nil_of_le (by simp; omega)]
theorem sel_snoc_hi {xs : List Nat} {f t : Int} (r : Nat) (h2 : t ≤ xs.length) : sel (xs ++ [r]) f t = sel xs f t := by
  unfold sel
  rw [List.take_append_of_le_length (by omega)]
theorem sel_len (xs : List Nat) (f t : Int) : (sel xs f t).length ≤ xs.length := by
  unfold sel; simp; omega
def slV (o : Option (List Nat)) (f t : Int) : Value := match o with
  | none => .tuple #[.string ⟨#[]⟩, .bool false]
  | some xs => .tuple #[.string ⟨(encs (sel xs f t)).toArray⟩, .bool true]
theorem strCells_bv (s : ByteArray) : Lib.strCells s = bv s.data.toList := rfl
theorem cut_enc {s : ByteArray} {k r n : Nat} (h : dec (s.data.toList.drop k) = some (r, n)) : (s.extract k (k + n)).data.toList = enc r := by
  rw [Lib.extract_data, show k + n - k = n from by omega]
  exact (enc_dec h).1
theorem cut_size {s : ByteArray} {k n : Nat} (h : k + n ≤ s.size) : (s.extract k (k + n)).size = n := by
  rw [ByteArray.size_extract]; omega
set_option maxRecDepth 100000 in
set_option maxHeartbeats 2000000 in
theorem slice_any (s : ByteArray) (f t : Int) (hs : s.size ≤ 1048576) (w : World) :
    Calls Try.prog 23 #[.string s, .int .i64 f, .int .i64 t] w fun e w' => e = .returned (slV (runes s.data.toList) f t) ∧ Below w.heap.size w w' := by
  have hs2 : Hid (s.size ≤ maxLen) := Lib.hid (by unfold maxLen; omega)
  have hlen : Hid (s.data.toList.length = s.size) := Lib.hid (by simp)
  obtain ⟨i0, hi, hz0, hz1, hz2⟩ := info_parts inf_u8
  go_enter Try.func23, Try.ntmps23
  go_wp2
  go_loopw [8, 9, 10] (fun v c i wr => ∃ (k : Nat) (xs : List Nat), k ≤ s.size ∧ xs.length ≤ k ∧ i = .int .i64 k ∧ c = .int .i64 xs.length ∧ wr.ownsRow w.heap.size 5 1 v (encs (sel xs f t)).length (bv (encs (sel xs f t))) ∧ Below w.heap.size w wr ∧ Scan s.data.toList k xs) (fun _ _ i _ => s.size - (intOf i).toNat)
  case atStart => exact ⟨0, [], Nat.zero_le _, Nat.le_refl _, rfl, rfl, by rw [sel_nil]; exact World.ownsRow_nil _ _ _ _, Below.refl _ _, Scan.start _⟩
  case round =>
    obtain ⟨k, xs, hk, hxk, rfl, rfl, hown0, hbel, hsc0⟩ := hrel
    have hsc := Lib.hid hsc0
    have hown := Lib.hid hown0
    have hel : (encs (sel xs f t)).length ≤ 4194304 := by
      have h1 := (encs_len (sel xs f t)).2
      have h2 := sel_len xs f t
      omega
    clear hsc0 hown0
    by_cases hlt : k < s.size
    · cases hx : dec (s.data.toList.drop k) with
      | none =>
        have hX := Lib.hid hx
        clear hx
        have hv := Lib.hid (hsc.out.fail (by rw [hlen.out]; exact hlt) hX.out)
        go_wp2_with (go_at_call 10; refine (dec_none_of (dec_any s k hs2.out _) hX.out).mono ?_; rintro e w' ⟨rfl, rfl⟩)
        go_ret2
        rw [hv.out]
        exact ⟨rfl, hbel⟩
      | some rn =>
        obtain ⟨r, n⟩ := rn
        have hX := Lib.hid hx
        clear hx
        obtain ⟨_, hn1, hn4, hnl⟩ := dec_some_cp hX.out
        rw [List.length_drop, hlen.out] at hnl
        have hkn : k + n ≤ s.size := by omega
        clear hnl
        by_cases hin : f ≤ xs.length ∧ (xs.length : Int) < t
        · obtain ⟨g1, g2⟩ := hin
          have hcb := Lib.hid (cut_enc hX.out)
          have hcs := Lib.hid (cut_size hkn)
          go_wp2_with (first
            | (go_at_call 10; refine (dec_some_of (dec_any s k hs2.out _) r n hX.out).mono ?_; rintro e w' ⟨rfl, rfl⟩)
            | (at_builtin; refine Lib.wpList_append_own_string _ rfl _ _ 33 9 rfl w.heap.size 5 i0 Try.underlying33 Try.underlying9 hi hz0 hz1 hz2 _ _ _ rfl hown.out (s.extract k (k + n)) rfl (by rw [hcs.out]; unfold maxLen; omega) (by rw [hcs.out]; omega) hbel.size ?_; intro v1 w1 hown1 hgrow1 _))
          have hB := hbel.grown hgrow1 hbel.size (fun j hj => (hown.out.lt j hj).1)
          have hsel := sel_snoc_in (f := f) (t := t) r g1 g2
          rw [hcs.out, strCells_bv, hcb.out] at hown1
          have hn := (enc_dec hX.out).2
          clear hgrow1 hbel
          go_roundw
          case rel => exact ⟨k + n, xs ++ [r], by omega, by simp; omega, by go_num, by simp, by rw [hsel, encs_snoc, List.length_append, bv_append, ← hn]; exact hown1, hB, hsc.out.step hX.out⟩
          case measure => simp [intOf]; omega
        · have hsel : sel (xs ++ [r]) f t = sel xs f t := by
            by_cases h1 : (xs.length : Int) < f
            · exact sel_snoc_lo r h1
            · exact sel_snoc_hi r (by omega)
          have HS := Lib.hid hsel
          clear hsel
          by_cases g1 : f ≤ xs.length
          · have g2 : t ≤ xs.length := by omega
            go_wp2_with (go_at_call 10; refine (dec_some_of (dec_any s k hs2.out _) r n hX.out).mono ?_; rintro e w' ⟨rfl, rfl⟩)
            go_roundw
            case rel => exact ⟨k + n, xs ++ [r], by omega, by simp; omega, by go_num, by simp, by rw [HS.out]; exact hown.out, hbel, hsc.out.step hX.out⟩
            case measure => simp [intOf]; omega
          · go_wp2_with (go_at_call 10; refine (dec_some_of (dec_any s k hs2.out _) r n hX.out).mono ?_; rintro e w' ⟨rfl, rfl⟩)
            go_roundw
            case rel => exact ⟨k + n, xs ++ [r], by omega, by simp; omega, by go_num, by simp, by rw [HS.out]; exact hown.out, hbel, hsc.out.step hX.out⟩
            case measure => simp [intOf]; omega
    · have hv := Lib.hid (hsc.out.done (by rw [hlen.out]; exact hlt))
      have hcv := conv_own hown.out
      go_wp2
      go_ret2
      rw [hv.out]
      exact ⟨rfl, hbel⟩
end Go.Proofs.Ytfabdodkjohldaa

/- The contract of the reference's Slice; the walk of UtfSlice. -/
import Derived.Test.YtfabdodkjohldaaSlice1
namespace Go.Proofs.Ytfabdodkjohldaa
open Go.RowKit
set_option maxRecDepth 100000 in
set_option maxHeartbeats 2000000 in
theorem rslice_none (s : ByteArray) (f t : Int) (hs : s.size ≤ 1048576) (h : runes s.data.toList = none) (w : World) :
    Calls Try.prog 24 #[.string s, .int .i64 f, .int .i64 t] w fun e w' => e = .returned (slV (runes s.data.toList) f t) ∧ Below w.heap.size w w' := by
  have HR := Lib.hid (fun w => runes_none_of (rrunes_any s hs w) h)
  have H := Lib.hid h
  clear hs h
  go_enter Try.func24, Try.ntmps24
  go_wp2_with (go_at_call 15; refine (HR.out _).mono ?_; rintro e w1 ⟨rfl, hb1⟩)
  go_ret2
  rw [H.out]
  exact ⟨rfl, hb1⟩
theorem own_slice_cap {w : World} {base n : Nat} {e : TypeId} {v : Value} {xs : List Value} (h : w.ownsRow base e 1 v n xs) :
    ∃ A c, v = .slice A n c ∧ Rd w w.heap.size A xs ∧ n ≤ c := by
  obtain ⟨A, c, hv, hl, hr⟩ := own_slice h
  refine ⟨A, c, hv, hr, ?_⟩
  rcases h.2 with ⟨rfl, rfl⟩ | ⟨g, cap, cur, rfl, _, _, hnc, _⟩
  · omega
  · injection hv with _ _ h3; omega
theorem runes_cap_of {f : FuncId} {args : Array Value} {w : World} {o : Option (List Nat)} (h : Calls Try.prog f args w fun e w' => RunesPost o w e w') (xs : List Nat) (ho : o = some xs) :
    Calls Try.prog f args w fun e w' => ∃ A c, e = .returned (.tuple #[.slice A xs.length c, .bool true]) ∧ Rd w' w'.heap.size A (iv xs) ∧ xs.length ≤ c ∧ Below w.heap.size w w' := by
  subst ho
  refine h.mono fun e w' h => ?_
  obtain ⟨hb, v, rfl, hown⟩ := h
  obtain ⟨A, c, rfl, hr, hc⟩ := own_slice_cap hown
  exact ⟨A, c, rfl, hr, hc, hb⟩
theorem Rd.drop {w : World} {B : Nat} {A : Option Addr} {xs : List Value} (h : Rd w B A xs) (k : Nat) : Rd w B (A.map (fun x => x.add k)) (xs.drop k) := by
  intro j u hj
  rw [List.getElem?_drop] at hj
  obtain ⟨b, o, rfl, hb, hc⟩ := h _ u hj
  refine ⟨b, o + k, ?_, hb, by rw [Nat.add_assoc]; exact hc⟩
  show some _ = some _
  unfold Addr.add
  by_cases hk : k = 0 <;> simp [hk]
theorem Rd.take {w : World} {B : Nat} {A : Option Addr} {xs : List Value} (h : Rd w B A xs) (k : Nat) : Rd w B A (xs.take k) := by
  intro j u hj
  refine h j u ?_
  rw [List.getElem?_take] at hj
  split at hj
  · exact hj
  · cases hj
theorem iv_drop (xs : List Nat) (k : Nat) : iv (xs.drop k) = (iv xs).drop k := by simp [iv]
theorem iv_take (xs : List Nat) (k : Nat) : iv (xs.take k) = (iv xs).take k := by simp [iv]
/-- The reference's FromRunes of code points. -/
theorem rfrom_sel (A : Option Addr) (m c : Nat) (ys : List Nat) (B : Nat) (w : World) (hr : Rd w B A (iv ys)) (hm : ys.length = m) (hB : B ≤ w.heap.size) (hlen : ys.length ≤ 16777216) (hcp : ∀ r ∈ ys, cp (r : Int) = true) :
    Calls Try.prog 22 #[.slice A m c] w fun e w' => e = .returned (.tuple #[.string ⟨(encs ys).toArray⟩, .bool true]) ∧ Below w.heap.size w w' := by
  have h := rfrom_any A c (ys.map Int.ofNat) B w (by rw [← iv_zv]; exact hr) hB (by simpa using hlen)
  rw [List.length_map, frV_true (allCp_nat hcp), toNat_ofNat_map, hm] at h
  exact h
theorem slV_some {xs ys : List Nat} {f t : Int} (h : sel xs f t = ys) : slV (some xs) f t = .tuple #[.string ⟨(encs ys).toArray⟩, .bool true] := by
  subst h; rfl
set_option maxRecDepth 100000 in
set_option maxHeartbeats 2000000 in
theorem rslice_1 (s : ByteArray) (f t : Int) (xs : List Nat) (hs : s.size ≤ 1048576) (h : runes s.data.toList = some xs) (hf : f < 0) (ht : (xs.length : Int) < t) (w : World) :
    Calls Try.prog 24 #[.string s, .int .i64 f, .int .i64 t] w fun e w' => e = .returned (slV (runes s.data.toList) f t) ∧ Below w.heap.size w w' := by
  have HR := Lib.hid (fun w => runes_cap_of (rrunes_any s hs w) xs h)
  have H := Lib.hid h
  have hxl : xs.length ≤ 1048576 := by have h1 := runes_length h; simp at h1; omega
  have hcp := Lib.hid (encs_runes _ _ (Nat.le_refl _) xs h).2
  clear hs h
  by_cases he : xs = []
  · subst he
    have hv : Hid (slV (some []) f t = .tuple #[.string ⟨#[]⟩, .bool true]) := Lib.hid (slV_some (ys := []) (by unfold sel; simp))
    go_enter Try.func24, Try.ntmps24
    go_wp2_with (go_at_call 15; refine (HR.out _).mono ?_; rintro e w1 ⟨A, c, rfl, hr1, hc1, hb1⟩; have HR1 := Lib.hid hr1; clear hr1)
    all_goals go_ret2
    all_goals rw [H.out, hv.out]
    all_goals exact ⟨rfl, hb1⟩
  · have hse : sel xs f t = xs := by
      unfold sel; rw [List.take_of_length_le (by omega), show f.toNat = 0 from by omega, List.drop_zero]
    have hv := Lib.hid (slV_some hse)
    have hsl : (xs).length = xs.length := by first | rfl | (simp; done) | (simp; omega)
    have HL := Lib.hid hsl
    clear hse hsl
    go_enter Try.func24, Try.ntmps24
    go_wp2_with (go_at_call 15; refine (HR.out _).mono ?_; rintro e w1 ⟨A, c, rfl, hr1, hc1, hb1⟩; have HR1 := Lib.hid hr1; clear hr1)
    refine (rfrom_sel (A) (xs.length) (c) (xs) w1.heap.size _ (HR1.out) (by first | rfl | (simp; done) | (simp; omega)) (Nat.le_refl _) (by first | omega | (simp; omega)) ?_).mono ?_
    · intro q hq
      refine hcp.out q ?_
      first | exact hq | exact List.mem_of_mem_take hq | exact List.mem_of_mem_drop hq | exact List.mem_of_mem_take (List.mem_of_mem_drop hq)
    rintro e w2 ⟨rfl, hb2⟩
    have hb := chain hb1 hb2
    clear hb1 hb2
    go_wp2
    go_ret2
    rw [H.out, hv.out]
    exact ⟨rfl, hb⟩
set_option maxRecDepth 100000 in
set_option maxHeartbeats 2000000 in
theorem rslice_2 (s : ByteArray) (f t : Int) (xs : List Nat) (hs : s.size ≤ 1048576) (h : runes s.data.toList = some xs) (hf : f < 0) (ht : t ≤ (xs.length : Int)) (w : World) :
    Calls Try.prog 24 #[.string s, .int .i64 f, .int .i64 t] w fun e w' => e = .returned (slV (runes s.data.toList) f t) ∧ Below w.heap.size w w' := by
  have HR := Lib.hid (fun w => runes_cap_of (rrunes_any s hs w) xs h)
  have H := Lib.hid h
  have hxl : xs.length ≤ 1048576 := by have h1 := runes_length h; simp at h1; omega
  have hcp := Lib.hid (encs_runes _ _ (Nat.le_refl _) xs h).2
  clear hs h
  by_cases he : t ≤ (0 : Int)
  · have hv : Hid (slV (some xs) f t = .tuple #[.string ⟨#[]⟩, .bool true]) := Lib.hid (slV_some (ys := []) (by unfold sel; exact List.drop_eq_nil_of_le (by simp; omega)))
    go_enter Try.func24, Try.ntmps24
    go_wp2_with (go_at_call 15; refine (HR.out _).mono ?_; rintro e w1 ⟨A, c, rfl, hr1, hc1, hb1⟩; have HR1 := Lib.hid hr1; clear hr1)
    all_goals go_ret2
    all_goals rw [H.out, hv.out]
    all_goals exact ⟨rfl, hb1⟩
  · have hse : sel xs f t = xs.take t.toNat := by
      unfold sel; rw [show f.toNat = 0 from by omega, List.drop_zero]
    have hv := Lib.hid (slV_some hse)
    have hsl : (xs.take t.toNat).length = t.toNat := by first | rfl | (simp; done) | (simp; omega)
    have HL := Lib.hid hsl
    clear hse hsl
    go_enter Try.func24, Try.ntmps24
    go_wp2_with (go_at_call 15; refine (HR.out _).mono ?_; rintro e w1 ⟨A, c, rfl, hr1, hc1, hb1⟩; have HR1 := Lib.hid hr1; clear hr1)
    refine (rfrom_sel (A) (t.toNat) (c) (xs.take t.toNat) w1.heap.size _ (by rw [iv_take]; exact HR1.out.take _) (by first | rfl | (simp; done) | (simp; omega)) (Nat.le_refl _) (by first | omega | (simp; omega)) ?_).mono ?_
    · intro q hq
      refine hcp.out q ?_
      first | exact hq | exact List.mem_of_mem_take hq | exact List.mem_of_mem_drop hq | exact List.mem_of_mem_take (List.mem_of_mem_drop hq)
    rintro e w2 ⟨rfl, hb2⟩
    have hb := chain hb1 hb2
    clear hb1 hb2
    go_wp2
    go_ret2
    rw [H.out, hv.out]
    exact ⟨rfl, hb⟩
set_option maxRecDepth 100000 in
set_option maxHeartbeats 2000000 in
theorem rslice_3 (s : ByteArray) (f t : Int) (xs : List Nat) (hs : s.size ≤ 1048576) (h : runes s.data.toList = some xs) (hf : 0 ≤ f) (ht : (xs.length : Int) < t) (w : World) :
    Calls Try.prog 24 #[.string s, .int .i64 f, .int .i64 t] w fun e w' => e = .returned (slV (runes s.data.toList) f t) ∧ Below w.heap.size w w' := by
  have HR := Lib.hid (fun w => runes_cap_of (rrunes_any s hs w) xs h)
  have H := Lib.hid h
  have hxl : xs.length ≤ 1048576 := by have h1 := runes_length h; simp at h1; omega
  have hcp := Lib.hid (encs_runes _ _ (Nat.le_refl _) xs h).2
  clear hs h
  by_cases he : (xs.length : Int) ≤ f
  · have hv : Hid (slV (some xs) f t = .tuple #[.string ⟨#[]⟩, .bool true]) := Lib.hid (slV_some (ys := []) (by unfold sel; exact List.drop_eq_nil_of_le (by simp; omega)))
    go_enter Try.func24, Try.ntmps24
    go_wp2_with (go_at_call 15; refine (HR.out _).mono ?_; rintro e w1 ⟨A, c, rfl, hr1, hc1, hb1⟩; have HR1 := Lib.hid hr1; clear hr1)
    all_goals go_ret2
    all_goals rw [H.out, hv.out]
    all_goals exact ⟨rfl, hb1⟩
  · have hse : sel xs f t = xs.drop f.toNat := by
      unfold sel; rw [List.take_of_length_le (by omega)]
    have hv := Lib.hid (slV_some hse)
    have hsl : (xs.drop f.toNat).length = xs.length - f.toNat := by first | rfl | (simp; done) | (simp; omega)
    have HL := Lib.hid hsl
    clear hse hsl
    go_enter Try.func24, Try.ntmps24
    go_wp2_with (go_at_call 15; refine (HR.out _).mono ?_; rintro e w1 ⟨A, c, rfl, hr1, hc1, hb1⟩; have HR1 := Lib.hid hr1; clear hr1)
    refine (rfrom_sel (A.map (fun x => x.add f.toNat)) (xs.length - f.toNat) (c - f.toNat) (xs.drop f.toNat) w1.heap.size _ (by rw [iv_drop]; exact HR1.out.drop _) (by first | rfl | (simp; done) | (simp; omega)) (Nat.le_refl _) (by first | omega | (simp; omega)) ?_).mono ?_
    · intro q hq
      refine hcp.out q ?_
      first | exact hq | exact List.mem_of_mem_take hq | exact List.mem_of_mem_drop hq | exact List.mem_of_mem_take (List.mem_of_mem_drop hq)
    rintro e w2 ⟨rfl, hb2⟩
    have hb := chain hb1 hb2
    clear hb1 hb2
    go_wp2
    go_ret2
    rw [H.out, hv.out]
    exact ⟨rfl, hb⟩
set_option maxRecDepth 100000 in
set_option maxHeartbeats 2000000 in
theorem rslice_4 (s : ByteArray) (f t : Int) (xs : List Nat) (hs : s.size ≤ 1048576) (h : runes s.data.toList = some xs) (hf : 0 ≤ f) (ht : t ≤ (xs.length : Int)) (w : World) :
    Calls Try.prog 24 #[.string s, .int .i64 f, .int .i64 t] w fun e w' => e = .returned (slV (runes s.data.toList) f t) ∧ Below w.heap.size w w' := by
  have HR := Lib.hid (fun w => runes_cap_of (rrunes_any s hs w) xs h)
  have H := Lib.hid h
  have hxl : xs.length ≤ 1048576 := by have h1 := runes_length h; simp at h1; omega
  have hcp := Lib.hid (encs_runes _ _ (Nat.le_refl _) xs h).2
  clear hs h
  by_cases he : t ≤ f
  · have hv : Hid (slV (some xs) f t = .tuple #[.string ⟨#[]⟩, .bool true]) := Lib.hid (slV_some (ys := []) (by unfold sel; exact List.drop_eq_nil_of_le (by simp; omega)))
    go_enter Try.func24, Try.ntmps24
    go_wp2_with (go_at_call 15; refine (HR.out _).mono ?_; rintro e w1 ⟨A, c, rfl, hr1, hc1, hb1⟩; have HR1 := Lib.hid hr1; clear hr1)
    all_goals go_ret2
    all_goals rw [H.out, hv.out]
    all_goals exact ⟨rfl, hb1⟩
  · have hse : sel xs f t = (xs.take t.toNat).drop f.toNat := by
      rfl
    have hv := Lib.hid (slV_some hse)
    have hsl : ((xs.take t.toNat).drop f.toNat).length = t.toNat - f.toNat := by first | rfl | (simp; done) | (simp; omega)
    have HL := Lib.hid hsl
    clear hse hsl
    go_enter Try.func24, Try.ntmps24
    go_wp2_with (go_at_call 15; refine (HR.out _).mono ?_; rintro e w1 ⟨A, c, rfl, hr1, hc1, hb1⟩; have HR1 := Lib.hid hr1; clear hr1)
    refine (rfrom_sel (A.map (fun x => x.add f.toNat)) (t.toNat - f.toNat) (c - f.toNat) ((xs.take t.toNat).drop f.toNat) w1.heap.size _ (by rw [iv_drop, iv_take]; exact (HR1.out.take _).drop _) (by first | rfl | (simp; done) | (simp; omega)) (Nat.le_refl _) (by first | omega | (simp; omega)) ?_).mono ?_
    · intro q hq
      refine hcp.out q ?_
      first | exact hq | exact List.mem_of_mem_take hq | exact List.mem_of_mem_drop hq | exact List.mem_of_mem_take (List.mem_of_mem_drop hq)
    rintro e w2 ⟨rfl, hb2⟩
    have hb := chain hb1 hb2
    clear hb1 hb2
    go_wp2
    go_ret2
    rw [H.out, hv.out]
    exact ⟨rfl, hb⟩
theorem rslice_any (s : ByteArray) (f t : Int) (hs : s.size ≤ 1048576) (w : World) :
    Calls Try.prog 24 #[.string s, .int .i64 f, .int .i64 t] w fun e w' => e = .returned (slV (runes s.data.toList) f t) ∧ Below w.heap.size w w' := by
  cases h : runes s.data.toList with
  | none => have h2 := rslice_none s f t hs h w; rw [h] at h2; exact h2
  | some xs =>
    by_cases hf : f < 0
    · by_cases ht : (xs.length : Int) < t
      · have h2 := rslice_1 s f t xs hs h hf ht w; rw [h] at h2; exact h2
      · have h2 := rslice_2 s f t xs hs h hf (by omega) w; rw [h] at h2; exact h2
    · by_cases ht : (xs.length : Int) < t
      · have h2 := rslice_3 s f t xs hs h (by omega) ht w; rw [h] at h2; exact h2
      · have h2 := rslice_4 s f t xs hs h (by omega) (by omega) w; rw [h] at h2; exact h2
theorem sl_none_of {w : World} {f : FuncId} {args : Array Value} {o : Option (List Nat)} {a b : Int} (h : Calls Try.prog f args w fun e w' => e = .returned (slV o a b) ∧ Below w.heap.size w w') (ho : o = none) :
    Calls Try.prog f args w fun e w' => e = .returned (.tuple #[.string ⟨#[]⟩, .bool false]) ∧ Below w.heap.size w w' := by subst ho; exact h
theorem sl_some_of {w : World} {f : FuncId} {args : Array Value} {o : Option (List Nat)} {a b : Int} (h : Calls Try.prog f args w fun e w' => e = .returned (slV o a b) ∧ Below w.heap.size w w') (xs : List Nat) (ho : o = some xs) :
    Calls Try.prog f args w fun e w' => e = .returned (.tuple #[.string ⟨(encs (sel xs a b)).toArray⟩, .bool true]) ∧ Below w.heap.size w w' := by subst ho; exact h
set_option maxHeartbeats 1000000 in
theorem slice_walk (s : ByteArray) (f t : Int) (w : World) :
    Calls Try.prog 5 #[.string s, .int .i64 f, .int .i64 t] w fun e w' => e = .returned (.bool true) ∧ Below w.heap.size w w' := by
  by_cases hbig : 200 < s.size
  · go_enter Try.func5, Try.ntmps5
    go_wp2_with (go_at_call 9; refine (awake_any _).mono ?_; rintro e w' ⟨rfl, rfl⟩)
    go_ret
    exact ⟨rfl, Below.refl _ _⟩
  · have hs1 : Hid (s.size ≤ 1048576) := Lib.hid (by omega)
    cases hy : runes s.data.toList with
    | none =>
      have hY := Lib.hid hy
      clear hy
      go_enter Try.func5, Try.ntmps5
      go_wp2_with (first
        | (go_at_call 23; refine (sl_none_of (slice_any s f t hs1.out _) hY.out).mono ?_; rintro e w1 ⟨rfl, hb1⟩)
        | (go_at_call 24; refine (sl_none_of (rslice_any s f t hs1.out _) hY.out).mono ?_; rintro e w2 ⟨rfl, hb2⟩)
        | (go_at_call 9; refine (awake_any _).mono ?_; rintro e w' ⟨rfl, rfl⟩))
      go_ret
      exact ⟨rfl, chain hb1 hb2⟩
    | some xs =>
      have hY := Lib.hid hy
      clear hy
      go_enter Try.func5, Try.ntmps5
      go_wp2_with (first
        | (go_at_call 23; refine (sl_some_of (slice_any s f t hs1.out _) xs hY.out).mono ?_; rintro e w1 ⟨rfl, hb1⟩)
        | (go_at_call 24; refine (sl_some_of (rslice_any s f t hs1.out _) xs hY.out).mono ?_; rintro e w2 ⟨rfl, hb2⟩)
        | (go_at_call 9; refine (awake_any _).mono ?_; rintro e w' ⟨rfl, rfl⟩))
      go_ret
      exact ⟨rfl, chain hb1 hb2⟩
end Go.Proofs.Ytfabdodkjohldaa

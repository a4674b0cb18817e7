/- The contracts of Append and of the reference's Append. -/
import Derived.Test.YtfabdodkjohldaaEnc3
namespace Go.Proofs.Ytfabdodkjohldaa
open Go.RowKit
theorem ownsRow_base {w : World} {base base' size n : Nat} {e : TypeId} {v : Value} {xs : List Value} (h : w.ownsRow base e size v n xs) (hb : base' ≤ base) : w.ownsRow base' e size v n xs := by
  obtain ⟨hl, h⟩ := h
  refine ⟨hl, ?_⟩
  rcases h with h | ⟨g, cap, cur, h1, h2, h3⟩
  · exact .inl h
  · exact .inr ⟨g, cap, cur, h1, by omega, h3⟩
/-- What Append leaves. -/
def AppendPost (l : List UInt8) (r : Int) (w : World) (e : Ending) (w' : World) : Prop :=
  Below w.heap.size w w' ∧ match cp r with
  | false => e = .returned (.tuple #[.slice none 0 0, .bool false])
  | true => ∃ v, e = .returned (.tuple #[v, .bool true]) ∧ w'.ownsRow w.heap.size 5 1 v (l ++ enc r.toNat).length (bv (l ++ enc r.toNat))
theorem AppendPost.no {l : List UInt8} {r : Int} {w w' : World} {e : Ending} (hc : cp r = false) (hb : Below w.heap.size w w') (he : e = .returned (.tuple #[.slice none 0 0, .bool false])) : AppendPost l r w e w' := by
  refine ⟨hb, ?_⟩; rw [hc]; exact he
theorem AppendPost.yes {l : List UInt8} {r : Int} {w w' : World} {e : Ending} (hc : cp r = true) (hb : Below w.heap.size w w') {v : Value} (he : e = .returned (.tuple #[v, .bool true]))
    (ho : w'.ownsRow w.heap.size 5 1 v (l.length + (enc r.toNat).length) (bv l ++ bv (enc r.toNat))) : AppendPost l r w e w' := by
  refine ⟨hb, ?_⟩; rw [hc]; exact ⟨v, he, by rw [List.length_append, bv_append]; exact ho⟩
set_option maxRecDepth 100000 in
set_option maxHeartbeats 1000000 in
theorem append_any (A : Option Addr) (c : Nat) (l : List UInt8) (r : Int) (B : Nat) (w : World) (hr : Rd w B A (bv l)) (hB : B ≤ w.heap.size) (hnil : A = none → c = 0) (hlen : l.length ≤ 16777216) :
    Calls Try.prog 19 #[.slice A l.length c, .int .i64 r] w fun e w' => AppendPost l r w e w' := by
  have HR := Lib.hid hr
  have HN := Lib.hid hnil
  clear hr hnil
  obtain ⟨i0, hi, hz0, hz1, hz2⟩ := info_parts inf_u8
  cases hc : cp r with
  | false =>
    go_enter Try.func19, Try.ntmps19
    go_wp2_with (go_at_call 28; refine (isCp _ _).mono ?_; rintro e w' ⟨rfl, rfl⟩)
    go_ret2
    exact AppendPost.no hc (Below.refl _ _) rfl
  | true =>
    have hcr := cp_range_int hc
    have hlb := bv_length l
    have HL := Lib.hid hlb
    clear hlb
    go_enter Try.func19, Try.ntmps19
    go_wp2_with (first
      | (go_at_call 28; refine (isCp _ _).mono ?_; rintro e w' ⟨rfl, rfl⟩)
      | (at_make; refine wpList_make_own _ rfl _ _ 33 rfl w.heap.size 5 i0 (.int .u8 0) 1 Try.underlying33 hi hz0 hz1 .i64 .i64 _ (l.length + 4) rfl rfl (by omega) (by rw [hz2]; omega) (by unfold maxLen; omega) (Nat.le_refl _) ?_; intro w0 hown0 hgrow0)
      | (at_builtin; refine wpList_append_rd _ rfl _ _ 33 rfl w.heap.size 5 i0 (.int .u8 0) 1 Try.underlying33 hi hz0 hz1 hz2 rfl _ _ _ rfl hown0 B A c (bv l) (by rw [HL.out]; rfl) (HR.out.grown hgrow0 hB (fun _ h => by cases h)) HN.out (bv_one _) (by rw [HL.out]; unfold maxLen; omega) (by rw [HL.out]; omega) hgrow0.size ?_; intro v1 w1 hown1 hgrow1))
    have hb0 : Below w.heap.size w w0 := (Below.refl _ _).grown hgrow0 (Nat.le_refl _) (fun _ h => by cases h)
    have hb1 : Below w.heap.size w w1 := hb0.grown hgrow1 hgrow0.size (fun j hj => (hown0.lt j hj).1)
    rw [HL.out] at hown1
    simp only [Nat.zero_add, List.nil_append] at hown1
    clear hgrow0 hgrow1 hown0 hb0
    refine (app_any v1 r hcr.1 hcr.2 _ w.heap.size l.length (bv l) hown1 (by omega) hb1.size).mono ?_
    rintro e w2 ⟨v2, rfl, hown2, hb2⟩
    have hb3 := hb1.trans hb2
    clear hown1 hb1 hb2
    go_wp2
    go_ret2
    exact AppendPost.yes hc hb3 rfl hown2
set_option maxRecDepth 100000 in
set_option maxHeartbeats 1000000 in
theorem rappend_any (A : Option Addr) (c : Nat) (l : List UInt8) (r : Int) (B : Nat) (w : World) (hr : Rd w B A (bv l)) (hB : B ≤ w.heap.size) (hnil : A = none → c = 0) (hlen : l.length ≤ 16777216) :
    Calls Try.prog 20 #[.slice A l.length c, .int .i64 r] w fun e w' => AppendPost l r w e w' := by
  have HR := Lib.hid hr
  have HN := Lib.hid hnil
  clear hr hnil
  obtain ⟨i0, hi, hz0, hz1, hz2⟩ := info_parts inf_u8
  cases hc : cp r with
  | false =>
    go_enter Try.func20, Try.ntmps20
    go_wp2_with (go_at_call 30; refine (renc_false _ hc _).mono ?_; rintro e w' ⟨rfl, rfl⟩)
    go_ret2
    exact AppendPost.no hc (Below.refl _ _) rfl
  | true =>
    have hel := enc_len r.toNat
    have HL := Lib.hid (bv_length l)
    have HE := Lib.hid (bv_length (enc r.toNat))
    have hE0 : Rd (w.alloc (.cells (bv (enc r.toNat)).toArray 5)) (w.heap.size + 1) (some ⟨w.heap.size, 0, none⟩) (bv (enc r.toNat)) := by
      intro j u hj
      refine ⟨w.heap.size, 0, rfl, by omega, ?_⟩
      have h := new_cells w 5 (bv (enc r.toNat)) j u hj
      rw [show ((⟨w.heap.size, 0, none⟩ : Addr).add j) = ⟨w.heap.size, 0 + j, none⟩ from by unfold Addr.add; by_cases h : j = 0 <;> simp [h]] at h
      exact h
    have hE1 : Rd ((w.alloc (.cells (bv (enc r.toNat)).toArray 5)).alloc (.cells #[] 5)) (w.heap.size + 1) (some ⟨w.heap.size, 0, none⟩) (bv (enc r.toNat)) :=
      hE0.keep fun p hp => World.cell?_alloc_lt _ _ p (by simp; omega)
    have hb0 : Below w.heap.size w ((w.alloc (.cells (bv (enc r.toNat)).toArray 5)).alloc (.cells #[] 5)) := ((Below.refl _ _).alloc (Nat.le_refl _) _).alloc (by simp) _
    have hown0 : ((w.alloc (.cells (bv (enc r.toNat)).toArray 5)).alloc (.cells #[] 5)).ownsRow (w.heap.size + 1) 5 1 (.slice (some ⟨w.heap.size + 1, 0, none⟩) 0 0) 0 [] := by
      have h := World.ownsRow_lit (base := w.heap.size + 1) (e := 5) (size := 1) (w.alloc (.cells (bv (enc r.toNat)).toArray 5)) #[] 0 (by simp) (by unfold maxLen; omega) (by simp)
      simpa using h
    have HE1 := Lib.hid hE1
    have HB0 := Lib.hid hb0
    have HO0 := Lib.hid hown0
    clear hE0 hE1 hb0 hown0
    go_enter Try.func20, Try.ntmps20
    go_wp2_with (first
      | (go_at_call 30; refine (renc_true _ hc _).mono ?_; rintro e w' ⟨rfl, rfl⟩)
      | (at_builtin; refine wpList_append_rd _ rfl (.tmp 15) (.tmp 16) 33 rfl (w.heap.size + 1) 5 i0 (.int .u8 0) 1 Try.underlying33 hi hz0 hz1 hz2 rfl (.slice (some ⟨w.heap.size + 1, 0, none⟩) 0 0) _ _ rfl HO0.out B A c (bv l) (by rw [HL.out]; rfl) (HR.out.below HB0.out hB) HN.out (bv_one _) (by rw [HL.out]; unfold maxLen; omega) (by rw [HL.out]; omega) (by simp) ?_; intro v1 w1 hown1 hgrow1; rw [HL.out] at hown1; simp only [Nat.zero_add, List.nil_append] at hown1)
      | (at_builtin; refine wpList_append_rd _ rfl (.tmp 17) (.tmp 18) 33 rfl (w.heap.size + 1) 5 i0 (.int .u8 0) 1 Try.underlying33 hi hz0 hz1 hz2 rfl v1 _ _ rfl hown1 (w.heap.size + 1) (some ⟨w.heap.size, 0, none⟩) (enc r.toNat).length (bv (enc r.toNat)) (by rw [HE.out]; rfl) (HE1.out.grown hgrow1 (by simp) (fun j hj => (HO0.out.lt j hj).1)) (fun h => by cases h) (bv_one _) (by rw [HE.out]; unfold maxLen; omega) (by rw [HE.out]; omega) (by have := hgrow1.size; simp at this; omega) ?_; intro v2 w2 hown2 hgrow2; rw [HE.out] at hown2))
    have hb1 : Below w.heap.size w w1 := HB0.out.grown hgrow1 (by simp; omega) (fun j hj => by have := (HO0.out.lt j hj).1; omega)
    have hb2 : Below w.heap.size w w2 := hb1.grown hgrow2 hb1.size (fun j hj => by have := (hown1.lt j hj).1; omega)
    go_ret2
    exact AppendPost.yes hc hb2 rfl (ownsRow_base hown2 (by omega))
end Go.Proofs.Ytfabdodkjohldaa

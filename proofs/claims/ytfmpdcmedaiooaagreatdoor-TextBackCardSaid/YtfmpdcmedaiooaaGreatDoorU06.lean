/- The contracts of FromRunes. The contracts of Append and of the reference's Append. The end of a string, and what an escape appends. -/
import Derived.Test.YtfmpdcmedaiooaaGreatDoorU05
import Derived.Test.YtfmpdcmedaiooaaGreatDoorU04
import Derived.Lib.AppendStr
set_option linter.unusedVariables false
set_option linter.unusedSimpArgs false
namespace Go.Proofs.YtfmpdcmedaiooaaGreatDoor
open Go.RowKit
theorem conv_nil {P : Program} (w : World) (src dst e : TypeId) (c : Nat) (hs : P.underlying src = some (.slice e)) (he : P.underlying e = some (.int .u8)) (hd : P.underlying dst = some .string) :
    (convert src dst (.slice none 0 c)).run P w = .ok (.string ⟨#[]⟩) w := by
  rw [run_convert_bytes_string w src dst e none 0 c hs he hd]
  simp [Conv.bytesToString]; rfl
theorem conv_rd {P : Program} {w : World} {B : Nat} {A : Option Addr} {l : List UInt8} (h : Rd w B A (bv l)) (src dst e : TypeId) (c : Nat) (hs : P.underlying src = some (.slice e)) (he : P.underlying e = some (.int .u8)) (hd : P.underlying dst = some .string) :
    (convert src dst (.slice A l.length c)).run P w = .ok (.string ⟨l.toArray⟩) w := by
  cases A with
  | none =>
    cases l with
    | nil => exact conv_nil w src dst e c hs he hd
    | cons b t => obtain ⟨b1, o, h1, _⟩ := h 0 (.int .u8 b.toNat) (by simp [bv]); cases h1
  | some a =>
    refine run_convert_bytes_back w src dst e a c l hs he hd fun j hj => ?_
    obtain ⟨b, o, h1, _, h2⟩ := h j (.int .u8 l[j].toNat) (by simp [bv, hj])
    injection h1 with h1
    subst h1
    have h3 : ((⟨b, o, none⟩ : Addr).add j) = ⟨b, o + j, none⟩ := by
      unfold Addr.add
      by_cases h : j = 0 <;> simp [h]
    rw [h3, h2]
/-- string(b), b a row of the call's own. -/
theorem conv_own {w : World} {base n : Nat} {v : Value} {l : List UInt8} (h : w.ownsRow base 5 1 v n (bv l)) : (convert 55 9 v).run Tryz.prog w = .ok (.string ⟨l.toArray⟩) w := by
  obtain ⟨A, c, rfl, hl, hr⟩ := own_slice h
  rw [bv_length] at hl
  subst hl
  exact conv_rd hr _ _ 5 c Tryz.underlying55 Tryz.underlying5 Tryz.underlying9
def allCp (zs : List Int) : Bool := zs.all cp
def frV (zs : List Int) : Value := match allCp zs with
  | true => .tuple #[.string ⟨(encs (zs.map Int.toNat)).toArray⟩, .bool true]
  | false => .tuple #[.string ⟨#[]⟩, .bool false]
theorem frV_true {zs : List Int} (h : allCp zs = true) : frV zs = .tuple #[.string ⟨(encs (zs.map Int.toNat)).toArray⟩, .bool true] := by unfold frV; rw [h]
theorem frV_false {zs : List Int} (h : allCp zs = false) : frV zs = .tuple #[.string ⟨#[]⟩, .bool false] := by unfold frV; rw [h]
/-- The encodings of the first k elements. -/
def pre (zs : List Int) (k : Nat) : List UInt8 := encs ((zs.take k).map Int.toNat)
theorem pre_zero (zs : List Int) : pre zs 0 = [] := by simp [pre, encs]
theorem pre_succ (zs : List Int) (k : Nat) (x : Int) (h : zs[k]? = some x) : pre zs (k + 1) = pre zs k ++ enc x.toNat := by
  unfold pre
  rw [List.take_add_one, h, List.map_append, encs_append]
  simp [encs]
theorem pre_len (zs : List Int) (k : Nat) : (pre zs k).length ≤ 4 * k := by
  have := (encs_len ((zs.take k).map Int.toNat)).2
  unfold pre
  simp at this ⊢; omega
theorem pre_all (zs : List Int) (k : Nat) (h : ¬ k < zs.length) : pre zs k = encs (zs.map Int.toNat) := by
  unfold pre; rw [List.take_of_length_le (by omega)]
theorem allCp_bad {zs : List Int} {k : Nat} {x : Int} (h : zs[k]? = some x) (hx : cp x = false) : allCp zs = false := by
  unfold allCp
  rw [List.all_eq_false]
  exact ⟨x, List.mem_of_getElem? h, by simp [hx]⟩
theorem allCp_done {zs : List Int} {k : Nat} (hk : ¬ k < zs.length) (h : ∀ r ∈ zs.take k, cp r = true) : allCp zs = true := by
  unfold allCp
  rw [List.take_of_length_le (by omega)] at h
  exact List.all_eq_true.2 h
theorem cp_range_int {z : Int} (h : cp z = true) : 0 ≤ z ∧ z ≤ 1114111 := by
  unfold cp at h; simp at h; omega
theorem mem_take_succ {zs : List Int} {k : Nat} {x : Int} (h : zs[k]? = some x) (hx : cp x = true) (hp : ∀ r ∈ zs.take k, cp r = true) : ∀ r ∈ zs.take (k + 1), cp r = true := by
  intro r hr
  rw [List.take_add_one, h] at hr
  rcases List.mem_append.1 hr with hr | hr
  · exact hp r hr
  · simp at hr; subst hr; exact hx
end Go.Proofs.YtfmpdcmedaiooaaGreatDoor
namespace Go.Proofs.YtfmpdcmedaiooaaGreatDoor
open Go.RowKit
/-- What Append leaves. -/
def AppendPost (l : List UInt8) (r : Int) (w : World) (e : Ending) (w' : World) : Prop :=
  Below w.heap.size w w' ∧ match cp r with
  | false => e = .returned (.tuple #[.slice none 0 0, .bool false])
  | true => ∃ v, e = .returned (.tuple #[v, .bool true]) ∧ w'.ownsRow w.heap.size 5 1 v (l ++ enc r.toNat).length (bv (l ++ enc r.toNat))
theorem AppendPost.no {l : List UInt8} {r : Int} {w w' : World} {e : Ending} (hc : cp r = false) (hb : Below w.heap.size w w') (he : e = .returned (.tuple #[.slice none 0 0, .bool false])) : AppendPost l r w e w' := by
  refine ⟨hb, ?_⟩; rw [hc]; exact he
theorem AppendPost.yes {l : List UInt8} {r : Int} {w w' : World} {e : Ending} (hc : cp r = true) (hb : Below w.heap.size w w') {v : Value} (he : e = .returned (.tuple #[v, .bool true]))
    (ho : w'.ownsRow w.heap.size 5 1 v (l.length + (enc r.toNat).length) (bv l ++ bv (enc r.toNat))) : AppendPost l r w e w' := by
  refine ⟨hb, ?_⟩; rw [hc]; exact ⟨v, he, by rw [List.length_append, bv_append]; exact ho⟩
set_option maxRecDepth 100000 in
set_option maxHeartbeats 1000000 in
theorem append_any (A : Option Addr) (c : Nat) (l : List UInt8) (r : Int) (B : Nat) (w : World) (hr : Rd w B A (bv l)) (hB : B ≤ w.heap.size) (hnil : A = none → c = 0) (hlen : l.length ≤ 16777216) :
    Calls Tryz.prog 182 #[.slice A l.length c, .int .i64 r] w fun e w' => AppendPost l r w e w' := by
  have HR := Lib.hid hr
  have HN := Lib.hid hnil
  clear hr hnil
  obtain ⟨i0, hi, hz0, hz1, hz2⟩ := info_parts inf_u8
  cases hc : cp r with
  | false =>
    go_enter Tryz.func182, Tryz.ntmps182
    go_wp2_with (go_at_call 34; refine (isCp _ _).mono ?_; rintro e w' ⟨rfl, rfl⟩)
    go_ret2
    exact AppendPost.no hc (Below.refl _ _) rfl
  | true =>
    have hcr := cp_range_int hc
    have hlb := bv_length l
    have HL := Lib.hid hlb
    clear hlb
    go_enter Tryz.func182, Tryz.ntmps182
    go_wp2_with (first
      | (go_at_call 34; refine (isCp _ _).mono ?_; rintro e w' ⟨rfl, rfl⟩)
      | (at_make; refine wpList_make_own _ rfl _ _ 55 rfl w.heap.size 5 i0 (.int .u8 0) 1 Tryz.underlying55 hi hz0 hz1 .i64 .i64 _ (l.length + 4) rfl rfl (by omega) (by rw [hz2]; omega) (by unfold maxLen; omega) (Nat.le_refl _) ?_; intro w0 hown0 hgrow0)
      | (at_builtin; refine wpList_append_rd _ rfl _ _ 55 rfl w.heap.size 5 i0 (.int .u8 0) 1 Tryz.underlying55 hi hz0 hz1 hz2 rfl _ _ _ rfl hown0 B A c (bv l) (by rw [HL.out]; rfl) (HR.out.grown hgrow0 hB (fun _ h => by cases h)) HN.out (bv_one _) (by rw [HL.out]; unfold maxLen; omega) (by rw [HL.out]; omega) hgrow0.size ?_; intro v1 w1 hown1 hgrow1))
    have hb0 : Below w.heap.size w w0 := (Below.refl _ _).grown hgrow0 (Nat.le_refl _) (fun _ h => by cases h)
    have hb1 : Below w.heap.size w w1 := hb0.grown hgrow1 hgrow0.size (fun j hj => (hown0.lt j hj).1)
    rw [HL.out] at hown1
    simp only [Nat.zero_add, List.nil_append] at hown1
    clear hgrow0 hgrow1 hown0 hb0
    refine (app_any v1 r hcr.1 hcr.2 _ w.heap.size l.length (bv l) hown1 (by omega) hb1.size).mono ?_
    rintro e w2 ⟨v2, rfl, hown2, hb2⟩
    have hb3 := hb1.trans hb2
    clear hown1 hb1 hb2
    go_wp2
    go_ret2
    exact AppendPost.yes hc hb3 rfl hown2
end Go.Proofs.YtfmpdcmedaiooaaGreatDoor
namespace Go.Proofs.YtfmpdcmedaiooaaGreatDoor
open Go.RowKit
theorem own_belowJ {w w' : World} {base : Nat} {e : TypeId} {size n : Nat} {v : Value} {xs : List Value} (h : w.ownsRow base e size v n xs) (hb : Below w.heap.size w w') : w'.ownsRow base e size v n xs :=
  h.kept (below_grown hb none) (by cases v.ownBlock <;> simp)
def strEj (k t : Nat) (out : List UInt8) : Lx := if out.length ≤ 4096 then okX 4 k t 0 0 ⟨out.toArray⟩ else noX k 2
set_option maxHeartbeats 2000000 in
set_option maxRecDepth 100000 in
theorem finish_str (v : Value) (out : List UInt8) (k t base : Nat) (w : World) (hown : w.ownsRow base 5 1 v out.length (bv out)) (hlen : out.length ≤ 16777216) :
    Calls Tryz.prog 149 #[v, .int .i64 k, .int .i64 t] w (LexPost (strEj k t out) w) := by
  obtain ⟨W1, hW1⟩ : ∃ X, X = w.alloc (.cells #[.int .i64 0, .int .i64 0, .int .i64 0, .int .u8 0, .int .i64 0, .string ⟨#[]⟩] 93) := ⟨_, rfl⟩
  have hc := conv_own (w := W1) (by rw [hW1]; exact hown.alloc _)
  have HBX : Hid (Box W1 w.heap.size 93 #[.int .i64 0, .int .i64 0, .int .i64 0, .int .u8 0, .int .i64 0, .string ⟨#[]⟩]) := Lib.hid (by rw [hW1]; exact Box.laid w _ _)
  have HBL : Hid (Below w.heap.size w W1) := Lib.hid (by rw [hW1]; exact (Below.refl _ _).alloc (Nat.le_refl _) _)
  obtain ⟨A, c, rfl, hl, hr⟩ := own_slice hown
  have HW1 := Lib.hid hW1
  clear hW1 hl hr hown
  by_cases h : out.length ≤ 4096
  · have hx : strEj k t out = okX 4 k t 0 0 ⟨out.toArray⟩ := if_pos h
    rw [hx]
    clear hx
    have hi : ¬ (4096 : Int) < (out.length : Int) := by omega
    go_enter Tryz.func149, Tryz.ntmps149
    go_upto_region 1 with fail
    rw [← HW1.out]
    go_wp2_with (go_at_call 111; refine (found_any _ _ _ _ _ _ _).mono ?_; rintro e w' ⟨rfl, hb'⟩; have bx := HBX.out.below hb' HBX.out.lt; obtain ⟨t0, t1, t2, t3, t4, t5⟩ := box6 bx; obtain ⟨f0, f1, f2, f3, f4, f5⟩ := free6 bx)
    exact lex_ret Tryz.results149 rfl rfl rfl rfl (put6 bx _ _ _ _ _ _) (below_six (Nat.le_refl _) (HBL.out.trans (hb'.mono HBL.out.size)) _ _ _ _ _ _)
  · have hx : strEj k t out = noX k 2 := if_neg h
    rw [hx]
    clear hx
    have hi : (4096 : Int) < (out.length : Int) := by omega
    go_enter Tryz.func149, Tryz.ntmps149
    go_upto_region 1 with fail
    rw [← HW1.out]
    go_wp2_with (go_at_call 110; refine (fail_any _ _ _).mono ?_; rintro e w' ⟨rfl, hb'⟩; have bx := HBX.out.below hb' HBX.out.lt; obtain ⟨t0, t1, t2, t3, t4, t5⟩ := box6 bx; obtain ⟨f0, f1, f2, f3, f4, f5⟩ := free6 bx)
    exact lex_ret Tryz.results149 rfl rfl rfl rfl (put6 bx _ _ _ _ _ _) (below_six (Nat.le_refl _) (HBL.out.trans (hb'.mono HBL.out.size)) _ _ _ _ _ _)
theorem own_nil {w : World} {base n : Nat} {e : TypeId} {A : Option Addr} {m c : Nat} {xs : List Value} (h : w.ownsRow base e 1 (.slice A m c) n xs) : A = none → c = 0 := fun h0 => by
  subst h0
  rcases h.2 with ⟨h1, h2⟩ | ⟨g, cap, cur, h1, _⟩
  · first | (injection h1 with _ _ h3; exact h3) | (injection h2 with _ _ h3; exact h3) | (cases h1; rfl) | (cases h2; rfl)
  · cases h1
def PointPost (base : Nat) (out : List UInt8) (w : World) (e : Ending) (w' : World) : Prop := ∃ v, e = .returned v ∧ w'.ownsRow base 5 1 v out.length (bv out) ∧ Below base w w'
set_option maxHeartbeats 2000000 in
set_option maxRecDepth 100000 in
theorem point_any (v : Value) (out : List UInt8) (r base : Nat) (hc : cp (r : Int) = true) (w : World) (hown : w.ownsRow base 5 1 v out.length (bv out)) (hlen : out.length ≤ 16777216) (hB : base ≤ w.heap.size) :
    Calls Tryz.prog 151 #[v, .int .i64 r] w (PointPost base (out ++ enc r) w) := by
  have hA : Calls Tryz.prog 182 #[.slice none 0 0, .int .i64 r] w fun e w' => ∃ v, e = .returned (.tuple #[v, .bool true]) ∧ w'.ownsRow w.heap.size 5 1 v (enc r).length (bv (enc r)) ∧ Below w.heap.size w w' := by
    refine (append_any none 0 [] r w.heap.size w (Rd.nil _ _ _) (Nat.le_refl _) (fun _ => rfl) (by simp)).mono fun e w' h => ?_
    obtain ⟨hb, h⟩ := h
    rw [hc] at h
    obtain ⟨v, h1, h2⟩ := h
    exact ⟨v, h1, h2, hb⟩
  have HA := Lib.hid hA
  obtain ⟨A0, c0, rfl, hl0, -⟩ := own_slice hown
  have HO := Lib.hid hown
  clear hl0
  obtain ⟨i0, hi, hz0, hz1, hz2⟩ := info_parts inf_u8
  have hel := enc_len r
  clear hA hown
  go_enter Tryz.func151, Tryz.ntmps151
  go_wp2_with (first
    | (go_at_call 182; refine HA.out.mono ?_; rintro e w1 ⟨v1, rfl, hown1, hb1⟩; obtain ⟨A1, c1, rfl, hl1, hr1⟩ := own_slice hown1; have HO1 := Lib.hid (own_belowJ HO.out hb1); have HR := Lib.hid hr1; have HN := Lib.hid (own_nil hown1); have HLB := Lib.hid (bv_length (enc r)); have hB1 : base ≤ w1.heap.size := Nat.le_trans hB hb1.size; have HBL := Lib.hid (hb1.mono hB); clear hown1 hr1 hl1 hb1)
    | (at_builtin; refine wpList_append_rd _ rfl _ _ 55 rfl base 5 i0 (.int .u8 0) 1 Tryz.underlying55 hi hz0 hz1 hz2 rfl (.slice A0 out.length c0) out.length (bv out) rfl HO1.out w1.heap.size A1 c1 (bv (enc r)) (by rw [HLB.out]; rfl) HR.out HN.out (bv_one _) (by rw [HLB.out]; unfold maxLen; omega) (by rw [HLB.out]; omega) hB1 ?_; intro v2 w2 hown2 hgrow2; rw [HLB.out] at hown2))
  go_ret
  exact ⟨_, rfl, by rw [List.length_append, bv_append]; exact hown2, HBL.out.grown hgrow2 hB1 (fun j hj => (HO1.out.lt j hj).1)⟩
end Go.Proofs.YtfmpdcmedaiooaaGreatDoor

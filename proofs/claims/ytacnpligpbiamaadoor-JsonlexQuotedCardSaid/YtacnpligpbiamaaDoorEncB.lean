/- The contracts of FromRunes. -/
import Derived.Test.YtacnpligpbiamaaDoorEncA
set_option linter.unusedVariables false
set_option linter.unusedSimpArgs false
namespace Go.Proofs.YtacnpligpbiamaaDoor
open Go.RowKit
theorem conv_nil {P : Program} (w : World) (src dst e : TypeId) (c : Nat) (hs : P.underlying src = some (.slice e)) (he : P.underlying e = some (.int .u8)) (hd : P.underlying dst = some .string) :
    (convert src dst (.slice none 0 c)).run P w = .ok (.string ⟨#[]⟩) w := by
  rw [run_convert_bytes_string w src dst e none 0 c hs he hd]
  simp [Conv.bytesToString]; rfl
theorem conv_rd {P : Program} {w : World} {B : Nat} {A : Option Addr} {l : List UInt8} (h : Rd w B A (bv l)) (src dst e : TypeId) (c : Nat) (hs : P.underlying src = some (.slice e)) (he : P.underlying e = some (.int .u8)) (hd : P.underlying dst = some .string) :
    (convert src dst (.slice A l.length c)).run P w = .ok (.string ⟨l.toArray⟩) w := by
  cases A with
  | none =>
    cases l with
    | nil => exact conv_nil w src dst e c hs he hd
    | cons b t => obtain ⟨b1, o, h1, _⟩ := h 0 (.int .u8 b.toNat) (by simp [bv]); cases h1
  | some a =>
    refine run_convert_bytes_back w src dst e a c l hs he hd fun j hj => ?_
    obtain ⟨b, o, h1, _, h2⟩ := h j (.int .u8 l[j].toNat) (by simp [bv, hj])
    injection h1 with h1
    subst h1
    have h3 : ((⟨b, o, none⟩ : Addr).add j) = ⟨b, o + j, none⟩ := by
      unfold Addr.add
      by_cases h : j = 0 <;> simp [h]
    rw [h3, h2]
/-- string(b), b a row of the call's own. -/
theorem conv_own {w : World} {base n : Nat} {v : Value} {l : List UInt8} (h : w.ownsRow base 5 1 v n (bv l)) : (convert 39 9 v).run Tryd.prog w = .ok (.string ⟨l.toArray⟩) w := by
  obtain ⟨A, c, rfl, hl, hr⟩ := own_slice h
  rw [bv_length] at hl
  subst hl
  exact conv_rd hr _ _ 5 c Tryd.underlying39 Tryd.underlying5 Tryd.underlying9
def allCp (zs : List Int) : Bool := zs.all cp
def frV (zs : List Int) : Value := match allCp zs with
  | true => .tuple #[.string ⟨(encs (zs.map Int.toNat)).toArray⟩, .bool true]
  | false => .tuple #[.string ⟨#[]⟩, .bool false]
theorem frV_true {zs : List Int} (h : allCp zs = true) : frV zs = .tuple #[.string ⟨(encs (zs.map Int.toNat)).toArray⟩, .bool true] := by unfold frV; rw [h]
theorem frV_false {zs : List Int} (h : allCp zs = false) : frV zs = .tuple #[.string ⟨#[]⟩, .bool false] := by unfold frV; rw [h]
/-- The encodings of the first k elements. -/
def pre (zs : List Int) (k : Nat) : List UInt8 := encs ((zs.take k).map Int.toNat)
theorem pre_zero (zs : List Int) : pre zs 0 = [] := by simp [pre, encs]
theorem pre_succ (zs : List Int) (k : Nat) (x : Int) (h : zs[k]? = some x) : pre zs (k + 1) = pre zs k ++ enc x.toNat := by
  unfold pre
  rw [List.take_add_one, h, List.map_append, encs_append]
  simp [encs]
theorem pre_len (zs : List Int) (k : Nat) : (pre zs k).length ≤ 4 * k := by
  have := (encs_len ((zs.take k).map Int.toNat)).2
  unfold pre
  simp at this ⊢; omega
theorem pre_all (zs : List Int) (k : Nat) (h : ¬ k < zs.length) : pre zs k = encs (zs.map Int.toNat) := by
  unfold pre; rw [List.take_of_length_le (by omega)]
theorem allCp_bad {zs : List Int} {k : Nat} {x : Int} (h : zs[k]? = some x) (hx : cp x = false) : allCp zs = false := by
  unfold allCp
  rw [List.all_eq_false]
  exact ⟨x, List.mem_of_getElem? h, by simp [hx]⟩
theorem allCp_done {zs : List Int} {k : Nat} (hk : ¬ k < zs.length) (h : ∀ r ∈ zs.take k, cp r = true) : allCp zs = true := by
  unfold allCp
  rw [List.take_of_length_le (by omega)] at h
  exact List.all_eq_true.2 h
theorem cp_range_int {z : Int} (h : cp z = true) : 0 ≤ z ∧ z ≤ 1114111 := by
  unfold cp at h; simp at h; omega
theorem mem_take_succ {zs : List Int} {k : Nat} {x : Int} (h : zs[k]? = some x) (hx : cp x = true) (hp : ∀ r ∈ zs.take k, cp r = true) : ∀ r ∈ zs.take (k + 1), cp r = true := by
  intro r hr
  rw [List.take_add_one, h] at hr
  rcases List.mem_append.1 hr with hr | hr
  · exact hp r hr
  · simp at hr; subst hr; exact hx
end Go.Proofs.YtacnpligpbiamaaDoor

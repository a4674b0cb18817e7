/- What object leaves of its members, plain; the row of members in memory. Nothing of the program is named here. The program's object. Package arith, plain: what the sum of two values is. Nothing of the program is named here. -/
import Derived.Shelf.SlSortCmp.InsertionK
import Derived.Lib.SlBuf
import Derived.Shelf.SlGeneric
import Derived.Ground.SlsfProg
import Derived.Test.YtjafmdngbphacaaGreatDoorC03
import Derived.Test.YtjafmdngbphacaaGreatDoorC05
import Derived.Test.YtjafmdngbphacaaGreatDoorC06
import Derived.Test.YtjafmdngbphacaaGreatDoorC23
import Derived.Test.YtjafmdngbphacaaGreatDoorC20
set_option linter.unusedVariables false
set_option linter.unusedSimpArgs false
namespace Go.Proofs.YtjafmdngbphacaaGreatDoor
open Go.RowKit Go.Sort
/-- The row after i members were stored. -/
def part (ms : List Mb) (i : Nat) : Array Mb := (ms.take i ++ List.replicate (ms.length - i) default).toArray
theorem part_size (ms : List Mb) {i : Nat} (h : i ≤ ms.length) : (part ms i).size = ms.length := by simp [part]; omega
theorem part_step (ms : List Mb) {i : Nat} {m : Mb} (hm : ms[i]? = some m) : flatK Mb.six 6 (part ms (i + 1)) = setMany (flatK Mb.six 6 (part ms i)) (i * 6) m.six := by
  obtain ⟨hi, hm'⟩ := List.getElem?_eq_some_iff.1 hm
  have s1 := part_size ms (Nat.le_of_lt hi)
  have s2 := part_size ms (show i + 1 ≤ ms.length from hi)
  refine ext_get! (by simp [s1, s2]) fun t ht => ?_
  have ht1 : t < (part ms (i + 1)).size * 6 := by simpa using ht
  have ht2 : t < (part ms i).size * 6 := by rw [s2] at ht1; rw [s1]; exact ht1
  rw [get_setMany _ _ _ t (by simpa using ht2), get_flatK _ _ _ t ht1, get_flatK _ _ _ t ht2, six_len]
  have hq : t / 6 < ms.length := by rw [s1] at ht2; omega
  by_cases h : i * 6 ≤ t ∧ t < i * 6 + 6
  · rw [if_pos h]
    have e1 : t / 6 = i := by omega
    have e2 : t % 6 = t - i * 6 := by omega
    have : (part ms (i + 1))[i]! = m := by
      unfold part
      rw [getElem!_def, List.getElem?_toArray, List.getElem?_append_left (by simp; omega), List.getElem?_take_of_lt (by omega), hm]
    rw [e1, e2, this]
  · rw [if_neg h]
    have e1 : t / 6 ≠ i := by omega
    have : (part ms (i + 1))[t / 6]! = (part ms i)[t / 6]! := by
      unfold part
      rw [getElem!_def, getElem!_def, List.getElem?_toArray, List.getElem?_toArray]
      by_cases hlt : t / 6 < i
      · rw [List.getElem?_append_left (by simp; omega), List.getElem?_append_left (by simp; omega), List.getElem?_take_of_lt (by omega), List.getElem?_take_of_lt (by omega)]
      · rw [List.getElem?_append_right (by simp; omega), List.getElem?_append_right (by simp; omega), List.getElem?_replicate, List.getElem?_replicate, if_pos (by simp; omega), if_pos (by simp; omega)]
    rw [this]
theorem part_holds {w : World} {g i : Nat} {ms : List Mb} {m : Mb} (h : HoldsK Mb.six 6 w g 0 (part ms i)) (hm : ms[i]? = some m) : HoldsK Mb.six 6 (w.setCells g (0 + i * 6) m.six) g 0 (part ms (i + 1)) := by
  obtain ⟨hi, -⟩ := List.getElem?_eq_some_iff.1 hm
  unfold HoldsK
  rw [part_step ms hm]
  exact Go.Proofs.holds_setCells_c h (i * 6) m.six (by rw [size_flatK, part_size ms (Nat.le_of_lt hi), six_len]; omega)
end Go.Proofs.YtjafmdngbphacaaGreatDoor
namespace Go.Proofs.YtjafmdngbphacaaGreatDoor
open Go.RowKit Go.Sort
/-- The state of object after i members were stored. -/
structure MSt (w0 : World) (ms : List Mb) (i : Nat) (w : World) : Prop where
  below : Below w0.heap.size w0 w
  res : Box w w0.heap.size 25 #[.int .i64 0, .int .i64 0, .string ⟨#[]⟩, .slice none 0 0, .slice none 0 0]
  row : HoldsK Mb.six 6 w (w0.heap.size + 1) 0 (part ms i)
  lt : w0.heap.size + 1 < w.heap.size
theorem MSt.step {w0 : World} {ms : List Mb} {i : Nat} {m : Mb} {w : World} (h : MSt w0 ms i w) (hm : ms[i]? = some m) : MSt w0 ms (i + 1) (w.setCells (w0.heap.size + 1) (0 + i * 6) m.six) := by
  refine ⟨Lib.below_setCells _ (by omega) _ _ h.below, ?_, part_holds h.row hm, by simpa using h.lt⟩
  have := h.res
  simp only [Mb.six, Mb.five, World.setCells]
  exact (((((this.far (by simp) _).far (by simp) _).far (by simp) _).far (by simp) _).far (by simp) _).far (by simp) _
section
variable {w0 : World} {d : Array Mb} {gv : Nat} {kl : List ByteArray} {el : List V} {vK vE : Value} {xs : List Value} {w : World}
end
end Go.Proofs.YtjafmdngbphacaaGreatDoor
namespace Go.Proofs.YtjafmdngbphacaaGreatDoor
open Go.RowKit Go.Sort
theorem tl_app {n acc r : Nat} {l m : List UInt8} (h : tl n acc l = some r) : tl n acc (l ++ m) = some r := by
  induction n generalizing acc l with
  | zero => rw [tl] at h ⊢; exact h
  | succ n ih =>
    cases l with
    | nil => rw [tl] at h; cases h
    | cons b t =>
      rw [List.cons_append]
      rw [tl] at h ⊢
      split at h
      · rename_i hb; rw [if_pos hb]; exact ih h
      · cases h
theorem fin_app {n least a : Nat} {l m : List UInt8} {q : Nat × Nat} (h : fin n least (tl n a l) = some q) : fin n least (tl n a (l ++ m)) = some q := by
  cases ht : tl n a l with
  | none => rw [ht] at h; cases h
  | some r => rw [tl_app ht, ← ht]; exact h
theorem dec_app {l m : List UInt8} {q : Nat × Nat} (h : dec l = some q) : dec (l ++ m) = some q := by
  cases l with
  | nil => simp [dec] at h
  | cons b t =>
    rw [List.cons_append]
    rw [dec_cons] at h ⊢
    by_cases c1 : b.toNat < 128
    · rw [if_pos c1] at h ⊢; exact h
    rw [if_neg c1] at h ⊢
    by_cases c2 : b.toNat < 192
    · rw [if_pos c2] at h ⊢; exact h
    rw [if_neg c2] at h ⊢
    by_cases c3 : b.toNat < 224
    · rw [if_pos c3] at h ⊢; exact fin_app h
    rw [if_neg c3] at h ⊢
    by_cases c4 : b.toNat < 240
    · rw [if_pos c4] at h ⊢; exact fin_app h
    rw [if_neg c4] at h ⊢
    by_cases c5 : b.toNat < 248
    · rw [if_pos c5] at h ⊢; exact fin_app h
    · rw [if_neg c5] at h; cases h
theorem runes_app : ∀ (n : Nat) {a b : List UInt8} {xs ys : List Nat}, a.length ≤ n → runes a = some xs → runes b = some ys → runes (a ++ b) = some (xs ++ ys)
  | n, [], b, xs, ys, hn, ha, hb => by
    rw [runes_nil] at ha
    injection ha with ha
    subst ha
    simpa using hb
  | 0, c :: t, b, xs, ys, hn, ha, hb => by simp at hn
  | n + 1, c :: t, b, xs, ys, hn, ha, hb => by
    cases hd : dec (c :: t) with
    | none => rw [runes_none (by simp) hd] at ha; cases ha
    | some q =>
      obtain ⟨r, k⟩ := q
      have hk := dec_some_cp hd
      rw [runes_some hd] at ha
      cases ht : runes ((c :: t).drop k) with
      | none => rw [ht] at ha; cases ha
      | some zs =>
        rw [ht] at ha
        injection ha with ha
        subst ha
        have h1 := runes_app n (a := (c :: t).drop k) (by simp at hn ⊢; omega) ht hb
        rw [runes_some (dec_app hd), List.drop_append_of_le_length hk.2.2.2, h1]
        rfl
theorem okS_app {s t : ByteArray} (hs : okS s = true) (ht : okS t = true) : okS (s ++ t) = true := by
  unfold okS at *
  obtain ⟨xs, hx⟩ := Option.isSome_iff_exists.1 hs
  obtain ⟨ys, hy⟩ := Option.isSome_iff_exists.1 ht
  have e : (s ++ t).data.toList = s.data.toList ++ t.data.toList := by simp [ByteArray.data_append]
  rw [e, runes_app _ (Nat.le_refl _) hx hy]
  rfl
theorem valid_parts {k n : Int} {s : ByteArray} {ks : List ByteArray} {es : List V} (h : valid (.mk k n s ks es) = true) : s.size ≤ 4096 ∧ okS s = true ∧ es.length ≤ 1024 ∧ keysOk none ks = true := by
  have h0 := ((valid_iff _).1 h).1
  rw [good] at h0
  simp only [Bool.and_eq_true, decide_eq_true_eq] at h0
  exact ⟨h0.2.1, h0.2.2.1, h0.2.2.2.1, h0.2.2.2.2.1⟩
theorem finV_ok {v : V} (h : valid v = true) : finV v = v := by unfold finV; rw [if_pos h]
theorem finE_ok {v : V} (h : valid v = true) : finE v = 0 := by unfold finE; rw [if_pos h]
theorem strR_ok {s : ByteArray} (h : okS s = true) : strR s = finV (strV s) ∧ strE s = finE (strV s) := by
  unfold strR strE
  rw [if_pos h, if_pos h]
  exact ⟨rfl, rfl⟩
theorem arrR_ok {l : List V} (h : l.all valid = true) : arrR l = finV (arrV l) ∧ arrE l = finE (arrV l) := by
  unfold arrR arrE
  rw [if_pos h, if_pos h]
  exact ⟨rfl, rfl⟩
def kd : V → Int | .mk k _ _ _ _ => k
def stv : V → ByteArray | .mk _ _ s _ _ => s
/-- Within the limits or not. -/
def lim (v : V) : V × Int := (finV v, finE v)

end Go.Proofs.YtjafmdngbphacaaGreatDoor

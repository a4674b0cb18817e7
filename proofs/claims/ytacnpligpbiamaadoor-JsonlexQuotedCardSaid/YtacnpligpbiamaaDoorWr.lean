/- The canonical text of a value: plain. Nothing of the program is named here. -/
import Derived.Test.YtacnpligpbiamaaDoorVal
import Derived.Test.YtacnpligpbiamaaDoorJlQ
import Derived.Test.YtacnpligpbiamaaDoorJlD
set_option linter.unusedVariables false
set_option linter.unusedSimpArgs false
namespace Go.Proofs.YtacnpligpbiamaaDoor
def qt (l : List UInt8) : List UInt8 := 34 :: (qbs l ++ [34])
def commas : List (List UInt8) → List UInt8
  | [] => []
  | x :: r => x ++ r.flatMap (44 :: ·)
theorem commas_nil : commas [] = [] := rfl
theorem commas_one (x : List UInt8) : commas [x] = x := by simp [commas]
theorem commas_snoc {l : List (List UInt8)} (x : List UInt8) (h : l ≠ []) : commas (l ++ [x]) = commas l ++ (44 :: x) := by
  cases l with
  | nil => exact absurd rfl h
  | cons y r => simp [commas]
def mem (k t : List UInt8) : List UInt8 := qt k ++ 58 :: t
mutual
def wr : V → List UInt8
  | .mk k n s ks es =>
    if k = 1 then [102, 97, 108, 115, 101] else if k = 2 then [116, 114, 117, 101] else if k = 3 then numL n else if k = 4 then qt s.data.toList
    else if k = 5 then 91 :: (commas (wrM es) ++ [93]) else if k = 6 then 123 :: (commas (List.zipWith (fun x t => mem x.data.toList t) ks (wrM es)) ++ [125]) else [110, 117, 108, 108]
def wrM : List V → List (List UInt8)
  | [] => []
  | e :: es => wr e :: wrM es
end
theorem wrM_eq (es : List V) : wrM es = es.map wr := by
  induction es with
  | nil => rw [wrM]; rfl
  | cons e es ih => rw [wrM, ih]; rfl
theorem wrM_len (es : List V) : (wrM es).length = es.length := by rw [wrM_eq, List.length_map]
def mems (ks : List ByteArray) (es : List V) : List (List UInt8) := List.zipWith (fun x t => mem x.data.toList t) ks (wrM es)
theorem wr_null {k n : Int} {s : ByteArray} {ks : List ByteArray} {es : List V} (h1 : k ≠ 1) (h2 : k ≠ 2) (h3 : k ≠ 3) (h4 : k ≠ 4) (h5 : k ≠ 5) (h6 : k ≠ 6) : wr (.mk k n s ks es) = [110, 117, 108, 108] := by
  rw [wr, if_neg h1, if_neg h2, if_neg h3, if_neg h4, if_neg h5, if_neg h6]
theorem wr_arr (n : Int) (s : ByteArray) (ks : List ByteArray) (es : List V) : wr (.mk 5 n s ks es) = 91 :: (commas (wrM es) ++ [93]) := by
  rw [wr, if_neg (by decide), if_neg (by decide), if_neg (by decide), if_neg (by decide), if_pos rfl]
theorem wr_obj (n : Int) (s : ByteArray) (ks : List ByteArray) (es : List V) : wr (.mk 6 n s ks es) = 123 :: (commas (mems ks es) ++ [125]) := by
  rw [wr, if_neg (by decide), if_neg (by decide), if_neg (by decide), if_neg (by decide), if_neg (by decide), if_pos rfl]
  rfl
theorem wr_str (n : Int) (s : ByteArray) (ks : List ByteArray) (es : List V) : wr (.mk 4 n s ks es) = qt s.data.toList := by
  rw [wr, if_neg (by decide), if_neg (by decide), if_neg (by decide), if_pos rfl]
theorem wr_num (n : Int) (s : ByteArray) (ks : List ByteArray) (es : List V) : wr (.mk 3 n s ks es) = numL n := by
  rw [wr, if_neg (by decide), if_neg (by decide), if_pos rfl]
theorem wr_true (n : Int) (s : ByteArray) (ks : List ByteArray) (es : List V) : wr (.mk 2 n s ks es) = [116, 114, 117, 101] := by
  rw [wr, if_neg (by decide), if_pos rfl]
theorem wr_false (n : Int) (s : ByteArray) (ks : List ByteArray) (es : List V) : wr (.mk 1 n s ks es) = [102, 97, 108, 115, 101] := by
  rw [wr, if_pos rfl]
/-- What is written behind i elements, and the next piece. -/
theorem piece {l : List (List UInt8)} {i : Nat} {x : List UInt8} (hx : l[i]? = some x) : commas (l.take (i + 1)) = commas (l.take i) ++ ((if i = 0 then [] else [44]) ++ x) := by
  rw [List.take_add_one, hx]
  by_cases h : i = 0
  · subst h
    simp [commas]
  · have hne : l.take i ≠ [] := by
      intro he
      have h1 : (l.take i).length = 0 := by rw [he]; rfl
      rw [List.length_take] at h1
      have h2 : i < l.length := (List.getElem?_eq_some_iff.1 hx).1
      omega
    rw [if_neg h, Option.toList_some, commas_snoc x hne]
    rfl
theorem wrM_at {es : List V} {i : Nat} {e : V} (h : es[i]? = some e) : (wrM es)[i]? = some (wr e) := by rw [wrM_eq, List.getElem?_map, h]; rfl
theorem mems_at {ks : List ByteArray} {es : List V} {i : Nat} {x : ByteArray} {e : V} (hk : ks[i]? = some x) (h : es[i]? = some e) : (mems ks es)[i]? = some (mem x.data.toList (wr e)) := by
  unfold mems
  rw [List.getElem?_zipWith, hk, wrM_at h]
theorem mems_len {ks : List ByteArray} {es : List V} (h : ks.length = es.length) : (mems ks es).length = es.length := by
  unfold mems
  rw [List.length_zipWith, wrM_len, h, Nat.min_self]
/-- A beginning is no longer than the whole. -/
theorem commas_take_le : ∀ (l : List (List UInt8)) (i : Nat), (commas (l.take i)).length ≤ (commas l).length := by
  intro l i
  cases l with
  | nil => simp
  | cons x r =>
    cases i with
    | zero => simp [commas]
    | succ i =>
      rw [List.take_succ_cons, commas, commas, List.length_append, List.length_append]
      have h : ((r.take i).flatMap (44 :: ·)).length ≤ (r.flatMap (44 :: ·)).length := by
        conv => rhs; rw [← List.take_append_drop i r, List.flatMap_append, List.length_append]
        omega
      omega
theorem qt_len (l : List UInt8) : l.length + 2 ≤ (qt l).length ∧ (qt l).length ≤ 6 * l.length + 2 := by
  have := qbs_len l
  unfold qt
  rw [List.length_cons, List.length_append, List.length_singleton]
  omega
end Go.Proofs.YtacnpligpbiamaaDoor

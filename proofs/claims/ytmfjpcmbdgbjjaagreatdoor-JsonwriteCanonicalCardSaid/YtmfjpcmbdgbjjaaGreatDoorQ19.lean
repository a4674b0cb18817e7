/- The program's allValid, finish, Bool, Num, Str, Arr. The quoted text of a string: what the first token of it and of its beginnings is. Nothing of the program is named here. -/
import Derived.Test.YtmfjpcmbdgbjjaaGreatDoorQ18
import Derived.Test.YtmfjpcmbdgbjjaaGreatDoorQ03
set_option linter.unusedVariables false
set_option linter.unusedSimpArgs false
namespace Go.Proofs.YtmfjpcmbdgbjjaaGreatDoor
open Go.RowKit
/-- A list of values that lies in w below block B. -/
structure Row (w : World) (A : Option Addr) (l : List V) (xs : List Value) : Prop where
  rs : Rs w (· < w.heap.size) A xs
  lies : LiesL w (· < w.heap.size) l xs
theorem Row.below {w w' : World} {A : Option Addr} {l : List V} {xs : List Value} (h : Row w A l xs) (hb : Below w.heap.size w w') : Row w' A l xs :=
  ⟨h.rs.move fun b hlt => ⟨Nat.lt_of_lt_of_le hlt hb.size, hb.block b hlt⟩, h.lies.move fun b hlt => ⟨Nat.lt_of_lt_of_le hlt hb.size, hb.block b hlt⟩⟩
set_option maxHeartbeats 1000000 in
set_option maxRecDepth 100000 in
theorem allValid_any (l : List V) (A : Option Addr) (c : Nat) (xs : List Value) (w : World) (h : Row w A l xs) (hn : l.length ≤ 140737488355328) :
    Calls Tryz.prog 126 #[.slice A l.length c] w fun e w' => e = .returned (.bool (l.all valid)) ∧ Below w.heap.size w w' := by
  have HR := Lib.hid h
  clear h
  go_enter Tryz.func126, Tryz.ntmps126
  go_wp2_with fail
  go_loopw [7] (fun t wr => ∃ i : Nat, i ≤ l.length ∧ t = .int .i64 i ∧ l.all valid = (l.drop i).all valid ∧ Below w.heap.size w wr) (fun t _ => l.length - (intOf t).toNat)
  case atStart => exact ⟨0, Nat.zero_le _, rfl, rfl, Below.refl _ _⟩
  case round =>
    obtain ⟨i, hi, rfl, he0, hbel⟩ := hrel
    have HE := Lib.hid he0
    clear he0
    by_cases hlt : i < l.length
    · obtain ⟨e, he⟩ : ∃ e, l[i]? = some e := ⟨_, List.getElem?_eq_getElem hlt⟩
      have hdrop : (l.drop i).all valid = (valid e && (l.drop (i + 1)).all valid) := by
        obtain ⟨h1, rfl⟩ := List.getElem?_eq_some_iff.1 he
        rw [List.drop_eq_getElem_cons h1, List.all_cons]
      have hst := Lib.hid (HE.out.trans hdrop)
      clear hdrop
      have hv := valid_any e
      obtain ⟨ek, en, es', eks, ees⟩ := e
      obtain ⟨bq, oq, A1, a1, C1, c1, rfl, hbq, hle, d0, d1, d2, d3, d4⟩ := elem_open HR.out.rs HR.out.lies he
      have q0 := below_cell hbel hbq d0
      have q1 := below_cell hbel hbq d1
      have q2 := below_cell hbel hbq d2
      have q3 := below_cell hbel hbq d3
      have q4 := below_cell hbel hbq d4
      clear d0 d1 d2 d3 d4
      have HC := Lib.hid (fun W (hW : Below wr.heap.size wr W) => hv [.int .i64 ek, .int .i64 en, .string es', .slice A1 eks.length a1, .slice C1 ees.length c1] W (below_lies hW (below_lies hbel hle)))
      clear hv he hle
      generalize valid (.mk ek en es' eks ees) = x at HC hst
      cases x with
      | false =>
        go_wp2_with fail
        refine (HC.out _ (below1 _ _)).mono ?_
        rintro e1 w1 ⟨rfl, hb1⟩
        go_wp2_with fail
        go_ret
        exact ⟨ret_bool (by rw [hst.out, Bool.false_and]), chain hbel (chain (below1 _ _) hb1)⟩
      | true =>
        go_wp2_with fail
        refine (HC.out _ (below1 _ _)).mono ?_
        rintro e1 w1 ⟨rfl, hb1⟩
        go_wp2_with fail
        go_roundw
        case rel => exact ⟨i + 1, by omega, by go_num, by rw [hst.out, Bool.true_and], chain hbel (chain (below1 _ _) hb1)⟩
        case measure => simp [intOf]; omega
    · have hend : Hid (l.all valid = true) := Lib.hid (by rw [HE.out, List.drop_eq_nil_of_le (by omega)]; rfl)
      go_wp2_with fail
      go_ret
      exact ⟨ret_bool hend.out.symm, hbel⟩
def numV (n : Int) : V := .mk 3 n ⟨#[]⟩ [] []
def arrV (l : List V) : V := .mk 5 0 ⟨#[]⟩ [] l
set_option maxHeartbeats 1000000 in
set_option maxRecDepth 100000 in
theorem num_any (n : Int) (w : World) : Calls Tryz.prog 50 #[.int .i64 n] w fun e w' => e = .returned (.agg #[.int .i64 3, .int .i64 n, .string ⟨#[]⟩, .slice none 0 0, .slice none 0 0]) ∧ Below w.heap.size w w' := by
  go_enter Tryz.func50, Tryz.ntmps50
  go_wp2_with fail
  refine bodyPost_ret (v := .agg #[.int .i64 3, .int .i64 n, .string ⟨#[]⟩, .slice none 0 0, .slice none 0 0]) (by simp [results, Tryz.results50, go_sem]) rfl ⟨rfl, ?_⟩
  exact (Below.refl _ _).alloc (Nat.le_refl _) _
set_option maxHeartbeats 1000000 in
set_option maxRecDepth 100000 in
theorem bool_any (b : Bool) (w : World) : Calls Tryz.prog 54 #[.bool b] w fun e w' => e = .returned (.agg #[.int .i64 (if b then 2 else 1), .int .i64 0, .string ⟨#[]⟩, .slice none 0 0, .slice none 0 0]) ∧ Below w.heap.size w w' := by
  cases b
  · go_enter Tryz.func54, Tryz.ntmps54
    go_wp2_with fail
    refine bodyPost_ret (v := .agg #[.int .i64 1, .int .i64 0, .string ⟨#[]⟩, .slice none 0 0, .slice none 0 0]) (by simp [results, Tryz.results54, go_sem]) rfl ⟨rfl, ?_⟩
    exact (Below.refl _ _).alloc (Nat.le_refl _) _
  · go_enter Tryz.func54, Tryz.ntmps54
    go_wp2_with fail
    refine bodyPost_ret (v := .agg #[.int .i64 2, .int .i64 0, .string ⟨#[]⟩, .slice none 0 0, .slice none 0 0]) (by simp [results, Tryz.results54, go_sem]) rfl ⟨rfl, ?_⟩
    exact (Below.refl _ _).alloc (Nat.le_refl _) _
end Go.Proofs.YtmfjpcmbdgbjjaaGreatDoor
namespace Go.Proofs.YtmfjpcmbdgbjjaaGreatDoor
open Go.RowKit
def hx (n : Nat) : UInt8 := if n < 10 then UInt8.ofNat (48 + n) else UInt8.ofNat (87 + n)
/-- What is written of a byte. -/
def qb (c : UInt8) : List UInt8 :=
  if c.toNat = 34 ∨ c.toNat = 92 then [92, c] else if c.toNat = 8 then [92, 98] else if c.toNat = 9 then [92, 116] else if c.toNat = 10 then [92, 110]
  else if c.toNat = 12 then [92, 102] else if c.toNat = 13 then [92, 114] else if c.toNat < 32 then [92, 117, 48, 48, hx (c.toNat / 16), hx (c.toNat % 16)] else [c]
def qbs (l : List UInt8) : List UInt8 := l.flatMap qb
theorem qbs_nil : qbs [] = [] := rfl
theorem qbs_cons (c : UInt8) (l : List UInt8) : qbs (c :: l) = qb c ++ qbs l := by simp [qbs]
theorem qbs_append (a b : List UInt8) : qbs (a ++ b) = qbs a ++ qbs b := by simp [qbs]
theorem qb_len (c : UInt8) : 1 ≤ (qb c).length ∧ (qb c).length ≤ 6 := by unfold qb; (repeat' split) <;> simp
theorem qbs_len (l : List UInt8) : l.length ≤ (qbs l).length ∧ (qbs l).length ≤ 6 * l.length := by
  induction l with
  | nil => exact ⟨Nat.le_refl _, Nat.le_refl _⟩
  | cons c l ih =>
    have := qb_len c
    rw [qbs_cons, List.length_append, List.length_cons]
    omega
theorem qb_high {c : UInt8} (h : 128 ≤ c.toNat) : qb c = [c] := by
  unfold qb
  rw [if_neg (by omega), if_neg (by omega), if_neg (by omega), if_neg (by omega), if_neg (by omega), if_neg (by omega), if_neg (by omega)]
theorem qbs_high : ∀ {l : List UInt8}, (∀ c ∈ l, 128 ≤ c.toNat) → qbs l = l
  | [], h => rfl
  | c :: l, h => by
    rw [qbs_cons, qb_high (h c (by simp)), qbs_high (fun x hx => h x (by simp [hx]))]
    rfl
theorem enc_low {r : Nat} (h : r < 128) : enc r = [UInt8.ofNat r] := by unfold enc; rw [if_pos h]
theorem enc_high {r : Nat} (h : 128 ≤ r) (h2 : r ≤ 1114111) : ∀ c ∈ enc r, 128 ≤ c.toNat := by
  unfold enc
  intro c hc
  (repeat' split at hc) <;> simp only [List.mem_cons, List.not_mem_nil, or_false] at hc
  · omega
  · rcases hc with rfl | rfl <;> (rw [toNat_ofNat (by omega)]; omega)
  · rcases hc with rfl | rfl | rfl <;> (rw [toNat_ofNat (by omega)]; omega)
  · rcases hc with rfl | rfl | rfl | rfl <;> (rw [toNat_ofNat (by omega)]; omega)
set_option maxRecDepth 10000 in
theorem el_low (r : Nat) (h : r < 128) (t : List UInt8) : elP (qb (UInt8.ofNat r) ++ t) = .add r (qb (UInt8.ofNat r)).length := by
  by_cases h1 : r < 32
  · (repeat (rcases Nat.lt_succ_iff_lt_or_eq.mp h1 with h1 | rfl; rotate_left; rfl))
    omega
  · by_cases h2 : r = 34
    · subst h2; rfl
    · by_cases h3 : r = 92
      · subst h3; rfl
      · have e1 : (UInt8.ofNat r).toNat = r := toNat_ofNat (by omega)
        have e2 : qb (UInt8.ofNat r) = [UInt8.ofNat r] := by
          unfold qb
          rw [e1, if_neg (by omega), if_neg (by omega), if_neg (by omega), if_neg (by omega), if_neg (by omega), if_neg (by omega), if_neg (by omega)]
        rw [e2]
        show elP (UInt8.ofNat r :: t) = _
        rw [elP, e1, if_neg h2, if_neg h3, if_neg h1, dec_cons, e1, if_pos h]
        rfl
theorem el_high {r : Nat} (h : 128 ≤ r) (hc : cp (r : Int) = true) (t : List UInt8) : elP (enc r ++ t) = .add r (enc r).length := by
  have h2 := (cp_range hc).1
  have h3 := enc_high h h2
  have h4 := dec_enc hc t
  cases hE : enc r with
  | nil => have := (enc_len r).1; rw [hE] at this; simp at this
  | cons b u =>
    rw [hE] at h3 h4
    have h5 := h3 b (by simp)
    rw [List.cons_append] at h4 ⊢
    rw [elP, if_neg (by omega), if_neg (by omega), if_neg (by omega), h4]
theorem el_add {r : Nat} (hc : cp (r : Int) = true) (t : List UInt8) : elP (qbs (enc r) ++ t) = .add r (qbs (enc r)).length := by
  by_cases h : r < 128
  · have e : qbs (enc r) = qb (UInt8.ofNat r) := by rw [enc_low h, qbs_cons, qbs_nil, List.append_nil]
    rw [e]
    exact el_low r h t
  · rw [qbs_high (enc_high (by omega) (cp_range hc).1)]
    exact el_high (by omega) hc t
/-- A scan over whole elements. -/
theorem scan_over (t : List UInt8) : ∀ (xs ds : List Nat), (∀ r ∈ xs, cp (r : Int) = true) → ∀ (l : List UInt8), l = 34 :: (qbs (encs ds) ++ (qbs (encs xs) ++ t)) → StrAt l 0 (1 + (qbs (encs ds)).length) (encs ds) → StrAt l 0 (1 + (qbs (encs (ds ++ xs))).length) (encs (ds ++ xs))
  | [], ds, h, l, hl, hA => by rw [List.append_nil]; exact hA
  | r :: xs, ds, h, l, hl, hA => by
    have hd : l.drop (1 + (qbs (encs ds)).length) = qbs (enc r) ++ (qbs (encs xs) ++ t) := by
      rw [hl, Nat.add_comm, List.drop_succ_cons, List.drop_left, encs_cons, qbs_append, List.append_assoc]
    have hn := hA.next (by rw [hd]; exact el_add (h r (by simp)) _)
    have e1 : ds ++ r :: xs = (ds ++ [r]) ++ xs := by simp
    have e2 : encs (ds ++ [r]) = encs ds ++ enc r := encs_snoc ds r
    rw [e1]
    refine scan_over t xs (ds ++ [r]) (fun x hx => h x (by simp [hx])) l ?_ ?_
    · rw [hl, e2, encs_cons, qbs_append, qbs_append]; simp
    · rw [e2, qbs_append, List.length_append, ← Nat.add_assoc]; exact hn
theorem lex_str {l : List UInt8} : lexP (34 :: l) 0 = strP (34 :: l) 0 := by
  unfold lexP
  rw [if_neg (by simp; omega)]
  have hs : span blankB (34 :: l) (0 : Int).toNat = 0 := span_no (k := 0) (by simp) rfl
  rw [hs]
  unfold lexN
  have e1 : (34 :: l)[0]?.getD 0 = (34 : UInt8) := by simp
  have e2 : byt (34 :: l) 0 = 34 := by unfold byt; rw [e1]; rfl
  rw [e1, e2, if_neg (by simp), if_neg (by decide), if_neg (by decide), if_neg (by decide), if_pos rfl]
end Go.Proofs.YtmfjpcmbdgbjjaaGreatDoor

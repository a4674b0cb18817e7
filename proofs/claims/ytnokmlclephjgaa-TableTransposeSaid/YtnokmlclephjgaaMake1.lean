/- The program's allValid, finish, Bool, Num, Str, Arr. -/
import Derived.Test.YtnokmlclephjgaaClone
set_option linter.unusedVariables false
set_option linter.unusedSimpArgs false
namespace Go.Proofs.Ytnokmlclephjgaa
open Go.RowKit
def vnull : V := .mk 0 0 ⟨#[]⟩ [] []
/-- A value that a call hands back, with an error's number. -/
def RetPost (v : V) (err : Int) (w : World) (e : Ending) (w' : World) : Prop :=
  Below w.heap.size w w' ∧ ∃ ds : List Value, e = .returned (.tuple #[.agg ds.toArray, .int .i64 err]) ∧ Lies w' (fun b => w.heap.size ≤ b ∧ b < w'.heap.size) v ds
theorem lies_null (w : World) (S : Nat → Prop) : Lies w S vnull [.int .i64 0, .int .i64 0, .string ⟨#[]⟩, .slice none 0 0, .slice none 0 0] := by
  unfold vnull
  rw [Lies]
  exact ⟨⟨Nat.zero_le _, by simp, Nat.zero_le _, Nat.zero_le _⟩, none, 0, none, 0, [], rfl, fun _ => rfl, fun _ => rfl, ⟨Nat.le_refl _, Nat.zero_le _⟩, ⟨Nat.le_refl _, Nat.zero_le _⟩, Rs.nil _ _ _, Rs.nil _ _ _, by rw [LiesL]⟩
/-- A list of values that lies in w below block B. -/
structure Row (w : World) (A : Option Addr) (l : List V) (xs : List Value) : Prop where
  rs : Rs w (· < w.heap.size) A xs
  lies : LiesL w (· < w.heap.size) l xs
theorem Row.below {w w' : World} {A : Option Addr} {l : List V} {xs : List Value} (h : Row w A l xs) (hb : Below w.heap.size w w') : Row w' A l xs :=
  ⟨h.rs.move fun b hlt => ⟨Nat.lt_of_lt_of_le hlt hb.size, hb.block b hlt⟩, h.lies.move fun b hlt => ⟨Nat.lt_of_lt_of_le hlt hb.size, hb.block b hlt⟩⟩
set_option maxHeartbeats 1000000 in
set_option maxRecDepth 100000 in
theorem allValid_any (l : List V) (A : Option Addr) (c : Nat) (xs : List Value) (w : World) (h : Row w A l xs) (hn : l.length ≤ 140737488355328) :
    Calls Try.prog 45 #[.slice A l.length c] w fun e w' => e = .returned (.bool (l.all valid)) ∧ Below w.heap.size w w' := by
  have HR := Lib.hid h
  clear h
  go_enter Try.func45, Try.ntmps45
  go_wp2_with fail
  go_loopw [7] (fun t wr => ∃ i : Nat, i ≤ l.length ∧ t = .int .i64 i ∧ l.all valid = (l.drop i).all valid ∧ Below w.heap.size w wr) (fun t _ => l.length - (intOf t).toNat)
  case atStart => exact ⟨0, Nat.zero_le _, rfl, rfl, Below.refl _ _⟩
  case round =>
    obtain ⟨i, hi, rfl, he0, hbel⟩ := hrel
    have HE := Lib.hid he0
    clear he0
    by_cases hlt : i < l.length
    · obtain ⟨e, he⟩ : ∃ e, l[i]? = some e := ⟨_, List.getElem?_eq_getElem hlt⟩
      have hdrop : (l.drop i).all valid = (valid e && (l.drop (i + 1)).all valid) := by
        obtain ⟨h1, rfl⟩ := List.getElem?_eq_some_iff.1 he
        rw [List.drop_eq_getElem_cons h1, List.all_cons]
      have hst := Lib.hid (HE.out.trans hdrop)
      clear hdrop
      have hv := valid_any e
      obtain ⟨ek, en, es', eks, ees⟩ := e
      obtain ⟨bq, oq, A1, a1, C1, c1, rfl, hbq, hle, d0, d1, d2, d3, d4⟩ := elem_open HR.out.rs HR.out.lies he
      have q0 := below_cell hbel hbq d0
      have q1 := below_cell hbel hbq d1
      have q2 := below_cell hbel hbq d2
      have q3 := below_cell hbel hbq d3
      have q4 := below_cell hbel hbq d4
      clear d0 d1 d2 d3 d4
      have HC := Lib.hid (fun W (hW : Below wr.heap.size wr W) => hv [.int .i64 ek, .int .i64 en, .string es', .slice A1 eks.length a1, .slice C1 ees.length c1] W (below_lies hW (below_lies hbel hle)))
      clear hv he hle
      generalize valid (.mk ek en es' eks ees) = x at HC hst
      cases x with
      | false =>
        go_wp2_with fail
        refine (HC.out _ (below1 _ _)).mono ?_
        rintro e1 w1 ⟨rfl, hb1⟩
        go_wp2_with fail
        go_ret
        exact ⟨ret_bool (by rw [hst.out, Bool.false_and]), chain hbel (chain (below1 _ _) hb1)⟩
      | true =>
        go_wp2_with fail
        refine (HC.out _ (below1 _ _)).mono ?_
        rintro e1 w1 ⟨rfl, hb1⟩
        go_wp2_with fail
        go_roundw
        case rel => exact ⟨i + 1, by omega, by go_num, by rw [hst.out, Bool.true_and], chain hbel (chain (below1 _ _) hb1)⟩
        case measure => simp [intOf]; omega
    · have hend : Hid (l.all valid = true) := Lib.hid (by rw [HE.out, List.drop_eq_nil_of_le (by omega)]; rfl)
      go_wp2_with fail
      go_ret
      exact ⟨ret_bool hend.out.symm, hbel⟩
/-- What finish hands back. -/
def finV (v : V) : V := if valid v = true then v else vnull
def finE (v : V) : Int := if valid v = true then 0 else 2
theorem ret_of {w w' : World} {v : V} {err : Int} {ds : List Value} (hb : Below w.heap.size w w') (hl : Lies w' (fun b => w.heap.size ≤ b ∧ b < w'.heap.size) v ds) : RetPost v err w (.returned (.tuple #[.agg ds.toArray, .int .i64 err])) w' := ⟨hb, ds, rfl, hl⟩
set_option maxHeartbeats 2000000 in
set_option maxRecDepth 100000 in
theorem finish_any (v : V) (cs : List Value) (w : World) (h : Lies w (· < w.heap.size) v cs) :
    Calls Try.prog 39 #[.agg cs.toArray] w (RetPost (finV v) (finE v) w) := by
  have HV := Lib.hid (fun W (hW : Below w.heap.size w W) => valid_any v cs W (below_lies hW h))
  have HC : Hid (valid v = true → ∀ W, Below w.heap.size w W → Calls Try.prog 50 #[.agg cs.toArray] W (ClonePost v W)) := Lib.hid fun hv W hW => clone_any v cs W ((valid_iff v).1 hv).1 (below_lies hW h)
  obtain ⟨k, n, s, ks, es⟩ := v
  obtain ⟨A, a, B, b, xs, rfl, _⟩ := lies_open h
  clear h
  show Calls _ _ #[.agg #[.int .i64 k, .int .i64 n, .string s, .slice A ks.length a, .slice B es.length b]] w _
  unfold finV finE
  have hb2 : Hid (∀ W, Below (w.heap.size + 2) ((w.alloc (.cells #[.int .i64 k, .int .i64 n, .string s, .slice A ks.length a, .slice B es.length b] 27)).alloc (.cells #[.int .i64 0, .int .i64 0, .string ⟨#[]⟩, .slice none 0 0, .slice none 0 0] 27)) W →
      Box W (w.heap.size + 1) 27 #[.int .i64 0, .int .i64 0, .string ⟨#[]⟩, .slice none 0 0, .slice none 0 0]) := Lib.hid fun W hW => by
    have h1 := Box.laid (w.alloc (.cells #[.int .i64 k, .int .i64 n, .string s, .slice A ks.length a, .slice B es.length b] 27)) 27 #[.int .i64 0, .int .i64 0, .string ⟨#[]⟩, .slice none 0 0, .slice none 0 0]
    have e : (w.alloc (.cells #[.int .i64 k, .int .i64 n, .string s, .slice A ks.length a, .slice B es.length b] 27)).heap.size = w.heap.size + 1 := by simp
    rw [e] at h1
    exact h1.below hW (by omega)
  generalize hx : valid (.mk k n s ks es) = x at HV HC ⊢
  cases x with
  | false =>
    rw [if_neg (by decide), if_neg (by decide)]
    clear hx
    go_enter Try.func39, Try.ntmps39
    go_wp2_with fail
    refine (HV.out _ (below2 _ _ _)).mono ?_
    rintro e1 w1 ⟨rfl, hb1⟩
    have hB1 := Lib.hid (two_step (Below.refl _ _) hb1)
    have hres := Lib.hid (hb2.out _ hB1.out)
    obtain ⟨t0, t1, t2, t3, t4⟩ := box5 hres.out
    have z0 := hres.out.free 0
    have z1 := hres.out.free 1
    have z2 := hres.out.free 2
    have z3 := hres.out.free 3
    have z4 := hres.out.free 4
    go_wp2_with fail
    refine bodyPost_ret (v := .tuple #[.agg #[.int .i64 0, .int .i64 0, .string ⟨#[]⟩, .slice none 0 0, .slice none 0 0], .int .i64 2]) (by simp [results, Try.results39, go_sem, t0, t1, t2, t3, t4]) rfl ?_
    exact ret_of (ds := [.int .i64 0, .int .i64 0, .string ⟨#[]⟩, .slice none 0 0, .slice none 0 0]) ((((((below_two hB1.out).setCell (by simp) _).setCell (by simp) _).setCell (by simp) _).setCell (by simp) _).setCell (by simp) _) (lies_null _ _)
  | true =>
    rw [if_pos rfl, if_pos rfl]
    have HC2 := Lib.hid (HC.out rfl)
    clear hx
    go_enter Try.func39, Try.ntmps39
    go_wp2_with fail
    refine (HV.out _ (below2 _ _ _)).mono ?_
    rintro e1 w1 ⟨rfl, hb1⟩
    have hB1 := Lib.hid (two_step (Below.refl _ _) hb1)
    have m0 := (box_two hB1.out 0).1
    have m1 := (box_two hB1.out 1).1
    have m2 := (box_two hB1.out 2).1
    have m3 := (box_two hB1.out 3).1
    have m4 := (box_two hB1.out 4).1
    simp only [List.getElem?_toArray, List.getElem?_cons_succ, List.getElem?_cons_zero] at m0 m1 m2 m3 m4
    go_wp2_with fail
    refine (clone_open (w := w1) (Below.refl _ _) (HC2.out _ (below_two hB1.out))).mono ?_
    rintro e2 w2 ⟨hb3, DA, da, DC, dc, rfl, hl2⟩
    have hB2 := Lib.hid (two_step hB1.out hb3)
    have hw1 : w.heap.size + 2 ≤ w1.heap.size := by have := hB1.out.size; simp at this; omega
    have hres := Lib.hid (hb2.out _ hB2.out)
    have HL2 := Lib.hid hl2
    clear hl2 m0 m1 m2 m3 m4 hb3
    obtain ⟨t0, t1, t2, t3, t4⟩ := box5 hres.out
    have z0 := hres.out.free 0
    have z1 := hres.out.free 1
    have z2 := hres.out.free 2
    have z3 := hres.out.free 3
    have z4 := hres.out.free 4
    go_wp2_with fail
    refine bodyPost_ret (v := .tuple #[.agg #[.int .i64 k, .int .i64 n, .string s, .slice DA ks.length da, .slice DC es.length dc], .int .i64 0]) (by simp [results, Try.results39, go_sem, t0, t1, t2, t3, t4]) rfl ?_
    refine ret_of (ds := [.int .i64 k, .int .i64 n, .string s, .slice DA ks.length da, .slice DC es.length dc]) ((((((below_two hB2.out).setCell (by simp) _).setCell (by simp) _).setCell (by simp) _).setCell (by simp) _).setCell (by simp) _) ?_
    refine HL2.out.move fun b hb => ⟨⟨by omega, by simp [World.setCell]; omega⟩, ?_⟩
    rw [Below.heap_setCell _ _ _ _ (by simp; omega), Below.heap_setCell _ _ _ _ (by simp; omega), Below.heap_setCell _ _ _ _ (by simp; omega), Below.heap_setCell _ _ _ _ (by simp; omega), Below.heap_setCell _ _ _ _ (by simp; omega)]
/-- A call's answer, its value written out. -/
theorem ret_open {f : FuncId} {args : Array Value} {w : World} {v : V} {err : Int} (h : Calls Try.prog f args w (RetPost v err w)) :
    Calls Try.prog f args w fun e w' => ∃ (k n : Int) (s : ByteArray) (ks : List ByteArray) (es : List V) (A : Option Addr) (a : Nat) (C : Option Addr) (c : Nat), v = .mk k n s ks es ∧ e = .returned (.tuple #[.agg #[.int .i64 k, .int .i64 n, .string s, .slice A ks.length a, .slice C es.length c], .int .i64 err]) ∧ Below w.heap.size w w' ∧
      Lies w' (fun b => w.heap.size ≤ b ∧ b < w'.heap.size) v [.int .i64 k, .int .i64 n, .string s, .slice A ks.length a, .slice C es.length c] := by
  refine h.mono fun e w' hp => ?_
  obtain ⟨hb, ds, rfl, hl⟩ := hp
  obtain ⟨k, n, s, ks, es⟩ := v
  have hl2 := hl
  rw [Lies] at hl2
  obtain ⟨_, A, a, C, c, ys, rfl, _⟩ := hl2
  exact ⟨k, n, s, ks, es, A, a, C, c, rfl, rfl, hb, hl⟩
def numV (n : Int) : V := .mk 3 n ⟨#[]⟩ [] []
def boolV (b : Bool) : V := .mk (if b then 2 else 1) 0 ⟨#[]⟩ [] []
def strV (s : ByteArray) : V := .mk 4 0 s [] []
def arrV (l : List V) : V := .mk 5 0 ⟨#[]⟩ [] l
end Go.Proofs.Ytnokmlclephjgaa

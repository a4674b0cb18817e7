/- keep.Short at a list of strings. ValueMake answers true for every bool, int64, string, list of keys and list of values. Slices of strings and of values that came in; five arguments. -/
import Derived.Test.YtbpbplfiamllnaaStrs
import Derived.Test.YtbpbplfiamllnaaRPut
import Derived.Test.YtbpbplfiamllnaaSmall
import Derived.Test.YtbpbplfiamllnaaPValid
set_option linter.unusedVariables false
set_option linter.unusedSimpArgs false
namespace Go.Proofs.Ytbpbplfiamllnaa
open Go.RowKit
def shortP (m : Int) (ks : List ByteArray) : Bool := ks.all fun k => decide ((k.size : Int) ≤ m)
theorem shortP_mem {m : Int} {ks : List ByteArray} (h : shortP m ks = true) : ∀ k ∈ ks, (k.size : Int) ≤ m := by
  intro k hk
  unfold shortP at h
  exact of_decide_eq_true (List.all_eq_true.1 h k hk)
set_option maxHeartbeats 1000000 in
theorem short_any (m : Int) (A : Option Addr) (a : Nat) (ks : List ByteArray) (S : Nat → Prop) (w : World) (hA : Rs w S A (kv ks)) (hk : ks.length ≤ maxLen) (hs : ∀ k ∈ ks, k.size ≤ 140737488355328) (h0 : 0 ≤ m) (h1 : m ≤ 1000000) :
    Calls Try.prog 26 #[.int .i64 m, .slice A ks.length a] w fun e w' => e = .returned (.bool (shortP m ks)) ∧ Below w.heap.size w w' := by
  unfold maxLen at hk
  have HA := Lib.hid hA
  have HS := Lib.hid hs
  clear hA hs
  go_enter Try.func26, Try.ntmps26
  go_wp2_with fail
  go_loopw [5] (fun t wr => ∃ i : Nat, i ≤ ks.length ∧ t = .int .i64 i ∧ shortP m ks = shortP m (ks.drop i) ∧ Below w.heap.size w wr ∧ wr.heap = w.heap) (fun t _ => ks.length - (intOf t).toNat)
  case atStart => exact ⟨0, Nat.zero_le _, rfl, rfl, Below.refl _ _, rfl⟩
  case round =>
    obtain ⟨i, hi, rfl, he0, hbel, hheap⟩ := hrel
    have HE := Lib.hid he0
    have HB := Lib.hid hbel
    have HH := Lib.hid hheap
    clear he0 hbel hheap
    by_cases hlt : i < ks.length
    · obtain ⟨x, hx⟩ : ∃ x, ks[i]? = some x := ⟨_, List.getElem?_eq_getElem hlt⟩
      obtain ⟨b0, o0, hAe, hb0, hc0⟩ := HA.out.at_ (kv_at hx)
      have hc1 : wr.cell? ⟨b0, o0 + i, none⟩ = some (.string x) := (World.cell?_of_block (by rw [HH.out])).trans hc0
      have hxs := HS.out x (List.mem_of_getElem? hx)
      have hst : Hid (shortP m ks = (decide ((x.size : Int) ≤ m) && shortP m (ks.drop (i + 1)))) := Lib.hid (by
        obtain ⟨h1, rfl⟩ := List.getElem?_eq_some_iff.1 hx
        rw [HE.out, List.drop_eq_getElem_cons h1]
        rfl)
      subst hAe
      clear hc0 hx
      by_cases hxm : (x.size : Int) ≤ m
      · have hst2 : Hid (shortP m ks = shortP m (ks.drop (i + 1))) := Lib.hid (by rw [hst.out, decide_eq_true hxm, Bool.true_and])
        have hx2 : ¬ m < (x.size : Int) := by omega
        clear hst
        go_wp2_with fail
        go_roundw
        case rel => exact ⟨i + 1, by omega, by go_num, hst2.out, by first | exact HB.out | exact below_drew' HB.out, by first | exact HH.out | rfl⟩
        case measure => simp [intOf]; omega
      · have hst2 : Hid (shortP m ks = false) := Lib.hid (by rw [hst.out, decide_eq_false hxm, Bool.false_and])
        have hx2 : m < (x.size : Int) := by omega
        clear hst
        go_wp2_with fail
        go_ret
        exact ⟨ret_bool hst2.out.symm, HB.out⟩
    · have hend : Hid (shortP m ks = true) := Lib.hid (by rw [HE.out, List.drop_eq_nil_of_le (by omega)]; rfl)
      go_wp2_with fail
      go_ret
      exact ⟨ret_bool hend.out.symm, HB.out⟩
end Go.Proofs.Ytbpbplfiamllnaa
namespace Go.Proofs.Ytbpbplfiamllnaa
open Go.RowKit Go.Sort
/-- A call's answer, its value written out, wherever it lies. -/
def OpenedPost (v : V) (err : Int) (w : World) (e : Ending) (w' : World) : Prop :=
  ∃ (k n : Int) (s : ByteArray) (ks : List ByteArray) (es : List V) (A : Option Addr) (a : Nat) (C : Option Addr) (c : Nat), e = .returned (.tuple #[.agg #[.int .i64 k, .int .i64 n, .string s, .slice A ks.length a, .slice C es.length c], .int .i64 err]) ∧ Below w.heap.size w w' ∧
    Lies w' (· < w'.heap.size) v [.int .i64 k, .int .i64 n, .string s, .slice A ks.length a, .slice C es.length c]
theorem opened_p {f : FuncId} {args : Array Value} {w : World} {v : V} {err : Int} (h : Calls Try.prog f args w (RetPost v err w)) : Calls Try.prog f args w (OpenedPost v err w) :=
  (ret_open h).mono fun e w' ⟨k, n, s, ks, es, A, a, C, c, _, he, hb, hl⟩ => ⟨k, n, s, ks, es, A, a, C, c, he, hb, hl.move fun b hb => ⟨hb.2, rfl⟩⟩
theorem opened_r {f : FuncId} {args : Array Value} {w : World} {v : V} {err : Int} (h : Calls Try.prog f args w (RetR v err w)) : Calls Try.prog f args w (OpenedPost v err w) :=
  (retR_open h).mono fun e w' ⟨k, n, s, ks, es, A, a, C, c, _, he, hb, hl⟩ => ⟨k, n, s, ks, es, A, a, C, c, he, hb, hl⟩
/-- A value in a box. -/
structure Vb (w : World) (g : Nat) (v : V) (c : List Value) : Prop where
  box : Box w g 25 c.toArray
  lies : Lies w (· < w.heap.size) v c
theorem Vb.next {w w' : World} {g : Nat} {v : V} {c : List Value} (h : Vb w g v c) (hb : Below w.heap.size w w') : Vb w' g v c := ⟨box_below h.box hb, below_lies hb h.lies⟩
theorem Vb.new {w : World} {v : V} {c : List Value} (h : Lies w (· < w.heap.size) v c) : Vb (w.alloc (.cells c.toArray 25)) w.heap.size v c := ⟨Box.laid _ _ _, below_lies (below1 _ _) h⟩
theorem MAt.below {w w' : World} {B : Option Addr} {i : Nat} {m : Mb} (h : MAt w (· < w.heap.size) B i m) (hW : Below w.heap.size w w') : MAt w' (· < w'.heap.size) B i m := by
  obtain ⟨⟨p, o, e, hp, c0, c1, c2, c3, c4⟩, hl⟩ := h
  exact ⟨⟨p, o, e, Nat.lt_of_lt_of_le hp hW.size, below_cell hW hp c0, below_cell hW hp c1, below_cell hW hp c2, below_cell hW hp c3, below_cell hW hp c4⟩, below_lies hW hl⟩
theorem lies_flat (w : World) (S : Nat → Prop) (k n : Int) : Lies w S (.mk k n ⟨#[]⟩ [] []) [.int .i64 k, .int .i64 n, .string ⟨#[]⟩, .slice none 0 0, .slice none 0 0] := by
  rw [Lies]
  exact ⟨⟨Nat.zero_le _, by simp, Nat.zero_le _, Nat.zero_le _⟩, none, 0, none, 0, [], rfl, fun _ => rfl, fun _ => rfl, ⟨Nat.le_refl _, Nat.zero_le _⟩, ⟨Nat.le_refl _, Nat.zero_le _⟩, Rs.nil _ _ _, Rs.nil _ _ _, by rw [LiesL]⟩
/-- A slice of strings that came in. -/
structure SliceK (w : World) (A : Option Addr) (a : Nat) (ks : List ByteArray) : Prop where
  rs : Rs w (· < w.heap.size) A (kv ks)
  nil : A = none → a = 0
  le : ks.length ≤ a
  cap : a ≤ maxLen
  each : ∀ k ∈ ks, k.size ≤ 140737488355328
  lim : ks.length ≤ 140737488355328
theorem SliceK.below {w w' : World} {A : Option Addr} {a : Nat} {ks : List ByteArray} (h : SliceK w A a ks) (hb : Below w.heap.size w w') : SliceK w' A a ks :=
  ⟨h.rs.move fun b hlt => ⟨Nat.lt_of_lt_of_le hlt hb.size, hb.block b hlt⟩, h.nil, h.le, h.cap, h.each, h.lim⟩
/-- Both Objs, whatever the lengths are. -/
theorem both_objs {w : World} {A B : Option Addr} {a c : Nat} {ks : List ByteArray} {l : List V} {xs : List Value} (hk : SliceK w A a ks) (hl : SliceV w B c l xs) (h1 : ks.length ≤ 20) (h2 : ∀ k ∈ ks, k.size ≤ 1048576) :
    ∃ (v : V) (err : Int), ∀ W, Below w.heap.size w W → Calls Try.prog 31 #[.slice A ks.length a, .slice B l.length c] W (OpenedPost v err W) ∧ Calls Try.prog 32 #[.slice A ks.length a, .slice B l.length c] W (OpenedPost v err W) := by
  by_cases he : ks.length = l.length
  · obtain ⟨ms, hn, hmk, hmv, hmat⟩ := members_of he hl.row
    refine ⟨objR ms, objE ms, fun W hW => ?_⟩
    have hW1 := (hk.below hW).rs
    have hW2 := hl.row.below hW
    rw [← hmk] at hW1
    rw [← hmv] at hW2
    have hms : ∀ m ∈ ms, m.key.size ≤ 1048576 := fun m hm => h2 _ (by rw [← hmk]; exact List.mem_map_of_mem hm)
    rw [he, ← hn]
    exact ⟨opened_p (obj_any ms A B a c xs W hW1 hW2 (fun i m hm => (hmat i m hm).below hW) (by omega) (fun m hm => by have := hms m hm; omega)), opened_r (robj_any ms A B a c xs W hW1 hW2 (fun i m hm => (hmat i m hm).below hW) (by omega) hms)⟩
  · exact ⟨vnull, 3, fun W hW => ⟨opened_p (obj_neq _ _ A B a c W he), opened_r (robj_neq _ _ A B a c W he)⟩⟩
theorem same_self {v : V} {cs ds : List Value} {W : World} (h : Lies W (· < W.heap.size) v cs) (k : Lies W (· < W.heap.size) v ds) : Calls Try.prog 33 #[.agg cs.toArray, .agg ds.toArray] W fun e w' => e = .returned (.bool true) ∧ Below W.heap.size W w' := by
  have := same_any v v cs ds W h k
  rw [(same_iff v v).2 rfl] at this
  exact this
set_option maxHeartbeats 4000000 in
set_option maxRecDepth 100000 in
theorem valueMake_walk (b : Bool) (z : Int) (s : ByteArray) (A : Option Addr) (a : Nat) (ks : List ByteArray) (B : Option Addr) (c : Nat) (l : List V) (xs : List Value) (w : World) (hs : s.size ≤ maxLen) (hk : SliceK w A a ks) (hl : SliceV w B c l xs) :
    Calls Try.prog 5 #[.bool b, .int .i64 z, .string s, .slice A ks.length a, .slice B l.length c] w fun e w' => e = .returned (.bool true) ∧ Below w.heap.size w w' := by
  unfold maxLen at hs
  have haw := Lib.hid (fun W => awake_any W)
  have HK := Lib.hid hk
  have HL := Lib.hid hl
  have hks := hk.lim
  have hll := hl.lim
  clear hk hl
  by_cases h1 : s.size ≤ 200
  · have hd1 : decide ((200 : Int) < (s.size : Int)) = false := by simp; omega
    have hsh := Lib.hid (fun W (hW : Below w.heap.size w W) => short_any 50 A a ks _ W (HK.out.below hW).rs (by unfold maxLen; omega) HK.out.each (by omega) (by omega))
    have HSM : Hid (shortP 50 ks = true → ∀ k ∈ ks, k.size ≤ 1048576) := Lib.hid fun h k hk => by have := shortP_mem h k hk; omega
    generalize shortP 50 ks = sb at hsh HSM
    go_enter Try.func5, Try.ntmps5
    go_wp2_with fail
    refine (hsh.out _ (Below.refl _ _)).mono ?_
    rintro e1 w1 ⟨rfl, hb1⟩
    have HB1 := Lib.hid hb1
    clear hb1 hsh
    cases sb with
    | false =>
      go_wp2_with fail
      refine (haw.out _).mono ?_
      rintro e2 w2 ⟨rfl, hb2⟩
      go_wp2_with fail
      go_ret
      exact ⟨rfl, chain HB1.out hb2⟩
    | true =>
      have HKS := Lib.hid (HSM.out rfl)
      clear HSM
      by_cases h2 : ks.length ≤ 20
      · have hd2 : decide ((20 : Int) < (ks.length : Int)) = false := by simp; omega
        by_cases h3 : l.length ≤ 20
        · have hd3 : decide ((20 : Int) < (l.length : Int)) = false := by simp; omega
          have hsm := Lib.hid (small_any 100 l B c xs w1 (HL.out.row.below HB1.out) hll (by omega) (by omega))
          generalize smallP 100 l = sm at hsm
          go_wp2_with fail
          refine hsm.out.mono ?_
          rintro e2 w2 ⟨rfl, hb2⟩
          have HB2 := Lib.hid (chain HB1.out hb2)
          clear hb2 hsm HB1
          cases sm with
          | false =>
            go_wp2_with fail
            refine (haw.out _).mono ?_
            rintro e3 w3 ⟨rfl, hb3⟩
            go_wp2_with fail
            go_ret
            exact ⟨rfl, chain HB2.out hb3⟩
          | true =>
            obtain ⟨ov, oe, hobj⟩ := both_objs HK.out HL.out h2 HKS.out
            have HO1 := Lib.hid (fun W hW => (hobj W hW).1)
            have HO2 := Lib.hid (fun W hW => (hobj W hW).2)
            have HS1 := Lib.hid (fun W => opened_p (str_any s W (by omega)))
            have HS2 := Lib.hid (fun W => opened_r (rstr_any s W (by omega)))
            have HA1 := Lib.hid (fun W (hW : Below w.heap.size w W) => opened_p (arr_any l B c xs W (HL.out.below hW)))
            have HA2 := Lib.hid (fun W (hW : Below w.heap.size w W) => opened_r (rarr_any l B c xs W (HL.out.below hW) (by omega)))
            generalize strR s = sv at HS1 HS2
            generalize strE s = se at HS1 HS2
            generalize arrR l = av at HA1 HA2
            generalize arrE l = ae at HA1 HA2
            clear hobj
            go_wp2_with fail
            refine (HS1.out _).mono ?_
            rintro e3 w3 ⟨k3, n3, s3, ks3, es3, A3, a3, C3, c3, rfl, hb3, hl3⟩
            have HX1 := Lib.hid (Vb.new hl3)
            have HB3 := Lib.hid (chain HB2.out (chain hb3 (below1 w3 (.cells #[.int .i64 k3, .int .i64 n3, .string s3, .slice A3 ks3.length a3, .slice C3 es3.length c3] 25))))
            clear hb3 hl3
            go_wp2_with fail
            refine (HS2.out _).mono ?_
            rintro e4 w4 ⟨k4, n4, s4, ks4, es4, A4, a4, C4, c4, rfl, hb4, hl4⟩
            have HY1 := Lib.hid (Vb.new hl4)
            have hb4' := chain hb4 (below1 w4 (.cells #[.int .i64 k4, .int .i64 n4, .string s4, .slice A4 ks4.length a4, .slice C4 es4.length c4] 25))
            have HB4 := Lib.hid (chain HB3.out hb4')
            have HX2 := Lib.hid (HX1.out.next hb4')
            clear hb4 hl4 hb4' HX1
            go_wp2_with fail
            refine (HA1.out _ HB4.out).mono ?_
            rintro e5 w5 ⟨k5, n5, s5, ks5, es5, A5, a5, C5, c5, rfl, hb5, hl5⟩
            have HZ1 := Lib.hid (Vb.new hl5)
            have hb5' := chain hb5 (below1 w5 (.cells #[.int .i64 k5, .int .i64 n5, .string s5, .slice A5 ks5.length a5, .slice C5 es5.length c5] 25))
            have HB5 := Lib.hid (chain HB4.out hb5')
            have HX3 := Lib.hid (HX2.out.next hb5')
            have HY3 := Lib.hid (HY1.out.next hb5')
            clear hb5 hl5 hb5' HX2 HY1
            go_wp2_with fail
            refine (HA2.out _ HB5.out).mono ?_
            rintro e6 w6 ⟨k6, n6, s6, ks6, es6, A6, a6, C6, c6, rfl, hb6, hl6⟩
            have HU1 := Lib.hid (Vb.new hl6)
            have hb6' := chain hb6 (below1 w6 (.cells #[.int .i64 k6, .int .i64 n6, .string s6, .slice A6 ks6.length a6, .slice C6 es6.length c6] 25))
            have HB6 := Lib.hid (chain HB5.out hb6')
            have HX4 := Lib.hid (HX3.out.next hb6')
            have HY4 := Lib.hid (HY3.out.next hb6')
            have HZ4 := Lib.hid (HZ1.out.next hb6')
            clear hb6 hl6 hb6' HX3 HY3 HZ1
            go_wp2_with fail
            refine (HO1.out _ HB6.out).mono ?_
            rintro e7 w7 ⟨k7, n7, s7, ks7, es7, A7, a7, C7, c7, rfl, hb7, hl7⟩
            have HP1 := Lib.hid (Vb.new hl7)
            have hb7' := chain hb7 (below1 w7 (.cells #[.int .i64 k7, .int .i64 n7, .string s7, .slice A7 ks7.length a7, .slice C7 es7.length c7] 25))
            have HB7 := Lib.hid (chain HB6.out hb7')
            have HX5 := Lib.hid (HX4.out.next hb7')
            have HY5 := Lib.hid (HY4.out.next hb7')
            have HZ5 := Lib.hid (HZ4.out.next hb7')
            have HU5 := Lib.hid (HU1.out.next hb7')
            clear hb7 hl7 hb7' HX4 HY4 HZ4 HU1
            go_wp2_with fail
            refine (HO2.out _ HB7.out).mono ?_
            rintro e8 w8 ⟨k8, n8, s8, ks8, es8, A8, a8, C8, c8, rfl, hb8, hl8⟩
            have HQ1 := Lib.hid (Vb.new hl8)
            have hb8' := chain hb8 (below1 w8 (.cells #[.int .i64 k8, .int .i64 n8, .string s8, .slice A8 ks8.length a8, .slice C8 es8.length c8] 25))
            have HB8 := Lib.hid (chain HB7.out hb8')
            have HX6 := Lib.hid (HX5.out.next hb8')
            have HY6 := Lib.hid (HY5.out.next hb8')
            have HZ6 := Lib.hid (HZ5.out.next hb8')
            have HU6 := Lib.hid (HU5.out.next hb8')
            have HP6 := Lib.hid (HP1.out.next hb8')
            clear hb8 hl8 hb8' HX5 HY5 HZ5 HU5 HP1 HO1 HO2 HS1 HS2 HA1 HA2
            have HBo := Lib.hid (fun W => bool_any b W)
            have HRBo := Lib.hid (fun W => rbool_any b W)
            have HNu := Lib.hid (fun W => num_any z W)
            have HRNu := Lib.hid (fun W => rnum_any z W)
            generalize (if b = true then (2 : Int) else 1) = kb at HBo HRBo
            obtain ⟨W9, hW9⟩ : ∃ X, X = w8.alloc (.cells #[.int .i64 k8, .int .i64 n8, .string s8, .slice A8 ks8.length a8, .slice C8 es8.length c8] 25) := ⟨_, rfl⟩
            go_wp2_with fail
            rw [← hW9] at HX6 HY6 HZ6 HU6 HP6 HQ1 HB8 ⊢
            clear hW9
            refine (HBo.out _).mono ?_
            rintro e9 w9 ⟨rfl, hb9⟩
            go_wp2_with fail
            refine (HRBo.out _).mono ?_
            rintro e10 w10 ⟨rfl, hb10⟩
            go_wp2_with fail
            refine (same_self (lies_flat _ _ kb 0) (lies_flat _ _ kb 0)).mono ?_
            rintro e11 w11 ⟨rfl, hb11⟩
            go_wp2_with fail
            refine (HNu.out _).mono ?_
            rintro e12 w12 ⟨rfl, hb12⟩
            go_wp2_with fail
            refine (HRNu.out _).mono ?_
            rintro e13 w13 ⟨rfl, hb13⟩
            go_wp2_with fail
            refine (same_self (lies_flat _ _ 3 z) (lies_flat _ _ 3 z)).mono ?_
            rintro e14 w14 ⟨rfl, hb14⟩
            have hc14 := chain hb9 (chain hb10 (chain hb11 (chain hb12 (chain hb13 hb14))))
            have HX7 := Lib.hid (HX6.out.next hc14)
            have HY7 := Lib.hid (HY6.out.next hc14)
            have HZ7 := Lib.hid (HZ6.out.next hc14)
            have HU7 := Lib.hid (HU6.out.next hc14)
            have HP7 := Lib.hid (HP6.out.next hc14)
            have HQ7 := Lib.hid (HQ1.out.next hc14)
            have HB14 := Lib.hid (chain HB8.out hc14)
            clear hb9 hb10 hb11 hb12 hb13 hb14 hc14 HX6 HY6 HZ6 HU6 HP6 HQ1 HB8 HBo HRBo HNu HRNu
            obtain ⟨t0, t1, t2, t3, t4⟩ := box5 HX7.out.box
            obtain ⟨r0, r1, r2, r3, r4⟩ := box5 HY7.out.box
            go_wp2_with fail
            refine (same_self HX7.out.lies HY7.out.lies).mono ?_
            rintro e15 w15 ⟨rfl, hb15⟩
            have HZ8 := Lib.hid (HZ7.out.next hb15)
            have HU8 := Lib.hid (HU7.out.next hb15)
            have HP8 := Lib.hid (HP7.out.next hb15)
            have HQ8 := Lib.hid (HQ7.out.next hb15)
            have HB15 := Lib.hid (chain HB14.out hb15)
            clear t0 t1 t2 t3 t4 r0 r1 r2 r3 r4 hb15 HX7 HY7 HZ7 HU7 HP7 HQ7 HB14
            obtain ⟨t0, t1, t2, t3, t4⟩ := box5 HZ8.out.box
            obtain ⟨r0, r1, r2, r3, r4⟩ := box5 HU8.out.box
            go_wp2_with fail
            refine (same_self HZ8.out.lies HU8.out.lies).mono ?_
            rintro e16 w16 ⟨rfl, hb16⟩
            have HP9 := Lib.hid (HP8.out.next hb16)
            have HQ9 := Lib.hid (HQ8.out.next hb16)
            have HB16 := Lib.hid (chain HB15.out hb16)
            clear t0 t1 t2 t3 t4 r0 r1 r2 r3 r4 hb16 HZ8 HU8 HP8 HQ8 HB15
            obtain ⟨t0, t1, t2, t3, t4⟩ := box5 HP9.out.box
            obtain ⟨r0, r1, r2, r3, r4⟩ := box5 HQ9.out.box
            go_wp2_with fail
            refine (same_self HP9.out.lies HQ9.out.lies).mono ?_
            rintro e17 w17 ⟨rfl, hb17⟩
            have HB17 := Lib.hid (chain HB16.out hb17)
            clear t0 t1 t2 t3 t4 r0 r1 r2 r3 r4 hb17 HP9 HQ9 HB16
            go_wp2_with fail
            refine (haw.out _).mono ?_
            rintro e18 w18 ⟨rfl, hb18⟩
            go_wp2_with fail
            go_ret
            exact ⟨rfl, chain HB17.out hb18⟩
        · have hd3 : decide ((20 : Int) < (l.length : Int)) = true := by simp; omega
          go_wp2_with fail
          refine (haw.out _).mono ?_
          rintro e2 w2 ⟨rfl, hb2⟩
          go_wp2_with fail
          go_ret
          exact ⟨rfl, chain HB1.out hb2⟩
      · have hd2 : decide ((20 : Int) < (ks.length : Int)) = true := by simp; omega
        go_wp2_with fail
        refine (haw.out _).mono ?_
        rintro e2 w2 ⟨rfl, hb2⟩
        go_wp2_with fail
        go_ret
        exact ⟨rfl, chain HB1.out hb2⟩
  · have hd1 : decide ((200 : Int) < (s.size : Int)) = true := by simp; omega
    go_enter Try.func5, Try.ntmps5
    go_wp2_with fail
    refine (haw.out _).mono ?_
    rintro e1 w1 ⟨rfl, hb1⟩
    go_wp2_with fail
    go_ret
    exact ⟨rfl, hb1⟩
end Go.Proofs.Ytbpbplfiamllnaa
namespace Go.Proofs.Ytbpbplfiamllnaa
open Go.ChangeShapes Go.WideShapes Go.ChangeAt Go.RowKit Go.ChangeMaps
section
variable {H : Type} {enc : TypeId × Value → H} {w : World}
theorem open_strings_arg {r : Reach} {b0 : Nat} {v : Value} {d : DataW H} {ps : List MemPlace} (hval : Value.okWide Try.prog w r b0 22 v) (h : DataW.Trod enc Try.prog w 0 (fun _ => true) true 22 v d ps) (hs : Slim Try.prog 22 d) :
    ∃ (A : Option Addr) (a : Nat) (ks : List ByteArray), v = .slice A ks.length a ∧ SliceK w A a ks := by
  obtain ⟨A0, len, cap, rfl⟩ := okWide_slice Try.underlying22 hval
  obtain ⟨fuel, hf⟩ := h
  obtain ⟨A, a, ks, hcs, h1, h2, h3, h4, h5⟩ := open_keys Try.underlying22 Try.underlying9 cells_facts.2.2.1 (by rw [bytes_facts.1]; omega) hf hs
  simp [Value.cells] at hcs
  obtain ⟨rfl, rfl, rfl⟩ := hcs
  exact ⟨A0, cap, ks, rfl, h3, h1, h2.1, h2.2, h4, h5⟩
theorem open_values_arg {r : Reach} {b0 : Nat} {v : Value} {d : DataW H} {ps : List MemPlace} (hval : Value.okWide Try.prog w r b0 23 v) (h : DataW.Trod enc Try.prog w 0 (fun _ => true) true 23 v d ps) (hs : Slim Try.prog 23 d) :
    ∃ (A : Option Addr) (a : Nat) (l : List V) (xs : List Value), v = .slice A l.length a ∧ SliceV w A a l xs := by
  obtain ⟨A0, len, cap, rfl⟩ := okWide_slice Try.underlying23 hval
  obtain ⟨fuel, hf⟩ := h
  obtain ⟨A, a, es, xs, hcs, h1, h2, h3, h4, h5⟩ := open_elems (fun n' _ => open_value_at n' n' (Nat.le_refl _)) hf hs
  simp [Value.cells] at hcs
  obtain ⟨rfl, rfl, rfl⟩ := hcs
  exact ⟨A0, cap, es, xs, rfl, ⟨h3, h4⟩, h1, h2.1, h2.2, h5⟩
theorem trodAll_five' {P : Program} {base : Nat} {spare : Nat → Bool} {held : Bool} {t t' t'' t3 t4 : TypeId} {args : Array Value} {ds : List (DataW H)} {ps : List MemPlace} (h : DataW.TrodAll enc P w base spare held [t, t', t'', t3, t4] args.toList ds ps) :
    ∃ v v' v'' v3 v4 d d' d'' d3 d4 p p' p'' p3 p4, args = #[v, v', v'', v3, v4] ∧ ds = [d, d', d'', d3, d4] ∧ ps = p ++ p' ++ p'' ++ p3 ++ p4 ∧ DataW.Trod enc P w base spare held t v d p ∧ DataW.Trod enc P w base spare held t' v' d' p' ∧ DataW.Trod enc P w base spare held t'' v'' d'' p'' ∧ DataW.Trod enc P w base spare held t3 v3 d3 p3 ∧ DataW.Trod enc P w base spare held t4 v4 d4 p4 := by
  obtain ⟨v, vs, d, ds', p, q, hargs, rfl, rfl, hd, hrest⟩ := trodAll_cons h
  obtain ⟨v', vs', d', ds'', p', q', rfl, rfl, rfl, hd', hrest'⟩ := trodAll_cons hrest
  obtain ⟨v'', vs'', d'', ds''', p'', q'', rfl, rfl, rfl, hd'', hrest''⟩ := trodAll_cons hrest'
  obtain ⟨v3, vs3, d3, ds3, p3, q3, rfl, rfl, rfl, hd3, hrest3⟩ := trodAll_cons hrest''
  obtain ⟨v4, vs4, d4, ds4, p4, q4, rfl, rfl, rfl, hd4, hrest4⟩ := trodAll_cons hrest3
  obtain ⟨rfl, rfl, rfl⟩ := trodAll_nil hrest4
  exact ⟨v, v', v'', v3, v4, d, d', d'', d3, d4, p, p', p'', p3, p4, by cases args; simp_all, rfl, by simp, hd, hd', hd'', hd3, hd4⟩
end
end Go.Proofs.Ytbpbplfiamllnaa

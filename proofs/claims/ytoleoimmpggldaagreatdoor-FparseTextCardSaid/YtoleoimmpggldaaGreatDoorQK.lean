import Derived.Lib.Bytealg
import Derived.Lib.Strings
import Derived.Laws.Cover1
import Derived.Test.YtoleoimmpggldaaGreatDoorRows
import Derived.Test.YtoleoimmpggldaaGreatDoorQB
import Derived.Lib.Hide
import Derived.Lib.Walk
import Derived.WalkSpells
import Derived.WalkLawsBesides
import Derived.Outline
import Derived.Deep.QuietTactic
import Derived.BigQuiet
import Derived.StillTailTactics
set_option linter.unusedVariables false
set_option linter.unusedSectionVars false
set_option linter.unusedSimpArgs false
set_option maxHeartbeats 1000000
set_option maxRecDepth 100000
namespace Go.Proofs.YtoleoimmpggldaaGreatDoor
theorem cb_zero : ∀ a b : List UInt8, Lib.compareBytes a b = 0 ↔ a = b
 | [], [] => by simp [Lib.compareBytes]
 | [], _ :: _ => by simp [Lib.compareBytes]
 | _ :: _, [] => by simp [Lib.compareBytes]
 | x :: a, y :: b => by
  rw [Lib.compareBytes]
  split
  · rename_i h
    simp
    rintro rfl;exact absurd h (UInt8.lt_irrefl _)
  · rename_i h1
    split
    · rename_i h
      simp
      rintro rfl;exact absurd h (UInt8.lt_irrefl _)
    · rename_i h2
      have : x = y := UInt8.le_antisymm (UInt8.not_lt.1 h2) (UInt8.not_lt.1 h1);subst this;simp [cb_zero a b]
def scmp (a b : ByteArray) : Int := Lib.compareBytes a.data.toList b.data.toList
theorem data_inj {a b : ByteArray} (h : a.data.toList = b.data.toList) : a = b := by
 obtain ⟨⟨x⟩⟩ := a;obtain ⟨⟨y⟩⟩ := b;simp at h;subst h
 rfl
theorem scmp_zero (a b : ByteArray) : scmp a b = 0 ↔ a = b := by
 unfold scmp;rw [cb_zero];exact ⟨data_inj, fun h => by rw [h]⟩
theorem same_eq (a b : ByteArray) : (a.toList == b.toList) = decide (scmp a b = 0) := by
 rw [Lib.toList_data, Lib.toList_data, Bool.eq_iff_iff];simp only [beq_iff_eq, decide_eq_true_eq, scmp_zero];exact ⟨data_inj, fun h => by rw [h]⟩
end Go.Proofs.YtoleoimmpggldaaGreatDoor
namespace Go.Proofs.YtoleoimmpggldaaGreatDoor
open Go.RowKit
theorem drewN_two (w : World) (m n : Nat) : (w.drewN m).drewN n = w.drewN (m + n) := by simp [World.drewN, Nat.add_assoc]
theorem take_eq_step {α : Type} {us vs : List α} {k : Nat} {x y : α} (ha : us[k]? = some x) (hb : vs[k]? = some y) (h : us.take k = vs.take k) (hxy : x = y) : us.take (k + 1) = vs.take (k + 1) := by
 rw [List.take_add_one, List.take_add_one, ha, hb, h, hxy]
theorem take_all_eq {α : Type} {us vs : List α} {k : Nat} (h : us.take k = vs.take k) (h1 : us.length ≤ k) (h2 : us.length = vs.length) : us = vs := by
 rw [List.take_of_length_le h1, List.take_of_length_le (by omega)] at h;exact h
theorem at_ne {α : Type} {us vs : List α} {k : Nat} {x y : α} (ha : us[k]? = some x) (hb : vs[k]? = some y) (hne : x ≠ y) : us ≠ vs := by
 rintro rfl;rw [ha] at hb;injection hb with hb
 exact hne hb
theorem strings_any (A B : Option Addr) (a b : Nat) (ks ls : List ByteArray) (S T : Nat → Prop) (w : World) (hA : Rs w S A (kv ks)) (hB : Rs w T B (kv ls)) (hk : ks.length ≤ maxLen) :
 Calls Tryz.prog 19 #[.slice A ks.length a, .slice B ls.length b] w fun e w' => e = .returned (.bool (decide (ks = ls))) ∧ ∃ m, w' = w.drewN m := by
 have HA := hI hA;have HB := hI hB;clear hA hB;unfold maxLen at hk
 by_cases hl : ks.length = ls.length
 · have hbq : (((ks.length : Nat) : Int) != ((ls.length : Nat) : Int)) = false := by simp [hl]
   have HL := hI hl;clear hl
   go_enter Tryz.func19, Tryz.ntmps19
   go_wp2
   go_loopw [5] (fun t wr => ∃ i : Nat, i ≤ ks.length ∧ t = ι i ∧ ks.take i = ls.take i ∧ ∃ m, wr = w.drewN m) (fun t _ => ks.length - (intOf t).toNat)
   case atStart => exact ⟨0, Nat.zero_le _, rfl, rfl, 0, rfl⟩
   case round =>
    obtain ⟨i, hi, rfl, heq0, m, rfl⟩ := hrel;have heq := hI heq0;clear heq0
    by_cases hlt : i < ks.length
    · have hltb : i < ls.length := by have := HL.out; omega
      obtain ⟨x, hx⟩ : ∃ x, ks[i]? = some x := ⟨_, List.getElem?_eq_getElem hlt⟩
      obtain ⟨y, hy⟩ : ∃ y, ls[i]? = some y := ⟨_, List.getElem?_eq_getElem hltb⟩
      obtain ⟨b0, o0, rfl, _, hc0⟩ := HA.out.at_ (kv_at hx);obtain ⟨b1, o1, rfl, _, hc1⟩ := HB.out.at_ (kv_at hy);have HX := hI hx;have HY := hI hy;have hi1 : (i : Int) < (ks.length : Int) := by omega
      have hi2 : (i : Int) < (ls.length : Int) := by omega
      clear hx hy;have hse := same_eq x y
      by_cases hz : scmp x y = 0
      · have HQ := hI ((scmp_zero x y).1 hz);obtain rfl := HQ.out;clear hz hse
        go_wp2
        go_quiet (fail)
        go_wp2
        go_roundw
        case rel => exact ⟨i + 1, by omega, by go_num, take_eq_step HX.out HY.out heq.out rfl, _, rfl⟩
        case measure => simp [intOf]; omega
      · rw [decide_eq_false hz] at hse;have hne : Hid (decide (ks = ls) = false) := hI (decide_eq_false (at_ne HX.out HY.out fun h => hz ((scmp_zero x y).2 h)));clear hz
        go_wp2
        go_quiet (fail)
        go_wp2
        go_ret
        exact ⟨ret_bool hne.out.symm, m + nq, drewN_two w m nq⟩
    · have he : Hid (decide (ks = ls) = true) := hI (decide_eq_true (take_all_eq heq.out (by omega) HL.out))
      go_wp2
      go_ret
      exact ⟨ret_bool he.out.symm, _, rfl⟩
 · have hbq : (((ks.length : Nat) : Int) != ((ls.length : Nat) : Int)) = true := by simp; omega
   have hne : Hid (decide (ks = ls) = false) := hI (decide_eq_false fun h => hl (by rw [h]));clear hl
   go_enter Tryz.func19, Tryz.ntmps19
   go_wp2
   go_ret
   exact ⟨ret_bool hne.out.symm, 0, rfl⟩
end Go.Proofs.YtoleoimmpggldaaGreatDoor
namespace Go.Proofs.YtoleoimmpggldaaGreatDoor
open Go.RowKit
mutual
def same : V → V → Bool
 | .mk k n s ks es, .mk k' n' s' ks' es' => decide (k = k') && decide (n = n') && decide (s = s') && decide (ks = ks') && sameL es es'
def sameL : List V → List V → Bool
 | [], [] => true
 | e :: es, f :: fs => same e f && sameL es fs
 | [], _ :: _ => false
 | _ :: _, [] => false
end
theorem same_iff : ∀ v u : V, same v u = true ↔ v = u := by
 refine V.ind fun k n s ks es ih u => ?_
 cases u with
 | mk k' n' s' ks' es' =>
  have hL : ∀ fs, sameL es fs = true ↔ es = fs := by
   clear n n' s s' ks ks' es' k k'
   induction es with
   | nil => intro fs; cases fs <;> simp [sameL]
   | cons e es ihl =>
    intro fs
    cases fs with
    | nil => simp [sameL]
    | cons f fs =>
     rw [sameL, Bool.and_eq_true, ih e (by simp), ihl (fun x hx => ih x (by simp [hx])), List.cons.injEq]
  rw [same];simp [hL, and_assoc]
theorem sameL_iff : ∀ es fs : List V, sameL es fs = true ↔ es = fs
 | [], [] => by simp [sameL]
 | [], _ :: _ => by simp [sameL]
 | _ :: _, [] => by simp [sameL]
 | e :: es, f :: fs => by rw [sameL, Bool.and_eq_true, same_iff, sameL_iff es fs, List.cons.injEq]
theorem sameL_step {es fs : List V} {i : Nat} {x y : V} (hx : es[i]? = some x) (hy : fs[i]? = some y) : sameL (es.drop i) (fs.drop i) = (same x y && sameL (es.drop (i + 1)) (fs.drop (i + 1))) := by
 obtain ⟨h1, rfl⟩ := gE.1 hx;obtain ⟨h2, rfl⟩ := gE.1 hy;rw [List.drop_eq_getElem_cons h1, List.drop_eq_getElem_cons h2, sameL]
def SameOk (v : V) : Prop := ∀ (u : V) (cs ds : List Value) (w : World), Lies w (· < w.heap.size) v cs → Lies w (· < w.heap.size) u ds →
 Calls Tryz.prog 18 #[.agg cs.toArray, .agg ds.toArray] w fun e w' => e = .returned (.bool (same v u)) ∧ Below w.heap.size w w'
theorem below2 (w : World) (o p : Obj) : Below w.heap.size w ((w.alloc o).alloc p) := ((Below.refl _ _).alloc (Nat.le_refl _) o).alloc (by simp) p
theorem values_of (es fs : List V) (ih : ∀ e ∈ es, SameOk e) (A B : Option Addr) (a b : Nat) (xs ys : List Value) (w : World) (hA : Rs w (· < w.heap.size) A xs) (hL : LiesL w (· < w.heap.size) es xs) (hB : Rs w (· < w.heap.size) B ys) (hM : LiesL w (· < w.heap.size) fs ys)
 (hn : es.length ≤ 140737488355328) :
 Calls Tryz.prog 31 #[.slice A es.length a, .slice B fs.length b] w fun e w' => e = .returned (.bool (sameL es fs)) ∧ Below w.heap.size w w' := by
 have HA := hI hA;have HB := hI hB;have HL := hI hL;have HM := hI hM;have IH := hI ih;clear hA hB hL hM ih
 by_cases hl : es.length = fs.length
 · have hbq : (((es.length : Nat) : Int) != ((fs.length : Nat) : Int)) = false := by simp [hl]
   have HE := hI hl;clear hl
   go_enter Tryz.func31, Tryz.ntmps31
   go_wp2
   go_loopw [5] (fun t wr => ∃ i : Nat, i ≤ es.length ∧ t = ι i ∧ sameL es fs = sameL (es.drop i) (fs.drop i) ∧ Below w.heap.size w wr) (fun t _ => es.length - (intOf t).toNat)
   case atStart => exact ⟨0, Nat.zero_le _, rfl, rfl, Below.refl _ _⟩
   case round =>
    obtain ⟨i, hi, rfl, heq0, hbel⟩ := hrel;have heq := hI heq0;clear heq0
    by_cases hlt : i < es.length
    · have hltb : i < fs.length := by have := HE.out; omega
      obtain ⟨x, hx⟩ : ∃ x, es[i]? = some x := ⟨_, List.getElem?_eq_getElem hlt⟩
      obtain ⟨y, hy⟩ : ∃ y, fs[i]? = some y := ⟨_, List.getElem?_eq_getElem hltb⟩
      obtain ⟨b0, o0, v0, v1, v2, v3, v4, rfl, hb0, hle, c0, c1, c2, c3, c4⟩ := elem_cells HA.out HL.out hx;obtain ⟨b1, o1, u0, u1, u2, u3, u4, rfl, hb1, hlf, d0, d1, d2, d3, d4⟩ := elem_cells HB.out HM.out hy;have c0' := below_cell hbel hb0 c0;have c1' := below_cell hbel hb0 c1;have c2' := below_cell hbel hb0 c2;have c3' := below_cell hbel hb0 c3;have c4' := below_cell hbel hb0 c4;have d0' := below_cell hbel hb1 d0;have d1' := below_cell hbel hb1 d1;have d2' := below_cell hbel hb1 d2;have d3' := below_cell hbel hb1 d3;have d4' := below_cell hbel hb1 d4;clear c0 c1 c2 c3 c4 d0 d1 d2 d3 d4;have hst := hI (heq.out.trans (sameL_step hx hy));have hcall := hI (fun W (hW : Below wr.heap.size wr W) => IH.out x (List.mem_of_getElem? hx) y [v0, v1, v2, v3, v4] [u0, u1, u2, u3, u4] W (below_lies (chain hbel hW) hle) (below_lies (chain hbel hW) hlf));have hi1 : (i : Int) < (es.length : Int) := by omega
      have hi2 : (i : Int) < (fs.length : Int) := by omega
      clear hle hlf hx hy
      cases hsm : same x y with
      | true =>
       rw [hsm] at hcall hst;clear hsm;go_wp2_with fail
       go_still_tail 8, (by kernel_rfl)
       change wpList _ _ _ _ _ wr.drew
       go_wp2_with fail;refine (hcall.out _ ((Below.refl _ _).drew)).mono ?_;rintro e' w' ⟨rfl, hb⟩;have hb' := below_of_drew hb
       go_wp2
       go_roundw
       case rel => exact ⟨i + 1, by omega, by go_num, by rw [hst.out, Bool.true_and], chain hbel hb'⟩
       case measure => simp [intOf]; omega
      | false =>
       rw [hsm] at hcall hst;clear hsm;go_wp2_with fail
       go_still_tail 8, (by kernel_rfl)
       change wpList _ _ _ _ _ wr.drew
       go_wp2_with fail;refine (hcall.out _ ((Below.refl _ _).drew)).mono ?_;rintro e' w' ⟨rfl, hb⟩;have hb' := below_of_drew hb
       go_wp2
       go_ret
       exact ⟨ret_bool (by rw [hst.out, Bool.false_and]), chain hbel hb'⟩
    · have he : Hid (sameL es fs = true) := hI (by
       rw [heq.out, List.drop_eq_nil_of_le (by omega), List.drop_eq_nil_of_le (by have := HE.out; omega), sameL])
      go_wp2
      go_ret
      exact ⟨ret_bool he.out.symm, hbel⟩
 · have hbq : (((es.length : Nat) : Int) != ((fs.length : Nat) : Int)) = true := by simp; omega
   have hne : Hid (sameL es fs = false) := hI (by
    rw [Bool.eq_false_iff];exact fun h => hl (by rw [(sameL_iff es fs).1 h]))
   clear hl
   go_enter Tryz.func31, Tryz.ntmps31
   go_wp2
   go_ret
   exact ⟨ret_bool hne.out.symm, Below.refl _ _⟩
theorem same_any : ∀ v : V, SameOk v := by
 refine V.ind fun k n s ks es ih u cs ds w h1 h2 => ?_
 cases u with
 | mk k' n' s' ks' es' =>
  have hf := lies_fit _ _ h1;have hg := lies_fit _ _ h2;rw [V.Fit] at hf hg;obtain ⟨_, _, f3, f4, _⟩ := hf;obtain ⟨_, _, g3, g4, _⟩ := hg;obtain ⟨A, a, B, b, xs, rfl, _, _, _, _, hA, hB, hL⟩ := lies_open h1;obtain ⟨A', a', B', b', ys, rfl, _, _, _, _, hA', hB', hL'⟩ := lies_open h2;have HS := hI (fun (W : World) (hb : Below w.heap.size w W) => strings_any A A' a a' ks ks' (· < w.heap.size) (· < w.heap.size) W (hA.move fun b h => ⟨h, hb.block b h⟩) (hA'.move fun b h => ⟨h, hb.block b h⟩) (by unfold maxLen; omega));have HV := hI (fun (W : World) (hb : Below w.heap.size w W) => values_of es es' ih B B' b b' xs ys W (hB.move fun b h => ⟨nT h hb.size, hb.block b h⟩) (hL.move fun b h => ⟨nT h hb.size, hb.block b h⟩) (hB'.move fun b h => ⟨nT h hb.size, hb.block b h⟩) (hL'.move fun b h => ⟨nT h hb.size, hb.block b h⟩) f4);have hv : Hid (same (.mk k n s ks es) (.mk k' n' s' ks' es') = (decide (k = k') && decide (n = n') && decide (s = s') && decide (ks = ks') && sameL es es')) := hI (by rw [same]);clear hA hB hL hA' hB' hL' h1 h2 ih
  show Calls _ _ #[.agg #[ι k, ι n, .string s, .slice A ks.length a, .slice B es.length b], .agg #[ι k', ι n', .string s', .slice A' ks'.length a', .slice B' es'.length b']] w _
  have hse := same_eq s s'
  by_cases c1 : k = k'
  · subst c1
    by_cases c2 : n = n'
    · subst c2
      by_cases c3 : s = s'
      · subst c3;clear hse
        by_cases c4 : ks = ks'
        · have hz := hI (hv.out.trans (by rw [decide_eq_true rfl, decide_eq_true rfl, decide_eq_true rfl, decide_eq_true c4, Bool.true_and, Bool.true_and, Bool.true_and, Bool.true_and]));have HS' := hI (fun (W : World) (hb : Below w.heap.size w W) => by have := HS.out W hb; rw [decide_eq_true c4] at this; exact this);clear c4 HS
          go_enter Tryz.func18, Tryz.ntmps18
          go_wp2_with fail;refine (HS'.out _ (below2 _ _ _)).mono ?_;rintro e' w' ⟨rfl, m, rfl⟩;go_wp2_with fail;refine (HV.out _ (below_drewN (below2 _ _ _) m)).mono ?_;rintro e' w' ⟨rfl, hb⟩;go_wp2_with fail
          go_ret
          exact ⟨ret_bool hz.out.symm, chain (below_drewN (below2 _ _ _) m) hb⟩
        · have hz := hI (hv.out.trans (by rw [decide_eq_true rfl, decide_eq_true rfl, decide_eq_true rfl, decide_eq_false c4, Bool.and_false, Bool.false_and]));have HS' := hI (fun (W : World) (hb : Below w.heap.size w W) => by have := HS.out W hb; rw [decide_eq_false c4] at this; exact this);clear c4 HS
          go_enter Tryz.func18, Tryz.ntmps18
          go_wp2_with fail;refine (HS'.out _ (below2 _ _ _)).mono ?_;rintro e' w' ⟨rfl, m, rfl⟩;go_wp2_with fail
          go_ret
          exact ⟨ret_bool hz.out.symm, below_drewN (below2 _ _ _) m⟩
      · have hq : (s.toList == s'.toList) = false := by rw [hse]; exact decide_eq_false fun h => c3 ((scmp_zero s s').1 h)
        have hz := hI (hv.out.trans (by rw [decide_eq_true rfl, decide_eq_true rfl, decide_eq_false c3, Bool.and_false, Bool.false_and, Bool.false_and]));clear c3 hse
        go_enter Tryz.func18, Tryz.ntmps18
        go_wp2_with fail
        go_ret
        exact ⟨ret_bool hz.out.symm, below2 _ _ _⟩
    · have hq : (n == n') = false := by simp [c2]
      have hz := hI (hv.out.trans (by rw [decide_eq_false c2, Bool.and_false, Bool.false_and, Bool.false_and, Bool.false_and]));clear c2 hse
      go_enter Tryz.func18, Tryz.ntmps18
      go_wp2_with fail
      go_ret
      exact ⟨ret_bool hz.out.symm, below2 _ _ _⟩
  · have hq : (k == k') = false := by simp [c1]
    have hz := hI (hv.out.trans (by rw [decide_eq_false c1, Bool.false_and, Bool.false_and, Bool.false_and, Bool.false_and]));clear c1 hse
    go_enter Tryz.func18, Tryz.ntmps18
    go_wp2_with fail
    go_ret
    exact ⟨ret_bool hz.out.symm, below2 _ _ _⟩

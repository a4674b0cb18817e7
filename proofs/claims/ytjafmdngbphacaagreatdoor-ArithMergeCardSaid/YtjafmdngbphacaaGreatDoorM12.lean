/- The contracts of the reference's Runes and Valid. The program's fieldsFit, addString and addKeys. The program's addKeys. -/
import Derived.Test.YtjafmdngbphacaaGreatDoorM11
import Derived.Deep.QuietTactic
import Derived.BigQuiet
import Derived.Test.YtjafmdngbphacaaGreatDoorM09
import Derived.Test.YtjafmdngbphacaaGreatDoorM08
import Derived.Test.YtjafmdngbphacaaGreatDoorM07
set_option linter.unusedVariables false
set_option linter.unusedSimpArgs false
namespace Go.Proofs.YtjafmdngbphacaaGreatDoor
open Go.RowKit
theorem inf_int : (Tryz.prog.info? 3).map (fun i => (i.zero, i.size, i.bytes)) = some (some (.int .i64 0), 1, 8) := by kernel_rfl
/-- A list of code points as values. -/
def iv (xs : List Nat) : List Value := xs.map fun (r : Nat) => Value.int .i64 (r : Int)
/-- What Runes leaves: nil and false, or a slice of its own that reads as the list. -/
def RunesPost (o : Option (List Nat)) (w : World) (e : Ending) (w' : World) : Prop :=
  Below w.heap.size w w' ∧ match o with
  | none => e = .returned (.tuple #[.slice none 0 0, .bool false])
  | some xs => ∃ v, e = .returned (.tuple #[v, .bool true]) ∧ w'.ownsRow w.heap.size 3 1 v xs.length (iv xs)
theorem RunesPost.none_ {w w' : World} {e : Ending} (hb : Below w.heap.size w w') (he : e = .returned (.tuple #[.slice none 0 0, .bool false])) : RunesPost none w e w' := ⟨hb, he⟩
theorem RunesPost.some_ {w w' : World} {e : Ending} {xs : List Nat} (hb : Below w.heap.size w w') {v : Value} (he : e = .returned (.tuple #[v, .bool true])) (ho : w'.ownsRow w.heap.size 3 1 v xs.length (iv xs)) : RunesPost (some xs) w e w' := ⟨hb, v, he, ho⟩
theorem iv_snoc (xs : List Nat) (r : Nat) : iv (xs ++ [r]) = iv xs ++ [.int .i64 r] := by simp [iv]
set_option maxHeartbeats 1000000 in
theorem rrunes_any (s : ByteArray) (hs : s.size ≤ 1048576) (w : World) :
    Calls Tryz.prog 92 #[.string s] w fun e w' => RunesPost (runes s.data.toList) w e w' := by
  have hs2 : Hid (s.size ≤ maxLen) := Lib.hid (by unfold maxLen; omega)
  have hlen : Hid (s.data.toList.length = s.size) := Lib.hid (by simp)
  obtain ⟨i0, hi, hz0, hz1, hz2⟩ := info_parts inf_int
  go_enter Tryz.func92, Tryz.ntmps92
  go_wp2
  go_loopw [4, 5] (fun v t wr => ∃ (k : Nat) (xs : List Nat), k ≤ s.size ∧ xs.length ≤ k ∧ t = .int .i64 k ∧ wr.ownsRow w.heap.size 3 1 v xs.length (iv xs) ∧ Below w.heap.size w wr ∧ Scan s.data.toList k xs) (fun _ t _ => s.size - (intOf t).toNat)
  case atStart => exact ⟨0, [], Nat.zero_le _, Nat.le_refl _, rfl, World.ownsRow_nil _ _ _ _, Below.refl _ _, Scan.start _⟩
  case round =>
    obtain ⟨k, xs, hk, hxk, rfl, hown, hbel, hsc0⟩ := hrel
    have hsc := Lib.hid hsc0
    clear hsc0
    by_cases hlt : k < s.size
    · cases hx : dec (s.data.toList.drop k) with
      | none =>
        have hX := Lib.hid hx
        clear hx
        have hv := Lib.hid (hsc.out.fail (by rw [hlen.out]; exact hlt) hX.out)
        go_wp2_with (go_at_call 140; refine (dec_none_of (rdec_any s k hs2.out _) hX.out).mono ?_; rintro e w' ⟨rfl, rfl⟩)
        go_ret2
        rw [hv.out]
        exact RunesPost.none_ hbel rfl
      | some rn =>
        obtain ⟨r, n⟩ := rn
        have hX := Lib.hid hx
        clear hx
        obtain ⟨_, hn1, hn4, hnl⟩ := dec_some_cp hX.out
        rw [List.length_drop, hlen.out] at hnl
        have hkn : k + n ≤ s.size := by omega
        clear hnl
        go_wp2_with (first
          | (go_at_call 140; refine (dec_some_of (rdec_any s k hs2.out _) r n hX.out).mono ?_; rintro e w' ⟨rfl, rfl⟩)
          | (at_builtin; refine wpList_append_own _ rfl _ _ 61 rfl w.heap.size 3 i0 (.int .i64 0) 1 8 Tryz.underlying61 hi hz0 hz1 hz2 rfl (by decide) _ _ _ rfl (hown.alloc _) ⟨wr.heap.size, 0, none⟩ 1 1 [.int .i64 r] rfl rfl ?c1 ?c2 ?c3 ?c4 ?c5 ?_))
        case c1 =>
          intro j u hj
          match j, hj with
          | 0, hj => simp at hj; subst hj; simp [Addr.add]
        case c2 => intro u hu; simp at hu; subst hu; rfl
        case c3 => unfold maxLen; omega
        case c4 => omega
        case c5 => have := hbel.size; simp; omega
        intro v' w1 hown' hgrow _
        have hB : Below w.heap.size w w1 := (hbel.alloc hbel.size _).grown hgrow (by have := hbel.size; simp; omega) (fun j hj => (hown.lt j hj).1)
        clear hgrow hown hbel
        go_wp2
        go_roundw
        case rel => exact ⟨k + n, xs ++ [r], by omega, by simp; omega, by go_num, by rw [iv_snoc]; simpa using hown', hB, hsc.out.step hX.out⟩
        case measure => simp [intOf]; omega
    · have hv := Lib.hid (hsc.out.done (by rw [hlen.out]; exact hlt))
      go_wp2
      go_ret2
      rw [hv.out]
      exact RunesPost.some_ hbel rfl hown

theorem runes_none_of {f : FuncId} {args : Array Value} {w : World} {o : Option (List Nat)} (h : Calls Tryz.prog f args w fun e w' => RunesPost o w e w') (ho : o = none) :
    Calls Tryz.prog f args w fun e w' => e = .returned (.tuple #[.slice none 0 0, .bool false]) ∧ Below w.heap.size w w' := by
  subst ho; exact h.mono fun e w' h => ⟨h.2, h.1⟩
theorem runes_some_of {f : FuncId} {args : Array Value} {w : World} {o : Option (List Nat)} (h : Calls Tryz.prog f args w fun e w' => RunesPost o w e w') (xs : List Nat) (ho : o = some xs) :
    Calls Tryz.prog f args w fun e w' => ∃ A c, e = .returned (.tuple #[.slice A xs.length c, .bool true]) ∧ Rd w' w'.heap.size A (iv xs) ∧ Below w.heap.size w w' := by
  subst ho
  refine h.mono fun e w' h => ?_
  obtain ⟨hb, v, rfl, hown⟩ := h
  obtain ⟨A, c, rfl, _, hr⟩ := own_slice hown
  exact ⟨A, c, rfl, hr, hb⟩
set_option maxHeartbeats 400000 in
theorem rval_any (s : ByteArray) (hs : s.size ≤ 1048576) (w : World) :
    Calls Tryz.prog 93 #[.string s] w fun e w' => e = .returned (.bool (runes s.data.toList).isSome) ∧ Below w.heap.size w w' := by
  have HR := Lib.hid (fun w => rrunes_any s hs w)
  clear hs
  cases hx : runes s.data.toList with
  | none =>
    have hX := Lib.hid hx
    clear hx
    go_enter Tryz.func93, Tryz.ntmps93
    go_wp2_with (go_at_call 92; refine (runes_none_of (HR.out _) hX.out).mono ?_; rintro e w' ⟨rfl, hb⟩)
    go_ret
    exact ⟨rfl, hb⟩
  | some xs =>
    have hX := Lib.hid hx
    clear hx
    go_enter Tryz.func93, Tryz.ntmps93
    go_wp2_with (go_at_call 92; refine (runes_some_of (HR.out _) xs hX.out).mono ?_; rintro e w' ⟨A, c, rfl, hr, hb⟩)
    go_ret
    exact ⟨rfl, hb⟩
end Go.Proofs.YtjafmdngbphacaaGreatDoor
namespace Go.Proofs.YtjafmdngbphacaaGreatDoor
open Go.RowKit
theorem size_empty (s : ByteArray) : s.toList.isEmpty = decide (s.size = 0) := by
  rw [Lib.toList_data]
  obtain ⟨⟨l⟩⟩ := s
  cases l <;> simp [ByteArray.size]
theorem natz (n : Nat) : ((n : Int) == 0) = decide (n = 0) := by rw [Bool.eq_iff_iff]; simp
theorem nateq (a b : Nat) : ((a : Int) == (b : Int)) = decide (a = b) := by rw [Bool.eq_iff_iff]; simp; omega
set_option maxHeartbeats 4000000 in
set_option maxRecDepth 100000 in
theorem fits_any (k n : Int) (s : ByteArray) (A B : Option Addr) (nk ne a b : Nat) (w : World) (hs : s.size ≤ 140737488355328) (hk : nk ≤ 140737488355328) (he : ne ≤ 140737488355328) :
    Calls Tryz.prog 181 #[.agg #[.int .i64 k, .int .i64 n, .string s, .slice A nk a, .slice B ne b]] w fun e w' => e = .returned (.bool (fits k n s nk ne)) ∧ Below w.heap.size w w' := by
  have hse := size_empty s
  generalize hq : fits k n s nk ne = r
  have HQ := Lib.hid hq
  clear hq
  go_enter Tryz.func181, Tryz.ntmps181
  go_wp2
  go_quiet (fail)
  go_wp2
  go_quiet (fail)
  go_wp2
  all_goals
    go_ret
    refine ⟨ret_bool (Eq.trans ?_ HQ.out), below_drewN ((Below.refl _ _).alloc (Nat.le_refl _) _) _⟩
    simp_all [fits, natz, nateq]
set_option maxHeartbeats 1000000 in
set_option maxRecDepth 100000 in
theorem addString_any (g : Nat) (d m b : Int) (s : ByteArray) (w : World) (hbox : Box w g 68 #[.int .i64 d, .int .i64 m, .int .i64 b]) (hs : s.size ≤ 140737488355328) (h0 : 0 ≤ b) (h1 : b ≤ 65536) :
    Calls Tryz.prog 182 #[.pointer (some ⟨g, 0, none⟩), .string s] w fun e w' => e = .returned (.bool (strOk s b)) ∧ w' = w.setCell ⟨g, 2, none⟩ (.int .i64 (b + s.size)) := by
  have c2 := hbox.cell (i := 2) rfl
  have f2 := hbox.free 2
  have HB := Lib.hid hbox
  clear hbox
  have n2 : (w.setCell ⟨g, 2, none⟩ (.int .i64 (b + s.size))).cell? ⟨g, 2, none⟩ = some (.int .i64 (b + s.size)) := (HB.out.put 2 _).cell rfl
  have hm : s.size ≤ maxLen := by unfold maxLen; omega
  have HM := Lib.hid hm
  generalize hq : strOk s b = r
  have HQ := Lib.hid hq
  clear hq hm
  by_cases hz : s.size ≤ 4096
  · by_cases hy : b + s.size ≤ 65536
    · have hv := Lib.hid (fun w => val_any s HM.out w)
      have hr : Hid (okS s = r) := Lib.hid (by rw [← HQ.out, strOk, decide_eq_true hz, decide_eq_true hy]; rfl)
      go_enter Tryz.func182, Tryz.ntmps182
      go_wp2_with (go_at_call 90; refine (hv.out _).mono ?_; rintro e w' ⟨rfl, rfl⟩)
      go_ret
      exact ⟨ret_bool hr.out, rfl⟩
    · have hr : Hid (false = r) := Lib.hid (by rw [← HQ.out, strOk, decide_eq_true hz, decide_eq_false hy]; rfl)
      go_enter Tryz.func182, Tryz.ntmps182
      go_wp2_with fail
      go_ret
      exact ⟨ret_bool hr.out, rfl⟩
  · have hr : Hid (false = r) := Lib.hid (by rw [← HQ.out, strOk, decide_eq_false hz]; rfl)
    go_enter Tryz.func182, Tryz.ntmps182
    go_wp2_with fail
    go_ret
    exact ⟨ret_bool hr.out, rfl⟩
end Go.Proofs.YtjafmdngbphacaaGreatDoor
namespace Go.Proofs.YtjafmdngbphacaaGreatDoor
open Go.RowKit
def prevK (ks : List ByteArray) (i : Nat) : Option ByteArray := if i = 0 then none else ks[i - 1]?
theorem prevK_succ {ks : List ByteArray} {i : Nat} {x : ByteArray} (h : ks[i]? = some x) : prevK ks (i + 1) = some x := by simp [prevK, h]
theorem keysP_end {ks : List ByteArray} {i : Nat} {b : Int} (h : ks.length ≤ i) : keysP (ks.drop i) (prevK ks i) b = some b := by
  rw [List.drop_eq_nil_of_le h, keysP]
theorem keysP_first {ks : List ByteArray} {x : ByteArray} {b : Int} (h : ks[0]? = some x) : keysP (ks.drop 0) (prevK ks 0) b = if strOk x b then keysP (ks.drop 1) (prevK ks 1) (b + x.size) else none := by
  rw [prevK_succ h]
  obtain ⟨hl, rfl⟩ := List.getElem?_eq_some_iff.1 h
  rw [List.drop_eq_getElem_cons hl]
  rfl
theorem keysP_next {ks : List ByteArray} {i : Nat} {p x : ByteArray} {b : Int} (hi : 0 < i) (hp : ks[i - 1]? = some p) (h : ks[i]? = some x) :
    keysP (ks.drop i) (prevK ks i) b = if scmp p x < 0 then (if strOk x b then keysP (ks.drop (i + 1)) (prevK ks (i + 1)) (b + x.size) else none) else none := by
  rw [prevK_succ h]
  obtain ⟨hl, rfl⟩ := List.getElem?_eq_some_iff.1 h
  rw [List.drop_eq_getElem_cons hl, prevK, if_neg (by omega), hp]
  rfl
/-- What addKeys and add leave: false, or true and the new counts; nothing but block g has turned. -/
def KeysPost (g : Nat) (d m : Int) (o : Option Int) (w : World) (e : Ending) (w' : World) : Prop :=
  w.grownBy w' (some g) ∧ match o with
  | none => e = .returned (.bool false)
  | some b => e = .returned (.bool true) ∧ Box w' g 68 #[.int .i64 d, .int .i64 m, .int .i64 b]
set_option maxHeartbeats 2000000 in
set_option maxRecDepth 100000 in
theorem addKeys_any (g : Nat) (d m b : Int) (A : Option Addr) (a : Nat) (ks : List ByteArray) (S : Nat → Prop) (w : World) (hbox : Box w g 68 #[.int .i64 d, .int .i64 m, .int .i64 b]) (hA : Rs w S A (kv ks)) (hS : ∀ b, S b → b < w.heap.size ∧ b ≠ g)
    (hks : ∀ x ∈ ks, x.size ≤ 140737488355328) (hn : ks.length ≤ 140737488355328) (h0 : 0 ≤ b) (h1 : b ≤ 65536) :
    Calls Tryz.prog 183 #[.pointer (some ⟨g, 0, none⟩), .slice A ks.length a] w (KeysPost g d m (keysP ks none b) w) := by
  have HX := Lib.hid hbox
  have HA := Lib.hid hA
  have HS := Lib.hid hS
  have HK := Lib.hid hks
  clear hbox hA hS hks
  generalize hq : keysP ks none b = r
  have HQ := Lib.hid hq
  clear hq
  go_enter Tryz.func183, Tryz.ntmps183
  go_wp2
  go_loopw [9] (fun t wr => ∃ (i : Nat) (q : Int), i ≤ ks.length ∧ t = .int .i64 i ∧ 0 ≤ q ∧ q ≤ 65536 ∧ keysP (ks.drop i) (prevK ks i) q = r ∧ Box wr g 68 #[.int .i64 d, .int .i64 m, .int .i64 q] ∧ w.grownBy wr (some g)) (fun t _ => ks.length - (intOf t).toNat)
  case atStart => exact ⟨0, b, Nat.zero_le _, rfl, h0, h1, HQ.out, HX.out, World.grownBy.refl _ _⟩
  case round =>
    obtain ⟨i, q, hi, rfl, hq0, hq1, hr0, hbox0, hgr0⟩ := hrel
    have HR := Lib.hid hr0
    have HB := Lib.hid hbox0
    have HG := Lib.hid hgr0
    clear hr0 hbox0 hgr0
    by_cases hlt : i < ks.length
    · obtain ⟨x, hx⟩ : ∃ x, ks[i]? = some x := ⟨_, List.getElem?_eq_getElem hlt⟩
      have hxs := HK.out x (List.mem_of_getElem? hx)
      obtain ⟨b0, o0, hAe, hb0, hc0⟩ := HA.out.at_ (kv_at hx)
      have hc1 := HG.out.cell hc0 (by have := (HS.out b0 hb0).2; intro e; injection e with e; exact this e)
      have hcall := Lib.hid (addString_any g d m q x wr HB.out hxs hq0 hq1)
      have hstrict : Hid (strOk x q = true → q + x.size ≤ 65536) := Lib.hid (by intro h; simp [strOk] at h; omega)
      have hprev : prevK ks i = none ∧ i ≤ 0 ∨ 0 < i := by
        by_cases hz : i = 0
        · exact .inl ⟨by rw [hz]; rfl, by omega⟩
        · exact .inr (by omega)
      obtain rfl := hAe
      rcases hprev with ⟨hp, hz⟩ | hz
      · have hst : Hid ((if strOk x q then keysP (ks.drop (i + 1)) (prevK ks (i + 1)) (q + x.size) else none) = r) := Lib.hid (by
          obtain rfl : i = 0 := by omega
          exact (keysP_first (b := q) hx).symm.trans HR.out)
        have HX2 := Lib.hid hx
        clear hc0 hx hp
        cases hok : strOk x q with
        | true =>
          rw [hok] at hcall hst hstrict
          have hle := hstrict.out rfl
          have hst2 := Lib.hid ((if_pos rfl).symm.trans hst.out)
          clear hok hstrict
          go_wp2_with fail
          refine hcall.out.mono ?_
          rintro e' w' ⟨rfl, rfl⟩
          go_wp2
          go_roundw
          case rel => exact ⟨i + 1, q + x.size, by omega, by go_num, by omega, hle, hst2.out, HB.out.put 2 _, grown_trans HG.out (grown_set _ _ _ _)⟩
          case measure => simp [intOf]; omega
        | false =>
          rw [hok] at hcall hst
          have hst2 := Lib.hid ((if_neg (by decide)).symm.trans hst.out)
          clear hok hstrict
          go_wp2_with fail
          refine hcall.out.mono ?_
          rintro e' w' ⟨rfl, rfl⟩
          go_wp2
          go_ret
          rw [← hst2.out]
          exact ⟨grown_trans HG.out (grown_set _ _ _ _), rfl⟩
      · obtain ⟨p, hp⟩ : ∃ p, ks[i - 1]? = some p := ⟨_, List.getElem?_eq_getElem (by omega)⟩
        have hst := Lib.hid ((keysP_next (b := q) hz hp hx).symm.trans HR.out)
        have hpc : wr.cell? ⟨b0, o0 + (i - 1), none⟩ = some (.string p) := by
          obtain ⟨b1, o1, e1, hb1, hd⟩ := HA.out.at_ (kv_at hp)
          injection e1 with e1
          injection e1 with e1 e2
          subst e1
          subst e2
          exact HG.out.cell hd (by have := (HS.out b0 hb0).2; intro e; injection e with e; exact this e)
        have hls := less_eq p x
        have HX2 := Lib.hid hx
        clear hc0 hx hp
        by_cases hlp : scmp p x < 0
        · rw [decide_eq_true hlp] at hls
          have hst1 := Lib.hid ((if_pos hlp).symm.trans hst.out)
          clear hlp hst
          cases hok : strOk x q with
          | true =>
            rw [hok] at hcall hst1 hstrict
            have hle := hstrict.out rfl
            have hst2 := Lib.hid ((if_pos rfl).symm.trans hst1.out)
            clear hok hstrict
            go_wp2_with fail
            refine hcall.out.mono ?_
            rintro e' w' ⟨rfl, rfl⟩
            go_wp2
            go_roundw
            case rel => exact ⟨i + 1, q + x.size, by omega, by go_num, by omega, hle, hst2.out, HB.out.put 2 _, grown_trans HG.out (grown_set _ _ _ _)⟩
            case measure => simp [intOf]; omega
          | false =>
            rw [hok] at hcall hst1
            have hst2 := Lib.hid ((if_neg (by decide)).symm.trans hst1.out)
            clear hok hstrict
            go_wp2_with fail
            refine hcall.out.mono ?_
            rintro e' w' ⟨rfl, rfl⟩
            go_wp2
            go_ret
            rw [← hst2.out]
            exact ⟨grown_trans HG.out (grown_set _ _ _ _), rfl⟩
        · rw [decide_eq_false hlp] at hls
          have hst1 := Lib.hid ((if_neg hlp).symm.trans hst.out)
          clear hlp hst hstrict
          go_wp2
          go_ret
          rw [← hst1.out]
          exact ⟨HG.out, rfl⟩
    · have hst := Lib.hid ((keysP_end (b := q) (by omega)).symm.trans HR.out)
      go_wp2
      go_ret
      rw [← hst.out]
      exact ⟨HG.out, rfl, HB.out⟩
end Go.Proofs.YtjafmdngbphacaaGreatDoor

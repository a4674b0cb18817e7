/- The contract of FromRunes, over the texts of the escapes. Merging values, plain. Facts for ArithMerge, plain: what a small value weighs, the elements that '-' leaves, lookups in a union. A canonical text is a valid string, and short where its value is small: plain. The wrap of a law whose row lists variables, the world's shape kept. Nothing of the program is named here. A value that came in as an argument. -/
import Derived.Test.YtfmpdcmedaiooaaGreatDoorU06
import Derived.Test.YtfmpdcmedaiooaaGreatDoorU41
import Derived.Test.YtfmpdcmedaiooaaGreatDoorU39
import Derived.Test.YtfmpdcmedaiooaaGreatDoorU38
import Derived.Test.YtfmpdcmedaiooaaGreatDoorU01
import Derived.Lib.AppendZerosOnto
import Derived.WalkSpells
import Derived.WalkLawsBesides
import Derived.Outline
import Derived.Deep.RegionHeld3
import Derived.Test.YtfmpdcmedaiooaaGreatDoorU30
import Derived.Test.YtfmpdcmedaiooaaGreatDoorU28
import Derived.Test.YtfmpdcmedaiooaaGreatDoorU31
import Derived.Shelf.Spec.SearchS
import Derived.Ground.Names2Prog
import Derived.Test.YtfmpdcmedaiooaaGreatDoorRows
import Derived.Lib.Hide
import Derived.Test.YtfmpdcmedaiooaaGreatDoorU40
import Derived.Test.YtfmpdcmedaiooaaGreatDoorU12
import Derived.Test.YtfmpdcmedaiooaaGreatDoorU18
import Derived.SizedLaws
import Derived.Handed
import Derived.HandedShaped
import Derived.Test.YtfmpdcmedaiooaaGreatDoorU36
set_option linter.unusedVariables false
set_option linter.unusedSimpArgs false
namespace Go.Proofs.YtfmpdcmedaiooaaGreatDoor
open Go.RowKit
set_option maxHeartbeats 1000000 in
theorem from_any (A : Option Addr) (c : Nat) (zs : List Int) (B : Nat) (w : World) (hr : Rd w B A (zvs zs)) (hB : B ≤ w.heap.size) (hlen : zs.length ≤ 16777216) :
    Calls Tryz.prog 24 #[.slice A zs.length c] w fun e w' => e = .returned (frV zs) ∧ Below w.heap.size w w' := by
  have HR := Lib.hid hr
  clear hr
  go_enter Tryz.func24, Tryz.ntmps24
  go_wp2
  go_loopw [4, 9] (fun v i wr => ∃ (k : Nat), k ≤ zs.length ∧ i = .int .i64 k ∧ wr.ownsRow w.heap.size 5 1 v (pre zs k).length (bv (pre zs k)) ∧ Below w.heap.size w wr ∧ Hid (∀ r ∈ zs.take k, cp r = true)) (fun _ i _ => zs.length - (intOf i).toNat)
  case atStart => exact ⟨0, Nat.zero_le _, rfl, by rw [pre_zero]; exact World.ownsRow_nil _ _ _ _, Below.refl _ _, Lib.hid (by simp)⟩
  case round =>
    obtain ⟨k, hk, rfl, hown0, hbel, hcp⟩ := hrel
    have hown := Lib.hid hown0
    have hpl := pre_len zs k
    clear hown0
    by_cases hlt : k < zs.length
    · obtain ⟨x, hx⟩ : ∃ x, zs[k]? = some x := ⟨_, List.getElem?_eq_getElem hlt⟩
      have HX := Lib.hid hx
      clear hx
      obtain ⟨b1, o1, rfl, hb1, hc1⟩ := HR.out.at_ (j := k) (u := .int .i64 x) (by simp [zvs, HX.out])
      have hc2 : wr.cell? ⟨b1, o1 + k, none⟩ = some (.int .i64 x) := (hbel.cell (show b1 < w.heap.size by omega)).trans hc1
      clear hc1
      cases hcx : cp x with
      | false =>
        have hv := Lib.hid (frV_false (allCp_bad HX.out hcx))
        go_wp2_with (go_at_call 34; refine (isCp _ _).mono ?_; rintro e w' ⟨rfl, rfl⟩)
        go_ret2
        exact ⟨congrArg Ending.returned hv.out.symm, hbel⟩
      | true =>
        have hxr := cp_range_int hcx
        go_wp2_with (first
          | (go_at_call 34; refine (isCp _ _).mono ?_; rintro e w' ⟨rfl, rfl⟩)
          | (go_at_call 35; refine (app_any _ x hxr.1 hxr.2 _ w.heap.size _ _ hown.out (by omega) hbel.size).mono ?_; rintro e w1 ⟨v1, rfl, hown1, hb1⟩))
        have hB2 := hbel.trans hb1
        clear hb1 hbel hc2
        go_roundw
        case rel => exact ⟨k + 1, by omega, by go_num, by rw [pre_succ zs k x HX.out, List.length_append, bv_append]; exact hown1, hB2, Lib.hid (mem_take_succ HX.out hcx hcp.out)⟩
        case measure => simp [intOf]; omega
    · have hv := Lib.hid (frV_true (allCp_done hlt hcp.out))
      have hcv := conv_own hown.out
      have hpa := Lib.hid (pre_all zs k hlt)
      go_wp2
      go_ret2
      exact ⟨congrArg Ending.returned (by rw [hv.out, ← hpa.out]; rfl), hbel⟩
end Go.Proofs.YtfmpdcmedaiooaaGreatDoor
namespace Go.Proofs.YtfmpdcmedaiooaaGreatDoor
/-- The object of a with this key, if e is an object as well. -/
def hit (ks : List ByteArray) (es : List V) (k : ByteArray) (e : V) : Option V :=
  match idxOf ks k with
  | none => none
  | some i => match es[i]? with
    | none => none
    | some x => if kd x = 6 ∧ kd e = 6 then some x else none
mutual
/-- The merge of two objects. -/
def mrg : V → V → V × Int
  | .mk _ _ _ ks es, .mk _ _ _ ks2 es2 =>
    if (mrgL ks es ks2 es2).2 = 0 then lim (objL (putL (ks.zip es) (ks2.zip (mrgL ks es ks2 es2).1))) else (vnull, (mrgL ks es ks2 es2).2)
/-- The elements behind the merge of those with one key. -/
def mrgL (ks : List ByteArray) (es : List V) : List ByteArray → List V → List V × Int
  | k :: ks2, e :: es2 =>
    match hit ks es k e with
    | none => (e :: (mrgL ks es ks2 es2).1, (mrgL ks es ks2 es2).2)
    | some x => if (mrg x e).2 = 0 then ((mrg x e).1 :: (mrgL ks es ks2 es2).1, (mrgL ks es ks2 es2).2) else ([], (mrg x e).2)
  | _, _ => ([], 0)
end
theorem mrg_eq (k n : Int) (s : ByteArray) (ks : List ByteArray) (es : List V) (k2 n2 : Int) (s2 : ByteArray) (ks2 : List ByteArray) (es2 : List V) :
    mrg (.mk k n s ks es) (.mk k2 n2 s2 ks2 es2) = if (mrgL ks es ks2 es2).2 = 0 then lim (objL (putL (ks.zip es) (ks2.zip (mrgL ks es ks2 es2).1))) else (vnull, (mrgL ks es ks2 es2).2) := by rw [mrg]
theorem mrgL_none {ks ks2 : List ByteArray} {es es2 : List V} {k : ByteArray} {e : V} (h : hit ks es k e = none) : mrgL ks es (k :: ks2) (e :: es2) = (e :: (mrgL ks es ks2 es2).1, (mrgL ks es ks2 es2).2) := by rw [mrgL, h]
theorem mrgL_some {ks ks2 : List ByteArray} {es es2 : List V} {k : ByteArray} {e x : V} (h : hit ks es k e = some x) (h0 : (mrg x e).2 = 0) : mrgL ks es (k :: ks2) (e :: es2) = ((mrg x e).1 :: (mrgL ks es ks2 es2).1, (mrgL ks es ks2 es2).2) := by rw [mrgL, h]; simp only [if_pos h0]
theorem mrgL_err {ks ks2 : List ByteArray} {es es2 : List V} {k : ByteArray} {e x : V} (h : hit ks es k e = some x) (h0 : ¬ (mrg x e).2 = 0) : mrgL ks es (k :: ks2) (e :: es2) = ([], (mrg x e).2) := by rw [mrgL, h]; simp only [if_neg h0]
theorem mrgL_nil (ks ks2 : List ByteArray) (es : List V) : mrgL ks es ks2 [] = ([], 0) := by cases ks2 <;> rw [mrgL] <;> simp
/-- A merge without an error is valid. -/
theorem mrg_valid {v u : V} (h : (mrg v u).2 = 0) : valid (mrg v u).1 = true := by
  obtain ⟨k, n, s, ks, es⟩ := v
  obtain ⟨k2, n2, s2, ks2, es2⟩ := u
  rw [mrg_eq] at h ⊢
  by_cases h0 : (mrgL ks es ks2 es2).2 = 0
  · rw [if_pos h0] at h ⊢
    have := finE_zero h
    show valid (finV _) = true
    rw [finV_ok this]
    exact this
  · rw [if_neg h0] at h
    exact absurd h h0
/-- Where the loop stands: the elements so far, and what is left. -/
structure MgP (ks : List ByteArray) (es : List V) (ks2 : List ByteArray) (es2 : List V) (i : Nat) (l : List V) : Prop where
  len : l.length = es2.length
  tail : l.drop i = es2.drop i
  ok : l.all valid = true
  res : mrgL ks es ks2 es2 = (l.take i ++ (mrgL ks es (ks2.drop i) (es2.drop i)).1, (mrgL ks es (ks2.drop i) (es2.drop i)).2)
namespace MgP
variable {ks ks2 : List ByteArray} {es es2 l : List V} {i : Nat} {k : ByteArray} {e x : V}
theorem start (h : es2.all valid = true) : MgP ks es ks2 es2 0 es2 := ⟨rfl, rfl, h, by simp⟩
theorem elem (h : MgP ks es ks2 es2 i l) (he : es2[i]? = some e) : l[i]? = some e := by
  have h1 := congrArg (fun x => x[0]?) h.tail
  simp only [List.getElem?_drop, Nat.add_zero, he] at h1
  exact h1
theorem drops (hk : ks2[i]? = some k) (he : es2[i]? = some e) : ks2.drop i = k :: ks2.drop (i + 1) ∧ es2.drop i = e :: es2.drop (i + 1) := by
  obtain ⟨h1, rfl⟩ := List.getElem?_eq_some_iff.1 hk
  obtain ⟨h2, rfl⟩ := List.getElem?_eq_some_iff.1 he
  exact ⟨List.drop_eq_getElem_cons h1, List.drop_eq_getElem_cons h2⟩
theorem skip (h : MgP ks es ks2 es2 i l) (hk : ks2[i]? = some k) (he : es2[i]? = some e) (hh : hit ks es k e = none) : MgP ks es ks2 es2 (i + 1) l := by
  obtain ⟨d1, d2⟩ := drops hk he
  have hl := h.elem he
  refine ⟨h.len, by rw [← List.drop_drop, h.tail, List.drop_drop], h.ok, ?_⟩
  rw [h.res, d1, d2, mrgL_none hh, List.take_add_one, hl]
  simp
theorem put (h : MgP ks es ks2 es2 i l) (hk : ks2[i]? = some k) (he : es2[i]? = some e) (hh : hit ks es k e = some x) (h0 : (mrg x e).2 = 0) : MgP ks es ks2 es2 (i + 1) (l.set i (mrg x e).1) := by
  obtain ⟨d1, d2⟩ := drops hk he
  have hi : i < l.length := by rw [h.len]; exact (List.getElem?_eq_some_iff.1 he).1
  refine ⟨by rw [List.length_set]; exact h.len, by rw [List.drop_set_of_lt (by omega), ← List.drop_drop, h.tail, List.drop_drop], ?_, ?_⟩
  · have := h.ok
    rw [List.all_eq_true] at this ⊢
    intro y hy
    rcases List.mem_or_eq_of_mem_set hy with hy | rfl
    · exact this y hy
    · exact mrg_valid h0
  · rw [h.res, d1, d2, mrgL_some hh h0, List.take_add_one, List.getElem?_set_self hi, List.take_set_of_le (Nat.le_refl _)]
    simp
theorem err (h : MgP ks es ks2 es2 i l) (hk : ks2[i]? = some k) (he : es2[i]? = some e) (hh : hit ks es k e = some x) (h0 : ¬ (mrg x e).2 = 0) : (mrgL ks es ks2 es2).2 = (mrg x e).2 := by
  obtain ⟨d1, d2⟩ := drops hk he
  rw [h.res, d1, d2, mrgL_err hh h0]
theorem fin (h : MgP ks es ks2 es2 es2.length l) : mrgL ks es ks2 es2 = (l, 0) := by
  have := h.len
  rw [h.res, List.drop_length, mrgL_nil, List.take_of_length_le (by omega), List.append_nil]
end MgP
end Go.Proofs.YtfmpdcmedaiooaaGreatDoor
namespace Go.Proofs.YtfmpdcmedaiooaaGreatDoor
theorem cntK_ge : ∀ (ks : List ByteArray) (m n : Int), n ≤ cntK ks m n ∧ (cntK ks m n ≤ m → n + (kb ks : Int) ≤ cntK ks m n)
  | [], m, n => by rw [cntK, kb]; exact ⟨Int.le_refl _, fun _ => by omega⟩
  | x :: ks, m, n => by
    rw [cntK, kb]
    by_cases h : n ≤ m
    · rw [if_pos h]
      obtain ⟨h1, h2⟩ := cntK_ge ks m (n + (1 + x.size))
      refine ⟨by omega, fun h3 => ?_⟩
      have := h2 h3
      omega
    · rw [if_neg h]
      exact ⟨Int.le_refl _, fun h3 => by omega⟩
theorem cntL_ge (es : List V) (ih : ∀ e ∈ es, ∀ m, 0 ≤ cnt e m ∧ (cnt e m ≤ m → (e.sz : Int) + (vbyt e : Int) ≤ cnt e m)) : ∀ (m n : Int), n ≤ cntL es m n ∧ (cntL es m n ≤ m → n + (V.szL es : Int) + (vbytL es : Int) ≤ cntL es m n) := by
  induction es with
  | nil => intro m n; rw [cntL, V.szL, vbytL]; exact ⟨Int.le_refl _, fun _ => by omega⟩
  | cons e r ihr =>
    intro m n
    rw [cntL, V.szL, vbytL]
    by_cases h : n ≤ m
    · rw [if_pos h]
      obtain ⟨a1, a2⟩ := ihr (fun x hx => ih x (by simp [hx])) m (n + cnt e (m - n))
      obtain ⟨b1, b2⟩ := ih e (by simp) (m - n)
      refine ⟨by omega, fun h3 => ?_⟩
      have h4 := a2 h3
      have h5 := b2 (by omega)
      omega
    · rw [if_neg h]
      exact ⟨Int.le_refl _, fun h3 => by omega⟩
theorem cnt_ge : ∀ (v : V) (m : Int), 0 ≤ cnt v m ∧ (cnt v m ≤ m → (v.sz : Int) + (vbyt v : Int) ≤ cnt v m) := by
  refine V.ind fun k n s ks es ih m => ?_
  rw [cnt, V.sz, vbyt]
  obtain ⟨a1, a2⟩ := cntK_ge ks m (1 + s.size)
  obtain ⟨b1, b2⟩ := cntL_ge es ih m (cntK ks m (1 + s.size))
  refine ⟨by omega, fun h => ?_⟩
  have h1 := b2 h
  have h2 := a2 (by omega)
  omega
/-- Whether an element is among others. -/
def inB (es : List V) (x : V) : Bool := es.any fun u => eqV x u
/-- How many of the first i elements are left. -/
def left (es gs : List V) (i : Nat) : Nat := ((es.take i).filter fun v => !inB gs v).length
end Go.Proofs.YtfmpdcmedaiooaaGreatDoor
namespace Go.Proofs.YtfmpdcmedaiooaaGreatDoor
open Go.RowKit Go.Sort
/-- A list of bytes that is made of code points. -/
def Ev (l : List UInt8) : Prop := ∃ ys : List Nat, encs ys = l ∧ ∀ r ∈ ys, cp (r : Int) = true
theorem ev_low {l : List UInt8} (h : ∀ c ∈ l, c.toNat < 128) : Ev l := low_encs l h
theorem ev_nil : Ev [] := ⟨[], rfl, fun r h => by cases h⟩
theorem ev_app {a b : List UInt8} (ha : Ev a) (hb : Ev b) : Ev (a ++ b) := by
  obtain ⟨x, rfl, h1⟩ := ha
  obtain ⟨y, rfl, h2⟩ := hb
  refine ⟨x ++ y, encs_append x y, fun r hr => ?_⟩
  rcases List.mem_append.1 hr with h | h
  · exact h1 r h
  · exact h2 r h
theorem ev_cons {c : UInt8} {l : List UInt8} (hc : c.toNat < 128) (h : Ev l) : Ev (c :: l) := ev_app (a := [c]) (ev_low (by simpa using hc)) h
theorem ev_okS {l : List UInt8} (h : Ev l) : okS ⟨l.toArray⟩ = true := by
  obtain ⟨ys, rfl, h⟩ := h
  unfold okS
  rw [show (⟨(encs ys).toArray⟩ : ByteArray).data.toList = encs ys from by simp, runes_encs h]
  rfl
theorem ev_qt {s : ByteArray} (h : okS s = true) : Ev (qt s.data.toList) := by
  obtain ⟨xs, h1, h2⟩ := okS_xs h
  rw [← h1]
  unfold qt
  exact ev_cons (by decide) (ev_app (text_encs xs h2) (ev_low (by simp)))
theorem ev_num (n : Int) : Ev (numL n) := by
  refine ev_low ?_
  obtain ⟨a1, -, -, -⟩ := magL_spec n.natAbs
  have h : ∀ b ∈ magL n.natAbs, b.toNat < 128 := fun b hb => by
    have := a1 b hb
    unfold digB at this
    simp at this
    omega
  unfold numL
  intro b hb
  split at hb
  · rcases List.mem_cons.1 hb with rfl | hb
    · decide
    · exact h b hb
  · exact h b hb
theorem ev_flat : ∀ {l : List (List UInt8)}, (∀ x ∈ l, Ev x) → Ev (l.flatMap (44 :: ·))
  | [], _ => ev_nil
  | x :: r, h => by
    rw [List.flatMap_cons]
    exact ev_app (ev_cons (by decide) (h x (by simp))) (ev_flat fun y hy => h y (by simp [hy]))
theorem ev_commas {l : List (List UInt8)} (h : ∀ x ∈ l, Ev x) : Ev (commas l) := by
  cases l with
  | nil => exact ev_nil
  | cons x r => exact ev_app (h x (by simp)) (ev_flat fun y hy => h y (by simp [hy]))
theorem good_more {k n : Int} {s : ByteArray} {ks : List ByteArray} {es : List V} (h : good (.mk k n s ks es) = true) : okS s = true ∧ ∀ x ∈ ks, okS x = true := by
  rw [good] at h
  simp only [Bool.and_eq_true] at h
  exact ⟨h.2.2.1, List.all_eq_true.1 (keysOk_all h.2.2.2.2.1).1⟩
theorem wr_ev : ∀ v : V, good v = true → Ev (wr v) := by
  refine V.ind fun k n s ks es ih hg => ?_
  obtain ⟨hf, hL⟩ := good_parts hg
  obtain ⟨ho, hk⟩ := good_more hg
  have he : ∀ e ∈ es, Ev (wr e) := fun e he => ih e he (goodL_memW hL he)
  rcases fits_kind hf with ⟨hk0, -, -, -, -⟩ | ⟨rfl, -, -, -⟩ | ⟨rfl, -, -, -⟩ | ⟨rfl, -, -, -⟩ | ⟨rfl, -, -, -⟩
  · rcases hk0 with rfl | rfl | rfl
    · rw [wr_null (by decide) (by decide) (by decide) (by decide) (by decide) (by decide)]; exact ev_low (by decide)
    · rw [wr_false]; exact ev_low (by decide)
    · rw [wr_true]; exact ev_low (by decide)
  · rw [wr_num]; exact ev_num n
  · rw [wr_str]; exact ev_qt ho
  · rw [wr_arr, wrM_eq]
    refine ev_cons (by decide) (ev_app (ev_commas fun x hx => ?_) (ev_low (by decide)))
    obtain ⟨e, h1, rfl⟩ := List.mem_map.1 hx
    exact he e h1
  · rw [wr_obj, mems_map]
    refine ev_cons (by decide) (ev_app (ev_commas fun x hx => ?_) (ev_low (by decide)))
    obtain ⟨⟨y, e⟩, h1, rfl⟩ := List.mem_map.1 hx
    have h2 := List.of_mem_zip h1
    exact ev_app (ev_qt (hk y h2.1)) (ev_cons (by decide) (he e h2.2))
/-- An array of numbers. -/
theorem nums_good : ∀ ps : List Int, goodL (ps.map numV) = true ∧ depL (ps.map numV) = 0 ∧ V.szL (ps.map numV) = ps.length ∧ vbytL (ps.map numV) = 0
  | [] => ⟨rfl, rfl, rfl, rfl⟩
  | x :: r => by
    obtain ⟨a, b, c, d⟩ := nums_good r
    have g := (valid_iff (numV x)).1 (valid_num x)
    rw [List.map_cons]
    refine ⟨?_, ?_, ?_, ?_⟩
    · rw [goodL, g.1, a]; rfl
    · rw [depL, b]; unfold numV; rw [dep]; simp
    · rw [V.szL, c]; unfold numV; rw [V.sz, V.szL]; simp; omega
    · rw [vbytL, d]
      unfold numV; rw [vbyt, vbytL]; simp [kb]; rfl
theorem arr_nums {ps : List Int} (hn : ps.length ≤ 1024) : valid (arrV (ps.map numV)) = true := by
  obtain ⟨a, b, c, d⟩ := nums_good ps
  have hz : (⟨#[]⟩ : ByteArray).size = 0 := rfl
  rw [valid_iff]
  unfold arrV
  refine ⟨?_, ?_, ?_, ?_⟩
  · rw [good, a]
    have h1 : fits 5 0 (⟨#[]⟩ : ByteArray) ([] : List ByteArray).length (ps.map numV).length = true := by unfold fits; simp; rfl
    rw [h1]
    have h2 : okS (⟨#[]⟩ : ByteArray) = true := by decide +kernel
    rw [h2]
    simp [keysOk]
    omega
  · rw [dep, b]; simp
  · rw [V.sz, c]; omega
  · rw [vbyt, kb, d]; simp; omega
theorem nums_val {ps : List Int} (hn : ps.length ≤ 1024) : arrR (ps.map numV) = arrV (ps.map numV) ∧ arrE (ps.map numV) = 0 := by
  have ha := arrR_ok (l := ps.map numV) (by rw [List.all_eq_true]; intro v hv; obtain ⟨x, _, rfl⟩ := List.mem_map.1 hv; exact valid_num x)
  rw [ha.1, ha.2, finV_ok (arr_nums hn), finE_ok (arr_nums hn)]
  exact ⟨rfl, rfl⟩
theorem rng_nrg : ∀ v, rng v → nrg v := by
  refine V.ind fun k n s ks es ih h => ?_
  rw [rng] at h
  rw [nrg]
  exact ⟨h.1, nrgL_iff.2 fun e he => ih e he (rngL_iff.1 h.2 e he)⟩
/-- The text of a small valid value: what it is, its length, and that it is read back. -/
theorem small_text {v : V} (hv : valid v = true) (hr : rng v) (hc : cnt v 100 ≤ 100) : ∃ t : ByteArray, t = ⟨(txt v).toArray⟩ ∧ t.size ≤ 2500 ∧ okS t = true ∧ jparse t.data.toList = some (v, ⟨t.size, 0, 0, v.sz, vbyt v⟩) := by
  obtain ⟨g1, g3, g4, g5⟩ := (valid_iff v).1 hv
  have ht : txt v = wr v := by unfold txt; rw [if_pos hv]
  have hl := wr_len v g1 hr
  have hn := (cnt_ge v 100).2 hc
  refine ⟨_, rfl, ?_, ?_, ?_⟩
  · rw [ht]; show (wr v).toArray.size ≤ _; simp; omega
  · rw [ht]; exact ev_okS (wr_ev v g1)
  · rw [ht]
    have := jparse_wr g1 (rng_nrg v hr) g3 g4 g5
    show jparse (wr v).toArray.toList = some (v, ⟨(wr v).toArray.size, 0, 0, v.sz, vbyt v⟩)
    simpa using this
end Go.Proofs.YtfmpdcmedaiooaaGreatDoor
namespace Go.Proofs.YtfmpdcmedaiooaaGreatDoor
section
variable {H : Type} {enc : TypeId × Value → H}
theorem returnsInHanded_and_shape {a : Assume} {C : Checked} {os : Os} {f : FuncId} {fn : Func} {s : ChangeSpec} {conds : List PathCond} {apart fresh handsOn again : Bool} {X : World → Array Value → Prop}
    (hX : ∀ (w w' : World) (args : Array Value), w.heap = w'.heap → X w args → X w' args)
    (own : ownKnob C.prog.godebug = none) (started : os.Started) (noInit : C.prog.inits.idxOf? f = none) (hfn : C.prog.funcs[f]? = some fn)
    (witness : ∃ (w : World) (tape : Tape) (i : Input), w.os = os ∧ (w.forCall tape i).Shaped C.prog ∧ i.vars = [] ∧ Input.okWide C.prog (w.forCall tape i) .any w.heap.size f i ∧
      ((s.pre enc C.prog fn conds apart (w.forCall tape i).memory i.args ∧ X (w.forCall tape i).memory i.args) ∧ sizedMet enc C.prog fn (OpenSpec.ofChange s) apart (w.forCall tape i).memory i.args) ∧ a.holds C.prog (lone (Frame.enter C.prog f i.args .normal) [] (w.forCall tape i)))
    (contract : ∀ (W : World) (base : Nat) (args : Array Value) (ds gs : List (DataW H)) (before : List MemPlace),
      (∀ (j : Nat) t v, fn.params[j]? = some t → args[j]? = some v → Value.okWide C.prog W .any base t v) →
      DataW.Whole enc C.prog fn.params.toList s.vars apart W args.toList ds gs before →
      (DataW.weightsEach C.prog (fn.params.toList ++ s.plain.varTypes C.prog) (ds ++ gs)).all (· ≤ reachBytes) = true → X W args → W.ShapedOpen C.prog →
      Calls C.prog f args W fun e W' => ∃ v, e = .returned v ∧ s.post enc C.prog fn apart fresh handsOn again W args v W') :
    ReturnsInHanded a C os f .any (fun w args => (s.pre enc C.prog fn conds apart w args ∧ X w args) ∧ sizedMet enc C.prog fn (OpenSpec.ofChange s) apart w args) (s.post enc C.prog fn apart fresh handsOn again) := by
  refine returnsInHanded_of_calls own started noInit witness ?_
  intro w tape i _ hsh _ hok hpre _
  obtain ⟨_, _, _, fn', hfn', _, _, _, _, hval⟩ := hok
  have e : fn' = fn := Option.some.inj (hfn'.symm.trans hfn)
  subst e
  obtain ⟨⟨⟨ds, gs, before, hw, _⟩, hx⟩, hz⟩ := hpre
  have hw' := DataW.Whole.of_heap (w' := w.forCall tape i) (by rfl) hw
  refine (contract (w.forCall tape i) w.heap.size i.args ds gs before hval hw' (hz.weights hw) (hX _ _ _ (by rfl) hx) hsh).mono fun e W' ⟨v, he, hp⟩ => ?_
  subst he
  exact ChangeSpec.post_blind hp
end
end Go.Proofs.YtfmpdcmedaiooaaGreatDoor
namespace Go.Proofs.YtfmpdcmedaiooaaGreatDoor
open Go.ChangeShapes Go.WideShapes Go.ChangeAt Go.RowKit Go.ChangeMaps
section
variable {H : Type} {enc : TypeId × Value → H} {w : World}
theorem slim_of {P : Program} {ts : List TypeId} {ds : List (DataW H)} (h : (DataW.weightsEach P ts ds).all (· ≤ reachBytes) = true) {j : Nat} {t : TypeId} {d : DataW H} (ht : ts[j]? = some t) (hd : ds[j]? = some d) : Slim P t d := by
  intro n hn
  have := List.all_eq_true.1 h _ (DataW.weights_mem_each ht hd n hn)
  have h2 := reachBytes_lt
  simp only [decide_eq_true_eq] at this
  omega
set_option maxRecDepth 100000 in
/-- A value that came in, its cells written out. -/
theorem open_value_arg {r : Reach} {b0 : Nat} {v : Value} {d : DataW H} {ps : List MemPlace} (hval : Value.okWide Tryz.prog w r b0 25 v) (h : DataW.Trod enc Tryz.prog w 0 (fun _ => true) true 25 v d ps) (hs : Slim Tryz.prog 25 d) :
    ∃ (u : V) (cs : List Value), v = .agg cs.toArray ∧ Lies w (· < w.heap.size) u cs := by
  obtain ⟨f0, f1, f2, f3, f4, hU, -⟩ := struct_value
  obtain ⟨cs, rfl, -⟩ := okWide_struct hU hval
  obtain ⟨u, hu⟩ := open_value h hs
  exact ⟨u, cs.toList, by simp, by simpa [Value.cells] using hu⟩
end
end Go.Proofs.YtfmpdcmedaiooaaGreatDoor

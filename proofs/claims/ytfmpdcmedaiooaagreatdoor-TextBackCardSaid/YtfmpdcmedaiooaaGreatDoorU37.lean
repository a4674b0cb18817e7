/- jsonwrite's appendComma, appendArray, appendObject and appendValue, onto a row of the call's own. -/
import Derived.Test.YtfmpdcmedaiooaaGreatDoorU36
import Derived.Test.YtfmpdcmedaiooaaGreatDoorU15
import Derived.Test.YtfmpdcmedaiooaaGreatDoorU12
import Derived.Outline
set_option linter.unusedVariables false
set_option linter.unusedSimpArgs false
namespace Go.Proofs.YtfmpdcmedaiooaaGreatDoor
open Go.RowKit
def sepL (i : Nat) : List UInt8 := if i = 0 then [] else [44]
set_option maxHeartbeats 4000000 in
set_option maxRecDepth 100000 in
theorem comma_any (i : Nat) (hi64 : i ≤ 1073741824) (base n c : Nat) (A : Option Addr) (out : List UInt8) (w : World) (hown : w.ownsRow base 5 1 (.slice A n c) n (bv out)) (hb : base ≤ w.heap.size) (hn : n ≤ 268435456) :
    Calls Tryz.prog 101 #[.slice A n c, .int .i64 i] w (AppB base w (.slice A n c) (out ++ sepL i)) := by
  obtain ⟨i0, hi, hz0, hz1, hz2⟩ := info_parts inf_u8
  have HO := Lib.hid hown
  clear hown
  by_cases h0 : i = 0
  · subst h0
    have e : Hid (out ++ sepL 0 = out) := Lib.hid (by simp [sepL])
    rw [e.out]
    go_enter Tryz.func101, Tryz.ntmps101
    go_wp2
    go_ret
    exact ⟨A, n, c, rfl, HO.out, App.refl _ _⟩
  · have e : Hid (sepL i = [44]) := Lib.hid (by simp [sepL, h0])
    rw [e.out]
    have q0 : ((i : Int) == 0) = false := beq_eq_false_iff_ne.2 (by omega)
    have H44 : Hid (([.int .u8 (44)] : List Value) = bv [44]) := Lib.hid rfl
    go_enter Tryz.func101, Tryz.ntmps101
    go_wp2_with (at_builtin; refine wpList_app_cells _ rfl _ _ 55 rfl base 5 i0 (.int .u8 0) Tryz.underlying55 hi hz0 hz1 hz2 rfl (.slice A n c) n (bv out) rfl (HO.out.alloc _) ⟨w.heap.size, 0, none⟩ 1 1 [.int .u8 (44)] rfl rfl (new_cells w 5 [.int .u8 (44)]) (by omega) (by simp; omega) (bv [44]) H44.out (bv_one _) ?_; intro A2 c2 w2 hown2 happ2; rw [← bv_append] at hown2; replace happ2 := happ2.pre (Below.alloc (Below.refl _ _) (Nat.le_refl _) _))
    go_ret
    exact ⟨A2, _, c2, rfl, hown2, happ2⟩
/-- What appendValue does to a value. -/
def ValOk (v : V) : Prop := ∀ (base n c : Nat) (A : Option Addr) (out : List UInt8) (w : World) (cs : List Value), w.ownsRow base 5 1 (.slice A n c) n (bv out) → base ≤ w.heap.size → Lies w (· < base) v cs → n + (wr v).length ≤ 16000000 → TabB base w →
  Calls Tryz.prog 45 #[.slice A n c, .agg cs.toArray] w (AppC base w (out ++ wr v))
theorem own_off {w : World} {base n : Nat} {e : TypeId} {v : Value} {xs : List Value} (h : w.ownsRow base e 1 v n xs) : v.ownBlock ≠ some w.heap.size := fun e => by have := (h.lt _ e).2; omega
theorem rs_on {w w' : World} {base : Nat} {A : Option Addr} {xs : List Value} (h : Rs w (· < base) A xs) (hb : Below base w w') : Rs w' (· < base) A xs := h.move fun b hlt => ⟨hlt, hb.block b hlt⟩
theorem step_len {l : List (List UInt8)} {i : Nat} {x out out0 : List UInt8} {z : UInt8} {n : Nat} (hx : l[i]? = some x) (ho : out = out0 ++ z :: commas (l.take i)) : out ++ sepL i ++ x = out0 ++ z :: commas (l.take (i + 1)) := by
  rw [ho, piece hx]
  simp [sepL]
theorem part_len {l : List (List UInt8)} {j : Nat} {out out0 : List UInt8} {z : UInt8} {n m : Nat} (ho : out = out0 ++ z :: commas (l.take j)) (h0 : out0.length = n) (hm : n + (z :: (commas l ++ [0])).length ≤ m) : out.length + 1 ≤ m := by
  have := commas_take_le l j
  rw [ho, List.length_append, List.length_cons]
  simp at hm
  omega
set_option maxHeartbeats 8000000 in
set_option maxRecDepth 100000 in
theorem arr_app (es : List V) (ih : ∀ e ∈ es, ValOk e) (base n c : Nat) (A : Option Addr) (out0 : List UInt8) (w : World) (B : Option Addr) (bc : Nat) (xs : List Value) (hown : w.ownsRow base 5 1 (.slice A n c) n (bv out0)) (hbase : base ≤ w.heap.size)
    (hB : Rs w (· < base) B xs) (hL : LiesL w (· < base) es xs) (hlen : n + (91 :: (commas (wrM es) ++ [93])).length ≤ 16000000) (hel : es.length ≤ 1000000) (ht : TabB base w) :
    Calls Tryz.prog 72 #[.slice A n c, .slice B es.length bc] w (AppC base w (out0 ++ 91 :: (commas (wrM es) ++ [93]))) := by
  obtain ⟨i0, hi, hz0, hz1, hz2⟩ := info_parts inf_u8
  have HO0 := Lib.hid hown
  have HT := Lib.hid ht
  have HB := Lib.hid hB
  have HL := Lib.hid hL
  have IH := Lib.hid ih
  have HLEN := Lib.hid hlen
  have hn0 : n ≤ 16000000 := by omega
  have HN0 := Lib.hid (own_len hown)
  clear hown ht hB hL ih hlen
  have H91 : Hid (([.int .u8 (91)] : List Value) = bv [91]) := Lib.hid rfl
  have H93 : Hid (([.int .u8 (93)] : List Value) = bv [93]) := Lib.hid rfl
  go_enter Tryz.func72, Tryz.ntmps72
  go_wp2_with (at_builtin; refine wpList_app_cells _ rfl _ _ 55 rfl base 5 i0 (.int .u8 0) Tryz.underlying55 hi hz0 hz1 hz2 rfl (.slice A n c) n (bv out0) rfl (HO0.out.alloc _) ⟨w.heap.size, 0, none⟩ 1 1 [.int .u8 (91)] rfl rfl (new_cells w 5 [.int .u8 (91)]) (by omega) (by simp; omega) (bv [91]) H91.out (bv_one _) ?_; intro A2 c2 w2 hown2 happ2; rw [← bv_append] at hown2; replace happ2 := (happ2.pre (Below.alloc (Below.refl _ _) (Nat.le_refl _) _)).below (base := base) (by omega) (own_ge HO0.out))
  go_loopw [0, 5, 6, 12] (fun tb _ _ ti wr => ∃ (A' : Option Addr) (c' m i : Nat) (out : List UInt8), tb = .slice A' m c' ∧ ti = .int .i64 i ∧ wr.ownsRow base 5 1 (.slice A' m c') m (bv out) ∧ Below base w wr ∧ i ≤ es.length ∧ Hid (out = out0 ++ 91 :: commas ((wrM es).take i))) (fun _ _ _ ti _ => es.length - (intOf ti).toNat)
  case atStart => exact ⟨A2, c2, _, 0, _, rfl, rfl, hown2, happ2, Nat.zero_le _, Lib.hid (by simp [commas])⟩
  case round =>
    clear hown2 happ2
    obtain ⟨A', c', m, i, out, rfl, rfl, hown, hbel, hil, HOU⟩ := hrel
    have HO := Lib.hid hown
    have HBE := Lib.hid hbel
    have hbw : base ≤ wr.heap.size := Nat.le_trans hbase hbel.size
    have hm16 : m + 1 ≤ 16000000 := by
      have h1 := own_len hown
      have h2 := part_len (n := n) (m := 16000000) HOU.out HN0.out (by have := HLEN.out; simpa using this)
      omega
    clear hown hbel
    by_cases hlt : i < es.length
    · obtain ⟨e, he⟩ : ∃ e, es[i]? = some e := ⟨_, List.getElem?_eq_getElem hlt⟩
      have hstep := step_len (n := n) (wrM_at he) HOU.out
      have hlast := part_len (n := n) (m := 16000000) (j := i + 1) hstep HN0.out (by have := HLEN.out; simpa using this)
      have hval := IH.out e (List.mem_of_getElem? he)
      obtain ⟨k', n', s', ks', fs'⟩ := e
      obtain ⟨b0, o0, A3, a3, C3, c3, hBe, hS, hl5, p0, p1, p2, p3, p4⟩ := elem_open HB.out HL.out he
      subst hBe
      have hS' : b0 < base := hS
      have q0 := (HBE.out.cell (p := ⟨b0, o0 + i * 5, none⟩) hS').trans p0
      have q1 := (HBE.out.cell (p := ⟨b0, o0 + i * 5 + 1, none⟩) hS').trans p1
      have q2 := (HBE.out.cell (p := ⟨b0, o0 + i * 5 + 2, none⟩) hS').trans p2
      have q3 := (HBE.out.cell (p := ⟨b0, o0 + i * 5 + 3, none⟩) hS').trans p3
      have q4 := (HBE.out.cell (p := ⟨b0, o0 + i * 5 + 4, none⟩) hS').trans p4
      have HST := Lib.hid hstep
      have HLA := Lib.hid hlast
      have HVAL := Lib.hid hval
      have HL5 := Lib.hid hl5
      have hbs : b0 < wr.heap.size := Nat.lt_of_lt_of_le hS' hbw
      have hi31 : i ≤ 1073741824 := by omega
      clear p0 p1 p2 p3 p4 he hstep hlast hval hl5 hS hS'
      generalize V.mk k' n' s' ks' fs' = e at HST HLA HVAL HL5
      generalize ks'.length = lk at HL5 q3
      generalize fs'.length = lf at HL5 q4
      go_wp2_with (first
        | (go_at_call 101; (refine (comma_any i hi31 base m c' A' out _ (HO.out.alloc _) (by simp; omega) (by omega)).mono ?_); rintro e1 w1 ⟨A1, n1, c1, rfl, hown1, happ1⟩; have hbx1 := happ1.box (Box.laid wr 25 #[.int .i64 k', .int .i64 n', .string s', .slice A3 lk a3, .slice C3 lf c3]) (own_off HO.out); have HB1 := Lib.hid (HBE.out.trans ((happ1.pre (Below.alloc (Below.refl _ _) (Nat.le_refl _) _)).below hbw (own_ge HO.out))); have HO1 := Lib.hid hown1; have HN1 : Hid (n1 + (Go.Proofs.YtfmpdcmedaiooaaGreatDoor.wr e).length ≤ 16000000) := Lib.hid (by have h1 := own_len hown1; have h2 := HLA.out; rw [List.length_append] at h2; omega); obtain ⟨t0, t1, t2, t3, t4⟩ := box5 hbx1; clear q0 q1 q2 q3 q4 hown1 happ1 hbx1)
        | (go_at_call 45; (refine (HVAL.out base n1 c1 A1 _ _ [.int .i64 k', .int .i64 n', .string s', .slice A3 lk a3, .slice C3 lf c3] HO1.out (Nat.le_trans hbase HB1.out.size) (HL5.out.below HB1.out) HN1.out (HT.out.on HB1.out)).mono ?_); rintro e2 w2 ⟨A2, n2, c2, rfl, hown2, hbel2⟩; have HO2 := Lib.hid hown2; have HB2 := Lib.hid (HB1.out.trans hbel2); clear hown2 hbel2 t0 t1 t2 t3 t4))
      go_roundw
      case rel => exact ⟨A2, c2, n2, i + 1, _, rfl, by first | rfl | go_num, HO2.out, HB2.out, by omega, HST⟩
      case measure => simp [intOf]; omega
    · have hie : i = es.length := by omega
      have hfull : out ++ [93] = out0 ++ 91 :: (commas (wrM es) ++ [93]) := by
        have h := HOU.out
        rw [hie, ← wrM_len, List.take_length] at h
        rw [h]
        simp
      have HF := Lib.hid hfull
      subst hie
      clear hfull
      go_wp2_with (at_builtin; refine wpList_app_cells _ rfl _ _ 55 rfl base 5 i0 (.int .u8 0) Tryz.underlying55 hi hz0 hz1 hz2 rfl (.slice A' m c') m (bv out) rfl (HO.out.alloc _) ⟨wr.heap.size, 0, none⟩ 1 1 [.int .u8 (93)] rfl rfl (new_cells wr 5 [.int .u8 (93)]) (by omega) (by simp; omega) (bv [93]) H93.out (bv_one _) ?_; intro A2 c2 w2 hown2 happ2; rw [← bv_append] at hown2; replace happ2 := (happ2.pre (Below.alloc (Below.refl _ _) (Nat.le_refl _) _)).below (base := base) (by omega) (own_ge HO.out))
      go_ret
      rw [HF.out] at hown2
      exact ⟨A2, _, c2, rfl, hown2, HBE.out.trans happ2⟩
theorem liesL_on {w w' : World} {base : Nat} {es : List V} {xs : List Value} (h : LiesL w (· < base) es xs) (hb : Below base w w') : LiesL w' (· < base) es xs := h.move fun b hlt => ⟨hlt, hb.block b hlt⟩
set_option maxHeartbeats 8000000 in
set_option maxRecDepth 100000 in
theorem obj_app (ks : List ByteArray) (es : List V) (hke : ks.length = es.length) (ih : ∀ e ∈ es, ValOk e) (base n c : Nat) (A : Option Addr) (out0 : List UInt8) (w : World) (K B : Option Addr) (kc bc : Nat) (xs : List Value) (hown : w.ownsRow base 5 1 (.slice A n c) n (bv out0)) (hbase : base ≤ w.heap.size)
    (hK : Rs w (· < base) K (kv ks)) (hB : Rs w (· < base) B xs) (hL : LiesL w (· < base) es xs) (hlen : n + (123 :: (commas (mems ks es) ++ [125])).length ≤ 16000000) (hel : es.length ≤ 1000000) (ht : TabB base w) :
    Calls Tryz.prog 73 #[.slice A n c, .slice K ks.length kc, .slice B es.length bc] w (AppC base w (out0 ++ 123 :: (commas (mems ks es) ++ [125]))) := by
  obtain ⟨i0, hi, hz0, hz1, hz2⟩ := info_parts inf_u8
  have HO0 := Lib.hid hown
  have HT := Lib.hid ht
  have HK := Lib.hid hK
  have HB := Lib.hid hB
  have HL := Lib.hid hL
  have IH := Lib.hid ih
  have HLEN := Lib.hid hlen
  have hn0 : n ≤ 16000000 := by omega
  have HN0 := Lib.hid (own_len hown)
  have HKE := Lib.hid hke
  obtain ⟨q, hq⟩ : ∃ q, ks.length = q := ⟨_, rfl⟩
  have HQ := Lib.hid hq
  have hqe : q ≤ 1000000 := by omega
  have HQE : Hid (es.length = q) := Lib.hid (by omega)
  rw [hq, HQE.out]
  clear hown ht hK hB hL ih hlen hq hke hel
  have H123 : Hid (([.int .u8 (123)] : List Value) = bv [123]) := Lib.hid rfl
  have H125 : Hid (([.int .u8 (125)] : List Value) = bv [125]) := Lib.hid rfl
  have H58 : Hid (([.int .u8 (58)] : List Value) = bv [58]) := Lib.hid rfl
  go_enter Tryz.func73, Tryz.ntmps73
  go_wp2_with (at_builtin; refine wpList_app_cells _ rfl _ _ 55 rfl base 5 i0 (.int .u8 0) Tryz.underlying55 hi hz0 hz1 hz2 rfl (.slice A n c) n (bv out0) rfl (HO0.out.alloc _) ⟨w.heap.size, 0, none⟩ 1 1 [.int .u8 (123)] rfl rfl (new_cells w 5 [.int .u8 (123)]) (by omega) (by simp; omega) (bv [123]) H123.out (bv_one _) ?_; intro A2 c2 w2 hown2 happ2; rw [← bv_append] at hown2; replace happ2 := (happ2.pre (Below.alloc (Below.refl _ _) (Nat.le_refl _) _)).below (base := base) (by omega) (own_ge HO0.out))
  go_loopw [0, 7, 8, 14] (fun tb _ _ ti wr => ∃ (A' : Option Addr) (c' m i : Nat) (out : List UInt8), tb = .slice A' m c' ∧ ti = .int .i64 i ∧ wr.ownsRow base 5 1 (.slice A' m c') m (bv out) ∧ Below base w wr ∧ i ≤ q ∧ Hid (out = out0 ++ 123 :: commas ((mems ks es).take i))) (fun _ _ _ ti _ => q - (intOf ti).toNat)
  case atStart => exact ⟨A2, c2, _, 0, _, rfl, rfl, hown2, happ2, Nat.zero_le _, Lib.hid (by simp [commas])⟩
  case round =>
    clear hown2 happ2
    obtain ⟨A', c', m, i, out, rfl, rfl, hown, hbel, hil, HOU⟩ := hrel
    have HO := Lib.hid hown
    have HBE := Lib.hid hbel
    have hbw : base ≤ wr.heap.size := Nat.le_trans hbase hbel.size
    have hm16 : m + 1 ≤ 16000000 := by
      have h1 := own_len hown
      have h2 := part_len (n := n) (m := 16000000) HOU.out HN0.out (by have := HLEN.out; simpa using this)
      omega
    clear hown hbel
    by_cases hlt : i < q
    · obtain ⟨e, he⟩ : ∃ e, es[i]? = some e := ⟨_, List.getElem?_eq_getElem (by have := HQE.out; omega)⟩
      obtain ⟨x, hx⟩ : ∃ x, ks[i]? = some x := ⟨_, List.getElem?_eq_getElem (by have := HQ.out; omega)⟩
      have hstep := step_len (n := n) (mems_at hx he) HOU.out
      have hlast := part_len (n := n) (m := 16000000) (j := i + 1) hstep HN0.out (by have := HLEN.out; simpa using this)
      have hstep2 : out ++ sepL i ++ qt x.data.toList ++ [58] ++ Go.Proofs.YtfmpdcmedaiooaaGreatDoor.wr e = out0 ++ 123 :: commas ((mems ks es).take (i + 1)) := by rw [← hstep, mem]; simp
      have hval := IH.out e (List.mem_of_getElem? he)
      obtain ⟨b1, o1, hKe, hS1, hkc⟩ := HK.out.at_ (kv_at hx)
      subst hKe
      have hS1' : b1 < base := hS1
      have qk := (HBE.out.cell (p := ⟨b1, o1 + i, none⟩) hS1').trans hkc
      obtain ⟨k', n', s', ks', fs'⟩ := e
      obtain ⟨b0, o0, A3, a3, C3, c3, hBe, hS, hl5, p0, p1, p2, p3, p4⟩ := elem_open HB.out HL.out he
      subst hBe
      have hS' : b0 < base := hS
      have hx2 := (qt_len x.data.toList).1
      rw [show x.data.toList.length = x.size from by simp] at hx2
      have hl9 : out.length + (sepL i).length + (qt x.data.toList).length + 1 + (Go.Proofs.YtfmpdcmedaiooaaGreatDoor.wr (V.mk k' n' s' ks' fs')).length ≤ 16000000 := by
        have h1 := hlast
        rw [mem] at h1
        simp only [List.length_append, List.length_cons] at h1
        omega
      have hxs : x.size ≤ 16777216 := by omega
      have hsz5 : ks'.length = ks'.length := rfl
      have HST := Lib.hid hstep2
      have HLA := Lib.hid hl9
      have HVAL := Lib.hid hval
      have HL5 := Lib.hid hl5
      have HS := Lib.hid hS'
      have hi31 : i ≤ 1073741824 := by omega
      clear hstep hstep2 hlast hval hl5 hS hS' hkc hl9 hx2 he hx
      generalize V.mk k' n' s' ks' fs' = e at HST HLA HVAL HL5
      generalize ks'.length = lk at HL5 p3
      generalize fs'.length = lf at HL5 p4
      have HP := Lib.hid (show _ ∧ _ ∧ _ ∧ _ ∧ _ from ⟨p0, p1, p2, p3, p4⟩)
      clear p0 p1 p2 p3 p4
      go_wp2_with (first
        | (go_at_call 101; (refine (comma_any i hi31 base m c' A' out _ HO.out hbw (by omega)).mono ?_); rintro e1 w1 ⟨A1, n1, c1, rfl, hown1, happ1⟩; have HB1 := Lib.hid (HBE.out.trans (happ1.below hbw (own_ge HO.out))); have HO1 := Lib.hid hown1; have hl1 := own_len hown1; have hl1' := HLA.out; rw [List.length_append] at hl1; have hn1 : n1 ≤ 16000000 := (by omega); clear qk hown1 happ1 hl1 hl1')
        | (go_at_call 71; (refine (wstring_any x hxs base n1 c1 A1 _ w1 HO1.out (Nat.le_trans hbase HB1.out.size) (by omega) (HT.out.on HB1.out)).mono ?_); rintro e2 w2 ⟨A2, n2, c2, rfl, hown2, hbel2⟩; have HB2 := Lib.hid (HB1.out.trans hbel2); have HO2 := Lib.hid hown2; have hl1 := own_len hown2; have hl1' := HLA.out; rw [List.length_append, List.length_append] at hl1; have hn2 : n2 ≤ 16000000 := (by omega); have hle2 : base ≤ w2.heap.size := Nat.le_trans hbase HB2.out.size; clear hown2 hbel2 hl1 hl1')
        | (at_builtin; refine wpList_app_cells _ rfl _ _ 55 rfl base 5 i0 (.int .u8 0) Tryz.underlying55 hi hz0 hz1 hz2 rfl (.slice A2 n2 c2) n2 _ rfl (HO2.out.alloc _) ⟨w2.heap.size, 0, none⟩ 1 1 [.int .u8 (58)] rfl rfl (new_cells w2 5 [.int .u8 (58)]) (by omega) (by simp; omega) (bv [58]) H58.out (bv_one _) ?_; intro A3b c3b w3 hown3 happ3; rw [← bv_append] at hown3; replace happ3 := (happ3.pre (Below.alloc (Below.refl _ _) (Nat.le_refl _) _)).below (base := base) (by omega) (own_ge HO2.out); have HB3 := Lib.hid (HB2.out.trans happ3); have HO3 := Lib.hid hown3; obtain ⟨p0, p1, p2, p3, p4⟩ := HP.out; have hS' := HS.out; have t0 := (HB3.out.cell (p := ⟨b0, o0 + i * 5, none⟩) hS').trans p0; have t1 := (HB3.out.cell (p := ⟨b0, o0 + i * 5 + 1, none⟩) hS').trans p1; have t2 := (HB3.out.cell (p := ⟨b0, o0 + i * 5 + 2, none⟩) hS').trans p2; have t3 := (HB3.out.cell (p := ⟨b0, o0 + i * 5 + 3, none⟩) hS').trans p3; have t4 := (HB3.out.cell (p := ⟨b0, o0 + i * 5 + 4, none⟩) hS').trans p4; have hl1 := own_len hown3; have hl1' := HLA.out; rw [List.length_append, List.length_append, List.length_append, List.length_singleton] at hl1; have HN3 : Hid (n2 + 1 + (Go.Proofs.YtfmpdcmedaiooaaGreatDoor.wr e).length ≤ 16000000) := Lib.hid (by omega); clear hown3 happ3 p0 p1 p2 p3 p4 hS' hl1 hl1')
        | (go_at_call 45; (refine (HVAL.out base _ c3b A3b _ _ [.int .i64 k', .int .i64 n', .string s', .slice A3 lk a3, .slice C3 lf c3] HO3.out (Nat.le_trans hbase HB3.out.size) (HL5.out.below HB3.out) HN3.out (HT.out.on HB3.out)).mono ?_); rintro e4 w4 ⟨A4, n4, c4, rfl, hown4, hbel4⟩; have HO4 := Lib.hid hown4; have HB4 := Lib.hid (HB3.out.trans hbel4); clear hown4 hbel4 t0 t1 t2 t3 t4))
      go_roundw
      case rel => exact ⟨A4, c4, n4, i + 1, _, rfl, by first | rfl | go_num, HO4.out, HB4.out, by omega, HST⟩
      case measure => simp [intOf]; omega
    · have hie : i = q := by omega
      have hfull : out ++ [125] = out0 ++ 123 :: (commas (mems ks es) ++ [125]) := by
        have h := HOU.out
        have hl := mems_len HKE.out
        have hq2 := HQE.out
        rw [hie, List.take_of_length_le (by omega)] at h
        rw [h]
        simp
      have HF := Lib.hid hfull
      subst hie
      clear hfull
      go_wp2_with (at_builtin; refine wpList_app_cells _ rfl _ _ 55 rfl base 5 i0 (.int .u8 0) Tryz.underlying55 hi hz0 hz1 hz2 rfl (.slice A' m c') m (bv out) rfl (HO.out.alloc _) ⟨wr.heap.size, 0, none⟩ 1 1 [.int .u8 (125)] rfl rfl (new_cells wr 5 [.int .u8 (125)]) (by omega) (by simp; omega) (bv [125]) H125.out (bv_one _) ?_; intro A2 c2 w2 hown2 happ2; rw [← bv_append] at hown2; replace happ2 := (happ2.pre (Below.alloc (Below.refl _ _) (Nat.le_refl _) _)).below (base := base) (by omega) (own_ge HO.out))
      go_ret
      rw [HF.out] at hown2
      exact ⟨A2, _, c2, rfl, hown2, HBE.out.trans happ2⟩
set_option maxHeartbeats 8000000 in
set_option maxRecDepth 100000 in
theorem val_app : ∀ v : V, good v = true → rng v → ValOk v := by
  refine V.ind fun k n' s ks es ih hg hr base n c A out0 w cs hown hb hl hlen ht => ?_
  obtain ⟨hf, hL⟩ := good_parts hg
  have hel : es.length ≤ 1000000 := by
    rw [good] at hg
    simp only [Bool.and_eq_true, decide_eq_true_eq] at hg
    omega
  rw [rng, rngL_iff] at hr
  have IH := Lib.hid (fun e (he : e ∈ es) => ih e he (goodL_memW hL he) (hr.2 e he))
  obtain ⟨hr1, hr2⟩ := hr.1
  obtain ⟨K, a, B, bb, xs, rfl, _, _, _, _, hRK, hRB, hLL⟩ := lies_open hl
  obtain ⟨i0, hi, hz0, hz1, hz2⟩ := info_parts inf_u8
  have HO0 := Lib.hid hown
  have HT := Lib.hid ht
  have HRK := Lib.hid hRK
  have HRB := Lib.hid hRB
  have HLL := Lib.hid hLL
  have hn16 : n ≤ 16000000 := by omega
  have HLEN := Lib.hid hlen
  have HF := Lib.hid (fits_kind hf)
  have HAB := Lib.hid (fun (o : Obj) => Below.alloc (Below.refl base w) hb o)
  clear hown ht hRK hRB hLL ih hg hf hL hr hl hlen
  show Calls _ _ #[.slice A n c, .agg #[.int .i64 k, .int .i64 n', .string s, .slice K ks.length a, .slice B es.length bb]] w _
  rcases HF.out with ⟨hk, h1, h2, h3, h4⟩ | ⟨rfl, -, -, -⟩ | ⟨rfl, -, -, -⟩ | ⟨rfl, -, -, -⟩ | ⟨rfl, -, -, h4⟩
  · clear HF HLEN h1 h2 h3 h4
    rcases hk with rfl | rfl | rfl
    · skip
      have HSZ : Hid ((⟨#[110, 117, 108, 108]⟩ : ByteArray).size = 4) := Lib.hid rfl
      have HQV : Hid (Lib.strCells ⟨#[110, 117, 108, 108]⟩ = bv [110, 117, 108, 108]) := Lib.hid rfl
      rw [wr_null (by decide) (by decide) (by decide) (by decide) (by decide) (by decide)]
      go_enter Tryz.func45, Tryz.ntmps45
      go_wp2_with (at_builtin; refine wpList_app_string _ rfl _ _ 55 9 rfl base 5 i0 Tryz.underlying55 Tryz.underlying9 hi hz0 hz1 hz2 (.slice A n c) n (bv out0) rfl (HO0.out.alloc _) ⟨#[110, 117, 108, 108]⟩ rfl (by rw [HSZ.out]; omega) (by simp; omega) 4 (bv [110, 117, 108, 108]) HSZ.out HQV.out ?_; intro A2 c2 w2 hown2 happ2; rw [← bv_append] at hown2; replace happ2 := happ2.below (base := base) (by simp; omega) (own_ge HO0.out))
      go_ret
      exact ⟨A2, _, c2, rfl, hown2, (Below.alloc (Below.refl _ _) hb _).trans happ2⟩
    · skip
      have HSZ : Hid ((⟨#[102, 97, 108, 115, 101]⟩ : ByteArray).size = 5) := Lib.hid rfl
      have HQV : Hid (Lib.strCells ⟨#[102, 97, 108, 115, 101]⟩ = bv [102, 97, 108, 115, 101]) := Lib.hid rfl
      rw [wr_false]
      go_enter Tryz.func45, Tryz.ntmps45
      go_wp2_with (at_builtin; refine wpList_app_string _ rfl _ _ 55 9 rfl base 5 i0 Tryz.underlying55 Tryz.underlying9 hi hz0 hz1 hz2 (.slice A n c) n (bv out0) rfl (HO0.out.alloc _) ⟨#[102, 97, 108, 115, 101]⟩ rfl (by rw [HSZ.out]; omega) (by simp; omega) 5 (bv [102, 97, 108, 115, 101]) HSZ.out HQV.out ?_; intro A2 c2 w2 hown2 happ2; rw [← bv_append] at hown2; replace happ2 := happ2.below (base := base) (by simp; omega) (own_ge HO0.out))
      go_ret
      exact ⟨A2, _, c2, rfl, hown2, (Below.alloc (Below.refl _ _) hb _).trans happ2⟩
    · skip
      have HSZ : Hid ((⟨#[116, 114, 117, 101]⟩ : ByteArray).size = 4) := Lib.hid rfl
      have HQV : Hid (Lib.strCells ⟨#[116, 114, 117, 101]⟩ = bv [116, 114, 117, 101]) := Lib.hid rfl
      rw [wr_true]
      go_enter Tryz.func45, Tryz.ntmps45
      go_wp2_with (at_builtin; refine wpList_app_string _ rfl _ _ 55 9 rfl base 5 i0 Tryz.underlying55 Tryz.underlying9 hi hz0 hz1 hz2 (.slice A n c) n (bv out0) rfl (HO0.out.alloc _) ⟨#[116, 114, 117, 101]⟩ rfl (by rw [HSZ.out]; omega) (by simp; omega) 4 (bv [116, 114, 117, 101]) HSZ.out HQV.out ?_; intro A2 c2 w2 hown2 happ2; rw [← bv_append] at hown2; replace happ2 := happ2.below (base := base) (by simp; omega) (own_ge HO0.out))
      go_ret
      exact ⟨A2, _, c2, rfl, hown2, (Below.alloc (Below.refl _ _) hb _).trans happ2⟩
  · clear HF
    rw [wr_num]
    go_enter Tryz.func45, Tryz.ntmps45
    go_wp2_with (go_at_call 70; (refine (appendInt_any n' hr1 hr2 base n c A out0 _ (HO0.out.alloc _) (by simp; omega) (by omega) (HT.out.on (HAB.out _))).mono ?_); rintro e w2 ⟨A2, n2, c2, rfl, hown2, hbel2⟩)
    go_ret
    exact ⟨A2, n2, c2, rfl, hown2, (Below.alloc (Below.refl _ _) hb _).trans hbel2⟩
  · clear HF
    rw [wr_str] at HLEN ⊢
    have hs2 := (qt_len s.data.toList).1
    rw [show s.data.toList.length = s.size from by simp] at hs2
    have hss : s.size ≤ 16777216 := by have := HLEN.out; omega
    clear hs2
    go_enter Tryz.func45, Tryz.ntmps45
    go_wp2_with (go_at_call 71; (refine (wstring_any s hss base n c A out0 _ (HO0.out.alloc _) (by simp; omega) (by omega) (HT.out.on (HAB.out _))).mono ?_); rintro e w2 ⟨A2, n2, c2, rfl, hown2, hbel2⟩)
    go_ret
    exact ⟨A2, n2, c2, rfl, hown2, (Below.alloc (Below.refl _ _) hb _).trans hbel2⟩
  · clear HF
    rw [wr_arr] at HLEN ⊢
    go_enter Tryz.func45, Tryz.ntmps45
    go_wp2_with (go_at_call 72; (refine (arr_app es IH.out base n c A out0 _ B bb xs (HO0.out.alloc _) (by simp; omega) (rs_on HRB.out (HAB.out _)) (liesL_on HLL.out (HAB.out _)) HLEN.out hel (HT.out.on (HAB.out _))).mono ?_); rintro e w2 ⟨A2, n2, c2, rfl, hown2, hbel2⟩)
    go_ret
    exact ⟨A2, n2, c2, rfl, hown2, (Below.alloc (Below.refl _ _) hb _).trans hbel2⟩
  · clear HF
    have H4 := Lib.hid h4
    clear h4
    rw [wr_obj] at HLEN ⊢
    go_enter Tryz.func45, Tryz.ntmps45
    go_wp2_with (go_at_call 73; (refine (obj_app ks es H4.out IH.out base n c A out0 _ K B a bb xs (HO0.out.alloc _) (by simp; omega) (rs_on HRK.out (HAB.out _)) (rs_on HRB.out (HAB.out _)) (liesL_on HLL.out (HAB.out _)) HLEN.out hel (HT.out.on (HAB.out _))).mono ?_); rintro e w2 ⟨A2, n2, c2, rfl, hown2, hbel2⟩)
    go_ret
    exact ⟨A2, n2, c2, rfl, hown2, (Below.alloc (Below.refl _ _) hb _).trans hbel2⟩
end Go.Proofs.YtfmpdcmedaiooaaGreatDoor

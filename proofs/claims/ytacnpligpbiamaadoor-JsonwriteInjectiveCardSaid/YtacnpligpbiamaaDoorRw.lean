/- The reference's write and Text. -/
import Derived.Test.YtacnpligpbiamaaDoorRq
import Derived.Test.YtacnpligpbiamaaDoorG14
import Derived.Test.YtacnpligpbiamaaDoorG15
import Derived.Test.YtacnpligpbiamaaDoorG13
import Derived.Test.YtacnpligpbiamaaDoorG7
import Derived.Test.YtacnpligpbiamaaDoorG12
import Derived.Outline
set_option linter.unusedVariables false
set_option linter.unusedSimpArgs false
namespace Go.Proofs.YtacnpligpbiamaaDoor
open Go.RowKit
def sepR (i : Nat) : List UInt8 := if i = 0 then [] else [44]
/-- What write does to a value. -/
def RVal (v : V) : Prop := ∀ (base n c : Nat) (A : Option Addr) (out : List UInt8) (w : World) (cs : List Value), w.ownsRow base 5 1 (.slice A n c) n (bv out) → base ≤ w.heap.size → Lies w (· < base) v cs → n + (wr v).length ≤ 1000000 →
  Calls Tryd.prog 38 #[.slice A n c, .agg cs.toArray] w (AppB base w (.slice A n c) (out ++ wr v))
theorem own_offR {w : World} {base n : Nat} {e : TypeId} {v : Value} {xs : List Value} (h : w.ownsRow base e 1 v n xs) : v.ownBlock ≠ some w.heap.size := fun e => by have := (h.lt _ e).2; omega
theorem new_at (w : World) (t : TypeId) (l : List Value) (n : Nat) (hn : w.heap.size = n) : ∀ (j : Nat) (u : Value), l[j]? = some u → (w.alloc (.cells l.toArray t)).cell? ((⟨n, 0, none⟩ : Addr).add j) = some u := by
  subst hn
  exact new_cells w t l
theorem stepR {l : List (List UInt8)} {i : Nat} {x out out0 : List UInt8} {z : UInt8} (hx : l[i]? = some x) (ho : out = out0 ++ z :: commas (l.take i)) : out ++ sepR i ++ x = out0 ++ z :: commas (l.take (i + 1)) := by
  rw [ho, piece hx]
  simp [sepR]
theorem partR {l : List (List UInt8)} {j : Nat} {out out0 : List UInt8} {z : UInt8} {n m : Nat} (ho : out = out0 ++ z :: commas (l.take j)) (h0 : out0.length = n) (hm : n + (z :: (commas l ++ [0])).length ≤ m) : out.length + 1 ≤ m := by
  have := commas_take_le l j
  rw [ho, List.length_append, List.length_cons]
  simp at hm
  omega
/-- The state of a loop over the elements: the row, the box of the value. -/
structure RSt (base p : Nat) (w : World) (v : Value) (cs : Array Value) (wr : World) (A : Option Addr) (m c : Nat) (out : List UInt8) : Prop where
  own : wr.ownsRow base 5 1 (.slice A m c) m (bv out)
  app : App w v wr (.slice A m c)
  box : Box wr p 35 cs
  off : (Value.slice A m c).ownBlock ≠ some p
theorem RSt.next {base p : Nat} {w wr w2 : World} {v : Value} {cs : Array Value} {A A2 : Option Addr} {m c m2 c2 : Nat} {out out2 : List UInt8} (h : RSt base p w v cs wr A m c out) (ho : w2.ownsRow base 5 1 (.slice A2 m2 c2) m2 (bv out2)) (ha : App wr (.slice A m c) w2 (.slice A2 m2 c2)) : RSt base p w v cs w2 A2 m2 c2 out2 :=
  ⟨ho, h.app.trans ha, ha.box h.box h.off, ha.off h.box.lt h.off⟩
theorem RSt.below {base p : Nat} {w wr : World} {v : Value} {cs : Array Value} {A : Option Addr} {m c : Nat} {out : List UInt8} (h : RSt base p w v cs wr A m c out) (hb : base ≤ w.heap.size) (hv : ∀ g, v.ownBlock = some g → base ≤ g) : Below base w wr := h.app.below hb hv
set_option maxHeartbeats 8000000 in
set_option maxRecDepth 100000 in
theorem rarr_app (n' : Int) (s : ByteArray) (ks : List ByteArray) (es : List V) (ih : ∀ e ∈ es, RVal e) (base n c : Nat) (A : Option Addr) (out0 : List UInt8) (w : World) (K B : Option Addr) (a bb : Nat) (xs : List Value) (hown : w.ownsRow base 5 1 (.slice A n c) n (bv out0)) (hbase : base ≤ w.heap.size)
    (hK : Rs w (· < base) K (kv ks)) (hB : Rs w (· < base) B xs) (hL : LiesL w (· < base) es xs) (hlen : n + (91 :: (commas (wrM es) ++ [93])).length ≤ 1000000) (hel : es.length ≤ 1000000) :
    Calls Tryd.prog 38 #[.slice A n c, .agg #[.int .i64 5, .int .i64 n', .string s, .slice K ks.length a, .slice B es.length bb]] w (AppB base w (.slice A n c) (out0 ++ 91 :: (commas (wrM es) ++ [93]))) := by
  obtain ⟨i0, hi, hz0, hz1, hz2⟩ := info_parts inf_u8
  have HO0 := Lib.hid hown
  have HK := Lib.hid hK
  have HB := Lib.hid hB
  have HL := Lib.hid hL
  have IH := Lib.hid ih
  have HLEN := Lib.hid hlen
  have hn0 : n ≤ 1000000 := by omega
  have HN0 := Lib.hid (own_len hown)
  have HGE := Lib.hid (own_ge hown)
  clear hown hK hB hL ih hlen
  have HZ : Hid (([.int .u8 (91)] : List Value) = bv [91]) := Lib.hid rfl
  have HE : Hid (([.int .u8 (93)] : List Value) = bv [93]) := Lib.hid rfl
  have H44 : Hid (([.int .u8 (44)] : List Value) = bv [44]) := Lib.hid rfl
  go_enter Tryd.func38, Tryd.ntmps38
  go_wp2_with (at_builtin; refine wpList_app_cells _ rfl (.tmp 36) (.tmp 37) 39 rfl base 5 i0 (.int .u8 0) Tryd.underlying39 hi hz0 hz1 hz2 rfl (.slice A n c) n (bv out0) rfl ((HO0.out.alloc _).alloc _) ⟨w.heap.size + 1, 0, none⟩ 1 1 [.int .u8 (91)] rfl rfl (new_at (w.alloc (.cells #[.int .i64 5, .int .i64 n', .string s, .slice K ks.length a, .slice B es.length bb] 35)) 5 [.int .u8 (91)] (w.heap.size + 1) (by simp)) (by omega) (by simp; omega) (bv [91]) HZ.out (bv_one _) ?_; intro A2 c2 w2 hown2 happ2; rw [← bv_append] at hown2; replace happ2 := happ2.pre (Below.alloc (Below.refl _ _) (Nat.le_refl _) _))
  have HST0 : Hid (RSt base w.heap.size w (.slice A n c) #[.int .i64 5, .int .i64 n', .string s, .slice K ks.length a, .slice B es.length bb] w2 A2 (n + 1) c2 (out0 ++ [91])) := Lib.hid
    ⟨hown2, happ2.pre (below1 _ _), happ2.box (Box.laid w _ _) (own_offR HO0.out), happ2.off (by simp) (own_offR HO0.out)⟩
  have hbx := box5 HST0.out.box
  obtain ⟨t0, t1, t2, t3, t4⟩ := hbx
  clear hown2 happ2
  go_loopw [0, 5] (fun tb ti wr => ∃ (A' : Option Addr) (c' m i : Nat) (out : List UInt8), tb = .slice A' m c' ∧ ti = .int .i64 i ∧ i ≤ es.length ∧ RSt base w.heap.size w (.slice A n c) #[.int .i64 5, .int .i64 n', .string s, .slice K ks.length a, .slice B es.length bb] wr A' m c' out ∧ Hid (out = out0 ++ 91 :: commas ((wrM es).take i))) (fun _ ti _ => es.length - (intOf ti).toNat)
  case atStart => exact ⟨A2, c2, _, 0, _, rfl, rfl, Nat.zero_le _, HST0.out, Lib.hid (by simp [commas])⟩
  case round =>
    clear HST0 t0 t1 t2 t3 t4
    obtain ⟨A', c', m, i, out, rfl, rfl, hil, hst, HOU⟩ := hrel
    have HR := Lib.hid hst
    have HBE := Lib.hid (hst.below hbase HGE.out)
    have hbw : base ≤ wr.heap.size := Nat.le_trans hbase HBE.out.size
    have hm16 : m + 1 ≤ 1000000 := by
      have h1 := own_len hst.own
      have h2 := partR (n := n) (m := 1000000) HOU.out HN0.out (by have := HLEN.out; simpa using this)
      omega
    obtain ⟨t0, t1, t2, t3, t4⟩ := box5 hst.box
    clear hst t0 t1 t2
    by_cases hlt : i < es.length
    · obtain ⟨e, he⟩ : ∃ e, es[i]? = some e := ⟨_, List.getElem?_eq_getElem (by omega)⟩
      have hstep := stepR (wrM_at he) HOU.out
      have hlast := partR (n := n) (m := 1000000) (j := i + 1) hstep HN0.out (by have := HLEN.out; simpa using this)
      have hval := IH.out e (List.mem_of_getElem? he)
      obtain ⟨k', n9, s', ks', fs'⟩ := e
      obtain ⟨b0, o0, A3, a3, C3, c3, hBe, hS, hl5, p0, p1, p2, p3, p4⟩ := elem_open HB.out HL.out he
      subst hBe
      have hS' : b0 < base := hS
      have HST := Lib.hid hstep
      have HLA := Lib.hid hlast
      have HVAL := Lib.hid hval
      have HL5 := Lib.hid hl5
      have HS := Lib.hid hS'
      clear hstep hlast hval hl5 hS hS' he
      generalize V.mk k' n9 s' ks' fs' = e at HST HLA HVAL HL5
      generalize ks'.length = lk at HL5 p3
      generalize fs'.length = lf at HL5 p4
      have HP := Lib.hid (show _ ∧ _ ∧ _ ∧ _ ∧ _ from ⟨p0, p1, p2, p3, p4⟩)
      clear p0 p1 p2 p3 p4
      by_cases hi0 : i = 0
      · subst hi0
        have hs0 : out ++ sepR 0 = out := by simp [sepR]
        rw [hs0] at HST HLA
        have HN1 : Hid (m + (Go.Proofs.YtacnpligpbiamaaDoor.wr e).length ≤ 1000000) := Lib.hid (by have h1 := own_len HR.out.own; have h2 := HLA.out; rw [List.length_append] at h2; omega)
        clear hs0
        have q0 := (HBE.out.cell (p := ⟨b0, o0 + 0 * 5, none⟩) HS.out).trans HP.out.1; have q1 := (HBE.out.cell (p := ⟨b0, o0 + 0 * 5 + 1, none⟩) HS.out).trans HP.out.2.1; have q2 := (HBE.out.cell (p := ⟨b0, o0 + 0 * 5 + 2, none⟩) HS.out).trans HP.out.2.2.1; have q3 := (HBE.out.cell (p := ⟨b0, o0 + 0 * 5 + 3, none⟩) HS.out).trans HP.out.2.2.2.1; have q4 := (HBE.out.cell (p := ⟨b0, o0 + 0 * 5 + 4, none⟩) HS.out).trans HP.out.2.2.2.2
        simp only [Nat.zero_mul, Nat.add_zero] at q0 q1 q2 q3 q4
        go_wp2_with (go_at_call 38; (refine (HVAL.out base m c' A' out _ [.int .i64 k', .int .i64 n9, .string s', .slice A3 lk a3, .slice C3 lf c3] HR.out.own hbw (HL5.out.below HBE.out) HN1.out).mono ?_); rintro e2 w2 ⟨A2, n2, c2, rfl, hown2, happ2⟩; have HS2 := Lib.hid (HR.out.next hown2 happ2); clear hown2 happ2 q0 q1 q2 q3 q4 t3 t4)
        go_roundw
        case rel => exact ⟨A2, c2, n2, 1, _, rfl, by first | rfl | go_num, by omega, HS2.out, HST⟩
        case measure => simp [intOf]; omega
      · have hs0 : sepR i = [44] := by simp [sepR, hi0]
        rw [hs0] at HST HLA
        have hq0 : decide ((0 : Int) < (i : Int)) = true := by simp; omega
        have hq1 : decide (0 < i) = true := by simp; omega
        clear hs0
        go_wp2_with (first
          | (at_builtin; refine wpList_app_cells _ rfl (.tmp 48) (.tmp 49) 39 rfl base 5 i0 (.int .u8 0) Tryd.underlying39 hi hz0 hz1 hz2 rfl (.slice A' m c') m (bv out) rfl (HR.out.own.alloc _) ⟨wr.heap.size, 0, none⟩ 1 1 [.int .u8 (44)] rfl rfl (new_cells wr 5 [.int .u8 (44)]) (by omega) (by simp; omega) (bv [44]) H44.out (bv_one _) ?_; intro A1 c1 w1 hown1 happ1; rw [← bv_append] at hown1; replace happ1 := happ1.pre (Below.alloc (Below.refl _ _) (Nat.le_refl _) _); have HS1 := Lib.hid (HR.out.next hown1 happ1); have HB1 := Lib.hid (HS1.out.below hbase HGE.out); have hl1 := own_len hown1; have hl1' := HLA.out; rw [List.length_append] at hl1'; have HN1 : Hid (m + 1 + (Go.Proofs.YtacnpligpbiamaaDoor.wr e).length ≤ 1000000) := Lib.hid (by omega); clear t3 t4 hl1 hl1'; obtain ⟨t0, t1, t2, t3, t4⟩ := box5 HS1.out.box; have q0 := (HB1.out.cell (p := ⟨b0, o0 + i * 5, none⟩) HS.out).trans HP.out.1; have q1 := (HB1.out.cell (p := ⟨b0, o0 + i * 5 + 1, none⟩) HS.out).trans HP.out.2.1; have q2 := (HB1.out.cell (p := ⟨b0, o0 + i * 5 + 2, none⟩) HS.out).trans HP.out.2.2.1; have q3 := (HB1.out.cell (p := ⟨b0, o0 + i * 5 + 3, none⟩) HS.out).trans HP.out.2.2.2.1; have q4 := (HB1.out.cell (p := ⟨b0, o0 + i * 5 + 4, none⟩) HS.out).trans HP.out.2.2.2.2; clear t0 t1 t2 hown1 happ1)
          | (go_at_call 38; (refine (HVAL.out base _ c1 A1 _ _ [.int .i64 k', .int .i64 n9, .string s', .slice A3 lk a3, .slice C3 lf c3] HS1.out.own (Nat.le_trans hbase HB1.out.size) (HL5.out.below HB1.out) HN1.out).mono ?_); rintro e2 w2 ⟨A2, n2, c2, rfl, hown2, happ2⟩; have HS2 := Lib.hid (HS1.out.next hown2 happ2); clear hown2 happ2 q0 q1 q2 q3 q4 t3 t4))
        go_roundw
        case rel => exact ⟨A2, c2, n2, i + 1, _, rfl, by first | rfl | go_num, by omega, HS2.out, HST⟩
        case measure => simp [intOf]; omega
    · have hie : i = es.length := by omega
      have hfull : out ++ [93] = out0 ++ 91 :: (commas (wrM es) ++ [93]) := by
        have h := HOU.out
        rw [hie, ← wrM_len, List.take_length] at h
        rw [h]
        simp
      have HF := Lib.hid hfull
      subst hie
      clear hfull
      go_wp2_with (at_builtin; refine wpList_app_cells _ rfl (.tmp 58) (.tmp 59) 39 rfl base 5 i0 (.int .u8 0) Tryd.underlying39 hi hz0 hz1 hz2 rfl (.slice A' m c') m (bv out) rfl (HR.out.own.alloc _) ⟨wr.heap.size, 0, none⟩ 1 1 [.int .u8 (93)] rfl rfl (new_cells wr 5 [.int .u8 (93)]) (by omega) (by simp; omega) (bv [93]) HE.out (bv_one _) ?_; intro A2 c2 w2 hown2 happ2; rw [← bv_append] at hown2; replace happ2 := happ2.pre (Below.alloc (Below.refl _ _) (Nat.le_refl _) _))
      go_ret
      rw [HF.out] at hown2
      exact ⟨A2, _, c2, rfl, hown2, HR.out.app.trans happ2⟩
set_option maxHeartbeats 8000000 in
set_option maxRecDepth 100000 in
theorem robj_app (n' : Int) (s : ByteArray) (ks : List ByteArray) (es : List V) (hke : ks.length = es.length) (ih : ∀ e ∈ es, RVal e) (base n c : Nat) (A : Option Addr) (out0 : List UInt8) (w : World) (K B : Option Addr) (a bb : Nat) (xs : List Value) (hown : w.ownsRow base 5 1 (.slice A n c) n (bv out0)) (hbase : base ≤ w.heap.size)
    (hK : Rs w (· < base) K (kv ks)) (hB : Rs w (· < base) B xs) (hL : LiesL w (· < base) es xs) (hlen : n + (123 :: (commas (mems ks es) ++ [125])).length ≤ 1000000) (hel : es.length ≤ 1000000) :
    Calls Tryd.prog 38 #[.slice A n c, .agg #[.int .i64 6, .int .i64 n', .string s, .slice K ks.length a, .slice B es.length bb]] w (AppB base w (.slice A n c) (out0 ++ 123 :: (commas (mems ks es) ++ [125]))) := by
  obtain ⟨i0, hi, hz0, hz1, hz2⟩ := info_parts inf_u8
  have HO0 := Lib.hid hown
  have HK := Lib.hid hK
  have HB := Lib.hid hB
  have HL := Lib.hid hL
  have IH := Lib.hid ih
  have HLEN := Lib.hid hlen
  have hn0 : n ≤ 1000000 := by omega
  have HN0 := Lib.hid (own_len hown)
  have HGE := Lib.hid (own_ge hown)
  have HKE := Lib.hid hke
  obtain ⟨q, hq⟩ : ∃ q, ks.length = q := ⟨_, rfl⟩
  have HQ := Lib.hid hq
  have hqe : q ≤ 1000000 := by omega
  have HQE : Hid (es.length = q) := Lib.hid (by omega)
  rw [hq, HQE.out]
  clear hke hq hel
  clear hown hK hB hL ih hlen
  have H58 : Hid (([.int .u8 (58)] : List Value) = bv [58]) := Lib.hid rfl
  have HZ : Hid (([.int .u8 (123)] : List Value) = bv [123]) := Lib.hid rfl
  have HE : Hid (([.int .u8 (125)] : List Value) = bv [125]) := Lib.hid rfl
  have H44 : Hid (([.int .u8 (44)] : List Value) = bv [44]) := Lib.hid rfl
  go_enter Tryd.func38, Tryd.ntmps38
  go_wp2_with (at_builtin; refine wpList_app_cells _ rfl (.tmp 61) (.tmp 62) 39 rfl base 5 i0 (.int .u8 0) Tryd.underlying39 hi hz0 hz1 hz2 rfl (.slice A n c) n (bv out0) rfl ((HO0.out.alloc _).alloc _) ⟨w.heap.size + 1, 0, none⟩ 1 1 [.int .u8 (123)] rfl rfl (new_at (w.alloc (.cells #[.int .i64 6, .int .i64 n', .string s, .slice K q a, .slice B q bb] 35)) 5 [.int .u8 (123)] (w.heap.size + 1) (by simp)) (by omega) (by simp; omega) (bv [123]) HZ.out (bv_one _) ?_; intro A2 c2 w2 hown2 happ2; rw [← bv_append] at hown2; replace happ2 := happ2.pre (Below.alloc (Below.refl _ _) (Nat.le_refl _) _))
  have HST0 : Hid (RSt base w.heap.size w (.slice A n c) #[.int .i64 6, .int .i64 n', .string s, .slice K q a, .slice B q bb] w2 A2 (n + 1) c2 (out0 ++ [123])) := Lib.hid
    ⟨hown2, happ2.pre (below1 _ _), happ2.box (Box.laid w _ _) (own_offR HO0.out), happ2.off (by simp) (own_offR HO0.out)⟩
  have hbx := box5 HST0.out.box
  obtain ⟨t0, t1, t2, t3, t4⟩ := hbx
  clear hown2 happ2
  go_loopw [0, 6] (fun tb ti wr => ∃ (A' : Option Addr) (c' m i : Nat) (out : List UInt8), tb = .slice A' m c' ∧ ti = .int .i64 i ∧ i ≤ q ∧ RSt base w.heap.size w (.slice A n c) #[.int .i64 6, .int .i64 n', .string s, .slice K q a, .slice B q bb] wr A' m c' out ∧ Hid (out = out0 ++ 123 :: commas ((mems ks es).take i))) (fun _ ti _ => q - (intOf ti).toNat)
  case atStart => exact ⟨A2, c2, _, 0, _, rfl, rfl, Nat.zero_le _, HST0.out, Lib.hid (by simp [commas])⟩
  case round =>
    clear HST0 t0 t1 t2 t3 t4
    obtain ⟨A', c', m, i, out, rfl, rfl, hil, hst, HOU⟩ := hrel
    have HR := Lib.hid hst
    have HBE := Lib.hid (hst.below hbase HGE.out)
    have hbw : base ≤ wr.heap.size := Nat.le_trans hbase HBE.out.size
    have hm16 : m + 1 ≤ 1000000 := by
      have h1 := own_len hst.own
      have h2 := partR (n := n) (m := 1000000) HOU.out HN0.out (by have := HLEN.out; simpa using this)
      omega
    obtain ⟨t0, t1, t2, t3, t4⟩ := box5 hst.box
    clear hst t0 t1 t2
    by_cases hlt : i < q
    · obtain ⟨e, he⟩ : ∃ e, es[i]? = some e := ⟨_, List.getElem?_eq_getElem (by have := HQE.out; omega)⟩
      obtain ⟨x, hx⟩ : ∃ x, ks[i]? = some x := ⟨_, List.getElem?_eq_getElem (by have := HQ.out; omega)⟩
      have hstep0 := stepR (mems_at hx he) HOU.out
      have hlast0 := partR (n := n) (m := 1000000) (j := i + 1) hstep0 HN0.out (by have := HLEN.out; simpa using this)
      have hstep : out ++ sepR i ++ qt x.data.toList ++ [58] ++ Go.Proofs.YtacnpligpbiamaaDoor.wr e = out0 ++ 123 :: commas ((mems ks es).take (i + 1)) := by rw [← hstep0, mem]; simp
      have hlast : (out ++ sepR i).length + (qt x.data.toList).length + 1 + (Go.Proofs.YtacnpligpbiamaaDoor.wr e).length ≤ 1000000 := by
        have h1 := hlast0
        rw [mem] at h1
        simp only [List.length_append, List.length_cons] at h1 ⊢
        omega
      have hval := IH.out e (List.mem_of_getElem? he)
      obtain ⟨b1, o1, hKe, hS1, hkc⟩ := HK.out.at_ (kv_at hx)
      subst hKe
      have hS1' : b1 < base := hS1
      have HKC := Lib.hid hkc
      have hx2 := (qt_len x.data.toList).1
      rw [show x.data.toList.length = x.size from by simp] at hx2
      have hxs : x.size ≤ 1048576 := by omega
      clear hstep0 hlast0 hS1 hkc hx hx2
      obtain ⟨k', n9, s', ks', fs'⟩ := e
      obtain ⟨b0, o0, A3, a3, C3, c3, hBe, hS, hl5, p0, p1, p2, p3, p4⟩ := elem_open HB.out HL.out he
      subst hBe
      have hS' : b0 < base := hS
      have HST := Lib.hid hstep
      have HLA := Lib.hid hlast
      have HVAL := Lib.hid hval
      have HL5 := Lib.hid hl5
      have HS := Lib.hid hS'
      clear hstep hlast hval hl5 hS hS' he
      generalize V.mk k' n9 s' ks' fs' = e at HST HLA HVAL HL5
      generalize ks'.length = lk at HL5 p3
      generalize fs'.length = lf at HL5 p4
      have HP := Lib.hid (show _ ∧ _ ∧ _ ∧ _ ∧ _ from ⟨p0, p1, p2, p3, p4⟩)
      clear p0 p1 p2 p3 p4
      by_cases hi0 : i = 0
      · subst hi0
        have hs0 : out ++ sepR 0 = out := by simp [sepR]
        rw [hs0] at HST HLA
        have qk := (HBE.out.cell (p := ⟨b1, o1 + 0, none⟩) hS1').trans HKC.out
        simp only [Nat.add_zero] at qk
        clear hs0
        go_wp2_with (first
          | (go_at_call 26; (refine (quote_any x hxs base m c' A' _ _ HR.out.own (by omega) hbw).mono ?_); rintro e2 w2 ⟨A2, n2, c2, rfl, hown2, happ2⟩; have HS2 := Lib.hid (HR.out.next hown2 happ2); have HB2 := Lib.hid (HS2.out.below hbase HGE.out); have hl1 := own_len hown2; have hl1' := HLA.out; rw [List.length_append] at hl1; have hn2 : n2 ≤ 1000000 := (by omega); have hle2 : base ≤ w2.heap.size := Nat.le_trans hbase HB2.out.size; clear hown2 happ2 hl1 hl1' qk t3 t4)
          | (at_builtin; refine wpList_app_cells _ rfl (.tmp 82) (.tmp 83) 39 rfl base 5 i0 (.int .u8 0) Tryd.underlying39 hi hz0 hz1 hz2 rfl (.slice A2 n2 c2) n2 _ rfl (HS2.out.own.alloc _) ⟨w2.heap.size, 0, none⟩ 1 1 [.int .u8 (58)] rfl rfl (new_cells w2 5 [.int .u8 (58)]) (by omega) (by simp; omega) (bv [58]) H58.out (bv_one _) ?_; intro A3b c3b w3 hown3 happ3; rw [← bv_append] at hown3; replace happ3 := happ3.pre (Below.alloc (Below.refl _ _) (Nat.le_refl _) _); have HS3 := Lib.hid (HS2.out.next hown3 happ3); have HB3 := Lib.hid (HS3.out.below hbase HGE.out); have hl1 := own_len hown3; have hl1' := HLA.out; rw [List.length_append, List.length_append, List.length_singleton] at hl1; have HN3 : Hid (n2 + 1 + (Go.Proofs.YtacnpligpbiamaaDoor.wr e).length ≤ 1000000) := Lib.hid (by omega); clear hl1 hl1'; obtain ⟨t0, t1, t2, t3, t4⟩ := box5 HS3.out.box; have q0 := (HB3.out.cell (p := ⟨b0, o0 + 0 * 5, none⟩) HS.out).trans HP.out.1; have q1 := (HB3.out.cell (p := ⟨b0, o0 + 0 * 5 + 1, none⟩) HS.out).trans HP.out.2.1; have q2 := (HB3.out.cell (p := ⟨b0, o0 + 0 * 5 + 2, none⟩) HS.out).trans HP.out.2.2.1; have q3 := (HB3.out.cell (p := ⟨b0, o0 + 0 * 5 + 3, none⟩) HS.out).trans HP.out.2.2.2.1; have q4 := (HB3.out.cell (p := ⟨b0, o0 + 0 * 5 + 4, none⟩) HS.out).trans HP.out.2.2.2.2; simp only [Nat.zero_mul, Nat.add_zero] at q0 q1 q2 q3 q4; clear t0 t1 t2 hown3 happ3)
          | (go_at_call 38; (refine (HVAL.out base _ c3b A3b _ _ [.int .i64 k', .int .i64 n9, .string s', .slice A3 lk a3, .slice C3 lf c3] HS3.out.own (Nat.le_trans hbase HB3.out.size) (HL5.out.below HB3.out) HN3.out).mono ?_); rintro e4 w4 ⟨A4, n4, c4, rfl, hown4, happ4⟩; have HS4 := Lib.hid (HS3.out.next hown4 happ4); clear hown4 happ4 q0 q1 q2 q3 q4 t3 t4))
        go_roundw
        case rel => exact ⟨A4, c4, n4, 1, _, rfl, by first | rfl | go_num, by omega, HS4.out, HST⟩
        case measure => simp [intOf]; omega
      · have hs0 : sepR i = [44] := by simp [sepR, hi0]
        rw [hs0] at HST HLA
        have hq0 : decide ((0 : Int) < (i : Int)) = true := by simp; omega
        have hq1 : decide (0 < i) = true := by simp; omega
        clear hs0
        go_wp2_with (first
          | (at_builtin; refine wpList_app_cells _ rfl (.tmp 73) (.tmp 74) 39 rfl base 5 i0 (.int .u8 0) Tryd.underlying39 hi hz0 hz1 hz2 rfl (.slice A' m c') m (bv out) rfl (HR.out.own.alloc _) ⟨wr.heap.size, 0, none⟩ 1 1 [.int .u8 (44)] rfl rfl (new_cells wr 5 [.int .u8 (44)]) (by omega) (by simp; omega) (bv [44]) H44.out (bv_one _) ?_; intro A1 c1 w1 hown1 happ1; rw [← bv_append] at hown1; replace happ1 := happ1.pre (Below.alloc (Below.refl _ _) (Nat.le_refl _) _); have HS1 := Lib.hid (HR.out.next hown1 happ1); have HB1 := Lib.hid (HS1.out.below hbase HGE.out); clear t3 t4; obtain ⟨t0, t1, t2, t3, t4⟩ := box5 HS1.out.box; have qk := (HB1.out.cell (p := ⟨b1, o1 + i, none⟩) hS1').trans HKC.out; clear t0 t1 t2 hown1 happ1)
          | (go_at_call 26; (refine (quote_any x hxs base (m + 1) c1 A1 _ _ HS1.out.own (by omega) (Nat.le_trans hbase HB1.out.size)).mono ?_); rintro e2 w2 ⟨A2, n2, c2, rfl, hown2, happ2⟩; have HS2 := Lib.hid (HS1.out.next hown2 happ2); have HB2 := Lib.hid (HS2.out.below hbase HGE.out); have hl1 := own_len hown2; have hl1' := HLA.out; rw [List.length_append] at hl1; have hn2 : n2 ≤ 1000000 := (by omega); have hle2 : base ≤ w2.heap.size := Nat.le_trans hbase HB2.out.size; clear hown2 happ2 hl1 hl1' qk t3 t4)
          | (at_builtin; refine wpList_app_cells _ rfl (.tmp 82) (.tmp 83) 39 rfl base 5 i0 (.int .u8 0) Tryd.underlying39 hi hz0 hz1 hz2 rfl (.slice A2 n2 c2) n2 _ rfl (HS2.out.own.alloc _) ⟨w2.heap.size, 0, none⟩ 1 1 [.int .u8 (58)] rfl rfl (new_cells w2 5 [.int .u8 (58)]) (by omega) (by simp; omega) (bv [58]) H58.out (bv_one _) ?_; intro A3b c3b w3 hown3 happ3; rw [← bv_append] at hown3; replace happ3 := happ3.pre (Below.alloc (Below.refl _ _) (Nat.le_refl _) _); have HS3 := Lib.hid (HS2.out.next hown3 happ3); have HB3 := Lib.hid (HS3.out.below hbase HGE.out); have hl1 := own_len hown3; have hl1' := HLA.out; rw [List.length_append, List.length_append, List.length_singleton] at hl1; have HN3 : Hid (n2 + 1 + (Go.Proofs.YtacnpligpbiamaaDoor.wr e).length ≤ 1000000) := Lib.hid (by omega); clear hl1 hl1'; obtain ⟨t0, t1, t2, t3, t4⟩ := box5 HS3.out.box; have q0 := (HB3.out.cell (p := ⟨b0, o0 + i * 5, none⟩) HS.out).trans HP.out.1; have q1 := (HB3.out.cell (p := ⟨b0, o0 + i * 5 + 1, none⟩) HS.out).trans HP.out.2.1; have q2 := (HB3.out.cell (p := ⟨b0, o0 + i * 5 + 2, none⟩) HS.out).trans HP.out.2.2.1; have q3 := (HB3.out.cell (p := ⟨b0, o0 + i * 5 + 3, none⟩) HS.out).trans HP.out.2.2.2.1; have q4 := (HB3.out.cell (p := ⟨b0, o0 + i * 5 + 4, none⟩) HS.out).trans HP.out.2.2.2.2; clear t0 t1 t2 hown3 happ3)
          | (go_at_call 38; (refine (HVAL.out base _ c3b A3b _ _ [.int .i64 k', .int .i64 n9, .string s', .slice A3 lk a3, .slice C3 lf c3] HS3.out.own (Nat.le_trans hbase HB3.out.size) (HL5.out.below HB3.out) HN3.out).mono ?_); rintro e4 w4 ⟨A4, n4, c4, rfl, hown4, happ4⟩; have HS4 := Lib.hid (HS3.out.next hown4 happ4); clear hown4 happ4 q0 q1 q2 q3 q4 t3 t4))
        go_roundw
        case rel => exact ⟨A4, c4, n4, i + 1, _, rfl, by first | rfl | go_num, by omega, HS4.out, HST⟩
        case measure => simp [intOf]; omega
    · have hie : i = q := by omega
      have hfull : out ++ [125] = out0 ++ 123 :: (commas (mems ks es) ++ [125]) := by
        have h := HOU.out
        have hl := mems_len HKE.out
        have hq2 := HQE.out
        rw [hie, List.take_of_length_le (by omega)] at h
        rw [h]
        simp
      have HF := Lib.hid hfull
      subst hie
      clear hfull
      go_wp2_with (at_builtin; refine wpList_app_cells _ rfl (.tmp 92) (.tmp 93) 39 rfl base 5 i0 (.int .u8 0) Tryd.underlying39 hi hz0 hz1 hz2 rfl (.slice A' m c') m (bv out) rfl (HR.out.own.alloc _) ⟨wr.heap.size, 0, none⟩ 1 1 [.int .u8 (125)] rfl rfl (new_cells wr 5 [.int .u8 (125)]) (by omega) (by simp; omega) (bv [125]) HE.out (bv_one _) ?_; intro A2 c2 w2 hown2 happ2; rw [← bv_append] at hown2; replace happ2 := happ2.pre (Below.alloc (Below.refl _ _) (Nat.le_refl _) _))
      go_ret
      rw [HF.out] at hown2
      exact ⟨A2, _, c2, rfl, hown2, HR.out.app.trans happ2⟩
theorem num_cellsR (n : Int) : Lib.strCells ⟨(numL n).toArray⟩ = bv (numL n) := rfl
theorem num_sizeR (n : Int) : (⟨(numL n).toArray⟩ : ByteArray).size = (numL n).length := by simp [ByteArray.size]
set_option maxHeartbeats 8000000 in
set_option maxRecDepth 100000 in
theorem rwrite_any : ∀ v : V, good v = true → rng v → RVal v := by
  refine V.ind fun k n' s ks es ih hg hr base n c A out0 w cs hown hb hl hlen => ?_
  obtain ⟨hf, hL⟩ := good_parts hg
  have hel : es.length ≤ 1000000 := by
    rw [good] at hg
    simp only [Bool.and_eq_true, decide_eq_true_eq] at hg
    omega
  rw [rng, rngL_iff] at hr
  have IH := Lib.hid (fun e (he : e ∈ es) => ih e he (goodL_memW hL he) (hr.2 e he))
  have hr1 := hr.1
  obtain ⟨K, a, B, bb, xs, rfl, _, _, _, _, hRK, hRB, hLL⟩ := lies_open hl
  obtain ⟨i0, hi, hz0, hz1, hz2⟩ := info_parts inf_u8
  have HO0 := Lib.hid hown
  have HRK := Lib.hid hRK
  have HRB := Lib.hid hRB
  have HLL := Lib.hid hLL
  have hn16 : n ≤ 1000000 := by omega
  have HLEN := Lib.hid hlen
  have HF := Lib.hid (fits_kind hf)
  clear hown hRK hRB hLL ih hg hf hL hr hl hlen
  show Calls _ _ #[.slice A n c, .agg #[.int .i64 k, .int .i64 n', .string s, .slice K ks.length a, .slice B es.length bb]] w _
  rcases HF.out with ⟨hk, h1, h2, h3, h4⟩ | ⟨rfl, -, -, -⟩ | ⟨rfl, -, -, -⟩ | ⟨rfl, -, -, -⟩ | ⟨rfl, -, -, h4⟩
  · clear HF HLEN h1 h2 h3 h4
    rcases hk with rfl | rfl | rfl
    · have HSZ : Hid ((⟨#[110, 117, 108, 108]⟩ : ByteArray).size = 4) := Lib.hid rfl
      have HQV : Hid (Lib.strCells ⟨#[110, 117, 108, 108]⟩ = bv [110, 117, 108, 108]) := Lib.hid rfl
      rw [wr_null (by decide) (by decide) (by decide) (by decide) (by decide) (by decide)]
      go_enter Tryd.func38, Tryd.ntmps38
      go_wp2_with (at_builtin; refine wpList_app_string _ rfl _ _ 39 9 rfl base 5 i0 Tryd.underlying39 Tryd.underlying9 hi hz0 hz1 hz2 (.slice A n c) n (bv out0) rfl (HO0.out.alloc _) ⟨#[110, 117, 108, 108]⟩ rfl (by rw [HSZ.out]; omega) (by simp; omega) 4 (bv [110, 117, 108, 108]) HSZ.out HQV.out ?_; intro A2 c2 w2 hown2 happ2; rw [← bv_append] at hown2)
      go_ret
      exact ⟨A2, _, c2, rfl, hown2, happ2.pre (below1 _ _)⟩
    · have HSZ : Hid ((⟨#[102, 97, 108, 115, 101]⟩ : ByteArray).size = 5) := Lib.hid rfl
      have HQV : Hid (Lib.strCells ⟨#[102, 97, 108, 115, 101]⟩ = bv [102, 97, 108, 115, 101]) := Lib.hid rfl
      rw [wr_false]
      go_enter Tryd.func38, Tryd.ntmps38
      go_wp2_with (at_builtin; refine wpList_app_string _ rfl _ _ 39 9 rfl base 5 i0 Tryd.underlying39 Tryd.underlying9 hi hz0 hz1 hz2 (.slice A n c) n (bv out0) rfl (HO0.out.alloc _) ⟨#[102, 97, 108, 115, 101]⟩ rfl (by rw [HSZ.out]; omega) (by simp; omega) 5 (bv [102, 97, 108, 115, 101]) HSZ.out HQV.out ?_; intro A2 c2 w2 hown2 happ2; rw [← bv_append] at hown2)
      go_ret
      exact ⟨A2, _, c2, rfl, hown2, happ2.pre (below1 _ _)⟩
    · have HSZ : Hid ((⟨#[116, 114, 117, 101]⟩ : ByteArray).size = 4) := Lib.hid rfl
      have HQV : Hid (Lib.strCells ⟨#[116, 114, 117, 101]⟩ = bv [116, 114, 117, 101]) := Lib.hid rfl
      rw [wr_true]
      go_enter Tryd.func38, Tryd.ntmps38
      go_wp2_with (at_builtin; refine wpList_app_string _ rfl _ _ 39 9 rfl base 5 i0 Tryd.underlying39 Tryd.underlying9 hi hz0 hz1 hz2 (.slice A n c) n (bv out0) rfl (HO0.out.alloc _) ⟨#[116, 114, 117, 101]⟩ rfl (by rw [HSZ.out]; omega) (by simp; omega) 4 (bv [116, 114, 117, 101]) HSZ.out HQV.out ?_; intro A2 c2 w2 hown2 happ2; rw [← bv_append] at hown2)
      go_ret
      exact ⟨A2, _, c2, rfl, hown2, happ2.pre (below1 _ _)⟩
  · clear HF HLEN
    rw [wr_num]
    have HD := Lib.hid (fun W => digits_any n' hr1 W)
    have HC := Lib.hid (num_cellsR n')
    have HS := Lib.hid (num_sizeR n')
    obtain ⟨l1, l2⟩ := numL_len hr1
    clear hr1
    go_enter Tryd.func38, Tryd.ntmps38
    go_wp2_with (first
      | (go_at_call 56; refine (HD.out _).mono ?_; rintro e w1 ⟨rfl, hb1⟩; have HB1 := Lib.hid (chain (below1 w _) hb1); have HO1 := Lib.hid (own_belowW HO0.out HB1.out); clear hb1)
      | (at_builtin; refine wpList_app_string _ rfl _ _ 39 9 rfl base 5 i0 Tryd.underlying39 Tryd.underlying9 hi hz0 hz1 hz2 (.slice A n c) n (bv out0) rfl HO1.out ⟨(numL n').toArray⟩ rfl (by rw [HS.out]; omega) (Nat.le_trans hb HB1.out.size) _ (bv (numL n')) HS.out HC.out ?_; intro A2 c2 w2 hown2 happ2; rw [← bv_append] at hown2))
    go_ret
    exact ⟨A2, _, c2, rfl, hown2, happ2.pre HB1.out⟩
  · clear HF
    rw [wr_str] at HLEN ⊢
    have hs2 := (qt_len s.data.toList).1
    rw [show s.data.toList.length = s.size from by simp] at hs2
    have hss : s.size ≤ 1048576 := by have := HLEN.out; omega
    clear hs2
    go_enter Tryd.func38, Tryd.ntmps38
    go_wp2_with (go_at_call 26; (refine (quote_any s hss base n c A out0 _ (HO0.out.alloc _) (by omega) (by simp; omega)).mono ?_); rintro e w2 ⟨A2, n2, c2, rfl, hown2, happ2⟩)
    go_ret
    exact ⟨A2, n2, c2, rfl, hown2, happ2.pre (below1 _ _)⟩
  · clear HF
    rw [wr_arr] at HLEN ⊢
    exact rarr_app n' s ks es IH.out base n c A out0 w K B a bb xs HO0.out hb HRK.out HRB.out HLL.out HLEN.out hel
  · clear HF
    rw [wr_obj] at HLEN ⊢
    exact robj_app n' s ks es h4 IH.out base n c A out0 w K B a bb xs HO0.out hb HRK.out HRB.out HLL.out HLEN.out hel
set_option maxHeartbeats 2000000 in
set_option maxRecDepth 100000 in
theorem rText_any (v : V) (cs : List Value) (w : World) (h : Lies w (· < w.heap.size) v cs) (hr : rng v) :
    Calls Tryd.prog 16 #[.agg cs.toArray] w fun e w' => e = .returned (.string ⟨(txt v).toArray⟩) ∧ Below w.heap.size w w' := by
  have HV := Lib.hid (fun W (hW : Below w.heap.size w W) => rvalid_any v cs W (below_lies hW h))
  rw [valid_same] at HV
  have HA : Hid (valid v = true → ∀ W, Below w.heap.size w W → Calls Tryd.prog 38 #[.slice none 0 0, .agg cs.toArray] W (AppB w.heap.size W (.slice none 0 0) (wr v))) := Lib.hid fun hv W hW => by
    have hok := (valid_iff v).1 hv
    have hl := wr_len v hok.1 hr
    have h1 := rwrite_any v hok.1 hr w.heap.size 0 0 none [] W cs (World.ownsRow_nil _ _ _ _) hW.size (h.below hW) (by have := hok.2.2.1; have := hok.2.2.2; omega)
    simpa using h1
  have HTX : Hid (txt v = if valid v then wr v else []) := Lib.hid rfl
  obtain ⟨k, n, s, ks, es⟩ := v
  obtain ⟨A, a, B, b, xs, rfl, _⟩ := lies_open h
  clear h hr
  show Calls _ _ #[.agg #[.int .i64 k, .int .i64 n, .string s, .slice A ks.length a, .slice B es.length b]] w _
  generalize hq : V.mk k n s ks es = v at HV HA HTX ⊢
  clear hq
  rw [HTX.out]
  generalize wr v = u at HA HTX ⊢
  generalize valid v = x at HV HA HTX ⊢
  cases x with
  | false =>
    rw [if_neg (by decide)]
    go_enter Tryd.func16, Tryd.ntmps16
    go_wp2_with (go_at_call 37; refine (HV.out _ (below1 _ _)).mono ?_; rintro e w1 ⟨rfl, hb1⟩)
    go_ret
    exact ⟨rfl, chain (below1 _ _) hb1⟩
  | true =>
    rw [if_pos rfl]
    have HA2 := Lib.hid (HA.out rfl)
    clear HA
    go_enter Tryd.func16, Tryd.ntmps16
    go_wp2_with (first
      | (go_at_call 37; refine (HV.out _ (below1 _ _)).mono ?_; rintro e w1 ⟨rfl, hb1⟩; have hB1 := Lib.hid (chain (below1 w _) hb1); have hbx := (Box.laid w 35 #[.int .i64 k, .int .i64 n, .string s, .slice A ks.length a, .slice B es.length b]).below hb1 (by simp); obtain ⟨t0, t1, t2, t3, t4⟩ := box5 hbx; clear hbx hb1)
      | (go_at_call 38; refine (HA2.out _ hB1.out).mono ?_; rintro e w2 ⟨A2, n2, c2, rfl, hown2, happ2⟩; have hcv := conv_own hown2; have hb2 := app_below (base := 0) happ2 rfl))
    go_ret
    exact ⟨rfl, chain hB1.out hb2⟩
end Go.Proofs.YtacnpligpbiamaaDoor

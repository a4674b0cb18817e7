/- The sum of two valid values: renew, add and Binary at "+", whatever their kinds are. -/
import Derived.Test.YtgdnkankleoaoaaGreatDoorA30
import Derived.Test.YtgdnkankleoaoaaGreatDoorA31
import Derived.Test.YtgdnkankleoaoaaGreatDoorA32
import Derived.Test.YtgdnkankleoaoaaGreatDoorA28
import Derived.Test.YtgdnkankleoaoaaGreatDoorA26
import Derived.Test.YtgdnkankleoaoaaGreatDoorA20
set_option linter.unusedVariables false
set_option linter.unusedSimpArgs false
namespace Go.Proofs.YtgdnkankleoaoaaGreatDoor
open Go.RowKit Go.Sort
theorem pairs_zip : ∀ ms : List Mb, pairs ms = (ms.map Mb.key).zip (ms.map Mb.v) := by
  intro ms
  induction ms with
  | nil => rfl
  | cons m r ih => simp only [pairs, List.map_cons, List.zip_cons_cons] at ih ⊢; rw [ih]
theorem putAll_pairs (ms : List Mb) : putAll ms = putL [] (pairs ms) := by
  have := putAll_app [] ms
  rw [List.nil_append] at this
  exact this
theorem kv_append (k l : List ByteArray) : kv (k ++ l) = kv k ++ kv l := by simp [kv]
theorem members_at {w : World} {B : Option Addr} {keys : List ByteArray} {l : List V} {xs : List Value} (hk : keys.length = l.length) (hR : Row w B l xs) :
    ∃ ms : List Mb, ms.length = l.length ∧ ms.map Mb.key = keys ∧ ms.map Mb.v = l ∧ ∀ i m, ms[i]? = some m → MAt w (· < w.heap.size) B i m := by
  have hex : ∀ i : Nat, ∃ m : Mb, i < l.length → keys[i]? = some m.key ∧ l[i]? = some m.v ∧ MAt w (· < w.heap.size) B i m := by
    intro i
    by_cases hi : i < l.length
    · obtain ⟨e, he⟩ : ∃ e, l[i]? = some e := ⟨_, List.getElem?_eq_getElem hi⟩
      obtain ⟨k, n, s, ks, es⟩ := e
      obtain ⟨b, o, A, a, C, c, hB, hb, hl, c0, c1, c2, c3, c4⟩ := elem_open hR.rs hR.lies he
      exact ⟨⟨keys[i]'(by omega), k, n, s, ks, es, A, a, C, c⟩, fun _ => ⟨List.getElem?_eq_getElem (by omega), he, ⟨b, o, hB, hb, c0, c1, c2, c3, c4⟩, hl⟩⟩
    · exact ⟨default, fun h => absurd h hi⟩
  obtain ⟨f, hf⟩ := Classical.axiomOfChoice hex
  refine ⟨(List.range l.length).map f, by simp, ?_, ?_, ?_⟩
  · apply List.ext_getElem?
    intro i
    by_cases hi : i < l.length
    · rw [(hf i hi).1]; simp [hi]
    · rw [List.getElem?_eq_none (by simp; omega), List.getElem?_eq_none (by omega)]
  · apply List.ext_getElem?
    intro i
    by_cases hi : i < l.length
    · rw [(hf i hi).2.1]; simp [hi]
    · rw [List.getElem?_eq_none (by simp; omega), List.getElem?_eq_none (by omega)]
  · intro i m hm
    obtain ⟨h1, h2⟩ := List.getElem?_eq_some_iff.1 hm
    have hi : i < l.length := by simpa using h1
    simp at h2
    subst h2
    exact (hf i hi).2.2
/-- Obj at rows of keys and of values, each as long as the other. -/
theorem obj_rows (ks : List ByteArray) (es : List V) (hlen : ks.length = es.length) (hn : es.length ≤ 1000000) (hks : ks.all okS = true) (hkz : ∀ k ∈ ks, k.size ≤ 4096) (hes : es.all valid = true) (A B : Option Addr) (a b : Nat) (xs : List Value) (w : World)
    (hA : Rs w (· < w.heap.size) A (kv ks)) (hR : Row w B es xs) :
    Calls Tryz.prog 174 #[.slice A ks.length a, .slice B es.length b] w (RetPost (finV (objL (putL [] (ks.zip es)))) (finE (objL (putL [] (ks.zip es)))) w) := by
  obtain ⟨ms, hms, hmk, hmv, hmat⟩ := members_at hlen hR
  have h := obj_any ms A B a b xs w (by rw [hmk]; exact hA) (by rw [hmv]; exact hR) hmat (by omega) (fun m hm => by have := hkz m.key (by rw [← hmk]; exact List.mem_map_of_mem hm); omega)
  have hr := objR_ok (ms := ms) (by rw [hmv]; exact hes) (by rw [hmk]; exact hks)
  rw [hr.1, hr.2, putAll_pairs, pairs_zip, hmk, hmv, hms] at h
  rw [hlen]
  exact h
theorem obj_self {k n : Int} {s : ByteArray} {ks : List ByteArray} {es : List V} (hv : valid (.mk k n s ks es) = true) (hlen : ks.length = es.length) : objL (putL [] (ks.zip es)) = .mk 6 0 ⟨#[]⟩ ks es := by
  have := prs_asc hv
  rw [putL_nil_asc (qs := ks.zip es) this]
  unfold objL
  rw [List.map_fst_zip (by omega), List.map_snd_zip (by omega)]
theorem renew_any (v : V) (cs : List Value) (w : World) (h : Lies w (· < w.heap.size) v cs) (hv : valid v = true) : Calls Tryz.prog 191 #[.agg cs.toArray] w (RetPost v 0 w) := by
  obtain ⟨k, n, s, ks, es⟩ := v
  have h0 := h
  rw [Lies] at h0
  obtain ⟨⟨b1, b2, b3, b4⟩, A, a, B, b, xs, rfl, hA0, hB0, ⟨ha1, ha2⟩, ⟨hb1, hb2⟩, hA, hB, hL⟩ := h0
  have hp := valid_parts hv
  have hel := valid_elems hv
  have hko := valid_keysok hv
  rcases valid_shape hv with ⟨hk, rfl, rfl, rfl, rfl⟩ | ⟨rfl, rfl, rfl, rfl⟩ | ⟨rfl, rfl, rfl, rfl⟩ | ⟨rfl, rfl, rfl, rfl⟩ | ⟨rfl, rfl, rfl, hlen⟩
  · rcases hk with rfl | rfl | rfl
    · exact renew_flat0 _ _ A B _ a _ b w
    · exact renew_flat1 _ _ A B _ a _ b w
    · exact renew_flat2 _ _ A B _ a _ b w
  · exact renew_num n _ A B _ a _ b w
  · refine renew_str _ _ A B _ a _ b w _ _ fun W hW => ?_
    have := str_any s W b1
    rw [(strR_ok hp.2.1).1, (strR_ok hp.2.1).2, finV_ok (v := strV s) hv, finE_ok (v := strV s) hv] at this
    exact this
  · refine renew_arr _ _ A B _ a _ b w _ _ fun W hW => ?_
    have := arr_any es B b xs W ⟨(Row.mk hB hL).below hW, hB0, hb1, hb2, b4⟩
    rw [(arrR_ok hel).1, (arrR_ok hel).2, finV_ok (v := arrV es) hv, finE_ok (v := arrV es) hv] at this
    exact this
  · refine renew_obj _ _ A B _ a _ b w _ _ fun W hW => ?_
    have := obj_rows ks es hlen (by omega) hko.1 hko.2 hel A B a b xs W (hA.move fun x hx => ⟨Nat.lt_of_lt_of_le hx hW.size, hW.block x hx⟩) ((Row.mk hB hL).below hW)
    rw [obj_self hv hlen, finV_ok hv, finE_ok hv] at this
    exact this
theorem addv_any (v u : V) (cs ds : List Value) (w : World) (h : Lies w (· < w.heap.size) v cs) (h' : Lies w (· < w.heap.size) u ds) (hv : valid v = true) (hu : valid u = true) :
    Calls Tryz.prog 106 #[.agg cs.toArray, .agg ds.toArray] w (RetPost (sumR v u).1 (sumR v u).2 w) := by
  have hrv := fun W (hW : Below w.heap.size w W) => renew_any v cs W (below_lies hW h) hv
  have hru := fun W (hW : Below w.heap.size w W) => renew_any u ds W (below_lies hW h') hu
  obtain ⟨k, n, s, ks, es⟩ := v
  obtain ⟨k2, n2, s2, ks2, es2⟩ := u
  have h0 := h
  rw [Lies] at h0
  obtain ⟨⟨b1, b2, b3, b4⟩, A, a, B, b, xs, rfl, hA0, hB0, ⟨ha1, ha2⟩, ⟨hb1, hb2⟩, hA, hB, hL⟩ := h0
  have h1 := h'
  rw [Lies] at h1
  obtain ⟨⟨d1, d2, d3, d4⟩, A2, a2, B2, b2', ys, rfl, hA20, hB20, ⟨hc1, hc2⟩, ⟨hd1, hd2⟩, hA2, hB2, hL2⟩ := h1
  have hp := valid_parts hv
  have hp2 := valid_parts hu
  have hel := valid_elems hv
  have hel2 := valid_elems hu
  have hko := valid_keysok hv
  have hko2 := valid_keysok hu
  by_cases k0 : k = 0
  · subst k0
    have hs : sumR (V.mk 0 n s ks es) (V.mk k2 n2 s2 ks2 es2) = (V.mk k2 n2 s2 ks2 es2, 0) := sum_null_left rfl
    rw [hs]
    exact add_left k2 n n2 s s2 A B A2 B2 _ a _ b _ a2 _ b2' w _ _ hru
  by_cases k20 : k2 = 0
  · subst k20
    have hs : sumR (V.mk k n s ks es) (V.mk 0 n2 s2 ks2 es2) = (V.mk k n s ks es, 0) := sum_null_right hv hu rfl
    rw [hs]
    exact add_right k k0 n n2 s s2 A B A2 B2 _ a _ b _ a2 _ b2' w _ _ hrv
  have hsum : sumR (V.mk k n s ks es) (V.mk k2 n2 s2 ks2 es2) = if k = 3 ∧ k2 = 3 then (numV (wrap64 (n + n2)), 0) else if k = 4 ∧ k2 = 4 then lim (strV (s ++ s2)) else if k = 5 ∧ k2 = 5 then lim (arrV (es ++ es2)) else if k = 6 ∧ k2 = 6 then lim (objL (putL (ks.zip es) (ks2.zip es2))) else (vnull, 12) := by
    show (if k = 0 then _ else if k2 = 0 then _ else _) = _
    rw [if_neg k0, if_neg k20]
    rfl
  rw [hsum]
  clear hsum hrv hru
  by_cases c3 : k = 3 ∧ k2 = 3
  · rw [if_pos c3]
    obtain ⟨rfl, rfl⟩ := c3
    exact add_num n n2 s s2 A B A2 B2 _ a _ b _ a2 _ b2' w
  rw [if_neg c3]
  by_cases c4 : k = 4 ∧ k2 = 4
  · rw [if_pos c4]
    obtain ⟨rfl, rfl⟩ := c4
    refine add_str n n2 s s2 A B A2 B2 _ a _ b _ a2 _ b2' hp.1 hp2.1 w _ _ fun W hW => ?_
    have hok := okS_app hp.2.1 hp2.2.1
    have := str_any (s ++ s2) W (by have e := ByteArray.size_append (a := s) (b := s2); omega)
    rw [(strR_ok hok).1, (strR_ok hok).2] at this
    exact this
  rw [if_neg c4]
  by_cases c5 : k = 5 ∧ k2 = 5
  · rw [if_pos c5]
    obtain ⟨rfl, rfl⟩ := c5
    refine add_arr n n2 s s2 A B A2 B2 _ a _ b _ a2 _ b2' w (es.length + es2.length) (xs ++ ys) _ _ (fun W g hW q0 q1 => ?_) (fun W D d hW ho => ?_)
    · exact concatV_any g B B2 es.length es2.length b b2' xs ys W q0 q1 ((Row.mk hB hL).below hW).rs ((Row.mk hB2 hL2).below hW).rs hB0 hB20 hL.len hL2.len (by omega) (by omega) (liesL_one hL) (liesL_one hL2)
    · obtain ⟨D', d', he, hdn, hdl, hdm, hrs⟩ := own_open ho
      cases he
      have hall : (es ++ es2).all valid = true := by rw [List.all_append, hel, hel2]; rfl
      have := arr_any (es ++ es2) D d (xs ++ ys) W ⟨⟨hrs.move fun x hx => ⟨hx.2.1, rfl⟩, ((Row.mk hB hL).below hW).lies.append ((Row.mk hB2 hL2).below hW).lies⟩, hdn, by rw [List.length_append]; exact hdl, hdm, by rw [List.length_append]; omega⟩
      rw [(arrR_ok hall).1, (arrR_ok hall).2, List.length_append] at this
      exact this
  rw [if_neg c5]
  by_cases c6 : k = 6 ∧ k2 = 6
  · rw [if_pos c6]
    obtain ⟨rfl, rfl⟩ := c6
    have hlen : ks.length = es.length := (valid_keys hv).2.1 rfl
    have hlen2 : ks2.length = es2.length := (valid_keys hu).2.1 rfl
    refine add_obj n n2 s s2 A B A2 B2 _ a _ b _ a2 _ b2' w _ _ fun W1 hW1 => ?_
    refine union_over _ _ n n2 s s2 A B A2 B2 _ a _ b _ a2 _ b2' W1 (ks.length + ks2.length) (es.length + es2.length) (kv ks ++ kv ks2) (xs ++ ys) _ _ (fun W g hW' q0 q1 => ?_) (fun W g hW' q0 q1 => ?_) (fun W D d E e hW' ho1 ho2 => ?_)
    · have hW := chain hW1 hW'
      exact concatS_any g A A2 ks.length ks2.length a a2 (kv ks) (kv ks2) W q0 q1 (hA.move fun x hx => ⟨Nat.lt_of_lt_of_le hx hW.size, hW.block x hx⟩) (hA2.move fun x hx => ⟨Nat.lt_of_lt_of_le hx hW.size, hW.block x hx⟩) hA0 hA20 (by rw [kv_length]; omega) (by rw [kv_length]; omega) (by omega) (by omega) (kv_one _) (kv_one _)
    · have hW := chain hW1 hW'
      exact concatV_any g B B2 es.length es2.length b b2' xs ys W q0 q1 ((Row.mk hB hL).below hW).rs ((Row.mk hB2 hL2).below hW).rs hB0 hB20 hL.len hL2.len (by omega) (by omega) (liesL_one hL) (liesL_one hL2)
    · have hW := chain hW1 hW'
      obtain ⟨D', d', he, -, -, -, hr1⟩ := own_open ho1
      cases he
      obtain ⟨E', e', he, -, -, -, hr2⟩ := own_open ho2
      cases he
      have := obj_rows (ks ++ ks2) (es ++ es2) (by simp; omega) (by simp; omega) (by rw [List.all_append, hko.1, hko2.1]; rfl) (fun x hx => by rcases List.mem_append.1 hx with q | q; (· exact hko.2 x q); exact hko2.2 x q) (by rw [List.all_append, hel, hel2]; rfl) D E d e (xs ++ ys) W
        (by rw [kv_append]; exact hr1.move fun x hx => ⟨hx.2.1, rfl⟩) ⟨hr2.move fun x hx => ⟨hx.2.1, rfl⟩, ((Row.mk hB hL).below hW).lies.append ((Row.mk hB2 hL2).below hW).lies⟩
      have hz : putL [] ((ks ++ ks2).zip (es ++ es2)) = putL (ks.zip es) (ks2.zip es2) := by
        rw [List.zip_append hlen]
        unfold putL
        rw [List.foldl_append]
        have := putL_nil_asc (qs := ks.zip es) (prs_asc hv)
        unfold putL at this
        rw [this]
      rw [hz, List.length_append, List.length_append] at this
      exact this
  rw [if_neg c6]
  exact add_type k k2 k0 k20 (fun c hc => by rcases hc with rfl | rfl | rfl | rfl <;> assumption) n n2 s s2 A B A2 B2 _ a _ b _ a2 _ b2' w
/-- Binary at "+". -/
theorem sum_any (v u : V) (cs ds : List Value) (w : World) (h : Lies w (· < w.heap.size) v cs) (h' : Lies w (· < w.heap.size) u ds) (hv : valid v = true) (hu : valid u = true) :
    Calls Tryz.prog 14 #[.string ⟨#[43]⟩, .agg cs.toArray, .agg ds.toArray] w (RetPost (sumR v u).1 (sumR v u).2 w) :=
  bin_add v u cs ds w h h' hv hu _ _ fun W hW => addv_any v u cs ds W (below_lies hW h) (below_lies hW h') hv hu
end Go.Proofs.YtgdnkankleoaoaaGreatDoor

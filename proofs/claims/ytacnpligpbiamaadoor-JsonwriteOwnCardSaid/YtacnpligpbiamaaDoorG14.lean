/- How long a canonical text is: plain. jsonwrite's text, Text, Size and Quote. The sanity check of the statements on jsonwrite. -/
import Derived.Test.YtacnpligpbiamaaDoorG3
import Derived.Test.YtacnpligpbiamaaDoorG4
import Derived.Test.YtacnpligpbiamaaDoorG13
import Derived.Test.YtacnpligpbiamaaDoorAv
import Derived.Test.YtacnpligpbiamaaDoorG11
set_option linter.unusedVariables false
set_option linter.unusedSimpArgs false
namespace Go.Proofs.YtacnpligpbiamaaDoor
theorem flat_len (l : List (List UInt8)) : (l.flatMap (44 :: ·)).length = (l.map List.length).sum + l.length := by
  induction l with
  | nil => rfl
  | cons x r ih => simp only [List.flatMap_cons, List.length_append, List.length_cons, List.map_cons, List.sum_cons, ih]; omega
theorem commas_len (l : List (List UInt8)) : (commas l).length ≤ (l.map List.length).sum + l.length := by
  cases l with
  | nil => exact Nat.le_refl _
  | cons x r => rw [commas, List.length_append, flat_len]; simp; omega
theorem wrs_len {es : List V} (h : ∀ e ∈ es, (wr e).length + 4 ≤ 25 * e.sz + 6 * vbyt e) : ((es.map wr).map List.length).sum + 4 * es.length ≤ 25 * V.szL es + 6 * vbytL es := by
  induction es with
  | nil => simp [V.szL, vbytL]
  | cons e es ih =>
    have h1 := h e (by simp)
    have h2 := ih fun x hx => h x (by simp [hx])
    rw [V.szL, vbytL]
    simp only [List.map_cons, List.sum_cons, List.length_cons]
    omega
theorem mems_sum : ∀ (ks : List ByteArray) (es : List V), ks.length = es.length → ((mems ks es).map List.length).sum ≤ ((es.map wr).map List.length).sum + 3 * es.length + 6 * kb ks
  | [], [], _ => Nat.zero_le _
  | [], e :: es, h => by simp at h
  | k :: ks, [], h => by simp at h
  | k :: ks, e :: es, h => by
    have ih := mems_sum ks es (by simpa using h)
    have h1 := (qt_len k.data.toList).2
    rw [show k.data.toList.length = k.size from by simp] at h1
    have e1 : mems (k :: ks) (e :: es) = mem k.data.toList (wr e) :: mems ks es := by simp [mems_map]
    rw [e1, kb]
    simp only [List.map_cons, List.sum_cons, List.length_cons, mem, List.length_append]
    omega
theorem wr_len : ∀ v : V, good v = true → rng v → (wr v).length + 4 ≤ 25 * v.sz + 6 * vbyt v := by
  refine V.ind fun k n s ks es ih hg hr => ?_
  obtain ⟨hf, hL⟩ := good_parts hg
  rw [rng, rngL_iff] at hr
  have h4 := wrs_len fun e he => ih e he (goodL_memW hL he) (hr.2 e he)
  rw [V.sz, vbyt]
  rcases fits_kind hf with ⟨hk, -, -, -, -⟩ | ⟨rfl, -, -, -⟩ | ⟨rfl, -, -, -⟩ | ⟨rfl, -, -, h3⟩ | ⟨rfl, -, -, h3⟩
  · rcases hk with rfl | rfl | rfl
    · rw [wr_null (by decide) (by decide) (by decide) (by decide) (by decide) (by decide)]; simp; omega
    · rw [wr_false]; simp; omega
    · rw [wr_true]; simp; omega
  · rw [wr_num]
    have := (numL_len hr.1).2
    omega
  · rw [wr_str]
    have h1 := (qt_len s.data.toList).2
    rw [show s.data.toList.length = s.size from by simp] at h1
    omega
  · rw [wr_arr, wrM_eq]
    have h1 := commas_len (es.map wr)
    simp only [List.length_cons, List.length_append, List.length_map, List.length_nil] at h1 ⊢
    omega
  · rw [wr_obj]
    have h1 := commas_len (mems ks es)
    have h2 := mems_sum ks es h3
    rw [mems_len h3] at h1
    simp only [List.length_cons, List.length_append, List.length_nil]
    omega
/-- The text of a value; none of one that is not valid. -/
def txt (v : V) : List UInt8 := if valid v then wr v else []
theorem txt_len {v : V} (hr : rng v) : (txt v).length ≤ 600000 := by
  unfold txt
  by_cases h : valid v = true
  · rw [if_pos h]
    obtain ⟨h1, -, h3, h4⟩ := (valid_iff v).1 h
    have := wr_len v h1 hr
    omega
  · rw [if_neg h]; exact Nat.zero_le _
end Go.Proofs.YtacnpligpbiamaaDoor
namespace Go.Proofs.YtacnpligpbiamaaDoor
open Go.RowKit
set_option maxHeartbeats 4000000 in
set_option maxRecDepth 100000 in
theorem text_any (v : V) (cs : List Value) (w : World) (h : Lies w (· < w.heap.size) v cs) (hr : rng v) (ht : TabS w) :
    Calls Tryd.prog 39 #[.agg cs.toArray] w (AppC w.heap.size w (txt v)) := by
  have HV := Lib.hid (fun W (hW : Below w.heap.size w W) => valid_any v cs W (below_lies hW h))
  have HA : Hid (valid v = true → ∀ W, Below w.heap.size w W → Calls Tryd.prog 57 #[.slice none 0 0, .agg cs.toArray] W (AppC w.heap.size W (wr v))) := Lib.hid fun hv W hW => by
    have hok := (valid_iff v).1 hv
    have hl := wr_len v hok.1 hr
    have h1 := val_app v hok.1 hr w.heap.size 0 0 none [] W cs (World.ownsRow_nil _ _ _ _) hW.size (h.below hW) (by have := hok.2.2.1; have := hok.2.2.2; omega) (ht.below.on hW)
    simpa using h1
  have HTX : Hid (txt v = if valid v then wr v else []) := Lib.hid rfl
  obtain ⟨k, n, s, ks, es⟩ := v
  obtain ⟨A, a, B, b, xs, rfl, _⟩ := lies_open h
  clear h ht hr
  show Calls _ _ #[.agg #[.int .i64 k, .int .i64 n, .string s, .slice A ks.length a, .slice B es.length b]] w _
  generalize hq : V.mk k n s ks es = v at HV HA HTX ⊢
  clear hq
  rw [HTX.out]
  generalize wr v = u at HA HTX ⊢
  generalize valid v = x at HV HA HTX ⊢
  cases x with
  | false =>
    rw [if_neg (by decide)]
    go_enter Tryd.func39, Tryd.ntmps39
    go_wp2_with (go_at_call 21; refine (HV.out _ (below1 _ _)).mono ?_; rintro e w1 ⟨rfl, hb1⟩)
    go_ret
    exact ⟨none, 0, 0, rfl, World.ownsRow_nil _ _ _ _, chain (below1 _ _) hb1⟩
  | true =>
    rw [if_pos rfl]
    have HA2 := Lib.hid (HA.out rfl)
    clear HA
    go_enter Tryd.func39, Tryd.ntmps39
    go_wp2_with (first
      | (go_at_call 21; refine (HV.out _ (below1 _ _)).mono ?_; rintro e w1 ⟨rfl, hb1⟩; have hB1 := Lib.hid (chain (below1 w _) hb1); have hbx := (Box.laid w 35 #[.int .i64 k, .int .i64 n, .string s, .slice A ks.length a, .slice B es.length b]).below hb1 (by simp); obtain ⟨t0, t1, t2, t3, t4⟩ := box5 hbx; clear hbx hb1)
      | (go_at_call 57; refine (HA2.out _ hB1.out).mono ?_; rintro e w2 ⟨A2, n2, c2, rfl, hown2, hbel2⟩))
    go_ret
    exact ⟨A2, n2, c2, rfl, hown2, hB1.out.trans hbel2⟩
/-- A value's cells as arguments. -/
theorem arg_five {v : V} {cs : List Value} {w : World} (h : Lies w (· < w.heap.size) v cs) : ∃ a0 a1 a2 a3 a4, cs = [a0, a1, a2, a3, a4] := by
  have h5 := h.five
  match cs, h5 with
  | [a0, a1, a2, a3, a4], _ => exact ⟨_, _, _, _, _, rfl⟩
set_option maxHeartbeats 1000000 in
theorem wText_any (v : V) (cs : List Value) (w : World) (h : Lies w (· < w.heap.size) v cs) (hr : rng v) (ht : TabS w) :
    Calls Tryd.prog 17 #[.agg cs.toArray] w fun e w' => e = .returned (.string ⟨(txt v).toArray⟩) ∧ Below w.heap.size w w' := by
  have HX := Lib.hid (fun W (hW : Below w.heap.size w W) => text_any v cs W (below_lies hW h) hr (ht.next hW))
  obtain ⟨a0, a1, a2, a3, a4, rfl⟩ := arg_five h
  clear h ht hr
  show Calls _ _ #[.agg #[a0, a1, a2, a3, a4]] w _
  go_enter Tryd.func17, Tryd.ntmps17
  go_wp2_with (go_at_call 39; refine (HX.out _ (below1 _ _)).mono ?_; rintro e w1 ⟨A, n, c, rfl, hown, hb1⟩; have hcv := conv_own hown)
  go_ret
  exact ⟨rfl, chain (below1 _ _) hb1⟩
set_option maxHeartbeats 1000000 in
theorem wSize_any (v : V) (cs : List Value) (w : World) (h : Lies w (· < w.heap.size) v cs) (hr : rng v) (ht : TabS w) :
    Calls Tryd.prog 19 #[.agg cs.toArray] w fun e w' => e = .returned (.int .i64 (txt v).length) ∧ Below w.heap.size w w' := by
  have HX := Lib.hid (fun W (hW : Below w.heap.size w W) => text_any v cs W (below_lies hW h) hr (ht.next hW))
  obtain ⟨a0, a1, a2, a3, a4, rfl⟩ := arg_five h
  clear h ht hr
  show Calls _ _ #[.agg #[a0, a1, a2, a3, a4]] w _
  go_enter Tryd.func19, Tryd.ntmps19
  go_wp2_with (go_at_call 39; refine (HX.out _ (below1 _ _)).mono ?_; rintro e w1 ⟨A, n, c, rfl, hown, hb1⟩; have hl := own_len hown; have HLL := Lib.hid hl; clear hl)
  go_ret
  exact ⟨ret_int (by rw [HLL.out]), chain (below1 _ _) hb1⟩
set_option maxHeartbeats 1000000 in
theorem wQuote_any (s : ByteArray) (hs : s.size ≤ 16777216) (w : World) (ht : TabS w) : Calls Tryd.prog 20 #[.string s] w fun e w' => e = .returned (.string ⟨(qt s.data.toList).toArray⟩) ∧ Below w.heap.size w w' := by
  have HQ := Lib.hid (fun W (hW : Below w.heap.size w W) => wstring_any s hs W.heap.size 0 0 none [] W (World.ownsRow_nil _ _ _ _) (Nat.le_refl _) (by omega) (ht.next hW).below)
  simp only [List.nil_append] at HQ
  go_enter Tryd.func20, Tryd.ntmps20
  go_wp2_with (go_at_call 41; refine (HQ.out _ (Below.refl _ _)).mono ?_; rintro e w1 ⟨A, n, c, rfl, hown, hb1⟩; have hcv := conv_own hown)
  go_ret
  exact ⟨rfl, hb1⟩
end Go.Proofs.YtacnpligpbiamaaDoor
namespace Go.Proofs.YtacnpligpbiamaaDoor
open Go.RowKit
def aw5A : V := .mk 5 0 ⟨#[]⟩ [] [.mk 3 1 ⟨#[]⟩ [] [], .mk 3 (-2) ⟨#[]⟩ [] [], .mk 0 0 ⟨#[]⟩ [] []]
def aw5V : V := .mk 6 0 ⟨#[]⟩ [⟨#[97]⟩] [aw5A]
theorem aw5_txt : txt aw5V = [123, 34, 97, 34, 58, 91, 49, 44, 45, 50, 44, 110, 117, 108, 108, 93, 125] := by
  have hv : valid aw5V = true := by decide +kernel
  unfold txt
  rw [if_pos hv]
  have h1 : wr aw5A = [91, 49, 44, 45, 50, 44, 110, 117, 108, 108, 93] := by
    unfold aw5A
    rw [wr_arr, wrM_eq]
    simp only [List.map_cons, List.map_nil, wr_num]
    rw [wr_null (by decide) (by decide) (by decide) (by decide) (by decide) (by decide)]
    rfl
  unfold aw5V
  rw [wr_obj, mems_map]
  simp only [List.zip_cons_cons, List.zip_nil_left, List.map_cons, List.map_nil, h1]
  rfl
theorem aw5_rng : rng aw5V := by
  unfold aw5V aw5A
  simp [rng, rngL, in64]
def awW5 (w : World) : World :=
  (((w.alloc (.cells #[.string ⟨#[97]⟩] 9)).alloc (.cells [.int .i64 3, .int .i64 1, .string ⟨#[]⟩, .slice none 0 0, .slice none 0 0, .int .i64 3, .int .i64 (-2), .string ⟨#[]⟩, .slice none 0 0, .slice none 0 0, .int .i64 0, .int .i64 0, .string ⟨#[]⟩, .slice none 0 0, .slice none 0 0].toArray 35)).alloc (.cells #[.int .i64 5, .int .i64 0, .string ⟨#[]⟩, .slice none 0 0, .slice (some ⟨w.heap.size + 1, 0, none⟩) 3 3] 35)).alloc
    (.cells #[.int .i64 6, .int .i64 0, .string ⟨#[]⟩, .slice (some ⟨w.heap.size, 0, none⟩) 1 1, .slice (some ⟨w.heap.size + 1 + 1, 0, none⟩) 1 1] 35)
theorem box_new (W : World) (t : TypeId) (cs : Array Value) (p : Nat) (hp : W.heap.size = p) : Box (W.alloc (.cells cs t)) p t cs := by
  subst hp
  exact Box.laid W t cs
theorem awW5_facts (w : World) : Box (awW5 w) w.heap.size 9 #[.string ⟨#[97]⟩] ∧ Box (awW5 w) (w.heap.size + 1) 35 [.int .i64 3, .int .i64 1, .string ⟨#[]⟩, .slice none 0 0, .slice none 0 0, .int .i64 3, .int .i64 (-2), .string ⟨#[]⟩, .slice none 0 0, .slice none 0 0, .int .i64 0, .int .i64 0, .string ⟨#[]⟩, .slice none 0 0, .slice none 0 0].toArray ∧ Box (awW5 w) (w.heap.size + 1 + 1) 35 #[.int .i64 5, .int .i64 0, .string ⟨#[]⟩, .slice none 0 0, .slice (some ⟨w.heap.size + 1, 0, none⟩) 3 3] ∧
    Box (awW5 w) (w.heap.size + 1 + 1 + 1) 35 #[.int .i64 6, .int .i64 0, .string ⟨#[]⟩, .slice (some ⟨w.heap.size, 0, none⟩) 1 1, .slice (some ⟨w.heap.size + 1 + 1, 0, none⟩) 1 1] ∧ Below w.heap.size w (awW5 w) := by
  unfold awW5
  refine ⟨(((box_new w _ _ _ rfl).alloc _).alloc _).alloc _, ((box_new _ _ _ _ (by simp)).alloc _).alloc _, (box_new _ _ _ _ (by simp)).alloc _, box_new _ _ _ _ (by simp), ?_⟩
  exact ((((Below.refl _ _).alloc (Nat.le_refl _) _).alloc (by simp) _).alloc (by simp; omega) _).alloc (by simp; omega) _
theorem lies_flat (w : World) (S : Nat → Prop) (k n : Int) : Lies w S (.mk k n ⟨#[]⟩ [] []) [.int .i64 k, .int .i64 n, .string ⟨#[]⟩, .slice none 0 0, .slice none 0 0] := by
  rw [Lies]
  exact ⟨⟨Nat.zero_le _, by simp, Nat.zero_le _, Nat.zero_le _⟩, none, 0, none, 0, [], rfl, fun _ => rfl, fun _ => rfl, ⟨Nat.le_refl _, Nat.zero_le _⟩, ⟨Nat.le_refl _, Nat.zero_le _⟩, Rs.nil _ _ _, Rs.nil _ _ _, by rw [LiesL]⟩
theorem rs_boxW {w : World} {g : Nat} {t : TypeId} {cs : List Value} {S : Nat → Prop} (h : Box w g t cs.toArray) (hg : S g) : Rs w S (some ⟨g, 0, none⟩) cs := fun j u hj => ⟨g, 0, rfl, hg, by rw [Nat.zero_add]; exact h.cell (by simpa using hj)⟩
theorem aw5_lies {W : World} {g0 g1 g2 : Nat} (h0 : Box W g0 9 #[.string ⟨#[97]⟩]) (h1 : Box W g1 35 [.int .i64 3, .int .i64 1, .string ⟨#[]⟩, .slice none 0 0, .slice none 0 0, .int .i64 3, .int .i64 (-2), .string ⟨#[]⟩, .slice none 0 0, .slice none 0 0, .int .i64 0, .int .i64 0, .string ⟨#[]⟩, .slice none 0 0, .slice none 0 0].toArray) (h2 : Box W g2 35 #[.int .i64 5, .int .i64 0, .string ⟨#[]⟩, .slice none 0 0, .slice (some ⟨g1, 0, none⟩) 3 3]) :
    Lies W (· < W.heap.size) aw5V [.int .i64 6, .int .i64 0, .string ⟨#[]⟩, .slice (some ⟨g0, 0, none⟩) 1 1, .slice (some ⟨g2, 0, none⟩) 1 1] := by
  have hA : Lies W (· < W.heap.size) aw5A [.int .i64 5, .int .i64 0, .string ⟨#[]⟩, .slice none 0 0, .slice (some ⟨g1, 0, none⟩) 3 3] := by
    unfold aw5A
    rw [Lies]
    refine ⟨⟨Nat.zero_le _, by simp, by decide, by decide⟩, none, 0, some ⟨g1, 0, none⟩, 3, [.int .i64 3, .int .i64 1, .string ⟨#[]⟩, .slice none 0 0, .slice none 0 0, .int .i64 3, .int .i64 (-2), .string ⟨#[]⟩, .slice none 0 0, .slice none 0 0, .int .i64 0, .int .i64 0, .string ⟨#[]⟩, .slice none 0 0, .slice none 0 0], rfl, fun _ => rfl, (fun h => by cases h), ⟨Nat.le_refl _, Nat.zero_le _⟩, ⟨by decide, by decide⟩, Rs.nil _ _ _, rs_boxW h1 h1.lt, ?_⟩
    rw [LiesL]; refine ⟨_, _, rfl, lies_flat _ _ 3 1, ?_⟩
    rw [LiesL]; refine ⟨_, _, rfl, lies_flat _ _ 3 (-2), ?_⟩
    rw [LiesL]; refine ⟨_, _, rfl, lies_flat _ _ 0 0, ?_⟩
    rw [LiesL]
  unfold aw5V
  rw [Lies]
  refine ⟨⟨Nat.zero_le _, by simp; decide, by decide, by decide⟩, some ⟨g0, 0, none⟩, 1, some ⟨g2, 0, none⟩, 1, [.int .i64 5, .int .i64 0, .string ⟨#[]⟩, .slice none 0 0, .slice (some ⟨g1, 0, none⟩) 3 3], rfl, (fun h => by cases h), (fun h => by cases h), ⟨by decide, by decide⟩, ⟨by decide, by decide⟩, rs_boxW (cs := kv [⟨#[97]⟩]) h0 h0.lt, rs_boxW (cs := [.int .i64 5, .int .i64 0, .string ⟨#[]⟩, .slice none 0 0, .slice (some ⟨g1, 0, none⟩) 3 3]) h2 h2.lt, ?_⟩
  rw [LiesL]
  refine ⟨_, [], by simp, hA, ?_⟩
  rw [LiesL]
set_option maxHeartbeats 2000000 in
set_option maxRecDepth 100000 in
theorem awake5_any (w : World) (ht : TabS w) : Calls Tryd.prog 15 #[] w fun e w' => e = .returned (.bool true) ∧ Below w.heap.size w w' := by
  obtain ⟨f0, f1, f2, f3, f4⟩ := awW5_facts w
  have hT := Lib.hid (wText_any aw5V _ (awW5 w) (aw5_lies f0 f1 f2) aw5_rng (ht.next f4))
  have hS := Lib.hid (fun W (hW : Below (awW5 w).heap.size (awW5 w) W) => wSize_any aw5V _ W (below_lies hW (aw5_lies f0 f1 f2)) aw5_rng ((ht.next f4).next hW))
  rw [aw5_txt] at hT
  rw [aw5_txt] at hS
  have F3 := Lib.hid f3
  have F4 := Lib.hid f4
  clear f0 f1 f2 f3 f4 ht
  go_enter Tryd.func15, Tryd.ntmps15
  go_wp2_with fail
  refine hT.out.mono ?_
  rintro e w1 ⟨rfl, hb1⟩
  obtain ⟨t0, t1, t2, t3, t4⟩ := box5 (F3.out.below hb1 F3.out.lt)
  go_wp2_with (go_at_call 19; refine (hS.out _ hb1).mono ?_; rintro e w2 ⟨rfl, hb2⟩)
  go_ret
  exact ⟨rfl, chain F4.out (chain hb1 hb2)⟩
end Go.Proofs.YtacnpligpbiamaaDoor

/- How long a canonical text is: plain. jsonwrite's text, Text, Size and Quote. The sanity check of the statements on jsonwrite. The law: what is parsed is written so that it is parsed to the same. What the listed variables give: strconv.ErrRange holds an error, and the two tables read as the program text lays them. -/
import Derived.Test.YtmfjpcmbdgbjjaaGreatDoorQ20
import Derived.Test.YtmfjpcmbdgbjjaaGreatDoorQ45
import Derived.Test.YtmfjpcmbdgbjjaaGreatDoorQ17
import Derived.Test.YtmfjpcmbdgbjjaaGreatDoorQ46
import Derived.Test.YtmfjpcmbdgbjjaaGreatDoorQ16
import Derived.Test.YtmfjpcmbdgbjjaaGreatDoorQ43
import Derived.Test.YtmfjpcmbdgbjjaaGreatDoorQ15
import Derived.Test.YtmfjpcmbdgbjjaaGreatDoorRows
import Derived.Test.YtmfjpcmbdgbjjaaGreatDoorQ08
import Derived.Test.YtmfjpcmbdgbjjaaGreatDoorQ44
import Derived.LaidMore
import Derived.LaidLaws
import Derived.Stop.LaidErr
set_option linter.unusedVariables false
set_option linter.unusedSimpArgs false
namespace Go.Proofs.YtmfjpcmbdgbjjaaGreatDoor
theorem flat_len (l : List (List UInt8)) : (l.flatMap (44 :: ·)).length = (l.map List.length).sum + l.length := by
  induction l with
  | nil => rfl
  | cons x r ih => simp only [List.flatMap_cons, List.length_append, List.length_cons, List.map_cons, List.sum_cons, ih]; omega
theorem commas_len (l : List (List UInt8)) : (commas l).length ≤ (l.map List.length).sum + l.length := by
  cases l with
  | nil => exact Nat.le_refl _
  | cons x r => rw [commas, List.length_append, flat_len]; simp; omega
theorem wrs_len {es : List V} (h : ∀ e ∈ es, (wr e).length + 4 ≤ 25 * e.sz + 6 * vbyt e) : ((es.map wr).map List.length).sum + 4 * es.length ≤ 25 * V.szL es + 6 * vbytL es := by
  induction es with
  | nil => simp [V.szL, vbytL]
  | cons e es ih =>
    have h1 := h e (by simp)
    have h2 := ih fun x hx => h x (by simp [hx])
    rw [V.szL, vbytL]
    simp only [List.map_cons, List.sum_cons, List.length_cons]
    omega
theorem mems_sum : ∀ (ks : List ByteArray) (es : List V), ks.length = es.length → ((mems ks es).map List.length).sum ≤ ((es.map wr).map List.length).sum + 3 * es.length + 6 * kb ks
  | [], [], _ => Nat.zero_le _
  | [], e :: es, h => by simp at h
  | k :: ks, [], h => by simp at h
  | k :: ks, e :: es, h => by
    have ih := mems_sum ks es (by simpa using h)
    have h1 := (qt_len k.data.toList).2
    rw [show k.data.toList.length = k.size from by simp] at h1
    have e1 : mems (k :: ks) (e :: es) = mem k.data.toList (wr e) :: mems ks es := by simp [mems_map]
    rw [e1, kb]
    simp only [List.map_cons, List.sum_cons, List.length_cons, mem, List.length_append]
    omega
theorem wr_len : ∀ v : V, good v = true → rng v → (wr v).length + 4 ≤ 25 * v.sz + 6 * vbyt v := by
  refine V.ind fun k n s ks es ih hg hr => ?_
  obtain ⟨hf, hL⟩ := good_parts hg
  rw [rng, rngL_iff] at hr
  have h4 := wrs_len fun e he => ih e he (goodL_memW hL he) (hr.2 e he)
  rw [V.sz, vbyt]
  rcases fits_kind hf with ⟨hk, -, -, -, -⟩ | ⟨rfl, -, -, -⟩ | ⟨rfl, -, -, -⟩ | ⟨rfl, -, -, h3⟩ | ⟨rfl, -, -, h3⟩
  · rcases hk with rfl | rfl | rfl
    · rw [wr_null (by decide) (by decide) (by decide) (by decide) (by decide) (by decide)]; simp; omega
    · rw [wr_false]; simp; omega
    · rw [wr_true]; simp; omega
  · rw [wr_num]
    have := (numL_len hr.1).2
    omega
  · rw [wr_str]
    have h1 := (qt_len s.data.toList).2
    rw [show s.data.toList.length = s.size from by simp] at h1
    omega
  · rw [wr_arr, wrM_eq]
    have h1 := commas_len (es.map wr)
    simp only [List.length_cons, List.length_append, List.length_map, List.length_nil] at h1 ⊢
    omega
  · rw [wr_obj]
    have h1 := commas_len (mems ks es)
    have h2 := mems_sum ks es h3
    rw [mems_len h3] at h1
    simp only [List.length_cons, List.length_append, List.length_nil]
    omega
/-- The text of a value; none of one that is not valid. -/
def txt (v : V) : List UInt8 := if valid v then wr v else []
end Go.Proofs.YtmfjpcmbdgbjjaaGreatDoor
namespace Go.Proofs.YtmfjpcmbdgbjjaaGreatDoor
open Go.RowKit
set_option maxHeartbeats 4000000 in
set_option maxRecDepth 100000 in
theorem text_any (v : V) (cs : List Value) (w : World) (h : Lies w (· < w.heap.size) v cs) (hr : rng v) (ht : TabS w) :
    Calls Tryz.prog 22 #[.agg cs.toArray] w (AppC w.heap.size w (txt v)) := by
  have HV := Lib.hid (fun W (hW : Below w.heap.size w W) => valid_any v cs W (below_lies hW h))
  have HA : Hid (valid v = true → ∀ W, Below w.heap.size w W → Calls Tryz.prog 39 #[.slice none 0 0, .agg cs.toArray] W (AppC w.heap.size W (wr v))) := Lib.hid fun hv W hW => by
    have hok := (valid_iff v).1 hv
    have hl := wr_len v hok.1 hr
    have h1 := val_app v hok.1 hr w.heap.size 0 0 none [] W cs (World.ownsRow_nil _ _ _ _) hW.size (h.below hW) (by have := hok.2.2.1; have := hok.2.2.2; omega) (ht.below.on hW)
    simpa using h1
  have HTX : Hid (txt v = if valid v then wr v else []) := Lib.hid rfl
  obtain ⟨k, n, s, ks, es⟩ := v
  obtain ⟨A, a, B, b, xs, rfl, _⟩ := lies_open h
  clear h ht hr
  show Calls _ _ #[.agg #[.int .i64 k, .int .i64 n, .string s, .slice A ks.length a, .slice B es.length b]] w _
  generalize hq : V.mk k n s ks es = v at HV HA HTX ⊢
  clear hq
  rw [HTX.out]
  generalize wr v = u at HA HTX ⊢
  generalize valid v = x at HV HA HTX ⊢
  cases x with
  | false =>
    rw [if_neg (by decide)]
    go_enter Tryz.func22, Tryz.ntmps22
    go_wp2_with (go_at_call 10; refine (HV.out _ (below1 _ _)).mono ?_; rintro e w1 ⟨rfl, hb1⟩)
    go_ret
    exact ⟨none, 0, 0, rfl, World.ownsRow_nil _ _ _ _, chain (below1 _ _) hb1⟩
  | true =>
    rw [if_pos rfl]
    have HA2 := Lib.hid (HA.out rfl)
    clear HA
    go_enter Tryz.func22, Tryz.ntmps22
    go_wp2_with (first
      | (go_at_call 10; refine (HV.out _ (below1 _ _)).mono ?_; rintro e w1 ⟨rfl, hb1⟩; have hB1 := Lib.hid (chain (below1 w _) hb1); have hbx := (Box.laid w 26 #[.int .i64 k, .int .i64 n, .string s, .slice A ks.length a, .slice B es.length b]).below hb1 (by simp); obtain ⟨t0, t1, t2, t3, t4⟩ := box5 hbx; clear hbx hb1)
      | (go_at_call 39; refine (HA2.out _ hB1.out).mono ?_; rintro e w2 ⟨A2, n2, c2, rfl, hown2, hbel2⟩))
    go_ret
    exact ⟨A2, n2, c2, rfl, hown2, hB1.out.trans hbel2⟩
/-- A value's cells as arguments. -/
theorem arg_five {v : V} {cs : List Value} {w : World} (h : Lies w (· < w.heap.size) v cs) : ∃ a0 a1 a2 a3 a4, cs = [a0, a1, a2, a3, a4] := by
  have h5 := h.five
  match cs, h5 with
  | [a0, a1, a2, a3, a4], _ => exact ⟨_, _, _, _, _, rfl⟩
set_option maxHeartbeats 1000000 in
theorem wText_any (v : V) (cs : List Value) (w : World) (h : Lies w (· < w.heap.size) v cs) (hr : rng v) (ht : TabS w) :
    Calls Tryz.prog 7 #[.agg cs.toArray] w fun e w' => e = .returned (.string ⟨(txt v).toArray⟩) ∧ Below w.heap.size w w' := by
  have HX := Lib.hid (fun W (hW : Below w.heap.size w W) => text_any v cs W (below_lies hW h) hr (ht.next hW))
  obtain ⟨a0, a1, a2, a3, a4, rfl⟩ := arg_five h
  clear h ht hr
  show Calls _ _ #[.agg #[a0, a1, a2, a3, a4]] w _
  go_enter Tryz.func7, Tryz.ntmps7
  go_wp2_with (go_at_call 22; refine (HX.out _ (below1 _ _)).mono ?_; rintro e w1 ⟨A, n, c, rfl, hown, hb1⟩; have hcv := conv_own hown)
  go_ret
  exact ⟨rfl, chain (below1 _ _) hb1⟩
set_option maxHeartbeats 1000000 in
theorem wSize_any (v : V) (cs : List Value) (w : World) (h : Lies w (· < w.heap.size) v cs) (hr : rng v) (ht : TabS w) :
    Calls Tryz.prog 17 #[.agg cs.toArray] w fun e w' => e = .returned (.int .i64 (txt v).length) ∧ Below w.heap.size w w' := by
  have HX := Lib.hid (fun W (hW : Below w.heap.size w W) => text_any v cs W (below_lies hW h) hr (ht.next hW))
  obtain ⟨a0, a1, a2, a3, a4, rfl⟩ := arg_five h
  clear h ht hr
  show Calls _ _ #[.agg #[a0, a1, a2, a3, a4]] w _
  go_enter Tryz.func17, Tryz.ntmps17
  go_wp2_with (go_at_call 22; refine (HX.out _ (below1 _ _)).mono ?_; rintro e w1 ⟨A, n, c, rfl, hown, hb1⟩; have hl := own_len hown; have HLL := Lib.hid hl; clear hl)
  go_ret
  exact ⟨ret_int (by rw [HLL.out]), chain (below1 _ _) hb1⟩
end Go.Proofs.YtmfjpcmbdgbjjaaGreatDoor
namespace Go.Proofs.YtmfjpcmbdgbjjaaGreatDoor
open Go.RowKit
def aw5A : V := .mk 5 0 ⟨#[]⟩ [] [.mk 3 1 ⟨#[]⟩ [] [], .mk 3 (-2) ⟨#[]⟩ [] [], .mk 0 0 ⟨#[]⟩ [] []]
def aw5V : V := .mk 6 0 ⟨#[]⟩ [⟨#[97]⟩] [aw5A]
theorem aw5_txt : txt aw5V = [123, 34, 97, 34, 58, 91, 49, 44, 45, 50, 44, 110, 117, 108, 108, 93, 125] := by
  have hv : valid aw5V = true := by decide +kernel
  unfold txt
  rw [if_pos hv]
  have h1 : wr aw5A = [91, 49, 44, 45, 50, 44, 110, 117, 108, 108, 93] := by
    unfold aw5A
    rw [wr_arr, wrM_eq]
    simp only [List.map_cons, List.map_nil, wr_num]
    rw [wr_null (by decide) (by decide) (by decide) (by decide) (by decide) (by decide)]
    rfl
  unfold aw5V
  rw [wr_obj, mems_map]
  simp only [List.zip_cons_cons, List.zip_nil_left, List.map_cons, List.map_nil, h1]
  rfl
theorem aw5_rng : rng aw5V := by
  unfold aw5V aw5A
  simp [rng, rngL, in64]
def awW5 (w : World) : World :=
  (((w.alloc (.cells #[.string ⟨#[97]⟩] 9)).alloc (.cells [.int .i64 3, .int .i64 1, .string ⟨#[]⟩, .slice none 0 0, .slice none 0 0, .int .i64 3, .int .i64 (-2), .string ⟨#[]⟩, .slice none 0 0, .slice none 0 0, .int .i64 0, .int .i64 0, .string ⟨#[]⟩, .slice none 0 0, .slice none 0 0].toArray 26)).alloc (.cells #[.int .i64 5, .int .i64 0, .string ⟨#[]⟩, .slice none 0 0, .slice (some ⟨w.heap.size + 1, 0, none⟩) 3 3] 26)).alloc
    (.cells #[.int .i64 6, .int .i64 0, .string ⟨#[]⟩, .slice (some ⟨w.heap.size, 0, none⟩) 1 1, .slice (some ⟨w.heap.size + 1 + 1, 0, none⟩) 1 1] 26)
theorem box_new (W : World) (t : TypeId) (cs : Array Value) (p : Nat) (hp : W.heap.size = p) : Box (W.alloc (.cells cs t)) p t cs := by
  subst hp
  exact Box.laid W t cs
theorem awW5_facts (w : World) : Box (awW5 w) w.heap.size 9 #[.string ⟨#[97]⟩] ∧ Box (awW5 w) (w.heap.size + 1) 26 [.int .i64 3, .int .i64 1, .string ⟨#[]⟩, .slice none 0 0, .slice none 0 0, .int .i64 3, .int .i64 (-2), .string ⟨#[]⟩, .slice none 0 0, .slice none 0 0, .int .i64 0, .int .i64 0, .string ⟨#[]⟩, .slice none 0 0, .slice none 0 0].toArray ∧ Box (awW5 w) (w.heap.size + 1 + 1) 26 #[.int .i64 5, .int .i64 0, .string ⟨#[]⟩, .slice none 0 0, .slice (some ⟨w.heap.size + 1, 0, none⟩) 3 3] ∧
    Box (awW5 w) (w.heap.size + 1 + 1 + 1) 26 #[.int .i64 6, .int .i64 0, .string ⟨#[]⟩, .slice (some ⟨w.heap.size, 0, none⟩) 1 1, .slice (some ⟨w.heap.size + 1 + 1, 0, none⟩) 1 1] ∧ Below w.heap.size w (awW5 w) := by
  unfold awW5
  refine ⟨(((box_new w _ _ _ rfl).alloc _).alloc _).alloc _, ((box_new _ _ _ _ (by simp)).alloc _).alloc _, (box_new _ _ _ _ (by simp)).alloc _, box_new _ _ _ _ (by simp), ?_⟩
  exact ((((Below.refl _ _).alloc (Nat.le_refl _) _).alloc (by simp) _).alloc (by simp; omega) _).alloc (by simp; omega) _
theorem lies_flat (w : World) (S : Nat → Prop) (k n : Int) : Lies w S (.mk k n ⟨#[]⟩ [] []) [.int .i64 k, .int .i64 n, .string ⟨#[]⟩, .slice none 0 0, .slice none 0 0] := by
  rw [Lies]
  exact ⟨⟨Nat.zero_le _, by simp, Nat.zero_le _, Nat.zero_le _⟩, none, 0, none, 0, [], rfl, fun _ => rfl, fun _ => rfl, ⟨Nat.le_refl _, Nat.zero_le _⟩, ⟨Nat.le_refl _, Nat.zero_le _⟩, Rs.nil _ _ _, Rs.nil _ _ _, by rw [LiesL]⟩
theorem rs_boxW {w : World} {g : Nat} {t : TypeId} {cs : List Value} {S : Nat → Prop} (h : Box w g t cs.toArray) (hg : S g) : Rs w S (some ⟨g, 0, none⟩) cs := fun j u hj => ⟨g, 0, rfl, hg, by rw [Nat.zero_add]; exact h.cell (by simpa using hj)⟩
theorem aw5_lies {W : World} {g0 g1 g2 : Nat} (h0 : Box W g0 9 #[.string ⟨#[97]⟩]) (h1 : Box W g1 26 [.int .i64 3, .int .i64 1, .string ⟨#[]⟩, .slice none 0 0, .slice none 0 0, .int .i64 3, .int .i64 (-2), .string ⟨#[]⟩, .slice none 0 0, .slice none 0 0, .int .i64 0, .int .i64 0, .string ⟨#[]⟩, .slice none 0 0, .slice none 0 0].toArray) (h2 : Box W g2 26 #[.int .i64 5, .int .i64 0, .string ⟨#[]⟩, .slice none 0 0, .slice (some ⟨g1, 0, none⟩) 3 3]) :
    Lies W (· < W.heap.size) aw5V [.int .i64 6, .int .i64 0, .string ⟨#[]⟩, .slice (some ⟨g0, 0, none⟩) 1 1, .slice (some ⟨g2, 0, none⟩) 1 1] := by
  have hA : Lies W (· < W.heap.size) aw5A [.int .i64 5, .int .i64 0, .string ⟨#[]⟩, .slice none 0 0, .slice (some ⟨g1, 0, none⟩) 3 3] := by
    unfold aw5A
    rw [Lies]
    refine ⟨⟨Nat.zero_le _, by simp, by decide, by decide⟩, none, 0, some ⟨g1, 0, none⟩, 3, [.int .i64 3, .int .i64 1, .string ⟨#[]⟩, .slice none 0 0, .slice none 0 0, .int .i64 3, .int .i64 (-2), .string ⟨#[]⟩, .slice none 0 0, .slice none 0 0, .int .i64 0, .int .i64 0, .string ⟨#[]⟩, .slice none 0 0, .slice none 0 0], rfl, fun _ => rfl, (fun h => by cases h), ⟨Nat.le_refl _, Nat.zero_le _⟩, ⟨by decide, by decide⟩, Rs.nil _ _ _, rs_boxW h1 h1.lt, ?_⟩
    rw [LiesL]; refine ⟨_, _, rfl, lies_flat _ _ 3 1, ?_⟩
    rw [LiesL]; refine ⟨_, _, rfl, lies_flat _ _ 3 (-2), ?_⟩
    rw [LiesL]; refine ⟨_, _, rfl, lies_flat _ _ 0 0, ?_⟩
    rw [LiesL]
  unfold aw5V
  rw [Lies]
  refine ⟨⟨Nat.zero_le _, by simp; decide, by decide, by decide⟩, some ⟨g0, 0, none⟩, 1, some ⟨g2, 0, none⟩, 1, [.int .i64 5, .int .i64 0, .string ⟨#[]⟩, .slice none 0 0, .slice (some ⟨g1, 0, none⟩) 3 3], rfl, (fun h => by cases h), (fun h => by cases h), ⟨by decide, by decide⟩, ⟨by decide, by decide⟩, rs_boxW (cs := kv [⟨#[97]⟩]) h0 h0.lt, rs_boxW (cs := [.int .i64 5, .int .i64 0, .string ⟨#[]⟩, .slice none 0 0, .slice (some ⟨g1, 0, none⟩) 3 3]) h2 h2.lt, ?_⟩
  rw [LiesL]
  refine ⟨_, [], by simp, hA, ?_⟩
  rw [LiesL]
set_option maxHeartbeats 2000000 in
set_option maxRecDepth 100000 in
theorem awake5_any (w : World) (ht : TabS w) : Calls Tryz.prog 5 #[] w fun e w' => e = .returned (.bool true) ∧ Below w.heap.size w w' := by
  obtain ⟨f0, f1, f2, f3, f4⟩ := awW5_facts w
  have hT := Lib.hid (wText_any aw5V _ (awW5 w) (aw5_lies f0 f1 f2) aw5_rng (ht.next f4))
  have hS := Lib.hid (fun W (hW : Below (awW5 w).heap.size (awW5 w) W) => wSize_any aw5V _ W (below_lies hW (aw5_lies f0 f1 f2)) aw5_rng ((ht.next f4).next hW))
  rw [aw5_txt] at hT
  rw [aw5_txt] at hS
  have F3 := Lib.hid f3
  have F4 := Lib.hid f4
  clear f0 f1 f2 f3 f4 ht
  go_enter Tryz.func5, Tryz.ntmps5
  go_wp2_with fail
  refine hT.out.mono ?_
  rintro e w1 ⟨rfl, hb1⟩
  obtain ⟨t0, t1, t2, t3, t4⟩ := box5 (F3.out.below hb1 F3.out.lt)
  go_wp2_with (go_at_call 17; refine (hS.out _ hb1).mono ?_; rintro e w2 ⟨rfl, hb2⟩)
  go_ret
  exact ⟨rfl, chain F4.out (chain hb1 hb2)⟩
end Go.Proofs.YtmfjpcmbdgbjjaaGreatDoor
namespace Go.Proofs.YtmfjpcmbdgbjjaaGreatDoor
open Go.RowKit Go.Sort
theorem nrg_rng : ∀ v, nrg v → rng v := by
  refine V.ind fun k n s ks es ih h => ?_
  rw [nrg] at h
  rw [rng]
  exact ⟨h.1, rngL_iff.2 fun e he => ih e he (nrgL_iff.1 h.2 e he)⟩
/-- What is parsed, written and parsed again. -/
theorem canon_facts {l : List UInt8} {v : V} {τ : JS} (h : jparse l = some (v, τ)) (h0 : τ.err = 0) : rng v ∧ ∃ t : ByteArray, t = ⟨(txt v).toArray⟩ ∧ t.size ≤ 1048576 ∧ jparse t.data.toList = some (v, ⟨t.size, 0, 0, v.sz, vbyt v⟩) := by
  obtain ⟨g1, g2, g3, g4, g5⟩ := jparse_good h h0
  have hr := nrg_rng v g2
  have hv : valid v = true := (valid_iff v).2 ⟨g1, g3, g4, g5⟩
  have ht : txt v = wr v := by unfold txt; rw [if_pos hv]
  have hl := wr_len v g1 hr
  refine ⟨hr, _, rfl, ?_, ?_⟩
  · rw [ht]; show (wr v).toArray.size ≤ _; simp; omega
  · rw [ht]
    have := jparse_wr g1 g2 g3 g4 g5
    show jparse (wr v).toArray.toList = some (v, ⟨(wr v).toArray.size, 0, 0, v.sz, vbyt v⟩)
    simpa using this
theorem lies_low {w : World} {B : Nat} {v : V} {cs : List Value} (h : Lies w (Nw B w.heap.size) v cs) : Lies w (· < w.heap.size) v cs := h.move fun b hb => ⟨hb.2, rfl⟩
set_option maxHeartbeats 10000000 in
set_option maxRecDepth 100000 in
theorem canon_any (s : ByteArray) (w : World) (hT : TabS w) (hE : ErrIn w) : Calls Tryz.prog 3 #[.string s] w (fun e w' => e = .returned (.bool true) ∧ Below w.heap.size w w') := by
  have HT := Lib.hid hT
  have HE := Lib.hid hE
  have HAW := Lib.hid (fun W (hW : Below w.heap.size w W) => awake5_any W (hT.next hW))
  clear hT hE
  by_cases hs : s.size ≤ 200
  · obtain ⟨v, τ, hj⟩ := jparse_some s.data.toList
    have HP1 := Lib.hid (jp_any (by omega) hj w HE.out)
    by_cases h0 : τ.err = 0
    · obtain ⟨hr, t, htx, hts, hj2⟩ := canon_facts hj h0
      have H0 := Lib.hid h0
      have HP2 := Lib.hid (fun W (hW : Below w.heap.size w W) => jp_any hts hj2 W (HE.out.next hW))
      have HTX := Lib.hid (fun cs W (hL : Lies W (· < W.heap.size) v cs) (hW : Below w.heap.size w W) => wText_any v cs W hL hr (HT.out.next hW))
      rw [← htx] at HTX
      have HSM : Hid (∀ (cs ds : List Value) (W : World), Lies W (· < W.heap.size) v cs → Lies W (· < W.heap.size) v ds → Calls Tryz.prog 8 #[.agg cs.toArray, .agg ds.toArray] W fun e w' => e = .returned (.bool true) ∧ Below W.heap.size W w') := Lib.hid (fun cs ds W h1 h2 => by
        have h := same_any v v cs ds W h1 h2
        rw [(same_iff v v).2 rfl] at h
        exact h)
      rw [h0] at HP1
      clear hj hj2 hr htx hts h0
      go_enter Tryz.func3, Tryz.ntmps3
      go_wp2_with fail
      refine HP1.out.mono ?_
      rintro e w1 ⟨hb1, k1, n1, t1, A1, na1, ca1, B1, nb1, cb1, rfl, hl1⟩
      have HL1 := Lib.hid (lies_low (hl1 trivial))
      have HB1 := Lib.hid hb1
      clear hb1 hl1
      go_wp2_with fail
      have HL2 := Lib.hid (below_lies (below1 w1 (.cells #[.int .i64 k1, .int .i64 n1, .string t1, .slice A1 na1 ca1, .slice B1 nb1 cb1] 26)) HL1.out)
      have HB2 := Lib.hid (chain HB1.out (below1 w1 (.cells #[.int .i64 k1, .int .i64 n1, .string t1, .slice A1 na1 ca1, .slice B1 nb1 cb1] 26)))
      have HV2 := Lib.hid (Box.laid w1 26 #[.int .i64 k1, .int .i64 n1, .string t1, .slice A1 na1 ca1, .slice B1 nb1 cb1])
      refine (HTX.out [.int .i64 k1, .int .i64 n1, .string t1, .slice A1 na1 ca1, .slice B1 nb1 cb1] _ HL2.out HB2.out).mono ?_
      rintro e w3 ⟨rfl, hb3⟩
      have HL3 := Lib.hid (below_lies hb3 HL2.out)
      have HB3 := Lib.hid (chain HB2.out hb3)
      have HV3 := Lib.hid (HV2.out.below hb3 HV2.out.lt)
      clear hb3
      go_wp2_with fail
      refine (HP2.out _ HB3.out).mono ?_
      rintro e w4 ⟨hb4, k2, n2, t2, A2, na2, ca2, B2, nb2, cb2, rfl, hl4⟩
      have HL4 := Lib.hid (lies_low (hl4 trivial))
      have HL4' := Lib.hid (below_lies hb4 HL3.out)
      have HB4 := Lib.hid (chain HB3.out hb4)
      have HV4 := Lib.hid (HV3.out.below hb4 HV3.out.lt)
      clear hb4 hl4
      have HL5 := Lib.hid (below_lies (below1 w4 (.cells #[.int .i64 k2, .int .i64 n2, .string t2, .slice A2 na2 ca2, .slice B2 nb2 cb2] 26)) HL4.out)
      have HL5' := Lib.hid (below_lies (below1 w4 (.cells #[.int .i64 k2, .int .i64 n2, .string t2, .slice A2 na2 ca2, .slice B2 nb2 cb2] 26)) HL4'.out)
      have HB5 := Lib.hid (chain HB4.out (below1 w4 (.cells #[.int .i64 k2, .int .i64 n2, .string t2, .slice A2 na2 ca2, .slice B2 nb2 cb2] 26)))
      have HV5 := Lib.hid (HV4.out.alloc (.cells #[.int .i64 k2, .int .i64 n2, .string t2, .slice A2 na2 ca2, .slice B2 nb2 cb2] 26))
      have HW5 := Lib.hid (Box.laid w4 26 #[.int .i64 k2, .int .i64 n2, .string t2, .slice A2 na2 ca2, .slice B2 nb2 cb2])
      obtain ⟨y0, y1, y2, y3, y4⟩ := box5 HV4.out
      have hlt4 := HV4.out.lt
      have hne4 : ¬ w1.heap.size = w4.heap.size := by omega
      go_wp2_with fail
      refine (HSM.out [.int .i64 k1, .int .i64 n1, .string t1, .slice A1 na1 ca1, .slice B1 nb1 cb1] [.int .i64 k2, .int .i64 n2, .string t2, .slice A2 na2 ca2, .slice B2 nb2 cb2] _ HL5'.out HL5.out).mono ?_
      rintro e w6 ⟨rfl, hb6⟩
      have HL6 := Lib.hid (below_lies hb6 HL5.out)
      have HB6 := Lib.hid (chain HB5.out hb6)
      have HW6 := Lib.hid (HW5.out.below hb6 HW5.out.lt)
      clear hb6 y0 y1 y2 y3 y4
      obtain ⟨y0, y1, y2, y3, y4⟩ := box5 HW6.out
      go_wp2_with fail
      refine (HTX.out [.int .i64 k2, .int .i64 n2, .string t2, .slice A2 na2 ca2, .slice B2 nb2 cb2] _ HL6.out HB6.out).mono ?_
      rintro e w7 ⟨rfl, hb7⟩
      have HB7 := Lib.hid (chain HB6.out hb7)
      clear hb7
      go_wp2_with fail
      refine (HAW.out _ HB7.out).mono ?_
      rintro e w8 ⟨rfl, hb8⟩
      go_wp2_with fail
      go_ret
      exact ⟨rfl, chain HB7.out hb8⟩
    · have q : ((τ.err : Int) != 0) = true := by rw [bne_iff_ne]; omega
      have H0 := Lib.hid h0
      clear hj h0
      go_enter Tryz.func3, Tryz.ntmps3
      go_wp2_with fail
      refine HP1.out.mono ?_
      rintro e w1 ⟨hb1, k1, n1, t1, A1, na1, ca1, B1, nb1, cb1, rfl, hl1⟩
      have HB1 := Lib.hid hb1
      clear hb1 hl1
      go_wp2_with fail
      refine (HAW.out _ (chain HB1.out (below1 _ _))).mono ?_
      rintro e w2 ⟨rfl, hb2⟩
      go_wp2_with fail
      go_ret
      exact ⟨rfl, chain (chain HB1.out (below1 _ _)) hb2⟩
  · go_enter Tryz.func3, Tryz.ntmps3
    go_wp2_with fail
    refine (HAW.out _ (Below.refl _ _)).mono ?_
    rintro e w2 ⟨rfl, hb2⟩
    go_wp2_with fail
    go_ret
    exact ⟨rfl, hb2⟩
end Go.Proofs.YtmfjpcmbdgbjjaaGreatDoor
namespace Go.Proofs.YtmfjpcmbdgbjjaaGreatDoor
open Go.RowKit
theorem err_inJ {W : World} (h : laidMet Tryz.prog Rows.jsonwriteCanonicalRow.laid W) : ErrIn W := by
  have hL : laidMet Tryz.prog (_ :: _ :: _ :: _ :: _ :: []) W := h
  obtain ⟨a, s, hv, -, -, -⟩ := laid_sentinel (g := 2) (ti := 115) (tp := 232) hL.tail.tail.tail (by kernel_rfl) (by kernel_rfl) Tryz.underlying115
    (fun u hu => typeName_ptr_named (nm := "errors.errorString") (by kernel_rfl) (by kernel_rfl) (by decide) u (by refine hu.trans ?_; decide)) Tryz.underlying232 Tryz.underlying234 rfl rfl Tryz.underlying9 (by kernel_rfl) (by kernel_rfl)
  have h0 := World.var?_cell (g := 2) (by kernel_rfl) hv 0
  exact ⟨_, _, by simpa using h0⟩
set_option maxRecDepth 100000 in
theorem tab_inJ {W : World} (h : laidMet Tryz.prog Rows.jsonwriteCanonicalRow.laid W) : TabS W := by
  have h2 : laidMet Tryz.prog (_ :: ("math/bits.deBruijn64tab", Lib.tabData .u8 (Lib.deBruijn64tab.map Int.ofNat)) :: ("internal/strconv.uint64pow10", Lib.tabData .u64 Lib.pow10Tab) :: _ :: _ :: []) W := h
  have hp := Lib.tabIs_of_head (g := 0) (t := 193) (e := 121) (n := 20) (by kernel_rfl) (by kernel_rfl) Tryz.underlying193 Tryz.underlying121 (by kernel_rfl) (by kernel_rfl) h2.tail.tail
  have hz := Lib.tabIs_of_head (g := 7) (t := 236) (e := 5) (n := 64) (by kernel_rfl) (by kernel_rfl) Tryz.underlying236 Tryz.underlying5 (by kernel_rfl) (by kernel_rfl) h2.tail
  refine ⟨hp, fun j hj => ?_⟩
  have h3 := hz.cell (g := 7) (by kernel_rfl) j (by simpa using hj)
  rw [h3]
  congr 2
  simp [List.getD, List.getElem?_eq_getElem hj]
end Go.Proofs.YtmfjpcmbdgbjjaaGreatDoor

/- keep.Count and keep.Small: what a value takes. keep.Small: some answer, and nothing that was there has turned. Binary at values that are not valid; "+" at all values; ArithSums answers true for every three values. ArithStrings. text: the functions of the list that ask for a beginning or an end. -/
import Derived.Test.YtfmpdcmedaiooaaGreatDoorRows
import Derived.Test.YtfmpdcmedaiooaaGreatDoorU09
import Derived.Lib.Hide
import Derived.WalkSpells
import Derived.WalkLawsBesides
import Derived.Outline
import Derived.Test.YtfmpdcmedaiooaaGreatDoorU39
import Derived.Test.YtfmpdcmedaiooaaGreatDoorU38
import Derived.Test.YtfmpdcmedaiooaaGreatDoorU01
import Derived.Lib.AppendZerosOnto
import Derived.Deep.RegionHeld3
import Derived.Test.YtfmpdcmedaiooaaGreatDoorU30
import Derived.Test.YtfmpdcmedaiooaaGreatDoorU28
import Derived.Test.YtfmpdcmedaiooaaGreatDoorU10
import Derived.WalkKit
import Derived.Test.YtfmpdcmedaiooaaGreatDoorU11
import Derived.Test.YtfmpdcmedaiooaaGreatDoorU08
import Derived.Test.YtfmpdcmedaiooaaGreatDoorU12
import Derived.Deep.DeepCutAuto
import Derived.Shelf.Lays
import Derived.Shelf.Strings.Repeat
import Derived.Ground.NamesProg
import Derived.Lib.IndexMore
import Derived.Lib.RepeatB
set_option linter.unusedVariables false
set_option linter.unusedSimpArgs false
namespace Go.Proofs.YtfmpdcmedaiooaaGreatDoor
open Go.RowKit
mutual
/-- What Count counts: at most a little more than m. -/
def cnt : V → Int → Int
  | .mk _ _ s ks es, m => cntL es m (cntK ks m (1 + s.size))
def cntL : List V → Int → Int → Int
  | [], _, n => n
  | e :: es, m, n => if n ≤ m then cntL es m (n + cnt e (m - n)) else n
def cntK : List ByteArray → Int → Int → Int
  | [], _, n => n
  | x :: ks, m, n => if n ≤ m then cntK ks m (n + (1 + x.size)) else n
end
theorem cntK_drop {ks : List ByteArray} {i : Nat} {x : ByteArray} (hi : ks[i]? = some x) {m q : Int} (hq : q ≤ m) : cntK (ks.drop i) m q = cntK (ks.drop (i + 1)) m (q + (1 + x.size)) := by
  obtain ⟨hl, rfl⟩ := List.getElem?_eq_some_iff.1 hi
  rw [List.drop_eq_getElem_cons hl, cntK, if_pos hq]
theorem cntK_end {ks : List ByteArray} {i : Nat} {m q : Int} (h : ¬ (i < ks.length ∧ q ≤ m)) : cntK (ks.drop i) m q = q := by
  cases hd : ks.drop i with
  | nil => rw [cntK]
  | cons x r =>
    rw [cntK, if_neg]
    intro hq
    refine h ⟨?_, hq⟩
    have := congrArg List.length hd
    simp at this
    omega
theorem cntL_drop {es : List V} {i : Nat} {e : V} (hi : es[i]? = some e) {m q : Int} (hq : q ≤ m) : cntL (es.drop i) m q = cntL (es.drop (i + 1)) m (q + cnt e (m - q)) := by
  obtain ⟨hl, rfl⟩ := List.getElem?_eq_some_iff.1 hi
  rw [List.drop_eq_getElem_cons hl, cntL, if_pos hq]
theorem cntL_end {es : List V} {i : Nat} {m q : Int} (h : ¬ (i < es.length ∧ q ≤ m)) : cntL (es.drop i) m q = q := by
  cases hd : es.drop i with
  | nil => rw [cntL]
  | cons x r =>
    rw [cntL, if_neg]
    intro hq
    refine h ⟨?_, hq⟩
    have := congrArg List.length hd
    simp at this
    omega
theorem cntK_bd (ks : List ByteArray) (hk : ∀ x ∈ ks, x.size ≤ 140737488355328) (m n : Int) (hm : 0 ≤ m) (h1 : 1 ≤ n) (hn : n ≤ m + 281474976710656) : 1 ≤ cntK ks m n ∧ cntK ks m n ≤ m + 281474976710656 := by
  induction ks generalizing n with
  | nil => rw [cntK]; exact ⟨h1, hn⟩
  | cons x r ih =>
    rw [cntK]
    have := hk x (by simp)
    split
    · exact ih (fun y hy => hk y (by simp [hy])) _ (by omega) (by omega)
    · exact ⟨h1, hn⟩
theorem cnt_bd : ∀ v : V, v.Fit → ∀ m : Int, 0 ≤ m → 1 ≤ cnt v m ∧ cnt v m ≤ m + 281474976710656 := by
  refine V.ind fun k n s ks es ih hf m hm => ?_
  rw [V.Fit] at hf
  obtain ⟨h1, h2, h3, h4, hL⟩ := hf
  rw [cnt]
  have hK := cntK_bd ks h2 m (1 + s.size) hm (by omega) (by omega)
  generalize cntK ks m (1 + s.size) = q at hK
  clear h4
  induction es generalizing q with
  | nil => rw [cntL]; exact hK
  | cons e es ihl =>
    rw [V.FitL] at hL
    rw [cntL]
    split
    · have := ih e (by simp) hL.1 (m - q) (by omega)
      exact ihl (fun u hu => ih u (by simp [hu])) hL.2 _ ⟨by omega, by omega⟩
    · exact hK
set_option maxHeartbeats 1000000 in
theorem count_any : ∀ v : V, ∀ (cs : List Value) (w : World) (m : Int), Lies w (· < w.heap.size) v cs → 0 ≤ m → m ≤ 1000000 →
    Calls Tryz.prog 13 #[.agg cs.toArray, .int .i64 m] w fun e w' => e = .returned (.int .i64 (cnt v m)) ∧ Below w.heap.size w w' := by
  refine V.ind fun k n s ks es ih cs w m h hm0 hm1 => ?_
  have hf := lies_fit _ _ h
  rw [V.Fit] at hf
  obtain ⟨h1, h2, h3, h4, hFL⟩ := hf
  obtain ⟨A, a, B, b, xs, rfl, hAn, hBn, ⟨ha1, ha2⟩, ⟨hb1, hb2⟩, hA, hB, hL⟩ := lies_open h
  have HA := Lib.hid hA
  have HB := Lib.hid hB
  have HL := Lib.hid hL
  have IH := Lib.hid ih
  have H2 := Lib.hid h2
  have HF := Lib.hid hFL
  clear hA hB hL ih h2 hFL h hAn hBn
  show Calls _ _ #[.agg #[.int .i64 k, .int .i64 n, .string s, .slice A ks.length a, .slice B es.length b], .int .i64 m] w _
  go_enter Tryz.func13, Tryz.ntmps13
  go_wp2
  unfold maxLen at ha2 hb2
  go_loop [5, 6] (fun c t => ∃ (i : Nat) (q : Int), i ≤ ks.length ∧ t = .int .i64 i ∧ c = .int .i64 q ∧ 1 ≤ q ∧ q ≤ m + 281474976710656 ∧ cntK ks m (1 + s.size) = cntK (ks.drop i) m q) (fun _ t => ks.length - (intOf t).toNat)
  case atStart => exact ⟨0, _, Nat.zero_le _, rfl, rfl, by omega, by omega, rfl⟩
  case round =>
    obtain ⟨i, q, hi, rfl, rfl, hq1, hq2, hK0⟩ := hrel
    have hK := Lib.hid hK0
    clear hK0
    by_cases hgo : i < ks.length ∧ q ≤ m
    · obtain ⟨hlt, hqm⟩ := hgo
      obtain ⟨x, hx⟩ : ∃ x, ks[i]? = some x := ⟨_, List.getElem?_eq_getElem hlt⟩
      have hxs := H2.out x (List.mem_of_getElem? hx)
      obtain ⟨b0, o0, rfl, hb0, hc0⟩ := HA.out.at_ (kv_at hx)
      have hstep := Lib.hid (hK.out.trans (cntK_drop hx hqm))
      have hX := Lib.hid hx
      clear hx
      go_wp2
      go_round
      case rel => exact ⟨i + 1, _, by omega, by go_num, rfl, by omega, by omega, hstep.out⟩
      case measure => simp [intOf]; omega
    · have hkk := Lib.hid (hK.out.trans (cntK_end hgo))
      by_cases hlt : i < ks.length
      all_goals
        go_wp2
        go_loopw [5, 7] (fun c t wr => ∃ (i : Nat) (q : Int), i ≤ es.length ∧ t = .int .i64 i ∧ c = .int .i64 q ∧ 1 ≤ q ∧ q ≤ m + 281474976710656 ∧ cnt (.mk k n s ks es) m = cntL (es.drop i) m q ∧ Below (w.heap.size + 1) (w.alloc (.cells #[.int .i64 k, .int .i64 n, .string s, .slice A ks.length a, .slice B es.length b] 25)) wr) (fun _ t _ => es.length - (intOf t).toNat)
        case atStart => exact ⟨0, _, Nat.zero_le _, rfl, rfl, hq1, hq2, by rw [cnt, hkk.out]; rfl, Below.refl _ _⟩
        case round =>
          clear hK hkk hlt hgo hi hq1 hq2
          obtain ⟨i, q, hi, rfl, rfl, hq1, hq2, hK0, hbel⟩ := hrel
          have hK := Lib.hid hK0
          clear hK0
          have hbox := box_cell hbel 4 _ rfl
          by_cases hgo : i < es.length ∧ q ≤ m
          · obtain ⟨hlt, hqm⟩ := hgo
            obtain ⟨e, he⟩ : ∃ e, es[i]? = some e := ⟨_, List.getElem?_eq_getElem hlt⟩
            obtain ⟨b0, o0, v0, v1, v2, v3, v4, rfl, hb0, hle, c0, c1, c2, c3, c4⟩ := elem_cells HB.out HL.out he
            have d0 := old_cell hbel hb0 c0
            have d1 := old_cell hbel hb0 c1
            have d2 := old_cell hbel hb0 c2
            have d3 := old_cell hbel hb0 c3
            have d4 := old_cell hbel hb0 c4
            clear c0 c1 c2 c3 c4
            have hstep := Lib.hid (hK.out.trans (cntL_drop he hqm))
            have hcb := cnt_bd e (fitL_mem HF.out (List.mem_of_getElem? he)) (m - q) (by omega)
            have hcall := Lib.hid (IH.out e (List.mem_of_getElem? he) [v0, v1, v2, v3, v4] wr (m - q) (old_lies hbel hle) (by omega) (by omega))
            have hX := Lib.hid he
            clear he hle
            go_wp2_with fail
            refine hcall.out.mono ?_
            rintro e' w' ⟨rfl, hb⟩
            go_wp2
            go_roundw
            case rel => exact ⟨i + 1, _, by omega, by go_num, rfl, by omega, by omega, hstep.out, hbel.trans (hb.mono (by have := hbel.size; simp at this; omega))⟩
            case measure => simp [intOf]; omega
          · have hkk := Lib.hid (hK.out.trans (cntL_end hgo))
            by_cases hlt : i < es.length
            all_goals
              go_wp2
              go_ret
              exact ⟨ret_int hkk.out.symm, below_old hbel⟩
end Go.Proofs.YtfmpdcmedaiooaaGreatDoor
namespace Go.Proofs.YtfmpdcmedaiooaaGreatDoor
open Go.RowKit Go.Sort
/-- What Small answers. -/
def smallP (m : Int) (l : List V) : Bool := l.all fun v => decide (cnt v m ≤ m)
def smallFrom (m : Int) (l : List V) (i : Nat) : Prop := smallP m l = smallP m (l.drop i)
theorem small_step {m : Int} {l : List V} {i : Nat} {e : V} (he : l[i]? = some e) (h : smallFrom m l i) : smallP m l = (decide (cnt e m ≤ m) && smallP m (l.drop (i + 1))) := by
  obtain ⟨h1, rfl⟩ := List.getElem?_eq_some_iff.1 he
  unfold smallFrom at h
  rw [h, List.drop_eq_getElem_cons h1]
  rfl
set_option maxHeartbeats 1000000 in
set_option maxRecDepth 100000 in
theorem small_any (m : Int) (l : List V) (A : Option Addr) (c : Nat) (xs : List Value) (w : World) (h : Row w A l xs) (hn : l.length ≤ 140737488355328) (hm0 : 0 ≤ m) (hm1 : m ≤ 1000000) :
    Calls Tryz.prog 4 #[.int .i64 m, .slice A l.length c] w fun e w' => e = .returned (.bool (smallP m l)) ∧ Below w.heap.size w w' := by
  have HR := Lib.hid h
  clear h
  go_enter Tryz.func4, Tryz.ntmps4
  go_wp2_with fail
  go_loopw [5] (fun t wr => ∃ i : Nat, i ≤ l.length ∧ t = .int .i64 i ∧ smallFrom m l i ∧ Below w.heap.size w wr) (fun t _ => l.length - (intOf t).toNat)
  case atStart => exact ⟨0, Nat.zero_le _, rfl, by unfold smallFrom; rw [List.drop_zero], Below.refl _ _⟩
  case round =>
    obtain ⟨i, hi, rfl, he0, hbel⟩ := hrel
    have HE := Lib.hid he0
    clear he0
    by_cases hlt : i < l.length
    · obtain ⟨e, he⟩ : ∃ e, l[i]? = some e := ⟨_, List.getElem?_eq_getElem hlt⟩
      have hst := Lib.hid (small_step he HE.out)
      have hv := count_any e
      obtain ⟨ek, en, es', eks, ees⟩ := e
      obtain ⟨bq, oq, A1, a1, C1, c1, rfl, hbq, hle, d0, d1, d2, d3, d4⟩ := elem_open HR.out.rs HR.out.lies he
      have q0 := below_cell hbel hbq d0
      have q1 := below_cell hbel hbq d1
      have q2 := below_cell hbel hbq d2
      have q3 := below_cell hbel hbq d3
      have q4 := below_cell hbel hbq d4
      clear d0 d1 d2 d3 d4
      have HC := Lib.hid (hv [.int .i64 ek, .int .i64 en, .string es', .slice A1 eks.length a1, .slice C1 ees.length c1] wr m (below_lies hbel hle) hm0 hm1)
      clear hv he hle
      generalize cnt (.mk ek en es' eks ees) m = x at HC hst
      by_cases hx : x ≤ m
      · have hst2 : Hid (smallFrom m l (i + 1)) := Lib.hid (by unfold smallFrom; rw [hst.out, decide_eq_true hx, Bool.true_and])
        have hx2 : ¬ m < x := by omega
        clear hst
        go_wp2_with fail
        refine HC.out.mono ?_
        rintro e1 w1 ⟨rfl, hb1⟩
        go_wp2_with fail
        go_roundw
        case rel => exact ⟨i + 1, by omega, by go_num, hst2.out, chain hbel hb1⟩
        case measure => simp [intOf]; omega
      · have hst2 : Hid (smallP m l = false) := Lib.hid (by rw [hst.out, decide_eq_false hx, Bool.false_and])
        have hx2 : m < x := by omega
        clear hst
        go_wp2_with fail
        refine HC.out.mono ?_
        rintro e1 w1 ⟨rfl, hb1⟩
        go_wp2_with fail
        go_ret
        exact ⟨ret_bool hst2.out.symm, chain hbel hb1⟩
    · have hend : Hid (smallP m l = true) := Lib.hid (by
        have := HE.out
        unfold smallFrom at this
        rw [this, List.drop_eq_nil_of_le (by omega)]
        rfl)
      go_wp2_with fail
      go_ret
      exact ⟨ret_bool hend.out.symm, hbel⟩
theorem one_row {w : World} {v : V} {k n : Int} {s : ByteArray} {ks : List ByteArray} {es : List V} {A C : Option Addr} {a c : Nat} {g : Nat}
    (h : Lies w (· < w.heap.size) v [.int .i64 k, .int .i64 n, .string s, .slice A ks.length a, .slice C es.length c]) (hg : Box w g 25 #[.int .i64 k, .int .i64 n, .string s, .slice A ks.length a, .slice C es.length c]) :
    Row w (some ⟨g, 0, none⟩) [v] [.int .i64 k, .int .i64 n, .string s, .slice A ks.length a, .slice C es.length c] := by
  refine ⟨rs_box (cs := [.int .i64 k, .int .i64 n, .string s, .slice A ks.length a, .slice C es.length c]) hg hg.lt, ?_⟩
  rw [LiesL]
  exact ⟨_, [], by simp, h, by rw [LiesL]⟩
end Go.Proofs.YtfmpdcmedaiooaaGreatDoor
namespace Go.Proofs.YtfmpdcmedaiooaaGreatDoor
open Go.RowKit Go.Sort
/-- A value in a box. -/
structure Vx (w : World) (g : Nat) (v : V) (c : List Value) : Prop where
  box : Box w g 25 c.toArray
  lies : Lies w (· < w.heap.size) v c
theorem Vx.next {w w' : World} {g : Nat} {v : V} {c : List Value} (h : Vx w g v c) (hb : Below w.heap.size w w') : Vx w' g v c := ⟨h.box.below hb h.box.lt, below_lies hb h.lies⟩
theorem Vx.new {w : World} {v : V} {c : List Value} (h : Lies w (· < w.heap.size) v c) : Vx (w.alloc (.cells c.toArray 25)) w.heap.size v c := ⟨Box.laid _ _ _, below_lies (below1 _ _) h⟩
end Go.Proofs.YtfmpdcmedaiooaaGreatDoor
namespace Go.Proofs.YtfmpdcmedaiooaaGreatDoor
open Go.RowKit Go.Sort
theorem below_dr {w0 W : World} (h : Below w0.heap.size w0 W) : Below w0.heap.size w0 W.drew := h.drew
/-- What stands in the middle of a region that lays one value's box: nothing old has turned; the box, if it is laid, is zero. -/
structure Sb (w0 W : World) (z : Option Nat) : Prop where
  below : Below w0.heap.size w0 W
  box : ∀ g, z = some g → w0.heap.size ≤ g ∧ Box W g 25 #[.int .i64 0, .int .i64 0, .string ⟨#[]⟩, .slice none 0 0, .slice none 0 0]
theorem Sb.start (w : World) : Sb w w none := ⟨Below.refl _ _, fun g h => by cases h⟩
theorem Sb.drew {w0 W : World} {z : Option Nat} (h : Sb w0 W z) : Sb w0 W.drew z := ⟨below_dr h.below, fun g e => h.box g e⟩
theorem Sb.call {w0 W W' : World} {z : Option Nat} (hb : Below W.heap.size W W') (h : Sb w0 W z) : Sb w0 W' z :=
  ⟨chain h.below hb, fun g e => ⟨(h.box g e).1, (h.box g e).2.below hb (h.box g e).2.lt⟩⟩
theorem valid_str {s : ByteArray} (h : okS s = true) (hs : s.size ≤ 4096) : valid (strV s) = true := by
  rw [valid_iff]
  unfold strV
  refine ⟨?_, ?_, ?_, ?_⟩
  · rw [good, goodL]
    have h1 : fits 4 0 s ([] : List ByteArray).length ([] : List V).length = true := by
      unfold fits
      simp
    rw [h1]
    simp [h, hs, keysOk]
  · rw [dep]; simp
  · rw [V.sz, V.szL]; decide
  · rw [vbyt, vbytL]; simp [kb]; omega
theorem str_ok {s : ByteArray} (h : okS s = true) (hs : s.size ≤ 4096) : strR s = strV s ∧ strE s = 0 := by
  rw [(strR_ok h).1, (strR_ok h).2, finV_ok (valid_str h hs), finE_ok (valid_str h hs)]
  exact ⟨rfl, rfl⟩
/-- A string that a call hands back. -/
theorem str_open {f : FuncId} {args : Array Value} {w : World} {s : ByteArray} {err : Int} (h : Calls Tryz.prog f args w (RetPost (strV s) err w)) :
    Calls Tryz.prog f args w fun e w' => ∃ (A : Option Addr) (a : Nat) (B : Option Addr) (b : Nat), e = .returned (.tuple #[.agg #[.int .i64 4, .int .i64 0, .string s, .slice A 0 a, .slice B 0 b], .int .i64 err]) ∧ Below w.heap.size w w' ∧
      Lies w' (· < w'.heap.size) (strV s) [.int .i64 4, .int .i64 0, .string s, .slice A 0 a, .slice B 0 b] := by
  refine h.mono fun e w' hp => ?_
  obtain ⟨hb, ds, rfl, hl⟩ := hp
  have hl2 := hl
  unfold strV at hl2
  obtain ⟨A, a, B, b, xs, rfl, _⟩ := lies_open hl2
  exact ⟨A, a, B, b, rfl, hb, hl.move fun b hb => ⟨hb.2, rfl⟩⟩
end Go.Proofs.YtfmpdcmedaiooaaGreatDoor
namespace Go.Proofs.YtfmpdcmedaiooaaGreatDoor
open Go.RowKit Go.Sort
/-- The blocks of a function on two strings. -/
structure T2 (w : World) (s t : ByteArray) (W : World) : Prop where
  below : Below w.heap.size w W
  x : Box W w.heap.size 65 #[.string s, .string t]
  r : Box W (w.heap.size + 1) 25 #[.int .i64 0, .int .i64 0, .string ⟨#[]⟩, .slice none 0 0, .slice none 0 0]
theorem T2.start (w : World) (s t : ByteArray) : T2 w s t ((w.alloc (.cells #[.string s, .string t] 65)).alloc (.cells #[.int .i64 0, .int .i64 0, .string ⟨#[]⟩, .slice none 0 0, .slice none 0 0] 25)) :=
  ⟨(((Below.refl _ _).alloc (Nat.le_refl _) _).alloc (by simp) _), (Box.laid w _ _).alloc _, box_at _ _ _ _ (by simp)⟩
theorem T2.next {w W W' : World} {s t : ByteArray} (h : T2 w s t W) (hb : Below W.heap.size W W') : T2 w s t W' :=
  ⟨chain h.below hb, h.x.below hb h.x.lt, h.r.below hb h.r.lt⟩
set_option maxHeartbeats 4000000 in
set_option maxRecDepth 100000 in
theorem m_cutPrefix (s t r : ByteArray) (w : World) (hr : (⟨(Lib.trimPrefix s.data.toList t.data.toList).toArray⟩ : ByteArray) = r) (hr2 : r.size ≤ 140737488355328) : Calls Tryz.prog 55 #[.agg #[.string s, .string t]] w (RetPost (strR r) (strE r) w) := by
  have HP := Lib.hid (fun W => trimPre_lib s t W)
  rw [hr] at HP
  have HB := Lib.hid (fun W => ret_open (str_any r W hr2))
  have H0 := Lib.hid (T2.start w s t)
  clear hr hr2
  go_enter Tryz.func55, Tryz.ntmps55
  go_wp2_with fail
  refine (HP.out _).mono ?_
  rintro e1 w1 ⟨rfl, hw1⟩
  rw [hw1]
  clear hw1
  go_wp2_with fail
  refine (HB.out _).mono ?_
  rintro e2 w2 ⟨rk, rn, rs, rks, res, RA, ra, RC, rc, hrv, rfl, hb2, hl2⟩
  have H2 := Lib.hid (H0.out.next hb2)
  have HL := Lib.hid hl2
  have hs2 := H2.out.r.lt
  clear hb2 hl2 hrv
  obtain ⟨y0, y1, y2, y3, y4⟩ := box5 H2.out.r
  have z0 := H2.out.r.free 0
  have z1 := H2.out.r.free 1
  have z2 := H2.out.r.free 2
  have z3 := H2.out.r.free 3
  have z4 := H2.out.r.free 4
  go_wp2_with fail
  refine bodyPost_ret (v := .tuple #[.agg #[.int .i64 rk, .int .i64 rn, .string rs, .slice RA rks.length ra, .slice RC res.length rc], .int .i64 (strE r)]) (by simp [results, Tryz.results55, go_sem, y0, y1, y2, y3, y4]) rfl ?_
  exact ret_put H2.out.below (by omega) H2.out.r.lt (HL.out.move fun b hb => ⟨⟨by have := hb.1; simp at this; omega, hb.2, by have := hb.1; simp at this; omega⟩, rfl⟩)
end Go.Proofs.YtfmpdcmedaiooaaGreatDoor

/- keep.Count and keep.Small: what a value takes. keep.Small: some answer, and nothing that was there has turned. Binary at values that are not valid; "+" at all values; ArithSums answers true for every three values. -/
import Derived.Test.YtjafmdngbphacaaGreatDoorRows
import Derived.Test.YtjafmdngbphacaaGreatDoorM01
import Derived.Lib.Hide
import Derived.WalkSpells
import Derived.WalkLawsBesides
import Derived.Outline
import Derived.Test.YtjafmdngbphacaaGreatDoorM24
import Derived.Test.YtjafmdngbphacaaGreatDoorM29
import Derived.Test.YtjafmdngbphacaaGreatDoorM40
import Derived.WalkKit
import Derived.Test.YtjafmdngbphacaaGreatDoorM14
import Derived.Test.YtjafmdngbphacaaGreatDoorM07
import Derived.Test.YtjafmdngbphacaaGreatDoorM17
import Derived.Test.YtjafmdngbphacaaGreatDoorM30
import Derived.Deep.RegionHeld3
import Derived.Deep.DeepCutAuto
set_option linter.unusedVariables false
set_option linter.unusedSimpArgs false
namespace Go.Proofs.YtjafmdngbphacaaGreatDoor
open Go.RowKit
mutual
/-- What Count counts: at most a little more than m. -/
def cnt : V → Int → Int
  | .mk _ _ s ks es, m => cntL es m (cntK ks m (1 + s.size))
def cntL : List V → Int → Int → Int
  | [], _, n => n
  | e :: es, m, n => if n ≤ m then cntL es m (n + cnt e (m - n)) else n
def cntK : List ByteArray → Int → Int → Int
  | [], _, n => n
  | x :: ks, m, n => if n ≤ m then cntK ks m (n + (1 + x.size)) else n
end
theorem cntK_drop {ks : List ByteArray} {i : Nat} {x : ByteArray} (hi : ks[i]? = some x) {m q : Int} (hq : q ≤ m) : cntK (ks.drop i) m q = cntK (ks.drop (i + 1)) m (q + (1 + x.size)) := by
  obtain ⟨hl, rfl⟩ := List.getElem?_eq_some_iff.1 hi
  rw [List.drop_eq_getElem_cons hl, cntK, if_pos hq]
theorem cntK_end {ks : List ByteArray} {i : Nat} {m q : Int} (h : ¬ (i < ks.length ∧ q ≤ m)) : cntK (ks.drop i) m q = q := by
  cases hd : ks.drop i with
  | nil => rw [cntK]
  | cons x r =>
    rw [cntK, if_neg]
    intro hq
    refine h ⟨?_, hq⟩
    have := congrArg List.length hd
    simp at this
    omega
theorem cntL_drop {es : List V} {i : Nat} {e : V} (hi : es[i]? = some e) {m q : Int} (hq : q ≤ m) : cntL (es.drop i) m q = cntL (es.drop (i + 1)) m (q + cnt e (m - q)) := by
  obtain ⟨hl, rfl⟩ := List.getElem?_eq_some_iff.1 hi
  rw [List.drop_eq_getElem_cons hl, cntL, if_pos hq]
theorem cntL_end {es : List V} {i : Nat} {m q : Int} (h : ¬ (i < es.length ∧ q ≤ m)) : cntL (es.drop i) m q = q := by
  cases hd : es.drop i with
  | nil => rw [cntL]
  | cons x r =>
    rw [cntL, if_neg]
    intro hq
    refine h ⟨?_, hq⟩
    have := congrArg List.length hd
    simp at this
    omega
theorem cntK_bd (ks : List ByteArray) (hk : ∀ x ∈ ks, x.size ≤ 140737488355328) (m n : Int) (hm : 0 ≤ m) (h1 : 1 ≤ n) (hn : n ≤ m + 281474976710656) : 1 ≤ cntK ks m n ∧ cntK ks m n ≤ m + 281474976710656 := by
  induction ks generalizing n with
  | nil => rw [cntK]; exact ⟨h1, hn⟩
  | cons x r ih =>
    rw [cntK]
    have := hk x (by simp)
    split
    · exact ih (fun y hy => hk y (by simp [hy])) _ (by omega) (by omega)
    · exact ⟨h1, hn⟩
theorem cnt_bd : ∀ v : V, v.Fit → ∀ m : Int, 0 ≤ m → 1 ≤ cnt v m ∧ cnt v m ≤ m + 281474976710656 := by
  refine V.ind fun k n s ks es ih hf m hm => ?_
  rw [V.Fit] at hf
  obtain ⟨h1, h2, h3, h4, hL⟩ := hf
  rw [cnt]
  have hK := cntK_bd ks h2 m (1 + s.size) hm (by omega) (by omega)
  generalize cntK ks m (1 + s.size) = q at hK
  clear h4
  induction es generalizing q with
  | nil => rw [cntL]; exact hK
  | cons e es ihl =>
    rw [V.FitL] at hL
    rw [cntL]
    split
    · have := ih e (by simp) hL.1 (m - q) (by omega)
      exact ihl (fun u hu => ih u (by simp [hu])) hL.2 _ ⟨by omega, by omega⟩
    · exact hK
set_option maxHeartbeats 1000000 in
theorem count_any : ∀ v : V, ∀ (cs : List Value) (w : World) (m : Int), Lies w (· < w.heap.size) v cs → 0 ≤ m → m ≤ 1000000 →
    Calls Tryz.prog 67 #[.agg cs.toArray, .int .i64 m] w fun e w' => e = .returned (.int .i64 (cnt v m)) ∧ Below w.heap.size w w' := by
  refine V.ind fun k n s ks es ih cs w m h hm0 hm1 => ?_
  have hf := lies_fit _ _ h
  rw [V.Fit] at hf
  obtain ⟨h1, h2, h3, h4, hFL⟩ := hf
  obtain ⟨A, a, B, b, xs, rfl, hAn, hBn, ⟨ha1, ha2⟩, ⟨hb1, hb2⟩, hA, hB, hL⟩ := lies_open h
  have HA := Lib.hid hA
  have HB := Lib.hid hB
  have HL := Lib.hid hL
  have IH := Lib.hid ih
  have H2 := Lib.hid h2
  have HF := Lib.hid hFL
  clear hA hB hL ih h2 hFL h hAn hBn
  show Calls _ _ #[.agg #[.int .i64 k, .int .i64 n, .string s, .slice A ks.length a, .slice B es.length b], .int .i64 m] w _
  go_enter Tryz.func67, Tryz.ntmps67
  go_wp2
  unfold maxLen at ha2 hb2
  go_loop [5, 6] (fun c t => ∃ (i : Nat) (q : Int), i ≤ ks.length ∧ t = .int .i64 i ∧ c = .int .i64 q ∧ 1 ≤ q ∧ q ≤ m + 281474976710656 ∧ cntK ks m (1 + s.size) = cntK (ks.drop i) m q) (fun _ t => ks.length - (intOf t).toNat)
  case atStart => exact ⟨0, _, Nat.zero_le _, rfl, rfl, by omega, by omega, rfl⟩
  case round =>
    obtain ⟨i, q, hi, rfl, rfl, hq1, hq2, hK0⟩ := hrel
    have hK := Lib.hid hK0
    clear hK0
    by_cases hgo : i < ks.length ∧ q ≤ m
    · obtain ⟨hlt, hqm⟩ := hgo
      obtain ⟨x, hx⟩ : ∃ x, ks[i]? = some x := ⟨_, List.getElem?_eq_getElem hlt⟩
      have hxs := H2.out x (List.mem_of_getElem? hx)
      obtain ⟨b0, o0, rfl, hb0, hc0⟩ := HA.out.at_ (kv_at hx)
      have hstep := Lib.hid (hK.out.trans (cntK_drop hx hqm))
      have hX := Lib.hid hx
      clear hx
      go_wp2
      go_round
      case rel => exact ⟨i + 1, _, by omega, by go_num, rfl, by omega, by omega, hstep.out⟩
      case measure => simp [intOf]; omega
    · have hkk := Lib.hid (hK.out.trans (cntK_end hgo))
      by_cases hlt : i < ks.length
      all_goals
        go_wp2
        go_loopw [5, 7] (fun c t wr => ∃ (i : Nat) (q : Int), i ≤ es.length ∧ t = .int .i64 i ∧ c = .int .i64 q ∧ 1 ≤ q ∧ q ≤ m + 281474976710656 ∧ cnt (.mk k n s ks es) m = cntL (es.drop i) m q ∧ Below (w.heap.size + 1) (w.alloc (.cells #[.int .i64 k, .int .i64 n, .string s, .slice A ks.length a, .slice B es.length b] 25)) wr) (fun _ t _ => es.length - (intOf t).toNat)
        case atStart => exact ⟨0, _, Nat.zero_le _, rfl, rfl, hq1, hq2, by rw [cnt, hkk.out]; rfl, Below.refl _ _⟩
        case round =>
          clear hK hkk hlt hgo hi hq1 hq2
          obtain ⟨i, q, hi, rfl, rfl, hq1, hq2, hK0, hbel⟩ := hrel
          have hK := Lib.hid hK0
          clear hK0
          have hbox := box_cell hbel 4 _ rfl
          by_cases hgo : i < es.length ∧ q ≤ m
          · obtain ⟨hlt, hqm⟩ := hgo
            obtain ⟨e, he⟩ : ∃ e, es[i]? = some e := ⟨_, List.getElem?_eq_getElem hlt⟩
            obtain ⟨b0, o0, v0, v1, v2, v3, v4, rfl, hb0, hle, c0, c1, c2, c3, c4⟩ := elem_cells HB.out HL.out he
            have d0 := old_cell hbel hb0 c0
            have d1 := old_cell hbel hb0 c1
            have d2 := old_cell hbel hb0 c2
            have d3 := old_cell hbel hb0 c3
            have d4 := old_cell hbel hb0 c4
            clear c0 c1 c2 c3 c4
            have hstep := Lib.hid (hK.out.trans (cntL_drop he hqm))
            have hcb := cnt_bd e (fitL_mem HF.out (List.mem_of_getElem? he)) (m - q) (by omega)
            have hcall := Lib.hid (IH.out e (List.mem_of_getElem? he) [v0, v1, v2, v3, v4] wr (m - q) (old_lies hbel hle) (by omega) (by omega))
            have hX := Lib.hid he
            clear he hle
            go_wp2_with fail
            refine hcall.out.mono ?_
            rintro e' w' ⟨rfl, hb⟩
            go_wp2
            go_roundw
            case rel => exact ⟨i + 1, _, by omega, by go_num, rfl, by omega, by omega, hstep.out, hbel.trans (hb.mono (by have := hbel.size; simp at this; omega))⟩
            case measure => simp [intOf]; omega
          · have hkk := Lib.hid (hK.out.trans (cntL_end hgo))
            by_cases hlt : i < es.length
            all_goals
              go_wp2
              go_ret
              exact ⟨ret_int hkk.out.symm, below_old hbel⟩
end Go.Proofs.YtjafmdngbphacaaGreatDoor
namespace Go.Proofs.YtjafmdngbphacaaGreatDoor
open Go.RowKit Go.Sort
/-- What Small answers. -/
def smallP (m : Int) (l : List V) : Bool := l.all fun v => decide (cnt v m ≤ m)
def smallFrom (m : Int) (l : List V) (i : Nat) : Prop := smallP m l = smallP m (l.drop i)
theorem small_step {m : Int} {l : List V} {i : Nat} {e : V} (he : l[i]? = some e) (h : smallFrom m l i) : smallP m l = (decide (cnt e m ≤ m) && smallP m (l.drop (i + 1))) := by
  obtain ⟨h1, rfl⟩ := List.getElem?_eq_some_iff.1 he
  unfold smallFrom at h
  rw [h, List.drop_eq_getElem_cons h1]
  rfl
set_option maxHeartbeats 1000000 in
set_option maxRecDepth 100000 in
theorem small_any (m : Int) (l : List V) (A : Option Addr) (c : Nat) (xs : List Value) (w : World) (h : Row w A l xs) (hn : l.length ≤ 140737488355328) (hm0 : 0 ≤ m) (hm1 : m ≤ 1000000) :
    Calls Tryz.prog 12 #[.int .i64 m, .slice A l.length c] w fun e w' => e = .returned (.bool (smallP m l)) ∧ Below w.heap.size w w' := by
  have HR := Lib.hid h
  clear h
  go_enter Tryz.func12, Tryz.ntmps12
  go_wp2_with fail
  go_loopw [5] (fun t wr => ∃ i : Nat, i ≤ l.length ∧ t = .int .i64 i ∧ smallFrom m l i ∧ Below w.heap.size w wr) (fun t _ => l.length - (intOf t).toNat)
  case atStart => exact ⟨0, Nat.zero_le _, rfl, by unfold smallFrom; rw [List.drop_zero], Below.refl _ _⟩
  case round =>
    obtain ⟨i, hi, rfl, he0, hbel⟩ := hrel
    have HE := Lib.hid he0
    clear he0
    by_cases hlt : i < l.length
    · obtain ⟨e, he⟩ : ∃ e, l[i]? = some e := ⟨_, List.getElem?_eq_getElem hlt⟩
      have hst := Lib.hid (small_step he HE.out)
      have hv := count_any e
      obtain ⟨ek, en, es', eks, ees⟩ := e
      obtain ⟨bq, oq, A1, a1, C1, c1, rfl, hbq, hle, d0, d1, d2, d3, d4⟩ := elem_open HR.out.rs HR.out.lies he
      have q0 := below_cell hbel hbq d0
      have q1 := below_cell hbel hbq d1
      have q2 := below_cell hbel hbq d2
      have q3 := below_cell hbel hbq d3
      have q4 := below_cell hbel hbq d4
      clear d0 d1 d2 d3 d4
      have HC := Lib.hid (hv [.int .i64 ek, .int .i64 en, .string es', .slice A1 eks.length a1, .slice C1 ees.length c1] wr m (below_lies hbel hle) hm0 hm1)
      clear hv he hle
      generalize cnt (.mk ek en es' eks ees) m = x at HC hst
      by_cases hx : x ≤ m
      · have hst2 : Hid (smallFrom m l (i + 1)) := Lib.hid (by unfold smallFrom; rw [hst.out, decide_eq_true hx, Bool.true_and])
        have hx2 : ¬ m < x := by omega
        clear hst
        go_wp2_with fail
        refine HC.out.mono ?_
        rintro e1 w1 ⟨rfl, hb1⟩
        go_wp2_with fail
        go_roundw
        case rel => exact ⟨i + 1, by omega, by go_num, hst2.out, chain hbel hb1⟩
        case measure => simp [intOf]; omega
      · have hst2 : Hid (smallP m l = false) := Lib.hid (by rw [hst.out, decide_eq_false hx, Bool.false_and])
        have hx2 : m < x := by omega
        clear hst
        go_wp2_with fail
        refine HC.out.mono ?_
        rintro e1 w1 ⟨rfl, hb1⟩
        go_wp2_with fail
        go_ret
        exact ⟨ret_bool hst2.out.symm, chain hbel hb1⟩
    · have hend : Hid (smallP m l = true) := Lib.hid (by
        have := HE.out
        unfold smallFrom at this
        rw [this, List.drop_eq_nil_of_le (by omega)]
        rfl)
      go_wp2_with fail
      go_ret
      exact ⟨ret_bool hend.out.symm, hbel⟩
end Go.Proofs.YtjafmdngbphacaaGreatDoor
namespace Go.Proofs.YtjafmdngbphacaaGreatDoor
open Go.RowKit Go.Sort
set_option maxHeartbeats 20000000 in
set_option maxRecDepth 100000 in
theorem bin_inv (op : ByteArray) (v u : V) (cs ds : List Value) (w : World) (h : Lies w (· < w.heap.size) v cs) (h' : Lies w (· < w.heap.size) u ds) (hn : (valid v && valid u) = false) :
    Calls Tryz.prog 15 #[.string op, .agg cs.toArray, .agg ds.toArray] w (RetPost vnull 1 w) := by
  have HV := Lib.hid (fun W (hW : Below w.heap.size w W) => valid_any v cs W (below_lies hW h))
  have HU := Lib.hid (fun W (hW : Below w.heap.size w W) => valid_any u ds W (below_lies hW h'))
  generalize valid v = x at HV hn
  generalize valid u = y at HU hn
  obtain ⟨k1, n1, s1, ks1, es1⟩ := v
  obtain ⟨A1, a1, B1, b1, xs1, rfl, _⟩ := lies_open h
  obtain ⟨k2, n2, s2, ks2, es2⟩ := u
  obtain ⟨A2, a2, B2, b2, xs2, rfl, _⟩ := lies_open h'
  clear h h'
  generalize ks1.length = l1 at *
  generalize es1.length = m1 at *
  generalize ks2.length = l2 at *
  generalize es2.length = m2 at *
  show Calls _ _ #[_, .agg #[.int .i64 k1, .int .i64 n1, .string s1, .slice A1 l1 a1, .slice B1 m1 b1], .agg #[.int .i64 k2, .int .i64 n2, .string s2, .slice A2 l2 a2, .slice B2 m2 b2]] w _
  have H0 := Lib.hid (B3.start w #[.int .i64 k1, .int .i64 n1, .string s1, .slice A1 l1 a1, .slice B1 m1 b1] #[.int .i64 k2, .int .i64 n2, .string s2, .slice A2 l2 a2, .slice B2 m2 b2])
  cases x with
  | false =>
    go_enter Tryz.func15, Tryz.ntmps15
    go_wp2_with fail
    refine (HV.out _ H0.out.below).mono ?_
    rintro e1 w1 ⟨rfl, hb1⟩
    have H1 := Lib.hid (H0.out.next hb1)
    obtain ⟨t0, t1, t2, t3, t4⟩ := box5 H1.out.r
    have z0 := H1.out.r.free 0
    have z1 := H1.out.r.free 1
    have z2 := H1.out.r.free 2
    have z3 := H1.out.r.free 3
    have z4 := H1.out.r.free 4
    clear hb1 H0
    go_wp2_with fail
    refine bodyPost_ret (v := .tuple #[.agg #[.int .i64 0, .int .i64 0, .string ⟨#[]⟩, .slice none 0 0, .slice none 0 0], .int .i64 1]) (by simp [results, Tryz.results15, go_sem, t0, t1, t2, t3, t4]) rfl ?_
    exact ret_put H1.out.below (by omega) H1.out.r.lt (lies_null _ _)
  | true =>
    have hy : y = false := by simpa using hn
    subst hy
    go_enter Tryz.func15, Tryz.ntmps15
    go_wp2_with fail
    refine (HV.out _ H0.out.below).mono ?_
    rintro e1 w1 ⟨rfl, hb1⟩
    have H1 := Lib.hid (H0.out.next hb1)
    obtain ⟨y0, y1, y2, y3, y4⟩ := box5 H1.out.y
    clear hb1 H0
    go_wp2_with fail
    refine (HU.out _ H1.out.below).mono ?_
    rintro e2 w2 ⟨rfl, hb2⟩
    have H2 := Lib.hid (H1.out.next hb2)
    clear hb2 y0 y1 y2 y3 y4
    obtain ⟨t0, t1, t2, t3, t4⟩ := box5 H2.out.r
    have z0 := H2.out.r.free 0
    have z1 := H2.out.r.free 1
    have z2 := H2.out.r.free 2
    have z3 := H2.out.r.free 3
    have z4 := H2.out.r.free 4
    go_wp2_with fail
    refine bodyPost_ret (v := .tuple #[.agg #[.int .i64 0, .int .i64 0, .string ⟨#[]⟩, .slice none 0 0, .slice none 0 0], .int .i64 1]) (by simp [results, Tryz.results15, go_sem, t0, t1, t2, t3, t4]) rfl ?_
    exact ret_put H2.out.below (by omega) H2.out.r.lt (lies_null _ _)
/-- The sum of two values. -/
def sumF (v u : V) : V × Int := if (valid v && valid u) = true then sumR v u else (vnull, 1)
theorem sumF_ok {v u : V} (h : valid v = true) (k : valid u = true) : sumF v u = sumR v u := by unfold sumF; rw [h, k]; rfl
theorem sum_full (v u : V) (cs ds : List Value) (w : World) (h : Lies w (· < w.heap.size) v cs) (h' : Lies w (· < w.heap.size) u ds) :
    Calls Tryz.prog 15 #[.string ⟨#[43]⟩, .agg cs.toArray, .agg ds.toArray] w (RetPost (sumF v u).1 (sumF v u).2 w) := by
  unfold sumF
  by_cases c : (valid v && valid u) = true
  · rw [if_pos c]
    have := c
    rw [Bool.and_eq_true] at this
    exact sum_any v u cs ds w h h' this.1 this.2
  · rw [if_neg c]
    exact bin_inv _ v u cs ds w h h' (by simpa using c)
/-- A value in a box. -/
structure Vx (w : World) (g : Nat) (v : V) (c : List Value) : Prop where
  box : Box w g 25 c.toArray
  lies : Lies w (· < w.heap.size) v c
theorem Vx.next {w w' : World} {g : Nat} {v : V} {c : List Value} (h : Vx w g v c) (hb : Below w.heap.size w w') : Vx w' g v c := ⟨h.box.below hb h.box.lt, below_lies hb h.lies⟩
theorem Vx.new {w : World} {v : V} {c : List Value} (h : Lies w (· < w.heap.size) v c) : Vx (w.alloc (.cells c.toArray 25)) w.heap.size v c := ⟨Box.laid _ _ _, below_lies (below1 _ _) h⟩
theorem same_selfx {v : V} {cs ds : List Value} {W : World} (h : Lies W (· < W.heap.size) v cs) (k : Lies W (· < W.heap.size) v ds) : Calls Tryz.prog 17 #[.agg cs.toArray, .agg ds.toArray] W fun e w' => e = .returned (.bool true) ∧ Below W.heap.size W w' := by
  have := same_any v v cs ds W h k
  rw [(same_iff v v).2 rfl] at this
  exact this
end Go.Proofs.YtjafmdngbphacaaGreatDoor

/- The chapter's second example, plain. The laws' sanity check: the chapter's second example. keep.Count and keep.Small: what a value takes. keep.Small: some answer, and nothing that was there has turned. -/
import Derived.Test.YtgdnkankleoaoaaObj2
import Derived.Test.YtgdnkankleoaoaaRows
import Derived.Test.YtgdnkankleoaoaaVal
import Derived.Lib.Hide
import Derived.WalkSpells
import Derived.WalkLawsBesides
import Derived.Outline
set_option linter.unusedVariables false
set_option linter.unusedSimpArgs false
namespace Go.Proofs.Ytgdnkankleoaoaa
open Go.RowKit Go.Sort
def sA : ByteArray := ⟨#[97]⟩
def sB : ByteArray := ⟨#[98]⟩
def mB1 : Mb := ⟨sB, 3, 1, ⟨#[]⟩, [], [], none, 0, none, 0⟩
def mA2 : Mb := ⟨sA, 3, 2, ⟨#[]⟩, [], [], none, 0, none, 0⟩
def mB3 : Mb := ⟨sB, 3, 3, ⟨#[]⟩, [], [], none, 0, none, 0⟩
def aw3 : List Mb := [mB1, mA2, mB3]
theorem aw_srt : srt aw3 = [mA2, mB1, mB3] := by
  have h3 : aw3.length = 3 := rfl
  have e1 : insInner (Go.Proofs.ltOf mcf) 0 1 aw3.toArray = #[mA2, mB1, mB3] := rfl
  have e2 : insInner (Go.Proofs.ltOf mcf) 0 2 #[mA2, mB1, mB3] = #[mA2, mB1, mB3] := rfl
  unfold srt insertionSort
  rw [h3, insOuter, if_pos (by decide), insOuter, if_pos (by decide), insOuter, if_neg (by decide), e1, e2]
theorem aw_last : lastOf (srt aw3) = [mA2, mB3] := by
  rw [aw_srt]
  have h1 : ¬ mB1.key = mA2.key := by
    intro h
    have := (scmp_zero mB1.key mA2.key).2 h
    exact absurd this (by decide)
  have h2 : mB3.key = mB1.key := rfl
  rw [lastOf_keep h1, lastOf_same h2]
  rfl
theorem aw_obj : objV (lastOf (srt aw3)) = .mk 6 0 ⟨#[]⟩ [sA, sB] [.mk 3 2 ⟨#[]⟩ [] [], .mk 3 3 ⟨#[]⟩ [] []] := by rw [aw_last]; rfl
theorem aw_valid : valid (.mk 6 0 ⟨#[]⟩ [sA, sB] [.mk 3 2 ⟨#[]⟩ [] [], .mk 3 3 ⟨#[]⟩ [] []]) = true := by decide +kernel
theorem aw_all : (aw3.map Mb.v).all valid = true := by decide +kernel
theorem aw_keys : (aw3.map Mb.key).all okS = true := by decide +kernel
theorem aw_ret : objR aw3 = .mk 6 0 ⟨#[]⟩ [sA, sB] [.mk 3 2 ⟨#[]⟩ [] [], .mk 3 3 ⟨#[]⟩ [] []] ∧ objE aw3 = 0 := by
  unfold objR objE
  rw [if_pos aw_all, if_pos aw_all, if_pos aw_keys, if_pos aw_keys, aw_obj]
  unfold finV finE
  rw [if_pos aw_valid, if_pos aw_valid]
  exact ⟨rfl, rfl⟩
end Go.Proofs.Ytgdnkankleoaoaa
namespace Go.Proofs.Ytgdnkankleoaoaa
open Go.RowKit Go.Sort
theorem rs_box {w : World} {g : Nat} {t : TypeId} {cs : List Value} {S : Nat → Prop} (h : Box w g t cs.toArray) (hg : S g) : Rs w S (some ⟨g, 0, none⟩) cs := fun j u hj => ⟨g, 0, rfl, hg, by rw [Nat.zero_add]; exact h.cell (by simpa using hj)⟩
def awXs : List Value := [.int .i64 3, .int .i64 1, .string ⟨#[]⟩, .slice none 0 0, .slice none 0 0, .int .i64 3, .int .i64 2, .string ⟨#[]⟩, .slice none 0 0, .slice none 0 0, .int .i64 3, .int .i64 3, .string ⟨#[]⟩, .slice none 0 0, .slice none 0 0]
theorem lies_num (w : World) (S : Nat → Prop) (n : Int) : Lies w S (.mk 3 n ⟨#[]⟩ [] []) [.int .i64 3, .int .i64 n, .string ⟨#[]⟩, .slice none 0 0, .slice none 0 0] := by
  rw [Lies]
  exact ⟨⟨Nat.zero_le _, by simp, Nat.zero_le _, Nat.zero_le _⟩, none, 0, none, 0, [], rfl, fun _ => rfl, fun _ => rfl, ⟨Nat.le_refl _, Nat.zero_le _⟩, ⟨Nat.le_refl _, Nat.zero_le _⟩, Rs.nil _ _ _, Rs.nil _ _ _, by rw [LiesL]⟩
theorem aw_row {w : World} {g : Nat} (h : Box w g 28 awXs.toArray) : Row w (some ⟨g, 0, none⟩) (aw3.map Mb.v) awXs := by
  refine ⟨rs_box h h.lt, ?_⟩
  show LiesL w _ [.mk 3 1 ⟨#[]⟩ [] [], .mk 3 2 ⟨#[]⟩ [] [], .mk 3 3 ⟨#[]⟩ [] []] awXs
  rw [LiesL]
  refine ⟨_, _, rfl, lies_num _ _ 1, ?_⟩
  rw [LiesL]
  refine ⟨_, _, rfl, lies_num _ _ 2, ?_⟩
  rw [LiesL]
  refine ⟨_, _, rfl, lies_num _ _ 3, ?_⟩
  rw [LiesL]
theorem aw_at {w : World} {g : Nat} (h : Box w g 28 awXs.toArray) : ∀ i m, aw3[i]? = some m → MAt w (· < w.heap.size) (some ⟨g, 0, none⟩) i m := by
  intro i m hm
  match i, hm with
  | 0, hm => simp [aw3] at hm; subst hm; exact ⟨⟨g, 0, rfl, h.lt, h.cell rfl, h.cell rfl, h.cell rfl, h.cell rfl, h.cell rfl⟩, lies_num _ _ 1⟩
  | 1, hm => simp [aw3] at hm; subst hm; exact ⟨⟨g, 0, rfl, h.lt, h.cell rfl, h.cell rfl, h.cell rfl, h.cell rfl, h.cell rfl⟩, lies_num _ _ 2⟩
  | 2, hm => simp [aw3] at hm; subst hm; exact ⟨⟨g, 0, rfl, h.lt, h.cell rfl, h.cell rfl, h.cell rfl, h.cell rfl, h.cell rfl⟩, lies_num _ _ 3⟩
  | n + 3, hm => simp [aw3] at hm
def awV : V := .mk 6 0 ⟨#[]⟩ [sA, sB] [.mk 3 2 ⟨#[]⟩ [] [], .mk 3 3 ⟨#[]⟩ [] []]
theorem aw_obj_any {w : World} {k g : Nat} (hk : Box w k 9 #[.string sB, .string sA, .string sB]) (hg : Box w g 28 awXs.toArray) :
    Calls Try.prog 9 #[.slice (some ⟨k, 0, none⟩) 3 3, .slice (some ⟨g, 0, none⟩) 3 3] w fun e w' => ∃ (A : Option Addr) (a : Nat) (b o c : Nat), e = .returned (.tuple #[.agg #[.int .i64 6, .int .i64 0, .string ⟨#[]⟩, .slice A 2 a, .slice (some ⟨b, o, none⟩) 2 c], .int .i64 0]) ∧ Below w.heap.size w w' ∧
      Lies w' (· < w'.heap.size) awV [.int .i64 6, .int .i64 0, .string ⟨#[]⟩, .slice A 2 a, .slice (some ⟨b, o, none⟩) 2 c] ∧ Rs w' (· < w'.heap.size) A (kv [sA, sB]) ∧ b < w'.heap.size ∧ w'.cell? ⟨b, o + 5 + 1, none⟩ = some (.int .i64 3) := by
  have h := obj_any aw3 (some ⟨k, 0, none⟩) (some ⟨g, 0, none⟩) 3 3 awXs w (rs_box (cs := [.string sB, .string sA, .string sB]) hk hk.lt) (aw_row hg) (aw_at hg) (by decide) (by intro m hm; simp [aw3] at hm; rcases hm with rfl | rfl | rfl <;> decide)
  rw [aw_ret.1, aw_ret.2] at h
  refine h.mono ?_
  rintro e w' ⟨hb, ds, rfl, hl⟩
  obtain ⟨A, a, B, b, xs, rfl, -, -, -, -, hA, hB, hL⟩ := lies_open hl
  obtain ⟨p, o, e, hp, hc⟩ := hB.at_ (show xs[6]? = some (.int .i64 3) by
    obtain ⟨c, hc, hx⟩ := hL.at_ (i := 1) (e := .mk 3 3 ⟨#[]⟩ [] []) rfl
    have := hx 1 (by omega)
    obtain ⟨_, _, _, _, _, rfl, _⟩ := lies_open hc
    simpa using this)
  subst e
  exact ⟨A, a, p, o, b, rfl, hb, hl.move fun x hx => ⟨hx.2, rfl⟩, hA.move fun x hx => ⟨hx.2, rfl⟩, hp.2, by rw [Nat.add_assoc]; exact hc⟩
theorem aw_truth : truthP awV = true := by decide +kernel
theorem aw_name : nameP awV = ⟨#[111, 98, 106, 101, 99, 116]⟩ := by decide +kernel
set_option maxHeartbeats 2000000 in
set_option maxRecDepth 100000 in
theorem awake_any (w : World) : Calls Try.prog 8 #[] w fun e w' => e = .returned (.bool true) ∧ Below w.heap.size w w' := by
  have hn := Lib.hid (fun (n : Int) W => num_any n W)
  go_enter Try.func8, Try.ntmps8
  go_wp2_with fail
  refine (hn.out _ _).mono ?_
  rintro e1 w1 ⟨rfl, hb1⟩
  go_wp2_with fail
  refine (hn.out _ _).mono ?_
  rintro e2 w2 ⟨rfl, hb2⟩
  go_wp2_with fail
  refine (hn.out _ _).mono ?_
  rintro e3 w3 ⟨rfl, hb3⟩
  have hb13 := chain hb1 (chain hb2 hb3)
  have hB3 := Lib.hid (chain ((Below.refl w.heap.size w).alloc (Nat.le_refl _) (.cells #[.string sB, .string sA, .string sB] 9)) hb13)
  have hK3 := Lib.hid ((Box.laid w 9 #[.string sB, .string sA, .string sB]).below hb13 (by simp))
  clear hb1 hb2 hb3 hb13
  have hobj := Lib.hid (aw_obj_any (hK3.out.alloc (.cells awXs.toArray 28)) (Box.laid w3 28 awXs.toArray))
  go_wp2_with fail
  refine hobj.out.mono ?_
  rintro e4 w4 ⟨A, a, b, o, c, rfl, hb4, hl4, hA4, hbl4, hc4⟩
  have hB4 := Lib.hid (chain hB3.out (chain ((Below.refl _ _).alloc (Nat.le_refl _) _) hb4))
  have HL4 := Lib.hid hl4
  have HA4 := Lib.hid hA4
  have HC4 := Lib.hid hc4
  clear hb4 hl4 hA4 hc4 hobj
  have hbx : Hid (∀ o1 : Obj, Box ((w4.alloc o1).alloc (.cells #[.string sA, .string sB] 9)) (w4.heap.size + 1) 9 #[.string sA, .string sB]) := Lib.hid (fun o1 => by
    have := Box.laid (w4.alloc o1) 9 #[.string sA, .string sB]
    simpa using this)
  have hs := Lib.hid (fun o1 => strings_any A (some ⟨w4.heap.size + 1, 0, none⟩) a 2 [sA, sB] [sA, sB] (· < w4.heap.size) (fun _ => True) ((w4.alloc o1).alloc (.cells #[.string sA, .string sB] 9)) (HA4.out.move fun x hx => ⟨hx, by rw [Below.heap_alloc _ _ _ (by simp; omega), Below.heap_alloc _ _ _ hx]⟩) (rs_box (cs := [.string sA, .string sB]) (hbx.out o1) trivial) (by decide) |>.mono (R' := fun e w' => e = .returned (.bool true) ∧ ∃ m, w' = ((w4.alloc o1).alloc (.cells #[.string sA, .string sB] 9)).drewN m) fun e w' h => ⟨h.1.trans (by simp), h.2⟩)
  go_wp2_with fail
  refine (hs.out _).mono ?_
  rintro e5 w5 ⟨rfl, m, rfl⟩
  obtain ⟨o1, ho1⟩ : ∃ O, O = Obj.cells #[.int .i64 6, .int .i64 0, .string ⟨#[]⟩, .slice A 2 a, .slice (some ⟨b, o, none⟩) 2 c] 28 := ⟨_, rfl⟩
  obtain ⟨w6, hw6⟩ : ∃ W, W = ((w4.alloc o1).alloc (.cells #[.string sA, .string sB] 9)).drewN m := ⟨_, rfl⟩
  have hb6 : Below w4.heap.size w4 w6 := by rw [hw6]; exact below_drewN (((Below.refl _ _).alloc (Nat.le_refl _) _).alloc (by simp) _) m
  have hx6 : Box w6 w4.heap.size 28 #[.int .i64 6, .int .i64 0, .string ⟨#[]⟩, .slice A 2 a, .slice (some ⟨b, o, none⟩) 2 c] := by
    rw [hw6, ho1]
    exact ((Box.laid w4 _ _).alloc _).drewN m
  have hc6 := below_cell hb6 hbl4 HC4.out
  have hl6 := Lib.hid (below_lies hb6 HL4.out)
  have hB6 := Lib.hid (chain hB4.out hb6)
  rw [← ho1, ← hw6]
  obtain ⟨t0, t1, t2, t3, t4⟩ := box5 hx6
  have hw46 := hb6.size
  have hx6 := Lib.hid hx6
  clear ho1 hw6 hs hbx hb6
  have q := hc6
  rw [Nat.add_assoc] at q
  go_wp2_with fail
  have ht := truthy_any awV _ w6 hl6.out
  rw [aw_truth] at ht
  refine ht.mono ?_
  rintro e7 w7 ⟨rfl, hb7⟩
  have hnm := typeName_any awV _ w7 (below_lies hb7 hl6.out)
  rw [aw_name] at hnm
  have hHN := Lib.hid hnm
  obtain ⟨u0, u1, u2, u3, u4⟩ := box5 (hx6.out.below hb7 hx6.out.lt)
  have hB7 := Lib.hid (chain hB6.out hb7)
  clear t0 t1 t2 t3 t4 hc6 q hnm hb7 ht
  go_wp2_with fail
  refine hHN.out.mono ?_
  rintro e8 w8 ⟨rfl, hb8⟩
  go_wp2_with fail
  go_ret
  exact ⟨rfl, chain hB7.out hb8⟩
end Go.Proofs.Ytgdnkankleoaoaa
namespace Go.Proofs.Ytgdnkankleoaoaa
open Go.RowKit
mutual
/-- What Count counts: at most a little more than m. -/
def cnt : V → Int → Int
  | .mk _ _ s ks es, m => cntL es m (cntK ks m (1 + s.size))
def cntL : List V → Int → Int → Int
  | [], _, n => n
  | e :: es, m, n => if n ≤ m then cntL es m (n + cnt e (m - n)) else n
def cntK : List ByteArray → Int → Int → Int
  | [], _, n => n
  | x :: ks, m, n => if n ≤ m then cntK ks m (n + (1 + x.size)) else n
end
theorem cntK_drop {ks : List ByteArray} {i : Nat} {x : ByteArray} (hi : ks[i]? = some x) {m q : Int} (hq : q ≤ m) : cntK (ks.drop i) m q = cntK (ks.drop (i + 1)) m (q + (1 + x.size)) := by
  obtain ⟨hl, rfl⟩ := List.getElem?_eq_some_iff.1 hi
  rw [List.drop_eq_getElem_cons hl, cntK, if_pos hq]
theorem cntK_end {ks : List ByteArray} {i : Nat} {m q : Int} (h : ¬ (i < ks.length ∧ q ≤ m)) : cntK (ks.drop i) m q = q := by
  cases hd : ks.drop i with
  | nil => rw [cntK]
  | cons x r =>
    rw [cntK, if_neg]
    intro hq
    refine h ⟨?_, hq⟩
    have := congrArg List.length hd
    simp at this
    omega
theorem cntL_drop {es : List V} {i : Nat} {e : V} (hi : es[i]? = some e) {m q : Int} (hq : q ≤ m) : cntL (es.drop i) m q = cntL (es.drop (i + 1)) m (q + cnt e (m - q)) := by
  obtain ⟨hl, rfl⟩ := List.getElem?_eq_some_iff.1 hi
  rw [List.drop_eq_getElem_cons hl, cntL, if_pos hq]
theorem cntL_end {es : List V} {i : Nat} {m q : Int} (h : ¬ (i < es.length ∧ q ≤ m)) : cntL (es.drop i) m q = q := by
  cases hd : es.drop i with
  | nil => rw [cntL]
  | cons x r =>
    rw [cntL, if_neg]
    intro hq
    refine h ⟨?_, hq⟩
    have := congrArg List.length hd
    simp at this
    omega
theorem cntK_bd (ks : List ByteArray) (hk : ∀ x ∈ ks, x.size ≤ 140737488355328) (m n : Int) (hm : 0 ≤ m) (h1 : 1 ≤ n) (hn : n ≤ m + 281474976710656) : 1 ≤ cntK ks m n ∧ cntK ks m n ≤ m + 281474976710656 := by
  induction ks generalizing n with
  | nil => rw [cntK]; exact ⟨h1, hn⟩
  | cons x r ih =>
    rw [cntK]
    have := hk x (by simp)
    split
    · exact ih (fun y hy => hk y (by simp [hy])) _ (by omega) (by omega)
    · exact ⟨h1, hn⟩
theorem cnt_bd : ∀ v : V, v.Fit → ∀ m : Int, 0 ≤ m → 1 ≤ cnt v m ∧ cnt v m ≤ m + 281474976710656 := by
  refine V.ind fun k n s ks es ih hf m hm => ?_
  rw [V.Fit] at hf
  obtain ⟨h1, h2, h3, h4, hL⟩ := hf
  rw [cnt]
  have hK := cntK_bd ks h2 m (1 + s.size) hm (by omega) (by omega)
  generalize cntK ks m (1 + s.size) = q at hK
  clear h4
  induction es generalizing q with
  | nil => rw [cntL]; exact hK
  | cons e es ihl =>
    rw [V.FitL] at hL
    rw [cntL]
    split
    · have := ih e (by simp) hL.1 (m - q) (by omega)
      exact ihl (fun u hu => ih u (by simp [hu])) hL.2 _ ⟨by omega, by omega⟩
    · exact hK
set_option maxHeartbeats 1000000 in
theorem count_any : ∀ v : V, ∀ (cs : List Value) (w : World) (m : Int), Lies w (· < w.heap.size) v cs → 0 ≤ m → m ≤ 1000000 →
    Calls Try.prog 20 #[.agg cs.toArray, .int .i64 m] w fun e w' => e = .returned (.int .i64 (cnt v m)) ∧ Below w.heap.size w w' := by
  refine V.ind fun k n s ks es ih cs w m h hm0 hm1 => ?_
  have hf := lies_fit _ _ h
  rw [V.Fit] at hf
  obtain ⟨h1, h2, h3, h4, hFL⟩ := hf
  obtain ⟨A, a, B, b, xs, rfl, hAn, hBn, ⟨ha1, ha2⟩, ⟨hb1, hb2⟩, hA, hB, hL⟩ := lies_open h
  have HA := Lib.hid hA
  have HB := Lib.hid hB
  have HL := Lib.hid hL
  have IH := Lib.hid ih
  have H2 := Lib.hid h2
  have HF := Lib.hid hFL
  clear hA hB hL ih h2 hFL h hAn hBn
  show Calls _ _ #[.agg #[.int .i64 k, .int .i64 n, .string s, .slice A ks.length a, .slice B es.length b], .int .i64 m] w _
  go_enter Try.func20, Try.ntmps20
  go_wp2
  unfold maxLen at ha2 hb2
  go_loop [5, 6] (fun c t => ∃ (i : Nat) (q : Int), i ≤ ks.length ∧ t = .int .i64 i ∧ c = .int .i64 q ∧ 1 ≤ q ∧ q ≤ m + 281474976710656 ∧ cntK ks m (1 + s.size) = cntK (ks.drop i) m q) (fun _ t => ks.length - (intOf t).toNat)
  case atStart => exact ⟨0, _, Nat.zero_le _, rfl, rfl, by omega, by omega, rfl⟩
  case round =>
    obtain ⟨i, q, hi, rfl, rfl, hq1, hq2, hK0⟩ := hrel
    have hK := Lib.hid hK0
    clear hK0
    by_cases hgo : i < ks.length ∧ q ≤ m
    · obtain ⟨hlt, hqm⟩ := hgo
      obtain ⟨x, hx⟩ : ∃ x, ks[i]? = some x := ⟨_, List.getElem?_eq_getElem hlt⟩
      have hxs := H2.out x (List.mem_of_getElem? hx)
      obtain ⟨b0, o0, rfl, hb0, hc0⟩ := HA.out.at_ (kv_at hx)
      have hstep := Lib.hid (hK.out.trans (cntK_drop hx hqm))
      have hX := Lib.hid hx
      clear hx
      go_wp2
      go_round
      case rel => exact ⟨i + 1, _, by omega, by go_num, rfl, by omega, by omega, hstep.out⟩
      case measure => simp [intOf]; omega
    · have hkk := Lib.hid (hK.out.trans (cntK_end hgo))
      by_cases hlt : i < ks.length
      all_goals
        go_wp2
        go_loopw [5, 7] (fun c t wr => ∃ (i : Nat) (q : Int), i ≤ es.length ∧ t = .int .i64 i ∧ c = .int .i64 q ∧ 1 ≤ q ∧ q ≤ m + 281474976710656 ∧ cnt (.mk k n s ks es) m = cntL (es.drop i) m q ∧ Below (w.heap.size + 1) (w.alloc (.cells #[.int .i64 k, .int .i64 n, .string s, .slice A ks.length a, .slice B es.length b] 28)) wr) (fun _ t _ => es.length - (intOf t).toNat)
        case atStart => exact ⟨0, _, Nat.zero_le _, rfl, rfl, hq1, hq2, by rw [cnt, hkk.out]; rfl, Below.refl _ _⟩
        case round =>
          clear hK hkk hlt hgo hi hq1 hq2
          obtain ⟨i, q, hi, rfl, rfl, hq1, hq2, hK0, hbel⟩ := hrel
          have hK := Lib.hid hK0
          clear hK0
          have hbox := box_cell hbel 4 _ rfl
          by_cases hgo : i < es.length ∧ q ≤ m
          · obtain ⟨hlt, hqm⟩ := hgo
            obtain ⟨e, he⟩ : ∃ e, es[i]? = some e := ⟨_, List.getElem?_eq_getElem hlt⟩
            obtain ⟨b0, o0, v0, v1, v2, v3, v4, rfl, hb0, hle, c0, c1, c2, c3, c4⟩ := elem_cells HB.out HL.out he
            have d0 := old_cell hbel hb0 c0
            have d1 := old_cell hbel hb0 c1
            have d2 := old_cell hbel hb0 c2
            have d3 := old_cell hbel hb0 c3
            have d4 := old_cell hbel hb0 c4
            clear c0 c1 c2 c3 c4
            have hstep := Lib.hid (hK.out.trans (cntL_drop he hqm))
            have hcb := cnt_bd e (fitL_mem HF.out (List.mem_of_getElem? he)) (m - q) (by omega)
            have hcall := Lib.hid (IH.out e (List.mem_of_getElem? he) [v0, v1, v2, v3, v4] wr (m - q) (old_lies hbel hle) (by omega) (by omega))
            have hX := Lib.hid he
            clear he hle
            go_wp2_with fail
            refine hcall.out.mono ?_
            rintro e' w' ⟨rfl, hb⟩
            go_wp2
            go_roundw
            case rel => exact ⟨i + 1, _, by omega, by go_num, rfl, by omega, by omega, hstep.out, hbel.trans (hb.mono (by have := hbel.size; simp at this; omega))⟩
            case measure => simp [intOf]; omega
          · have hkk := Lib.hid (hK.out.trans (cntL_end hgo))
            by_cases hlt : i < es.length
            all_goals
              go_wp2
              go_ret
              exact ⟨ret_int hkk.out.symm, below_old hbel⟩
end Go.Proofs.Ytgdnkankleoaoaa
namespace Go.Proofs.Ytgdnkankleoaoaa
open Go.RowKit Go.Sort
/-- What Small answers. -/
def smallP (m : Int) (l : List V) : Bool := l.all fun v => decide (cnt v m ≤ m)
def smallFrom (m : Int) (l : List V) (i : Nat) : Prop := smallP m l = smallP m (l.drop i)
theorem small_step {m : Int} {l : List V} {i : Nat} {e : V} (he : l[i]? = some e) (h : smallFrom m l i) : smallP m l = (decide (cnt e m ≤ m) && smallP m (l.drop (i + 1))) := by
  obtain ⟨h1, rfl⟩ := List.getElem?_eq_some_iff.1 he
  unfold smallFrom at h
  rw [h, List.drop_eq_getElem_cons h1]
  rfl
set_option maxHeartbeats 1000000 in
set_option maxRecDepth 100000 in
theorem small_any (m : Int) (l : List V) (A : Option Addr) (c : Nat) (xs : List Value) (w : World) (h : Row w A l xs) (hn : l.length ≤ 140737488355328) (hm0 : 0 ≤ m) (hm1 : m ≤ 1000000) :
    Calls Try.prog 7 #[.int .i64 m, .slice A l.length c] w fun e w' => e = .returned (.bool (smallP m l)) ∧ Below w.heap.size w w' := by
  have HR := Lib.hid h
  clear h
  go_enter Try.func7, Try.ntmps7
  go_wp2_with fail
  go_loopw [5] (fun t wr => ∃ i : Nat, i ≤ l.length ∧ t = .int .i64 i ∧ smallFrom m l i ∧ Below w.heap.size w wr) (fun t _ => l.length - (intOf t).toNat)
  case atStart => exact ⟨0, Nat.zero_le _, rfl, by unfold smallFrom; rw [List.drop_zero], Below.refl _ _⟩
  case round =>
    obtain ⟨i, hi, rfl, he0, hbel⟩ := hrel
    have HE := Lib.hid he0
    clear he0
    by_cases hlt : i < l.length
    · obtain ⟨e, he⟩ : ∃ e, l[i]? = some e := ⟨_, List.getElem?_eq_getElem hlt⟩
      have hst := Lib.hid (small_step he HE.out)
      have hv := count_any e
      obtain ⟨ek, en, es', eks, ees⟩ := e
      obtain ⟨bq, oq, A1, a1, C1, c1, rfl, hbq, hle, d0, d1, d2, d3, d4⟩ := elem_open HR.out.rs HR.out.lies he
      have q0 := below_cell hbel hbq d0
      have q1 := below_cell hbel hbq d1
      have q2 := below_cell hbel hbq d2
      have q3 := below_cell hbel hbq d3
      have q4 := below_cell hbel hbq d4
      clear d0 d1 d2 d3 d4
      have HC := Lib.hid (hv [.int .i64 ek, .int .i64 en, .string es', .slice A1 eks.length a1, .slice C1 ees.length c1] wr m (below_lies hbel hle) hm0 hm1)
      clear hv he hle
      generalize cnt (.mk ek en es' eks ees) m = x at HC hst
      by_cases hx : x ≤ m
      · have hst2 : Hid (smallFrom m l (i + 1)) := Lib.hid (by unfold smallFrom; rw [hst.out, decide_eq_true hx, Bool.true_and])
        have hx2 : ¬ m < x := by omega
        clear hst
        go_wp2_with fail
        refine HC.out.mono ?_
        rintro e1 w1 ⟨rfl, hb1⟩
        go_wp2_with fail
        go_roundw
        case rel => exact ⟨i + 1, by omega, by go_num, hst2.out, chain hbel hb1⟩
        case measure => simp [intOf]; omega
      · have hst2 : Hid (smallP m l = false) := Lib.hid (by rw [hst.out, decide_eq_false hx, Bool.false_and])
        have hx2 : m < x := by omega
        clear hst
        go_wp2_with fail
        refine HC.out.mono ?_
        rintro e1 w1 ⟨rfl, hb1⟩
        go_wp2_with fail
        go_ret
        exact ⟨ret_bool hst2.out.symm, chain hbel hb1⟩
    · have hend : Hid (smallP m l = true) := Lib.hid (by
        have := HE.out
        unfold smallFrom at this
        rw [this, List.drop_eq_nil_of_le (by omega)]
        rfl)
      go_wp2_with fail
      go_ret
      exact ⟨ret_bool hend.out.symm, hbel⟩
end Go.Proofs.Ytgdnkankleoaoaa

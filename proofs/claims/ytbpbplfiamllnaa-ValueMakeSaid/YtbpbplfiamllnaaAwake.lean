/- The laws' sanity check: the chapter's second example. -/
import Derived.Test.YtbpbplfiamllnaaAwP
set_option linter.unusedVariables false
set_option linter.unusedSimpArgs false
namespace Go.Proofs.Ytbpbplfiamllnaa
open Go.RowKit Go.Sort
theorem rs_box {w : World} {g : Nat} {t : TypeId} {cs : List Value} {S : Nat → Prop} (h : Box w g t cs.toArray) (hg : S g) : Rs w S (some ⟨g, 0, none⟩) cs := fun j u hj => ⟨g, 0, rfl, hg, by rw [Nat.zero_add]; exact h.cell (by simpa using hj)⟩
def awXs : List Value := [.int .i64 3, .int .i64 1, .string ⟨#[]⟩, .slice none 0 0, .slice none 0 0, .int .i64 3, .int .i64 2, .string ⟨#[]⟩, .slice none 0 0, .slice none 0 0, .int .i64 3, .int .i64 3, .string ⟨#[]⟩, .slice none 0 0, .slice none 0 0]
theorem lies_num (w : World) (S : Nat → Prop) (n : Int) : Lies w S (.mk 3 n ⟨#[]⟩ [] []) [.int .i64 3, .int .i64 n, .string ⟨#[]⟩, .slice none 0 0, .slice none 0 0] := by
  rw [Lies]
  exact ⟨⟨Nat.zero_le _, by simp, Nat.zero_le _, Nat.zero_le _⟩, none, 0, none, 0, [], rfl, fun _ => rfl, fun _ => rfl, ⟨Nat.le_refl _, Nat.zero_le _⟩, ⟨Nat.le_refl _, Nat.zero_le _⟩, Rs.nil _ _ _, Rs.nil _ _ _, by rw [LiesL]⟩
theorem aw_row {w : World} {g : Nat} (h : Box w g 25 awXs.toArray) : Row w (some ⟨g, 0, none⟩) (aw3.map Mb.v) awXs := by
  refine ⟨rs_box h h.lt, ?_⟩
  show LiesL w _ [.mk 3 1 ⟨#[]⟩ [] [], .mk 3 2 ⟨#[]⟩ [] [], .mk 3 3 ⟨#[]⟩ [] []] awXs
  rw [LiesL]
  refine ⟨_, _, rfl, lies_num _ _ 1, ?_⟩
  rw [LiesL]
  refine ⟨_, _, rfl, lies_num _ _ 2, ?_⟩
  rw [LiesL]
  refine ⟨_, _, rfl, lies_num _ _ 3, ?_⟩
  rw [LiesL]
theorem aw_at {w : World} {g : Nat} (h : Box w g 25 awXs.toArray) : ∀ i m, aw3[i]? = some m → MAt w (· < w.heap.size) (some ⟨g, 0, none⟩) i m := by
  intro i m hm
  match i, hm with
  | 0, hm => simp [aw3] at hm; subst hm; exact ⟨⟨g, 0, rfl, h.lt, h.cell rfl, h.cell rfl, h.cell rfl, h.cell rfl, h.cell rfl⟩, lies_num _ _ 1⟩
  | 1, hm => simp [aw3] at hm; subst hm; exact ⟨⟨g, 0, rfl, h.lt, h.cell rfl, h.cell rfl, h.cell rfl, h.cell rfl, h.cell rfl⟩, lies_num _ _ 2⟩
  | 2, hm => simp [aw3] at hm; subst hm; exact ⟨⟨g, 0, rfl, h.lt, h.cell rfl, h.cell rfl, h.cell rfl, h.cell rfl, h.cell rfl⟩, lies_num _ _ 3⟩
  | n + 3, hm => simp [aw3] at hm
def awV : V := .mk 6 0 ⟨#[]⟩ [sA, sB] [.mk 3 2 ⟨#[]⟩ [] [], .mk 3 3 ⟨#[]⟩ [] []]
theorem aw_obj_any {w : World} {k g : Nat} (hk : Box w k 9 #[.string sB, .string sA, .string sB]) (hg : Box w g 25 awXs.toArray) :
    Calls Try.prog 31 #[.slice (some ⟨k, 0, none⟩) 3 3, .slice (some ⟨g, 0, none⟩) 3 3] w fun e w' => ∃ (A : Option Addr) (a : Nat) (b o c : Nat), e = .returned (.tuple #[.agg #[.int .i64 6, .int .i64 0, .string ⟨#[]⟩, .slice A 2 a, .slice (some ⟨b, o, none⟩) 2 c], .int .i64 0]) ∧ Below w.heap.size w w' ∧
      Lies w' (· < w'.heap.size) awV [.int .i64 6, .int .i64 0, .string ⟨#[]⟩, .slice A 2 a, .slice (some ⟨b, o, none⟩) 2 c] ∧ Rs w' (· < w'.heap.size) A (kv [sA, sB]) ∧ b < w'.heap.size ∧ w'.cell? ⟨b, o + 5 + 1, none⟩ = some (.int .i64 3) := by
  have h := obj_any aw3 (some ⟨k, 0, none⟩) (some ⟨g, 0, none⟩) 3 3 awXs w (rs_box (cs := [.string sB, .string sA, .string sB]) hk hk.lt) (aw_row hg) (aw_at hg) (by decide) (by intro m hm; simp [aw3] at hm; rcases hm with rfl | rfl | rfl <;> decide)
  rw [aw_ret.1, aw_ret.2] at h
  refine h.mono ?_
  rintro e w' ⟨hb, ds, rfl, hl⟩
  obtain ⟨A, a, B, b, xs, rfl, -, -, -, -, hA, hB, hL⟩ := lies_open hl
  obtain ⟨p, o, e, hp, hc⟩ := hB.at_ (show xs[6]? = some (.int .i64 3) by
    obtain ⟨c, hc, hx⟩ := hL.at_ (i := 1) (e := .mk 3 3 ⟨#[]⟩ [] []) rfl
    have := hx 1 (by omega)
    obtain ⟨_, _, _, _, _, rfl, _⟩ := lies_open hc
    simpa using this)
  subst e
  exact ⟨A, a, p, o, b, rfl, hb, hl.move fun x hx => ⟨hx.2, rfl⟩, hA.move fun x hx => ⟨hx.2, rfl⟩, hp.2, by rw [Nat.add_assoc]; exact hc⟩
theorem aw_truth : truthP awV = true := by decide +kernel
theorem aw_name : nameP awV = ⟨#[111, 98, 106, 101, 99, 116]⟩ := by decide +kernel
set_option maxHeartbeats 2000000 in
set_option maxRecDepth 100000 in
theorem awake_any (w : World) : Calls Try.prog 11 #[] w fun e w' => e = .returned (.bool true) ∧ Below w.heap.size w w' := by
  have hn := Lib.hid (fun (n : Int) W => num_any n W)
  go_enter Try.func11, Try.ntmps11
  go_wp2_with fail
  refine (hn.out _ _).mono ?_
  rintro e1 w1 ⟨rfl, hb1⟩
  go_wp2_with fail
  refine (hn.out _ _).mono ?_
  rintro e2 w2 ⟨rfl, hb2⟩
  go_wp2_with fail
  refine (hn.out _ _).mono ?_
  rintro e3 w3 ⟨rfl, hb3⟩
  have hb13 := chain hb1 (chain hb2 hb3)
  have hB3 := Lib.hid (chain ((Below.refl w.heap.size w).alloc (Nat.le_refl _) (.cells #[.string sB, .string sA, .string sB] 9)) hb13)
  have hK3 := Lib.hid ((Box.laid w 9 #[.string sB, .string sA, .string sB]).below hb13 (by simp))
  clear hb1 hb2 hb3 hb13
  have hobj := Lib.hid (aw_obj_any (hK3.out.alloc (.cells awXs.toArray 25)) (Box.laid w3 25 awXs.toArray))
  go_wp2_with fail
  refine hobj.out.mono ?_
  rintro e4 w4 ⟨A, a, b, o, c, rfl, hb4, hl4, hA4, hbl4, hc4⟩
  have hB4 := Lib.hid (chain hB3.out (chain ((Below.refl _ _).alloc (Nat.le_refl _) _) hb4))
  have HL4 := Lib.hid hl4
  have HA4 := Lib.hid hA4
  have HC4 := Lib.hid hc4
  clear hb4 hl4 hA4 hc4 hobj
  have hbx : Hid (∀ o1 : Obj, Box ((w4.alloc o1).alloc (.cells #[.string sA, .string sB] 9)) (w4.heap.size + 1) 9 #[.string sA, .string sB]) := Lib.hid (fun o1 => by
    have := Box.laid (w4.alloc o1) 9 #[.string sA, .string sB]
    simpa using this)
  have hs := Lib.hid (fun o1 => strings_any A (some ⟨w4.heap.size + 1, 0, none⟩) a 2 [sA, sB] [sA, sB] (· < w4.heap.size) (fun _ => True) ((w4.alloc o1).alloc (.cells #[.string sA, .string sB] 9)) (HA4.out.move fun x hx => ⟨hx, by rw [Below.heap_alloc _ _ _ (by simp; omega), Below.heap_alloc _ _ _ hx]⟩) (rs_box (cs := [.string sA, .string sB]) (hbx.out o1) trivial) (by decide) |>.mono (R' := fun e w' => e = .returned (.bool true) ∧ ∃ m, w' = ((w4.alloc o1).alloc (.cells #[.string sA, .string sB] 9)).drewN m) fun e w' h => ⟨h.1.trans (by simp), h.2⟩)
  go_wp2_with fail
  refine (hs.out _).mono ?_
  rintro e5 w5 ⟨rfl, m, rfl⟩
  obtain ⟨o1, ho1⟩ : ∃ O, O = Obj.cells #[.int .i64 6, .int .i64 0, .string ⟨#[]⟩, .slice A 2 a, .slice (some ⟨b, o, none⟩) 2 c] 25 := ⟨_, rfl⟩
  obtain ⟨w6, hw6⟩ : ∃ W, W = ((w4.alloc o1).alloc (.cells #[.string sA, .string sB] 9)).drewN m := ⟨_, rfl⟩
  have hb6 : Below w4.heap.size w4 w6 := by rw [hw6]; exact below_drewN (((Below.refl _ _).alloc (Nat.le_refl _) _).alloc (by simp) _) m
  have hx6 : Box w6 w4.heap.size 25 #[.int .i64 6, .int .i64 0, .string ⟨#[]⟩, .slice A 2 a, .slice (some ⟨b, o, none⟩) 2 c] := by
    rw [hw6, ho1]
    exact ((Box.laid w4 _ _).alloc _).drewN m
  have hc6 := below_cell hb6 hbl4 HC4.out
  have hl6 := Lib.hid (below_lies hb6 HL4.out)
  have hB6 := Lib.hid (chain hB4.out hb6)
  rw [← ho1, ← hw6]
  obtain ⟨t0, t1, t2, t3, t4⟩ := box5 hx6
  have hw46 := hb6.size
  have hx6 := Lib.hid hx6
  clear ho1 hw6 hs hbx hb6
  have q := hc6
  rw [Nat.add_assoc] at q
  go_wp2_with fail
  have ht := truthy_any awV _ w6 hl6.out
  rw [aw_truth] at ht
  refine ht.mono ?_
  rintro e7 w7 ⟨rfl, hb7⟩
  have hnm := typeName_any awV _ w7 (below_lies hb7 hl6.out)
  rw [aw_name] at hnm
  have hHN := Lib.hid hnm
  obtain ⟨u0, u1, u2, u3, u4⟩ := box5 (hx6.out.below hb7 hx6.out.lt)
  have hB7 := Lib.hid (chain hB6.out hb7)
  clear t0 t1 t2 t3 t4 hc6 q hnm hb7 ht
  go_wp2_with fail
  refine hHN.out.mono ?_
  rintro e8 w8 ⟨rfl, hb8⟩
  go_wp2_with fail
  go_ret
  exact ⟨rfl, chain hB7.out hb8⟩
end Go.Proofs.Ytbpbplfiamllnaa

/- The sanity check of law 8. keep.Short at a list of strings. -/
import Derived.Test.YtjafmdngbphacaaGreatDoorC38
import Derived.Test.YtjafmdngbphacaaGreatDoorC11
import Derived.Test.YtjafmdngbphacaaGreatDoorC07
set_option linter.unusedVariables false
set_option linter.unusedSimpArgs false
namespace Go.Proofs.YtjafmdngbphacaaGreatDoor
open Go.RowKit Go.Sort
theorem valid_of {s : ByteArray} (h : okS s = true) (hs : s.size ≤ 4096) : valid (strV s) = true := valid_str h hs
theorem ix_aaa : ixR [97, 97, 97] [97, 97] = (arrV [numV 0, numV 1], 0) := by
  have : (occ ([97, 97, 97].map Int.ofNat) ([97, 97].map Int.ofNat) ([97, 97, 97].length + 1 - [97, 97].length)).map numV = [numV 0, numV 1] := by
    have h0 : occ ([97, 97, 97].map Int.ofNat) ([97, 97].map Int.ofNat) ([97, 97, 97].length + 1 - [97, 97].length) = [0, 1] := by decide +kernel
    rw [h0]
    rfl
  unfold ixR
  rw [if_neg (by decide), this]
  have h1 : arrR [numV 0, numV 1] = arrV [numV 0, numV 1] := (arrR_ok (by decide +kernel)).1.trans (finV_ok (by decide +kernel))
  have h2 : arrE [numV 0, numV 1] = 0 := (arrR_ok (by decide +kernel)).2.trans (finE_ok (by decide +kernel))
  rw [h1, h2]
/-- The answer to Indices("aaa", "aa"), its second number at hand. -/
theorem ix8 (w : World) : Calls Tryz.prog 63 #[.agg (sc ⟨#[97, 97, 97]⟩).toArray, .agg (sc ⟨#[97, 97]⟩).toArray] w fun e w' => ∃ (A : Option Addr) (a : Nat) (b o c : Nat), e = .returned (.tuple #[.agg #[.int .i64 5, .int .i64 0, .string ⟨#[]⟩, .slice A 0 a, .slice (some ⟨b, o, none⟩) 2 c], .int .i64 0]) ∧ Below w.heap.size w w' ∧ b < w'.heap.size ∧ w'.cell? ⟨b, o + 6, none⟩ = some (.int .i64 1) := by
  have h := indices_two ⟨#[97, 97, 97]⟩ ⟨#[97, 97]⟩ [97, 97, 97] [97, 97] (valid_of (by decide +kernel) (by decide)) (valid_of (by decide +kernel) (by decide)) (by decide +kernel) (by decide +kernel) (by decide) (by decide) w
  rw [ix_aaa] at h
  refine h.mono fun e w' hp => ?_
  obtain ⟨hb, ds, rfl, hl⟩ := hp
  have hl2 := hl
  unfold arrV at hl2
  obtain ⟨A, a, B, b, xs, rfl, _, _, _, _, _, hrs, hll⟩ := lies_open hl2
  obtain ⟨c, hc, hat⟩ := hll.at_ (i := 1) (e := numV 1) rfl
  unfold numV at hc
  obtain ⟨A3, a3, B3, b3, ys, rfl, _⟩ := lies_open hc
  have h6 := hat 1 (by decide)
  obtain ⟨b0, o0, rfl, hb0, hcell⟩ := hrs.at_ (j := 6) (u := .int .i64 1) (by simpa using h6)
  exact ⟨A, a, b0, o0, b, rfl, hb, hb0.2, hcell⟩
theorem cut8 (w : World) : Calls Tryz.prog 55 #[.agg (sc ⟨#[97, 98, 99]⟩).toArray, .agg (sc ⟨#[97, 98]⟩).toArray] w (RetPost (strV ⟨#[99]⟩) 0 w) := by
  have h := cutp_two ⟨#[97, 98]⟩ ⟨#[99]⟩ (valid_of (by decide +kernel) (by decide)) (valid_of (by decide +kernel) (by decide)) (by decide +kernel) (by decide) w (by decide) (by decide)
  have e : (⟨#[97, 98]⟩ ++ ⟨#[99]⟩ : ByteArray) = ⟨#[97, 98, 99]⟩ := by decide +kernel
  rw [e] at h
  exact h
set_option maxHeartbeats 4000000 in
set_option maxRecDepth 100000 in
theorem awake8_any (w : World) : Calls Tryz.prog 31 #[] w fun e w' => e = .returned (.bool true) ∧ Below w.heap.size w w' := by
  have HS := Lib.hid (fun (s : ByteArray) W => str8_any s W)
  have HI := Lib.hid (fun W => ix8 W)
  have HC := Lib.hid (fun W => str_open (cut8 W))
  unfold sc at HI HC
  go_enter Tryz.func31, Tryz.ntmps31
  go_wp2_with fail
  refine (HS.out _ _).mono ?_
  rintro e1 w1 ⟨rfl, hb1⟩
  go_wp2_with fail
  refine (HS.out _ _).mono ?_
  rintro e2 w2 ⟨rfl, hb2⟩
  have HB2 := Lib.hid (chain hb1 hb2)
  clear hb1 hb2
  go_wp2_with fail
  refine (HI.out _).mono ?_
  rintro e3 w3 ⟨A, a, b, o, c, rfl, hb3, hlt3, hc3⟩
  have HB3 := Lib.hid (chain HB2.out (chain hb3 (below1 w3 (.cells #[.int .i64 5, .int .i64 0, .string ⟨#[]⟩, .slice A 0 a, .slice (some ⟨b, o, none⟩) 2 c] 25))))
  have HX := Lib.hid (Box.laid w3 25 #[.int .i64 5, .int .i64 0, .string ⟨#[]⟩, .slice A 0 a, .slice (some ⟨b, o, none⟩) 2 c])
  have HC3 := Lib.hid (((below1 w3 (.cells #[.int .i64 5, .int .i64 0, .string ⟨#[]⟩, .slice A 0 a, .slice (some ⟨b, o, none⟩) 2 c] 25)).cell (p := ⟨b, o + 6, none⟩) hlt3).trans hc3)
  have HLT := Lib.hid (show b < (w3.alloc (.cells #[.int .i64 5, .int .i64 0, .string ⟨#[]⟩, .slice A 0 a, .slice (some ⟨b, o, none⟩) 2 c] 25)).heap.size by simp; omega)
  clear hb3 hlt3 hc3 HB2
  go_wp2_with fail
  refine (HS.out _ _).mono ?_
  rintro e4 w4 ⟨rfl, hb4⟩
  go_wp2_with fail
  refine (HS.out _ _).mono ?_
  rintro e5 w5 ⟨rfl, hb5⟩
  have HB5 := Lib.hid (chain hb4 hb5)
  clear hb4 hb5
  go_wp2_with fail
  refine (HC.out _).mono ?_
  rintro e6 w6 ⟨A2, a2, B2, b2, rfl, hb6, -⟩
  have HB6 := Lib.hid (chain (chain HB5.out hb6) (below1 w6 (.cells #[.int .i64 4, .int .i64 0, .string ⟨#[99]⟩, .slice A2 0 a2, .slice B2 0 b2] 25)))
  have HY := Lib.hid (Box.laid w6 25 #[.int .i64 4, .int .i64 0, .string ⟨#[99]⟩, .slice A2 0 a2, .slice B2 0 b2])
  have HX6 := Lib.hid (HX.out.below HB6.out HX.out.lt)
  have hc6 := (HB6.out.cell (p := ⟨b, o + 6, none⟩) HLT.out).trans HC3.out
  clear hb6 HC3 HX HLT HB5
  obtain ⟨x0, x1, x2, x3, x4⟩ := box5 HX6.out
  obtain ⟨y0, y1, y2, y3, y4⟩ := box5 HY.out
  have hc7 : (w6.alloc (.cells #[.int .i64 4, .int .i64 0, .string ⟨#[99]⟩, .slice A2 0 a2, .slice B2 0 b2] 25)).cell? ⟨b, o + 5 + 1, none⟩ = some (.int .i64 1) := hc6
  clear hc6
  go_wp2_with fail
  go_ret
  exact ⟨rfl, chain HB3.out HB6.out⟩
end Go.Proofs.YtjafmdngbphacaaGreatDoor
namespace Go.Proofs.YtjafmdngbphacaaGreatDoor
open Go.RowKit
def shortP (m : Int) (ks : List ByteArray) : Bool := ks.all fun k => decide ((k.size : Int) ≤ m)
theorem shortP_mem {m : Int} {ks : List ByteArray} (h : shortP m ks = true) : ∀ k ∈ ks, (k.size : Int) ≤ m := by
  intro k hk
  unfold shortP at h
  exact of_decide_eq_true (List.all_eq_true.1 h k hk)
set_option maxHeartbeats 1000000 in
theorem short_any (m : Int) (A : Option Addr) (a : Nat) (ks : List ByteArray) (S : Nat → Prop) (w : World) (hA : Rs w S A (kv ks)) (hk : ks.length ≤ maxLen) (hs : ∀ k ∈ ks, k.size ≤ 140737488355328) (h0 : 0 ≤ m) (h1 : m ≤ 1000000) :
    Calls Tryz.prog 18 #[.int .i64 m, .slice A ks.length a] w fun e w' => e = .returned (.bool (shortP m ks)) ∧ Below w.heap.size w w' := by
  unfold maxLen at hk
  have HA := Lib.hid hA
  have HS := Lib.hid hs
  clear hA hs
  go_enter Tryz.func18, Tryz.ntmps18
  go_wp2_with fail
  go_loopw [5] (fun t wr => ∃ i : Nat, i ≤ ks.length ∧ t = .int .i64 i ∧ shortP m ks = shortP m (ks.drop i) ∧ Below w.heap.size w wr ∧ wr.heap = w.heap) (fun t _ => ks.length - (intOf t).toNat)
  case atStart => exact ⟨0, Nat.zero_le _, rfl, rfl, Below.refl _ _, rfl⟩
  case round =>
    obtain ⟨i, hi, rfl, he0, hbel, hheap⟩ := hrel
    have HE := Lib.hid he0
    have HB := Lib.hid hbel
    have HH := Lib.hid hheap
    clear he0 hbel hheap
    by_cases hlt : i < ks.length
    · obtain ⟨x, hx⟩ : ∃ x, ks[i]? = some x := ⟨_, List.getElem?_eq_getElem hlt⟩
      obtain ⟨b0, o0, hAe, hb0, hc0⟩ := HA.out.at_ (kv_at hx)
      have hc1 : wr.cell? ⟨b0, o0 + i, none⟩ = some (.string x) := (World.cell?_of_block (by rw [HH.out])).trans hc0
      have hxs := HS.out x (List.mem_of_getElem? hx)
      have hst : Hid (shortP m ks = (decide ((x.size : Int) ≤ m) && shortP m (ks.drop (i + 1)))) := Lib.hid (by
        obtain ⟨h1, rfl⟩ := List.getElem?_eq_some_iff.1 hx
        rw [HE.out, List.drop_eq_getElem_cons h1]
        rfl)
      subst hAe
      clear hc0 hx
      by_cases hxm : (x.size : Int) ≤ m
      · have hst2 : Hid (shortP m ks = shortP m (ks.drop (i + 1))) := Lib.hid (by rw [hst.out, decide_eq_true hxm, Bool.true_and])
        have hx2 : ¬ m < (x.size : Int) := by omega
        clear hst
        go_wp2_with fail
        go_roundw
        case rel => exact ⟨i + 1, by omega, by go_num, hst2.out, by first | exact HB.out | exact HB.out.drew, by first | exact HH.out | rfl⟩
        case measure => simp [intOf]; omega
      · have hst2 : Hid (shortP m ks = false) := Lib.hid (by rw [hst.out, decide_eq_false hxm, Bool.false_and])
        have hx2 : m < (x.size : Int) := by omega
        clear hst
        go_wp2_with fail
        go_ret
        exact ⟨ret_bool hst2.out.symm, HB.out⟩
    · have hend : Hid (shortP m ks = true) := Lib.hid (by rw [HE.out, List.drop_eq_nil_of_le (by omega)]; rfl)
      go_wp2_with fail
      go_ret
      exact ⟨ret_bool hend.out.symm, HB.out⟩
end Go.Proofs.YtjafmdngbphacaaGreatDoor

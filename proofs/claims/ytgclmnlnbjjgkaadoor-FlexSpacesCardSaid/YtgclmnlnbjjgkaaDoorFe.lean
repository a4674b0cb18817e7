/- Signs of a filter, and its next token: the contracts of sign and next. -/
import Derived.Test.YtgclmnlnbjjgkaaDoorFd
import Derived.Test.YtgclmnlnbjjgkaaDoorFs
set_option linter.unusedVariables false
set_option linter.unusedSimpArgs false
namespace Go.Proofs.YtgclmnlnbjjgkaaDoor
open Go.RowKit
theorem has_pre (l p : List UInt8) : Lib.hasPrefix l p = p.isPrefixOf l := by
  rw [← Lib.hasPrefix_of_take]
  rw [Bool.eq_iff_iff, List.isPrefixOf_iff_prefix]
  simp only [Bool.and_eq_true, decide_eq_true_eq, beq_iff_eq]
  constructor
  · rintro ⟨_, h⟩
    rw [← h]
    exact List.take_prefix _ _
  · intro h
    exact ⟨h.length_le, (List.prefix_iff_eq_take.1 h).symm⟩
/-- No sign up to the number j begins the text at the offset a. -/
def NoSign (l : List UInt8) (a j : Nat) : Prop := signsL.find? (fun t => t.isPrefixOf (l.drop a)) = (signsL.drop j).find? (fun t => t.isPrefixOf (l.drop a))
theorem NoSign.start (l : List UInt8) (a : Nat) : NoSign l a 0 := rfl
theorem NoSign.next {l : List UInt8} {a j : Nat} {t : List UInt8} (h : NoSign l a j) (hj : signsL[j]? = some t) (hp : t.isPrefixOf (l.drop a) = false) : NoSign l a (j + 1) := by
  obtain ⟨h1, h2⟩ := List.getElem?_eq_some_iff.1 hj
  unfold NoSign at h ⊢
  rw [h, List.drop_eq_getElem_cons h1, h2, List.find?_cons, hp]
theorem NoSign.hit {l : List UInt8} {a j : Nat} {t : List UInt8} (h : NoSign l a j) (hj : signsL[j]? = some t) (hp : t.isPrefixOf (l.drop a) = true) : signFP l a = okF 7 a (bsF t) 0 (a + t.length) := by
  obtain ⟨h1, h2⟩ := List.getElem?_eq_some_iff.1 hj
  unfold NoSign at h
  unfold signFP
  rw [h, List.drop_eq_getElem_cons h1, h2, List.find?_cons, hp]
theorem NoSign.end_ {l : List UInt8} {a : Nat} (h : NoSign l a 32) : signFP l a = noF a 4 := by
  unfold NoSign at h
  unfold signFP
  rw [h]
  rfl
theorem sign_len {j : Nat} {t : List UInt8} (h : signsL[j]? = some t) : t.length ≤ 2 := by
  have := signs_short t (List.mem_of_getElem? h)
  omega
set_option maxHeartbeats 4000000 in
set_option maxRecDepth 100000 in
theorem fsign_any (s : ByteArray) (a : Nat) (hs : s.size ≤ 1048576) (ha : a < s.size) (w : World) (hG : SgIn w) : Calls Tryd.prog 23 #[.string s, .int .i64 a] w (FxPost (signFP s.data.toList a) w) := by
  have HPR := Lib.hid (fun (t : List UInt8) W => pre_lib (s.extract a s.size) (bsF t) W)
  have HSG := Lib.hid hG
  have HIX := Lib.hid (fun (j : Nat) (t : List UInt8) (h : signsL[j]? = some t) W => index_sign h W)
  obtain ⟨W1, hW1⟩ : ∃ X, X = w.alloc (.cells #[.int .i64 0, .int .i64 0, .string ⟨#[]⟩, .int .i64 0] 28) := ⟨_, rfl⟩
  have HW1 := Lib.hid hW1
  have HBX : Hid (Box W1 w.heap.size 28 #[.int .i64 0, .int .i64 0, .string ⟨#[]⟩, .int .i64 0]) := Lib.hid (by rw [hW1]; exact Box.laid w _ _)
  have HBL : Hid (Below w.heap.size w W1) := Lib.hid (by rw [hW1]; exact (Below.refl _ _).alloc (Nat.le_refl _) _)
  have HN0 := Lib.hid (NoSign.start s.data.toList a)
  obtain ⟨x, hx⟩ : ∃ x, signFP s.data.toList a = x := ⟨_, rfl⟩
  have HX := Lib.hid hx
  rw [hx]
  clear hW1 hG hx
  obtain ⟨sg, hsg⟩ : ∃ sg, sgV = sg := ⟨_, rfl⟩
  have HS1 : Hid (∃ t fr, W1.heap[0]? = some (.cells sg t fr)) := Lib.hid (by rw [← hsg]; exact HSG.out.next HBL.out)
  rw [hsg] at HIX
  have HSZ : Hid (sg.size = 32) := Lib.hid (by rw [← hsg]; exact sgV_size)
  clear hsg
  go_enter Tryd.func23, Tryd.ntmps23
  go_upto_region 1 with fail
  rw [← HW1.out]
  obtain ⟨ts, fr, hheap⟩ := HS1.out
  go_wp2_with (refine wpList_load_row rfl 52 _ rfl 0 rfl ts sg fr _ hheap Tryd.underlying52 rfl (by rw [HSZ.out]; kernel_rfl) ?_)
  go_loop [8, 10] (fun t8 t10 => ∃ j : Nat, j ≤ 32 ∧ t10 = .int .i64 j ∧ Hid (NoSign s.data.toList a j)) (fun t8 t10 => 32 - (intOf t10).toNat)
  case atStart => exact ⟨0, by omega, rfl, HN0⟩
  case round =>
    obtain ⟨j, hj, rfl, HNS⟩ := hrel
    by_cases hlt : j < 32
    · obtain ⟨t, ht⟩ : ∃ t, signsL[j]? = some t := ⟨_, List.getElem?_eq_getElem (show j < signsL.length from hlt)⟩
      have HT := Lib.hid ht
      have hi := HIX.out j t ht
      have hp := fun W => HPR.out t W
      rw [Lib.extract_to_end, has_pre, bsF_list] at hp
      have htl := sign_len ht
      have hbl : (bsF t).size = t.length := bsF_size t
      obtain ⟨ti, hti⟩ : ∃ ti, bsF t = ti := ⟨_, rfl⟩
      rw [hti] at hi hp hbl
      clear ht
      cases hq : t.isPrefixOf (s.data.toList.drop a) with
      | true =>
        have HH := Lib.hid (HNS.out.hit HT.out hq)
        rw [hti] at HH
        rw [hq] at hp
        have HP := Lib.hid hp
        have HC := Lib.hid (fun W => clone_lib ti W (by omega))
        have HBS := Lib.hid hbl
        clear hp hq hti hbl
        go_wp2_with (first
          | (go_at_call 32; refine (HP.out _).mono ?_; rintro e w' ⟨rfl, rfl⟩)
          | (go_at_call 28; refine (HC.out _).mono ?_; rintro e w' ⟨rfl, hb'⟩; have bx := HBX.out.below hb' HBX.out.lt; obtain ⟨t0, t1, t2, t3⟩ := box4 bx; obtain ⟨f0, f1, f2, f3⟩ := free4 bx))
        have hp2 : wrap64 ((a : Int) + (ti.size : Int)) = ((a + t.length : Nat) : Int) := by
          rw [HBS.out]
          unfold wrap64
          omega
        rw [hp2, ← HX.out, HH.out]
        exact fx_ret Tryd.results23 rfl rfl rfl rfl (put4 bx _ _ _ _) (below_four (Nat.le_refl _) (HBL.out.trans (hb'.mono HBL.out.size)) _ _ _ _)
      | false =>
        have HN2 := Lib.hid (HNS.out.next HT.out hq)
        rw [hq] at hp
        have HP := Lib.hid hp
        clear hp hq hti hbl
        go_wp2_with (go_at_call 32; refine (HP.out _).mono ?_; rintro e w' ⟨rfl, rfl⟩)
        go_round
        case rel => exact ⟨j + 1, by omega, by go_num, HN2⟩
        case measure => simp [intOf]; omega
    · have hj32 : j = 32 := by omega
      subst hj32
      have HH := Lib.hid HNS.out.end_
      go_wp2_with (go_at_call 27; refine (ffail_any _ _ _).mono ?_; rintro e w' ⟨rfl, hb'⟩; have bx := HBX.out.below hb' HBX.out.lt; obtain ⟨t0, t1, t2, t3⟩ := box4 bx; obtain ⟨f0, f1, f2, f3⟩ := free4 bx)
      rw [← HX.out, HH.out]
      exact fx_ret Tryd.results23 rfl rfl rfl rfl (put4 bx _ _ _ _) (below_four (Nat.le_refl _) (HBL.out.trans (hb'.mono HBL.out.size)) _ _ _ _)
end Go.Proofs.YtgclmnlnbjjgkaaDoor

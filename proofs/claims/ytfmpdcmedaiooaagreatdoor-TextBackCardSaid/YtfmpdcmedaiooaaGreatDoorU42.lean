/- text.occurrences at int. The contract of utf.Runes. -/
import Derived.Test.YtfmpdcmedaiooaaGreatDoorU41
import Derived.Test.YtfmpdcmedaiooaaGreatDoorU39
import Derived.Test.YtfmpdcmedaiooaaGreatDoorU38
import Derived.Laws.Slices
import Derived.Test.YtfmpdcmedaiooaaGreatDoorU10
set_option linter.unusedVariables false
set_option linter.unusedSimpArgs false
namespace Go.Proofs.YtfmpdcmedaiooaaGreatDoor
open Go.RowKit Go.Shelf Go.Sort
/-- The places below k at which part lies in l. -/
def occ (l part : List Int) (k : Nat) : List Int := ((List.range k).filter fun a => (l.drop a).take part.length == part.take part.length).map fun (a : Nat) => (a : Int)
theorem below_dq (w : World) (n : Nat) : Below w.heap.size w (w.drewN n) := ⟨rfl, rfl, rfl, Nat.le_refl _, fun _ _ => rfl⟩
theorem occ_hit {l part : List Int} {k : Nat} (h : ((l.drop k).take part.length == part.take part.length) = true) : occ l part (k + 1) = occ l part k ++ [(k : Int)] := by
  unfold occ
  rw [List.range_succ, List.filter_append, List.map_append, List.filter_cons, if_pos h, List.filter_nil]
  rfl
theorem occ_miss {l part : List Int} {k : Nat} (h : ((l.drop k).take part.length == part.take part.length) = false) : occ l part (k + 1) = occ l part k := by
  unfold occ
  rw [List.range_succ, List.filter_append, List.map_append, List.filter_cons, if_neg (by rw [h]; exact Bool.false_ne_true), List.filter_nil, List.map_nil, List.append_nil]
theorem occ_le (l part : List Int) (k : Nat) : (occ l part k).length ≤ k := by
  unfold occ
  rw [List.length_map]
  exact Nat.le_trans (List.length_filter_le _ _) (by simp)
theorem zvs_snoc (xs : List Int) (x : Int) : zvs (xs ++ [x]) = zvs xs ++ [.int .i64 x] := by simp [zvs]
/-- x[i:j] of any slice. -/
theorem slice_mid {P : Program} {w : World} {t e : TypeId} {A : Option Addr} {n c i j s : Nat} (ht : P.underlying t = some (.slice e)) (hs : ∀ w, (sizeOf e).run P w = .ok s w) (hij : i ≤ j) (hj : j ≤ c) :
    (Instr.sliceAt t (.slice A n c) (some (.int .i64 (i : Int))) (some (.int .i64 (j : Int))) none).run P w = .ok (.slice (dropA A c i s) (j - i) (c - i)) w := by
  have he : P.elem t = e := by simp [Program.elem, ht]
  have ht2 : P.underlying t = some (.slice (P.elem t)) := by rw [he]; exact ht
  rw [run_sliceAt_slice w t _ _ _ _ ht2, run_slice_lh w t A n c ht2 .i64 .i64 (i : Int) (j : Int) (by omega) (by omega) (by omega), he, hs]
  simp only [Result.andThen_ok, sliced, Int.toNat_natCast]
  rfl
theorem get_zvs {w : World} {S : Nat → Prop} {b o : Nat} {xs : List Int} (h : Rs w S (some ⟨b, o, none⟩) (zvs xs)) (j : Nat) (hj : j < xs.length) : w.cell? ⟨b, o + j, none⟩ = some (.int .i64 (xs.getD j 0)) := by
  obtain ⟨b', o', e, _, hc⟩ := h.at_ (zvs_at (List.getElem?_eq_getElem hj))
  injection e with e
  injection e with e1 e2
  subst e1 e2
  rw [hc]
  simp [List.getD_eq_getElem?_getD, hj]
set_option maxHeartbeats 4000000 in
set_option maxRecDepth 100000 in
theorem occ_none (A B : Option Addr) (c d n : Nat) (w : World) : Calls Tryz.prog 88 #[.slice A n c, .slice B 0 d] w (RetPost vnull 0 w) := by
  go_enter Tryz.func88, Tryz.ntmps88
  go_wp2_with fail
  refine bodyPost_ret (v := .tuple #[.agg #[.int .i64 0, .int .i64 0, .string ⟨#[]⟩, .slice none 0 0, .slice none 0 0], .int .i64 0]) (by simp [results, Tryz.results88, go_sem]) rfl ?_
  exact ret_of (ds := [.int .i64 0, .int .i64 0, .string ⟨#[]⟩, .slice none 0 0, .slice none 0 0]) ((Below.refl _ _).alloc (Nat.le_refl _) _) (lies_null _ _)
set_option maxHeartbeats 8000000 in
set_option maxRecDepth 100000 in
theorem occ_any (A B : Option Addr) (c d n m : Nat) (l part : List Int) (w : World) (hA : Rs w (· < w.heap.size) A (zvs l)) (hB : Rs w (· < w.heap.size) B (zvs part)) (hn : l.length = n) (hm : part.length = m) (hnc : n ≤ c) (hcm : c ≤ maxLen) (hn1 : n ≤ 999999) (hm1 : m ≤ 999999) (h1 : 1 ≤ m) :
    Calls Tryz.prog 88 #[.slice A n c, .slice B m d] w (RetPost (arrR ((occ l part (n + 1 - m)).map numV)) (arrE ((occ l part (n + 1 - m)).map numV)) w) := by
  have HA := Lib.hid hA
  have HB := Lib.hid hB
  have HN := Lib.hid hn
  have HM := Lib.hid hm
  obtain ⟨i0, hi, hz0, hz1, hz2⟩ := info_parts (show (Tryz.prog.info? 3).map (fun i => (i.zero, i.size, i.bytes)) = some (some (.int .i64 0), 1, 8) by kernel_rfl)
  have hm0 : ¬ (m : Int) = 0 := by omega
  have hm0b : ((m : Int) == 0) = false := by simpa using hm0
  have HNUM := Lib.hid (fun (D : Option Addr) (c' : Nat) (ps : List Int) W hR hL hK => ret_open (numbers_any D c' ps.length ps W hR hL hK))
  have HOC0 := Lib.hid (occ_le l part)
  have HSL := Lib.hid (fun (k : Nat) (hk : k + m ≤ n) W => slice_mid (P := Tryz.prog) (w := W) (t := 47) (e := 3) (A := A) (n := n) (c := c) (i := k) (j := k + m) (s := 1) Tryz.underlying47 (fun w => Tryz.sizeOf3 w) (by omega) (by omega))
  obtain ⟨N, hN⟩ : ∃ N, n + 1 - m = N := ⟨_, rfl⟩
  rw [hN]
  clear hA hB hn hm
  go_enter Tryz.func88, Tryz.ntmps88
  go_wp2_with fail
  obtain ⟨w1, hw1⟩ : ∃ X, X = w.alloc (.cells #[.int .i64 0, .int .i64 0, .string ⟨#[]⟩, .slice none 0 0, .slice none 0 0] 25) := ⟨_, rfl⟩
  have HBX : Hid (Box w1 w.heap.size 25 #[.int .i64 0, .int .i64 0, .string ⟨#[]⟩, .slice none 0 0, .slice none 0 0]) := Lib.hid (by rw [hw1]; exact Box.laid w _ _)
  have HW1 : Hid (Below w.heap.size w w1) := Lib.hid (by rw [hw1]; exact below1 _ _)
  rw [← hw1]
  clear hw1
  go_loopg [6, 7] (n + 1) (fun g s6 s7 wr => ∃ k : Nat, k ≤ N ∧ N - k ≤ g ∧ s7 = .int .i64 k ∧ wr.ownsRow w1.heap.size 3 1 s6 (occ l part k).length (zvs (occ l part k)) ∧ Below w1.heap.size w1 wr)
  case atStart => exact ⟨0, by omega, by omega, rfl, World.ownsRow_nil _ _ _ _, Below.refl _ _⟩
  case round =>
    obtain ⟨k, hk, hg, rfl, hown, hbel⟩ := hrel
    have HO := Lib.hid hown
    have HL := Lib.hid hbel
    clear hown hbel
    by_cases hlt : k + m ≤ n
    · have q1 : (k : Int) + (m : Int) ≤ (n : Int) := by omega
      have hA0 : ∃ b o, A = some ⟨b, o, none⟩ := by
        obtain ⟨x, hx⟩ : ∃ x, l[k]? = some x := ⟨_, List.getElem?_eq_getElem (by rw [HN.out]; omega)⟩
        obtain ⟨b, o, e, _⟩ := HA.out.at_ (zvs_at hx)
        exact ⟨b, o, e⟩
      have hB0 : ∃ b o, B = some ⟨b, o, none⟩ := by
        obtain ⟨x, hx⟩ : ∃ x, part[0]? = some x := ⟨_, List.getElem?_eq_getElem (by rw [HM.out]; omega)⟩
        obtain ⟨b, o, e, _⟩ := HB.out.at_ (zvs_at hx)
        exact ⟨b, o, e⟩
      obtain ⟨b1, o1, rfl⟩ := hA0
      obtain ⟨b2, o2, rfl⟩ := hB0
      have hsl := HSL.out k hlt wr
      have hck : ¬ c = k := by omega
      have hdr : dropA (some (⟨b1, o1, none⟩ : Addr)) c k 1 = some ⟨b1, o1 + k, none⟩ := by unfold dropA; rw [if_neg hck]; simp [Addr.add]
      rw [hdr, Int.natCast_add, Nat.add_sub_cancel_left] at hsl
      clear hdr hck
      have HBL : Hid (Below w.heap.size w wr) := Lib.hid (chain HW1.out HL.out)
      have HEQ := Lib.hid (eqInt_lib b1 (o1 + k) m (c - k) b2 o2 m d (l.drop k) part wr (by rw [List.length_drop, HN.out]; omega) (by rw [HM.out]; exact Nat.le_refl _) (by omega) (by omega)
        (fun j hj => by
          rw [List.length_drop] at hj
          have := get_zvs (HA.out.move (w' := wr) fun b hb => ⟨hb, HBL.out.block b hb⟩) (k + j) (by omega)
          rw [← Nat.add_assoc] at this
          rw [this]
          simp [List.getD_eq_getElem?_getD, List.getElem?_drop])
        (fun j hj => get_zvs (HB.out.move (w' := wr) fun b hb => ⟨hb, HBL.out.block b hb⟩) j hj))
      have hcond : ∃ x, ((l.drop k).take m == part.take m) = x := ⟨_, rfl⟩
      obtain ⟨x, hx⟩ := hcond
      rw [hx] at HEQ
      have HX := Lib.hid hx
      clear hx
      go_wp2_with fail
      refine HEQ.out.mono ?_
      rintro e2 w2 ⟨rfl, q2, hw2⟩
      have HO2 : Hid (w2.ownsRow w1.heap.size 3 1 u6 (occ l part k).length (zvs (occ l part k))) := Lib.hid (by rw [hw2]; exact own_belowV HO.out (below_dq _ _))
      have HL2 : Hid (Below w1.heap.size w1 w2) := Lib.hid (by rw [hw2]; exact chain HL.out (below_dq _ _))
      clear hw2 HEQ HBL HO HL hsl
      cases x with
      | false =>
        have HN1 := Lib.hid (show occ l part (k + 1) = occ l part k from occ_miss (by rw [HM.out]; exact HX.out))
        go_wp2_with fail
        go_roundg (N - (k + 1))
        case measure => omega
        case rel => exact ⟨k + 1, by omega, Nat.le_refl _, by go_num, by rw [HN1.out]; exact HO2.out, HL2.out⟩
      | true =>
        have HN1 := Lib.hid (show occ l part (k + 1) = occ l part k ++ [(k : Int)] from occ_hit (by rw [HM.out]; exact HX.out))
        have hlen := HOC0.out k
        have hsz2 := HL2.out.size
        go_wp2_with (at_builtin; refine wpList_append_own _ rfl _ _ 47 rfl w1.heap.size 3 i0 (.int .i64 0) 1 8 Tryz.underlying47 hi hz0 hz1 hz2 rfl (by decide) _ _ _ rfl (HO2.out.alloc _) ⟨w2.heap.size, 0, none⟩ 1 1 [.int .i64 k] rfl rfl ?c1 ?c2 ?c3 ?c4 ?c5 ?_)
        case c1 =>
          intro j u hj
          match j, hj with
          | 0, hj => simp at hj; subst hj; simp [Addr.add]
        case c2 => intro u hu; simp at hu; subst hu; rfl
        case c3 => unfold maxLen; omega
        case c4 => omega
        case c5 => simp; omega
        intro v' w3 hown' hgrow _
        have hB : Below w1.heap.size w1 w3 := (HL2.out.alloc hsz2 _).grown hgrow (by simp; omega) (fun j hj => (HO2.out.lt j hj).1)
        clear hgrow
        go_wp2_with fail
        go_roundg (N - (k + 1))
        case measure => omega
        case rel => exact ⟨k + 1, by omega, Nat.le_refl _, by go_num, by rw [HN1.out, zvs_snoc, List.length_append]; simpa using hown', hB⟩
    · have q1 : ¬ ((k : Int) + (m : Int) ≤ (n : Int)) := by omega
      obtain rfl : k = N := by omega
      obtain ⟨D, d', rfl, hdn, hdl, hdm, hrs⟩ := own_open HO.out
      have hlen := HOC0.out k
      have HC := Lib.hid (HNUM.out D d' (occ l part k) wr (hrs.move fun b hb => ⟨hb.2.1, rfl⟩) (by first | trivial | rfl) (by omega))
      have HBL : Hid (Below w.heap.size w wr) := Lib.hid (chain HW1.out HL.out)
      have HR0 := Lib.hid (HBX.out.below HL.out HBX.out.lt)
      clear hrs hdn hdl hdm
      go_wp2_with fail
      refine HC.out.mono ?_
      rintro e2 w2 ⟨rk, rn, rs, rks, res, RA, ra, RC, rc, hrv, rfl, hb2, hl2⟩
      have HB2 := Lib.hid (chain HBL.out hb2)
      have HR := Lib.hid (HR0.out.below hb2 HR0.out.lt)
      have HLL := Lib.hid hl2
      have hs2 := HR0.out.lt
      clear hb2 hl2 hrv
      obtain ⟨t0, t1, t2, t3, t4⟩ := box5 HR.out
      have z0 := HR.out.free 0
      have z1 := HR.out.free 1
      have z2 := HR.out.free 2
      have z3 := HR.out.free 3
      have z4 := HR.out.free 4
      go_wp2_with fail
      refine bodyPost_ret (v := .tuple #[.agg #[.int .i64 rk, .int .i64 rn, .string rs, .slice RA rks.length ra, .slice RC res.length rc], .int .i64 (arrE ((occ l part k).map numV))]) (by simp [results, Tryz.results88, go_sem, t0, t1, t2, t3, t4]) rfl ?_
      exact ret_put HB2.out (Nat.le_refl _) HR.out.lt (HLL.out.move fun b hb => ⟨⟨by have := HBL.out.size; omega, hb.2, by omega⟩, rfl⟩)
end Go.Proofs.YtfmpdcmedaiooaaGreatDoor
namespace Go.Proofs.YtfmpdcmedaiooaaGreatDoor
open Go.RowKit
set_option maxHeartbeats 1000000 in
theorem runes_any (s : ByteArray) (hs : s.size ≤ 1048576) (w : World) :
    Calls Tryz.prog 74 #[.string s] w fun e w' => RunesPost (runes s.data.toList) w e w' := by
  have hs2 : Hid (s.size ≤ maxLen) := Lib.hid (by unfold maxLen; omega)
  have hlen : Hid (s.data.toList.length = s.size) := Lib.hid (by simp)
  obtain ⟨i0, hi, hz0, hz1, hz2⟩ := info_parts inf_int
  go_enter Tryz.func74, Tryz.ntmps74
  go_wp2
  go_loopw [4, 5] (fun v t wr => ∃ (k : Nat) (xs : List Nat), k ≤ s.size ∧ xs.length ≤ k ∧ t = .int .i64 k ∧ wr.ownsRow w.heap.size 3 1 v xs.length (iv xs) ∧ Below w.heap.size w wr ∧ Scan s.data.toList k xs) (fun _ t _ => s.size - (intOf t).toNat)
  case atStart => exact ⟨0, [], Nat.zero_le _, Nat.le_refl _, rfl, World.ownsRow_nil _ _ _ _, Below.refl _ _, Scan.start _⟩
  case round =>
    obtain ⟨k, xs, hk, hxk, rfl, hown, hbel, hsc0⟩ := hrel
    have hsc := Lib.hid hsc0
    clear hsc0
    by_cases hlt : k < s.size
    · cases hx : dec (s.data.toList.drop k) with
      | none =>
        have hX := Lib.hid hx
        clear hx
        have hv := Lib.hid (hsc.out.fail (by rw [hlen.out]; exact hlt) hX.out)
        go_wp2_with (go_at_call 68; refine (dec_none_of (dec_any s k hs2.out _) hX.out).mono ?_; rintro e w' ⟨rfl, rfl⟩)
        go_ret2
        rw [hv.out]
        exact RunesPost.none_ hbel rfl
      | some rn =>
        obtain ⟨r, n⟩ := rn
        have hX := Lib.hid hx
        clear hx
        obtain ⟨_, hn1, hn4, hnl⟩ := dec_some_cp hX.out
        rw [List.length_drop, hlen.out] at hnl
        have hkn : k + n ≤ s.size := by omega
        clear hnl
        go_wp2_with (first
          | (go_at_call 68; refine (dec_some_of (dec_any s k hs2.out _) r n hX.out).mono ?_; rintro e w' ⟨rfl, rfl⟩)
          | (at_builtin; refine wpList_append_own _ rfl _ _ 47 rfl w.heap.size 3 i0 (.int .i64 0) 1 8 Tryz.underlying47 hi hz0 hz1 hz2 rfl (by decide) _ _ _ rfl (hown.alloc _) ⟨wr.heap.size, 0, none⟩ 1 1 [.int .i64 r] rfl rfl ?c1 ?c2 ?c3 ?c4 ?c5 ?_))
        case c1 =>
          intro j u hj
          match j, hj with
          | 0, hj => simp at hj; subst hj; simp [Addr.add]
        case c2 => intro u hu; simp at hu; subst hu; rfl
        case c3 => unfold maxLen; omega
        case c4 => omega
        case c5 => have := hbel.size; simp; omega
        intro v' w1 hown' hgrow _
        have hB : Below w.heap.size w w1 := (hbel.alloc hbel.size _).grown hgrow (by have := hbel.size; simp; omega) (fun j hj => (hown.lt j hj).1)
        clear hgrow hown hbel
        go_wp2
        go_roundw
        case rel => exact ⟨k + n, xs ++ [r], by omega, by simp; omega, by go_num, by rw [iv_snoc]; simpa using hown', hB, hsc.out.step hX.out⟩
        case measure => simp [intOf]; omega
    · have hv := Lib.hid (hsc.out.done (by rw [hlen.out]; exact hlt))
      go_wp2
      go_ret2
      rw [hv.out]
      exact RunesPost.some_ hbel rfl hown
theorem runes_length {l : List UInt8} {xs : List Nat} (h : runes l = some xs) : xs.length ≤ l.length := by
  have key : ∀ (m : Nat) (l : List UInt8), l.length ≤ m → ∀ xs, runes l = some xs → xs.length ≤ l.length := by
    intro m
    induction m with
    | zero =>
      intro l hl xs h
      have : l = [] := List.eq_nil_of_length_eq_zero (by omega)
      subst this; rw [runes_nil] at h; injection h with h; subst h; simp
    | succ m ih =>
      intro l hl xs h
      cases l with
      | nil => rw [runes_nil] at h; injection h with h; subst h; simp
      | cons b t =>
        cases hd : dec (b :: t) with
        | none => rw [runes_none (by simp) hd] at h; cases h
        | some rn =>
          obtain ⟨r, n⟩ := rn
          obtain ⟨_, h1, _, h4⟩ := dec_some_cp hd
          rw [runes_some hd] at h
          cases hr : runes ((b :: t).drop n) with
          | none => rw [hr] at h; cases h
          | some ys =>
            rw [hr] at h; injection h with h; subst h
            have := ih _ (by rw [List.length_drop]; omega) ys hr
            rw [List.length_drop] at this
            simp only [List.length_cons] at *; omega
  exact key _ l (Nat.le_refl _) xs h
end Go.Proofs.YtfmpdcmedaiooaaGreatDoor

/- text: lower, upper, trim. -/
import Derived.Test.YtjafmdngbphacaaGreatDoorC46
import Derived.Test.YtjafmdngbphacaaGreatDoorC30
import Derived.Test.YtjafmdngbphacaaGreatDoorC45
import Derived.Test.YtjafmdngbphacaaGreatDoorC47
import Derived.Deep.QuietTactic
import Derived.BigQuiet
set_option linter.unusedVariables false
set_option linter.unusedSimpArgs false
namespace Go.Proofs.YtjafmdngbphacaaGreatDoor
open Go.RowKit Go.Sort
/-- A string whose bytes are turned one by one. -/
def mapS (g : UInt8 → UInt8) (s : ByteArray) : ByteArray := ⟨(s.data.toList.map g).toArray⟩
theorem mapS_size (g : UInt8 → UInt8) (s : ByteArray) : (mapS g s).size = s.size := by
  show (s.data.toList.map g).toArray.size = s.data.size
  rw [List.size_toArray, List.length_map, Array.length_toList]
theorem mapS_list (g : UInt8 → UInt8) (s : ByteArray) : (mapS g s).data.toList = s.data.toList.map g := by simp [mapS]
theorem okS_some {s : ByteArray} (h : okS s = true) : ∃ xs, runes s.data.toList = some xs := by
  unfold okS at h
  cases hq : runes s.data.toList with
  | none => rw [hq] at h; cases h
  | some xs => exact ⟨xs, rfl⟩
theorem okS_map {f : Int → Int} {g : UInt8 → UInt8} (A : AscF f g) {s : ByteArray} (h : okS s = true) : okS (mapS g s) = true := by
  obtain ⟨xs, hx⟩ := okS_some h
  unfold okS
  rw [mapS_list]
  exact runes_map A _ _ xs (Nat.le_refl _) hx
theorem mapD_S {f : Int → Int} {g : UInt8 → UInt8} (A : AscF f g) {s : ByteArray} (h : okS s = true) : (⟨(Lib.mapD f s.data.toList).toArray⟩ : ByteArray) = mapS g s := by
  obtain ⟨xs, hx⟩ := okS_some h
  unfold mapS
  rw [mapD_asc A _ _ xs (Nat.le_refl _) hx]
set_option maxHeartbeats 4000000 in
set_option maxRecDepth 100000 in
theorem m_lower (s t : ByteArray) (w : World) (hT : Tabs w) (ho : okS s = true) (h4 : s.size ≤ 4096) : Calls Tryz.prog 198 #[.agg #[.string s, .string t]] w (RetPost (strV (mapS lowB s)) 0 w) := by
  have H0 := Lib.hid (T2.start w s t)
  have HP := Lib.hid (map_low s _ (hT.next H0.out.below) (by omega))
  rw [mapD_S asc_low ho] at HP
  have h5 := okS_map asc_low ho
  have h6 : (mapS lowB s).size ≤ 4096 := by rw [mapS_size]; exact h4
  have HB := Lib.hid (fun W => ret_open (show Calls Tryz.prog 105 #[.string (mapS lowB s)] W (RetPost (strV (mapS lowB s)) 0 W) by have := str_any (mapS lowB s) W (by omega); rw [(str_ok h5 h6).1, (str_ok h5 h6).2] at this; exact this))
  generalize mapS lowB s = r at HP HB ⊢
  clear hT ho h4 h5 h6
  go_enter Tryz.func198, Tryz.ntmps198
  go_wp2_with fail
  refine HP.out.mono ?_
  rintro e1 w1 ⟨rfl, hb1⟩
  have H1 := Lib.hid (H0.out.next hb1)
  clear hb1
  go_wp2_with fail
  refine (HB.out _).mono ?_
  rintro e2 w2 ⟨rk, rn, rs, rks, res, RA, ra, RC, rc, hrv, rfl, hb2, hl2⟩
  have H2 := Lib.hid (H1.out.next hb2)
  have HL := Lib.hid hl2
  have hs2 := H1.out.r.lt
  have hs3 := H1.out.below.size
  clear hb2 hl2 hrv
  obtain ⟨y0, y1, y2, y3, y4⟩ := box5 H2.out.r
  have z0 := H2.out.r.free 0
  have z1 := H2.out.r.free 1
  have z2 := H2.out.r.free 2
  have z3 := H2.out.r.free 3
  have z4 := H2.out.r.free 4
  go_wp2_with fail
  refine bodyPost_ret (v := .tuple #[.agg #[.int .i64 rk, .int .i64 rn, .string rs, .slice RA rks.length ra, .slice RC res.length rc], .int .i64 0]) (by simp [results, Tryz.results198, go_sem, y0, y1, y2, y3, y4]) rfl ?_
  exact ret_put H2.out.below (by omega) H2.out.r.lt (HL.out.move fun b hb => ⟨⟨by omega, hb.2, by omega⟩, rfl⟩)
set_option maxHeartbeats 4000000 in
set_option maxRecDepth 100000 in
theorem m_upper (s t : ByteArray) (w : World) (hT : Tabs w) (ho : okS s = true) (h4 : s.size ≤ 4096) : Calls Tryz.prog 199 #[.agg #[.string s, .string t]] w (RetPost (strV (mapS upB s)) 0 w) := by
  have H0 := Lib.hid (T2.start w s t)
  have HP := Lib.hid (map_up s _ (hT.next H0.out.below) (by omega))
  rw [mapD_S asc_up ho] at HP
  have h5 := okS_map asc_up ho
  have h6 : (mapS upB s).size ≤ 4096 := by rw [mapS_size]; exact h4
  have HB := Lib.hid (fun W => ret_open (show Calls Tryz.prog 105 #[.string (mapS upB s)] W (RetPost (strV (mapS upB s)) 0 W) by have := str_any (mapS upB s) W (by omega); rw [(str_ok h5 h6).1, (str_ok h5 h6).2] at this; exact this))
  generalize mapS upB s = r at HP HB ⊢
  clear hT ho h4 h5 h6
  go_enter Tryz.func199, Tryz.ntmps199
  go_wp2_with fail
  refine HP.out.mono ?_
  rintro e1 w1 ⟨rfl, hb1⟩
  have H1 := Lib.hid (H0.out.next hb1)
  clear hb1
  go_wp2_with fail
  refine (HB.out _).mono ?_
  rintro e2 w2 ⟨rk, rn, rs, rks, res, RA, ra, RC, rc, hrv, rfl, hb2, hl2⟩
  have H2 := Lib.hid (H1.out.next hb2)
  have HL := Lib.hid hl2
  have hs2 := H1.out.r.lt
  have hs3 := H1.out.below.size
  clear hb2 hl2 hrv
  obtain ⟨y0, y1, y2, y3, y4⟩ := box5 H2.out.r
  have z0 := H2.out.r.free 0
  have z1 := H2.out.r.free 1
  have z2 := H2.out.r.free 2
  have z3 := H2.out.r.free 3
  have z4 := H2.out.r.free 4
  go_wp2_with fail
  refine bodyPost_ret (v := .tuple #[.agg #[.int .i64 rk, .int .i64 rn, .string rs, .slice RA rks.length ra, .slice RC res.length rc], .int .i64 0]) (by simp [results, Tryz.results199, go_sem, y0, y1, y2, y3, y4]) rfl ?_
  exact ret_put H2.out.below (by omega) H2.out.r.lt (HL.out.move fun b hb => ⟨⟨by omega, hb.2, by omega⟩, rfl⟩)
/-- A string is what is left of s between blanks. -/
def Trimmed (s r : ByteArray) : Prop := okS r = true ∧ r.size ≤ s.size ∧ ∃ te, span blankB s.data.toList 0 ≤ te ∧ te ≤ s.size ∧ r = s.extract (span blankB s.data.toList 0) te
theorem blank_low {b : UInt8} (h : blankB b = true) : b.toNat < 128 := by
  unfold blankB at h
  have := of_decide_eq_true h
  omega
theorem trimmed_at {s : ByteArray} (h : okS s = true) {te : Nat} (h1 : span blankB s.data.toList 0 ≤ te) (h2 : te ≤ s.size) (h3 : (runes (s.data.toList.take te)).isSome = true) : Trimmed s (s.extract (span blankB s.data.toList 0) te) := by
  have hl : s.data.toList.length = s.size := by simp
  refine ⟨?_, by simp; omega, te, h1, h2, rfl⟩
  unfold okS
  have e : (s.extract (span blankB s.data.toList 0) te).data.toList = (s.data.toList.take te).drop (span blankB s.data.toList 0) := by
    rw [List.drop_take, Lib.extract_data]
  rw [e]
  refine runes_dropN _ _ ?_ h3
  intro j b hj hb
  rw [List.getElem?_take] at hb
  split at hb
  · obtain ⟨h5, rfl⟩ := List.getElem?_eq_some_iff.1 hb
    exact blank_low (span_all h5 (Nat.zero_le _) hj)
  · cases hb
/-- Where the blanks at the end begin. -/
def trimK (l : List UInt8) (F : Nat) : Nat → Nat
  | 0 => 0
  | j + 1 => if F < j + 1 ∧ blankB (l.getD j 0) = true then trimK l F j else j + 1
theorem trimK_in {l : List UInt8} {F j : Nat} (h : F < j + 1) (hb : blankB (l.getD j 0) = true) : trimK l F (j + 1) = trimK l F j := by rw [trimK, if_pos ⟨h, hb⟩]
theorem trimK_no {l : List UInt8} {F j : Nat} (hb : blankB (l.getD j 0) = false) : trimK l F (j + 1) = j + 1 := by rw [trimK, if_neg fun q => by rw [hb] at q; exact Bool.noConfusion q.2]
theorem trimK_end {l : List UInt8} {F k : Nat} (h : ¬ F < k) : trimK l F k = k := by
  cases k with
  | zero => rfl
  | succ j => rw [trimK, if_neg fun q => h q.1]
theorem trimK_spec (l : List UInt8) (F : Nat) : ∀ k, F ≤ k → k ≤ l.length → (runes (l.take k)).isSome = true → F ≤ trimK l F k ∧ trimK l F k ≤ k ∧ (runes (l.take (trimK l F k))).isSome = true
  | 0, h, _, hr => ⟨h, Nat.le_refl _, hr⟩
  | j + 1, h, hl, hr => by
    rw [trimK]
    split
    · rename_i q
      have hj : l[j]? = some (l.getD j 0) := by rw [List.getD_eq_getElem?_getD, List.getElem?_eq_getElem (by omega)]; rfl
      obtain ⟨a, b, c⟩ := trimK_spec l F j (by omega) (by omega) (runes_take1 hj (blank_low q.2) hr)
      exact ⟨a, by omega, c⟩
    · exact ⟨h, Nat.le_refl _, hr⟩
/-- A string without the blanks at its ends. -/
def trimS (s : ByteArray) : ByteArray := s.extract (span blankB s.data.toList 0) (trimK s.data.toList (span blankB s.data.toList 0) s.size)
theorem trimS_ok {s : ByteArray} (ho : okS s = true) : Trimmed s (trimS s) := by
  have hlen : s.data.toList.length = s.size := by simp
  have hf := span_le (p := blankB) (l := s.data.toList) (k := 0) (Nat.zero_le _)
  rw [hlen] at hf
  have hr : (runes (s.data.toList.take s.size)).isSome = true := by rw [← hlen, List.take_length]; exact ho
  obtain ⟨a, b, c⟩ := trimK_spec s.data.toList (span blankB s.data.toList 0) s.size hf (by omega) hr
  exact trimmed_at ho a b c
set_option maxHeartbeats 4000000 in
set_option maxRecDepth 100000 in
theorem m_trim (s t : ByteArray) (w : World) (ho : okS s = true) (h4 : s.size ≤ 4096) : Calls Tryz.prog 200 #[.agg #[.string s, .string t]] w (RetPost (strV (trimS s)) 0 w) := by
  have H0 := Lib.hid (T2.start w s t)
  have hSk := Lib.hid (fun W => skip_any s 0 (by unfold maxLen; omega) (Nat.zero_le _) W)
  have hBl := Lib.hid (fun (b : UInt8) W => blank_any b W)
  have hlen : s.data.toList.length = s.size := by simp
  have hf := span_le (p := blankB) (l := s.data.toList) (k := 0) (Nat.zero_le _)
  have HTT := trimS_ok ho
  have h6 : (trimS s).size ≤ 4096 := Nat.le_trans HTT.2.1 h4
  have HC := Lib.hid (fun W => ret_open (show Calls Tryz.prog 105 #[.string (trimS s)] W (RetPost (strV (trimS s)) 0 W) by have := str_any (trimS s) W (by omega); rw [(str_ok HTT.1 h6).1, (str_ok HTT.1 h6).2] at this; exact this))
  clear HTT h6
  unfold trimS at HC ⊢
  obtain ⟨F, hF⟩ : ∃ F, span blankB s.data.toList 0 = F := ⟨_, rfl⟩
  rw [hF] at hSk hf HC ⊢
  obtain ⟨K, hK⟩ : ∃ K, trimK s.data.toList F s.size = K := ⟨_, rfl⟩
  rw [hK] at HC ⊢
  have HK := Lib.hid hK
  rw [hlen] at hf
  have HLN := Lib.hid hlen
  clear hF hK ho hlen
  go_enter Tryz.func200, Tryz.ntmps200
  go_wp2_with fail
  go_quiet (first | (go_at_call 241; refine Calls.quiet_of_same ((hSk.out _).mono fun e w' h => ⟨h.1, h.2.symm⟩)))
  obtain ⟨W1, hW1⟩ : ∃ X, X = ((w.alloc (.cells #[.string s, .string t] 126)).alloc (.cells #[.int .i64 0, .int .i64 0, .string ⟨#[]⟩, .slice none 0 0, .slice none 0 0] 25)).drewN nq := ⟨_, rfl⟩
  have H1 : Hid (T2 w s t W1) := Lib.hid (by rw [hW1]; exact H0.out.next ⟨rfl, rfl, rfl, Nat.le_refl _, fun _ _ => rfl⟩)
  rw [← hW1]
  clear hW1
  obtain ⟨p0, p1⟩ : W1.cell? ⟨w.heap.size, 0, none⟩ = some (.string s) ∧ W1.cell? ⟨w.heap.size, 1, none⟩ = some (.string t) := ⟨H1.out.x.cell rfl, H1.out.x.cell rfl⟩
  go_wp2_with fail
  go_loopw [5] (fun t5 wr => ∃ k : Nat, F ≤ k ∧ k ≤ s.size ∧ t5 = .int .i64 k ∧ wr = W1 ∧ Aside (trimK s.data.toList F k = K)) (fun t5 _ => (intOf t5).toNat)
  case atStart => exact ⟨s.size, hf, Nat.le_refl _, rfl, rfl, HK.out⟩
  case round =>
    obtain ⟨k, hk1, hk2, rfl, hwr, hrv⟩ := hrel
    have hwr2 := hwr.symm
    clear hwr
    subst hwr2
    have HRV := Lib.hid hrv.out
    clear hrv
    by_cases hlt : F < k
    · obtain ⟨j, rfl⟩ : ∃ j, k = j + 1 := ⟨k - 1, by omega⟩
      have q1 : (F : Int) < ((j + 1 : Nat) : Int) := by omega
      have q2 : (F : Int) < (j : Int) + 1 := by omega
      have q3 : wrap64 ((j : Int) + 1 - 1) = (j : Int) := by unfold wrap64; omega
      have q4 : (0 : Int) ≤ (j : Int) := by omega
      have q5 : (j : Int) < (s.size : Int) := by omega
      have hjs : j < s.size := by omega
      obtain ⟨b, hb⟩ : ∃ b, s[j] = b := ⟨_, rfl⟩
      have hgd : s.data.toList.getD j 0 = b := by rw [List.getD_eq_getElem?_getD, at_list hjs hb]; rfl
      have HBB := Lib.hid (fun W => hBl.out b W)
      cases hc : blankB b with
      | true =>
        have HS := Lib.hid (trimK_in (l := s.data.toList) hlt (by rw [hgd]; exact hc))
        clear hgd
        rw [hc] at HBB
        go_wp2_with fail
        refine (HBB.out _).mono ?_
        rintro e2 w2 ⟨rfl, rfl⟩
        go_wp2_with fail
        go_roundw
        case rel => exact ⟨j, by omega, by omega, by first | rfl | go_num, by first | trivial | rfl, HS.out.symm.trans HRV.out⟩
        case measure => (simp [intOf] <;> omega)
      | false =>
        have hS := trimK_no (l := s.data.toList) (F := F) (j := j) (by rw [hgd]; exact hc)
        clear hgd
        obtain rfl : j + 1 = K := hS.symm.trans HRV.out
        rw [hc] at HBB
        go_wp2_with fail
        refine (HBB.out _).mono ?_
        rintro e2 w2 ⟨rfl, rfl⟩
        go_wp2_with fail
        refine (HC.out _).mono ?_
        rintro e2 w2 ⟨rk, rn, rs, rks, res, RA, ra, RC, rc, hrv, rfl, hb2, hl2⟩
        have H2 := Lib.hid (H1.out.next hb2)
        have HLL := Lib.hid hl2
        have hs2 := H1.out.r.lt
        have hs3 := H1.out.below.size
        clear hb2 hl2 hrv
        obtain ⟨y0, y1, y2, y3, y4⟩ := box5 H2.out.r
        have z0 := H2.out.r.free 0
        have z1 := H2.out.r.free 1
        have z2 := H2.out.r.free 2
        have z3 := H2.out.r.free 3
        have z4 := H2.out.r.free 4
        go_wp2_with fail
        refine bodyPost_ret (v := .tuple #[.agg #[.int .i64 rk, .int .i64 rn, .string rs, .slice RA rks.length ra, .slice RC res.length rc], .int .i64 0]) (by simp [results, Tryz.results200, go_sem, y0, y1, y2, y3, y4]) rfl ?_
        exact ret_put H2.out.below (by omega) H2.out.r.lt (HLL.out.move fun b hb => ⟨⟨by omega, hb.2, by omega⟩, rfl⟩)
    · have q1 : ¬ ((F : Int) < (k : Int)) := by omega
      obtain rfl : k = K := (trimK_end hlt).symm.trans HRV.out
      go_wp2_with fail
      refine (HC.out _).mono ?_
      rintro e2 w2 ⟨rk, rn, rs, rks, res, RA, ra, RC, rc, hrv, rfl, hb2, hl2⟩
      have H2 := Lib.hid (H1.out.next hb2)
      have HLL := Lib.hid hl2
      have hs2 := H1.out.r.lt
      have hs3 := H1.out.below.size
      clear hb2 hl2 hrv
      obtain ⟨y0, y1, y2, y3, y4⟩ := box5 H2.out.r
      have z0 := H2.out.r.free 0
      have z1 := H2.out.r.free 1
      have z2 := H2.out.r.free 2
      have z3 := H2.out.r.free 3
      have z4 := H2.out.r.free 4
      go_wp2_with fail
      refine bodyPost_ret (v := .tuple #[.agg #[.int .i64 rk, .int .i64 rn, .string rs, .slice RA rks.length ra, .slice RC res.length rc], .int .i64 0]) (by simp [results, Tryz.results200, go_sem, y0, y1, y2, y3, y4]) rfl ?_
      exact ret_put H2.out.below (by omega) H2.out.r.lt (HLL.out.move fun b hb => ⟨⟨by omega, hb.2, by omega⟩, rfl⟩)
end Go.Proofs.YtjafmdngbphacaaGreatDoor

/- The program's and the reference's counts agree: a value is valid to both or to none. Nothing of the program is named here. The comparisons of Go's library that the layer calls. Lists of strings: slices.Compare, keep.Strings, keep.Short. The contracts of Count, Valid, Runes, and of the reference's. The contracts of the reference's Runes and Valid. The program's fieldsFit, addString and addKeys. The program's addKeys. -/
import Derived.Test.YtfmpdcmedaiooaaGreatDoorU09
import Derived.Test.YtfmpdcmedaiooaaGreatDoorRows
import Derived.Lib.Hide
import Derived.Lib.Walk
import Derived.WalkSpells
import Derived.WalkLawsBesides
import Derived.Outline
import Derived.Deep.QuietTactic
import Derived.BigQuiet
import Derived.Test.YtfmpdcmedaiooaaGreatDoorU05
import Derived.Deep.CutBlock
import Derived.Deep.DeepCutAuto
import Derived.Test.YtfmpdcmedaiooaaGreatDoorU01
set_option linter.unusedVariables false
set_option linter.unusedSimpArgs false
namespace Go.Proofs.YtfmpdcmedaiooaaGreatDoor
def kb : List ByteArray → Nat
  | [] => 0
  | x :: r => x.size + kb r
def keysOk : Option ByteArray → List ByteArray → Bool
  | _, [] => true
  | none, x :: r => keyOk x && keysOk (some x) r
  | some p, x :: r => keyOk x && (decide (scmp p x < 0) && keysOk (some x) r)
theorem keysP_iff (ks : List ByteArray) : ∀ (p : Option ByteArray) (b r : Int), b ≤ 65536 → (keysP ks p b = some r ↔ keysOk p ks = true ∧ b + kb ks ≤ 65536 ∧ r = b + kb ks) := by
  induction ks with
  | nil =>
    intro p b r hb
    simp [keysP, keysOk, kb]
    omega
  | cons x ks ih =>
    intro p b r hb
    have key : (if strOk x b then keysP ks (some x) (b + x.size) else none) = some r ↔ keyOk x = true ∧ keysOk (some x) ks = true ∧ b + kb (x :: ks) ≤ 65536 ∧ r = b + kb (x :: ks) := by
      by_cases hs : strOk x b = true
      · rw [if_pos hs]
        have hk : keyOk x = true := by simp [strOk] at hs; simp [keyOk, hs.1, hs.2.2]
        have hb2 : b + (x.size : Int) ≤ 65536 := by simp [strOk] at hs; omega
        rw [ih _ _ _ hb2, kb]
        constructor
        · rintro ⟨h1, h2, h3⟩; exact ⟨hk, h1, by omega, by omega⟩
        · rintro ⟨_, h1, h2, h3⟩; exact ⟨h1, by omega, by omega⟩
      · rw [if_neg hs]
        constructor
        · intro h; cases h
        · rintro ⟨h1, _, h2, _⟩
          exfalso
          apply hs
          rw [kb] at h2
          simp [keyOk] at h1
          simp [strOk, h1.1, h1.2]
          omega
    cases p with
    | none => rw [keysP, key, keysOk]; simp [and_assoc]
    | some p =>
      rw [keysP, keysOk]
      by_cases hlt : scmp p x < 0
      · rw [if_pos hlt, key]; simp [hlt, and_assoc]
      · rw [if_neg hlt]; simp [hlt]
mutual
def good : V → Bool
  | .mk k n s ks es => fits k n s ks.length es.length && (decide (s.size ≤ 4096) && (okS s && (decide (es.length ≤ 1024) && (keysOk none ks && goodL es))))
def goodL : List V → Bool
  | [] => true
  | e :: es => good e && goodL es
end
mutual
/-- The depth of a value. -/
def dep : V → Nat
  | .mk k _ _ _ es => if k = 5 ∨ k = 6 then depL es + 1 else 0
def depL : List V → Nat
  | [] => 0
  | e :: es => max (dep e) (depL es)
end
mutual
/-- The bytes of all strings and keys. -/
def vbyt : V → Nat
  | .mk _ _ s ks es => s.size + kb ks + vbytL es
def vbytL : List V → Nat
  | [] => 0
  | e :: es => vbyt e + vbytL es
end
theorem fits_facts {k n : Int} {s : ByteArray} {nk ne : Nat} (h : fits k n s nk ne = true) : (0 ≤ k ∧ k ≤ 6) ∧ (k = 5 ∨ k = 6 ∨ (nk = 0 ∧ ne = 0)) ∧ (k = 5 → nk = 0) ∧ (k = 6 → nk = ne) := by
  unfold fits at h
  generalize s.size = z at h
  (repeat' split at h) <;> simp at h <;> omega
theorem addP_iff : ∀ v : V, ∀ lv d m b d' m' b' : Int, 0 ≤ lv → lv ≤ 32 → lv ≤ d → m ≤ 4096 → b ≤ 65536 →
    (addP v lv d m b = some (d', m', b') ↔ good v = true ∧ lv + dep v ≤ 32 ∧ m + v.sz ≤ 4096 ∧ b + vbyt v ≤ 65536 ∧ d' = max d (lv + dep v) ∧ m' = m + v.sz ∧ b' = b + vbyt v) := by
  refine V.ind fun k n s ks es ih lv d m b d' m' b' l0 l1 ld hm hb => ?_
  have key : ∀ fs : List V, (∀ e ∈ fs, e ∈ es) → ∀ lv d m b : Int, 0 ≤ lv → lv ≤ 32 → lv ≤ d → m ≤ 4096 → b ≤ 65536 →
      (addL fs lv d m b = some (d', m', b') ↔ goodL fs = true ∧ lv + depL fs ≤ 32 ∧ m + V.szL fs ≤ 4096 ∧ b + vbytL fs ≤ 65536 ∧ d' = max d (lv + depL fs) ∧ m' = m + V.szL fs ∧ b' = b + vbytL fs) := by
    intro fs
    induction fs with
    | nil =>
      intro _ lv d m b l0 l1 ld hm hb
      simp only [addL, goodL, depL, V.szL, vbytL, Option.some.injEq, Prod.mk.injEq, true_and]
      omega
    | cons e fs ihf =>
      intro hin lv d m b l0 l1 ld hm hb
      have he := ih e (hin e (by simp)) lv d m b
      rw [addL, goodL, depL, V.szL, vbytL]
      cases ha : addP e lv d m b with
      | none =>
        simp only [Bool.and_eq_true]
        constructor
        · intro h; cases h
        · rintro ⟨⟨g1, g2⟩, h1, h2, h3, _⟩
          have := (he (max d (lv + dep e)) (m + e.sz) (b + vbyt e) l0 l1 ld hm hb).2 ⟨g1, by omega, by omega, by omega, rfl, rfl, rfl⟩
          rw [ha] at this
          cases this
      | some q =>
        obtain ⟨d2, m2, b2⟩ := q
        obtain ⟨g1, x1, x2, x3, rfl, rfl, rfl⟩ := (he d2 m2 b2 l0 l1 ld hm hb).1 ha
        simp only [Bool.and_eq_true]
        rw [ihf (fun x hx => hin x (by simp [hx])) lv _ _ _ l0 l1 (by omega) (by omega) (by omega)]
        constructor
        · rintro ⟨g2, y1, y2, y3, y4, y5, y6⟩
          exact ⟨⟨g1, g2⟩, by omega, by omega, by omega, by omega, by omega, by omega⟩
        · rintro ⟨⟨_, g2⟩, y1, y2, y3, y4, y5, y6⟩
          exact ⟨g2, by omega, by omega, by omega, by omega, by omega, by omega⟩
  rw [addP, good, dep, V.sz, vbyt]
  by_cases hf : fits k n s ks.length es.length = true
  · obtain ⟨⟨k0, k6⟩, hsc, hk5, hk6⟩ := fits_facts hf
    by_cases hs : s.size ≤ 4096 ∧ okS s = true
    · by_cases hc : 4096 < m + 1 ∨ fits k n s ks.length es.length = false ∨ strOk s b = false
      · rw [if_pos hc]
        constructor
        · intro h; cases h
        · rintro ⟨_, _, h2, h3, _⟩
          exfalso
          rcases hc with hc | hc | hc
          · omega
          · rw [hf] at hc; cases hc
          · simp [strOk, hs.1, hs.2] at hc
            omega
      · rw [if_neg hc]
        have hso : strOk s b = true := by
          cases hq : strOk s b with
          | true => rfl
          | false => exact absurd (.inr (.inr hq)) hc
        have hsb : b + s.size ≤ 65536 := by simp [strOk] at hso; omega
        by_cases hk : k = 5 ∨ k = 6
        · rw [if_neg (by omega), if_pos hk]
          by_cases hl : 32 < lv + 1 ∨ 1024 < es.length
          · rw [if_pos hl]
            simp only [Bool.and_eq_true, decide_eq_true_eq]
            constructor
            · intro h; cases h
            · rintro ⟨⟨_, _, _, h4, _⟩, h5, _⟩; omega
          · rw [if_neg hl]
            cases hkk : keysP ks none (b + s.size) with
            | none =>
              simp only [Bool.and_eq_true, decide_eq_true_eq]
              constructor
              · intro h; cases h
              · rintro ⟨⟨_, _, _, _, h4, _⟩, _, _, h5, _⟩
                have := (keysP_iff ks none (b + s.size) (b + s.size + kb ks) hsb).2 ⟨h4, by omega, rfl⟩
                rw [hkk] at this
                cases this
            | some b2 =>
              obtain ⟨g, x1, rfl⟩ := (keysP_iff ks none (b + s.size) b2 hsb).1 hkk
              simp only [Bool.and_eq_true, decide_eq_true_eq]
              rw [key es (fun _ h => h) (lv + 1) _ _ _ (by omega) (by omega) (by omega) (by omega) (by omega)]
              constructor
              · rintro ⟨y0, y1, y2, y3, y4, y5, y6⟩
                exact ⟨⟨hf, hs.1, hs.2, by omega, g, y0⟩, by omega, by omega, by omega, by omega, by omega, by omega⟩
              · rintro ⟨⟨_, _, _, _, _, y0⟩, y1, y2, y3, y4, y5, y6⟩
                exact ⟨y0, by omega, by omega, by omega, by omega, by omega, by omega⟩
        · have h0 : ks.length = 0 ∧ es.length = 0 := by omega
          obtain rfl : ks = [] := List.eq_nil_of_length_eq_zero h0.1
          obtain rfl : es = [] := List.eq_nil_of_length_eq_zero h0.2
          rw [if_pos (by omega), if_neg hk]
          simp only [Bool.and_eq_true, decide_eq_true_eq, Option.some.injEq, Prod.mk.injEq, keysOk, goodL, V.szL, kb, vbytL]
          constructor
          · rintro ⟨rfl, rfl, rfl⟩
            exact ⟨⟨hf, hs.1, hs.2, by simp, trivial, trivial⟩, by omega, by omega, by omega, by omega, by omega, by omega⟩
          · rintro ⟨_, y1, y2, y3, y4, y5, y6⟩
            omega
    · have hso : strOk s b = false := by
        cases hq : strOk s b with
        | false => rfl
        | true => simp [strOk] at hq; exact absurd ⟨hq.1, hq.2.2⟩ hs
      rw [if_pos (.inr (.inr hso))]
      simp only [Bool.and_eq_true, decide_eq_true_eq]
      constructor
      · intro h; cases h
      · rintro ⟨⟨_, h1, h2, _⟩, _⟩
        exact absurd ⟨h1, h2⟩ hs
  · rw [if_pos (.inr (.inl (by simpa using hf)))]
    simp [hf]
end Go.Proofs.YtfmpdcmedaiooaaGreatDoor
namespace Go.Proofs.YtfmpdcmedaiooaaGreatDoor
open Go.RowKit
def icmp (x y : Int) : Int := if x < y then -1 else if y < x then 1 else 0
set_option maxHeartbeats 400000 in
theorem cmp_int (x y : Int) (w : World) : Calls Tryz.prog 138 #[.int .i64 x, .int .i64 y] w fun e w' => e = .returned (.int .i64 (icmp x y)) ∧ w = w' := by
  go_enter Tryz.func138, Tryz.ntmps138
  go_wp2
  all_goals
    go_ret
    exact ⟨ret_int (by unfold icmp; (repeat' split) <;> omega), rfl⟩
set_option maxHeartbeats 400000 in
theorem cmp_int64 (x y : Int) (w : World) : Calls Tryz.prog 139 #[.int .i64 x, .int .i64 y] w fun e w' => e = .returned (.int .i64 (icmp x y)) ∧ w = w' := by
  go_enter Tryz.func139, Tryz.ntmps139
  go_wp2
  all_goals
    go_ret
    exact ⟨ret_int (by unfold icmp; (repeat' split) <;> omega), rfl⟩
set_option maxHeartbeats 400000 in
theorem cmp_str (a b : ByteArray) (w : World) : Calls Tryz.prog 170 #[.string a, .string b] w fun e w' => e = .returned (.int .i64 (scmp a b)) ∧ w = w' := by
  have h1 := less_eq a b
  have h2 := same_eq a b
  rcases scmp_range a b with h | h | h
  · rw [h] at h1 h2
    have H := Lib.hid h
    clear h
    simp only [show decide ((-1 : Int) < 0) = true from rfl, show decide ((-1 : Int) = 0) = false from rfl] at h1 h2
    go_enter Tryz.func170, Tryz.ntmps170
    go_wp2
    go_ret
    exact ⟨ret_int H.out.symm, rfl⟩
  · obtain rfl := (scmp_zero a b).1 h
    rw [h] at h1
    have H := Lib.hid h
    clear h h2
    simp only [show decide ((0 : Int) < 0) = false from rfl] at h1
    go_enter Tryz.func170, Tryz.ntmps170
    go_wp2
    go_ret
    exact ⟨ret_int H.out.symm, rfl⟩
  · rw [h] at h1 h2
    have H := Lib.hid h
    clear h
    simp only [show decide ((1 : Int) < 0) = false from rfl, show decide ((1 : Int) = 0) = false from rfl] at h1 h2
    go_enter Tryz.func170, Tryz.ntmps170
    go_wp2
    go_ret
    exact ⟨ret_int H.out.symm, rfl⟩
set_option maxHeartbeats 1000000 in
set_option maxRecDepth 100000 in
theorem cmp_strings (a b : ByteArray) (w : World) : Calls Tryz.prog 140 #[.string a, .string b] w fun e w' => e = .returned (.int .i64 (scmp a b)) ∧ w = w' := by
  go_enter Tryz.func140, Tryz.ntmps140
  go_wp2
  rw [run_callFunc_extern Tryz.func197 (by kernel_rfl) (by kernel_rfl) (by kernel_rfl) (e := Extern.BytealgCompare.compare) (by kernel_rfl), Lib.run_compareString]
  simp only [Result.andThen]
  rw [Oper.upon_value]
  go_wp2
  go_ret
  exact ⟨rfl, rfl⟩
end Go.Proofs.YtfmpdcmedaiooaaGreatDoor
namespace Go.Proofs.YtfmpdcmedaiooaaGreatDoor
open Go.RowKit
/-- The order of two lists of strings. -/
def kcmp : List ByteArray → List ByteArray → Int
  | [], [] => 0
  | [], _ :: _ => -1
  | _ :: _, [] => 1
  | x :: a, y :: b => if scmp x y = 0 then kcmp a b else scmp x y
theorem kcmp_step {ks ls : List ByteArray} {i : Nat} {x y : ByteArray} (hx : ks[i]? = some x) (hy : ls[i]? = some y) (h : scmp x y = 0) : kcmp (ks.drop i) (ls.drop i) = kcmp (ks.drop (i + 1)) (ls.drop (i + 1)) := by
  obtain ⟨h1, rfl⟩ := List.getElem?_eq_some_iff.1 hx
  obtain ⟨h2, rfl⟩ := List.getElem?_eq_some_iff.1 hy
  rw [List.drop_eq_getElem_cons h1, List.drop_eq_getElem_cons h2, kcmp, if_pos h]
theorem kcmp_part {ks ls : List ByteArray} {i : Nat} {x y : ByteArray} (hx : ks[i]? = some x) (hy : ls[i]? = some y) (h : ¬ scmp x y = 0) : kcmp (ks.drop i) (ls.drop i) = scmp x y := by
  obtain ⟨h1, rfl⟩ := List.getElem?_eq_some_iff.1 hx
  obtain ⟨h2, rfl⟩ := List.getElem?_eq_some_iff.1 hy
  rw [List.drop_eq_getElem_cons h1, List.drop_eq_getElem_cons h2, kcmp, if_neg h]
theorem kcmp_long {ks ls : List ByteArray} {i : Nat} {x : ByteArray} (hx : ks[i]? = some x) (hl : ls.length ≤ i) : kcmp (ks.drop i) (ls.drop i) = 1 := by
  obtain ⟨h1, rfl⟩ := List.getElem?_eq_some_iff.1 hx
  rw [List.drop_eq_getElem_cons h1, List.drop_eq_nil_of_le hl, kcmp]
theorem kcmp_end {ks ls : List ByteArray} (hl : ks.length ≤ ls.length) : kcmp (ks.drop ks.length) (ls.drop ks.length) = if ks.length < ls.length then -1 else 0 := by
  rw [List.drop_eq_nil_of_le (Nat.le_refl _)]
  by_cases h : ks.length < ls.length
  · rw [if_pos h, List.drop_eq_getElem_cons h, kcmp]
  · rw [if_neg h, List.drop_eq_nil_of_le (by omega), kcmp]
set_option maxHeartbeats 1000000 in
theorem slcmp_any (A B : Option Addr) (a b : Nat) (ks ls : List ByteArray) (S T : Nat → Prop) (w : World) (hA : Rs w S A (kv ks)) (hB : Rs w T B (kv ls)) (hk : ks.length ≤ maxLen) (hl : ls.length ≤ maxLen) :
    Calls Tryz.prog 141 #[.slice A ks.length a, .slice B ls.length b] w fun e w' => e = .returned (.int .i64 (kcmp ks ls)) ∧ w = w' := by
  have HA := Lib.hid hA
  have HB := Lib.hid hB
  clear hA hB
  unfold maxLen at hk hl
  go_enter Tryz.func141, Tryz.ntmps141
  go_wp2
  go_loop [11] (fun t => ∃ i : Nat, i ≤ ks.length ∧ i ≤ ls.length ∧ t = .int .i64 i ∧ kcmp ks ls = kcmp (ks.drop i) (ls.drop i)) (fun t => ks.length - (intOf t).toNat)
  case atStart => exact ⟨0, Nat.zero_le _, Nat.zero_le _, rfl, rfl⟩
  case round =>
    obtain ⟨i, hi, hil, rfl, h0⟩ := hrel
    have H0 := Lib.hid h0
    clear h0
    by_cases hlt : i < ks.length
    · obtain ⟨x, hx⟩ : ∃ x, ks[i]? = some x := ⟨_, List.getElem?_eq_getElem hlt⟩
      obtain ⟨b0, o0, rfl, _, hc0⟩ := HA.out.at_ (kv_at hx)
      by_cases hlt2 : i < ls.length
      · obtain ⟨y, hy⟩ : ∃ y, ls[i]? = some y := ⟨_, List.getElem?_eq_getElem hlt2⟩
        obtain ⟨b1, o1, rfl, _, hc1⟩ := HB.out.at_ (kv_at hy)
        by_cases hz : scmp x y = 0
        · have hs := Lib.hid (H0.out.trans (kcmp_step hx hy hz))
          have HZ := Lib.hid hz
          have hzb : ((scmp x y) != 0) = false := by simp [hz]
          have HC := Lib.hid (fun w => cmp_str x y w)
          clear hz hx hy
          go_wp2_with (go_at_call 170; refine (HC.out _).mono ?_; rintro e w' ⟨rfl, rfl⟩)
          go_round
          case rel => exact ⟨i + 1, by omega, by omega, by go_num, hs.out⟩
          case measure => simp [intOf]; omega
        · have hs := Lib.hid (H0.out.trans (kcmp_part hx hy hz))
          have hzb : ((scmp x y) != 0) = true := by simp [hz]
          clear hz hx hy
          go_wp2_with (go_at_call 170; refine (cmp_str x y _).mono ?_; rintro e w' ⟨rfl, rfl⟩)
          go_ret
          exact ⟨ret_int hs.out.symm, rfl⟩
      · have hs := Lib.hid (H0.out.trans (kcmp_long hx (by omega)))
        clear hx
        go_wp2
        go_ret
        exact ⟨ret_int hs.out.symm, rfl⟩
    · obtain rfl : i = ks.length := by omega
      have hs := Lib.hid (H0.out.trans (kcmp_end hil))
      by_cases hlt2 : ks.length < ls.length
      · have hv := Lib.hid (hs.out.trans (if_pos hlt2))
        go_wp2
        go_ret
        exact ⟨ret_int hv.out.symm, rfl⟩
      · have hv := Lib.hid (hs.out.trans (if_neg hlt2))
        go_wp2
        go_ret
        exact ⟨ret_int hv.out.symm, rfl⟩
theorem drewN_two (w : World) (m n : Nat) : (w.drewN m).drewN n = w.drewN (m + n) := by simp [World.drewN, Nat.add_assoc]
theorem take_eq_step {α : Type} {us vs : List α} {k : Nat} {x y : α} (ha : us[k]? = some x) (hb : vs[k]? = some y) (h : us.take k = vs.take k) (hxy : x = y) : us.take (k + 1) = vs.take (k + 1) := by
  rw [List.take_add_one, List.take_add_one, ha, hb, h, hxy]
theorem take_all_eq {α : Type} {us vs : List α} {k : Nat} (h : us.take k = vs.take k) (h1 : us.length ≤ k) (h2 : us.length = vs.length) : us = vs := by
  rw [List.take_of_length_le h1, List.take_of_length_le (by omega)] at h
  exact h
theorem at_ne {α : Type} {us vs : List α} {k : Nat} {x y : α} (ha : us[k]? = some x) (hb : vs[k]? = some y) (hne : x ≠ y) : us ≠ vs := by
  rintro rfl
  rw [ha] at hb
  injection hb with hb
  exact hne hb
set_option maxHeartbeats 1000000 in
theorem strings_any (A B : Option Addr) (a b : Nat) (ks ls : List ByteArray) (S T : Nat → Prop) (w : World) (hA : Rs w S A (kv ks)) (hB : Rs w T B (kv ls)) (hk : ks.length ≤ maxLen) :
    Calls Tryz.prog 20 #[.slice A ks.length a, .slice B ls.length b] w fun e w' => e = .returned (.bool (decide (ks = ls))) ∧ ∃ m, w' = w.drewN m := by
  have HA := Lib.hid hA
  have HB := Lib.hid hB
  clear hA hB
  unfold maxLen at hk
  by_cases hl : ks.length = ls.length
  · have hbq : (((ks.length : Nat) : Int) != ((ls.length : Nat) : Int)) = false := by simp [hl]
    have HL := Lib.hid hl
    clear hl
    go_enter Tryz.func20, Tryz.ntmps20
    go_wp2
    go_loopw [5] (fun t wr => ∃ i : Nat, i ≤ ks.length ∧ t = .int .i64 i ∧ ks.take i = ls.take i ∧ ∃ m, wr = w.drewN m) (fun t _ => ks.length - (intOf t).toNat)
    case atStart => exact ⟨0, Nat.zero_le _, rfl, rfl, 0, rfl⟩
    case round =>
      obtain ⟨i, hi, rfl, heq0, m, rfl⟩ := hrel
      have heq := Lib.hid heq0
      clear heq0
      by_cases hlt : i < ks.length
      · have hltb : i < ls.length := by have := HL.out; omega
        obtain ⟨x, hx⟩ : ∃ x, ks[i]? = some x := ⟨_, List.getElem?_eq_getElem hlt⟩
        obtain ⟨y, hy⟩ : ∃ y, ls[i]? = some y := ⟨_, List.getElem?_eq_getElem hltb⟩
        obtain ⟨b0, o0, rfl, _, hc0⟩ := HA.out.at_ (kv_at hx)
        obtain ⟨b1, o1, rfl, _, hc1⟩ := HB.out.at_ (kv_at hy)
        have HX := Lib.hid hx
        have HY := Lib.hid hy
        have hi1 : (i : Int) < (ks.length : Int) := by omega
        have hi2 : (i : Int) < (ls.length : Int) := by omega
        clear hx hy
        have hse := same_eq x y
        by_cases hz : scmp x y = 0
        · have HQ := Lib.hid ((scmp_zero x y).1 hz)
          obtain rfl := HQ.out
          clear hz hse
          go_wp2
          go_quiet (fail)
          go_wp2
          go_roundw
          case rel => exact ⟨i + 1, by omega, by go_num, take_eq_step HX.out HY.out heq.out rfl, _, rfl⟩
          case measure => simp [intOf]; omega
        · rw [decide_eq_false hz] at hse
          have hne : Hid (decide (ks = ls) = false) := Lib.hid (decide_eq_false (at_ne HX.out HY.out fun h => hz ((scmp_zero x y).2 h)))
          clear hz
          go_wp2
          go_quiet (fail)
          go_wp2
          go_ret
          exact ⟨ret_bool hne.out.symm, m + nq, drewN_two w m nq⟩
      · have he : Hid (decide (ks = ls) = true) := Lib.hid (decide_eq_true (take_all_eq heq.out (by omega) HL.out))
        go_wp2
        go_ret
        exact ⟨ret_bool he.out.symm, _, rfl⟩
  · have hbq : (((ks.length : Nat) : Int) != ((ls.length : Nat) : Int)) = true := by simp; omega
    have hne : Hid (decide (ks = ls) = false) := Lib.hid (decide_eq_false fun h => hl (by rw [h]))
    clear hl
    go_enter Tryz.func20, Tryz.ntmps20
    go_wp2
    go_ret
    exact ⟨ret_bool hne.out.symm, 0, rfl⟩
end Go.Proofs.YtfmpdcmedaiooaaGreatDoor
namespace Go.Proofs.YtfmpdcmedaiooaaGreatDoor
open Go.RowKit
def cntV : Option (List Nat) → Value
  | none => .tuple #[.int .i64 0, .bool false]
  | some xs => .tuple #[.int .i64 xs.length, .bool true]
set_option maxHeartbeats 400000 in
theorem cnt_any (s : ByteArray) (hs : s.size ≤ maxLen) (w : World) :
    Calls Tryz.prog 43 #[.string s] w fun e w' => e = .returned (cntV (runes s.data.toList)) ∧ w = w' := by
  have hs2 := Lib.hid hs
  have hlen : Hid (s.data.toList.length = s.size) := Lib.hid (by simp)
  unfold maxLen at hs
  go_enter Tryz.func43, Tryz.ntmps43
  go_wp2
  go_loop [4, 5] (fun c t => ∃ (k : Nat) (xs : List Nat), k ≤ s.size ∧ xs.length ≤ k ∧ t = .int .i64 k ∧ c = .int .i64 xs.length ∧ Scan s.data.toList k xs) (fun _ t => s.size - (intOf t).toNat)
  case atStart => exact ⟨0, [], Nat.zero_le _, Nat.le_refl _, rfl, rfl, Scan.start _⟩
  case round =>
    obtain ⟨k, xs, hk, hxk, rfl, rfl, hsc0⟩ := hrel
    have hsc := Lib.hid hsc0
    clear hsc0
    by_cases hlt : k < s.size
    · cases hx : dec (s.data.toList.drop k) with
      | none =>
        have hX := Lib.hid hx
        clear hx
        have hv : Hid (cntV (runes s.data.toList) = .tuple #[.int .i64 0, .bool false]) := Lib.hid (by rw [hsc.out.fail (by rw [hlen.out]; exact hlt) hX.out]; rfl)
        go_wp2_with (go_at_call 68; refine (dec_none_of (dec_any s k hs2.out _) hX.out).mono ?_; rintro e w' ⟨rfl, rfl⟩)
        go_ret2
        exact ⟨congrArg Ending.returned hv.out.symm, rfl⟩
      | some rn =>
        obtain ⟨r, n⟩ := rn
        have hX := Lib.hid hx
        clear hx
        obtain ⟨_, hn1, hn4, hnl⟩ := dec_some_cp hX.out
        rw [List.length_drop, hlen.out] at hnl
        go_wp2_with (go_at_call 68; refine (dec_some_of (dec_any s k hs2.out _) r n hX.out).mono ?_; rintro e w' ⟨rfl, rfl⟩)
        go_round
        case rel => exact ⟨k + n, xs ++ [r], by omega, by simp; omega, by go_num, by simp, hsc.out.step hX.out⟩
        case measure => simp [intOf]; omega
    · have hv : Hid (cntV (runes s.data.toList) = .tuple #[.int .i64 xs.length, .bool true]) := Lib.hid (by rw [hsc.out.done (by rw [hlen.out]; exact hlt)]; rfl)
      go_wp2
      go_ret2
      exact ⟨congrArg Ending.returned hv.out.symm, rfl⟩
set_option maxHeartbeats 400000 in
theorem val_any (s : ByteArray) (hs : s.size ≤ maxLen) (w : World) :
    Calls Tryz.prog 30 #[.string s] w fun e w' => e = .returned (.bool (runes s.data.toList).isSome) ∧ w = w' := by
  cases hx : runes s.data.toList with
  | none =>
    have hc : ∀ w : World, Calls Tryz.prog 43 #[.string s] w fun e w' => e = .returned (.tuple #[.int .i64 0, .bool false]) ∧ w = w' := fun w => by
      have := cnt_any s hs w; rw [hx] at this; exact this
    have HC := Lib.hid hc
    clear hc hx hs
    go_enter Tryz.func30, Tryz.ntmps30
    go_wp2_with (go_at_call 43; refine (HC.out _).mono ?_; rintro e w' ⟨rfl, rfl⟩)
    go_ret
    exact ⟨rfl, rfl⟩
  | some xs =>
    have hc : ∀ w : World, Calls Tryz.prog 43 #[.string s] w fun e w' => e = .returned (.tuple #[.int .i64 xs.length, .bool true]) ∧ w = w' := fun w => by
      have := cnt_any s hs w; rw [hx] at this; exact this
    have HC := Lib.hid hc
    clear hc hx hs
    go_enter Tryz.func30, Tryz.ntmps30
    go_wp2_with (go_at_call 43; refine (HC.out _).mono ?_; rintro e w' ⟨rfl, rfl⟩)
    go_ret
    exact ⟨rfl, rfl⟩
end Go.Proofs.YtfmpdcmedaiooaaGreatDoor
namespace Go.Proofs.YtfmpdcmedaiooaaGreatDoor
open Go.RowKit
theorem inf_int : (Tryz.prog.info? 3).map (fun i => (i.zero, i.size, i.bytes)) = some (some (.int .i64 0), 1, 8) := by kernel_rfl
/-- A list of code points as values. -/
def iv (xs : List Nat) : List Value := xs.map fun (r : Nat) => Value.int .i64 (r : Int)
/-- What Runes leaves: nil and false, or a slice of its own that reads as the list. -/
def RunesPost (o : Option (List Nat)) (w : World) (e : Ending) (w' : World) : Prop :=
  Below w.heap.size w w' ∧ match o with
  | none => e = .returned (.tuple #[.slice none 0 0, .bool false])
  | some xs => ∃ v, e = .returned (.tuple #[v, .bool true]) ∧ w'.ownsRow w.heap.size 3 1 v xs.length (iv xs)
theorem RunesPost.none_ {w w' : World} {e : Ending} (hb : Below w.heap.size w w') (he : e = .returned (.tuple #[.slice none 0 0, .bool false])) : RunesPost none w e w' := ⟨hb, he⟩
theorem RunesPost.some_ {w w' : World} {e : Ending} {xs : List Nat} (hb : Below w.heap.size w w') {v : Value} (he : e = .returned (.tuple #[v, .bool true])) (ho : w'.ownsRow w.heap.size 3 1 v xs.length (iv xs)) : RunesPost (some xs) w e w' := ⟨hb, v, he, ho⟩
theorem iv_snoc (xs : List Nat) (r : Nat) : iv (xs ++ [r]) = iv xs ++ [.int .i64 r] := by simp [iv]
end Go.Proofs.YtfmpdcmedaiooaaGreatDoor
namespace Go.Proofs.YtfmpdcmedaiooaaGreatDoor
open Go.RowKit
theorem size_empty (s : ByteArray) : s.toList.isEmpty = decide (s.size = 0) := by
  rw [Lib.toList_data]
  obtain ⟨⟨l⟩⟩ := s
  cases l <;> simp [ByteArray.size]
theorem natz (n : Nat) : ((n : Int) == 0) = decide (n = 0) := by rw [Bool.eq_iff_iff]; simp
theorem nateq (a b : Nat) : ((a : Int) == (b : Int)) = decide (a = b) := by rw [Bool.eq_iff_iff]; simp; omega
set_option maxHeartbeats 4000000 in
set_option maxRecDepth 100000 in
theorem fits_any (k n : Int) (s : ByteArray) (A B : Option Addr) (nk ne a b : Nat) (w : World) (hs : s.size ≤ 140737488355328) (hk : nk ≤ 140737488355328) (he : ne ≤ 140737488355328) :
    Calls Tryz.prog 36 #[.agg #[.int .i64 k, .int .i64 n, .string s, .slice A nk a, .slice B ne b]] w fun e w' => e = .returned (.bool (fits k n s nk ne)) ∧ Below w.heap.size w w' := by
  have hse := size_empty s
  generalize hq : fits k n s nk ne = r
  have HQ := Lib.hid hq
  clear hq
  go_enter Tryz.func36, Tryz.ntmps36
  go_wp2
  go_quiet (fail)
  go_wp2
  go_quiet (fail)
  go_wp2
  all_goals
    go_ret
    refine ⟨ret_bool (Eq.trans ?_ HQ.out), below_drewN ((Below.refl _ _).alloc (Nat.le_refl _) _) _⟩
    simp_all [fits, natz, nateq]
set_option maxHeartbeats 1000000 in
set_option maxRecDepth 100000 in
theorem addString_any (g : Nat) (d m b : Int) (s : ByteArray) (w : World) (hbox : Box w g 37 #[.int .i64 d, .int .i64 m, .int .i64 b]) (hs : s.size ≤ 140737488355328) (h0 : 0 ≤ b) (h1 : b ≤ 65536) :
    Calls Tryz.prog 37 #[.pointer (some ⟨g, 0, none⟩), .string s] w fun e w' => e = .returned (.bool (strOk s b)) ∧ w' = w.setCell ⟨g, 2, none⟩ (.int .i64 (b + s.size)) := by
  have c2 := hbox.cell (i := 2) rfl
  have f2 := hbox.free 2
  have HB := Lib.hid hbox
  clear hbox
  have n2 : (w.setCell ⟨g, 2, none⟩ (.int .i64 (b + s.size))).cell? ⟨g, 2, none⟩ = some (.int .i64 (b + s.size)) := (HB.out.put 2 _).cell rfl
  have hm : s.size ≤ maxLen := by unfold maxLen; omega
  have HM := Lib.hid hm
  generalize hq : strOk s b = r
  have HQ := Lib.hid hq
  clear hq hm
  by_cases hz : s.size ≤ 4096
  · by_cases hy : b + s.size ≤ 65536
    · have hv := Lib.hid (fun w => val_any s HM.out w)
      have hr : Hid (okS s = r) := Lib.hid (by rw [← HQ.out, strOk, decide_eq_true hz, decide_eq_true hy]; rfl)
      go_enter Tryz.func37, Tryz.ntmps37
      go_wp2_with (go_at_call 30; refine (hv.out _).mono ?_; rintro e w' ⟨rfl, rfl⟩)
      go_ret
      exact ⟨ret_bool hr.out, rfl⟩
    · have hr : Hid (false = r) := Lib.hid (by rw [← HQ.out, strOk, decide_eq_true hz, decide_eq_false hy]; rfl)
      go_enter Tryz.func37, Tryz.ntmps37
      go_wp2_with fail
      go_ret
      exact ⟨ret_bool hr.out, rfl⟩
  · have hr : Hid (false = r) := Lib.hid (by rw [← HQ.out, strOk, decide_eq_false hz]; rfl)
    go_enter Tryz.func37, Tryz.ntmps37
    go_wp2_with fail
    go_ret
    exact ⟨ret_bool hr.out, rfl⟩
end Go.Proofs.YtfmpdcmedaiooaaGreatDoor
namespace Go.Proofs.YtfmpdcmedaiooaaGreatDoor
open Go.RowKit
def prevK (ks : List ByteArray) (i : Nat) : Option ByteArray := if i = 0 then none else ks[i - 1]?
theorem prevK_succ {ks : List ByteArray} {i : Nat} {x : ByteArray} (h : ks[i]? = some x) : prevK ks (i + 1) = some x := by simp [prevK, h]
theorem keysP_end {ks : List ByteArray} {i : Nat} {b : Int} (h : ks.length ≤ i) : keysP (ks.drop i) (prevK ks i) b = some b := by
  rw [List.drop_eq_nil_of_le h, keysP]
theorem keysP_first {ks : List ByteArray} {x : ByteArray} {b : Int} (h : ks[0]? = some x) : keysP (ks.drop 0) (prevK ks 0) b = if strOk x b then keysP (ks.drop 1) (prevK ks 1) (b + x.size) else none := by
  rw [prevK_succ h]
  obtain ⟨hl, rfl⟩ := List.getElem?_eq_some_iff.1 h
  rw [List.drop_eq_getElem_cons hl]
  rfl
theorem keysP_next {ks : List ByteArray} {i : Nat} {p x : ByteArray} {b : Int} (hi : 0 < i) (hp : ks[i - 1]? = some p) (h : ks[i]? = some x) :
    keysP (ks.drop i) (prevK ks i) b = if scmp p x < 0 then (if strOk x b then keysP (ks.drop (i + 1)) (prevK ks (i + 1)) (b + x.size) else none) else none := by
  rw [prevK_succ h]
  obtain ⟨hl, rfl⟩ := List.getElem?_eq_some_iff.1 h
  rw [List.drop_eq_getElem_cons hl, prevK, if_neg (by omega), hp]
  rfl
/-- What addKeys and add leave: false, or true and the new counts; nothing but block g has turned. -/
def KeysPost (g : Nat) (d m : Int) (o : Option Int) (w : World) (e : Ending) (w' : World) : Prop :=
  w.grownBy w' (some g) ∧ match o with
  | none => e = .returned (.bool false)
  | some b => e = .returned (.bool true) ∧ Box w' g 37 #[.int .i64 d, .int .i64 m, .int .i64 b]
set_option maxHeartbeats 2000000 in
set_option maxRecDepth 100000 in
theorem addKeys_any (g : Nat) (d m b : Int) (A : Option Addr) (a : Nat) (ks : List ByteArray) (S : Nat → Prop) (w : World) (hbox : Box w g 37 #[.int .i64 d, .int .i64 m, .int .i64 b]) (hA : Rs w S A (kv ks)) (hS : ∀ b, S b → b < w.heap.size ∧ b ≠ g)
    (hks : ∀ x ∈ ks, x.size ≤ 140737488355328) (hn : ks.length ≤ 140737488355328) (h0 : 0 ≤ b) (h1 : b ≤ 65536) :
    Calls Tryz.prog 38 #[.pointer (some ⟨g, 0, none⟩), .slice A ks.length a] w (KeysPost g d m (keysP ks none b) w) := by
  have HX := Lib.hid hbox
  have HA := Lib.hid hA
  have HS := Lib.hid hS
  have HK := Lib.hid hks
  clear hbox hA hS hks
  generalize hq : keysP ks none b = r
  have HQ := Lib.hid hq
  clear hq
  go_enter Tryz.func38, Tryz.ntmps38
  go_wp2
  go_loopw [9] (fun t wr => ∃ (i : Nat) (q : Int), i ≤ ks.length ∧ t = .int .i64 i ∧ 0 ≤ q ∧ q ≤ 65536 ∧ keysP (ks.drop i) (prevK ks i) q = r ∧ Box wr g 37 #[.int .i64 d, .int .i64 m, .int .i64 q] ∧ w.grownBy wr (some g)) (fun t _ => ks.length - (intOf t).toNat)
  case atStart => exact ⟨0, b, Nat.zero_le _, rfl, h0, h1, HQ.out, HX.out, World.grownBy.refl _ _⟩
  case round =>
    obtain ⟨i, q, hi, rfl, hq0, hq1, hr0, hbox0, hgr0⟩ := hrel
    have HR := Lib.hid hr0
    have HB := Lib.hid hbox0
    have HG := Lib.hid hgr0
    clear hr0 hbox0 hgr0
    by_cases hlt : i < ks.length
    · obtain ⟨x, hx⟩ : ∃ x, ks[i]? = some x := ⟨_, List.getElem?_eq_getElem hlt⟩
      have hxs := HK.out x (List.mem_of_getElem? hx)
      obtain ⟨b0, o0, hAe, hb0, hc0⟩ := HA.out.at_ (kv_at hx)
      have hc1 := HG.out.cell hc0 (by have := (HS.out b0 hb0).2; intro e; injection e with e; exact this e)
      have hcall := Lib.hid (addString_any g d m q x wr HB.out hxs hq0 hq1)
      have hstrict : Hid (strOk x q = true → q + x.size ≤ 65536) := Lib.hid (by intro h; simp [strOk] at h; omega)
      have hprev : prevK ks i = none ∧ i ≤ 0 ∨ 0 < i := by
        by_cases hz : i = 0
        · exact .inl ⟨by rw [hz]; rfl, by omega⟩
        · exact .inr (by omega)
      obtain rfl := hAe
      rcases hprev with ⟨hp, hz⟩ | hz
      · have hst : Hid ((if strOk x q then keysP (ks.drop (i + 1)) (prevK ks (i + 1)) (q + x.size) else none) = r) := Lib.hid (by
          obtain rfl : i = 0 := by omega
          exact (keysP_first (b := q) hx).symm.trans HR.out)
        have HX2 := Lib.hid hx
        clear hc0 hx hp
        cases hok : strOk x q with
        | true =>
          rw [hok] at hcall hst hstrict
          have hle := hstrict.out rfl
          have hst2 := Lib.hid ((if_pos rfl).symm.trans hst.out)
          clear hok hstrict
          go_wp2_with fail
          refine hcall.out.mono ?_
          rintro e' w' ⟨rfl, rfl⟩
          go_wp2
          go_roundw
          case rel => exact ⟨i + 1, q + x.size, by omega, by go_num, by omega, hle, hst2.out, HB.out.put 2 _, grown_trans HG.out (grown_set _ _ _ _)⟩
          case measure => simp [intOf]; omega
        | false =>
          rw [hok] at hcall hst
          have hst2 := Lib.hid ((if_neg (by decide)).symm.trans hst.out)
          clear hok hstrict
          go_wp2_with fail
          refine hcall.out.mono ?_
          rintro e' w' ⟨rfl, rfl⟩
          go_wp2
          go_ret
          rw [← hst2.out]
          exact ⟨grown_trans HG.out (grown_set _ _ _ _), rfl⟩
      · obtain ⟨p, hp⟩ : ∃ p, ks[i - 1]? = some p := ⟨_, List.getElem?_eq_getElem (by omega)⟩
        have hst := Lib.hid ((keysP_next (b := q) hz hp hx).symm.trans HR.out)
        have hpc : wr.cell? ⟨b0, o0 + (i - 1), none⟩ = some (.string p) := by
          obtain ⟨b1, o1, e1, hb1, hd⟩ := HA.out.at_ (kv_at hp)
          injection e1 with e1
          injection e1 with e1 e2
          subst e1
          subst e2
          exact HG.out.cell hd (by have := (HS.out b0 hb0).2; intro e; injection e with e; exact this e)
        have hls := less_eq p x
        have HX2 := Lib.hid hx
        clear hc0 hx hp
        by_cases hlp : scmp p x < 0
        · rw [decide_eq_true hlp] at hls
          have hst1 := Lib.hid ((if_pos hlp).symm.trans hst.out)
          clear hlp hst
          cases hok : strOk x q with
          | true =>
            rw [hok] at hcall hst1 hstrict
            have hle := hstrict.out rfl
            have hst2 := Lib.hid ((if_pos rfl).symm.trans hst1.out)
            clear hok hstrict
            go_wp2_with fail
            refine hcall.out.mono ?_
            rintro e' w' ⟨rfl, rfl⟩
            go_wp2
            go_roundw
            case rel => exact ⟨i + 1, q + x.size, by omega, by go_num, by omega, hle, hst2.out, HB.out.put 2 _, grown_trans HG.out (grown_set _ _ _ _)⟩
            case measure => simp [intOf]; omega
          | false =>
            rw [hok] at hcall hst1
            have hst2 := Lib.hid ((if_neg (by decide)).symm.trans hst1.out)
            clear hok hstrict
            go_wp2_with fail
            refine hcall.out.mono ?_
            rintro e' w' ⟨rfl, rfl⟩
            go_wp2
            go_ret
            rw [← hst2.out]
            exact ⟨grown_trans HG.out (grown_set _ _ _ _), rfl⟩
        · rw [decide_eq_false hlp] at hls
          have hst1 := Lib.hid ((if_neg hlp).symm.trans hst.out)
          clear hlp hst hstrict
          go_wp2
          go_ret
          rw [← hst1.out]
          exact ⟨HG.out, rfl⟩
    · have hst := Lib.hid ((keysP_end (b := q) (by omega)).symm.trans HR.out)
      go_wp2
      go_ret
      rw [← hst.out]
      exact ⟨HG.out, rfl, HB.out⟩
end Go.Proofs.YtfmpdcmedaiooaaGreatDoor

/- The program's and the reference's counts agree: a value is valid to both or to none. Nothing of the program is named here. The comparisons of Go's library that the layer calls. Lists of strings: slices.Compare, keep.Strings, keep.Short. -/
import Derived.Test.YtmfjpcmbdgbjjaaGreatDoorQ12
import Derived.Test.YtmfjpcmbdgbjjaaGreatDoorRows
import Derived.Test.YtmfjpcmbdgbjjaaGreatDoorQ11
import Derived.Lib.Hide
import Derived.Lib.Walk
import Derived.WalkSpells
import Derived.WalkLawsBesides
import Derived.Outline
import Derived.Deep.QuietTactic
import Derived.BigQuiet
set_option linter.unusedVariables false
set_option linter.unusedSimpArgs false
namespace Go.Proofs.YtmfjpcmbdgbjjaaGreatDoor
def kb : List ByteArray → Nat
  | [] => 0
  | x :: r => x.size + kb r
def keysOk : Option ByteArray → List ByteArray → Bool
  | _, [] => true
  | none, x :: r => keyOk x && keysOk (some x) r
  | some p, x :: r => keyOk x && (decide (scmp p x < 0) && keysOk (some x) r)
theorem keysP_iff (ks : List ByteArray) : ∀ (p : Option ByteArray) (b r : Int), b ≤ 65536 → (keysP ks p b = some r ↔ keysOk p ks = true ∧ b + kb ks ≤ 65536 ∧ r = b + kb ks) := by
  induction ks with
  | nil =>
    intro p b r hb
    simp [keysP, keysOk, kb]
    omega
  | cons x ks ih =>
    intro p b r hb
    have key : (if strOk x b then keysP ks (some x) (b + x.size) else none) = some r ↔ keyOk x = true ∧ keysOk (some x) ks = true ∧ b + kb (x :: ks) ≤ 65536 ∧ r = b + kb (x :: ks) := by
      by_cases hs : strOk x b = true
      · rw [if_pos hs]
        have hk : keyOk x = true := by simp [strOk] at hs; simp [keyOk, hs.1, hs.2.2]
        have hb2 : b + (x.size : Int) ≤ 65536 := by simp [strOk] at hs; omega
        rw [ih _ _ _ hb2, kb]
        constructor
        · rintro ⟨h1, h2, h3⟩; exact ⟨hk, h1, by omega, by omega⟩
        · rintro ⟨_, h1, h2, h3⟩; exact ⟨h1, by omega, by omega⟩
      · rw [if_neg hs]
        constructor
        · intro h; cases h
        · rintro ⟨h1, _, h2, _⟩
          exfalso
          apply hs
          rw [kb] at h2
          simp [keyOk] at h1
          simp [strOk, h1.1, h1.2]
          omega
    cases p with
    | none => rw [keysP, key, keysOk]; simp [and_assoc]
    | some p =>
      rw [keysP, keysOk]
      by_cases hlt : scmp p x < 0
      · rw [if_pos hlt, key]; simp [hlt, and_assoc]
      · rw [if_neg hlt]; simp [hlt]
mutual
def good : V → Bool
  | .mk k n s ks es => fits k n s ks.length es.length && (decide (s.size ≤ 4096) && (okS s && (decide (es.length ≤ 1024) && (keysOk none ks && goodL es))))
def goodL : List V → Bool
  | [] => true
  | e :: es => good e && goodL es
end
mutual
/-- The depth of a value. -/
def dep : V → Nat
  | .mk k _ _ _ es => if k = 5 ∨ k = 6 then depL es + 1 else 0
def depL : List V → Nat
  | [] => 0
  | e :: es => max (dep e) (depL es)
end
mutual
/-- The bytes of all strings and keys. -/
def vbyt : V → Nat
  | .mk _ _ s ks es => s.size + kb ks + vbytL es
def vbytL : List V → Nat
  | [] => 0
  | e :: es => vbyt e + vbytL es
end
theorem fits_facts {k n : Int} {s : ByteArray} {nk ne : Nat} (h : fits k n s nk ne = true) : (0 ≤ k ∧ k ≤ 6) ∧ (k = 5 ∨ k = 6 ∨ (nk = 0 ∧ ne = 0)) ∧ (k = 5 → nk = 0) ∧ (k = 6 → nk = ne) := by
  unfold fits at h
  generalize s.size = z at h
  (repeat' split at h) <;> simp at h <;> omega
theorem addP_iff : ∀ v : V, ∀ lv d m b d' m' b' : Int, 0 ≤ lv → lv ≤ 32 → lv ≤ d → m ≤ 4096 → b ≤ 65536 →
    (addP v lv d m b = some (d', m', b') ↔ good v = true ∧ lv + dep v ≤ 32 ∧ m + v.sz ≤ 4096 ∧ b + vbyt v ≤ 65536 ∧ d' = max d (lv + dep v) ∧ m' = m + v.sz ∧ b' = b + vbyt v) := by
  refine V.ind fun k n s ks es ih lv d m b d' m' b' l0 l1 ld hm hb => ?_
  have key : ∀ fs : List V, (∀ e ∈ fs, e ∈ es) → ∀ lv d m b : Int, 0 ≤ lv → lv ≤ 32 → lv ≤ d → m ≤ 4096 → b ≤ 65536 →
      (addL fs lv d m b = some (d', m', b') ↔ goodL fs = true ∧ lv + depL fs ≤ 32 ∧ m + V.szL fs ≤ 4096 ∧ b + vbytL fs ≤ 65536 ∧ d' = max d (lv + depL fs) ∧ m' = m + V.szL fs ∧ b' = b + vbytL fs) := by
    intro fs
    induction fs with
    | nil =>
      intro _ lv d m b l0 l1 ld hm hb
      simp only [addL, goodL, depL, V.szL, vbytL, Option.some.injEq, Prod.mk.injEq, true_and]
      omega
    | cons e fs ihf =>
      intro hin lv d m b l0 l1 ld hm hb
      have he := ih e (hin e (by simp)) lv d m b
      rw [addL, goodL, depL, V.szL, vbytL]
      cases ha : addP e lv d m b with
      | none =>
        simp only [Bool.and_eq_true]
        constructor
        · intro h; cases h
        · rintro ⟨⟨g1, g2⟩, h1, h2, h3, _⟩
          have := (he (max d (lv + dep e)) (m + e.sz) (b + vbyt e) l0 l1 ld hm hb).2 ⟨g1, by omega, by omega, by omega, rfl, rfl, rfl⟩
          rw [ha] at this
          cases this
      | some q =>
        obtain ⟨d2, m2, b2⟩ := q
        obtain ⟨g1, x1, x2, x3, rfl, rfl, rfl⟩ := (he d2 m2 b2 l0 l1 ld hm hb).1 ha
        simp only [Bool.and_eq_true]
        rw [ihf (fun x hx => hin x (by simp [hx])) lv _ _ _ l0 l1 (by omega) (by omega) (by omega)]
        constructor
        · rintro ⟨g2, y1, y2, y3, y4, y5, y6⟩
          exact ⟨⟨g1, g2⟩, by omega, by omega, by omega, by omega, by omega, by omega⟩
        · rintro ⟨⟨_, g2⟩, y1, y2, y3, y4, y5, y6⟩
          exact ⟨g2, by omega, by omega, by omega, by omega, by omega, by omega⟩
  rw [addP, good, dep, V.sz, vbyt]
  by_cases hf : fits k n s ks.length es.length = true
  · obtain ⟨⟨k0, k6⟩, hsc, hk5, hk6⟩ := fits_facts hf
    by_cases hs : s.size ≤ 4096 ∧ okS s = true
    · by_cases hc : 4096 < m + 1 ∨ fits k n s ks.length es.length = false ∨ strOk s b = false
      · rw [if_pos hc]
        constructor
        · intro h; cases h
        · rintro ⟨_, _, h2, h3, _⟩
          exfalso
          rcases hc with hc | hc | hc
          · omega
          · rw [hf] at hc; cases hc
          · simp [strOk, hs.1, hs.2] at hc
            omega
      · rw [if_neg hc]
        have hso : strOk s b = true := by
          cases hq : strOk s b with
          | true => rfl
          | false => exact absurd (.inr (.inr hq)) hc
        have hsb : b + s.size ≤ 65536 := by simp [strOk] at hso; omega
        by_cases hk : k = 5 ∨ k = 6
        · rw [if_neg (by omega), if_pos hk]
          by_cases hl : 32 < lv + 1 ∨ 1024 < es.length
          · rw [if_pos hl]
            simp only [Bool.and_eq_true, decide_eq_true_eq]
            constructor
            · intro h; cases h
            · rintro ⟨⟨_, _, _, h4, _⟩, h5, _⟩; omega
          · rw [if_neg hl]
            cases hkk : keysP ks none (b + s.size) with
            | none =>
              simp only [Bool.and_eq_true, decide_eq_true_eq]
              constructor
              · intro h; cases h
              · rintro ⟨⟨_, _, _, _, h4, _⟩, _, _, h5, _⟩
                have := (keysP_iff ks none (b + s.size) (b + s.size + kb ks) hsb).2 ⟨h4, by omega, rfl⟩
                rw [hkk] at this
                cases this
            | some b2 =>
              obtain ⟨g, x1, rfl⟩ := (keysP_iff ks none (b + s.size) b2 hsb).1 hkk
              simp only [Bool.and_eq_true, decide_eq_true_eq]
              rw [key es (fun _ h => h) (lv + 1) _ _ _ (by omega) (by omega) (by omega) (by omega) (by omega)]
              constructor
              · rintro ⟨y0, y1, y2, y3, y4, y5, y6⟩
                exact ⟨⟨hf, hs.1, hs.2, by omega, g, y0⟩, by omega, by omega, by omega, by omega, by omega, by omega⟩
              · rintro ⟨⟨_, _, _, _, _, y0⟩, y1, y2, y3, y4, y5, y6⟩
                exact ⟨y0, by omega, by omega, by omega, by omega, by omega, by omega⟩
        · have h0 : ks.length = 0 ∧ es.length = 0 := by omega
          obtain rfl : ks = [] := List.eq_nil_of_length_eq_zero h0.1
          obtain rfl : es = [] := List.eq_nil_of_length_eq_zero h0.2
          rw [if_pos (by omega), if_neg hk]
          simp only [Bool.and_eq_true, decide_eq_true_eq, Option.some.injEq, Prod.mk.injEq, keysOk, goodL, V.szL, kb, vbytL]
          constructor
          · rintro ⟨rfl, rfl, rfl⟩
            exact ⟨⟨hf, hs.1, hs.2, by simp, trivial, trivial⟩, by omega, by omega, by omega, by omega, by omega, by omega⟩
          · rintro ⟨_, y1, y2, y3, y4, y5, y6⟩
            omega
    · have hso : strOk s b = false := by
        cases hq : strOk s b with
        | false => rfl
        | true => simp [strOk] at hq; exact absurd ⟨hq.1, hq.2.2⟩ hs
      rw [if_pos (.inr (.inr hso))]
      simp only [Bool.and_eq_true, decide_eq_true_eq]
      constructor
      · intro h; cases h
      · rintro ⟨⟨_, h1, h2, _⟩, _⟩
        exact absurd ⟨h1, h2⟩ hs
  · rw [if_pos (.inr (.inl (by simpa using hf)))]
    simp [hf]
end Go.Proofs.YtmfjpcmbdgbjjaaGreatDoor
namespace Go.Proofs.YtmfjpcmbdgbjjaaGreatDoor
open Go.RowKit
def icmp (x y : Int) : Int := if x < y then -1 else if y < x then 1 else 0
set_option maxHeartbeats 400000 in
theorem cmp_int (x y : Int) (w : World) : Calls Tryz.prog 169 #[.int .i64 x, .int .i64 y] w fun e w' => e = .returned (.int .i64 (icmp x y)) ∧ w = w' := by
  go_enter Tryz.func169, Tryz.ntmps169
  go_wp2
  all_goals
    go_ret
    exact ⟨ret_int (by unfold icmp; (repeat' split) <;> omega), rfl⟩
set_option maxHeartbeats 400000 in
theorem cmp_int64 (x y : Int) (w : World) : Calls Tryz.prog 170 #[.int .i64 x, .int .i64 y] w fun e w' => e = .returned (.int .i64 (icmp x y)) ∧ w = w' := by
  go_enter Tryz.func170, Tryz.ntmps170
  go_wp2
  all_goals
    go_ret
    exact ⟨ret_int (by unfold icmp; (repeat' split) <;> omega), rfl⟩
set_option maxHeartbeats 400000 in
theorem cmp_str (a b : ByteArray) (w : World) : Calls Tryz.prog 202 #[.string a, .string b] w fun e w' => e = .returned (.int .i64 (scmp a b)) ∧ w = w' := by
  have h1 := less_eq a b
  have h2 := same_eq a b
  rcases scmp_range a b with h | h | h
  · rw [h] at h1 h2
    have H := Lib.hid h
    clear h
    simp only [show decide ((-1 : Int) < 0) = true from rfl, show decide ((-1 : Int) = 0) = false from rfl] at h1 h2
    go_enter Tryz.func202, Tryz.ntmps202
    go_wp2
    go_ret
    exact ⟨ret_int H.out.symm, rfl⟩
  · obtain rfl := (scmp_zero a b).1 h
    rw [h] at h1
    have H := Lib.hid h
    clear h h2
    simp only [show decide ((0 : Int) < 0) = false from rfl] at h1
    go_enter Tryz.func202, Tryz.ntmps202
    go_wp2
    go_ret
    exact ⟨ret_int H.out.symm, rfl⟩
  · rw [h] at h1 h2
    have H := Lib.hid h
    clear h
    simp only [show decide ((1 : Int) < 0) = false from rfl, show decide ((1 : Int) = 0) = false from rfl] at h1 h2
    go_enter Tryz.func202, Tryz.ntmps202
    go_wp2
    go_ret
    exact ⟨ret_int H.out.symm, rfl⟩
set_option maxHeartbeats 1000000 in
set_option maxRecDepth 100000 in
theorem cmp_strings (a b : ByteArray) (w : World) : Calls Tryz.prog 171 #[.string a, .string b] w fun e w' => e = .returned (.int .i64 (scmp a b)) ∧ w = w' := by
  go_enter Tryz.func171, Tryz.ntmps171
  go_wp2
  rw [run_callFunc_extern Tryz.func225 (by kernel_rfl) (by kernel_rfl) (by kernel_rfl) (e := Extern.BytealgCompare.compare) (by kernel_rfl), Lib.run_compareString]
  simp only [Result.andThen]
  rw [Oper.upon_value]
  go_wp2
  go_ret
  exact ⟨rfl, rfl⟩
end Go.Proofs.YtmfjpcmbdgbjjaaGreatDoor
namespace Go.Proofs.YtmfjpcmbdgbjjaaGreatDoor
open Go.RowKit
/-- The order of two lists of strings. -/
def kcmp : List ByteArray → List ByteArray → Int
  | [], [] => 0
  | [], _ :: _ => -1
  | _ :: _, [] => 1
  | x :: a, y :: b => if scmp x y = 0 then kcmp a b else scmp x y
theorem kcmp_step {ks ls : List ByteArray} {i : Nat} {x y : ByteArray} (hx : ks[i]? = some x) (hy : ls[i]? = some y) (h : scmp x y = 0) : kcmp (ks.drop i) (ls.drop i) = kcmp (ks.drop (i + 1)) (ls.drop (i + 1)) := by
  obtain ⟨h1, rfl⟩ := List.getElem?_eq_some_iff.1 hx
  obtain ⟨h2, rfl⟩ := List.getElem?_eq_some_iff.1 hy
  rw [List.drop_eq_getElem_cons h1, List.drop_eq_getElem_cons h2, kcmp, if_pos h]
theorem kcmp_part {ks ls : List ByteArray} {i : Nat} {x y : ByteArray} (hx : ks[i]? = some x) (hy : ls[i]? = some y) (h : ¬ scmp x y = 0) : kcmp (ks.drop i) (ls.drop i) = scmp x y := by
  obtain ⟨h1, rfl⟩ := List.getElem?_eq_some_iff.1 hx
  obtain ⟨h2, rfl⟩ := List.getElem?_eq_some_iff.1 hy
  rw [List.drop_eq_getElem_cons h1, List.drop_eq_getElem_cons h2, kcmp, if_neg h]
theorem kcmp_long {ks ls : List ByteArray} {i : Nat} {x : ByteArray} (hx : ks[i]? = some x) (hl : ls.length ≤ i) : kcmp (ks.drop i) (ls.drop i) = 1 := by
  obtain ⟨h1, rfl⟩ := List.getElem?_eq_some_iff.1 hx
  rw [List.drop_eq_getElem_cons h1, List.drop_eq_nil_of_le hl, kcmp]
theorem kcmp_end {ks ls : List ByteArray} (hl : ks.length ≤ ls.length) : kcmp (ks.drop ks.length) (ls.drop ks.length) = if ks.length < ls.length then -1 else 0 := by
  rw [List.drop_eq_nil_of_le (Nat.le_refl _)]
  by_cases h : ks.length < ls.length
  · rw [if_pos h, List.drop_eq_getElem_cons h, kcmp]
  · rw [if_neg h, List.drop_eq_nil_of_le (by omega), kcmp]
set_option maxHeartbeats 1000000 in
theorem slcmp_any (A B : Option Addr) (a b : Nat) (ks ls : List ByteArray) (S T : Nat → Prop) (w : World) (hA : Rs w S A (kv ks)) (hB : Rs w T B (kv ls)) (hk : ks.length ≤ maxLen) (hl : ls.length ≤ maxLen) :
    Calls Tryz.prog 172 #[.slice A ks.length a, .slice B ls.length b] w fun e w' => e = .returned (.int .i64 (kcmp ks ls)) ∧ w = w' := by
  have HA := Lib.hid hA
  have HB := Lib.hid hB
  clear hA hB
  unfold maxLen at hk hl
  go_enter Tryz.func172, Tryz.ntmps172
  go_wp2
  go_loop [11] (fun t => ∃ i : Nat, i ≤ ks.length ∧ i ≤ ls.length ∧ t = .int .i64 i ∧ kcmp ks ls = kcmp (ks.drop i) (ls.drop i)) (fun t => ks.length - (intOf t).toNat)
  case atStart => exact ⟨0, Nat.zero_le _, Nat.zero_le _, rfl, rfl⟩
  case round =>
    obtain ⟨i, hi, hil, rfl, h0⟩ := hrel
    have H0 := Lib.hid h0
    clear h0
    by_cases hlt : i < ks.length
    · obtain ⟨x, hx⟩ : ∃ x, ks[i]? = some x := ⟨_, List.getElem?_eq_getElem hlt⟩
      obtain ⟨b0, o0, rfl, _, hc0⟩ := HA.out.at_ (kv_at hx)
      by_cases hlt2 : i < ls.length
      · obtain ⟨y, hy⟩ : ∃ y, ls[i]? = some y := ⟨_, List.getElem?_eq_getElem hlt2⟩
        obtain ⟨b1, o1, rfl, _, hc1⟩ := HB.out.at_ (kv_at hy)
        by_cases hz : scmp x y = 0
        · have hs := Lib.hid (H0.out.trans (kcmp_step hx hy hz))
          have HZ := Lib.hid hz
          have hzb : ((scmp x y) != 0) = false := by simp [hz]
          have HC := Lib.hid (fun w => cmp_str x y w)
          clear hz hx hy
          go_wp2_with (go_at_call 202; refine (HC.out _).mono ?_; rintro e w' ⟨rfl, rfl⟩)
          go_round
          case rel => exact ⟨i + 1, by omega, by omega, by go_num, hs.out⟩
          case measure => simp [intOf]; omega
        · have hs := Lib.hid (H0.out.trans (kcmp_part hx hy hz))
          have hzb : ((scmp x y) != 0) = true := by simp [hz]
          clear hz hx hy
          go_wp2_with (go_at_call 202; refine (cmp_str x y _).mono ?_; rintro e w' ⟨rfl, rfl⟩)
          go_ret
          exact ⟨ret_int hs.out.symm, rfl⟩
      · have hs := Lib.hid (H0.out.trans (kcmp_long hx (by omega)))
        clear hx
        go_wp2
        go_ret
        exact ⟨ret_int hs.out.symm, rfl⟩
    · obtain rfl : i = ks.length := by omega
      have hs := Lib.hid (H0.out.trans (kcmp_end hil))
      by_cases hlt2 : ks.length < ls.length
      · have hv := Lib.hid (hs.out.trans (if_pos hlt2))
        go_wp2
        go_ret
        exact ⟨ret_int hv.out.symm, rfl⟩
      · have hv := Lib.hid (hs.out.trans (if_neg hlt2))
        go_wp2
        go_ret
        exact ⟨ret_int hv.out.symm, rfl⟩
theorem drewN_two (w : World) (m n : Nat) : (w.drewN m).drewN n = w.drewN (m + n) := by simp [World.drewN, Nat.add_assoc]
theorem take_eq_step {α : Type} {us vs : List α} {k : Nat} {x y : α} (ha : us[k]? = some x) (hb : vs[k]? = some y) (h : us.take k = vs.take k) (hxy : x = y) : us.take (k + 1) = vs.take (k + 1) := by
  rw [List.take_add_one, List.take_add_one, ha, hb, h, hxy]
theorem take_all_eq {α : Type} {us vs : List α} {k : Nat} (h : us.take k = vs.take k) (h1 : us.length ≤ k) (h2 : us.length = vs.length) : us = vs := by
  rw [List.take_of_length_le h1, List.take_of_length_le (by omega)] at h
  exact h
theorem at_ne {α : Type} {us vs : List α} {k : Nat} {x y : α} (ha : us[k]? = some x) (hb : vs[k]? = some y) (hne : x ≠ y) : us ≠ vs := by
  rintro rfl
  rw [ha] at hb
  injection hb with hb
  exact hne hb
set_option maxHeartbeats 1000000 in
theorem strings_any (A B : Option Addr) (a b : Nat) (ks ls : List ByteArray) (S T : Nat → Prop) (w : World) (hA : Rs w S A (kv ks)) (hB : Rs w T B (kv ls)) (hk : ks.length ≤ maxLen) :
    Calls Tryz.prog 23 #[.slice A ks.length a, .slice B ls.length b] w fun e w' => e = .returned (.bool (decide (ks = ls))) ∧ ∃ m, w' = w.drewN m := by
  have HA := Lib.hid hA
  have HB := Lib.hid hB
  clear hA hB
  unfold maxLen at hk
  by_cases hl : ks.length = ls.length
  · have hbq : (((ks.length : Nat) : Int) != ((ls.length : Nat) : Int)) = false := by simp [hl]
    have HL := Lib.hid hl
    clear hl
    go_enter Tryz.func23, Tryz.ntmps23
    go_wp2
    go_loopw [5] (fun t wr => ∃ i : Nat, i ≤ ks.length ∧ t = .int .i64 i ∧ ks.take i = ls.take i ∧ ∃ m, wr = w.drewN m) (fun t _ => ks.length - (intOf t).toNat)
    case atStart => exact ⟨0, Nat.zero_le _, rfl, rfl, 0, rfl⟩
    case round =>
      obtain ⟨i, hi, rfl, heq0, m, rfl⟩ := hrel
      have heq := Lib.hid heq0
      clear heq0
      by_cases hlt : i < ks.length
      · have hltb : i < ls.length := by have := HL.out; omega
        obtain ⟨x, hx⟩ : ∃ x, ks[i]? = some x := ⟨_, List.getElem?_eq_getElem hlt⟩
        obtain ⟨y, hy⟩ : ∃ y, ls[i]? = some y := ⟨_, List.getElem?_eq_getElem hltb⟩
        obtain ⟨b0, o0, rfl, _, hc0⟩ := HA.out.at_ (kv_at hx)
        obtain ⟨b1, o1, rfl, _, hc1⟩ := HB.out.at_ (kv_at hy)
        have HX := Lib.hid hx
        have HY := Lib.hid hy
        have hi1 : (i : Int) < (ks.length : Int) := by omega
        have hi2 : (i : Int) < (ls.length : Int) := by omega
        clear hx hy
        have hse := same_eq x y
        by_cases hz : scmp x y = 0
        · have HQ := Lib.hid ((scmp_zero x y).1 hz)
          obtain rfl := HQ.out
          clear hz hse
          go_wp2
          go_quiet (fail)
          go_wp2
          go_roundw
          case rel => exact ⟨i + 1, by omega, by go_num, take_eq_step HX.out HY.out heq.out rfl, _, rfl⟩
          case measure => simp [intOf]; omega
        · rw [decide_eq_false hz] at hse
          have hne : Hid (decide (ks = ls) = false) := Lib.hid (decide_eq_false (at_ne HX.out HY.out fun h => hz ((scmp_zero x y).2 h)))
          clear hz
          go_wp2
          go_quiet (fail)
          go_wp2
          go_ret
          exact ⟨ret_bool hne.out.symm, m + nq, drewN_two w m nq⟩
      · have he : Hid (decide (ks = ls) = true) := Lib.hid (decide_eq_true (take_all_eq heq.out (by omega) HL.out))
        go_wp2
        go_ret
        exact ⟨ret_bool he.out.symm, _, rfl⟩
  · have hbq : (((ks.length : Nat) : Int) != ((ls.length : Nat) : Int)) = true := by simp; omega
    have hne : Hid (decide (ks = ls) = false) := Lib.hid (decide_eq_false fun h => hl (by rw [h]))
    clear hl
    go_enter Tryz.func23, Tryz.ntmps23
    go_wp2
    go_ret
    exact ⟨ret_bool hne.out.symm, 0, rfl⟩
end Go.Proofs.YtmfjpcmbdgbjjaaGreatDoor

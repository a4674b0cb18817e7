/- The program's escapes. The contracts of the small functions of the layer utf and of its reference that make no memory. -/
import Derived.Test.YtmfjpcmbdgbjjaaGreatDoorQ05
import Derived.Test.YtmfjpcmbdgbjjaaGreatDoorRows
import Derived.Test.YtmfjpcmbdgbjjaaGreatDoorQ01
import Derived.WalkKit
import Derived.Lib.Hide
import Derived.WalkSpells
import Derived.WalkLawsBesides
set_option linter.unusedVariables false
set_option linter.unusedSimpArgs false
namespace Go.Proofs.YtmfjpcmbdgbjjaaGreatDoor
open Go.RowKit
def escV (L k : Nat) : Esc → Value
  | .ok r n => .tuple #[.int .i64 r, .int .i64 ((k + n : Nat) : Int), .int .i64 0]
  | .trunc => .tuple #[.int .i64 0, .int .i64 L, .int .i64 5]
  | .bad => .tuple #[.int .i64 0, .int .i64 k, .int .i64 4]
def pairQ (n : Nat) : U → Esc
  | .ok m => .ok (65536 + (n - 55296) * 1024 + (m - 56320)) 12
  | .trunc => .trunc
  | .bad => .bad
def uniQ (l : List UInt8) : U → Esc
  | .ok n => if 55296 ≤ n ∧ n ≤ 56319 then pairP n l else .ok n 6
  | .trunc => .trunc
  | .bad => .bad
theorem uniP_q (l : List UInt8) : uniP l = uniQ (l.drop 4) (firstR l) := by
  unfold uniP
  cases firstR l <;> rfl
theorem pairP_unit (n : Nat) (l : List UInt8) : pairP n l = pairQ n (unitP true l) := by
  match l with
  | [] => rfl
  | [b] =>
    rw [pairP, unitP]
    by_cases h : b.toNat = 92
    · rw [if_pos h, if_pos h]; rfl
    · rw [if_neg h, if_neg h]; rfl
  | b :: c :: t =>
    rw [pairP, unitP]
    by_cases h : b.toNat = 92 ∧ c.toNat = 117
    · rw [if_pos h, if_pos h, unit_low]; cases quadR 56320 57343 4 0 t <;> rfl
    · rw [if_neg h, if_neg h]; rfl
theorem unit_u {low : Bool} {l : List UInt8} {k : Nat} {a b : UInt8} (h1 : l[k]? = some a) (h2 : l[k + 1]? = some b) (ha : a.toNat = 92) (hb : b.toNat = 117) : unitP low (l.drop k) = unitD low 4 0 (l.drop (k + 2)) := by
  obtain ⟨g1, rfl⟩ := List.getElem?_eq_some_iff.1 h1
  obtain ⟨g2, rfl⟩ := List.getElem?_eq_some_iff.1 h2
  rw [List.drop_eq_getElem_cons g1, List.drop_eq_getElem_cons g2, unitP, if_pos ⟨ha, hb⟩]
theorem unit_as {s : ByteArray} {k : Nat} {low : Bool} {u : U} (hs : s.size ≤ 1048576) (hk : k ≤ s.size) (h : unitP low (s.data.toList.drop k) = u) (w : World) : Calls Tryz.prog 180 #[.string s, .int .i64 k, .bool low] w fun e w' => e = .returned (unitV u) ∧ w = w' := by
  rw [← h]; exact unit_any s k low hs hk w
theorem unitP_range {l : List UInt8} {m : Nat} (h : unitP true l = .ok m) : 56320 ≤ m ∧ m ≤ 57343 := by
  match l, h with
  | [], h => cases h
  | [b], h => rw [unitP] at h; split at h <;> cases h
  | b :: c :: t, h =>
    rw [unitP] at h
    split at h
    · rw [unit_low] at h; exact quadR_range h (by omega)
    · cases h
set_option maxHeartbeats 4000000 in
set_option maxRecDepth 100000 in
theorem numesc_any (s : ByteArray) (k : Nat) (hs : s.size ≤ 1048576) (hk : k + 2 ≤ s.size) (a b : UInt8) (h1 : s.data.toList[k]? = some a) (h2 : s.data.toList[k + 1]? = some b) (ha : a.toNat = 92) (hb : b.toNat = 117) (w : World) :
    Calls Tryz.prog 139 #[.string s, .int .i64 k] w fun e w' => e = .returned (escV s.size k (uniP (s.data.toList.drop (k + 2)))) ∧ w = w' := by
  have hl : s.data.toList.length = s.size := by simp
  have hfirst : unitP false (s.data.toList.drop k) = firstR (s.data.toList.drop (k + 2)) := by rw [unit_u h1 h2 ha hb, unit_first]
  obtain ⟨u, hu⟩ : ∃ u, firstR (s.data.toList.drop (k + 2)) = u := ⟨_, rfl⟩
  have HF := Lib.hid (fun W => unit_as hs (by omega : k ≤ s.size) (hfirst.trans hu) W)
  have HX : Hid (uniP (s.data.toList.drop (k + 2)) = uniQ (s.data.toList.drop (k + 6)) u) := Lib.hid (by
    rw [uniP_q, hu, List.drop_drop])
  clear h1 h2 ha hb hfirst
  cases u with
  | bad =>
    rw [HX.out]
    clear HX hu
    simp only [unitV] at HF
    go_enter Tryz.func139, Tryz.ntmps139
    go_wp2_with (go_at_call 180; refine (HF.out _).mono ?_; rintro e w' ⟨rfl, rfl⟩)
    go_ret3
    exact ⟨rfl, rfl⟩
  | trunc =>
    rw [HX.out]
    clear HX hu
    simp only [unitV] at HF
    go_enter Tryz.func139, Tryz.ntmps139
    go_wp2_with (go_at_call 180; refine (HF.out _).mono ?_; rintro e w' ⟨rfl, rfl⟩)
    go_ret3
    exact ⟨rfl, rfl⟩
  | ok n =>
    obtain ⟨-, hlen, hn6, hnlow⟩ := firstR_ok hu
    rw [List.length_drop, hl] at hlen
    have hk6 : k + 6 ≤ s.size := by omega
    clear hlen hl
    obtain ⟨z, hz⟩ : ∃ z : Int, z = (n : Int) := ⟨_, rfl⟩
    have HZF : Hid (∀ W : World, Calls Tryz.prog 180 #[.string s, .int .i64 k, .bool false] W fun e w' => e = .returned (.tuple #[.int .i64 z, .int .i64 0]) ∧ W = w') := Lib.hid (by rw [hz]; exact HF.out)
    have HZ := Lib.hid hz
    have HN := Lib.hid hn6
    clear hn6 hu HF
    by_cases hh : 55296 ≤ n ∧ n ≤ 56319
    · have hx : uniP (s.data.toList.drop (k + 2)) = pairP n (s.data.toList.drop (k + 6)) := by rw [HX.out]; unfold uniQ; exact if_pos hh
      rw [hx, pairP_unit]
      obtain ⟨v, hv⟩ : ∃ v, unitP true (s.data.toList.drop (k + 6)) = v := ⟨_, rfl⟩
      have hk6e : ((k + 6 : Nat) : Int) = (k : Int) + 6 := by omega
      have HS := Lib.hid (fun W => unit_as hs hk6 hv W)
      rw [hk6e] at HS
      clear hk6e
      rw [hv]
      have HV := Lib.hid hv
      clear hv hx HX
      have g1 : (55296 : Int) ≤ z := by omega
      have g2 : z < 56320 := by omega
      have HH := Lib.hid hh
      clear hh hnlow hz
      cases v with
      | bad =>
        simp only [unitV] at HS
        go_enter Tryz.func139, Tryz.ntmps139
        go_wp2_with (first | (go_at_call 180; with_reducible refine (HZF.out _).mono ?_; rintro e w' ⟨rfl, rfl⟩) | (go_at_call 180; with_reducible refine (HS.out _).mono ?_; rintro e w' ⟨rfl, rfl⟩))
        go_ret3
        exact ⟨rfl, rfl⟩
      | trunc =>
        simp only [unitV] at HS
        go_enter Tryz.func139, Tryz.ntmps139
        go_wp2_with (first | (go_at_call 180; with_reducible refine (HZF.out _).mono ?_; rintro e w' ⟨rfl, rfl⟩) | (go_at_call 180; with_reducible refine (HS.out _).mono ?_; rintro e w' ⟨rfl, rfl⟩))
        go_ret3
        exact ⟨rfl, rfl⟩
      | ok m =>
        have hm := unitP_range HV.out
        obtain ⟨y, hy⟩ : ∃ y : Int, y = (m : Int) := ⟨_, rfl⟩
        have HYS : Hid (∀ W : World, Calls Tryz.prog 180 #[.string s, .int .i64 ((k : Int) + 6), .bool true] W fun e w' => e = .returned (.tuple #[.int .i64 y, .int .i64 0]) ∧ W = w') := Lib.hid (by rw [hy]; exact HS.out)
        have q1 : 56320 ≤ y := by omega
        have q2 : y ≤ 57343 := by omega
        have HY := Lib.hid hy
        clear hm hy HS
        go_enter Tryz.func139, Tryz.ntmps139
        go_wp2_with (first | (go_at_call 180; with_reducible refine (HZF.out _).mono ?_; rintro e w' ⟨rfl, rfl⟩) | (go_at_call 180; with_reducible refine (HYS.out _).mono ?_; rintro e w' ⟨rfl, rfl⟩))
        go_ret3
        have e1 : ((65536 + (n - 55296) * 1024 + (m - 56320) : Nat) : Int) = 65536 + (z - 55296) * 1024 + (y - 56320) := by have := HZ.out; have := HY.out; have := HH.out; omega
        have e2 : ((k + 12 : Nat) : Int) = (k : Int) + 6 + 6 := by omega
        have hfin : escV s.size k (pairQ n (.ok m)) = .tuple #[.int .i64 (65536 + (z - 55296) * 1024 + (y - 56320)), .int .i64 ((k : Int) + 6 + 6), .int .i64 0] := by
          rw [← e1, ← e2]; rfl
        exact ⟨by rw [hfin]; rfl, rfl⟩
    · have hx : uniP (s.data.toList.drop (k + 2)) = .ok n 6 := by rw [HX.out]; unfold uniQ; exact if_neg hh
      rw [hx]
      clear hx HX
      by_cases g1 : (55296 : Int) ≤ z
      · have g2 : ¬ z < 56320 := by omega
        have g3 : z ≤ 65535 := by have := HN.out; omega
        clear hh hnlow hz
        go_enter Tryz.func139, Tryz.ntmps139
        go_wp2_with (go_at_call 180; with_reducible refine (HZF.out _).mono ?_; rintro e w' ⟨rfl, rfl⟩)
        go_ret3
        exact ⟨by rw [HZ.out]; rfl, rfl⟩
      · have g4 : 0 ≤ z := by omega
        clear hh hnlow hz
        go_enter Tryz.func139, Tryz.ntmps139
        go_wp2_with (go_at_call 180; with_reducible refine (HZF.out _).mono ?_; rintro e w' ⟨rfl, rfl⟩)
        go_ret3
        exact ⟨by rw [HZ.out]; rfl, rfl⟩
set_option maxHeartbeats 4000000 in
set_option maxRecDepth 100000 in
theorem esc_any (s : ByteArray) (k : Nat) (hs : s.size ≤ 1048576) (hk : k + 1 ≤ s.size) (a : UInt8) (h1 : s.data.toList[k]? = some a) (ha : a.toNat = 92) (w : World) :
    Calls Tryz.prog 112 #[.string s, .int .i64 k] w fun e w' => e = .returned (escV s.size k (escP (s.data.toList.drop (k + 1)))) ∧ w = w' := by
  have hl : s.data.toList.length = s.size := by simp
  by_cases hlt : k + 1 < s.size
  · obtain ⟨b, hb⟩ : ∃ b, s[k + 1] = b := ⟨_, rfl⟩
    have h2 := at_list hlt hb
    have hd : s.data.toList.drop (k + 1) = b :: s.data.toList.drop (k + 2) := by
      obtain ⟨g, hg⟩ := List.getElem?_eq_some_iff.1 h2
      rw [List.drop_eq_getElem_cons g, hg]
    have HN := Lib.hid (fun (hb : b.toNat = 117) W => numesc_any s k hs (by omega) a b h1 h2 ha hb W)
    rw [hd]
    clear h1 h2 ha hd hl
    have hne : ((k : Int) + 1 == (s.size : Int)) = false := beq_eq_false_iff_ne.2 (fun h => by omega)
    have hb255 := UInt8.toNat_lt b
    have HX : Hid (escP (b :: s.data.toList.drop (k + 2)) = if b.toNat = 34 ∨ b.toNat = 92 ∨ b.toNat = 47 then .ok b.toNat 2
      else if b.toNat = 98 then .ok 8 2 else if b.toNat = 102 then .ok 12 2 else if b.toNat = 110 then .ok 10 2 else if b.toNat = 114 then .ok 13 2 else if b.toNat = 116 then .ok 9 2
      else if b.toNat = 117 then uniP (s.data.toList.drop (k + 2)) else .bad) := Lib.hid (by rw [escP])
    obtain ⟨x, hx⟩ : ∃ x, uniP (s.data.toList.drop (k + 2)) = x := ⟨_, rfl⟩
    rw [HX.out]
    rw [hx] at HN ⊢
    clear HX hx
    have hcase : (b.toNat = 34 ∨ b.toNat = 92 ∨ b.toNat = 47 ∨ b.toNat = 98 ∨ b.toNat = 102 ∨ b.toNat = 110 ∨ b.toNat = 114 ∨ b.toNat = 116) ∨ b.toNat = 117 ∨ (b.toNat ≠ 34 ∧ b.toNat ≠ 92 ∧ b.toNat ≠ 47 ∧ b.toNat ≠ 98 ∧ b.toNat ≠ 102 ∧ b.toNat ≠ 110 ∧ b.toNat ≠ 114 ∧ b.toNat ≠ 116 ∧ b.toNat ≠ 117) := by omega
    rcases hcase with hc | h | ⟨n1, n2, n3, n4, n5, n6, n7, n8, n9⟩
    · rcases hc with h | h | h | h | h | h | h | h
      all_goals
        rw [h]
        simp only [or_true, true_or, if_true, if_false, Nat.reduceEqDiff, or_self]
        clear HN
        go_enter Tryz.func112, Tryz.ntmps112
        go_wp2_with fail
        go_ret3
        exact ⟨rfl, rfl⟩
    · rw [if_neg (by omega), if_neg (by omega), if_neg (by omega), if_neg (by omega), if_neg (by omega), if_neg (by omega), if_pos h]
      have HN2 := Lib.hid (HN.out h)
      clear HN
      cases x with
      | ok r n =>
        simp only [escV] at HN2 ⊢
        go_enter Tryz.func112, Tryz.ntmps112
        go_wp2_with (go_at_call 139; refine (HN2.out _).mono ?_; rintro e w' ⟨rfl, rfl⟩)
        go_ret3
        exact ⟨rfl, rfl⟩
      | trunc =>
        simp only [escV] at HN2 ⊢
        go_enter Tryz.func112, Tryz.ntmps112
        go_wp2_with (go_at_call 139; refine (HN2.out _).mono ?_; rintro e w' ⟨rfl, rfl⟩)
        go_ret3
        exact ⟨rfl, rfl⟩
      | bad =>
        simp only [escV] at HN2 ⊢
        go_enter Tryz.func112, Tryz.ntmps112
        go_wp2_with (go_at_call 139; refine (HN2.out _).mono ?_; rintro e w' ⟨rfl, rfl⟩)
        go_ret3
        exact ⟨rfl, rfl⟩
    · rw [if_neg (by omega), if_neg (by omega), if_neg (by omega), if_neg (by omega), if_neg (by omega), if_neg (by omega), if_neg (by omega)]
      clear HN
      have m1 : ((b.toNat : Int) == 34) = false := beq_eq_false_iff_ne.2 (fun h => n1 (by omega))
      have m2 : ((b.toNat : Int) == 92) = false := beq_eq_false_iff_ne.2 (fun h => n2 (by omega))
      have m3 : ((b.toNat : Int) == 47) = false := beq_eq_false_iff_ne.2 (fun h => n3 (by omega))
      have m4 : ((b.toNat : Int) == 98) = false := beq_eq_false_iff_ne.2 (fun h => n4 (by omega))
      have m5 : ((b.toNat : Int) == 102) = false := beq_eq_false_iff_ne.2 (fun h => n5 (by omega))
      have m6 : ((b.toNat : Int) == 110) = false := beq_eq_false_iff_ne.2 (fun h => n6 (by omega))
      have m7 : ((b.toNat : Int) == 114) = false := beq_eq_false_iff_ne.2 (fun h => n7 (by omega))
      have m8 : ((b.toNat : Int) == 116) = false := beq_eq_false_iff_ne.2 (fun h => n8 (by omega))
      have m9 : ((b.toNat : Int) == 117) = false := beq_eq_false_iff_ne.2 (fun h => n9 (by omega))
      clear n1 n2 n3 n4 n5 n6 n7 n8 n9
      go_enter Tryz.func112, Tryz.ntmps112
      go_wp2_with fail
      go_ret3
      exact ⟨rfl, rfl⟩
  · have hd : s.data.toList.drop (k + 1) = [] := List.drop_eq_nil_of_le (by rw [hl]; omega)
    rw [hd]
    have hne : ((k : Int) + 1 == (s.size : Int)) = true := by rw [beq_iff_eq]; omega
    clear h1 ha hd hl
    go_enter Tryz.func112, Tryz.ntmps112
    go_wp2_with fail
    go_ret3
    exact ⟨rfl, rfl⟩
end Go.Proofs.YtmfjpcmbdgbjjaaGreatDoor
namespace Go.Proofs.YtmfjpcmbdgbjjaaGreatDoor
open Go.RowKit
set_option maxHeartbeats 400000 in
theorem isCp (r : Int) (w : World) :
    Calls Tryz.prog 48 #[.int .i64 r] w fun e w' => e = .returned (.bool (cp r)) ∧ w = w' := by
  go_enter Tryz.func48, Tryz.ntmps48
  go_wp2
  all_goals go_ret
  all_goals exact ⟨ret_bool (by unfold cp; simp; omega), rfl⟩

set_option maxHeartbeats 400000 in
theorem tail_any (r : Nat) (hr : r < 4294967296) (w : World) :
    Calls Tryz.prog 69 #[.int .i64 r] w fun e w' => e = .returned (.int .u8 ((128 + r % 64 : Nat) : Int)) ∧ w = w' := by
  have h1 := Lib.hid (and63 r hr)
  have h2 := Lib.hid (u8or128 (r % 64) (by omega))
  go_enter Tryz.func69, Tryz.ntmps69
  go_wp2
  go_ret
  refine ⟨ret_int ?_, rfl⟩
  rw [h1.out, show (((r % 64 : Nat) : Int) % 256) = ((r % 64 : Nat) : Int) from by omega, h2.out]

set_option maxHeartbeats 400000 in
theorem tail_loop (s : ByteArray) (b n l : Nat) (hb : b < 256) (hn : n ≤ 3) (_hl : l ≤ 65536) (hs : s.size ≤ maxLen) (w : World) :
    Calls Tryz.prog 135 #[.string s, .int .i64 b, .int .i64 n, .int .i64 l] w fun e w' => e = .returned (decV (fin n l (tl n b s.data.toList))) ∧ w = w' := by
  unfold maxLen at hs
  by_cases hsz : s.size < n
  · have hx := Lib.hid (tl_short n b s.data.toList (by simpa using hsz))
    go_enter Tryz.func135, Tryz.ntmps135
    go_wp2
    go_ret3
    exact ⟨by rw [hx.out]; rfl, rfl⟩
  · go_enter Tryz.func135, Tryz.ntmps135
    go_wp2
    go_loop [1, 18] (fun t i => ∃ k acc : Nat, k ≤ n ∧ i = .int .i64 k ∧ t = .int .i64 acc ∧ acc < 256 * 64 ^ k ∧ tl n b s.data.toList = tl (n - k) acc (s.data.toList.drop k)) (fun _ i => n - (intOf i).toNat)
    case atStart => exact ⟨0, b, Nat.zero_le _, rfl, rfl, by simpa using hb, rfl⟩
    case round =>
      obtain ⟨k, acc, hk, rfl, rfl, hacc, htl0⟩ := hrel
      have htl := Lib.hid htl0
      clear htl0
      by_cases hlt : k < n
      · have hks : k < s.size := by omega
        have hin : k < s.data.toList.length := by simpa using hks
        have hsp : Hid (tl n b s.data.toList = if 128 ≤ s[k].toNat ∧ s[k].toNat ≤ 191 then tl (n - (k + 1)) (acc * 64 + s[k].toNat % 64) (s.data.toList.drop (k + 1)) else none) := Lib.hid (by
          rw [htl.out, show n - k = n - (k + 1) + 1 from by omega, tl_step _ _ _ k hin]; rfl)
        have ha2 : acc < 16777216 := by
          have : 64 ^ k ≤ 64 ^ 2 := Nat.pow_le_pow_right (by omega) (by omega)
          omega
        have hpw : Hid (64 ^ (k + 1) = 64 ^ k * 64) := Lib.hid (Nat.pow_succ _ _)
        have hor := Lib.hid (or64 acc (s[k].toNat % 64) (by omega) (by omega))
        by_cases hin : 128 ≤ s[k].toNat ∧ s[k].toNat ≤ 191
        · obtain ⟨h1, h2⟩ := hin
          go_wp2
          go_round
          case rel =>
            refine ⟨k + 1, acc * 64 + s[k].toNat % 64, by omega, by go_num, ?_, ?_, ?_⟩
            · rw [← hor.out]; congr 2
            · rw [hpw.out]; omega
            · rw [hsp.out, if_pos ⟨h1, h2⟩]
          case measure => simp [intOf]; omega
        · have hno := Lib.hid (hsp.out.trans (if_neg hin))
          by_cases h1 : s[k].toNat < 128
          all_goals
            have h2 : 191 < s[k].toNat ∨ s[k].toNat < 128 := by omega
            go_wp2
            go_ret3
            exact ⟨by rw [hno.out]; rfl, rfl⟩
      · have hkn : Hid (tl n b s.data.toList = some acc) := Lib.hid (by rw [htl.out, show n - k = 0 from by omega]; rfl)
        have hv : Hid (decV (fin n l (tl n b s.data.toList)) = decV (fin n l (some acc))) := Lib.hid (by rw [hkn.out])
        by_cases hl1 : acc < l
        · have hv2 : Hid (decV (fin n l (some acc)) = .tuple #[.int .i64 0, .int .i64 0, .bool false]) := Lib.hid (by unfold fin; simp only []; rw [if_pos (.inl hl1)]; rfl)
          go_wp2_with (go_at_call 48; refine (isCp _ _).mono ?_; rintro e w' ⟨rfl, rfl⟩)
          go_ret3
          exact ⟨congrArg Ending.returned (hv.out.trans hv2.out).symm, rfl⟩
        · cases hc : cp acc
          · have hv2 : Hid (decV (fin n l (some acc)) = .tuple #[.int .i64 0, .int .i64 0, .bool false]) := Lib.hid (by unfold fin; simp only []; rw [if_pos (.inr hc)]; rfl)
            go_wp2_with (go_at_call 48; refine (isCp _ _).mono ?_; rintro e w' ⟨rfl, rfl⟩)
            go_ret3
            exact ⟨congrArg Ending.returned (hv.out.trans hv2.out).symm, rfl⟩
          · have hv2 : Hid (decV (fin n l (some acc)) = .tuple #[.int .i64 acc, .int .i64 (n + 1), .bool true]) := Lib.hid (by unfold fin; simp only []; rw [if_neg (by simp [hc, hl1])]; rfl)
            go_wp2_with (go_at_call 48; refine (isCp _ _).mono ?_; rintro e w' ⟨rfl, rfl⟩)
            go_ret3
            exact ⟨congrArg Ending.returned (hv.out.trans hv2.out).symm, rfl⟩

theorem drop_extract (s : ByteArray) (k : Nat) : (s.extract k s.size).data.toList = s.data.toList.drop k := by
  obtain ⟨⟨l⟩⟩ := s
  rw [ByteArray.extract_mk]
  simp [ByteArray.size]
  exact List.take_of_length_le (by simp)
theorem wb (b : UInt8) : wrap64 (b.toNat : Int) = (b.toNat : Int) := by
  have := UInt8.toNat_lt b
  exact IntWalk.wrap64_in _ (by omega)
theorem dec_none_of {f : FuncId} {args : Array Value} {w : World} {o : Option (Nat × Nat)} (h : Calls Tryz.prog f args w fun e w' => e = .returned (decV o) ∧ w = w') (ho : o = none) :
    Calls Tryz.prog f args w fun e w' => e = .returned (.tuple #[.int .i64 0, .int .i64 0, .bool false]) ∧ w = w' := by subst ho; exact h
theorem dec_some_of {f : FuncId} {args : Array Value} {w : World} {o : Option (Nat × Nat)} (h : Calls Tryz.prog f args w fun e w' => e = .returned (decV o) ∧ w = w') (r n : Nat) (ho : o = some (r, n)) :
    Calls Tryz.prog f args w fun e w' => e = .returned (.tuple #[.int .i64 r, .int .i64 n, .bool true]) ∧ w = w' := by subst ho; exact h
theorem drop_size (s : ByteArray) (k : Nat) : (s.extract k s.size).size = s.size - k := by
  simp

set_option maxHeartbeats 400000 in
theorem dec_any (s : ByteArray) (k : Nat) (hs : s.size ≤ maxLen) (w : World) :
    Calls Tryz.prog 106 #[.string s, .int .i64 k] w fun e w' => e = .returned (decV (dec (s.data.toList.drop k))) ∧ w = w' := by
  unfold maxLen at hs
  by_cases hk : k < s.size
  · have hin : k < s.data.toList.length := by simpa using hk
    have hd : Hid (dec (s.data.toList.drop k) = dec (s[k] :: s.data.toList.drop (k + 1))) := Lib.hid (by rw [List.drop_eq_getElem_cons hin]; rfl)
    have hb : Hid (s[k].toNat < 256) := Lib.hid (UInt8.toNat_lt _)
    have h31 := Lib.hid (and31 s[k].toNat (by have := hb.out; omega))
    have h15 := Lib.hid (and15 s[k].toNat (by have := hb.out; omega))
    have h7 := Lib.hid (and7 s[k].toNat (by have := hb.out; omega))
    have hdr := Lib.hid (drop_extract s (k + 1))
    have hc := Lib.hid (dec_cons s[k] (s.data.toList.drop (k + 1)))
    go_enter Tryz.func106, Tryz.ntmps106
    have hsz : (s.extract (k + 1) s.size).size ≤ maxLen := by rw [drop_size]; unfold maxLen; omega
    have T1 := Lib.hid (fun (W : World) => tail_loop (s.extract (k + 1) s.size) (s[k].toNat % 32) 1 128 (by omega) (by omega) (by omega) hsz W)
    have T2 := Lib.hid (fun (W : World) => tail_loop (s.extract (k + 1) s.size) (s[k].toNat % 16) 2 2048 (by omega) (by omega) (by omega) hsz W)
    have T3 := Lib.hid (fun (W : World) => tail_loop (s.extract (k + 1) s.size) (s[k].toNat % 8) 3 65536 (by omega) (by omega) (by omega) hsz W)
    rw [hdr.out] at T1 T2 T3
    clear hsz
    go_wp2_with fail
    · simp only [wb] at *
      go_ret3
      have hv : decV (dec (s.data.toList.drop k)) = .tuple #[.int .i64 s[k].toNat, .int .i64 1, .bool true] := by rw [hd.out, hc.out, if_pos (by omega)]; rfl
      exact ⟨congrArg Ending.returned hv.symm, rfl⟩
    · simp only [wb] at *
      go_ret3
      have hv : decV (dec (s.data.toList.drop k)) = .tuple #[.int .i64 0, .int .i64 0, .bool false] := by rw [hd.out, hc.out, if_neg (by omega), if_pos (by omega)]; rfl
      exact ⟨congrArg Ending.returned hv.symm, rfl⟩
    · simp only [wb] at *
      rw [h31.out]
      cases hx : fin 1 128 (tl 1 (s[k].toNat % 32) (s.data.toList.drop (k + 1))) with
      | none =>
        have hX := Lib.hid hx
        clear hx
        have hv : Hid (decV (dec (s.data.toList.drop k)) = .tuple #[.int .i64 0, .int .i64 0, .bool false]) := Lib.hid (by rw [hd.out, hc.out, if_neg (by omega), if_neg (by omega), if_pos (by omega), hX.out]; rfl)
        refine (dec_none_of (T1.out w) hX.out).mono ?_
        rintro e w' ⟨rfl, rfl⟩
        go_wp2
        go_ret3
        exact ⟨congrArg Ending.returned hv.out.symm, rfl⟩
      | some rn =>
        obtain ⟨r, n⟩ := rn
        have hX := Lib.hid hx
        clear hx
        have hv : Hid (decV (dec (s.data.toList.drop k)) = .tuple #[.int .i64 r, .int .i64 n, .bool true]) := Lib.hid (by rw [hd.out, hc.out, if_neg (by omega), if_neg (by omega), if_pos (by omega), hX.out]; rfl)
        refine (dec_some_of (T1.out w) r n hX.out).mono ?_
        rintro e w' ⟨rfl, rfl⟩
        go_wp2
        go_ret3
        exact ⟨congrArg Ending.returned hv.out.symm, rfl⟩
    · simp only [wb] at *
      rw [h15.out]
      cases hx : fin 2 2048 (tl 2 (s[k].toNat % 16) (s.data.toList.drop (k + 1))) with
      | none =>
        have hX := Lib.hid hx
        clear hx
        have hv : Hid (decV (dec (s.data.toList.drop k)) = .tuple #[.int .i64 0, .int .i64 0, .bool false]) := Lib.hid (by rw [hd.out, hc.out, if_neg (by omega), if_neg (by omega), if_neg (by omega), if_pos (by omega), hX.out]; rfl)
        refine (dec_none_of (T2.out w) hX.out).mono ?_
        rintro e w' ⟨rfl, rfl⟩
        go_wp2
        go_ret3
        exact ⟨congrArg Ending.returned hv.out.symm, rfl⟩
      | some rn =>
        obtain ⟨r, n⟩ := rn
        have hX := Lib.hid hx
        clear hx
        have hv : Hid (decV (dec (s.data.toList.drop k)) = .tuple #[.int .i64 r, .int .i64 n, .bool true]) := Lib.hid (by rw [hd.out, hc.out, if_neg (by omega), if_neg (by omega), if_neg (by omega), if_pos (by omega), hX.out]; rfl)
        refine (dec_some_of (T2.out w) r n hX.out).mono ?_
        rintro e w' ⟨rfl, rfl⟩
        go_wp2
        go_ret3
        exact ⟨congrArg Ending.returned hv.out.symm, rfl⟩
    · simp only [wb] at *
      rw [h7.out]
      cases hx : fin 3 65536 (tl 3 (s[k].toNat % 8) (s.data.toList.drop (k + 1))) with
      | none =>
        have hX := Lib.hid hx
        clear hx
        have hv : Hid (decV (dec (s.data.toList.drop k)) = .tuple #[.int .i64 0, .int .i64 0, .bool false]) := Lib.hid (by rw [hd.out, hc.out, if_neg (by omega), if_neg (by omega), if_neg (by omega), if_neg (by omega), if_pos (by omega), hX.out]; rfl)
        refine (dec_none_of (T3.out w) hX.out).mono ?_
        rintro e w' ⟨rfl, rfl⟩
        go_wp2
        go_ret3
        exact ⟨congrArg Ending.returned hv.out.symm, rfl⟩
      | some rn =>
        obtain ⟨r, n⟩ := rn
        have hX := Lib.hid hx
        clear hx
        have hv : Hid (decV (dec (s.data.toList.drop k)) = .tuple #[.int .i64 r, .int .i64 n, .bool true]) := Lib.hid (by rw [hd.out, hc.out, if_neg (by omega), if_neg (by omega), if_neg (by omega), if_neg (by omega), if_pos (by omega), hX.out]; rfl)
        refine (dec_some_of (T3.out w) r n hX.out).mono ?_
        rintro e w' ⟨rfl, rfl⟩
        go_wp2
        go_ret3
        exact ⟨congrArg Ending.returned hv.out.symm, rfl⟩
    · simp only [wb] at *
      go_ret3
      have hv : decV (dec (s.data.toList.drop k)) = .tuple #[.int .i64 0, .int .i64 0, .bool false] := by
        rw [hd.out, hc.out, if_neg (by omega), if_neg (by omega), if_neg (by omega), if_neg (by omega), if_neg (by omega)]; rfl
      exact ⟨congrArg Ending.returned hv.symm, rfl⟩
  · have hd : Hid (decV (dec (s.data.toList.drop k)) = .tuple #[.int .i64 0, .int .i64 0, .bool false]) := Lib.hid (by
      rw [List.drop_eq_nil_of_le (by simp; omega)]; rfl)
    go_enter Tryz.func106, Tryz.ntmps106
    go_wp2
    go_ret3
    exact ⟨congrArg Ending.returned hd.out.symm, rfl⟩
end Go.Proofs.YtmfjpcmbdgbjjaaGreatDoor

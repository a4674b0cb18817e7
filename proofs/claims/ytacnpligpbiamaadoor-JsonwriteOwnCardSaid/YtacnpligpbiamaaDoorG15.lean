/- The contract of the program's reading of four digits. The contracts of Append and of the reference's Append. The end of a string, and what an escape appends. The reference's decimal text of a number. -/
import Derived.Test.YtacnpligpbiamaaDoorRows
import Derived.Test.YtacnpligpbiamaaDoorG2
import Derived.Test.YtacnpligpbiamaaDoorG1
import Derived.WalkKit
import Derived.Lib.Hide
import Derived.WalkSpells
import Derived.WalkLawsBesides
import Derived.Deep.RegionHeld3
import Derived.Deep.Light
import Derived.Lib.Strings
import Derived.Test.YtacnpligpbiamaaDoorG5
import Derived.Deep.CutBlock
import Derived.Deep.DeepCutAuto
import Derived.Lib.AppendStr
import Derived.Deep.QuietTactic
import Derived.BigQuiet
set_option linter.unusedVariables false
set_option linter.unusedSimpArgs false
namespace Go.Proofs.YtacnpligpbiamaaDoor
open Go.RowKit
theorem unitD_nil {low : Bool} {m n : Nat} (h : m ≠ 0) : unitD low m n [] = .trunc := by
  obtain ⟨m, rfl⟩ : ∃ x, m = x + 1 := ⟨m - 1, by omega⟩
  rw [unitD]
theorem unitD_step {low : Bool} {m n d j : Nat} {b : UInt8} {l : List UInt8} (hl : l[j]? = some b) (hb : hexP b = some d) : unitD low (m + 1) n (l.drop j) = if possP ((n * 16 + d) * 16 ^ m) ((n * 16 + d) * 16 ^ m + 16 ^ m - 1) low = true then unitD low m (n * 16 + d) (l.drop (j + 1)) else .bad := by
  obtain ⟨h1, rfl⟩ := List.getElem?_eq_some_iff.1 hl
  rw [List.drop_eq_getElem_cons h1, unitD_some hb]
theorem unitD_stop {low : Bool} {m n j : Nat} {b : UInt8} {l : List UInt8} (hl : l[j]? = some b) (hb : hexP b = none) : unitD low (m + 1) n (l.drop j) = .bad := by
  obtain ⟨h1, rfl⟩ := List.getElem?_eq_some_iff.1 hl
  rw [List.drop_eq_getElem_cons h1, unitD_none hb]
/-- Where the reading of the digits stands. -/
def UnitAt (low : Bool) (l : List UInt8) (u : U) (j : Nat) (a c : Int) : Prop := ∃ n : Nat, 2 ≤ j ∧ j ≤ 6 ∧ a = ((n * 16 ^ (6 - j) : Nat) : Int) ∧ c = ((16 ^ (6 - j) : Nat) : Int) ∧ n < 16 ^ (j - 2) ∧ u = unitD low (6 - j) n (l.drop j)
theorem UnitAt.range {low : Bool} {l : List UInt8} {u : U} {j : Nat} {a c : Int} (h : UnitAt low l u j a c) : 0 ≤ a ∧ a ≤ 65535 ∧ 1 ≤ c ∧ c ≤ 65536 := by
  obtain ⟨n, h1, h2, rfl, rfl, h5, -⟩ := h
  have hj : j = 2 ∨ j = 3 ∨ j = 4 ∨ j = 5 ∨ j = 6 := by omega
  rcases hj with rfl | rfl | rfl | rfl | rfl <;> simp at h5 ⊢ <;> omega
theorem UnitAt.next {low : Bool} {l : List UInt8} {u : U} {j d : Nat} {a c : Int} {b : UInt8} (h : UnitAt low l u j a c) (hj : j < 6) (hl : l[j]? = some b) (hb : hexP b = some d) :
    ∃ (c' p : Int) (A B : Nat), c.tdiv 16 = c' ∧ (d : Int) * c' = p ∧ a + p = (A : Int) ∧ a + p + c' - 1 = (B : Int) ∧ A ≤ 65535 ∧ B ≤ 65535 ∧ 1 ≤ c' ∧ c' ≤ 4096 ∧ 0 ≤ p ∧ p ≤ 65535 ∧ d ≤ 15 ∧
      (possP A B low = true → UnitAt low l u (j + 1) (a + p) c') ∧ (possP A B low = false → u = .bad) := by
  obtain ⟨n, h1, h2, rfl, rfl, h5, hu⟩ := h
  have hd := hexP_lt hb
  have hm : 6 - j = (5 - j) + 1 := by omega
  rw [hm, unitD_step hl hb] at hu
  have e6 : 6 - (j + 1) = 5 - j := by omega
  have hjj : j = 2 ∨ j = 3 ∨ j = 4 ∨ j = 5 := by omega
  refine ⟨((16 ^ (5 - j) : Nat) : Int), ((d * 16 ^ (5 - j) : Nat) : Int), (n * 16 + d) * 16 ^ (5 - j), (n * 16 + d) * 16 ^ (5 - j) + 16 ^ (5 - j) - 1, ?_, ?_, ?_, ?_, ?_, ?_, ?_, ?_, ?_, ?_, by omega, ?_, ?_⟩
  case refine_11 =>
    intro hp
    rw [if_pos hp] at hu
    refine ⟨n * 16 + d, by omega, by omega, ?_, by rw [e6], ?_, by rw [e6]; exact hu⟩
    · rcases hjj with rfl | rfl | rfl | rfl <;> simp <;> omega
    · rcases hjj with rfl | rfl | rfl | rfl <;> simp at h5 ⊢ <;> omega
  case refine_12 =>
    intro hp
    rw [if_neg (by rw [hp]; exact Bool.false_ne_true)] at hu
    exact hu
  all_goals rcases hjj with rfl | rfl | rfl | rfl <;> simp at h5 ⊢ <;> omega
theorem UnitAt.bad {low : Bool} {l : List UInt8} {u : U} {j : Nat} {a c : Int} {b : UInt8} (h : UnitAt low l u j a c) (hj : j < 6) (hl : l[j]? = some b) (hb : hexP b = none) :
    u = .bad ∧ ∃ c' : Int, c.tdiv 16 = c' ∧ 1 ≤ c' ∧ c' ≤ 4096 := by
  obtain ⟨n, h1, h2, rfl, rfl, h5, hu⟩ := h
  have hm : 6 - j = (5 - j) + 1 := by omega
  rw [hm, unitD_stop hl hb] at hu
  have hjj : j = 2 ∨ j = 3 ∨ j = 4 ∨ j = 5 := by omega
  refine ⟨hu, ((16 ^ (5 - j) : Nat) : Int), ?_⟩
  rcases hjj with rfl | rfl | rfl | rfl <;> simp
theorem UnitAt.done {low : Bool} {l : List UInt8} {u : U} {j : Nat} {a c : Int} (h : UnitAt low l u j a c) (hl : l.length ≤ j) : (j < 6 → u = .trunc) ∧ (j = 6 → ∃ n : Nat, a = (n : Int) ∧ u = .ok n) := by
  obtain ⟨n, h1, h2, rfl, rfl, h5, hu⟩ := h
  rw [List.drop_eq_nil_of_le hl] at hu
  refine ⟨fun h => ?_, fun h => ?_⟩
  · rw [hu, unitD_nil (by omega)]
  · subst h
    exact ⟨n, by simp, by rw [hu]; simp [unitD]⟩
end Go.Proofs.YtacnpligpbiamaaDoor
namespace Go.Proofs.YtacnpligpbiamaaDoor
open Go.RowKit
/-- What Append leaves. -/
def AppendPost (l : List UInt8) (r : Int) (w : World) (e : Ending) (w' : World) : Prop :=
  Below w.heap.size w w' ∧ match cp r with
  | false => e = .returned (.tuple #[.slice none 0 0, .bool false])
  | true => ∃ v, e = .returned (.tuple #[v, .bool true]) ∧ w'.ownsRow w.heap.size 5 1 v (l ++ enc r.toNat).length (bv (l ++ enc r.toNat))
theorem AppendPost.no {l : List UInt8} {r : Int} {w w' : World} {e : Ending} (hc : cp r = false) (hb : Below w.heap.size w w') (he : e = .returned (.tuple #[.slice none 0 0, .bool false])) : AppendPost l r w e w' := by
  refine ⟨hb, ?_⟩; rw [hc]; exact he
theorem AppendPost.yes {l : List UInt8} {r : Int} {w w' : World} {e : Ending} (hc : cp r = true) (hb : Below w.heap.size w w') {v : Value} (he : e = .returned (.tuple #[v, .bool true]))
    (ho : w'.ownsRow w.heap.size 5 1 v (l.length + (enc r.toNat).length) (bv l ++ bv (enc r.toNat))) : AppendPost l r w e w' := by
  refine ⟨hb, ?_⟩; rw [hc]; exact ⟨v, he, by rw [List.length_append, bv_append]; exact ho⟩
end Go.Proofs.YtacnpligpbiamaaDoor
namespace Go.Proofs.YtacnpligpbiamaaDoor
open Go.RowKit
theorem own_nil {w : World} {base n : Nat} {e : TypeId} {A : Option Addr} {m c : Nat} {xs : List Value} (h : w.ownsRow base e 1 (.slice A m c) n xs) : A = none → c = 0 := fun h0 => by
  subst h0
  rcases h.2 with ⟨h1, h2⟩ | ⟨g, cap, cur, h1, _⟩
  · first | (injection h1 with _ _ h3; exact h3) | (injection h2 with _ _ h3; exact h3) | (cases h1; rfl) | (cases h2; rfl)
  · cases h1
end Go.Proofs.YtacnpligpbiamaaDoor
namespace Go.Proofs.YtacnpligpbiamaaDoor
open Go.RowKit
/-- What the loop over the digits knows. -/
def DigAt (v : Nat) (m : Int) (out : List UInt8) : Prop := digN v = digN m.natAbs ++ out ∧ out.length ≤ 20 ∧ m.natAbs < 10 ^ (20 - out.length)
theorem DigAt.next {v : Nat} {m : Int} {out : List UInt8} (h : DigAt v m out) (hm : m ≠ 0) : DigAt v (m.tdiv 10) (UInt8.ofNat (48 + m.natAbs % 10) :: out) ∧ out.length ≤ 19 := by
  obtain ⟨h1, h2, h3⟩ := h
  have hn : m.natAbs ≠ 0 := by omega
  have hq : (m.tdiv 10).natAbs = m.natAbs / 10 := Int.natAbs_tdiv m 10
  have h19 : out.length ≤ 19 := by
    rcases Nat.lt_or_ge out.length 20 with h | h
    · omega
    · have : out.length = 20 := by omega
      rw [this] at h3
      simp at h3
      omega
  refine ⟨⟨?_, by simp; omega, ?_⟩, h19⟩
  · rw [h1, digN_pos hn, hq, List.append_assoc]
    rfl
  · rw [hq, List.length_cons]
    have e : 20 - out.length = (20 - (out.length + 1)) + 1 := by omega
    rw [e, Nat.pow_succ] at h3
    exact Nat.div_lt_of_lt_mul (by rw [Nat.mul_comm]; exact h3)
theorem lit_own (w : World) (b : UInt8) (base : Nat) (h : base ≤ w.heap.size) : (w.alloc (.cells #[.int .u8 b.toNat] 5)).ownsRow base 5 1 (.slice (some ⟨w.heap.size, 0, none⟩) 1 1) 1 (bv [b]) := by
  have h2 := World.ownsRow_lit (base := base) (e := 5) (size := 1) w #[.int .u8 b.toNat] 1 h (by unfold maxLen; omega) (by simp)
  simpa [bv] using h2
theorem own_rd {w : World} {base n m c : Nat} {e : TypeId} {A : Option Addr} {xs : List Value} (h : w.ownsRow base e 1 (.slice A m c) n xs) : Rd w w.heap.size A xs := by
  obtain ⟨A1, c1, h1, -, h2⟩ := own_slice h
  injection h1 with h1
  subst h1
  exact h2
set_option maxHeartbeats 4000000 in
set_option maxRecDepth 100000 in
theorem digits_any (n : Int) (hn : -9223372036854775808 ≤ n ∧ n ≤ 9223372036854775807) (w : World) : Calls Tryd.prog 56 #[.int .i64 n] w fun e w' => e = .returned (.string ⟨(numL n).toArray⟩) ∧ Below w.heap.size w w' := by
  obtain ⟨i0, hi, hz0, hz1, hz2⟩ := info_parts inf_u8
  by_cases hn0 : n = 0
  · subst hn0
    go_enter Tryd.func56, Tryd.ntmps56
    go_wp2
    go_ret
    exact ⟨rfl, Below.refl _ _⟩
  · have HST : Hid (DigAt n.natAbs n []) := Lib.hid ⟨by simp, by simp, by simp; omega⟩
    have hq0 : ((n : Int) == 0) = false := beq_eq_false_iff_ne.2 hn0
    obtain ⟨hn1, hn2⟩ := hn
    go_enter Tryd.func56, Tryd.ntmps56
    go_wp2
    go_loopw [3, 4] (fun tv tm wr => ∃ (A : Option Addr) (c : Nat) (m : Int) (out : List UInt8), -9223372036854775808 ≤ m ∧ m ≤ 9223372036854775807 ∧ tv = .slice A out.length c ∧ tm = .int .i64 m ∧ wr.ownsRow w.heap.size 5 1 (.slice A out.length c) out.length (bv out) ∧ Below w.heap.size w wr ∧ Hid (DigAt n.natAbs m out)) (fun _ tm _ => (intOf tm).natAbs)
    case atStart => exact ⟨none, 0, n, [], hn1, hn2, rfl, rfl, World.ownsRow_nil _ _ _ _, Below.refl _ _, HST⟩
    case round =>
      clear HST
      obtain ⟨A, c, m, out, hm1, hm2, rfl, rfl, hown, hbel, HST⟩ := hrel
      have HO := Lib.hid hown
      have HBE := Lib.hid hbel
      by_cases hm : m = 0
      · have hout : digN n.natAbs = out := by have h := HST.out.1; rw [hm] at h; simpa [digN_zero] using h
        have hol := HST.out.2.1
        have HOUT := Lib.hid hout
        subst hm
        clear hown hbel hout
        by_cases hneg : n < 0
        · have HN : Hid (numL n = 45 :: out) := Lib.hid (by
            unfold numL
            rw [if_pos hneg]
            unfold magL
            rw [if_neg (by omega), HOUT.out])
          have HLB := Lib.hid (bv_length out)
          have HL1 := Lib.hid (lit_own wr 45 w.heap.size HBE.out.size)
          have HR := Lib.hid (own_rd (HO.out.alloc (.cells #[.int .u8 (45 : UInt8).toNat] 5)))
          have HNIL := Lib.hid (own_nil HO.out)
          have h45 : (((45 : UInt8).toNat : Nat) : Int) = 45 := rfl
          rw [h45] at HL1 HR
          clear h45
          go_upto_region 13 with (at_builtin; refine wpList_append_rd _ rfl (.tmp 27) (.tmp 28) 39 rfl w.heap.size 5 i0 (.int .u8 0) 1 Tryd.underlying39 hi hz0 hz1 hz2 rfl (.slice (some ⟨wr.heap.size, 0, none⟩) 1 1) 1 (bv [45]) rfl HL1.out _ A c (bv out) (by rw [HLB.out]; rfl) HR.out HNIL.out (bv_one _) (by rw [HLB.out]; unfold maxLen; omega) (by rw [HLB.out]; omega) (by have := HBE.out.size; simp; omega) ?_; intro v2 w2 hown2 hgrow2; rw [HLB.out, ← bv_append] at hown2; obtain ⟨A2, c2, rfl, hl2, -⟩ := own_slice hown2)
          have hbl := (HBE.out.alloc HBE.out.size (.cells #[.int .u8 45] 5)).grown hgrow2 (by have := HBE.out.size; simp; omega) (fun j hj => (HL1.out.lt j hj).1)
          have hown3 : w2.ownsRow w.heap.size 5 1 (.slice A2 (1 + out.length) c2) (1 + out.length) (bv ([45] ++ out)) := hown2
          have e1 : 1 + out.length = ([45] ++ out : List UInt8).length := by simp; omega
          rw [e1] at hown3
          have hcv := conv_own hown3
          rw [← e1] at hcv
          have HBL := Lib.hid hbl
          clear hbl hown2 hown3 hgrow2 hl2 e1
          go_wp2_with fail
          go_ret
          exact ⟨by rw [HN.out]; rfl, HBL.out⟩
        · have HN : Hid (numL n = out) := Lib.hid (by
            unfold numL
            rw [if_neg hneg]
            unfold magL
            rw [if_neg (by omega), HOUT.out])
          have hcv := conv_own HO.out
          go_wp2_with fail
          go_ret
          exact ⟨by rw [HN.out]; rfl, HBE.out⟩
      · obtain ⟨hnx, hol⟩ := HST.out.next hm
        have HNX := Lib.hid hnx
        have hd10 : (m.tmod 10).natAbs = m.natAbs % 10 := Int.natAbs_tmod m 10
        have hab : (m.tdiv 10).natAbs = m.natAbs / 10 := Int.natAbs_tdiv m 10
        obtain ⟨d, hd⟩ : ∃ d : Nat, d = m.natAbs % 10 := ⟨_, rfl⟩
        rw [← hd] at HNX
        have hd9 : d < 10 := by omega
        have hdb : (UInt8.ofNat (48 + d)).toNat = 48 + d := dig_byte hd9
        obtain ⟨y, hy⟩ : ∃ y : UInt8, y = UInt8.ofNat (48 + d) := ⟨_, rfl⟩
        rw [← hy] at HNX hdb
        have hyz : ((y.toNat : Nat) : Int) = 48 + (d : Int) := by omega
        have HL1 := Lib.hid (lit_own wr y w.heap.size HBE.out.size)
        have HR := Lib.hid (own_rd (HO.out.alloc (.cells #[.int .u8 y.toNat] 5)))
        rw [hyz] at HL1 HR
        have HNIL := Lib.hid (own_nil HO.out)
        have HLB := Lib.hid (bv_length out)
        have hqm : ((m : Int) != 0) = true := by rw [bne_iff_ne]; exact hm
        have hq1 : -9223372036854775808 ≤ m.tdiv 10 ∧ m.tdiv 10 ≤ 9223372036854775807 := by
          omega
        have hms : (m.tdiv 10).natAbs < m.natAbs := by
          omega
        have HQ := Lib.hid hq1
        have HMS := Lib.hid hms
        obtain ⟨t, ht⟩ : ∃ t, m.tmod 10 = t := ⟨_, rfl⟩
        obtain ⟨q, hq⟩ : ∃ q, m.tdiv 10 = q := ⟨_, rfl⟩
        rw [ht] at hd10
        rw [hq] at HQ HMS HNX hq1
        obtain ⟨qb1, qb2⟩ := hq1
        have htd : t.natAbs = d := by omega
        have HYZ := Lib.hid hyz
        clear hyz hms hnx hown hbel hdb hy hd hd10 hm hab
        by_cases hneg : t < 0
        · have htd2 : -t = (d : Int) := by omega
          clear htd
          go_wp2_with (at_builtin; refine wpList_append_rd _ rfl (.tmp 22) (.tmp 23) 39 rfl w.heap.size 5 i0 (.int .u8 0) 1 Tryd.underlying39 hi hz0 hz1 hz2 rfl (.slice (some ⟨wr.heap.size, 0, none⟩) 1 1) 1 (bv [y]) rfl HL1.out _ A c (bv out) (by rw [HLB.out]; rfl) HR.out HNIL.out (bv_one _) (by rw [HLB.out]; unfold maxLen; omega) (by rw [HLB.out]; omega) (by have := HBE.out.size; simp; omega) ?_; intro v2 w2 hown2 hgrow2; rw [HLB.out, ← bv_append] at hown2; obtain ⟨A2, c2, rfl, hl2, -⟩ := own_slice hown2)
          go_roundw
          case rel => exact ⟨A2, c2, q, y :: out, HQ.out.1, HQ.out.2, by rw [List.length_cons, Nat.add_comm], rfl, by rw [List.length_cons, Nat.add_comm]; exact hown2, (HBE.out.alloc HBE.out.size _).grown hgrow2 (by have := HBE.out.size; simp; omega) (fun j hj => (HL1.out.lt j hj).1), HNX⟩
          case measure => simp only [intOf]; exact HMS.out
        · have htd2 : t = (d : Int) := by omega
          clear htd
          subst htd2
          go_wp2_with (at_builtin; refine wpList_append_rd _ rfl (.tmp 22) (.tmp 23) 39 rfl w.heap.size 5 i0 (.int .u8 0) 1 Tryd.underlying39 hi hz0 hz1 hz2 rfl (.slice (some ⟨wr.heap.size, 0, none⟩) 1 1) 1 (bv [y]) rfl HL1.out _ A c (bv out) (by rw [HLB.out]; rfl) HR.out HNIL.out (bv_one _) (by rw [HLB.out]; unfold maxLen; omega) (by rw [HLB.out]; omega) (by have := HBE.out.size; simp; omega) ?_; intro v2 w2 hown2 hgrow2; rw [HLB.out, ← bv_append] at hown2; obtain ⟨A2, c2, rfl, hl2, -⟩ := own_slice hown2)
          go_roundw
          case rel => exact ⟨A2, c2, q, y :: out, HQ.out.1, HQ.out.2, by rw [List.length_cons, Nat.add_comm], rfl, by rw [List.length_cons, Nat.add_comm]; exact hown2, (HBE.out.alloc HBE.out.size _).grown hgrow2 (by have := HBE.out.size; simp; omega) (fun j hj => (HL1.out.lt j hj).1), HNX⟩
          case measure => simp only [intOf]; exact HMS.out
end Go.Proofs.YtacnpligpbiamaaDoor

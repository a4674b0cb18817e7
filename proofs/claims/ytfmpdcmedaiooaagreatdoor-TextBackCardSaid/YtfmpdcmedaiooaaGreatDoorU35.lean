/- strconv.AppendInt at base 10 and bits.TrailingZeros, onto a row of the call's own, where the two tables hold what the program text lays in them. strconv.AppendUint at base 16 of one digit, onto a row of the call's own (stage 5's text Fb, out of fitG/XG7). The reference's quoted text of a string, onto a row of the call's own. -/
import Derived.Shelf.Strconv.AppendIntPublic10
import Derived.Shelf.Spec.TrailingZeros
import Derived.Ground.NamesProg
import Derived.Ground.Names7Prog
import Derived.Lib.LaidTab
import Derived.Lib.ItoaNum
import Derived.Test.YtfmpdcmedaiooaaGreatDoorRows
import Derived.Test.YtfmpdcmedaiooaaGreatDoorU34
import Derived.Test.YtfmpdcmedaiooaaGreatDoorU15
import Derived.Test.YtfmpdcmedaiooaaGreatDoorU06
import Derived.Lib.Hide
import Derived.Deep.CutBlock
import Derived.Outline
import Derived.Test.YtfmpdcmedaiooaaGreatDoorU03
import Derived.StillTailTactics
import Derived.Deep.DeepCutAuto
import Derived.Deep.RegionHeld3
set_option linter.unusedVariables false
set_option linter.unusedSimpArgs false
namespace Go.Proofs
open Go.Shelf Go.RowKit
def Tryz.ai_ren : Go.Shelf.Ren := ⟨fun | 176 => 70 | 249 => 99 | 288 => 142 | 283 => 171 | 284 => 172 | 285 => 173 | 286 => 174 | 129 => 199 | 317 => 198 | 318 => 200 | 319 => 201 | 320 => 202 | 337 => 226 | 338 => 227 | n => n, fun | 37 => 55 | 2 => 2 | 3 => 3 | 53 => 152 | 4 => 4 | 9 => 9 | 171 => 176 | 0 => 0 | 173 => 179 | 212 => 209 | 51 => 188 | 5 => 5 | 20 => 20 | 213 => 210 | 46 => 73 | 232 => 246 | 233 => 247 | n => n, fun | 17 => 3 | 18 => 6 | 19 => 7 | n => n⟩
theorem Tryz.ai : Go.Proofs.LaysM.n176 Tryz.prog Tryz.ai_ren := {
  mixed := by kernel_rfl
  f129 := Tryz.func199.trans (congrArg some (by kernel_rfl))
  f176 := Tryz.func70.trans (congrArg some (by kernel_rfl))
  f249 := Tryz.func99.trans (congrArg some (by kernel_rfl))
  f283 := Tryz.func171.trans (congrArg some (by kernel_rfl))
  f284 := Tryz.func172.trans (congrArg some (by kernel_rfl))
  f285 := Tryz.func173.trans (congrArg some (by kernel_rfl))
  f286 := Tryz.func174.trans (congrArg some (by kernel_rfl))
  f288 := Tryz.func142.trans (congrArg some (by kernel_rfl))
  f317 := Tryz.func198.trans (congrArg some (by kernel_rfl))
  f318 := Tryz.func200.trans (congrArg some (by kernel_rfl))
  f319 := Tryz.func201.trans (congrArg some (by kernel_rfl))
  f320 := Tryz.func202.trans (congrArg some (by kernel_rfl))
  f337 := Tryz.func226.trans (congrArg some (by kernel_rfl))
  f338 := Tryz.func227.trans (congrArg some (by kernel_rfl))
  t0 := Tryz.underlying0
  a0 := Tryz.isAgg0
  z0 := Tryz.sizeOf0
  v0 := Tryz.zeroValue0
  t2 := Tryz.underlying2
  a2 := Tryz.isAgg2
  z2 := Tryz.sizeOf2
  v2 := Tryz.zeroValue2
  t3 := Tryz.underlying3
  a3 := Tryz.isAgg3
  z3 := Tryz.sizeOf3
  v3 := Tryz.zeroValue3
  t4 := Tryz.underlying4
  a4 := Tryz.isAgg4
  z4 := Tryz.sizeOf4
  v4 := Tryz.zeroValue4
  t5 := Tryz.underlying5
  a5 := Tryz.isAgg5
  z5 := Tryz.sizeOf5
  v5 := Tryz.zeroValue5
  t9 := Tryz.underlying9
  a9 := Tryz.isAgg9
  z9 := Tryz.sizeOf9
  v9 := Tryz.zeroValue9
  t20 := Tryz.underlying20
  a20 := Tryz.isAgg20
  z20 := Tryz.sizeOf20
  v20 := Tryz.zeroValue20
  t37 := Tryz.underlying55
  a37 := Tryz.isAgg55
  z37 := Tryz.sizeOf55
  v37 := Tryz.zeroValue55
  t46 := Tryz.underlying73
  a46 := Tryz.isAgg73
  z46 := Tryz.sizeOf73
  v46 := Tryz.zeroValue73
  t51 := Tryz.underlying188
  a51 := Tryz.isAgg188
  z51 := Tryz.sizeOf188
  v51 := Tryz.zeroValue188
  t53 := Tryz.underlying152
  a53 := Tryz.isAgg152
  z53 := Tryz.sizeOf152
  v53 := Tryz.zeroValue152
  t171 := Tryz.underlying176
  a171 := Tryz.isAgg176
  z171 := Tryz.sizeOf176
  v171 := Tryz.zeroValue176
  t173 := Tryz.underlying179
  a173 := Tryz.isAgg179
  z173 := Tryz.sizeOf179
  v173 := Tryz.zeroValue179
  t212 := Tryz.underlying209
  a212 := Tryz.isAgg209
  z212 := Tryz.sizeOf209
  v212 := Tryz.zeroValue209
  t213 := Tryz.underlying210
  a213 := Tryz.isAgg210
  z213 := Tryz.sizeOf210
  t232 := Tryz.underlying246
  a232 := Tryz.isAgg246
  z232 := Tryz.sizeOf246
  v232 := Tryz.zeroValue246
  t233 := Tryz.underlying247
  a233 := Tryz.isAgg247
  z233 := Tryz.sizeOf247
  v233 := Tryz.zeroValue247
  g17 := by kernel_rfl
  g18 := by kernel_rfl
  g19 := by kernel_rfl
  i0 := by kernel_rfl
  i2 := by kernel_rfl
  i3 := by kernel_rfl
  i4 := by kernel_rfl
  i5 := by kernel_rfl
  i9 := by kernel_rfl
  i20 := by kernel_rfl
  i37 := by kernel_rfl
  i46 := by kernel_rfl
  i51 := by kernel_rfl
  i53 := by kernel_rfl
  i171 := by kernel_rfl
  i173 := by kernel_rfl
  i212 := by kernel_rfl
  i232 := by kernel_rfl
  i233 := by kernel_rfl
  m17 := by kernel_rfl
  m18 := by kernel_rfl
  m19 := by kernel_rfl }


def Tryz.tz_ren : Go.Shelf.Ren := ⟨fun | 27 => 202 | 28 => 226 | 29 => 227 | n => n, fun | 25 => 73 | 3 => 3 | 27 => 188 | 22 => 152 | 4 => 4 | 53 => 246 | 0 => 0 | 5 => 5 | 54 => 247 | n => n, fun | 0 => 6 | 1 => 7 | n => n⟩
theorem Tryz.tz : Go.Proofs.Lays7.n27 Tryz.prog Tryz.tz_ren := {
  mixed := by kernel_rfl
  f27 := Tryz.func202.trans (congrArg some (by kernel_rfl))
  f28 := Tryz.func226.trans (congrArg some (by kernel_rfl))
  f29 := Tryz.func227.trans (congrArg some (by kernel_rfl))
  t0 := Tryz.underlying0
  a0 := Tryz.isAgg0
  z0 := Tryz.sizeOf0
  v0 := Tryz.zeroValue0
  i0 := by kernel_rfl
  t3 := Tryz.underlying3
  a3 := Tryz.isAgg3
  z3 := Tryz.sizeOf3
  v3 := Tryz.zeroValue3
  i3 := by kernel_rfl
  t4 := Tryz.underlying4
  a4 := Tryz.isAgg4
  z4 := Tryz.sizeOf4
  v4 := Tryz.zeroValue4
  i4 := by kernel_rfl
  t5 := Tryz.underlying5
  a5 := Tryz.isAgg5
  z5 := Tryz.sizeOf5
  v5 := Tryz.zeroValue5
  i5 := by kernel_rfl
  t22 := Tryz.underlying152
  a22 := Tryz.isAgg152
  z22 := Tryz.sizeOf152
  v22 := Tryz.zeroValue152
  i22 := by kernel_rfl
  t25 := Tryz.underlying73
  a25 := Tryz.isAgg73
  z25 := Tryz.sizeOf73
  v25 := Tryz.zeroValue73
  i25 := by kernel_rfl
  t27 := Tryz.underlying188
  a27 := Tryz.isAgg188
  z27 := Tryz.sizeOf188
  v27 := Tryz.zeroValue188
  i27 := by kernel_rfl
  t53 := Tryz.underlying246
  a53 := Tryz.isAgg246
  z53 := Tryz.sizeOf246
  v53 := Tryz.zeroValue246
  i53 := by kernel_rfl
  t54 := Tryz.underlying247
  a54 := Tryz.isAgg247
  z54 := Tryz.sizeOf247
  g0 := by kernel_rfl
  g1 := by kernel_rfl }


end Go.Proofs
namespace Go.Proofs.YtfmpdcmedaiooaaGreatDoor
open Go.RowKit
/-- The two tables read so, and go on reading so whatever becomes of the blocks from base on. -/
structure TabB (base : Nat) (w : World) : Prop where
  pow : Lib.TabBelow Tryz.prog base w "internal/strconv.uint64pow10" .u64 Lib.pow10Tab
  tz : ∀ w', Below base w w' → TabAt 7 Lib.deBruijn64tab w'
theorem TabB.on {base : Nat} {w w1 : World} (h : TabB base w) (hb : Below base w w1) : TabB base w1 := ⟨h.pow.on hb, fun w' k => h.tz w' (hb.trans k)⟩
/-- The two tables read so. -/
structure TabS (w : World) : Prop where
  pow : Lib.TabIs Tryz.prog w "internal/strconv.uint64pow10" .u64 Lib.pow10Tab
  tz : TabAt 7 Lib.deBruijn64tab w
theorem tabAt_below {g : Nat} {tab : List Nat} {w w' : World} (h : TabAt g tab w) (hb : Below w.heap.size w w') : TabAt g tab w' := fun j hj => by
  have h1 := h j hj
  exact (hb.cell (p := ⟨g, j, none⟩) (World.block_lt_of_cell? w _ h1)).trans h1
theorem TabS.below {w : World} (h : TabS w) : TabB w.heap.size w := ⟨Lib.tabBelow_of_tabIs h.pow, fun w' hb => tabAt_below h.tz hb⟩
theorem TabS.next {w w' : World} (h : TabS w) (hb : Below w.heap.size w w') : TabS w' := ⟨h.below.pow w' hb, tabAt_below h.tz hb⟩
/-- What an append onto the row v leaves, below base. -/
def AppC (base : Nat) (w : World) (out : List UInt8) (e : Ending) (w' : World) : Prop := ∃ (A : Option Addr) (n c : Nat), e = .returned (.slice A n c) ∧ w'.ownsRow base 5 1 (.slice A n c) n (bv out) ∧ Below base w w'
theorem dec_mag (v : Nat) : Lib.decDigits v = magL v := by
  induction v using Nat.strongRecOn with
  | _ v ih =>
    by_cases h10 : v < 10
    · rw [Lib.decDigits_one h10]
      unfold magL
      by_cases h0 : v = 0
      · subst h0; rfl
      · rw [if_neg h0, digN_pos h0]
        have e1 : v / 10 = 0 := by omega
        have e2 : v % 10 = v := by omega
        rw [e1, e2, digN_zero]; rfl
    · rw [Lib.decDigits, dif_neg h10, ih (v / 10) (by omega)]
      unfold magL
      rw [if_neg (by omega), if_neg (by omega), digN_pos (v := v) (by omega)]
theorem itoa_num (n : Int) : Lib.itoa n = numL n := by
  unfold Lib.itoa numL
  by_cases h : n < 0
  · rw [if_pos h, if_pos h, dec_mag]
  · rw [if_neg h, if_neg h, dec_mag]
    have : n.toNat = n.natAbs := by omega
    rw [this]
theorem appendInt_any (i : Int) (h0 : -9223372036854775808 ≤ i) (h1 : i ≤ 9223372036854775807) (base n c : Nat) (A : Option Addr) (out : List UInt8) (w : World) (hown : w.ownsRow base 5 1 (.slice A n c) n (bv out)) (hb : base ≤ w.heap.size) (hn : n ≤ 1073741824) (ht : TabB base w) :
    Calls Tryz.prog 70 #[.slice A n c, .int .i64 i, .int .i64 10] w (AppC base w (out ++ numL i)) := by
  refine (Any.strconv_AppendInt_10 Tryz.ai base n i h0 h1 (.slice A n c) (bv out) w hown hb (by omega) ht.pow).mono fun e w' hp => ?_
  obtain ⟨v', rfl, ho, hbl, -⟩ := hp
  have ho2 : w'.ownsRow base 5 1 v' (n + (Lib.itoa i).length) (bv out ++ Lib.byteCells (Lib.itoa i)) := ho
  obtain ⟨A2, c2, rfl, -, -⟩ := own_slice ho2
  refine ⟨A2, _, c2, rfl, ?_, hbl⟩
  have e : bv (out ++ numL i) = bv out ++ Lib.byteCells (Lib.itoa i) := by rw [bv_append, itoa_num]; rfl
  rw [e]
  exact ho2
theorem tz16_any (w : World) (ht : TabAt 7 Lib.deBruijn64tab w) : Calls Tryz.prog 202 #[.int .u64 16] w fun e w' => e = .returned (.int .i64 4) ∧ w = w' := by
  refine (Any7.bits_TrailingZeros Tryz.tz 16 (by decide) w (fun _ => ht)).mono fun e w' hp => ?_
  obtain ⟨he, rfl⟩ := hp
  have e4 : Lib.ctz 64 16 = 4 := by decide
  rw [e4] at he
  exact ⟨he, rfl⟩
end Go.Proofs.YtfmpdcmedaiooaaGreatDoor
namespace Go.Proofs.YtfmpdcmedaiooaaGreatDoor
open Go.RowKit
set_option maxRecDepth 100000 in
theorem dig_at {i : Int} (h0 : 0 ≤ i) (h1 : i < 16) (w : World) : (Instr.index 9 (.string ⟨#[48, 49, 50, 51, 52, 53, 54, 55, 56, 57, 97, 98, 99, 100, 101, 102, 103, 104, 105, 106, 107, 108, 109, 110, 111, 112, 113, 114, 115, 116, 117, 118, 119, 120, 121, 122]⟩) (.int .u64 i)).run Tryz.prog w = .ok (.int .u8 ((hx i.toNat).toNat : Int)) w := by
  have h : i = 0 ∨ i = 1 ∨ i = 2 ∨ i = 3 ∨ i = 4 ∨ i = 5 ∨ i = 6 ∨ i = 7 ∨ i = 8 ∨ i = 9 ∨ i = 10 ∨ i = 11 ∨ i = 12 ∨ i = 13 ∨ i = 14 ∨ i = 15 := by omega
  rcases h with rfl | rfl | rfl | rfl | rfl | rfl | rfl | rfl | rfl | rfl | rfl | rfl | rfl | rfl | rfl | rfl <;> rfl
theorem own_belowW {w w' : World} {base n : Nat} {e : TypeId} {v : Value} {xs : List Value} (h : w.ownsRow base e 1 v n xs) (hb : Below w.heap.size w w') : w'.ownsRow base e 1 v n xs := by
  refine ⟨h.1, ?_⟩
  rcases h.2 with h1 | ⟨g, cap, cur, rfl, h1, h2, h3⟩
  · exact .inl h1
  · exact .inr ⟨g, cap, cur, rfl, h1, (hb.block g (h.lt g rfl).2).trans h2, h3⟩
theorem pow16_any (w : World) : Calls Tryz.prog 201 #[.int .i64 16] w fun e w' => e = .returned (.bool true) ∧ w = w' := by
  have h : bits .and .i64 16 15 = 0 := by decide +kernel
  go_enter Tryz.func201, Tryz.ntmps201
  go_wp2
  go_ret
  exact ⟨rfl, rfl⟩
set_option maxHeartbeats 4000000 in
set_option maxRecDepth 100000 in
theorem fbits_any (u : Int) (hu0 : 0 ≤ u) (hu : u < 16) (base n c : Nat) (A : Option Addr) (out : List UInt8) (w : World) (hown : w.ownsRow base 5 1 (.slice A n c) n (bv out)) (hb : base ≤ w.heap.size) (hn : n ≤ 536870912) (ht : TabB base w) :
    Calls Tryz.prog 174 #[.slice A n c, .int .u64 u, .int .i64 16, .bool false, .bool true] w fun e w' => ∃ A' n' c', e = .returned (.tuple #[.slice A' n' c', .string ⟨#[]⟩]) ∧ w'.ownsRow base 5 1 (.slice A' n' c') n' (bv (out ++ [hx u.toNat])) ∧ Below base w w' := by
  obtain ⟨i0, hi, hz0, hz1, hz2⟩ := info_parts inf_u8
  have HO := Lib.hid hown
  have HT := Lib.hid ht
  have hix := fun W => dig_at hu0 hu W
  have hq1 : decide (16 ≤ u) = false := by simpa using hu
  clear hown ht
  go_enter Tryz.func174, Tryz.ntmps174
  go_wp2_with (first
    | (go_at_call 201; refine (pow16_any _).mono ?_; rintro e w1 ⟨rfl, rfl⟩)
    | (go_at_call 202; refine (tz16_any _ (HT.out.tz _ ((Below.refl _ _).alloc hb _))).mono ?_; rintro e w2 ⟨rfl, rfl⟩))
  obtain ⟨W1, hW1⟩ : ∃ X, X = w.alloc (.cells Tryz.zeroCells210 210) := ⟨_, rfl⟩
  have HBX := Lib.hid (show Box W1 w.heap.size 210 Tryz.zeroCells210 by rw [hW1]; exact Box.laid w _ _)
  have HB1 := Lib.hid (show Below w.heap.size w W1 by rw [hW1]; exact (Below.refl _ _).alloc (Nat.le_refl _) _)
  have hsz : w.heap.size < W1.heap.size := by rw [hW1]; simp
  rw [← hW1]
  clear hW1
  have hc64 : W1.cell? ⟨w.heap.size, 64, none⟩ = some (.int .u8 0) := HBX.out.cell (by kernel_rfl)
  have hf64 : W1.frozen? ⟨w.heap.size, 64, none⟩ = false := HBX.out.free 64
  go_loop [1, 13] (fun t1 t13 => t1 = .int .u64 u ∧ t13 = .int .i64 65) (fun _ _ => 0)
  case atStart => exact ⟨rfl, rfl⟩
  case round =>
    obtain ⟨rfl, rfl⟩ := hrel
    obtain ⟨d, hd⟩ : ∃ d : Int, ((hx u.toNat).toNat : Int) = d := ⟨_, rfl⟩
    have HD : Hid (([.int .u8 d] : List Value) = bv [hx u.toNat]) := Lib.hid (by rw [← hd]; rfl)
    obtain ⟨W2, hW2⟩ : ∃ X, X = W1.setCell ⟨w.heap.size, 64, none⟩ (.int .u8 d) := ⟨_, rfl⟩
    have HB2 := Lib.hid (show Below w.heap.size w W2 by rw [hW2]; exact HB1.out.setCell (Nat.le_refl _) _)
    have HO2 := Lib.hid (own_belowW HO.out HB2.out)
    have HC2 : Hid (∀ j v, ([.int .u8 d] : List Value)[j]? = some v → W2.cell? ((⟨w.heap.size, 64, none⟩ : Addr).add j) = some v) := Lib.hid (fun j v hj => by
      cases j with
      | succ j => simp at hj
      | zero =>
        simp only [List.getElem?_cons_zero, Option.some.injEq] at hj
        subst hj
        have h := HBX.out.put 64 (.int .u8 d)
        rw [← hW2] at h
        exact h.cell (i := 64) (by simp))
    have HW2 := Lib.hid hW2
    clear hW2 
    go_upto_region 29 with fail
    rw [← HW2.out]
    go_wp2_with (at_builtin; refine wpList_app_cells _ rfl (.tmp 95) (.tmp 97) 55 rfl base 5 i0 (.int .u8 0) Tryz.underlying55 hi hz0 hz1 hz2 rfl (.slice A n c) n (bv out) rfl HO2.out ⟨w.heap.size, 64, none⟩ 1 1 [.int .u8 d] rfl rfl HC2.out (by omega) (Nat.le_trans hb HB2.out.size) (bv [hx u.toNat]) HD.out (bv_one _) ?_; intro A2 c2 w2 hown2 happ2; rw [← bv_append] at hown2)
    go_ret2
    exact ⟨A2, _, c2, rfl, hown2, ((HB2.out.mono hb).trans (happ2.below (Nat.le_trans hb HB2.out.size) (fun g hg => (HO2.out.lt g hg).1)))⟩
/-- strconv.AppendUint at base 16, one digit. -/
theorem appendHex_any (u : Int) (hu0 : 0 ≤ u) (hu : u < 16) (base n c : Nat) (A : Option Addr) (out : List UInt8) (w : World) (hown : w.ownsRow base 5 1 (.slice A n c) n (bv out)) (hb : base ≤ w.heap.size) (hn : n ≤ 536870912) (ht : TabB base w) :
    Calls Tryz.prog 175 #[.slice A n c, .int .u64 u, .int .i64 16] w (AppC base w (out ++ [hx u.toNat])) := by
  have HF := Lib.hid (fbits_any u hu0 hu base n c A out w hown hb hn ht)
  clear hown ht
  have HI : Hid (Calls Tryz.prog 142 #[.slice A n c, .int .u64 u, .int .i64 16] w (AppC base w (out ++ [hx u.toNat]))) := Lib.hid (by
    go_enter Tryz.func142, Tryz.ntmps142
    go_wp2_with (go_at_call 174; refine HF.out.mono ?_; rintro e w1 ⟨A1, n1, c1, rfl, hown1, hb1⟩)
    go_ret
    exact ⟨A1, n1, c1, rfl, hown1, hb1⟩)
  go_enter Tryz.func175, Tryz.ntmps175
  go_wp2_with (go_at_call 142; refine HI.out.mono ?_; rintro e w1 ⟨A1, n1, c1, rfl, hown1, hb1⟩)
  go_ret
  exact ⟨A1, n1, c1, rfl, hown1, hb1⟩

end Go.Proofs.YtfmpdcmedaiooaaGreatDoor
namespace Go.Proofs.YtfmpdcmedaiooaaGreatDoor
open Go.RowKit
theorem qb_of {b : UInt8} {x : Int} (h : (b.toNat : Int) = x) : qb b = (if x = 34 ∨ x = 92 then [92, b] else if x = 8 then [92, 98] else if x = 9 then [92, 116] else if x = 10 then [92, 110]
  else if x = 12 then [92, 102] else if x = 13 then [92, 114] else if x < 32 then [92, 117, 48, 48, hx (b.toNat / 16), hx (b.toNat % 16)] else [b]) := by
  subst h
  unfold qb
  have e : ∀ k : Nat, ((b.toNat : Int) = (k : Int)) = (b.toNat = k) := fun k => by rw [Int.natCast_inj]
  have e2 : ((b.toNat : Int) < 32) = (b.toNat < 32) := by apply propext; omega
  simp only [show ((b.toNat : Int) = 34) = (b.toNat = 34) from e 34, show ((b.toNat : Int) = 92) = (b.toNat = 92) from e 92, show ((b.toNat : Int) = 8) = (b.toNat = 8) from e 8, show ((b.toNat : Int) = 9) = (b.toNat = 9) from e 9, show ((b.toNat : Int) = 10) = (b.toNat = 10) from e 10, show ((b.toNat : Int) = 12) = (b.toNat = 12) from e 12, show ((b.toNat : Int) = 13) = (b.toNat = 13) from e 13, e2]
theorem at_byte {s : ByteArray} {i : Nat} (h : i < s.size) {b : UInt8} (hb : s[i] = b) : s.data.toList[i]? = some b := by
  rw [← hb, List.getElem?_eq_getElem (by simpa using h)]
  simp
  rfl
/-- What an append onto the row v leaves: a slice that owns out. -/
def AppB (base : Nat) (w : World) (v : Value) (out : List UInt8) (e : Ending) (w' : World) : Prop := ∃ (A : Option Addr) (n c : Nat), e = .returned (.slice A n c) ∧ w'.ownsRow base 5 1 (.slice A n c) n (bv out) ∧ App w v w' (.slice A n c)
theorem own_len {w : World} {base n : Nat} {e : TypeId} {v : Value} {out : List UInt8} (h : w.ownsRow base e 1 v n (bv out)) : out.length = n := by
  have := h.1
  rw [bv_length] at this
  omega
theorem own_ge {w : World} {base n : Nat} {e : TypeId} {v : Value} {xs : List Value} (h : w.ownsRow base e 1 v n xs) : ∀ g, v.ownBlock = some g → base ≤ g := fun g hg => (h.lt g hg).1
theorem band15 {x : Int} (h0 : 0 ≤ x) (h1 : x ≤ 255) : bits .and .u8 x 15 = x % 16 := by
  have h : ∀ n : Fin 256, bits .and .u8 (n.val : Int) 15 = (n.val : Int) % 16 := by decide +kernel
  have h2 := h ⟨x.toNat, by omega⟩
  have e : ((x.toNat : Nat) : Int) = x := by omega
  simp only [e] at h2
  exact h2
end Go.Proofs.YtfmpdcmedaiooaaGreatDoor

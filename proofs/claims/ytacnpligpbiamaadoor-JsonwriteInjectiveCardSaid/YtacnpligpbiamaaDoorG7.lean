/- strconv.AppendInt at base 10 and bits.TrailingZeros, onto a row of the call's own, where the two tables hold what the program text lays in them. strconv.AppendUint at base 16 of one digit, onto a row of the call's own. -/
import Derived.Shelf.Strconv.AppendIntPublic10
import Derived.Shelf.Spec.TrailingZeros
import Derived.Ground.NamesProg
import Derived.Ground.Names7Prog
import Derived.Lib.LaidTab
import Derived.Lib.ItoaNum
import Derived.Test.YtacnpligpbiamaaDoorRows
import Derived.Test.YtacnpligpbiamaaDoorG2
import Derived.Test.YtacnpligpbiamaaDoorG1
import Derived.Test.YtacnpligpbiamaaDoorG5
import Derived.Lib.Hide
import Derived.Deep.CutBlock
import Derived.Outline
set_option linter.unusedVariables false
set_option linter.unusedSimpArgs false
namespace Go.Proofs
open Go.Shelf Go.RowKit
def Tryd.ai_ren : Go.Shelf.Ren := ⟨fun | 176 => 75 | 249 => 96 | 288 => 112 | 283 => 116 | 284 => 117 | 285 => 118 | 286 => 119 | 129 => 123 | 317 => 122 | 318 => 124 | 319 => 125 | 320 => 126 | 337 => 127 | 338 => 128 | n => n, fun | 37 => 39 | 2 => 2 | 3 => 3 | 53 => 110 | 4 => 4 | 9 => 9 | 171 => 134 | 0 => 0 | 173 => 137 | 212 => 141 | 51 => 142 | 5 => 5 | 20 => 20 | 213 => 143 | 46 => 71 | 232 => 146 | 233 => 147 | n => n, fun | 17 => 3 | 18 => 4 | 19 => 5 | n => n⟩
theorem Tryd.ai : Go.Proofs.LaysM.n176 Tryd.prog Tryd.ai_ren := {
  mixed := by kernel_rfl
  f129 := Tryd.func123.trans (congrArg some (by kernel_rfl))
  f176 := Tryd.func75.trans (congrArg some (by kernel_rfl))
  f249 := Tryd.func96.trans (congrArg some (by kernel_rfl))
  f283 := Tryd.func116.trans (congrArg some (by kernel_rfl))
  f284 := Tryd.func117.trans (congrArg some (by kernel_rfl))
  f285 := Tryd.func118.trans (congrArg some (by kernel_rfl))
  f286 := Tryd.func119.trans (congrArg some (by kernel_rfl))
  f288 := Tryd.func112.trans (congrArg some (by kernel_rfl))
  f317 := Tryd.func122.trans (congrArg some (by kernel_rfl))
  f318 := Tryd.func124.trans (congrArg some (by kernel_rfl))
  f319 := Tryd.func125.trans (congrArg some (by kernel_rfl))
  f320 := Tryd.func126.trans (congrArg some (by kernel_rfl))
  f337 := Tryd.func127.trans (congrArg some (by kernel_rfl))
  f338 := Tryd.func128.trans (congrArg some (by kernel_rfl))
  t0 := Tryd.underlying0
  a0 := Tryd.isAgg0
  z0 := Tryd.sizeOf0
  v0 := Tryd.zeroValue0
  t2 := Tryd.underlying2
  a2 := Tryd.isAgg2
  z2 := Tryd.sizeOf2
  v2 := Tryd.zeroValue2
  t3 := Tryd.underlying3
  a3 := Tryd.isAgg3
  z3 := Tryd.sizeOf3
  v3 := Tryd.zeroValue3
  t4 := Tryd.underlying4
  a4 := Tryd.isAgg4
  z4 := Tryd.sizeOf4
  v4 := Tryd.zeroValue4
  t5 := Tryd.underlying5
  a5 := Tryd.isAgg5
  z5 := Tryd.sizeOf5
  v5 := Tryd.zeroValue5
  t9 := Tryd.underlying9
  a9 := Tryd.isAgg9
  z9 := Tryd.sizeOf9
  v9 := Tryd.zeroValue9
  t20 := Tryd.underlying20
  a20 := Tryd.isAgg20
  z20 := Tryd.sizeOf20
  v20 := Tryd.zeroValue20
  t37 := Tryd.underlying39
  a37 := Tryd.isAgg39
  z37 := Tryd.sizeOf39
  v37 := Tryd.zeroValue39
  t46 := Tryd.underlying71
  a46 := Tryd.isAgg71
  z46 := Tryd.sizeOf71
  v46 := Tryd.zeroValue71
  t51 := Tryd.underlying142
  a51 := Tryd.isAgg142
  z51 := Tryd.sizeOf142
  v51 := Tryd.zeroValue142
  t53 := Tryd.underlying110
  a53 := Tryd.isAgg110
  z53 := Tryd.sizeOf110
  v53 := Tryd.zeroValue110
  t171 := Tryd.underlying134
  a171 := Tryd.isAgg134
  z171 := Tryd.sizeOf134
  v171 := Tryd.zeroValue134
  t173 := Tryd.underlying137
  a173 := Tryd.isAgg137
  z173 := Tryd.sizeOf137
  v173 := Tryd.zeroValue137
  t212 := Tryd.underlying141
  a212 := Tryd.isAgg141
  z212 := Tryd.sizeOf141
  v212 := Tryd.zeroValue141
  t213 := Tryd.underlying143
  a213 := Tryd.isAgg143
  z213 := Tryd.sizeOf143
  t232 := Tryd.underlying146
  a232 := Tryd.isAgg146
  z232 := Tryd.sizeOf146
  v232 := Tryd.zeroValue146
  t233 := Tryd.underlying147
  a233 := Tryd.isAgg147
  z233 := Tryd.sizeOf147
  v233 := Tryd.zeroValue147
  g17 := by kernel_rfl
  g18 := by kernel_rfl
  g19 := by kernel_rfl
  i0 := by kernel_rfl
  i2 := by kernel_rfl
  i3 := by kernel_rfl
  i4 := by kernel_rfl
  i5 := by kernel_rfl
  i9 := by kernel_rfl
  i20 := by kernel_rfl
  i37 := by kernel_rfl
  i46 := by kernel_rfl
  i51 := by kernel_rfl
  i53 := by kernel_rfl
  i171 := by kernel_rfl
  i173 := by kernel_rfl
  i212 := by kernel_rfl
  i232 := by kernel_rfl
  i233 := by kernel_rfl
  m17 := by kernel_rfl
  m18 := by kernel_rfl
  m19 := by kernel_rfl }


def Tryd.tz_ren : Go.Shelf.Ren := ⟨fun | 27 => 126 | 28 => 127 | 29 => 128 | n => n, fun | 25 => 71 | 3 => 3 | 27 => 142 | 22 => 110 | 4 => 4 | 53 => 146 | 0 => 0 | 5 => 5 | 54 => 147 | n => n, fun | 0 => 4 | 1 => 5 | n => n⟩
theorem Tryd.tz : Go.Proofs.Lays7.n27 Tryd.prog Tryd.tz_ren := {
  mixed := by kernel_rfl
  f27 := Tryd.func126.trans (congrArg some (by kernel_rfl))
  f28 := Tryd.func127.trans (congrArg some (by kernel_rfl))
  f29 := Tryd.func128.trans (congrArg some (by kernel_rfl))
  t0 := Tryd.underlying0
  a0 := Tryd.isAgg0
  z0 := Tryd.sizeOf0
  v0 := Tryd.zeroValue0
  i0 := by kernel_rfl
  t3 := Tryd.underlying3
  a3 := Tryd.isAgg3
  z3 := Tryd.sizeOf3
  v3 := Tryd.zeroValue3
  i3 := by kernel_rfl
  t4 := Tryd.underlying4
  a4 := Tryd.isAgg4
  z4 := Tryd.sizeOf4
  v4 := Tryd.zeroValue4
  i4 := by kernel_rfl
  t5 := Tryd.underlying5
  a5 := Tryd.isAgg5
  z5 := Tryd.sizeOf5
  v5 := Tryd.zeroValue5
  i5 := by kernel_rfl
  t22 := Tryd.underlying110
  a22 := Tryd.isAgg110
  z22 := Tryd.sizeOf110
  v22 := Tryd.zeroValue110
  i22 := by kernel_rfl
  t25 := Tryd.underlying71
  a25 := Tryd.isAgg71
  z25 := Tryd.sizeOf71
  v25 := Tryd.zeroValue71
  i25 := by kernel_rfl
  t27 := Tryd.underlying142
  a27 := Tryd.isAgg142
  z27 := Tryd.sizeOf142
  v27 := Tryd.zeroValue142
  i27 := by kernel_rfl
  t53 := Tryd.underlying146
  a53 := Tryd.isAgg146
  z53 := Tryd.sizeOf146
  v53 := Tryd.zeroValue146
  i53 := by kernel_rfl
  t54 := Tryd.underlying147
  a54 := Tryd.isAgg147
  z54 := Tryd.sizeOf147
  g0 := by kernel_rfl
  g1 := by kernel_rfl }


end Go.Proofs
namespace Go.Proofs.YtacnpligpbiamaaDoor
open Go.RowKit
/-- The two tables read so, and go on reading so whatever becomes of the blocks from base on. -/
structure TabB (base : Nat) (w : World) : Prop where
  pow : Lib.TabBelow Tryd.prog base w "internal/strconv.uint64pow10" .u64 Lib.pow10Tab
  tz : ∀ w', Below base w w' → TabAt 5 Lib.deBruijn64tab w'
theorem TabB.on {base : Nat} {w w1 : World} (h : TabB base w) (hb : Below base w w1) : TabB base w1 := ⟨h.pow.on hb, fun w' k => h.tz w' (hb.trans k)⟩
/-- The two tables read so. -/
structure TabS (w : World) : Prop where
  pow : Lib.TabIs Tryd.prog w "internal/strconv.uint64pow10" .u64 Lib.pow10Tab
  tz : TabAt 5 Lib.deBruijn64tab w
theorem tabAt_below {g : Nat} {tab : List Nat} {w w' : World} (h : TabAt g tab w) (hb : Below w.heap.size w w') : TabAt g tab w' := fun j hj => by
  have h1 := h j hj
  exact (hb.cell (p := ⟨g, j, none⟩) (World.block_lt_of_cell? w _ h1)).trans h1
theorem TabS.below {w : World} (h : TabS w) : TabB w.heap.size w := ⟨Lib.tabBelow_of_tabIs h.pow, fun w' hb => tabAt_below h.tz hb⟩
theorem TabS.next {w w' : World} (h : TabS w) (hb : Below w.heap.size w w') : TabS w' := ⟨h.below.pow w' hb, tabAt_below h.tz hb⟩
/-- What an append onto the row v leaves, below base. -/
def AppC (base : Nat) (w : World) (out : List UInt8) (e : Ending) (w' : World) : Prop := ∃ (A : Option Addr) (n c : Nat), e = .returned (.slice A n c) ∧ w'.ownsRow base 5 1 (.slice A n c) n (bv out) ∧ Below base w w'
theorem dec_mag (v : Nat) : Lib.decDigits v = magL v := by
  induction v using Nat.strongRecOn with
  | _ v ih =>
    by_cases h10 : v < 10
    · rw [Lib.decDigits_one h10]
      unfold magL
      by_cases h0 : v = 0
      · subst h0; rfl
      · rw [if_neg h0, digN_pos h0]
        have e1 : v / 10 = 0 := by omega
        have e2 : v % 10 = v := by omega
        rw [e1, e2, digN_zero]; rfl
    · rw [Lib.decDigits, dif_neg h10, ih (v / 10) (by omega)]
      unfold magL
      rw [if_neg (by omega), if_neg (by omega), digN_pos (v := v) (by omega)]
theorem itoa_num (n : Int) : Lib.itoa n = numL n := by
  unfold Lib.itoa numL
  by_cases h : n < 0
  · rw [if_pos h, if_pos h, dec_mag]
  · rw [if_neg h, if_neg h, dec_mag]
    have : n.toNat = n.natAbs := by omega
    rw [this]
theorem appendInt_any (i : Int) (h0 : -9223372036854775808 ≤ i) (h1 : i ≤ 9223372036854775807) (base n c : Nat) (A : Option Addr) (out : List UInt8) (w : World) (hown : w.ownsRow base 5 1 (.slice A n c) n (bv out)) (hb : base ≤ w.heap.size) (hn : n ≤ 1073741824) (ht : TabB base w) :
    Calls Tryd.prog 75 #[.slice A n c, .int .i64 i, .int .i64 10] w (AppC base w (out ++ numL i)) := by
  refine (Any.strconv_AppendInt_10 Tryd.ai base n i h0 h1 (.slice A n c) (bv out) w hown hb (by omega) ht.pow).mono fun e w' hp => ?_
  obtain ⟨v', rfl, ho, hbl, -⟩ := hp
  have ho2 : w'.ownsRow base 5 1 v' (n + (Lib.itoa i).length) (bv out ++ Lib.byteCells (Lib.itoa i)) := ho
  obtain ⟨A2, c2, rfl, -, -⟩ := own_slice ho2
  refine ⟨A2, _, c2, rfl, ?_, hbl⟩
  have e : bv (out ++ numL i) = bv out ++ Lib.byteCells (Lib.itoa i) := by rw [bv_append, itoa_num]; rfl
  rw [e]
  exact ho2
theorem tz16_any (w : World) (ht : TabAt 5 Lib.deBruijn64tab w) : Calls Tryd.prog 126 #[.int .u64 16] w fun e w' => e = .returned (.int .i64 4) ∧ w = w' := by
  refine (Any7.bits_TrailingZeros Tryd.tz 16 (by decide) w (fun _ => ht)).mono fun e w' hp => ?_
  obtain ⟨he, rfl⟩ := hp
  have e4 : Lib.ctz 64 16 = 4 := by decide
  rw [e4] at he
  exact ⟨he, rfl⟩
end Go.Proofs.YtacnpligpbiamaaDoor
namespace Go.Proofs.YtacnpligpbiamaaDoor
open Go.RowKit
set_option maxRecDepth 100000 in
theorem dig_at {i : Int} (h0 : 0 ≤ i) (h1 : i < 16) (w : World) : (Instr.index 9 (.string ⟨#[48, 49, 50, 51, 52, 53, 54, 55, 56, 57, 97, 98, 99, 100, 101, 102, 103, 104, 105, 106, 107, 108, 109, 110, 111, 112, 113, 114, 115, 116, 117, 118, 119, 120, 121, 122]⟩) (.int .u64 i)).run Tryd.prog w = .ok (.int .u8 ((hx i.toNat).toNat : Int)) w := by
  have h : i = 0 ∨ i = 1 ∨ i = 2 ∨ i = 3 ∨ i = 4 ∨ i = 5 ∨ i = 6 ∨ i = 7 ∨ i = 8 ∨ i = 9 ∨ i = 10 ∨ i = 11 ∨ i = 12 ∨ i = 13 ∨ i = 14 ∨ i = 15 := by omega
  rcases h with rfl | rfl | rfl | rfl | rfl | rfl | rfl | rfl | rfl | rfl | rfl | rfl | rfl | rfl | rfl | rfl <;> rfl
theorem own_belowW {w w' : World} {base n : Nat} {e : TypeId} {v : Value} {xs : List Value} (h : w.ownsRow base e 1 v n xs) (hb : Below w.heap.size w w') : w'.ownsRow base e 1 v n xs := by
  refine ⟨h.1, ?_⟩
  rcases h.2 with h1 | ⟨g, cap, cur, rfl, h1, h2, h3⟩
  · exact .inl h1
  · exact .inr ⟨g, cap, cur, rfl, h1, (hb.block g (h.lt g rfl).2).trans h2, h3⟩
theorem pow16_any (w : World) : Calls Tryd.prog 125 #[.int .i64 16] w fun e w' => e = .returned (.bool true) ∧ w = w' := by
  have h : bits .and .i64 16 15 = 0 := by decide +kernel
  go_enter Tryd.func125, Tryd.ntmps125
  go_wp2
  go_ret
  exact ⟨rfl, rfl⟩
set_option maxHeartbeats 4000000 in
set_option maxRecDepth 100000 in
theorem fbits_any (u : Int) (hu0 : 0 ≤ u) (hu : u < 16) (base n c : Nat) (A : Option Addr) (out : List UInt8) (w : World) (hown : w.ownsRow base 5 1 (.slice A n c) n (bv out)) (hb : base ≤ w.heap.size) (hn : n ≤ 536870912) (ht : TabB base w) :
    Calls Tryd.prog 119 #[.slice A n c, .int .u64 u, .int .i64 16, .bool false, .bool true] w fun e w' => ∃ A' n' c', e = .returned (.tuple #[.slice A' n' c', .string ⟨#[]⟩]) ∧ w'.ownsRow base 5 1 (.slice A' n' c') n' (bv (out ++ [hx u.toNat])) ∧ Below base w w' := by
  obtain ⟨i0, hi, hz0, hz1, hz2⟩ := info_parts inf_u8
  have HO := Lib.hid hown
  have HT := Lib.hid ht
  have hix := fun W => dig_at hu0 hu W
  have hq1 : decide (16 ≤ u) = false := by simpa using hu
  clear hown ht
  go_enter Tryd.func119, Tryd.ntmps119
  go_wp2_with (first
    | (go_at_call 125; refine (pow16_any _).mono ?_; rintro e w1 ⟨rfl, rfl⟩)
    | (go_at_call 126; refine (tz16_any _ (HT.out.tz _ ((Below.refl _ _).alloc hb _))).mono ?_; rintro e w2 ⟨rfl, rfl⟩))
  obtain ⟨W1, hW1⟩ : ∃ X, X = w.alloc (.cells Tryd.zeroCells143 143) := ⟨_, rfl⟩
  have HBX := Lib.hid (show Box W1 w.heap.size 143 Tryd.zeroCells143 by rw [hW1]; exact Box.laid w _ _)
  have HB1 := Lib.hid (show Below w.heap.size w W1 by rw [hW1]; exact (Below.refl _ _).alloc (Nat.le_refl _) _)
  have hsz : w.heap.size < W1.heap.size := by rw [hW1]; simp
  rw [← hW1]
  clear hW1
  have hc64 : W1.cell? ⟨w.heap.size, 64, none⟩ = some (.int .u8 0) := HBX.out.cell (by kernel_rfl)
  have hf64 : W1.frozen? ⟨w.heap.size, 64, none⟩ = false := HBX.out.free 64
  go_loop [1, 13] (fun t1 t13 => t1 = .int .u64 u ∧ t13 = .int .i64 65) (fun _ _ => 0)
  case atStart => exact ⟨rfl, rfl⟩
  case round =>
    obtain ⟨rfl, rfl⟩ := hrel
    obtain ⟨d, hd⟩ : ∃ d : Int, ((hx u.toNat).toNat : Int) = d := ⟨_, rfl⟩
    have HD : Hid (([.int .u8 d] : List Value) = bv [hx u.toNat]) := Lib.hid (by rw [← hd]; rfl)
    obtain ⟨W2, hW2⟩ : ∃ X, X = W1.setCell ⟨w.heap.size, 64, none⟩ (.int .u8 d) := ⟨_, rfl⟩
    have HB2 := Lib.hid (show Below w.heap.size w W2 by rw [hW2]; exact HB1.out.setCell (Nat.le_refl _) _)
    have HO2 := Lib.hid (own_belowW HO.out HB2.out)
    have HC2 : Hid (∀ j v, ([.int .u8 d] : List Value)[j]? = some v → W2.cell? ((⟨w.heap.size, 64, none⟩ : Addr).add j) = some v) := Lib.hid (fun j v hj => by
      cases j with
      | succ j => simp at hj
      | zero =>
        simp only [List.getElem?_cons_zero, Option.some.injEq] at hj
        subst hj
        have h := HBX.out.put 64 (.int .u8 d)
        rw [← hW2] at h
        exact h.cell (i := 64) (by simp))
    have HW2 := Lib.hid hW2
    clear hW2 
    go_upto_region 29 with fail
    rw [← HW2.out]
    go_wp2_with (at_builtin; refine wpList_app_cells _ rfl (.tmp 95) (.tmp 97) 39 rfl base 5 i0 (.int .u8 0) Tryd.underlying39 hi hz0 hz1 hz2 rfl (.slice A n c) n (bv out) rfl HO2.out ⟨w.heap.size, 64, none⟩ 1 1 [.int .u8 d] rfl rfl HC2.out (by omega) (Nat.le_trans hb HB2.out.size) (bv [hx u.toNat]) HD.out (bv_one _) ?_; intro A2 c2 w2 hown2 happ2; rw [← bv_append] at hown2)
    go_ret2
    exact ⟨A2, _, c2, rfl, hown2, ((HB2.out.mono hb).trans (happ2.below (Nat.le_trans hb HB2.out.size) (fun g hg => (HO2.out.lt g hg).1)))⟩
/-- strconv.AppendUint at base 16, one digit. -/
theorem appendHex_any (u : Int) (hu0 : 0 ≤ u) (hu : u < 16) (base n c : Nat) (A : Option Addr) (out : List UInt8) (w : World) (hown : w.ownsRow base 5 1 (.slice A n c) n (bv out)) (hb : base ≤ w.heap.size) (hn : n ≤ 536870912) (ht : TabB base w) :
    Calls Tryd.prog 98 #[.slice A n c, .int .u64 u, .int .i64 16] w (AppC base w (out ++ [hx u.toNat])) := by
  have HF := Lib.hid (fbits_any u hu0 hu base n c A out w hown hb hn ht)
  clear hown ht
  have HI : Hid (Calls Tryd.prog 112 #[.slice A n c, .int .u64 u, .int .i64 16] w (AppC base w (out ++ [hx u.toNat]))) := Lib.hid (by
    go_enter Tryd.func112, Tryd.ntmps112
    go_wp2_with (go_at_call 119; refine HF.out.mono ?_; rintro e w1 ⟨A1, n1, c1, rfl, hown1, hb1⟩)
    go_ret
    exact ⟨A1, n1, c1, rfl, hown1, hb1⟩)
  go_enter Tryd.func98, Tryd.ntmps98
  go_wp2_with (go_at_call 112; refine HI.out.mono ?_; rintro e w1 ⟨A1, n1, c1, rfl, hown1, hb1⟩)
  go_ret
  exact ⟨A1, n1, c1, rfl, hown1, hb1⟩
end Go.Proofs.YtacnpligpbiamaaDoor

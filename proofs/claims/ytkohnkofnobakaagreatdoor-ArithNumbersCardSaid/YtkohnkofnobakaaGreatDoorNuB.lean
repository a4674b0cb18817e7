/- strings.Split: the library's contract, laid at this program. arith.Split at a separator that is not empty; the laws' sanity check. Quotients and remainders in 64 bits, plain. ArithNumbers answers true for every two ints. -/
import Derived.Shelf.LaysM
import Derived.Shelf.Strings.Split
import Derived.Ground.NamesProg
import Derived.Test.YtkohnkofnobakaaGreatDoorBox
import Derived.Test.YtkohnkofnobakaaGreatDoorRows
import Derived.Test.YtkohnkofnobakaaGreatDoorVal
import Derived.Test.YtkohnkofnobakaaGreatDoorArB
import Derived.Test.YtkohnkofnobakaaGreatDoorStrs
import Derived.WalkKit
import Derived.Test.YtkohnkofnobakaaGreatDoorSame
import Derived.Test.YtkohnkofnobakaaGreatDoorCalm
set_option linter.unusedVariables false
set_option linter.unusedSimpArgs false
namespace Go.Proofs
open Go.Shelf Go.RowKit
def Tryz.spl_ren : Go.Shelf.Ren := ⟨fun | 146 => 68 | 221 => 99 | 268 => 129 | 138 => 130 | 143 => 131 | 195 => 169 | 197 => 170 | 218 => 171 | 219 => 172 | 260 => 192 | 217 => 193 | 225 => 194 | 224 => 195 | 267 => 196 | 266 => 219 | 314 => 220 | n => n, fun | 9 => 9 | 31 => 23 | 3 => 3 | 4 => 4 | 0 => 0 | 105 => 169 | 21 => 21 | 5 => 5 | 46 => 111 | 119 => 211 | 139 => 214 | 138 => 213 | 146 => 187 | 51 => 186 | n => n, fun | 1 => 0 | 3 => 1 | 4 => 2 | n => n⟩
theorem Tryz.spl : Go.Proofs.LaysM.n146 Tryz.prog Tryz.spl_ren := {
  mixed := by kernel_rfl
  f138 := Tryz.func130.trans (congrArg some (by kernel_rfl))
  f143 := Tryz.func131.trans (congrArg some (by kernel_rfl))
  f146 := Tryz.func68.trans (congrArg some (by kernel_rfl))
  f195 := Tryz.func169.trans (congrArg some (by kernel_rfl))
  f197 := Tryz.func170.trans (congrArg some (by kernel_rfl))
  f217 := Tryz.func193.trans (congrArg some (by kernel_rfl))
  f218 := Tryz.func171.trans (congrArg some (by kernel_rfl))
  f219 := Tryz.func172.trans (congrArg some (by kernel_rfl))
  f221 := Tryz.func99.trans (congrArg some (by kernel_rfl))
  f224 := Tryz.func195.trans (congrArg some (by kernel_rfl))
  f225 := Tryz.func194.trans (congrArg some (by kernel_rfl))
  f260 := Tryz.func192.trans (congrArg some (by kernel_rfl))
  f266 := Tryz.func219.trans (congrArg some (by kernel_rfl))
  f267 := Tryz.func196.trans (congrArg some (by kernel_rfl))
  f268 := Tryz.func129.trans (congrArg some (by kernel_rfl))
  f314 := Tryz.func220.trans (congrArg some (by kernel_rfl))
  t0 := Tryz.underlying0
  a0 := Tryz.isAgg0
  z0 := Tryz.sizeOf0
  v0 := Tryz.zeroValue0
  t3 := Tryz.underlying3
  a3 := Tryz.isAgg3
  z3 := Tryz.sizeOf3
  v3 := Tryz.zeroValue3
  t4 := Tryz.underlying4
  a4 := Tryz.isAgg4
  z4 := Tryz.sizeOf4
  v4 := Tryz.zeroValue4
  t5 := Tryz.underlying5
  a5 := Tryz.isAgg5
  z5 := Tryz.sizeOf5
  v5 := Tryz.zeroValue5
  t9 := Tryz.underlying9
  a9 := Tryz.isAgg9
  z9 := Tryz.sizeOf9
  v9 := Tryz.zeroValue9
  t21 := Tryz.underlying21
  a21 := Tryz.isAgg21
  z21 := Tryz.sizeOf21
  v21 := Tryz.zeroValue21
  t31 := Tryz.underlying23
  a31 := Tryz.isAgg23
  z31 := Tryz.sizeOf23
  v31 := Tryz.zeroValue23
  t46 := Tryz.underlying111
  a46 := Tryz.isAgg111
  z46 := Tryz.sizeOf111
  v46 := Tryz.zeroValue111
  t51 := Tryz.underlying186
  a51 := Tryz.isAgg186
  z51 := Tryz.sizeOf186
  v51 := Tryz.zeroValue186
  t105 := Tryz.underlying169
  a105 := Tryz.isAgg169
  z105 := Tryz.sizeOf169
  v105 := Tryz.zeroValue169
  t119 := Tryz.underlying211
  a119 := Tryz.isAgg211
  z119 := Tryz.sizeOf211
  t138 := Tryz.underlying213
  a138 := Tryz.isAgg213
  z138 := Tryz.sizeOf213
  v138 := Tryz.zeroValue213
  t139 := Tryz.underlying214
  a139 := Tryz.isAgg214
  z139 := Tryz.sizeOf214
  v139 := Tryz.zeroValue214
  t146 := Tryz.underlying187
  a146 := Tryz.isAgg187
  z146 := Tryz.sizeOf187
  v146 := Tryz.zeroValue187
  g1 := by kernel_rfl
  g3 := by kernel_rfl
  g4 := by kernel_rfl
  i0 := by kernel_rfl
  i3 := by kernel_rfl
  i4 := by kernel_rfl
  i5 := by kernel_rfl
  i9 := by kernel_rfl
  i21 := by kernel_rfl
  i31 := by kernel_rfl
  i46 := by kernel_rfl
  i51 := by kernel_rfl
  i105 := by kernel_rfl
  i138 := by kernel_rfl
  i139 := by kernel_rfl
  i146 := by kernel_rfl
  m1 := by kernel_rfl
  s1_3 := fun w h => Go.Proofs.cell_of_shapedOpen_int (zero := #[.int .i64 0]) (t := 3) h (of_decide_eq_true (by kernel_rfl)) (by kernel_rfl) rfl (by kernel_rfl) (by kernel_rfl) Tryz.underlying3
  m3 := by kernel_rfl
  m4 := by kernel_rfl }


end Go.Proofs
namespace Go.Proofs.YtkohnkofnobakaaGreatDoor
open Go.RowKit
/-- internal/bytealg.MaxLen holds some int. -/
def MaxL (w : World) : Prop := ∃ m, w.cell? ⟨0, 0, none⟩ = some (.int .i64 m)
theorem MaxL.next {w W : World} (h : MaxL w) (hb : Below w.heap.size w W) : MaxL W := by
  obtain ⟨m, hm⟩ := h
  have hl := World.block_lt_of_cell? w _ hm
  exact ⟨m, (hb.cell (p := ⟨0, 0, none⟩) hl).trans hm⟩
theorem maxl_shaped {w : World} (h : w.ShapedOpen Tryz.prog) : MaxL w := Tryz.spl.s1_3 w h
/-- The pieces of a string between the occurrences of another. -/
def pieces (s sep : ByteArray) : List ByteArray := Lib.splitB sep 0 (Lib.countB s sep) s
theorem pieces_len (s sep : ByteArray) (h : 1 ≤ sep.size) : (pieces s sep).length = Lib.countB s sep + 1 := Lib.splitB_all sep h 0 _ s rfl
theorem split_lib (s sep : ByteArray) (w : World) (hm : MaxL w) (hs : s.size < 4294967281) (h1 : 1 ≤ sep.size) :
    Calls Tryz.prog 68 #[.string s, .string sep] w fun e w' => e = .returned (.slice (some ⟨w.heap.size, 0, none⟩) (pieces s sep).length (pieces s sep).length) ∧ w' = w.alloc (.cells (kv (pieces s sep)).toArray 9) := by
  obtain ⟨m, hm⟩ := hm
  rw [pieces_len s sep h1]
  exact Go.Proofs.Any.strings_Split { Tryz.spl with } Tryz.spl.i9 s sep m w hs hm h1
end Go.Proofs.YtkohnkofnobakaaGreatDoor
namespace Go.Proofs.YtkohnkofnobakaaGreatDoor
open Go.RowKit Go.Sort
/-- What Split hands back. -/
def SplitPost (l : List ByteArray) (ok : Bool) (w : World) (e : Ending) (w' : World) : Prop :=
  Below w.heap.size w w' ∧ ∃ A c, e = .returned (.tuple #[.slice A l.length c, .bool ok]) ∧ Rs w' (fun b => w.heap.size ≤ b ∧ b < w'.heap.size) A (kv l) ∧ (A = none → c = 0) ∧ l.length ≤ c ∧ c ≤ maxLen
theorem rs_newbox {w : World} {t : TypeId} {l : List ByteArray} : Rs (w.alloc (.cells (kv l).toArray t)) (fun b => w.heap.size ≤ b ∧ b < (w.alloc (.cells (kv l).toArray t)).heap.size) (some ⟨w.heap.size, 0, none⟩) (kv l) := by
  intro j u hj
  refine ⟨w.heap.size, 0, rfl, ⟨Nat.le_refl _, by simp⟩, ?_⟩
  rw [Nat.zero_add]
  exact (Box.laid w t (kv l).toArray).cell (by simpa using hj)
theorem splitB_le (s sep : ByteArray) (h : 1 ≤ sep.size) : (pieces s sep).length ≤ s.size + 1 := by
  rw [pieces_len s sep h]
  have := Lib.countB_le sep h s.size s (Nat.le_refl _)
  omega
set_option maxHeartbeats 1000000 in
set_option maxRecDepth 100000 in
theorem split_sep (s sep : ByteArray) (w : World) (hm : MaxL w) (hs : s.size ≤ 1000000) (hsep : sep.size ≤ 1000000) (h1 : 1 ≤ sep.size) (ho : okS s = true) (hp : okS sep = true) (hne : s.size ≠ 0) :
    Calls Tryz.prog 25 #[.string s, .string sep] w (SplitPost (pieces s sep) true w) := by
  have hv := Lib.hid (fun W => val_any s (by unfold maxLen; omega) W)
  have hu := Lib.hid (fun W => val_any sep (by unfold maxLen; omega) W)
  have e1 : (runes s.data.toList).isSome = true := ho
  have e2 : (runes sep.data.toList).isSome = true := hp
  rw [e1] at hv
  rw [e2] at hu
  have hl := Lib.hid (split_lib s sep w hm (by omega) h1)
  have hle := splitB_le s sep h1
  have hE : s.toList.isEmpty = false := by
    cases h : s.toList.isEmpty with
    | false => rfl
    | true =>
      rw [Lib.toList_data] at h
      have h3 : s.data.toList = [] := by simpa using h
      exact absurd (by rw [Lib.size_eq, h3]; rfl) hne
  generalize pieces s sep = l at hl hle ⊢
  clear e1 e2 ho hp
  go_enter Tryz.func25, Tryz.ntmps25
  go_wp2_with (first
    | (go_at_call 67; with_reducible refine (hv.out _).mono ?_; rintro e1 w1 ⟨rfl, rfl⟩)
    | (go_at_call 67; with_reducible refine (hu.out _).mono ?_; rintro e2 w2 ⟨rfl, rfl⟩)
    | (go_at_call 68; refine hl.out.mono ?_; rintro e3 w3 ⟨rfl, rfl⟩))
  go_ret2
  refine ⟨below1 _ _, _, _, rfl, rs_newbox, (fun h => by cases h), Nat.le_refl _, by unfold maxLen; omega⟩
theorem below_dn (w : World) (n : Nat) : Below w.heap.size w (w.drewN n) := ⟨rfl, rfl, rfl, Nat.le_refl _, fun _ _ => rfl⟩
/-- A number that a call hands back. -/
theorem num_open {f : FuncId} {args : Array Value} {w : World} {x err : Int} (h : Calls Tryz.prog f args w (RetPost (numV x) err w)) :
    Calls Tryz.prog f args w fun e w' => ∃ (A : Option Addr) (a : Nat) (B : Option Addr) (b : Nat), e = .returned (.tuple #[.agg #[.int .i64 3, .int .i64 x, .string ⟨#[]⟩, .slice A 0 a, .slice B 0 b], .int .i64 err]) ∧ Below w.heap.size w w' ∧
      Lies w' (· < w'.heap.size) (numV x) [.int .i64 3, .int .i64 x, .string ⟨#[]⟩, .slice A 0 a, .slice B 0 b] := by
  refine h.mono fun e w' hp => ?_
  obtain ⟨hb, ds, rfl, hl⟩ := hp
  have hl2 := hl
  unfold numV at hl2
  obtain ⟨A, a, B, b, xs, rfl, _⟩ := lies_open hl2
  exact ⟨A, a, B, b, rfl, hb, hl.move fun b hb => ⟨hb.2, rfl⟩⟩
theorem nb_add (n n2 : Int) (cs ds : List Value) (w : World) (h : Lies w (· < w.heap.size) (numV n) cs) (h' : Lies w (· < w.heap.size) (numV n2) ds) : Calls Tryz.prog 18 #[.string ⟨#[43]⟩, .agg cs.toArray, .agg ds.toArray] w (RetPost (numV (wrap64 (n + n2))) 0 w) :=
  bin_add (numV n) (numV n2) cs ds w h h' (valid_num _) (valid_num _) _ _ fun W hW => by
    have h1 := h
    have h2 := h'
    unfold numV at h1 h2
    obtain ⟨A, a, B, b, xs, rfl, _⟩ := lies_open h1
    obtain ⟨A2, a2, B2, b2, xs2, rfl, _⟩ := lies_open h2
    exact add_num n n2 _ _ A B A2 B2 _ a _ b _ a2 _ b2 W
theorem nb_sub (n n2 : Int) (cs ds : List Value) (w : World) (h : Lies w (· < w.heap.size) (numV n) cs) (h' : Lies w (· < w.heap.size) (numV n2) ds) : Calls Tryz.prog 18 #[.string ⟨#[45]⟩, .agg cs.toArray, .agg ds.toArray] w (RetPost (numV (wrap64 (n - n2))) 0 w) :=
  bin_sub (numV n) (numV n2) cs ds w h h' (valid_num _) (valid_num _) _ _ fun W hW => by
    have h1 := h
    have h2 := h'
    unfold numV at h1 h2
    obtain ⟨A, a, B, b, xs, rfl, _⟩ := lies_open h1
    obtain ⟨A2, a2, B2, b2, xs2, rfl, _⟩ := lies_open h2
    exact sub_num n n2 _ _ A B A2 B2 _ a _ b _ a2 _ b2 W
theorem nb_mul (n n2 : Int) (cs ds : List Value) (w : World) (h : Lies w (· < w.heap.size) (numV n) cs) (h' : Lies w (· < w.heap.size) (numV n2) ds) : Calls Tryz.prog 18 #[.string ⟨#[42]⟩, .agg cs.toArray, .agg ds.toArray] w (RetPost (numV (wrap64 (n * n2))) 0 w) :=
  bin_mul (numV n) (numV n2) cs ds w h h' (valid_num _) (valid_num _) _ _ fun W hW => by
    have h1 := h
    have h2 := h'
    unfold numV at h1 h2
    obtain ⟨A, a, B, b, xs, rfl, _⟩ := lies_open h1
    obtain ⟨A2, a2, B2, b2, xs2, rfl, _⟩ := lies_open h2
    exact mul_num n n2 _ _ A B A2 B2 _ a _ b _ a2 _ b2 W
theorem nb_div (n n2 : Int) (h0 : n2 ≠ 0) (cs ds : List Value) (w : World) (h : Lies w (· < w.heap.size) (numV n) cs) (h' : Lies w (· < w.heap.size) (numV n2) ds) : Calls Tryz.prog 18 #[.string ⟨#[47]⟩, .agg cs.toArray, .agg ds.toArray] w (RetPost (numV (wrap64 (Int.tdiv n n2))) 0 w) :=
  bin_div (numV n) (numV n2) cs ds w h h' (valid_num _) (valid_num _) _ _ fun W hW => by
    have h1 := h
    have h2 := h'
    unfold numV at h1 h2
    obtain ⟨A, a, B, b, xs, rfl, _⟩ := lies_open h1
    obtain ⟨A2, a2, B2, b2, xs2, rfl, _⟩ := lies_open h2
    exact div_num n n2 _ _ A B A2 B2 _ a _ b _ a2 _ b2 W h0
theorem nb_rem (n n2 : Int) (h0 : n2 ≠ 0) (cs ds : List Value) (w : World) (h : Lies w (· < w.heap.size) (numV n) cs) (h' : Lies w (· < w.heap.size) (numV n2) ds) : Calls Tryz.prog 18 #[.string ⟨#[37]⟩, .agg cs.toArray, .agg ds.toArray] w (RetPost (numV (Int.tmod n n2)) 0 w) :=
  bin_rem (numV n) (numV n2) cs ds w h h' (valid_num _) (valid_num _) _ _ fun W hW => by
    have h1 := h
    have h2 := h'
    unfold numV at h1 h2
    obtain ⟨A, a, B, b, xs, rfl, _⟩ := lies_open h1
    obtain ⟨A2, a2, B2, b2, xs2, rfl, _⟩ := lies_open h2
    exact rem_num n n2 _ _ A B A2 B2 _ a _ b _ a2 _ b2 W h0
theorem msg_zero (w : World) : Calls Tryz.prog 28 #[.int .i64 13] w fun e w' => e = .returned (.string ⟨#[100, 105, 118, 105, 115, 105, 111, 110, 32, 98, 121, 32, 122, 101, 114, 111]⟩) ∧ w' = w := by
  go_enter Tryz.func28, Tryz.ntmps28
  go_wp2_with fail
  go_ret
  exact ⟨rfl, rfl⟩
theorem pieces_ab : pieces ⟨#[97, 44, 98]⟩ ⟨#[44]⟩ = [⟨#[97]⟩, ⟨#[98]⟩] := by decide +kernel
set_option maxHeartbeats 2000000 in
set_option maxRecDepth 100000 in
theorem awake6_any (w : World) (hm : MaxL w) : Calls Tryz.prog 16 #[] w fun e w' => e = .returned (.bool true) ∧ Below w.heap.size w w' := by
  have hn := Lib.hid (fun (n : Int) W => num_any n W)
  have hD := Lib.hid (fun cs ds W h h' => num_open (nb_div (-7) 2 (by decide) cs ds W h h'))
  have hR := Lib.hid (fun cs ds W h h' => num_open (nb_rem (-7) 2 (by decide) cs ds W h h'))
  have hS := Lib.hid (fun W (hW : Below w.heap.size w W) => split_sep ⟨#[97, 44, 98]⟩ ⟨#[44]⟩ W (hm.next hW) (by decide) (by decide) (by decide) (by decide +kernel) (by decide +kernel) (by decide))
  rw [pieces_ab] at hS
  have ed : wrap64 (Int.tdiv (-7) 2) = -3 := by decide +kernel
  have er : Int.tmod (-7) 2 = -1 := by decide +kernel
  rw [ed] at hD
  rw [er] at hR
  clear ed er hm
  go_enter Tryz.func16, Tryz.ntmps16
  go_wp2_with fail
  refine (hn.out _ _).mono ?_
  rintro e1 w1 ⟨rfl, hb1⟩
  go_wp2_with fail
  refine (hn.out _ _).mono ?_
  rintro e2 w2 ⟨rfl, hb2⟩
  have HB2 := Lib.hid (chain hb1 hb2)
  clear hb1 hb2
  go_wp2_with fail
  refine (hD.out [.int .i64 3, .int .i64 (-7), .string ⟨#[]⟩, .slice none 0 0, .slice none 0 0] [.int .i64 3, .int .i64 2, .string ⟨#[]⟩, .slice none 0 0, .slice none 0 0] _ (lies_numv _ _ _) (lies_numv _ _ _)).mono ?_
  rintro e3 w3 ⟨A, a, B, b, rfl, hb3, -⟩
  have HB3 := Lib.hid (chain HB2.out hb3)
  have HX := Lib.hid (Box.laid w3 26 #[.int .i64 3, .int .i64 (-3), .string ⟨#[]⟩, .slice A 0 a, .slice B 0 b])
  clear hb3 HB2
  go_wp2_with fail
  refine (hn.out _ _).mono ?_
  rintro e4 w4 ⟨rfl, hb4⟩
  go_wp2_with fail
  refine (hn.out _ _).mono ?_
  rintro e5 w5 ⟨rfl, hb5⟩
  have HB5 := Lib.hid (chain HB3.out (chain (below1 w3 _) (chain hb4 hb5)))
  have HX5 := Lib.hid (HX.out.below (chain hb4 hb5) HX.out.lt)
  clear hb4 hb5 HX HB3
  go_wp2_with fail
  refine (hR.out [.int .i64 3, .int .i64 (-7), .string ⟨#[]⟩, .slice none 0 0, .slice none 0 0] [.int .i64 3, .int .i64 2, .string ⟨#[]⟩, .slice none 0 0, .slice none 0 0] _ (lies_numv _ _ _) (lies_numv _ _ _)).mono ?_
  rintro e6 w6 ⟨A2, a2, B2, b2, rfl, hb6, -⟩
  have HB6 := Lib.hid (chain HB5.out (chain hb6 (below1 w6 (.cells #[.int .i64 3, .int .i64 (-1), .string ⟨#[]⟩, .slice A2 0 a2, .slice B2 0 b2] 26))))
  have HX6 := Lib.hid ((HX5.out.below hb6 HX5.out.lt).alloc (.cells #[.int .i64 3, .int .i64 (-1), .string ⟨#[]⟩, .slice A2 0 a2, .slice B2 0 b2] 26))
  have HY6 := Lib.hid (Box.laid w6 26 #[.int .i64 3, .int .i64 (-1), .string ⟨#[]⟩, .slice A2 0 a2, .slice B2 0 b2])
  clear hb6 HX5 HB5
  go_wp2_with fail
  refine (hS.out _ HB6.out).mono ?_
  rintro e7 w7 ⟨hb7, A3, c3, rfl, hr3, -, -, -⟩
  have HB7 := Lib.hid (chain HB6.out hb7)
  have HX7 := Lib.hid (HX6.out.below hb7 HX6.out.lt)
  have HY7 := Lib.hid (HY6.out.below hb7 HY6.out.lt)
  have HR7 := Lib.hid hr3
  clear hb7 HX6 HY6 HB6 hr3
  obtain ⟨x0, x1, x2, x3, x4⟩ := box5 HX7.out
  obtain ⟨y0, y1, y2, y3, y4⟩ := box5 HY7.out
  go_wp2_with fail
  refine (strings_any A3 (some ⟨w7.heap.size, 0, none⟩) c3 2 [⟨#[97]⟩, ⟨#[98]⟩] [⟨#[97]⟩, ⟨#[98]⟩] (fun b => w6.heap.size ≤ b) (fun b => b = w7.heap.size) _ (HR7.out.move fun b hb => ⟨by have := hb.1; simp at this; omega, Below.heap_alloc _ _ _ (by have := hb.2; omega)⟩) (fun j u hj => ⟨w7.heap.size, 0, rfl, rfl, by rw [Nat.zero_add]; exact (Box.laid w7 _ _).cell (by simpa [kv] using hj)⟩) (by decide)).mono ?_
  rintro e8 w8 ⟨rfl, m8, rfl⟩
  go_wp2_with (go_at_call 28; refine (msg_zero _).mono ?_; rintro e9 w9 ⟨rfl, rfl⟩)
  go_ret
  exact ⟨rfl, chain HB7.out (chain (below1 w7 _) (below_dn _ _))⟩
end Go.Proofs.YtkohnkofnobakaaGreatDoor
namespace Go.Proofs.YtkohnkofnobakaaGreatDoor
open Go.RowKit
theorem w64_shift (x j : Int) : wrap64 (x + 18446744073709551616 * j) = wrap64 x := by unfold wrap64; omega
theorem w64_off (x : Int) : ∃ j, wrap64 x = x + 18446744073709551616 * j := ⟨-((x + 9223372036854775808) / 18446744073709551616), by unfold wrap64; omega⟩
theorem w64_id {x : Int} (h : -9223372036854775808 ≤ x ∧ x ≤ 9223372036854775807) : wrap64 x = x := by unfold wrap64; omega
theorem num_back {n m : Int} (h : -9223372036854775808 ≤ n ∧ n ≤ 9223372036854775807) : wrap64 (wrap64 (wrap64 (n.tdiv m) * m) + n.tmod m) = n := by
  obtain ⟨j, hj⟩ := w64_off (n.tdiv m)
  have h1 : wrap64 (n.tdiv m) * m = n.tdiv m * m + 18446744073709551616 * (j * m) := by rw [hj, Int.add_mul, Int.mul_assoc]
  rw [h1, w64_shift]
  obtain ⟨k, hk⟩ := w64_off (n.tdiv m * m)
  have h2 : wrap64 (n.tdiv m * m) + n.tmod m = n + 18446744073709551616 * k := by
    have := Int.tdiv_mul_add_tmod n m
    rw [hk]
    omega
  rw [h2, w64_shift, w64_id h]
theorem num_sign (n m : Int) : decide (n.tmod m < 0) = (decide (n < 0) && (n.tmod m != 0)) := by
  by_cases h : n < 0
  · have h1 : 0 ≤ (-n).tmod m := Int.tmod_nonneg m (by omega)
    rw [Int.neg_tmod] at h1
    by_cases h2 : n.tmod m = 0
    · simp [h2]
    · have h3 : n.tmod m < 0 := by omega
      simp [h, h2, h3]
  · have h1 : 0 ≤ n.tmod m := Int.tmod_nonneg m (by omega)
    have h3 : ¬ n.tmod m < 0 := by omega
    simp [h, h3]
theorem num_neg1 (n : Int) : wrap64 (n.tdiv (-1)) = wrap64 (-n) ∧ n.tmod (-1) = 0 := by
  refine ⟨?_, ?_⟩
  · rw [Int.tdiv_neg, Int.tdiv_one]
  · rw [Int.tmod_neg, Int.tmod_one]
end Go.Proofs.YtkohnkofnobakaaGreatDoor
namespace Go.Proofs.YtkohnkofnobakaaGreatDoor
open Go.RowKit Go.Sort
theorem same_refl (v : V) : same v v = true := (same_iff v v).2 rfl
/-- keep.Zero. -/
theorem zero_any (v : V) (cs : List Value) (w : World) (h : Lies w (· < w.heap.size) v cs) : Calls Tryz.prog 31 #[.agg cs.toArray] w fun e w' => e = .returned (.bool (same v vnull)) ∧ Below w.heap.size w w' := by
  have HS := Lib.hid (fun W (hW : Below w.heap.size w W) => same_any v vnull cs [.int .i64 0, .int .i64 0, .string ⟨#[]⟩, .slice none 0 0, .slice none 0 0] W (below_lies hW h) (lies_null _ _))
  obtain ⟨k, n, s, ks, es⟩ := v
  obtain ⟨A, a, B, b, xs, rfl, _⟩ := lies_open h
  clear h
  generalize same (V.mk k n s ks es) vnull = r at HS ⊢
  generalize ks.length = l1 at *
  generalize es.length = l2 at *
  show Calls _ _ #[.agg #[.int .i64 k, .int .i64 n, .string s, .slice A l1 a, .slice B l2 b]] w _
  go_enter Tryz.func31, Tryz.ntmps31
  go_wp2_with fail
  refine (HS.out _ (below1 _ _)).mono ?_
  rintro e1 w1 ⟨rfl, hb1⟩
  go_wp2_with fail
  go_ret
  exact ⟨rfl, chain (below1 w _) hb1⟩
theorem nb_div0 (n m : Int) (h0 : m = 0) (cs ds : List Value) (w : World) (h : Lies w (· < w.heap.size) (numV n) cs) (h' : Lies w (· < w.heap.size) (numV m) ds) : Calls Tryz.prog 18 #[.string ⟨#[47]⟩, .agg cs.toArray, .agg ds.toArray] w (RetPost vnull 13 w) := by
  subst h0
  exact bin_div (numV n) (numV 0) cs ds w h h' (valid_num _) (valid_num _) _ _ fun W hW => by
    have h1 := h
    have h2 := h'
    unfold numV at h1 h2
    obtain ⟨A, a, B, b, xs, rfl, _⟩ := lies_open h1
    obtain ⟨A2, a2, B2, b2, xs2, rfl, _⟩ := lies_open h2
    exact div_zero n _ _ A B A2 B2 _ a _ b _ a2 _ b2 W
theorem nb_rem0 (n m : Int) (h0 : m = 0) (cs ds : List Value) (w : World) (h : Lies w (· < w.heap.size) (numV n) cs) (h' : Lies w (· < w.heap.size) (numV m) ds) : Calls Tryz.prog 18 #[.string ⟨#[37]⟩, .agg cs.toArray, .agg ds.toArray] w (RetPost vnull 13 w) := by
  subst h0
  exact bin_rem (numV n) (numV 0) cs ds w h h' (valid_num _) (valid_num _) _ _ fun W hW => by
    have h1 := h
    have h2 := h'
    unfold numV at h1 h2
    obtain ⟨A, a, B, b, xs, rfl, _⟩ := lies_open h1
    obtain ⟨A2, a2, B2, b2, xs2, rfl, _⟩ := lies_open h2
    exact rem_zero n _ _ A B A2 B2 _ a _ b _ a2 _ b2 W
/-- A null that a call hands back. -/
theorem null_open {f : FuncId} {args : Array Value} {w : World} {err : Int} (h : Calls Tryz.prog f args w (RetPost vnull err w)) :
    Calls Tryz.prog f args w fun e w' => ∃ (A : Option Addr) (a : Nat) (B : Option Addr) (b : Nat), e = .returned (.tuple #[.agg #[.int .i64 0, .int .i64 0, .string ⟨#[]⟩, .slice A 0 a, .slice B 0 b], .int .i64 err]) ∧ Below w.heap.size w w' ∧
      Lies w' (· < w'.heap.size) vnull [.int .i64 0, .int .i64 0, .string ⟨#[]⟩, .slice A 0 a, .slice B 0 b] := by
  refine h.mono fun e w' hp => ?_
  obtain ⟨hb, ds, rfl, hl⟩ := hp
  have hl2 := hl
  unfold vnull at hl2
  obtain ⟨A, a, B, b, xs, rfl, _⟩ := lies_open hl2
  exact ⟨A, a, B, b, rfl, hb, hl.move fun b hb => ⟨hb.2, rfl⟩⟩
theorem neg_num (n : Int) (cs : List Value) (w : World) (h : Lies w (· < w.heap.size) (numV n) cs) : Calls Tryz.prog 23 #[.agg cs.toArray] w (RetPost (numV (wrap64 (-n))) 0 w) := by
  have h1 := neg_any (numV n) cs w h
  have e : negR (numV n) = (numV (wrap64 (-n)), 0) := by
    unfold negR
    rw [if_pos (valid_num n), if_pos (show kd (numV n) = 3 from rfl)]
    rfl
  rw [e] at h1
  exact h1
set_option maxHeartbeats 8000000 in
set_option maxRecDepth 100000 in
theorem arithNumbers_walk (n m : Int) (w : World) (hn : -9223372036854775808 ≤ n ∧ n ≤ 9223372036854775807) (hm : -9223372036854775808 ≤ m ∧ m ≤ 9223372036854775807) (hml : MaxL w) :
    Calls Tryz.prog 6 #[.int .i64 n, .int .i64 m] w fun e w' => e = .returned (.bool true) ∧ Below w.heap.size w w' := by
  have haw := Lib.hid (fun W (hW : Below w.heap.size w W) => awake6_any W (hml.next hW))
  have hnm := Lib.hid (fun (n : Int) W => num_any n W)
  have hA := Lib.hid (fun cs ds W h h' => num_open (nb_add n m cs ds W h h'))
  have hS := Lib.hid (fun cs ds W h h' => num_open (nb_sub n m cs ds W h h'))
  have hM := Lib.hid (fun cs ds W h h' => num_open (nb_mul n m cs ds W h h'))
  have hN := Lib.hid (fun cs W h => num_open (neg_num n cs W h))
  have f1 : ∀ x : Int, (x != x) = false := fun x => by simp
  have f2 : ∀ x : Int, (x == x) = true := fun x => by simp
  have NB := Lib.hid (num_back (n := n) (m := m) hn)
  have NS := Lib.hid (num_sign n m)
  have N1 := Lib.hid (num_neg1 n)
  clear hn hm hml
  go_enter Tryz.func6, Tryz.ntmps6
  go_wp2_with fail
  refine (hnm.out _ _).mono ?_
  rintro e1 w1 ⟨rfl, hb1⟩
  go_wp2_with fail
  refine (hnm.out _ _).mono ?_
  rintro e2 w2 ⟨rfl, hb2⟩
  have HB2 := Lib.hid (chain hb1 (chain hb2 (below2 w2 (.cells #[.int .i64 3, .int .i64 n, .string ⟨#[]⟩, .slice none 0 0, .slice none 0 0] 26) (.cells #[.int .i64 3, .int .i64 m, .string ⟨#[]⟩, .slice none 0 0, .slice none 0 0] 26))))
  have HX2 := Lib.hid ((Box.laid w2 26 #[.int .i64 3, .int .i64 n, .string ⟨#[]⟩, .slice none 0 0, .slice none 0 0]).alloc (.cells #[.int .i64 3, .int .i64 m, .string ⟨#[]⟩, .slice none 0 0, .slice none 0 0] 26))
  have HY2 := Lib.hid (box_at (w2.alloc (.cells #[.int .i64 3, .int .i64 n, .string ⟨#[]⟩, .slice none 0 0, .slice none 0 0] 26)) 26 #[.int .i64 3, .int .i64 m, .string ⟨#[]⟩, .slice none 0 0, .slice none 0 0] (w2.heap.size + 1) (by simp))
  clear hb1 hb2
  obtain ⟨x0, x1, x2, x3, x4⟩ := box5 HX2.out
  obtain ⟨y0, y1, y2, y3, y4⟩ := box5 HY2.out
  go_wp2_with fail
  clear x0 x1 x2 x3 x4 y0 y1 y2 y3 y4
  refine (hA.out [.int .i64 3, .int .i64 n, .string ⟨#[]⟩, .slice none 0 0, .slice none 0 0] [.int .i64 3, .int .i64 m, .string ⟨#[]⟩, .slice none 0 0, .slice none 0 0] _ (lies_numv _ _ _) (lies_numv _ _ _)).mono ?_
  rintro e3 w3 ⟨A3, a3, B3, b3, rfl, hb3, hl3⟩
  have HB3 := Lib.hid (chain HB2.out (chain hb3 (below1 w3 (.cells #[.int .i64 3, .int .i64 (wrap64 (n + m)), .string ⟨#[]⟩, .slice A3 0 a3, .slice B3 0 b3] 26))))
  have HX3 := Lib.hid ((HX2.out.below hb3 HX2.out.lt).alloc (.cells #[.int .i64 3, .int .i64 (wrap64 (n + m)), .string ⟨#[]⟩, .slice A3 0 a3, .slice B3 0 b3] 26))
  have HY3 := Lib.hid ((HY2.out.below hb3 HY2.out.lt).alloc (.cells #[.int .i64 3, .int .i64 (wrap64 (n + m)), .string ⟨#[]⟩, .slice A3 0 a3, .slice B3 0 b3] 26))
  have HS3 := Lib.hid (Box.laid w3 26 #[.int .i64 3, .int .i64 (wrap64 (n + m)), .string ⟨#[]⟩, .slice A3 0 a3, .slice B3 0 b3])
  clear hb3 hl3 HB2 HX2 HY2
  obtain ⟨x0, x1, x2, x3, x4⟩ := box5 HX3.out
  obtain ⟨y0, y1, y2, y3, y4⟩ := box5 HY3.out
  go_wp2_with fail
  clear x0 x1 x2 x3 x4 y0 y1 y2 y3 y4
  refine (hS.out [.int .i64 3, .int .i64 n, .string ⟨#[]⟩, .slice none 0 0, .slice none 0 0] [.int .i64 3, .int .i64 m, .string ⟨#[]⟩, .slice none 0 0, .slice none 0 0] _ (lies_numv _ _ _) (lies_numv _ _ _)).mono ?_
  rintro e4 w4 ⟨A4, a4, B4, b4, rfl, hb4, hl4⟩
  have HB4 := Lib.hid (chain HB3.out (chain hb4 (below1 w4 (.cells #[.int .i64 3, .int .i64 (wrap64 (n - m)), .string ⟨#[]⟩, .slice A4 0 a4, .slice B4 0 b4] 26))))
  have HX4 := Lib.hid ((HX3.out.below hb4 HX3.out.lt).alloc (.cells #[.int .i64 3, .int .i64 (wrap64 (n - m)), .string ⟨#[]⟩, .slice A4 0 a4, .slice B4 0 b4] 26))
  have HY4 := Lib.hid ((HY3.out.below hb4 HY3.out.lt).alloc (.cells #[.int .i64 3, .int .i64 (wrap64 (n - m)), .string ⟨#[]⟩, .slice A4 0 a4, .slice B4 0 b4] 26))
  have HS4 := Lib.hid ((HS3.out.below hb4 HS3.out.lt).alloc (.cells #[.int .i64 3, .int .i64 (wrap64 (n - m)), .string ⟨#[]⟩, .slice A4 0 a4, .slice B4 0 b4] 26))
  have HD4 := Lib.hid (Box.laid w4 26 #[.int .i64 3, .int .i64 (wrap64 (n - m)), .string ⟨#[]⟩, .slice A4 0 a4, .slice B4 0 b4])
  clear hb4 hl4 HB3 HX3 HY3 HS3
  obtain ⟨x0, x1, x2, x3, x4⟩ := box5 HX4.out
  obtain ⟨y0, y1, y2, y3, y4⟩ := box5 HY4.out
  go_wp2_with fail
  clear x0 x1 x2 x3 x4 y0 y1 y2 y3 y4
  refine (hM.out [.int .i64 3, .int .i64 n, .string ⟨#[]⟩, .slice none 0 0, .slice none 0 0] [.int .i64 3, .int .i64 m, .string ⟨#[]⟩, .slice none 0 0, .slice none 0 0] _ (lies_numv _ _ _) (lies_numv _ _ _)).mono ?_
  rintro e5 w5 ⟨A5, a5, B5, b5, rfl, hb5, hl5⟩
  have HB5 := Lib.hid (chain HB4.out (chain hb5 (below1 w5 (.cells #[.int .i64 3, .int .i64 (wrap64 (n * m)), .string ⟨#[]⟩, .slice A5 0 a5, .slice B5 0 b5] 26))))
  have HX5 := Lib.hid ((HX4.out.below hb5 HX4.out.lt).alloc (.cells #[.int .i64 3, .int .i64 (wrap64 (n * m)), .string ⟨#[]⟩, .slice A5 0 a5, .slice B5 0 b5] 26))
  have HY5 := Lib.hid ((HY4.out.below hb5 HY4.out.lt).alloc (.cells #[.int .i64 3, .int .i64 (wrap64 (n * m)), .string ⟨#[]⟩, .slice A5 0 a5, .slice B5 0 b5] 26))
  have HS5 := Lib.hid ((HS4.out.below hb5 HS4.out.lt).alloc (.cells #[.int .i64 3, .int .i64 (wrap64 (n * m)), .string ⟨#[]⟩, .slice A5 0 a5, .slice B5 0 b5] 26))
  have HD5 := Lib.hid ((HD4.out.below hb5 HD4.out.lt).alloc (.cells #[.int .i64 3, .int .i64 (wrap64 (n * m)), .string ⟨#[]⟩, .slice A5 0 a5, .slice B5 0 b5] 26))
  have HP5 := Lib.hid (Box.laid w5 26 #[.int .i64 3, .int .i64 (wrap64 (n * m)), .string ⟨#[]⟩, .slice A5 0 a5, .slice B5 0 b5])
  clear hb5 hl5 HB4 HX4 HY4 HS4 HD4
  obtain ⟨x0, x1, x2, x3, x4⟩ := box5 HX5.out
  obtain ⟨y0, y1, y2, y3, y4⟩ := box5 HY5.out
  go_wp2_with fail
  clear x0 x1 x2 x3 x4 y0 y1 y2 y3 y4
  refine (hN.out [.int .i64 3, .int .i64 n, .string ⟨#[]⟩, .slice none 0 0, .slice none 0 0] _ (lies_numv _ _ _)).mono ?_
  rintro e6 w6 ⟨A6, a6, B6, b6, rfl, hb6, hl6⟩
  have HB6 := Lib.hid (chain HB5.out (chain hb6 (below1 w6 (.cells #[.int .i64 3, .int .i64 (wrap64 (-n)), .string ⟨#[]⟩, .slice A6 0 a6, .slice B6 0 b6] 26))))
  have HX6 := Lib.hid ((HX5.out.below hb6 HX5.out.lt).alloc (.cells #[.int .i64 3, .int .i64 (wrap64 (-n)), .string ⟨#[]⟩, .slice A6 0 a6, .slice B6 0 b6] 26))
  have HY6 := Lib.hid ((HY5.out.below hb6 HY5.out.lt).alloc (.cells #[.int .i64 3, .int .i64 (wrap64 (-n)), .string ⟨#[]⟩, .slice A6 0 a6, .slice B6 0 b6] 26))
  have HS6 := Lib.hid ((HS5.out.below hb6 HS5.out.lt).alloc (.cells #[.int .i64 3, .int .i64 (wrap64 (-n)), .string ⟨#[]⟩, .slice A6 0 a6, .slice B6 0 b6] 26))
  have HD6 := Lib.hid ((HD5.out.below hb6 HD5.out.lt).alloc (.cells #[.int .i64 3, .int .i64 (wrap64 (-n)), .string ⟨#[]⟩, .slice A6 0 a6, .slice B6 0 b6] 26))
  have HP6 := Lib.hid ((HP5.out.below hb6 HP5.out.lt).alloc (.cells #[.int .i64 3, .int .i64 (wrap64 (-n)), .string ⟨#[]⟩, .slice A6 0 a6, .slice B6 0 b6] 26))
  have HG6 := Lib.hid (Box.laid w6 26 #[.int .i64 3, .int .i64 (wrap64 (-n)), .string ⟨#[]⟩, .slice A6 0 a6, .slice B6 0 b6])
  clear hb6 hl6 HB5 HX5 HY5 HS5 HD5 HP5
  obtain ⟨x0, x1, x2, x3, x4⟩ := box5 HX6.out
  obtain ⟨y0, y1, y2, y3, y4⟩ := box5 HY6.out
  obtain ⟨s0, s1, s2, s3, s4⟩ := box5 HS6.out
  obtain ⟨d0, d1, d2, d3, d4⟩ := box5 HD6.out
  obtain ⟨p0, p1, p2, p3, p4⟩ := box5 HP6.out
  obtain ⟨g0, g1, g2, g3, g4⟩ := box5 HG6.out
  by_cases h0 : m = 0
  · have hD := Lib.hid (fun cs ds W h h' => null_open (nb_div0 n m h0 cs ds W h h'))
    have hR := Lib.hid (fun cs ds W h h' => null_open (nb_rem0 n m h0 cs ds W h h'))
    have hmb : (m == 0) = true := by simpa using h0
    clear NB NS N1 h0
    go_wp2_with fail
    clear x0 x1 x2 x3 x4 y0 y1 y2 y3 y4 s0 s1 s2 s3 s4 d0 d1 d2 d3 d4 p0 p1 p2 p3 p4 g0 g1 g2 g3 g4
    refine (hD.out [.int .i64 3, .int .i64 n, .string ⟨#[]⟩, .slice none 0 0, .slice none 0 0] [.int .i64 3, .int .i64 m, .string ⟨#[]⟩, .slice none 0 0, .slice none 0 0] _ (lies_numv _ _ _) (lies_numv _ _ _)).mono ?_
    rintro e7 w7 ⟨A7, a7, B7, b7, rfl, hb7, hl7⟩
    have HB7 := Lib.hid (chain HB6.out (chain hb7 (below1 w7 (.cells #[.int .i64 0, .int .i64 (0), .string ⟨#[]⟩, .slice A7 0 a7, .slice B7 0 b7] 26))))
    have HX7 := Lib.hid ((HX6.out.below hb7 HX6.out.lt).alloc (.cells #[.int .i64 0, .int .i64 (0), .string ⟨#[]⟩, .slice A7 0 a7, .slice B7 0 b7] 26))
    have HY7 := Lib.hid ((HY6.out.below hb7 HY6.out.lt).alloc (.cells #[.int .i64 0, .int .i64 (0), .string ⟨#[]⟩, .slice A7 0 a7, .slice B7 0 b7] 26))
    have HS7 := Lib.hid ((HS6.out.below hb7 HS6.out.lt).alloc (.cells #[.int .i64 0, .int .i64 (0), .string ⟨#[]⟩, .slice A7 0 a7, .slice B7 0 b7] 26))
    have HD7 := Lib.hid ((HD6.out.below hb7 HD6.out.lt).alloc (.cells #[.int .i64 0, .int .i64 (0), .string ⟨#[]⟩, .slice A7 0 a7, .slice B7 0 b7] 26))
    have HP7 := Lib.hid ((HP6.out.below hb7 HP6.out.lt).alloc (.cells #[.int .i64 0, .int .i64 (0), .string ⟨#[]⟩, .slice A7 0 a7, .slice B7 0 b7] 26))
    have HG7 := Lib.hid ((HG6.out.below hb7 HG6.out.lt).alloc (.cells #[.int .i64 0, .int .i64 (0), .string ⟨#[]⟩, .slice A7 0 a7, .slice B7 0 b7] 26))
    have HQ7 := Lib.hid (Box.laid w7 26 #[.int .i64 0, .int .i64 (0), .string ⟨#[]⟩, .slice A7 0 a7, .slice B7 0 b7])
    have LHQ7 := Lib.hid (below_lies (below1 w7 (.cells #[.int .i64 0, .int .i64 (0), .string ⟨#[]⟩, .slice A7 0 a7, .slice B7 0 b7] 26)) hl7)
    clear hb7 hl7 HB6 HX6 HY6 HS6 HD6 HP6 HG6
    obtain ⟨x0, x1, x2, x3, x4⟩ := box5 HX7.out
    obtain ⟨y0, y1, y2, y3, y4⟩ := box5 HY7.out
    go_wp2_with fail
    clear x0 x1 x2 x3 x4 y0 y1 y2 y3 y4
    refine (hR.out [.int .i64 3, .int .i64 n, .string ⟨#[]⟩, .slice none 0 0, .slice none 0 0] [.int .i64 3, .int .i64 m, .string ⟨#[]⟩, .slice none 0 0, .slice none 0 0] _ (lies_numv _ _ _) (lies_numv _ _ _)).mono ?_
    rintro e8 w8 ⟨A8, a8, B8, b8, rfl, hb8, hl8⟩
    have HB8 := Lib.hid (chain HB7.out (chain hb8 (below1 w8 (.cells #[.int .i64 0, .int .i64 (0), .string ⟨#[]⟩, .slice A8 0 a8, .slice B8 0 b8] 26))))
    have HX8 := Lib.hid ((HX7.out.below hb8 HX7.out.lt).alloc (.cells #[.int .i64 0, .int .i64 (0), .string ⟨#[]⟩, .slice A8 0 a8, .slice B8 0 b8] 26))
    have HY8 := Lib.hid ((HY7.out.below hb8 HY7.out.lt).alloc (.cells #[.int .i64 0, .int .i64 (0), .string ⟨#[]⟩, .slice A8 0 a8, .slice B8 0 b8] 26))
    have HS8 := Lib.hid ((HS7.out.below hb8 HS7.out.lt).alloc (.cells #[.int .i64 0, .int .i64 (0), .string ⟨#[]⟩, .slice A8 0 a8, .slice B8 0 b8] 26))
    have HD8 := Lib.hid ((HD7.out.below hb8 HD7.out.lt).alloc (.cells #[.int .i64 0, .int .i64 (0), .string ⟨#[]⟩, .slice A8 0 a8, .slice B8 0 b8] 26))
    have HP8 := Lib.hid ((HP7.out.below hb8 HP7.out.lt).alloc (.cells #[.int .i64 0, .int .i64 (0), .string ⟨#[]⟩, .slice A8 0 a8, .slice B8 0 b8] 26))
    have HG8 := Lib.hid ((HG7.out.below hb8 HG7.out.lt).alloc (.cells #[.int .i64 0, .int .i64 (0), .string ⟨#[]⟩, .slice A8 0 a8, .slice B8 0 b8] 26))
    have HQ8 := Lib.hid ((HQ7.out.below hb8 HQ7.out.lt).alloc (.cells #[.int .i64 0, .int .i64 (0), .string ⟨#[]⟩, .slice A8 0 a8, .slice B8 0 b8] 26))
    have HR8 := Lib.hid (Box.laid w8 26 #[.int .i64 0, .int .i64 (0), .string ⟨#[]⟩, .slice A8 0 a8, .slice B8 0 b8])
    have LHR8 := Lib.hid (below_lies (below1 w8 (.cells #[.int .i64 0, .int .i64 (0), .string ⟨#[]⟩, .slice A8 0 a8, .slice B8 0 b8] 26)) hl8)
    have LHQ8 := Lib.hid (below_lies (chain hb8 (below1 w8 (.cells #[.int .i64 0, .int .i64 (0), .string ⟨#[]⟩, .slice A8 0 a8, .slice B8 0 b8] 26))) LHQ7.out)
    clear hb8 hl8 HB7 HX7 HY7 HS7 HD7 HP7 HG7 HQ7 LHQ7
    have hz1 := Lib.hid (fun W (hW : Below (w8.alloc (.cells #[.int .i64 0, .int .i64 (0), .string ⟨#[]⟩, .slice A8 0 a8, .slice B8 0 b8] 26)).heap.size (w8.alloc (.cells #[.int .i64 0, .int .i64 (0), .string ⟨#[]⟩, .slice A8 0 a8, .slice B8 0 b8] 26)) W) => zero_any vnull _ W (below_lies hW LHQ8.out))
    have hz2 := Lib.hid (fun W (hW : Below (w8.alloc (.cells #[.int .i64 0, .int .i64 (0), .string ⟨#[]⟩, .slice A8 0 a8, .slice B8 0 b8] 26)).heap.size (w8.alloc (.cells #[.int .i64 0, .int .i64 (0), .string ⟨#[]⟩, .slice A8 0 a8, .slice B8 0 b8] 26)) W) => zero_any vnull _ W (below_lies hW LHR8.out))
    rw [same_refl] at hz1 hz2
    obtain ⟨q0, q1, q2, q3, q4⟩ := box5 HQ8.out
    obtain ⟨r0, r1, r2, r3, r4⟩ := box5 HR8.out
    go_wp2_with fail
    refine (hz1.out _ (Below.refl _ _)).mono ?_
    rintro e9 w9 ⟨rfl, hb9⟩
    have HR9 := Lib.hid (HR8.out.below hb9 HR8.out.lt)
    clear q0 q1 q2 q3 q4 r0 r1 r2 r3 r4
    obtain ⟨r0, r1, r2, r3, r4⟩ := box5 HR9.out
    go_wp2_with fail
    refine (hz2.out _ hb9).mono ?_
    rintro e10 w10 ⟨rfl, hb10⟩
    have HB10 := Lib.hid (chain HB8.out (chain hb9 hb10))
    go_wp2_with fail
    refine (haw.out _ HB10.out).mono ?_
    rintro e11 w11 ⟨rfl, hb11⟩
    go_wp2_with fail
    go_ret
    exact ⟨rfl, chain HB10.out hb11⟩
  · have hD := Lib.hid (fun cs ds W h h' => num_open (nb_div n m h0 cs ds W h h'))
    have hR := Lib.hid (fun cs ds W h h' => num_open (nb_rem n m h0 cs ds W h h'))
    have hmb : (m == 0) = false := by simpa using h0
    go_wp2_with fail
    clear x0 x1 x2 x3 x4 y0 y1 y2 y3 y4 s0 s1 s2 s3 s4 d0 d1 d2 d3 d4 p0 p1 p2 p3 p4 g0 g1 g2 g3 g4
    refine (hD.out [.int .i64 3, .int .i64 n, .string ⟨#[]⟩, .slice none 0 0, .slice none 0 0] [.int .i64 3, .int .i64 m, .string ⟨#[]⟩, .slice none 0 0, .slice none 0 0] _ (lies_numv _ _ _) (lies_numv _ _ _)).mono ?_
    rintro e7 w7 ⟨A7, a7, B7, b7, rfl, hb7, hl7⟩
    have HB7 := Lib.hid (chain HB6.out (chain hb7 (below1 w7 (.cells #[.int .i64 3, .int .i64 (wrap64 (Int.tdiv n m)), .string ⟨#[]⟩, .slice A7 0 a7, .slice B7 0 b7] 26))))
    have HX7 := Lib.hid ((HX6.out.below hb7 HX6.out.lt).alloc (.cells #[.int .i64 3, .int .i64 (wrap64 (Int.tdiv n m)), .string ⟨#[]⟩, .slice A7 0 a7, .slice B7 0 b7] 26))
    have HY7 := Lib.hid ((HY6.out.below hb7 HY6.out.lt).alloc (.cells #[.int .i64 3, .int .i64 (wrap64 (Int.tdiv n m)), .string ⟨#[]⟩, .slice A7 0 a7, .slice B7 0 b7] 26))
    have HS7 := Lib.hid ((HS6.out.below hb7 HS6.out.lt).alloc (.cells #[.int .i64 3, .int .i64 (wrap64 (Int.tdiv n m)), .string ⟨#[]⟩, .slice A7 0 a7, .slice B7 0 b7] 26))
    have HD7 := Lib.hid ((HD6.out.below hb7 HD6.out.lt).alloc (.cells #[.int .i64 3, .int .i64 (wrap64 (Int.tdiv n m)), .string ⟨#[]⟩, .slice A7 0 a7, .slice B7 0 b7] 26))
    have HP7 := Lib.hid ((HP6.out.below hb7 HP6.out.lt).alloc (.cells #[.int .i64 3, .int .i64 (wrap64 (Int.tdiv n m)), .string ⟨#[]⟩, .slice A7 0 a7, .slice B7 0 b7] 26))
    have HG7 := Lib.hid ((HG6.out.below hb7 HG6.out.lt).alloc (.cells #[.int .i64 3, .int .i64 (wrap64 (Int.tdiv n m)), .string ⟨#[]⟩, .slice A7 0 a7, .slice B7 0 b7] 26))
    have HQ7 := Lib.hid (Box.laid w7 26 #[.int .i64 3, .int .i64 (wrap64 (Int.tdiv n m)), .string ⟨#[]⟩, .slice A7 0 a7, .slice B7 0 b7])
    have LHQ7 := Lib.hid (below_lies (below1 w7 (.cells #[.int .i64 3, .int .i64 (wrap64 (Int.tdiv n m)), .string ⟨#[]⟩, .slice A7 0 a7, .slice B7 0 b7] 26)) hl7)
    clear hb7 hl7 HB6 HX6 HY6 HS6 HD6 HP6 HG6
    obtain ⟨x0, x1, x2, x3, x4⟩ := box5 HX7.out
    obtain ⟨y0, y1, y2, y3, y4⟩ := box5 HY7.out
    go_wp2_with fail
    clear x0 x1 x2 x3 x4 y0 y1 y2 y3 y4
    refine (hR.out [.int .i64 3, .int .i64 n, .string ⟨#[]⟩, .slice none 0 0, .slice none 0 0] [.int .i64 3, .int .i64 m, .string ⟨#[]⟩, .slice none 0 0, .slice none 0 0] _ (lies_numv _ _ _) (lies_numv _ _ _)).mono ?_
    rintro e8 w8 ⟨A8, a8, B8, b8, rfl, hb8, hl8⟩
    have HB8 := Lib.hid (chain HB7.out (chain hb8 (below1 w8 (.cells #[.int .i64 3, .int .i64 (Int.tmod n m), .string ⟨#[]⟩, .slice A8 0 a8, .slice B8 0 b8] 26))))
    have HX8 := Lib.hid ((HX7.out.below hb8 HX7.out.lt).alloc (.cells #[.int .i64 3, .int .i64 (Int.tmod n m), .string ⟨#[]⟩, .slice A8 0 a8, .slice B8 0 b8] 26))
    have HY8 := Lib.hid ((HY7.out.below hb8 HY7.out.lt).alloc (.cells #[.int .i64 3, .int .i64 (Int.tmod n m), .string ⟨#[]⟩, .slice A8 0 a8, .slice B8 0 b8] 26))
    have HS8 := Lib.hid ((HS7.out.below hb8 HS7.out.lt).alloc (.cells #[.int .i64 3, .int .i64 (Int.tmod n m), .string ⟨#[]⟩, .slice A8 0 a8, .slice B8 0 b8] 26))
    have HD8 := Lib.hid ((HD7.out.below hb8 HD7.out.lt).alloc (.cells #[.int .i64 3, .int .i64 (Int.tmod n m), .string ⟨#[]⟩, .slice A8 0 a8, .slice B8 0 b8] 26))
    have HP8 := Lib.hid ((HP7.out.below hb8 HP7.out.lt).alloc (.cells #[.int .i64 3, .int .i64 (Int.tmod n m), .string ⟨#[]⟩, .slice A8 0 a8, .slice B8 0 b8] 26))
    have HG8 := Lib.hid ((HG7.out.below hb8 HG7.out.lt).alloc (.cells #[.int .i64 3, .int .i64 (Int.tmod n m), .string ⟨#[]⟩, .slice A8 0 a8, .slice B8 0 b8] 26))
    have HQ8 := Lib.hid ((HQ7.out.below hb8 HQ7.out.lt).alloc (.cells #[.int .i64 3, .int .i64 (Int.tmod n m), .string ⟨#[]⟩, .slice A8 0 a8, .slice B8 0 b8] 26))
    have HR8 := Lib.hid (Box.laid w8 26 #[.int .i64 3, .int .i64 (Int.tmod n m), .string ⟨#[]⟩, .slice A8 0 a8, .slice B8 0 b8])
    have LHR8 := Lib.hid (below_lies (below1 w8 (.cells #[.int .i64 3, .int .i64 (Int.tmod n m), .string ⟨#[]⟩, .slice A8 0 a8, .slice B8 0 b8] 26)) hl8)
    have LHQ8 := Lib.hid (below_lies (chain hb8 (below1 w8 (.cells #[.int .i64 3, .int .i64 (Int.tmod n m), .string ⟨#[]⟩, .slice A8 0 a8, .slice B8 0 b8] 26))) LHQ7.out)
    clear hb8 hl8 HB7 HX7 HY7 HS7 HD7 HP7 HG7 HQ7 LHQ7
    go_upto_region 10 with fail
    clear HX8 HY8 HS8 HD8 HP8 HG8 LHQ8 LHR8 hD hR hA hS hM hN hnm
    obtain ⟨q, hq⟩ : ∃ q, wrap64 (Int.tdiv n m) = q := ⟨_, rfl⟩
    obtain ⟨r, hr⟩ : ∃ r, Int.tmod n m = r := ⟨_, rfl⟩
    rw [hq, hr] at NB
    rw [hr] at NS
    obtain ⟨W8, hW8⟩ : ∃ W, w8.alloc (.cells #[.int .i64 3, .int .i64 (Int.tmod n m), .string ⟨#[]⟩, .slice A8 0 a8, .slice B8 0 b8] 26) = W := ⟨_, rfl⟩
    rw [hW8] at HB8 HQ8 HR8 ⊢
    rw [hq] at HQ8
    rw [hr] at HR8
    clear hW8
    have nb := NB.out
    have ns := NS.out
    have fnb : (wrap64 (wrap64 (q * m) + r) != n) = false := by rw [nb]; simp
    have gq0 := HQ8.out.lt
    have gr0 := HR8.out.lt
    obtain ⟨c0, c1, c2, c3, c4⟩ := box5 HQ8.out
    obtain ⟨d0, d1, d2, d3, d4⟩ := box5 HR8.out
    have HNS := Lib.hid ns
    clear nb ns
    have k1 := fun u : Calm W8.heap.size W8 => u.cell gq0 c1
    have k2 := fun u : Calm W8.heap.size W8 => u.cell gr0 d1
    have hawc := Lib.hid (fun u : Calm W8.heap.size W8 => haw.out u.val (chain HB8.out u.below))
    by_cases hrn : r < 0
    · have s1 : decide (r < 0) = true := decide_eq_true hrn
      have s2 : n < 0 ∧ r ≠ 0 := by
        have := HNS.out
        rw [s1] at this
        have h2 := this.symm
        simp at h2
        exact h2
      have s3 : decide (n < 0) = true := decide_eq_true s2.1
      have s4 : (r != 0) = true := by simpa using s2.2
      have s5 : n < 0 := s2.1
      have s6 : (r == 0) = false := by simpa using s2.2
      by_cases hm1 : m = -1
      · have m1 : (m == -1) = true := by simpa using hm1
        have m2 : (m != -1) = false := by simpa using hm1
        have q1 : q = wrap64 (-n) := by rw [← hq, hm1]; exact N1.out.1
        have q2 : r = 0 := by rw [← hr, hm1]; exact N1.out.2
        exact absurd hrn (by omega)
      · have m1 : (m == -1) = false := by simpa using hm1
        have m2 : (m != -1) = true := by simpa using hm1
        go_wp2_with fail
        refine wp_region_calm (w0 := W8) (B := W8.heap.size) (by kernel_rfl) (by kernel_rfl) (Below.refl _ _) ?_
        repeat (go_big_quiet_step (first
          | (go_at_call 16; with_reducible refine Calm.call (Nat.le_refl _) (hawc.out _))))
        refine wpQuiet_nil ?_
        intro _ hw'
        obtain ⟨u, rfl⟩ := hw'
        go_wp2_with fail
        go_ret
        exact ⟨rfl, chain HB8.out u.below⟩
    · have s1 : decide (r < 0) = false := decide_eq_false hrn
      have s2 : (decide (n < 0) && (r != 0)) = false := by
        have := HNS.out
        rw [s1] at this
        exact this.symm
      by_cases hn0 : n < 0
      · have s3 : decide (n < 0) = true := decide_eq_true hn0
        have s4 : (r != 0) = false := by rw [s3] at s2; simpa using s2
        by_cases hm1 : m = -1
        · have m1 : (m == -1) = true := by simpa using hm1
          have m2 : (m != -1) = false := by simpa using hm1
          have q1 : q = wrap64 (-n) := by rw [← hq, hm1]; exact N1.out.1
          have q2 : r = 0 := by rw [← hr, hm1]; exact N1.out.2
          have q3 : (q == wrap64 (-n)) = true := by rw [q1]; simp
          have q4 : (r == 0) = true := by rw [q2]; rfl
          clear q1 q2 hm1
          go_wp2_with fail
          refine wp_region_calm (w0 := W8) (B := W8.heap.size) (by kernel_rfl) (by kernel_rfl) (Below.refl _ _) ?_
          repeat (go_big_quiet_step (first
            | (go_at_call 16; with_reducible refine Calm.call (Nat.le_refl _) (hawc.out _))))
          refine wpQuiet_nil ?_
          intro _ hw'
          obtain ⟨u, rfl⟩ := hw'
          go_wp2_with fail
          go_ret
          exact ⟨rfl, chain HB8.out u.below⟩
        · have m1 : (m == -1) = false := by simpa using hm1
          have m2 : (m != -1) = true := by simpa using hm1
          go_wp2_with fail
          refine wp_region_calm (w0 := W8) (B := W8.heap.size) (by kernel_rfl) (by kernel_rfl) (Below.refl _ _) ?_
          repeat (go_big_quiet_step (first
            | (go_at_call 16; with_reducible refine Calm.call (Nat.le_refl _) (hawc.out _))))
          refine wpQuiet_nil ?_
          intro _ hw'
          obtain ⟨u, rfl⟩ := hw'
          go_wp2_with fail
          go_ret
          exact ⟨rfl, chain HB8.out u.below⟩
      · have s3 : decide (n < 0) = false := decide_eq_false hn0
        by_cases hm1 : m = -1
        · have m1 : (m == -1) = true := by simpa using hm1
          have m2 : (m != -1) = false := by simpa using hm1
          have q1 : q = wrap64 (-n) := by rw [← hq, hm1]; exact N1.out.1
          have q2 : r = 0 := by rw [← hr, hm1]; exact N1.out.2
          have q3 : (q == wrap64 (-n)) = true := by rw [q1]; simp
          have q4 : (r == 0) = true := by rw [q2]; rfl
          clear q1 q2 hm1
          go_wp2_with fail
          refine wp_region_calm (w0 := W8) (B := W8.heap.size) (by kernel_rfl) (by kernel_rfl) (Below.refl _ _) ?_
          repeat (go_big_quiet_step (first
            | (go_at_call 16; with_reducible refine Calm.call (Nat.le_refl _) (hawc.out _))))
          refine wpQuiet_nil ?_
          intro _ hw'
          obtain ⟨u, rfl⟩ := hw'
          go_wp2_with fail
          go_ret
          exact ⟨rfl, chain HB8.out u.below⟩
        · have m1 : (m == -1) = false := by simpa using hm1
          have m2 : (m != -1) = true := by simpa using hm1
          go_wp2_with fail
          refine wp_region_calm (w0 := W8) (B := W8.heap.size) (by kernel_rfl) (by kernel_rfl) (Below.refl _ _) ?_
          repeat (go_big_quiet_step (first
            | (go_at_call 16; with_reducible refine Calm.call (Nat.le_refl _) (hawc.out _))))
          refine wpQuiet_nil ?_
          intro _ hw'
          obtain ⟨u, rfl⟩ := hw'
          go_wp2_with fail
          go_ret
          exact ⟨rfl, chain HB8.out u.below⟩
end Go.Proofs.YtkohnkofnobakaaGreatDoor

/- strings.Split: the library's contract, laid at this program. arith.Split at a separator that is not empty; the laws' sanity check. strings.explode, and strings.Split at the empty separator, at every string: the library's own text walked, over any program that lays it. Joining pieces with a separator; repeating a string. Nothing of the program is named here. arith.Split at every string. -/
import Derived.Shelf.LaysM
import Derived.Shelf.Strings.Split
import Derived.Ground.NamesProg
import Derived.Test.YtgdnkankleoaoaaGreatDoorA03
import Derived.Test.YtgdnkankleoaoaaGreatDoorRows
import Derived.Test.YtgdnkankleoaoaaGreatDoorA01
import Derived.Test.YtgdnkankleoaoaaGreatDoorA32
import Derived.Test.YtgdnkankleoaoaaGreatDoorA02
import Derived.Shelf.Utf8.RuneCount
import Derived.Shelf.Unicode.DecodeAny
import Derived.Lib.SplitLaws
import Derived.Lib.Hide
import Derived.Deep.LoopGhost
import Derived.Test.YtgdnkankleoaoaaGreatDoorA28
import Derived.Lib.IndexMore
import Derived.Lib.RepeatB
set_option linter.unusedVariables false
set_option linter.unusedSimpArgs false
namespace Go.Proofs
open Go.Shelf Go.RowKit
def Tryz.spl_ren : Go.Shelf.Ren := ⟨fun | 146 => 126 | 221 => 200 | 268 => 246 | 138 => 247 | 143 => 248 | 195 => 294 | 197 => 295 | 218 => 296 | 219 => 297 | 260 => 331 | 217 => 332 | 225 => 333 | 224 => 334 | 267 => 335 | 266 => 377 | 314 => 378 | n => n, fun | 9 => 9 | 31 => 22 | 3 => 3 | 4 => 4 | 0 => 0 | 105 => 206 | 21 => 21 | 5 => 5 | 46 => 133 | 119 => 260 | 139 => 263 | 138 => 262 | 146 => 227 | 51 => 226 | n => n, fun | 1 => 0 | 3 => 1 | 4 => 2 | n => n⟩
theorem Tryz.spl : Go.Proofs.LaysM.n146 Tryz.prog Tryz.spl_ren := {
  mixed := by kernel_rfl
  f138 := Tryz.func247.trans (congrArg some (by kernel_rfl))
  f143 := Tryz.func248.trans (congrArg some (by kernel_rfl))
  f146 := Tryz.func126.trans (congrArg some (by kernel_rfl))
  f195 := Tryz.func294.trans (congrArg some (by kernel_rfl))
  f197 := Tryz.func295.trans (congrArg some (by kernel_rfl))
  f217 := Tryz.func332.trans (congrArg some (by kernel_rfl))
  f218 := Tryz.func296.trans (congrArg some (by kernel_rfl))
  f219 := Tryz.func297.trans (congrArg some (by kernel_rfl))
  f221 := Tryz.func200.trans (congrArg some (by kernel_rfl))
  f224 := Tryz.func334.trans (congrArg some (by kernel_rfl))
  f225 := Tryz.func333.trans (congrArg some (by kernel_rfl))
  f260 := Tryz.func331.trans (congrArg some (by kernel_rfl))
  f266 := Tryz.func377.trans (congrArg some (by kernel_rfl))
  f267 := Tryz.func335.trans (congrArg some (by kernel_rfl))
  f268 := Tryz.func246.trans (congrArg some (by kernel_rfl))
  f314 := Tryz.func378.trans (congrArg some (by kernel_rfl))
  t0 := Tryz.underlying0
  a0 := Tryz.isAgg0
  z0 := Tryz.sizeOf0
  v0 := Tryz.zeroValue0
  t3 := Tryz.underlying3
  a3 := Tryz.isAgg3
  z3 := Tryz.sizeOf3
  v3 := Tryz.zeroValue3
  t4 := Tryz.underlying4
  a4 := Tryz.isAgg4
  z4 := Tryz.sizeOf4
  v4 := Tryz.zeroValue4
  t5 := Tryz.underlying5
  a5 := Tryz.isAgg5
  z5 := Tryz.sizeOf5
  v5 := Tryz.zeroValue5
  t9 := Tryz.underlying9
  a9 := Tryz.isAgg9
  z9 := Tryz.sizeOf9
  v9 := Tryz.zeroValue9
  t21 := Tryz.underlying21
  a21 := Tryz.isAgg21
  z21 := Tryz.sizeOf21
  v21 := Tryz.zeroValue21
  t31 := Tryz.underlying22
  a31 := Tryz.isAgg22
  z31 := Tryz.sizeOf22
  v31 := Tryz.zeroValue22
  t46 := Tryz.underlying133
  a46 := Tryz.isAgg133
  z46 := Tryz.sizeOf133
  v46 := Tryz.zeroValue133
  t51 := Tryz.underlying226
  a51 := Tryz.isAgg226
  z51 := Tryz.sizeOf226
  v51 := Tryz.zeroValue226
  t105 := Tryz.underlying206
  a105 := Tryz.isAgg206
  z105 := Tryz.sizeOf206
  v105 := Tryz.zeroValue206
  t119 := Tryz.underlying260
  a119 := Tryz.isAgg260
  z119 := Tryz.sizeOf260
  t138 := Tryz.underlying262
  a138 := Tryz.isAgg262
  z138 := Tryz.sizeOf262
  v138 := Tryz.zeroValue262
  t139 := Tryz.underlying263
  a139 := Tryz.isAgg263
  z139 := Tryz.sizeOf263
  v139 := Tryz.zeroValue263
  t146 := Tryz.underlying227
  a146 := Tryz.isAgg227
  z146 := Tryz.sizeOf227
  v146 := Tryz.zeroValue227
  g1 := by kernel_rfl
  g3 := by kernel_rfl
  g4 := by kernel_rfl
  i0 := by kernel_rfl
  i3 := by kernel_rfl
  i4 := by kernel_rfl
  i5 := by kernel_rfl
  i9 := by kernel_rfl
  i21 := by kernel_rfl
  i31 := by kernel_rfl
  i46 := by kernel_rfl
  i51 := by kernel_rfl
  i105 := by kernel_rfl
  i138 := by kernel_rfl
  i139 := by kernel_rfl
  i146 := by kernel_rfl
  m1 := by kernel_rfl
  s1_3 := fun w h => Go.Proofs.cell_of_shapedOpen_int (zero := #[.int .i64 0]) (t := 3) h (of_decide_eq_true (by kernel_rfl)) (by kernel_rfl) rfl (by kernel_rfl) (by kernel_rfl) Tryz.underlying3
  m3 := by kernel_rfl
  m4 := by kernel_rfl }


end Go.Proofs
namespace Go.Proofs.YtgdnkankleoaoaaGreatDoor
open Go.RowKit
/-- internal/bytealg.MaxLen holds some int. -/
def MaxL (w : World) : Prop := ∃ m, w.cell? ⟨0, 0, none⟩ = some (.int .i64 m)
theorem MaxL.next {w W : World} (h : MaxL w) (hb : Below w.heap.size w W) : MaxL W := by
  obtain ⟨m, hm⟩ := h
  have hl := World.block_lt_of_cell? w _ hm
  exact ⟨m, (hb.cell (p := ⟨0, 0, none⟩) hl).trans hm⟩
/-- The pieces of a string between the occurrences of another. -/
def pieces (s sep : ByteArray) : List ByteArray := Lib.splitB sep 0 (Lib.countB s sep) s
theorem pieces_len (s sep : ByteArray) (h : 1 ≤ sep.size) : (pieces s sep).length = Lib.countB s sep + 1 := Lib.splitB_all sep h 0 _ s rfl
theorem split_lib (s sep : ByteArray) (w : World) (hm : MaxL w) (hs : s.size < 4294967281) (h1 : 1 ≤ sep.size) :
    Calls Tryz.prog 126 #[.string s, .string sep] w fun e w' => e = .returned (.slice (some ⟨w.heap.size, 0, none⟩) (pieces s sep).length (pieces s sep).length) ∧ w' = w.alloc (.cells (kv (pieces s sep)).toArray 9) := by
  obtain ⟨m, hm⟩ := hm
  rw [pieces_len s sep h1]
  exact Go.Proofs.Any.strings_Split { Tryz.spl with } Tryz.spl.i9 s sep m w hs hm h1
end Go.Proofs.YtgdnkankleoaoaaGreatDoor
namespace Go.Proofs.YtgdnkankleoaoaaGreatDoor
open Go.RowKit Go.Sort
/-- What Split hands back. -/
def SplitPost (l : List ByteArray) (ok : Bool) (w : World) (e : Ending) (w' : World) : Prop :=
  Below w.heap.size w w' ∧ ∃ A c, e = .returned (.tuple #[.slice A l.length c, .bool ok]) ∧ Rs w' (fun b => w.heap.size ≤ b ∧ b < w'.heap.size) A (kv l) ∧ (A = none → c = 0) ∧ l.length ≤ c ∧ c ≤ maxLen
theorem rs_newbox {w : World} {t : TypeId} {l : List ByteArray} : Rs (w.alloc (.cells (kv l).toArray t)) (fun b => w.heap.size ≤ b ∧ b < (w.alloc (.cells (kv l).toArray t)).heap.size) (some ⟨w.heap.size, 0, none⟩) (kv l) := by
  intro j u hj
  refine ⟨w.heap.size, 0, rfl, ⟨Nat.le_refl _, by simp⟩, ?_⟩
  rw [Nat.zero_add]
  exact (Box.laid w t (kv l).toArray).cell (by simpa using hj)
theorem splitB_le (s sep : ByteArray) (h : 1 ≤ sep.size) : (pieces s sep).length ≤ s.size + 1 := by
  rw [pieces_len s sep h]
  have := Lib.countB_le sep h s.size s (Nat.le_refl _)
  omega
set_option maxHeartbeats 1000000 in
set_option maxRecDepth 100000 in
theorem split_sep (s sep : ByteArray) (w : World) (hm : MaxL w) (hs : s.size ≤ 1048576) (hsep : sep.size ≤ 1048576) (h1 : 1 ≤ sep.size) (ho : okS s = true) (hp : okS sep = true) (hne : s.size ≠ 0) :
    Calls Tryz.prog 22 #[.string s, .string sep] w (SplitPost (pieces s sep) true w) := by
  have hv := Lib.hid (fun W => val_any s (by unfold maxLen; omega) W)
  have hu := Lib.hid (fun W => val_any sep (by unfold maxLen; omega) W)
  have e1 : (runes s.data.toList).isSome = true := ho
  have e2 : (runes sep.data.toList).isSome = true := hp
  rw [e1] at hv
  rw [e2] at hu
  have hl := Lib.hid (split_lib s sep w hm (by omega) h1)
  have hle := splitB_le s sep h1
  have hE : s.toList.isEmpty = false := by
    cases h : s.toList.isEmpty with
    | false => rfl
    | true =>
      rw [Lib.toList_data] at h
      have h3 : s.data.toList = [] := by simpa using h
      exact absurd (by rw [Lib.size_eq, h3]; rfl) hne
  generalize pieces s sep = l at hl hle ⊢
  clear e1 e2 ho hp
  go_enter Tryz.func22, Tryz.ntmps22
  go_wp2_with (first
    | (go_at_call 125; with_reducible refine (hv.out _).mono ?_; rintro e1 w1 ⟨rfl, rfl⟩)
    | (go_at_call 125; with_reducible refine (hu.out _).mono ?_; rintro e2 w2 ⟨rfl, rfl⟩)
    | (go_at_call 126; refine hl.out.mono ?_; rintro e3 w3 ⟨rfl, rfl⟩))
  go_ret2
  refine ⟨below1 _ _, _, _, rfl, rs_newbox, (fun h => by cases h), Nat.le_refl _, by unfold maxLen; omega⟩
end Go.Proofs.YtgdnkankleoaoaaGreatDoor
namespace Go.Proofs.YtgdnkankleoaoaaGreatDoor
open Go.Shelf Go.RowKit Go.Lib Go.Proofs
variable {P : Program} {ρ : Ren}
theorem decodeN_le (n b0 b1 b2 b3 : Nat) (hn : 1 ≤ n) : (decodeN n b0 b1 b2 b3).2 ≤ n := by
  unfold decodeN
  repeat' split
  all_goals (simp only; omega)
theorem decodeGo_le (s : ByteArray) : (decodeGo s).2 ≤ s.size := by
  unfold decodeGo
  split
  · simp
  · rw [decode_at]; exact decodeN_le _ _ _ _ _ (by omega)
/-- The n pieces that explode makes of s. -/
def expl : Nat → ByteArray → List ByteArray
  | 0, _ => []
  | 1, s => [s]
  | n + 2, s => s.extract 0 (decodeGo s).2 :: expl (n + 1) (s.extract (decodeGo s).2 s.size)
theorem expl_length : ∀ n s, (expl n s).length = n
  | 0, _ => rfl
  | 1, _ => rfl
  | n + 2, s => by rw [expl, List.length_cons, expl_length (n + 1)]
theorem below_al (w : World) (o : Obj) : Below w.heap.size w (w.alloc o) := (Below.refl _ _).alloc (Nat.le_refl _) _
theorem below_iter (w : World) (s : ByteArray) (pos : Nat) : Below w.heap.size w (w.iter s pos) := (Below.refl _ _).alloc (Nat.le_refl _) _
/-- What explode hands back. -/
def ExpPost (t : TypeId) (l : List ByteArray) (w : World) (e : Ending) (w' : World) : Prop :=
  ∃ g, w.heap.size ≤ g ∧ e = .returned (.slice (some ⟨g, 0, none⟩) l.length l.length) ∧ Below w.heap.size w w' ∧ Box w' g t (kv l).toArray
def ExpN (t : TypeId) (n : Nat) (l : List ByteArray) (w : World) (e : Ending) (w' : World) : Prop :=
  ∃ g, w.heap.size ≤ g ∧ e = .returned (.slice (some ⟨g, 0, none⟩) n n) ∧ Below w.heap.size w w' ∧ Box w' g t (kv l).toArray
theorem expN_post {t : TypeId} {l : List ByteArray} {n : Nat} {w : World} (hl : l.length = n) {e : Ending} {w' : World} (h : ExpN t n l w e w') : ExpPost t l w e w' := by
  subst hl
  exact h
theorem tabs_below {g3 g4 : Nat} {w w' : World} (h : Lib.Utf8Tabs g3 g4 w) (hb : Below w.heap.size w w') : Lib.Utf8Tabs g3 g4 w' := by
  refine ⟨fun c hc => ?_, fun i hi => ⟨?_, ?_⟩⟩
  · exact (hb.cell (p := ⟨g3, c, none⟩) (World.block_lt_of_cell? w _ (h.1 c hc))).trans (h.1 c hc)
  · exact (hb.cell (p := ⟨g4, 2 * i, none⟩) (World.block_lt_of_cell? w _ (h.2 i hi).1)).trans (h.2 i hi).1
  · exact (hb.cell (p := ⟨g4, 2 * i + 1, none⟩) (World.block_lt_of_cell? w _ (h.2 i hi).2)).trans (h.2 i hi).2
set_option maxHeartbeats 8000000 in
set_option maxRecDepth 1000000 in
theorem explode_gen (L : Lays.n268 P ρ) (hi9 : (P.info? (ρ.t 9)).map (fun i => (i.zero, i.size, i.bytes)) = some (some (.string ByteArray.empty), 1, 16)) (s : ByteArray) (n : Int) (w : World) (hn : n < 0) (hs : s.size < 4294967281) (hT : Lib.Utf8Tabs (ρ.g 3) (ρ.g 4) w) :
    Calls P (ρ.f 268) #[.string s, .int .i64 n] w (ExpPost (ρ.t 9) (expl (runeCount s) s) w) := by
  refine Calls.mono (R := ExpN (ρ.t 9) (runeCount s) (expl (runeCount s) s) w) ?_ fun e w' h => expN_post (expl_length _ _) h
  have hR := Any.utf8_RuneCountInString { L with } s w (by omega)
  have hle := runeCount_le s
  generalize hN : runeCount s = N at hR hle ⊢
  have hmk := run_make_row' (P := P) (ρ.t 31) (ρ.t 9) (.string ByteArray.empty) 16 L.t31 hi9 rfl .i64 .i64 N (by omega) (by omega)
  have t3 := L.t3; have a3 := L.a3; have z3 := L.z3; have v3 := L.v3
  have t4 := L.t4; have a4 := L.a4; have z4 := L.z4; have v4 := L.v4
  have t9 := L.t9; have a9 := L.a9; have z9 := L.z9; have v9 := L.v9
  have t21 := L.t21; have a21 := L.a21; have z21 := L.z21; have v21 := L.v21
  have t31 := L.t31; have a31 := L.a31; have z31 := L.z31; have v31 := L.v31
  have e195 : ∀ args w, (callFunc (ρ.f 195) args).run P w = .ok (.enter (ρ.f 195) args) w := enters_of L.f195 (by kernel_rfl) rfl
  have e197 : ∀ args w, (callFunc (ρ.f 197) args).run P w = .ok (.enter (ρ.f 197) args) w := enters_of L.f197 (by kernel_rfl) rfl
  have HT := Lib.hid hT
  clear hT
  go_enter L.f268, Body.n268_ntmps ρ
  go_wp2_with (go_at_fn (ρ.f 195); refine hR.mono ?_; rintro e W1 ⟨rfl, pos, hw⟩; have HB1 : Hid (Below w.heap.size w W1) := Lib.hid (by rw [hw]; exact below_iter w s pos); clear hw)
  clear hR hmk
  rw [← Lib.cellsOf_nil]
  have HT1 : Hid (Lib.Utf8Tabs (ρ.g 3) (ρ.g 4) W1) := Lib.hid (tabs_below HT.out HB1.out)
  go_loopg [0, 7] (N - 1) (fun g s0 s7 wx => ∃ (done : List ByteArray) (R : ByteArray), s0 = .string R ∧ s7 = .int .i64 done.length ∧ done.length + g = N - 1 ∧ R.size ≤ s.size ∧
    Aside (expl N s = done ++ expl (N - done.length) R) ∧ Aside (Below W1.heap.size W1 wx ∧ Box wx W1.heap.size (ρ.t 9) (Lib.cellsOf done N)))
  case atStart => exact ⟨[], s, rfl, rfl, by simp, Nat.le_refl _, rfl, below_al _ _, Box.laid _ _ _⟩
  case round =>
    obtain ⟨done, R, rfl, rfl, hdg, hRs, HD, HX⟩ := hrel
    cases gk with
    | zero =>
      have hlt : ¬ (((done.length : Nat) : Int) < (N : Int) - 1) := by omega
      by_cases h0 : N = 0
      · have hz : ¬ ((0 : Int) < (N : Int)) := by omega
        have h2 := HX.out.2
        have hd0 : done = [] := List.length_eq_zero_iff.1 (by omega)
        subst hd0
        subst h0
        have HX2 := Lib.hid h2
        clear h2
        go_wp2
        go_ret
        refine ⟨W1.heap.size, HB1.out.size, rfl, chain HB1.out HX.out.1, ?_⟩
        exact HX2.out
      · have hz : (0 : Int) < (N : Int) := by omega
        have hidx : (N : Int) - 1 = ((done.length : Nat) : Int) := by omega
        have hnext := HX.out.2.cell (i := done.length) (Lib.cellsOf_next (by omega))
        have hfree := HX.out.2.free done.length
        have hdz : ((done.length : Nat) : Int) < (N : Int) := by omega
        go_wp2
        go_ret
        refine ⟨W1.heap.size, HB1.out.size, rfl, chain HB1.out (HX.out.1.setCell (Nat.le_refl _) _), ?_⟩
        have h2 := HX.out.2.put done.length (.string R)
        rw [Lib.cellsOf_set (by omega)] at h2
        have e1 : expl N s = done ++ [R] := by
          have := HD.out
          rw [this, show N - done.length = 1 from by omega, expl]
        rw [e1]
        have e2 := Lib.cellsOf_full (done ++ [R])
        rw [show (done ++ [R]).length = N from by simp; omega] at e2
        rw [e2] at h2
        exact h2
    | succ g =>
      have hlt : ((done.length : Nat) : Int) < (N : Int) - 1 := by omega
      have hd : done.length < N := by omega
      have hnext := fun W (hb : Below wr.heap.size wr W) => (HX.out.2.below hb HX.out.2.lt).cell (i := done.length) (Lib.cellsOf_next hd)
      have hfree := fun W (hb : Below wr.heap.size wr W) => (HX.out.2.below hb HX.out.2.lt).free done.length
      have hnx := Lib.hid hnext
      have hfr := Lib.hid hfree
      clear hnext hfree
      have hdz : ((done.length : Nat) : Int) < (N : Int) := by omega
      have hdl := decodeGo_le R
      have c := Any.utf8_DecodeRuneInString { L with } R wr (tabs_below HT1.out HX.out.1)
      have hx : expl (N - done.length) R = R.extract 0 (decodeGo R).2 :: expl (N - done.length - 1) (R.extract (decodeGo R).2 R.size) := by
        obtain ⟨m, hm⟩ : ∃ m, N - done.length = m + 2 := ⟨N - done.length - 2, by omega⟩
        rw [hm, expl]
        rfl
      have HDx := Lib.hid hx
      clear hx
      generalize (decodeGo R).2 = k at hdl c HDx
      generalize (decodeGo R).1 = r at c
      go_wp2_with (go_at_fn (ρ.f 197); refine c.mono ?_; rintro e w' ⟨rfl, hb'⟩; have hn1 := hnx.out _ hb'; have hf1 := hfr.out _ hb')
      go_roundg g
      case measure => omega
      case rel =>
        refine ⟨done ++ [R.extract 0 k], R.extract k R.size, rfl, by simp, by simp; omega, by rw [ByteArray.size_extract]; simp; omega, ?_, ?_, ?_⟩
        · show _ = _
          have := HD.out
          rw [this, HDx.out, List.append_assoc, List.length_append, List.length_singleton]
          rfl
        · exact (HX.out.1.trans (hb'.mono HX.out.1.size)).setCell (Nat.le_refl _) _
        · rw [← Lib.cellsOf_set hd]
          exact (HX.out.2.below hb' HX.out.2.lt).put _ _
set_option maxHeartbeats 2000000 in
set_option maxRecDepth 1000000 in
theorem genSplit_gen (L : Lays.n221 P ρ) (hi9 : (P.info? (ρ.t 9)).map (fun i => (i.zero, i.size, i.bytes)) = some (some (.string ByteArray.empty), 1, 16)) (s sep : ByteArray) (sv n : Int) (w : World) (h0 : sep.size = 0) (hn : n < 0) (hs : s.size < 4294967281) (hT : Lib.Utf8Tabs (ρ.g 3) (ρ.g 4) w) :
    Calls P (ρ.f 221) #[.string s, .string sep, .int .i64 sv, .int .i64 n] w (ExpPost (ρ.t 9) (expl (runeCount s) s) w) := by
  have c := explode_gen { L with } hi9 s n w hn hs hT
  clear hT
  generalize expl (runeCount s) s = l at c ⊢
  have hne : (n == 0) = false := beq_eq_false_iff_ne.2 (by omega)
  have hse : sep.toList.isEmpty = true := by
    have hnil : sep.data.toList = [] := List.length_eq_zero_iff.1 (by rw [← Lib.size_eq]; exact h0)
    rw [Lib.toList_data, hnil]
    rfl
  have t3 := L.t3; have a3 := L.a3; have z3 := L.z3; have v3 := L.v3
  have t4 := L.t4; have a4 := L.a4; have z4 := L.z4; have v4 := L.v4
  have t9 := L.t9; have a9 := L.a9; have z9 := L.z9; have v9 := L.v9
  have t31 := L.t31; have a31 := L.a31; have z31 := L.z31; have v31 := L.v31
  have e268 : ∀ args w, (callFunc (ρ.f 268) args).run P w = .ok (.enter (ρ.f 268) args) w := enters_of L.f268 (by kernel_rfl) rfl
  go_enter L.f221, Body.n221_ntmps ρ
  go_wp2_with (go_at_fn (ρ.f 268); refine c.mono ?_; rintro e w' ⟨g, hg, rfl, hb, hx⟩)
  go_ret
  exact ⟨g, hg, rfl, hb, hx⟩
set_option maxHeartbeats 1000000 in
theorem split_empty_gen (L : Lays.n146 P ρ) (hi9 : (P.info? (ρ.t 9)).map (fun i => (i.zero, i.size, i.bytes)) = some (some (.string ByteArray.empty), 1, 16)) (s sep : ByteArray) (w : World) (h0 : sep.size = 0) (hs : s.size < 4294967281) (hT : Lib.Utf8Tabs (ρ.g 3) (ρ.g 4) w) :
    Calls P (ρ.f 146) #[.string s, .string sep] w (ExpPost (ρ.t 9) (expl (runeCount s) s) w) := by
  have c := genSplit_gen { L with } hi9 s sep 0 (-1) w h0 (by decide) hs hT
  clear hT
  generalize expl (runeCount s) s = l at c ⊢
  have t3 := L.t3; have a3 := L.a3; have z3 := L.z3; have v3 := L.v3
  have t9 := L.t9; have a9 := L.a9; have z9 := L.z9; have v9 := L.v9
  have t31 := L.t31; have a31 := L.a31; have z31 := L.z31; have v31 := L.v31
  have e221 : ∀ args w, (callFunc (ρ.f 221) args).run P w = .ok (.enter (ρ.f 221) args) w := enters_of L.f221 (by kernel_rfl) rfl
  go_enter L.f146, Body.n146_ntmps ρ
  go_wp2_with (go_at_fn (ρ.f 221); refine c.mono ?_; rintro e w' ⟨g, hg, rfl, hb, hx⟩)
  go_ret
  exact ⟨g, hg, rfl, hb, hx⟩
end Go.Proofs.YtgdnkankleoaoaaGreatDoor
namespace Go.Proofs.YtgdnkankleoaoaaGreatDoor
open Go.RowKit Go.Lib
/-- The pieces between the occurrences of another string. -/
def joinAt (sep : ByteArray) (t y : ByteArray) : ByteArray := t ++ sep ++ y
/-- The pieces joined with the separator. -/
def jn (sep : ByteArray) : List ByteArray → ByteArray
  | [] => ⟨#[]⟩
  | x :: r => r.foldl (joinAt sep) x
theorem jn_snoc (sep : ByteArray) {l : List ByteArray} (hl : l ≠ []) (y : ByteArray) : jn sep (l ++ [y]) = jn sep l ++ sep ++ y := by
  cases l with
  | nil => exact absurd rfl hl
  | cons x r => simp [jn, joinAt]
theorem fold_cat (sep : ByteArray) : ∀ (r : List ByteArray) (a b : ByteArray), r.foldl (joinAt sep) (a ++ b) = a ++ r.foldl (joinAt sep) b
  | [], _, _ => rfl
  | y :: r, a, b => by
    rw [List.foldl_cons, List.foldl_cons]
    have : joinAt sep (a ++ b) y = a ++ joinAt sep b y := by unfold joinAt; simp only [ByteArray.append_assoc]
    rw [this, fold_cat sep r]
theorem jn_cons (sep x y : ByteArray) (r : List ByteArray) : jn sep (x :: y :: r) = x ++ sep ++ jn sep (y :: r) := by
  show r.foldl (joinAt sep) (joinAt sep x y) = x ++ sep ++ r.foldl (joinAt sep) y
  exact fold_cat sep r (x ++ sep) y
theorem bytes_ext {a b : ByteArray} (h : a.data.toList = b.data.toList) : a = b := by
  cases a with | mk x => cases b with | mk y => cases x; cases y; simpa using h
theorem app_data (a b : ByteArray) : (a ++ b).data.toList = a.data.toList ++ b.data.toList := by simp
theorem splitB_ne (sep : ByteArray) (save k : Nat) (s : ByteArray) : ∃ x r, splitB sep save k s = x :: r := by
  cases k with
  | zero => exact ⟨s, [], rfl⟩
  | succ k =>
    unfold splitB
    split
    · exact ⟨_, _, rfl⟩
    · exact ⟨_, _, rfl⟩
theorem cut_back (s sep : ByteArray) (i : Nat) (h : indexB s sep = i) : s.extract 0 i ++ sep ++ s.extract (i + sep.size) s.size = s := by
  have h' : index s.data.toList sep.data.toList = i := h
  rcases index_spec s.data.toList sep.data.toList with ⟨h1, _⟩ | ⟨j, h1, hj, ho, _⟩
  · rw [h'] at h1; omega
  · rw [h'] at h1
    obtain rfl : i = j := by omega
    obtain ⟨t, ht⟩ := List.isPrefixOf_iff_prefix.1 ho
    apply bytes_ext
    rw [app_data, app_data, extract_from_zero, extract_to_end, size_eq sep, ← List.drop_drop, ← ht, List.drop_left, List.append_assoc, ht, List.take_append_drop]
theorem split_join (sep : ByteArray) : ∀ (k : Nat) (s : ByteArray), jn sep (splitB sep 0 k s) = s
  | 0, _ => rfl
  | k + 1, s => by
    rcases indexB_cases s sep with hix | ⟨i, hix, hroom⟩
    · rw [splitB_miss sep 0 _ s hix]; rfl
    · rw [splitB_hit sep 0 k s i hix]
      obtain ⟨x, r, hx⟩ := splitB_ne sep 0 k (s.extract (i + sep.size) s.size)
      have ih := split_join sep k (s.extract (i + sep.size) s.size)
      rw [hx] at ih ⊢
      rw [jn_cons, ih, Nat.add_zero, cut_back s sep i hix]
theorem cut_two (s : ByteArray) (k : Nat) (hk : k ≤ s.size) : s.extract 0 k ++ s.extract k s.size = s := by
  apply bytes_ext
  rw [app_data, extract_from_zero, extract_to_end, List.take_append_drop]
theorem expl_join : ∀ (n : Nat) (s : ByteArray), jn ⟨#[]⟩ (expl (n + 1) s) = s
  | 0, _ => rfl
  | n + 1, s => by
    rw [expl]
    have ih := expl_join n (s.extract (decodeGo s).2 s.size)
    have hne : ∃ x r, expl (n + 1) (s.extract (decodeGo s).2 s.size) = x :: r := by
      cases n with
      | zero => exact ⟨_, _, rfl⟩
      | succ n => exact ⟨_, _, rfl⟩
    obtain ⟨x, r, hx⟩ := hne
    rw [hx] at ih ⊢
    rw [jn_cons, ih]
    have e : s.extract 0 (decodeGo s).2 ++ (⟨#[]⟩ : ByteArray) = s.extract 0 (decodeGo s).2 := by
      apply bytes_ext
      rw [app_data]
      simp
    rw [e, cut_two s _ (decodeGo_le s)]
theorem runeCount_pos (s : ByteArray) (h : 1 ≤ s.size) : 1 ≤ runeCount s := by
  unfold runeCount
  obtain ⟨m, hm⟩ : ∃ m, s.size = m + 1 := ⟨s.size - 1, by omega⟩
  rw [hm]
  unfold runeCountFrom
  rw [if_pos (by omega)]
  omega
/-- What Split hands back. -/
def splitL (s sep : ByteArray) : List ByteArray :=
  if okS s = false ∨ okS sep = false then [] else if s.size = 0 then [] else if sep.size = 0 then expl (runeCount s) s else splitB sep 0 (countB s sep) s
def splitB? (s sep : ByteArray) : Bool := okS s && okS sep
theorem splitL_join (s sep : ByteArray) (h : splitB? s sep = true) : jn sep (splitL s sep) = s := by
  unfold splitB? at h
  rw [Bool.and_eq_true] at h
  unfold splitL
  rw [if_neg (by simp [h.1, h.2])]
  by_cases h0 : s.size = 0
  · rw [if_pos h0, size0 h0]; rfl
  · rw [if_neg h0]
    by_cases h1 : sep.size = 0
    · rw [if_pos h1, size0 h1]
      have := runeCount_pos s (by omega)
      obtain ⟨m, hm⟩ : ∃ m, runeCount s = m + 1 := ⟨runeCount s - 1, by omega⟩
      rw [hm, expl_join]
    · rw [if_neg h1]; exact split_join sep _ s
theorem splitL_len (s sep : ByteArray) : (splitL s sep).length ≤ s.size + 1 := by
  unfold splitL
  split
  · simp
  · split
    · simp
    · split
      · rw [expl_length]; have := runeCount_le s; omega
      · rename_i h
        rw [splitB_all sep (by omega) 0 _ s rfl]
        have := countB_le sep (by omega) s.size s (Nat.le_refl _)
        omega
theorem fold_size (sep : ByteArray) : ∀ (r : List ByteArray) (a : ByteArray), a.size ≤ (r.foldl (joinAt sep) a).size
  | [], _ => Nat.le_refl _
  | y :: r, a => by
    rw [List.foldl_cons]
    have := fold_size sep r (joinAt sep a y)
    unfold joinAt at this
    simp only [ByteArray.size_append] at this
    unfold joinAt
    omega
theorem jn_mono (sep : ByteArray) (a b : List ByteArray) : (jn sep a).size ≤ (jn sep (a ++ b)).size := by
  cases a with
  | nil => exact Nat.zero_le _
  | cons x r =>
    show (r.foldl (joinAt sep) x).size ≤ ((r ++ b).foldl (joinAt sep) x).size
    rw [List.foldl_append]
    exact fold_size sep b _
/-- A round of the loop that joins. -/
theorem jn_take (sep : ByteArray) (l : List ByteArray) (i : Nat) (x : ByteArray) (hx : l[i]? = some x) : jn sep (l.take (i + 1)) = if i = 0 then x else jn sep (l.take i) ++ sep ++ x := by
  have h1 : l.take (i + 1) = l.take i ++ [x] := by rw [List.take_add_one, hx]; rfl
  rw [h1]
  by_cases h : i = 0
  · subst h; rw [if_pos rfl]; rfl
  · rw [if_neg h, jn_snoc sep]
    intro e
    have h2 : i < l.length := (List.getElem?_eq_some_iff.1 hx).1
    have h3 : (l.take i).length = 0 := by rw [e]; rfl
    rw [List.length_take] at h3
    omega
/-- A string n times. -/
def rep (s : ByteArray) (n : Nat) : ByteArray := ⟨(repeatL s.data.toList n).toArray⟩
theorem rep_size (s : ByteArray) (n : Nat) : (rep s n).size = s.size * n := by
  unfold rep
  rw [size_eq, size_eq s]
  show (repeatL s.data.toList n).length = _
  rw [repeatL_length, Nat.mul_comm]
theorem rep_zero (s : ByteArray) : rep s 0 = ⟨#[]⟩ := rfl
theorem rep_succ (s : ByteArray) (n : Nat) : rep s (n + 1) = s ++ rep s n := by
  apply bytes_ext
  rw [app_data]
  simp [rep, repeatL]
theorem rep_ok {s : ByteArray} (h : okS s = true) : ∀ n, okS (rep s n) = true
  | 0 => by rw [rep_zero]; decide
  | n + 1 => by rw [rep_succ]; exact okS_app h (rep_ok h n)
/-- What repeat hands back. -/
def repR (s : ByteArray) (n : Int) : V × Int :=
  if n < 1 then (vnull, 0) else if s.size = 0 then (strR ⟨#[]⟩, strE ⟨#[]⟩) else if n > 4096 / (s.size : Int) then (vnull, 2) else (strR (rep s n.toNat), strE (rep s n.toNat))
end Go.Proofs.YtgdnkankleoaoaaGreatDoor
namespace Go.Proofs.YtgdnkankleoaoaaGreatDoor
open Go.RowKit Go.Sort
/-- The two tables of unicode/utf8 hold what their initialisers lay. -/
def Tabs (w : World) : Prop := Lib.Utf8Tabs 1 2 w
theorem Tabs.next {w W : World} (h : Tabs w) (hb : Below w.heap.size w W) : Tabs W := tabs_below h hb
theorem split_lib0 (s sep : ByteArray) (w : World) (hT : Tabs w) (h0 : sep.size = 0) (hs : s.size < 4294967281) :
    Calls Tryz.prog 126 #[.string s, .string sep] w (ExpPost 9 (expl (Lib.runeCount s) s) w) :=
  split_empty_gen (ρ := Tryz.spl_ren) { Tryz.spl with } Tryz.spl.i9 s sep w h0 hs hT
theorem rs_boxs {w : World} {t : TypeId} {g : Nat} {l : List ByteArray} {S : Nat → Prop} (h : Box w g t (kv l).toArray) (hS : S g) : Rs w S (some ⟨g, 0, none⟩) (kv l) := by
  intro j u hj
  refine ⟨g, 0, rfl, hS, ?_⟩
  rw [Nat.zero_add]
  exact h.cell (by simpa using hj)
set_option maxHeartbeats 2000000 in
set_option maxRecDepth 100000 in
theorem split_any (s sep : ByteArray) (w : World) (hm : MaxL w) (hT : Tabs w) (hs : s.size ≤ 1048576) (hsep : sep.size ≤ 1048576) :
    Calls Tryz.prog 22 #[.string s, .string sep] w (SplitPost (splitL s sep) (splitB? s sep) w) := by
  have hv := Lib.hid (fun W => val_any s (by unfold maxLen; omega) W)
  have hu := Lib.hid (fun W => val_any sep (by unfold maxLen; omega) W)
  have hE : s.toList.isEmpty = decide (s.size = 0) := by
    rw [Lib.toList_data, Lib.size_eq]
    cases s.data.toList <;> simp
  by_cases ho : okS s = true
  · have e1 : (runes s.data.toList).isSome = true := ho
    rw [e1] at hv
    by_cases hp : okS sep = true
    · have e2 : (runes sep.data.toList).isSome = true := hp
      rw [e2] at hu
      have hb : splitB? s sep = true := by unfold splitB?; rw [ho, hp]; rfl
      rw [hb]
      by_cases h0 : s.size = 0
      · rw [decide_eq_true h0] at hE
        have hl : splitL s sep = [] := by unfold splitL; rw [if_neg (by simp [ho, hp]), if_pos h0]
        rw [hl]
        clear e1 e2 ho hp hb hl h0
        go_enter Tryz.func22, Tryz.ntmps22
        go_wp2_with (first
          | (go_at_call 125; with_reducible refine (hv.out _).mono ?_; rintro e1 w1 ⟨rfl, rfl⟩)
          | (go_at_call 125; with_reducible refine (hu.out _).mono ?_; rintro e2 w2 ⟨rfl, rfl⟩))
        go_ret2
        exact ⟨Below.refl _ _, none, 0, rfl, Rs.nil _ _ _, fun _ => rfl, Nat.le_refl _, Nat.zero_le _⟩
      · rw [decide_eq_false h0] at hE
        by_cases h1 : sep.size = 0
        · have hl : splitL s sep = expl (Lib.runeCount s) s := by unfold splitL; rw [if_neg (by simp [ho, hp]), if_neg h0, if_pos h1]
          have hc := Lib.hid (split_lib0 s sep w hT h1 (by omega))
          have hle := Lib.runeCount_le s
          have hll := expl_length (Lib.runeCount s) s
          rw [hl]
          generalize expl (Lib.runeCount s) s = l at hc hll ⊢
          have hll2 : l.length ≤ 1048576 := by omega
          clear e1 e2 ho hp hb hl h0 hll hle
          go_enter Tryz.func22, Tryz.ntmps22
          go_wp2_with (first
            | (go_at_call 125; with_reducible refine (hv.out _).mono ?_; rintro e1 w1 ⟨rfl, rfl⟩)
            | (go_at_call 125; with_reducible refine (hu.out _).mono ?_; rintro e2 w2 ⟨rfl, rfl⟩)
            | (go_at_call 126; refine hc.out.mono ?_; rintro e3 w3 ⟨g, hg, rfl, hb3, hx3⟩))
          go_ret2
          exact ⟨hb3, _, _, rfl, rs_boxs hx3 ⟨hg, hx3.lt⟩, (fun h => by cases h), Nat.le_refl _, by unfold maxLen; omega⟩
        · have hl : splitL s sep = pieces s sep := by unfold splitL; rw [if_neg (by simp [ho, hp]), if_neg h0, if_neg h1]; rfl
          rw [hl]
          exact split_sep s sep w hm (by omega) (by omega) (by omega) ho hp h0
    · have hp' : okS sep = false := by simpa using hp
      have e2 : (runes sep.data.toList).isSome = false := hp'
      rw [e2] at hu
      have hb : splitB? s sep = false := by unfold splitB?; rw [ho, hp']; rfl
      have hl : splitL s sep = [] := by unfold splitL; rw [if_pos (.inr hp')]
      rw [hb, hl]
      clear e1 e2 ho hp hb hl hE hp'
      go_enter Tryz.func22, Tryz.ntmps22
      go_wp2_with (first
        | (go_at_call 125; with_reducible refine (hv.out _).mono ?_; rintro e1 w1 ⟨rfl, rfl⟩)
        | (go_at_call 125; with_reducible refine (hu.out _).mono ?_; rintro e2 w2 ⟨rfl, rfl⟩))
      go_ret2
      exact ⟨Below.refl _ _, none, 0, rfl, Rs.nil _ _ _, fun _ => rfl, Nat.le_refl _, Nat.zero_le _⟩
  · have ho' : okS s = false := by simpa using ho
    have e1 : (runes s.data.toList).isSome = false := ho'
    rw [e1] at hv
    have hb : splitB? s sep = false := by unfold splitB?; rw [ho']; rfl
    have hl : splitL s sep = [] := by unfold splitL; rw [if_pos (.inl ho')]
    rw [hb, hl]
    clear e1 ho hb hl hE ho'
    go_enter Tryz.func22, Tryz.ntmps22
    go_wp2_with (first
      | (go_at_call 125; with_reducible refine (hv.out _).mono ?_; rintro e1 w1 ⟨rfl, rfl⟩))
    go_ret2
    exact ⟨Below.refl _ _, none, 0, rfl, Rs.nil _ _ _, fun _ => rfl, Nat.le_refl _, Nat.zero_le _⟩
end Go.Proofs.YtgdnkankleoaoaaGreatDoor

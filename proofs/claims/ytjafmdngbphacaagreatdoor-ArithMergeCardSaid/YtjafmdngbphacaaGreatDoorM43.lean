/- strings.explode, and strings.Split at the empty separator, at every string: the library's own text walked, over any program that lays it. Joining pieces with a separator; repeating a string. Nothing of the program is named here. arith.Split at every string. strings.Repeat: the library's contract, laid at this program. arith.repeat at every string and number; products of strings and numbers. -/
import Derived.Shelf.Strings.Split
import Derived.Shelf.Utf8.RuneCount
import Derived.Shelf.Unicode.DecodeAny
import Derived.Lib.SplitLaws
import Derived.Lib.Hide
import Derived.Deep.LoopGhost
import Derived.Test.YtjafmdngbphacaaGreatDoorM07
import Derived.Test.YtjafmdngbphacaaGreatDoorM01
import Derived.Test.YtjafmdngbphacaaGreatDoorM25
import Derived.Lib.IndexMore
import Derived.Lib.RepeatB
import Derived.Test.YtjafmdngbphacaaGreatDoorM40
import Derived.Shelf.Lays
import Derived.Shelf.Strings.Repeat
import Derived.Ground.NamesProg
import Derived.Test.YtjafmdngbphacaaGreatDoorRows
import Derived.Test.YtjafmdngbphacaaGreatDoorM27
set_option linter.unusedVariables false
set_option linter.unusedSimpArgs false
namespace Go.Proofs.YtjafmdngbphacaaGreatDoor
open Go.Shelf Go.RowKit Go.Lib Go.Proofs
variable {P : Program} {ρ : Ren}
theorem tabs_below {g3 g4 : Nat} {w w' : World} (h : Lib.Utf8Tabs g3 g4 w) (hb : Below w.heap.size w w') : Lib.Utf8Tabs g3 g4 w' := by
  refine ⟨fun c hc => ?_, fun i hi => ⟨?_, ?_⟩⟩
  · exact (hb.cell (p := ⟨g3, c, none⟩) (World.block_lt_of_cell? w _ (h.1 c hc))).trans (h.1 c hc)
  · exact (hb.cell (p := ⟨g4, 2 * i, none⟩) (World.block_lt_of_cell? w _ (h.2 i hi).1)).trans (h.2 i hi).1
  · exact (hb.cell (p := ⟨g4, 2 * i + 1, none⟩) (World.block_lt_of_cell? w _ (h.2 i hi).2)).trans (h.2 i hi).2
end Go.Proofs.YtjafmdngbphacaaGreatDoor
namespace Go.Proofs.YtjafmdngbphacaaGreatDoor
open Go.RowKit Go.Lib
/-- The pieces between the occurrences of another string. -/
def joinAt (sep : ByteArray) (t y : ByteArray) : ByteArray := t ++ sep ++ y
/-- The pieces joined with the separator. -/
def jn (sep : ByteArray) : List ByteArray → ByteArray
  | [] => ⟨#[]⟩
  | x :: r => r.foldl (joinAt sep) x
theorem bytes_ext {a b : ByteArray} (h : a.data.toList = b.data.toList) : a = b := by
  cases a with | mk x => cases b with | mk y => cases x; cases y; simpa using h
theorem app_data (a b : ByteArray) : (a ++ b).data.toList = a.data.toList ++ b.data.toList := by simp
/-- A string n times. -/
def rep (s : ByteArray) (n : Nat) : ByteArray := ⟨(repeatL s.data.toList n).toArray⟩
theorem rep_size (s : ByteArray) (n : Nat) : (rep s n).size = s.size * n := by
  unfold rep
  rw [size_eq, size_eq s]
  show (repeatL s.data.toList n).length = _
  rw [repeatL_length, Nat.mul_comm]
theorem rep_zero (s : ByteArray) : rep s 0 = ⟨#[]⟩ := rfl
theorem rep_succ (s : ByteArray) (n : Nat) : rep s (n + 1) = s ++ rep s n := by
  apply bytes_ext
  rw [app_data]
  simp [rep, repeatL]
theorem rep_ok {s : ByteArray} (h : okS s = true) : ∀ n, okS (rep s n) = true
  | 0 => by rw [rep_zero]; decide
  | n + 1 => by rw [rep_succ]; exact okS_app h (rep_ok h n)
/-- What repeat hands back. -/
def repR (s : ByteArray) (n : Int) : V × Int :=
  if n < 1 then (vnull, 0) else if s.size = 0 then (strR ⟨#[]⟩, strE ⟨#[]⟩) else if n > 4096 / (s.size : Int) then (vnull, 2) else (strR (rep s n.toNat), strE (rep s n.toNat))
end Go.Proofs.YtjafmdngbphacaaGreatDoor
namespace Go.Proofs.YtjafmdngbphacaaGreatDoor
open Go.RowKit Go.Sort
/-- The two tables of unicode/utf8 hold what their initialisers lay. -/
def Tabs (w : World) : Prop := Lib.Utf8Tabs 1 2 w
theorem Tabs.next {w W : World} (h : Tabs w) (hb : Below w.heap.size w W) : Tabs W := tabs_below h hb
end Go.Proofs.YtjafmdngbphacaaGreatDoor
namespace Go.Proofs
open Go.Shelf Go.RowKit
def Tryz.rpt_ren : Go.Shelf.Ren := ⟨fun | 105 => 175 | 212 => 217 | 99 => 218 | 165 => 209 | 166 => 210 | 170 => 219 | 169 => 211 | 263 => 256 | 264 => 257 | 206 => 258 | 240 => 249 | 241 => 250 | 276 => 289 | 277 => 290 | n => n, fun | 9 => 9 | 3 => 3 | 4 => 4 | 20 => 20 | 0 => 0 | 46 => 111 | 109 => 171 | 5 => 5 | 72 => 159 | 76 => 163 | 51 => 199 | 146 => 200 | 53 => 59 | 148 => 202 | 70 => 157 | 37 => 64 | 75 => 162 | 127 => 190 | 164 => 217 | 80 => 165 | n => n, fun | n => n⟩
theorem Tryz.rpt : Go.Proofs.Lays.n105 Tryz.prog Tryz.rpt_ren := {
  mixed := by kernel_rfl
  f99 := Tryz.func218.trans (congrArg some (by kernel_rfl))
  f105 := Tryz.func175.trans (congrArg some (by kernel_rfl))
  f165 := Tryz.func209.trans (congrArg some (by kernel_rfl))
  f166 := Tryz.func210.trans (congrArg some (by kernel_rfl))
  f169 := Tryz.func211.trans (congrArg some (by kernel_rfl))
  f170 := Tryz.func219.trans (congrArg some (by kernel_rfl))
  f206 := Tryz.func258.trans (congrArg some (by kernel_rfl))
  f212 := Tryz.func217.trans (congrArg some (by kernel_rfl))
  f240 := Tryz.func249.trans (congrArg some (by kernel_rfl))
  f241 := Tryz.func250.trans (congrArg some (by kernel_rfl))
  f263 := Tryz.func256.trans (congrArg some (by kernel_rfl))
  f264 := Tryz.func257.trans (congrArg some (by kernel_rfl))
  f276 := Tryz.func289.trans (congrArg some (by kernel_rfl))
  f277 := Tryz.func290.trans (congrArg some (by kernel_rfl))
  t0 := Tryz.underlying0
  a0 := Tryz.isAgg0
  z0 := Tryz.sizeOf0
  v0 := Tryz.zeroValue0
  t3 := Tryz.underlying3
  a3 := Tryz.isAgg3
  z3 := Tryz.sizeOf3
  v3 := Tryz.zeroValue3
  t4 := Tryz.underlying4
  a4 := Tryz.isAgg4
  z4 := Tryz.sizeOf4
  v4 := Tryz.zeroValue4
  t5 := Tryz.underlying5
  a5 := Tryz.isAgg5
  z5 := Tryz.sizeOf5
  v5 := Tryz.zeroValue5
  t9 := Tryz.underlying9
  a9 := Tryz.isAgg9
  z9 := Tryz.sizeOf9
  v9 := Tryz.zeroValue9
  t20 := Tryz.underlying20
  a20 := Tryz.isAgg20
  z20 := Tryz.sizeOf20
  v20 := Tryz.zeroValue20
  t37 := Tryz.underlying64
  a37 := Tryz.isAgg64
  z37 := Tryz.sizeOf64
  v37 := Tryz.zeroValue64
  t46 := Tryz.underlying111
  a46 := Tryz.isAgg111
  z46 := Tryz.sizeOf111
  v46 := Tryz.zeroValue111
  t51 := Tryz.underlying199
  a51 := Tryz.isAgg199
  z51 := Tryz.sizeOf199
  v51 := Tryz.zeroValue199
  t53 := Tryz.underlying59
  a53 := Tryz.isAgg59
  z53 := Tryz.sizeOf59
  v53 := Tryz.zeroValue59
  t70 := Tryz.underlying157
  a70 := Tryz.isAgg157
  z70 := Tryz.sizeOf157
  v70 := Tryz.zeroValue157
  t72 := Tryz.underlying159
  a72 := Tryz.isAgg159
  z72 := Tryz.sizeOf159
  v72 := Tryz.zeroValue159
  t75 := Tryz.underlying162
  a75 := Tryz.isAgg162
  z75 := Tryz.sizeOf162
  v75 := Tryz.zeroValue162
  t76 := Tryz.underlying163
  a76 := Tryz.isAgg163
  z76 := Tryz.sizeOf163
  v76 := Tryz.zeroValue163
  t109 := Tryz.underlying171
  a109 := Tryz.isAgg171
  z109 := Tryz.sizeOf171
  v109 := Tryz.zeroValue171
  t127 := Tryz.underlying190
  a127 := Tryz.isAgg190
  z127 := Tryz.sizeOf190
  v127 := Tryz.zeroValue190
  t146 := Tryz.underlying200
  a146 := Tryz.isAgg200
  z146 := Tryz.sizeOf200
  v146 := Tryz.zeroValue200
  t148 := Tryz.underlying202
  a148 := Tryz.isAgg202
  z148 := Tryz.sizeOf202
  v148 := Tryz.zeroValue202
  t164 := Tryz.underlying217
  a164 := Tryz.isAgg217
  z164 := Tryz.sizeOf217
  v164 := Tryz.zeroValue217 }


theorem Tryz.rpt_extra : Builder.Extra Tryz.prog Tryz.rpt_ren := {
  sizeBuilder := by kernel_rfl
  liesBuilder := by kernel_rfl
  t5 := Tryz.underlying5
  a5 := Tryz.isAgg5
  z5 := Tryz.sizeOf5
  v5 := Tryz.zeroValue5
  infoByte := by kernel_rfl
  cellsByte := by kernel_rfl
  sizeByte := by kernel_rfl
  neB5 := by decide }
end Go.Proofs
namespace Go.Proofs.YtjafmdngbphacaaGreatDoor
open Go.RowKit
theorem repeat_lib (s : ByteArray) (n : Nat) (w : World) (hn : n ≤ 9223372036854775807) (hl : s.size * n ≤ 140737488355328) :
    Calls Tryz.prog 175 #[.string s, .int .i64 (n : Int)] w fun e w' => e = .returned (.string (rep s n)) ∧ Below w.heap.size w w' :=
  Go.Proofs.Any.strings_Repeat Tryz.rpt Tryz.rpt_extra s n w hn hl
end Go.Proofs.YtjafmdngbphacaaGreatDoor
namespace Go.Proofs.YtjafmdngbphacaaGreatDoor
open Go.RowKit Go.Sort
set_option maxHeartbeats 4000000 in
set_option maxRecDepth 100000 in
theorem repeat_any (s : ByteArray) (n : Int) (hn : n ≤ 9223372036854775807) (w : World) (hs : s.size ≤ 4096) : Calls Tryz.prog 130 #[.string s, .int .i64 n] w (RetPost (repR s n).1 (repR s n).2 w) := by
  have hE : s.toList.isEmpty = decide (s.size = 0) := by
    rw [Lib.toList_data, Lib.size_eq]
    cases s.data.toList <;> simp
  unfold repR
  by_cases h1 : n < 1
  · rw [if_pos h1]
    go_enter Tryz.func130, Tryz.ntmps130
    go_wp2_with fail
    refine bodyPost_ret (v := .tuple #[.agg #[.int .i64 0, .int .i64 0, .string ⟨#[]⟩, .slice none 0 0, .slice none 0 0], .int .i64 0]) (by simp [results, Tryz.results130, go_sem]) rfl ?_
    exact ret_of (ds := [.int .i64 0, .int .i64 0, .string ⟨#[]⟩, .slice none 0 0, .slice none 0 0]) ((Below.refl _ _).alloc (Nat.le_refl _) _) (lies_null _ _)
  · rw [if_neg h1]
    by_cases h0 : s.size = 0
    · rw [if_pos h0]
      rw [decide_eq_true h0] at hE
      have HC := Lib.hid (fun W => ret_open (str_any ⟨#[]⟩ W (by decide)))
      generalize strR ⟨#[]⟩ = r at HC ⊢
      generalize strE ⟨#[]⟩ = er at HC ⊢
      go_enter Tryz.func130, Tryz.ntmps130
      go_wp2_with fail
      refine (HC.out _).mono ?_
      rintro e1 w1 ⟨rk, rn, rs, rks, res, RA, ra, RC, rc, hrv, rfl, hb1, hl1⟩
      have H1 : Hid (Below w.heap.size w w1 ∧ Box w1 w.heap.size 25 #[.int .i64 0, .int .i64 0, .string ⟨#[]⟩, .slice none 0 0, .slice none 0 0]) := Lib.hid ⟨(chain (below1 w _) hb1), ((Box.laid w _ _).below hb1 (by simp))⟩
      have HL := Lib.hid hl1
      clear hb1 hl1 hrv
      obtain ⟨t0, t1, t2, t3, t4⟩ := box5 H1.out.2
      have z0 := H1.out.2.free 0
      have z1 := H1.out.2.free 1
      have z2 := H1.out.2.free 2
      have z3 := H1.out.2.free 3
      have z4 := H1.out.2.free 4
      go_wp2_with fail
      refine bodyPost_ret (v := .tuple #[.agg #[.int .i64 rk, .int .i64 rn, .string rs, .slice RA rks.length ra, .slice RC res.length rc], .int .i64 er]) (by simp [results, Tryz.results130, go_sem, t0, t1, t2, t3, t4]) rfl ?_
      exact ret_put H1.out.1 (Nat.le_refl _) H1.out.2.lt (HL.out.move fun b hb => ⟨⟨by have := hb.1; simp at this; omega, hb.2, by have := hb.1; simp at this; omega⟩, rfl⟩)
    · rw [if_neg h0]
      rw [decide_eq_false h0] at hE
      have hd : (4096 : Int) / (s.size : Int) = ((4096 / s.size : Nat) : Int) := by rw [Int.natCast_ediv]; rfl
      have hd2 : 4096 / s.size ≤ 4096 := Nat.div_le_self _ _
      have hpos : 1 ≤ s.size := by omega
      have hT : Int.tdiv 4096 (s.size : Int) = ((4096 / s.size : Nat) : Int) := by rw [← hd]; exact Int.tdiv_eq_ediv_of_nonneg (by decide)
      rw [hd]
      by_cases hb : n > ((4096 / s.size : Nat) : Int)
      · rw [if_pos hb]
        have HB := Lib.hid hb
        have hz : ((s.size : Int) == 0) = false := beq_eq_false_iff_ne.2 (by omega)
        have hz2 : ¬ ((s.size : Int) = 0) := by omega
        generalize hq : 4096 / s.size = q at *
        have hb' : (q : Int) < n := hb
        go_enter Tryz.func130, Tryz.ntmps130
        go_wp2_with fail
        refine bodyPost_ret (v := .tuple #[.agg #[.int .i64 0, .int .i64 0, .string ⟨#[]⟩, .slice none 0 0, .slice none 0 0], .int .i64 2]) (by simp [results, Tryz.results130, go_sem]) rfl ?_
        exact ret_of (ds := [.int .i64 0, .int .i64 0, .string ⟨#[]⟩, .slice none 0 0, .slice none 0 0]) ((Below.refl _ _).alloc (Nat.le_refl _) _) (lies_null _ _)
      · rw [if_neg hb]
        obtain ⟨m, rfl⟩ : ∃ m : Nat, n = m := ⟨n.toNat, by omega⟩
        have hle : m ≤ 4096 / s.size := by omega
        have hm2 : s.size * m ≤ 4096 := by
          have h3 : m * s.size ≤ 4096 / s.size * s.size := Nat.mul_le_mul_right _ hle
          have h4 := Nat.div_mul_le_self 4096 s.size
          rw [Nat.mul_comm]
          omega
        have hR := Lib.hid (fun W => repeat_lib s m W (by omega) (by omega))
        rw [Int.toNat_natCast]
        have hsz := rep_size s m
        have HC := Lib.hid (fun W => ret_open (str_any (rep s m) W (by omega)))
        generalize strR (rep s m) = r at HC ⊢
        generalize strE (rep s m) = er at HC ⊢
        generalize rep s m = u at *
        have hz : ((s.size : Int) == 0) = false := beq_eq_false_iff_ne.2 (by omega)
        have hz2 : ¬ ((s.size : Int) = 0) := by omega
        generalize hq : 4096 / s.size = q at *
        have hb' : ¬ ((q : Int) < (m : Int)) := hb
        clear hsz hm2
        go_enter Tryz.func130, Tryz.ntmps130
        go_wp2_with fail
        refine (hR.out _).mono ?_
        rintro e0 w0 ⟨rfl, hb0⟩
        have HB0 := Lib.hid hb0
        clear hb0
        go_wp2_with fail
        refine (HC.out _).mono ?_
        rintro e1 w1 ⟨rk, rn, rs, rks, res, RA, ra, RC, rc, hrv, rfl, hb1, hl1⟩
        have H1 : Hid (Below w.heap.size w w1 ∧ Box w1 w.heap.size 25 #[.int .i64 0, .int .i64 0, .string ⟨#[]⟩, .slice none 0 0, .slice none 0 0]) := Lib.hid ⟨(chain (below1 w _) (chain HB0.out hb1)), ((Box.laid w _ _).below (chain HB0.out hb1) (by simp))⟩
        have HL := Lib.hid hl1
        have hz0 : w.heap.size + 1 ≤ w0.heap.size := by have := HB0.out.size; simpa using this
        clear hb1 hl1 hrv
        obtain ⟨t0, t1, t2, t3, t4⟩ := box5 H1.out.2
        have z0 := H1.out.2.free 0
        have z1 := H1.out.2.free 1
        have z2 := H1.out.2.free 2
        have z3 := H1.out.2.free 3
        have z4 := H1.out.2.free 4
        go_wp2_with fail
        refine bodyPost_ret (v := .tuple #[.agg #[.int .i64 rk, .int .i64 rn, .string rs, .slice RA rks.length ra, .slice RC res.length rc], .int .i64 er]) (by simp [results, Tryz.results130, go_sem, t0, t1, t2, t3, t4]) rfl ?_
        exact ret_put H1.out.1 (Nat.le_refl _) H1.out.2.lt (HL.out.move fun b hb => ⟨⟨by have := hb.1; omega, hb.2, by have := hb.1; omega⟩, rfl⟩)

set_option maxHeartbeats 4000000 in
set_option maxRecDepth 100000 in
theorem mul_sn (n n2 : Int) (s s2 : ByteArray) (A B A2 B2 : Option Addr) (la a lb b la2 a2 lb2 b2 : Nat) (w : World) (r : V) (er : Int) (hc : ∀ W, Below w.heap.size w W → Calls Tryz.prog 130 #[.string s, .int .i64 n2] W (RetPost r er W)) :
    Calls Tryz.prog 71 #[.agg #[.int .i64 4, .int .i64 n, .string s, .slice A la a, .slice B lb b], .agg #[.int .i64 3, .int .i64 n2, .string s2, .slice A2 la2 a2, .slice B2 lb2 b2]] w (RetPost r er w) := by
  have EQ := eq_pair
  have HC := Lib.hid (fun W hW => ret_open (hc W hW))
  have H0 := Lib.hid (B3.start w #[.int .i64 4, .int .i64 n, .string s, .slice A la a, .slice B lb b] #[.int .i64 3, .int .i64 n2, .string s2, .slice A2 la2 a2, .slice B2 lb2 b2])
  clear hc
  go_enter Tryz.func71, Tryz.ntmps71
  go_wp2_with fail
  refine (HC.out _ H0.out.below).mono ?_
  rintro e1 w1 ⟨rk, rn, rs, rks, res, RA, ra, RC, rc, hrv, rfl, hb1, hl1⟩
  have H1 := Lib.hid (H0.out.next hb1)
  have HL := Lib.hid hl1
  have hs2 := H0.out.r.lt
  have hs3 := H0.out.below.size
  clear hb1 hl1 hrv
  obtain ⟨t0, t1, t2, t3, t4⟩ := box5 H1.out.r
  have z0 := H1.out.r.free 0
  have z1 := H1.out.r.free 1
  have z2 := H1.out.r.free 2
  have z3 := H1.out.r.free 3
  have z4 := H1.out.r.free 4
  go_wp2_with fail
  refine bodyPost_ret (v := .tuple #[.agg #[.int .i64 rk, .int .i64 rn, .string rs, .slice RA rks.length ra, .slice RC res.length rc], .int .i64 er]) (by simp [results, Tryz.results71, go_sem, t0, t1, t2, t3, t4]) rfl ?_
  exact ret_put H1.out.below (by omega) H1.out.r.lt (HL.out.move fun b hb => ⟨⟨by omega, hb.2, by omega⟩, rfl⟩)
set_option maxHeartbeats 4000000 in
set_option maxRecDepth 100000 in
theorem mul_ns (n n2 : Int) (s s2 : ByteArray) (A B A2 B2 : Option Addr) (la a lb b la2 a2 lb2 b2 : Nat) (w : World) (r : V) (er : Int) (hc : ∀ W, Below w.heap.size w W → Calls Tryz.prog 130 #[.string s2, .int .i64 n] W (RetPost r er W)) :
    Calls Tryz.prog 71 #[.agg #[.int .i64 3, .int .i64 n, .string s, .slice A la a, .slice B lb b], .agg #[.int .i64 4, .int .i64 n2, .string s2, .slice A2 la2 a2, .slice B2 lb2 b2]] w (RetPost r er w) := by
  have EQ := eq_pair
  have HC := Lib.hid (fun W hW => ret_open (hc W hW))
  have H0 := Lib.hid (B3.start w #[.int .i64 3, .int .i64 n, .string s, .slice A la a, .slice B lb b] #[.int .i64 4, .int .i64 n2, .string s2, .slice A2 la2 a2, .slice B2 lb2 b2])
  clear hc
  go_enter Tryz.func71, Tryz.ntmps71
  go_wp2_with fail
  refine (HC.out _ H0.out.below).mono ?_
  rintro e1 w1 ⟨rk, rn, rs, rks, res, RA, ra, RC, rc, hrv, rfl, hb1, hl1⟩
  have H1 := Lib.hid (H0.out.next hb1)
  have HL := Lib.hid hl1
  have hs2 := H0.out.r.lt
  have hs3 := H0.out.below.size
  clear hb1 hl1 hrv
  obtain ⟨t0, t1, t2, t3, t4⟩ := box5 H1.out.r
  have z0 := H1.out.r.free 0
  have z1 := H1.out.r.free 1
  have z2 := H1.out.r.free 2
  have z3 := H1.out.r.free 3
  have z4 := H1.out.r.free 4
  go_wp2_with fail
  refine bodyPost_ret (v := .tuple #[.agg #[.int .i64 rk, .int .i64 rn, .string rs, .slice RA rks.length ra, .slice RC res.length rc], .int .i64 er]) (by simp [results, Tryz.results71, go_sem, t0, t1, t2, t3, t4]) rfl ?_
  exact ret_put H1.out.below (by omega) H1.out.r.lt (HL.out.move fun b hb => ⟨⟨by omega, hb.2, by omega⟩, rfl⟩)
end Go.Proofs.YtjafmdngbphacaaGreatDoor

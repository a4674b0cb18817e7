/- The program's stable sort of members. -/
import Derived.Shelf.SlSortCmp.InsertionK
import Derived.Shelf.SlGeneric
import Derived.Ground.SlsfProg
import Derived.Test.YtbojpopgjcmlbaaGreatDoorSortP
import Derived.Test.YtbojpopgjcmlbaaGreatDoorOrd
set_option linter.unusedVariables false
set_option linter.unusedSimpArgs false
namespace Go.Proofs
open Go.Shelf Go.RowKit Go.Lib Go.Sort
def Tryz.insl_ren : Go.Shelf.Ren := ⟨fun | 20 => 229 | n => n, fun | 24 => 177 | 22 => 175 | 3 => 3 | 25 => 179 | 4 => 4 | 0 => 0 | n => n, fun | n => n⟩
theorem Tryz.insl : Go.Proofs.SlLaysF0.n20 Tryz.prog Tryz.insl_ren := {
  mixed := by kernel_rfl
  f20 := ⟨Tryz.f229.name, by decide, Tryz.func229.trans (congrArg some (by kernel_rfl))⟩
  t0 := Tryz.underlying0
  a0 := Tryz.isAgg0
  z0 := Tryz.sizeOf0
  v0 := Tryz.zeroValue0
  t3 := Tryz.underlying3
  a3 := Tryz.isAgg3
  z3 := Tryz.sizeOf3
  v3 := Tryz.zeroValue3
  t4 := Tryz.underlying4
  a4 := Tryz.isAgg4
  z4 := Tryz.sizeOf4
  v4 := Tryz.zeroValue4
  t22 := Tryz.underlying175
  a22 := Tryz.isAgg175
  z22 := Tryz.sizeOf175
  v22 := Tryz.zeroValue175
  t25 := Tryz.underlying179
  a25 := Tryz.isAgg179
  z25 := Tryz.sizeOf179
  v25 := Tryz.zeroValue179 }

end Go.Proofs
namespace Go.Proofs.YtbojpopgjcmlbaaGreatDoor
open Go.RowKit Go.Sort
set_option maxHeartbeats 1000000 in
/-- The comparison of two members: two blocks are laid. -/
theorem order_members (x y : Mb) (W : World) : Calls Tryz.prog 179 #[.agg x.six.toArray, .agg y.six.toArray] W fun e w' => e = .returned (.int .i64 (mcf x y)) ∧ ∃ q os', w' = grow (W.drewN q) os' := by
  have hcon := fun W' => cmp_strings x.key y.key W'
  unfold mcf
  generalize scmp x.key y.key = r at hcon ⊢
  obtain ⟨k1, k, n, s, ks, es, A, a, B, b⟩ := x
  obtain ⟨k2, l, o, t, ls, fs, C, c, D, d⟩ := y
  simp only [Mb.six, Mb.five] at *
  go_enter Tryz.func179, Tryz.ntmps179
  go_wp2_with (go_at_call 102; refine (hcon _).mono ?_; rintro e w' ⟨rfl, rfl⟩)
  go_ret
  exact ⟨rfl, 0, _, by rw [alloc_eq_grow, alloc_eq_grow, grow_grow]; rfl⟩
theorem mlays (blk off size : Nat) (w : World) : CmpLays Tryz.prog 179 #[] Mb.six 6 mcf blk off size w := fun _ _ _ _ x y => order_members x y _
/-- The insertion sort of a row of members. -/
theorem ins_any (g cap a b : Nat) (d : Array Mb) (w : World) (hH : HoldsK Mb.six 6 w g 0 d) (hg : g < w.heap.size) (hab : a ≤ b) (hb : b ≤ d.size) (hsz : d.size < 4611686018427387904) :
    Calls Tryz.prog 229 #[.slice (some ⟨g, 0, none⟩) d.size cap, .int .i64 a, .int .i64 b, .func (.func 179) #[] #[]] w fun e w' =>
      e = .returned (.tuple #[]) ∧ ∃ n os, w' = sortWorldK Mb.six 6 w g 0 n (Sort.insertionSort (Go.Proofs.ltOf mcf) d a b) os := by
  have eg : ∀ args w, (callFunc 179 args).run Tryz.prog w = .ok (.enter 179 args) w := enters_of Tryz.func179 (by kernel_rfl) rfl
  exact AnyQ.insertionSortCmpFunc Tryz.insl 6 Tryz.isAgg177 Tryz.sizeOf177 Mb.six six_len six_one mcf 179 #[] g 0 cap a b d w eg (mlays g 0 d.size w) hH hg hab hb hsz
end Go.Proofs.YtbojpopgjcmlbaaGreatDoor

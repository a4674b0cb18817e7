/- strings.Map at text's two letters: the library's contract, laid at this program. -/
import Derived.Shelf.Lays
import Derived.Shelf.Strings.MapGrows
import Derived.Ground.NamesProg
import Derived.Test.YtjafmdngbphacaaGreatDoorC07
import Derived.Test.YtjafmdngbphacaaGreatDoorRows
import Derived.Test.YtjafmdngbphacaaGreatDoorC02
import Derived.Test.YtjafmdngbphacaaGreatDoorC45
import Derived.Test.YtjafmdngbphacaaGreatDoorC28
set_option linter.unusedVariables false
set_option linter.unusedSimpArgs false
namespace Go.Proofs
open Go.Shelf Go.RowKit
def Tryz.tmp230_ren : Go.Shelf.Ren := ⟨fun | 230 => 238 | 197 => 222 | 118 => 269 | 165 => 209 | 166 => 210 | 168 => 270 | 270 => 271 | 167 => 272 | 169 => 211 | 260 => 259 | 240 => 249 | 241 => 250 | 242 => 306 | 276 => 289 | 277 => 290 | 278 => 328 | n => n, fun | 107 => 187 | 9 => 9 | 72 => 159 | 0 => 0 | 4 => 4 | 3 => 3 | 21 => 21 | 105 => 176 | 76 => 163 | 5 => 5 | 75 => 162 | 70 => 157 | 20 => 20 | 37 => 64 | 127 => 190 | 119 => 230 | 46 => 111 | 139 => 233 | 138 => 232 | 164 => 217 | 51 => 199 | 80 => 165 | n => n, fun | 3 => 1 | 4 => 2 | n => n⟩
theorem Tryz.tmp230 : Go.Proofs.Lays.n230 Tryz.prog Tryz.tmp230_ren := {
  mixed := by kernel_rfl
  f118 := Tryz.func269.trans (congrArg some (by kernel_rfl))
  f165 := Tryz.func209.trans (congrArg some (by kernel_rfl))
  f166 := Tryz.func210.trans (congrArg some (by kernel_rfl))
  f167 := Tryz.func272.trans (congrArg some (by kernel_rfl))
  f168 := Tryz.func270.trans (congrArg some (by kernel_rfl))
  f169 := Tryz.func211.trans (congrArg some (by kernel_rfl))
  f197 := Tryz.func222.trans (congrArg some (by kernel_rfl))
  f230 := Tryz.func238.trans (congrArg some (by kernel_rfl))
  f240 := Tryz.func249.trans (congrArg some (by kernel_rfl))
  f241 := Tryz.func250.trans (congrArg some (by kernel_rfl))
  f242 := Tryz.func306.trans (congrArg some (by kernel_rfl))
  f260 := Tryz.func259.trans (congrArg some (by kernel_rfl))
  f270 := Tryz.func271.trans (congrArg some (by kernel_rfl))
  f276 := Tryz.func289.trans (congrArg some (by kernel_rfl))
  f277 := Tryz.func290.trans (congrArg some (by kernel_rfl))
  f278 := Tryz.func328.trans (congrArg some (by kernel_rfl))
  t0 := Tryz.underlying0
  a0 := Tryz.isAgg0
  z0 := Tryz.sizeOf0
  v0 := Tryz.zeroValue0
  t3 := Tryz.underlying3
  a3 := Tryz.isAgg3
  z3 := Tryz.sizeOf3
  v3 := Tryz.zeroValue3
  t4 := Tryz.underlying4
  a4 := Tryz.isAgg4
  z4 := Tryz.sizeOf4
  v4 := Tryz.zeroValue4
  t5 := Tryz.underlying5
  a5 := Tryz.isAgg5
  z5 := Tryz.sizeOf5
  v5 := Tryz.zeroValue5
  t9 := Tryz.underlying9
  a9 := Tryz.isAgg9
  z9 := Tryz.sizeOf9
  v9 := Tryz.zeroValue9
  t20 := Tryz.underlying20
  a20 := Tryz.isAgg20
  z20 := Tryz.sizeOf20
  v20 := Tryz.zeroValue20
  t21 := Tryz.underlying21
  a21 := Tryz.isAgg21
  z21 := Tryz.sizeOf21
  v21 := Tryz.zeroValue21
  t37 := Tryz.underlying64
  a37 := Tryz.isAgg64
  z37 := Tryz.sizeOf64
  v37 := Tryz.zeroValue64
  t46 := Tryz.underlying111
  a46 := Tryz.isAgg111
  z46 := Tryz.sizeOf111
  v46 := Tryz.zeroValue111
  t51 := Tryz.underlying199
  a51 := Tryz.isAgg199
  z51 := Tryz.sizeOf199
  v51 := Tryz.zeroValue199
  t70 := Tryz.underlying157
  a70 := Tryz.isAgg157
  z70 := Tryz.sizeOf157
  v70 := Tryz.zeroValue157
  t72 := Tryz.underlying159
  a72 := Tryz.isAgg159
  z72 := Tryz.sizeOf159
  v72 := Tryz.zeroValue159
  t75 := Tryz.underlying162
  a75 := Tryz.isAgg162
  z75 := Tryz.sizeOf162
  v75 := Tryz.zeroValue162
  t76 := Tryz.underlying163
  a76 := Tryz.isAgg163
  z76 := Tryz.sizeOf163
  v76 := Tryz.zeroValue163
  t105 := Tryz.underlying176
  a105 := Tryz.isAgg176
  z105 := Tryz.sizeOf176
  v105 := Tryz.zeroValue176
  t107 := Tryz.underlying187
  a107 := Tryz.isAgg187
  z107 := Tryz.sizeOf187
  v107 := Tryz.zeroValue187
  t119 := Tryz.underlying230
  a119 := Tryz.isAgg230
  z119 := Tryz.sizeOf230
  t127 := Tryz.underlying190
  a127 := Tryz.isAgg190
  z127 := Tryz.sizeOf190
  v127 := Tryz.zeroValue190
  t138 := Tryz.underlying232
  a138 := Tryz.isAgg232
  z138 := Tryz.sizeOf232
  v138 := Tryz.zeroValue232
  t139 := Tryz.underlying233
  a139 := Tryz.isAgg233
  z139 := Tryz.sizeOf233
  v139 := Tryz.zeroValue233
  t164 := Tryz.underlying217
  a164 := Tryz.isAgg217
  z164 := Tryz.sizeOf217
  v164 := Tryz.zeroValue217
  g3 := by kernel_rfl
  g4 := by kernel_rfl }


theorem Tryz.tmp230_x : Builder.Extra Tryz.prog Tryz.tmp230_ren := {
  sizeBuilder := by kernel_rfl
  liesBuilder := by kernel_rfl
  t5 := Tryz.underlying5
  a5 := Tryz.isAgg5
  z5 := Tryz.sizeOf5
  v5 := Tryz.zeroValue5
  infoByte := by kernel_rfl
  cellsByte := by kernel_rfl
  sizeByte := by kernel_rfl
  neB5 := by decide }
end Go.Proofs
namespace Go.Proofs.YtjafmdngbphacaaGreatDoor
open Go.RowKit
theorem lowL_any (x : Nat) (hx : x ≤ 1114111) (w : World) : Calls Tryz.prog 239 #[.int .i32 (x : Int)] w fun e w' => e = .returned (.int .i32 (lowF x)) ∧ w' = w := by
  by_cases h1 : 65 ≤ x
  · by_cases h2 : x ≤ 90
    · have q1 : (65 : Int) ≤ (x : Int) := by omega
      have q2 : (x : Int) ≤ 90 := by omega
      have hf : lowF (x : Int) = (x : Int) - 65 + 97 := by unfold lowF; rw [if_pos ⟨q1, q2⟩]; omega
      rw [hf]
      have hw1 : wrap32 ((x : Int) - 65) = (x : Int) - 65 := by unfold wrap32; omega
      have hw2 : wrap32 ((x : Int) - 65 + 97) = (x : Int) - 65 + 97 := by unfold wrap32; omega
      go_enter Tryz.func239, Tryz.ntmps239
      go_wp2
      go_ret
      exact ⟨by first | rfl | (congr 2; omega), rfl⟩
    · have q1 : (65 : Int) ≤ (x : Int) := by omega
      have q2 : ¬ (x : Int) ≤ 90 := by omega
      have hf : lowF (x : Int) = (x : Int) := by unfold lowF; rw [if_neg (by omega)]
      rw [hf]
      go_enter Tryz.func239, Tryz.ntmps239
      go_wp2
      go_ret
      exact ⟨rfl, rfl⟩
  · have q1 : ¬ (65 : Int) ≤ (x : Int) := by omega
    have hf : lowF (x : Int) = (x : Int) := by unfold lowF; rw [if_neg (by omega)]
    rw [hf]
    go_enter Tryz.func239, Tryz.ntmps239
    go_wp2
    go_ret
    exact ⟨rfl, rfl⟩
theorem upL_any (x : Nat) (hx : x ≤ 1114111) (w : World) : Calls Tryz.prog 240 #[.int .i32 (x : Int)] w fun e w' => e = .returned (.int .i32 (upF x)) ∧ w' = w := by
  by_cases h1 : 97 ≤ x
  · by_cases h2 : x ≤ 122
    · have q1 : (97 : Int) ≤ (x : Int) := by omega
      have q2 : (x : Int) ≤ 122 := by omega
      have hf : upF (x : Int) = (x : Int) - 97 + 65 := by unfold upF; rw [if_pos ⟨q1, q2⟩]; omega
      rw [hf]
      have hw1 : wrap32 ((x : Int) - 97) = (x : Int) - 97 := by unfold wrap32; omega
      have hw2 : wrap32 ((x : Int) - 97 + 65) = (x : Int) - 97 + 65 := by unfold wrap32; omega
      go_enter Tryz.func240, Tryz.ntmps240
      go_wp2
      go_ret
      exact ⟨by first | rfl | (congr 2; omega), rfl⟩
    · have q1 : (97 : Int) ≤ (x : Int) := by omega
      have q2 : ¬ (x : Int) ≤ 122 := by omega
      have hf : upF (x : Int) = (x : Int) := by unfold upF; rw [if_neg (by omega)]
      rw [hf]
      go_enter Tryz.func240, Tryz.ntmps240
      go_wp2
      go_ret
      exact ⟨rfl, rfl⟩
  · have q1 : ¬ (97 : Int) ≤ (x : Int) := by omega
    have hf : upF (x : Int) = (x : Int) := by unfold upF; rw [if_neg (by omega)]
    rw [hf]
    go_enter Tryz.func240, Tryz.ntmps240
    go_wp2
    go_ret
    exact ⟨rfl, rfl⟩
theorem low_rng (x : Nat) (hx : x ≤ 1114111) : -2147483648 ≤ lowF x ∧ lowF x ≤ 2147483647 := by unfold lowF; split <;> omega
theorem up_rng (x : Nat) (hx : x ≤ 1114111) : -2147483648 ≤ upF x ∧ upF x ≤ 2147483647 := by unfold upF; split <;> omega
theorem map_low (s : ByteArray) (w : World) (hT : Tabs w) (hs : s.size < 35184372088832) : Calls Tryz.prog 238 #[.func (.func 239) #[] #[], .string s] w fun e w' => e = .returned (.string ⟨(Lib.mapD lowF s.data.toList).toArray⟩) ∧ Below w.heap.size w w' :=
  Go.Proofs.Any.strings_Map_grows { Tryz.tmp230 with } Tryz.tmp230_x 239 #[] (enters_of Tryz.func239 (by kernel_rfl) rfl) lowF s w hs
    (fun W x hx _ => (lowL_any x hx W).mono fun e w' h => ⟨h.1, by rw [h.2]; exact Below.refl _ _⟩) low_rng hT
theorem map_up (s : ByteArray) (w : World) (hT : Tabs w) (hs : s.size < 35184372088832) : Calls Tryz.prog 238 #[.func (.func 240) #[] #[], .string s] w fun e w' => e = .returned (.string ⟨(Lib.mapD upF s.data.toList).toArray⟩) ∧ Below w.heap.size w w' :=
  Go.Proofs.Any.strings_Map_grows { Tryz.tmp230 with } Tryz.tmp230_x 240 #[] (enters_of Tryz.func240 (by kernel_rfl) rfl) upF s w hs
    (fun W x hx _ => (upL_any x hx W).mono fun e w' h => ⟨h.1, by rw [h.2]; exact Below.refl _ _⟩) up_rng hT
end Go.Proofs.YtjafmdngbphacaaGreatDoor

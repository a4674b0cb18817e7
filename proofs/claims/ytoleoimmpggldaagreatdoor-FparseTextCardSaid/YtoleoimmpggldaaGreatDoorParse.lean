import Derived.Shelf.Strconv.ParseIntPublic10
import Derived.Lib.AtoiErrMem
import Derived.Ground.NamesProg
import Derived.Test.YtoleoimmpggldaaGreatDoorRows
import Derived.Test.YtoleoimmpggldaaGreatDoorQA
import Derived.Lib.Hide
set_option linter.unusedVariables false
set_option linter.unusedSectionVars false
set_option linter.unusedSimpArgs false
namespace Go.Proofs
open Go.Shelf Go.RowKit
def Tryz.pi_ren : Go.Shelf.Ren := ⟨fun | 174 => 72 | 247 => 86 | 245 => 87 | 287 => 103 | 279 => 104 | 280 => 105 | 281 => 106 | 282 => 107 | 321 => 116 | 322 => 117 | 316 => 85 | 171 => 119 | 205 => 118 | 243 => 125 | 246 => 131 | 283 => 137 | 284 => 138 | 285 => 139 | 286 => 140 | 129 => 144 | 317 => 143 | 318 => 145 | 319 => 146 | 320 => 147 | 337 => 151 | 338 => 152 | n => n, fun | 9 => 9 | 3 => 3 | 2 => 2 | 75 => 83 | 85 => 84 | 4 => 4 | 167 => 107 | 5 => 5 | 53 => 92 | 175 => 108 | 46 => 105 | 168 => 110 | 37 => 93 | 0 => 0 | 210 => 122 | 21 => 21 | 127 => 106 | 145 => 128 | 143 => 126 | 171 => 135 | 173 => 138 | 212 => 141 | 51 => 142 | 20 => 20 | 213 => 143 | 232 => 148 | 233 => 149 | 80 => 152 | n => n, fun | 15 => 2 | 16 => 3 | 17 => 4 | 18 => 5 | 19 => 6 | n => n⟩
theorem Tryz.pi : Go.Proofs.LaysC.n174 Tryz.prog Tryz.pi_ren := {
 mixed := by kernel_rfl
 f129 := Tryz.func144.trans (congrArg some (by kernel_rfl))
 f171 := Tryz.func119.trans (congrArg some (by kernel_rfl))
 f174 := Tryz.func72.trans (congrArg some (by kernel_rfl))
 f205 := Tryz.func118.trans (congrArg some (by kernel_rfl))
 f243 := Tryz.func125.trans (congrArg some (by kernel_rfl))
 f245 := Tryz.func87.trans (congrArg some (by kernel_rfl))
 f246 := Tryz.func131.trans (congrArg some (by kernel_rfl))
 f247 := Tryz.func86.trans (congrArg some (by kernel_rfl))
 f279 := Tryz.func104.trans (congrArg some (by kernel_rfl))
 f280 := Tryz.func105.trans (congrArg some (by kernel_rfl))
 f281 := Tryz.func106.trans (congrArg some (by kernel_rfl))
 f282 := Tryz.func107.trans (congrArg some (by kernel_rfl))
 f283 := Tryz.func137.trans (congrArg some (by kernel_rfl))
 f284 := Tryz.func138.trans (congrArg some (by kernel_rfl))
 f285 := Tryz.func139.trans (congrArg some (by kernel_rfl))
 f286 := Tryz.func140.trans (congrArg some (by kernel_rfl))
 f287 := Tryz.func103.trans (congrArg some (by kernel_rfl))
 f316 := Tryz.func85.trans (congrArg some (by kernel_rfl))
 f317 := Tryz.func143.trans (congrArg some (by kernel_rfl))
 f318 := Tryz.func145.trans (congrArg some (by kernel_rfl))
 f319 := Tryz.func146.trans (congrArg some (by kernel_rfl))
 f320 := Tryz.func147.trans (congrArg some (by kernel_rfl))
 f321 := Tryz.func116.trans (congrArg some (by kernel_rfl))
 f322 := Tryz.func117.trans (congrArg some (by kernel_rfl))
 f337 := Tryz.func151.trans (congrArg some (by kernel_rfl))
 f338 := Tryz.func152.trans (congrArg some (by kernel_rfl))
 t0 := Tryz.underlying0
 a0 := Tryz.isAgg0
 z0 := Tryz.sizeOf0
 v0 := Tryz.zeroValue0
 t2 := Tryz.underlying2
 a2 := Tryz.isAgg2
 z2 := Tryz.sizeOf2
 v2 := Tryz.zeroValue2
 t3 := Tryz.underlying3
 a3 := Tryz.isAgg3
 z3 := Tryz.sizeOf3
 v3 := Tryz.zeroValue3
 t4 := Tryz.underlying4
 a4 := Tryz.isAgg4
 z4 := Tryz.sizeOf4
 v4 := Tryz.zeroValue4
 t5 := Tryz.underlying5
 a5 := Tryz.isAgg5
 z5 := Tryz.sizeOf5
 v5 := Tryz.zeroValue5
 t9 := Tryz.underlying9
 a9 := Tryz.isAgg9
 z9 := Tryz.sizeOf9
 v9 := Tryz.zeroValue9
 t20 := Tryz.underlying20
 a20 := Tryz.isAgg20
 z20 := Tryz.sizeOf20
 v20 := Tryz.zeroValue20
 t21 := Tryz.underlying21
 a21 := Tryz.isAgg21
 z21 := Tryz.sizeOf21
 v21 := Tryz.zeroValue21
 t37 := Tryz.underlying93
 a37 := Tryz.isAgg93
 z37 := Tryz.sizeOf93
 v37 := Tryz.zeroValue93
 t46 := Tryz.underlying105
 a46 := Tryz.isAgg105
 z46 := Tryz.sizeOf105
 v46 := Tryz.zeroValue105
 t51 := Tryz.underlying142
 a51 := Tryz.isAgg142
 z51 := Tryz.sizeOf142
 v51 := Tryz.zeroValue142
 t53 := Tryz.underlying92
 a53 := Tryz.isAgg92
 z53 := Tryz.sizeOf92
 v53 := Tryz.zeroValue92
 t75 := Tryz.underlying83
 a75 := Tryz.isAgg83
 z75 := Tryz.sizeOf83
 v75 := Tryz.zeroValue83
 t85 := Tryz.underlying84
 a85 := Tryz.isAgg84
 z85 := Tryz.sizeOf84
 v85 := Tryz.zeroValue84
 t127 := Tryz.underlying106
 a127 := Tryz.isAgg106
 z127 := Tryz.sizeOf106
 v127 := Tryz.zeroValue106
 t143 := Tryz.underlying126
 a143 := Tryz.isAgg126
 z143 := Tryz.sizeOf126
 v143 := Tryz.zeroValue126
 t145 := Tryz.underlying128
 a145 := Tryz.isAgg128
 z145 := Tryz.sizeOf128
 v145 := Tryz.zeroValue128
 t167 := Tryz.underlying107
 a167 := Tryz.isAgg107
 z167 := Tryz.sizeOf107
 v167 := Tryz.zeroValue107
 t168 := Tryz.underlying110
 a168 := Tryz.isAgg110
 z168 := Tryz.sizeOf110
 v168 := Tryz.zeroValue110
 t171 := Tryz.underlying135
 a171 := Tryz.isAgg135
 z171 := Tryz.sizeOf135
 v171 := Tryz.zeroValue135
 t173 := Tryz.underlying138
 a173 := Tryz.isAgg138
 z173 := Tryz.sizeOf138
 v173 := Tryz.zeroValue138
 t175 := Tryz.underlying108
 a175 := Tryz.isAgg108
 z175 := Tryz.sizeOf108
 v175 := Tryz.zeroValue108
 t210 := Tryz.underlying122
 a210 := Tryz.isAgg122
 z210 := Tryz.sizeOf122
 v210 := Tryz.zeroValue122
 t212 := Tryz.underlying141
 a212 := Tryz.isAgg141
 z212 := Tryz.sizeOf141
 v212 := Tryz.zeroValue141
 t213 := Tryz.underlying143
 a213 := Tryz.isAgg143
 z213 := Tryz.sizeOf143
 t232 := Tryz.underlying148
 a232 := Tryz.isAgg148
 z232 := Tryz.sizeOf148
 v232 := Tryz.zeroValue148
 t233 := Tryz.underlying149
 a233 := Tryz.isAgg149
 z233 := Tryz.sizeOf149
 v233 := Tryz.zeroValue149
 g15 := by kernel_rfl
 g16 := by kernel_rfl
 g17 := by kernel_rfl
 g18 := by kernel_rfl
 g19 := by kernel_rfl
 t80 := Tryz.underlying152
 a80 := Tryz.isAgg152
 z80 := Tryz.sizeOf152
 v80 := Tryz.zeroValue152
 i0 := by kernel_rfl
 i2 := by kernel_rfl
 i3 := by kernel_rfl
 i4 := by kernel_rfl
 i5 := by kernel_rfl
 i9 := by kernel_rfl
 i20 := by kernel_rfl
 i21 := by kernel_rfl
 i37 := by kernel_rfl
 i46 := by kernel_rfl
 i51 := by kernel_rfl
 i53 := by kernel_rfl
 i75 := by kernel_rfl
 i80 := by kernel_rfl
 i85 := by kernel_rfl
 i127 := by kernel_rfl
 i143 := by kernel_rfl
 i145 := by kernel_rfl
 i167 := by kernel_rfl
 i168 := by kernel_rfl
 i171 := by kernel_rfl
 i173 := by kernel_rfl
 i175 := by kernel_rfl
 i210 := by kernel_rfl
 i212 := by kernel_rfl
 i232 := by kernel_rfl
 i233 := by kernel_rfl
 m15 := by kernel_rfl
 m16 := by kernel_rfl
 m17 := by kernel_rfl
 m18 := by kernel_rfl
 m19 := by kernel_rfl
 c0 := by kernel_rfl
 c2 := by kernel_rfl
 c3 := by kernel_rfl
 c4 := by kernel_rfl
 c5 := by kernel_rfl
 c9 := by kernel_rfl
 c20 := by kernel_rfl
 c21 := by kernel_rfl
 c37 := by kernel_rfl
 c46 := by kernel_rfl
 c51 := by kernel_rfl
 c53 := by kernel_rfl
 c75 := by kernel_rfl
 c80 := by kernel_rfl
 c85 := by kernel_rfl
 c127 := by kernel_rfl
 c143 := by kernel_rfl
 c145 := by kernel_rfl
 c167 := by kernel_rfl
 c168 := by kernel_rfl
 c171 := by kernel_rfl
 c173 := by kernel_rfl
 c175 := by kernel_rfl
 c210 := by kernel_rfl
 c212 := by kernel_rfl
 c213 := by kernel_rfl
 c232 := by kernel_rfl
 c233 := by kernel_rfl }


end Go.Proofs
namespace Go.Proofs.YtoleoimmpggldaaGreatDoor
open Go.RowKit
def ErrIn (w : World) : Prop := ∃ te pe, w.cell? ⟨3, 0, none⟩ = some (.iface te pe)
theorem ErrIn.next {w w' : World} (h : ErrIn w) (hb : Below w.heap.size w w') : ErrIn w' := by
 obtain ⟨te, pe, hc⟩ := h;exact ⟨te, pe, (hb.cell (World.block_lt_of_cell? w _ hc)).trans hc⟩
def ParsePost (o : Option Int) (w : World) (e : Ending) (w' : World) : Prop := Below w.heap.size w w' ∧ match o with
 | some v => e = .returned (.tuple #[.int .i64 v, .nilIface])
 | none => ∃ n t p, e = .returned (.tuple #[.int .i64 n, .iface t p])
theorem parse_any (x : ByteArray) (o : Option Int) (h : Lib.atoiAll x.data.toList = endP o) (hx : x.size ≤ 281474976710656) (w : World) (hE : ErrIn w) :
 Calls Tryz.prog 72 #[.string x, .int .i64 10, .int .i64 64] w (ParsePost o w) := by
 rw [← Lib.parseIntB_64] at h
 cases o with
 | some v =>
  refine (Any.strconv_ParseInt_10_at64_ok Tryz.pi x (by omega) v h w).mono fun e w' he => ⟨?_, he.1⟩
  rcases he.2 with rfl | ⟨t, rfl⟩
  · exact Below.refl _ _
  · exact Lib.bytesWorld_below _ _ _
 | none =>
  obtain ⟨te, pe, hc⟩ := hE;refine (Any.strconv_ParseInt_10_at64_range Tryz.pi x hx h _ w hc (.inr ⟨te, pe, rfl⟩)).mono fun e w' he => ?_
  obtain ⟨N, he, -, -, hb⟩ := he;exact ⟨hb, _, _, _, he⟩

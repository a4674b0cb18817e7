/- The contract of a string. strconv.ParseInt at base 10 and 64 bits: what it answers, where the variable strconv.ErrRange holds an error. -/
import Derived.Test.YtfmpdcmedaiooaaGreatDoorU06
import Derived.WalkMore
import Derived.Scope
import Derived.Shelf.Strconv.ParseIntPublic10
import Derived.Lib.AtoiErrMem
import Derived.Ground.NamesProg
import Derived.Test.YtfmpdcmedaiooaaGreatDoorRows
import Derived.Test.YtfmpdcmedaiooaaGreatDoorU03
import Derived.Lib.Hide
set_option linter.unusedVariables false
set_option linter.unusedSimpArgs false
namespace Go.Proofs.YtfmpdcmedaiooaaGreatDoor
open Go.RowKit
theorem point_open {f : FuncId} {args : Array Value} {w : World} {base : Nat} {out : List UInt8} (h : Calls Tryz.prog f args w (PointPost base out w)) :
    Calls Tryz.prog f args w fun e w' => ∃ A c, e = .returned (.slice A out.length c) ∧ w'.ownsRow base 5 1 (.slice A out.length c) out.length (bv out) ∧ Below base w w' := by
  refine h.mono fun e w' h => ?_
  obtain ⟨v, rfl, ho, hb⟩ := h
  obtain ⟨A, c, rfl, -, -⟩ := own_slice ho
  exact ⟨A, c, rfl, ho, hb⟩
theorem lex_open {f : FuncId} {args : Array Value} {w : World} {x : Lx} (h : Calls Tryz.prog f args w (LexPost x w)) :
    Calls Tryz.prog f args w fun e w' => e = .returned (.tuple #[.agg #[.int .i64 x.k, .int .i64 x.f, .int .i64 x.t, .int .u8 x.b, .int .i64 x.i, .string x.s], .int .i64 x.p, .int .i64 x.e]) ∧ Below w.heap.size w w' := h
def escEl : Esc → El
  | .ok r n => .add r n
  | .trunc => .trunc
  | .bad => .stop 4
def decEl : Option (Nat × Nat) → El
  | some (r, n) => .add r n
  | none => .stop 6
theorem elP_34 {l : List UInt8} {i : Nat} {b : UInt8} (h : l[i]? = some b) (h1 : b.toNat = 34) : elP (l.drop i) = .quote := by
  obtain ⟨g, rfl⟩ := List.getElem?_eq_some_iff.1 h
  rw [List.drop_eq_getElem_cons g, elP, if_pos h1]
theorem elP_92 {l : List UInt8} {i : Nat} {b : UInt8} (h : l[i]? = some b) (h1 : b.toNat = 92) : elP (l.drop i) = escEl (escP (l.drop (i + 1))) := by
  obtain ⟨g, rfl⟩ := List.getElem?_eq_some_iff.1 h
  rw [List.drop_eq_getElem_cons g, elP, if_neg (by omega), if_pos h1]
  cases escP (l.drop (i + 1)) <;> rfl
theorem elP_32 {l : List UInt8} {i : Nat} {b : UInt8} (h : l[i]? = some b) (h0 : b.toNat ≠ 34) (h1 : b.toNat ≠ 92) (h2 : b.toNat < 32) : elP (l.drop i) = .stop 4 := by
  obtain ⟨g, rfl⟩ := List.getElem?_eq_some_iff.1 h
  rw [List.drop_eq_getElem_cons g, elP, if_neg h0, if_neg h1, if_pos h2]
theorem elP_dec {l : List UInt8} {i : Nat} {b : UInt8} (h : l[i]? = some b) (h0 : b.toNat ≠ 34) (h1 : b.toNat ≠ 92) (h2 : ¬ b.toNat < 32) : elP (l.drop i) = decEl (dec (l.drop i)) := by
  obtain ⟨g, rfl⟩ := List.getElem?_eq_some_iff.1 h
  rw [List.drop_eq_getElem_cons g, elP, if_neg h0, if_neg h1, if_neg h2]
  rcases hd : dec (l[i] :: l.drop (i + 1)) with _ | ⟨r, n⟩ <;> rfl
theorem esc_as {s : ByteArray} {k : Nat} {x : Esc} {a : UInt8} (hs : s.size ≤ 1048576) (hk : k + 1 ≤ s.size) (h1 : s.data.toList[k]? = some a) (ha : a.toNat = 92) (hx : escP (s.data.toList.drop (k + 1)) = x) (w : World) :
    Calls Tryz.prog 150 #[.string s, .int .i64 k] w fun e w' => e = .returned (escV s.size k x) ∧ w = w' := by
  rw [← hx]; exact esc_any s k hs hk a h1 ha w
theorem ext_cells (s : ByteArray) (i n : Nat) : Lib.strCells (s.extract i (i + n)) = bv ((s.data.toList.drop i).take n) := by
  unfold Lib.strCells bv
  rw [← Lib.toList_data, ext_sub]
  unfold sub
  rw [show i + n - i = n from by omega]
set_option maxHeartbeats 10000000 in
set_option maxRecDepth 100000 in
theorem string_any (s : ByteArray) (k : Nat) (hs : s.size ≤ 1048576) (hk : k < s.size) (w : World) : Calls Tryz.prog 117 #[.string s, .int .i64 k] w (LexPost (strP s.data.toList k) w) := by
  have hl : s.data.toList.length = s.size := by simp
  have HL := Lib.hid hl
  clear hl
  obtain ⟨i0, hi, hz0, hz1, hz2⟩ := info_parts inf_u8
  obtain ⟨W1, hW1⟩ : ∃ X, X = w.alloc (.cells #[.int .i64 0, .int .i64 0, .int .i64 0, .int .u8 0, .int .i64 0, .string ⟨#[]⟩] 93) := ⟨_, rfl⟩
  have HBX : Hid (Box W1 w.heap.size 93 #[.int .i64 0, .int .i64 0, .int .i64 0, .int .u8 0, .int .i64 0, .string ⟨#[]⟩]) := Lib.hid (by rw [hW1]; exact Box.laid w _ _)
  have HBL : Hid (Below w.heap.size w W1) := Lib.hid (by rw [hW1]; exact (Below.refl _ _).alloc (Nat.le_refl _) _)
  have HW1 := Lib.hid hW1
  clear hW1
  have HST := Lib.hid (StrAt.start (l := s.data.toList) (k := k) (by rw [HL.out]; exact hk))
  go_enter Tryz.func117, Tryz.ntmps117
  go_wp2
  rw [← HW1.out]
  go_step3
  go_wp2
  go_step3
  go_wp2
  go_loopw [7, 8] (fun tv ti wr => ∃ (A : Option Addr) (c i : Nat) (out : List UInt8), i ≤ s.size ∧ tv = .slice A out.length c ∧ ti = .int .i64 i ∧ wr.ownsRow W1.heap.size 5 1 (.slice A out.length c) out.length (bv out) ∧ Below W1.heap.size W1 wr ∧ Hid (StrAt s.data.toList k i out)) (fun _ ti _ => s.size - (intOf ti).toNat)
  case atStart => exact ⟨none, 0, k + 1, [], by omega, rfl, by go_num, World.ownsRow_nil _ _ _ _, Below.refl _ _, HST⟩
  case round =>
    clear HST
    obtain ⟨A, c, i, out, hile, rfl, rfl, hown, hbel, HST⟩ := hrel
    have HO := Lib.hid hown
    have HBE := Lib.hid hbel
    have HSTEP := Lib.hid HST.out.step
    have hout : out.length ≤ 4194304 := by have h := HST.out.2.2.1; have h2 := HST.out.1; omega
    have HBR := Lib.hid (HBX.out.below hbel HBX.out.lt)
    have HBW := Lib.hid (chain HBL.out hbel)
    clear hown hbel
    by_cases hlt : i < s.size
    · obtain ⟨b, hb⟩ : ∃ b, s[i] = b := ⟨_, rfl⟩
      have HB := Lib.hid (at_list hlt hb)
      have hb255 := UInt8.toNat_lt b
      by_cases b34 : b.toNat = 34
      · have HW : Hid (strP s.data.toList k = strEj k (i + 1) out) := Lib.hid (by
          have h := HSTEP.out
          rw [elP_34 HB.out b34] at h
          exact h)
        have q1 : ((b.toNat : Int) == 34) = true := by rw [beq_iff_eq]; omega
        have HF := Lib.hid (lex_open (finish_str (.slice A out.length c) out k (i + 1) W1.heap.size wr HO.out (by omega)))
        have he1 : ((i + 1 : Nat) : Int) = (i : Int) + 1 := by omega
        rw [he1] at HF
        clear he1 b34
        go_wp2_with (go_at_call 149; refine HF.out.mono ?_; rintro e w' ⟨rfl, hb'⟩; have bx := HBR.out.below hb' HBR.out.lt; obtain ⟨t0, t1, t2, t3, t4, t5⟩ := box6 bx; obtain ⟨f0, f1, f2, f3, f4, f5⟩ := free6 bx)
        try rw [Exit.noGoto_ret]
        rw [HW.out]
        exact lex_ret Tryz.results117 rfl rfl rfl rfl (put6 bx _ _ _ _ _ _) (below_six (Nat.le_refl _) (HBW.out.trans (hb'.mono HBW.out.size)) _ _ _ _ _ _)
      · have q1 : ((b.toNat : Int) == 34) = false := beq_eq_false_iff_ne.2 (fun h => b34 (by omega))
        by_cases b92 : b.toNat = 92
        · have q2 : ((b.toNat : Int) == 92) = true := by rw [beq_iff_eq]; omega
          obtain ⟨x, hx⟩ : ∃ x, escP (s.data.toList.drop (i + 1)) = x := ⟨_, rfl⟩
          have HE := Lib.hid (fun W => esc_as hs (by omega : i + 1 ≤ s.size) HB.out b92 hx W)
          have hel : elP (s.data.toList.drop i) = escEl x := by rw [elP_92 HB.out b92, hx]
          have HX := Lib.hid hx
          clear b34 b92 hx
          cases x with
          | ok r n =>
            have hel2 : elP (s.data.toList.drop i) = .add r n := hel
            obtain ⟨g1, g2, g3, g4⟩ := elP_add hel2
            rw [List.length_drop, HL.out] at g2
            have HNEXT := Lib.hid (HST.out.next hel2)
            have HPT := Lib.hid (fun (W : World) (h : wr = W) => point_open (point_any (.slice A out.length c) out r W1.heap.size g3 W (by rw [← h]; exact HO.out) (by omega) (by rw [← h]; exact HBE.out.size)))
            simp only [escV] at HE
            clear hel hel2 g3 HSTEP
            go_wp2_with (first
              | (go_at_call 150; refine (HE.out _).mono ?_; rintro e w' ⟨rfl, rfl⟩)
              | (go_at_call 151; refine (HPT.out _ rfl).mono ?_; rintro e w2 ⟨A2, c2, rfl, hown2, hb2⟩))
            go_roundw
            case rel => exact ⟨A2, c2, i + n, out ++ enc r, by omega, by rw [List.length_append], by go_num, by first | exact hown2 | (rw [List.length_append]; exact hown2), HBE.out.trans hb2, HNEXT⟩
            case measure => simp [intOf]; omega
          | trunc =>
            have HW : Hid (strP s.data.toList k = noX s.size 5) := Lib.hid (by
              have h := HSTEP.out
              rw [hel] at h
              rw [HL.out] at h
              exact h)
            simp only [escV] at HE
            clear hel HSTEP
            go_wp2_with (first
              | (go_at_call 150; refine (HE.out _).mono ?_; rintro e w' ⟨rfl, rfl⟩)
              | (go_at_call 110; refine (fail_any _ _ _).mono ?_; rintro e w' ⟨rfl, hb'⟩; have bx := HBR.out.below hb' HBR.out.lt; obtain ⟨t0, t1, t2, t3, t4, t5⟩ := box6 bx; obtain ⟨f0, f1, f2, f3, f4, f5⟩ := free6 bx))
            try rw [Exit.noGoto_ret]
            rw [HW.out]
            exact lex_ret Tryz.results117 rfl rfl rfl rfl (put6 bx _ _ _ _ _ _) (below_six (Nat.le_refl _) (HBW.out.trans (hb'.mono HBW.out.size)) _ _ _ _ _ _)
          | bad =>
            have HW : Hid (strP s.data.toList k = noX i 4) := Lib.hid (by
              have h := HSTEP.out
              rw [hel] at h
              exact h)
            simp only [escV] at HE
            clear hel HSTEP
            go_wp2_with (first
              | (go_at_call 150; refine (HE.out _).mono ?_; rintro e w' ⟨rfl, rfl⟩)
              | (go_at_call 110; refine (fail_any _ _ _).mono ?_; rintro e w' ⟨rfl, hb'⟩; have bx := HBR.out.below hb' HBR.out.lt; obtain ⟨t0, t1, t2, t3, t4, t5⟩ := box6 bx; obtain ⟨f0, f1, f2, f3, f4, f5⟩ := free6 bx))
            try rw [Exit.noGoto_ret]
            rw [HW.out]
            exact lex_ret Tryz.results117 rfl rfl rfl rfl (put6 bx _ _ _ _ _ _) (below_six (Nat.le_refl _) (HBW.out.trans (hb'.mono HBW.out.size)) _ _ _ _ _ _)
        · have q2 : ((b.toNat : Int) == 92) = false := beq_eq_false_iff_ne.2 (fun h => b92 (by omega))
          by_cases b32 : b.toNat < 32
          · have HW : Hid (strP s.data.toList k = noX i 4) := Lib.hid (by
              have h := HSTEP.out
              rw [elP_32 HB.out b34 b92 b32] at h
              exact h)
            have q3 : decide ((b.toNat : Int) < 32) = true := by rw [decide_eq_true_iff]; omega
            have q4 : (b.toNat : Int) < 32 := by omega
            clear b34 b92 b32 HSTEP
            go_wp2_with (go_at_call 110; refine (fail_any _ _ _).mono ?_; rintro e w' ⟨rfl, hb'⟩; have bx := HBR.out.below hb' HBR.out.lt; obtain ⟨t0, t1, t2, t3, t4, t5⟩ := box6 bx; obtain ⟨f0, f1, f2, f3, f4, f5⟩ := free6 bx)
            try rw [Exit.noGoto_ret]
            rw [HW.out]
            exact lex_ret Tryz.results117 rfl rfl rfl rfl (put6 bx _ _ _ _ _ _) (below_six (Nat.le_refl _) (HBW.out.trans (hb'.mono HBW.out.size)) _ _ _ _ _ _)
          · have q4 : (32 : Int) ≤ (b.toNat : Int) := by omega
            have HEL2 := Lib.hid (elP_dec HB.out b34 b92 b32)
            have hsm : s.size ≤ maxLen := by unfold maxLen; omega
            have HDEC := Lib.hid (fun W => dec_any s i hsm W)
            clear b34 b92 b32 hsm
            cases hd : dec (s.data.toList.drop i) with
            | none =>
              have HW : Hid (strP s.data.toList k = noX i 6) := Lib.hid (by
                have h := HSTEP.out
                rw [HEL2.out, hd] at h
                exact h)
              have HD := Lib.hid (fun W => dec_none_of (HDEC.out W) hd)
              clear hd HSTEP HEL2 HDEC
              go_wp2_with (first
                | (go_at_call 68; refine (HD.out _).mono ?_; rintro e w' ⟨rfl, rfl⟩)
                | (go_at_call 110; refine (fail_any _ _ _).mono ?_; rintro e w' ⟨rfl, hb'⟩; have bx := HBR.out.below hb' HBR.out.lt; obtain ⟨t0, t1, t2, t3, t4, t5⟩ := box6 bx; obtain ⟨f0, f1, f2, f3, f4, f5⟩ := free6 bx))
              try rw [Exit.noGoto_ret]
              rw [HW.out]
              exact lex_ret Tryz.results117 rfl rfl rfl rfl (put6 bx _ _ _ _ _ _) (below_six (Nat.le_refl _) (HBW.out.trans (hb'.mono HBW.out.size)) _ _ _ _ _ _)
            | some rn =>
              obtain ⟨r, n⟩ := rn
              have hel2 : elP (s.data.toList.drop i) = .add r n := by rw [HEL2.out, hd]; rfl
              obtain ⟨g1, g2, g3, g4⟩ := elP_add hel2
              rw [List.length_drop, HL.out] at g2
              have HNEXT := Lib.hid (HST.out.next hel2)
              have HD := Lib.hid (fun W => dec_some_of (HDEC.out W) r n hd)
              obtain ⟨he1, he2⟩ := enc_dec hd
              have HC : Hid (Lib.strCells (s.extract i (i + n)) = bv (enc r)) := Lib.hid (by rw [ext_cells, he1])
              have hxs : (s.extract i (i + n)).size = n := by simp; omega
              have HXS := Lib.hid hxs
              have HN := Lib.hid he2
              clear hd HSTEP HEL2 HDEC hel2 he1 he2 hxs g3 g4
              go_wp2_with (first
                | (go_at_call 68; refine (HD.out _).mono ?_; rintro e w' ⟨rfl, rfl⟩)
                | (at_builtin; refine Lib.wpList_append_own_string _ rfl (.tmp 80) (.tmp 86) 55 9 rfl W1.heap.size 5 i0 Tryz.underlying55 Tryz.underlying9 hi hz0 hz1 hz2 (.slice A out.length c) out.length (bv out) rfl HO.out (s.extract i (i + n)) rfl (by rw [HXS.out]; unfold maxLen; omega) (by rw [HXS.out]; omega) HBE.out.size ?_; intro v2 w2 hown2 hgrow2 _; rw [HC.out, HXS.out, ← bv_append] at hown2; obtain ⟨A2, c2, rfl, hl2, -⟩ := own_slice hown2))
              go_roundw
              case rel => exact ⟨A2, c2, i + n, out ++ enc r, by omega, by rw [List.length_append, ← HN.out], rfl, by rw [List.length_append, ← HN.out]; exact hown2, HBE.out.grown hgrow2 HBE.out.size (fun j hj => (HO.out.lt j hj).1), HNEXT⟩
              case measure => simp [intOf]; omega
    · have HW : Hid (strP s.data.toList k = noX s.size 5) := Lib.hid (by
        have h := HSTEP.out
        rw [List.drop_eq_nil_of_le (by rw [HL.out]; omega), HL.out] at h
        exact h)
      clear HSTEP
      go_wp2_with (go_at_call 110; refine (fail_any _ _ _).mono ?_; rintro e w' ⟨rfl, hb'⟩; have bx := HBR.out.below hb' HBR.out.lt; obtain ⟨t0, t1, t2, t3, t4, t5⟩ := box6 bx; obtain ⟨f0, f1, f2, f3, f4, f5⟩ := free6 bx)
      try rw [Exit.noGoto_ret]
      rw [HW.out]
      exact lex_ret Tryz.results117 rfl rfl rfl rfl (put6 bx _ _ _ _ _ _) (below_six (Nat.le_refl _) (HBW.out.trans (hb'.mono HBW.out.size)) _ _ _ _ _ _)
end Go.Proofs.YtfmpdcmedaiooaaGreatDoor
namespace Go.Proofs
open Go.Shelf Go.RowKit
def Tryz.pi_ren : Go.Shelf.Ren := ⟨fun | 174 => 148 | 247 => 179 | 245 => 180 | 287 => 203 | 279 => 204 | 280 => 205 | 281 => 206 | 282 => 207 | 321 => 228 | 322 => 229 | 316 => 230 | 171 => 232 | 205 => 231 | 243 => 246 | 246 => 251 | 283 => 171 | 284 => 172 | 285 => 173 | 286 => 174 | 129 => 199 | 317 => 198 | 318 => 200 | 319 => 201 | 320 => 202 | 337 => 226 | 338 => 227 | n => n, fun | 9 => 9 | 3 => 3 | 2 => 2 | 75 => 120 | 85 => 156 | 4 => 4 | 167 => 211 | 5 => 5 | 53 => 152 | 175 => 212 | 46 => 73 | 168 => 214 | 37 => 55 | 0 => 0 | 210 => 234 | 21 => 21 | 127 => 155 | 145 => 250 | 143 => 248 | 171 => 176 | 173 => 179 | 212 => 209 | 51 => 188 | 20 => 20 | 213 => 210 | 232 => 246 | 233 => 247 | 80 => 126 | n => n, fun | 15 => 4 | 16 => 5 | 17 => 3 | 18 => 6 | 19 => 7 | n => n⟩
theorem Tryz.pi : Go.Proofs.LaysC.n174 Tryz.prog Tryz.pi_ren := {
  mixed := by kernel_rfl
  f129 := Tryz.func199.trans (congrArg some (by kernel_rfl))
  f171 := Tryz.func232.trans (congrArg some (by kernel_rfl))
  f174 := Tryz.func148.trans (congrArg some (by kernel_rfl))
  f205 := Tryz.func231.trans (congrArg some (by kernel_rfl))
  f243 := Tryz.func246.trans (congrArg some (by kernel_rfl))
  f245 := Tryz.func180.trans (congrArg some (by kernel_rfl))
  f246 := Tryz.func251.trans (congrArg some (by kernel_rfl))
  f247 := Tryz.func179.trans (congrArg some (by kernel_rfl))
  f279 := Tryz.func204.trans (congrArg some (by kernel_rfl))
  f280 := Tryz.func205.trans (congrArg some (by kernel_rfl))
  f281 := Tryz.func206.trans (congrArg some (by kernel_rfl))
  f282 := Tryz.func207.trans (congrArg some (by kernel_rfl))
  f283 := Tryz.func171.trans (congrArg some (by kernel_rfl))
  f284 := Tryz.func172.trans (congrArg some (by kernel_rfl))
  f285 := Tryz.func173.trans (congrArg some (by kernel_rfl))
  f286 := Tryz.func174.trans (congrArg some (by kernel_rfl))
  f287 := Tryz.func203.trans (congrArg some (by kernel_rfl))
  f316 := Tryz.func230.trans (congrArg some (by kernel_rfl))
  f317 := Tryz.func198.trans (congrArg some (by kernel_rfl))
  f318 := Tryz.func200.trans (congrArg some (by kernel_rfl))
  f319 := Tryz.func201.trans (congrArg some (by kernel_rfl))
  f320 := Tryz.func202.trans (congrArg some (by kernel_rfl))
  f321 := Tryz.func228.trans (congrArg some (by kernel_rfl))
  f322 := Tryz.func229.trans (congrArg some (by kernel_rfl))
  f337 := Tryz.func226.trans (congrArg some (by kernel_rfl))
  f338 := Tryz.func227.trans (congrArg some (by kernel_rfl))
  t0 := Tryz.underlying0
  a0 := Tryz.isAgg0
  z0 := Tryz.sizeOf0
  v0 := Tryz.zeroValue0
  t2 := Tryz.underlying2
  a2 := Tryz.isAgg2
  z2 := Tryz.sizeOf2
  v2 := Tryz.zeroValue2
  t3 := Tryz.underlying3
  a3 := Tryz.isAgg3
  z3 := Tryz.sizeOf3
  v3 := Tryz.zeroValue3
  t4 := Tryz.underlying4
  a4 := Tryz.isAgg4
  z4 := Tryz.sizeOf4
  v4 := Tryz.zeroValue4
  t5 := Tryz.underlying5
  a5 := Tryz.isAgg5
  z5 := Tryz.sizeOf5
  v5 := Tryz.zeroValue5
  t9 := Tryz.underlying9
  a9 := Tryz.isAgg9
  z9 := Tryz.sizeOf9
  v9 := Tryz.zeroValue9
  t20 := Tryz.underlying20
  a20 := Tryz.isAgg20
  z20 := Tryz.sizeOf20
  v20 := Tryz.zeroValue20
  t21 := Tryz.underlying21
  a21 := Tryz.isAgg21
  z21 := Tryz.sizeOf21
  v21 := Tryz.zeroValue21
  t37 := Tryz.underlying55
  a37 := Tryz.isAgg55
  z37 := Tryz.sizeOf55
  v37 := Tryz.zeroValue55
  t46 := Tryz.underlying73
  a46 := Tryz.isAgg73
  z46 := Tryz.sizeOf73
  v46 := Tryz.zeroValue73
  t51 := Tryz.underlying188
  a51 := Tryz.isAgg188
  z51 := Tryz.sizeOf188
  v51 := Tryz.zeroValue188
  t53 := Tryz.underlying152
  a53 := Tryz.isAgg152
  z53 := Tryz.sizeOf152
  v53 := Tryz.zeroValue152
  t75 := Tryz.underlying120
  a75 := Tryz.isAgg120
  z75 := Tryz.sizeOf120
  v75 := Tryz.zeroValue120
  t85 := Tryz.underlying156
  a85 := Tryz.isAgg156
  z85 := Tryz.sizeOf156
  v85 := Tryz.zeroValue156
  t127 := Tryz.underlying155
  a127 := Tryz.isAgg155
  z127 := Tryz.sizeOf155
  v127 := Tryz.zeroValue155
  t143 := Tryz.underlying248
  a143 := Tryz.isAgg248
  z143 := Tryz.sizeOf248
  v143 := Tryz.zeroValue248
  t145 := Tryz.underlying250
  a145 := Tryz.isAgg250
  z145 := Tryz.sizeOf250
  v145 := Tryz.zeroValue250
  t167 := Tryz.underlying211
  a167 := Tryz.isAgg211
  z167 := Tryz.sizeOf211
  v167 := Tryz.zeroValue211
  t168 := Tryz.underlying214
  a168 := Tryz.isAgg214
  z168 := Tryz.sizeOf214
  v168 := Tryz.zeroValue214
  t171 := Tryz.underlying176
  a171 := Tryz.isAgg176
  z171 := Tryz.sizeOf176
  v171 := Tryz.zeroValue176
  t173 := Tryz.underlying179
  a173 := Tryz.isAgg179
  z173 := Tryz.sizeOf179
  v173 := Tryz.zeroValue179
  t175 := Tryz.underlying212
  a175 := Tryz.isAgg212
  z175 := Tryz.sizeOf212
  v175 := Tryz.zeroValue212
  t210 := Tryz.underlying234
  a210 := Tryz.isAgg234
  z210 := Tryz.sizeOf234
  v210 := Tryz.zeroValue234
  t212 := Tryz.underlying209
  a212 := Tryz.isAgg209
  z212 := Tryz.sizeOf209
  v212 := Tryz.zeroValue209
  t213 := Tryz.underlying210
  a213 := Tryz.isAgg210
  z213 := Tryz.sizeOf210
  t232 := Tryz.underlying246
  a232 := Tryz.isAgg246
  z232 := Tryz.sizeOf246
  v232 := Tryz.zeroValue246
  t233 := Tryz.underlying247
  a233 := Tryz.isAgg247
  z233 := Tryz.sizeOf247
  v233 := Tryz.zeroValue247
  g15 := by kernel_rfl
  g16 := by kernel_rfl
  g17 := by kernel_rfl
  g18 := by kernel_rfl
  g19 := by kernel_rfl
  t80 := Tryz.underlying126
  a80 := Tryz.isAgg126
  z80 := Tryz.sizeOf126
  v80 := Tryz.zeroValue126
  i0 := by kernel_rfl
  i2 := by kernel_rfl
  i3 := by kernel_rfl
  i4 := by kernel_rfl
  i5 := by kernel_rfl
  i9 := by kernel_rfl
  i20 := by kernel_rfl
  i21 := by kernel_rfl
  i37 := by kernel_rfl
  i46 := by kernel_rfl
  i51 := by kernel_rfl
  i53 := by kernel_rfl
  i75 := by kernel_rfl
  i80 := by kernel_rfl
  i85 := by kernel_rfl
  i127 := by kernel_rfl
  i143 := by kernel_rfl
  i145 := by kernel_rfl
  i167 := by kernel_rfl
  i168 := by kernel_rfl
  i171 := by kernel_rfl
  i173 := by kernel_rfl
  i175 := by kernel_rfl
  i210 := by kernel_rfl
  i212 := by kernel_rfl
  i232 := by kernel_rfl
  i233 := by kernel_rfl
  m15 := by kernel_rfl
  m16 := by kernel_rfl
  m17 := by kernel_rfl
  m18 := by kernel_rfl
  m19 := by kernel_rfl
  c0 := by kernel_rfl
  c2 := by kernel_rfl
  c3 := by kernel_rfl
  c4 := by kernel_rfl
  c5 := by kernel_rfl
  c9 := by kernel_rfl
  c20 := by kernel_rfl
  c21 := by kernel_rfl
  c37 := by kernel_rfl
  c46 := by kernel_rfl
  c51 := by kernel_rfl
  c53 := by kernel_rfl
  c75 := by kernel_rfl
  c80 := by kernel_rfl
  c85 := by kernel_rfl
  c127 := by kernel_rfl
  c143 := by kernel_rfl
  c145 := by kernel_rfl
  c167 := by kernel_rfl
  c168 := by kernel_rfl
  c171 := by kernel_rfl
  c173 := by kernel_rfl
  c175 := by kernel_rfl
  c210 := by kernel_rfl
  c212 := by kernel_rfl
  c213 := by kernel_rfl
  c232 := by kernel_rfl
  c233 := by kernel_rfl }


end Go.Proofs
namespace Go.Proofs.YtfmpdcmedaiooaaGreatDoor
open Go.RowKit
/-- The variable strconv.ErrRange holds an error. -/
def ErrIn (w : World) : Prop := ∃ te pe, w.cell? ⟨5, 0, none⟩ = some (.iface te pe)
theorem ErrIn.next {w w' : World} (h : ErrIn w) (hb : Below w.heap.size w w') : ErrIn w' := by
  obtain ⟨te, pe, hc⟩ := h
  exact ⟨te, pe, (hb.cell (World.block_lt_of_cell? w _ hc)).trans hc⟩
def ParsePost (o : Option Int) (w : World) (e : Ending) (w' : World) : Prop := Below w.heap.size w w' ∧ match o with
  | some v => e = .returned (.tuple #[.int .i64 v, .nilIface])
  | none => ∃ n t p, e = .returned (.tuple #[.int .i64 n, .iface t p])
theorem parse_any (x : ByteArray) (o : Option Int) (h : Lib.atoiAll x.data.toList = endP o) (hx : x.size ≤ 281474976710656) (w : World) (hE : ErrIn w) :
    Calls Tryz.prog 148 #[.string x, .int .i64 10, .int .i64 64] w (ParsePost o w) := by
  rw [← Lib.parseIntB_64] at h
  cases o with
  | some v =>
    refine (Any.strconv_ParseInt_10_at64_ok Tryz.pi x (by omega) v h w).mono fun e w' he => ⟨?_, he.1⟩
    rcases he.2 with rfl | ⟨t, rfl⟩
    · exact Below.refl _ _
    · exact Lib.bytesWorld_below _ _ _
  | none =>
    obtain ⟨te, pe, hc⟩ := hE
    refine (Any.strconv_ParseInt_10_at64_range Tryz.pi x hx h _ w hc (.inr ⟨te, pe, rfl⟩)).mono fun e w' he => ?_
    obtain ⟨N, he, -, -, hb⟩ := he
    exact ⟨hb, _, _, _, he⟩
end Go.Proofs.YtfmpdcmedaiooaaGreatDoor

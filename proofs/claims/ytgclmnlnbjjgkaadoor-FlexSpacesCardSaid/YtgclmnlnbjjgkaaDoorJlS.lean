/- The contract of a string. -/
import Derived.Test.YtgclmnlnbjjgkaaDoorJl9
import Derived.WalkMore
import Derived.Scope
set_option linter.unusedVariables false
set_option linter.unusedSimpArgs false
namespace Go.Proofs.YtgclmnlnbjjgkaaDoor
open Go.RowKit
theorem point_open {f : FuncId} {args : Array Value} {w : World} {base : Nat} {out : List UInt8} (h : Calls Tryd.prog f args w (PointPost base out w)) :
    Calls Tryd.prog f args w fun e w' => ∃ A c, e = .returned (.slice A out.length c) ∧ w'.ownsRow base 5 1 (.slice A out.length c) out.length (bv out) ∧ Below base w w' := by
  refine h.mono fun e w' h => ?_
  obtain ⟨v, rfl, ho, hb⟩ := h
  obtain ⟨A, c, rfl, -, -⟩ := own_slice ho
  exact ⟨A, c, rfl, ho, hb⟩
theorem lex_open {f : FuncId} {args : Array Value} {w : World} {x : Lx} (h : Calls Tryd.prog f args w (LexPost x w)) :
    Calls Tryd.prog f args w fun e w' => e = .returned (.tuple #[.agg #[.int .i64 x.k, .int .i64 x.f, .int .i64 x.t, .int .u8 x.b, .int .i64 x.i, .string x.s], .int .i64 x.p, .int .i64 x.e]) ∧ Below w.heap.size w w' := h
def escEl : Esc → El
  | .ok r n => .add r n
  | .trunc => .trunc
  | .bad => .stop 4
def decEl : Option (Nat × Nat) → El
  | some (r, n) => .add r n
  | none => .stop 6
theorem elP_34 {l : List UInt8} {i : Nat} {b : UInt8} (h : l[i]? = some b) (h1 : b.toNat = 34) : elP (l.drop i) = .quote := by
  obtain ⟨g, rfl⟩ := List.getElem?_eq_some_iff.1 h
  rw [List.drop_eq_getElem_cons g, elP, if_pos h1]
theorem elP_92 {l : List UInt8} {i : Nat} {b : UInt8} (h : l[i]? = some b) (h1 : b.toNat = 92) : elP (l.drop i) = escEl (escP (l.drop (i + 1))) := by
  obtain ⟨g, rfl⟩ := List.getElem?_eq_some_iff.1 h
  rw [List.drop_eq_getElem_cons g, elP, if_neg (by omega), if_pos h1]
  cases escP (l.drop (i + 1)) <;> rfl
theorem elP_32 {l : List UInt8} {i : Nat} {b : UInt8} (h : l[i]? = some b) (h0 : b.toNat ≠ 34) (h1 : b.toNat ≠ 92) (h2 : b.toNat < 32) : elP (l.drop i) = .stop 4 := by
  obtain ⟨g, rfl⟩ := List.getElem?_eq_some_iff.1 h
  rw [List.drop_eq_getElem_cons g, elP, if_neg h0, if_neg h1, if_pos h2]
theorem elP_dec {l : List UInt8} {i : Nat} {b : UInt8} (h : l[i]? = some b) (h0 : b.toNat ≠ 34) (h1 : b.toNat ≠ 92) (h2 : ¬ b.toNat < 32) : elP (l.drop i) = decEl (dec (l.drop i)) := by
  obtain ⟨g, rfl⟩ := List.getElem?_eq_some_iff.1 h
  rw [List.drop_eq_getElem_cons g, elP, if_neg h0, if_neg h1, if_neg h2]
  rcases hd : dec (l[i] :: l.drop (i + 1)) with _ | ⟨r, n⟩ <;> rfl
theorem esc_as {s : ByteArray} {k : Nat} {x : Esc} {a : UInt8} (hs : s.size ≤ 1048576) (hk : k + 1 ≤ s.size) (h1 : s.data.toList[k]? = some a) (ha : a.toNat = 92) (hx : escP (s.data.toList.drop (k + 1)) = x) (w : World) :
    Calls Tryd.prog 53 #[.string s, .int .i64 k] w fun e w' => e = .returned (escV s.size k x) ∧ w = w' := by
  rw [← hx]; exact esc_any s k hs hk a h1 ha w
theorem ext_cells (s : ByteArray) (i n : Nat) : Lib.strCells (s.extract i (i + n)) = bv ((s.data.toList.drop i).take n) := by
  unfold Lib.strCells bv
  rw [← Lib.toList_data, ext_sub]
  unfold sub
  rw [show i + n - i = n from by omega]
set_option maxHeartbeats 10000000 in
set_option maxRecDepth 100000 in
theorem string_any (s : ByteArray) (k : Nat) (hs : s.size ≤ 1048576) (hk : k < s.size) (w : World) : Calls Tryd.prog 44 #[.string s, .int .i64 k] w (LexPost (strP s.data.toList k) w) := by
  have hl : s.data.toList.length = s.size := by simp
  have HL := Lib.hid hl
  clear hl
  obtain ⟨i0, hi, hz0, hz1, hz2⟩ := info_parts inf_u8
  obtain ⟨W1, hW1⟩ : ∃ X, X = w.alloc (.cells #[.int .i64 0, .int .i64 0, .int .i64 0, .int .u8 0, .int .i64 0, .string ⟨#[]⟩] 49) := ⟨_, rfl⟩
  have HBX : Hid (Box W1 w.heap.size 49 #[.int .i64 0, .int .i64 0, .int .i64 0, .int .u8 0, .int .i64 0, .string ⟨#[]⟩]) := Lib.hid (by rw [hW1]; exact Box.laid w _ _)
  have HBL : Hid (Below w.heap.size w W1) := Lib.hid (by rw [hW1]; exact (Below.refl _ _).alloc (Nat.le_refl _) _)
  have HW1 := Lib.hid hW1
  clear hW1
  have HST := Lib.hid (StrAt.start (l := s.data.toList) (k := k) (by rw [HL.out]; exact hk))
  go_enter Tryd.func44, Tryd.ntmps44
  go_wp2
  rw [← HW1.out]
  go_step3
  go_wp2
  go_step3
  go_wp2
  go_loopw [7, 8] (fun tv ti wr => ∃ (A : Option Addr) (c i : Nat) (out : List UInt8), i ≤ s.size ∧ tv = .slice A out.length c ∧ ti = .int .i64 i ∧ wr.ownsRow W1.heap.size 5 1 (.slice A out.length c) out.length (bv out) ∧ Below W1.heap.size W1 wr ∧ Hid (StrAt s.data.toList k i out)) (fun _ ti _ => s.size - (intOf ti).toNat)
  case atStart => exact ⟨none, 0, k + 1, [], by omega, rfl, by go_num, World.ownsRow_nil _ _ _ _, Below.refl _ _, HST⟩
  case round =>
    clear HST
    obtain ⟨A, c, i, out, hile, rfl, rfl, hown, hbel, HST⟩ := hrel
    have HO := Lib.hid hown
    have HBE := Lib.hid hbel
    have HSTEP := Lib.hid HST.out.step
    have hout : out.length ≤ 4194304 := by have h := HST.out.2.2.1; have h2 := HST.out.1; omega
    have HBR := Lib.hid (HBX.out.below hbel HBX.out.lt)
    have HBW := Lib.hid (chain HBL.out hbel)
    clear hown hbel
    by_cases hlt : i < s.size
    · obtain ⟨b, hb⟩ : ∃ b, s[i] = b := ⟨_, rfl⟩
      have HB := Lib.hid (at_list hlt hb)
      have hb255 := UInt8.toNat_lt b
      by_cases b34 : b.toNat = 34
      · have HW : Hid (strP s.data.toList k = strEj k (i + 1) out) := Lib.hid (by
          have h := HSTEP.out
          rw [elP_34 HB.out b34] at h
          exact h)
        have q1 : ((b.toNat : Int) == 34) = true := by rw [beq_iff_eq]; omega
        have HF := Lib.hid (lex_open (finish_str (.slice A out.length c) out k (i + 1) W1.heap.size wr HO.out (by omega)))
        have he1 : ((i + 1 : Nat) : Int) = (i : Int) + 1 := by omega
        rw [he1] at HF
        clear he1 b34
        go_wp2_with (go_at_call 52; refine HF.out.mono ?_; rintro e w' ⟨rfl, hb'⟩; have bx := HBR.out.below hb' HBR.out.lt; obtain ⟨t0, t1, t2, t3, t4, t5⟩ := box6 bx; obtain ⟨f0, f1, f2, f3, f4, f5⟩ := free6 bx)
        try rw [Exit.noGoto_ret]
        rw [HW.out]
        exact lex_ret Tryd.results44 rfl rfl rfl rfl (put6 bx _ _ _ _ _ _) (below_six (Nat.le_refl _) (HBW.out.trans (hb'.mono HBW.out.size)) _ _ _ _ _ _)
      · have q1 : ((b.toNat : Int) == 34) = false := beq_eq_false_iff_ne.2 (fun h => b34 (by omega))
        by_cases b92 : b.toNat = 92
        · have q2 : ((b.toNat : Int) == 92) = true := by rw [beq_iff_eq]; omega
          obtain ⟨x, hx⟩ : ∃ x, escP (s.data.toList.drop (i + 1)) = x := ⟨_, rfl⟩
          have HE := Lib.hid (fun W => esc_as hs (by omega : i + 1 ≤ s.size) HB.out b92 hx W)
          have hel : elP (s.data.toList.drop i) = escEl x := by rw [elP_92 HB.out b92, hx]
          have HX := Lib.hid hx
          clear b34 b92 hx
          cases x with
          | ok r n =>
            have hel2 : elP (s.data.toList.drop i) = .add r n := hel
            obtain ⟨g1, g2, g3, g4⟩ := elP_add hel2
            rw [List.length_drop, HL.out] at g2
            have HNEXT := Lib.hid (HST.out.next hel2)
            have HPT := Lib.hid (fun (W : World) (h : wr = W) => point_open (point_any (.slice A out.length c) out r W1.heap.size g3 W (by rw [← h]; exact HO.out) (by omega) (by rw [← h]; exact HBE.out.size)))
            simp only [escV] at HE
            clear hel hel2 g3 HSTEP
            go_wp2_with (first
              | (go_at_call 53; refine (HE.out _).mono ?_; rintro e w' ⟨rfl, rfl⟩)
              | (go_at_call 54; refine (HPT.out _ rfl).mono ?_; rintro e w2 ⟨A2, c2, rfl, hown2, hb2⟩))
            go_roundw
            case rel => exact ⟨A2, c2, i + n, out ++ enc r, by omega, by rw [List.length_append], by go_num, by first | exact hown2 | (rw [List.length_append]; exact hown2), HBE.out.trans hb2, HNEXT⟩
            case measure => simp [intOf]; omega
          | trunc =>
            have HW : Hid (strP s.data.toList k = noX s.size 5) := Lib.hid (by
              have h := HSTEP.out
              rw [hel] at h
              rw [HL.out] at h
              exact h)
            simp only [escV] at HE
            clear hel HSTEP
            go_wp2_with (first
              | (go_at_call 53; refine (HE.out _).mono ?_; rintro e w' ⟨rfl, rfl⟩)
              | (go_at_call 37; refine (fail_any _ _ _).mono ?_; rintro e w' ⟨rfl, hb'⟩; have bx := HBR.out.below hb' HBR.out.lt; obtain ⟨t0, t1, t2, t3, t4, t5⟩ := box6 bx; obtain ⟨f0, f1, f2, f3, f4, f5⟩ := free6 bx))
            try rw [Exit.noGoto_ret]
            rw [HW.out]
            exact lex_ret Tryd.results44 rfl rfl rfl rfl (put6 bx _ _ _ _ _ _) (below_six (Nat.le_refl _) (HBW.out.trans (hb'.mono HBW.out.size)) _ _ _ _ _ _)
          | bad =>
            have HW : Hid (strP s.data.toList k = noX i 4) := Lib.hid (by
              have h := HSTEP.out
              rw [hel] at h
              exact h)
            simp only [escV] at HE
            clear hel HSTEP
            go_wp2_with (first
              | (go_at_call 53; refine (HE.out _).mono ?_; rintro e w' ⟨rfl, rfl⟩)
              | (go_at_call 37; refine (fail_any _ _ _).mono ?_; rintro e w' ⟨rfl, hb'⟩; have bx := HBR.out.below hb' HBR.out.lt; obtain ⟨t0, t1, t2, t3, t4, t5⟩ := box6 bx; obtain ⟨f0, f1, f2, f3, f4, f5⟩ := free6 bx))
            try rw [Exit.noGoto_ret]
            rw [HW.out]
            exact lex_ret Tryd.results44 rfl rfl rfl rfl (put6 bx _ _ _ _ _ _) (below_six (Nat.le_refl _) (HBW.out.trans (hb'.mono HBW.out.size)) _ _ _ _ _ _)
        · have q2 : ((b.toNat : Int) == 92) = false := beq_eq_false_iff_ne.2 (fun h => b92 (by omega))
          by_cases b32 : b.toNat < 32
          · have HW : Hid (strP s.data.toList k = noX i 4) := Lib.hid (by
              have h := HSTEP.out
              rw [elP_32 HB.out b34 b92 b32] at h
              exact h)
            have q3 : decide ((b.toNat : Int) < 32) = true := by rw [decide_eq_true_iff]; omega
            have q4 : (b.toNat : Int) < 32 := by omega
            clear b34 b92 b32 HSTEP
            go_wp2_with (go_at_call 37; refine (fail_any _ _ _).mono ?_; rintro e w' ⟨rfl, hb'⟩; have bx := HBR.out.below hb' HBR.out.lt; obtain ⟨t0, t1, t2, t3, t4, t5⟩ := box6 bx; obtain ⟨f0, f1, f2, f3, f4, f5⟩ := free6 bx)
            try rw [Exit.noGoto_ret]
            rw [HW.out]
            exact lex_ret Tryd.results44 rfl rfl rfl rfl (put6 bx _ _ _ _ _ _) (below_six (Nat.le_refl _) (HBW.out.trans (hb'.mono HBW.out.size)) _ _ _ _ _ _)
          · have q4 : (32 : Int) ≤ (b.toNat : Int) := by omega
            have HEL2 := Lib.hid (elP_dec HB.out b34 b92 b32)
            have hsm : s.size ≤ maxLen := by unfold maxLen; omega
            have HDEC := Lib.hid (fun W => dec_any s i hsm W)
            clear b34 b92 b32 hsm
            cases hd : dec (s.data.toList.drop i) with
            | none =>
              have HW : Hid (strP s.data.toList k = noX i 6) := Lib.hid (by
                have h := HSTEP.out
                rw [HEL2.out, hd] at h
                exact h)
              have HD := Lib.hid (fun W => dec_none_of (HDEC.out W) hd)
              clear hd HSTEP HEL2 HDEC
              go_wp2_with (first
                | (go_at_call 55; refine (HD.out _).mono ?_; rintro e w' ⟨rfl, rfl⟩)
                | (go_at_call 37; refine (fail_any _ _ _).mono ?_; rintro e w' ⟨rfl, hb'⟩; have bx := HBR.out.below hb' HBR.out.lt; obtain ⟨t0, t1, t2, t3, t4, t5⟩ := box6 bx; obtain ⟨f0, f1, f2, f3, f4, f5⟩ := free6 bx))
              try rw [Exit.noGoto_ret]
              rw [HW.out]
              exact lex_ret Tryd.results44 rfl rfl rfl rfl (put6 bx _ _ _ _ _ _) (below_six (Nat.le_refl _) (HBW.out.trans (hb'.mono HBW.out.size)) _ _ _ _ _ _)
            | some rn =>
              obtain ⟨r, n⟩ := rn
              have hel2 : elP (s.data.toList.drop i) = .add r n := by rw [HEL2.out, hd]; rfl
              obtain ⟨g1, g2, g3, g4⟩ := elP_add hel2
              rw [List.length_drop, HL.out] at g2
              have HNEXT := Lib.hid (HST.out.next hel2)
              have HD := Lib.hid (fun W => dec_some_of (HDEC.out W) r n hd)
              obtain ⟨he1, he2⟩ := enc_dec hd
              have HC : Hid (Lib.strCells (s.extract i (i + n)) = bv (enc r)) := Lib.hid (by rw [ext_cells, he1])
              have hxs : (s.extract i (i + n)).size = n := by simp; omega
              have HXS := Lib.hid hxs
              have HN := Lib.hid he2
              clear hd HSTEP HEL2 HDEC hel2 he1 he2 hxs g3 g4
              go_wp2_with (first
                | (go_at_call 55; refine (HD.out _).mono ?_; rintro e w' ⟨rfl, rfl⟩)
                | (at_builtin; refine Lib.wpList_append_own_string _ rfl (.tmp 80) (.tmp 86) 56 9 rfl W1.heap.size 5 i0 Tryd.underlying56 Tryd.underlying9 hi hz0 hz1 hz2 (.slice A out.length c) out.length (bv out) rfl HO.out (s.extract i (i + n)) rfl (by rw [HXS.out]; unfold maxLen; omega) (by rw [HXS.out]; omega) HBE.out.size ?_; intro v2 w2 hown2 hgrow2 _; rw [HC.out, HXS.out, ← bv_append] at hown2; obtain ⟨A2, c2, rfl, hl2, -⟩ := own_slice hown2))
              go_roundw
              case rel => exact ⟨A2, c2, i + n, out ++ enc r, by omega, by rw [List.length_append, ← HN.out], rfl, by rw [List.length_append, ← HN.out]; exact hown2, HBE.out.grown hgrow2 HBE.out.size (fun j hj => (HO.out.lt j hj).1), HNEXT⟩
              case measure => simp [intOf]; omega
    · have HW : Hid (strP s.data.toList k = noX s.size 5) := Lib.hid (by
        have h := HSTEP.out
        rw [List.drop_eq_nil_of_le (by rw [HL.out]; omega), HL.out] at h
        exact h)
      clear HSTEP
      go_wp2_with (go_at_call 37; refine (fail_any _ _ _).mono ?_; rintro e w' ⟨rfl, hb'⟩; have bx := HBR.out.below hb' HBR.out.lt; obtain ⟨t0, t1, t2, t3, t4, t5⟩ := box6 bx; obtain ⟨f0, f1, f2, f3, f4, f5⟩ := free6 bx)
      try rw [Exit.noGoto_ret]
      rw [HW.out]
      exact lex_ret Tryd.results44 rfl rfl rfl rfl (put6 bx _ _ _ _ _ _) (below_six (Nat.le_refl _) (HBW.out.trans (hb'.mono HBW.out.size)) _ _ _ _ _ _)
end Go.Proofs.YtgclmnlnbjjgkaaDoor

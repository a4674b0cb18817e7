/- All tokens of a filter: the contract of Lex. -/
import Derived.Test.YtgclmnlnbjjgkaaDoorFf
import Derived.Laws.AppendOwn
set_option linter.unusedVariables false
set_option linter.unusedSimpArgs false
namespace Go.Proofs.YtgclmnlnbjjgkaaDoor
open Go.RowKit
def rowT (ts : List Fk) : List Value := ts.flatMap Fk.cs
theorem rowT_append (a b : List Fk) : rowT (a ++ b) = rowT a ++ rowT b := by simp [rowT]
theorem rowT_one (t : Fk) : rowT [t] = t.cs := by simp [rowT]
theorem rowT_len (ts : List Fk) : (rowT ts).length = ts.length * 4 := by
  induction ts with
  | nil => rfl
  | cons t r ih => rw [show rowT (t :: r) = t.cs ++ rowT r from rfl, List.length_append, ih, List.length_cons]; show 4 + _ = _; omega
theorem cs_one (t : Fk) : ∀ u ∈ t.cs, u.oneCell' = true := by
  intro u hu
  simp only [Fk.cs, List.mem_cons, List.not_mem_nil, or_false] at hu
  rcases hu with rfl | rfl | rfl | rfl <;> rfl
theorem inf_ft : (Tryd.prog.info? 28).map (fun i => (i.zero, i.size, i.bytes)) = some (some (.agg #[.int .i64 0, .int .i64 0, .string ⟨#[]⟩, .int .i64 0]), 4, 40) := by kernel_rfl
theorem four_new (w : World) (x0 x1 x2 x3 : Value) (t : TypeId) (g : Nat) (hg : w.heap.size = g) : ∀ j u, [x0, x1, x2, x3][j]? = some u → (w.alloc (.cells #[x0, x1, x2, x3] t)).cell? ((⟨g, 0, none⟩ : Addr).add j) = some u := by
  subst hg
  intro j u hj
  match j, hj with
  | 0, hj => simp at hj; subst hj; simp [Addr.add]
  | 1, hj => simp at hj; subst hj; simp [Addr.add]
  | 2, hj => simp at hj; subst hj; simp [Addr.add]
  | 3, hj => simp at hj; subst hj; simp [Addr.add]
theorem own_keepB {w w' : World} {base : Nat} {e : TypeId} {size n : Nat} {v : Value} {xs : List Value} (h : w.ownsRow base e size v n xs) (hb : Below w.heap.size w w') : w'.ownsRow base e size v n xs :=
  h.kept (below_grown hb none) (by cases h2 : v.ownBlock with | none => exact .inl rfl | some g => exact .inr (by simp))
theorem own_form {w : World} {base : Nat} {e : TypeId} {size n : Nat} {v : Value} {xs : List Value} (h : w.ownsRow base e size v n xs) : ∃ A c, v = .slice A n c := by
  rcases h.2 with ⟨rfl, rfl⟩ | ⟨g, cap, cur, rfl, -⟩
  · exact ⟨none, 0, rfl⟩
  · exact ⟨_, _, rfl⟩
/-- What Lex hands back. -/
def FlexPost (r : Fr) (w : World) (e : Ending) (w' : World) : Prop := Below w.heap.size w w' ∧ ∃ (A : Option Addr) (n c : Nat), e = .returned (.tuple #[.slice A n c, .int .i64 r.p, .int .i64 r.e]) ∧ match r.ts with
  | none => A = none ∧ n = 0 ∧ c = 0
  | some ts => n = ts.length ∧ w'.ownsRow w.heap.size 28 4 (.slice A n c) n (rowT ts)
theorem flex_none {w w' : World} {r : Fr} {p e : Nat} (h : r = ⟨none, p, e⟩) (hb : Below w.heap.size w w') : FlexPost r w (.returned (.tuple #[.slice none 0 0, .int .i64 p, .int .i64 e])) w' := by
  subst h
  exact ⟨hb, none, 0, 0, rfl, rfl, rfl, rfl⟩
set_option maxHeartbeats 10000000 in
set_option maxRecDepth 100000 in
theorem flex_any (s : ByteArray) (hs0 : s.size ≤ 281474976710656) (w : World) (hE : ErrIn w) (hG : SgIn w) : Calls Tryd.prog 6 #[.string s] w (FlexPost (lexFP s.data.toList) w) := by
  have HL := Lib.hid (show s.data.toList.length = s.size by simp)
  by_cases h8 : 8192 < s.size
  · have HR : Hid (lexFP s.data.toList = ⟨none, 0, 2⟩) := Lib.hid (by unfold lexFP; rw [HL.out, if_pos h8])
    rw [HR.out]
    have q8 : (8192 : Int) < (s.size : Int) := by omega
    go_enter Tryd.func6, Tryd.ntmps6
    go_wp2_with fail
    refine bodyPost_ret (v := .tuple #[.slice none 0 0, .int .i64 0, .int .i64 2]) (by simp [results, Tryd.results6, go_sem]) rfl ?_
    exact flex_none rfl (Below.refl _ _)
  · have hs : s.size ≤ 1048576 := by omega
    have hsm : s.size ≤ maxLen := by unfold maxLen; omega
    obtain ⟨i0, hi, hz0, hz1, hz2⟩ := info_parts inf_ft
    have HSK := Lib.hid (fun (k : Nat) (h : k ≤ s.size) W => fskip_any s k hsm h W)
    have HNX := Lib.hid (fun (k : Nat) (h : k < s.size) (W : World) (hb : Below w.heap.size w W) => fx_open (fnext_any s k hs h W (hE.next hb) (hG.next hb)))
    have HST := Lib.hid (FAt.start (l := s.data.toList) (by rw [HL.out]; exact h8))
    have hg0 : gapP s.data.toList 0 ≤ s.size := by rw [← HL.out]; exact gap_le _ _
    have HS0 := Lib.hid (HSK.out 0 (Nat.zero_le _))
    generalize gapP s.data.toList 0 = g0 at HST hg0 HS0
    obtain ⟨R, hR⟩ : ∃ R, lexFP s.data.toList = R := ⟨_, rfl⟩
    have HR := Lib.hid hR
    rw [hR]
    clear hE hG hs0 hsm hR
    go_enter Tryd.func6, Tryd.ntmps6
    go_wp2_with (go_at_call 12; refine (HS0.out _).mono ?_; rintro e w' ⟨rfl, rfl⟩)
    go_loopw [5, 6] (fun tv ti wr => ∃ (A : Option Addr) (c a : Nat) (ts : List Fk), a ≤ s.size ∧ ts.length ≤ 2048 ∧ tv = .slice A ts.length c ∧ ti = .int .i64 a ∧ Hid (wr.ownsRow w.heap.size 28 4 (.slice A ts.length c) ts.length (rowT ts)) ∧ Hid (Below w.heap.size w wr) ∧ Hid (FAt s.data.toList a ts)) (fun _ ti _ => s.size - (intOf ti).toNat)
    case atStart => exact ⟨none, 0, g0, [], hg0, Nat.zero_le _, rfl, rfl, Lib.hid (World.ownsRow_nil _ _ _ _), Lib.hid (Below.refl _ _), HST⟩
    case round =>
      clear HST HS0
      obtain ⟨A, c, a, ts, ha, htl, rfl, rfl, HO, HBE, HF⟩ := hrel
      by_cases hlt : a < s.size
      · by_cases hfull : ts.length = 2048
        · have HX := Lib.hid (HF.out.full (by rw [HL.out]; exact hlt) hfull)
          have qf : ((ts.length : Int) == 2048) = true := by rw [beq_iff_eq]; omega
          clear hfull
          go_wp2_with fail
          refine bodyPost_ret (v := .tuple #[.slice none 0 0, .int .i64 a, .int .i64 2]) (by simp [results, Tryd.results6, go_sem]) rfl ?_
          exact flex_none (HR.out.symm.trans HX.out) HBE.out
        · have qf : ((ts.length : Int) == 2048) = false := beq_eq_false_iff_ne.2 (fun h => hfull (by omega))
          have hnx := HNX.out a hlt wr HBE.out
          have hbad := HF.out.bad (by rw [HL.out]; exact hlt) hfull
          have hgood := HF.out.next (by rw [HL.out]; exact hlt) hfull
          have htok := tok_ok (l := s.data.toList) (a := a) (by rw [HL.out]; exact hlt)
          generalize tokP s.data.toList a = x at hnx hbad hgood htok
          obtain ⟨⟨K, O, S, I⟩, P, E⟩ := x
          simp only at hnx hbad hgood htok
          have HN := Lib.hid hnx
          clear hnx hfull
          by_cases hE0 : E = 0
          · subst hE0
            obtain ⟨g1, g2⟩ := hgood rfl
            obtain ⟨g3, g4⟩ := htok rfl
            rw [HL.out] at g4
            have HFN := Lib.hid g1
            have hgl : gapP s.data.toList P ≤ s.size := by rw [← HL.out]; exact gap_le _ _
            have HSP := Lib.hid (HSK.out P g4)
            generalize gapP s.data.toList P = a2 at HFN hgl HSP g2
            have htl2 : ts.length + 1 ≤ 2048 := by
              have h := HFN.out.2.1
              simpa using h
            clear hbad hgood htok g1
            go_upto_region 9 with (go_at_call 13; refine HN.out.mono ?_; rintro e w1 ⟨rfl, hb1⟩)
            obtain ⟨W2, hW2⟩ : ∃ X, X = w1.alloc (.cells #[.int .i64 K, .int .i64 O, .string S, .int .i64 I] 28) := ⟨_, rfl⟩
            rw [← hW2]
            have HBX := Lib.hid (show Box W2 w1.heap.size 28 #[.int .i64 K, .int .i64 O, .string S, .int .i64 I] by rw [hW2]; exact Box.laid w1 _ _)
            have HBW := Lib.hid (show Below wr.heap.size wr W2 by rw [hW2]; exact hb1.alloc hb1.size _)
            have HO2 := Lib.hid (own_keepB HO.out HBW.out)
            obtain ⟨t0, t1, t2, t3⟩ := box4 HBX.out
            clear hW2 hb1
            generalize w1.heap.size = gx at *
            have hszW : w.heap.size ≤ W2.heap.size := Nat.le_trans HBE.out.size HBW.out.size
            go_wp2_with (first
              | (at_builtin; refine wpList_append_own _ rfl _ _ 22 rfl w.heap.size 28 i0 (.agg #[.int .i64 0, .int .i64 0, .string ⟨#[]⟩, .int .i64 0]) 4 40 Tryd.underlying22 hi hz0 hz1 hz2 rfl (by decide) (.slice A ts.length c) ts.length (rowT ts) rfl (HO2.out.alloc _) ⟨W2.heap.size, 0, none⟩ 1 1 [.int .i64 K, .int .i64 O, .string S, .int .i64 I] rfl rfl (four_new _ _ _ _ _ _ _ rfl) (cs_one ⟨K, O, S, I⟩) (by unfold maxLen; omega) (by omega) (by simp; omega) ?_; intro v3 w3 hown3 hgrow3 _)
              | (go_at_call 12; refine (HSP.out _).mono ?_; rintro e w' ⟨rfl, rfl⟩))
            obtain ⟨A3, c3, rfl⟩ := own_form hown3
            have e1 : (ts ++ [(⟨K, O, S, I⟩ : Fk)]).length = ts.length + 1 := by simp
            have hbn : Below w.heap.size w w3 := ((chain HBE.out HBW.out).alloc hszW _).grown hgrow3 (by simp; omega) (fun j hj => (HO.out.lt j hj).1)
            go_roundw
            case rel => exact ⟨A3, c3, a2, ts ++ [⟨K, O, S, I⟩], hgl, by rw [e1]; exact htl2, by rw [e1], rfl, Lib.hid (by rw [e1, rowT_append, rowT_one]; exact hown3), Lib.hid hbn, HFN⟩
            case measure => simp [intOf]; omega
          · have HX := Lib.hid (hbad hE0)
            have qe : ((E : Int) != 0) = true := by rw [bne_iff_ne]; omega
            clear hbad hgood htok hE0
            go_upto_region 9 with (go_at_call 13; refine HN.out.mono ?_; rintro e w1 ⟨rfl, hb1⟩)
            have HBW := Lib.hid (chain HBE.out (hb1.alloc hb1.size (.cells #[.int .i64 K, .int .i64 O, .string S, .int .i64 I] 28)))
            clear hb1
            go_wp2_with fail
            refine bodyPost_ret (v := .tuple #[.slice none 0 0, .int .i64 P, .int .i64 E]) (by simp [results, Tryd.results6, go_sem]) rfl ?_
            exact flex_none (HR.out.symm.trans HX.out) HBW.out
      · have HX := Lib.hid (HF.out.done (by rw [HL.out]; exact hlt))
        rw [HL.out] at HX
        have hszW : w.heap.size ≤ wr.heap.size := HBE.out.size
        go_wp2_with (at_builtin; refine wpList_append_own _ rfl _ _ 22 rfl w.heap.size 28 i0 (.agg #[.int .i64 0, .int .i64 0, .string ⟨#[]⟩, .int .i64 0]) 4 40 Tryd.underlying22 hi hz0 hz1 hz2 rfl (by decide) (.slice A ts.length c) ts.length (rowT ts) rfl (HO.out.alloc _) ⟨wr.heap.size, 0, none⟩ 1 1 [.int .i64 0, .int .i64 (s.size : Int), .string ⟨#[]⟩, .int .i64 0] rfl rfl (four_new _ _ _ _ _ _ _ rfl) (cs_one ⟨0, s.size, ⟨#[]⟩, 0⟩) (by unfold maxLen; omega) (by omega) (by simp; omega) ?_; intro v3 w3 hown3 hgrow3 _)
        obtain ⟨A3, c3, rfl⟩ := own_form hown3
        have hbn : Below w.heap.size w w3 := (HBE.out.alloc hszW _).grown hgrow3 (by simp; omega) (fun j hj => (HO.out.lt j hj).1)
        have e1 : (ts ++ [(⟨0, s.size, ⟨#[]⟩, 0⟩ : Fk)]).length = ts.length + 1 := by simp
        refine bodyPost_ret (v := .tuple #[.slice A3 (ts.length + 1) c3, .int .i64 0, .int .i64 0]) (by simp [results, Tryd.results6, go_sem]) rfl ?_
        rw [← HR.out, HX.out]
        exact ⟨hbn, A3, ts.length + 1, c3, rfl, e1.symm, by rw [rowT_append, rowT_one]; exact hown3⟩
end Go.Proofs.YtgclmnlnbjjgkaaDoor

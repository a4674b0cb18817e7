/- The parser's methods need, needKind, takeAny; slices.Contains at strings. -/
import Derived.Test.YthgnelkppibpeaaGreatDoorYq
set_option linter.unusedVariables false
set_option linter.unusedSimpArgs false
set_option linter.unusedSectionVars false
namespace Go.Proofs.YthgnelkppibpeaaGreatDoor
open Go.RowKit
set_option maxHeartbeats 4000000 in
set_option maxRecDepth 100000 in
theorem need_any {L : List Fk} (hL : TokL L) {gt C g : Nat} {w : World} {σ : PS} (x : ByteArray) (hP : PAt L gt C g w σ) :
    Calls Tryz.prog 166 #[.pointer (some ⟨g, 0, none⟩), .string x] w (DonePost L gt C g w (needP L x σ)) := by
  have HP := Lib.hid hP
  unfold needP
  obtain ⟨b, hb⟩ : ∃ b, sees L x σ = b := ⟨_, rfl⟩
  have HT := Lib.hid (fun W (h : PAt L gt C g W σ) => take_any hL x b hb h)
  rw [hb]
  clear hb
  cases b with
  | true =>
    clear hP
    go_enter Tryz.func166, Tryz.ntmps166
    go_wp2_with fail
    refine (HT.out _ HP.out).mono ?_
    rintro e w1 ⟨rfl, H1⟩
    have H1 := Lib.hid H1
    go_wp2_with fail
    go_end0
    exact ⟨rfl, H1.out⟩
  | false =>
    have HK := Lib.hid (fun W (h : PAt L gt C g W σ) => peek_any h)
    have HF := Lib.hid (fun t W (h : PAt L gt C g W σ) => pfail_any hL t h)
    generalize tk L σ.k = t at HK ⊢
    clear hP
    go_enter Tryz.func166, Tryz.ntmps166
    go_wp2_with fail
    refine (HT.out _ HP.out).mono ?_
    rintro e w1 ⟨rfl, hg1, hp1⟩
    have H1 := Lib.hid hg1
    have HP1 : Hid (PAt L gt C g w1 σ) := Lib.hid hp1
    clear hg1 hp1
    go_wp2_with fail
    refine (HK.out _ HP1.out).mono ?_
    rintro e w2 ⟨rfl, hb2⟩
    have HP2 := Lib.hid (HP1.out.next hb2)
    have H2 := Lib.hid (H1.out.low hb2)
    clear hb2
    go_wp2_with fail
    refine (HF.out t _ HP2.out).mono ?_
    rintro e w3 ⟨rfl, hg3, hp3⟩
    have H3 := Lib.hid (And.intro (H2.out.trans hg3) hp3)
    clear hg3 hp3
    go_wp2_with fail
    go_end0
    exact ⟨rfl, H3.out⟩
def KindPost (L : List Fk) (gt C g : Nat) (w : World) (s : ByteArray) (τ : PS) (e : Ending) (w' : World) : Prop := e = .returned (.string s) ∧ Gr g w w' ∧ PAt L gt C g w' τ
set_option maxHeartbeats 4000000 in
set_option maxRecDepth 100000 in
theorem kind_any {L : List Fk} (hL : TokL L) {gt C g : Nat} {w : World} {σ : PS} (K : Nat) (hP : PAt L gt C g w σ) :
    Calls Tryz.prog 19 #[.pointer (some ⟨g, 0, none⟩), .int .i64 K] w (KindPost L gt C g w (tk L σ.k).s (kindS L K σ)) := by
  have HP := Lib.hid hP
  have HR := Lib.hid (fun W (h : PAt L gt C g W σ) => read_any hL h)
  have HF := Lib.hid (fun t W (h : PAt L gt C g W (readP L σ)) => pfail_any hL t h)
  have hg := hP.glt
  unfold kindS
  by_cases hk : (tk L σ.k).k = K
  · rw [if_pos hk]
    have q : (((tk L σ.k).k : Int) != (K : Int)) = false := by rw [bne_eq_false_iff_eq]; omega
    generalize tk L σ.k = t at HR q ⊢
    generalize readP L σ = τ at HR ⊢
    obtain ⟨k, o, s, i⟩ := t
    dsimp only at q ⊢
    clear hP hk
    go_enter Tryz.func19, Tryz.ntmps19
    go_wp2_with fail
    refine (HR.out _ HP.out).mono ?_
    rintro e w1 ⟨rfl, hg1, hp1⟩
    have H1 := Lib.hid hg1
    have HP1 := Lib.hid hp1
    clear hg1 hp1
    go_wp2_with fail
    go_ret
    exact ⟨rfl, H1.out.alloc _, HP1.out.alloc _⟩
  · rw [if_neg hk]
    have q : (((tk L σ.k).k : Int) != (K : Int)) = true := by rw [bne_iff_ne]; omega
    generalize tk L σ.k = t at HR q ⊢
    generalize readP L σ = τ at HR HF ⊢
    obtain ⟨k, o, s, i⟩ := t
    dsimp only at q ⊢
    clear hP hk
    go_enter Tryz.func19, Tryz.ntmps19
    go_wp2_with fail
    refine (HR.out _ HP.out).mono ?_
    rintro e w1 ⟨rfl, hg1, hp1⟩
    have H1 := Lib.hid (hg1.alloc (.cells #[.int .i64 k, .int .i64 o, .string s, .int .i64 i] 41))
    have HP1 := Lib.hid (hp1.alloc (.cells #[.int .i64 k, .int .i64 o, .string s, .int .i64 i] 41))
    have hg2 := hp1.glt
    clear hg1 hp1
    go_wp2_with fail
    refine (HF.out ⟨k, o, s, i⟩ _ HP1.out).mono ?_
    rintro e w2 ⟨rfl, hg3, hp3⟩
    have HB := Lib.hid ((Box.laid w1 41 #[.int .i64 k, .int .i64 o, .string s, .int .i64 i]).grown hg3 (by intro e; injection e with e; omega))
    obtain ⟨⟨y0, y1, y2, y3⟩, -⟩ := box4' HB.out
    have H3 := Lib.hid (And.intro (H1.out.trans hg3) hp3)
    clear hg3 hp3
    go_wp2_with fail
    go_ret
    exact ⟨rfl, H3.out⟩
/-- A row of strings reads from the address A. -/
def StrRow (w : World) (h : Nat) (xs : List ByteArray) : Prop := h < w.heap.size ∧ ∀ j u, xs[j]? = some u → w.cell? ⟨h, j, none⟩ = some (.string u)
set_option maxHeartbeats 4000000 in
set_option maxRecDepth 100000 in
theorem sindex_any (w : World) (h : Nat) (xs : List ByteArray) (x : ByteArray) (hr : StrRow w h xs) (hl : xs.length ≤ 100) :
    Calls Tryz.prog 102 #[.slice (some ⟨h, 0, none⟩) xs.length xs.length, .string x] w fun e w' => (∃ i : Int, e = .returned (.int .i64 i) ∧ decide (0 ≤ i) = memB x xs) ∧ w' = w := by
  have HR := Lib.hid hr.2
  clear hr
  go_enter Tryz.func102, Tryz.ntmps102
  go_wp2_with fail
  go_loopg [5, 8] xs.length (fun gg _ s8 wr => ∃ k : Nat, k ≤ xs.length ∧ xs.length - k ≤ gg ∧ s8 = .int .i64 k ∧ wr = w ∧ Hid (∀ (j : Nat) (u : ByteArray), j < k → xs[j]? = some u → ¬ u = x))
  case atStart => exact ⟨0, Nat.zero_le _, by omega, rfl, rfl, Lib.hid fun j p hj => absurd hj (Nat.not_lt_zero _)⟩
  case round =>
    obtain ⟨k, hk, hg, rfl, rfl, HI⟩ := hrel
    by_cases hlt : k < xs.length
    · obtain ⟨u, hu⟩ : ∃ u, xs[k]? = some u := ⟨_, List.getElem?_eq_getElem hlt⟩
      have HU := Lib.hid hu
      have hc := HR.out k u hu
      have hk0 : (0 : Int) ≤ (k : Int) := by omega
      have hkl : (k : Int) < (xs.length : Int) := by omega
      clear hu
      by_cases hx : u = x
      · have q : (x.toList == u.toList) = true := by rw [streq, decide_eq_true hx.symm]
        have HX := Lib.hid hx
        clear hx
        go_wp2_with fail
        (try simp only [Exit.inBlock, Exit.then])
        go_ret
        refine ⟨⟨k, rfl, ?_⟩, rfl⟩
        rw [decide_eq_true hk0]
        exact (List.any_eq_true.2 ⟨u, List.mem_of_getElem? HU.out, decide_eq_true HX.out⟩).symm
      · have q : (x.toList == u.toList) = false := by rw [streq, decide_eq_false (fun e => hx e.symm)]
        have HX := Lib.hid hx
        clear hx
        go_wp2_with fail
        go_roundg (xs.length - (k + 1))
        case measure => omega
        case rel =>
          refine ⟨k + 1, hlt, by omega, by go_num, rfl, Lib.hid fun j u' hj hu' => ?_⟩
          by_cases e : j = k
          · subst e
            rw [HU.out] at hu'
            injection hu' with hu'
            exact hu' ▸ HX.out
          · exact HI.out j u' (by omega) hu'
    · go_wp2_with fail
      (try simp only [Exit.inBlock, Exit.then])
      go_wp2_with fail
      go_ret
      refine ⟨⟨-1, rfl, ?_⟩, rfl⟩
      rw [decide_eq_false (by omega)]
      refine (List.any_eq_false.2 fun u hu => ?_).symm
      obtain ⟨j, hj⟩ := List.mem_iff_getElem?.1 hu
      have := HI.out j u (by have := (List.getElem?_eq_some_iff.1 hj).1; omega) hj
      simpa using this
set_option maxHeartbeats 4000000 in
set_option maxRecDepth 100000 in
theorem scontains_any (w : World) (h : Nat) (xs : List ByteArray) (x : ByteArray) (hr : StrRow w h xs) (hl : xs.length ≤ 100) :
    Calls Tryz.prog 81 #[.slice (some ⟨h, 0, none⟩) xs.length xs.length, .string x] w fun e w' => e = .returned (.bool (memB x xs)) ∧ w = w' := by
  have HI := Lib.hid (sindex_any w h xs x hr hl)
  clear hr
  generalize memB x xs = b at HI ⊢
  cases b with
  | false =>
    go_enter Tryz.func81, Tryz.ntmps81
    go_wp2_with (go_at_call 102; (with_reducible refine HI.out.mono ?_); rintro e w' ⟨⟨i, rfl, hi⟩, rfl⟩)
    go_ret
    exact ⟨rfl, rfl⟩
  | true =>
    go_enter Tryz.func81, Tryz.ntmps81
    go_wp2_with (go_at_call 102; (with_reducible refine HI.out.mono ?_); rintro e w' ⟨⟨i, rfl, hi⟩, rfl⟩)
    go_ret
    exact ⟨rfl, rfl⟩
theorem field_text (t : Fk) (W : World) : Sem.run Tryz.prog (Instr.field 41 (.agg #[.int .i64 t.k, .int .i64 t.o, .string t.s, .int .i64 t.i]) 2) W = .ok (.string t.s) W := by kernel_rfl
/-- What takeAny hands back. -/
def AnyPost (L : List Fk) (gt C g : Nat) (w : World) (b : Bool) (s : ByteArray) (τ : PS) (e : Ending) (w' : World) : Prop := e = .returned (.tuple #[.string (if b = true then s else ⟨#[]⟩), .bool b]) ∧ Gr g w w' ∧ PAt L gt C g w' τ
theorem StrRow.below {w w' : World} {h : Nat} {xs : List ByteArray} (k : StrRow w h xs) (hb : Below w.heap.size w w') : StrRow w' h xs :=
  ⟨Nat.lt_of_lt_of_le k.1 hb.size, fun j u hj => (hb.cell (p := ⟨h, j, none⟩) k.1).trans (k.2 j u hj)⟩
theorem StrRow.gr {g : Nat} {w w' : World} {h : Nat} {xs : List ByteArray} (k : StrRow w h xs) (hb : Gr g w w') (hn : h ≠ g) : StrRow w' h xs :=
  ⟨Nat.lt_of_lt_of_le k.1 hb.size, fun j u hj => (hb.cell k.1 hn).trans (k.2 j u hj)⟩
set_option maxHeartbeats 4000000 in
set_option maxRecDepth 100000 in
theorem takeAny_any {L : List Fk} (hL : TokL L) {gt C g : Nat} {w : World} {σ : PS} (h : Nat) (xs : List ByteArray) (hr : StrRow w h xs) (hl : xs.length ≤ 100) (b : Bool) (hb : anyP L xs σ = b) (hP : PAt L gt C g w σ) :
    Calls Tryz.prog 54 #[.pointer (some ⟨g, 0, none⟩), .slice (some ⟨h, 0, none⟩) xs.length xs.length] w (AnyPost L gt C g w b (tk L σ.k).s (if b = true then adv σ else σ)) := by
  have HP := Lib.hid hP
  have HK := Lib.hid (fun W (h : PAt L gt C g W σ) => peek_any h)
  have HI := Lib.hid (fun W => isw_any (tk L σ.k) W)
  have HRW := Lib.hid hr
  have hg := hP.glt
  have hb0 := hb
  unfold anyP at hb
  cases hiw : isW (tk L σ.k) with
  | false =>
    rw [hiw] at HI hb
    rw [Bool.false_and] at hb
    subst hb
    generalize tk L σ.k = t at HK HI ⊢
    clear hiw hb0 hP hr
    go_enter Tryz.func54, Tryz.ntmps54
    go_wp2_with fail
    refine (HK.out _ HP.out).mono ?_
    rintro e w1 ⟨rfl, hb1⟩
    have HB1 := Lib.hid hb1
    have hz := hb1.size
    clear hb1
    go_wp2_with fail
    refine (HI.out _).mono ?_
    rintro e w2 ⟨rfl, hb2⟩
    have HB2 := Lib.hid (chain (HB1.out.alloc hz (.cells #[.int .i64 t.k, .int .i64 t.o, .string t.s, .int .i64 t.i] 41)) hb2)
    clear hb2
    go_wp2_with fail
    go_ret2
    exact ⟨rfl, Gr.below HB2.out, HP.out.next HB2.out⟩
  | true =>
    rw [hiw] at HI hb
    rw [Bool.true_and] at hb
    have HC := Lib.hid (fun W (hw : StrRow W h xs) => scontains_any W h xs (tk L σ.k).s hw hl)
    rw [hb] at HC
    cases b with
    | false =>
      generalize tk L σ.k = t at HK HI HC ⊢
      clear hiw hb0 hP hr hb
      go_enter Tryz.func54, Tryz.ntmps54
      go_wp2_with fail
      refine (HK.out _ HP.out).mono ?_
      rintro e w1 ⟨rfl, hb1⟩
      have HB1 := Lib.hid hb1
      have hz := hb1.size
      clear hb1
      go_wp2_with fail
      refine (HI.out _).mono ?_
      rintro e w2 ⟨rfl, hb2⟩
      have HB2 := Lib.hid (chain (HB1.out.alloc hz (.cells #[.int .i64 t.k, .int .i64 t.o, .string t.s, .int .i64 t.i] 41)) hb2)
      have HR2 := Lib.hid (HRW.out.below HB2.out)
      obtain ⟨⟨y0, y1, y2, y3⟩, -⟩ := box4' ((Box.laid w1 41 #[.int .i64 t.k, .int .i64 t.o, .string t.s, .int .i64 t.i]).below hb2 (by simp))
      clear hb2
      go_wp2_with fail
      refine (HC.out _ HR2.out).mono ?_
      rintro e w3 ⟨rfl, rfl⟩
      go_wp2_with fail
      go_ret2
      exact ⟨rfl, Gr.below HB2.out, HP.out.next HB2.out⟩
    | true =>
      have HRD := Lib.hid (fun W (h : PAt L gt C g W σ) => read_any hL h)
      rw [any_read hb0] at HRD
      generalize tk L σ.k = t at HK HI HC HRD ⊢
      have hfl := field_text t
      clear hiw hb0 hP hr hb
      go_enter Tryz.func54, Tryz.ntmps54
      go_wp2_with fail
      refine (HK.out _ HP.out).mono ?_
      rintro e w1 ⟨rfl, hb1⟩
      have HB1 := Lib.hid hb1
      have hz := hb1.size
      clear hb1
      go_wp2_with fail
      refine (HI.out _).mono ?_
      rintro e w2 ⟨rfl, hb2⟩
      have HB2 := Lib.hid (chain (HB1.out.alloc hz (.cells #[.int .i64 t.k, .int .i64 t.o, .string t.s, .int .i64 t.i] 41)) hb2)
      have HR2 := Lib.hid (HRW.out.below HB2.out)
      obtain ⟨⟨y0, y1, y2, y3⟩, -⟩ := box4' ((Box.laid w1 41 #[.int .i64 t.k, .int .i64 t.o, .string t.s, .int .i64 t.i]).below hb2 (by simp))
      clear hb2
      go_wp2_with fail
      refine (HC.out _ HR2.out).mono ?_
      rintro e w3 ⟨rfl, rfl⟩
      go_wp2_with fail
      refine (HRD.out _ (HP.out.next HB2.out)).mono ?_
      rintro e w4 ⟨rfl, hg4, hp4⟩
      have H4 := Lib.hid (And.intro ((Gr.below (g := g) HB2.out).trans hg4) hp4)
      clear hg4 hp4
      go_wp2_with fail
      go_ret2
      exact ⟨rfl, H4.out.1, H4.out.2⟩
end Go.Proofs.YthgnelkppibpeaaGreatDoor

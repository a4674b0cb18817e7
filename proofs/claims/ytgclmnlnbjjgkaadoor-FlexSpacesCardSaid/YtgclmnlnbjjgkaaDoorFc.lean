/- Names and words of a filter: the contracts of fail, named, word and beginsFraction. -/
import Derived.Test.YtgclmnlnbjjgkaaDoorFb
import Derived.Test.YtgclmnlnbjjgkaaDoorJl3
set_option linter.unusedVariables false
set_option linter.unusedSimpArgs false
namespace Go.Proofs.YtgclmnlnbjjgkaaDoor
open Go.RowKit
def FxPost (x : Fx) (w : World) (e : Ending) (w' : World) : Prop := e = .returned x.val ∧ Below w.heap.size w w'
theorem fx_as {f : FuncId} {args : Array Value} {w : World} {x y : Fx} (h : Calls Tryd.prog f args w (FxPost x w)) (hx : y = x) : Calls Tryd.prog f args w (FxPost y w) := by
  subst hx; exact h
theorem fx_open {f : FuncId} {args : Array Value} {w : World} {x : Fx} (h : Calls Tryd.prog f args w (FxPost x w)) : Calls Tryd.prog f args w fun e w' => e = .returned (.tuple #[.agg #[.int .i64 x.t.k, .int .i64 x.t.o, .string x.t.s, .int .i64 x.t.i], .int .i64 x.p, .int .i64 x.e]) ∧ Below w.heap.size w w' := h
theorem box4 {w : World} {g : Nat} {t : TypeId} {x0 x1 x2 x3 : Value} (h : Box w g t #[x0, x1, x2, x3]) : w.cell? ⟨g, 0, none⟩ = some x0 ∧ w.cell? ⟨g, 1, none⟩ = some x1 ∧ w.cell? ⟨g, 2, none⟩ = some x2 ∧ w.cell? ⟨g, 3, none⟩ = some x3 :=
  ⟨h.cell rfl, h.cell rfl, h.cell rfl, h.cell rfl⟩
theorem free4 {w : World} {g : Nat} {t : TypeId} {x0 x1 x2 x3 : Value} (h : Box w g t #[x0, x1, x2, x3]) : w.frozen? ⟨g, 0, none⟩ = false ∧ w.frozen? ⟨g, 1, none⟩ = false ∧ w.frozen? ⟨g, 2, none⟩ = false ∧ w.frozen? ⟨g, 3, none⟩ = false :=
  ⟨h.free 0, h.free 1, h.free 2, h.free 3⟩
theorem below_four {w X : World} {B g : Nat} (hg : B ≤ g) (h : Below B w X) (u0 u1 u2 u3 : Value) : Below B w ((((X.setCell ⟨g, 0, none⟩ u0).setCell ⟨g, 1, none⟩ u1).setCell ⟨g, 2, none⟩ u2).setCell ⟨g, 3, none⟩ u3) :=
  (((h.setCell hg _).setCell hg _).setCell hg _).setCell hg _
theorem put4 {w : World} {g : Nat} {t : TypeId} {x0 x1 x2 x3 : Value} (h : Box w g t #[x0, x1, x2, x3]) (u0 u1 u2 u3 : Value) :
    Box ((((w.setCell ⟨g, 0, none⟩ u0).setCell ⟨g, 1, none⟩ u1).setCell ⟨g, 2, none⟩ u2).setCell ⟨g, 3, none⟩ u3) g t #[u0, u1, u2, u3] :=
  (((h.put 0 u0).put 1 u1).put 2 u2).put 3 u3
theorem ftok_ret {F : Func} {a b c : Nat} {Post : Ending → World → Prop} {A : Act} {X : World} {g : Nat} {x0 x1 x2 x3 p e : Value} (hr : F.results = #[.cell a 28, .tmp b, .tmp c])
    (ha : A.tmps[a]?.getD undef = .pointer (some ⟨g, 0, none⟩)) (hb : A.tmps[b]?.getD undef = p) (hc : A.tmps[c]?.getD undef = e) (hd : A.defers = []) (bx : Box X g 28 #[x0, x1, x2, x3])
    (h : Post (.returned (.tuple #[.agg #[x0, x1, x2, x3], p, e])) X) : bodyPost Tryd.prog F Post Exit.ret A X := by
  obtain ⟨t0, t1, t2, t3⟩ := box4 bx
  refine bodyPost_ret (v := .tuple #[.agg #[x0, x1, x2, x3], p, e]) ?_ hd h
  simp [results, hr, go_sem, ha, hb, hc, t0, t1, t2, t3]
theorem fx_ret {F : Func} {a b c : Nat} {x : Fx} {w : World} {A : Act} {X : World} {g : Nat} (hr : F.results = #[.cell a 28, .tmp b, .tmp c])
    (ha : A.tmps[a]?.getD undef = .pointer (some ⟨g, 0, none⟩)) (hb : A.tmps[b]?.getD undef = .int .i64 x.p) (hc : A.tmps[c]?.getD undef = .int .i64 x.e) (hd : A.defers = [])
    (bx : Box X g 28 #[.int .i64 x.t.k, .int .i64 x.t.o, .string x.t.s, .int .i64 x.t.i])
    (h : Below w.heap.size w X) : bodyPost Tryd.prog F (FxPost x w) Exit.ret A X := ftok_ret hr ha hb hc hd bx ⟨rfl, h⟩
theorem ffail_any (p e : Int) (w : World) : Calls Tryd.prog 27 #[.int .i64 p, .int .i64 e] w fun x w' => x = .returned (.tuple #[.agg #[.int .i64 0, .int .i64 0, .string ⟨#[]⟩, .int .i64 0], .int .i64 p, .int .i64 e]) ∧ Below w.heap.size w w' := by
  go_enter Tryd.func27, Tryd.ntmps27
  go_wp2_with fail
  refine bodyPost_ret (v := .tuple #[.agg #[.int .i64 0, .int .i64 0, .string ⟨#[]⟩, .int .i64 0], .int .i64 p, .int .i64 e]) (by simp [results, Tryd.results27, go_sem]) rfl ⟨rfl, ?_⟩
  exact (Below.refl _ _).alloc (Nat.le_refl _) _
theorem ext_size (s : ByteArray) (i j : Nat) (hs : s.size ≤ 1048576) : (s.extract i j).size ≤ 281474976710656 := by
  rw [ByteArray.size_extract]; omega
theorem ext_subd (s : ByteArray) (i j : Nat) : (s.extract i j).data.toList = sub s.data.toList i j := (Lib.toList_data _).symm.trans (ext_sub s i j)
theorem bs_ext (s : ByteArray) (i j : Nat) : s.extract i j = bsF (sub s.data.toList i j) := by
  have h := ext_sub s i j
  rw [Lib.toList_data] at h
  unfold bsF
  rw [← h]
set_option maxHeartbeats 4000000 in
set_option maxRecDepth 100000 in
theorem named_any (k : Nat) (s : ByteArray) (o f : Nat) (hs : s.size ≤ 1048576) (hf : f ≤ s.size) (w : World) : Calls Tryd.prog 19 #[.int .i64 k, .string s, .int .i64 o, .int .i64 f] w (FxPost (namedP s.data.toList k o f) w) := by
  have hsm : s.size ≤ maxLen := by unfold maxLen; omega
  have HE := Lib.hid (fun W => fend_any s f hsm hf W)
  have hl : s.data.toList.length = s.size := by simp
  have hts : span nmdB s.data.toList f ≤ s.size := by rw [← hl]; exact span_le (by omega)
  have hft := span_ge nmdB s.data.toList f
  have HX := Lib.hid (bs_ext s f (span nmdB s.data.toList f))
  obtain ⟨W1, hW1⟩ : ∃ X, X = w.alloc (.cells #[.int .i64 0, .int .i64 0, .string ⟨#[]⟩, .int .i64 0] 28) := ⟨_, rfl⟩
  have HBX : Hid (Box W1 w.heap.size 28 #[.int .i64 0, .int .i64 0, .string ⟨#[]⟩, .int .i64 0]) := Lib.hid (by rw [hW1]; exact Box.laid w _ _)
  have HBL : Hid (Below w.heap.size w W1) := Lib.hid (by rw [hW1]; exact (Below.refl _ _).alloc (Nat.le_refl _) _)
  have HW1 := Lib.hid hW1
  unfold namedP
  rw [← HX.out]
  clear hW1 hl HX hsm
  generalize span nmdB s.data.toList f = t at *
  by_cases h : 32 < t - f
  · rw [if_pos h]
    go_enter Tryd.func19, Tryd.ntmps19
    go_upto_region 1 with fail
    rw [← HW1.out]
    have q : (32 : Int) < (t : Int) - (f : Int) := by omega
    go_wp2_with (first
      | (go_at_call 15; refine (HE.out _).mono ?_; rintro e w' ⟨rfl, rfl⟩)
      | (go_at_call 27; refine (ffail_any _ _ _).mono ?_; rintro e w' ⟨rfl, hb'⟩; have bx := HBX.out.below hb' HBX.out.lt; obtain ⟨t0, t1, t2, t3⟩ := box4 bx; obtain ⟨f0, f1, f2, f3⟩ := free4 bx))
    exact fx_ret Tryd.results19 rfl rfl rfl rfl (put4 bx _ _ _ _) (below_four (Nat.le_refl _) (HBL.out.trans (hb'.mono HBL.out.size)) _ _ _ _)
  · rw [if_neg h]
    have HC := Lib.hid (fun W => clone_lib (s.extract f t) W (ext_size s f t hs))
    go_enter Tryd.func19, Tryd.ntmps19
    go_upto_region 1 with fail
    rw [← HW1.out]
    have q : ¬ (32 : Int) < (t : Int) - (f : Int) := by omega
    go_wp2_with (first
      | (go_at_call 15; refine (HE.out _).mono ?_; rintro e w' ⟨rfl, rfl⟩)
      | (go_at_call 28; refine (HC.out _).mono ?_; rintro e w' ⟨rfl, hb'⟩; have bx := HBX.out.below hb' HBX.out.lt; obtain ⟨t0, t1, t2, t3⟩ := box4 bx; obtain ⟨f0, f1, f2, f3⟩ := free4 bx))
    exact fx_ret Tryd.results19 rfl rfl rfl rfl (put4 bx _ _ _ _) (below_four (Nat.le_refl _) (HBL.out.trans (hb'.mono HBL.out.size)) _ _ _ _)
set_option maxHeartbeats 4000000 in
set_option maxRecDepth 100000 in
theorem fword_any (s : ByteArray) (a : Nat) (hs : s.size ≤ 1048576) (ha : a ≤ s.size) (w : World) : Calls Tryd.prog 18 #[.string s, .int .i64 a] w (FxPost (wordFP s.data.toList a) w) := by
  have hsm : s.size ≤ maxLen := by unfold maxLen; omega
  have HE := Lib.hid (fun W => fend_any s a hsm ha W)
  have hl : s.data.toList.length = s.size := by simp
  have hts : span nmdB s.data.toList a ≤ s.size := by rw [← hl]; exact span_le (by omega)
  have hft := span_ge nmdB s.data.toList a
  have HN := Lib.hid (fun k W => fx_open (named_any k s a a hs ha W))
  have hk := fun W => kw_any (s.extract a (span nmdB s.data.toList a)) W
  rw [ext_subd] at hk
  unfold wordFP wordK
  obtain ⟨W1, hW1⟩ : ∃ X, X = w.alloc (.cells #[.int .i64 0, .int .i64 0, .string ⟨#[]⟩, .int .i64 0] 28) := ⟨_, rfl⟩
  have HBX : Hid (Box W1 w.heap.size 28 #[.int .i64 0, .int .i64 0, .string ⟨#[]⟩, .int .i64 0]) := Lib.hid (by rw [hW1]; exact Box.laid w _ _)
  have HBL : Hid (Below w.heap.size w W1) := Lib.hid (by rw [hW1]; exact (Below.refl _ _).alloc (Nat.le_refl _) _)
  have HW1 := Lib.hid hW1
  clear hW1 hl hsm
  generalize kwB (sub s.data.toList a (span nmdB s.data.toList a)) = b at *
  have HK := Lib.hid hk
  clear hk
  generalize span nmdB s.data.toList a = t at *
  cases b with
  | true =>
    rw [if_pos rfl]
    have HM := Lib.hid (fun W => HN.out 2 W)
    generalize namedP s.data.toList 2 a a = x at HM ⊢
    clear HN
    go_enter Tryd.func18, Tryd.ntmps18
    go_upto_region 1 with fail
    rw [← HW1.out]
    go_wp2_with (first
      | (go_at_call 15; refine (HE.out _).mono ?_; rintro e w' ⟨rfl, rfl⟩)
      | (go_at_call 11; refine (HK.out _).mono ?_; rintro e w' ⟨rfl, rfl⟩)
      | (go_at_call 19; refine (HM.out _).mono ?_; rintro e w' ⟨rfl, hb'⟩; have bx := HBX.out.below hb' HBX.out.lt; obtain ⟨t0, t1, t2, t3⟩ := box4 bx; obtain ⟨f0, f1, f2, f3⟩ := free4 bx))
    exact fx_ret Tryd.results18 rfl rfl rfl rfl (put4 bx _ _ _ _) (below_four (Nat.le_refl _) (HBL.out.trans (hb'.mono HBL.out.size)) _ _ _ _)
  | false =>
    rw [if_neg Bool.false_ne_true]
    have HM := Lib.hid (fun W => HN.out 1 W)
    generalize namedP s.data.toList 1 a a = x at HM ⊢
    clear HN
    go_enter Tryd.func18, Tryd.ntmps18
    go_upto_region 1 with fail
    rw [← HW1.out]
    go_wp2_with (first
      | (go_at_call 15; refine (HE.out _).mono ?_; rintro e w' ⟨rfl, rfl⟩)
      | (go_at_call 11; refine (HK.out _).mono ?_; rintro e w' ⟨rfl, rfl⟩)
      | (go_at_call 19; refine (HM.out _).mono ?_; rintro e w' ⟨rfl, hb'⟩; have bx := HBX.out.below hb' HBX.out.lt; obtain ⟨t0, t1, t2, t3⟩ := box4 bx; obtain ⟨f0, f1, f2, f3⟩ := free4 bx))
    exact fx_ret Tryd.results18 rfl rfl rfl rfl (put4 bx _ _ _ _) (below_four (Nat.le_refl _) (HBL.out.trans (hb'.mono HBL.out.size)) _ _ _ _)
set_option maxHeartbeats 1000000 in
theorem frac_any (s : ByteArray) (t : Nat) (hs : s.size ≤ 1048576) (ht : t ≤ s.size) (w : World) : Calls Tryd.prog 29 #[.string s, .int .i64 t] w fun e w' => e = .returned (.bool (fracB s.data.toList t)) ∧ w = w' := by
  have HL := Lib.hid (show s.data.toList.length = s.size by simp)
  unfold fracB
  by_cases h : t + 1 < s.size
  · obtain ⟨b, hb⟩ : ∃ b, s[t] = b := ⟨_, rfl⟩
    obtain ⟨c, hc⟩ : ∃ c, s[t + 1] = c := ⟨_, rfl⟩
    rw [bytq (at_list (by omega) hb), atF_at (at_list h hc)]
    have HD := Lib.hid (fun W => fdig_any c W)
    generalize digB c = d at HD ⊢
    by_cases h46 : b.toNat = 46
    · have q : ((b.toNat : Int) == 46) = true := by rw [beq_iff_eq]; omega
      rw [decide_eq_true h46, Bool.true_and]
      clear h46
      go_enter Tryd.func29, Tryd.ntmps29
      go_wp2_with (go_at_call 20; refine (HD.out _).mono ?_; rintro e w' ⟨rfl, rfl⟩)
      all_goals go_ret
      all_goals exact ⟨rfl, rfl⟩
    · have q : ((b.toNat : Int) == 46) = false := beq_eq_false_iff_ne.2 (fun h => h46 (by omega))
      rw [decide_eq_false h46, Bool.false_and]
      clear h46
      go_enter Tryd.func29, Tryd.ntmps29
      go_wp2_with (go_at_call 20; refine (HD.out _).mono ?_; rintro e w' ⟨rfl, rfl⟩)
      all_goals go_ret
      all_goals exact ⟨rfl, rfl⟩
  · rw [atF_end (show s.data.toList.length ≤ t + 1 by rw [HL.out]; omega), Bool.and_false]
    go_enter Tryd.func29, Tryd.ntmps29
    go_wp2_with fail
    all_goals go_ret
    all_goals exact ⟨rfl, rfl⟩
end Go.Proofs.YtgclmnlnbjjgkaaDoor

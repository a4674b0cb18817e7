/- What the reference of layer 6 does, plain: the merge that looks at its limits in the end, pieces at the empty separator, repeating at the end. The reference of layer 6: what its functions hand back; both, Operator, Neg; operators. The reference of layer 6: repeat, Split, Strings. -/
import Derived.Test.YtgdnkankleoaoaaGreatDoorA41
import Derived.Test.YtgdnkankleoaoaaGreatDoorA35
import Derived.Test.YtgdnkankleoaoaaGreatDoorA42
import Derived.Lib.RuneCountTail
import Derived.Test.YtgdnkankleoaoaaGreatDoorA19
import Derived.Test.YtgdnkankleoaoaaGreatDoorA37
import Derived.Test.YtgdnkankleoaoaaGreatDoorA40
import Derived.Test.YtgdnkankleoaoaaGreatDoorRm
import Derived.Test.YtgdnkankleoaoaaGreatDoorA34
import Derived.Test.YtgdnkankleoaoaaGreatDoorA14
import Derived.Test.YtgdnkankleoaoaaGreatDoorA44
import Derived.Test.YtgdnkankleoaoaaGreatDoorA43
set_option linter.unusedVariables false
set_option linter.unusedSimpArgs false
namespace Go.Proofs.YtgdnkankleoaoaaGreatDoor
open Go.RowKit Go.Lib
mutual
/-- The merge of two objects, whatever comes of it. -/
def mgV : V → V → V
  | .mk _ _ _ ks es, .mk _ _ _ ks2 es2 => objL (putL (ks.zip es) (ks2.zip (mgVL ks es ks2 es2)))
/-- The elements behind the merge of those with one key. -/
def mgVL (ks : List ByteArray) (es : List V) : List ByteArray → List V → List V
  | k :: ks2, e :: es2 =>
    match hit ks es k e with
    | none => e :: mgVL ks es ks2 es2
    | some x => mgV x e :: mgVL ks es ks2 es2
  | _, _ => []
end
theorem mgV_eq (k n : Int) (s : ByteArray) (ks : List ByteArray) (es : List V) (k2 n2 : Int) (s2 : ByteArray) (ks2 : List ByteArray) (es2 : List V) :
    mgV (.mk k n s ks es) (.mk k2 n2 s2 ks2 es2) = objL (putL (ks.zip es) (ks2.zip (mgVL ks es ks2 es2))) := by rw [mgV]
/-- The element behind the merge with the one that has its key. -/
def mgX (ks : List ByteArray) (es : List V) (k : ByteArray) (e : V) : V := match hit ks es k e with | none => e | some x => mgV x e
theorem mgVL_cons (ks : List ByteArray) (es : List V) (k : ByteArray) (e : V) (ks2 : List ByteArray) (es2 : List V) : mgVL ks es (k :: ks2) (e :: es2) = mgX ks es k e :: mgVL ks es ks2 es2 := by
  rw [mgVL]
  unfold mgX
  cases hit ks es k e <;> rfl
theorem mgVL_nil (ks : List ByteArray) (es : List V) (ks2 : List ByteArray) : mgVL ks es ks2 [] = [] := by cases ks2 <;> rw [mgVL] <;> simp
theorem mgVL_len (ks : List ByteArray) (es : List V) : ∀ (ks2 : List ByteArray) (es2 : List V), ks2.length = es2.length → (mgVL ks es ks2 es2).length = es2.length
  | [], [], _ => by rw [mgVL_nil]
  | [], e :: r, h => by simp at h
  | k :: q, [], h => by simp at h
  | k :: q, e :: r, h => by rw [mgVL_cons, List.length_cons, List.length_cons, mgVL_len ks es q r (by simpa using h)]
theorem mgVL_at (ks : List ByteArray) (es : List V) : ∀ (ks2 : List ByteArray) (es2 : List V) (i : Nat) (k : ByteArray) (e : V), ks2[i]? = some k → es2[i]? = some e → (mgVL ks es ks2 es2)[i]? = some (mgX ks es k e)
  | [], _, i, k, e, hk, _ => by simp at hk
  | _ :: _, [], i, k, e, _, he => by simp at he
  | y :: q, z :: r, 0, k, e, hk, he => by
    simp at hk he
    subst hk he
    rw [mgVL_cons]; rfl
  | y :: q, z :: r, i + 1, k, e, hk, he => by
    rw [mgVL_cons, List.getElem?_cons_succ]
    exact mgVL_at ks es q r i k e (by simpa using hk) (by simpa using he)
theorem hit_some {ks : List ByteArray} {es : List V} {k : ByteArray} {e x : V} (h : hit ks es k e = some x) : x ∈ es ∧ kd x = 6 ∧ kd e = 6 := by
  unfold hit at h
  split at h
  · cases h
  · split at h
    · cases h
    · rename_i hx
      split at h
      · rename_i hq
        injection h with h
        subst h
        exact ⟨List.mem_of_getElem? hx, hq.1, hq.2⟩
      · cases h
theorem mrgL_mgVL {ks : List ByteArray} {es : List V} (hes : es.all valid = true) : ∀ (qs : List ByteArray) (fs : List V), (∀ e ∈ fs, ∀ v, valid v = true → valid e = true → kd v = 6 → kd e = 6 → mrg v e = lim (mgV v e)) → fs.all valid = true →
    ((mrgL ks es qs fs).2 = 0 → (mrgL ks es qs fs).1 = mgVL ks es qs fs) ∧ (¬ (mrgL ks es qs fs).2 = 0 → (mrgL ks es qs fs).2 = 2 ∧ ∃ (i : Nat) (y : V), (mgVL ks es qs fs)[i]? = some y ∧ valid y = false)
  | [], fs, _, _ => by
    have h : mrgL ks es [] fs = ([], 0) := by cases fs <;> rw [mrgL] <;> simp
    have h2 : mgVL ks es [] fs = [] := by cases fs <;> rw [mgVL] <;> simp
    rw [h, h2]
    exact ⟨fun _ => rfl, fun h => absurd rfl h⟩
  | k :: qs, [], _, _ => by
    rw [mrgL_nil, mgVL_nil]
    exact ⟨fun _ => rfl, fun h => absurd rfl h⟩
  | k :: qs, e :: fs, ih, hv => by
    rw [List.all_cons, Bool.and_eq_true] at hv
    obtain ⟨h1, h2⟩ := mrgL_mgVL hes qs fs (fun u hu => ih u (List.mem_cons_of_mem _ hu)) hv.2
    rw [mgVL_cons]
    unfold mgX
    cases hh : hit ks es k e with
    | none =>
      rw [mrgL_none hh]
      refine ⟨fun h => by rw [h1 h], fun h => ?_⟩
      obtain ⟨h3, i, y, h4, h5⟩ := h2 h
      exact ⟨h3, i + 1, y, by rw [List.getElem?_cons_succ]; exact h4, h5⟩
    | some x =>
      obtain ⟨hx, hk1, hk2⟩ := hit_some hh
      have hx2 : valid x = true := List.all_eq_true.1 hes x hx
      have hm := ih e List.mem_cons_self x hx2 hv.1 hk1 hk2
      by_cases h0 : (mrg x e).2 = 0
      · rw [mrgL_some hh h0]
        have hl : mrg x e = (mgV x e, 0) := by rw [hm]; exact lim_ok (by rw [← hm]; exact h0)
        refine ⟨fun h => by rw [h1 h, hl], fun h => ?_⟩
        obtain ⟨h3, i, y, h4, h5⟩ := h2 h
        exact ⟨h3, i + 1, y, by rw [List.getElem?_cons_succ]; exact h4, h5⟩
      · rw [mrgL_err hh h0]
        refine ⟨fun h => absurd h h0, fun _ => ?_⟩
        have hb : valid (mgV x e) = false := by
          cases hq : valid (mgV x e) with
          | false => rfl
          | true => exact absurd (by rw [hm]; exact finE_ok hq) h0
        refine ⟨?_, 0, mgV x e, rfl, hb⟩
        rw [hm]
        show finE _ = 2
        unfold finE
        rw [if_neg (by rw [hb]; exact Bool.false_ne_true)]
theorem look_mem : ∀ {ps : PL} {k : ByteArray} {y : V}, look ps k = some y → y ∈ ps.map Prod.snd
  | [], k, y, h => by simp [look] at h
  | (x, v) :: r, k, y, h => by
    rw [look] at h
    rw [List.map_cons]
    split at h
    · injection h with h; subst h; exact List.mem_cons_self
    · exact List.mem_cons_of_mem _ (look_mem h)
theorem pasc_zip {ks : List ByteArray} {es fs : List V} (h1 : ks.length = es.length) (h2 : ks.length = fs.length) (h : PAsc (ks.zip es)) : PAsc (ks.zip fs) := by
  unfold PAsc at h ⊢
  rw [← List.pairwise_map (f := Prod.fst) (R := fun x y => scmp x y < 0)] at h ⊢
  rw [List.map_fst_zip (by omega)] at h ⊢
  exact h
/-- Merging step by step is merging all and looking at the limits in the end. -/
theorem mrg_lim : ∀ u v : V, valid v = true → valid u = true → kd v = 6 → kd u = 6 → mrg v u = lim (mgV v u) := by
  refine V.ind fun k2 n2 s2 ks2 es2 ih v hv hu h6 h62 => ?_
  obtain ⟨k, n, s, ks, es⟩ := v
  obtain rfl : k = 6 := h6
  obtain rfl : k2 = 6 := h62
  obtain ⟨hA, hB⟩ := mrgL_mgVL (ks := ks) (valid_elems hv) ks2 es2 (fun e he v => ih e he v) (valid_elems hu)
  have hlen := (valid_keys hv).2.1 rfl
  have hlen2 := (valid_keys hu).2.1 rfl
  rw [mrg_eq, mgV_eq]
  by_cases h0 : (mrgL ks es ks2 es2).2 = 0
  · rw [if_pos h0, hA h0]
  · rw [if_neg h0]
    obtain ⟨h1, i, y, hy, hyv⟩ := hB h0
    have hl := mgVL_len ks es ks2 es2 hlen2
    have hi : i < ks2.length := by have := (List.getElem?_eq_some_iff.1 hy).1; omega
    have hk := List.getElem?_eq_getElem hi
    have hp2 : PAsc (ks2.zip (mgVL ks es ks2 es2)) := pasc_zip hlen2 (by omega) (show PAsc (ks2.zip es2) from prs_asc hu)
    have hlk : look (putL (ks.zip es) (ks2.zip (mgVL ks es ks2 es2))) ks2[i] = some y := by
      rw [putL_look (show PAsc (ks.zip es) from prs_asc hv), lastP_asc _ hp2, look_at (valid_keys hu).1 (by omega) hk hy]
      rfl
    have hbad : valid (objL (putL (ks.zip es) (ks2.zip (mgVL ks es ks2 es2)))) = false := by
      cases hq : valid (objL (putL (ks.zip es) (ks2.zip (mgVL ks es ks2 es2)))) with
      | false => rfl
      | true =>
        have := List.all_eq_true.1 (valid_elems (show valid (.mk 6 0 ⟨#[]⟩ _ _) = true from hq)) y (look_mem hlk)
        rw [this] at hyv
        cases hyv
    rw [h1]
    unfold lim finV finE
    rw [if_neg (by rw [hbad]; exact Bool.false_ne_true), if_neg (by rw [hbad]; exact Bool.false_ne_true)]
/-- A code point's bytes. -/
def encB (r : Nat) : ByteArray := ⟨(enc r).toArray⟩
theorem dec_head {s : ByteArray} {r : Nat} {xs : List Nat} (hx : encs (r :: xs) = s.data.toList) (hc : ∀ q ∈ r :: xs, cp (q : Int) = true) : Utf8.decode s 0 = (r, (enc r).length) := by
  have h := Lib.decodeL_drop s 0
  rw [List.drop_zero] at h
  rw [← h]
  refine dec_L ?_
  rw [← hx, encs_cons]
  exact dec_enc (hc r List.mem_cons_self) _
theorem drop_ext {s : ByteArray} {r : Nat} {xs : List Nat} (hx : encs (r :: xs) = s.data.toList) : encs xs = (s.extract (enc r).length s.size).data.toList := by
  have hl : s.data.toList.length = s.size := by simp
  rw [rest_list, ← hx, encs_cons, List.drop_left]
theorem count_encs : ∀ (xs : List Nat) (s : ByteArray), encs xs = s.data.toList → (∀ r ∈ xs, cp (r : Int) = true) → runeCount s = xs.length
  | [], s, hx, _ => by
    have hl : s.data.toList.length = s.size := by simp
    rw [← hx] at hl
    have h0 : s.size = 0 := by rw [← hl]; rfl
    exact runeCountFrom_end s _ _ (by omega)
  | r :: xs, s, hx, hc => by
    have hl : s.data.toList.length = s.size := by simp
    have he := enc_len r
    have h1 : (enc r).length + (encs xs).length = s.size := by
      have h9 := congrArg List.length hx
      rw [encs_cons r xs, List.length_append, hl] at h9
      exact h9
    have ih := count_encs xs _ (drop_ext hx) fun q hq => hc q (List.mem_cons_of_mem _ hq)
    have hsz : (s.extract (enc r).length s.size).size = s.size - (enc r).length := by simp
    obtain ⟨m, hm⟩ : ∃ m, s.size = m + 1 := ⟨s.size - 1, by omega⟩
    unfold runeCount at ih ⊢
    have hfe := fuel_enough (s.extract (enc r).length s.size) (s.extract (enc r).length s.size).size m 0 (by omega) (by omega)
    rw [hfe, tail_count] at ih
    rw [hm]
    unfold runeCountFrom
    rw [if_pos (by omega), dec_head hx hc, List.length_cons, Nat.zero_add, Nat.add_comm 1]
    rw [Nat.add_zero] at ih
    rw [ih]
theorem expl_encs : ∀ (xs : List Nat) (s : ByteArray), encs xs = s.data.toList → (∀ r ∈ xs, cp (r : Int) = true) → expl xs.length s = xs.map encB
  | [], s, _, _ => rfl
  | [r], s, hx, _ => by
    rw [List.map_cons, List.map_nil, List.length_cons, List.length_nil, expl]
    congr 1
    apply bytes_extq
    rw [← hx]
    simp [encs, encB]
  | r :: q :: t, s, hx, hc => by
    have hd := dec_head hx hc
    have hl : s.data.toList.length = s.size := by simp
    have he := enc_len r
    have h1 : (enc r).length + (encs (q :: t)).length = s.size := by
      have h9 := congrArg List.length hx
      rw [encs_cons r (q :: t), List.length_append, hl] at h9
      exact h9
    have hg : decodeGo s = (r, (enc r).length) := by
      unfold decodeGo
      rw [if_neg (by omega)]
      exact hd
    have ih := expl_encs (q :: t) _ (drop_ext hx) fun p hp => hc p (List.mem_cons_of_mem _ hp)
    show expl (t.length + 2) s = _
    rw [expl, hg]
    dsimp only
    rw [List.map_cons]
    congr 1
    apply bytes_extq
    rw [ext_list, List.drop_zero, Nat.sub_zero, ← hx, encs_cons, List.take_left]
    simp [encB]
theorem expl_runes {s : ByteArray} {xs : List Nat} (h : runes s.data.toList = some xs) : expl (runeCount s) s = xs.map encB := by
  obtain ⟨h1, h2⟩ := encs_runes _ s.data.toList (Nat.le_refl _) xs h
  rw [count_encs xs s h1 h2, expl_encs xs s h1 h2]
theorem rep_snoc (s : ByteArray) : ∀ n, rep s (n + 1) = rep s n ++ s
  | 0 => by
    rw [rep_succ, rep_zero]
    apply bytes_extq
    rw [app_dataq, app_dataq]
    simp
  | n + 1 => by
    have h1 := rep_succ s n
    have h2 := rep_snoc s n
    have h3 := congrArg (fun b : ByteArray => b.data.toList) (h2.symm.trans h1)
    simp only [app_dataq] at h3
    rw [rep_succ s (n + 1), h2]
    apply bytes_extq
    simp only [app_dataq]
    rw [← List.append_assoc, ← h3]
/-- The pieces at a separator: the reference's scan. -/
theorem scan_split {s sep : ByteArray} (h1 : 1 ≤ sep.size) (k : Nat) (hk : s.size < k) : scanS s sep k 0 0 = splitB sep 0 (countB s sep) s := by
  rw [scanS_eq h1 k 0 0 (Nat.le_refl _) (Nat.zero_le _) (by omega) fun j _ h => absurd h (Nat.not_lt_zero _)]
  have : s.extract 0 s.size = s := by
    apply bytes_extq
    rw [rest_list, List.drop_zero]
  rw [this]
  rfl
/-- The pieces of a valid string are valid, and none is longer. -/
theorem rsplit_pieces {s sep : ByteArray} (h : splitB? s sep = true) (hs : s.size ≤ 4096) : ∀ x ∈ splitL s sep, okS x = true ∧ x.size ≤ 4096 := by
  unfold splitB? at h
  rw [Bool.and_eq_true] at h
  obtain ⟨h1, h2⟩ := h
  unfold splitL
  rw [if_neg (by simp [h1, h2])]
  by_cases h0 : s.size = 0
  · rw [if_pos h0]; intro x hx; cases hx
  · rw [if_neg h0]
    by_cases h3 : sep.size = 0
    · rw [if_pos h3]
      obtain ⟨xs, hx⟩ : ∃ xs, runes s.data.toList = some xs := by
        unfold okS at h1
        exact Option.isSome_iff_exists.1 h1
      rw [expl_runes hx]
      have hc := (encs_runes _ s.data.toList (Nat.le_refl _) xs hx).2
      intro x hxm
      obtain ⟨r, hr, rfl⟩ := List.mem_map.1 hxm
      have hr1 := runes_encs (xs := [r]) (fun q hq => by rw [List.mem_singleton.1 hq]; exact hc r hr)
      have e1 : encs [r] = enc r := by simp [encs]
      rw [e1] at hr1
      refine ⟨?_, ?_⟩
      · unfold okS encB
        simp only
        rw [hr1]; rfl
      · have := (enc_len r).2
        show (enc r).toArray.size ≤ 4096
        simp; omega
    · rw [if_neg h3]
      intro x hx
      obtain ⟨q1, q2⟩ := split_okL (sep := sep) h2 (by omega) _ s h1 x hx
      exact ⟨q1, by omega⟩
end Go.Proofs.YtgdnkankleoaoaaGreatDoor
namespace Go.Proofs.YtgdnkankleoaoaaGreatDoor
open Go.RowKit Go.Sort Go.Lib
theorem u64w (x : Int) : IntKind.u64.wrap x = x % 18446744073709551616 := by
  unfold IntKind.wrap
  simp [IntKind.bits, IntKind.signed]
theorem w64_mod {a b : Int} (h : a % 18446744073709551616 = b % 18446744073709551616) : wrap64 a = wrap64 b := by
  unfold wrap64
  omega
theorem w64_add (n m : Int) : wrap64 (IntKind.u64.wrap (IntKind.u64.wrap n + IntKind.u64.wrap m)) = wrap64 (n + m) := by
  refine w64_mod ?_
  simp only [u64w, Int.emod_emod, ← Int.add_emod]
theorem w64_sub (n m : Int) : wrap64 (IntKind.u64.wrap (IntKind.u64.wrap n - IntKind.u64.wrap m)) = wrap64 (n - m) := by
  refine w64_mod ?_
  simp only [u64w, Int.emod_emod, ← Int.sub_emod]
theorem w64_mul (n m : Int) : wrap64 (IntKind.u64.wrap (IntKind.u64.wrap n * IntKind.u64.wrap m)) = wrap64 (n * m) := by
  refine w64_mod ?_
  simp only [u64w, Int.emod_emod, ← Int.mul_emod]
theorem w64_neg (n : Int) : wrap64 (IntKind.u64.wrap (-IntKind.u64.wrap n)) = wrap64 (-n) := by
  refine w64_mod ?_
  simp only [u64w, Int.emod_emod]
  omega
/-- What a function of the reference hands back: the value lies where the arguments do, or in new memory. -/
def RetT (S : Nat → Prop) (v : V) (err : Int) (w : World) (e : Ending) (w' : World) : Prop :=
  Below w.heap.size w w' ∧ ∃ ds : List Value, e = .returned (.tuple #[.agg ds.toArray, .int .i64 err]) ∧ Lies w' (fun b => S b ∨ (w.heap.size ≤ b ∧ b < w'.heap.size)) v ds
theorem retT_open {S : Nat → Prop} {f : FuncId} {args : Array Value} {W : World} {v : V} {err : Int} (h : Calls Tryz.prog f args W (RetT S v err W)) :
    Calls Tryz.prog f args W fun e w' => ∃ (k n : Int) (s : ByteArray) (ks : List ByteArray) (es : List V) (A : Option Addr) (a : Nat) (C : Option Addr) (c : Nat), v = .mk k n s ks es ∧ e = .returned (.tuple #[.agg #[.int .i64 k, .int .i64 n, .string s, .slice A ks.length a, .slice C es.length c], .int .i64 err]) ∧ Below W.heap.size W w' ∧
      Lies w' (fun b => S b ∨ (W.heap.size ≤ b ∧ b < w'.heap.size)) v [.int .i64 k, .int .i64 n, .string s, .slice A ks.length a, .slice C es.length c] := by
  refine h.mono fun e w' hp => ?_
  obtain ⟨hb, ds, rfl, hl⟩ := hp
  obtain ⟨k, n, s, ks, es⟩ := v
  have hl2 := hl
  rw [Lies] at hl2
  obtain ⟨_, A, a, C, c, ys, rfl, _⟩ := hl2
  exact ⟨k, n, s, ks, es, A, a, C, c, rfl, rfl, hb, hl⟩
/-- A result stored into its block. -/
theorem retT_put {S : Nat → Prop} {w W : World} {g : Nat} {v : V} {err : Int} {r0 r1 r2 r3 r4 : Value} (hB : Below w.heap.size w W) (hg : w.heap.size ≤ g) (hgW : g < W.heap.size)
    (hl : Lies W (fun b => (S b ∨ (w.heap.size ≤ b ∧ b < W.heap.size)) ∧ b ≠ g) v [r0, r1, r2, r3, r4]) :
    RetT S v err w (.returned (.tuple #[.agg #[r0, r1, r2, r3, r4], .int .i64 err])) (((((W.setCell ⟨g, 0, none⟩ r0).setCell ⟨g, 1, none⟩ r1).setCell ⟨g, 2, none⟩ r2).setCell ⟨g, 3, none⟩ r3).setCell ⟨g, 4, none⟩ r4) := by
  refine ⟨(((((hB.setCell (by exact hg) _).setCell (by exact hg) _).setCell (by exact hg) _).setCell (by exact hg) _).setCell (by exact hg) _), [r0, r1, r2, r3, r4], rfl, ?_⟩
  refine hl.move fun b hb => ⟨hb.1.imp id fun h => ⟨h.1, by have := h.2; simp [World.setCell]; omega⟩, ?_⟩
  have hne := hb.2
  rw [Below.heap_setCell _ _ _ _ (by simpa using hne), Below.heap_setCell _ _ _ _ (by simpa using hne), Below.heap_setCell _ _ _ _ (by simpa using hne), Below.heap_setCell _ _ _ _ (by simpa using hne), Below.heap_setCell _ _ _ _ (by simpa using hne)]
theorem retT_refP {v : V} {err : Int} {w w' : World} {e : Ending} (h : RetT (· < w.heap.size) v err w e w') : RetR v err w e w' := by
  obtain ⟨hb, ds, he, hl⟩ := h
  exact ⟨hb, ds, he, hl.move fun b hb' => ⟨by rcases hb' with h | h; (· exact Nat.lt_of_lt_of_le h hb.size); exact h.2, rfl⟩⟩
set_option maxHeartbeats 4000000 in
set_option maxRecDepth 100000 in
theorem rboth_any (c k k2 : Int) (n n2 : Int) (s s2 : ByteArray) (A B A2 B2 : Option Addr) (la a lb b la2 a2 lb2 b2 : Nat) (w : World) :
    Calls Tryz.prog 121 #[.agg #[.int .i64 k, .int .i64 n, .string s, .slice A la a, .slice B lb b], .agg #[.int .i64 k2, .int .i64 n2, .string s2, .slice A2 la2 a2, .slice B2 lb2 b2], .int .i64 c] w fun e w' => e = .returned (.bool ((k == c) && (k2 == c))) ∧ Below w.heap.size w w' := by
  have HB := Lib.hid (below2 w (.cells #[.int .i64 k, .int .i64 n, .string s, .slice A la a, .slice B lb b] 25) (.cells #[.int .i64 k2, .int .i64 n2, .string s2, .slice A2 la2 a2, .slice B2 lb2 b2] 25))
  cases hq : (k == c) with
  | false =>
    go_enter Tryz.func121, Tryz.ntmps121
    go_wp2_with fail
    go_ret
    exact ⟨by first | rfl | simp, HB.out⟩
  | true =>
    go_enter Tryz.func121, Tryz.ntmps121
    go_wp2_with fail
    go_ret
    exact ⟨by first | rfl | simp, HB.out⟩
theorem rboth_is (c k k2 : Int) (q : Bool) (hq : ((k == c) && (k2 == c)) = q) (n n2 : Int) (s s2 : ByteArray) (A B A2 B2 : Option Addr) (la a lb b la2 a2 lb2 b2 : Nat) (w : World) :
    Calls Tryz.prog 121 #[.agg #[.int .i64 k, .int .i64 n, .string s, .slice A la a, .slice B lb b], .agg #[.int .i64 k2, .int .i64 n2, .string s2, .slice A2 la2 a2, .slice B2 lb2 b2], .int .i64 c] w fun e w' => e = .returned (.bool q) ∧ Below w.heap.size w w' := by
  subst hq
  exact rboth_any c k k2 n n2 s s2 A B A2 B2 la a lb b la2 a2 lb2 b2 w
/-- No operator. -/
structure NoOp (op : ByteArray) : Prop where
  a0 : (op.toList == [43]) = false
  a1 : (op.toList == [45]) = false
  a2 : (op.toList == [42]) = false
  a3 : (op.toList == [47]) = false
  a4 : (op.toList == [37]) = false
  a5 : (op.toList == [61, 61]) = false
  a6 : (op.toList == [33, 61]) = false
  a7 : (op.toList == [60]) = false
  a8 : (op.toList == [60, 61]) = false
  a9 : (op.toList == [62]) = false
  a10 : (op.toList == [62, 61]) = false
theorem opne {op : ByteArray} {l : List UInt8} (h : ¬ op = ⟨l.toArray⟩) : (op.toList == l) = false := by
  rw [Lib.toList_data]
  cases hq : (op.data.toList == l) with
  | false => rfl
  | true =>
    refine absurd (bytes_extq ?_) h
    rw [beq_iff_eq] at hq
    rw [hq]
/-- The operators. -/
def opAt (i : Nat) : ByteArray := if i = 0 then ⟨#[43]⟩ else if i = 1 then ⟨#[45]⟩ else if i = 2 then ⟨#[42]⟩ else if i = 3 then ⟨#[47]⟩ else if i = 4 then ⟨#[37]⟩ else if i = 5 then ⟨#[61, 61]⟩ else if i = 6 then ⟨#[33, 61]⟩ else if i = 7 then ⟨#[60]⟩ else if i = 8 then ⟨#[60, 61]⟩ else if i = 9 then ⟨#[62]⟩ else ⟨#[62, 61]⟩
theorem op_cases (op : ByteArray) : op = ⟨#[43]⟩ ∨ op = ⟨#[45]⟩ ∨ op = ⟨#[42]⟩ ∨ op = ⟨#[47]⟩ ∨ op = ⟨#[37]⟩ ∨ op = ⟨#[61, 61]⟩ ∨ op = ⟨#[33, 61]⟩ ∨ op = ⟨#[60]⟩ ∨ op = ⟨#[60, 61]⟩ ∨ op = ⟨#[62]⟩ ∨ op = ⟨#[62, 61]⟩ ∨ NoOp op := by
  by_cases h0 : op = ⟨#[43]⟩
  · exact Or.inl h0
  by_cases h1 : op = ⟨#[45]⟩
  · exact Or.inr (Or.inl h1)
  by_cases h2 : op = ⟨#[42]⟩
  · exact Or.inr (Or.inr (Or.inl h2))
  by_cases h3 : op = ⟨#[47]⟩
  · exact Or.inr (Or.inr (Or.inr (Or.inl h3)))
  by_cases h4 : op = ⟨#[37]⟩
  · exact Or.inr (Or.inr (Or.inr (Or.inr (Or.inl h4))))
  by_cases h5 : op = ⟨#[61, 61]⟩
  · exact Or.inr (Or.inr (Or.inr (Or.inr (Or.inr (Or.inl h5)))))
  by_cases h6 : op = ⟨#[33, 61]⟩
  · exact Or.inr (Or.inr (Or.inr (Or.inr (Or.inr (Or.inr (Or.inl h6))))))
  by_cases h7 : op = ⟨#[60]⟩
  · exact Or.inr (Or.inr (Or.inr (Or.inr (Or.inr (Or.inr (Or.inr (Or.inl h7)))))))
  by_cases h8 : op = ⟨#[60, 61]⟩
  · exact Or.inr (Or.inr (Or.inr (Or.inr (Or.inr (Or.inr (Or.inr (Or.inr (Or.inl h8))))))))
  by_cases h9 : op = ⟨#[62]⟩
  · exact Or.inr (Or.inr (Or.inr (Or.inr (Or.inr (Or.inr (Or.inr (Or.inr (Or.inr (Or.inl h9)))))))))
  by_cases h10 : op = ⟨#[62, 61]⟩
  · exact Or.inr (Or.inr (Or.inr (Or.inr (Or.inr (Or.inr (Or.inr (Or.inr (Or.inr (Or.inr (Or.inl h10))))))))))
  exact Or.inr (Or.inr (Or.inr (Or.inr (Or.inr (Or.inr (Or.inr (Or.inr (Or.inr (Or.inr (Or.inr ⟨opne h0, opne h1, opne h2, opne h3, opne h4, opne h5, opne h6, opne h7, opne h8, opne h9, opne h10⟩))))))))))
/-- Whether it is an operator. -/
def isOp (op : ByteArray) : Bool := decide (op = ⟨#[43]⟩ ∨ op = ⟨#[45]⟩ ∨ op = ⟨#[42]⟩ ∨ op = ⟨#[47]⟩ ∨ op = ⟨#[37]⟩ ∨ op = ⟨#[61, 61]⟩ ∨ op = ⟨#[33, 61]⟩ ∨ op = ⟨#[60]⟩ ∨ op = ⟨#[60, 61]⟩ ∨ op = ⟨#[62]⟩ ∨ op = ⟨#[62, 61]⟩)
theorem noOp_not {op : ByteArray} (h : NoOp op) : isOp op = false := by
  unfold isOp
  refine decide_eq_false fun hq => ?_
  rcases hq with rfl | rfl | rfl | rfl | rfl | rfl | rfl | rfl | rfl | rfl | rfl
  · exact absurd h.a0 (by decide +kernel)
  · exact absurd h.a1 (by decide +kernel)
  · exact absurd h.a2 (by decide +kernel)
  · exact absurd h.a3 (by decide +kernel)
  · exact absurd h.a4 (by decide +kernel)
  · exact absurd h.a5 (by decide +kernel)
  · exact absurd h.a6 (by decide +kernel)
  · exact absurd h.a7 (by decide +kernel)
  · exact absurd h.a8 (by decide +kernel)
  · exact absurd h.a9 (by decide +kernel)
  · exact absurd h.a10 (by decide +kernel)
set_option maxHeartbeats 4000000 in
set_option maxRecDepth 100000 in
theorem rop_no (op : ByteArray) (h : NoOp op) (w : World) : Calls Tryz.prog 113 #[.string op] w fun e w' => e = .returned (.bool false) ∧ w' = w := by
  obtain ⟨a0, a1, a2, a3, a4, a5, a6, a7, a8, a9, a10⟩ := h
  go_enter Tryz.func113, Tryz.ntmps113
  go_wp2_with fail
  go_ret
  exact ⟨rfl, rfl⟩
set_option maxHeartbeats 4000000 in
set_option maxRecDepth 100000 in
theorem rop_0 (w : World) : Calls Tryz.prog 113 #[.string ⟨#[43]⟩] w fun e w' => e = .returned (.bool true) ∧ w' = w := by
  go_enter Tryz.func113, Tryz.ntmps113
  go_wp2_with fail
  go_ret
  exact ⟨rfl, rfl⟩
set_option maxHeartbeats 4000000 in
set_option maxRecDepth 100000 in
theorem rop_1 (w : World) : Calls Tryz.prog 113 #[.string ⟨#[45]⟩] w fun e w' => e = .returned (.bool true) ∧ w' = w := by
  go_enter Tryz.func113, Tryz.ntmps113
  go_wp2_with fail
  go_ret
  exact ⟨rfl, rfl⟩
set_option maxHeartbeats 4000000 in
set_option maxRecDepth 100000 in
theorem rop_2 (w : World) : Calls Tryz.prog 113 #[.string ⟨#[42]⟩] w fun e w' => e = .returned (.bool true) ∧ w' = w := by
  go_enter Tryz.func113, Tryz.ntmps113
  go_wp2_with fail
  go_ret
  exact ⟨rfl, rfl⟩
set_option maxHeartbeats 4000000 in
set_option maxRecDepth 100000 in
theorem rop_3 (w : World) : Calls Tryz.prog 113 #[.string ⟨#[47]⟩] w fun e w' => e = .returned (.bool true) ∧ w' = w := by
  go_enter Tryz.func113, Tryz.ntmps113
  go_wp2_with fail
  go_ret
  exact ⟨rfl, rfl⟩
set_option maxHeartbeats 4000000 in
set_option maxRecDepth 100000 in
theorem rop_4 (w : World) : Calls Tryz.prog 113 #[.string ⟨#[37]⟩] w fun e w' => e = .returned (.bool true) ∧ w' = w := by
  go_enter Tryz.func113, Tryz.ntmps113
  go_wp2_with fail
  go_ret
  exact ⟨rfl, rfl⟩
set_option maxHeartbeats 4000000 in
set_option maxRecDepth 100000 in
theorem rop_5 (w : World) : Calls Tryz.prog 113 #[.string ⟨#[61, 61]⟩] w fun e w' => e = .returned (.bool true) ∧ w' = w := by
  go_enter Tryz.func113, Tryz.ntmps113
  go_wp2_with fail
  go_ret
  exact ⟨rfl, rfl⟩
set_option maxHeartbeats 4000000 in
set_option maxRecDepth 100000 in
theorem rop_6 (w : World) : Calls Tryz.prog 113 #[.string ⟨#[33, 61]⟩] w fun e w' => e = .returned (.bool true) ∧ w' = w := by
  go_enter Tryz.func113, Tryz.ntmps113
  go_wp2_with fail
  go_ret
  exact ⟨rfl, rfl⟩
set_option maxHeartbeats 4000000 in
set_option maxRecDepth 100000 in
theorem rop_7 (w : World) : Calls Tryz.prog 113 #[.string ⟨#[60]⟩] w fun e w' => e = .returned (.bool true) ∧ w' = w := by
  go_enter Tryz.func113, Tryz.ntmps113
  go_wp2_with fail
  go_ret
  exact ⟨rfl, rfl⟩
set_option maxHeartbeats 4000000 in
set_option maxRecDepth 100000 in
theorem rop_8 (w : World) : Calls Tryz.prog 113 #[.string ⟨#[60, 61]⟩] w fun e w' => e = .returned (.bool true) ∧ w' = w := by
  go_enter Tryz.func113, Tryz.ntmps113
  go_wp2_with fail
  go_ret
  exact ⟨rfl, rfl⟩
set_option maxHeartbeats 4000000 in
set_option maxRecDepth 100000 in
theorem rop_9 (w : World) : Calls Tryz.prog 113 #[.string ⟨#[62]⟩] w fun e w' => e = .returned (.bool true) ∧ w' = w := by
  go_enter Tryz.func113, Tryz.ntmps113
  go_wp2_with fail
  go_ret
  exact ⟨rfl, rfl⟩
set_option maxHeartbeats 4000000 in
set_option maxRecDepth 100000 in
theorem rop_10 (w : World) : Calls Tryz.prog 113 #[.string ⟨#[62, 61]⟩] w fun e w' => e = .returned (.bool true) ∧ w' = w := by
  go_enter Tryz.func113, Tryz.ntmps113
  go_wp2_with fail
  go_ret
  exact ⟨rfl, rfl⟩
set_option maxHeartbeats 4000000 in
set_option maxRecDepth 100000 in
theorem cmpop_no (op : ByteArray) (h : NoOp op) (c : Int) (w : World) : Calls Tryz.prog 111 #[.string op, .int .i64 c] w (RetPost vnull 3 w) := by
  obtain ⟨a0, a1, a2, a3, a4, a5, a6, a7, a8, a9, a10⟩ := h
  go_enter Tryz.func111, Tryz.ntmps111
  go_wp2_with fail
  refine bodyPost_ret (v := .tuple #[.agg #[.int .i64 0, .int .i64 0, .string ⟨#[]⟩, .slice none 0 0, .slice none 0 0], .int .i64 3]) (by simp [results, Tryz.results111, go_sem]) rfl ?_
  exact ret_of (ds := [.int .i64 0, .int .i64 0, .string ⟨#[]⟩, .slice none 0 0, .slice none 0 0]) (below1 _ _) (lies_null _ _)
set_option maxHeartbeats 1000000 in
set_option maxRecDepth 100000 in
theorem bin_none (op : ByteArray) (hno : NoOp op) (v u : V) (cs ds : List Value) (w : World) (h : Lies w (· < w.heap.size) v cs) (h' : Lies w (· < w.heap.size) u ds) (hv : valid v = true) (hu : valid u = true) :
    Calls Tryz.prog 14 #[.string op, .agg cs.toArray, .agg ds.toArray] w (RetPost vnull 3 w) := by
  have HV := Lib.hid (fun W (hW : Below w.heap.size w W) => valid_any v cs W (below_lies hW h))
  have HU := Lib.hid (fun W (hW : Below w.heap.size w W) => valid_any u ds W (below_lies hW h'))
  have HQ := Lib.hid (fun W (hW : Below w.heap.size w W) => cmp_any v u cs ds W (below_lies hW h) (below_lies hW h'))
  rw [hv] at HV
  rw [hu] at HU
  have n1 := hno.a0
  have n2 := hno.a1
  have n3 := hno.a2
  have n4 := hno.a3
  have n5 := hno.a4
  generalize cmpV v u = q at HQ
  have HC := Lib.hid (fun W => ret_open (cmpop_no op hno q W))
  clear hno
  obtain ⟨k, n, s, ks, es⟩ := v
  obtain ⟨A, a, B, b, xs, rfl, _⟩ := lies_open h
  obtain ⟨k2, m2, s2, ks2, es2⟩ := u
  obtain ⟨A2, a2, B2, b2, xs2, rfl, _⟩ := lies_open h'
  clear h h' hv hu
  generalize ks.length = l1 at *
  generalize es.length = l2 at *
  generalize ks2.length = l3 at *
  generalize es2.length = l4 at *
  show Calls _ _ #[_, .agg #[.int .i64 k, .int .i64 n, .string s, .slice A l1 a, .slice B l2 b], .agg #[.int .i64 k2, .int .i64 m2, .string s2, .slice A2 l3 a2, .slice B2 l4 b2]] w _
  have H0 := Lib.hid (B3.start w #[.int .i64 k, .int .i64 n, .string s, .slice A l1 a, .slice B l2 b] #[.int .i64 k2, .int .i64 m2, .string s2, .slice A2 l3 a2, .slice B2 l4 b2])
  go_enter Tryz.func14, Tryz.ntmps14
  go_wp2_with fail
  refine (HV.out _ H0.out.below).mono ?_
  rintro e1 w1 ⟨rfl, hb1⟩
  have H1 := Lib.hid (H0.out.next hb1)
  obtain ⟨y0, y1, y2, y3, y4⟩ := box5 H1.out.y
  clear hb1 H0
  go_wp2_with fail
  refine (HU.out _ H1.out.below).mono ?_
  rintro e2 w2 ⟨rfl, hb2⟩
  have H2 := Lib.hid (H1.out.next hb2)
  clear hb2 H1 y0 y1 y2 y3 y4
  obtain ⟨x0, x1, x2, x3, x4⟩ := box5 H2.out.x
  obtain ⟨y0, y1, y2, y3, y4⟩ := box5 H2.out.y
  go_wp2_with fail
  refine (HQ.out _ H2.out.below).mono ?_
  rintro e3 w3 ⟨rfl, hb3⟩
  have H3 := Lib.hid (H2.out.next hb3)
  clear hb3 x0 x1 x2 x3 x4 y0 y1 y2 y3 y4 H2
  go_wp2_with fail
  refine (HC.out _).mono ?_
  rintro e4 w4 ⟨rk, rn, rs, rks, res, RA, ra, RC, rc, hrv, rfl, hb4, hl4⟩
  have H4 := Lib.hid (H3.out.next hb4)
  have HL := Lib.hid hl4
  have hs3 := H3.out.r.lt
  have hs4 := H3.out.below.size
  clear hb4 hl4 hrv
  obtain ⟨t0, t1, t2, t3, t4⟩ := box5 H4.out.r
  have z0 := H4.out.r.free 0
  have z1 := H4.out.r.free 1
  have z2 := H4.out.r.free 2
  have z3 := H4.out.r.free 3
  have z4 := H4.out.r.free 4
  go_wp2_with fail
  refine bodyPost_ret (v := .tuple #[.agg #[.int .i64 rk, .int .i64 rn, .string rs, .slice RA rks.length ra, .slice RC res.length rc], .int .i64 3]) (by simp [results, Tryz.results14, go_sem, t0, t1, t2, t3, t4]) rfl ?_
  exact ret_put H4.out.below (by omega) H4.out.r.lt (HL.out.move fun b hb => ⟨⟨by omega, hb.2, by omega⟩, rfl⟩)
/-- What Binary is. -/
def binR (op : ByteArray) (v u : V) : V × Int :=
  if (valid v && valid u) = true then (if op = ⟨#[43]⟩ then sumR v u else if op = ⟨#[45]⟩ then subR v u else if op = ⟨#[42]⟩ then mulR v u else if op = ⟨#[47]⟩ then divR v u else if op = ⟨#[37]⟩ then remR v u
    else if op = cmpOp 0 then (boolV (cmpB 0 (cmpV v u)), 0) else if op = cmpOp 1 then (boolV (cmpB 1 (cmpV v u)), 0) else if op = cmpOp 2 then (boolV (cmpB 2 (cmpV v u)), 0) else if op = cmpOp 3 then (boolV (cmpB 3 (cmpV v u)), 0) else if op = cmpOp 4 then (boolV (cmpB 4 (cmpV v u)), 0) else if op = cmpOp 5 then (boolV (cmpB 5 (cmpV v u)), 0) else (vnull, 3)) else (vnull, 1)
theorem binR_0 {v u : V} (h : (valid v && valid u) = true) : binR ⟨#[43]⟩ v u = sumR v u := by
  unfold binR
  rw [if_pos h]
  rw [if_pos (by decide +kernel)]
theorem binR_1 {v u : V} (h : (valid v && valid u) = true) : binR ⟨#[45]⟩ v u = subR v u := by
  unfold binR
  rw [if_pos h]
  rw [if_neg (by decide +kernel)]
  rw [if_pos (by decide +kernel)]
theorem binR_2 {v u : V} (h : (valid v && valid u) = true) : binR ⟨#[42]⟩ v u = mulR v u := by
  unfold binR
  rw [if_pos h]
  rw [if_neg (by decide +kernel)]
  rw [if_neg (by decide +kernel)]
  rw [if_pos (by decide +kernel)]
theorem binR_3 {v u : V} (h : (valid v && valid u) = true) : binR ⟨#[47]⟩ v u = divR v u := by
  unfold binR
  rw [if_pos h]
  rw [if_neg (by decide +kernel)]
  rw [if_neg (by decide +kernel)]
  rw [if_neg (by decide +kernel)]
  rw [if_pos (by decide +kernel)]
theorem binR_4 {v u : V} (h : (valid v && valid u) = true) : binR ⟨#[37]⟩ v u = remR v u := by
  unfold binR
  rw [if_pos h]
  rw [if_neg (by decide +kernel)]
  rw [if_neg (by decide +kernel)]
  rw [if_neg (by decide +kernel)]
  rw [if_neg (by decide +kernel)]
  rw [if_pos (by decide +kernel)]
theorem binR_5 {v u : V} (h : (valid v && valid u) = true) : binR ⟨#[61, 61]⟩ v u = (boolV (cmpB 0 (cmpV v u)), 0) := by
  unfold binR
  rw [if_pos h]
  rw [if_neg (by decide +kernel)]
  rw [if_neg (by decide +kernel)]
  rw [if_neg (by decide +kernel)]
  rw [if_neg (by decide +kernel)]
  rw [if_neg (by decide +kernel)]
  rw [if_pos (by decide +kernel)]
theorem binR_6 {v u : V} (h : (valid v && valid u) = true) : binR ⟨#[33, 61]⟩ v u = (boolV (cmpB 1 (cmpV v u)), 0) := by
  unfold binR
  rw [if_pos h]
  rw [if_neg (by decide +kernel)]
  rw [if_neg (by decide +kernel)]
  rw [if_neg (by decide +kernel)]
  rw [if_neg (by decide +kernel)]
  rw [if_neg (by decide +kernel)]
  rw [if_neg (by decide +kernel)]
  rw [if_pos (by decide +kernel)]
theorem binR_7 {v u : V} (h : (valid v && valid u) = true) : binR ⟨#[60]⟩ v u = (boolV (cmpB 2 (cmpV v u)), 0) := by
  unfold binR
  rw [if_pos h]
  rw [if_neg (by decide +kernel)]
  rw [if_neg (by decide +kernel)]
  rw [if_neg (by decide +kernel)]
  rw [if_neg (by decide +kernel)]
  rw [if_neg (by decide +kernel)]
  rw [if_neg (by decide +kernel)]
  rw [if_neg (by decide +kernel)]
  rw [if_pos (by decide +kernel)]
theorem binR_8 {v u : V} (h : (valid v && valid u) = true) : binR ⟨#[60, 61]⟩ v u = (boolV (cmpB 3 (cmpV v u)), 0) := by
  unfold binR
  rw [if_pos h]
  rw [if_neg (by decide +kernel)]
  rw [if_neg (by decide +kernel)]
  rw [if_neg (by decide +kernel)]
  rw [if_neg (by decide +kernel)]
  rw [if_neg (by decide +kernel)]
  rw [if_neg (by decide +kernel)]
  rw [if_neg (by decide +kernel)]
  rw [if_neg (by decide +kernel)]
  rw [if_pos (by decide +kernel)]
theorem binR_9 {v u : V} (h : (valid v && valid u) = true) : binR ⟨#[62]⟩ v u = (boolV (cmpB 4 (cmpV v u)), 0) := by
  unfold binR
  rw [if_pos h]
  rw [if_neg (by decide +kernel)]
  rw [if_neg (by decide +kernel)]
  rw [if_neg (by decide +kernel)]
  rw [if_neg (by decide +kernel)]
  rw [if_neg (by decide +kernel)]
  rw [if_neg (by decide +kernel)]
  rw [if_neg (by decide +kernel)]
  rw [if_neg (by decide +kernel)]
  rw [if_neg (by decide +kernel)]
  rw [if_pos (by decide +kernel)]
theorem binR_10 {v u : V} (h : (valid v && valid u) = true) : binR ⟨#[62, 61]⟩ v u = (boolV (cmpB 5 (cmpV v u)), 0) := by
  unfold binR
  rw [if_pos h]
  rw [if_neg (by decide +kernel)]
  rw [if_neg (by decide +kernel)]
  rw [if_neg (by decide +kernel)]
  rw [if_neg (by decide +kernel)]
  rw [if_neg (by decide +kernel)]
  rw [if_neg (by decide +kernel)]
  rw [if_neg (by decide +kernel)]
  rw [if_neg (by decide +kernel)]
  rw [if_neg (by decide +kernel)]
  rw [if_neg (by decide +kernel)]
  rw [if_pos (by decide +kernel)]
theorem binR_no {op : ByteArray} {v u : V} (hn : NoOp op) (h : (valid v && valid u) = true) : binR op v u = (vnull, 3) := by
  unfold binR
  rw [if_pos h]
  rw [if_neg (fun hq => absurd hn.a0 (by rw [hq]; decide +kernel))]
  rw [if_neg (fun hq => absurd hn.a1 (by rw [hq]; decide +kernel))]
  rw [if_neg (fun hq => absurd hn.a2 (by rw [hq]; decide +kernel))]
  rw [if_neg (fun hq => absurd hn.a3 (by rw [hq]; decide +kernel))]
  rw [if_neg (fun hq => absurd hn.a4 (by rw [hq]; decide +kernel))]
  rw [if_neg (fun hq => absurd hn.a5 (by rw [hq]; decide +kernel))]
  rw [if_neg (fun hq => absurd hn.a6 (by rw [hq]; decide +kernel))]
  rw [if_neg (fun hq => absurd hn.a7 (by rw [hq]; decide +kernel))]
  rw [if_neg (fun hq => absurd hn.a8 (by rw [hq]; decide +kernel))]
  rw [if_neg (fun hq => absurd hn.a9 (by rw [hq]; decide +kernel))]
  rw [if_neg (fun hq => absurd hn.a10 (by rw [hq]; decide +kernel))]
theorem binR_inv {op : ByteArray} {v u : V} (h : (valid v && valid u) = false) : binR op v u = (vnull, 1) := by
  unfold binR
  rw [if_neg (by rw [h]; exact Bool.false_ne_true)]
theorem binP_any (op : ByteArray) (v u : V) (cs ds : List Value) (w : World) (hm : MaxL w) (hT : Tabs w) (h : Lies w (· < w.heap.size) v cs) (h' : Lies w (· < w.heap.size) u ds) :
    Calls Tryz.prog 14 #[.string op, .agg cs.toArray, .agg ds.toArray] w (RetPost (binR op v u).1 (binR op v u).2 w) := by
  cases hq : (valid v && valid u) with
  | false =>
    rw [binR_inv hq]
    exact bin_inv op v u cs ds w h h' hq
  | true =>
    obtain ⟨hv, hu⟩ := (Bool.and_eq_true _ _).mp hq
    rcases op_cases op with rfl | rfl | rfl | rfl | rfl | rfl | rfl | rfl | rfl | rfl | rfl | hno
    · rw [binR_0 hq]; exact sum_any v u cs ds w h h' hv hu
    · rw [binR_1 hq]; exact bin_sub v u cs ds w h h' hv hu
    · rw [binR_2 hq]; exact bin_mul v u cs ds w h h' hv hu
    · rw [binR_3 hq]; exact bin_divv v u cs ds w hm hT h h' hv hu
    · rw [binR_4 hq]; exact bin_remv v u cs ds w h h' hv hu
    · rw [binR_5 hq]; exact bin_cmp 0 v u cs ds w h h' hv hu
    · rw [binR_6 hq]; exact bin_cmp 1 v u cs ds w h h' hv hu
    · rw [binR_7 hq]; exact bin_cmp 2 v u cs ds w h h' hv hu
    · rw [binR_8 hq]; exact bin_cmp 3 v u cs ds w h h' hv hu
    · rw [binR_9 hq]; exact bin_cmp 4 v u cs ds w h h' hv hu
    · rw [binR_10 hq]; exact bin_cmp 5 v u cs ds w h h' hv hu
    · rw [binR_no hno hq]; exact bin_none op hno v u cs ds w h h' hv hu
end Go.Proofs.YtgdnkankleoaoaaGreatDoor
namespace Go.Proofs.YtgdnkankleoaoaaGreatDoor
open Go.RowKit Go.Sort Go.Lib
theorem lies_strT (w : World) (S : Nat → Prop) (s : ByteArray) (hs : s.size ≤ 140737488355328) : Lies w S (strV s) [.int .i64 4, .int .i64 0, .string s, .slice none 0 0, .slice none 0 0] := by
  unfold strV
  rw [Lies]
  exact ⟨⟨hs, by simp, Nat.zero_le _, Nat.zero_le _⟩, none, 0, none, 0, [], rfl, fun _ => rfl, fun _ => rfl, ⟨Nat.le_refl _, Nat.zero_le _⟩, ⟨Nat.le_refl _, Nat.zero_le _⟩, Rs.nil _ _ _, Rs.nil _ _ _, by rw [LiesL]⟩
theorem str_both {s : ByteArray} (h : okS s = true) (hs : s.size ≤ 4096) : strR s = strV s ∧ strE s = 0 := by
  have hv := valid_str h hs
  exact ⟨by rw [(strR_ok h).1, finV_ok hv], by rw [(strR_ok h).2, finE_ok hv]⟩
theorem retT_of {S : Nat → Prop} {w w' : World} {v : V} {err : Int} {ds : List Value} (hb : Below w.heap.size w w') (hl : Lies w' (fun b => S b ∨ (w.heap.size ≤ b ∧ b < w'.heap.size)) v ds) : RetT S v err w (.returned (.tuple #[.agg ds.toArray, .int .i64 err])) w' := ⟨hb, ds, rfl, hl⟩
set_option maxHeartbeats 4000000 in
set_option maxRecDepth 100000 in
theorem rrep_any (S : Nat → Prop) (s : ByteArray) (n : Int) (w : World) (hs : s.size ≤ 4096) (hok : okS s = true) : Calls Tryz.prog 199 #[.string s, .int .i64 n] w (RetT S (repR s n).1 (repR s n).2 w) := by
  have hE : s.toList.isEmpty = decide (s.size = 0) := by
    rw [Lib.toList_data, Lib.size_eq]
    cases s.data.toList <;> simp
  have HTX := Lib.hid (fun (s : ByteArray) W => rtext_any s W)
  unfold repR
  by_cases h1 : n < 1
  · rw [if_pos h1]
    go_enter Tryz.func199, Tryz.ntmps199
    go_wp2_with fail
    refine bodyPost_ret (v := .tuple #[.agg #[.int .i64 0, .int .i64 0, .string ⟨#[]⟩, .slice none 0 0, .slice none 0 0], .int .i64 0]) (by simp [results, Tryz.results199, go_sem]) rfl ?_
    exact retT_of (ds := [.int .i64 0, .int .i64 0, .string ⟨#[]⟩, .slice none 0 0, .slice none 0 0]) (below1 _ _) (lies_null _ _)
  · rw [if_neg h1]
    by_cases h0 : s.size = 0
    · rw [if_pos h0, (str_both (s := ⟨#[]⟩) (by decide +kernel) (by decide)).1, (str_both (s := ⟨#[]⟩) (by decide +kernel) (by decide)).2]
      rw [decide_eq_true h0] at hE
      go_enter Tryz.func199, Tryz.ntmps199
      go_wp2_with fail
      refine (HTX.out _ _).mono ?_
      rintro e1 w1 ⟨rfl, hb1⟩
      have H1 : Hid (Below w.heap.size w w1 ∧ Box w1 w.heap.size 25 #[.int .i64 0, .int .i64 0, .string ⟨#[]⟩, .slice none 0 0, .slice none 0 0]) := Lib.hid ⟨(chain (below1 w _) hb1), ((Box.laid w _ _).below hb1 (by simp))⟩
      clear hb1
      obtain ⟨t0, t1, t2, t3, t4⟩ := box5 H1.out.2
      have z0 := H1.out.2.free 0
      have z1 := H1.out.2.free 1
      have z2 := H1.out.2.free 2
      have z3 := H1.out.2.free 3
      have z4 := H1.out.2.free 4
      go_wp2_with fail
      refine bodyPost_ret (v := .tuple #[.agg #[.int .i64 4, .int .i64 0, .string ⟨#[]⟩, .slice none 0 0, .slice none 0 0], .int .i64 0]) (by simp [results, Tryz.results199, go_sem, t0, t1, t2, t3, t4]) rfl ?_
      exact retT_put H1.out.1 (Nat.le_refl _) H1.out.2.lt (lies_strT _ _ _ (by decide))
    · rw [if_neg h0]
      rw [decide_eq_false h0] at hE
      have hd : (4096 : Int) / (s.size : Int) = ((4096 / s.size : Nat) : Int) := by rw [Int.natCast_ediv]; rfl
      have hd2 : 4096 / s.size ≤ 4096 := Nat.div_le_self _ _
      have hpos : 1 ≤ s.size := by omega
      have hT : Int.tdiv 4096 (s.size : Int) = ((4096 / s.size : Nat) : Int) := by rw [← hd]; exact Int.tdiv_eq_ediv_of_nonneg (by decide)
      rw [hd]
      by_cases hb : n > ((4096 / s.size : Nat) : Int)
      · rw [if_pos hb]
        have HB := Lib.hid hb
        have hz : ((s.size : Int) == 0) = false := beq_eq_false_iff_ne.2 (by omega)
        have hz2 : ¬ ((s.size : Int) = 0) := by omega
        generalize hq : 4096 / s.size = q at *
        have hb' : (q : Int) < n := hb
        go_enter Tryz.func199, Tryz.ntmps199
        go_wp2_with fail
        refine bodyPost_ret (v := .tuple #[.agg #[.int .i64 0, .int .i64 0, .string ⟨#[]⟩, .slice none 0 0, .slice none 0 0], .int .i64 2]) (by simp [results, Tryz.results199, go_sem]) rfl ?_
        exact retT_of (ds := [.int .i64 0, .int .i64 0, .string ⟨#[]⟩, .slice none 0 0, .slice none 0 0]) (below1 _ _) (lies_null _ _)
      · rw [if_neg hb]
        obtain ⟨m, rfl⟩ : ∃ m : Nat, n = m := ⟨n.toNat, by omega⟩
        have hle : m ≤ 4096 / s.size := by omega
        have hm2 : s.size * m ≤ 4096 := by
          have h3 : m * s.size ≤ 4096 / s.size * s.size := Nat.mul_le_mul_right _ hle
          have h4 := Nat.div_mul_le_self 4096 s.size
          rw [Nat.mul_comm]
          omega
        rw [Int.toNat_natCast]
        have hsz := rep_size s m
        rw [(str_both (rep_ok hok m) (by omega)).1, (str_both (rep_ok hok m) (by omega)).2]
        have HM := Lib.hid hm2
        have hz : ((s.size : Int) == 0) = false := beq_eq_false_iff_ne.2 (by omega)
        have hz2 : ¬ ((s.size : Int) = 0) := by omega
        generalize hq : 4096 / s.size = q at *
        have hb' : ¬ ((q : Int) < (m : Int)) := hb
        clear hsz hm2
        go_enter Tryz.func199, Tryz.ntmps199
        go_wp2_with fail
        go_loopw [6, 7] (fun t i wr => ∃ (k : Nat), k ≤ m ∧ i = .int .i64 k ∧ t = .string (rep s k) ∧ wr = w.alloc (.cells #[.int .i64 0, .int .i64 0, .string ⟨#[]⟩, .slice none 0 0, .slice none 0 0] 25)) (fun _ i _ => m - (intOf i).toNat)
        case atStart => exact ⟨0, Nat.zero_le _, rfl, by rw [rep_zero], rfl⟩
        case round =>
          obtain ⟨k, hk, rfl, rfl, rfl⟩ := hrel
          by_cases hlt : k < m
          · have hlt1 : (k : Int) < (m : Int) := by omega
            have y1 : ¬ ((rep s k).size + s.size > 9223372036854775807) := by
              have h2 := rep_size s k
              have h3 : s.size * k ≤ s.size * m := Nat.mul_le_mul_left _ (by omega)
              have h4 := HM.out
              omega
            have HK := Lib.hid (rep_snoc s k)
            generalize rep s k = u at y1 HK ⊢
            go_wp2_with fail
            go_roundw
            case rel => exact ⟨k + 1, by omega, by go_num, by rw [HK.out], by first | trivial | rfl⟩
            case measure => simp [intOf]; omega
          · have hkm : k = m := by omega
            subst hkm
            have hlt1 : ¬ ((k : Int) < (k : Int)) := by omega
            have hsz : (rep s k).size ≤ 140737488355328 := by have h2 := rep_size s k; have h4 := HM.out; omega
            go_wp2_with fail
            refine (HTX.out _ _).mono ?_
            rintro e1 w1 ⟨rfl, hb1⟩
            have H1 : Hid (Below w.heap.size w w1 ∧ Box w1 w.heap.size 25 #[.int .i64 0, .int .i64 0, .string ⟨#[]⟩, .slice none 0 0, .slice none 0 0]) := Lib.hid ⟨(chain (below1 w _) hb1), ((Box.laid w _ _).below hb1 (by simp))⟩
            clear hb1
            obtain ⟨t0, t1, t2, t3, t4⟩ := box5 H1.out.2
            have z0 := H1.out.2.free 0
            have z1 := H1.out.2.free 1
            have z2 := H1.out.2.free 2
            have z3 := H1.out.2.free 3
            have z4 := H1.out.2.free 4
            go_wp2_with fail
            refine bodyPost_ret (v := .tuple #[.agg #[.int .i64 4, .int .i64 0, .string (rep s k), .slice none 0 0, .slice none 0 0], .int .i64 0]) (by simp [results, Tryz.results199, go_sem, t0, t1, t2, t3, t4]) rfl ?_
            exact retT_put H1.out.1 (Nat.le_refl _) H1.out.2.lt (lies_strT _ _ _ hsz)
theorem one_at1 (W : World) (g : Nat) (t : TypeId) (x : Value) (hg : W.heap.size = g := by first | rfl | simp) : ∀ j u, [x][j]? = some u → (W.alloc (.cells #[x] t)).cell? ((⟨g, 0, none⟩ : Addr).add j) = some u := by
  intro j u hj
  subst hg
  match j, hj with
  | 0, hj =>
    simp at hj
    subst hj
    simp [Addr.add]
theorem one_at2 (W : World) (o : Obj) (g : Nat) (t : TypeId) (x : Value) (hg : W.heap.size + 1 = g := by first | rfl | simp) : ∀ j u, [x][j]? = some u → ((W.alloc o).alloc (.cells #[x] t)).cell? ((⟨g, 0, none⟩ : Addr).add j) = some u :=
  one_at1 _ _ _ _ (by simpa using hg)
theorem kv_snoc (l : List ByteArray) (x : ByteArray) : kv (l ++ [x]) = kv l ++ [.string x] := by simp [kv]
theorem rs_own {w0 w : World} {v : Value} {l : List ByteArray} (h : w.ownsRow w0.heap.size 9 1 v l.length (kv l)) (hl : l.length ≤ 2000000) :
    ∃ A c, v = .slice A l.length c ∧ Rs w (fun b => w0.heap.size ≤ b ∧ b < w.heap.size) A (kv l) ∧ (A = none → c = 0) ∧ l.length ≤ c ∧ c ≤ maxLen := by
  obtain ⟨A, c, rfl, h1, h2, h3, h4⟩ := own_open h
  exact ⟨A, c, rfl, h4.move fun b hb => ⟨⟨hb.1, hb.2.1⟩, rfl⟩, h1, h2, h3⟩
set_option maxHeartbeats 4000000 in
set_option maxRecDepth 100000 in
theorem rsplit_any (s sep : ByteArray) (w : World) (hs : s.size ≤ 1048576) (hsep : sep.size ≤ 1048576) :
    Calls Tryz.prog 23 #[.string s, .string sep] w (SplitPost (splitL s sep) (splitB? s sep) w) := by
  have HRU := Lib.hid (fun W => rrunes_any s hs W)
  have HVA := Lib.hid (fun W => rval_any sep hsep W)
  obtain ⟨i1, hi', hz0', hz1', hz2'⟩ := info_parts inf_string
  have hE : s.toList.isEmpty = decide (s.size = 0) := by
    rw [Lib.toList_data, Lib.size_eq]
    cases s.data.toList <;> simp
  have hE2 : sep.toList.isEmpty = decide (sep.size = 0) := by
    rw [Lib.toList_data, Lib.size_eq]
    cases sep.data.toList <;> simp
  have hok : Hid ((runes sep.data.toList).isSome = okS sep) := Lib.hid rfl
  rw [hok.out] at HVA
  cases hx : runes s.data.toList with
  | none =>
    have HF : Hid (splitL s sep = [] ∧ splitB? s sep = false) := Lib.hid (by
      have h1 : okS s = false := by unfold okS; rw [hx]; rfl
      exact ⟨by unfold splitL; rw [if_pos (.inl h1)], by unfold splitB?; rw [h1]; rfl⟩)
    have HX := Lib.hid hx
    clear hx
    rw [HF.out.1, HF.out.2]
    go_enter Tryz.func23, Tryz.ntmps23
    go_wp2_with fail
    refine (runes_none_of (HRU.out _) HX.out).mono ?_
    rintro e1 w1 ⟨rfl, hb1⟩
    go_wp2_with fail
    go_ret2
    exact ⟨hb1, none, 0, rfl, Rs.nil _ _ _, fun _ => rfl, Nat.le_refl _, Nat.zero_le _⟩
  | some xs =>
    have ho1 : okS s = true := by unfold okS; rw [hx]; rfl
    have HX := Lib.hid hx
    cases ho2 : okS sep with
    | false =>
      have HF : Hid (splitL s sep = [] ∧ splitB? s sep = false) := Lib.hid ⟨by unfold splitL; rw [if_pos (.inr ho2)], by unfold splitB?; rw [ho2, Bool.and_false]⟩
      rw [ho2] at HVA
      clear hx ho1 ho2
      rw [HF.out.1, HF.out.2]
      go_enter Tryz.func23, Tryz.ntmps23
      go_wp2_with fail
      refine (runes_some_of (HRU.out _) xs HX.out).mono ?_
      rintro e1 w1 ⟨RA, rc, rfl, hr1, hb1⟩
      go_wp2_with fail
      refine (HVA.out _).mono ?_
      rintro e2 w2 ⟨rfl, hb2⟩
      go_wp2_with fail
      go_ret2
      exact ⟨chain hb1 hb2, none, 0, rfl, Rs.nil _ _ _, fun _ => rfl, Nat.le_refl _, Nat.zero_le _⟩
    | true =>
      have HB? : Hid (splitB? s sep = true) := Lib.hid (by unfold splitB?; rw [ho1, ho2]; rfl)
      have hneg : ¬ (okS s = false ∨ okS sep = false) := by simp [ho1, ho2]
      rw [ho2] at HVA
      rw [HB?.out]
      by_cases h0 : s.size = 0
      · have HF : Hid (splitL s sep = []) := Lib.hid (by unfold splitL; rw [if_neg hneg, if_pos h0])
        rw [decide_eq_true h0] at hE
        clear hx ho1 ho2 hneg
        rw [HF.out]
        go_enter Tryz.func23, Tryz.ntmps23
        go_wp2_with fail
        refine (runes_some_of (HRU.out _) xs HX.out).mono ?_
        rintro e1 w1 ⟨RA, rc, rfl, hr1, hb1⟩
        go_wp2_with fail
        refine (HVA.out _).mono ?_
        rintro e2 w2 ⟨rfl, hb2⟩
        go_wp2_with fail
        go_ret2
        exact ⟨chain hb1 hb2, none, 0, rfl, Rs.nil _ _ _, fun _ => rfl, Nat.le_refl _, Nat.zero_le _⟩
      · rw [decide_eq_false h0] at hE
        by_cases h1 : sep.size = 0
        · have HF : Hid (splitL s sep = xs.map encB) := Lib.hid (by unfold splitL; rw [if_neg hneg, if_neg h0, if_pos h1]; exact expl_runes hx)
          have HCP := Lib.hid (encs_runes _ s.data.toList (Nat.le_refl _) xs hx).2
          have hxl : xs.length ≤ 1048576 := by
            have h2 := (encs_runes _ s.data.toList (Nat.le_refl _) xs hx).1
            have h3 := (encs_len xs).1
            rw [h2] at h3
            have h4 : s.data.toList.length = s.size := by simp
            omega
          rw [decide_eq_true h1] at hE2
          clear hx ho1 ho2 hneg h0 h1
          rw [HF.out]
          go_enter Tryz.func23, Tryz.ntmps23
          go_wp2_with fail
          refine (runes_some_of (HRU.out _) xs HX.out).mono ?_
          rintro e1 w1 ⟨RA, rc, rfl, hr1, hb1⟩
          have HR1 := Lib.hid hr1
          have HB1 := Lib.hid hb1
          clear hr1 hb1
          go_wp2_with fail
          refine (HVA.out _).mono ?_
          rintro e2 w2 ⟨rfl, hb2⟩
          have HB2 := Lib.hid hb2
          clear hb2
          go_wp2_with fail
          go_loopw [8, 9] (fun v i wr => ∃ (k : Nat), k ≤ xs.length ∧ i = .int .i64 k ∧ Hid (wr.ownsRow w2.heap.size 9 1 v k (kv ((xs.take k).map encB))) ∧ Hid (Below w2.heap.size w2 wr)) (fun _ i _ => xs.length - (intOf i).toNat)
          case atStart => exact ⟨0, Nat.zero_le _, rfl, Lib.hid (World.ownsRow_nil _ _ _ _), Lib.hid (Below.refl _ _)⟩
          case round =>
            obtain ⟨k, hk, rfl, HO, HBR⟩ := hrel
            by_cases hlt : k < xs.length
            · obtain ⟨r, hr⟩ : ∃ r, xs[k]? = some r := ⟨_, List.getElem?_eq_getElem hlt⟩
              have hlt1 : (k : Int) < (xs.length : Int) := by omega
              have hlt0 : (0 : Int) ≤ (k : Int) := by omega
              obtain ⟨b, o, hA, hbl, hc⟩ := HR1.out.at_ (show (iv xs)[k]? = some (.int .i64 (r : Int)) by simp [iv, hr])
              have hcp : cp (r : Int) = true := HCP.out r (List.mem_of_getElem? hr)
              have HEN := Lib.hid (fun W => renc_true (r : Int) hcp W)
              rw [Int.toNat_natCast] at HEN
              have HKV : Hid (kv ((xs.take k).map encB) ++ [.string (encB r)] = kv ((xs.take (k + 1)).map encB)) := Lib.hid (by rw [List.take_add_one, hr, List.map_append, ← kv_snoc]; rfl)
              subst hA
              have hc2 := below_cell HBR.out (Nat.lt_of_lt_of_le hbl HB2.out.size) (below_cell HB2.out hbl hc)
              clear hc hr
              go_wp2_with fail
              refine (HEN.out _).mono ?_
              rintro e3 w3 ⟨rfl, rfl⟩
              have HCV : Hid ((convert 61 9 (.slice (some ⟨wr.heap.size, 0, none⟩) (enc r).length (enc r).length)).run Tryz.prog (wr.alloc (.cells (bv (enc r)).toArray 5)) = .ok (.string (encB r)) (wr.alloc (.cells (bv (enc r)).toArray 5))) := Lib.hid (by
                have hrd : Rd (wr.alloc (.cells (bv (enc r)).toArray 5)) (wr.heap.size + 1) (some ⟨wr.heap.size, 0, none⟩) (bv (enc r)) := fun j u hj => ⟨wr.heap.size, 0, rfl, Nat.lt_succ_self _, by rw [Nat.zero_add]; exact (Box.laid wr _ _).cell (by simpa using hj)⟩
                exact conv_rd hrd _ _ 5 _ Tryz.underlying61 Tryz.underlying5 Tryz.underlying9)
              have hcv := HCV.out
              have hw2 := HBR.out.size
              have hww2 : w.heap.size ≤ w2.heap.size := Nat.le_trans HB1.out.size HB2.out.size
              go_wp2_with (at_builtin; refine wpList_append_own _ rfl _ _ 22 rfl w2.heap.size 9 i1 (.string ⟨#[]⟩) 1 16 Tryz.underlying22 hi' hz0' hz1' hz2' rfl (by decide) _ _ _ rfl ((HO.out.alloc _).alloc _) ⟨wr.heap.size + 1, 0, none⟩ 1 1 [.string (encB r)] rfl rfl (one_at2 _ _ _ _ _) (one_str _) ?c3 ?c4 ?c5 ?_)
              case c3 => unfold maxLen; omega
              case c4 => omega
              case c5 => simp; omega
              intro v' w4 hown' hgrow _
              have hB4 : Below w2.heap.size w2 w4 := (((HBR.out.alloc hw2 _).alloc (by simp; omega) _).grown hgrow (by simp; omega) (fun j hj => (HO.out.lt j hj).1))
              go_wp2_with fail
              go_roundw
              case rel => exact ⟨k + 1, by omega, by go_num, Lib.hid (by rw [← HKV.out]; simpa using hown'), Lib.hid hB4⟩
              case measure => simp [intOf]; omega
            · have hkl : k = xs.length := by omega
              subst hkl
              have hlt1 : ¬ ((xs.length : Int) < (xs.length : Int)) := by omega
              have HO2 := Go.Joins.ownsRow_le HO.out (show w.heap.size ≤ w2.heap.size from Nat.le_trans HB1.out.size HB2.out.size)
              rw [List.take_length] at HO2
              have hml : (xs.map encB).length = xs.length := by simp
              rw [← hml] at HO2
              obtain ⟨A, c, rfl, q1, q2, q3, q4⟩ := rs_own HO2 (by omega)
              have HQ := Lib.hid (And.intro q1 (And.intro q2 (And.intro q3 q4)))
              have HML := Lib.hid hml
              clear q1 q2 q3 q4 HO2 hml
              go_wp2_with fail
              go_ret2
              exact ⟨chain HB1.out (chain HB2.out HBR.out), A, c, by rw [List.length_map]; rfl, HQ.out.1, HQ.out.2.1, HQ.out.2.2.1, HQ.out.2.2.2⟩
        · have HF : Hid (splitL s sep = scanS s sep (s.size + 1) 0 0) := Lib.hid (by unfold splitL; rw [if_neg hneg, if_neg h0, if_neg h1]; exact (scan_split (by omega) _ (by omega)).symm)
          have HLEN := Lib.hid (splitL_len s sep)
          rw [decide_eq_false h1] at hE2
          have hp1 : 1 ≤ sep.size := by omega
          clear hx ho1 ho2 hneg h0 h1
          have hs63 : s.size ≤ 9223372036854775807 := by omega
          generalize hL : splitL s sep = L at HF HLEN ⊢
          clear hL
          go_enter Tryz.func23, Tryz.ntmps23
          go_wp2_with fail
          refine (runes_some_of (HRU.out _) xs HX.out).mono ?_
          rintro e1 w1 ⟨RA, rc, rfl, hr1, hb1⟩
          have HB1 := Lib.hid hb1
          clear hr1 hb1
          go_wp2_with fail
          refine (HVA.out _).mono ?_
          rintro e2 w2 ⟨rfl, hb2⟩
          have HB2 := Lib.hid (chain HB1.out hb2)
          clear hb2
          go_wp2_with fail
          go_loopw [8, 12, 13] (fun v f i wr => ∃ (p q m : Nat) (done : List ByteArray), p ≤ q ∧ q ≤ s.size ∧ f = .int .i64 p ∧ i = .int .i64 q ∧ s.size - q < m ∧ done.length ≤ q ∧ Aside (L = done ++ scanS s sep m p q) ∧ Hid (wr.ownsRow w.heap.size 9 1 v done.length (kv done)) ∧ Hid (Below w.heap.size w wr)) (fun _ _ i _ => s.size - (intOf i).toNat)
          case atStart => exact ⟨0, 0, s.size + 1, [], Nat.le_refl _, Nat.zero_le _, rfl, rfl, by omega, Nat.zero_le _, HF.out, Lib.hid (World.ownsRow_nil _ _ _ _), HB2⟩
          case round =>
            obtain ⟨p, q, m, done, hpq, hqs, rfl, rfl, hm, hdl, hsc, HO, HBR⟩ := hrel
            have HSC := Lib.hid hsc.out
            clear hsc
            obtain ⟨m, rfl⟩ : ∃ m', m = m' + 1 := ⟨m - 1, by omega⟩
            rw [scanS] at HSC
            have hq0 : (0 : Int) ≤ (q : Int) := by omega
            have hwrap : wrap64 ((q : Int) + (sep.size : Int)) = ((q + sep.size : Nat) : Int) := by unfold wrap64; omega
            by_cases hroom : q + sep.size ≤ s.size
            · rw [if_pos hroom] at HSC
              have hr1 : ((q + sep.size : Nat) : Int) ≤ (s.size : Int) := by omega
              by_cases heq : s.extract q (q + sep.size) = sep
              · rw [if_pos heq] at HSC
                have hbq : ((s.extract q (q + sep.size)).toList == sep.toList) = true := by rw [heq]; simp
                have HPS := Lib.hid (kv_snoc done (s.extract p q))
                have HAS : Hid (done ++ s.extract p q :: scanS s sep m (q + sep.size) (q + sep.size) = (done ++ [s.extract p q]) ++ scanS s sep m (q + sep.size) (q + sep.size)) := Lib.hid (by simp)
                rw [HAS.out] at HSC
                have hp0 : (0 : Int) ≤ (p : Int) := by omega
                have hpq1 : (p : Int) ≤ (q : Int) := by omega
                have hqs1 : (q : Int) ≤ (s.size : Int) := by omega
                have hqq1 : (q : Int) ≤ ((q + sep.size : Nat) : Int) := by omega
                have hdl2 : done.length ≤ 1048576 := by omega
                go_wp2_with (at_builtin; refine wpList_append_own _ rfl _ _ 22 rfl w.heap.size 9 i1 (.string ⟨#[]⟩) 1 16 Tryz.underlying22 hi' hz0' hz1' hz2' rfl (by decide) _ _ _ rfl (HO.out.alloc _) ⟨wr.heap.size, 0, none⟩ 1 1 [.string (s.extract p q)] rfl rfl (one_at1 _ _ _ _) (one_str _) ?g3 ?g4 ?g5 ?_)
                case g3 => unfold maxLen; omega
                case g4 => omega
                case g5 => have := HBR.out.size; simp; omega
                intro v' w4 hown' hgrow _
                have hB4 := Lib.hid (show Below w.heap.size w w4 from (HBR.out.alloc HBR.out.size _).grown hgrow (by have := HBR.out.size; simp; omega) (fun j hj => (HO.out.lt j hj).1))
                have hown2 := Lib.hid hown'
                clear hown' hgrow
                go_wp2_with fail
                go_roundw
                case rel => exact ⟨q + sep.size, q + sep.size, m, done ++ [s.extract p q], Nat.le_refl _, hroom, by go_num, by go_num, by omega, by simp; omega, HSC.out, Lib.hid (by rw [HPS.out, List.length_append]; simpa using hown2.out), hB4⟩
                case measure => simp [intOf]; omega
              · rw [if_neg heq] at HSC
                have hbq : ((s.extract q (q + sep.size)).toList == sep.toList) = false := by
                  rw [same_eq, decide_eq_false]
                  exact fun h => heq ((scmp_zero _ _).1 h)
                have hqs1 : (q : Int) ≤ (s.size : Int) := by omega
                have hqq1 : (q : Int) ≤ ((q + sep.size : Nat) : Int) := by omega
                go_wp2_with fail
                go_roundw
                case rel => exact ⟨p, q + 1, m, done, by omega, by omega, rfl, by go_num, by omega, by omega, HSC.out, HO, HBR⟩
                case measure => simp [intOf]; omega
            · rw [if_neg hroom] at HSC
              have hr1 : ¬ (((q + sep.size : Nat) : Int) ≤ (s.size : Int)) := by omega
              have hp0 : (0 : Int) ≤ (p : Int) := by omega
              have hps1 : (p : Int) ≤ (s.size : Int) := by omega
              have hdl2 : done.length ≤ 1048576 := by omega
              have HPS := Lib.hid (kv_snoc done (s.extract p s.size))
              go_wp2_with (at_builtin; refine wpList_append_own _ rfl _ _ 22 rfl w.heap.size 9 i1 (.string ⟨#[]⟩) 1 16 Tryz.underlying22 hi' hz0' hz1' hz2' rfl (by decide) _ _ _ rfl (HO.out.alloc _) ⟨wr.heap.size, 0, none⟩ 1 1 [.string (s.extract p s.size)] rfl rfl (one_at1 _ _ _ _) (one_str _) ?f3 ?f4 ?f5 ?_)
              case f3 => unfold maxLen; omega
              case f4 => omega
              case f5 => have := HBR.out.size; simp; omega
              intro v' w4 hown' hgrow _
              have hB4 := Lib.hid (show Below w.heap.size w w4 from (HBR.out.alloc HBR.out.size _).grown hgrow (by have := HBR.out.size; simp; omega) (fun j hj => (HO.out.lt j hj).1))
              have hml : done.length + 1 = (done ++ [s.extract p s.size]).length := by simp
              rw [← HPS.out] at hown'
              have hown2 : w4.ownsRow w.heap.size 9 1 v' (done ++ [s.extract p s.size]).length (kv (done ++ [s.extract p s.size])) := by rw [← hml]; exact hown'
              rw [← HSC.out] at hown2
              obtain ⟨A, c, rfl, q1, q2, q3, q4⟩ := rs_own hown2 (by have := HLEN.out; omega)
              have HQ := Lib.hid (And.intro q1 (And.intro q2 (And.intro q3 q4)))
              clear q1 q2 q3 q4 hown2 hown' hgrow hml
              go_wp2_with fail
              go_ret2
              exact ⟨hB4.out, A, c, by first | rfl | (rw [HSC.out]; simp), HQ.out.1, HQ.out.2.1, HQ.out.2.2.1, HQ.out.2.2.2⟩
set_option maxHeartbeats 4000000 in
set_option maxRecDepth 100000 in
theorem rstrings_any (S : Nat → Prop) (s sep : ByteArray) (w : World) (hs : s.size ≤ 4096) (hsep : sep.size ≤ 4096) (hok : splitB? s sep = true) :
    Calls Tryz.prog 151 #[.string s, .string sep] w (RetT S (arrR ((splitL s sep).map strV)) (arrE ((splitL s sep).map strV)) w) := by
  have HSR := Lib.hid (fun W => rsplit_any s sep W (by omega) (by omega))
  have HTX := Lib.hid (fun (s : ByteArray) W => rtext_any s W)
  obtain ⟨i0, hi, hz0, hz1, hz2⟩ := info_parts inf_value
  have HLN := Lib.hid (splitL_len s sep)
  have HPV : Hid (∀ x ∈ splitL s sep, okS x = true ∧ x.size ≤ 4096) := Lib.hid (rsplit_pieces hok hs)
  have HAR : Hid (arrR ((splitL s sep).map strV) = finV (arrV ((splitL s sep).map strV)) ∧ arrE ((splitL s sep).map strV) = finE (arrV ((splitL s sep).map strV))) := Lib.hid (arrR_ok (by
    rw [List.all_eq_true]
    intro v hv
    obtain ⟨x, hx, rfl⟩ := List.mem_map.1 hv
    obtain ⟨h1, h2⟩ := HPV.out x hx
    exact valid_str h1 h2))
  rw [HAR.out.1, HAR.out.2]
  rw [hok] at HSR
  generalize splitL s sep = L at HSR HLN HPV ⊢
  clear HAR hok
  have hL : L.length ≤ 4097 := by have := HLN.out; omega
  go_enter Tryz.func151, Tryz.ntmps151
  go_wp2_with fail
  refine (HSR.out _).mono ?_
  rintro e1 w1 ⟨hb1, A, c, rfl, hr, hn, hlc, hcm⟩
  have HR := Lib.hid hr
  have H1 : Hid (Below w.heap.size w w1 ∧ Box w1 w.heap.size 25 #[.int .i64 0, .int .i64 0, .string ⟨#[]⟩, .slice none 0 0, .slice none 0 0]) := Lib.hid ⟨(chain (below1 w _) hb1), ((Box.laid w _ _).below hb1 (by simp))⟩
  clear hb1 hr hn hlc hcm
  go_wp2_with fail
  go_loopg [8, 9] L.length (fun gg s8 s9 wr => ∃ (i : Nat) (zs : List Value) (vr : Value), vr = s8 ∧ s9 = .int .i64 i ∧ i ≤ L.length ∧ L.length - i ≤ gg ∧ Hid (wr.ownsRow w1.heap.size 25 5 vr i zs) ∧ Hid (LiesL wr (fun _ => False) ((L.take i).map strV) zs) ∧ Hid (Below w1.heap.size w1 wr))
  case atStart => exact ⟨0, [], _, rfl, rfl, Nat.zero_le _, by omega, Lib.hid (World.ownsRow_nil _ _ _ _), Lib.hid (by rw [List.take_zero]; show LiesL _ _ [] []; rw [LiesL]), Lib.hid (Below.refl _ _)⟩
  case round =>
    obtain ⟨i, zs, vr, rfl, rfl, hin, hg, HO, HLZ, HBR⟩ := hrel
    by_cases hlt : i < L.length
    · obtain ⟨x, hx⟩ : ∃ x, L[i]? = some x := ⟨_, List.getElem?_eq_getElem hlt⟩
      have hi0 : (0 : Int) ≤ (i : Int) := by omega
      have hil : (i : Int) < (L.length : Int) := by omega
      obtain ⟨b, o, rfl, hbS, hc⟩ := HR.out.at_ (kv_at hx)
      have hc2 := below_cell HBR.out hbS.2 hc
      have hxs : x.size ≤ 140737488355328 := by have := (HPV.out x (List.mem_of_getElem? hx)).2; omega
      have HTK : Hid ((L.take (i + 1)).map strV = (L.take i).map strV ++ [strV x]) := Lib.hid (by rw [List.take_add_one, hx, List.map_append]; rfl)
      clear hc hx
      go_wp2_with fail
      refine (HTX.out _ _).mono ?_
      rintro e2 w2 ⟨rfl, hb2⟩
      have HB2 := Lib.hid hb2
      have HO2 : Hid (w2.ownsRow w1.heap.size 25 5 vr i zs) := Lib.hid (own_below HO.out hb2)
      have hsz2 : w1.heap.size ≤ w2.heap.size := by have h2 := HBR.out.size; have h3 := hb2.size; omega
      have hrow : Hid (∀ X : World, Rs (X.alloc (.cells #[.int .i64 4, .int .i64 0, .string x, .slice none 0 0, .slice none 0 0] 25)) (fun _ => True) (some ⟨X.heap.size, 0, none⟩) [.int .i64 4, .int .i64 0, .string x, .slice none 0 0, .slice none 0 0]) := Lib.hid fun X => rs_box' (cs := [.int .i64 4, .int .i64 0, .string x, .slice none 0 0, .slice none 0 0]) (Box.laid X _ _) trivial
      have HONE : Hid (∀ u ∈ [Value.int .i64 4, .int .i64 0, .string x, .slice none 0 0, .slice none 0 0], u.oneCell' = true) := Lib.hid (five_one _ _ _ _ _ _ _ _ _)
      clear hb2 hc2
      go_wp2_with (at_builtin; refine wpList_append_rs _ rfl (.tmp 22) (.tmp 28) 23 rfl w1.heap.size 25 i0 zeroVal 5 80 Tryz.underlying23 hi hz0 hz1 hz2 rfl (by omega) vr _ zs rfl (HO2.out.alloc _) (fun _ => True) (some ⟨w2.heap.size, 0, none⟩) 1 1 [.int .i64 4, .int .i64 0, .string x, .slice none 0 0, .slice none 0 0] rfl rfl (hrow.out w2) (fun h => by cases h) HONE.out ?d3 ?d4 ?d5 ?_)
      case d3 => unfold maxLen; omega
      case d4 => omega
      case d5 => simp; omega
      intro v7 w7 hown7 hgr7
      have hB7 : Hid (Below w1.heap.size w1 w7) := Lib.hid ((chain HBR.out (chain HB2.out (below1 _ _))).grown hgr7 (by have := HBR.out.size; have := HB2.out.size; simp; omega) (fun j hj => (HO2.out.lt j hj).1))
      have HLZ7 : Hid (LiesL w7 (fun _ => False) ((L.take (i + 1)).map strV) (zs ++ [.int .i64 4, .int .i64 0, .string x, .slice none 0 0, .slice none 0 0])) := Lib.hid (by
        rw [HTK.out]
        exact (HLZ.out.move (fun b hb => absurd hb id)).snoc (lies_strT _ _ _ hxs))
      have HOW := Lib.hid hown7
      clear hown7 hgr7
      go_wp2_with fail
      go_roundg (L.length - (i + 1))
      case measure => omega
      case rel => exact ⟨i + 1, zs ++ [.int .i64 4, .int .i64 0, .string x, .slice none 0 0, .slice none 0 0], _, rfl, by first | rfl | go_num, by omega, Nat.le_refl _, HOW, HLZ7, hB7⟩
    · have hii : i = L.length := by omega
      subst hii
      have hnl : ¬ ((L.length : Int) < (L.length : Int)) := by omega
      have HLZ2 := HLZ.out
      rw [List.take_length] at HLZ2
      obtain ⟨C, d, rfl, hC, hcn, hcm, hRs⟩ := own_open HO.out
      have hml : (L.map strV).length = L.length := by simp
      have HLS := list_any (fun b => w1.heap.size ≤ b ∧ b < wr.heap.size) (L.map strV) C d zs wr (hRs.move fun b hb => ⟨⟨hb.1, hb.2.1⟩, rfl⟩) (HLZ2.move fun b hb => absurd hb id) (fun b hb => hb.2) hC (by rw [hml]; omega)
      rw [hml] at HLS
      have HLSH := Lib.hid HLS
      have hsw := H1.out.2.lt
      clear HLZ2 hRs hC hcn hcm HLS hml
      go_wp2_with fail
      refine HLSH.out.mono ?_
      rintro e8 w8 ⟨hb8, D, dd, rfl, hl8⟩
      have HF := Lib.hid (retS_open (fit_any (fun b => (w1.heap.size ≤ b ∧ b < wr.heap.size) ∨ (wr.heap.size < b ∧ b < w8.heap.size)) (arrV (L.map strV)) _ w8 hl8 (fun b hb => by have := hb8.size; omega)))
      rw [List.length_map] at HF
      have HB8 := Lib.hid (chain HBR.out hb8)
      have hs8 := hb8.size
      have hsr := HBR.out.size
      clear hb8 hl8 HLSH
      go_wp2_with fail
      refine HF.out.mono ?_
      rintro e9 w9 ⟨rk, rn, rs, rks, res, RA, ra, RC, rc, hrv, rfl, hb9, hl9⟩
      have H9 : Hid (Below w.heap.size w w9 ∧ Box w9 w.heap.size 25 #[.int .i64 0, .int .i64 0, .string ⟨#[]⟩, .slice none 0 0, .slice none 0 0]) := Lib.hid ⟨chain H1.out.1 (chain HB8.out hb9), H1.out.2.below (chain HB8.out hb9) H1.out.2.lt⟩
      have HL := Lib.hid hl9
      have hs9 := hb9.size
      clear hb9 hl9 hrv HF
      obtain ⟨t0, t1, t2, t3, t4⟩ := box5 H9.out.2
      have z0 := H9.out.2.free 0
      have z1 := H9.out.2.free 1
      have z2 := H9.out.2.free 2
      have z3 := H9.out.2.free 3
      have z4 := H9.out.2.free 4
      go_wp2_with fail
      refine bodyPost_ret (v := .tuple #[.agg #[.int .i64 rk, .int .i64 rn, .string rs, .slice RA rks.length ra, .slice RC res.length rc], .int .i64 (finE (arrV (L.map strV)))]) (by simp [results, Tryz.results151, go_sem, t0, t1, t2, t3, t4]) rfl ?_
      refine retT_put H9.out.1 (Nat.le_refl _) H9.out.2.lt (HL.out.move fun b hb => ⟨⟨.inr ⟨by omega, by omega⟩, by omega⟩, rfl⟩)
end Go.Proofs.YtgdnkankleoaoaaGreatDoor

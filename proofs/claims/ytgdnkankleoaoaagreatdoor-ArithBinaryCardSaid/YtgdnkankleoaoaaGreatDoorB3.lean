/- The reference of layer 6: merge. The reference of layer 6: add of two objects, of two arrays, of any two values. The reference of layer 6: add of two arrays. -/
import Derived.Test.YtgdnkankleoaoaaGreatDoorB1
import Derived.Test.YtgdnkankleoaoaaGreatDoorB2
import Derived.Test.YtgdnkankleoaoaaGreatDoorA43
import Derived.StillTailTactics
import Derived.Deep.QuietTactic
import Derived.Deep.LoopGhost
import Derived.Test.YtgdnkankleoaoaaGreatDoorA20
import Derived.Deep.RegionHeld3
set_option linter.unusedVariables false
set_option linter.unusedSimpArgs false
namespace Go.Proofs.YtgdnkankleoaoaaGreatDoor
open Go.RowKit Go.Sort Go.Lib
theorem putL_len (ps : PL) : ∀ qs : PL, (putL ps qs).length ≤ ps.length + qs.length := by
  refine rev_indP (by simp [putL]) fun l m ih => ?_
  rw [putL_snoc, List.length_append]
  have := putP_len (k := m.1) (x := m.2) (putL ps l)
  simp only [List.length_cons, List.length_nil]
  omega
theorem putL_take {ps qs : PL} {i : Nat} {p : ByteArray × V} (h : qs[i]? = some p) : putL ps (qs.take (i + 1)) = putP (putL ps (qs.take i)) p.1 p.2 := by
  rw [List.take_add_one, h]
  exact putL_snoc ps (qs.take i) p
/-- The element with a key, when k keys of the other object have been looked at. -/
def mgAt (ks : List ByteArray) (es : List V) (key : ByteArray) (e : V) (k : Nat) : V :=
  match idxOf ks key with
  | none => e
  | some j => if j < k then mgX ks es key e else e
theorem mgAt_zero (ks : List ByteArray) (es : List V) (key : ByteArray) (e : V) : mgAt ks es key e 0 = e := by
  unfold mgAt
  cases idxOf ks key <;> simp
theorem mgAt_all (ks : List ByteArray) (es : List V) (key : ByteArray) (e : V) : mgAt ks es key e ks.length = mgX ks es key e := by
  unfold mgAt
  cases h : idxOf ks key with
  | none =>
    unfold mgX hit
    rw [h]
  | some j =>
    have h1 := (List.getElem?_eq_some_iff.1 (idxOf_some h).1).1
    simp [h1]
theorem mgAt_miss {ks : List ByteArray} {es : List V} {key y : ByteArray} {e : V} {k : Nat} (hy : ks[k]? = some y) (hn : ¬ y = key) : mgAt ks es key e (k + 1) = mgAt ks es key e k := by
  unfold mgAt
  cases h : idxOf ks key with
  | none => rfl
  | some j =>
    have h1 := (idxOf_some h).1
    have hj : ¬ j = k := fun e9 => by rw [e9, hy] at h1; exact hn (Option.some.inj h1)
    by_cases h2 : j < k
    · simp [h2, show j < k + 1 by omega]
    · simp [h2, show ¬ j < k + 1 by omega]
theorem mgAt_hit {ks : List ByteArray} {es : List V} {key : ByteArray} {e : V} {k : Nat} (ha : Asc ks) (hy : ks[k]? = some key) : mgAt ks es key e k = e ∧ mgAt ks es key e (k + 1) = mgX ks es key e := by
  unfold mgAt
  rw [idx_self ha hy]
  simp
theorem mgX_at {ks : List ByteArray} {es : List V} {key : ByteArray} {e z : V} {k : Nat} (ha : Asc ks) (hy : ks[k]? = some key) (hz : es[k]? = some z) : mgX ks es key e = if kd z = 6 ∧ kd e = 6 then mgV z e else e := by
  unfold mgX hit
  rw [idx_self ha hy]
  simp only [hz]
  by_cases h : kd z = 6 ∧ kd e = 6
  · rw [if_pos h, if_pos h]
  · rw [if_neg h, if_neg h]
/-- Where the merge stands: its blocks, and the object so far. -/
structure MgS (w : World) (S : Nat → Prop) (p : Nat) (cA cB : Array Value) (vi : V) (cs : List Value) (T : Nat) (W : World) : Prop where
  b3 : B3 w cA cB W
  pge : w.heap.size + 3 ≤ p
  vbox : Box W p 25 cs.toArray
  lies : Lies W (fun b => S b ∨ (p < b ∧ b < T)) vi cs
  le : T ≤ W.heap.size
  ge : p < T
theorem MgS.next {w W W' : World} {S : Nat → Prop} {p : Nat} {cA cB : Array Value} {vi : V} {cs : List Value} {T : Nat} (h : MgS w S p cA cB vi cs T W) (hS : ∀ b, S b → b < w.heap.size) (hb : Below W.heap.size W W') : MgS w S p cA cB vi cs T W' :=
  ⟨h.b3.next hb, h.pge, h.vbox.below hb h.vbox.lt, h.lies.move fun b hb' => ⟨hb', hb.block b (by have := h.le; have := h.ge; have := h.pge; rcases hb' with h9 | h9; (· have := hS b h9; omega); omega)⟩, Nat.le_trans h.le hb.size, h.ge⟩
theorem b3_far {w W : World} {cs ds : Array Value} {p : Addr} (h : B3 w cs ds W) (hp : w.heap.size + 3 ≤ p.block) (u : Value) : B3 w cs ds (W.setCell p u) :=
  ⟨h.below.setCell (by omega) _, h.x.far (by omega) _, h.y.far (by omega) _, h.r.far (by omega) _⟩
theorem MgS.far {w W : World} {S : Nat → Prop} {p : Nat} {cA cB : Array Value} {vi : V} {cs : List Value} {T g i : Nat} (h : MgS w S p cA cB vi cs T W) (hS : ∀ b, S b → b < w.heap.size) (hg : T ≤ g) (u : Value) : MgS w S p cA cB vi cs T (W.setCell ⟨g, i, none⟩ u) :=
  ⟨b3_far h.b3 (by have := h.ge; have := h.pge; show _ ≤ g; omega) u, h.pge, h.vbox.far (by have := h.ge; show _ ≠ g; omega) u, h.lies.move fun b hb' => ⟨hb', Below.heap_setCell _ _ _ _ (by have := h.ge; have := h.pge; show b ≠ g; rcases hb' with h9 | h9; (· have := hS b h9; omega); omega)⟩, by simpa [World.setCell] using h.le, h.ge⟩
/-- The element in its block. -/
structure XsS (S : Nat → Prop) (g : Nat) (x : V) (cx : List Value) (W : World) : Prop where
  box : Box W g 25 cx.toArray
  lies : Lies W (fun b => S b ∨ (g < b ∧ b < W.heap.size)) x cx
theorem XsS.next {W W' : World} {S : Nat → Prop} {g : Nat} {x : V} {cx : List Value} (h : XsS S g x cx W) (hS : ∀ b, S b → b < W.heap.size) (hb : Below W.heap.size W W') : XsS S g x cx W' :=
  ⟨h.box.below hb h.box.lt, h.lies.move fun b hb' => ⟨hb'.imp id fun h9 => ⟨h9.1, Nat.lt_of_lt_of_le h9.2 hb.size⟩, hb.block b (by rcases hb' with h9 | h9; (· exact hS b h9); exact h9.2)⟩⟩
theorem XsS.put {W W' : World} {S : Nat → Prop} {g : Nat} {x y : V} {u0 u1 u2 u3 u4 v0 v1 v2 v3 v4 : Value} (h : XsS S g x [u0, u1, u2, u3, u4] W) (hS : ∀ b, S b → b < g) (hb : Below W.heap.size W W')
    (hl : Lies W' (fun b => (S b ∨ (g < b ∧ b < W.heap.size)) ∨ (W.heap.size ≤ b ∧ b < W'.heap.size)) y [v0, v1, v2, v3, v4]) :
    XsS S g y [v0, v1, v2, v3, v4] (((((W'.setCell ⟨g, 0, none⟩ v0).setCell ⟨g, 1, none⟩ v1).setCell ⟨g, 2, none⟩ v2).setCell ⟨g, 3, none⟩ v3).setCell ⟨g, 4, none⟩ v4) := by
  have hgl := h.box.lt
  have hbx := h.box.below hb h.box.lt
  refine ⟨((((hbx.put 0 v0).put 1 v1).put 2 v2).put 3 v3).put 4 v4, hl.move fun b hb' => ?_⟩
  have hne : b ≠ g := by
    rcases hb' with (h9 | h9) | h9
    · have := hS b h9; omega
    · omega
    · omega
  refine ⟨?_, ?_⟩
  · have := hb.size
    rcases hb' with (h9 | h9) | h9
    · exact .inl h9
    · exact .inr ⟨h9.1, by simp [World.setCell]; omega⟩
    · exact .inr ⟨by omega, by simp [World.setCell]; omega⟩
  · rw [Below.heap_setCell _ _ _ _ (by simpa using hne), Below.heap_setCell _ _ _ _ (by simpa using hne), Below.heap_setCell _ _ _ _ (by simpa using hne), Below.heap_setCell _ _ _ _ (by simpa using hne), Below.heap_setCell _ _ _ _ (by simpa using hne)]
theorem MgS.five {w W W' : World} {S : Nat → Prop} {p : Nat} {cA cB : Array Value} {vi : V} {cs : List Value} {T g : Nat} (h : MgS w S p cA cB vi cs T W) (hS : ∀ b, S b → b < w.heap.size) (hb : Below W.heap.size W W') (hg : T ≤ g) (v0 v1 v2 v3 v4 : Value) :
    MgS w S p cA cB vi cs T (((((W'.setCell ⟨g, 0, none⟩ v0).setCell ⟨g, 1, none⟩ v1).setCell ⟨g, 2, none⟩ v2).setCell ⟨g, 3, none⟩ v3).setCell ⟨g, 4, none⟩ v4) :=
  (((((h.next hS hb).far hS hg v0).far hS hg v1).far hS hg v2).far hS hg v3).far hS hg v4
/-- The object behind a member put into it. -/
theorem MgS.put {w W W' : World} {S : Nat → Prop} {p : Nat} {cA cB : Array Value} {vi vj : V} {T : Nat} {u0 u1 u2 u3 u4 v0 v1 v2 v3 v4 : Value} (h : MgS w S p cA cB vi [u0, u1, u2, u3, u4] T W) (hS : ∀ b, S b → b < w.heap.size) (hb : Below W.heap.size W W')
    (hl : Lies W' (fun b => (S b ∨ (p < b ∧ b < W.heap.size)) ∨ (W.heap.size + 3 < b ∧ b < W'.heap.size)) vj [v0, v1, v2, v3, v4]) :
    MgS w S p cA cB vj [v0, v1, v2, v3, v4] W'.heap.size (((((W'.setCell ⟨p, 0, none⟩ v0).setCell ⟨p, 1, none⟩ v1).setCell ⟨p, 2, none⟩ v2).setCell ⟨p, 3, none⟩ v3).setCell ⟨p, 4, none⟩ v4) := by
  have hbx := h.vbox.below hb h.vbox.lt
  have hle := h.le
  have hge := h.ge
  have hpg := h.pge
  have hsz := hb.size
  have b3' := h.b3.next hb
  refine ⟨b3_far (b3_far (b3_far (b3_far (b3_far b3' hpg _) hpg _) hpg _) hpg _) hpg _, hpg, ((((hbx.put 0 v0).put 1 v1).put 2 v2).put 3 v3).put 4 v4, hl.move fun b hb' => ?_, by simp [World.setCell], by omega⟩
  have hne : b ≠ p := by
    rcases hb' with (h9 | h9) | h9
    · have := hS b h9; omega
    · omega
    · omega
  refine ⟨?_, ?_⟩
  · rcases hb' with (h9 | h9) | h9
    · exact .inl h9
    · exact .inr ⟨h9.1, by omega⟩
    · exact .inr ⟨by omega, h9.2⟩
  · rw [Below.heap_setCell _ _ _ _ (by simpa using hne), Below.heap_setCell _ _ _ _ (by simpa using hne), Below.heap_setCell _ _ _ _ (by simpa using hne), Below.heap_setCell _ _ _ _ (by simpa using hne), Below.heap_setCell _ _ _ _ (by simpa using hne)]
theorem mg_put {S : Nat → Prop} {w W : World} {g : Nat} {v : V} {r0 r1 r2 r3 r4 : Value} (hB : Below w.heap.size w W) (hg : w.heap.size ≤ g) (hgW : g < W.heap.size)
    (hl : Lies W (fun b => (S b ∨ (w.heap.size ≤ b ∧ b < W.heap.size)) ∧ b ≠ g) v [r0, r1, r2, r3, r4]) :
    Below w.heap.size w (((((W.setCell ⟨g, 0, none⟩ r0).setCell ⟨g, 1, none⟩ r1).setCell ⟨g, 2, none⟩ r2).setCell ⟨g, 3, none⟩ r3).setCell ⟨g, 4, none⟩ r4) ∧ ∃ qs : List Value, (Ending.returned (.agg #[r0, r1, r2, r3, r4])) = .returned (.agg qs.toArray) ∧ Lies (((((W.setCell ⟨g, 0, none⟩ r0).setCell ⟨g, 1, none⟩ r1).setCell ⟨g, 2, none⟩ r2).setCell ⟨g, 3, none⟩ r3).setCell ⟨g, 4, none⟩ r4) (fun b => S b ∨ (w.heap.size ≤ b ∧ b < (((((W.setCell ⟨g, 0, none⟩ r0).setCell ⟨g, 1, none⟩ r1).setCell ⟨g, 2, none⟩ r2).setCell ⟨g, 3, none⟩ r3).setCell ⟨g, 4, none⟩ r4).heap.size)) v qs := by
  refine ⟨(((((hB.setCell (by exact hg) _).setCell (by exact hg) _).setCell (by exact hg) _).setCell (by exact hg) _).setCell (by exact hg) _), [r0, r1, r2, r3, r4], rfl, ?_⟩
  refine hl.move fun b hb => ⟨hb.1.imp id fun h => ⟨h.1, by have := h.2; simp [World.setCell]; omega⟩, ?_⟩
  have hne := hb.2
  rw [Below.heap_setCell _ _ _ _ (by simpa using hne), Below.heap_setCell _ _ _ _ (by simpa using hne), Below.heap_setCell _ _ _ _ (by simpa using hne), Below.heap_setCell _ _ _ _ (by simpa using hne), Below.heap_setCell _ _ _ _ (by simpa using hne)]
def MgOk (u : V) : Prop := ∀ (v : V) (cs ds : List Value) (w : World) (S : Nat → Prop), (∀ b, S b → b < w.heap.size) → Lies w S v cs → Lies w S u ds → valid v = true → valid u = true → kd v = 6 → kd u = 6 →
  Calls Tryz.prog 123 #[.agg cs.toArray, .agg ds.toArray] w fun e w' => Below w.heap.size w w' ∧ ∃ qs : List Value, e = .returned (.agg qs.toArray) ∧ Lies w' (fun b => S b ∨ (w.heap.size ≤ b ∧ b < w'.heap.size)) (mgV v u) qs
set_option maxHeartbeats 8000000 in
set_option maxRecDepth 100000 in
theorem rmerge_any : ∀ u : V, MgOk u := by
  refine V.ind fun k2 n2 s2 ks2 es2 ih v cs ds w S hS h h' hv hu h6 h62 => ?_
  obtain ⟨k, n, s, ks, es⟩ := v
  obtain rfl : k = 6 := h6
  obtain rfl : k2 = 6 := h62
  have hasc := (valid_keys hv).1
  have hlen := (valid_keys hv).2.1 rfl
  have hlen2 := (valid_keys hu).2.1 rfl
  have hk1 := (valid_keys hv).2.2.1
  have hk2 := (valid_keys hu).2.2.1
  have hself := obj_self hv hlen
  have hkz := (valid_keysok hu).2
  have hps0 : putL [] (ks.zip es) = ks.zip es := putL_nil_asc (show PAsc (ks.zip es) from prs_asc hv)
  rw [hps0] at hself
  rcases valid_shape hv with ⟨hk, _⟩ | ⟨hk, _⟩ | ⟨hk, _⟩ | ⟨hk, _⟩ | ⟨_, rfl, rfl, -⟩
  · omega
  · omega
  · omega
  · omega
  rcases valid_shape hu with ⟨hk, _⟩ | ⟨hk, _⟩ | ⟨hk, _⟩ | ⟨hk, _⟩ | ⟨_, rfl, rfl, -⟩
  · omega
  · omega
  · omega
  · omega
  have hel := valid_elems hv
  have hel2 := valid_elems hu
  obtain ⟨A, a, B, b, xs, rfl, _, _, _, _, hA, hB, hL⟩ := lies_open h
  obtain ⟨A2, a2, B2, b2, ys, rfl, _, _, _, _, hA2, hB2, hL2⟩ := lies_open h'
  rw [mgV_eq]
  obtain ⟨zz, hzz⟩ : ∃ z, ks2.zip (mgVL ks es ks2 es2) = z := ⟨_, rfl⟩
  have HZ : Hid (∀ (i : Nat) (key : ByteArray) (e : V), ks2[i]? = some key → es2[i]? = some e → zz[i]? = some (key, mgX ks es key e)) := Lib.hid fun i key e hk he => by
    rw [← hzz, List.getElem?_zip_eq_some]
    exact ⟨hk, mgVL_at ks es ks2 es2 i key e hk he⟩
  have hzl : zz.length = ks2.length := by rw [← hzz, List.length_zip, mgVL_len ks es ks2 es2 hlen2]; omega
  rw [hzz]
  clear hzz
  have HA := Lib.hid hA
  have HB := Lib.hid hB
  have HL := Lib.hid hL
  have HA2 := Lib.hid hA2
  have HB2 := Lib.hid hB2
  have HL2 := Lib.hid hL2
  have HLEN := Lib.hid hlen
  have HLEN2 := Lib.hid hlen2
  have HS := Lib.hid hS
  have HIH := Lib.hid ih
  have HEL := Lib.hid hel
  have HEL2 := Lib.hid hel2
  have HASC := Lib.hid hasc
  have HKZ := Lib.hid hkz
  have HV0 : Hid (MgS w S (w.heap.size + 1 + 1 + 1) #[.int .i64 6, .int .i64 0, .string ⟨#[]⟩, .slice A ks.length a, .slice B es.length b] #[.int .i64 6, .int .i64 0, .string ⟨#[]⟩, .slice A2 ks2.length a2, .slice B2 es2.length b2] (objL (putL (ks.zip es) (zz.take 0))) [.int .i64 6, .int .i64 0, .string ⟨#[]⟩, .slice A ks.length a, .slice B es.length b] (w.heap.size + 1 + 1 + 1 + 1) ((((w.alloc (.cells #[.int .i64 6, .int .i64 0, .string ⟨#[]⟩, .slice A ks.length a, .slice B es.length b] 25)).alloc (.cells #[.int .i64 6, .int .i64 0, .string ⟨#[]⟩, .slice A2 ks2.length a2, .slice B2 es2.length b2] 25)).alloc (.cells #[.int .i64 0, .int .i64 0, .string ⟨#[]⟩, .slice none 0 0, .slice none 0 0] 25)).alloc (.cells #[.int .i64 6, .int .i64 0, .string ⟨#[]⟩, .slice A ks.length a, .slice B es.length b] 25))) := Lib.hid (by
    have h3 := B3.start w #[.int .i64 6, .int .i64 0, .string ⟨#[]⟩, .slice A ks.length a, .slice B es.length b] #[.int .i64 6, .int .i64 0, .string ⟨#[]⟩, .slice A2 ks2.length a2, .slice B2 es2.length b2]
    refine ⟨h3.next (below1 _ _), Nat.le_refl _, box_at _ _ _ _ (by simp), ?_, by simp, Nat.lt_succ_self _⟩
    rw [List.take_zero]
    show Lies _ _ (objL (ks.zip es)) _
    rw [hself]
    exact h.move fun b hb => ⟨.inl hb, (chain h3.below (below1 _ _)).block b (hS b hb)⟩)
  clear hlen hlen2 hA hB hL hA2 hB2 hL2 hS ih hel hel2 hasc hkz h h' hv hu hself hps0
  show Calls _ _ #[.agg #[.int .i64 6, .int .i64 0, .string ⟨#[]⟩, .slice A ks.length a, .slice B es.length b], .agg #[.int .i64 6, .int .i64 0, .string ⟨#[]⟩, .slice A2 ks2.length a2, .slice B2 es2.length b2]] w _
  go_enter Tryz.func123, Tryz.ntmps123
  go_wp2_with fail
  go_loopg [6] ks2.length (fun gg s6 wr => ∃ (i : Nat) (cs : List Value) (T : Nat), s6 = .int .i64 i ∧ i ≤ ks2.length ∧ ks2.length - i ≤ gg ∧ Hid (MgS w S (w.heap.size + 1 + 1 + 1) #[.int .i64 6, .int .i64 0, .string ⟨#[]⟩, .slice A ks.length a, .slice B es.length b] #[.int .i64 6, .int .i64 0, .string ⟨#[]⟩, .slice A2 ks2.length a2, .slice B2 es2.length b2] (objL (putL (ks.zip es) (zz.take i))) cs T wr))
  case atStart => exact ⟨0, _, _, rfl, Nat.zero_le _, by omega, HV0⟩
  case round =>
    clear HV0
    obtain ⟨i, cs, T, rfl, hin, hg, HM⟩ := hrel
    have hmk : objL (putL (ks.zip es) (zz.take i)) = .mk 6 0 ⟨#[]⟩ ((putL (ks.zip es) (zz.take i)).map Prod.fst) ((putL (ks.zip es) (zz.take i)).map Prod.snd) := rfl
    have hl9 := HM.out.lies
    rw [hmk] at hl9
    obtain ⟨PA, pa, PC, pc, pxs, rfl, _⟩ := lies_open hl9
    clear hl9
    have HPL : Hid ((putL (ks.zip es) (zz.take i)).length ≤ 1000000) := Lib.hid (by
      have h1 := putL_len (ks.zip es) (zz.take i)
      rw [List.length_zip, List.length_take] at h1
      omega)
    obtain ⟨y0, y1, y2, y3, y4⟩ := box5 HM.out.b3.y
    by_cases hlt : i < ks2.length
    · obtain ⟨key, hkey⟩ : ∃ x, ks2[i]? = some x := ⟨_, List.getElem?_eq_getElem hlt⟩
      obtain ⟨e, he⟩ : ∃ e, es2[i]? = some e := ⟨_, List.getElem?_eq_getElem (by have := HLEN2.out; omega)⟩
      have HST := Lib.hid (putL_take (ps := ks.zip es) (HZ.out i key e hkey he))
      have HKS : Hid (key.size ≤ 140737488355328) := Lib.hid (by have := HKZ.out key (List.mem_of_getElem? hkey); omega)
      have hel9 := List.all_eq_true.1 HEL2.out e (List.mem_of_getElem? he)
      have HIE := Lib.hid (HIH.out e (List.mem_of_getElem? he))
      have HVE := Lib.hid hel9
      have hi0 : (0 : Int) ≤ (i : Int) := by omega
      have hil : (i : Int) < (ks2.length : Int) := by omega
      have hil2 : (i : Int) < (es2.length : Int) := by have := HLEN2.out; omega
      obtain ⟨ek, en, es9, eks, ees⟩ := e
      obtain ⟨bX, oX, EA, ea, EC, ec, rfl, hbX, hlX, c0, c1, c2, c3, c4⟩ := elem_open HB2.out HL2.out he
      obtain ⟨bK, oK, rfl, hbK, hcK⟩ := HA2.out.at_ (kv_at hkey)
      have hbw := HM.out.b3.below
      have hbXl := HS.out _ hbX
      have c0' := below_cell hbw hbXl c0
      have c1' := below_cell hbw hbXl c1
      have c2' := below_cell hbw hbXl c2
      have c3' := below_cell hbw hbXl c3
      have c4' := below_cell hbw hbXl c4
      have HCK := Lib.hid hcK
      have HSK := Lib.hid (HS.out _ hbK)
      have HXE := Lib.hid hlX
      clear c0 c1 c2 c3 c4 hcK hbK hkey he hel9 hlX hbX
      have HX0 : Hid (XsS S wr.heap.size (mgAt ks es key (.mk ek en es9 eks ees) 0) [.int .i64 ek, .int .i64 en, .string es9, .slice EA eks.length ea, .slice EC ees.length ec] (wr.alloc (.cells #[.int .i64 ek, .int .i64 en, .string es9, .slice EA eks.length ea, .slice EC ees.length ec] 25))) := Lib.hid (by
        rw [mgAt_zero]
        exact ⟨Box.laid _ _ _, HXE.out.move fun b hb => ⟨.inl hb, (chain hbw (below1 _ _)).block b (HS.out b hb)⟩⟩)
      have HM0 := Lib.hid (HM.out.next HS.out (below1 wr (.cells #[.int .i64 ek, .int .i64 en, .string es9, .slice EA eks.length ea, .slice EC ees.length ec] 25)))
      have hTw := HM.out.le
      have hTg := HM.out.ge
      obtain ⟨gx, hgx⟩ : ∃ g, wr.heap.size = g := ⟨_, rfl⟩
      have HG := Lib.hid hgx
      rw [hgx] at HX0 hTw
      clear hgx hbw
      go_wp2_with fail
      simp only [HG.out]
      obtain ⟨W9, hW9⟩ : ∃ X, X = wr := ⟨_, rfl⟩
      subst hW9
      go_loopg [8] ks.length (fun gg s8 wr => ∃ (k : Nat) (cx : List Value), s8 = .int .i64 k ∧ k ≤ ks.length ∧ ks.length - k ≤ gg ∧ Hid (MgS w S (w.heap.size + 1 + 1 + 1) #[.int .i64 6, .int .i64 0, .string ⟨#[]⟩, .slice A ks.length a, .slice B es.length b] #[.int .i64 6, .int .i64 0, .string ⟨#[]⟩, .slice (some ⟨bK, oK, none⟩) ks2.length a2, .slice (some ⟨bX, oX, none⟩) es2.length b2] (objL (putL (ks.zip es) (zz.take i))) [.int .i64 6, .int .i64 0, .string ⟨#[]⟩, .slice PA ((putL (ks.zip es) (zz.take i)).map Prod.fst).length pa, .slice PC ((putL (ks.zip es) (zz.take i)).map Prod.snd).length pc] T wr) ∧ Hid (XsS S gx (mgAt ks es key (.mk ek en es9 eks ees) k) cx wr))
      case atStart => exact ⟨0, _, rfl, Nat.zero_le _, by omega, HM0, HX0⟩
      case round =>
        clear HX0 HM0 c0' c1' c2' c3' c4' y0 y1 y2 y3 y4
        obtain ⟨k, cx, rfl, hkn, hgk, HM2, HX2⟩ := hrel
        obtain ⟨x0, x1, x2, x3, x4⟩ := box5 HM2.out.b3.x
        obtain ⟨y0, y1, y2, y3, y4⟩ := box5 HM2.out.b3.y
        obtain ⟨m, hm⟩ : ∃ m, mgAt ks es key (.mk ek en es9 eks ees) k = m := ⟨_, rfl⟩
        have HMK := Lib.hid hm
        rw [hm] at HX2
        clear hm
        have hlx := HX2.out.lies
        obtain ⟨mk, mn, ms, mks, mes⟩ := m
        obtain ⟨XA, xa, XC, xc, xxs, rfl, _⟩ := lies_open hlx
        clear hlx
        obtain ⟨r0, r1, r2, r3, r4⟩ := box5 HX2.out.box
        have hbw := HM2.out.b3.below
        have hck := below_cell hbw HSK.out HCK.out
        by_cases hlk : k < ks.length
        · obtain ⟨y, hy⟩ : ∃ y, ks[k]? = some y := ⟨_, List.getElem?_eq_getElem hlk⟩
          obtain ⟨z, hz⟩ : ∃ z, es[k]? = some z := ⟨_, List.getElem?_eq_getElem (by have := HLEN.out; omega)⟩
          have HY := Lib.hid hy
          have HZE := Lib.hid hz
          have hk0 : (0 : Int) ≤ (k : Int) := by omega
          have hkl : (k : Int) < (ks.length : Int) := by omega
          have hkl2 : (k : Int) < (es.length : Int) := by have := HLEN.out; omega
          obtain ⟨zk, zn, zs, zks, zes⟩ := z
          obtain ⟨bZ, oZ, ZA, za, ZC, zc, rfl, hbZ, hlZ, d0, d1, d2, d3, d4⟩ := elem_open HB.out HL.out hz
          obtain ⟨bY, oY, rfl, hbY, hcY⟩ := HA.out.at_ (kv_at hy)
          have hcy := below_cell hbw (HS.out _ hbY) hcY
          have hbZl := HS.out _ hbZ
          have d0' := below_cell hbw hbZl d0
          have HZL := Lib.hid hlZ
          have HD : Hid (wr.cell? ⟨bZ, oZ + k * 5 + 1, none⟩ = some (.int .i64 zn) ∧ wr.cell? ⟨bZ, oZ + k * 5 + 2, none⟩ = some (.string zs) ∧ wr.cell? ⟨bZ, oZ + k * 5 + 3, none⟩ = some (.slice ZA zks.length za) ∧ wr.cell? ⟨bZ, oZ + k * 5 + 4, none⟩ = some (.slice ZC zes.length zc)) := Lib.hid ⟨below_cell hbw hbZl d1, below_cell hbw hbZl d2, below_cell hbw hbZl d3, below_cell hbw hbZl d4⟩
          clear d0 d1 d2 d3 d4 hcY hy hz hlZ hbY
          have hse := same_eq y key
          by_cases hyk : y = key
          · have hsc : scmp y key = 0 := (scmp_zero _ _).2 hyk
            have hbq : (y.toList == key.toList) = true := by rw [hse, decide_eq_true hsc]
            have HH : Hid (mgAt ks es key (.mk ek en es9 eks ees) k = .mk ek en es9 eks ees ∧ mgAt ks es key (.mk ek en es9 eks ees) (k + 1) = mgX ks es key (.mk ek en es9 eks ees)) := Lib.hid (mgAt_hit HASC.out (hyk ▸ HY.out))
            have HXX : Hid (mgX ks es key (.mk ek en es9 eks ees) = if zk = 6 ∧ ek = 6 then mgV (.mk zk zn zs zks zes) (.mk ek en es9 eks ees) else .mk ek en es9 eks ees) := Lib.hid (mgX_at HASC.out (hyk ▸ HY.out) HZE.out)
            have hmm : V.mk mk mn ms mks mes = V.mk ek en es9 eks ees := HMK.out.symm.trans HH.out.1
            clear hsc hse hyk
            by_cases hz6 : zk = 6
            · have g1 : (zk == 6) = true := by simpa using hz6
              by_cases he6 : ek = 6
              · -- both are objects: merge
                injection hmm with e1 e2 e3 e4 e5
                subst e1 e2 e3 e4 e5
                have g2 : (mk == 6) = true := by simpa using he6
                have HX6 := HXX.out
                rw [if_pos ⟨hz6, he6⟩] at HX6
                have HREL : Hid (mgAt ks es key (.mk mk mn ms mks mes) (k + 1) = mgV (.mk zk zn zs zks zes) (.mk mk mn ms mks mes)) := Lib.hid (HH.out.2.trans HX6)
                have hzv := List.all_eq_true.1 HEL.out _ (List.mem_of_getElem? HZE.out)
                have HC : Hid (∀ W, Below wr.heap.size wr W → Calls Tryz.prog 123 #[.agg #[.int .i64 zk, .int .i64 zn, .string zs, .slice ZA zks.length za, .slice ZC zes.length zc], .agg #[.int .i64 mk, .int .i64 mn, .string ms, .slice XA mks.length xa, .slice XC mes.length xc]] W _) := Lib.hid (fun W hW => mg_open (HIE.out (.mk zk zn zs zks zes) _ _ W (fun b => S b ∨ (gx < b ∧ b < wr.heap.size)) (fun b hb => by have := hW.size; have := HM2.out.b3.below.size; rcases hb with h9 | h9; (· have := HS.out b h9; omega); omega) (HZL.out.move fun b hb => ⟨.inl hb, (chain hbw hW).block b (HS.out b hb)⟩) (HX2.out.lies.move fun b hb => ⟨hb, hW.block b (by have := HM2.out.b3.below.size; rcases hb with h9 | h9; (· have := HS.out b h9; omega); exact h9.2)⟩) hzv HVE.out hz6 he6))
                obtain ⟨d1', d2', d3', d4'⟩ := HD.out
                clear HX6 hzv hz6 he6
                go_wp2_with fail
                go_quiet (fail)
                go_wp2_with fail
                have hn : Below wr.heap.size wr (wr.drewN nq) := below_drewN (Below.refl _ _) _
                generalize wr.drewN nq = wn at hn ⊢
                have hbZw : bZ < wr.heap.size := Nat.lt_of_lt_of_le hbZl hbw.size
                have d0n := below_cell hn hbZw d0'
                have d1n := below_cell hn hbZw d1'
                have d2n := below_cell hn hbZw d2'
                have d3n := below_cell hn hbZw d3'
                have d4n := below_cell hn hbZw d4'
                have HXN := Lib.hid (HX2.out.box.below hn HX2.out.box.lt)
                have HMN := Lib.hid (HM2.out.next HS.out hn)
                have HN := Lib.hid hn
                clear hn hbZw d0' d1' d2' d3' d4' r0 r1 r2 r3 r4 x0 x1 x2 x3 x4 y0 y1 y2 y3 y4 hcy hck
                obtain ⟨r0, r1, r2, r3, r4⟩ := box5 HXN.out
                obtain ⟨x0, x1, x2, x3, x4⟩ := box5 HMN.out.b3.x
                go_still_tail 6, (by kernel_rfl)
                change wpList _ _ _ _ _ wn.drew
                go_wp2_with fail
                refine (HC.out _ HN.out.drew).mono ?_
                rintro e6 w6 ⟨hb6, rk, rn, rs, rks, res, RA, ra, RC, rc, rfl, hl6⟩
                have hbn := chain HN.out.drew hb6
                have HB6 : Hid (Below wr.heap.size wr w6) := Lib.hid hbn
                have hsn : wr.heap.size ≤ wn.heap.size := HN.out.size
                have HL6 : Hid (Lies w6 (fun b => (S b ∨ (gx < b ∧ b < wr.heap.size)) ∨ (wr.heap.size ≤ b ∧ b < w6.heap.size)) _ [.int .i64 rk, .int .i64 rn, .string rs, .slice RA rks.length ra, .slice RC res.length rc]) := Lib.hid (hl6.move fun b hb => ⟨hb.imp id fun h9 => ⟨Nat.le_trans hsn h9.1, h9.2⟩, rfl⟩)
                clear hbn hsn hb6 hl6 d0n d1n d2n d3n d4n r0 r1 r2 r3 r4 x0 x1 x2 x3 x4 HC
                have HBX := Lib.hid (HX2.out.box.below HB6.out HX2.out.box.lt)
                obtain ⟨r0, r1, r2, r3, r4⟩ := box5 HBX.out
                have f0 := HBX.out.free 0
                have f1 := HBX.out.free 1
                have f2 := HBX.out.free 2
                have f3 := HBX.out.free 3
                have f4 := HBX.out.free 4
                go_wp2_with fail
                go_roundg (ks.length - (k + 1))
                case measure => omega
                case rel => exact ⟨k + 1, [.int .i64 rk, .int .i64 rn, .string rs, .slice RA rks.length ra, .slice RC res.length rc], by first | rfl | go_num, by omega, Nat.le_refl _, Lib.hid (HM2.out.five HS.out HB6.out hTw _ _ _ _ _), Lib.hid (by rw [HREL.out]; exact HX2.out.put (fun b hb => by have := HS.out b hb; have := HM2.out.ge; omega) HB6.out HL6.out)⟩
              · have g2 : (mk == 6) = false := by injection hmm with e1; rw [e1]; simpa using he6
                have HREL : Hid (mgAt ks es key (.mk ek en es9 eks ees) (k + 1) = .mk mk mn ms mks mes) := Lib.hid (by have h8 := HXX.out; rw [if_neg (fun h9 => he6 h9.2)] at h8; rw [HH.out.2, h8, hmm])
                clear he6 hz6 hmm
                go_wp2_with fail
                go_quiet (fail)
                go_wp2_with fail
                go_roundg (ks.length - (k + 1))
                case measure => omega
                case rel => exact ⟨k + 1, _, by first | rfl | go_num, by omega, Nat.le_refl _, Lib.hid (HM2.out.next HS.out (below_drewN (Below.refl _ _) _)), Lib.hid (by rw [HREL.out]; exact HX2.out.next (fun b hb => Nat.lt_of_lt_of_le (HS.out b hb) hbw.size) (below_drewN (Below.refl _ _) _))⟩
            · have g1 : (zk == 6) = false := by simpa using hz6
              have HREL : Hid (mgAt ks es key (.mk ek en es9 eks ees) (k + 1) = .mk mk mn ms mks mes) := Lib.hid (by have h8 := HXX.out; rw [if_neg (fun h9 => hz6 h9.1)] at h8; rw [HH.out.2, h8, hmm])
              clear hz6 hmm
              go_wp2_with fail
              go_quiet (fail)
              go_wp2_with fail
              go_roundg (ks.length - (k + 1))
              case measure => omega
              case rel => exact ⟨k + 1, _, by first | rfl | go_num, by omega, Nat.le_refl _, Lib.hid (HM2.out.next HS.out (below_drewN (Below.refl _ _) _)), Lib.hid (by rw [HREL.out]; exact HX2.out.next (fun b hb => Nat.lt_of_lt_of_le (HS.out b hb) hbw.size) (below_drewN (Below.refl _ _) _))⟩
          · have hbq : (y.toList == key.toList) = false := by rw [hse, decide_eq_false (fun h9 => hyk ((scmp_zero _ _).1 h9))]
            have HREL : Hid (mgAt ks es key (.mk ek en es9 eks ees) (k + 1) = .mk mk mn ms mks mes) := Lib.hid ((mgAt_miss HY.out hyk).trans HMK.out)
            clear hse hyk
            go_wp2_with fail
            go_quiet (fail)
            go_wp2_with fail
            go_roundg (ks.length - (k + 1))
            case measure => omega
            case rel => exact ⟨k + 1, _, by first | rfl | go_num, by omega, Nat.le_refl _, Lib.hid (HM2.out.next HS.out (below_drewN (Below.refl _ _) _)), Lib.hid (by rw [HREL.out]; exact HX2.out.next (fun b hb => Nat.lt_of_lt_of_le (HS.out b hb) hbw.size) (below_drewN (Below.refl _ _) _))⟩
        · have hkk : k = ks.length := by omega
          have HFX : Hid (mgX ks es key (.mk ek en es9 eks ees) = .mk mk mn ms mks mes) := Lib.hid (by rw [← mgAt_all, ← hkk]; exact HMK.out)
          rw [HFX.out] at HST
          have hnl : ¬ ((k : Int) < (ks.length : Int)) := by omega
          obtain ⟨q0, q1, q2, q3, q4⟩ := box5 HM2.out.vbox
          have HP : Hid (∀ W, Below wr.heap.size wr W → Calls Tryz.prog 176 #[.agg #[.int .i64 6, .int .i64 0, .string ⟨#[]⟩, .slice PA ((putL (ks.zip es) (zz.take i)).map Prod.fst).length pa, .slice PC ((putL (ks.zip es) (zz.take i)).map Prod.snd).length pc], .string key, .agg #[.int .i64 mk, .int .i64 mn, .string ms, .slice XA mks.length xa, .slice XC mes.length xc]] W _) := Lib.hid (fun W hW => put_open (put_any (fun b => S b ∨ (w.heap.size + 1 + 1 + 1 < b ∧ b < wr.heap.size)) (putL (ks.zip es) (zz.take i)) 6 0 ⟨#[]⟩ key (.mk mk mn ms mks mes) _ _ W (fun b hb => by have := hW.size; have := HM2.out.b3.below.size; rcases hb with h9 | h9; (· have := HS.out b h9; omega); omega) (HM2.out.lies.move fun b hb => ⟨hb.imp id fun h9 => ⟨h9.1, by have := HM2.out.le; omega⟩, hW.block b (by have := HM2.out.b3.below.size; have := HM2.out.le; rcases hb with h9 | h9; (· have := HS.out b h9; omega); omega)⟩) (HX2.out.lies.move fun b hb => ⟨hb.imp id fun h9 => ⟨by omega, h9.2⟩, hW.block b (by have := HM2.out.b3.below.size; rcases hb with h9 | h9; (· have := HS.out b h9; omega); exact h9.2)⟩) HPL.out HKS.out))
          rw [← HST.out] at HP
          generalize ((putL (ks.zip es) (zz.take i)).map Prod.fst).length = pn at *
          generalize ((putL (ks.zip es) (zz.take i)).map Prod.snd).length = pm at *
          go_wp2_with fail
          go_still_tail 7, (by kernel_rfl)
          change wpList _ _ _ _ _ wr.drew
          go_wp2_with fail
          refine (HP.out _ ((Below.refl _ _).drew)).mono ?_
          rintro e7 w7 ⟨hb7, rk, rn, rs, rks, res, RA, ra, RC, rc, rfl, hl7⟩
          have HB7 : Hid (Below wr.heap.size wr w7) := Lib.hid (below_of_drew hb7)
          have HL7 := Lib.hid hl7
          clear hb7 hl7 r0 r1 r2 r3 r4 x0 x1 x2 x3 x4 y0 y1 y2 y3 y4 hck HP q0 q1 q2 q3 q4
          have HBV := Lib.hid (HM2.out.vbox.below HB7.out HM2.out.vbox.lt)
          obtain ⟨q0, q1, q2, q3, q4⟩ := box5 HBV.out
          have f0 := HBV.out.free 0
          have f1 := HBV.out.free 1
          have f2 := HBV.out.free 2
          have f3 := HBV.out.free 3
          have f4 := HBV.out.free 4
          go_wp2_with fail
          go_roundg (ks2.length - (i + 1))
          case measure => omega
          case rel => exact ⟨i + 1, [.int .i64 rk, .int .i64 rn, .string rs, .slice RA rks.length ra, .slice RC res.length rc], w7.heap.size, by first | rfl | go_num, by omega, Nat.le_refl _, Lib.hid (HM2.out.put HS.out HB7.out HL7.out)⟩
    · have hii : zz.take i = zz := List.take_of_length_le (by omega)
      have HLM := HM.out.lies
      obtain ⟨pn, hpn⟩ : ∃ x, ((putL (ks.zip es) (zz.take i)).map Prod.fst).length = x := ⟨_, rfl⟩
      obtain ⟨pm, hpm⟩ : ∃ x, ((putL (ks.zip es) (zz.take i)).map Prod.snd).length = x := ⟨_, rfl⟩
      rw [hpn, hpm] at HLM
      rw [hii] at HLM
      have HLMH := Lib.hid HLM
      have hnl : ¬ ((i : Int) < (ks2.length : Int)) := by omega
      obtain ⟨q0, q1, q2, q3, q4⟩ := box5 HM.out.vbox
      rw [hpn] at q3
      rw [hpm] at q4
      clear hpn hpm
      obtain ⟨t0, t1, t2, t3, t4⟩ := box5 HM.out.b3.r
      have z0 := HM.out.b3.r.free 0
      have z1 := HM.out.b3.r.free 1
      have z2 := HM.out.b3.r.free 2
      have z3 := HM.out.b3.r.free 3
      have z4 := HM.out.b3.r.free 4
      have hge := HM.out.ge
      have hle := HM.out.le
      clear HLM hii
      go_wp2_with fail
      refine bodyPost_ret (v := .agg #[.int .i64 6, .int .i64 0, .string ⟨#[]⟩, .slice PA pn pa, .slice PC pm pc]) (by simp [results, Tryz.results123, go_sem, t0, t1, t2, t3, t4]) rfl ?_
      refine mg_put HM.out.b3.below (by omega) HM.out.b3.r.lt (HLMH.out.move fun b hb => ⟨?_, rfl⟩)
      rcases hb with h9 | h9
      · have := HS.out b h9
        exact ⟨.inl h9, by omega⟩
      · exact ⟨.inr ⟨by omega, by omega⟩, by omega⟩
end Go.Proofs.YtgdnkankleoaoaaGreatDoor
namespace Go.Proofs.YtgdnkankleoaoaaGreatDoor
open Go.RowKit Go.Sort Go.Lib
set_option maxHeartbeats 8000000 in
set_option maxRecDepth 100000 in
theorem radd_obj (ks ks2 : List ByteArray) (es es2 : List V) (cs ds : List Value) (w : World) (S : Nat → Prop) (hS : ∀ b, S b → b < w.heap.size) (h : Lies w S (.mk 6 0 ⟨#[]⟩ ks es) cs) (h' : Lies w S (.mk 6 0 ⟨#[]⟩ ks2 es2) ds) (hv : valid (.mk 6 0 ⟨#[]⟩ ks es) = true) (hu : valid (.mk 6 0 ⟨#[]⟩ ks2 es2) = true) :
    Calls Tryz.prog 116 #[.agg cs.toArray, .agg ds.toArray] w (RetT S (finV (objL (putL (ks.zip es) (ks2.zip es2)))) (finE (objL (putL (ks.zip es) (ks2.zip es2)))) w) := by
  have hlen := (valid_keys hv).2.1 rfl
  have hlen2 := (valid_keys hu).2.1 rfl
  have hk1 := (valid_keys hv).2.2.1
  have hk2 := (valid_keys hu).2.2.1
  have hself := obj_self hv hlen
  have hkz := (valid_keysok hu).2
  have hps0 : putL [] (ks.zip es) = ks.zip es := putL_nil_asc (show PAsc (ks.zip es) from prs_asc hv)
  rw [hps0] at hself
  obtain ⟨A, a, B, b, xs, rfl, _, _, _, _, hA, hB, hL⟩ := lies_open h
  obtain ⟨A2, a2, B2, b2, ys, rfl, _, _, _, _, hA2, hB2, hL2⟩ := lies_open h'
  obtain ⟨zz, hzz⟩ : ∃ z, ks2.zip es2 = z := ⟨_, rfl⟩
  have HZ : Hid (∀ (i : Nat) (key : ByteArray) (e : V), ks2[i]? = some key → es2[i]? = some e → zz[i]? = some (key, e)) := Lib.hid fun i key e hk he => by
    rw [← hzz, List.getElem?_zip_eq_some]
    exact ⟨hk, he⟩
  have hzl : zz.length = ks2.length := by rw [← hzz, List.length_zip]; omega
  rw [hzz]
  clear hzz
  have HA2 := Lib.hid hA2
  have HB2 := Lib.hid hB2
  have HL2 := Lib.hid hL2
  have HS := Lib.hid hS
  have HKZ := Lib.hid hkz
  have HB3 : Hid (∀ W : World, Calls Tryz.prog 121 #[.agg #[.int .i64 6, .int .i64 0, .string ⟨#[]⟩, .slice A ks.length a, .slice B es.length b], .agg #[.int .i64 6, .int .i64 0, .string ⟨#[]⟩, .slice A2 ks2.length a2, .slice B2 es2.length b2], .int .i64 3] W fun e w' => e = .returned (.bool false) ∧ Below W.heap.size W w') := Lib.hid fun W => rboth_is 3 _ _ false (by decide) _ _ _ _ A B A2 B2 _ a _ b _ a2 _ b2 W
  have HB4 : Hid (∀ W : World, Calls Tryz.prog 121 #[.agg #[.int .i64 6, .int .i64 0, .string ⟨#[]⟩, .slice A ks.length a, .slice B es.length b], .agg #[.int .i64 6, .int .i64 0, .string ⟨#[]⟩, .slice A2 ks2.length a2, .slice B2 es2.length b2], .int .i64 4] W fun e w' => e = .returned (.bool false) ∧ Below W.heap.size W w') := Lib.hid fun W => rboth_is 4 _ _ false (by decide) _ _ _ _ A B A2 B2 _ a _ b _ a2 _ b2 W
  have HB5 : Hid (∀ W : World, Calls Tryz.prog 121 #[.agg #[.int .i64 6, .int .i64 0, .string ⟨#[]⟩, .slice A ks.length a, .slice B es.length b], .agg #[.int .i64 6, .int .i64 0, .string ⟨#[]⟩, .slice A2 ks2.length a2, .slice B2 es2.length b2], .int .i64 5] W fun e w' => e = .returned (.bool false) ∧ Below W.heap.size W w') := Lib.hid fun W => rboth_is 5 _ _ false (by decide) _ _ _ _ A B A2 B2 _ a _ b _ a2 _ b2 W
  have HB6 : Hid (∀ W : World, Calls Tryz.prog 121 #[.agg #[.int .i64 6, .int .i64 0, .string ⟨#[]⟩, .slice A ks.length a, .slice B es.length b], .agg #[.int .i64 6, .int .i64 0, .string ⟨#[]⟩, .slice A2 ks2.length a2, .slice B2 es2.length b2], .int .i64 6] W fun e w' => e = .returned (.bool true) ∧ Below W.heap.size W w') := Lib.hid fun W => rboth_is 6 _ _ true (by decide) _ _ _ _ A B A2 B2 _ a _ b _ a2 _ b2 W
  have HLEN := Lib.hid hlen
  have HLEN2 := Lib.hid hlen2
  have HLV := Lib.hid h
  have HSELF := Lib.hid hself
  have H0 := Lib.hid (B3.start w #[.int .i64 6, .int .i64 0, .string ⟨#[]⟩, .slice A ks.length a, .slice B es.length b] #[.int .i64 6, .int .i64 0, .string ⟨#[]⟩, .slice A2 ks2.length a2, .slice B2 es2.length b2])
  clear hlen hlen2 hA hB hL hA2 hB2 hL2 hS hkz h h' hv hu hself hps0
  show Calls _ _ #[.agg #[.int .i64 6, .int .i64 0, .string ⟨#[]⟩, .slice A ks.length a, .slice B es.length b], .agg #[.int .i64 6, .int .i64 0, .string ⟨#[]⟩, .slice A2 ks2.length a2, .slice B2 es2.length b2]] w _
  go_enter Tryz.func116, Tryz.ntmps116
  go_wp2_with fail
  refine (HB3.out _).mono ?_
  rintro e1 w1 ⟨rfl, hb1⟩
  have H1 := Lib.hid (H0.out.next hb1)
  clear hb1
  obtain ⟨x0, x1, x2, x3, x4⟩ := box5 H1.out.x
  obtain ⟨y0, y1, y2, y3, y4⟩ := box5 H1.out.y
  go_wp2_with fail
  refine (HB4.out _).mono ?_
  rintro e2 w2 ⟨rfl, hb2⟩
  have H2 := Lib.hid (H1.out.next hb2)
  clear hb2
  clear x0 x1 x2 x3 x4 y0 y1 y2 y3 y4
  obtain ⟨x0, x1, x2, x3, x4⟩ := box5 H2.out.x
  obtain ⟨y0, y1, y2, y3, y4⟩ := box5 H2.out.y
  go_wp2_with fail
  refine (HB5.out _).mono ?_
  rintro e3 w3 ⟨rfl, hb3⟩
  have H3 := Lib.hid (H2.out.next hb3)
  clear hb3
  clear x0 x1 x2 x3 x4 y0 y1 y2 y3 y4
  obtain ⟨x0, x1, x2, x3, x4⟩ := box5 H3.out.x
  obtain ⟨y0, y1, y2, y3, y4⟩ := box5 H3.out.y
  go_wp2_with fail
  refine (HB6.out _).mono ?_
  rintro e4 w4 ⟨rfl, hb4⟩
  have H4 := Lib.hid (H3.out.next hb4)
  clear hb4
  clear x0 x1 x2 x3 x4 y0 y1 y2 y3 y4
  obtain ⟨x0, x1, x2, x3, x4⟩ := box5 H4.out.x
  obtain ⟨y0, y1, y2, y3, y4⟩ := box5 H4.out.y
  have HV0 : Hid (MgS w S w4.heap.size #[.int .i64 6, .int .i64 0, .string ⟨#[]⟩, .slice A ks.length a, .slice B es.length b] #[.int .i64 6, .int .i64 0, .string ⟨#[]⟩, .slice A2 ks2.length a2, .slice B2 es2.length b2] (objL (putL (ks.zip es) (zz.take 0))) [.int .i64 6, .int .i64 0, .string ⟨#[]⟩, .slice A ks.length a, .slice B es.length b] (w4.heap.size + 1) (w4.alloc (.cells #[.int .i64 6, .int .i64 0, .string ⟨#[]⟩, .slice A ks.length a, .slice B es.length b] 25))) := Lib.hid (by
    have hr := H4.out.r.lt
    refine ⟨H4.out.next (below1 _ _), by omega, Box.laid _ _ _, ?_, by simp, Nat.lt_succ_self _⟩
    rw [List.take_zero]
    show Lies _ _ (objL (ks.zip es)) _
    rw [HSELF.out]
    exact HLV.out.move fun b hb => ⟨.inl hb, (chain H4.out.below (below1 _ _)).block b (HS.out b hb)⟩)
  have hpw := H4.out.r.lt
  obtain ⟨p, hp⟩ : ∃ p, w4.heap.size = p := ⟨_, rfl⟩
  have HPE := Lib.hid hp
  rw [hp] at HV0
  clear hp
  go_wp2_with fail
  simp only [HPE.out]
  go_loopg [7] ks2.length (fun gg s7 wr => ∃ (i : Nat) (cs : List Value) (T : Nat), s7 = .int .i64 i ∧ i ≤ ks2.length ∧ ks2.length - i ≤ gg ∧ Hid (MgS w S p #[.int .i64 6, .int .i64 0, .string ⟨#[]⟩, .slice A ks.length a, .slice B es.length b] #[.int .i64 6, .int .i64 0, .string ⟨#[]⟩, .slice A2 ks2.length a2, .slice B2 es2.length b2] (objL (putL (ks.zip es) (zz.take i))) cs T wr))
  case atStart => exact ⟨0, _, _, rfl, Nat.zero_le _, by omega, HV0⟩
  case round =>
    clear HV0 x0 x1 x2 x3 x4 y0 y1 y2 y3 y4
    obtain ⟨i, cs, T, rfl, hin, hg, HM⟩ := hrel
    have hmk : objL (putL (ks.zip es) (zz.take i)) = .mk 6 0 ⟨#[]⟩ ((putL (ks.zip es) (zz.take i)).map Prod.fst) ((putL (ks.zip es) (zz.take i)).map Prod.snd) := rfl
    have hl9 := HM.out.lies
    rw [hmk] at hl9
    obtain ⟨PA, pa, PC, pc, pxs, rfl, _⟩ := lies_open hl9
    clear hl9
    have HPL : Hid ((putL (ks.zip es) (zz.take i)).length ≤ 1000000) := Lib.hid (by
      have h1 := putL_len (ks.zip es) (zz.take i)
      rw [List.length_zip, List.length_take] at h1
      omega)
    obtain ⟨y0, y1, y2, y3, y4⟩ := box5 HM.out.b3.y
    obtain ⟨q0, q1, q2, q3, q4⟩ := box5 HM.out.vbox
    have hbw := HM.out.b3.below
    by_cases hlt : i < ks2.length
    · obtain ⟨key, hkey⟩ : ∃ x, ks2[i]? = some x := ⟨_, List.getElem?_eq_getElem hlt⟩
      obtain ⟨e, he⟩ : ∃ e, es2[i]? = some e := ⟨_, List.getElem?_eq_getElem (by have := HLEN2.out; omega)⟩
      have HST := Lib.hid (putL_take (ps := ks.zip es) (HZ.out i key e hkey he))
      have HKS : Hid (key.size ≤ 140737488355328) := Lib.hid (by have := HKZ.out key (List.mem_of_getElem? hkey); omega)
      have hi0 : (0 : Int) ≤ (i : Int) := by omega
      have hil : (i : Int) < (ks2.length : Int) := by omega
      have hil2 : (i : Int) < (es2.length : Int) := by have := HLEN2.out; omega
      obtain ⟨ek, en, es9, eks, ees⟩ := e
      obtain ⟨bX, oX, EA, ea, EC, ec, rfl, hbX, hlX, c0, c1, c2, c3, c4⟩ := elem_open HB2.out HL2.out he
      obtain ⟨bK, oK, rfl, hbK, hcK⟩ := HA2.out.at_ (kv_at hkey)
      have hbXl := HS.out _ hbX
      have c0' := below_cell hbw hbXl c0
      have c1' := below_cell hbw hbXl c1
      have c2' := below_cell hbw hbXl c2
      have c3' := below_cell hbw hbXl c3
      have c4' := below_cell hbw hbXl c4
      have hck := below_cell hbw (HS.out _ hbK) hcK
      have HP : Hid (∀ W, Below wr.heap.size wr W → Calls Tryz.prog 176 #[.agg #[.int .i64 6, .int .i64 0, .string ⟨#[]⟩, .slice PA ((putL (ks.zip es) (zz.take i)).map Prod.fst).length pa, .slice PC ((putL (ks.zip es) (zz.take i)).map Prod.snd).length pc], .string key, .agg #[.int .i64 ek, .int .i64 en, .string es9, .slice EA eks.length ea, .slice EC ees.length ec]] W _) := Lib.hid (fun W hW => put_open (put_any (fun b => S b ∨ (p < b ∧ b < wr.heap.size)) (putL (ks.zip es) (zz.take i)) 6 0 ⟨#[]⟩ key (.mk ek en es9 eks ees) _ _ W (fun b hb => by have := hW.size; have := hbw.size; rcases hb with h9 | h9; (· have := HS.out b h9; omega); omega) (HM.out.lies.move fun b hb => ⟨hb.imp id fun h9 => ⟨h9.1, by have := HM.out.le; omega⟩, hW.block b (by have := hbw.size; have := HM.out.le; rcases hb with h9 | h9; (· have := HS.out b h9; omega); omega)⟩) (hlX.move fun b hb => ⟨.inl hb, (chain hbw hW).block b (HS.out b hb)⟩) HPL.out HKS.out))
      rw [← HST.out] at HP
      clear c0 c1 c2 c3 c4 hcK hbK hkey he hlX hbX
      generalize ((putL (ks.zip es) (zz.take i)).map Prod.fst).length = pn at *
      generalize ((putL (ks.zip es) (zz.take i)).map Prod.snd).length = pm at *
      go_wp2_with fail
      go_still_tail 11, (by kernel_rfl)
      change wpList _ _ _ _ _ wr.drew
      go_wp2_with fail
      refine (HP.out _ ((Below.refl _ _).drew)).mono ?_
      rintro e5 w5 ⟨hb5, rk, rn, rs, rks, res, RA, ra, RC, rc, rfl, hl5⟩
      have hb5' := below_of_drew hb5
      have HL5 := Lib.hid hl5
      have HB5 := Lib.hid hb5'
      have hbx5 := HM.out.vbox.below hb5' HM.out.vbox.lt
      have z0 := hbx5.free 0
      have z1 := hbx5.free 1
      have z2 := hbx5.free 2
      have z3 := hbx5.free 3
      have z4 := hbx5.free 4
      obtain ⟨t0, t1, t2, t3, t4⟩ := box5 hbx5
      clear hl5 hbx5 hb5 hb5' q0 q1 q2 q3 q4 y0 y1 y2 y3 y4 c0' c1' c2' c3' c4' hck HP
      go_wp2_with fail
      go_roundg (ks2.length - (i + 1))
      case measure => omega
      case rel => exact ⟨i + 1, _, _, by first | rfl | go_num, by omega, Nat.le_refl _, Lib.hid (HM.out.put HS.out HB5.out HL5.out)⟩
    · have hii : zz.take i = zz := List.take_of_length_le (by omega)
      have hge := HM.out.ge
      have hle := HM.out.le
      have hpg := HM.out.pge
      have HF := Lib.hid (retS_open (fit_any (fun b => S b ∨ (p < b ∧ b < T)) (objL (putL (ks.zip es) (zz.take i))) _ wr HM.out.lies (fun b hb => by have := hbw.size; rcases hb with h9 | h9; (· have := HS.out b h9; omega); omega)))
      obtain ⟨pn, hpn⟩ : ∃ x, ((putL (ks.zip es) (zz.take i)).map Prod.fst).length = x := ⟨_, rfl⟩
      obtain ⟨pm, hpm⟩ : ∃ x, ((putL (ks.zip es) (zz.take i)).map Prod.snd).length = x := ⟨_, rfl⟩
      rw [hpn, hpm, hii] at HF
      rw [hpn] at q3
      rw [hpm] at q4
      clear hpn hpm
      have hnl : ¬ ((i : Int) < (ks2.length : Int)) := by omega
      clear hii
      go_wp2_with fail
      refine HF.out.mono ?_
      rintro e6 w6 ⟨rk, rn, rs, rks, res, RA, ra, RC, rc, hrv, rfl, hb6, hl6⟩
      have H6 := Lib.hid (HM.out.b3.next hb6)
      have HL := Lib.hid hl6
      have hsb := hb6.size
      have hsw := HM.out.b3.r.lt
      clear hb6 hl6 hrv HF q0 q1 q2 q3 q4 y0 y1 y2 y3 y4
      obtain ⟨t0, t1, t2, t3, t4⟩ := box5 H6.out.r
      have z0 := H6.out.r.free 0
      have z1 := H6.out.r.free 1
      have z2 := H6.out.r.free 2
      have z3 := H6.out.r.free 3
      have z4 := H6.out.r.free 4
      go_wp2_with fail
      refine bodyPost_ret (v := .tuple #[.agg #[.int .i64 rk, .int .i64 rn, .string rs, .slice RA rks.length ra, .slice RC res.length rc], .int .i64 (finE (objL (putL (ks.zip es) zz)))]) (by simp [results, Tryz.results116, go_sem, t0, t1, t2, t3, t4]) rfl ?_
      refine retT_put H6.out.below (by omega) H6.out.r.lt (HL.out.move fun b hb => ⟨?_, rfl⟩)
      rcases hb with h9 | h9
      · have := HS.out b h9
        exact ⟨.inl h9, by omega⟩
      · exact ⟨.inr ⟨by omega, by omega⟩, by omega⟩
end Go.Proofs.YtgdnkankleoaoaaGreatDoor
namespace Go.Proofs.YtgdnkankleoaoaaGreatDoor
open Go.RowKit Go.Sort Go.Lib
set_option maxHeartbeats 8000000 in
set_option maxRecDepth 100000 in
theorem radd_arr (es es2 : List V) (xs ys : List Value) (n n2 : Int) (s s2 : ByteArray) (A B A2 B2 : Option Addr) (la a b la2 a2 b2 : Nat) (w : World) (S : Nat → Prop) (hS : ∀ b, S b → b < w.heap.size) (hR : Rs w S B xs) (hLx : LiesL w S es xs) (hR2 : Rs w S B2 ys) (hLy : LiesL w S es2 ys) (hn1 : es.length ≤ 100000) (hn2 : es2.length ≤ 100000) (hBn : B = none → b = 0) (hBn2 : B2 = none → b2 = 0) :
    Calls Tryz.prog 116 #[.agg #[.int .i64 5, .int .i64 n, .string s, .slice A la a, .slice B es.length b], .agg #[.int .i64 5, .int .i64 n2, .string s2, .slice A2 la2 a2, .slice B2 es2.length b2]] w (RetT S (finV (arrV (es ++ es2))) (finE (arrV (es ++ es2))) w) := by
  have HB3 : Hid (∀ W : World, Calls Tryz.prog 121 #[.agg #[.int .i64 5, .int .i64 n, .string s, .slice A la a, .slice B es.length b], .agg #[.int .i64 5, .int .i64 n2, .string s2, .slice A2 la2 a2, .slice B2 es2.length b2], .int .i64 3] W fun e w' => e = .returned (.bool false) ∧ Below W.heap.size W w') := Lib.hid fun W => rboth_is 3 _ _ false (by decide) n n2 s s2 A B A2 B2 la a es.length b la2 a2 es2.length b2 W
  have HB4 : Hid (∀ W : World, Calls Tryz.prog 121 #[.agg #[.int .i64 5, .int .i64 n, .string s, .slice A la a, .slice B es.length b], .agg #[.int .i64 5, .int .i64 n2, .string s2, .slice A2 la2 a2, .slice B2 es2.length b2], .int .i64 4] W fun e w' => e = .returned (.bool false) ∧ Below W.heap.size W w') := Lib.hid fun W => rboth_is 4 _ _ false (by decide) n n2 s s2 A B A2 B2 la a es.length b la2 a2 es2.length b2 W
  have HB5 : Hid (∀ W : World, Calls Tryz.prog 121 #[.agg #[.int .i64 5, .int .i64 n, .string s, .slice A la a, .slice B es.length b], .agg #[.int .i64 5, .int .i64 n2, .string s2, .slice A2 la2 a2, .slice B2 es2.length b2], .int .i64 5] W fun e w' => e = .returned (.bool true) ∧ Below W.heap.size W w') := Lib.hid fun W => rboth_is 5 _ _ true (by decide) n n2 s s2 A B A2 B2 la a es.length b la2 a2 es2.length b2 W
  obtain ⟨i0, hi, hz0, hz1, hz2⟩ := info_parts inf_value
  have HS := Lib.hid hS
  have HNB := Lib.hid hBn
  have HNB2 := Lib.hid hBn2
  have HXL := Lib.hid hLx.len
  have HYL := Lib.hid hLy.len
  have HO1 := Lib.hid (liesL_one hLx)
  have HO2 := Lib.hid (liesL_one hLy)
  have HRX : Hid (∀ X, Below w.heap.size w X → Rs X S B xs) := Lib.hid fun X hX => hR.move fun b hb => ⟨hb, hX.block b (hS b hb)⟩
  have HRY : Hid (∀ X, Below w.heap.size w X → Rs X S B2 ys) := Lib.hid fun X hX => hR2.move fun b hb => ⟨hb, hX.block b (hS b hb)⟩
  have HLS : Hid (∀ (T : Nat) (W : World) (C : Option Addr) (c : Nat), w.heap.size ≤ T → T ≤ W.heap.size → W.ownsRow T 25 5 (.slice C (es.length + es2.length) c) (es.length + es2.length) (xs ++ ys) → Below w.heap.size w W → Calls Tryz.prog 133 #[.slice C (es.length + es2.length) c] W (fun e w' => ∃ (D : Option Addr) (d : Nat), e = .returned (.agg #[.int .i64 5, .int .i64 0, .string ⟨#[]⟩, .slice none 0 0, .slice D (es.length + es2.length) d]) ∧ Below W.heap.size W w' ∧ Lies w' (fun b => S b ∨ (T ≤ b ∧ b < w'.heap.size)) (arrV (es ++ es2)) [.int .i64 5, .int .i64 0, .string ⟨#[]⟩, .slice none 0 0, .slice D (es.length + es2.length) d])) := Lib.hid fun T W C c hT hTW2 ho hW => by
    obtain ⟨C', c', he, hC, hcn, hcm, hRs⟩ := own_open ho
    cases he
    have h9 := list_any (fun b => S b ∨ (T ≤ b ∧ b < W.heap.size)) (es ++ es2) C c (xs ++ ys) W (hRs.move fun b hb => ⟨.inr ⟨hb.1, hb.2.1⟩, rfl⟩) ((hLx.move fun b hb => ⟨.inl hb, hW.block b (hS b hb)⟩).append (hLy.move fun b hb => ⟨.inl hb, hW.block b (hS b hb)⟩)) (fun b hb => by rcases hb with h | h; (· exact Nat.lt_of_lt_of_le (hS b h) hW.size); exact h.2) hC (by simp; omega)
    rw [List.length_append] at h9
    refine h9.mono fun e w' hp => ?_
    obtain ⟨hb, D, d, rfl, hl⟩ := hp
    have hTW : w.heap.size ≤ W.heap.size := hW.size
    rw [List.length_append] at hl
    exact ⟨D, d, by rw [List.length_append], hb, hl.move fun b hb' => ⟨by rcases hb' with (h | h) | h; (· exact .inl h); (· exact .inr ⟨h.1, Nat.lt_of_lt_of_le h.2 hb.size⟩); exact .inr ⟨Nat.le_trans hTW2 (Nat.le_of_lt h.1), h.2⟩, rfl⟩⟩
  have H0 := Lib.hid (B3.start w #[.int .i64 5, .int .i64 n, .string s, .slice A la a, .slice B es.length b] #[.int .i64 5, .int .i64 n2, .string s2, .slice A2 la2 a2, .slice B2 es2.length b2])
  clear hR hLx hR2 hLy hS hBn hBn2
  go_enter Tryz.func116, Tryz.ntmps116
  go_wp2_with fail
  refine (HB3.out _).mono ?_
  rintro e1 w1 ⟨rfl, hb1⟩
  have H1 := Lib.hid (H0.out.next hb1)
  clear hb1
  obtain ⟨x0, x1, x2, x3, x4⟩ := box5 H1.out.x
  obtain ⟨y0, y1, y2, y3, y4⟩ := box5 H1.out.y
  go_wp2_with fail
  refine (HB4.out _).mono ?_
  rintro e2 w2 ⟨rfl, hb2⟩
  have H2 := Lib.hid (H1.out.next hb2)
  clear hb2
  clear x0 x1 x2 x3 x4 y0 y1 y2 y3 y4
  obtain ⟨x0, x1, x2, x3, x4⟩ := box5 H2.out.x
  obtain ⟨y0, y1, y2, y3, y4⟩ := box5 H2.out.y
  go_wp2_with fail
  refine (HB5.out _).mono ?_
  rintro e3 w3 ⟨rfl, hb3⟩
  have H3 := Lib.hid (H2.out.next hb3)
  clear hb3
  clear x0 x1 x2 x3 x4 y0 y1 y2 y3 y4
  obtain ⟨x0, x1, x2, x3, x4⟩ := box5 H3.out.x
  obtain ⟨y0, y1, y2, y3, y4⟩ := box5 H3.out.y
  clear x0 x1 x2 x3 y0 y1 y2 y3 H0 H1 H2
  have hT3 : w.heap.size ≤ w3.heap.size := H3.out.below.size
  have keepS : Hid (∀ X, Below w3.heap.size w3 X → X.cell? ⟨w.heap.size, 4, none⟩ = some (.slice B es.length b) ∧ X.cell? ⟨w.heap.size + 1, 4, none⟩ = some (.slice B2 es2.length b2)) := Lib.hid fun X hX => by
    have h := H3.out.next hX
    exact ⟨(box5 h.x).2.2.2.2, (box5 h.y).2.2.2.2⟩
  have keep5 : Hid (∀ X, Below w3.heap.size w3 X → ∀ v0 v1 v2 v3 v4, (((((X.setCell ⟨w.heap.size + 1 + 1, 0, none⟩ v0).setCell ⟨w.heap.size + 1 + 1, 1, none⟩ v1).setCell ⟨w.heap.size + 1 + 1, 2, none⟩ v2).setCell ⟨w.heap.size + 1 + 1, 3, none⟩ v3).setCell ⟨w.heap.size + 1 + 1, 4, none⟩ v4).cell? ⟨w.heap.size, 4, none⟩ = some (.slice B es.length b) ∧ (((((X.setCell ⟨w.heap.size + 1 + 1, 0, none⟩ v0).setCell ⟨w.heap.size + 1 + 1, 1, none⟩ v1).setCell ⟨w.heap.size + 1 + 1, 2, none⟩ v2).setCell ⟨w.heap.size + 1 + 1, 3, none⟩ v3).setCell ⟨w.heap.size + 1 + 1, 4, none⟩ v4).cell? ⟨w.heap.size + 1, 4, none⟩ = some (.slice B2 es2.length b2)) := Lib.hid fun X hX v0 v1 v2 v3 v4 => by
    have h := H3.out.next hX
    have hx := ((((h.x.far (p := ⟨w.heap.size + 1 + 1, 0, none⟩) (show w.heap.size ≠ w.heap.size + 1 + 1 by omega) v0).far (p := ⟨w.heap.size + 1 + 1, 1, none⟩) (show w.heap.size ≠ w.heap.size + 1 + 1 by omega) v1).far (p := ⟨w.heap.size + 1 + 1, 2, none⟩) (show w.heap.size ≠ w.heap.size + 1 + 1 by omega) v2).far (p := ⟨w.heap.size + 1 + 1, 3, none⟩) (show w.heap.size ≠ w.heap.size + 1 + 1 by omega) v3).far (p := ⟨w.heap.size + 1 + 1, 4, none⟩) (show w.heap.size ≠ w.heap.size + 1 + 1 by omega) v4
    have hy := ((((h.y.far (p := ⟨w.heap.size + 1 + 1, 0, none⟩) (show w.heap.size + 1 ≠ w.heap.size + 1 + 1 by omega) v0).far (p := ⟨w.heap.size + 1 + 1, 1, none⟩) (show w.heap.size + 1 ≠ w.heap.size + 1 + 1 by omega) v1).far (p := ⟨w.heap.size + 1 + 1, 2, none⟩) (show w.heap.size + 1 ≠ w.heap.size + 1 + 1 by omega) v2).far (p := ⟨w.heap.size + 1 + 1, 3, none⟩) (show w.heap.size + 1 ≠ w.heap.size + 1 + 1 by omega) v3).far (p := ⟨w.heap.size + 1 + 1, 4, none⟩) (show w.heap.size + 1 ≠ w.heap.size + 1 + 1 by omega) v4
    exact ⟨(box5 hx).2.2.2.2, (box5 hy).2.2.2.2⟩
  have kA : Hid (Below w3.heap.size w3 (w3.alloc (.cells #[] 25)).drew) := Lib.hid (below_drew' (below1 _ _))
  have OA : Hid ((w3.alloc (.cells #[] 25)).drew.ownsRow w3.heap.size 25 5 (.slice (some ⟨w3.heap.size, 0, none⟩) 0 0) 0 []) := Lib.hid (empty_own w3 25 5)
  have hcat : Hid (es.length + es2.length ≤ 200000) := Lib.hid (by omega)
  go_wp2_with fail
  go_region_held3? (fun w' => w'.cell? ⟨w.heap.size, 4, none⟩ = some (.slice B es.length b) ∧ w'.cell? ⟨w.heap.size + 1, 4, none⟩ = some (.slice B2 es2.length b2)) (first | exact keepS.out _ hb7 | exact keep5.out _ hb7 _ _ _ _ _ | exact keepS.out _ hb6 | exact keepS.out _ hb5 | exact keepS.out _ hb4 | exact keepS.out _ kA.out | go_keep)
    (first
      | (refine step_append_rs _ rfl (.tmp 48) (.tmp 50) 23 (by rfl) w3.heap.size 25 i0 zeroVal 5 80 Tryz.underlying23 hi hz0 hz1 hz2 rfl (by omega) (.slice (some ⟨w3.heap.size, 0, none⟩) 0 0) 0 [] (by rfl) OA.out S B es.length b xs (by rfl) HXL.out (HRX.out _ (chain H3.out.below kA.out)) HNB.out HO1.out (by unfold maxLen; omega) (by omega) (by first | (simp; done) | (simp; omega)) ?_; intro v4 w4 hown4 hgr4; have hb4 := kA.out.grown hgr4 (by first | (simp; done) | (simp; omega)) (fun j hj => (OA.out.lt j hj).1); simp only [Nat.zero_add, List.nil_append] at hown4)
      | (refine step_append_rs _ rfl (.tmp 51) (.tmp 53) 23 (by rfl) w3.heap.size 25 i0 zeroVal 5 80 Tryz.underlying23 hi hz0 hz1 hz2 rfl (by omega) v4 es.length xs (by rfl) hown4 S B2 es2.length b2 ys (by rfl) HYL.out (HRY.out _ (chain H3.out.below hb4)) HNB2.out HO2.out (by unfold maxLen; omega) (by omega) hb4.size ?_; intro v5 w5 hown5 hgr5; have hb5 := hb4.grown hgr5 hb4.size (fun j hj => (hown4.lt j hj).1); obtain ⟨C5, c5, rfl, -⟩ := own_open hown5)
      | (go_at_call 133; (with_reducible refine (HLS.out w3.heap.size w5 C5 c5 hT3 hb5.size hown5 (chain H3.out.below hb5)).mono ?_); rintro e6 w6 ⟨D, d, rfl, hb6', hl6⟩; have hb6 := chain hb5 hb6')
      | (go_at_call 122; (with_reducible refine (retS_open (fit_any (fun b => S b ∨ (w3.heap.size ≤ b ∧ b < w6.heap.size)) (arrV (es ++ es2)) _ w6 hl6 (fun b hb => by have := hb6.size; rcases hb with h | h; (· have := HS.out b h; omega); exact h.2))).mono ?_); rintro e7 w7 ⟨rk, rn, rs, rks, res, RA, ra, RC, rc, hrv, rfl, hb7', hl7⟩; have hb7 := chain hb6 hb7'; obtain ⟨t0, t1, t2, t3, t4⟩ := box5 (H3.out.next hb7).r; have z0 := (H3.out.next hb7).r.free 0; have z1 := (H3.out.next hb7).r.free 1; have z2 := (H3.out.next hb7).r.free 2; have z3 := (H3.out.next hb7).r.free 3; have z4 := (H3.out.next hb7).r.free 4))
  have hr3 := H3.out.r.lt
  have hs6 := hb6.size
  have hs7 := hb7'.size
  have HL := Lib.hid hl7
  have H7 := Lib.hid (H3.out.next hb7)
  go_wp2_with fail
  refine bodyPost_ret (v := .tuple #[.agg #[.int .i64 rk, .int .i64 rn, .string rs, .slice RA rks.length ra, .slice RC res.length rc], .int .i64 (finE (arrV (es ++ es2)))]) (by simp [results, Tryz.results116, go_sem, t0, t1, t2, t3, t4]) rfl ?_
  refine retT_put H7.out.below (by omega) H7.out.r.lt (HL.out.move fun b hb => ⟨?_, rfl⟩)
  rcases hb with h9 | h9
  · have := HS.out b h9
    exact ⟨.inl h9, by omega⟩
  · exact ⟨.inr ⟨by omega, by omega⟩, by omega⟩
end Go.Proofs.YtgdnkankleoaoaaGreatDoor

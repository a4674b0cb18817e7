/- The JSON parser's Parse. text's parse at a string: jsonparse.Parse, the offset left out. Appends onto a row of bytes of the call's own, with where the new row lies. -/
import Derived.Test.YtfmpdcmedaiooaaGreatDoorU33
import Derived.Test.YtfmpdcmedaiooaaGreatDoorU01
import Derived.Maps.AppendAt
import Derived.Lib.AppendStr
import Derived.Lib.Hide
set_option linter.unusedVariables false
set_option linter.unusedSimpArgs false
namespace Go.Proofs.YtfmpdcmedaiooaaGreatDoor
open Go.RowKit Go.Sort
theorem okEl_all {s : ByteArray} {g : Nat} : ∀ n, OkEl s g n
  | 0 => by
    intro W x b σ v τ _ _ _ _ _ h
    rw [jelN] at h
    cases h
  | n + 1 => okEl_succ (array_any (okEl_all n)) (object_any (okEl_all n))
set_option maxHeartbeats 10000000 in
set_option maxRecDepth 100000 in
theorem jp_any {s : ByteArray} (hs : s.size ≤ 1048576) {v : V} {τ : JS} (hjp : jparse s.data.toList = some (v, τ)) (w : World) (hE : ErrIn w) : Calls Tryz.prog 81 #[.string s] w (fun e w' => Below w.heap.size w w' ∧ ∃ (k n : Int) (t : ByteArray) (A : Option Addr) (na ca : Nat) (B : Option Addr) (nb cb : Nat), e = .returned (.tuple #[.agg #[.int .i64 k, .int .i64 n, .string t, .slice A na ca, .slice B nb cb], .int .i64 τ.at_, .int .i64 τ.err]) ∧ (τ.err = 0 → Lies w' (Nw w.heap.size w'.heap.size) v [.int .i64 k, .int .i64 n, .string t, .slice A na ca, .slice B nb cb])) := by
  unfold jparse at hjp
  obtain ⟨v', σ2, hel, hend⟩ := jbnd_some hjp
  simp only [Option.some.injEq, Prod.mk.injEq] at hend
  obtain ⟨rfl, rfl⟩ := hend
  clear hjp
  have hJB : JB js0 := ⟨by decide, fun _ => by decide⟩
  have hlt := errIn_lt hE
  have HP : Hid (JAt s (w.heap.size + 1) ((w.alloc (.cells #[.int .i64 0, .int .i64 0, .string ⟨#[]⟩, .slice none 0 0, .slice none 0 0] 25)).alloc (.cells #[.string s, .int .i64 0, .int .i64 0, .int .i64 0, .int .i64 0, .int .i64 0] 130)) js0) := Lib.hid
    ⟨(laid2 w #[.int .i64 0, .int .i64 0, .string ⟨#[]⟩, .slice none 0 0, .slice none 0 0] #[.string s, .int .i64 0, .int .i64 0, .int .i64 0, .int .i64 0, .int .i64 0] 25 130).2, hs, hE.next (((Below.refl _ _).alloc (Nat.le_refl _) _).alloc (by simp) _), by omega, by decide, by decide, by decide⟩
  have HZ0 := Lib.hid (laid2 w #[.int .i64 0, .int .i64 0, .string ⟨#[]⟩, .slice none 0 0, .slice none 0 0] #[.string s, .int .i64 0, .int .i64 0, .int .i64 0, .int .i64 0, .int .i64 0] 25 130).1
  have HW0 := Lib.hid (((Below.refl w.heap.size w).alloc (Nat.le_refl _) (.cells #[.int .i64 0, .int .i64 0, .string ⟨#[]⟩, .slice none 0 0, .slice none 0 0] 25)).alloc (by simp) (.cells #[.string s, .int .i64 0, .int .i64 0, .int .i64 0, .int .i64 0, .int .i64 0] 130))
  have HN := Lib.hid (jnext_any HP.out)
  have hB1 := hJB.next (l := s.data.toList)
  have hT1 := (jnext_same (l := s.data.toList) js0).2.2.2.2
  have hK1 := jnextK (l := s.data.toList) js0
  generalize jnext s.data.toList js0 = X at HN hB1 hT1 hK1 hel
  obtain ⟨x, σ1⟩ := X
  dsimp only at HN hB1 hT1 hK1 hel
  have HEl := Lib.hid (fun W (h : JAt s (w.heap.size + 1) W σ1) => okEl_all (s := s) (g := w.heap.size + 1) _ W x 0 σ1 v' σ2 h hB1 hT1 hK1 (by decide) hel)
  clear hB1 hT1 hK1 hel hJB hlt
  go_enter Tryz.func81, Tryz.ntmps81
  go_wp2_with fail
  refine HN.out.mono ?_
  rintro e w1 ⟨rfl, hg1, hp1⟩
  have HG1 := Lib.hid hg1
  have HP1 := Lib.hid hp1
  clear hg1 hp1
  go_wp2_with fail
  refine (HEl.out _ HP1.out).mono ?_
  rintro e w2 ⟨c0, c1, c2, c3, c4, rfl, hg2, hp2, hl2⟩
  obtain ⟨k2, n2, t2, A2, na2, ca2, B2, nb2, cb2, rfl, rfl, rfl, rfl, rfl⟩ := lies_five hl2
  have HG2 := Lib.hid (HG1.out.trans hg2)
  have HP2 := Lib.hid hp2
  have HL2 := Lib.hid hl2
  have hs1 := HG1.out.size
  have hs2 := hg2.size
  have hs0 : w.heap.size + 2 ≤ w1.heap.size := by simpa using hs1
  clear hg2 hp2 hl2 hs1
  go_wp2_with fail
  refine (jend_any (HP2.out.alloc _)).mono ?_
  rintro e w3 ⟨rfl, hg3, hp3⟩
  have HV3 : Hid (Box w3 w2.heap.size 25 #[.int .i64 k2, .int .i64 n2, .string t2, .slice A2 na2 ca2, .slice B2 nb2 cb2]) := Lib.hid ((Box.laid w2 25 #[.int .i64 k2, .int .i64 n2, .string t2, .slice A2 na2 ca2, .slice B2 nb2 cb2]).gr hg3 (by omega))
  have HG3 := Lib.hid ((HG2.out.alloc (.cells #[.int .i64 k2, .int .i64 n2, .string t2, .slice A2 na2 ca2, .slice B2 nb2 cb2] 25)).trans hg3)
  have HP3 := Lib.hid hp3
  have HL3 : Hid (Lies w3 (Nw (w.heap.size + 2) w3.heap.size) v' [.int .i64 k2, .int .i64 n2, .string t2, .slice A2 na2 ca2, .slice B2 nb2 cb2]) := Lib.hid (HL2.out.move fun b hb => by
    have h1 := hb.1
    have h2 := hb.2
    have h3 := hg3.size
    simp at h3
    exact ⟨⟨by omega, by omega⟩, (hg3.block (by simp; omega) (by omega)).trans (Below.heap_alloc _ _ _ h2)⟩)
  clear hg3 hp3
  obtain ⟨y0, y1, y2, y3, y4⟩ := box5 HV3.out
  go_wp2_with fail
  refine (jresult_any k2 n2 t2 A2 B2 na2 ca2 nb2 cb2 HP3.out).mono ?_
  rintro e w4 ⟨rfl, hb4⟩
  have HB3 : Hid (Below w.heap.size w w3) := Lib.hid (HW0.out.grown HG3.out HW0.out.size (fun g' e => by injection e with e; omega))
  have HB4 := Lib.hid (chain HB3.out hb4)
  have HZ4 := Lib.hid ((HZ0.out.gr HG3.out (by omega)).below hb4 (HZ0.out.gr HG3.out (by omega)).lt)
  have HL4 := Lib.hid (HL3.out.move (S' := Nw (w.heap.size + 2) w4.heap.size) (w' := w4) fun b hb => ⟨⟨hb.1, Nat.lt_of_lt_of_le hb.2 hb4.size⟩, hb4.block b hb.2⟩)
  clear hb4 y0 y1 y2 y3 y4
  obtain ⟨t0, t1, t3, t4, t5⟩ := box5 HZ4.out
  obtain ⟨z0, z1, z2, z3, z4⟩ := free5 HZ4.out
  by_cases h0 : (jend s.data.toList σ2).err = 0
  · rw [if_pos h0]
    have H0 := Lib.hid h0
    rw [h0]
    clear h0
    go_wp2_with fail
    refine bodyPost_ret (v := .tuple #[.agg #[.int .i64 k2, .int .i64 n2, .string t2, .slice A2 na2 ca2, .slice B2 nb2 cb2], .int .i64 (jend s.data.toList σ2).at_, .int .i64 (0 : Nat)]) (by simp [results, Tryz.results81, go_sem, t0, t1, t3, t4, t5]) rfl ?_
    refine ⟨below_five HB4.out _ _ _ _ _, _, _, _, _, _, _, _, _, _, by rw [H0.out], fun _ => HL4.out.move fun b hb => ?_⟩
    rw [size5]
    exact ⟨⟨by have := hb.1; omega, hb.2⟩, heap5 _ _ _ _ _ _ _ b (by have := hb.1; omega)⟩
  · rw [if_neg h0]
    go_wp2_with fail
    refine bodyPost_ret (v := .tuple #[.agg #[.int .i64 0, .int .i64 0, .string ⟨#[]⟩, .slice none 0 0, .slice none 0 0], .int .i64 (jend s.data.toList σ2).at_, .int .i64 (jend s.data.toList σ2).err]) (by simp [results, Tryz.results81, go_sem, t0, t1, t3, t4, t5]) rfl ?_
    exact ⟨below_five HB4.out _ _ _ _ _, _, _, _, _, _, _, _, _, _, rfl, fun h => absurd h h0⟩
end Go.Proofs.YtfmpdcmedaiooaaGreatDoor
namespace Go.Proofs.YtfmpdcmedaiooaaGreatDoor
open Go.RowKit Go.Sort
set_option maxHeartbeats 10000000 in
set_option maxRecDepth 100000 in
theorem m_parse {s : ByteArray} (t : ByteArray) (hs : s.size ≤ 1048576) {v : V} {τ : JS} (hjp : jparse s.data.toList = some (v, τ)) (w : World) (hE : ErrIn w) : Calls Tryz.prog 52 #[.agg #[.string s, .string t]] w (fun e w' => Below w.heap.size w w' ∧ ∃ (k n : Int) (u : ByteArray) (A : Option Addr) (na ca : Nat) (B : Option Addr) (nb cb : Nat), e = .returned (.tuple #[.agg #[.int .i64 k, .int .i64 n, .string u, .slice A na ca, .slice B nb cb], .int .i64 τ.err]) ∧ (τ.err = 0 → Lies w' (Nw w.heap.size w'.heap.size) v [.int .i64 k, .int .i64 n, .string u, .slice A na ca, .slice B nb cb])) := by
  have HP := Lib.hid (fun W (hW : Below w.heap.size w W) => jp_any hs hjp W (hE.next hW))
  clear hE hjp
  go_enter Tryz.func52, Tryz.ntmps52
  go_wp2_with fail
  have HZ0 := Lib.hid (laid2 w #[.string s, .string t] #[.int .i64 0, .int .i64 0, .string ⟨#[]⟩, .slice none 0 0, .slice none 0 0] 65 25).2
  have HB0 := Lib.hid (((Below.refl w.heap.size w).alloc (Nat.le_refl _) (.cells #[.string s, .string t] 65)).alloc (by simp) (.cells #[.int .i64 0, .int .i64 0, .string ⟨#[]⟩, .slice none 0 0, .slice none 0 0] 25))
  refine (HP.out _ HB0.out).mono ?_
  rintro e w1 ⟨hb1, k, n, u, A, na, ca, B, nb, cb, rfl, hl⟩
  have HZ1 := Lib.hid (HZ0.out.below hb1 HZ0.out.lt)
  have HB1 := Lib.hid (chain HB0.out hb1)
  have HL := Lib.hid hl
  have hs1 : w.heap.size + 2 ≤ w1.heap.size := by have := hb1.size; simpa using this
  have hsz : ((w.alloc (.cells #[.string s, .string t] 65)).alloc (.cells #[.int .i64 0, .int .i64 0, .string ⟨#[]⟩, .slice none 0 0, .slice none 0 0] 25)).heap.size = w.heap.size + 2 := by simp
  have HZZ := Lib.hid hsz
  clear hb1 hl hsz
  have HZ2 := Lib.hid (HZ1.out.alloc (.cells #[.int .i64 k, .int .i64 n, .string u, .slice A na ca, .slice B nb cb] 25))
  obtain ⟨y0, y1, y2, y3, y4⟩ := box5 HZ1.out
  obtain ⟨z0, z1, z2, z3, z4⟩ := free5 HZ1.out
  obtain ⟨x0, x1, x2, x3, x4⟩ := box5 HZ2.out
  obtain ⟨f0, f1, f2, f3, f4⟩ := free5 HZ2.out
  have hne : ¬ w.heap.size + 1 = w1.heap.size := by omega
  go_wp2_with fail
  refine bodyPost_ret (v := .tuple #[.agg #[.int .i64 k, .int .i64 n, .string u, .slice A na ca, .slice B nb cb], .int .i64 τ.err]) (by simp [results, Tryz.results52, go_sem, x0, x1, x2, x3, x4, y0, y1, y2, y3, y4]) rfl ?_
  have HB2 := chain HB1.out (below1 w1 (.cells #[.int .i64 k, .int .i64 n, .string u, .slice A na ca, .slice B nb cb] 25))
  refine ⟨((((HB2.setCell (by simp) _).setCell (by simp) _).setCell (by simp) _).setCell (by simp) _).setCell (by simp) _, _, _, _, _, _, _, _, _, _, rfl, fun h0 => (HL.out h0).move fun b hb => ?_⟩
  have h1 := hb.1
  have h2 := hb.2
  rw [HZZ.out] at h1
  rw [size5]
  exact ⟨⟨by omega, by simp; omega⟩, (heap5 _ _ _ _ _ _ _ b (by omega)).trans (Below.heap_alloc _ _ _ h2)⟩
end Go.Proofs.YtfmpdcmedaiooaaGreatDoor
namespace Go.Proofs.YtfmpdcmedaiooaaGreatDoor
open Go.RowKit
/-- What an append onto the row of v leaves: the row of v and new blocks alone are turned, and the new row lies in v's block or in a new one. -/
structure App (w : World) (v : Value) (w' : World) (v' : Value) : Prop where
  grow : w.grownBy w' v.ownBlock
  far : ∀ g, v'.ownBlock = some g → v.ownBlock = some g ∨ w.heap.size ≤ g
theorem App.refl (w : World) (v : Value) : App w v w v := ⟨World.grownBy.refl w _, fun g h => .inl h⟩
theorem App.trans {w w1 w2 : World} {v v1 v2 : Value} (h : App w v w1 v1) (k : App w1 v1 w2 v2) : App w v w2 v2 := by
  have hs := h.grow.size
  refine ⟨⟨k.grow.os.trans h.grow.os, k.grow.tape.trans h.grow.tape, k.grow.output.trans h.grow.output, Nat.le_trans hs k.grow.size, fun i hi hn => (k.grow.block i (Nat.lt_of_lt_of_le hi hs) fun e => ?_).trans (h.grow.block i hi hn)⟩, fun g hg => ?_⟩
  · rcases h.far i e.symm with h1 | h1
    · exact hn h1.symm
    · omega
  · rcases k.far g hg with h1 | h1
    · exact h.far g h1
    · exact .inr (Nat.le_trans hs h1)
theorem App.below {w w' : World} {v v' : Value} {base : Nat} (h : App w v w' v') (hb : base ≤ w.heap.size) (hv : ∀ g, v.ownBlock = some g → base ≤ g) : Below base w w' := (Below.refl _ _).grown h.grow hb hv
theorem App.box {w w' : World} {v v' : Value} {g : Nat} {t : TypeId} {cs : Array Value} (h : App w v w' v') (hx : Box w g t cs) (hv : v.ownBlock ≠ some g) : Box w' g t cs := hx.grown h.grow (fun e => hv e.symm)
theorem App.off {w w' : World} {v v' : Value} {g : Nat} (h : App w v w' v') (hg : g < w.heap.size) (hv : v.ownBlock ≠ some g) : v'.ownBlock ≠ some g := fun e => by
  rcases h.far g e with h1 | h1
  · exact hv h1
  · omega
theorem App.pre {w w0 w' : World} {v v' : Value} (h : App w0 v w' v') (k : Below w.heap.size w w0) : App w v w' v' :=
  ⟨grown_trans (below_grown k _) h.grow, fun g hg => by
    rcases h.far g hg with h1 | h1
    · exact .inl h1
    · exact .inr (Nat.le_trans k.size h1)⟩
theorem App.post {w w' w2 : World} {v v' : Value} (h : App w v w' v') (k : Below w'.heap.size w' w2) : App w v w2 v' :=
  ⟨⟨k.os.trans h.grow.os, k.tape.trans h.grow.tape, k.output.trans h.grow.output, Nat.le_trans h.grow.size k.size, fun i hi hn => (k.block i (Nat.lt_of_lt_of_le hi h.grow.size)).trans (h.grow.block i hi hn)⟩, h.far⟩
section
variable {P : Program} (w : World)
theorem run_append_app_string (base : Nat) (t u ty e : TypeId) (i : TypeInfo) (ht : P.underlying t = some (.slice e)) (hu : P.underlying u = some .string) (hi : P.info? e = some i) (hz : i.zero = some (.int .u8 0))
    (hsize : i.size = 1) (hby : i.bytes = 1)
    (v : Value) (n : Nat) (xs : List Value) (hown : w.ownsRow base e 1 v n xs) (s : ByteArray)
    (h63 : n + s.size ≤ maxLen) (hbytes : n + s.size ≤ 140737488355328) (hbase : base ≤ w.heap.size) :
    ∃ v' w', (Builtin.append_ #[t, u] ty #[v, .string s]).run P w = .ok v' w' ∧ w'.ownsRow base e 1 v' (n + s.size) (xs ++ Lib.strCells s) ∧ App w v w' v' := by
  obtain ⟨v', w', hr, ho, hg, -⟩ := Lib.run_append_own_string (P := P) w base t u ty e i ht hu hi hz hsize hby v n xs hown s h63 hbytes hbase
  refine ⟨v', w', hr, ho, hg, ?_⟩
  have hxl : xs.length = n := by simpa using hown.1
  rcases hown.2 with ⟨rfl, rfl⟩ | ⟨g, cap, cur, rfl, hbg, hgg, hnc, hcm, hcs, htake⟩
  · have hx : xs = [] := List.eq_nil_of_length_eq_zero hxl
    subst hx
    obtain ⟨v2, w2, hr2, ho2, -, -⟩ := Lib.run_append_own_string (P := P) w w.heap.size t u ty e i ht hu hi hz hsize hby (.slice none 0 0) 0 [] (World.ownsRow_nil _ _ _ _) s h63 hbytes (Nat.le_refl _)
    rw [hr] at hr2
    injection hr2 with e1 e2
    subst e1 e2
    exact fun k hk => .inr (ho2.lt k hk).1
  · by_cases hroom : n + s.size ≤ cap
    · have hcs' : cur.size = cap := by simpa using hcs
      have hr2 := Lib.run_append_room_string (P := P) w t u ty e i ht hu hi hsize g n cap cur hgg s hroom (by omega)
      rw [hr] at hr2
      injection hr2 with e1 e2
      subst e1
      exact fun k hk => .inl hk
    · have hsmall : n + s.size ≤ 9223372036854775807 := by simp only [maxLen] at h63; omega
      have holds : ∀ j u, xs[j]? = some u → w.cell? ((⟨g, 0, none⟩ : Addr).add j) = some u := hown.cells (g := g) rfl
      have hr2 := Lib.run_append_grow_string (P := P) w t u ty e i (.int .u8 0) ht hu hi hz ⟨g, 0, none⟩ n cap xs (by rw [hsize]; simpa using hxl) holds s (by omega) (by omega) (by rw [hby]; exact growslice_fits (by omega) (by omega))
      rw [hr] at hr2
      injection hr2 with e1 e2
      subst e1
      intro k hk
      simp only [Value.ownBlock, Option.some.injEq] at hk
      exact .inr (by omega)
/-- append(v, s...), s a string, at the operation. -/
theorem wpList_app_string {ops : Array Oper} {rest : List Oper} {o : Oper} {a : Act} {Q : Exit → Act → World → Prop} (hgd : o.guard = none) (sl x : Operand) (t u : TypeId)
    (ho : o.op = .call { callee := .builtin .append, args := #[sl, x], argTypes := #[t, u] })
    (base : Nat) (e : TypeId) (i : TypeInfo) (ht : P.underlying t = some (.slice e)) (hu : P.underlying u = some .string) (hi : P.info? e = some i) (hz : i.zero = some (.int .u8 0))
    (hsize : i.size = 1) (hby : i.bytes = 1)
    (v : Value) (n : Nat) (xs : List Value) (hs : a.eval sl = v) (hown : w.ownsRow base e 1 v n xs) (s : ByteArray) (hx : a.eval x = .string s)
    (hlim : n + s.size ≤ 1073741824) (hbase : base ≤ w.heap.size) (m : Nat) (ys : List Value) (hm : s.size = m) (hys : Lib.strCells s = ys)
    (h : ∀ A c w', w'.ownsRow base e 1 (.slice A (n + m) c) (n + m) (xs ++ ys) → App w v w' (.slice A (n + m) c) → wpList P ops Q rest (a.put o.dst (.slice A (n + m) c)) w') : wpList P ops Q (o :: rest) a w := by
  subst hm hys
  refine wpList_plain hgd fun K hK => ?_
  obtain ⟨v', w', hr, h2, h3⟩ := run_append_app_string (P := P) w base t u o.type e i ht hu hi hz hsize hby v n xs hown s (by unfold maxLen; omega) (by omega) hbase
  obtain ⟨A, c, rfl, -, -⟩ := own_slice h2
  unfold Oper.wp execOp
  simp only [ho, resolve, invoke, builtin, Sem.run_bind, Sem.run_pure, Result.andThen_ok, List.map_toArray, List.map_cons, List.map_nil, hs, hx, hr]
  exact hK _ _ (h A c w' h2 h3)
theorem wp_app_cells {o : Oper} {a : Act} {K : Act → World → Prop} {Q : Exit → Act → World → Prop} (s x : Operand) (t : TypeId)
    (ho : o.op = .call { callee := .builtin .append, args := #[s, x], argTypes := #[t, t] })
    (base : Nat) (e : TypeId) (i : TypeInfo) (z : Value) (ht : P.underlying t = some (.slice e)) (hi : P.info? e = some i) (hz : i.zero = some z)
    (hsize : i.size = 1) (hby : i.bytes = 1) (hzs : z.cells.size = 1)
    (v : Value) (n : Nat) (xs : List Value) (hs : a.eval s = v) (hown : w.ownsRow base e 1 v n xs)
    (ad : Addr) (k c : Nat) (news : List Value) (hx : a.eval x = .slice (some ad) k c) (hl : news.length = k) (hnews : ∀ j u, news[j]? = some u → w.cell? (ad.add j) = some u)
    (hlim : n + k ≤ 1073741824) (hbase : base ≤ w.heap.size) (ys : List Value) (hys : news = ys) (h1 : ∀ u ∈ ys, u.oneCell' = true)
    (h : ∀ A c w', w'.ownsRow base e 1 (.slice A (n + k) c) (n + k) (xs ++ ys) → App w v w' (.slice A (n + k) c) → K (a.put o.dst (.slice A (n + k) c)) w') : o.wp P a w K Q := by
  subst hys
  obtain ⟨v', w', hr, h2, h3, -, h5⟩ := run_append_own_at (P := P) w base t o.type e i z 1 1 ht hi hz hsize hby hzs (by decide) v n xs hown ad k c news (by omega) hnews h1 (by unfold maxLen; omega) (by omega) hbase
  obtain ⟨A, c, rfl, -, -⟩ := own_slice h2
  unfold Oper.wp execOp
  simp only [ho, resolve, invoke, builtin, Sem.run_bind, Sem.run_pure, Result.andThen_ok, List.map_toArray, List.map_cons, List.map_nil, hs, hx, hr]
  refine h A c w' h2 ⟨h3, fun g hg => ?_⟩
  rcases h5 with h5 | h5
  · exact .inl (h5.symm.trans hg)
  · rw [h5] at hg
    injection hg with hg
    exact .inr (by omega)
/-- append(v, x..), the x laid in a block of their own, at the operation. -/
theorem wpList_app_cells {ops : Array Oper} {rest : List Oper} {o : Oper} {a : Act} {Q : Exit → Act → World → Prop} (hgd : o.guard = none) (s x : Operand) (t : TypeId)
    (ho : o.op = .call { callee := .builtin .append, args := #[s, x], argTypes := #[t, t] })
    (base : Nat) (e : TypeId) (i : TypeInfo) (z : Value) (ht : P.underlying t = some (.slice e)) (hi : P.info? e = some i) (hz : i.zero = some z)
    (hsize : i.size = 1) (hby : i.bytes = 1) (hzs : z.cells.size = 1)
    (v : Value) (n : Nat) (xs : List Value) (hs : a.eval s = v) (hown : w.ownsRow base e 1 v n xs)
    (ad : Addr) (k c : Nat) (news : List Value) (hx : a.eval x = .slice (some ad) k c) (hl : news.length = k) (hnews : ∀ j u, news[j]? = some u → w.cell? (ad.add j) = some u)
    (hlim : n + k ≤ 1073741824) (hbase : base ≤ w.heap.size) (ys : List Value) (hys : news = ys) (h1 : ∀ u ∈ ys, u.oneCell' = true)
    (h : ∀ A c w', w'.ownsRow base e 1 (.slice A (n + k) c) (n + k) (xs ++ ys) → App w v w' (.slice A (n + k) c) → wpList P ops Q rest (a.put o.dst (.slice A (n + k) c)) w') : wpList P ops Q (o :: rest) a w :=
  wpList_plain hgd fun K hK => wp_app_cells w s x t ho base e i z ht hi hz hsize hby hzs v n xs hs hown ad k c news hx hl hnews hlim hbase ys hys h1 fun A c w' h2 h3 => hK _ _ (h A c w' h2 h3)
end
end Go.Proofs.YtfmpdcmedaiooaaGreatDoor

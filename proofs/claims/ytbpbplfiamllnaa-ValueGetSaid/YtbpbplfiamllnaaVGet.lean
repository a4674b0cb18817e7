/- ValueGet answers true for every value and every key. -/
import Derived.Test.YtbpbplfiamllnaaRGet
import Derived.Test.YtbpbplfiamllnaaSmall
set_option linter.unusedVariables false
set_option linter.unusedSimpArgs false
namespace Go.Proofs.Ytbpbplfiamllnaa
open Go.RowKit Go.Sort
/-- What Get hands back, written out. -/
theorem get_open {f : FuncId} {args : Array Value} {w : World} {o : Option V} (h : Calls Try.prog f args w (GetPost o w)) :
    Calls Try.prog f args w fun e w' => ∃ (k n : Int) (s : ByteArray) (ks : List ByteArray) (es : List V) (A : Option Addr) (a : Nat) (C : Option Addr) (c : Nat), e = .returned (.tuple #[.agg #[.int .i64 k, .int .i64 n, .string s, .slice A ks.length a, .slice C es.length c], .bool o.isSome]) ∧ Below w.heap.size w w' ∧
      Lies w' (· < w'.heap.size) (o.getD vnull) [.int .i64 k, .int .i64 n, .string s, .slice A ks.length a, .slice C es.length c] := by
  refine h.mono fun e w' hp => ?_
  obtain ⟨hb, ds, rfl, hl⟩ := hp
  generalize hv : o.getD vnull = v at hl
  obtain ⟨k, n, s, ks, es⟩ := v
  have hl2 := hl
  rw [Lies] at hl2
  obtain ⟨_, A, a, C, c, ys, rfl, _⟩ := hl2
  exact ⟨k, n, s, ks, es, A, a, C, c, rfl, hb, hl⟩
set_option maxHeartbeats 2000000 in
set_option maxRecDepth 100000 in
theorem valueGet_walk (v : V) (key : ByteArray) (cs : List Value) (w : World) (h : Lies w (· < w.heap.size) v cs) : Calls Try.prog 6 #[.agg cs.toArray, .string key] w fun e w' => e = .returned (.bool true) ∧ Below w.heap.size w w' := by
  have haw := Lib.hid (fun W => awake_any W)
  have HL := Lib.hid h
  have HG := Lib.hid (fun W (hW : Below w.heap.size w W) => get_open (get_any v key cs W (below_lies hW h)))
  have HR := Lib.hid (fun W (hW : Below w.heap.size w W) => get_open (rget_any v key cs W (below_lies hW h)))
  generalize (getP v key).isSome = bs at HG HR
  generalize (getP v key).getD vnull = X at HG HR
  obtain ⟨k, n, s, ks, es⟩ := v
  obtain ⟨A, a, B, b, xs, rfl, _⟩ := lies_open h
  clear h
  show Calls _ _ #[.agg #[.int .i64 k, .int .i64 n, .string s, .slice A ks.length a, .slice B es.length b], .string key] w _
  have hsm := Lib.hid (small_any 200 [.mk k n s ks es] (some ⟨w.heap.size + 1, 0, none⟩) 1 [.int .i64 k, .int .i64 n, .string s, .slice A ks.length a, .slice B es.length b]
    ((w.alloc (.cells #[.int .i64 k, .int .i64 n, .string s, .slice A ks.length a, .slice B es.length b] 25)).alloc (.cells #[.int .i64 k, .int .i64 n, .string s, .slice A ks.length a, .slice B es.length b] 25))
    (one_row (below_lies (((Below.refl _ _).alloc (Nat.le_refl _) _).alloc (by simp) _) HL.out) (by
      have := Box.laid (w.alloc (.cells #[.int .i64 k, .int .i64 n, .string s, .slice A ks.length a, .slice B es.length b] 25)) 25 #[.int .i64 k, .int .i64 n, .string s, .slice A ks.length a, .slice B es.length b]
      simpa using this)) (by simp) (by omega) (by omega))
  generalize smallP 200 [.mk k n s ks es] = x at hsm
  have hX0 := Lib.hid ((Box.laid w 25 #[.int .i64 k, .int .i64 n, .string s, .slice A ks.length a, .slice B es.length b]).alloc (.cells #[.int .i64 k, .int .i64 n, .string s, .slice A ks.length a, .slice B es.length b] 25))
  by_cases hkl : key.size ≤ 50
  · have hkd : decide ((50 : Int) < (key.size : Int)) = false := by simp; omega
    go_enter Try.func6, Try.ntmps6
    go_wp2_with fail
    refine hsm.out.mono ?_
    rintro e1 w1 ⟨rfl, hb1⟩
    have hB1 := Lib.hid (chain (((Below.refl w.heap.size w).alloc (Nat.le_refl _) (.cells #[.int .i64 k, .int .i64 n, .string s, .slice A ks.length a, .slice B es.length b] 25)).alloc (by simp) (.cells #[.int .i64 k, .int .i64 n, .string s, .slice A ks.length a, .slice B es.length b] 25)) hb1)
    have hX1 := Lib.hid (hX0.out.below hb1 hX0.out.lt)
    clear hsm hb1 hX0
    cases x with
    | false =>
      go_wp2_with fail
      refine (haw.out _).mono ?_
      rintro e2 w2 ⟨rfl, hb2⟩
      go_wp2_with fail
      go_ret
      exact ⟨rfl, chain hB1.out hb2⟩
    | true =>
      obtain ⟨t0, t1, t2, t3, t4⟩ := box5 hX1.out
      go_wp2_with fail
      refine (HG.out _ hB1.out).mono ?_
      rintro e2 w2 ⟨k2, n2, s2, ks2, es2, A2, a2, C2, c2, rfl, hb2, hl2⟩
      have hB2 := Lib.hid (chain hB1.out hb2)
      have hX2 := Lib.hid (hX1.out.below hb2 hX1.out.lt)
      have HL2 := Lib.hid hl2
      clear t0 t1 t2 t3 t4 hl2 hb2
      obtain ⟨o2, ho2⟩ : ∃ O, O = Obj.cells #[.int .i64 k2, .int .i64 n2, .string s2, .slice A2 ks2.length a2, .slice C2 es2.length c2] 25 := ⟨_, rfl⟩
      have hX3 := Lib.hid (hX2.out.alloc o2)
      have hY3 : Hid (Box (w2.alloc o2) w2.heap.size 25 #[.int .i64 k2, .int .i64 n2, .string s2, .slice A2 ks2.length a2, .slice C2 es2.length c2]) := Lib.hid (by rw [ho2]; exact Box.laid _ _ _)
      have hB3 := Lib.hid (chain hB2.out (below1 w2 o2))
      have HL3 := Lib.hid (below_lies (below1 w2 o2) HL2.out)
      obtain ⟨t0, t1, t2, t3, t4⟩ := box5 hX3.out
      rw [ho2] at t0 t1 t2 t3 t4
      go_wp2_with fail
      rw [← ho2]
      refine (HR.out _ hB3.out).mono ?_
      rintro e3 w3 ⟨k3, n3, s3, ks3, es3, A3, a3, C3, c3, rfl, hb3, hl3⟩
      have hB4 := Lib.hid (chain hB3.out hb3)
      have hY4 := Lib.hid (hY3.out.below hb3 hY3.out.lt)
      have HL4 := Lib.hid (below_lies hb3 HL3.out)
      have HM4 := Lib.hid hl3
      clear t0 t1 t2 t3 t4 hl3 hb3 ho2
      obtain ⟨o3, ho3⟩ : ∃ O, O = Obj.cells #[.int .i64 k3, .int .i64 n3, .string s3, .slice A3 ks3.length a3, .slice C3 es3.length c3] 25 := ⟨_, rfl⟩
      obtain ⟨w4, hw4⟩ : ∃ W, W = w3.alloc o3 := ⟨_, rfl⟩
      have hY5 : Hid (Box w4 w2.heap.size 25 #[.int .i64 k2, .int .i64 n2, .string s2, .slice A2 ks2.length a2, .slice C2 es2.length c2]) := Lib.hid (by rw [hw4]; exact hY4.out.alloc o3)
      have hZ5 : Hid (Box w4 w3.heap.size 25 #[.int .i64 k3, .int .i64 n3, .string s3, .slice A3 ks3.length a3, .slice C3 es3.length c3]) := Lib.hid (by rw [hw4, ho3]; exact Box.laid _ _ _)
      have hb34 : Below w3.heap.size w3 w4 := by rw [hw4]; exact below1 _ _
      have hB5 := Lib.hid (chain hB4.out hb34)
      have HL5 := Lib.hid (below_lies hb34 HL4.out)
      have HM5 := Lib.hid (below_lies hb34 HM4.out)
      clear hb34
      have HSA := Lib.hid (by
        have := same_any X X _ _ w4 HL5.out HM5.out
        rw [(same_iff X X).2 rfl] at this
        exact this)
      obtain ⟨r0, r1, r2, r3, r4⟩ := box5 hY5.out
      obtain ⟨p0, p1, p2, p3, p4⟩ := box5 hZ5.out
      rw [hw4, ho3] at r0 r1 r2 r3 r4 p0 p1 p2 p3 p4
      cases bs
      all_goals
        go_wp2_with fail
        rw [← ho3, ← hw4]
        refine HSA.out.mono ?_
        rintro e5 w5 ⟨rfl, hb5⟩
        clear r0 r1 r2 r3 r4 p0 p1 p2 p3 p4
        go_wp2_with fail
        refine (haw.out _).mono ?_
        rintro e6 w6 ⟨rfl, hb6⟩
        go_wp2_with fail
        go_ret
        exact ⟨rfl, chain hB5.out (chain hb5 hb6)⟩
  · have hkd : decide ((50 : Int) < (key.size : Int)) = true := by simp; omega
    go_enter Try.func6, Try.ntmps6
    go_wp2_with fail
    refine hsm.out.mono ?_
    rintro e1 w1 ⟨rfl, hb1⟩
    have hB1 := Lib.hid (chain (((Below.refl w.heap.size w).alloc (Nat.le_refl _) (.cells #[.int .i64 k, .int .i64 n, .string s, .slice A ks.length a, .slice B es.length b] 25)).alloc (by simp) (.cells #[.int .i64 k, .int .i64 n, .string s, .slice A ks.length a, .slice B es.length b] 25)) hb1)
    clear hsm hb1 hX0
    cases x
    all_goals
      go_wp2_with fail
      refine (haw.out _).mono ?_
      rintro e2 w2 ⟨rfl, hb2⟩
      go_wp2_with fail
      go_ret
      exact ⟨rfl, chain hB1.out hb2⟩
end Go.Proofs.Ytbpbplfiamllnaa

/- The reference of layer 6: add. The reference of layer 6: sub. The reference of layer 6: mul. The reference of layer 6: div. -/
import Derived.Test.YtgdnkankleoaoaaGreatDoorB1
import Derived.Test.YtgdnkankleoaoaaGreatDoorA43
import Derived.Test.YtgdnkankleoaoaaGreatDoorA20
import Derived.Test.YtgdnkankleoaoaaGreatDoorA16
import Derived.StillTailTactics
import Derived.Deep.QuietTactic
import Derived.Deep.LoopGhost
import Derived.Test.YtgdnkankleoaoaaGreatDoorA36
import Derived.Test.YtgdnkankleoaoaaGreatDoorRm
set_option linter.unusedVariables false
set_option linter.unusedSimpArgs false
namespace Go.Proofs.YtgdnkankleoaoaaGreatDoor
open Go.RowKit Go.Sort Go.Lib
set_option maxHeartbeats 4000000 in
set_option maxRecDepth 100000 in
theorem radd_left (u : V) (k2 : Int) (n n2 : Int) (s s2 : ByteArray) (A B A2 B2 : Option Addr) (la a lb b la2 a2 lb2 b2 : Nat) (w : World) (S : Nat → Prop) (hS : ∀ b, S b → b < w.heap.size) (h' : Lies w S u [.int .i64 k2, .int .i64 n2, .string s2, .slice A2 la2 a2, .slice B2 lb2 b2]) :
    Calls Tryz.prog 116 #[.agg #[.int .i64 0, .int .i64 n, .string s, .slice A la a, .slice B lb b], .agg #[.int .i64 k2, .int .i64 n2, .string s2, .slice A2 la2 a2, .slice B2 lb2 b2]] w (RetT S u 0 w) := by
  go_enter Tryz.func116, Tryz.ntmps116
  go_wp2_with fail
  refine bodyPost_ret (v := .tuple #[.agg #[.int .i64 k2, .int .i64 n2, .string s2, .slice A2 la2 a2, .slice B2 lb2 b2], .int .i64 0]) (by simp [results, Tryz.results116, go_sem]) rfl ?_
  have hB := chain (chain (below1 w (.cells #[.int .i64 0, .int .i64 n, .string s, .slice A la a, .slice B lb b] 25)) (below1 _ (.cells #[.int .i64 k2, .int .i64 n2, .string s2, .slice A2 la2 a2, .slice B2 lb2 b2] 25))) (below1 _ (.cells #[.int .i64 k2, .int .i64 n2, .string s2, .slice A2 la2 a2, .slice B2 lb2 b2] 25))
  exact ⟨hB, _, rfl, h'.move fun b hb => ⟨.inl hb, hB.block b (hS b hb)⟩⟩
set_option maxHeartbeats 4000000 in
set_option maxRecDepth 100000 in
theorem radd_right (v : V) (k : Int) (hk : ¬ k = 0) (n n2 : Int) (s s2 : ByteArray) (A B A2 B2 : Option Addr) (la a lb b la2 a2 lb2 b2 : Nat) (w : World) (S : Nat → Prop) (hS : ∀ b, S b → b < w.heap.size) (h : Lies w S v [.int .i64 k, .int .i64 n, .string s, .slice A la a, .slice B lb b]) :
    Calls Tryz.prog 116 #[.agg #[.int .i64 k, .int .i64 n, .string s, .slice A la a, .slice B lb b], .agg #[.int .i64 0, .int .i64 n2, .string s2, .slice A2 la2 a2, .slice B2 lb2 b2]] w (RetT S v 0 w) := by
  have hk0 : (k == 0) = false := by simpa using hk
  go_enter Tryz.func116, Tryz.ntmps116
  go_wp2_with fail
  refine bodyPost_ret (v := .tuple #[.agg #[.int .i64 k, .int .i64 n, .string s, .slice A la a, .slice B lb b], .int .i64 0]) (by simp [results, Tryz.results116, go_sem]) rfl ?_
  have hB := chain (chain (below1 w (.cells #[.int .i64 k, .int .i64 n, .string s, .slice A la a, .slice B lb b] 25)) (below1 _ (.cells #[.int .i64 0, .int .i64 n2, .string s2, .slice A2 la2 a2, .slice B2 lb2 b2] 25))) (below1 _ (.cells #[.int .i64 k, .int .i64 n, .string s, .slice A la a, .slice B lb b] 25))
  exact ⟨hB, _, rfl, h.move fun b hb => ⟨.inl hb, hB.block b (hS b hb)⟩⟩
set_option maxHeartbeats 4000000 in
set_option maxRecDepth 100000 in
theorem radd_num (n n2 : Int) (s s2 : ByteArray) (A B A2 B2 : Option Addr) (la a lb b la2 a2 lb2 b2 : Nat) (w : World) (S : Nat → Prop) (hS : ∀ b, S b → b < w.heap.size) :
    Calls Tryz.prog 116 #[.agg #[.int .i64 3, .int .i64 n, .string s, .slice A la a, .slice B lb b], .agg #[.int .i64 3, .int .i64 n2, .string s2, .slice A2 la2 a2, .slice B2 lb2 b2]] w (RetT S (numV (wrap64 (n + n2))) 0 w) := by
  rw [← w64_add]
  have HB3 : Hid (∀ W : World, Calls Tryz.prog 121 #[.agg #[.int .i64 3, .int .i64 n, .string s, .slice A la a, .slice B lb b], .agg #[.int .i64 3, .int .i64 n2, .string s2, .slice A2 la2 a2, .slice B2 lb2 b2], .int .i64 3] W fun e w' => e = .returned (.bool true) ∧ Below W.heap.size W w') := Lib.hid fun W => rboth_is 3 _ _ true (by decide) n n2 s s2 A B A2 B2 la a lb b la2 a2 lb2 b2 W
  have HN := Lib.hid (fun (n : Int) W => rnum_any n W)
  have H0 := Lib.hid (B3.start w #[.int .i64 3, .int .i64 n, .string s, .slice A la a, .slice B lb b] #[.int .i64 3, .int .i64 n2, .string s2, .slice A2 la2 a2, .slice B2 lb2 b2])
  go_enter Tryz.func116, Tryz.ntmps116
  go_wp2_with fail
  refine (HB3.out _).mono ?_
  rintro e1 w1 ⟨rfl, hb1⟩
  have H1 := Lib.hid (H0.out.next hb1)
  clear hb1
  obtain ⟨x0, x1, x2, x3, x4⟩ := box5 H1.out.x
  obtain ⟨y0, y1, y2, y3, y4⟩ := box5 H1.out.y
  go_wp2_with fail
  refine (HN.out _ _).mono ?_
  rintro e2 w2 ⟨rfl, hb2⟩
  have H2 := Lib.hid (H1.out.next hb2)
  clear hb2
  clear x0 x1 x2 x3 x4 y0 y1 y2 y3 y4
  obtain ⟨t0, t1, t2, t3, t4⟩ := box5 H2.out.r
  have z0 := H2.out.r.free 0
  have z1 := H2.out.r.free 1
  have z2 := H2.out.r.free 2
  have z3 := H2.out.r.free 3
  have z4 := H2.out.r.free 4
  go_wp2_with fail
  refine bodyPost_ret (v := .tuple #[.agg #[.int .i64 3, .int .i64 (wrap64 (IntKind.u64.wrap (IntKind.u64.wrap n + IntKind.u64.wrap n2))), .string ⟨#[]⟩, .slice none 0 0, .slice none 0 0], .int .i64 0]) (by simp [results, Tryz.results116, go_sem, t0, t1, t2, t3, t4]) rfl ?_
  exact retT_put H2.out.below (by omega) H2.out.r.lt (lies_numv _ _ _)
set_option maxHeartbeats 4000000 in
set_option maxRecDepth 100000 in
theorem radd_str (n n2 : Int) (s s2 : ByteArray) (A B A2 B2 : Option Addr) (la a lb b la2 a2 lb2 b2 : Nat) (w : World) (S : Nat → Prop) (hS : ∀ b, S b → b < w.heap.size) (hs1 : s.size ≤ 4096) (hs2 : s2.size ≤ 4096) :
    Calls Tryz.prog 116 #[.agg #[.int .i64 4, .int .i64 n, .string s, .slice A la a, .slice B lb b], .agg #[.int .i64 4, .int .i64 n2, .string s2, .slice A2 la2 a2, .slice B2 lb2 b2]] w (RetT S (finV (strV (s ++ s2))) (finE (strV (s ++ s2))) w) := by
  have HB3 : Hid (∀ W : World, Calls Tryz.prog 121 #[.agg #[.int .i64 4, .int .i64 n, .string s, .slice A la a, .slice B lb b], .agg #[.int .i64 4, .int .i64 n2, .string s2, .slice A2 la2 a2, .slice B2 lb2 b2], .int .i64 3] W fun e w' => e = .returned (.bool false) ∧ Below W.heap.size W w') := Lib.hid fun W => rboth_is 3 _ _ false (by decide) n n2 s s2 A B A2 B2 la a lb b la2 a2 lb2 b2 W
  have HB4 : Hid (∀ W : World, Calls Tryz.prog 121 #[.agg #[.int .i64 4, .int .i64 n, .string s, .slice A la a, .slice B lb b], .agg #[.int .i64 4, .int .i64 n2, .string s2, .slice A2 la2 a2, .slice B2 lb2 b2], .int .i64 4] W fun e w' => e = .returned (.bool true) ∧ Below W.heap.size W w') := Lib.hid fun W => rboth_is 4 _ _ true (by decide) n n2 s s2 A B A2 B2 la a lb b la2 a2 lb2 b2 W
  have hz : ¬ (s.size + s2.size > 9223372036854775807) := by omega
  have HTX := Lib.hid (fun (s : ByteArray) W => rtext_any s W)
  obtain ⟨T, hT⟩ : ∃ T, T = s ++ s2 := ⟨_, rfl⟩
  rw [← hT]
  have hsz : T.size ≤ 140737488355328 := by rw [hT, ByteArray.size_append]; omega
  have HT := Lib.hid hT
  clear hT
  have H0 := Lib.hid (B3.start w #[.int .i64 4, .int .i64 n, .string s, .slice A la a, .slice B lb b] #[.int .i64 4, .int .i64 n2, .string s2, .slice A2 la2 a2, .slice B2 lb2 b2])
  go_enter Tryz.func116, Tryz.ntmps116
  go_wp2_with fail
  refine (HB3.out _).mono ?_
  rintro e1 w1 ⟨rfl, hb1⟩
  have H1 := Lib.hid (H0.out.next hb1)
  clear hb1
  obtain ⟨x0, x1, x2, x3, x4⟩ := box5 H1.out.x
  obtain ⟨y0, y1, y2, y3, y4⟩ := box5 H1.out.y
  go_wp2_with fail
  refine (HB4.out _).mono ?_
  rintro e2 w2 ⟨rfl, hb2⟩
  have H2 := Lib.hid (H1.out.next hb2)
  clear hb2
  clear x0 x1 x2 x3 x4 y0 y1 y2 y3 y4
  obtain ⟨x0, x1, x2, x3, x4⟩ := box5 H2.out.x
  obtain ⟨y0, y1, y2, y3, y4⟩ := box5 H2.out.y
  go_wp2_with fail
  rw [← HT.out]
  refine (HTX.out _ _).mono ?_
  rintro e3 w3 ⟨rfl, hb3⟩
  have H3 := Lib.hid (H2.out.next hb3)
  clear hb3
  clear x0 x1 x2 x3 x4 y0 y1 y2 y3 y4
  have HF := Lib.hid (retS_open (fit_any (fun _ => False) (strV T) _ w3 (lies_strT w3 (fun _ => False) T hsz) (fun _ h => absurd h id)))
  go_wp2_with fail
  refine HF.out.mono ?_
  rintro e4 w4 ⟨rk, rn, rs, rks, res, RA, ra, RC, rc, hrv, rfl, hb4, hl4⟩
  have H4 := Lib.hid (H3.out.next hb4)
  have HL := Lib.hid hl4
  clear hb4 hl4 hrv HF
  obtain ⟨t0, t1, t2, t3, t4⟩ := box5 H4.out.r
  have z0 := H4.out.r.free 0
  have z1 := H4.out.r.free 1
  have z2 := H4.out.r.free 2
  have z3 := H4.out.r.free 3
  have z4 := H4.out.r.free 4
  go_wp2_with fail
  refine bodyPost_ret (v := .tuple #[.agg #[.int .i64 rk, .int .i64 rn, .string rs, .slice RA rks.length ra, .slice RC res.length rc], .int .i64 (finE (strV T))]) (by simp [results, Tryz.results116, go_sem, t0, t1, t2, t3, t4]) rfl ?_
  exact retT_put H4.out.below (by omega) H4.out.r.lt (HL.out.move fun b hb => absurd hb id)
set_option maxHeartbeats 4000000 in
set_option maxRecDepth 100000 in
theorem radd_type (k k2 : Int) (hk : ¬ k = 0) (hk2 : ¬ k2 = 0) (hne : ∀ c : Int, c = 3 ∨ c = 4 ∨ c = 5 ∨ c = 6 → ¬ (k = c ∧ k2 = c)) (n n2 : Int) (s s2 : ByteArray) (A B A2 B2 : Option Addr) (la a lb b la2 a2 lb2 b2 : Nat) (w : World) (S : Nat → Prop) :
    Calls Tryz.prog 116 #[.agg #[.int .i64 k, .int .i64 n, .string s, .slice A la a, .slice B lb b], .agg #[.int .i64 k2, .int .i64 n2, .string s2, .slice A2 la2 a2, .slice B2 lb2 b2]] w (RetT S vnull 12 w) := by
  have hk0 : (k == 0) = false := by simpa using hk
  have hk20 : (k2 == 0) = false := by simpa using hk2
  have q3 : ((k == 3) && (k2 == 3)) = false := by have := hne 3 (by omega); simpa using this
  have HB3 : Hid (∀ W : World, Calls Tryz.prog 121 #[.agg #[.int .i64 k, .int .i64 n, .string s, .slice A la a, .slice B lb b], .agg #[.int .i64 k2, .int .i64 n2, .string s2, .slice A2 la2 a2, .slice B2 lb2 b2], .int .i64 3] W fun e w' => e = .returned (.bool false) ∧ Below W.heap.size W w') := Lib.hid fun W => rboth_is 3 _ _ false q3 n n2 s s2 A B A2 B2 la a lb b la2 a2 lb2 b2 W
  have q4 : ((k == 4) && (k2 == 4)) = false := by have := hne 4 (by omega); simpa using this
  have HB4 : Hid (∀ W : World, Calls Tryz.prog 121 #[.agg #[.int .i64 k, .int .i64 n, .string s, .slice A la a, .slice B lb b], .agg #[.int .i64 k2, .int .i64 n2, .string s2, .slice A2 la2 a2, .slice B2 lb2 b2], .int .i64 4] W fun e w' => e = .returned (.bool false) ∧ Below W.heap.size W w') := Lib.hid fun W => rboth_is 4 _ _ false q4 n n2 s s2 A B A2 B2 la a lb b la2 a2 lb2 b2 W
  have q5 : ((k == 5) && (k2 == 5)) = false := by have := hne 5 (by omega); simpa using this
  have HB5 : Hid (∀ W : World, Calls Tryz.prog 121 #[.agg #[.int .i64 k, .int .i64 n, .string s, .slice A la a, .slice B lb b], .agg #[.int .i64 k2, .int .i64 n2, .string s2, .slice A2 la2 a2, .slice B2 lb2 b2], .int .i64 5] W fun e w' => e = .returned (.bool false) ∧ Below W.heap.size W w') := Lib.hid fun W => rboth_is 5 _ _ false q5 n n2 s s2 A B A2 B2 la a lb b la2 a2 lb2 b2 W
  have q6 : ((k == 6) && (k2 == 6)) = false := by have := hne 6 (by omega); simpa using this
  have HB6 : Hid (∀ W : World, Calls Tryz.prog 121 #[.agg #[.int .i64 k, .int .i64 n, .string s, .slice A la a, .slice B lb b], .agg #[.int .i64 k2, .int .i64 n2, .string s2, .slice A2 la2 a2, .slice B2 lb2 b2], .int .i64 6] W fun e w' => e = .returned (.bool false) ∧ Below W.heap.size W w') := Lib.hid fun W => rboth_is 6 _ _ false q6 n n2 s s2 A B A2 B2 la a lb b la2 a2 lb2 b2 W
  clear q3 q4 q5 q6 hne
  have H0 := Lib.hid (B3.start w #[.int .i64 k, .int .i64 n, .string s, .slice A la a, .slice B lb b] #[.int .i64 k2, .int .i64 n2, .string s2, .slice A2 la2 a2, .slice B2 lb2 b2])
  go_enter Tryz.func116, Tryz.ntmps116
  go_wp2_with fail
  refine (HB3.out _).mono ?_
  rintro e1 w1 ⟨rfl, hb1⟩
  have H1 := Lib.hid (H0.out.next hb1)
  clear hb1
  obtain ⟨x0, x1, x2, x3, x4⟩ := box5 H1.out.x
  obtain ⟨y0, y1, y2, y3, y4⟩ := box5 H1.out.y
  go_wp2_with fail
  refine (HB4.out _).mono ?_
  rintro e2 w2 ⟨rfl, hb2⟩
  have H2 := Lib.hid (H1.out.next hb2)
  clear hb2
  clear x0 x1 x2 x3 x4 y0 y1 y2 y3 y4
  obtain ⟨x0, x1, x2, x3, x4⟩ := box5 H2.out.x
  obtain ⟨y0, y1, y2, y3, y4⟩ := box5 H2.out.y
  go_wp2_with fail
  refine (HB5.out _).mono ?_
  rintro e3 w3 ⟨rfl, hb3⟩
  have H3 := Lib.hid (H2.out.next hb3)
  clear hb3
  clear x0 x1 x2 x3 x4 y0 y1 y2 y3 y4
  obtain ⟨x0, x1, x2, x3, x4⟩ := box5 H3.out.x
  obtain ⟨y0, y1, y2, y3, y4⟩ := box5 H3.out.y
  go_wp2_with fail
  refine (HB6.out _).mono ?_
  rintro e4 w4 ⟨rfl, hb4⟩
  have H4 := Lib.hid (H3.out.next hb4)
  clear hb4
  clear x0 x1 x2 x3 x4 y0 y1 y2 y3 y4
  obtain ⟨x0, x1, x2, x3, x4⟩ := box5 H4.out.x
  obtain ⟨y0, y1, y2, y3, y4⟩ := box5 H4.out.y
  clear x0 x1 x2 x3 x4 y0 y1 y2 y3 y4
  obtain ⟨t0, t1, t2, t3, t4⟩ := box5 H4.out.r
  have z0 := H4.out.r.free 0
  have z1 := H4.out.r.free 1
  have z2 := H4.out.r.free 2
  have z3 := H4.out.r.free 3
  have z4 := H4.out.r.free 4
  go_wp2_with fail
  refine bodyPost_ret (v := .tuple #[.agg #[.int .i64 0, .int .i64 0, .string ⟨#[]⟩, .slice none 0 0, .slice none 0 0], .int .i64 12]) (by simp [results, Tryz.results116, go_sem, t0, t1, t2, t3, t4]) rfl ?_
  exact retT_put H4.out.below (by omega) H4.out.r.lt (lies_null _ _)
end Go.Proofs.YtgdnkankleoaoaaGreatDoor
namespace Go.Proofs.YtgdnkankleoaoaaGreatDoor
open Go.RowKit Go.Sort Go.Lib
set_option maxHeartbeats 4000000 in
set_option maxRecDepth 100000 in
theorem rorder_any (v u : V) (cs ds : List Value) (w : World) (h : Lies w (· < w.heap.size) v cs) (h' : Lies w (· < w.heap.size) u ds) : Calls Tryz.prog 114 #[.agg cs.toArray, .agg ds.toArray] w fun e w' => e = .returned (.int .i64 (vcmp v u)) ∧ Below w.heap.size w w' := by
  have HO := Lib.hid (fun W (hW : Below w.heap.size w W) => order_any v u cs ds W (below_lies hW h) (below_lies hW h'))
  generalize vcmp v u = q at HO ⊢
  obtain ⟨k, n, s, ks, es⟩ := v
  obtain ⟨A, a, B, b, xs, rfl, _⟩ := lies_open h
  obtain ⟨k2, n2, s2, ks2, es2⟩ := u
  obtain ⟨A2, a2, B2, b2, xs2, rfl, _⟩ := lies_open h'
  clear h h'
  generalize ks.length = l1 at *
  generalize es.length = l2 at *
  generalize ks2.length = l3 at *
  generalize es2.length = l4 at *
  have HB := Lib.hid (below2 w (.cells #[.int .i64 k, .int .i64 n, .string s, .slice A l1 a, .slice B l2 b] 25) (.cells #[.int .i64 k2, .int .i64 n2, .string s2, .slice A2 l3 a2, .slice B2 l4 b2] 25))
  show Calls _ _ #[.agg #[.int .i64 k, .int .i64 n, .string s, .slice A l1 a, .slice B l2 b], .agg #[.int .i64 k2, .int .i64 n2, .string s2, .slice A2 l3 a2, .slice B2 l4 b2]] w _
  go_enter Tryz.func114, Tryz.ntmps114
  go_wp2_with fail
  refine (HO.out _ HB.out).mono ?_
  rintro e1 w1 ⟨rfl, hb1⟩
  have HB1 := Lib.hid (chain HB.out hb1)
  clear hb1
  go_wp2_with fail
  go_ret
  exact ⟨rfl, HB1.out⟩
/-- Whether an element is equal to none of the others. -/
def kept (l : List V) (x : V) : Bool := !(l.any fun u => decide (vcmp x u = 0))
theorem kept_nil (x : V) : kept [] x = true := rfl
theorem kpt_step {l : List V} {k : Nat} {u : V} (h : l[k]? = some u) (x : V) : kept (l.take (k + 1)) x = (kept (l.take k) x && (vcmp x u != 0)) := by
  unfold kept
  rw [List.take_add_one, h, List.any_append]
  simp
  cases h9 : decide (vcmp x u = 0) <;> simp_all
theorem filt_step {es gs : List V} {i : Nat} {x : V} (h : es[i]? = some x) : (es.take (i + 1)).filter (kept gs) = (es.take i).filter (kept gs) ++ (if kept gs x = true then [x] else []) := by
  rw [List.take_add_one, h, List.filter_append]
  congr 1
  cases h9 : kept gs x <;> simp [h9]
theorem filt_len (es gs : List V) (i : Nat) : ((es.take i).filter (kept gs)).length ≤ i := by
  have h1 := List.length_filter_le (kept gs) (es.take i)
  have h2 := List.length_take (i := i) (l := es)
  omega
theorem minus_kept (es gs : List V) : minus es gs = es.filter (kept gs) := by
  unfold minus kept
  congr 1
  funext v
  congr 2
  funext u
  have h1 := vcmp_anti v u
  have h2 := vcmp_anti u v
  congr 1
  simp only [eq_iff_iff]
  omega
theorem b3_grown {w W W' : World} {cs ds : Array Value} {row : Option Nat} (h : B3 w cs ds W) (hg : W.grownBy W' row) (hr : ∀ j, row = some j → w.heap.size + 3 ≤ j) : B3 w cs ds W' := by
  have hx := h.x.lt
  have hy := h.y.lt
  have hz := h.r.lt
  refine ⟨h.below.grown hg (by have := h.below.size; omega) (fun j hj => by have := hr j hj; omega), ?_, ?_, ?_⟩
  · exact h.x.grown hg (fun e => by have := hr _ e.symm; omega)
  · exact h.y.grown hg (fun e => by have := hr _ e.symm; omega)
  · exact h.r.grown hg (fun e => by have := hr _ e.symm; omega)
set_option maxHeartbeats 4000000 in
set_option maxRecDepth 100000 in
theorem rsub_num (n n2 : Int) (s s2 : ByteArray) (A B A2 B2 : Option Addr) (la a lb b la2 a2 lb2 b2 : Nat) (w : World) (S : Nat → Prop) (hS : ∀ b, S b → b < w.heap.size) :
    Calls Tryz.prog 117 #[.agg #[.int .i64 3, .int .i64 n, .string s, .slice A la a, .slice B lb b], .agg #[.int .i64 3, .int .i64 n2, .string s2, .slice A2 la2 a2, .slice B2 lb2 b2]] w (RetT S (numV (wrap64 (n - n2))) 0 w) := by
  rw [← w64_sub]
  have HB3 : Hid (∀ W : World, Calls Tryz.prog 121 #[.agg #[.int .i64 3, .int .i64 n, .string s, .slice A la a, .slice B lb b], .agg #[.int .i64 3, .int .i64 n2, .string s2, .slice A2 la2 a2, .slice B2 lb2 b2], .int .i64 3] W fun e w' => e = .returned (.bool true) ∧ Below W.heap.size W w') := Lib.hid fun W => rboth_is 3 _ _ true (by decide) n n2 s s2 A B A2 B2 la a lb b la2 a2 lb2 b2 W
  have HN := Lib.hid (fun (n : Int) W => rnum_any n W)
  have H0 := Lib.hid (B3.start w #[.int .i64 3, .int .i64 n, .string s, .slice A la a, .slice B lb b] #[.int .i64 3, .int .i64 n2, .string s2, .slice A2 la2 a2, .slice B2 lb2 b2])
  go_enter Tryz.func117, Tryz.ntmps117
  go_wp2_with fail
  refine (HB3.out _).mono ?_
  rintro e1 w1 ⟨rfl, hb1⟩
  have H1 := Lib.hid (H0.out.next hb1)
  clear hb1
  obtain ⟨x0, x1, x2, x3, x4⟩ := box5 H1.out.x
  obtain ⟨y0, y1, y2, y3, y4⟩ := box5 H1.out.y
  go_wp2_with fail
  refine (HN.out _ _).mono ?_
  rintro e2 w2 ⟨rfl, hb2⟩
  have H2 := Lib.hid (H1.out.next hb2)
  clear hb2
  clear x0 x1 x2 x3 x4 y0 y1 y2 y3 y4
  obtain ⟨t0, t1, t2, t3, t4⟩ := box5 H2.out.r
  have z0 := H2.out.r.free 0
  have z1 := H2.out.r.free 1
  have z2 := H2.out.r.free 2
  have z3 := H2.out.r.free 3
  have z4 := H2.out.r.free 4
  go_wp2_with fail
  refine bodyPost_ret (v := .tuple #[.agg #[.int .i64 3, .int .i64 (wrap64 (IntKind.u64.wrap (IntKind.u64.wrap n - IntKind.u64.wrap n2))), .string ⟨#[]⟩, .slice none 0 0, .slice none 0 0], .int .i64 0]) (by simp [results, Tryz.results117, go_sem, t0, t1, t2, t3, t4]) rfl ?_
  exact retT_put H2.out.below (by omega) H2.out.r.lt (lies_numv _ _ _)
set_option maxHeartbeats 4000000 in
set_option maxRecDepth 100000 in
theorem rsub_type (k k2 : Int) (hne : ∀ c : Int, c = 3 ∨ c = 5 → ¬ (k = c ∧ k2 = c)) (n n2 : Int) (s s2 : ByteArray) (A B A2 B2 : Option Addr) (la a lb b la2 a2 lb2 b2 : Nat) (w : World) (S : Nat → Prop) :
    Calls Tryz.prog 117 #[.agg #[.int .i64 k, .int .i64 n, .string s, .slice A la a, .slice B lb b], .agg #[.int .i64 k2, .int .i64 n2, .string s2, .slice A2 la2 a2, .slice B2 lb2 b2]] w (RetT S vnull 12 w) := by
  have q3 : ((k == 3) && (k2 == 3)) = false := by have := hne 3 (by omega); simpa using this
  have HB3 : Hid (∀ W : World, Calls Tryz.prog 121 #[.agg #[.int .i64 k, .int .i64 n, .string s, .slice A la a, .slice B lb b], .agg #[.int .i64 k2, .int .i64 n2, .string s2, .slice A2 la2 a2, .slice B2 lb2 b2], .int .i64 3] W fun e w' => e = .returned (.bool false) ∧ Below W.heap.size W w') := Lib.hid fun W => rboth_is 3 _ _ false q3 n n2 s s2 A B A2 B2 la a lb b la2 a2 lb2 b2 W
  have q5 : ((k == 5) && (k2 == 5)) = false := by have := hne 5 (by omega); simpa using this
  have HB5 : Hid (∀ W : World, Calls Tryz.prog 121 #[.agg #[.int .i64 k, .int .i64 n, .string s, .slice A la a, .slice B lb b], .agg #[.int .i64 k2, .int .i64 n2, .string s2, .slice A2 la2 a2, .slice B2 lb2 b2], .int .i64 5] W fun e w' => e = .returned (.bool false) ∧ Below W.heap.size W w') := Lib.hid fun W => rboth_is 5 _ _ false q5 n n2 s s2 A B A2 B2 la a lb b la2 a2 lb2 b2 W
  clear q3 q5 hne
  have H0 := Lib.hid (B3.start w #[.int .i64 k, .int .i64 n, .string s, .slice A la a, .slice B lb b] #[.int .i64 k2, .int .i64 n2, .string s2, .slice A2 la2 a2, .slice B2 lb2 b2])
  go_enter Tryz.func117, Tryz.ntmps117
  go_wp2_with fail
  refine (HB3.out _).mono ?_
  rintro e1 w1 ⟨rfl, hb1⟩
  have H1 := Lib.hid (H0.out.next hb1)
  clear hb1
  obtain ⟨x0, x1, x2, x3, x4⟩ := box5 H1.out.x
  obtain ⟨y0, y1, y2, y3, y4⟩ := box5 H1.out.y
  go_wp2_with fail
  refine (HB5.out _).mono ?_
  rintro e2 w2 ⟨rfl, hb2⟩
  have H2 := Lib.hid (H1.out.next hb2)
  clear hb2
  clear x0 x1 x2 x3 x4 y0 y1 y2 y3 y4
  obtain ⟨x0, x1, x2, x3, x4⟩ := box5 H2.out.x
  obtain ⟨y0, y1, y2, y3, y4⟩ := box5 H2.out.y
  clear x0 x1 x2 x3 x4 y0 y1 y2 y3 y4
  obtain ⟨t0, t1, t2, t3, t4⟩ := box5 H2.out.r
  have z0 := H2.out.r.free 0
  have z1 := H2.out.r.free 1
  have z2 := H2.out.r.free 2
  have z3 := H2.out.r.free 3
  have z4 := H2.out.r.free 4
  go_wp2_with fail
  refine bodyPost_ret (v := .tuple #[.agg #[.int .i64 0, .int .i64 0, .string ⟨#[]⟩, .slice none 0 0, .slice none 0 0], .int .i64 12]) (by simp [results, Tryz.results117, go_sem, t0, t1, t2, t3, t4]) rfl ?_
  exact retT_put H2.out.below (by omega) H2.out.r.lt (lies_null _ _)
set_option maxHeartbeats 8000000 in
set_option maxRecDepth 100000 in
theorem rsub_arr (es es2 : List V) (xs ys : List Value) (n n2 : Int) (s s2 : ByteArray) (A B A2 B2 : Option Addr) (la a b la2 a2 b2 : Nat) (w : World) (S : Nat → Prop) (hS : ∀ b, S b → b < w.heap.size) (hR : Rs w S B xs) (hLx : LiesL w S es xs) (hR2 : Rs w S B2 ys) (hLy : LiesL w S es2 ys) (hn1 : es.length ≤ 1000000) (hn2 : es2.length ≤ 1000000) :
    Calls Tryz.prog 117 #[.agg #[.int .i64 5, .int .i64 n, .string s, .slice A la a, .slice B es.length b], .agg #[.int .i64 5, .int .i64 n2, .string s2, .slice A2 la2 a2, .slice B2 es2.length b2]] w (RetT S (arrV (es.filter (kept es2))) 0 w) := by
  have HB3 : Hid (∀ W : World, Calls Tryz.prog 121 #[.agg #[.int .i64 5, .int .i64 n, .string s, .slice A la a, .slice B es.length b], .agg #[.int .i64 5, .int .i64 n2, .string s2, .slice A2 la2 a2, .slice B2 es2.length b2], .int .i64 3] W fun e w' => e = .returned (.bool false) ∧ Below W.heap.size W w') := Lib.hid fun W => rboth_is 3 _ _ false (by decide) n n2 s s2 A B A2 B2 la a es.length b la2 a2 es2.length b2 W
  have HB5 : Hid (∀ W : World, Calls Tryz.prog 121 #[.agg #[.int .i64 5, .int .i64 n, .string s, .slice A la a, .slice B es.length b], .agg #[.int .i64 5, .int .i64 n2, .string s2, .slice A2 la2 a2, .slice B2 es2.length b2], .int .i64 5] W fun e w' => e = .returned (.bool true) ∧ Below W.heap.size W w') := Lib.hid fun W => rboth_is 5 _ _ true (by decide) n n2 s s2 A B A2 B2 la a es.length b la2 a2 es2.length b2 W
  obtain ⟨i0, hi, hz0, hz1, hz2⟩ := info_parts inf_value
  have HR := Lib.hid hR
  have HLX := Lib.hid hLx
  have HR2 := Lib.hid hR2
  have HLY := Lib.hid hLy
  have HS := Lib.hid hS
  clear hR hLx hR2 hLy hS
  have H0 := Lib.hid (B3.start w #[.int .i64 5, .int .i64 n, .string s, .slice A la a, .slice B es.length b] #[.int .i64 5, .int .i64 n2, .string s2, .slice A2 la2 a2, .slice B2 es2.length b2])
  go_enter Tryz.func117, Tryz.ntmps117
  go_wp2_with fail
  refine (HB3.out _).mono ?_
  rintro e1 w1 ⟨rfl, hb1⟩
  have H1 := Lib.hid (H0.out.next hb1)
  clear hb1
  obtain ⟨x0, x1, x2, x3, x4⟩ := box5 H1.out.x
  obtain ⟨y0, y1, y2, y3, y4⟩ := box5 H1.out.y
  go_wp2_with fail
  refine (HB5.out _).mono ?_
  rintro e2 w2 ⟨rfl, hb2⟩
  have H2 := Lib.hid (H1.out.next hb2)
  clear hb2
  clear x0 x1 x2 x3 x4 y0 y1 y2 y3 y4
  obtain ⟨x0, x1, x2, x3, x4⟩ := box5 H2.out.x
  obtain ⟨y0, y1, y2, y3, y4⟩ := box5 H2.out.y
  clear x0 x1 x2 x3 x4 y0 y1 y2 y3 y4 H0 H1
  go_wp2_with fail
  go_loopg [6, 7] es.length (fun gg s6 s7 wr => ∃ (i : Nat) (zs : List Value) (vr : Value), vr = s6 ∧ s7 = .int .i64 i ∧ i ≤ es.length ∧ es.length - i ≤ gg ∧ Hid (wr.ownsRow (w.heap.size + 3) 25 5 vr ((es.take i).filter (kept es2)).length zs) ∧ Hid (LiesL wr S ((es.take i).filter (kept es2)) zs) ∧ Hid (B3 w #[.int .i64 5, .int .i64 n, .string s, .slice A la a, .slice B es.length b] #[.int .i64 5, .int .i64 n2, .string s2, .slice A2 la2 a2, .slice B2 es2.length b2] wr))
  case atStart => exact ⟨0, [], _, rfl, rfl, Nat.zero_le _, by omega, Lib.hid (World.ownsRow_nil _ _ _ _), Lib.hid (by rw [List.take_zero]; show LiesL _ _ [] []; rw [LiesL]), H2⟩
  case round =>
    obtain ⟨i, zs, vr, rfl, rfl, hin, hg, HO, HLZ, HBX⟩ := hrel
    obtain ⟨x0, x1, x2, x3, x4⟩ := box5 HBX.out.x
    by_cases hlt : i < es.length
    · obtain ⟨x, hx⟩ : ∃ x, es[i]? = some x := ⟨_, List.getElem?_eq_getElem hlt⟩
      have HFS := Lib.hid (filt_step (gs := es2) hx)
      have hi0 : (0 : Int) ≤ (i : Int) := by omega
      have hil : (i : Int) < (es.length : Int) := by omega
      obtain ⟨bX, oX, v0, v1, v2, v3, v4, rfl, hbX, hlX, hcX⟩ := elem_cells HR.out HLX.out hx
      have HLX1 := Lib.hid hlX
      have HCX := Lib.hid hcX
      have HSX := Lib.hid hbX
      clear hlX hcX hx hbX
      go_wp2_with fail
      obtain ⟨W9, hW9⟩ : ∃ X, X = wr := ⟨_, rfl⟩
      subst hW9
      go_loopg [8, 9] es2.length (fun gg s8 s9 wr => ∃ k : Nat, s8 = .bool (kept (es2.take k) x) ∧ s9 = .int .i64 k ∧ k ≤ es2.length ∧ es2.length - k ≤ gg ∧ Hid (Below W9.heap.size W9 wr))
      case atStart => exact ⟨0, rfl, rfl, Nat.zero_le _, by omega, Lib.hid (Below.refl _ _)⟩
      case round =>
        clear x0 x1 x2 x3 x4
        obtain ⟨k, rfl, rfl, hkn, hgk, HBR⟩ := hrel
        have HBY := Lib.hid (HBX.out.next HBR.out)
        obtain ⟨x0, x1, x2, x3, x4⟩ := box5 HBY.out.x
        obtain ⟨y0, y1, y2, y3, y4⟩ := box5 HBY.out.y
        by_cases hlk : k < es2.length
        · obtain ⟨y, hy⟩ : ∃ y, es2[k]? = some y := ⟨_, List.getElem?_eq_getElem hlk⟩
          have HST := Lib.hid (kpt_step hy x)
          have hk0 : (0 : Int) ≤ (k : Int) := by omega
          have hkl : (k : Int) < (es2.length : Int) := by omega
          obtain ⟨bY, oY, u0, u1, u2, u3, u4, rfl, hbY, hlY, hcY⟩ := elem_cells HR2.out HLY.out hy
          clear hy
          cases hin2 : kept (es2.take k) x with
          | false =>
            rw [hin2] at HST
            clear hin2 hlY hcY
            go_wp2_with fail
            go_quiet (fail)
            go_wp2_with fail
            go_roundg (es2.length - (k + 1))
            case measure => omega
            case rel => exact ⟨k + 1, by rw [HST.out]; rfl, by first | rfl | go_num, by omega, Nat.le_refl _, Lib.hid (below_drewN HBR.out _)⟩
          | true =>
            rw [hin2] at HST
            clear hin2
            have hbw := HBY.out.below
            have hbXl := HS.out _ HSX.out
            have hbYl := HS.out _ hbY
            obtain ⟨p0, p1, p2, p3, p4⟩ := HCX.out
            obtain ⟨q0, q1, q2, q3, q4⟩ := hcY
            have p0' := below_cell hbw hbXl p0
            have p1' := below_cell hbw hbXl p1
            have p2' := below_cell hbw hbXl p2
            have p3' := below_cell hbw hbXl p3
            have p4' := below_cell hbw hbXl p4
            have q0' := below_cell hbw hbYl q0
            have q1' := below_cell hbw hbYl q1
            have q2' := below_cell hbw hbYl q2
            have q3' := below_cell hbw hbYl q3
            have q4' := below_cell hbw hbYl q4
            have hcall := Lib.hid (fun W (hW : Below wr.heap.size wr W) => rorder_any x y [v0, v1, v2, v3, v4] [u0, u1, u2, u3, u4] W (below_lies (chain hbw hW) (HLX1.out.move fun b hb => ⟨HS.out b hb, rfl⟩)) (below_lies (chain hbw hW) (hlY.move fun b hb => ⟨HS.out b hb, rfl⟩)))
            clear p0 p1 p2 p3 p4 q0 q1 q2 q3 q4 hlY hbw
            generalize vcmp x y = bq at hcall HST
            go_wp2_with fail
            go_still_tail 12, (by kernel_rfl)
            change wpList _ _ _ _ _ wr.drew
            go_wp2_with fail
            refine (hcall.out _ ((Below.refl _ _).drew)).mono ?_
            rintro e6 w6 ⟨rfl, hb6⟩
            have HB6 := Lib.hid (chain HBR.out (below_of_drew hb6))
            clear hb6 hcall p0' p1' p2' p3' p4' q0' q1' q2' q3' q4' x0 x1 x2 x3 x4 y0 y1 y2 y3 y4
            go_wp2_with fail
            go_roundg (es2.length - (k + 1))
            case measure => omega
            case rel => exact ⟨k + 1, by rw [HST.out, Bool.true_and], by first | rfl | go_num, by omega, Nat.le_refl _, HB6⟩
        · have hk : k = es2.length := by omega
          have hnl : ¬ ((k : Int) < (es2.length : Int)) := by omega
          have HIN : Hid (kept (es2.take k) x = kept es2 x) := Lib.hid (by rw [hk, List.take_length])
          rw [HIN.out]
          have hgr := below_grown HBR.out vr.ownBlock
          have HO2 : Hid (wr.ownsRow (w.heap.size + 3) 25 5 vr ((es.take i).filter (kept es2)).length zs) := Lib.hid (own_below HO.out HBR.out)
          have HLZ2 : Hid (LiesL wr S ((es.take i).filter (kept es2)) zs) := Lib.hid (HLZ.out.move fun b hb => ⟨hb, HBR.out.block b (Nat.lt_of_lt_of_le (HS.out b hb) HBX.out.below.size)⟩)
          clear HIN hk hgr
          have HFL := Lib.hid (filt_len es es2 i)
          cases ib : kept es2 x with
          | false =>
            rw [ib] at HFS
            clear ib
            go_wp2_with fail
            go_roundg (es.length - (i + 1))
            case measure => omega
            case rel =>
              have h9 := HFS.out
              rw [if_neg Bool.false_ne_true, List.append_nil] at h9
              exact ⟨i + 1, zs, _, rfl, by first | rfl | go_num, by omega, Nat.le_refl _, by rw [h9]; exact HO2, by rw [h9]; exact HLZ2, HBY⟩
          | true =>
            rw [ib] at HFS
            clear ib
            have hbw := HBY.out.below
            have hbXl := HS.out _ HSX.out
            obtain ⟨p0, p1, p2, p3, p4⟩ := HCX.out
            have p0' := below_cell hbw hbXl p0
            have p1' := below_cell hbw hbXl p1
            have p2' := below_cell hbw hbXl p2
            have p3' := below_cell hbw hbXl p3
            have p4' := below_cell hbw hbXl p4
            have hsz3 : w.heap.size + 3 ≤ wr.heap.size := by have := HBY.out.r.lt; omega
            have hone : ∀ u ∈ [v0, v1, v2, v3, v4], u.oneCell' = true := liesL_one (es := [x]) (xs := [v0, v1, v2, v3, v4]) (by rw [LiesL]; exact ⟨[v0, v1, v2, v3, v4], [], by simp, HLX1.out, by rw [LiesL]⟩)
            have HONE := Lib.hid hone
            have hrow : Hid (∀ X : World, Rs (X.alloc (.cells #[v0, v1, v2, v3, v4] 25)) (fun _ => True) (some ⟨X.heap.size, 0, none⟩) [v0, v1, v2, v3, v4]) := Lib.hid fun X => rs_box' (cs := [v0, v1, v2, v3, v4]) (Box.laid X _ _) trivial
            clear p0 p1 p2 p3 p4 hone hbw
            go_wp2_with (at_builtin; refine wpList_append_rs _ rfl (.tmp 57) (.tmp 63) 23 rfl (w.heap.size + 3) 25 i0 zeroVal 5 80 Tryz.underlying23 hi hz0 hz1 hz2 rfl (by omega) vr _ zs rfl (HO2.out.alloc _) (fun _ => True) (some ⟨wr.heap.size, 0, none⟩) 1 1 [v0, v1, v2, v3, v4] rfl rfl (hrow.out wr) (fun h => by cases h) HONE.out ?d3 ?d4 ?d5 ?_)
            case d3 => have := HFL.out; unfold maxLen; omega
            case d4 => have := HFL.out; omega
            case d5 => first | (simp; omega) | omega
            intro v7 w7 hown7 hgr7
            have HG := Lib.hid (b3_grown (HBY.out.next (below1 _ _)) hgr7 (fun j hj => (HO2.out.lt j hj).1))
            have HLZ7 : Hid (LiesL w7 S ((es.take i).filter (kept es2) ++ [x]) (zs ++ [v0, v1, v2, v3, v4])) := Lib.hid ((HLZ2.out.move (S' := S) fun b hb => ⟨hb, by
                have hlt9 := HS.out b hb
                rw [hgr7.block b (by simp; omega) (fun e => by have := (HO2.out.lt _ e.symm).1; omega)]
                exact Below.heap_alloc wr _ b (by omega)⟩).snoc (HLX1.out.move fun b hb => ⟨hb, HG.out.below.block b (HS.out b hb)⟩))
            have HOW := Lib.hid hown7
            clear hown7 hgr7 p0' p1' p2' p3' p4' x0 x1 x2 x3 x4 y0 y1 y2 y3 y4
            go_wp2_with fail
            go_roundg (es.length - (i + 1))
            case measure => omega
            case rel =>
              have h9 := HFS.out
              simp only [if_true] at h9
              exact ⟨i + 1, zs ++ [v0, v1, v2, v3, v4], _, rfl, by first | rfl | go_num, by omega, Nat.le_refl _, by rw [h9, List.length_append]; exact HOW, by rw [h9]; exact HLZ7, HG⟩
    · have hii : i = es.length := by omega
      subst hii
      have hnl : ¬ ((es.length : Int) < (es.length : Int)) := by omega
      have HO2 := HO.out
      have HLZ2 := HLZ.out
      have hfl := filt_len es es2 es.length
      rw [List.take_length] at HO2 HLZ2 hfl
      obtain ⟨C, c, rfl, hC, hcn, hcm, hRs⟩ := own_open HO2
      have HLS := Lib.hid (list_any (fun b => S b ∨ (w.heap.size + 3 ≤ b ∧ b < wr.heap.size)) (es.filter (kept es2)) C c zs wr (hRs.move fun b hb => ⟨.inr ⟨hb.1, hb.2.1⟩, rfl⟩) (HLZ2.move fun b hb => ⟨.inl hb, rfl⟩) (fun b hb => by rcases hb with h | h; (· exact Nat.lt_of_lt_of_le (HS.out b h) HBX.out.below.size); exact h.2) hC (by omega))
      clear HO2 HLZ2 hfl hRs HO HLZ hC hcn hcm
      go_wp2_with fail
      refine HLS.out.mono ?_
      rintro e8 w8 ⟨hb8, D, d, rfl, hl8⟩
      have H8 := Lib.hid (HBX.out.next hb8)
      have HL := Lib.hid hl8
      have hsw := HBX.out.r.lt
      have hsb := hb8.size
      clear hb8 hl8 x0 x1 x2 x3 x4 HLS
      obtain ⟨t0, t1, t2, t3, t4⟩ := box5 H8.out.r
      have z0 := H8.out.r.free 0
      have z1 := H8.out.r.free 1
      have z2 := H8.out.r.free 2
      have z3 := H8.out.r.free 3
      have z4 := H8.out.r.free 4
      go_wp2_with fail
      refine bodyPost_ret (v := .tuple #[.agg #[.int .i64 5, .int .i64 0, .string ⟨#[]⟩, .slice none 0 0, .slice D (es.filter (kept es2)).length d], .int .i64 0]) (by simp [results, Tryz.results117, go_sem, t0, t1, t2, t3, t4]) rfl ?_
      refine retT_put H8.out.below (by omega) H8.out.r.lt (HL.out.move fun b hb => ⟨?_, rfl⟩)
      rcases hb with (h | h) | h
      · have := HS.out b h
        exact ⟨.inl h, by omega⟩
      · exact ⟨.inr ⟨by omega, by omega⟩, by omega⟩
      · exact ⟨.inr ⟨by omega, h.2⟩, by omega⟩
end Go.Proofs.YtgdnkankleoaoaaGreatDoor
namespace Go.Proofs.YtgdnkankleoaoaaGreatDoor
open Go.RowKit Go.Sort Go.Lib
theorem mg_open {f : FuncId} {args : Array Value} {W : World} {S : Nat → Prop} {v : V} (h : Calls Tryz.prog f args W fun e w' => Below W.heap.size W w' ∧ ∃ qs : List Value, e = .returned (.agg qs.toArray) ∧ Lies w' (fun b => S b ∨ (W.heap.size ≤ b ∧ b < w'.heap.size)) v qs) :
    Calls Tryz.prog f args W fun e w' => Below W.heap.size W w' ∧ ∃ (k n : Int) (s : ByteArray) (ks : List ByteArray) (es : List V) (A : Option Addr) (a : Nat) (C : Option Addr) (c : Nat), e = .returned (.agg #[.int .i64 k, .int .i64 n, .string s, .slice A ks.length a, .slice C es.length c]) ∧
      Lies w' (fun b => S b ∨ (W.heap.size ≤ b ∧ b < w'.heap.size)) v [.int .i64 k, .int .i64 n, .string s, .slice A ks.length a, .slice C es.length c] := by
  refine h.mono fun e w' ⟨hb, qs, he, hl⟩ => ⟨hb, ?_⟩
  subst he
  obtain ⟨k, n, s, ks, es⟩ := v
  have hl2 := hl
  rw [Lies] at hl2
  obtain ⟨_, A, a, C, c, ys, rfl, _⟩ := hl2
  exact ⟨k, n, s, ks, es, A, a, C, c, rfl, hl⟩
set_option maxHeartbeats 4000000 in
set_option maxRecDepth 100000 in
theorem rmul_num (n n2 : Int) (s s2 : ByteArray) (A B A2 B2 : Option Addr) (la a lb b la2 a2 lb2 b2 : Nat) (w : World) (S : Nat → Prop) (hS : ∀ b, S b → b < w.heap.size) :
    Calls Tryz.prog 118 #[.agg #[.int .i64 3, .int .i64 n, .string s, .slice A la a, .slice B lb b], .agg #[.int .i64 3, .int .i64 n2, .string s2, .slice A2 la2 a2, .slice B2 lb2 b2]] w (RetT S (numV (wrap64 (n * n2))) 0 w) := by
  rw [← w64_mul]
  have HB3 : Hid (∀ W : World, Calls Tryz.prog 121 #[.agg #[.int .i64 3, .int .i64 n, .string s, .slice A la a, .slice B lb b], .agg #[.int .i64 3, .int .i64 n2, .string s2, .slice A2 la2 a2, .slice B2 lb2 b2], .int .i64 3] W fun e w' => e = .returned (.bool true) ∧ Below W.heap.size W w') := Lib.hid fun W => rboth_is 3 _ _ true (by decide) n n2 s s2 A B A2 B2 la a lb b la2 a2 lb2 b2 W
  have HN := Lib.hid (fun (n : Int) W => rnum_any n W)
  have H0 := Lib.hid (B3.start w #[.int .i64 3, .int .i64 n, .string s, .slice A la a, .slice B lb b] #[.int .i64 3, .int .i64 n2, .string s2, .slice A2 la2 a2, .slice B2 lb2 b2])
  go_enter Tryz.func118, Tryz.ntmps118
  go_wp2_with fail
  refine (HB3.out _).mono ?_
  rintro e1 w1 ⟨rfl, hb1⟩
  have H1 := Lib.hid (H0.out.next hb1)
  clear hb1
  obtain ⟨x0, x1, x2, x3, x4⟩ := box5 H1.out.x
  obtain ⟨y0, y1, y2, y3, y4⟩ := box5 H1.out.y
  go_wp2_with fail
  refine (HN.out _ _).mono ?_
  rintro e2 w2 ⟨rfl, hb2⟩
  have H2 := Lib.hid (H1.out.next hb2)
  clear hb2
  clear x0 x1 x2 x3 x4 y0 y1 y2 y3 y4
  obtain ⟨t0, t1, t2, t3, t4⟩ := box5 H2.out.r
  have z0 := H2.out.r.free 0
  have z1 := H2.out.r.free 1
  have z2 := H2.out.r.free 2
  have z3 := H2.out.r.free 3
  have z4 := H2.out.r.free 4
  go_wp2_with fail
  refine bodyPost_ret (v := .tuple #[.agg #[.int .i64 3, .int .i64 (wrap64 (IntKind.u64.wrap (IntKind.u64.wrap n * IntKind.u64.wrap n2))), .string ⟨#[]⟩, .slice none 0 0, .slice none 0 0], .int .i64 0]) (by simp [results, Tryz.results118, go_sem, t0, t1, t2, t3, t4]) rfl ?_
  exact retT_put H2.out.below (by omega) H2.out.r.lt (lies_numv _ _ _)
set_option maxHeartbeats 4000000 in
set_option maxRecDepth 100000 in
theorem rmul_sn (n n2 : Int) (s s2 : ByteArray) (A B A2 B2 : Option Addr) (la a lb b la2 a2 lb2 b2 : Nat) (w : World) (S : Nat → Prop) (hS : ∀ b, S b → b < w.heap.size) (r : V) (er : Int) (hc : ∀ W, Below w.heap.size w W → Calls Tryz.prog 199 #[.string s, .int .i64 n2] W (RetT S r er W)) :
    Calls Tryz.prog 118 #[.agg #[.int .i64 4, .int .i64 n, .string s, .slice A la a, .slice B lb b], .agg #[.int .i64 3, .int .i64 n2, .string s2, .slice A2 la2 a2, .slice B2 lb2 b2]] w (RetT S r er w) := by
  have HB3 : Hid (∀ W : World, Calls Tryz.prog 121 #[.agg #[.int .i64 4, .int .i64 n, .string s, .slice A la a, .slice B lb b], .agg #[.int .i64 3, .int .i64 n2, .string s2, .slice A2 la2 a2, .slice B2 lb2 b2], .int .i64 3] W fun e w' => e = .returned (.bool false) ∧ Below W.heap.size W w') := Lib.hid fun W => rboth_is 3 _ _ false (by decide) n n2 s s2 A B A2 B2 la a lb b la2 a2 lb2 b2 W
  have HC := Lib.hid (fun W hW => retT_open (hc W hW))
  clear hc
  have H0 := Lib.hid (B3.start w #[.int .i64 4, .int .i64 n, .string s, .slice A la a, .slice B lb b] #[.int .i64 3, .int .i64 n2, .string s2, .slice A2 la2 a2, .slice B2 lb2 b2])
  go_enter Tryz.func118, Tryz.ntmps118
  go_wp2_with fail
  refine (HB3.out _).mono ?_
  rintro e1 w1 ⟨rfl, hb1⟩
  have H1 := Lib.hid (H0.out.next hb1)
  clear hb1
  obtain ⟨x0, x1, x2, x3, x4⟩ := box5 H1.out.x
  obtain ⟨y0, y1, y2, y3, y4⟩ := box5 H1.out.y
  go_wp2_with fail
  refine (HC.out _ H1.out.below).mono ?_
  rintro e2 w2 ⟨rk, rn, rs, rks, res, RA, ra, RC, rc, hrv, rfl, hb2, hl2⟩
  have hsw2 := H1.out.r.lt
  have hsb2 := hb2.size
  have H2 := Lib.hid (H1.out.next hb2)
  have HL := Lib.hid hl2
  clear hb2 hl2 hrv
  clear x0 x1 x2 x3 x4 y0 y1 y2 y3 y4
  obtain ⟨t0, t1, t2, t3, t4⟩ := box5 H2.out.r
  have z0 := H2.out.r.free 0
  have z1 := H2.out.r.free 1
  have z2 := H2.out.r.free 2
  have z3 := H2.out.r.free 3
  have z4 := H2.out.r.free 4
  go_wp2_with fail
  refine bodyPost_ret (v := .tuple #[.agg #[.int .i64 rk, .int .i64 rn, .string rs, .slice RA rks.length ra, .slice RC res.length rc], .int .i64 er]) (by simp [results, Tryz.results118, go_sem, t0, t1, t2, t3, t4]) rfl ?_
  refine retT_put H2.out.below (by omega) H2.out.r.lt (HL.out.move fun b hb => ⟨?_, rfl⟩)
  rcases hb with h9 | h9
  · have := hS b h9
    exact ⟨.inl h9, by omega⟩
  · exact ⟨.inr ⟨by omega, h9.2⟩, by omega⟩
set_option maxHeartbeats 4000000 in
set_option maxRecDepth 100000 in
theorem rmul_ns (n n2 : Int) (s s2 : ByteArray) (A B A2 B2 : Option Addr) (la a lb b la2 a2 lb2 b2 : Nat) (w : World) (S : Nat → Prop) (hS : ∀ b, S b → b < w.heap.size) (r : V) (er : Int) (hc : ∀ W, Below w.heap.size w W → Calls Tryz.prog 199 #[.string s2, .int .i64 n] W (RetT S r er W)) :
    Calls Tryz.prog 118 #[.agg #[.int .i64 3, .int .i64 n, .string s, .slice A la a, .slice B lb b], .agg #[.int .i64 4, .int .i64 n2, .string s2, .slice A2 la2 a2, .slice B2 lb2 b2]] w (RetT S r er w) := by
  have HB3 : Hid (∀ W : World, Calls Tryz.prog 121 #[.agg #[.int .i64 3, .int .i64 n, .string s, .slice A la a, .slice B lb b], .agg #[.int .i64 4, .int .i64 n2, .string s2, .slice A2 la2 a2, .slice B2 lb2 b2], .int .i64 3] W fun e w' => e = .returned (.bool false) ∧ Below W.heap.size W w') := Lib.hid fun W => rboth_is 3 _ _ false (by decide) n n2 s s2 A B A2 B2 la a lb b la2 a2 lb2 b2 W
  have HC := Lib.hid (fun W hW => retT_open (hc W hW))
  clear hc
  have H0 := Lib.hid (B3.start w #[.int .i64 3, .int .i64 n, .string s, .slice A la a, .slice B lb b] #[.int .i64 4, .int .i64 n2, .string s2, .slice A2 la2 a2, .slice B2 lb2 b2])
  go_enter Tryz.func118, Tryz.ntmps118
  go_wp2_with fail
  refine (HB3.out _).mono ?_
  rintro e1 w1 ⟨rfl, hb1⟩
  have H1 := Lib.hid (H0.out.next hb1)
  clear hb1
  obtain ⟨x0, x1, x2, x3, x4⟩ := box5 H1.out.x
  obtain ⟨y0, y1, y2, y3, y4⟩ := box5 H1.out.y
  go_wp2_with fail
  refine (HC.out _ H1.out.below).mono ?_
  rintro e2 w2 ⟨rk, rn, rs, rks, res, RA, ra, RC, rc, hrv, rfl, hb2, hl2⟩
  have hsw2 := H1.out.r.lt
  have hsb2 := hb2.size
  have H2 := Lib.hid (H1.out.next hb2)
  have HL := Lib.hid hl2
  clear hb2 hl2 hrv
  clear x0 x1 x2 x3 x4 y0 y1 y2 y3 y4
  obtain ⟨t0, t1, t2, t3, t4⟩ := box5 H2.out.r
  have z0 := H2.out.r.free 0
  have z1 := H2.out.r.free 1
  have z2 := H2.out.r.free 2
  have z3 := H2.out.r.free 3
  have z4 := H2.out.r.free 4
  go_wp2_with fail
  refine bodyPost_ret (v := .tuple #[.agg #[.int .i64 rk, .int .i64 rn, .string rs, .slice RA rks.length ra, .slice RC res.length rc], .int .i64 er]) (by simp [results, Tryz.results118, go_sem, t0, t1, t2, t3, t4]) rfl ?_
  refine retT_put H2.out.below (by omega) H2.out.r.lt (HL.out.move fun b hb => ⟨?_, rfl⟩)
  rcases hb with h9 | h9
  · have := hS b h9
    exact ⟨.inl h9, by omega⟩
  · exact ⟨.inr ⟨by omega, h9.2⟩, by omega⟩
set_option maxHeartbeats 4000000 in
set_option maxRecDepth 100000 in
theorem rmul_obj (n n2 : Int) (s s2 : ByteArray) (A B A2 B2 : Option Addr) (la a lb b la2 a2 lb2 b2 : Nat) (w : World) (S : Nat → Prop) (hS : ∀ b, S b → b < w.heap.size) (M : V) (hm : ∀ W, Below w.heap.size w W → Calls Tryz.prog 123 #[.agg #[.int .i64 6, .int .i64 n, .string s, .slice A la a, .slice B lb b], .agg #[.int .i64 6, .int .i64 n2, .string s2, .slice A2 la2 a2, .slice B2 lb2 b2]] W fun e w' => Below W.heap.size W w' ∧ ∃ qs : List Value, e = .returned (.agg qs.toArray) ∧ Lies w' (fun b => S b ∨ (W.heap.size ≤ b ∧ b < w'.heap.size)) M qs) :
    Calls Tryz.prog 118 #[.agg #[.int .i64 6, .int .i64 n, .string s, .slice A la a, .slice B lb b], .agg #[.int .i64 6, .int .i64 n2, .string s2, .slice A2 la2 a2, .slice B2 lb2 b2]] w (RetT S (finV M) (finE M) w) := by
  have HB3 : Hid (∀ W : World, Calls Tryz.prog 121 #[.agg #[.int .i64 6, .int .i64 n, .string s, .slice A la a, .slice B lb b], .agg #[.int .i64 6, .int .i64 n2, .string s2, .slice A2 la2 a2, .slice B2 lb2 b2], .int .i64 3] W fun e w' => e = .returned (.bool false) ∧ Below W.heap.size W w') := Lib.hid fun W => rboth_is 3 _ _ false (by decide) n n2 s s2 A B A2 B2 la a lb b la2 a2 lb2 b2 W
  have HB6 : Hid (∀ W : World, Calls Tryz.prog 121 #[.agg #[.int .i64 6, .int .i64 n, .string s, .slice A la a, .slice B lb b], .agg #[.int .i64 6, .int .i64 n2, .string s2, .slice A2 la2 a2, .slice B2 lb2 b2], .int .i64 6] W fun e w' => e = .returned (.bool true) ∧ Below W.heap.size W w') := Lib.hid fun W => rboth_is 6 _ _ true (by decide) n n2 s s2 A B A2 B2 la a lb b la2 a2 lb2 b2 W
  have HC := Lib.hid (fun W hW => mg_open (hm W hW))
  clear hm
  have H0 := Lib.hid (B3.start w #[.int .i64 6, .int .i64 n, .string s, .slice A la a, .slice B lb b] #[.int .i64 6, .int .i64 n2, .string s2, .slice A2 la2 a2, .slice B2 lb2 b2])
  go_enter Tryz.func118, Tryz.ntmps118
  go_wp2_with fail
  refine (HB3.out _).mono ?_
  rintro e1 w1 ⟨rfl, hb1⟩
  have H1 := Lib.hid (H0.out.next hb1)
  clear hb1
  obtain ⟨x0, x1, x2, x3, x4⟩ := box5 H1.out.x
  obtain ⟨y0, y1, y2, y3, y4⟩ := box5 H1.out.y
  go_wp2_with fail
  refine (HB6.out _).mono ?_
  rintro e2 w2 ⟨rfl, hb2⟩
  have H2 := Lib.hid (H1.out.next hb2)
  clear hb2
  clear x0 x1 x2 x3 x4 y0 y1 y2 y3 y4
  obtain ⟨x0, x1, x2, x3, x4⟩ := box5 H2.out.x
  obtain ⟨y0, y1, y2, y3, y4⟩ := box5 H2.out.y
  go_wp2_with fail
  refine (HC.out _ H2.out.below).mono ?_
  rintro e3 w3 ⟨hb3, mk, mn, ms, mks, mes, MA, ma, MC, mc, rfl, hl3⟩
  have H3 := Lib.hid (H2.out.next hb3)
  have hsw3 := H2.out.r.lt
  have hsb3 := hb3.size
  have HF := Lib.hid (retS_open (fit_any (fun b => S b ∨ (w2.heap.size ≤ b ∧ b < w3.heap.size)) M _ w3 hl3 (fun b hb => by rcases hb with h9 | h9; (· have := hS b h9; have := H3.out.below.size; omega); exact h9.2)))
  clear hb3 hl3
  clear x0 x1 x2 x3 x4 y0 y1 y2 y3 y4
  go_wp2_with fail
  refine HF.out.mono ?_
  rintro e4 w4 ⟨rk, rn, rs, rks, res, RA, ra, RC, rc, hrv, rfl, hb4, hl4⟩
  have H4 := Lib.hid (H3.out.next hb4)
  have HL := Lib.hid hl4
  have hsb4 := hb4.size
  clear hb4 hl4 hrv HF
  obtain ⟨t0, t1, t2, t3, t4⟩ := box5 H4.out.r
  have z0 := H4.out.r.free 0
  have z1 := H4.out.r.free 1
  have z2 := H4.out.r.free 2
  have z3 := H4.out.r.free 3
  have z4 := H4.out.r.free 4
  go_wp2_with fail
  refine bodyPost_ret (v := .tuple #[.agg #[.int .i64 rk, .int .i64 rn, .string rs, .slice RA rks.length ra, .slice RC res.length rc], .int .i64 (finE M)]) (by simp [results, Tryz.results118, go_sem, t0, t1, t2, t3, t4]) rfl ?_
  refine retT_put H4.out.below (by omega) H4.out.r.lt (HL.out.move fun b hb => ⟨?_, rfl⟩)
  rcases hb with h9 | h9
  · have := hS b h9
    exact ⟨.inl h9, by omega⟩
  · exact ⟨.inr ⟨by omega, by omega⟩, by omega⟩
set_option maxHeartbeats 4000000 in
set_option maxRecDepth 100000 in
theorem rmul_type1 (k k2 : Int) (h33 : ¬ (k = 3 ∧ k2 = 3)) (h66 : ¬ (k = 6 ∧ k2 = 6)) (hk : k = 4) (h43 : ¬ k2 = 3) (n n2 : Int) (s s2 : ByteArray) (A B A2 B2 : Option Addr) (la a lb b la2 a2 lb2 b2 : Nat) (w : World) (S : Nat → Prop) :
    Calls Tryz.prog 118 #[.agg #[.int .i64 k, .int .i64 n, .string s, .slice A la a, .slice B lb b], .agg #[.int .i64 k2, .int .i64 n2, .string s2, .slice A2 la2 a2, .slice B2 lb2 b2]] w (RetT S vnull 12 w) := by
  have q3 : ((k == 3) && (k2 == 3)) = false := by simpa using h33
  have HB3 : Hid (∀ W : World, Calls Tryz.prog 121 #[.agg #[.int .i64 k, .int .i64 n, .string s, .slice A la a, .slice B lb b], .agg #[.int .i64 k2, .int .i64 n2, .string s2, .slice A2 la2 a2, .slice B2 lb2 b2], .int .i64 3] W fun e w' => e = .returned (.bool false) ∧ Below W.heap.size W w') := Lib.hid fun W => rboth_is 3 _ _ false q3 n n2 s s2 A B A2 B2 la a lb b la2 a2 lb2 b2 W
  have q6 : ((k == 6) && (k2 == 6)) = false := by simpa using h66
  have HB6 : Hid (∀ W : World, Calls Tryz.prog 121 #[.agg #[.int .i64 k, .int .i64 n, .string s, .slice A la a, .slice B lb b], .agg #[.int .i64 k2, .int .i64 n2, .string s2, .slice A2 la2 a2, .slice B2 lb2 b2], .int .i64 6] W fun e w' => e = .returned (.bool false) ∧ Below W.heap.size W w') := Lib.hid fun W => rboth_is 6 _ _ false q6 n n2 s s2 A B A2 B2 la a lb b la2 a2 lb2 b2 W
  clear q3 q6 h33 h66
  subst hk
  have g2 : (k2 == 3) = false := by simpa using h43
  have H0 := Lib.hid (B3.start w #[.int .i64 4, .int .i64 n, .string s, .slice A la a, .slice B lb b] #[.int .i64 k2, .int .i64 n2, .string s2, .slice A2 la2 a2, .slice B2 lb2 b2])
  go_enter Tryz.func118, Tryz.ntmps118
  go_wp2_with fail
  refine (HB3.out _).mono ?_
  rintro e1 w1 ⟨rfl, hb1⟩
  have H1 := Lib.hid (H0.out.next hb1)
  clear hb1
  obtain ⟨x0, x1, x2, x3, x4⟩ := box5 H1.out.x
  obtain ⟨y0, y1, y2, y3, y4⟩ := box5 H1.out.y
  go_wp2_with fail
  refine (HB6.out _).mono ?_
  rintro e2 w2 ⟨rfl, hb2⟩
  have H2 := Lib.hid (H1.out.next hb2)
  clear hb2
  clear x0 x1 x2 x3 x4 y0 y1 y2 y3 y4
  obtain ⟨x0, x1, x2, x3, x4⟩ := box5 H2.out.x
  obtain ⟨y0, y1, y2, y3, y4⟩ := box5 H2.out.y
  clear x0 x1 x2 x3 x4 y0 y1 y2 y3 y4
  obtain ⟨t0, t1, t2, t3, t4⟩ := box5 H2.out.r
  have z0 := H2.out.r.free 0
  have z1 := H2.out.r.free 1
  have z2 := H2.out.r.free 2
  have z3 := H2.out.r.free 3
  have z4 := H2.out.r.free 4
  go_wp2_with fail
  refine bodyPost_ret (v := .tuple #[.agg #[.int .i64 0, .int .i64 0, .string ⟨#[]⟩, .slice none 0 0, .slice none 0 0], .int .i64 12]) (by simp [results, Tryz.results118, go_sem, t0, t1, t2, t3, t4]) rfl ?_
  exact retT_put H2.out.below (by omega) H2.out.r.lt (lies_null _ _)
set_option maxHeartbeats 4000000 in
set_option maxRecDepth 100000 in
theorem rmul_type2 (k k2 : Int) (h33 : ¬ (k = 3 ∧ k2 = 3)) (h66 : ¬ (k = 6 ∧ k2 = 6)) (hk : k = 3) (h34 : ¬ k2 = 4) (n n2 : Int) (s s2 : ByteArray) (A B A2 B2 : Option Addr) (la a lb b la2 a2 lb2 b2 : Nat) (w : World) (S : Nat → Prop) :
    Calls Tryz.prog 118 #[.agg #[.int .i64 k, .int .i64 n, .string s, .slice A la a, .slice B lb b], .agg #[.int .i64 k2, .int .i64 n2, .string s2, .slice A2 la2 a2, .slice B2 lb2 b2]] w (RetT S vnull 12 w) := by
  have q3 : ((k == 3) && (k2 == 3)) = false := by simpa using h33
  have HB3 : Hid (∀ W : World, Calls Tryz.prog 121 #[.agg #[.int .i64 k, .int .i64 n, .string s, .slice A la a, .slice B lb b], .agg #[.int .i64 k2, .int .i64 n2, .string s2, .slice A2 la2 a2, .slice B2 lb2 b2], .int .i64 3] W fun e w' => e = .returned (.bool false) ∧ Below W.heap.size W w') := Lib.hid fun W => rboth_is 3 _ _ false q3 n n2 s s2 A B A2 B2 la a lb b la2 a2 lb2 b2 W
  have q6 : ((k == 6) && (k2 == 6)) = false := by simpa using h66
  have HB6 : Hid (∀ W : World, Calls Tryz.prog 121 #[.agg #[.int .i64 k, .int .i64 n, .string s, .slice A la a, .slice B lb b], .agg #[.int .i64 k2, .int .i64 n2, .string s2, .slice A2 la2 a2, .slice B2 lb2 b2], .int .i64 6] W fun e w' => e = .returned (.bool false) ∧ Below W.heap.size W w') := Lib.hid fun W => rboth_is 6 _ _ false q6 n n2 s s2 A B A2 B2 la a lb b la2 a2 lb2 b2 W
  clear q3 q6 h33 h66
  subst hk
  have g2 : (k2 == 4) = false := by simpa using h34
  have H0 := Lib.hid (B3.start w #[.int .i64 3, .int .i64 n, .string s, .slice A la a, .slice B lb b] #[.int .i64 k2, .int .i64 n2, .string s2, .slice A2 la2 a2, .slice B2 lb2 b2])
  go_enter Tryz.func118, Tryz.ntmps118
  go_wp2_with fail
  refine (HB3.out _).mono ?_
  rintro e1 w1 ⟨rfl, hb1⟩
  have H1 := Lib.hid (H0.out.next hb1)
  clear hb1
  obtain ⟨x0, x1, x2, x3, x4⟩ := box5 H1.out.x
  obtain ⟨y0, y1, y2, y3, y4⟩ := box5 H1.out.y
  go_wp2_with fail
  refine (HB6.out _).mono ?_
  rintro e2 w2 ⟨rfl, hb2⟩
  have H2 := Lib.hid (H1.out.next hb2)
  clear hb2
  clear x0 x1 x2 x3 x4 y0 y1 y2 y3 y4
  obtain ⟨x0, x1, x2, x3, x4⟩ := box5 H2.out.x
  obtain ⟨y0, y1, y2, y3, y4⟩ := box5 H2.out.y
  clear x0 x1 x2 x3 x4 y0 y1 y2 y3 y4
  obtain ⟨t0, t1, t2, t3, t4⟩ := box5 H2.out.r
  have z0 := H2.out.r.free 0
  have z1 := H2.out.r.free 1
  have z2 := H2.out.r.free 2
  have z3 := H2.out.r.free 3
  have z4 := H2.out.r.free 4
  go_wp2_with fail
  refine bodyPost_ret (v := .tuple #[.agg #[.int .i64 0, .int .i64 0, .string ⟨#[]⟩, .slice none 0 0, .slice none 0 0], .int .i64 12]) (by simp [results, Tryz.results118, go_sem, t0, t1, t2, t3, t4]) rfl ?_
  exact retT_put H2.out.below (by omega) H2.out.r.lt (lies_null _ _)
set_option maxHeartbeats 4000000 in
set_option maxRecDepth 100000 in
theorem rmul_type3 (k k2 : Int) (h33 : ¬ (k = 3 ∧ k2 = 3)) (h66 : ¬ (k = 6 ∧ k2 = 6)) (hk4 : ¬ k = 4) (hk3 : ¬ k = 3) (n n2 : Int) (s s2 : ByteArray) (A B A2 B2 : Option Addr) (la a lb b la2 a2 lb2 b2 : Nat) (w : World) (S : Nat → Prop) :
    Calls Tryz.prog 118 #[.agg #[.int .i64 k, .int .i64 n, .string s, .slice A la a, .slice B lb b], .agg #[.int .i64 k2, .int .i64 n2, .string s2, .slice A2 la2 a2, .slice B2 lb2 b2]] w (RetT S vnull 12 w) := by
  have q3 : ((k == 3) && (k2 == 3)) = false := by simpa using h33
  have HB3 : Hid (∀ W : World, Calls Tryz.prog 121 #[.agg #[.int .i64 k, .int .i64 n, .string s, .slice A la a, .slice B lb b], .agg #[.int .i64 k2, .int .i64 n2, .string s2, .slice A2 la2 a2, .slice B2 lb2 b2], .int .i64 3] W fun e w' => e = .returned (.bool false) ∧ Below W.heap.size W w') := Lib.hid fun W => rboth_is 3 _ _ false q3 n n2 s s2 A B A2 B2 la a lb b la2 a2 lb2 b2 W
  have q6 : ((k == 6) && (k2 == 6)) = false := by simpa using h66
  have HB6 : Hid (∀ W : World, Calls Tryz.prog 121 #[.agg #[.int .i64 k, .int .i64 n, .string s, .slice A la a, .slice B lb b], .agg #[.int .i64 k2, .int .i64 n2, .string s2, .slice A2 la2 a2, .slice B2 lb2 b2], .int .i64 6] W fun e w' => e = .returned (.bool false) ∧ Below W.heap.size W w') := Lib.hid fun W => rboth_is 6 _ _ false q6 n n2 s s2 A B A2 B2 la a lb b la2 a2 lb2 b2 W
  clear q3 q6 h33 h66
  have g1 : (k == 4) = false := by simpa using hk4
  have g2 : (k == 3) = false := by simpa using hk3
  have H0 := Lib.hid (B3.start w #[.int .i64 k, .int .i64 n, .string s, .slice A la a, .slice B lb b] #[.int .i64 k2, .int .i64 n2, .string s2, .slice A2 la2 a2, .slice B2 lb2 b2])
  go_enter Tryz.func118, Tryz.ntmps118
  go_wp2_with fail
  refine (HB3.out _).mono ?_
  rintro e1 w1 ⟨rfl, hb1⟩
  have H1 := Lib.hid (H0.out.next hb1)
  clear hb1
  obtain ⟨x0, x1, x2, x3, x4⟩ := box5 H1.out.x
  obtain ⟨y0, y1, y2, y3, y4⟩ := box5 H1.out.y
  go_wp2_with fail
  refine (HB6.out _).mono ?_
  rintro e2 w2 ⟨rfl, hb2⟩
  have H2 := Lib.hid (H1.out.next hb2)
  clear hb2
  clear x0 x1 x2 x3 x4 y0 y1 y2 y3 y4
  obtain ⟨x0, x1, x2, x3, x4⟩ := box5 H2.out.x
  obtain ⟨y0, y1, y2, y3, y4⟩ := box5 H2.out.y
  clear x0 x1 x2 x3 x4 y0 y1 y2 y3 y4
  obtain ⟨t0, t1, t2, t3, t4⟩ := box5 H2.out.r
  have z0 := H2.out.r.free 0
  have z1 := H2.out.r.free 1
  have z2 := H2.out.r.free 2
  have z3 := H2.out.r.free 3
  have z4 := H2.out.r.free 4
  go_wp2_with fail
  refine bodyPost_ret (v := .tuple #[.agg #[.int .i64 0, .int .i64 0, .string ⟨#[]⟩, .slice none 0 0, .slice none 0 0], .int .i64 12]) (by simp [results, Tryz.results118, go_sem, t0, t1, t2, t3, t4]) rfl ?_
  exact retT_put H2.out.below (by omega) H2.out.r.lt (lies_null _ _)
theorem rmulv_any (v u : V) (cs ds : List Value) (w : World) (S : Nat → Prop) (hS : ∀ b, S b → b < w.heap.size) (h : Lies w S v cs) (h' : Lies w S u ds) (hv : valid v = true) (hu : valid u = true)
    (hm : kd v = 6 → kd u = 6 → ∀ W, Below w.heap.size w W → Calls Tryz.prog 123 #[.agg cs.toArray, .agg ds.toArray] W fun e w' => Below W.heap.size W w' ∧ ∃ qs : List Value, e = .returned (.agg qs.toArray) ∧ Lies w' (fun b => S b ∨ (W.heap.size ≤ b ∧ b < w'.heap.size)) (mgV v u) qs) :
    Calls Tryz.prog 118 #[.agg cs.toArray, .agg ds.toArray] w (RetT S (mulR v u).1 (mulR v u).2 w) := by
  have hml := fun (h6 : kd v = 6) (h62 : kd u = 6) => mrg_lim u v hv hu h6 h62
  obtain ⟨k, n, s, ks, es⟩ := v
  obtain ⟨k2, n2, s2, ks2, es2⟩ := u
  obtain ⟨A, a, B, b, xs, rfl, _⟩ := lies_open h
  obtain ⟨A2, a2, B2, b2', ys, rfl, _⟩ := lies_open h'
  have hp := valid_parts hv
  have hp2 := valid_parts hu
  have hd : mulR (V.mk k n s ks es) (V.mk k2 n2 s2 ks2 es2) = if k = 3 ∧ k2 = 3 then (numV (wrap64 (n * n2)), 0) else if k = 4 ∧ k2 = 3 then repR s n2 else if k = 3 ∧ k2 = 4 then repR s2 n else if k = 6 ∧ k2 = 6 then mrg (V.mk k n s ks es) (V.mk k2 n2 s2 ks2 es2) else (vnull, 12) := rfl
  rw [hd]
  clear hd
  by_cases a1 : k = 3 ∧ k2 = 3
  · rw [if_pos a1]
    obtain ⟨rfl, rfl⟩ := a1
    exact rmul_num n n2 s s2 A B A2 B2 _ a _ b _ a2 _ b2' w S hS
  rw [if_neg a1]
  by_cases a2 : k = 4 ∧ k2 = 3
  · rw [if_pos a2]
    obtain ⟨rfl, rfl⟩ := a2
    exact rmul_sn n n2 s s2 A B A2 B2 _ a _ b _ _ _ b2' w S hS _ _ fun W hW => rrep_any S s n2 W hp.1 hp.2.1
  rw [if_neg a2]
  by_cases a3 : k = 3 ∧ k2 = 4
  · rw [if_pos a3]
    obtain ⟨rfl, rfl⟩ := a3
    exact rmul_ns n n2 s s2 A B A2 B2 _ a _ b _ _ _ b2' w S hS _ _ fun W hW => rrep_any S s2 n W hp2.1 hp2.2.1
  rw [if_neg a3]
  by_cases a4 : k = 6 ∧ k2 = 6
  · rw [if_pos a4]
    obtain ⟨rfl, rfl⟩ := a4
    rw [hml rfl rfl]
    exact rmul_obj n n2 s s2 A B A2 B2 _ a _ b _ _ _ b2' w S hS _ fun W hW => hm rfl rfl W hW
  rw [if_neg a4]
  by_cases e4 : k = 4
  · exact rmul_type1 k k2 a1 a4 e4 (fun h9 => a2 ⟨e4, h9⟩) n n2 s s2 A B A2 B2 _ a _ b _ _ _ b2' w S
  · by_cases e3 : k = 3
    · exact rmul_type2 k k2 a1 a4 e3 (fun h9 => a3 ⟨e3, h9⟩) n n2 s s2 A B A2 B2 _ a _ b _ _ _ b2' w S
    · exact rmul_type3 k k2 a1 a4 e4 e3 n n2 s s2 A B A2 B2 _ a _ b _ _ _ b2' w S
end Go.Proofs.YtgdnkankleoaoaaGreatDoor
namespace Go.Proofs.YtgdnkankleoaoaaGreatDoor
open Go.RowKit Go.Sort Go.Lib
set_option maxHeartbeats 4000000 in
set_option maxRecDepth 100000 in
theorem rdiv_zero (n : Int) (s s2 : ByteArray) (A B A2 B2 : Option Addr) (la a lb b la2 a2 lb2 b2 : Nat) (w : World) (S : Nat → Prop) (op : ByteArray) :
    Calls Tryz.prog 119 #[.string op, .agg #[.int .i64 3, .int .i64 n, .string s, .slice A la a, .slice B lb b], .agg #[.int .i64 3, .int .i64 0, .string s2, .slice A2 la2 a2, .slice B2 lb2 b2]] w (RetT S vnull 13 w) := by
  have HB3 : Hid (∀ W : World, Calls Tryz.prog 121 #[.agg #[.int .i64 3, .int .i64 n, .string s, .slice A la a, .slice B lb b], .agg #[.int .i64 3, .int .i64 0, .string s2, .slice A2 la2 a2, .slice B2 lb2 b2], .int .i64 3] W fun e w' => e = .returned (.bool true) ∧ Below W.heap.size W w') := Lib.hid fun W => rboth_is 3 _ _ true (by decide) _ _ s s2 A B A2 B2 la a lb b la2 a2 lb2 b2 W
  have H0 := Lib.hid (B3.start w #[.int .i64 3, .int .i64 n, .string s, .slice A la a, .slice B lb b] #[.int .i64 3, .int .i64 0, .string s2, .slice A2 la2 a2, .slice B2 lb2 b2])
  go_enter Tryz.func119, Tryz.ntmps119
  go_wp2_with fail
  refine (HB3.out _).mono ?_
  rintro e1 w1 ⟨rfl, hb1⟩
  have H1 := Lib.hid (H0.out.next hb1)
  clear hb1
  obtain ⟨x0, x1, x2, x3, x4⟩ := box5 H1.out.x
  obtain ⟨y0, y1, y2, y3, y4⟩ := box5 H1.out.y
  obtain ⟨t0, t1, t2, t3, t4⟩ := box5 H1.out.r
  have z0 := H1.out.r.free 0
  have z1 := H1.out.r.free 1
  have z2 := H1.out.r.free 2
  have z3 := H1.out.r.free 3
  have z4 := H1.out.r.free 4
  go_wp2_with fail
  refine bodyPost_ret (v := .tuple #[.agg #[.int .i64 0, .int .i64 0, .string ⟨#[]⟩, .slice none 0 0, .slice none 0 0], .int .i64 13]) (by simp [results, Tryz.results119, go_sem, t0, t1, t2, t3, t4]) rfl ?_
  exact retT_put H1.out.below (by omega) H1.out.r.lt (lies_null _ _)
set_option maxHeartbeats 4000000 in
set_option maxRecDepth 100000 in
theorem rdiv_m1r (n : Int) (s s2 : ByteArray) (A B A2 B2 : Option Addr) (la a lb b la2 a2 lb2 b2 : Nat) (w : World) (S : Nat → Prop) :
    Calls Tryz.prog 119 #[.string ⟨#[37]⟩, .agg #[.int .i64 3, .int .i64 n, .string s, .slice A la a, .slice B lb b], .agg #[.int .i64 3, .int .i64 (-1), .string s2, .slice A2 la2 a2, .slice B2 lb2 b2]] w (RetT S (numV 0) 0 w) := by
  have HB3 : Hid (∀ W : World, Calls Tryz.prog 121 #[.agg #[.int .i64 3, .int .i64 n, .string s, .slice A la a, .slice B lb b], .agg #[.int .i64 3, .int .i64 (-1), .string s2, .slice A2 la2 a2, .slice B2 lb2 b2], .int .i64 3] W fun e w' => e = .returned (.bool true) ∧ Below W.heap.size W w') := Lib.hid fun W => rboth_is 3 _ _ true (by decide) _ _ s s2 A B A2 B2 la a lb b la2 a2 lb2 b2 W
  have H0 := Lib.hid (B3.start w #[.int .i64 3, .int .i64 n, .string s, .slice A la a, .slice B lb b] #[.int .i64 3, .int .i64 (-1), .string s2, .slice A2 la2 a2, .slice B2 lb2 b2])
  have HN := Lib.hid (fun (n : Int) W => rnum_any n W)
  go_enter Tryz.func119, Tryz.ntmps119
  go_wp2_with fail
  refine (HB3.out _).mono ?_
  rintro e1 w1 ⟨rfl, hb1⟩
  have H1 := Lib.hid (H0.out.next hb1)
  clear hb1
  obtain ⟨x0, x1, x2, x3, x4⟩ := box5 H1.out.x
  obtain ⟨y0, y1, y2, y3, y4⟩ := box5 H1.out.y
  go_wp2_with fail
  refine (HB3.out _).mono ?_
  rintro e2 w2 ⟨rfl, hb2⟩
  have H2 := Lib.hid (H1.out.next hb2)
  clear hb2
  clear x0 x1 x2 x3 x4 y0 y1 y2 y3 y4
  obtain ⟨x0, x1, x2, x3, x4⟩ := box5 H2.out.x
  obtain ⟨y0, y1, y2, y3, y4⟩ := box5 H2.out.y
  go_wp2_with fail
  refine (HN.out _ _).mono ?_
  rintro e3 w3 ⟨rfl, hb3⟩
  have H3 := Lib.hid (H2.out.next hb3)
  clear hb3
  clear x0 x1 x2 x3 x4 y0 y1 y2 y3 y4
  obtain ⟨t0, t1, t2, t3, t4⟩ := box5 H3.out.r
  have z0 := H3.out.r.free 0
  have z1 := H3.out.r.free 1
  have z2 := H3.out.r.free 2
  have z3 := H3.out.r.free 3
  have z4 := H3.out.r.free 4
  go_wp2_with fail
  refine bodyPost_ret (v := .tuple #[.agg #[.int .i64 3, .int .i64 (0), .string ⟨#[]⟩, .slice none 0 0, .slice none 0 0], .int .i64 0]) (by simp [results, Tryz.results119, go_sem, t0, t1, t2, t3, t4]) rfl ?_
  exact retT_put H3.out.below (by omega) H3.out.r.lt (lies_numv _ _ _)
set_option maxHeartbeats 4000000 in
set_option maxRecDepth 100000 in
theorem rdiv_m1q (n : Int) (s s2 : ByteArray) (A B A2 B2 : Option Addr) (la a lb b la2 a2 lb2 b2 : Nat) (w : World) (S : Nat → Prop) :
    Calls Tryz.prog 119 #[.string ⟨#[47]⟩, .agg #[.int .i64 3, .int .i64 n, .string s, .slice A la a, .slice B lb b], .agg #[.int .i64 3, .int .i64 (-1), .string s2, .slice A2 la2 a2, .slice B2 lb2 b2]] w (RetT S (numV (wrap64 (-n))) 0 w) := by
  rw [← w64_neg]
  have HB3 : Hid (∀ W : World, Calls Tryz.prog 121 #[.agg #[.int .i64 3, .int .i64 n, .string s, .slice A la a, .slice B lb b], .agg #[.int .i64 3, .int .i64 (-1), .string s2, .slice A2 la2 a2, .slice B2 lb2 b2], .int .i64 3] W fun e w' => e = .returned (.bool true) ∧ Below W.heap.size W w') := Lib.hid fun W => rboth_is 3 _ _ true (by decide) _ _ s s2 A B A2 B2 la a lb b la2 a2 lb2 b2 W
  have H0 := Lib.hid (B3.start w #[.int .i64 3, .int .i64 n, .string s, .slice A la a, .slice B lb b] #[.int .i64 3, .int .i64 (-1), .string s2, .slice A2 la2 a2, .slice B2 lb2 b2])
  have HN := Lib.hid (fun (n : Int) W => rnum_any n W)
  go_enter Tryz.func119, Tryz.ntmps119
  go_wp2_with fail
  refine (HB3.out _).mono ?_
  rintro e1 w1 ⟨rfl, hb1⟩
  have H1 := Lib.hid (H0.out.next hb1)
  clear hb1
  obtain ⟨x0, x1, x2, x3, x4⟩ := box5 H1.out.x
  obtain ⟨y0, y1, y2, y3, y4⟩ := box5 H1.out.y
  go_wp2_with fail
  refine (HB3.out _).mono ?_
  rintro e2 w2 ⟨rfl, hb2⟩
  have H2 := Lib.hid (H1.out.next hb2)
  clear hb2
  clear x0 x1 x2 x3 x4 y0 y1 y2 y3 y4
  obtain ⟨x0, x1, x2, x3, x4⟩ := box5 H2.out.x
  obtain ⟨y0, y1, y2, y3, y4⟩ := box5 H2.out.y
  go_wp2_with fail
  refine (HN.out _ _).mono ?_
  rintro e3 w3 ⟨rfl, hb3⟩
  have H3 := Lib.hid (H2.out.next hb3)
  clear hb3
  clear x0 x1 x2 x3 x4 y0 y1 y2 y3 y4
  obtain ⟨t0, t1, t2, t3, t4⟩ := box5 H3.out.r
  have z0 := H3.out.r.free 0
  have z1 := H3.out.r.free 1
  have z2 := H3.out.r.free 2
  have z3 := H3.out.r.free 3
  have z4 := H3.out.r.free 4
  go_wp2_with fail
  refine bodyPost_ret (v := .tuple #[.agg #[.int .i64 3, .int .i64 (wrap64 (IntKind.u64.wrap (-IntKind.u64.wrap n))), .string ⟨#[]⟩, .slice none 0 0, .slice none 0 0], .int .i64 0]) (by simp [results, Tryz.results119, go_sem, t0, t1, t2, t3, t4]) rfl ?_
  exact retT_put H3.out.below (by omega) H3.out.r.lt (lies_numv _ _ _)
set_option maxHeartbeats 4000000 in
set_option maxRecDepth 100000 in
theorem rdiv_q (n n2 : Int) (s s2 : ByteArray) (A B A2 B2 : Option Addr) (la a lb b la2 a2 lb2 b2 : Nat) (w : World) (S : Nat → Prop) (h0 : ¬ n2 = 0) (h1 : ¬ n2 = -1) :
    Calls Tryz.prog 119 #[.string ⟨#[47]⟩, .agg #[.int .i64 3, .int .i64 n, .string s, .slice A la a, .slice B lb b], .agg #[.int .i64 3, .int .i64 n2, .string s2, .slice A2 la2 a2, .slice B2 lb2 b2]] w (RetT S (numV (wrap64 (Int.tdiv n n2))) 0 w) := by
  have HB3 : Hid (∀ W : World, Calls Tryz.prog 121 #[.agg #[.int .i64 3, .int .i64 n, .string s, .slice A la a, .slice B lb b], .agg #[.int .i64 3, .int .i64 n2, .string s2, .slice A2 la2 a2, .slice B2 lb2 b2], .int .i64 3] W fun e w' => e = .returned (.bool true) ∧ Below W.heap.size W w') := Lib.hid fun W => rboth_is 3 _ _ true (by decide) _ _ s s2 A B A2 B2 la a lb b la2 a2 lb2 b2 W
  have hz : ¬ n2 = 0 := h0
  have hzb : (n2 == 0) = false := by simpa using h0
  have hm : ¬ n2 = -1 := h1
  have hmb : (n2 == -1) = false := by simpa using h1
  have H0 := Lib.hid (B3.start w #[.int .i64 3, .int .i64 n, .string s, .slice A la a, .slice B lb b] #[.int .i64 3, .int .i64 n2, .string s2, .slice A2 la2 a2, .slice B2 lb2 b2])
  have HN := Lib.hid (fun (n : Int) W => rnum_any n W)
  go_enter Tryz.func119, Tryz.ntmps119
  go_wp2_with fail
  refine (HB3.out _).mono ?_
  rintro e1 w1 ⟨rfl, hb1⟩
  have H1 := Lib.hid (H0.out.next hb1)
  clear hb1
  obtain ⟨x0, x1, x2, x3, x4⟩ := box5 H1.out.x
  obtain ⟨y0, y1, y2, y3, y4⟩ := box5 H1.out.y
  go_wp2_with fail
  refine (HB3.out _).mono ?_
  rintro e2 w2 ⟨rfl, hb2⟩
  have H2 := Lib.hid (H1.out.next hb2)
  clear hb2
  clear x0 x1 x2 x3 x4 y0 y1 y2 y3 y4
  obtain ⟨x0, x1, x2, x3, x4⟩ := box5 H2.out.x
  obtain ⟨y0, y1, y2, y3, y4⟩ := box5 H2.out.y
  go_wp2_with fail
  refine (HB3.out _).mono ?_
  rintro e3 w3 ⟨rfl, hb3⟩
  have H3 := Lib.hid (H2.out.next hb3)
  clear hb3
  clear x0 x1 x2 x3 x4 y0 y1 y2 y3 y4
  obtain ⟨x0, x1, x2, x3, x4⟩ := box5 H3.out.x
  obtain ⟨y0, y1, y2, y3, y4⟩ := box5 H3.out.y
  go_wp2_with fail
  refine (HN.out _ _).mono ?_
  rintro e4 w4 ⟨rfl, hb4⟩
  have H4 := Lib.hid (H3.out.next hb4)
  clear hb4
  clear x0 x1 x2 x3 x4 y0 y1 y2 y3 y4
  obtain ⟨t0, t1, t2, t3, t4⟩ := box5 H4.out.r
  have z0 := H4.out.r.free 0
  have z1 := H4.out.r.free 1
  have z2 := H4.out.r.free 2
  have z3 := H4.out.r.free 3
  have z4 := H4.out.r.free 4
  go_wp2_with fail
  refine bodyPost_ret (v := .tuple #[.agg #[.int .i64 3, .int .i64 (wrap64 (Int.tdiv n n2)), .string ⟨#[]⟩, .slice none 0 0, .slice none 0 0], .int .i64 0]) (by simp [results, Tryz.results119, go_sem, t0, t1, t2, t3, t4]) rfl ?_
  exact retT_put H4.out.below (by omega) H4.out.r.lt (lies_numv _ _ _)
set_option maxHeartbeats 4000000 in
set_option maxRecDepth 100000 in
theorem rdiv_r (n n2 : Int) (s s2 : ByteArray) (A B A2 B2 : Option Addr) (la a lb b la2 a2 lb2 b2 : Nat) (w : World) (S : Nat → Prop) (h0 : ¬ n2 = 0) (h1 : ¬ n2 = -1) :
    Calls Tryz.prog 119 #[.string ⟨#[37]⟩, .agg #[.int .i64 3, .int .i64 n, .string s, .slice A la a, .slice B lb b], .agg #[.int .i64 3, .int .i64 n2, .string s2, .slice A2 la2 a2, .slice B2 lb2 b2]] w (RetT S (numV (Int.tmod n n2)) 0 w) := by
  have HB3 : Hid (∀ W : World, Calls Tryz.prog 121 #[.agg #[.int .i64 3, .int .i64 n, .string s, .slice A la a, .slice B lb b], .agg #[.int .i64 3, .int .i64 n2, .string s2, .slice A2 la2 a2, .slice B2 lb2 b2], .int .i64 3] W fun e w' => e = .returned (.bool true) ∧ Below W.heap.size W w') := Lib.hid fun W => rboth_is 3 _ _ true (by decide) _ _ s s2 A B A2 B2 la a lb b la2 a2 lb2 b2 W
  have hz : ¬ n2 = 0 := h0
  have hzb : (n2 == 0) = false := by simpa using h0
  have hm : ¬ n2 = -1 := h1
  have hmb : (n2 == -1) = false := by simpa using h1
  have H0 := Lib.hid (B3.start w #[.int .i64 3, .int .i64 n, .string s, .slice A la a, .slice B lb b] #[.int .i64 3, .int .i64 n2, .string s2, .slice A2 la2 a2, .slice B2 lb2 b2])
  have HN := Lib.hid (fun (n : Int) W => rnum_any n W)
  go_enter Tryz.func119, Tryz.ntmps119
  go_wp2_with fail
  refine (HB3.out _).mono ?_
  rintro e1 w1 ⟨rfl, hb1⟩
  have H1 := Lib.hid (H0.out.next hb1)
  clear hb1
  obtain ⟨x0, x1, x2, x3, x4⟩ := box5 H1.out.x
  obtain ⟨y0, y1, y2, y3, y4⟩ := box5 H1.out.y
  go_wp2_with fail
  refine (HB3.out _).mono ?_
  rintro e2 w2 ⟨rfl, hb2⟩
  have H2 := Lib.hid (H1.out.next hb2)
  clear hb2
  clear x0 x1 x2 x3 x4 y0 y1 y2 y3 y4
  obtain ⟨x0, x1, x2, x3, x4⟩ := box5 H2.out.x
  obtain ⟨y0, y1, y2, y3, y4⟩ := box5 H2.out.y
  go_wp2_with fail
  refine (HB3.out _).mono ?_
  rintro e3 w3 ⟨rfl, hb3⟩
  have H3 := Lib.hid (H2.out.next hb3)
  clear hb3
  clear x0 x1 x2 x3 x4 y0 y1 y2 y3 y4
  obtain ⟨x0, x1, x2, x3, x4⟩ := box5 H3.out.x
  obtain ⟨y0, y1, y2, y3, y4⟩ := box5 H3.out.y
  go_wp2_with fail
  refine (HB3.out _).mono ?_
  rintro e4 w4 ⟨rfl, hb4⟩
  have H4 := Lib.hid (H3.out.next hb4)
  clear hb4
  clear x0 x1 x2 x3 x4 y0 y1 y2 y3 y4
  obtain ⟨x0, x1, x2, x3, x4⟩ := box5 H4.out.x
  obtain ⟨y0, y1, y2, y3, y4⟩ := box5 H4.out.y
  go_wp2_with fail
  refine (HN.out _ _).mono ?_
  rintro e5 w5 ⟨rfl, hb5⟩
  have H5 := Lib.hid (H4.out.next hb5)
  clear hb5
  clear x0 x1 x2 x3 x4 y0 y1 y2 y3 y4
  obtain ⟨t0, t1, t2, t3, t4⟩ := box5 H5.out.r
  have z0 := H5.out.r.free 0
  have z1 := H5.out.r.free 1
  have z2 := H5.out.r.free 2
  have z3 := H5.out.r.free 3
  have z4 := H5.out.r.free 4
  go_wp2_with fail
  refine bodyPost_ret (v := .tuple #[.agg #[.int .i64 3, .int .i64 (Int.tmod n n2), .string ⟨#[]⟩, .slice none 0 0, .slice none 0 0], .int .i64 0]) (by simp [results, Tryz.results119, go_sem, t0, t1, t2, t3, t4]) rfl ?_
  exact retT_put H5.out.below (by omega) H5.out.r.lt (lies_numv _ _ _)
set_option maxHeartbeats 4000000 in
set_option maxRecDepth 100000 in
theorem rdiv_str (n n2 : Int) (s s2 : ByteArray) (A B A2 B2 : Option Addr) (la a lb b la2 a2 lb2 b2 : Nat) (w : World) (S : Nat → Prop) (hS : ∀ b, S b → b < w.heap.size) (r : V) (er : Int) (hc : ∀ W, Below w.heap.size w W → Calls Tryz.prog 151 #[.string s, .string s2] W (RetT S r er W)) :
    Calls Tryz.prog 119 #[.string ⟨#[47]⟩, .agg #[.int .i64 4, .int .i64 n, .string s, .slice A la a, .slice B lb b], .agg #[.int .i64 4, .int .i64 n2, .string s2, .slice A2 la2 a2, .slice B2 lb2 b2]] w (RetT S r er w) := by
  have HB3 : Hid (∀ W : World, Calls Tryz.prog 121 #[.agg #[.int .i64 4, .int .i64 n, .string s, .slice A la a, .slice B lb b], .agg #[.int .i64 4, .int .i64 n2, .string s2, .slice A2 la2 a2, .slice B2 lb2 b2], .int .i64 3] W fun e w' => e = .returned (.bool false) ∧ Below W.heap.size W w') := Lib.hid fun W => rboth_is 3 _ _ false (by decide) _ _ s s2 A B A2 B2 la a lb b la2 a2 lb2 b2 W
  have HB4 : Hid (∀ W : World, Calls Tryz.prog 121 #[.agg #[.int .i64 4, .int .i64 n, .string s, .slice A la a, .slice B lb b], .agg #[.int .i64 4, .int .i64 n2, .string s2, .slice A2 la2 a2, .slice B2 lb2 b2], .int .i64 4] W fun e w' => e = .returned (.bool true) ∧ Below W.heap.size W w') := Lib.hid fun W => rboth_is 4 _ _ true (by decide) _ _ s s2 A B A2 B2 la a lb b la2 a2 lb2 b2 W
  have HC := Lib.hid (fun W hW => retT_open (hc W hW))
  clear hc
  have H0 := Lib.hid (B3.start w #[.int .i64 4, .int .i64 n, .string s, .slice A la a, .slice B lb b] #[.int .i64 4, .int .i64 n2, .string s2, .slice A2 la2 a2, .slice B2 lb2 b2])
  go_enter Tryz.func119, Tryz.ntmps119
  go_wp2_with fail
  refine (HB3.out _).mono ?_
  rintro e1 w1 ⟨rfl, hb1⟩
  have H1 := Lib.hid (H0.out.next hb1)
  clear hb1
  obtain ⟨x0, x1, x2, x3, x4⟩ := box5 H1.out.x
  obtain ⟨y0, y1, y2, y3, y4⟩ := box5 H1.out.y
  go_wp2_with fail
  refine (HB3.out _).mono ?_
  rintro e2 w2 ⟨rfl, hb2⟩
  have H2 := Lib.hid (H1.out.next hb2)
  clear hb2
  clear x0 x1 x2 x3 x4 y0 y1 y2 y3 y4
  obtain ⟨x0, x1, x2, x3, x4⟩ := box5 H2.out.x
  obtain ⟨y0, y1, y2, y3, y4⟩ := box5 H2.out.y
  go_wp2_with fail
  refine (HB3.out _).mono ?_
  rintro e3 w3 ⟨rfl, hb3⟩
  have H3 := Lib.hid (H2.out.next hb3)
  clear hb3
  clear x0 x1 x2 x3 x4 y0 y1 y2 y3 y4
  obtain ⟨x0, x1, x2, x3, x4⟩ := box5 H3.out.x
  obtain ⟨y0, y1, y2, y3, y4⟩ := box5 H3.out.y
  go_wp2_with fail
  refine (HB3.out _).mono ?_
  rintro e4 w4 ⟨rfl, hb4⟩
  have H4 := Lib.hid (H3.out.next hb4)
  clear hb4
  clear x0 x1 x2 x3 x4 y0 y1 y2 y3 y4
  obtain ⟨x0, x1, x2, x3, x4⟩ := box5 H4.out.x
  obtain ⟨y0, y1, y2, y3, y4⟩ := box5 H4.out.y
  go_wp2_with fail
  refine (HB4.out _).mono ?_
  rintro e5 w5 ⟨rfl, hb5⟩
  have H5 := Lib.hid (H4.out.next hb5)
  clear hb5
  clear x0 x1 x2 x3 x4 y0 y1 y2 y3 y4
  obtain ⟨x0, x1, x2, x3, x4⟩ := box5 H5.out.x
  obtain ⟨y0, y1, y2, y3, y4⟩ := box5 H5.out.y
  go_wp2_with fail
  refine (HC.out _ H5.out.below).mono ?_
  rintro e6 w6 ⟨rk, rn, rs, rks, res, RA, ra, RC, rc, hrv, rfl, hb6, hl6⟩
  have hsw6 := H5.out.r.lt
  have hsb6 := hb6.size
  have H6 := Lib.hid (H5.out.next hb6)
  have HL := Lib.hid hl6
  clear hb6 hl6 hrv
  clear x0 x1 x2 x3 x4 y0 y1 y2 y3 y4
  obtain ⟨t0, t1, t2, t3, t4⟩ := box5 H6.out.r
  have z0 := H6.out.r.free 0
  have z1 := H6.out.r.free 1
  have z2 := H6.out.r.free 2
  have z3 := H6.out.r.free 3
  have z4 := H6.out.r.free 4
  go_wp2_with fail
  refine bodyPost_ret (v := .tuple #[.agg #[.int .i64 rk, .int .i64 rn, .string rs, .slice RA rks.length ra, .slice RC res.length rc], .int .i64 er]) (by simp [results, Tryz.results119, go_sem, t0, t1, t2, t3, t4]) rfl ?_
  refine retT_put H6.out.below (by omega) H6.out.r.lt (HL.out.move fun b hb => ⟨?_, rfl⟩)
  rcases hb with h9 | h9
  · have := hS b h9
    exact ⟨.inl h9, by omega⟩
  · exact ⟨.inr ⟨by omega, h9.2⟩, by omega⟩
set_option maxHeartbeats 4000000 in
set_option maxRecDepth 100000 in
theorem rdiv_type1 (op : ByteArray) (k k2 : Int) (n n2 : Int) (s s2 : ByteArray) (A B A2 B2 : Option Addr) (la a lb b la2 a2 lb2 b2 : Nat) (w : World) (S : Nat → Prop) (h33 : ¬ (k = 3 ∧ k2 = 3)) (h44 : ¬ (k = 4 ∧ k2 = 4)) :
    Calls Tryz.prog 119 #[.string op, .agg #[.int .i64 k, .int .i64 n, .string s, .slice A la a, .slice B lb b], .agg #[.int .i64 k2, .int .i64 n2, .string s2, .slice A2 la2 a2, .slice B2 lb2 b2]] w (RetT S vnull 12 w) := by
  have q3 : ((k == 3) && (k2 == 3)) = false := by simpa using h33
  have HB3 : Hid (∀ W : World, Calls Tryz.prog 121 #[.agg #[.int .i64 k, .int .i64 n, .string s, .slice A la a, .slice B lb b], .agg #[.int .i64 k2, .int .i64 n2, .string s2, .slice A2 la2 a2, .slice B2 lb2 b2], .int .i64 3] W fun e w' => e = .returned (.bool false) ∧ Below W.heap.size W w') := Lib.hid fun W => rboth_is 3 _ _ false q3 _ _ s s2 A B A2 B2 la a lb b la2 a2 lb2 b2 W
  have q4 : ((k == 4) && (k2 == 4)) = false := by simpa using h44
  have HB4 : Hid (∀ W : World, Calls Tryz.prog 121 #[.agg #[.int .i64 k, .int .i64 n, .string s, .slice A la a, .slice B lb b], .agg #[.int .i64 k2, .int .i64 n2, .string s2, .slice A2 la2 a2, .slice B2 lb2 b2], .int .i64 4] W fun e w' => e = .returned (.bool false) ∧ Below W.heap.size W w') := Lib.hid fun W => rboth_is 4 _ _ false q4 _ _ s s2 A B A2 B2 la a lb b la2 a2 lb2 b2 W
  clear q3 q4 h33
  have H0 := Lib.hid (B3.start w #[.int .i64 k, .int .i64 n, .string s, .slice A la a, .slice B lb b] #[.int .i64 k2, .int .i64 n2, .string s2, .slice A2 la2 a2, .slice B2 lb2 b2])
  go_enter Tryz.func119, Tryz.ntmps119
  go_wp2_with fail
  refine (HB3.out _).mono ?_
  rintro e1 w1 ⟨rfl, hb1⟩
  have H1 := Lib.hid (H0.out.next hb1)
  clear hb1
  obtain ⟨x0, x1, x2, x3, x4⟩ := box5 H1.out.x
  obtain ⟨y0, y1, y2, y3, y4⟩ := box5 H1.out.y
  go_wp2_with fail
  refine (HB3.out _).mono ?_
  rintro e2 w2 ⟨rfl, hb2⟩
  have H2 := Lib.hid (H1.out.next hb2)
  clear hb2
  clear x0 x1 x2 x3 x4 y0 y1 y2 y3 y4
  obtain ⟨x0, x1, x2, x3, x4⟩ := box5 H2.out.x
  obtain ⟨y0, y1, y2, y3, y4⟩ := box5 H2.out.y
  go_wp2_with fail
  refine (HB3.out _).mono ?_
  rintro e3 w3 ⟨rfl, hb3⟩
  have H3 := Lib.hid (H2.out.next hb3)
  clear hb3
  clear x0 x1 x2 x3 x4 y0 y1 y2 y3 y4
  obtain ⟨x0, x1, x2, x3, x4⟩ := box5 H3.out.x
  obtain ⟨y0, y1, y2, y3, y4⟩ := box5 H3.out.y
  go_wp2_with fail
  refine (HB3.out _).mono ?_
  rintro e4 w4 ⟨rfl, hb4⟩
  have H4 := Lib.hid (H3.out.next hb4)
  clear hb4
  clear x0 x1 x2 x3 x4 y0 y1 y2 y3 y4
  obtain ⟨x0, x1, x2, x3, x4⟩ := box5 H4.out.x
  obtain ⟨y0, y1, y2, y3, y4⟩ := box5 H4.out.y
  go_wp2_with fail
  refine (HB4.out _).mono ?_
  rintro e5 w5 ⟨rfl, hb5⟩
  have H5 := Lib.hid (H4.out.next hb5)
  clear hb5
  clear x0 x1 x2 x3 x4 y0 y1 y2 y3 y4
  obtain ⟨x0, x1, x2, x3, x4⟩ := box5 H5.out.x
  obtain ⟨y0, y1, y2, y3, y4⟩ := box5 H5.out.y
  clear x0 x1 x2 x3 x4 y0 y1 y2 y3 y4
  obtain ⟨t0, t1, t2, t3, t4⟩ := box5 H5.out.r
  have z0 := H5.out.r.free 0
  have z1 := H5.out.r.free 1
  have z2 := H5.out.r.free 2
  have z3 := H5.out.r.free 3
  have z4 := H5.out.r.free 4
  go_wp2_with fail
  refine bodyPost_ret (v := .tuple #[.agg #[.int .i64 0, .int .i64 0, .string ⟨#[]⟩, .slice none 0 0, .slice none 0 0], .int .i64 12]) (by simp [results, Tryz.results119, go_sem, t0, t1, t2, t3, t4]) rfl ?_
  exact retT_put H5.out.below (by omega) H5.out.r.lt (lies_null _ _)
set_option maxHeartbeats 4000000 in
set_option maxRecDepth 100000 in
theorem rdiv_type2 (n n2 : Int) (s s2 : ByteArray) (A B A2 B2 : Option Addr) (la a lb b la2 a2 lb2 b2 : Nat) (w : World) (S : Nat → Prop) :
    Calls Tryz.prog 119 #[.string ⟨#[37]⟩, .agg #[.int .i64 4, .int .i64 n, .string s, .slice A la a, .slice B lb b], .agg #[.int .i64 4, .int .i64 n2, .string s2, .slice A2 la2 a2, .slice B2 lb2 b2]] w (RetT S vnull 12 w) := by
  have HB3 : Hid (∀ W : World, Calls Tryz.prog 121 #[.agg #[.int .i64 4, .int .i64 n, .string s, .slice A la a, .slice B lb b], .agg #[.int .i64 4, .int .i64 n2, .string s2, .slice A2 la2 a2, .slice B2 lb2 b2], .int .i64 3] W fun e w' => e = .returned (.bool false) ∧ Below W.heap.size W w') := Lib.hid fun W => rboth_is 3 _ _ false (by decide) _ _ s s2 A B A2 B2 la a lb b la2 a2 lb2 b2 W
  have HB4 : Hid (∀ W : World, Calls Tryz.prog 121 #[.agg #[.int .i64 4, .int .i64 n, .string s, .slice A la a, .slice B lb b], .agg #[.int .i64 4, .int .i64 n2, .string s2, .slice A2 la2 a2, .slice B2 lb2 b2], .int .i64 4] W fun e w' => e = .returned (.bool true) ∧ Below W.heap.size W w') := Lib.hid fun W => rboth_is 4 _ _ true (by decide) _ _ s s2 A B A2 B2 la a lb b la2 a2 lb2 b2 W
  have H0 := Lib.hid (B3.start w #[.int .i64 4, .int .i64 n, .string s, .slice A la a, .slice B lb b] #[.int .i64 4, .int .i64 n2, .string s2, .slice A2 la2 a2, .slice B2 lb2 b2])
  go_enter Tryz.func119, Tryz.ntmps119
  go_wp2_with fail
  refine (HB3.out _).mono ?_
  rintro e1 w1 ⟨rfl, hb1⟩
  have H1 := Lib.hid (H0.out.next hb1)
  clear hb1
  obtain ⟨x0, x1, x2, x3, x4⟩ := box5 H1.out.x
  obtain ⟨y0, y1, y2, y3, y4⟩ := box5 H1.out.y
  go_wp2_with fail
  refine (HB3.out _).mono ?_
  rintro e2 w2 ⟨rfl, hb2⟩
  have H2 := Lib.hid (H1.out.next hb2)
  clear hb2
  clear x0 x1 x2 x3 x4 y0 y1 y2 y3 y4
  obtain ⟨x0, x1, x2, x3, x4⟩ := box5 H2.out.x
  obtain ⟨y0, y1, y2, y3, y4⟩ := box5 H2.out.y
  go_wp2_with fail
  refine (HB3.out _).mono ?_
  rintro e3 w3 ⟨rfl, hb3⟩
  have H3 := Lib.hid (H2.out.next hb3)
  clear hb3
  clear x0 x1 x2 x3 x4 y0 y1 y2 y3 y4
  obtain ⟨x0, x1, x2, x3, x4⟩ := box5 H3.out.x
  obtain ⟨y0, y1, y2, y3, y4⟩ := box5 H3.out.y
  go_wp2_with fail
  refine (HB3.out _).mono ?_
  rintro e4 w4 ⟨rfl, hb4⟩
  have H4 := Lib.hid (H3.out.next hb4)
  clear hb4
  clear x0 x1 x2 x3 x4 y0 y1 y2 y3 y4
  obtain ⟨x0, x1, x2, x3, x4⟩ := box5 H4.out.x
  obtain ⟨y0, y1, y2, y3, y4⟩ := box5 H4.out.y
  go_wp2_with fail
  refine (HB4.out _).mono ?_
  rintro e5 w5 ⟨rfl, hb5⟩
  have H5 := Lib.hid (H4.out.next hb5)
  clear hb5
  clear x0 x1 x2 x3 x4 y0 y1 y2 y3 y4
  obtain ⟨x0, x1, x2, x3, x4⟩ := box5 H5.out.x
  obtain ⟨y0, y1, y2, y3, y4⟩ := box5 H5.out.y
  clear x0 x1 x2 x3 x4 y0 y1 y2 y3 y4
  obtain ⟨t0, t1, t2, t3, t4⟩ := box5 H5.out.r
  have z0 := H5.out.r.free 0
  have z1 := H5.out.r.free 1
  have z2 := H5.out.r.free 2
  have z3 := H5.out.r.free 3
  have z4 := H5.out.r.free 4
  go_wp2_with fail
  refine bodyPost_ret (v := .tuple #[.agg #[.int .i64 0, .int .i64 0, .string ⟨#[]⟩, .slice none 0 0, .slice none 0 0], .int .i64 12]) (by simp [results, Tryz.results119, go_sem, t0, t1, t2, t3, t4]) rfl ?_
  exact retT_put H5.out.below (by omega) H5.out.r.lt (lies_null _ _)
theorem rdivv_any (v u : V) (cs ds : List Value) (w : World) (S : Nat → Prop) (hS : ∀ b, S b → b < w.heap.size) (h : Lies w S v cs) (h' : Lies w S u ds) (hv : valid v = true) (hu : valid u = true) :
    Calls Tryz.prog 119 #[.string ⟨#[47]⟩, .agg cs.toArray, .agg ds.toArray] w (RetT S (divR v u).1 (divR v u).2 w) := by
  obtain ⟨k, n, s, ks, es⟩ := v
  obtain ⟨k2, n2, s2, ks2, es2⟩ := u
  obtain ⟨A, a, B, b, xs, rfl, _⟩ := lies_open h
  obtain ⟨A2, a2, B2, b2', ys, rfl, _⟩ := lies_open h'
  have hp := valid_parts hv
  have hp2 := valid_parts hu
  have hd : divR (V.mk k n s ks es) (V.mk k2 n2 s2 ks2 es2) = if k = 3 ∧ k2 = 3 then (if n2 = 0 then (vnull, 13) else (numV (wrap64 (Int.tdiv n n2)), 0)) else if k = 4 ∧ k2 = 4 then (arrR ((splitL s s2).map strV), arrE ((splitL s s2).map strV)) else (vnull, 12) := rfl
  rw [hd]
  clear hd
  by_cases c3 : k = 3 ∧ k2 = 3
  · rw [if_pos c3]
    obtain ⟨rfl, rfl⟩ := c3
    by_cases h0 : n2 = 0
    · rw [if_pos h0]
      subst h0
      exact rdiv_zero n s s2 A B A2 B2 _ a _ b _ a2 _ b2' w S _
    · rw [if_neg h0]
      by_cases h1 : n2 = -1
      · subst h1
        rw [show Int.tdiv n (-1) = -n from by simp [Int.tdiv_neg]]
        exact rdiv_m1q n s s2 A B A2 B2 _ a _ b _ a2 _ b2' w S
      · exact rdiv_q n n2 s s2 A B A2 B2 _ a _ b _ a2 _ b2' w S h0 h1
  rw [if_neg c3]
  by_cases c4 : k = 4 ∧ k2 = 4
  · rw [if_pos c4]
    obtain ⟨rfl, rfl⟩ := c4
    exact rdiv_str n n2 s s2 A B A2 B2 _ a _ b _ a2 _ b2' w S hS _ _ fun W hW => rstrings_any S s s2 W (by have := hp.1; omega) (by have := hp2.1; omega) (by unfold splitB?; rw [hp.2.1, hp2.2.1]; rfl)
  rw [if_neg c4]
  exact rdiv_type1 _ k k2 n n2 s s2 A B A2 B2 _ a _ b _ a2 _ b2' w S c3 c4
theorem rremv_any (v u : V) (cs ds : List Value) (w : World) (S : Nat → Prop) (hS : ∀ b, S b → b < w.heap.size) (h : Lies w S v cs) (h' : Lies w S u ds) (hv : valid v = true) (hu : valid u = true) :
    Calls Tryz.prog 119 #[.string ⟨#[37]⟩, .agg cs.toArray, .agg ds.toArray] w (RetT S (remR v u).1 (remR v u).2 w) := by
  obtain ⟨k, n, s, ks, es⟩ := v
  obtain ⟨k2, n2, s2, ks2, es2⟩ := u
  obtain ⟨A, a, B, b, xs, rfl, _⟩ := lies_open h
  obtain ⟨A2, a2, B2, b2', ys, rfl, _⟩ := lies_open h'
  have hp := valid_parts hv
  have hp2 := valid_parts hu
  have hd : remR (V.mk k n s ks es) (V.mk k2 n2 s2 ks2 es2) = if k = 3 then (if k2 = 3 then (if n2 = 0 then (vnull, 13) else (numV (Int.tmod n n2), 0)) else (vnull, 12)) else (vnull, 12) := rfl
  have hd2 : (if k = 3 then (if k2 = 3 then (if n2 = 0 then (vnull, 13) else (numV (Int.tmod n n2), 0)) else (vnull, 12)) else (vnull, 12) : V × Int) = if k = 3 ∧ k2 = 3 then (if n2 = 0 then (vnull, 13) else (numV (Int.tmod n n2), 0)) else (vnull, 12) := by
    by_cases h3 : k = 3 <;> by_cases h4 : k2 = 3 <;> simp [h3, h4]
  rw [hd, hd2]
  clear hd hd2
  by_cases c3 : k = 3 ∧ k2 = 3
  · rw [if_pos c3]
    obtain ⟨rfl, rfl⟩ := c3
    by_cases h0 : n2 = 0
    · rw [if_pos h0]
      subst h0
      exact rdiv_zero n s s2 A B A2 B2 _ a _ b _ a2 _ b2' w S _
    · rw [if_neg h0]
      by_cases h1 : n2 = -1
      · subst h1
        rw [show Int.tmod n (-1) = 0 from by simp [Int.tmod_neg]]
        exact rdiv_m1r n s s2 A B A2 B2 _ a _ b _ a2 _ b2' w S
      · exact rdiv_r n n2 s s2 A B A2 B2 _ a _ b _ a2 _ b2' w S h0 h1
  rw [if_neg c3]
  by_cases c4 : k = 4 ∧ k2 = 4
  · obtain ⟨rfl, rfl⟩ := c4
    exact rdiv_type2 n n2 s s2 A B A2 B2 _ a _ b _ a2 _ b2' w S
  · exact rdiv_type1 _ k k2 n n2 s s2 A B A2 B2 _ a _ b _ a2 _ b2' w S c3 c4
end Go.Proofs.YtgdnkankleoaoaaGreatDoor

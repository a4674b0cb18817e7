/- The laws sanity check (what the fitted text leaves out). ArithMerge: what its calls hand back, and the regions that lay a looked-up value's box. -/
import Derived.Test.YtjafmdngbphacaaGreatDoorM40
import Derived.Test.YtjafmdngbphacaaGreatDoorM38
import Derived.Test.YtjafmdngbphacaaGreatDoorM42
import Derived.Test.YtjafmdngbphacaaGreatDoorM46
import Derived.Deep.RegionHeld3
set_option linter.unusedVariables false
set_option linter.unusedSimpArgs false
namespace Go.Proofs.YtjafmdngbphacaaGreatDoor
open Go.RowKit Go.Sort
set_option maxHeartbeats 4000000 in
set_option maxRecDepth 100000 in
theorem div_num (n n2 : Int) (s s2 : ByteArray) (A B A2 B2 : Option Addr) (la a lb b la2 a2 lb2 b2 : Nat) (w : World) (h0 : n2 ≠ 0) :
    Calls Tryz.prog 72 #[.agg #[.int .i64 3, .int .i64 n, .string s, .slice A la a, .slice B lb b], .agg #[.int .i64 3, .int .i64 n2, .string s2, .slice A2 la2 a2, .slice B2 lb2 b2]] w (RetPost (numV (wrap64 (Int.tdiv n n2))) 0 w) := by
  have EQ := eq_pair
  have hn := Lib.hid (fun (n : Int) W => num_any n W)
  have H0 := Lib.hid (B3.start w #[.int .i64 3, .int .i64 n, .string s, .slice A la a, .slice B lb b] #[.int .i64 3, .int .i64 n2, .string s2, .slice A2 la2 a2, .slice B2 lb2 b2])
  have hz : ¬ n2 = 0 := h0
  have hzb : (n2 == 0) = false := by simpa using h0
  go_enter Tryz.func72, Tryz.ntmps72
  go_wp2_with fail
  refine (hn.out _ _).mono ?_
  rintro e1 w1 ⟨rfl, hb1⟩
  have H1 := Lib.hid (H0.out.next hb1)
  obtain ⟨t0, t1, t2, t3, t4⟩ := box5 H1.out.r
  have z0 := H1.out.r.free 0
  have z1 := H1.out.r.free 1
  have z2 := H1.out.r.free 2
  have z3 := H1.out.r.free 3
  have z4 := H1.out.r.free 4
  clear hb1
  go_wp2_with fail
  refine bodyPost_ret (v := .tuple #[.agg #[.int .i64 3, .int .i64 (wrap64 (Int.tdiv n n2)), .string ⟨#[]⟩, .slice none 0 0, .slice none 0 0], .int .i64 0]) (by simp [results, Tryz.results72, go_sem, t0, t1, t2, t3, t4]) rfl ?_
  exact ret_put H1.out.below (by omega) H1.out.r.lt (lies_numv _ _ _)
set_option maxHeartbeats 4000000 in
set_option maxRecDepth 100000 in
theorem rem_num (n n2 : Int) (s s2 : ByteArray) (A B A2 B2 : Option Addr) (la a lb b la2 a2 lb2 b2 : Nat) (w : World) (h0 : n2 ≠ 0) :
    Calls Tryz.prog 73 #[.agg #[.int .i64 3, .int .i64 n, .string s, .slice A la a, .slice B lb b], .agg #[.int .i64 3, .int .i64 n2, .string s2, .slice A2 la2 a2, .slice B2 lb2 b2]] w (RetPost (numV (Int.tmod n n2)) 0 w) := by
  have EQ := eq_pair
  have hn := Lib.hid (fun (n : Int) W => num_any n W)
  have H0 := Lib.hid (B3.start w #[.int .i64 3, .int .i64 n, .string s, .slice A la a, .slice B lb b] #[.int .i64 3, .int .i64 n2, .string s2, .slice A2 la2 a2, .slice B2 lb2 b2])
  have hz : ¬ n2 = 0 := h0
  have hzb : (n2 == 0) = false := by simpa using h0
  go_enter Tryz.func73, Tryz.ntmps73
  go_wp2_with fail
  refine (hn.out _ _).mono ?_
  rintro e1 w1 ⟨rfl, hb1⟩
  have H1 := Lib.hid (H0.out.next hb1)
  obtain ⟨t0, t1, t2, t3, t4⟩ := box5 H1.out.r
  have z0 := H1.out.r.free 0
  have z1 := H1.out.r.free 1
  have z2 := H1.out.r.free 2
  have z3 := H1.out.r.free 3
  have z4 := H1.out.r.free 4
  clear hb1
  go_wp2_with fail
  refine bodyPost_ret (v := .tuple #[.agg #[.int .i64 3, .int .i64 (Int.tmod n n2), .string ⟨#[]⟩, .slice none 0 0, .slice none 0 0], .int .i64 0]) (by simp [results, Tryz.results73, go_sem, t0, t1, t2, t3, t4]) rfl ?_
  exact ret_put H1.out.below (by omega) H1.out.r.lt (lies_numv _ _ _)
theorem below_dn (w : World) (n : Nat) : Below w.heap.size w (w.drewN n) := ⟨rfl, rfl, rfl, Nat.le_refl _, fun _ _ => rfl⟩
/-- A number that a call hands back. -/
theorem num_open {f : FuncId} {args : Array Value} {w : World} {x err : Int} (h : Calls Tryz.prog f args w (RetPost (numV x) err w)) :
    Calls Tryz.prog f args w fun e w' => ∃ (A : Option Addr) (a : Nat) (B : Option Addr) (b : Nat), e = .returned (.tuple #[.agg #[.int .i64 3, .int .i64 x, .string ⟨#[]⟩, .slice A 0 a, .slice B 0 b], .int .i64 err]) ∧ Below w.heap.size w w' ∧
      Lies w' (· < w'.heap.size) (numV x) [.int .i64 3, .int .i64 x, .string ⟨#[]⟩, .slice A 0 a, .slice B 0 b] := by
  refine h.mono fun e w' hp => ?_
  obtain ⟨hb, ds, rfl, hl⟩ := hp
  have hl2 := hl
  unfold numV at hl2
  obtain ⟨A, a, B, b, xs, rfl, _⟩ := lies_open hl2
  exact ⟨A, a, B, b, rfl, hb, hl.move fun b hb => ⟨hb.2, rfl⟩⟩
theorem nb_div (n n2 : Int) (h0 : n2 ≠ 0) (cs ds : List Value) (w : World) (h : Lies w (· < w.heap.size) (numV n) cs) (h' : Lies w (· < w.heap.size) (numV n2) ds) : Calls Tryz.prog 15 #[.string ⟨#[47]⟩, .agg cs.toArray, .agg ds.toArray] w (RetPost (numV (wrap64 (Int.tdiv n n2))) 0 w) :=
  bin_div (numV n) (numV n2) cs ds w h h' (valid_num _) (valid_num _) _ _ fun W hW => by
    have h1 := h
    have h2 := h'
    unfold numV at h1 h2
    obtain ⟨A, a, B, b, xs, rfl, _⟩ := lies_open h1
    obtain ⟨A2, a2, B2, b2, xs2, rfl, _⟩ := lies_open h2
    exact div_num n n2 _ _ A B A2 B2 _ a _ b _ a2 _ b2 W h0
theorem nb_rem (n n2 : Int) (h0 : n2 ≠ 0) (cs ds : List Value) (w : World) (h : Lies w (· < w.heap.size) (numV n) cs) (h' : Lies w (· < w.heap.size) (numV n2) ds) : Calls Tryz.prog 15 #[.string ⟨#[37]⟩, .agg cs.toArray, .agg ds.toArray] w (RetPost (numV (Int.tmod n n2)) 0 w) :=
  bin_rem (numV n) (numV n2) cs ds w h h' (valid_num _) (valid_num _) _ _ fun W hW => by
    have h1 := h
    have h2 := h'
    unfold numV at h1 h2
    obtain ⟨A, a, B, b, xs, rfl, _⟩ := lies_open h1
    obtain ⟨A2, a2, B2, b2, xs2, rfl, _⟩ := lies_open h2
    exact rem_num n n2 _ _ A B A2 B2 _ a _ b _ a2 _ b2 W h0
theorem msg_zero (w : World) : Calls Tryz.prog 26 #[.int .i64 13] w fun e w' => e = .returned (.string ⟨#[100, 105, 118, 105, 115, 105, 111, 110, 32, 98, 121, 32, 122, 101, 114, 111]⟩) ∧ w' = w := by
  go_enter Tryz.func26, Tryz.ntmps26
  go_wp2_with fail
  go_ret
  exact ⟨rfl, rfl⟩
theorem pieces_ab : pieces ⟨#[97, 44, 98]⟩ ⟨#[44]⟩ = [⟨#[97]⟩, ⟨#[98]⟩] := by decide +kernel
set_option maxHeartbeats 2000000 in
set_option maxRecDepth 100000 in
theorem awake6_any (w : World) (hm : MaxL w) : Calls Tryz.prog 13 #[] w fun e w' => e = .returned (.bool true) ∧ Below w.heap.size w w' := by
  have hn := Lib.hid (fun (n : Int) W => num_any n W)
  have hD := Lib.hid (fun cs ds W h h' => num_open (nb_div (-7) 2 (by decide) cs ds W h h'))
  have hR := Lib.hid (fun cs ds W h h' => num_open (nb_rem (-7) 2 (by decide) cs ds W h h'))
  have hS := Lib.hid (fun W (hW : Below w.heap.size w W) => split_sep ⟨#[97, 44, 98]⟩ ⟨#[44]⟩ W (hm.next hW) (by decide) (by decide) (by decide) (by decide +kernel) (by decide +kernel) (by decide))
  rw [pieces_ab] at hS
  have ed : wrap64 (Int.tdiv (-7) 2) = -3 := by decide +kernel
  have er : Int.tmod (-7) 2 = -1 := by decide +kernel
  rw [ed] at hD
  rw [er] at hR
  clear ed er hm
  go_enter Tryz.func13, Tryz.ntmps13
  go_wp2_with fail
  refine (hn.out _ _).mono ?_
  rintro e1 w1 ⟨rfl, hb1⟩
  go_wp2_with fail
  refine (hn.out _ _).mono ?_
  rintro e2 w2 ⟨rfl, hb2⟩
  have HB2 := Lib.hid (chain hb1 hb2)
  clear hb1 hb2
  go_wp2_with fail
  refine (hD.out [.int .i64 3, .int .i64 (-7), .string ⟨#[]⟩, .slice none 0 0, .slice none 0 0] [.int .i64 3, .int .i64 2, .string ⟨#[]⟩, .slice none 0 0, .slice none 0 0] _ (lies_numv _ _ _) (lies_numv _ _ _)).mono ?_
  rintro e3 w3 ⟨A, a, B, b, rfl, hb3, -⟩
  have HB3 := Lib.hid (chain HB2.out hb3)
  have HX := Lib.hid (Box.laid w3 25 #[.int .i64 3, .int .i64 (-3), .string ⟨#[]⟩, .slice A 0 a, .slice B 0 b])
  clear hb3 HB2
  go_wp2_with fail
  refine (hn.out _ _).mono ?_
  rintro e4 w4 ⟨rfl, hb4⟩
  go_wp2_with fail
  refine (hn.out _ _).mono ?_
  rintro e5 w5 ⟨rfl, hb5⟩
  have HB5 := Lib.hid (chain HB3.out (chain (below1 w3 _) (chain hb4 hb5)))
  have HX5 := Lib.hid (HX.out.below (chain hb4 hb5) HX.out.lt)
  clear hb4 hb5 HX HB3
  go_wp2_with fail
  refine (hR.out [.int .i64 3, .int .i64 (-7), .string ⟨#[]⟩, .slice none 0 0, .slice none 0 0] [.int .i64 3, .int .i64 2, .string ⟨#[]⟩, .slice none 0 0, .slice none 0 0] _ (lies_numv _ _ _) (lies_numv _ _ _)).mono ?_
  rintro e6 w6 ⟨A2, a2, B2, b2, rfl, hb6, -⟩
  have HB6 := Lib.hid (chain HB5.out (chain hb6 (below1 w6 (.cells #[.int .i64 3, .int .i64 (-1), .string ⟨#[]⟩, .slice A2 0 a2, .slice B2 0 b2] 25))))
  have HX6 := Lib.hid ((HX5.out.below hb6 HX5.out.lt).alloc (.cells #[.int .i64 3, .int .i64 (-1), .string ⟨#[]⟩, .slice A2 0 a2, .slice B2 0 b2] 25))
  have HY6 := Lib.hid (Box.laid w6 25 #[.int .i64 3, .int .i64 (-1), .string ⟨#[]⟩, .slice A2 0 a2, .slice B2 0 b2])
  clear hb6 HX5 HB5
  go_wp2_with fail
  refine (hS.out _ HB6.out).mono ?_
  rintro e7 w7 ⟨hb7, A3, c3, rfl, hr3, -, -, -⟩
  have HB7 := Lib.hid (chain HB6.out hb7)
  have HX7 := Lib.hid (HX6.out.below hb7 HX6.out.lt)
  have HY7 := Lib.hid (HY6.out.below hb7 HY6.out.lt)
  have HR7 := Lib.hid hr3
  clear hb7 HX6 HY6 HB6 hr3
  obtain ⟨x0, x1, x2, x3, x4⟩ := box5 HX7.out
  obtain ⟨y0, y1, y2, y3, y4⟩ := box5 HY7.out
  go_wp2_with fail
  refine (strings_any A3 (some ⟨w7.heap.size, 0, none⟩) c3 2 [⟨#[97]⟩, ⟨#[98]⟩] [⟨#[97]⟩, ⟨#[98]⟩] (fun b => w6.heap.size ≤ b) (fun b => b = w7.heap.size) _ (HR7.out.move fun b hb => ⟨by have := hb.1; simp at this; omega, Below.heap_alloc _ _ _ (by have := hb.2; omega)⟩) (fun j u hj => ⟨w7.heap.size, 0, rfl, rfl, by rw [Nat.zero_add]; exact (Box.laid w7 _ _).cell (by simpa [kv] using hj)⟩) (by decide)).mono ?_
  rintro e8 w8 ⟨rfl, m8, rfl⟩
  go_wp2_with (go_at_call 26; refine (msg_zero _).mono ?_; rintro e9 w9 ⟨rfl, rfl⟩)
  go_ret
  exact ⟨rfl, chain HB7.out (chain (below1 w7 _) (below_dn _ _))⟩
end Go.Proofs.YtjafmdngbphacaaGreatDoor
namespace Go.Proofs.YtjafmdngbphacaaGreatDoor
open Go.RowKit Go.Sort
theorem rs_boxM {w : World} {g : Nat} {t : TypeId} {cs : List Value} {S : Nat → Prop} (h : Box w g t cs.toArray) (hg : S g) : Rs w S (some ⟨g, 0, none⟩) cs := fun j u hj => ⟨g, 0, rfl, hg, by rw [Nat.zero_add]; exact h.cell (by simpa using hj)⟩
theorem two_rowM {w : World} {v u : V} {cs ds : List Value} {g : Nat} (h : Lies w (· < w.heap.size) v cs) (k : Lies w (· < w.heap.size) u ds) (hg : Box w g 25 (cs ++ ds).toArray) : Row w (some ⟨g, 0, none⟩) [v, u] (cs ++ ds) := by
  refine ⟨rs_boxM hg hg.lt, ?_⟩
  rw [LiesL]
  refine ⟨cs, ds, rfl, h, ?_⟩
  rw [LiesL]
  exact ⟨ds, [], by simp, k, by rw [LiesL]⟩
/-- What a call hands back, its value's parts named. -/
theorem v_open {f : FuncId} {args : Array Value} {w : World} {k n : Int} {s : ByteArray} {ks : List ByteArray} {es : List V} {err : Int} (h : Calls Tryz.prog f args w (RetPost (.mk k n s ks es) err w)) :
    Calls Tryz.prog f args w fun e w' => ∃ (A : Option Addr) (a : Nat) (C : Option Addr) (c : Nat), e = .returned (.tuple #[.agg #[.int .i64 k, .int .i64 n, .string s, .slice A ks.length a, .slice C es.length c], .int .i64 err]) ∧ Below w.heap.size w w' ∧
      Lies w' (· < w'.heap.size) (.mk k n s ks es) [.int .i64 k, .int .i64 n, .string s, .slice A ks.length a, .slice C es.length c] := by
  refine (ret_open h).mono fun e w' hp => ?_
  obtain ⟨k', n', s', ks', es', A, a, C, c, hv, rfl, hb, hl⟩ := hp
  injection hv with h1 h2 h3 h4 h5
  subst h1 h2 h3 h4 h5
  exact ⟨A, a, C, c, rfl, hb, hl.move fun b hb => ⟨hb.2, rfl⟩⟩
theorem sub_open {n n2 : Int} {s s2 : ByteArray} {ks ks2 : List ByteArray} {es es2 : List V} {cs ds : List Value} {w : World} (h : Lies w (· < w.heap.size) (.mk 5 n s ks es) cs) (h' : Lies w (· < w.heap.size) (.mk 5 n2 s2 ks2 es2) ds) (hv : valid (.mk 5 n s ks es) = true) (hu : valid (.mk 5 n2 s2 ks2 es2) = true) :
    Calls Tryz.prog 15 #[.string ⟨#[45]⟩, .agg cs.toArray, .agg ds.toArray] w (RetPost (.mk 5 0 ⟨#[]⟩ [] (es.filter fun v => !inB es2 v)) 0 w) := by
  have := bin_sub _ _ cs ds w h h' hv hu
  rw [sub_arrs hv hu] at this
  exact this
theorem mself_open {n : Int} {s : ByteArray} {ks : List ByteArray} {es : List V} {cs : List Value} {w : World} (h : Lies w (· < w.heap.size) (.mk 6 n s ks es) cs) (hv : valid (.mk 6 n s ks es) = true) :
    Calls Tryz.prog 19 #[.agg cs.toArray, .agg cs.toArray] w (RetPost (.mk 6 n s ks es) 0 w) := by
  have := mergeTop_any _ _ cs cs w h h
  unfold mergeR at this
  rw [if_pos hv, if_pos hv, if_pos (show kd (.mk 6 n s ks es) = 6 from rfl), if_pos (show kd (.mk 6 n s ks es) = 6 from rfl), mrg_self _ hv rfl] at this
  exact this
theorem sum_open {v u S : V} {cs ds : List Value} {w : World} (h : Lies w (· < w.heap.size) v cs) (h' : Lies w (· < w.heap.size) u ds) (hs : sumF v u = (S, 0)) :
    Calls Tryz.prog 15 #[.string ⟨#[43]⟩, .agg cs.toArray, .agg ds.toArray] w (RetPost S 0 w) := by
  have := sum_full v u cs ds w h h'
  rw [hs] at this
  exact this
/-- What Get hands back in the middle of a region. -/
def OpG (w0 : World) (z : Option Nat) (o : Option V) (e : Ending) (w' : World) : Prop :=
  ∃ (k n : Int) (s : ByteArray) (A : Option Addr) (la a : Nat) (C : Option Addr) (lc c : Nat), e = .returned (.tuple #[.agg #[.int .i64 k, .int .i64 n, .string s, .slice A la a, .slice C lc c], .bool o.isSome]) ∧ Sb w0 w' z ∧
    Lies w' (fun b => (∀ g, z = some g → b ≠ g) ∧ b < w'.heap.size) (o.getD vnull) [.int .i64 k, .int .i64 n, .string s, .slice A la a, .slice C lc c]
theorem opG_of {w0 W : World} {z : Option Nat} {o : Option V} {f : FuncId} {args : Array Value} (h : Sb w0 W z) (hc : Calls Tryz.prog f args W (GetPostF o W)) : Calls Tryz.prog f args W (OpG w0 z o) := by
  refine hc.mono fun e w' hp => ?_
  obtain ⟨hb, ds, rfl, hl⟩ := hp
  generalize hv : o.getD vnull = v at hl
  obtain ⟨k, n, s, ks, es⟩ := v
  have hl2 := hl
  rw [Lies] at hl2
  obtain ⟨_, A, a, C, c, ys, rfl, _⟩ := hl2
  refine ⟨k, n, s, A, ks.length, a, C, es.length, c, rfl, Sb.call hb h, ?_⟩
  rw [hv]
  exact hl.move fun b hb => ⟨⟨fun g e => by have := (h.box g e).2.lt; omega, hb.2⟩, rfl⟩
/-- .. and behind the region. -/
def GotG (w0 : World) (o : Option V) (t u : Value) (wx : World) : Prop :=
  Below w0.heap.size w0 wx ∧ u = .bool o.isSome ∧ ∃ (g : Nat) (k n : Int) (s : ByteArray) (A : Option Addr) (la a : Nat) (C : Option Addr) (lc c : Nat), t = .pointer (some ⟨g, 0, none⟩) ∧ Vx wx g (o.getD vnull) [.int .i64 k, .int .i64 n, .string s, .slice A la a, .slice C lc c]
theorem gotG_last {w0 w3 : World} {o : Option V} {k n : Int} {s : ByteArray} {A C : Option Addr} {la a lc c : Nat} {z : Option Nat} (hs : Sb w0 w3 z)
    (hl : Lies w3 (fun b => (∀ g, z = some g → b ≠ g) ∧ b < w3.heap.size) (o.getD vnull) [.int .i64 k, .int .i64 n, .string s, .slice A la a, .slice C lc c]) :
    GotG w0 o (.pointer (some ⟨w3.heap.size, 0, none⟩)) (.bool o.isSome) (w3.alloc (.cells #[.int .i64 k, .int .i64 n, .string s, .slice A la a, .slice C lc c] 25)) :=
  ⟨chain hs.below (below1 _ _), rfl, _, k, n, s, A, la, a, C, lc, c, rfl, Vx.new (hl.move fun b hb => ⟨hb.2, rfl⟩)⟩
theorem gotG_fill {w0 w3 : World} {o : Option V} {k n : Int} {s : ByteArray} {A C : Option Addr} {la a lc c g : Nat} (hs : Sb w0 w3 (some g))
    (hl : Lies w3 (fun b => (∀ g', some g = some g' → b ≠ g') ∧ b < w3.heap.size) (o.getD vnull) [.int .i64 k, .int .i64 n, .string s, .slice A la a, .slice C lc c]) :
    GotG w0 o (.pointer (some ⟨g, 0, none⟩)) (.bool o.isSome) (((((w3.setCell ⟨g, 0, none⟩ (.int .i64 k)).setCell ⟨g, 1, none⟩ (.int .i64 n)).setCell ⟨g, 2, none⟩ (.string s)).setCell ⟨g, 3, none⟩ (.slice A la a)).setCell ⟨g, 4, none⟩ (.slice C lc c)) := by
  have hx := (hs.box g rfl).2
  have hz := (hs.box g rfl).1
  refine ⟨below_five_m hz hs.below _ _ _ _ _, rfl, g, k, n, s, A, la, a, C, lc, c, rfl, ((((hx.put 0 _).put 1 _).put 2 _).put 3 _).put 4 _, ?_⟩
  refine hl.move fun b hb => ⟨by simp [World.setCell]; exact hb.2, ?_⟩
  have hne : b ≠ g := hb.1 g rfl
  rw [Below.heap_setCell _ _ _ _ hne, Below.heap_setCell _ _ _ _ hne, Below.heap_setCell _ _ _ _ hne, Below.heap_setCell _ _ _ _ hne, Below.heap_setCell _ _ _ _ hne]
/-- An element of a value in a box, its cells named. -/
theorem vx_elem {w : World} {g : Nat} {k n : Int} {s : ByteArray} {ks : List ByteArray} {es : List V} {A C : Option Addr} {a c : Nat} (h : Vx w g (.mk k n s ks es) [.int .i64 k, .int .i64 n, .string s, .slice A ks.length a, .slice C es.length c]) {i : Nat} {e : V} (hi : es[i]? = some e) :
    ∃ (b o : Nat) (v0 v1 v2 v3 v4 : Value), C = some ⟨b, o, none⟩ ∧ b < w.heap.size ∧ Lies w (· < w.heap.size) e [v0, v1, v2, v3, v4] ∧ w.cell? ⟨b, o + i * 5, none⟩ = some v0 ∧ w.cell? ⟨b, o + i * 5 + 1, none⟩ = some v1 ∧
      w.cell? ⟨b, o + i * 5 + 2, none⟩ = some v2 ∧ w.cell? ⟨b, o + i * 5 + 3, none⟩ = some v3 ∧ w.cell? ⟨b, o + i * 5 + 4, none⟩ = some v4 := by
  obtain ⟨A', a', B', b', xs, he, _, _, _, _, hA, hB, hL⟩ := lies_open h.lies
  injection he with _ he
  injection he with _ he
  injection he with _ he
  injection he with _ he
  injection he with he _
  injection he with h1 h2 h3
  subst h1
  exact elem_cells hB hL hi
/-- .. and a key. -/
theorem vx_key {w : World} {g : Nat} {k n : Int} {s : ByteArray} {ks : List ByteArray} {es : List V} {A C : Option Addr} {a c : Nat} (h : Vx w g (.mk k n s ks es) [.int .i64 k, .int .i64 n, .string s, .slice A ks.length a, .slice C es.length c]) {i : Nat} {key : ByteArray} (hi : ks[i]? = some key) :
    ∃ (b o : Nat), A = some ⟨b, o, none⟩ ∧ b < w.heap.size ∧ w.cell? ⟨b, o + i, none⟩ = some (.string key) := by
  obtain ⟨A', a', B', b', xs, he, _, _, _, _, hA, hB, hL⟩ := lies_open h.lies
  injection he with _ he
  injection he with _ he
  injection he with _ he
  injection he with he _
  injection he with h1 h2 h3
  subst h1
  exact hA.at_ (kv_at hi)
theorem below_self (w : World) : Below w.heap.size w w := Below.refl _ _
end Go.Proofs.YtjafmdngbphacaaGreatDoor

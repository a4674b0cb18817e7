/- The laws sanity check (what the fitted text leaves out). arith.divide on any two valid values, and Binary at "/". Merging values, plain. strings.Repeat: the library's contract, laid at this program. -/
import Derived.Test.YtgdnkankleoaoaaGreatDoorA35
import Derived.Test.YtgdnkankleoaoaaGreatDoorA34
import Derived.Test.YtgdnkankleoaoaaGreatDoorA33
import Derived.Test.YtgdnkankleoaoaaGreatDoorA26
import Derived.Shelf.Lays
import Derived.Shelf.Strings.Repeat
import Derived.Ground.NamesProg
import Derived.Test.YtgdnkankleoaoaaGreatDoorRows
set_option linter.unusedVariables false
set_option linter.unusedSimpArgs false
namespace Go.Proofs.YtgdnkankleoaoaaGreatDoor
open Go.RowKit Go.Sort
set_option maxHeartbeats 4000000 in
set_option maxRecDepth 100000 in
theorem div_num (n n2 : Int) (s s2 : ByteArray) (A B A2 B2 : Option Addr) (la a lb b la2 a2 lb2 b2 : Nat) (w : World) (h0 : n2 ≠ 0) :
    Calls Tryz.prog 109 #[.agg #[.int .i64 3, .int .i64 n, .string s, .slice A la a, .slice B lb b], .agg #[.int .i64 3, .int .i64 n2, .string s2, .slice A2 la2 a2, .slice B2 lb2 b2]] w (RetPost (numV (wrap64 (Int.tdiv n n2))) 0 w) := by
  have EQ := eq_pair
  have hn := Lib.hid (fun (n : Int) W => num_any n W)
  have H0 := Lib.hid (B3.start w #[.int .i64 3, .int .i64 n, .string s, .slice A la a, .slice B lb b] #[.int .i64 3, .int .i64 n2, .string s2, .slice A2 la2 a2, .slice B2 lb2 b2])
  have hz : ¬ n2 = 0 := h0
  have hzb : (n2 == 0) = false := by simpa using h0
  go_enter Tryz.func109, Tryz.ntmps109
  go_wp2_with fail
  refine (hn.out _ _).mono ?_
  rintro e1 w1 ⟨rfl, hb1⟩
  have H1 := Lib.hid (H0.out.next hb1)
  obtain ⟨t0, t1, t2, t3, t4⟩ := box5 H1.out.r
  have z0 := H1.out.r.free 0
  have z1 := H1.out.r.free 1
  have z2 := H1.out.r.free 2
  have z3 := H1.out.r.free 3
  have z4 := H1.out.r.free 4
  clear hb1
  go_wp2_with fail
  refine bodyPost_ret (v := .tuple #[.agg #[.int .i64 3, .int .i64 (wrap64 (Int.tdiv n n2)), .string ⟨#[]⟩, .slice none 0 0, .slice none 0 0], .int .i64 0]) (by simp [results, Tryz.results109, go_sem, t0, t1, t2, t3, t4]) rfl ?_
  exact ret_put H1.out.below (by omega) H1.out.r.lt (lies_numv _ _ _)
set_option maxHeartbeats 4000000 in
set_option maxRecDepth 100000 in
theorem rem_num (n n2 : Int) (s s2 : ByteArray) (A B A2 B2 : Option Addr) (la a lb b la2 a2 lb2 b2 : Nat) (w : World) (h0 : n2 ≠ 0) :
    Calls Tryz.prog 110 #[.agg #[.int .i64 3, .int .i64 n, .string s, .slice A la a, .slice B lb b], .agg #[.int .i64 3, .int .i64 n2, .string s2, .slice A2 la2 a2, .slice B2 lb2 b2]] w (RetPost (numV (Int.tmod n n2)) 0 w) := by
  have EQ := eq_pair
  have hn := Lib.hid (fun (n : Int) W => num_any n W)
  have H0 := Lib.hid (B3.start w #[.int .i64 3, .int .i64 n, .string s, .slice A la a, .slice B lb b] #[.int .i64 3, .int .i64 n2, .string s2, .slice A2 la2 a2, .slice B2 lb2 b2])
  have hz : ¬ n2 = 0 := h0
  have hzb : (n2 == 0) = false := by simpa using h0
  go_enter Tryz.func110, Tryz.ntmps110
  go_wp2_with fail
  refine (hn.out _ _).mono ?_
  rintro e1 w1 ⟨rfl, hb1⟩
  have H1 := Lib.hid (H0.out.next hb1)
  obtain ⟨t0, t1, t2, t3, t4⟩ := box5 H1.out.r
  have z0 := H1.out.r.free 0
  have z1 := H1.out.r.free 1
  have z2 := H1.out.r.free 2
  have z3 := H1.out.r.free 3
  have z4 := H1.out.r.free 4
  clear hb1
  go_wp2_with fail
  refine bodyPost_ret (v := .tuple #[.agg #[.int .i64 3, .int .i64 (Int.tmod n n2), .string ⟨#[]⟩, .slice none 0 0, .slice none 0 0], .int .i64 0]) (by simp [results, Tryz.results110, go_sem, t0, t1, t2, t3, t4]) rfl ?_
  exact ret_put H1.out.below (by omega) H1.out.r.lt (lies_numv _ _ _)
theorem below_dn (w : World) (n : Nat) : Below w.heap.size w (w.drewN n) := ⟨rfl, rfl, rfl, Nat.le_refl _, fun _ _ => rfl⟩
/-- A number that a call hands back. -/
theorem num_open {f : FuncId} {args : Array Value} {w : World} {x err : Int} (h : Calls Tryz.prog f args w (RetPost (numV x) err w)) :
    Calls Tryz.prog f args w fun e w' => ∃ (A : Option Addr) (a : Nat) (B : Option Addr) (b : Nat), e = .returned (.tuple #[.agg #[.int .i64 3, .int .i64 x, .string ⟨#[]⟩, .slice A 0 a, .slice B 0 b], .int .i64 err]) ∧ Below w.heap.size w w' ∧
      Lies w' (· < w'.heap.size) (numV x) [.int .i64 3, .int .i64 x, .string ⟨#[]⟩, .slice A 0 a, .slice B 0 b] := by
  refine h.mono fun e w' hp => ?_
  obtain ⟨hb, ds, rfl, hl⟩ := hp
  have hl2 := hl
  unfold numV at hl2
  obtain ⟨A, a, B, b, xs, rfl, _⟩ := lies_open hl2
  exact ⟨A, a, B, b, rfl, hb, hl.move fun b hb => ⟨hb.2, rfl⟩⟩
theorem nb_div (n n2 : Int) (h0 : n2 ≠ 0) (cs ds : List Value) (w : World) (h : Lies w (· < w.heap.size) (numV n) cs) (h' : Lies w (· < w.heap.size) (numV n2) ds) : Calls Tryz.prog 14 #[.string ⟨#[47]⟩, .agg cs.toArray, .agg ds.toArray] w (RetPost (numV (wrap64 (Int.tdiv n n2))) 0 w) :=
  bin_div (numV n) (numV n2) cs ds w h h' (valid_num _) (valid_num _) _ _ fun W hW => by
    have h1 := h
    have h2 := h'
    unfold numV at h1 h2
    obtain ⟨A, a, B, b, xs, rfl, _⟩ := lies_open h1
    obtain ⟨A2, a2, B2, b2, xs2, rfl, _⟩ := lies_open h2
    exact div_num n n2 _ _ A B A2 B2 _ a _ b _ a2 _ b2 W h0
theorem nb_rem (n n2 : Int) (h0 : n2 ≠ 0) (cs ds : List Value) (w : World) (h : Lies w (· < w.heap.size) (numV n) cs) (h' : Lies w (· < w.heap.size) (numV n2) ds) : Calls Tryz.prog 14 #[.string ⟨#[37]⟩, .agg cs.toArray, .agg ds.toArray] w (RetPost (numV (Int.tmod n n2)) 0 w) :=
  bin_rem (numV n) (numV n2) cs ds w h h' (valid_num _) (valid_num _) _ _ fun W hW => by
    have h1 := h
    have h2 := h'
    unfold numV at h1 h2
    obtain ⟨A, a, B, b, xs, rfl, _⟩ := lies_open h1
    obtain ⟨A2, a2, B2, b2, xs2, rfl, _⟩ := lies_open h2
    exact rem_num n n2 _ _ A B A2 B2 _ a _ b _ a2 _ b2 W h0
theorem msg_zero (w : World) : Calls Tryz.prog 25 #[.int .i64 13] w fun e w' => e = .returned (.string ⟨#[100, 105, 118, 105, 115, 105, 111, 110, 32, 98, 121, 32, 122, 101, 114, 111]⟩) ∧ w' = w := by
  go_enter Tryz.func25, Tryz.ntmps25
  go_wp2_with fail
  go_ret
  exact ⟨rfl, rfl⟩
theorem pieces_ab : pieces ⟨#[97, 44, 98]⟩ ⟨#[44]⟩ = [⟨#[97]⟩, ⟨#[98]⟩] := by decide +kernel
set_option maxHeartbeats 2000000 in
set_option maxRecDepth 100000 in
theorem awake6_any (w : World) (hm : MaxL w) : Calls Tryz.prog 12 #[] w fun e w' => e = .returned (.bool true) ∧ Below w.heap.size w w' := by
  have hn := Lib.hid (fun (n : Int) W => num_any n W)
  have hD := Lib.hid (fun cs ds W h h' => num_open (nb_div (-7) 2 (by decide) cs ds W h h'))
  have hR := Lib.hid (fun cs ds W h h' => num_open (nb_rem (-7) 2 (by decide) cs ds W h h'))
  have hS := Lib.hid (fun W (hW : Below w.heap.size w W) => split_sep ⟨#[97, 44, 98]⟩ ⟨#[44]⟩ W (hm.next hW) (by decide) (by decide) (by decide) (by decide +kernel) (by decide +kernel) (by decide))
  rw [pieces_ab] at hS
  have ed : wrap64 (Int.tdiv (-7) 2) = -3 := by decide +kernel
  have er : Int.tmod (-7) 2 = -1 := by decide +kernel
  rw [ed] at hD
  rw [er] at hR
  clear ed er hm
  go_enter Tryz.func12, Tryz.ntmps12
  go_wp2_with fail
  refine (hn.out _ _).mono ?_
  rintro e1 w1 ⟨rfl, hb1⟩
  go_wp2_with fail
  refine (hn.out _ _).mono ?_
  rintro e2 w2 ⟨rfl, hb2⟩
  have HB2 := Lib.hid (chain hb1 hb2)
  clear hb1 hb2
  go_wp2_with fail
  refine (hD.out [.int .i64 3, .int .i64 (-7), .string ⟨#[]⟩, .slice none 0 0, .slice none 0 0] [.int .i64 3, .int .i64 2, .string ⟨#[]⟩, .slice none 0 0, .slice none 0 0] _ (lies_numv _ _ _) (lies_numv _ _ _)).mono ?_
  rintro e3 w3 ⟨A, a, B, b, rfl, hb3, -⟩
  have HB3 := Lib.hid (chain HB2.out hb3)
  have HX := Lib.hid (Box.laid w3 25 #[.int .i64 3, .int .i64 (-3), .string ⟨#[]⟩, .slice A 0 a, .slice B 0 b])
  clear hb3 HB2
  go_wp2_with fail
  refine (hn.out _ _).mono ?_
  rintro e4 w4 ⟨rfl, hb4⟩
  go_wp2_with fail
  refine (hn.out _ _).mono ?_
  rintro e5 w5 ⟨rfl, hb5⟩
  have HB5 := Lib.hid (chain HB3.out (chain (below1 w3 _) (chain hb4 hb5)))
  have HX5 := Lib.hid (HX.out.below (chain hb4 hb5) HX.out.lt)
  clear hb4 hb5 HX HB3
  go_wp2_with fail
  refine (hR.out [.int .i64 3, .int .i64 (-7), .string ⟨#[]⟩, .slice none 0 0, .slice none 0 0] [.int .i64 3, .int .i64 2, .string ⟨#[]⟩, .slice none 0 0, .slice none 0 0] _ (lies_numv _ _ _) (lies_numv _ _ _)).mono ?_
  rintro e6 w6 ⟨A2, a2, B2, b2, rfl, hb6, -⟩
  have HB6 := Lib.hid (chain HB5.out (chain hb6 (below1 w6 (.cells #[.int .i64 3, .int .i64 (-1), .string ⟨#[]⟩, .slice A2 0 a2, .slice B2 0 b2] 25))))
  have HX6 := Lib.hid ((HX5.out.below hb6 HX5.out.lt).alloc (.cells #[.int .i64 3, .int .i64 (-1), .string ⟨#[]⟩, .slice A2 0 a2, .slice B2 0 b2] 25))
  have HY6 := Lib.hid (Box.laid w6 25 #[.int .i64 3, .int .i64 (-1), .string ⟨#[]⟩, .slice A2 0 a2, .slice B2 0 b2])
  clear hb6 HX5 HB5
  go_wp2_with fail
  refine (hS.out _ HB6.out).mono ?_
  rintro e7 w7 ⟨hb7, A3, c3, rfl, hr3, -, -, -⟩
  have HB7 := Lib.hid (chain HB6.out hb7)
  have HX7 := Lib.hid (HX6.out.below hb7 HX6.out.lt)
  have HY7 := Lib.hid (HY6.out.below hb7 HY6.out.lt)
  have HR7 := Lib.hid hr3
  clear hb7 HX6 HY6 HB6 hr3
  obtain ⟨x0, x1, x2, x3, x4⟩ := box5 HX7.out
  obtain ⟨y0, y1, y2, y3, y4⟩ := box5 HY7.out
  go_wp2_with fail
  refine (strings_any A3 (some ⟨w7.heap.size, 0, none⟩) c3 2 [⟨#[97]⟩, ⟨#[98]⟩] [⟨#[97]⟩, ⟨#[98]⟩] (fun b => w6.heap.size ≤ b) (fun b => b = w7.heap.size) _ (HR7.out.move fun b hb => ⟨by have := hb.1; simp at this; omega, Below.heap_alloc _ _ _ (by have := hb.2; omega)⟩) (fun j u hj => ⟨w7.heap.size, 0, rfl, rfl, by rw [Nat.zero_add]; exact (Box.laid w7 _ _).cell (by simpa [kv] using hj)⟩) (by decide)).mono ?_
  rintro e8 w8 ⟨rfl, m8, rfl⟩
  go_wp2_with (go_at_call 25; refine (msg_zero _).mono ?_; rintro e9 w9 ⟨rfl, rfl⟩)
  go_ret
  exact ⟨rfl, chain HB7.out (chain (below1 w7 _) (below_dn _ _))⟩
end Go.Proofs.YtgdnkankleoaoaaGreatDoor
namespace Go.Proofs.YtgdnkankleoaoaaGreatDoor
open Go.RowKit Go.Sort
theorem piece_le {s sep x : ByteArray} (h : splitB? s sep = true) (hx : x ∈ splitL s sep) : x.size ≤ s.size := by
  obtain ⟨i, hi⟩ := List.getElem?_of_mem hx
  have h1 := jn_mono sep ((splitL s sep).take (i + 1)) ((splitL s sep).drop (i + 1))
  rw [List.take_append_drop, splitL_join s sep h, jn_take sep _ i x hi] at h1
  split at h1
  · exact h1
  · simp at h1; omega
set_option maxHeartbeats 4000000 in
set_option maxRecDepth 100000 in
theorem div_str (n n2 : Int) (s s2 : ByteArray) (A B A2 B2 : Option Addr) (la a lb b la2 a2 lb2 b2 : Nat) (hs : s.size ≤ 4096) (hs2 : s2.size ≤ 4096) (hok : splitB? s s2 = true) (w : World) (hm : MaxL w) (hT : Tabs w) :
    Calls Tryz.prog 109 #[.agg #[.int .i64 4, .int .i64 n, .string s, .slice A la a, .slice B lb b], .agg #[.int .i64 4, .int .i64 n2, .string s2, .slice A2 la2 a2, .slice B2 lb2 b2]] w (RetPost (arrR ((splitL s s2).map strV)) (arrE ((splitL s s2).map strV)) w) := by
  have EQ := eq_pair
  have HM := Lib.hid hm
  have HT := Lib.hid hT
  have HSP := Lib.hid (fun W (hW : Below w.heap.size w W) => split_any s s2 W (HM.out.next hW) (HT.out.next hW) (by omega) (by omega))
  have hln := splitL_len s s2
  have HSZ := Lib.hid (fun x (hx : x ∈ splitL s s2) => (show x.size ≤ 140737488355328 by have := piece_le hok hx; omega))
  generalize splitL s s2 = l at HSP HSZ hln ⊢
  generalize splitB? s s2 = ok at HSP hok
  have hl : l.length ≤ 1000000 := by omega
  have H0 := Lib.hid (B3.start w #[.int .i64 4, .int .i64 n, .string s, .slice A la a, .slice B lb b] #[.int .i64 4, .int .i64 n2, .string s2, .slice A2 la2 a2, .slice B2 lb2 b2])
  clear hm hT hln
  go_enter Tryz.func109, Tryz.ntmps109
  go_wp2_with fail
  refine (HSP.out _ H0.out.below).mono ?_
  rintro e1 w1 ⟨hb1, C, c, rfl, hr, hcn, hlc, hcm⟩
  have H1 := Lib.hid (H0.out.next hb1)
  have HC := Lib.hid (ret_open (strArr_any C c l.length l w1 (hr.move fun b hb => ⟨hb.2, rfl⟩) rfl hl HSZ.out))
  clear hb1 hr hcn hlc hcm
  go_wp2_with fail
  refine HC.out.mono ?_
  rintro e2 w2 ⟨rk, rn, rs, rks, res, RA, ra, RC, rc, hrv, rfl, hb2, hl2⟩
  have H2 := Lib.hid (H1.out.next hb2)
  have HL := Lib.hid hl2
  have hs2' := H1.out.r.lt
  have hs3 := H1.out.below.size
  clear hb2 hl2 hrv
  obtain ⟨t0, t1, t2, t3, t4⟩ := box5 H2.out.r
  have z0 := H2.out.r.free 0
  have z1 := H2.out.r.free 1
  have z2 := H2.out.r.free 2
  have z3 := H2.out.r.free 3
  have z4 := H2.out.r.free 4
  go_wp2_with fail
  refine bodyPost_ret (v := .tuple #[.agg #[.int .i64 rk, .int .i64 rn, .string rs, .slice RA rks.length ra, .slice RC res.length rc], .int .i64 (arrE (l.map strV))]) (by simp [results, Tryz.results109, go_sem, t0, t1, t2, t3, t4]) rfl ?_
  exact ret_put H2.out.below (by omega) H2.out.r.lt (HL.out.move fun b hb => ⟨⟨by omega, hb.2, by omega⟩, rfl⟩)
set_option maxHeartbeats 4000000 in
set_option maxRecDepth 100000 in
theorem div_type (k k2 : Int) (h3 : ¬ (k = 3 ∧ k2 = 3)) (h5 : ¬ (k = 4 ∧ k2 = 4)) (n n2 : Int) (s s2 : ByteArray) (A B A2 B2 : Option Addr) (la a lb b la2 a2 lb2 b2 : Nat) (w : World) :
    Calls Tryz.prog 109 #[.agg #[.int .i64 k, .int .i64 n, .string s, .slice A la a, .slice B lb b], .agg #[.int .i64 k2, .int .i64 n2, .string s2, .slice A2 la2 a2, .slice B2 lb2 b2]] w (RetPost vnull 12 w) := by
  have q3 : (k == 3 && k2 == 3) = false := by simpa using h3
  have q5 : (k == 4 && k2 == 4) = false := by simpa using h5
  have EQ := eq_pair
  clear h3 h5
  have H1 := Lib.hid (B3.start w #[.int .i64 k, .int .i64 n, .string s, .slice A la a, .slice B lb b] #[.int .i64 k2, .int .i64 n2, .string s2, .slice A2 la2 a2, .slice B2 lb2 b2])
  go_enter Tryz.func109, Tryz.ntmps109
  go_wp2_with fail
  refine bodyPost_ret (v := .tuple #[.agg #[.int .i64 0, .int .i64 0, .string ⟨#[]⟩, .slice none 0 0, .slice none 0 0], .int .i64 12]) (by simp [results, Tryz.results109, go_sem]) rfl ?_
  exact ret_of (ds := [.int .i64 0, .int .i64 0, .string ⟨#[]⟩, .slice none 0 0, .slice none 0 0]) H1.out.below (lies_null _ _)
/-- What '/' is on valid values. -/
def divR : V → V → V × Int
  | .mk k n s _ _, .mk k2 n2 s2 _ _ => if k = 3 ∧ k2 = 3 then (if n2 = 0 then (vnull, 13) else (numV (wrap64 (Int.tdiv n n2)), 0)) else if k = 4 ∧ k2 = 4 then (arrR ((splitL s s2).map strV), arrE ((splitL s s2).map strV)) else (vnull, 12)
theorem divv_any (v u : V) (cs ds : List Value) (w : World) (hm : MaxL w) (hT : Tabs w) (h : Lies w (· < w.heap.size) v cs) (h' : Lies w (· < w.heap.size) u ds) (hv : valid v = true) (hu : valid u = true) :
    Calls Tryz.prog 109 #[.agg cs.toArray, .agg ds.toArray] w (RetPost (divR v u).1 (divR v u).2 w) := by
  obtain ⟨k, n, s, ks, es⟩ := v
  obtain ⟨k2, n2, s2, ks2, es2⟩ := u
  obtain ⟨A, a, B, b, xs, rfl, _⟩ := lies_open h
  obtain ⟨A2, a2, B2, b2', ys, rfl, _⟩ := lies_open h'
  have hp := valid_parts hv
  have hp2 := valid_parts hu
  have hd : divR (V.mk k n s ks es) (V.mk k2 n2 s2 ks2 es2) = if k = 3 ∧ k2 = 3 then (if n2 = 0 then (vnull, 13) else (numV (wrap64 (Int.tdiv n n2)), 0)) else if k = 4 ∧ k2 = 4 then (arrR ((splitL s s2).map strV), arrE ((splitL s s2).map strV)) else (vnull, 12) := rfl
  rw [hd]
  clear hd
  by_cases c3 : k = 3 ∧ k2 = 3
  · rw [if_pos c3]
    obtain ⟨rfl, rfl⟩ := c3
    by_cases h0 : n2 = 0
    · rw [if_pos h0]
      subst h0
      exact div_zero n s s2 A B A2 B2 _ a _ b _ a2 _ b2' w
    · rw [if_neg h0]
      exact div_num n n2 s s2 A B A2 B2 _ a _ b _ a2 _ b2' w h0
  rw [if_neg c3]
  by_cases c4 : k = 4 ∧ k2 = 4
  · rw [if_pos c4]
    obtain ⟨rfl, rfl⟩ := c4
    exact div_str n n2 s s2 A B A2 B2 _ a _ b _ a2 _ b2' hp.1 hp2.1 (by unfold splitB?; rw [hp.2.1, hp2.2.1]; rfl) w hm hT
  rw [if_neg c4]
  exact div_type k k2 c3 c4 n n2 s s2 A B A2 B2 _ a _ b _ a2 _ b2' w
/-- Binary at "/". -/
theorem bin_divv (v u : V) (cs ds : List Value) (w : World) (hm : MaxL w) (hT : Tabs w) (h : Lies w (· < w.heap.size) v cs) (h' : Lies w (· < w.heap.size) u ds) (hv : valid v = true) (hu : valid u = true) :
    Calls Tryz.prog 14 #[.string ⟨#[47]⟩, .agg cs.toArray, .agg ds.toArray] w (RetPost (divR v u).1 (divR v u).2 w) :=
  bin_div v u cs ds w h h' hv hu _ _ fun W hW => divv_any v u cs ds W (hm.next hW) (hT.next hW) (below_lies hW h) (below_lies hW h') hv hu
end Go.Proofs.YtgdnkankleoaoaaGreatDoor
namespace Go.Proofs.YtgdnkankleoaoaaGreatDoor
/-- The object of a with this key, if e is an object as well. -/
def hit (ks : List ByteArray) (es : List V) (k : ByteArray) (e : V) : Option V :=
  match idxOf ks k with
  | none => none
  | some i => match es[i]? with
    | none => none
    | some x => if kd x = 6 ∧ kd e = 6 then some x else none
mutual
/-- The merge of two objects. -/
def mrg : V → V → V × Int
  | .mk _ _ _ ks es, .mk _ _ _ ks2 es2 =>
    if (mrgL ks es ks2 es2).2 = 0 then lim (objL (putL (ks.zip es) (ks2.zip (mrgL ks es ks2 es2).1))) else (vnull, (mrgL ks es ks2 es2).2)
/-- The elements behind the merge of those with one key. -/
def mrgL (ks : List ByteArray) (es : List V) : List ByteArray → List V → List V × Int
  | k :: ks2, e :: es2 =>
    match hit ks es k e with
    | none => (e :: (mrgL ks es ks2 es2).1, (mrgL ks es ks2 es2).2)
    | some x => if (mrg x e).2 = 0 then ((mrg x e).1 :: (mrgL ks es ks2 es2).1, (mrgL ks es ks2 es2).2) else ([], (mrg x e).2)
  | _, _ => ([], 0)
end
theorem mrg_eq (k n : Int) (s : ByteArray) (ks : List ByteArray) (es : List V) (k2 n2 : Int) (s2 : ByteArray) (ks2 : List ByteArray) (es2 : List V) :
    mrg (.mk k n s ks es) (.mk k2 n2 s2 ks2 es2) = if (mrgL ks es ks2 es2).2 = 0 then lim (objL (putL (ks.zip es) (ks2.zip (mrgL ks es ks2 es2).1))) else (vnull, (mrgL ks es ks2 es2).2) := by rw [mrg]
theorem mrgL_none {ks ks2 : List ByteArray} {es es2 : List V} {k : ByteArray} {e : V} (h : hit ks es k e = none) : mrgL ks es (k :: ks2) (e :: es2) = (e :: (mrgL ks es ks2 es2).1, (mrgL ks es ks2 es2).2) := by rw [mrgL, h]
theorem mrgL_some {ks ks2 : List ByteArray} {es es2 : List V} {k : ByteArray} {e x : V} (h : hit ks es k e = some x) (h0 : (mrg x e).2 = 0) : mrgL ks es (k :: ks2) (e :: es2) = ((mrg x e).1 :: (mrgL ks es ks2 es2).1, (mrgL ks es ks2 es2).2) := by rw [mrgL, h]; simp only [if_pos h0]
theorem mrgL_err {ks ks2 : List ByteArray} {es es2 : List V} {k : ByteArray} {e x : V} (h : hit ks es k e = some x) (h0 : ¬ (mrg x e).2 = 0) : mrgL ks es (k :: ks2) (e :: es2) = ([], (mrg x e).2) := by rw [mrgL, h]; simp only [if_neg h0]
theorem mrgL_nil (ks ks2 : List ByteArray) (es : List V) : mrgL ks es ks2 [] = ([], 0) := by cases ks2 <;> rw [mrgL] <;> simp
/-- A merge without an error is valid. -/
theorem mrg_valid {v u : V} (h : (mrg v u).2 = 0) : valid (mrg v u).1 = true := by
  obtain ⟨k, n, s, ks, es⟩ := v
  obtain ⟨k2, n2, s2, ks2, es2⟩ := u
  rw [mrg_eq] at h ⊢
  by_cases h0 : (mrgL ks es ks2 es2).2 = 0
  · rw [if_pos h0] at h ⊢
    have := finE_zero h
    show valid (finV _) = true
    rw [finV_ok this]
    exact this
  · rw [if_neg h0] at h
    exact absurd h h0
/-- Where the loop stands: the elements so far, and what is left. -/
structure MgP (ks : List ByteArray) (es : List V) (ks2 : List ByteArray) (es2 : List V) (i : Nat) (l : List V) : Prop where
  len : l.length = es2.length
  tail : l.drop i = es2.drop i
  ok : l.all valid = true
  res : mrgL ks es ks2 es2 = (l.take i ++ (mrgL ks es (ks2.drop i) (es2.drop i)).1, (mrgL ks es (ks2.drop i) (es2.drop i)).2)
namespace MgP
variable {ks ks2 : List ByteArray} {es es2 l : List V} {i : Nat} {k : ByteArray} {e x : V}
theorem start (h : es2.all valid = true) : MgP ks es ks2 es2 0 es2 := ⟨rfl, rfl, h, by simp⟩
theorem elem (h : MgP ks es ks2 es2 i l) (he : es2[i]? = some e) : l[i]? = some e := by
  have h1 := congrArg (fun x => x[0]?) h.tail
  simp only [List.getElem?_drop, Nat.add_zero, he] at h1
  exact h1
theorem drops (hk : ks2[i]? = some k) (he : es2[i]? = some e) : ks2.drop i = k :: ks2.drop (i + 1) ∧ es2.drop i = e :: es2.drop (i + 1) := by
  obtain ⟨h1, rfl⟩ := List.getElem?_eq_some_iff.1 hk
  obtain ⟨h2, rfl⟩ := List.getElem?_eq_some_iff.1 he
  exact ⟨List.drop_eq_getElem_cons h1, List.drop_eq_getElem_cons h2⟩
theorem skip (h : MgP ks es ks2 es2 i l) (hk : ks2[i]? = some k) (he : es2[i]? = some e) (hh : hit ks es k e = none) : MgP ks es ks2 es2 (i + 1) l := by
  obtain ⟨d1, d2⟩ := drops hk he
  have hl := h.elem he
  refine ⟨h.len, by rw [← List.drop_drop, h.tail, List.drop_drop], h.ok, ?_⟩
  rw [h.res, d1, d2, mrgL_none hh, List.take_add_one, hl]
  simp
theorem put (h : MgP ks es ks2 es2 i l) (hk : ks2[i]? = some k) (he : es2[i]? = some e) (hh : hit ks es k e = some x) (h0 : (mrg x e).2 = 0) : MgP ks es ks2 es2 (i + 1) (l.set i (mrg x e).1) := by
  obtain ⟨d1, d2⟩ := drops hk he
  have hi : i < l.length := by rw [h.len]; exact (List.getElem?_eq_some_iff.1 he).1
  refine ⟨by rw [List.length_set]; exact h.len, by rw [List.drop_set_of_lt (by omega), ← List.drop_drop, h.tail, List.drop_drop], ?_, ?_⟩
  · have := h.ok
    rw [List.all_eq_true] at this ⊢
    intro y hy
    rcases List.mem_or_eq_of_mem_set hy with hy | rfl
    · exact this y hy
    · exact mrg_valid h0
  · rw [h.res, d1, d2, mrgL_some hh h0, List.take_add_one, List.getElem?_set_self hi, List.take_set_of_le (Nat.le_refl _)]
    simp
theorem err (h : MgP ks es ks2 es2 i l) (hk : ks2[i]? = some k) (he : es2[i]? = some e) (hh : hit ks es k e = some x) (h0 : ¬ (mrg x e).2 = 0) : (mrgL ks es ks2 es2).2 = (mrg x e).2 := by
  obtain ⟨d1, d2⟩ := drops hk he
  rw [h.res, d1, d2, mrgL_err hh h0]
theorem fin (h : MgP ks es ks2 es2 es2.length l) : mrgL ks es ks2 es2 = (l, 0) := by
  have := h.len
  rw [h.res, List.drop_length, mrgL_nil, List.take_of_length_le (by omega), List.append_nil]
end MgP
end Go.Proofs.YtgdnkankleoaoaaGreatDoor
namespace Go.Proofs
open Go.Shelf Go.RowKit
def Tryz.rpt_ren : Go.Shelf.Ren := ⟨fun | 105 => 244 | 212 => 291 | 99 => 292 | 165 => 269 | 166 => 270 | 170 => 293 | 169 => 271 | 263 => 328 | 264 => 329 | 206 => 330 | 240 => 320 | 241 => 321 | 276 => 361 | 277 => 362 | n => n, fun | 9 => 9 | 3 => 3 | 4 => 4 | 20 => 20 | 0 => 0 | 46 => 133 | 109 => 202 | 5 => 5 | 72 => 179 | 76 => 183 | 51 => 226 | 146 => 227 | 53 => 56 | 148 => 229 | 70 => 177 | 37 => 61 | 75 => 182 | 127 => 220 | 164 => 244 | 80 => 185 | n => n, fun | n => n⟩
theorem Tryz.rpt : Go.Proofs.Lays.n105 Tryz.prog Tryz.rpt_ren := {
  mixed := by kernel_rfl
  f99 := Tryz.func292.trans (congrArg some (by kernel_rfl))
  f105 := Tryz.func244.trans (congrArg some (by kernel_rfl))
  f165 := Tryz.func269.trans (congrArg some (by kernel_rfl))
  f166 := Tryz.func270.trans (congrArg some (by kernel_rfl))
  f169 := Tryz.func271.trans (congrArg some (by kernel_rfl))
  f170 := Tryz.func293.trans (congrArg some (by kernel_rfl))
  f206 := Tryz.func330.trans (congrArg some (by kernel_rfl))
  f212 := Tryz.func291.trans (congrArg some (by kernel_rfl))
  f240 := Tryz.func320.trans (congrArg some (by kernel_rfl))
  f241 := Tryz.func321.trans (congrArg some (by kernel_rfl))
  f263 := Tryz.func328.trans (congrArg some (by kernel_rfl))
  f264 := Tryz.func329.trans (congrArg some (by kernel_rfl))
  f276 := Tryz.func361.trans (congrArg some (by kernel_rfl))
  f277 := Tryz.func362.trans (congrArg some (by kernel_rfl))
  t0 := Tryz.underlying0
  a0 := Tryz.isAgg0
  z0 := Tryz.sizeOf0
  v0 := Tryz.zeroValue0
  t3 := Tryz.underlying3
  a3 := Tryz.isAgg3
  z3 := Tryz.sizeOf3
  v3 := Tryz.zeroValue3
  t4 := Tryz.underlying4
  a4 := Tryz.isAgg4
  z4 := Tryz.sizeOf4
  v4 := Tryz.zeroValue4
  t5 := Tryz.underlying5
  a5 := Tryz.isAgg5
  z5 := Tryz.sizeOf5
  v5 := Tryz.zeroValue5
  t9 := Tryz.underlying9
  a9 := Tryz.isAgg9
  z9 := Tryz.sizeOf9
  v9 := Tryz.zeroValue9
  t20 := Tryz.underlying20
  a20 := Tryz.isAgg20
  z20 := Tryz.sizeOf20
  v20 := Tryz.zeroValue20
  t37 := Tryz.underlying61
  a37 := Tryz.isAgg61
  z37 := Tryz.sizeOf61
  v37 := Tryz.zeroValue61
  t46 := Tryz.underlying133
  a46 := Tryz.isAgg133
  z46 := Tryz.sizeOf133
  v46 := Tryz.zeroValue133
  t51 := Tryz.underlying226
  a51 := Tryz.isAgg226
  z51 := Tryz.sizeOf226
  v51 := Tryz.zeroValue226
  t53 := Tryz.underlying56
  a53 := Tryz.isAgg56
  z53 := Tryz.sizeOf56
  v53 := Tryz.zeroValue56
  t70 := Tryz.underlying177
  a70 := Tryz.isAgg177
  z70 := Tryz.sizeOf177
  v70 := Tryz.zeroValue177
  t72 := Tryz.underlying179
  a72 := Tryz.isAgg179
  z72 := Tryz.sizeOf179
  v72 := Tryz.zeroValue179
  t75 := Tryz.underlying182
  a75 := Tryz.isAgg182
  z75 := Tryz.sizeOf182
  v75 := Tryz.zeroValue182
  t76 := Tryz.underlying183
  a76 := Tryz.isAgg183
  z76 := Tryz.sizeOf183
  v76 := Tryz.zeroValue183
  t109 := Tryz.underlying202
  a109 := Tryz.isAgg202
  z109 := Tryz.sizeOf202
  v109 := Tryz.zeroValue202
  t127 := Tryz.underlying220
  a127 := Tryz.isAgg220
  z127 := Tryz.sizeOf220
  v127 := Tryz.zeroValue220
  t146 := Tryz.underlying227
  a146 := Tryz.isAgg227
  z146 := Tryz.sizeOf227
  v146 := Tryz.zeroValue227
  t148 := Tryz.underlying229
  a148 := Tryz.isAgg229
  z148 := Tryz.sizeOf229
  v148 := Tryz.zeroValue229
  t164 := Tryz.underlying244
  a164 := Tryz.isAgg244
  z164 := Tryz.sizeOf244
  v164 := Tryz.zeroValue244 }


theorem Tryz.rpt_extra : Builder.Extra Tryz.prog Tryz.rpt_ren := {
  sizeBuilder := by kernel_rfl
  liesBuilder := by kernel_rfl
  t5 := Tryz.underlying5
  a5 := Tryz.isAgg5
  z5 := Tryz.sizeOf5
  v5 := Tryz.zeroValue5
  infoByte := by kernel_rfl
  cellsByte := by kernel_rfl
  sizeByte := by kernel_rfl
  neB5 := by decide }
end Go.Proofs
namespace Go.Proofs.YtgdnkankleoaoaaGreatDoor
open Go.RowKit
theorem repeat_lib (s : ByteArray) (n : Nat) (w : World) (hn : n ≤ 9223372036854775807) (hl : s.size * n ≤ 140737488355328) :
    Calls Tryz.prog 244 #[.string s, .int .i64 (n : Int)] w fun e w' => e = .returned (.string (rep s n)) ∧ Below w.heap.size w w' :=
  Go.Proofs.Any.strings_Repeat Tryz.rpt Tryz.rpt_extra s n w hn hl
end Go.Proofs.YtgdnkankleoaoaaGreatDoor

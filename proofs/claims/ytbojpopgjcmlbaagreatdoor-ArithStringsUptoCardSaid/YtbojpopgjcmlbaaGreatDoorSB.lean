/- renew and add of two values, kind by kind. strings.Repeat: the library's contract, laid at this program. arith.repeat at every string and number; products of strings and numbers. union of two objects, over its callees' contracts. -/
import Derived.Test.YtbojpopgjcmlbaaGreatDoorAr2
import Derived.Test.YtbojpopgjcmlbaaGreatDoorCat
import Derived.Shelf.Lays
import Derived.Shelf.Strings.Repeat
import Derived.Ground.NamesProg
import Derived.Test.YtbojpopgjcmlbaaGreatDoorSA
import Derived.Test.YtbojpopgjcmlbaaGreatDoorRows
import Derived.Test.YtbojpopgjcmlbaaGreatDoorRMake
import Derived.Deep.RegionHeld3
set_option linter.unusedVariables false
set_option linter.unusedSimpArgs false
namespace Go.Proofs.YtbojpopgjcmlbaaGreatDoor
open Go.RowKit Go.Sort
theorem own_base2 {w : World} {base base' : Nat} {e : TypeId} {size n : Nat} {v : Value} {xs : List Value} (h : w.ownsRow base e size v n xs) (hv : ∀ g, v.ownBlock = some g → base' ≤ g) : w.ownsRow base' e size v n xs := by
  refine ⟨h.1, ?_⟩
  rcases h.2 with h1 | ⟨g, cap, cur, rfl, h1, h2⟩
  · exact .inl h1
  · exact .inr ⟨g, cap, cur, rfl, hv g rfl, h2⟩
theorem lit2_0 (W : World) (t : TypeId) (x y : Value) (p : Nat) (hp : W.heap.size = p) : (W.alloc (.cells #[x, y] t)).cell? ⟨p, 0, none⟩ = some x := (box_at W t #[x, y] p hp).cell rfl
theorem lit2_1 (W : World) (t : TypeId) (x y : Value) (p : Nat) (hp : W.heap.size = p) : (W.alloc (.cells #[x, y] t)).cell? ⟨p, 1, none⟩ = some y := (box_at W t #[x, y] p hp).cell rfl
theorem lies_flat' (w : World) (S : Nat → Prop) (k n : Int) : Lies w S (.mk k n ⟨#[]⟩ [] []) [.int .i64 k, .int .i64 n, .string ⟨#[]⟩, .slice none 0 0, .slice none 0 0] := by
  rw [Lies]
  exact ⟨⟨Nat.zero_le _, by simp, Nat.zero_le _, Nat.zero_le _⟩, none, 0, none, 0, [], rfl, fun _ => rfl, fun _ => rfl, ⟨Nat.le_refl _, Nat.zero_le _⟩, ⟨Nat.le_refl _, Nat.zero_le _⟩, Rs.nil _ _ _, Rs.nil _ _ _, by rw [LiesL]⟩
set_option maxHeartbeats 4000000 in
set_option maxRecDepth 100000 in
theorem renew_flat0 (n : Int) (s : ByteArray) (A B : Option Addr) (la a lb b : Nat) (w : World) :
    Calls Tryz.prog 79 #[.agg #[.int .i64 0, .int .i64 n, .string s, .slice A la a, .slice B lb b]] w (RetPost (.mk 0 0 ⟨#[]⟩ [] []) 0 w) := by
  have H0 := Lib.hid (B2.start w #[.int .i64 0, .int .i64 n, .string s, .slice A la a, .slice B lb b])
  go_enter Tryz.func79, Tryz.ntmps79
  go_wp2_with fail
  refine bodyPost_ret (v := .tuple #[.agg #[.int .i64 0, .int .i64 0, .string ⟨#[]⟩, .slice none 0 0, .slice none 0 0], .int .i64 0]) (by simp [results, Tryz.results79, go_sem]) rfl ?_
  exact ret_of (ds := [.int .i64 0, .int .i64 0, .string ⟨#[]⟩, .slice none 0 0, .slice none 0 0]) ((((Below.refl _ _).alloc (Nat.le_refl _) _).alloc (by simp) _)) (lies_flat' _ _ _ _)
set_option maxHeartbeats 4000000 in
set_option maxRecDepth 100000 in
theorem renew_flat1 (n : Int) (s : ByteArray) (A B : Option Addr) (la a lb b : Nat) (w : World) :
    Calls Tryz.prog 79 #[.agg #[.int .i64 1, .int .i64 n, .string s, .slice A la a, .slice B lb b]] w (RetPost (.mk 1 0 ⟨#[]⟩ [] []) 0 w) := by
  have H0 := Lib.hid (B2.start w #[.int .i64 1, .int .i64 n, .string s, .slice A la a, .slice B lb b])
  go_enter Tryz.func79, Tryz.ntmps79
  go_wp2_with fail
  refine bodyPost_ret (v := .tuple #[.agg #[.int .i64 1, .int .i64 0, .string ⟨#[]⟩, .slice none 0 0, .slice none 0 0], .int .i64 0]) (by simp [results, Tryz.results79, go_sem]) rfl ?_
  exact ret_of (ds := [.int .i64 1, .int .i64 0, .string ⟨#[]⟩, .slice none 0 0, .slice none 0 0]) ((((Below.refl _ _).alloc (Nat.le_refl _) _).alloc (by simp) _)) (lies_flat' _ _ _ _)
set_option maxHeartbeats 4000000 in
set_option maxRecDepth 100000 in
theorem renew_flat2 (n : Int) (s : ByteArray) (A B : Option Addr) (la a lb b : Nat) (w : World) :
    Calls Tryz.prog 79 #[.agg #[.int .i64 2, .int .i64 n, .string s, .slice A la a, .slice B lb b]] w (RetPost (.mk 2 0 ⟨#[]⟩ [] []) 0 w) := by
  have H0 := Lib.hid (B2.start w #[.int .i64 2, .int .i64 n, .string s, .slice A la a, .slice B lb b])
  go_enter Tryz.func79, Tryz.ntmps79
  go_wp2_with fail
  refine bodyPost_ret (v := .tuple #[.agg #[.int .i64 2, .int .i64 0, .string ⟨#[]⟩, .slice none 0 0, .slice none 0 0], .int .i64 0]) (by simp [results, Tryz.results79, go_sem]) rfl ?_
  exact ret_of (ds := [.int .i64 2, .int .i64 0, .string ⟨#[]⟩, .slice none 0 0, .slice none 0 0]) ((((Below.refl _ _).alloc (Nat.le_refl _) _).alloc (by simp) _)) (lies_flat' _ _ _ _)
set_option maxHeartbeats 4000000 in
set_option maxRecDepth 100000 in
theorem renew_num (n : Int) (s : ByteArray) (A B : Option Addr) (la a lb b : Nat) (w : World) :
    Calls Tryz.prog 79 #[.agg #[.int .i64 3, .int .i64 n, .string s, .slice A la a, .slice B lb b]] w (RetPost (numV n) 0 w) := by
  have hn := Lib.hid (fun (n : Int) W => num_any n W)
  have H0 := Lib.hid (B2.start w #[.int .i64 3, .int .i64 n, .string s, .slice A la a, .slice B lb b])
  go_enter Tryz.func79, Tryz.ntmps79
  go_wp2_with fail
  refine (hn.out _ _).mono ?_
  rintro e1 w1 ⟨rfl, hb1⟩
  have H1 := Lib.hid (H0.out.next hb1)
  obtain ⟨t0, t1, t2, t3, t4⟩ := box5 H1.out.r
  have z0 := H1.out.r.free 0
  have z1 := H1.out.r.free 1
  have z2 := H1.out.r.free 2
  have z3 := H1.out.r.free 3
  have z4 := H1.out.r.free 4
  clear hb1
  go_wp2_with fail
  refine bodyPost_ret (v := .tuple #[.agg #[.int .i64 3, .int .i64 n, .string ⟨#[]⟩, .slice none 0 0, .slice none 0 0], .int .i64 0]) (by simp [results, Tryz.results79, go_sem, t0, t1, t2, t3, t4]) rfl ?_
  exact ret_put H1.out.below (by omega) H1.out.r.lt (lies_numv _ _ _)
set_option maxHeartbeats 4000000 in
set_option maxRecDepth 100000 in
theorem renew_str (n : Int) (s : ByteArray) (A B : Option Addr) (la a lb b : Nat) (w : World) (r : V) (er : Int) (hc : ∀ W, Below w.heap.size w W → Calls Tryz.prog 28 #[.string s] W (RetPost r er W)) :
    Calls Tryz.prog 79 #[.agg #[.int .i64 4, .int .i64 n, .string s, .slice A la a, .slice B lb b]] w (RetPost r er w) := by
  have HC := Lib.hid (fun W hW => ret_open (hc W hW))
  have H0 := Lib.hid (B2.start w #[.int .i64 4, .int .i64 n, .string s, .slice A la a, .slice B lb b])
  clear hc
  go_enter Tryz.func79, Tryz.ntmps79
  go_wp2_with fail
  refine (HC.out _ H0.out.below).mono ?_
  rintro e1 w1 ⟨rk, rn, rs, rks, res, RA, ra, RC, rc, hrv, rfl, hb1, hl1⟩
  have H1 := Lib.hid (H0.out.next hb1)
  have HL := Lib.hid hl1
  have hs2 := H0.out.r.lt
  have hs3 := H0.out.below.size
  clear hb1 hl1 hrv
  obtain ⟨t0, t1, t2, t3, t4⟩ := box5 H1.out.r
  have z0 := H1.out.r.free 0
  have z1 := H1.out.r.free 1
  have z2 := H1.out.r.free 2
  have z3 := H1.out.r.free 3
  have z4 := H1.out.r.free 4
  go_wp2_with fail
  refine bodyPost_ret (v := .tuple #[.agg #[.int .i64 rk, .int .i64 rn, .string rs, .slice RA rks.length ra, .slice RC res.length rc], .int .i64 er]) (by simp [results, Tryz.results79, go_sem, t0, t1, t2, t3, t4]) rfl ?_
  exact ret_put H1.out.below (by omega) H1.out.r.lt (HL.out.move fun b hb => ⟨⟨by omega, hb.2, by omega⟩, rfl⟩)
set_option maxHeartbeats 4000000 in
set_option maxRecDepth 100000 in
theorem renew_arr (n : Int) (s : ByteArray) (A B : Option Addr) (la a lb b : Nat) (w : World) (r : V) (er : Int) (hc : ∀ W, Below w.heap.size w W → Calls Tryz.prog 80 #[.slice B lb b] W (RetPost r er W)) :
    Calls Tryz.prog 79 #[.agg #[.int .i64 5, .int .i64 n, .string s, .slice A la a, .slice B lb b]] w (RetPost r er w) := by
  have HC := Lib.hid (fun W hW => ret_open (hc W hW))
  have H0 := Lib.hid (B2.start w #[.int .i64 5, .int .i64 n, .string s, .slice A la a, .slice B lb b])
  clear hc
  go_enter Tryz.func79, Tryz.ntmps79
  go_wp2_with fail
  refine (HC.out _ H0.out.below).mono ?_
  rintro e1 w1 ⟨rk, rn, rs, rks, res, RA, ra, RC, rc, hrv, rfl, hb1, hl1⟩
  have H1 := Lib.hid (H0.out.next hb1)
  have HL := Lib.hid hl1
  have hs2 := H0.out.r.lt
  have hs3 := H0.out.below.size
  clear hb1 hl1 hrv
  obtain ⟨t0, t1, t2, t3, t4⟩ := box5 H1.out.r
  have z0 := H1.out.r.free 0
  have z1 := H1.out.r.free 1
  have z2 := H1.out.r.free 2
  have z3 := H1.out.r.free 3
  have z4 := H1.out.r.free 4
  go_wp2_with fail
  refine bodyPost_ret (v := .tuple #[.agg #[.int .i64 rk, .int .i64 rn, .string rs, .slice RA rks.length ra, .slice RC res.length rc], .int .i64 er]) (by simp [results, Tryz.results79, go_sem, t0, t1, t2, t3, t4]) rfl ?_
  exact ret_put H1.out.below (by omega) H1.out.r.lt (HL.out.move fun b hb => ⟨⟨by omega, hb.2, by omega⟩, rfl⟩)
set_option maxHeartbeats 4000000 in
set_option maxRecDepth 100000 in
theorem renew_obj (n : Int) (s : ByteArray) (A B : Option Addr) (la a lb b : Nat) (w : World) (r : V) (er : Int) (hc : ∀ W, Below w.heap.size w W → Calls Tryz.prog 115 #[.slice A la a, .slice B lb b] W (RetPost r er W)) :
    Calls Tryz.prog 79 #[.agg #[.int .i64 6, .int .i64 n, .string s, .slice A la a, .slice B lb b]] w (RetPost r er w) := by
  have HC := Lib.hid (fun W hW => ret_open (hc W hW))
  have H0 := Lib.hid (B2.start w #[.int .i64 6, .int .i64 n, .string s, .slice A la a, .slice B lb b])
  clear hc
  go_enter Tryz.func79, Tryz.ntmps79
  go_wp2_with fail
  refine (HC.out _ H0.out.below).mono ?_
  rintro e1 w1 ⟨rk, rn, rs, rks, res, RA, ra, RC, rc, hrv, rfl, hb1, hl1⟩
  have H1 := Lib.hid (H0.out.next hb1)
  have HL := Lib.hid hl1
  have hs2 := H0.out.r.lt
  have hs3 := H0.out.below.size
  clear hb1 hl1 hrv
  obtain ⟨t0, t1, t2, t3, t4⟩ := box5 H1.out.r
  have z0 := H1.out.r.free 0
  have z1 := H1.out.r.free 1
  have z2 := H1.out.r.free 2
  have z3 := H1.out.r.free 3
  have z4 := H1.out.r.free 4
  go_wp2_with fail
  refine bodyPost_ret (v := .tuple #[.agg #[.int .i64 rk, .int .i64 rn, .string rs, .slice RA rks.length ra, .slice RC res.length rc], .int .i64 er]) (by simp [results, Tryz.results79, go_sem, t0, t1, t2, t3, t4]) rfl ?_
  exact ret_put H1.out.below (by omega) H1.out.r.lt (HL.out.move fun b hb => ⟨⟨by omega, hb.2, by omega⟩, rfl⟩)
set_option maxHeartbeats 4000000 in
set_option maxRecDepth 100000 in
theorem add_left (k2 : Int) (n n2 : Int) (s s2 : ByteArray) (A B A2 B2 : Option Addr) (la a lb b la2 a2 lb2 b2 : Nat) (w : World) (r : V) (er : Int) (hc : ∀ W, Below w.heap.size w W → Calls Tryz.prog 79 #[.agg #[.int .i64 k2, .int .i64 n2, .string s2, .slice A2 la2 a2, .slice B2 lb2 b2]] W (RetPost r er W)) :
    Calls Tryz.prog 43 #[.agg #[.int .i64 0, .int .i64 n, .string s, .slice A la a, .slice B lb b], .agg #[.int .i64 k2, .int .i64 n2, .string s2, .slice A2 la2 a2, .slice B2 lb2 b2]] w (RetPost r er w) := by
  have EQ := eq_pair
  have HC := Lib.hid (fun W hW => ret_open (hc W hW))
  have H0 := Lib.hid (B3.start w #[.int .i64 0, .int .i64 n, .string s, .slice A la a, .slice B lb b] #[.int .i64 k2, .int .i64 n2, .string s2, .slice A2 la2 a2, .slice B2 lb2 b2])
  clear hc
  go_enter Tryz.func43, Tryz.ntmps43
  go_wp2_with fail
  refine (HC.out _ H0.out.below).mono ?_
  rintro e1 w1 ⟨rk, rn, rs, rks, res, RA, ra, RC, rc, hrv, rfl, hb1, hl1⟩
  have H1 := Lib.hid (H0.out.next hb1)
  have HL := Lib.hid hl1
  have hs2 := H0.out.r.lt
  have hs3 := H0.out.below.size
  clear hb1 hl1 hrv
  obtain ⟨t0, t1, t2, t3, t4⟩ := box5 H1.out.r
  have z0 := H1.out.r.free 0
  have z1 := H1.out.r.free 1
  have z2 := H1.out.r.free 2
  have z3 := H1.out.r.free 3
  have z4 := H1.out.r.free 4
  go_wp2_with fail
  refine bodyPost_ret (v := .tuple #[.agg #[.int .i64 rk, .int .i64 rn, .string rs, .slice RA rks.length ra, .slice RC res.length rc], .int .i64 er]) (by simp [results, Tryz.results43, go_sem, t0, t1, t2, t3, t4]) rfl ?_
  exact ret_put H1.out.below (by omega) H1.out.r.lt (HL.out.move fun b hb => ⟨⟨by omega, hb.2, by omega⟩, rfl⟩)
set_option maxHeartbeats 4000000 in
set_option maxRecDepth 100000 in
theorem add_right (k : Int) (hk : k ≠ 0) (n n2 : Int) (s s2 : ByteArray) (A B A2 B2 : Option Addr) (la a lb b la2 a2 lb2 b2 : Nat) (w : World) (r : V) (er : Int) (hc : ∀ W, Below w.heap.size w W → Calls Tryz.prog 79 #[.agg #[.int .i64 k, .int .i64 n, .string s, .slice A la a, .slice B lb b]] W (RetPost r er W)) :
    Calls Tryz.prog 43 #[.agg #[.int .i64 k, .int .i64 n, .string s, .slice A la a, .slice B lb b], .agg #[.int .i64 0, .int .i64 n2, .string s2, .slice A2 la2 a2, .slice B2 lb2 b2]] w (RetPost r er w) := by
  have hk0 : (k == 0) = false := by simpa using hk
  have EQ := eq_pair
  have HC := Lib.hid (fun W hW => ret_open (hc W hW))
  have H0 := Lib.hid (B3.start w #[.int .i64 k, .int .i64 n, .string s, .slice A la a, .slice B lb b] #[.int .i64 0, .int .i64 n2, .string s2, .slice A2 la2 a2, .slice B2 lb2 b2])
  clear hc
  go_enter Tryz.func43, Tryz.ntmps43
  go_wp2_with fail
  refine (HC.out _ H0.out.below).mono ?_
  rintro e1 w1 ⟨rk, rn, rs, rks, res, RA, ra, RC, rc, hrv, rfl, hb1, hl1⟩
  have H1 := Lib.hid (H0.out.next hb1)
  have HL := Lib.hid hl1
  have hs2 := H0.out.r.lt
  have hs3 := H0.out.below.size
  clear hb1 hl1 hrv
  obtain ⟨t0, t1, t2, t3, t4⟩ := box5 H1.out.r
  have z0 := H1.out.r.free 0
  have z1 := H1.out.r.free 1
  have z2 := H1.out.r.free 2
  have z3 := H1.out.r.free 3
  have z4 := H1.out.r.free 4
  go_wp2_with fail
  refine bodyPost_ret (v := .tuple #[.agg #[.int .i64 rk, .int .i64 rn, .string rs, .slice RA rks.length ra, .slice RC res.length rc], .int .i64 er]) (by simp [results, Tryz.results43, go_sem, t0, t1, t2, t3, t4]) rfl ?_
  exact ret_put H1.out.below (by omega) H1.out.r.lt (HL.out.move fun b hb => ⟨⟨by omega, hb.2, by omega⟩, rfl⟩)
set_option maxHeartbeats 4000000 in
set_option maxRecDepth 100000 in
theorem add_str (n n2 : Int) (s s2 : ByteArray) (A B A2 B2 : Option Addr) (la a lb b la2 a2 lb2 b2 : Nat) (hs : s.size ≤ 4096) (hs2 : s2.size ≤ 4096) (w : World) (r : V) (er : Int) (hc : ∀ W, Below w.heap.size w W → Calls Tryz.prog 28 #[.string (s ++ s2)] W (RetPost r er W)) :
    Calls Tryz.prog 43 #[.agg #[.int .i64 4, .int .i64 n, .string s, .slice A la a, .slice B lb b], .agg #[.int .i64 4, .int .i64 n2, .string s2, .slice A2 la2 a2, .slice B2 lb2 b2]] w (RetPost r er w) := by
  have hz : ¬ (s.size + s2.size > 9223372036854775807) := by omega
  have EQ := eq_pair
  have HC := Lib.hid (fun W hW => ret_open (hc W hW))
  have H0 := Lib.hid (B3.start w #[.int .i64 4, .int .i64 n, .string s, .slice A la a, .slice B lb b] #[.int .i64 4, .int .i64 n2, .string s2, .slice A2 la2 a2, .slice B2 lb2 b2])
  clear hc
  go_enter Tryz.func43, Tryz.ntmps43
  go_wp2_with fail
  refine (HC.out _ H0.out.below).mono ?_
  rintro e1 w1 ⟨rk, rn, rs, rks, res, RA, ra, RC, rc, hrv, rfl, hb1, hl1⟩
  have H1 := Lib.hid (H0.out.next hb1)
  have HL := Lib.hid hl1
  have hs2 := H0.out.r.lt
  have hs3 := H0.out.below.size
  clear hb1 hl1 hrv
  obtain ⟨t0, t1, t2, t3, t4⟩ := box5 H1.out.r
  have z0 := H1.out.r.free 0
  have z1 := H1.out.r.free 1
  have z2 := H1.out.r.free 2
  have z3 := H1.out.r.free 3
  have z4 := H1.out.r.free 4
  go_wp2_with fail
  refine bodyPost_ret (v := .tuple #[.agg #[.int .i64 rk, .int .i64 rn, .string rs, .slice RA rks.length ra, .slice RC res.length rc], .int .i64 er]) (by simp [results, Tryz.results43, go_sem, t0, t1, t2, t3, t4]) rfl ?_
  exact ret_put H1.out.below (by omega) H1.out.r.lt (HL.out.move fun b hb => ⟨⟨by omega, hb.2, by omega⟩, rfl⟩)
set_option maxHeartbeats 4000000 in
set_option maxRecDepth 100000 in
theorem add_obj (n n2 : Int) (s s2 : ByteArray) (A B A2 B2 : Option Addr) (la a lb b la2 a2 lb2 b2 : Nat) (w : World) (r : V) (er : Int) (hc : ∀ W, Below w.heap.size w W → Calls Tryz.prog 82 #[.agg #[.int .i64 6, .int .i64 n, .string s, .slice A la a, .slice B lb b], .agg #[.int .i64 6, .int .i64 n2, .string s2, .slice A2 la2 a2, .slice B2 lb2 b2]] W (RetPost r er W)) :
    Calls Tryz.prog 43 #[.agg #[.int .i64 6, .int .i64 n, .string s, .slice A la a, .slice B lb b], .agg #[.int .i64 6, .int .i64 n2, .string s2, .slice A2 la2 a2, .slice B2 lb2 b2]] w (RetPost r er w) := by
  have EQ := eq_pair
  have HC := Lib.hid (fun W hW => ret_open (hc W hW))
  have H0 := Lib.hid (B3.start w #[.int .i64 6, .int .i64 n, .string s, .slice A la a, .slice B lb b] #[.int .i64 6, .int .i64 n2, .string s2, .slice A2 la2 a2, .slice B2 lb2 b2])
  clear hc
  go_enter Tryz.func43, Tryz.ntmps43
  go_wp2_with fail
  refine (HC.out _ H0.out.below).mono ?_
  rintro e1 w1 ⟨rk, rn, rs, rks, res, RA, ra, RC, rc, hrv, rfl, hb1, hl1⟩
  have H1 := Lib.hid (H0.out.next hb1)
  have HL := Lib.hid hl1
  have hs2 := H0.out.r.lt
  have hs3 := H0.out.below.size
  clear hb1 hl1 hrv
  obtain ⟨t0, t1, t2, t3, t4⟩ := box5 H1.out.r
  have z0 := H1.out.r.free 0
  have z1 := H1.out.r.free 1
  have z2 := H1.out.r.free 2
  have z3 := H1.out.r.free 3
  have z4 := H1.out.r.free 4
  go_wp2_with fail
  refine bodyPost_ret (v := .tuple #[.agg #[.int .i64 rk, .int .i64 rn, .string rs, .slice RA rks.length ra, .slice RC res.length rc], .int .i64 er]) (by simp [results, Tryz.results43, go_sem, t0, t1, t2, t3, t4]) rfl ?_
  exact ret_put H1.out.below (by omega) H1.out.r.lt (HL.out.move fun b hb => ⟨⟨by omega, hb.2, by omega⟩, rfl⟩)
set_option maxHeartbeats 4000000 in
set_option maxRecDepth 100000 in
theorem add_arr (n n2 : Int) (s s2 : ByteArray) (A B A2 B2 : Option Addr) (la a lb b la2 a2 lb2 b2 : Nat) (w : World) (n0 : Nat) (xs : List Value) (r : V) (er : Int)
    (hcat : ∀ W g, Below w.heap.size w W → W.cell? ⟨g, 0, none⟩ = some (.slice B lb b) → W.cell? ⟨g, 1, none⟩ = some (.slice B2 lb2 b2) → Calls Tryz.prog 81 #[.slice (some ⟨g, 0, none⟩) 2 2] W (CatPost W.heap.size 26 5 W n0 xs))
    (hc : ∀ W D d, Below w.heap.size w W → W.ownsRow w.heap.size 26 5 (.slice D n0 d) n0 xs → Calls Tryz.prog 80 #[.slice D n0 d] W (RetPost r er W)) :
    Calls Tryz.prog 43 #[.agg #[.int .i64 5, .int .i64 n, .string s, .slice A la a, .slice B lb b], .agg #[.int .i64 5, .int .i64 n2, .string s2, .slice A2 la2 a2, .slice B2 lb2 b2]] w (RetPost r er w) := by
  have EQ := eq_pair
  have HC := Lib.hid (fun W D d hW ho => ret_open (hc W D d hW ho))
  have HCat := Lib.hid hcat
  have H0 := Lib.hid (B3.start w #[.int .i64 5, .int .i64 n, .string s, .slice A la a, .slice B lb b] #[.int .i64 5, .int .i64 n2, .string s2, .slice A2 la2 a2, .slice B2 lb2 b2])
  clear hc hcat
  go_enter Tryz.func43, Tryz.ntmps43
  go_wp2_with fail
  refine (HCat.out _ _ (chain H0.out.below (below1 _ _)) (lit2_0 _ _ _ _ _ (by simp)) (lit2_1 _ _ _ _ _ (by simp))).mono ?_
  rintro e1 w1 ⟨v1, rfl, ho, hb1⟩
  obtain ⟨D, d, rfl, hdn, hdl, hdm, hrs⟩ := own_open ho
  have H1 := Lib.hid (H0.out.next (chain (below1 _ _) hb1))
  have HO := Lib.hid (own_base2 ho (base' := w.heap.size) (fun g hg => by have h1 := (ho.lt g hg).1; have h2 := H0.out.below.size; simp at h1 h2; omega))
  clear hb1 ho hrs hdn hdl hdm
  go_wp2_with fail
  refine (HC.out _ _ _ H1.out.below HO.out).mono ?_
  rintro e2 w2 ⟨rk, rn, rs, rks, res, RA, ra, RC, rc, hrv, rfl, hb2, hl2⟩
  have H2 := Lib.hid (H1.out.next hb2)
  have HL := Lib.hid hl2
  have hs2 := H1.out.r.lt
  have hs3 := H1.out.below.size
  clear hb2 hl2 hrv
  obtain ⟨t0, t1, t2, t3, t4⟩ := box5 H2.out.r
  have z0 := H2.out.r.free 0
  have z1 := H2.out.r.free 1
  have z2 := H2.out.r.free 2
  have z3 := H2.out.r.free 3
  have z4 := H2.out.r.free 4
  go_wp2_with fail
  refine bodyPost_ret (v := .tuple #[.agg #[.int .i64 rk, .int .i64 rn, .string rs, .slice RA rks.length ra, .slice RC res.length rc], .int .i64 er]) (by simp [results, Tryz.results43, go_sem, t0, t1, t2, t3, t4]) rfl ?_
  exact ret_put H2.out.below (by omega) H2.out.r.lt (HL.out.move fun b hb => ⟨⟨by omega, hb.2, by omega⟩, rfl⟩)
set_option maxHeartbeats 4000000 in
set_option maxRecDepth 100000 in
theorem add_type (k k2 : Int) (hk : k ≠ 0) (hk2 : k2 ≠ 0) (hne : ∀ c : Int, c = 3 ∨ c = 4 ∨ c = 5 ∨ c = 6 → ¬ (k = c ∧ k2 = c)) (n n2 : Int) (s s2 : ByteArray) (A B A2 B2 : Option Addr) (la a lb b la2 a2 lb2 b2 : Nat) (w : World) :
    Calls Tryz.prog 43 #[.agg #[.int .i64 k, .int .i64 n, .string s, .slice A la a, .slice B lb b], .agg #[.int .i64 k2, .int .i64 n2, .string s2, .slice A2 la2 a2, .slice B2 lb2 b2]] w (RetPost vnull 12 w) := by
  have hk0 : (k == 0) = false := by simpa using hk
  have hk20 : (k2 == 0) = false := by simpa using hk2
  have q3 : (k == 3 && k2 == 3) = false := by have := hne 3 (by omega); simpa using this
  have q4 : (k == 4 && k2 == 4) = false := by have := hne 4 (by omega); simpa using this
  have q5 : (k == 5 && k2 == 5) = false := by have := hne 5 (by omega); simpa using this
  have q6 : (k == 6 && k2 == 6) = false := by have := hne 6 (by omega); simpa using this
  have EQ := eq_pair
  clear hne
  have H1 := Lib.hid (B3.start w #[.int .i64 k, .int .i64 n, .string s, .slice A la a, .slice B lb b] #[.int .i64 k2, .int .i64 n2, .string s2, .slice A2 la2 a2, .slice B2 lb2 b2])
  go_enter Tryz.func43, Tryz.ntmps43
  go_wp2_with fail
  refine bodyPost_ret (v := .tuple #[.agg #[.int .i64 0, .int .i64 0, .string ⟨#[]⟩, .slice none 0 0, .slice none 0 0], .int .i64 12]) (by simp [results, Tryz.results43, go_sem]) rfl ?_
  exact ret_of (ds := [.int .i64 0, .int .i64 0, .string ⟨#[]⟩, .slice none 0 0, .slice none 0 0]) H1.out.below (lies_null _ _)
end Go.Proofs.YtbojpopgjcmlbaaGreatDoor
namespace Go.Proofs
open Go.Shelf Go.RowKit
def Tryz.rpt_ren : Go.Shelf.Ren := ⟨fun | 105 => 123 | 212 => 159 | 99 => 160 | 165 => 161 | 166 => 162 | 170 => 163 | 169 => 164 | 263 => 183 | 264 => 184 | 206 => 185 | 240 => 186 | 241 => 187 | 276 => 214 | 277 => 215 | n => n, fun | 9 => 9 | 3 => 3 | 4 => 4 | 20 => 20 | 0 => 0 | 46 => 108 | 109 => 152 | 5 => 5 | 72 => 156 | 76 => 160 | 51 => 183 | 146 => 184 | 53 => 71 | 148 => 186 | 70 => 154 | 37 => 62 | 75 => 159 | 127 => 188 | 164 => 205 | 80 => 163 | n => n, fun | n => n⟩
theorem Tryz.rpt : Go.Proofs.Lays.n105 Tryz.prog Tryz.rpt_ren := {
  mixed := by kernel_rfl
  f99 := Tryz.func160.trans (congrArg some (by kernel_rfl))
  f105 := Tryz.func123.trans (congrArg some (by kernel_rfl))
  f165 := Tryz.func161.trans (congrArg some (by kernel_rfl))
  f166 := Tryz.func162.trans (congrArg some (by kernel_rfl))
  f169 := Tryz.func164.trans (congrArg some (by kernel_rfl))
  f170 := Tryz.func163.trans (congrArg some (by kernel_rfl))
  f206 := Tryz.func185.trans (congrArg some (by kernel_rfl))
  f212 := Tryz.func159.trans (congrArg some (by kernel_rfl))
  f240 := Tryz.func186.trans (congrArg some (by kernel_rfl))
  f241 := Tryz.func187.trans (congrArg some (by kernel_rfl))
  f263 := Tryz.func183.trans (congrArg some (by kernel_rfl))
  f264 := Tryz.func184.trans (congrArg some (by kernel_rfl))
  f276 := Tryz.func214.trans (congrArg some (by kernel_rfl))
  f277 := Tryz.func215.trans (congrArg some (by kernel_rfl))
  t0 := Tryz.underlying0
  a0 := Tryz.isAgg0
  z0 := Tryz.sizeOf0
  v0 := Tryz.zeroValue0
  t3 := Tryz.underlying3
  a3 := Tryz.isAgg3
  z3 := Tryz.sizeOf3
  v3 := Tryz.zeroValue3
  t4 := Tryz.underlying4
  a4 := Tryz.isAgg4
  z4 := Tryz.sizeOf4
  v4 := Tryz.zeroValue4
  t5 := Tryz.underlying5
  a5 := Tryz.isAgg5
  z5 := Tryz.sizeOf5
  v5 := Tryz.zeroValue5
  t9 := Tryz.underlying9
  a9 := Tryz.isAgg9
  z9 := Tryz.sizeOf9
  v9 := Tryz.zeroValue9
  t20 := Tryz.underlying20
  a20 := Tryz.isAgg20
  z20 := Tryz.sizeOf20
  v20 := Tryz.zeroValue20
  t37 := Tryz.underlying62
  a37 := Tryz.isAgg62
  z37 := Tryz.sizeOf62
  v37 := Tryz.zeroValue62
  t46 := Tryz.underlying108
  a46 := Tryz.isAgg108
  z46 := Tryz.sizeOf108
  v46 := Tryz.zeroValue108
  t51 := Tryz.underlying183
  a51 := Tryz.isAgg183
  z51 := Tryz.sizeOf183
  v51 := Tryz.zeroValue183
  t53 := Tryz.underlying71
  a53 := Tryz.isAgg71
  z53 := Tryz.sizeOf71
  v53 := Tryz.zeroValue71
  t70 := Tryz.underlying154
  a70 := Tryz.isAgg154
  z70 := Tryz.sizeOf154
  v70 := Tryz.zeroValue154
  t72 := Tryz.underlying156
  a72 := Tryz.isAgg156
  z72 := Tryz.sizeOf156
  v72 := Tryz.zeroValue156
  t75 := Tryz.underlying159
  a75 := Tryz.isAgg159
  z75 := Tryz.sizeOf159
  v75 := Tryz.zeroValue159
  t76 := Tryz.underlying160
  a76 := Tryz.isAgg160
  z76 := Tryz.sizeOf160
  v76 := Tryz.zeroValue160
  t109 := Tryz.underlying152
  a109 := Tryz.isAgg152
  z109 := Tryz.sizeOf152
  v109 := Tryz.zeroValue152
  t127 := Tryz.underlying188
  a127 := Tryz.isAgg188
  z127 := Tryz.sizeOf188
  v127 := Tryz.zeroValue188
  t146 := Tryz.underlying184
  a146 := Tryz.isAgg184
  z146 := Tryz.sizeOf184
  v146 := Tryz.zeroValue184
  t148 := Tryz.underlying186
  a148 := Tryz.isAgg186
  z148 := Tryz.sizeOf186
  v148 := Tryz.zeroValue186
  t164 := Tryz.underlying205
  a164 := Tryz.isAgg205
  z164 := Tryz.sizeOf205
  v164 := Tryz.zeroValue205 }


theorem Tryz.rpt_extra : Builder.Extra Tryz.prog Tryz.rpt_ren := {
  sizeBuilder := by kernel_rfl
  liesBuilder := by kernel_rfl
  t5 := Tryz.underlying5
  a5 := Tryz.isAgg5
  z5 := Tryz.sizeOf5
  v5 := Tryz.zeroValue5
  infoByte := by kernel_rfl
  cellsByte := by kernel_rfl
  sizeByte := by kernel_rfl
  neB5 := by decide }
end Go.Proofs
namespace Go.Proofs.YtbojpopgjcmlbaaGreatDoor
open Go.RowKit
theorem repeat_lib (s : ByteArray) (n : Nat) (w : World) (hn : n ≤ 9223372036854775807) (hl : s.size * n ≤ 140737488355328) :
    Calls Tryz.prog 123 #[.string s, .int .i64 (n : Int)] w fun e w' => e = .returned (.string (rep s n)) ∧ Below w.heap.size w w' :=
  Go.Proofs.Any.strings_Repeat Tryz.rpt Tryz.rpt_extra s n w hn hl
end Go.Proofs.YtbojpopgjcmlbaaGreatDoor
namespace Go.Proofs.YtbojpopgjcmlbaaGreatDoor
open Go.RowKit Go.Sort
set_option maxHeartbeats 4000000 in
set_option maxRecDepth 100000 in
theorem repeat_any (s : ByteArray) (n : Int) (hn : n ≤ 9223372036854775807) (w : World) (hs : s.size ≤ 4096) : Calls Tryz.prog 84 #[.string s, .int .i64 n] w (RetPost (repR s n).1 (repR s n).2 w) := by
  have hE : s.toList.isEmpty = decide (s.size = 0) := by
    rw [Lib.toList_data, Lib.size_eq]
    cases s.data.toList <;> simp
  unfold repR
  by_cases h1 : n < 1
  · rw [if_pos h1]
    go_enter Tryz.func84, Tryz.ntmps84
    go_wp2_with fail
    refine bodyPost_ret (v := .tuple #[.agg #[.int .i64 0, .int .i64 0, .string ⟨#[]⟩, .slice none 0 0, .slice none 0 0], .int .i64 0]) (by simp [results, Tryz.results84, go_sem]) rfl ?_
    exact ret_of (ds := [.int .i64 0, .int .i64 0, .string ⟨#[]⟩, .slice none 0 0, .slice none 0 0]) ((Below.refl _ _).alloc (Nat.le_refl _) _) (lies_null _ _)
  · rw [if_neg h1]
    by_cases h0 : s.size = 0
    · rw [if_pos h0]
      rw [decide_eq_true h0] at hE
      have HC := Lib.hid (fun W => ret_open (str_any ⟨#[]⟩ W (by decide)))
      generalize strR ⟨#[]⟩ = r at HC ⊢
      generalize strE ⟨#[]⟩ = er at HC ⊢
      go_enter Tryz.func84, Tryz.ntmps84
      go_wp2_with fail
      refine (HC.out _).mono ?_
      rintro e1 w1 ⟨rk, rn, rs, rks, res, RA, ra, RC, rc, hrv, rfl, hb1, hl1⟩
      have H1 : Hid (Below w.heap.size w w1 ∧ Box w1 w.heap.size 26 #[.int .i64 0, .int .i64 0, .string ⟨#[]⟩, .slice none 0 0, .slice none 0 0]) := Lib.hid ⟨(chain (below1 w _) hb1), ((Box.laid w _ _).below hb1 (by simp))⟩
      have HL := Lib.hid hl1
      clear hb1 hl1 hrv
      obtain ⟨t0, t1, t2, t3, t4⟩ := box5 H1.out.2
      have z0 := H1.out.2.free 0
      have z1 := H1.out.2.free 1
      have z2 := H1.out.2.free 2
      have z3 := H1.out.2.free 3
      have z4 := H1.out.2.free 4
      go_wp2_with fail
      refine bodyPost_ret (v := .tuple #[.agg #[.int .i64 rk, .int .i64 rn, .string rs, .slice RA rks.length ra, .slice RC res.length rc], .int .i64 er]) (by simp [results, Tryz.results84, go_sem, t0, t1, t2, t3, t4]) rfl ?_
      exact ret_put H1.out.1 (Nat.le_refl _) H1.out.2.lt (HL.out.move fun b hb => ⟨⟨by have := hb.1; simp at this; omega, hb.2, by have := hb.1; simp at this; omega⟩, rfl⟩)
    · rw [if_neg h0]
      rw [decide_eq_false h0] at hE
      have hd : (4096 : Int) / (s.size : Int) = ((4096 / s.size : Nat) : Int) := by rw [Int.natCast_ediv]; rfl
      have hd2 : 4096 / s.size ≤ 4096 := Nat.div_le_self _ _
      have hpos : 1 ≤ s.size := by omega
      have hT : Int.tdiv 4096 (s.size : Int) = ((4096 / s.size : Nat) : Int) := by rw [← hd]; exact Int.tdiv_eq_ediv_of_nonneg (by decide)
      rw [hd]
      by_cases hb : n > ((4096 / s.size : Nat) : Int)
      · rw [if_pos hb]
        have HB := Lib.hid hb
        have hz : ((s.size : Int) == 0) = false := beq_eq_false_iff_ne.2 (by omega)
        have hz2 : ¬ ((s.size : Int) = 0) := by omega
        generalize hq : 4096 / s.size = q at *
        have hb' : (q : Int) < n := hb
        go_enter Tryz.func84, Tryz.ntmps84
        go_wp2_with fail
        refine bodyPost_ret (v := .tuple #[.agg #[.int .i64 0, .int .i64 0, .string ⟨#[]⟩, .slice none 0 0, .slice none 0 0], .int .i64 2]) (by simp [results, Tryz.results84, go_sem]) rfl ?_
        exact ret_of (ds := [.int .i64 0, .int .i64 0, .string ⟨#[]⟩, .slice none 0 0, .slice none 0 0]) ((Below.refl _ _).alloc (Nat.le_refl _) _) (lies_null _ _)
      · rw [if_neg hb]
        obtain ⟨m, rfl⟩ : ∃ m : Nat, n = m := ⟨n.toNat, by omega⟩
        have hle : m ≤ 4096 / s.size := by omega
        have hm2 : s.size * m ≤ 4096 := by
          have h3 : m * s.size ≤ 4096 / s.size * s.size := Nat.mul_le_mul_right _ hle
          have h4 := Nat.div_mul_le_self 4096 s.size
          rw [Nat.mul_comm]
          omega
        have hR := Lib.hid (fun W => repeat_lib s m W (by omega) (by omega))
        rw [Int.toNat_natCast]
        have hsz := rep_size s m
        have HC := Lib.hid (fun W => ret_open (str_any (rep s m) W (by omega)))
        generalize strR (rep s m) = r at HC ⊢
        generalize strE (rep s m) = er at HC ⊢
        generalize rep s m = u at *
        have hz : ((s.size : Int) == 0) = false := beq_eq_false_iff_ne.2 (by omega)
        have hz2 : ¬ ((s.size : Int) = 0) := by omega
        generalize hq : 4096 / s.size = q at *
        have hb' : ¬ ((q : Int) < (m : Int)) := hb
        clear hsz hm2
        go_enter Tryz.func84, Tryz.ntmps84
        go_wp2_with fail
        refine (hR.out _).mono ?_
        rintro e0 w0 ⟨rfl, hb0⟩
        have HB0 := Lib.hid hb0
        clear hb0
        go_wp2_with fail
        refine (HC.out _).mono ?_
        rintro e1 w1 ⟨rk, rn, rs, rks, res, RA, ra, RC, rc, hrv, rfl, hb1, hl1⟩
        have H1 : Hid (Below w.heap.size w w1 ∧ Box w1 w.heap.size 26 #[.int .i64 0, .int .i64 0, .string ⟨#[]⟩, .slice none 0 0, .slice none 0 0]) := Lib.hid ⟨(chain (below1 w _) (chain HB0.out hb1)), ((Box.laid w _ _).below (chain HB0.out hb1) (by simp))⟩
        have HL := Lib.hid hl1
        have hz0 : w.heap.size + 1 ≤ w0.heap.size := by have := HB0.out.size; simpa using this
        clear hb1 hl1 hrv
        obtain ⟨t0, t1, t2, t3, t4⟩ := box5 H1.out.2
        have z0 := H1.out.2.free 0
        have z1 := H1.out.2.free 1
        have z2 := H1.out.2.free 2
        have z3 := H1.out.2.free 3
        have z4 := H1.out.2.free 4
        go_wp2_with fail
        refine bodyPost_ret (v := .tuple #[.agg #[.int .i64 rk, .int .i64 rn, .string rs, .slice RA rks.length ra, .slice RC res.length rc], .int .i64 er]) (by simp [results, Tryz.results84, go_sem, t0, t1, t2, t3, t4]) rfl ?_
        exact ret_put H1.out.1 (Nat.le_refl _) H1.out.2.lt (HL.out.move fun b hb => ⟨⟨by have := hb.1; omega, hb.2, by have := hb.1; omega⟩, rfl⟩)

set_option maxHeartbeats 4000000 in
set_option maxRecDepth 100000 in
theorem mul_sn (n n2 : Int) (s s2 : ByteArray) (A B A2 B2 : Option Addr) (la a lb b la2 a2 lb2 b2 : Nat) (w : World) (r : V) (er : Int) (hc : ∀ W, Below w.heap.size w W → Calls Tryz.prog 84 #[.string s, .int .i64 n2] W (RetPost r er W)) :
    Calls Tryz.prog 45 #[.agg #[.int .i64 4, .int .i64 n, .string s, .slice A la a, .slice B lb b], .agg #[.int .i64 3, .int .i64 n2, .string s2, .slice A2 la2 a2, .slice B2 lb2 b2]] w (RetPost r er w) := by
  have EQ := eq_pair
  have HC := Lib.hid (fun W hW => ret_open (hc W hW))
  have H0 := Lib.hid (B3.start w #[.int .i64 4, .int .i64 n, .string s, .slice A la a, .slice B lb b] #[.int .i64 3, .int .i64 n2, .string s2, .slice A2 la2 a2, .slice B2 lb2 b2])
  clear hc
  go_enter Tryz.func45, Tryz.ntmps45
  go_wp2_with fail
  refine (HC.out _ H0.out.below).mono ?_
  rintro e1 w1 ⟨rk, rn, rs, rks, res, RA, ra, RC, rc, hrv, rfl, hb1, hl1⟩
  have H1 := Lib.hid (H0.out.next hb1)
  have HL := Lib.hid hl1
  have hs2 := H0.out.r.lt
  have hs3 := H0.out.below.size
  clear hb1 hl1 hrv
  obtain ⟨t0, t1, t2, t3, t4⟩ := box5 H1.out.r
  have z0 := H1.out.r.free 0
  have z1 := H1.out.r.free 1
  have z2 := H1.out.r.free 2
  have z3 := H1.out.r.free 3
  have z4 := H1.out.r.free 4
  go_wp2_with fail
  refine bodyPost_ret (v := .tuple #[.agg #[.int .i64 rk, .int .i64 rn, .string rs, .slice RA rks.length ra, .slice RC res.length rc], .int .i64 er]) (by simp [results, Tryz.results45, go_sem, t0, t1, t2, t3, t4]) rfl ?_
  exact ret_put H1.out.below (by omega) H1.out.r.lt (HL.out.move fun b hb => ⟨⟨by omega, hb.2, by omega⟩, rfl⟩)
set_option maxHeartbeats 4000000 in
set_option maxRecDepth 100000 in
theorem mul_ns (n n2 : Int) (s s2 : ByteArray) (A B A2 B2 : Option Addr) (la a lb b la2 a2 lb2 b2 : Nat) (w : World) (r : V) (er : Int) (hc : ∀ W, Below w.heap.size w W → Calls Tryz.prog 84 #[.string s2, .int .i64 n] W (RetPost r er W)) :
    Calls Tryz.prog 45 #[.agg #[.int .i64 3, .int .i64 n, .string s, .slice A la a, .slice B lb b], .agg #[.int .i64 4, .int .i64 n2, .string s2, .slice A2 la2 a2, .slice B2 lb2 b2]] w (RetPost r er w) := by
  have EQ := eq_pair
  have HC := Lib.hid (fun W hW => ret_open (hc W hW))
  have H0 := Lib.hid (B3.start w #[.int .i64 3, .int .i64 n, .string s, .slice A la a, .slice B lb b] #[.int .i64 4, .int .i64 n2, .string s2, .slice A2 la2 a2, .slice B2 lb2 b2])
  clear hc
  go_enter Tryz.func45, Tryz.ntmps45
  go_wp2_with fail
  refine (HC.out _ H0.out.below).mono ?_
  rintro e1 w1 ⟨rk, rn, rs, rks, res, RA, ra, RC, rc, hrv, rfl, hb1, hl1⟩
  have H1 := Lib.hid (H0.out.next hb1)
  have HL := Lib.hid hl1
  have hs2 := H0.out.r.lt
  have hs3 := H0.out.below.size
  clear hb1 hl1 hrv
  obtain ⟨t0, t1, t2, t3, t4⟩ := box5 H1.out.r
  have z0 := H1.out.r.free 0
  have z1 := H1.out.r.free 1
  have z2 := H1.out.r.free 2
  have z3 := H1.out.r.free 3
  have z4 := H1.out.r.free 4
  go_wp2_with fail
  refine bodyPost_ret (v := .tuple #[.agg #[.int .i64 rk, .int .i64 rn, .string rs, .slice RA rks.length ra, .slice RC res.length rc], .int .i64 er]) (by simp [results, Tryz.results45, go_sem, t0, t1, t2, t3, t4]) rfl ?_
  exact ret_put H1.out.below (by omega) H1.out.r.lt (HL.out.move fun b hb => ⟨⟨by omega, hb.2, by omega⟩, rfl⟩)
end Go.Proofs.YtbojpopgjcmlbaaGreatDoor
namespace Go.Proofs.YtbojpopgjcmlbaaGreatDoor
open Go.RowKit Go.Sort
theorem below_drw2 {B : Nat} {w w' : World} (h : Below B w w') : Below B w w'.drew := h.drew
theorem far5 {X : World} {g p : Nat} {t : TypeId} {cs : Array Value} (h : Box X g t cs) (hp : g ≠ p) (r0 r1 r2 r3 r4 : Value) : Box (((((X.setCell ⟨p, 0, none⟩ r0).setCell ⟨p, 1, none⟩ r1).setCell ⟨p, 2, none⟩ r2).setCell ⟨p, 3, none⟩ r3).setCell ⟨p, 4, none⟩ r4) g t cs :=
  ((((h.far (p := ⟨p, 0, none⟩) hp _).far (p := ⟨p, 1, none⟩) hp _).far (p := ⟨p, 2, none⟩) hp _).far (p := ⟨p, 3, none⟩) hp _).far (p := ⟨p, 4, none⟩) hp _
set_option maxHeartbeats 8000000 in
set_option maxRecDepth 100000 in
theorem union_over (k k2 n n2 : Int) (s s2 : ByteArray) (A B A2 B2 : Option Addr) (la a lb b la2 a2 lb2 b2 : Nat) (w : World) (n0 m0 : Nat) (xs ys : List Value) (r : V) (er : Int)
    (hcs : ∀ W g, Below w.heap.size w W → W.cell? ⟨g, 0, none⟩ = some (.slice A la a) → W.cell? ⟨g, 1, none⟩ = some (.slice A2 la2 a2) → Calls Tryz.prog 117 #[.slice (some ⟨g, 0, none⟩) 2 2] W (CatPost W.heap.size 9 1 W n0 xs))
    (hcv : ∀ W g, Below w.heap.size w W → W.cell? ⟨g, 0, none⟩ = some (.slice B lb b) → W.cell? ⟨g, 1, none⟩ = some (.slice B2 lb2 b2) → Calls Tryz.prog 81 #[.slice (some ⟨g, 0, none⟩) 2 2] W (CatPost W.heap.size 26 5 W m0 ys))
    (hob : ∀ W D d E e, Below w.heap.size w W → W.ownsRow w.heap.size 9 1 (.slice D n0 d) n0 xs → W.ownsRow w.heap.size 26 5 (.slice E m0 e) m0 ys → Calls Tryz.prog 115 #[.slice D n0 d, .slice E m0 e] W (RetPost r er W)) :
    Calls Tryz.prog 82 #[.agg #[.int .i64 k, .int .i64 n, .string s, .slice A la a, .slice B lb b], .agg #[.int .i64 k2, .int .i64 n2, .string s2, .slice A2 la2 a2, .slice B2 lb2 b2]] w (RetPost r er w) := by
  have HCS := Lib.hid hcs
  have HCV := Lib.hid hcv
  have HOB := Lib.hid (fun W D d E e hW h1 h2 => ret_open (hob W D d E e hW h1 h2))
  clear hcs hcv hob
  obtain ⟨W0, hW0⟩ : ∃ X, X = (((w.alloc (.cells #[.int .i64 k, .int .i64 n, .string s, .slice A la a, .slice B lb b] 26)).alloc (.cells #[.int .i64 k2, .int .i64 n2, .string s2, .slice A2 la2 a2, .slice B2 lb2 b2] 26)).alloc (.cells #[.int .i64 0, .int .i64 0, .string ⟨#[]⟩, .slice none 0 0, .slice none 0 0] 26)) := ⟨_, rfl⟩
  have H0 : Hid (B3 w #[.int .i64 k, .int .i64 n, .string s, .slice A la a, .slice B lb b] #[.int .i64 k2, .int .i64 n2, .string s2, .slice A2 la2 a2, .slice B2 lb2 b2] W0) := Lib.hid (by rw [hW0]; exact B3.start w _ _)
  have HW0 := Lib.hid hW0
  have hsz : w.heap.size + 1 + 1 < W0.heap.size := H0.out.r.lt
  clear hW0
  have keepS : Hid (∀ X, Below W0.heap.size W0 X → X.cell? ⟨w.heap.size, 3, none⟩ = some (.slice A la a) ∧ X.cell? ⟨w.heap.size, 4, none⟩ = some (.slice B lb b) ∧ X.cell? ⟨w.heap.size + 1, 3, none⟩ = some (.slice A2 la2 a2) ∧ X.cell? ⟨w.heap.size + 1, 4, none⟩ = some (.slice B2 lb2 b2)) := Lib.hid fun X hX => by
    obtain ⟨t0, t1, t2, t3, t4⟩ := box5 (H0.out.x.below hX H0.out.x.lt)
    obtain ⟨y0, y1, y2, y3, y4⟩ := box5 (H0.out.y.below hX H0.out.y.lt)
    exact ⟨t3, t4, y3, y4⟩
  have keepT : Hid (∀ X, Below W0.heap.size W0 X → ∀ r0 r1 r2 r3 r4, (((((X.setCell ⟨w.heap.size + 1 + 1, 0, none⟩ r0).setCell ⟨w.heap.size + 1 + 1, 1, none⟩ r1).setCell ⟨w.heap.size + 1 + 1, 2, none⟩ r2).setCell ⟨w.heap.size + 1 + 1, 3, none⟩ r3).setCell ⟨w.heap.size + 1 + 1, 4, none⟩ r4).cell? ⟨w.heap.size, 3, none⟩ = some (.slice A la a) ∧ (((((X.setCell ⟨w.heap.size + 1 + 1, 0, none⟩ r0).setCell ⟨w.heap.size + 1 + 1, 1, none⟩ r1).setCell ⟨w.heap.size + 1 + 1, 2, none⟩ r2).setCell ⟨w.heap.size + 1 + 1, 3, none⟩ r3).setCell ⟨w.heap.size + 1 + 1, 4, none⟩ r4).cell? ⟨w.heap.size, 4, none⟩ = some (.slice B lb b) ∧ (((((X.setCell ⟨w.heap.size + 1 + 1, 0, none⟩ r0).setCell ⟨w.heap.size + 1 + 1, 1, none⟩ r1).setCell ⟨w.heap.size + 1 + 1, 2, none⟩ r2).setCell ⟨w.heap.size + 1 + 1, 3, none⟩ r3).setCell ⟨w.heap.size + 1 + 1, 4, none⟩ r4).cell? ⟨w.heap.size + 1, 3, none⟩ = some (.slice A2 la2 a2) ∧ (((((X.setCell ⟨w.heap.size + 1 + 1, 0, none⟩ r0).setCell ⟨w.heap.size + 1 + 1, 1, none⟩ r1).setCell ⟨w.heap.size + 1 + 1, 2, none⟩ r2).setCell ⟨w.heap.size + 1 + 1, 3, none⟩ r3).setCell ⟨w.heap.size + 1 + 1, 4, none⟩ r4).cell? ⟨w.heap.size + 1, 4, none⟩ = some (.slice B2 lb2 b2)) := Lib.hid fun X hX r0 r1 r2 r3 r4 => by
    obtain ⟨t0, t1, t2, t3, t4⟩ := box5 (far5 (H0.out.x.below hX H0.out.x.lt) (p := w.heap.size + 1 + 1) (by omega) r0 r1 r2 r3 r4)
    obtain ⟨y0, y1, y2, y3, y4⟩ := box5 (far5 (H0.out.y.below hX H0.out.y.lt) (p := w.heap.size + 1 + 1) (by omega) r0 r1 r2 r3 r4)
    exact ⟨t3, t4, y3, y4⟩
  have k0 : Hid (Below W0.heap.size W0 W0.drew) := Lib.hid (below_drw2 (Below.refl _ _))
  have kA : Hid (Below W0.heap.size W0 (W0.alloc (Obj.cells #[.slice A la a, .slice A2 la2 a2] 23)).drew) := Lib.hid (below_drw2 (below1 _ _))
  have kB : Hid (Below W0.heap.size W0 (W0.alloc (Obj.cells #[.slice B lb b, .slice B2 lb2 b2] 24)).drew) := Lib.hid (below_drw2 (below1 _ _))
  have kC : Hid (Below W0.heap.size W0 ((W0.alloc (Obj.cells #[.slice A la a, .slice A2 la2 a2] 23)).alloc (Obj.cells #[.slice B lb b, .slice B2 lb2 b2] 24)).drew) := Lib.hid (below_drw2 (chain (below1 _ _) (below1 _ _)))
  have kD : Hid (Below W0.heap.size W0 ((W0.alloc (Obj.cells #[.slice B lb b, .slice B2 lb2 b2] 24)).alloc (Obj.cells #[.slice A la a, .slice A2 la2 a2] 23)).drew) := Lib.hid (below_drw2 (chain (below1 _ _) (below1 _ _)))
  have bC : Hid (Box ((W0.alloc (Obj.cells #[.slice A la a, .slice A2 la2 a2] 23)).alloc (Obj.cells #[.slice B lb b, .slice B2 lb2 b2] 24)).drew (W0.heap.size + 1) 24 #[.slice B lb b, .slice B2 lb2 b2]) := Lib.hid (by exact box_at _ _ _ _ (by simp))
  have bD : Hid (Box ((W0.alloc (Obj.cells #[.slice B lb b, .slice B2 lb2 b2] 24)).alloc (Obj.cells #[.slice A la a, .slice A2 la2 a2] 23)).drew W0.heap.size 24 #[.slice B lb b, .slice B2 lb2 b2]) := Lib.hid (by exact (Box.laid _ _ _).alloc _)
  have HB0 := Lib.hid H0.out.below
  have cA := Lib.hid (HCS.out _ W0.heap.size (chain HB0.out kA.out) (by exact lit2_0 W0 _ _ _ _ rfl) (by exact lit2_1 W0 _ _ _ _ rfl))
  have cC := Lib.hid (HCS.out _ W0.heap.size (chain HB0.out kC.out) (by exact ((Box.laid W0 _ _).alloc _).cell rfl) (by exact ((Box.laid W0 _ _).alloc _).cell rfl))
  have cD := Lib.hid (HCS.out _ (W0.heap.size + 1) (chain HB0.out kD.out) (by exact lit2_0 (W0.alloc _) _ _ _ _ (by simp)) (by exact lit2_1 (W0.alloc _) _ _ _ _ (by simp)))
  have cP := Lib.hid (fun W1 (hW : Below W0.heap.size W0 W1) => HCV.out _ W1.heap.size (chain HB0.out (chain hW (below1 W1 (Obj.cells #[.slice B lb b, .slice B2 lb2 b2] 24)))) (by exact lit2_0 W1 _ _ _ _ rfl) (by exact lit2_1 W1 _ _ _ _ rfl))
  go_enter Tryz.func82, Tryz.ntmps82
  go_upto_region 1 with fail
  rw [← HW0.out]
  obtain ⟨t3, t4, y3, y4⟩ := keepS.out W0 (Below.refl _ _)
  go_region_held3 (fun w' => w'.cell? ⟨w.heap.size, 3, none⟩ = some (.slice A la a) ∧ w'.cell? ⟨w.heap.size, 4, none⟩ = some (.slice B lb b) ∧ w'.cell? ⟨w.heap.size + 1, 3, none⟩ = some (.slice A2 la2 a2) ∧ w'.cell? ⟨w.heap.size + 1, 4, none⟩ = some (.slice B2 lb2 b2))
    (first | with_reducible exact keepS.out _ k0.out | with_reducible exact keepS.out _ kA.out | with_reducible exact keepS.out _ kB.out | with_reducible exact keepS.out _ kC.out | with_reducible exact keepS.out _ kD.out | with_reducible exact keepS.out _ hb3 | with_reducible exact keepT.out _ hb3 _ _ _ _ _ | with_reducible exact keepS.out _ hb2 | with_reducible exact keepS.out _ (chain hb1 (below1 _ _)) | with_reducible exact keepS.out _ hb1 | go_keep)
    (first
      | (go_at_call 117; (with_reducible refine cA.out.mono ?_); rintro e1 w1 ⟨v1, rfl, ho1', hb1'⟩; obtain ⟨D, d, rfl, -⟩ := own_open ho1'; have ho1 := own_base2 ho1' (base' := w.heap.size) (fun g hg => by have h1 := (ho1'.lt g hg).1; have h2 := (chain HB0.out kA.out).size; omega); have hb1 := chain kA.out hb1'; clear ho1' hb1')
      | (go_at_call 117; (with_reducible refine cC.out.mono ?_); rintro e1 w1 ⟨v1, rfl, ho1', hb1'⟩; obtain ⟨D, d, rfl, -⟩ := own_open ho1'; have ho1 := own_base2 ho1' (base' := w.heap.size) (fun g hg => by have h1 := (ho1'.lt g hg).1; have h2 := (chain HB0.out kC.out).size; omega); have hb1 := chain kC.out hb1'; have q := bC.out.below hb1' bC.out.lt; have q0 : w1.cell? ⟨W0.heap.size + 1, 0, none⟩ = some (.slice B lb b) := q.cell rfl; have q1 : w1.cell? ⟨W0.heap.size + 1, 1, none⟩ = some (.slice B2 lb2 b2) := q.cell rfl; clear q; clear ho1' hb1')
      | (go_at_call 117; (with_reducible refine cD.out.mono ?_); rintro e1 w1 ⟨v1, rfl, ho1', hb1'⟩; obtain ⟨D, d, rfl, -⟩ := own_open ho1'; have ho1 := own_base2 ho1' (base' := w.heap.size) (fun g hg => by have h1 := (ho1'.lt g hg).1; have h2 := (chain HB0.out kD.out).size; omega); have hb1 := chain kD.out hb1'; have q := bD.out.below hb1' bD.out.lt; have q0 : w1.cell? ⟨W0.heap.size, 0, none⟩ = some (.slice B lb b) := q.cell rfl; have q1 : w1.cell? ⟨W0.heap.size, 1, none⟩ = some (.slice B2 lb2 b2) := q.cell rfl; clear q; clear ho1' hb1')
      | (go_at_call 81; (with_reducible refine (HCV.out _ _ (chain HB0.out hb1) q0 q1).mono ?_); rintro e2 w2 ⟨v2, rfl, ho2', hb2'⟩; obtain ⟨E, e, rfl, -⟩ := own_open ho2'; have ho2 := own_base2 ho2' (base' := w.heap.size) (fun g hg => by have h1 := (ho2'.lt g hg).1; have h2 := (chain HB0.out hb1).size; omega); have hb2 := chain hb1 hb2'; have ho3 := own_below ho1 hb2'; clear ho2' hb2')
      | (go_at_call 81; (with_reducible refine (cP.out _ hb1).mono ?_); rintro e2 w2 ⟨v2, rfl, ho2', hb2'⟩; obtain ⟨E, e, rfl, -⟩ := own_open ho2'; have ho2 := own_base2 ho2' (base' := w.heap.size) (fun g hg => by have h1 := (ho2'.lt g hg).1; have h2 := (chain HB0.out (chain hb1 (below1 _ (Obj.cells #[.slice B lb b, .slice B2 lb2 b2] 24)))).size; omega); have hb2 := chain (chain hb1 (below1 _ _)) hb2'; have ho3 := own_below ho1 (chain (below1 _ _) hb2'); clear ho2' hb2')
      | (go_at_call 115; (with_reducible refine (HOB.out _ _ _ _ _ (chain HB0.out hb2) ho3 ho2).mono ?_); rintro e3 w3 ⟨rk, rn, rs, rks, res, RA, ra, RC, rc, hrv, rfl, hb3', hl3⟩; have hz2 := hb2.size; have hb3 := chain hb2 hb3'; have H3 := Lib.hid (H0.out.next hb3); obtain ⟨r0, r1, r2, r3, r4⟩ := box5 H3.out.r; have z0 := H3.out.r.free 0; have z1 := H3.out.r.free 1; have z2 := H3.out.r.free 2; have z3 := H3.out.r.free 3; have z4 := H3.out.r.free 4; clear hb3'))
  all_goals clear t3 t4 y3 y4
  all_goals (go_wp2_with fail)
  all_goals (refine bodyPost_ret (v := .tuple #[.agg #[.int .i64 rk, .int .i64 rn, .string rs, .slice RA rks.length ra, .slice RC res.length rc], .int .i64 er]) (by simp [results, Tryz.results82, go_sem, r0, r1, r2, r3, r4]) rfl ?_)
  all_goals exact ret_put H3.out.below (by omega) H3.out.r.lt (hl3.move fun b hb => ⟨⟨by omega, hb.2, by omega⟩, rfl⟩)
end Go.Proofs.YtbojpopgjcmlbaaGreatDoor

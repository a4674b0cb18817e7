/- renew and add of two values, kind by kind. -/
import Derived.Test.YtgdnkankleoaoaaGreatDoorA29
import Derived.Test.YtgdnkankleoaoaaGreatDoorA20
set_option linter.unusedVariables false
set_option linter.unusedSimpArgs false
namespace Go.Proofs.YtgdnkankleoaoaaGreatDoor
open Go.RowKit Go.Sort
theorem own_base2 {w : World} {base base' : Nat} {e : TypeId} {size n : Nat} {v : Value} {xs : List Value} (h : w.ownsRow base e size v n xs) (hv : ∀ g, v.ownBlock = some g → base' ≤ g) : w.ownsRow base' e size v n xs := by
  refine ⟨h.1, ?_⟩
  rcases h.2 with h1 | ⟨g, cap, cur, rfl, h1, h2⟩
  · exact .inl h1
  · exact .inr ⟨g, cap, cur, rfl, hv g rfl, h2⟩
theorem lit2_0 (W : World) (t : TypeId) (x y : Value) (p : Nat) (hp : W.heap.size = p) : (W.alloc (.cells #[x, y] t)).cell? ⟨p, 0, none⟩ = some x := (box_at W t #[x, y] p hp).cell rfl
theorem lit2_1 (W : World) (t : TypeId) (x y : Value) (p : Nat) (hp : W.heap.size = p) : (W.alloc (.cells #[x, y] t)).cell? ⟨p, 1, none⟩ = some y := (box_at W t #[x, y] p hp).cell rfl
theorem lies_flat' (w : World) (S : Nat → Prop) (k n : Int) : Lies w S (.mk k n ⟨#[]⟩ [] []) [.int .i64 k, .int .i64 n, .string ⟨#[]⟩, .slice none 0 0, .slice none 0 0] := by
  rw [Lies]
  exact ⟨⟨Nat.zero_le _, by simp, Nat.zero_le _, Nat.zero_le _⟩, none, 0, none, 0, [], rfl, fun _ => rfl, fun _ => rfl, ⟨Nat.le_refl _, Nat.zero_le _⟩, ⟨Nat.le_refl _, Nat.zero_le _⟩, Rs.nil _ _ _, Rs.nil _ _ _, by rw [LiesL]⟩
set_option maxHeartbeats 4000000 in
set_option maxRecDepth 100000 in
theorem renew_flat0 (n : Int) (s : ByteArray) (A B : Option Addr) (la a lb b : Nat) (w : World) :
    Calls Tryz.prog 191 #[.agg #[.int .i64 0, .int .i64 n, .string s, .slice A la a, .slice B lb b]] w (RetPost (.mk 0 0 ⟨#[]⟩ [] []) 0 w) := by
  have H0 := Lib.hid (B2.start w #[.int .i64 0, .int .i64 n, .string s, .slice A la a, .slice B lb b])
  go_enter Tryz.func191, Tryz.ntmps191
  go_wp2_with fail
  refine bodyPost_ret (v := .tuple #[.agg #[.int .i64 0, .int .i64 0, .string ⟨#[]⟩, .slice none 0 0, .slice none 0 0], .int .i64 0]) (by simp [results, Tryz.results191, go_sem]) rfl ?_
  exact ret_of (ds := [.int .i64 0, .int .i64 0, .string ⟨#[]⟩, .slice none 0 0, .slice none 0 0]) ((((Below.refl _ _).alloc (Nat.le_refl _) _).alloc (by simp) _)) (lies_flat' _ _ _ _)
set_option maxHeartbeats 4000000 in
set_option maxRecDepth 100000 in
theorem renew_flat1 (n : Int) (s : ByteArray) (A B : Option Addr) (la a lb b : Nat) (w : World) :
    Calls Tryz.prog 191 #[.agg #[.int .i64 1, .int .i64 n, .string s, .slice A la a, .slice B lb b]] w (RetPost (.mk 1 0 ⟨#[]⟩ [] []) 0 w) := by
  have H0 := Lib.hid (B2.start w #[.int .i64 1, .int .i64 n, .string s, .slice A la a, .slice B lb b])
  go_enter Tryz.func191, Tryz.ntmps191
  go_wp2_with fail
  refine bodyPost_ret (v := .tuple #[.agg #[.int .i64 1, .int .i64 0, .string ⟨#[]⟩, .slice none 0 0, .slice none 0 0], .int .i64 0]) (by simp [results, Tryz.results191, go_sem]) rfl ?_
  exact ret_of (ds := [.int .i64 1, .int .i64 0, .string ⟨#[]⟩, .slice none 0 0, .slice none 0 0]) ((((Below.refl _ _).alloc (Nat.le_refl _) _).alloc (by simp) _)) (lies_flat' _ _ _ _)
set_option maxHeartbeats 4000000 in
set_option maxRecDepth 100000 in
theorem renew_flat2 (n : Int) (s : ByteArray) (A B : Option Addr) (la a lb b : Nat) (w : World) :
    Calls Tryz.prog 191 #[.agg #[.int .i64 2, .int .i64 n, .string s, .slice A la a, .slice B lb b]] w (RetPost (.mk 2 0 ⟨#[]⟩ [] []) 0 w) := by
  have H0 := Lib.hid (B2.start w #[.int .i64 2, .int .i64 n, .string s, .slice A la a, .slice B lb b])
  go_enter Tryz.func191, Tryz.ntmps191
  go_wp2_with fail
  refine bodyPost_ret (v := .tuple #[.agg #[.int .i64 2, .int .i64 0, .string ⟨#[]⟩, .slice none 0 0, .slice none 0 0], .int .i64 0]) (by simp [results, Tryz.results191, go_sem]) rfl ?_
  exact ret_of (ds := [.int .i64 2, .int .i64 0, .string ⟨#[]⟩, .slice none 0 0, .slice none 0 0]) ((((Below.refl _ _).alloc (Nat.le_refl _) _).alloc (by simp) _)) (lies_flat' _ _ _ _)
set_option maxHeartbeats 4000000 in
set_option maxRecDepth 100000 in
theorem renew_num (n : Int) (s : ByteArray) (A B : Option Addr) (la a lb b : Nat) (w : World) :
    Calls Tryz.prog 191 #[.agg #[.int .i64 3, .int .i64 n, .string s, .slice A la a, .slice B lb b]] w (RetPost (numV n) 0 w) := by
  have hn := Lib.hid (fun (n : Int) W => num_any n W)
  have H0 := Lib.hid (B2.start w #[.int .i64 3, .int .i64 n, .string s, .slice A la a, .slice B lb b])
  go_enter Tryz.func191, Tryz.ntmps191
  go_wp2_with fail
  refine (hn.out _ _).mono ?_
  rintro e1 w1 ⟨rfl, hb1⟩
  have H1 := Lib.hid (H0.out.next hb1)
  obtain ⟨t0, t1, t2, t3, t4⟩ := box5 H1.out.r
  have z0 := H1.out.r.free 0
  have z1 := H1.out.r.free 1
  have z2 := H1.out.r.free 2
  have z3 := H1.out.r.free 3
  have z4 := H1.out.r.free 4
  clear hb1
  go_wp2_with fail
  refine bodyPost_ret (v := .tuple #[.agg #[.int .i64 3, .int .i64 n, .string ⟨#[]⟩, .slice none 0 0, .slice none 0 0], .int .i64 0]) (by simp [results, Tryz.results191, go_sem, t0, t1, t2, t3, t4]) rfl ?_
  exact ret_put H1.out.below (by omega) H1.out.r.lt (lies_numv _ _ _)
set_option maxHeartbeats 4000000 in
set_option maxRecDepth 100000 in
theorem renew_str (n : Int) (s : ByteArray) (A B : Option Addr) (la a lb b : Nat) (w : World) (r : V) (er : Int) (hc : ∀ W, Below w.heap.size w W → Calls Tryz.prog 137 #[.string s] W (RetPost r er W)) :
    Calls Tryz.prog 191 #[.agg #[.int .i64 4, .int .i64 n, .string s, .slice A la a, .slice B lb b]] w (RetPost r er w) := by
  have HC := Lib.hid (fun W hW => ret_open (hc W hW))
  have H0 := Lib.hid (B2.start w #[.int .i64 4, .int .i64 n, .string s, .slice A la a, .slice B lb b])
  clear hc
  go_enter Tryz.func191, Tryz.ntmps191
  go_wp2_with fail
  refine (HC.out _ H0.out.below).mono ?_
  rintro e1 w1 ⟨rk, rn, rs, rks, res, RA, ra, RC, rc, hrv, rfl, hb1, hl1⟩
  have H1 := Lib.hid (H0.out.next hb1)
  have HL := Lib.hid hl1
  have hs2 := H0.out.r.lt
  have hs3 := H0.out.below.size
  clear hb1 hl1 hrv
  obtain ⟨t0, t1, t2, t3, t4⟩ := box5 H1.out.r
  have z0 := H1.out.r.free 0
  have z1 := H1.out.r.free 1
  have z2 := H1.out.r.free 2
  have z3 := H1.out.r.free 3
  have z4 := H1.out.r.free 4
  go_wp2_with fail
  refine bodyPost_ret (v := .tuple #[.agg #[.int .i64 rk, .int .i64 rn, .string rs, .slice RA rks.length ra, .slice RC res.length rc], .int .i64 er]) (by simp [results, Tryz.results191, go_sem, t0, t1, t2, t3, t4]) rfl ?_
  exact ret_put H1.out.below (by omega) H1.out.r.lt (HL.out.move fun b hb => ⟨⟨by omega, hb.2, by omega⟩, rfl⟩)
set_option maxHeartbeats 4000000 in
set_option maxRecDepth 100000 in
theorem renew_arr (n : Int) (s : ByteArray) (A B : Option Addr) (la a lb b : Nat) (w : World) (r : V) (er : Int) (hc : ∀ W, Below w.heap.size w W → Calls Tryz.prog 192 #[.slice B lb b] W (RetPost r er W)) :
    Calls Tryz.prog 191 #[.agg #[.int .i64 5, .int .i64 n, .string s, .slice A la a, .slice B lb b]] w (RetPost r er w) := by
  have HC := Lib.hid (fun W hW => ret_open (hc W hW))
  have H0 := Lib.hid (B2.start w #[.int .i64 5, .int .i64 n, .string s, .slice A la a, .slice B lb b])
  clear hc
  go_enter Tryz.func191, Tryz.ntmps191
  go_wp2_with fail
  refine (HC.out _ H0.out.below).mono ?_
  rintro e1 w1 ⟨rk, rn, rs, rks, res, RA, ra, RC, rc, hrv, rfl, hb1, hl1⟩
  have H1 := Lib.hid (H0.out.next hb1)
  have HL := Lib.hid hl1
  have hs2 := H0.out.r.lt
  have hs3 := H0.out.below.size
  clear hb1 hl1 hrv
  obtain ⟨t0, t1, t2, t3, t4⟩ := box5 H1.out.r
  have z0 := H1.out.r.free 0
  have z1 := H1.out.r.free 1
  have z2 := H1.out.r.free 2
  have z3 := H1.out.r.free 3
  have z4 := H1.out.r.free 4
  go_wp2_with fail
  refine bodyPost_ret (v := .tuple #[.agg #[.int .i64 rk, .int .i64 rn, .string rs, .slice RA rks.length ra, .slice RC res.length rc], .int .i64 er]) (by simp [results, Tryz.results191, go_sem, t0, t1, t2, t3, t4]) rfl ?_
  exact ret_put H1.out.below (by omega) H1.out.r.lt (HL.out.move fun b hb => ⟨⟨by omega, hb.2, by omega⟩, rfl⟩)
set_option maxHeartbeats 4000000 in
set_option maxRecDepth 100000 in
theorem renew_obj (n : Int) (s : ByteArray) (A B : Option Addr) (la a lb b : Nat) (w : World) (r : V) (er : Int) (hc : ∀ W, Below w.heap.size w W → Calls Tryz.prog 174 #[.slice A la a, .slice B lb b] W (RetPost r er W)) :
    Calls Tryz.prog 191 #[.agg #[.int .i64 6, .int .i64 n, .string s, .slice A la a, .slice B lb b]] w (RetPost r er w) := by
  have HC := Lib.hid (fun W hW => ret_open (hc W hW))
  have H0 := Lib.hid (B2.start w #[.int .i64 6, .int .i64 n, .string s, .slice A la a, .slice B lb b])
  clear hc
  go_enter Tryz.func191, Tryz.ntmps191
  go_wp2_with fail
  refine (HC.out _ H0.out.below).mono ?_
  rintro e1 w1 ⟨rk, rn, rs, rks, res, RA, ra, RC, rc, hrv, rfl, hb1, hl1⟩
  have H1 := Lib.hid (H0.out.next hb1)
  have HL := Lib.hid hl1
  have hs2 := H0.out.r.lt
  have hs3 := H0.out.below.size
  clear hb1 hl1 hrv
  obtain ⟨t0, t1, t2, t3, t4⟩ := box5 H1.out.r
  have z0 := H1.out.r.free 0
  have z1 := H1.out.r.free 1
  have z2 := H1.out.r.free 2
  have z3 := H1.out.r.free 3
  have z4 := H1.out.r.free 4
  go_wp2_with fail
  refine bodyPost_ret (v := .tuple #[.agg #[.int .i64 rk, .int .i64 rn, .string rs, .slice RA rks.length ra, .slice RC res.length rc], .int .i64 er]) (by simp [results, Tryz.results191, go_sem, t0, t1, t2, t3, t4]) rfl ?_
  exact ret_put H1.out.below (by omega) H1.out.r.lt (HL.out.move fun b hb => ⟨⟨by omega, hb.2, by omega⟩, rfl⟩)
set_option maxHeartbeats 4000000 in
set_option maxRecDepth 100000 in
theorem add_left (k2 : Int) (n n2 : Int) (s s2 : ByteArray) (A B A2 B2 : Option Addr) (la a lb b la2 a2 lb2 b2 : Nat) (w : World) (r : V) (er : Int) (hc : ∀ W, Below w.heap.size w W → Calls Tryz.prog 191 #[.agg #[.int .i64 k2, .int .i64 n2, .string s2, .slice A2 la2 a2, .slice B2 lb2 b2]] W (RetPost r er W)) :
    Calls Tryz.prog 106 #[.agg #[.int .i64 0, .int .i64 n, .string s, .slice A la a, .slice B lb b], .agg #[.int .i64 k2, .int .i64 n2, .string s2, .slice A2 la2 a2, .slice B2 lb2 b2]] w (RetPost r er w) := by
  have EQ := eq_pair
  have HC := Lib.hid (fun W hW => ret_open (hc W hW))
  have H0 := Lib.hid (B3.start w #[.int .i64 0, .int .i64 n, .string s, .slice A la a, .slice B lb b] #[.int .i64 k2, .int .i64 n2, .string s2, .slice A2 la2 a2, .slice B2 lb2 b2])
  clear hc
  go_enter Tryz.func106, Tryz.ntmps106
  go_wp2_with fail
  refine (HC.out _ H0.out.below).mono ?_
  rintro e1 w1 ⟨rk, rn, rs, rks, res, RA, ra, RC, rc, hrv, rfl, hb1, hl1⟩
  have H1 := Lib.hid (H0.out.next hb1)
  have HL := Lib.hid hl1
  have hs2 := H0.out.r.lt
  have hs3 := H0.out.below.size
  clear hb1 hl1 hrv
  obtain ⟨t0, t1, t2, t3, t4⟩ := box5 H1.out.r
  have z0 := H1.out.r.free 0
  have z1 := H1.out.r.free 1
  have z2 := H1.out.r.free 2
  have z3 := H1.out.r.free 3
  have z4 := H1.out.r.free 4
  go_wp2_with fail
  refine bodyPost_ret (v := .tuple #[.agg #[.int .i64 rk, .int .i64 rn, .string rs, .slice RA rks.length ra, .slice RC res.length rc], .int .i64 er]) (by simp [results, Tryz.results106, go_sem, t0, t1, t2, t3, t4]) rfl ?_
  exact ret_put H1.out.below (by omega) H1.out.r.lt (HL.out.move fun b hb => ⟨⟨by omega, hb.2, by omega⟩, rfl⟩)
set_option maxHeartbeats 4000000 in
set_option maxRecDepth 100000 in
theorem add_right (k : Int) (hk : k ≠ 0) (n n2 : Int) (s s2 : ByteArray) (A B A2 B2 : Option Addr) (la a lb b la2 a2 lb2 b2 : Nat) (w : World) (r : V) (er : Int) (hc : ∀ W, Below w.heap.size w W → Calls Tryz.prog 191 #[.agg #[.int .i64 k, .int .i64 n, .string s, .slice A la a, .slice B lb b]] W (RetPost r er W)) :
    Calls Tryz.prog 106 #[.agg #[.int .i64 k, .int .i64 n, .string s, .slice A la a, .slice B lb b], .agg #[.int .i64 0, .int .i64 n2, .string s2, .slice A2 la2 a2, .slice B2 lb2 b2]] w (RetPost r er w) := by
  have hk0 : (k == 0) = false := by simpa using hk
  have EQ := eq_pair
  have HC := Lib.hid (fun W hW => ret_open (hc W hW))
  have H0 := Lib.hid (B3.start w #[.int .i64 k, .int .i64 n, .string s, .slice A la a, .slice B lb b] #[.int .i64 0, .int .i64 n2, .string s2, .slice A2 la2 a2, .slice B2 lb2 b2])
  clear hc
  go_enter Tryz.func106, Tryz.ntmps106
  go_wp2_with fail
  refine (HC.out _ H0.out.below).mono ?_
  rintro e1 w1 ⟨rk, rn, rs, rks, res, RA, ra, RC, rc, hrv, rfl, hb1, hl1⟩
  have H1 := Lib.hid (H0.out.next hb1)
  have HL := Lib.hid hl1
  have hs2 := H0.out.r.lt
  have hs3 := H0.out.below.size
  clear hb1 hl1 hrv
  obtain ⟨t0, t1, t2, t3, t4⟩ := box5 H1.out.r
  have z0 := H1.out.r.free 0
  have z1 := H1.out.r.free 1
  have z2 := H1.out.r.free 2
  have z3 := H1.out.r.free 3
  have z4 := H1.out.r.free 4
  go_wp2_with fail
  refine bodyPost_ret (v := .tuple #[.agg #[.int .i64 rk, .int .i64 rn, .string rs, .slice RA rks.length ra, .slice RC res.length rc], .int .i64 er]) (by simp [results, Tryz.results106, go_sem, t0, t1, t2, t3, t4]) rfl ?_
  exact ret_put H1.out.below (by omega) H1.out.r.lt (HL.out.move fun b hb => ⟨⟨by omega, hb.2, by omega⟩, rfl⟩)
set_option maxHeartbeats 4000000 in
set_option maxRecDepth 100000 in
theorem add_str (n n2 : Int) (s s2 : ByteArray) (A B A2 B2 : Option Addr) (la a lb b la2 a2 lb2 b2 : Nat) (hs : s.size ≤ 4096) (hs2 : s2.size ≤ 4096) (w : World) (r : V) (er : Int) (hc : ∀ W, Below w.heap.size w W → Calls Tryz.prog 137 #[.string (s ++ s2)] W (RetPost r er W)) :
    Calls Tryz.prog 106 #[.agg #[.int .i64 4, .int .i64 n, .string s, .slice A la a, .slice B lb b], .agg #[.int .i64 4, .int .i64 n2, .string s2, .slice A2 la2 a2, .slice B2 lb2 b2]] w (RetPost r er w) := by
  have hz : ¬ (s.size + s2.size > 9223372036854775807) := by omega
  have EQ := eq_pair
  have HC := Lib.hid (fun W hW => ret_open (hc W hW))
  have H0 := Lib.hid (B3.start w #[.int .i64 4, .int .i64 n, .string s, .slice A la a, .slice B lb b] #[.int .i64 4, .int .i64 n2, .string s2, .slice A2 la2 a2, .slice B2 lb2 b2])
  clear hc
  go_enter Tryz.func106, Tryz.ntmps106
  go_wp2_with fail
  refine (HC.out _ H0.out.below).mono ?_
  rintro e1 w1 ⟨rk, rn, rs, rks, res, RA, ra, RC, rc, hrv, rfl, hb1, hl1⟩
  have H1 := Lib.hid (H0.out.next hb1)
  have HL := Lib.hid hl1
  have hs2 := H0.out.r.lt
  have hs3 := H0.out.below.size
  clear hb1 hl1 hrv
  obtain ⟨t0, t1, t2, t3, t4⟩ := box5 H1.out.r
  have z0 := H1.out.r.free 0
  have z1 := H1.out.r.free 1
  have z2 := H1.out.r.free 2
  have z3 := H1.out.r.free 3
  have z4 := H1.out.r.free 4
  go_wp2_with fail
  refine bodyPost_ret (v := .tuple #[.agg #[.int .i64 rk, .int .i64 rn, .string rs, .slice RA rks.length ra, .slice RC res.length rc], .int .i64 er]) (by simp [results, Tryz.results106, go_sem, t0, t1, t2, t3, t4]) rfl ?_
  exact ret_put H1.out.below (by omega) H1.out.r.lt (HL.out.move fun b hb => ⟨⟨by omega, hb.2, by omega⟩, rfl⟩)
set_option maxHeartbeats 4000000 in
set_option maxRecDepth 100000 in
theorem add_obj (n n2 : Int) (s s2 : ByteArray) (A B A2 B2 : Option Addr) (la a lb b la2 a2 lb2 b2 : Nat) (w : World) (r : V) (er : Int) (hc : ∀ W, Below w.heap.size w W → Calls Tryz.prog 193 #[.agg #[.int .i64 6, .int .i64 n, .string s, .slice A la a, .slice B lb b], .agg #[.int .i64 6, .int .i64 n2, .string s2, .slice A2 la2 a2, .slice B2 lb2 b2]] W (RetPost r er W)) :
    Calls Tryz.prog 106 #[.agg #[.int .i64 6, .int .i64 n, .string s, .slice A la a, .slice B lb b], .agg #[.int .i64 6, .int .i64 n2, .string s2, .slice A2 la2 a2, .slice B2 lb2 b2]] w (RetPost r er w) := by
  have EQ := eq_pair
  have HC := Lib.hid (fun W hW => ret_open (hc W hW))
  have H0 := Lib.hid (B3.start w #[.int .i64 6, .int .i64 n, .string s, .slice A la a, .slice B lb b] #[.int .i64 6, .int .i64 n2, .string s2, .slice A2 la2 a2, .slice B2 lb2 b2])
  clear hc
  go_enter Tryz.func106, Tryz.ntmps106
  go_wp2_with fail
  refine (HC.out _ H0.out.below).mono ?_
  rintro e1 w1 ⟨rk, rn, rs, rks, res, RA, ra, RC, rc, hrv, rfl, hb1, hl1⟩
  have H1 := Lib.hid (H0.out.next hb1)
  have HL := Lib.hid hl1
  have hs2 := H0.out.r.lt
  have hs3 := H0.out.below.size
  clear hb1 hl1 hrv
  obtain ⟨t0, t1, t2, t3, t4⟩ := box5 H1.out.r
  have z0 := H1.out.r.free 0
  have z1 := H1.out.r.free 1
  have z2 := H1.out.r.free 2
  have z3 := H1.out.r.free 3
  have z4 := H1.out.r.free 4
  go_wp2_with fail
  refine bodyPost_ret (v := .tuple #[.agg #[.int .i64 rk, .int .i64 rn, .string rs, .slice RA rks.length ra, .slice RC res.length rc], .int .i64 er]) (by simp [results, Tryz.results106, go_sem, t0, t1, t2, t3, t4]) rfl ?_
  exact ret_put H1.out.below (by omega) H1.out.r.lt (HL.out.move fun b hb => ⟨⟨by omega, hb.2, by omega⟩, rfl⟩)
set_option maxHeartbeats 4000000 in
set_option maxRecDepth 100000 in
theorem add_arr (n n2 : Int) (s s2 : ByteArray) (A B A2 B2 : Option Addr) (la a lb b la2 a2 lb2 b2 : Nat) (w : World) (n0 : Nat) (xs : List Value) (r : V) (er : Int)
    (hcat : ∀ W g, Below w.heap.size w W → W.cell? ⟨g, 0, none⟩ = some (.slice B lb b) → W.cell? ⟨g, 1, none⟩ = some (.slice B2 lb2 b2) → Calls Tryz.prog 184 #[.slice (some ⟨g, 0, none⟩) 2 2] W (CatPost W.heap.size 25 5 W n0 xs))
    (hc : ∀ W D d, Below w.heap.size w W → W.ownsRow w.heap.size 25 5 (.slice D n0 d) n0 xs → Calls Tryz.prog 192 #[.slice D n0 d] W (RetPost r er W)) :
    Calls Tryz.prog 106 #[.agg #[.int .i64 5, .int .i64 n, .string s, .slice A la a, .slice B lb b], .agg #[.int .i64 5, .int .i64 n2, .string s2, .slice A2 la2 a2, .slice B2 lb2 b2]] w (RetPost r er w) := by
  have EQ := eq_pair
  have HC := Lib.hid (fun W D d hW ho => ret_open (hc W D d hW ho))
  have HCat := Lib.hid hcat
  have H0 := Lib.hid (B3.start w #[.int .i64 5, .int .i64 n, .string s, .slice A la a, .slice B lb b] #[.int .i64 5, .int .i64 n2, .string s2, .slice A2 la2 a2, .slice B2 lb2 b2])
  clear hc hcat
  go_enter Tryz.func106, Tryz.ntmps106
  go_wp2_with fail
  refine (HCat.out _ _ (chain H0.out.below (below1 _ _)) (lit2_0 _ _ _ _ _ (by simp)) (lit2_1 _ _ _ _ _ (by simp))).mono ?_
  rintro e1 w1 ⟨v1, rfl, ho, hb1⟩
  obtain ⟨D, d, rfl, hdn, hdl, hdm, hrs⟩ := own_open ho
  have H1 := Lib.hid (H0.out.next (chain (below1 _ _) hb1))
  have HO := Lib.hid (own_base2 ho (base' := w.heap.size) (fun g hg => by have h1 := (ho.lt g hg).1; have h2 := H0.out.below.size; simp at h1 h2; omega))
  clear hb1 ho hrs hdn hdl hdm
  go_wp2_with fail
  refine (HC.out _ _ _ H1.out.below HO.out).mono ?_
  rintro e2 w2 ⟨rk, rn, rs, rks, res, RA, ra, RC, rc, hrv, rfl, hb2, hl2⟩
  have H2 := Lib.hid (H1.out.next hb2)
  have HL := Lib.hid hl2
  have hs2 := H1.out.r.lt
  have hs3 := H1.out.below.size
  clear hb2 hl2 hrv
  obtain ⟨t0, t1, t2, t3, t4⟩ := box5 H2.out.r
  have z0 := H2.out.r.free 0
  have z1 := H2.out.r.free 1
  have z2 := H2.out.r.free 2
  have z3 := H2.out.r.free 3
  have z4 := H2.out.r.free 4
  go_wp2_with fail
  refine bodyPost_ret (v := .tuple #[.agg #[.int .i64 rk, .int .i64 rn, .string rs, .slice RA rks.length ra, .slice RC res.length rc], .int .i64 er]) (by simp [results, Tryz.results106, go_sem, t0, t1, t2, t3, t4]) rfl ?_
  exact ret_put H2.out.below (by omega) H2.out.r.lt (HL.out.move fun b hb => ⟨⟨by omega, hb.2, by omega⟩, rfl⟩)
set_option maxHeartbeats 4000000 in
set_option maxRecDepth 100000 in
theorem add_type (k k2 : Int) (hk : k ≠ 0) (hk2 : k2 ≠ 0) (hne : ∀ c : Int, c = 3 ∨ c = 4 ∨ c = 5 ∨ c = 6 → ¬ (k = c ∧ k2 = c)) (n n2 : Int) (s s2 : ByteArray) (A B A2 B2 : Option Addr) (la a lb b la2 a2 lb2 b2 : Nat) (w : World) :
    Calls Tryz.prog 106 #[.agg #[.int .i64 k, .int .i64 n, .string s, .slice A la a, .slice B lb b], .agg #[.int .i64 k2, .int .i64 n2, .string s2, .slice A2 la2 a2, .slice B2 lb2 b2]] w (RetPost vnull 12 w) := by
  have hk0 : (k == 0) = false := by simpa using hk
  have hk20 : (k2 == 0) = false := by simpa using hk2
  have q3 : (k == 3 && k2 == 3) = false := by have := hne 3 (by omega); simpa using this
  have q4 : (k == 4 && k2 == 4) = false := by have := hne 4 (by omega); simpa using this
  have q5 : (k == 5 && k2 == 5) = false := by have := hne 5 (by omega); simpa using this
  have q6 : (k == 6 && k2 == 6) = false := by have := hne 6 (by omega); simpa using this
  have EQ := eq_pair
  clear hne
  have H1 := Lib.hid (B3.start w #[.int .i64 k, .int .i64 n, .string s, .slice A la a, .slice B lb b] #[.int .i64 k2, .int .i64 n2, .string s2, .slice A2 la2 a2, .slice B2 lb2 b2])
  go_enter Tryz.func106, Tryz.ntmps106
  go_wp2_with fail
  refine bodyPost_ret (v := .tuple #[.agg #[.int .i64 0, .int .i64 0, .string ⟨#[]⟩, .slice none 0 0, .slice none 0 0], .int .i64 12]) (by simp [results, Tryz.results106, go_sem]) rfl ?_
  exact ret_of (ds := [.int .i64 0, .int .i64 0, .string ⟨#[]⟩, .slice none 0 0, .slice none 0 0]) H1.out.below (lies_null _ _)
end Go.Proofs.YtgdnkankleoaoaaGreatDoor

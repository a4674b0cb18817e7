/- The program's Arr. -/
import Derived.Test.YtnokmlclephjgaaMake1
set_option linter.unusedVariables false
set_option linter.unusedSimpArgs false
namespace Go.Proofs.Ytnokmlclephjgaa
open Go.RowKit
/-- A slice of values that came in. -/
structure SliceV (w : World) (A : Option Addr) (c : Nat) (l : List V) (xs : List Value) : Prop where
  row : Row w A l xs
  nil : A = none → c = 0
  le : l.length ≤ c
  cap : c ≤ maxLen
  lim : l.length ≤ 140737488355328
theorem SliceV.lies {w : World} {A : Option Addr} {c : Nat} {l : List V} {xs : List Value} (h : SliceV w A c l xs) : Lies w (· < w.heap.size) (arrV l) [.int .i64 5, .int .i64 0, .string ⟨#[]⟩, .slice none 0 0, .slice A l.length c] := by
  unfold arrV
  rw [Lies]
  exact ⟨⟨Nat.zero_le _, by simp, Nat.zero_le _, h.lim⟩, none, 0, A, c, xs, rfl, fun _ => rfl, h.nil, ⟨Nat.le_refl _, Nat.zero_le _⟩, ⟨h.le, h.cap⟩, Rs.nil _ _ _, h.row.rs, h.row.lies⟩
theorem SliceV.below {w w' : World} {A : Option Addr} {c : Nat} {l : List V} {xs : List Value} (h : SliceV w A c l xs) (hb : Below w.heap.size w w') : SliceV w' A c l xs := ⟨h.row.below hb, h.nil, h.le, h.cap, h.lim⟩
/-- What Arr hands back. -/
def arrR (l : List V) : V := if l.all valid = true then finV (arrV l) else vnull
def arrE (l : List V) : Int := if l.all valid = true then finE (arrV l) else 1
set_option maxHeartbeats 1000000 in
set_option maxRecDepth 100000 in
theorem arr_any (l : List V) (A : Option Addr) (c : Nat) (xs : List Value) (w : World) (h : SliceV w A c l xs) : Calls Try.prog 32 #[.slice A l.length c] w (RetPost (arrR l) (arrE l) w) := by
  have hv := Lib.hid (fun W (hW : Below w.heap.size w W) => allValid_any l A c xs W (h.row.below hW) h.lim)
  unfold arrR arrE
  generalize l.all valid = x at hv ⊢
  cases x with
  | false =>
    rw [if_neg (by decide), if_neg (by decide)]
    go_enter Try.func32, Try.ntmps32
    go_wp2_with fail
    refine (hv.out _ (below1 _ _)).mono ?_
    rintro e1 w1 ⟨rfl, hb1⟩
    have hB1 := Lib.hid (one_step (Below.refl _ _) hb1)
    have hr1 := Lib.hid ((Box.laid w 27 #[.int .i64 0, .int .i64 0, .string ⟨#[]⟩, .slice none 0 0, .slice none 0 0]).below hB1.out (by omega))
    obtain ⟨t0, t1, t2, t3, t4⟩ := box5 hr1.out
    have z0 := hr1.out.free 0
    have z1 := hr1.out.free 1
    have z2 := hr1.out.free 2
    have z3 := hr1.out.free 3
    have z4 := hr1.out.free 4
    go_wp2_with fail
    refine bodyPost_ret (v := .tuple #[.agg #[.int .i64 0, .int .i64 0, .string ⟨#[]⟩, .slice none 0 0, .slice none 0 0], .int .i64 1]) (by simp [results, Try.results32, go_sem, t0, t1, t2, t3, t4]) rfl ?_
    exact ret_of (ds := [.int .i64 0, .int .i64 0, .string ⟨#[]⟩, .slice none 0 0, .slice none 0 0]) ((((((below_one hB1.out).setCell (by simp) _).setCell (by simp) _).setCell (by simp) _).setCell (by simp) _).setCell (by simp) _) (lies_null _ _)
  | true =>
    rw [if_pos rfl, if_pos rfl]
    have hf := Lib.hid (fun W (hW : Below w.heap.size w W) => ret_open (finish_any (arrV l) [.int .i64 5, .int .i64 0, .string ⟨#[]⟩, .slice none 0 0, .slice A l.length c] W (below_lies hW h.lies)))
    clear h
    go_enter Try.func32, Try.ntmps32
    go_wp2_with fail
    refine (hv.out _ (below1 _ _)).mono ?_
    rintro e1 w1 ⟨rfl, hb1⟩
    have hB1 := Lib.hid (one_step (Below.refl _ _) hb1)
    have hr1 := Lib.hid ((Box.laid w 27 #[.int .i64 0, .int .i64 0, .string ⟨#[]⟩, .slice none 0 0, .slice none 0 0]).below hB1.out (by omega))
    go_wp2_with fail
    refine (hf.out _ (below_one hB1.out)).mono ?_
    rintro e2 w2 ⟨rk, rn, rs, rks, res, RA, ra, RC, rc, hrv, rfl, hb2, hl2⟩
    have HRV := Lib.hid hrv
    have HL2 := Lib.hid hl2
    have hres : Box w2 w.heap.size 27 #[.int .i64 0, .int .i64 0, .string ⟨#[]⟩, .slice none 0 0, .slice none 0 0] := hr1.out.below hb2 hr1.out.lt
    have hB2 := Lib.hid (chain (below_one hB1.out) hb2)
    have hw1 : w.heap.size + 1 ≤ w1.heap.size := by have := hB1.out.size; simpa using this
    clear hrv hl2 hb2
    obtain ⟨t0, t1, t2, t3, t4⟩ := box5 hres
    have z0 := hres.free 0
    have z1 := hres.free 1
    have z2 := hres.free 2
    have z3 := hres.free 3
    have z4 := hres.free 4
    clear hres
    go_wp2_with fail
    refine bodyPost_ret (v := .tuple #[.agg #[.int .i64 rk, .int .i64 rn, .string rs, .slice RA rks.length ra, .slice RC res.length rc], .int .i64 (finE (arrV l))]) (by simp [results, Try.results32, go_sem, t0, t1, t2, t3, t4]) rfl ?_
    refine ret_of (ds := [.int .i64 rk, .int .i64 rn, .string rs, .slice RA rks.length ra, .slice RC res.length rc]) (((((hB2.out.setCell (by simp) _).setCell (by simp) _).setCell (by simp) _).setCell (by simp) _).setCell (by simp) _) ?_
    refine HL2.out.move fun b hb => ⟨⟨by omega, by simp [World.setCell]; omega⟩, ?_⟩
    have hbb : w.heap.size + 1 ≤ b := by omega
    rw [Below.heap_setCell _ _ _ _ (by simp; omega), Below.heap_setCell _ _ _ _ (by simp; omega), Below.heap_setCell _ _ _ _ (by simp; omega), Below.heap_setCell _ _ _ _ (by simp; omega), Below.heap_setCell _ _ _ _ (by simp; omega)]
end Go.Proofs.Ytnokmlclephjgaa

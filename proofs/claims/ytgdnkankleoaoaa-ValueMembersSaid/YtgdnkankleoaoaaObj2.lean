/- The program's Obj. -/
import Derived.Test.YtgdnkankleoaoaaObj1
set_option linter.unusedVariables false
set_option linter.unusedSimpArgs false
namespace Go.Proofs.Ytgdnkankleoaoaa
open Go.RowKit Go.Sort
/-- What Obj hands back. -/
def objR (ms : List Mb) : V := if (ms.map Mb.v).all valid = true then (if (ms.map Mb.key).all okS = true then finV (objV (lastOf (srt ms))) else vnull) else vnull
def objE (ms : List Mb) : Int := if (ms.map Mb.v).all valid = true then (if (ms.map Mb.key).all okS = true then finE (objV (lastOf (srt ms))) else 6) else 1
theorem below_five {w0 w : World} (h : Below w0.heap.size w0 w) (a b c d e : Value) :
    Below w0.heap.size w0 (((((w.setCell ⟨w0.heap.size, 0, none⟩ a).setCell ⟨w0.heap.size, 1, none⟩ b).setCell ⟨w0.heap.size, 2, none⟩ c).setCell ⟨w0.heap.size, 3, none⟩ d).setCell ⟨w0.heap.size, 4, none⟩ e) :=
  (((((h.setCell (by simp) _).setCell (by simp) _).setCell (by simp) _).setCell (by simp) _).setCell (by simp) _)
theorem all_take {α : Type} {p : α → Bool} {l : List α} {i : Nat} {x : α} (hx : l[i]? = some x) (h : (l.take i).all p = true) (hp : p x = true) : (l.take (i + 1)).all p = true := by
  rw [List.take_add_one, hx, List.all_append, h]
  simp [hp]
def KeysOk (ms : List Mb) (i : Nat) : Prop := ((ms.map Mb.key).take i).all okS = true
theorem keysOk0 (ms : List Mb) : KeysOk ms 0 := by simp [KeysOk]
theorem all_not {α : Type} {p : α → Bool} {l : List α} {i : Nat} {x : α} (hx : l[i]? = some x) (hp : p x = false) : l.all p = false := by
  rw [List.all_eq_false]
  exact ⟨x, List.mem_of_getElem? hx, by simp [hp]⟩
set_option maxHeartbeats 800000 in
set_option maxRecDepth 100000 in
theorem obj_any (ms : List Mb) (A B : Option Addr) (a b : Nat) (xs : List Value) (w : World) (hA : Rs w (· < w.heap.size) A (kv (ms.map Mb.key))) (hR : Row w B (ms.map Mb.v) xs) (hmat : ∀ i m, ms[i]? = some m → MAt w (· < w.heap.size) B i m) (hn : ms.length ≤ 20)
    (hsz : ∀ m ∈ ms, m.key.size ≤ 140737488355328) : Calls Try.prog 9 #[.slice A ms.length a, .slice B ms.length b] w (RetPost (objR ms) (objE ms) w) := by
  have hv := Lib.hid (fun W (hW : Below w.heap.size w W) => allValid_any (ms.map Mb.v) B b xs W (hR.below hW) (by simp; omega))
  have HO := Lib.hid (fun W (hW : Below w.heap.size w W) => object_ms ms A B a b W (hA.move fun x hx => ⟨Nat.lt_of_lt_of_le hx hW.size, hW.block x hx⟩) (fun i m hm => by
    obtain ⟨⟨p, o, e, hp, c0, c1, c2, c3, c4⟩, hl⟩ := hmat i m hm
    exact ⟨⟨p, o, e, Nat.lt_of_lt_of_le hp hW.size, below_cell hW hp c0, below_cell hW hp c1, below_cell hW hp c2, below_cell hW hp c3, below_cell hW hp c4⟩, below_lies hW hl⟩) hn hsz)
  have HA := Lib.hid hA
  have HSZ := Lib.hid hsz
  clear hA hR hmat hsz
  have hlen : (ms.map Mb.v).length = ms.length := by simp
  rw [hlen] at hv
  clear hlen
  unfold objR objE
  generalize (ms.map Mb.v).all valid = x at hv ⊢
  cases x with
  | false =>
    rw [if_neg (by decide), if_neg (by decide)]
    clear HO
    go_enter Try.func9, Try.ntmps9
    go_wp2_with fail
    refine (hv.out _ (below1 _ _)).mono ?_
    rintro e1 w1 ⟨rfl, hb1⟩
    have hB1 := Lib.hid (one_step (Below.refl _ _) hb1)
    have hr1 := Lib.hid ((Box.laid w 28 #[.int .i64 0, .int .i64 0, .string ⟨#[]⟩, .slice none 0 0, .slice none 0 0]).below hB1.out (by omega))
    obtain ⟨t0, t1, t2, t3, t4⟩ := box5 hr1.out
    have z0 := hr1.out.free 0
    have z1 := hr1.out.free 1
    have z2 := hr1.out.free 2
    have z3 := hr1.out.free 3
    have z4 := hr1.out.free 4
    go_wp2_with fail
    refine bodyPost_ret (v := .tuple #[.agg #[.int .i64 0, .int .i64 0, .string ⟨#[]⟩, .slice none 0 0, .slice none 0 0], .int .i64 1]) (by simp [results, Try.results9, go_sem, t0, t1, t2, t3, t4]) rfl ?_
    exact ret_of (ds := [.int .i64 0, .int .i64 0, .string ⟨#[]⟩, .slice none 0 0, .slice none 0 0]) (below_five (below_one hB1.out) _ _ _ _ _) (lies_null _ _)
  | true =>
    rw [if_pos rfl, if_pos rfl]
    have hov : objV (lastOf (srt ms)) = .mk 6 0 ⟨#[]⟩ ((lastOf (srt ms)).map Mb.key) ((lastOf (srt ms)).map Mb.v) := rfl
    have HF := Lib.hid (fun cs W h => finish_any (objV (lastOf (srt ms))) cs W h)
    generalize (lastOf (srt ms)).map Mb.key = oks at hov
    generalize (lastOf (srt ms)).map Mb.v = oes at hov
    rw [hov] at HO HF ⊢
    clear hov
    obtain ⟨R, hRd⟩ : ∃ R, R = (if (ms.map Mb.key).all okS = true then finV (.mk 6 0 ⟨#[]⟩ oks oes) else vnull) := ⟨_, rfl⟩
    obtain ⟨E, hEd⟩ : ∃ E, E = (if (ms.map Mb.key).all okS = true then finE (.mk 6 0 ⟨#[]⟩ oks oes) else 6) := ⟨_, rfl⟩
    rw [← hRd, ← hEd]
    have HRE := Lib.hid (And.intro hRd hEd)
    clear hRd hEd
    go_enter Try.func9, Try.ntmps9
    go_wp2_with fail
    refine (hv.out _ (below1 _ _)).mono ?_
    rintro e1 w1 ⟨rfl, hb1⟩
    have hB1 := Lib.hid (one_step (Below.refl _ _) hb1)
    have hr1 := Lib.hid ((Box.laid w 28 #[.int .i64 0, .int .i64 0, .string ⟨#[]⟩, .slice none 0 0, .slice none 0 0]).below hB1.out (by omega))
    have hw1 : w.heap.size + 1 ≤ w1.heap.size := by have := hB1.out.size; simpa using this
    go_wp2_with fail
    go_loopw [20] (fun t wr => ∃ i : Nat, i ≤ ms.length ∧ t = .int .i64 i ∧ wr = w1 ∧ KeysOk ms i) (fun t _ => ms.length - (intOf t).toNat)
    case atStart => (refine ⟨0, Nat.zero_le _, rfl, ?_⟩; first | exact ⟨rfl, keysOk0 ms⟩ | (simp; exact keysOk0 ms))
    case round =>
      obtain ⟨i, hi, rfl, rfl, hok0⟩ := hrel
      have HOK := Lib.hid hok0
      clear hok0
      by_cases hlt : i < ms.length
      · obtain ⟨m, hm⟩ : ∃ m, ms[i]? = some m := ⟨_, List.getElem?_eq_getElem hlt⟩
        have hkey : (ms.map Mb.key)[i]? = some m.key := by simp [hm]
        obtain ⟨b0, o0, rfl, hb0, hc0⟩ := HA.out.at_ (kv_at hkey)
        have q := below_cell (below_one hB1.out) hb0 hc0
        have hu := Lib.hid (fun W => val_any m.key (by have := HSZ.out m (List.mem_of_getElem? hm); unfold maxLen; omega) W)
        have hok : Hid ((runes m.key.data.toList).isSome = okS m.key) := Lib.hid rfl
        rw [hok.out] at hu
        have HKEY := Lib.hid hkey
        clear hok hkey hm hc0
        cases hx : okS m.key with
        | true =>
          rw [hx] at hu
          have HX := Lib.hid hx
          clear hx
          go_wp2_with (go_at_call 26; refine (hu.out _).mono ?_; rintro e w' ⟨rfl, rfl⟩)
          go_roundw
          case rel => exact ⟨i + 1, by omega, by go_num, trivial, all_take HKEY.out HOK.out HX.out⟩
          case measure => simp [intOf]; omega
        | false =>
          rw [hx] at hu
          have hre := HRE.out
          rw [if_neg (by rw [all_not HKEY.out hx]; decide), if_neg (by rw [all_not HKEY.out hx]; decide)] at hre
          obtain ⟨rfl, rfl⟩ := hre
          clear hx HRE
          obtain ⟨t0, t1, t2, t3, t4⟩ := box5 hr1.out
          have z0 := hr1.out.free 0
          have z1 := hr1.out.free 1
          have z2 := hr1.out.free 2
          have z3 := hr1.out.free 3
          have z4 := hr1.out.free 4
          go_wp2_with (go_at_call 26; refine (hu.out _).mono ?_; rintro e w' ⟨rfl, rfl⟩)
          refine bodyPost_ret (v := .tuple #[.agg #[.int .i64 0, .int .i64 0, .string ⟨#[]⟩, .slice none 0 0, .slice none 0 0], .int .i64 6]) (by simp [results, Try.results9, go_sem, t0, t1, t2, t3, t4]) rfl ?_
          exact ret_of (ds := [.int .i64 0, .int .i64 0, .string ⟨#[]⟩, .slice none 0 0, .slice none 0 0]) (below_five (below_one hB1.out) _ _ _ _ _) (lies_null _ _)
      · have hall : (ms.map Mb.key).all okS = true := by
          have : ((ms.map Mb.key).take i).all okS = true := HOK.out
          rwa [List.take_of_length_le (by simp; omega)] at this
        have hre := HRE.out
        rw [if_pos hall, if_pos hall] at hre
        have HRE2 := Lib.hid hre
        clear hall hre
        go_wp2_with fail
        refine (HO.out _ (below_one hB1.out)).mono ?_
        rintro e2 w2 ⟨hb2, ds, rfl, hl2⟩
        obtain ⟨VA, va, VB, vb, ys, rfl, _⟩ := lies_open hl2
        have hB2 := Lib.hid (chain (below_one hB1.out) hb2)
        have hr2 := Lib.hid (hr1.out.below hb2 hr1.out.lt)
        have hf := Lib.hid (ret_open (HF.out _ _ hl2))
        have hsz2 := hb2.size
        rw [← HRE2.out.1, ← HRE2.out.2] at hf
        clear hl2 hb2
        go_wp2_with fail
        refine hf.out.mono ?_
        rintro e3 w3 ⟨rk, rn, rs, rks, res, RA, ra, RC, rc, hrv, rfl, hb3, hl4⟩
        have HRV := Lib.hid hrv
        have HL3 := Lib.hid hl4
        have hres : Box w3 w.heap.size 28 #[.int .i64 0, .int .i64 0, .string ⟨#[]⟩, .slice none 0 0, .slice none 0 0] := hr2.out.below hb3 hr2.out.lt
        have hB3 := Lib.hid (chain hB2.out hb3)
        clear hrv hl4 hb3
        obtain ⟨t0, t1, t2, t3, t4⟩ := box5 hres
        have z0 := hres.free 0
        have z1 := hres.free 1
        have z2 := hres.free 2
        have z3 := hres.free 3
        have z4 := hres.free 4
        clear hres
        go_wp2_with fail
        refine bodyPost_ret (v := .tuple #[.agg #[.int .i64 rk, .int .i64 rn, .string rs, .slice RA rks.length ra, .slice RC res.length rc], .int .i64 E]) (by simp [results, Try.results9, go_sem, t0, t1, t2, t3, t4]) rfl ?_
        refine ret_of (ds := [.int .i64 rk, .int .i64 rn, .string rs, .slice RA rks.length ra, .slice RC res.length rc]) (below_five hB3.out _ _ _ _ _) ?_
        refine HL3.out.move fun b hb => ⟨⟨by omega, by simp [World.setCell]; omega⟩, ?_⟩
        have hbb : w.heap.size + 1 ≤ b := by omega
        rw [Below.heap_setCell _ _ _ _ (by simp; omega), Below.heap_setCell _ _ _ _ (by simp; omega), Below.heap_setCell _ _ _ _ (by simp; omega), Below.heap_setCell _ _ _ _ (by simp; omega), Below.heap_setCell _ _ _ _ (by simp; omega)]
end Go.Proofs.Ytgdnkankleoaoaa

/- The program's Obj. Package arith, plain: what the sum of two values is. Nothing of the program is named here. -/
import Derived.Test.YtgdnkankleoaoaaGreatDoorA27
import Derived.Test.YtgdnkankleoaoaaGreatDoorA26
set_option linter.unusedVariables false
set_option linter.unusedSimpArgs false
namespace Go.Proofs.YtgdnkankleoaoaaGreatDoor
open Go.RowKit Go.Sort
/-- What Obj hands back. -/
def objR (ms : List Mb) : V := if (ms.map Mb.v).all valid = true then (if (ms.map Mb.key).all okS = true then finV (objV (lastOf (srt ms))) else vnull) else vnull
def objE (ms : List Mb) : Int := if (ms.map Mb.v).all valid = true then (if (ms.map Mb.key).all okS = true then finE (objV (lastOf (srt ms))) else 6) else 1
theorem below_five {w0 w : World} (h : Below w0.heap.size w0 w) (a b c d e : Value) :
    Below w0.heap.size w0 (((((w.setCell ⟨w0.heap.size, 0, none⟩ a).setCell ⟨w0.heap.size, 1, none⟩ b).setCell ⟨w0.heap.size, 2, none⟩ c).setCell ⟨w0.heap.size, 3, none⟩ d).setCell ⟨w0.heap.size, 4, none⟩ e) :=
  (((((h.setCell (by simp) _).setCell (by simp) _).setCell (by simp) _).setCell (by simp) _).setCell (by simp) _)
theorem all_take {α : Type} {p : α → Bool} {l : List α} {i : Nat} {x : α} (hx : l[i]? = some x) (h : (l.take i).all p = true) (hp : p x = true) : (l.take (i + 1)).all p = true := by
  rw [List.take_add_one, hx, List.all_append, h]
  simp [hp]
def KeysOk (ms : List Mb) (i : Nat) : Prop := ((ms.map Mb.key).take i).all okS = true
theorem keysOk0 (ms : List Mb) : KeysOk ms 0 := by simp [KeysOk]
theorem all_not {α : Type} {p : α → Bool} {l : List α} {i : Nat} {x : α} (hx : l[i]? = some x) (hp : p x = false) : l.all p = false := by
  rw [List.all_eq_false]
  exact ⟨x, List.mem_of_getElem? hx, by simp [hp]⟩
set_option maxHeartbeats 800000 in
set_option maxRecDepth 100000 in
theorem obj_any (ms : List Mb) (A B : Option Addr) (a b : Nat) (xs : List Value) (w : World) (hA : Rs w (· < w.heap.size) A (kv (ms.map Mb.key))) (hR : Row w B (ms.map Mb.v) xs) (hmat : ∀ i m, ms[i]? = some m → MAt w (· < w.heap.size) B i m) (hn : ms.length ≤ 1000000)
    (hsz : ∀ m ∈ ms, m.key.size ≤ 140737488355328) : Calls Tryz.prog 174 #[.slice A ms.length a, .slice B ms.length b] w (RetPost (objR ms) (objE ms) w) := by
  have hv := Lib.hid (fun W (hW : Below w.heap.size w W) => allValid_any (ms.map Mb.v) B b xs W (hR.below hW) (by simp; omega))
  have HO := Lib.hid (fun W (hW : Below w.heap.size w W) => object_ms ms A B a b W (hA.move fun x hx => ⟨Nat.lt_of_lt_of_le hx hW.size, hW.block x hx⟩) (fun i m hm => by
    obtain ⟨⟨p, o, e, hp, c0, c1, c2, c3, c4⟩, hl⟩ := hmat i m hm
    exact ⟨⟨p, o, e, Nat.lt_of_lt_of_le hp hW.size, below_cell hW hp c0, below_cell hW hp c1, below_cell hW hp c2, below_cell hW hp c3, below_cell hW hp c4⟩, below_lies hW hl⟩) hn hsz)
  have HA := Lib.hid hA
  have HSZ := Lib.hid hsz
  clear hA hR hmat hsz
  have hlen : (ms.map Mb.v).length = ms.length := by simp
  rw [hlen] at hv
  clear hlen
  unfold objR objE
  generalize (ms.map Mb.v).all valid = x at hv ⊢
  cases x with
  | false =>
    rw [if_neg (by decide), if_neg (by decide)]
    clear HO
    go_enter Tryz.func174, Tryz.ntmps174
    go_wp2_with fail
    refine (hv.out _ (below1 _ _)).mono ?_
    rintro e1 w1 ⟨rfl, hb1⟩
    have hB1 := Lib.hid (one_step (Below.refl _ _) hb1)
    have hr1 := Lib.hid ((Box.laid w 25 #[.int .i64 0, .int .i64 0, .string ⟨#[]⟩, .slice none 0 0, .slice none 0 0]).below hB1.out (by omega))
    obtain ⟨t0, t1, t2, t3, t4⟩ := box5 hr1.out
    have z0 := hr1.out.free 0
    have z1 := hr1.out.free 1
    have z2 := hr1.out.free 2
    have z3 := hr1.out.free 3
    have z4 := hr1.out.free 4
    go_wp2_with fail
    refine bodyPost_ret (v := .tuple #[.agg #[.int .i64 0, .int .i64 0, .string ⟨#[]⟩, .slice none 0 0, .slice none 0 0], .int .i64 1]) (by simp [results, Tryz.results174, go_sem, t0, t1, t2, t3, t4]) rfl ?_
    exact ret_of (ds := [.int .i64 0, .int .i64 0, .string ⟨#[]⟩, .slice none 0 0, .slice none 0 0]) (below_five (below_one hB1.out) _ _ _ _ _) (lies_null _ _)
  | true =>
    rw [if_pos rfl, if_pos rfl]
    have hov : objV (lastOf (srt ms)) = .mk 6 0 ⟨#[]⟩ ((lastOf (srt ms)).map Mb.key) ((lastOf (srt ms)).map Mb.v) := rfl
    have HF := Lib.hid (fun cs W h => finish_any (objV (lastOf (srt ms))) cs W h)
    generalize (lastOf (srt ms)).map Mb.key = oks at hov
    generalize (lastOf (srt ms)).map Mb.v = oes at hov
    rw [hov] at HO HF ⊢
    clear hov
    obtain ⟨R, hRd⟩ : ∃ R, R = (if (ms.map Mb.key).all okS = true then finV (.mk 6 0 ⟨#[]⟩ oks oes) else vnull) := ⟨_, rfl⟩
    obtain ⟨E, hEd⟩ : ∃ E, E = (if (ms.map Mb.key).all okS = true then finE (.mk 6 0 ⟨#[]⟩ oks oes) else 6) := ⟨_, rfl⟩
    rw [← hRd, ← hEd]
    have HRE := Lib.hid (And.intro hRd hEd)
    clear hRd hEd
    go_enter Tryz.func174, Tryz.ntmps174
    go_wp2_with fail
    refine (hv.out _ (below1 _ _)).mono ?_
    rintro e1 w1 ⟨rfl, hb1⟩
    have hB1 := Lib.hid (one_step (Below.refl _ _) hb1)
    have hr1 := Lib.hid ((Box.laid w 25 #[.int .i64 0, .int .i64 0, .string ⟨#[]⟩, .slice none 0 0, .slice none 0 0]).below hB1.out (by omega))
    have hw1 : w.heap.size + 1 ≤ w1.heap.size := by have := hB1.out.size; simpa using this
    go_wp2_with fail
    go_loopw [20] (fun t wr => ∃ i : Nat, i ≤ ms.length ∧ t = .int .i64 i ∧ wr = w1 ∧ KeysOk ms i) (fun t _ => ms.length - (intOf t).toNat)
    case atStart => (refine ⟨0, Nat.zero_le _, rfl, ?_⟩; first | exact ⟨rfl, keysOk0 ms⟩ | (simp; exact keysOk0 ms))
    case round =>
      obtain ⟨i, hi, rfl, rfl, hok0⟩ := hrel
      have HOK := Lib.hid hok0
      clear hok0
      by_cases hlt : i < ms.length
      · obtain ⟨m, hm⟩ : ∃ m, ms[i]? = some m := ⟨_, List.getElem?_eq_getElem hlt⟩
        have hkey : (ms.map Mb.key)[i]? = some m.key := by simp [hm]
        obtain ⟨b0, o0, rfl, hb0, hc0⟩ := HA.out.at_ (kv_at hkey)
        have q := below_cell (below_one hB1.out) hb0 hc0
        have hu := Lib.hid (fun W => val_any m.key (by have := HSZ.out m (List.mem_of_getElem? hm); unfold maxLen; omega) W)
        have hok : Hid ((runes m.key.data.toList).isSome = okS m.key) := Lib.hid rfl
        rw [hok.out] at hu
        have HKEY := Lib.hid hkey
        clear hok hkey hm hc0
        cases hx : okS m.key with
        | true =>
          rw [hx] at hu
          have HX := Lib.hid hx
          clear hx
          go_wp2_with (go_at_call 125; refine (hu.out _).mono ?_; rintro e w' ⟨rfl, rfl⟩)
          go_roundw
          case rel => exact ⟨i + 1, by omega, by go_num, trivial, all_take HKEY.out HOK.out HX.out⟩
          case measure => simp [intOf]; omega
        | false =>
          rw [hx] at hu
          have hre := HRE.out
          rw [if_neg (by rw [all_not HKEY.out hx]; decide), if_neg (by rw [all_not HKEY.out hx]; decide)] at hre
          obtain ⟨rfl, rfl⟩ := hre
          clear hx HRE
          obtain ⟨t0, t1, t2, t3, t4⟩ := box5 hr1.out
          have z0 := hr1.out.free 0
          have z1 := hr1.out.free 1
          have z2 := hr1.out.free 2
          have z3 := hr1.out.free 3
          have z4 := hr1.out.free 4
          go_wp2_with (go_at_call 125; refine (hu.out _).mono ?_; rintro e w' ⟨rfl, rfl⟩)
          refine bodyPost_ret (v := .tuple #[.agg #[.int .i64 0, .int .i64 0, .string ⟨#[]⟩, .slice none 0 0, .slice none 0 0], .int .i64 6]) (by simp [results, Tryz.results174, go_sem, t0, t1, t2, t3, t4]) rfl ?_
          exact ret_of (ds := [.int .i64 0, .int .i64 0, .string ⟨#[]⟩, .slice none 0 0, .slice none 0 0]) (below_five (below_one hB1.out) _ _ _ _ _) (lies_null _ _)
      · have hall : (ms.map Mb.key).all okS = true := by
          have : ((ms.map Mb.key).take i).all okS = true := HOK.out
          rwa [List.take_of_length_le (by simp; omega)] at this
        have hre := HRE.out
        rw [if_pos hall, if_pos hall] at hre
        have HRE2 := Lib.hid hre
        clear hall hre
        go_wp2_with fail
        refine (HO.out _ (below_one hB1.out)).mono ?_
        rintro e2 w2 ⟨hb2, ds, rfl, hl2⟩
        obtain ⟨VA, va, VB, vb, ys, rfl, _⟩ := lies_open hl2
        have hB2 := Lib.hid (chain (below_one hB1.out) hb2)
        have hr2 := Lib.hid (hr1.out.below hb2 hr1.out.lt)
        have hf := Lib.hid (ret_open (HF.out _ _ hl2))
        have hsz2 := hb2.size
        rw [← HRE2.out.1, ← HRE2.out.2] at hf
        clear hl2 hb2
        go_wp2_with fail
        refine hf.out.mono ?_
        rintro e3 w3 ⟨rk, rn, rs, rks, res, RA, ra, RC, rc, hrv, rfl, hb3, hl4⟩
        have HRV := Lib.hid hrv
        have HL3 := Lib.hid hl4
        have hres : Box w3 w.heap.size 25 #[.int .i64 0, .int .i64 0, .string ⟨#[]⟩, .slice none 0 0, .slice none 0 0] := hr2.out.below hb3 hr2.out.lt
        have hB3 := Lib.hid (chain hB2.out hb3)
        clear hrv hl4 hb3
        obtain ⟨t0, t1, t2, t3, t4⟩ := box5 hres
        have z0 := hres.free 0
        have z1 := hres.free 1
        have z2 := hres.free 2
        have z3 := hres.free 3
        have z4 := hres.free 4
        clear hres
        go_wp2_with fail
        refine bodyPost_ret (v := .tuple #[.agg #[.int .i64 rk, .int .i64 rn, .string rs, .slice RA rks.length ra, .slice RC res.length rc], .int .i64 E]) (by simp [results, Tryz.results174, go_sem, t0, t1, t2, t3, t4]) rfl ?_
        refine ret_of (ds := [.int .i64 rk, .int .i64 rn, .string rs, .slice RA rks.length ra, .slice RC res.length rc]) (below_five hB3.out _ _ _ _ _) ?_
        refine HL3.out.move fun b hb => ⟨⟨by omega, by simp [World.setCell]; omega⟩, ?_⟩
        have hbb : w.heap.size + 1 ≤ b := by omega
        rw [Below.heap_setCell _ _ _ _ (by simp; omega), Below.heap_setCell _ _ _ _ (by simp; omega), Below.heap_setCell _ _ _ _ (by simp; omega), Below.heap_setCell _ _ _ _ (by simp; omega), Below.heap_setCell _ _ _ _ (by simp; omega)]
end Go.Proofs.YtgdnkankleoaoaaGreatDoor
namespace Go.Proofs.YtgdnkankleoaoaaGreatDoor
open Go.RowKit Go.Sort
theorem tl_app {n acc r : Nat} {l m : List UInt8} (h : tl n acc l = some r) : tl n acc (l ++ m) = some r := by
  induction n generalizing acc l with
  | zero => rw [tl] at h ⊢; exact h
  | succ n ih =>
    cases l with
    | nil => rw [tl] at h; cases h
    | cons b t =>
      rw [List.cons_append]
      rw [tl] at h ⊢
      split at h
      · rename_i hb; rw [if_pos hb]; exact ih h
      · cases h
theorem fin_app {n least a : Nat} {l m : List UInt8} {q : Nat × Nat} (h : fin n least (tl n a l) = some q) : fin n least (tl n a (l ++ m)) = some q := by
  cases ht : tl n a l with
  | none => rw [ht] at h; cases h
  | some r => rw [tl_app ht, ← ht]; exact h
theorem dec_app {l m : List UInt8} {q : Nat × Nat} (h : dec l = some q) : dec (l ++ m) = some q := by
  cases l with
  | nil => simp [dec] at h
  | cons b t =>
    rw [List.cons_append]
    rw [dec_cons] at h ⊢
    by_cases c1 : b.toNat < 128
    · rw [if_pos c1] at h ⊢; exact h
    rw [if_neg c1] at h ⊢
    by_cases c2 : b.toNat < 192
    · rw [if_pos c2] at h ⊢; exact h
    rw [if_neg c2] at h ⊢
    by_cases c3 : b.toNat < 224
    · rw [if_pos c3] at h ⊢; exact fin_app h
    rw [if_neg c3] at h ⊢
    by_cases c4 : b.toNat < 240
    · rw [if_pos c4] at h ⊢; exact fin_app h
    rw [if_neg c4] at h ⊢
    by_cases c5 : b.toNat < 248
    · rw [if_pos c5] at h ⊢; exact fin_app h
    · rw [if_neg c5] at h; cases h
theorem runes_app : ∀ (n : Nat) {a b : List UInt8} {xs ys : List Nat}, a.length ≤ n → runes a = some xs → runes b = some ys → runes (a ++ b) = some (xs ++ ys)
  | n, [], b, xs, ys, hn, ha, hb => by
    rw [runes_nil] at ha
    injection ha with ha
    subst ha
    simpa using hb
  | 0, c :: t, b, xs, ys, hn, ha, hb => by simp at hn
  | n + 1, c :: t, b, xs, ys, hn, ha, hb => by
    cases hd : dec (c :: t) with
    | none => rw [runes_none (by simp) hd] at ha; cases ha
    | some q =>
      obtain ⟨r, k⟩ := q
      have hk := dec_some_cp hd
      rw [runes_some hd] at ha
      cases ht : runes ((c :: t).drop k) with
      | none => rw [ht] at ha; cases ha
      | some zs =>
        rw [ht] at ha
        injection ha with ha
        subst ha
        have h1 := runes_app n (a := (c :: t).drop k) (by simp at hn ⊢; omega) ht hb
        rw [runes_some (dec_app hd), List.drop_append_of_le_length hk.2.2.2, h1]
        rfl
theorem okS_app {s t : ByteArray} (hs : okS s = true) (ht : okS t = true) : okS (s ++ t) = true := by
  unfold okS at *
  obtain ⟨xs, hx⟩ := Option.isSome_iff_exists.1 hs
  obtain ⟨ys, hy⟩ := Option.isSome_iff_exists.1 ht
  have e : (s ++ t).data.toList = s.data.toList ++ t.data.toList := by simp [ByteArray.data_append]
  rw [e, runes_app _ (Nat.le_refl _) hx hy]
  rfl
theorem size0 {s : ByteArray} (h : s.size = 0) : s = ⟨#[]⟩ := by
  obtain ⟨a⟩ := s
  have : a = #[] := Array.size_eq_zero_iff.1 h
  rw [this]
/-- The shape of a valid value, kind by kind. -/
theorem valid_shape {k n : Int} {s : ByteArray} {ks : List ByteArray} {es : List V} (h : valid (.mk k n s ks es) = true) :
    ((k = 0 ∨ k = 1 ∨ k = 2) ∧ n = 0 ∧ s = ⟨#[]⟩ ∧ ks = [] ∧ es = []) ∨ (k = 3 ∧ s = ⟨#[]⟩ ∧ ks = [] ∧ es = []) ∨ (k = 4 ∧ n = 0 ∧ ks = [] ∧ es = []) ∨ (k = 5 ∧ n = 0 ∧ s = ⟨#[]⟩ ∧ ks = []) ∨ (k = 6 ∧ n = 0 ∧ s = ⟨#[]⟩ ∧ ks.length = es.length) := by
  have h0 := ((valid_iff _).1 h).1
  rw [good] at h0
  simp only [Bool.and_eq_true] at h0
  have h1 := h0.1
  unfold fits at h1
  have nil : ∀ {α : Type} {l : List α}, l.length = 0 → l = [] := fun h => List.eq_nil_of_length_eq_zero h
  split at h1
  · rename_i hk
    simp only [Bool.and_eq_true, decide_eq_true_eq] at h1
    exact .inl ⟨hk, h1.1.1.1, size0 h1.1.1.2, nil h1.1.2, nil h1.2⟩
  split at h1
  · rename_i hk
    simp only [Bool.and_eq_true, decide_eq_true_eq] at h1
    exact .inr (.inl ⟨hk, size0 h1.1.1, nil h1.1.2, nil h1.2⟩)
  split at h1
  · rename_i hk
    simp only [Bool.and_eq_true, decide_eq_true_eq] at h1
    exact .inr (.inr (.inl ⟨hk, h1.1.1, nil h1.1.2, nil h1.2⟩))
  split at h1
  · rename_i hk
    simp only [Bool.and_eq_true, decide_eq_true_eq] at h1
    exact .inr (.inr (.inr (.inl ⟨hk, h1.1.1, size0 h1.1.2, nil h1.2⟩)))
  split at h1
  · rename_i hk
    simp only [Bool.and_eq_true, decide_eq_true_eq] at h1
    exact .inr (.inr (.inr (.inr ⟨hk, h1.1.1, size0 h1.1.2, h1.2⟩)))
  · cases h1
theorem valid_parts {k n : Int} {s : ByteArray} {ks : List ByteArray} {es : List V} (h : valid (.mk k n s ks es) = true) : s.size ≤ 4096 ∧ okS s = true ∧ es.length ≤ 1024 ∧ keysOk none ks = true := by
  have h0 := ((valid_iff _).1 h).1
  rw [good] at h0
  simp only [Bool.and_eq_true, decide_eq_true_eq] at h0
  exact ⟨h0.2.1, h0.2.2.1, h0.2.2.2.1, h0.2.2.2.2.1⟩
theorem valid_elems {k n : Int} {s : ByteArray} {ks : List ByteArray} {es : List V} (h : valid (.mk k n s ks es) = true) : es.all valid = true := by
  rcases valid_shape h with h1 | h1 | h1 | h1 | h1
  · rw [h1.2.2.2.2]; rfl
  · rw [h1.2.2.2]; rfl
  · rw [h1.2.2.2]; rfl
  · exact List.all_eq_true.2 fun e he => (valid_iff e).2 (ok_elem ((valid_iff _).1 h) (.inl h1.1) e he)
  · exact List.all_eq_true.2 fun e he => (valid_iff e).2 (ok_elem ((valid_iff _).1 h) (.inr h1.1) e he)
theorem keysOk_all : ∀ {ks : List ByteArray} {p : Option ByteArray}, keysOk p ks = true → ks.all okS = true ∧ ∀ k ∈ ks, k.size ≤ 4096
  | [], p, h => ⟨rfl, fun k hk => by cases hk⟩
  | x :: r, p, h => by
    have hx : keyOk x = true ∧ keysOk (some x) r = true := by
      cases p with
      | none => rw [keysOk] at h; simpa using h
      | some q => rw [keysOk] at h; simp only [Bool.and_eq_true] at h; exact ⟨h.1, h.2.2⟩
    obtain ⟨h1, h2⟩ := hx
    obtain ⟨h3, h4⟩ := keysOk_all h2
    unfold keyOk at h1
    simp only [Bool.and_eq_true, decide_eq_true_eq] at h1
    refine ⟨by rw [List.all_cons, h3, h1.2]; rfl, fun k hk => ?_⟩
    rcases List.mem_cons.1 hk with rfl | hk
    · exact h1.1
    · exact h4 k hk
theorem valid_keysok {k n : Int} {s : ByteArray} {ks : List ByteArray} {es : List V} (h : valid (.mk k n s ks es) = true) : ks.all okS = true ∧ ∀ k ∈ ks, k.size ≤ 4096 := keysOk_all (valid_parts h).2.2.2
theorem finV_ok {v : V} (h : valid v = true) : finV v = v := by unfold finV; rw [if_pos h]
theorem finE_ok {v : V} (h : valid v = true) : finE v = 0 := by unfold finE; rw [if_pos h]
theorem finE_zero {v : V} (h : finE v = 0) : valid v = true := by
  unfold finE at h
  split at h
  · assumption
  · cases h
theorem strR_ok {s : ByteArray} (h : okS s = true) : strR s = finV (strV s) ∧ strE s = finE (strV s) := by
  unfold strR strE
  rw [if_pos h, if_pos h]
  exact ⟨rfl, rfl⟩
theorem arrR_ok {l : List V} (h : l.all valid = true) : arrR l = finV (arrV l) ∧ arrE l = finE (arrV l) := by
  unfold arrR arrE
  rw [if_pos h, if_pos h]
  exact ⟨rfl, rfl⟩
theorem objR_ok {ms : List Mb} (h : (ms.map Mb.v).all valid = true) (k : (ms.map Mb.key).all okS = true) : objR ms = finV (objL (putAll ms)) ∧ objE ms = finE (objL (putAll ms)) := by
  unfold objR objE
  rw [if_pos h, if_pos k, if_pos h, if_pos k, obj_put]
  exact ⟨rfl, rfl⟩
/-- Members set one after another. -/
def putL (ps qs : PL) : PL := qs.foldl (fun ps p => putP ps p.1 p.2) ps
theorem putL_snoc (ps qs : PL) (p : ByteArray × V) : putL ps (qs ++ [p]) = putP (putL ps qs) p.1 p.2 := by simp [putL]
theorem rev_indP {α : Type} {p : List α → Prop} (h0 : p []) (h1 : ∀ l m, p l → p (l ++ [m])) : ∀ l, p l := by
  intro l
  have : ∀ r : List α, p r.reverse := by
    intro r
    induction r with
    | nil => exact h0
    | cons m r ih => rw [List.reverse_cons]; exact h1 _ _ ih
  have := this l.reverse
  simpa using this
theorem putL_asc {ps : PL} (h : PAsc ps) : ∀ qs, PAsc (putL ps qs) :=
  rev_indP h fun l m ih => by rw [putL_snoc]; exact putP_asc ih
/-- The last value of a key in a list of pairs. -/
def lastP (qs : PL) (k : ByteArray) : Option V := ((qs.filter fun p => decide (p.1 = k)).getLast?).map Prod.snd
theorem putL_look {ps : PL} (h : PAsc ps) (k : ByteArray) : ∀ qs, look (putL ps qs) k = (lastP qs k).or (look ps k) := by
  refine rev_indP rfl fun l m ih => ?_
  rw [putL_snoc, putP_look k (putL_asc h l), ih]
  unfold lastP
  rw [List.filter_append]
  by_cases e : m.1 = k
  · rw [if_pos e]; simp [e]
  · rw [if_neg e]; simp [e]
theorem lastP_asc (k : ByteArray) : ∀ {qs : PL}, PAsc qs → lastP qs k = look qs k
  | [], _ => rfl
  | (y, v) :: r, h => by
    obtain ⟨h1, h2⟩ := List.pairwise_cons.1 h
    have ih := lastP_asc k h2
    unfold lastP at ih ⊢
    rw [look]
    by_cases e : y = k
    · subst e
      have hn : r.filter (fun p => decide (p.1 = y)) = [] := List.filter_eq_nil_iff.2 fun p hp hk => by
        have h3 := h1 p hp
        have hk : p.1 = y := by simpa using hk
        rw [hk] at h3
        simp only [scmp_self] at h3
        omega
      rw [if_pos rfl, List.filter_cons_of_pos (by simp), hn]
      rfl
    · rw [if_neg e, List.filter_cons_of_neg (by simp [e]), ih]
theorem putAll_app (ma mb : List Mb) : putAll (ma ++ mb) = putL (putAll ma) (pairs mb) := by
  unfold putAll putL pairs
  rw [List.foldl_append, List.foldl_map]
theorem pasc_nil : PAsc [] := List.Pairwise.nil
theorem putL_nil_asc {qs : PL} (h : PAsc qs) : putL [] qs = qs :=
  canon (putL_asc pasc_nil qs) h fun k => by rw [putL_look pasc_nil k qs, lastP_asc k h]; simp [look]
def kd : V → Int | .mk k _ _ _ _ => k
def nm : V → Int | .mk _ n _ _ _ => n
def stv : V → ByteArray | .mk _ _ s _ _ => s
def esv : V → List V | .mk _ _ _ _ es => es
/-- The members of an object. -/
def prs : V → PL | .mk _ _ _ ks es => ks.zip es
theorem prs_asc {k n : Int} {s : ByteArray} {ks : List ByteArray} {es : List V} (h : valid (.mk k n s ks es) = true) : PAsc (prs (.mk k n s ks es)) := by
  have ha := (valid_keys h).1
  unfold prs PAsc
  have : ∀ {ks : List ByteArray} {es : List V}, Asc ks → (ks.zip es).Pairwise fun x y => scmp x.1 y.1 < 0 := by
    intro ks
    induction ks with
    | nil => intro es _; simp
    | cons x r ih =>
      intro es h
      cases es with
      | nil => simp
      | cons e f =>
        obtain ⟨h1, h2⟩ := List.pairwise_cons.1 h
        rw [List.zip_cons_cons]
        exact List.Pairwise.cons (fun p hp => h1 p.1 (List.of_mem_zip (show (p.1, p.2) ∈ r.zip f from hp)).1) (ih h2)
  exact this ha
/-- Within the limits or not. -/
def lim (v : V) : V × Int := (finV v, finE v)

/-- The sum of two valid values. -/
def sumR (a b : V) : V × Int :=
  if kd a = 0 then (b, 0) else if kd b = 0 then (a, 0)
  else if kd a = 3 ∧ kd b = 3 then (numV (wrap64 (nm a + nm b)), 0)
  else if kd a = 4 ∧ kd b = 4 then lim (strV (stv a ++ stv b))
  else if kd a = 5 ∧ kd b = 5 then lim (arrV (esv a ++ esv b))
  else if kd a = 6 ∧ kd b = 6 then lim (objL (putL (prs a) (prs b)))
  else (vnull, 12)
theorem sum_null_left {a b : V} (h : kd a = 0) : sumR a b = (b, 0) := by unfold sumR; rw [if_pos h]
theorem vnull_of {a : V} (h : valid a = true) (k : kd a = 0) : a = vnull := by
  obtain ⟨k1, n, s, ks, es⟩ := a
  have hk : k1 = 0 := k
  subst hk
  rcases valid_shape h with h1 | h1 | h1 | h1 | h1
  · obtain ⟨_, rfl, rfl, rfl, rfl⟩ := h1; rfl
  all_goals exact absurd h1.1 (by decide)
theorem sum_null_right {a b : V} (ha : valid a = true) (hb : valid b = true) (h : kd b = 0) : sumR a b = (a, 0) := by
  unfold sumR
  by_cases k : kd a = 0
  · rw [if_pos k, vnull_of ha k, vnull_of hb h]
  · rw [if_neg k, if_pos h]
theorem valid_num (n : Int) : valid (numV n) = true := by
  rw [valid_iff]
  unfold numV
  refine ⟨?_, ?_, ?_, ?_⟩
  · rw [good, goodL]
    have h1 : fits 3 n ⟨#[]⟩ ([] : List ByteArray).length ([] : List V).length = true := rfl
    rw [h1]
    decide +kernel
  · rw [dep]; simp
  · rw [V.sz, V.szL]; decide
  · rw [vbyt, vbytL]; decide
theorem lim_ok {v : V} (h : (lim v).2 = 0) : lim v = (v, 0) := by
  have := finE_zero h
  unfold lim
  rw [finV_ok this, finE_ok this]
end Go.Proofs.YtgdnkankleoaoaaGreatDoor

/- TextJoin: its walk. -/
import Derived.Test.YtjafmdngbphacaaGreatDoorJb
import Derived.Test.YtjafmdngbphacaaGreatDoorC39
import Derived.Test.YtjafmdngbphacaaGreatDoorC29
set_option linter.unusedVariables false
set_option linter.unusedSimpArgs false
namespace Go.Proofs.YtjafmdngbphacaaGreatDoor
open Go.RowKit Go.Sort
theorem okS_of_valid3 {s : ByteArray} (h : valid (strV s) = true) : okS s = true := by
  unfold strV at h
  exact (valid_parts h).2.1
theorem rs_boxj {w : World} {t : TypeId} {g : Nat} {l : List ByteArray} {S : Nat → Prop} (h : Box w g t (kv l).toArray) (hS : S g) : Rs w S (some ⟨g, 0, none⟩) (kv l) := by
  intro j u hj
  refine ⟨g, 0, rfl, hS, ?_⟩
  rw [Nat.zero_add]
  exact h.cell (by simpa using hj)
/-- An array that a call hands back. -/
theorem arr_open {f : FuncId} {args : Array Value} {w : World} {l : List V} {err : Int} (h : Calls Tryz.prog f args w (RetPost (arrV l) err w)) :
    Calls Tryz.prog f args w fun e w' => ∃ (A : Option Addr) (a : Nat) (B : Option Addr) (b : Nat), e = .returned (.tuple #[.agg #[.int .i64 5, .int .i64 0, .string ⟨#[]⟩, .slice A 0 a, .slice B l.length b], .int .i64 err]) ∧ Below w.heap.size w w' ∧
      Lies w' (· < w'.heap.size) (arrV l) [.int .i64 5, .int .i64 0, .string ⟨#[]⟩, .slice A 0 a, .slice B l.length b] := by
  refine h.mono fun e w' hp => ?_
  obtain ⟨hb, ds, rfl, hl⟩ := hp
  have hl2 := hl
  unfold arrV at hl2
  obtain ⟨A, a, B, b, xs, rfl, _⟩ := lies_open hl2
  exact ⟨A, a, B, b, rfl, hb, hl.move fun b hb => ⟨hb.2, rfl⟩⟩
theorem vx_arr0 {w : World} {g : Nat} {cs : List Value} (h : Vx w g (arrV []) cs) : ∃ (A : Option Addr) (a : Nat) (B : Option Addr) (b : Nat), cs = [.int .i64 5, .int .i64 0, .string ⟨#[]⟩, .slice A 0 a, .slice B 0 b] := by
  have hl := h.lies
  unfold arrV at hl
  obtain ⟨A, a, B, b, xs, e, _⟩ := lies_open hl
  exact ⟨A, a, B, b, e⟩
theorem vx_str2 {w : World} {g : Nat} {s : ByteArray} {cs : List Value} (h : Vx w g (strV s) cs) : ∃ (A : Option Addr) (a : Nat) (B : Option Addr) (b : Nat), cs = [.int .i64 4, .int .i64 0, .string s, .slice A 0 a, .slice B 0 b] := by
  have hl := h.lies
  unfold strV at hl
  obtain ⟨A, a, B, b, xs, e, _⟩ := lies_open hl
  exact ⟨A, a, B, b, e⟩
theorem okS_some3 {s : ByteArray} (h : okS s = true) : ∃ xs, runes s.data.toList = some xs := by
  unfold okS at h
  cases hq : runes s.data.toList with
  | none => rw [hq] at h; cases h
  | some xs => exact ⟨xs, rfl⟩
theorem arr_row {w : World} {S : Nat → Prop} {l : List V} {A B : Option Addr} {a n b : Nat} (h : Lies w S (arrV l) [.int .i64 5, .int .i64 0, .string ⟨#[]⟩, .slice A 0 a, .slice B n b]) : ∃ xs, Rs w S B xs ∧ LiesL w S l xs := by
  unfold arrV at h
  obtain ⟨A', a', B', b', xs, e, _, _, _, _, hr, hr2, hl⟩ := lies_open h
  injection e with _ e
  injection e with _ e
  injection e with _ e
  injection e with _ e
  injection e with e _
  injection e with e1 _ _
  subst e1
  exact ⟨xs, hr2, hl⟩
theorem elem_cells6 {w : World} {S T : Nat → Prop} {A : Option Addr} {ps : List ByteArray} {xs : List Value} (hA : Rs w S A xs) (hL : LiesL w T (ps.map strV) xs) {i : Nat} {s : ByteArray} (hs : ps[i]? = some s) :
    ∃ (b o : Nat) (A' C' : Option Addr) (a' c' : Nat), A = some ⟨b, o, none⟩ ∧ S b ∧ (w.cell? ⟨b, o + i * 5, none⟩ = some (.int .i64 4) ∧ w.cell? ⟨b, o + i * 5 + 1, none⟩ = some (.int .i64 0) ∧ w.cell? ⟨b, o + i * 5 + 2, none⟩ = some (.string s) ∧
      w.cell? ⟨b, o + i * 5 + 3, none⟩ = some (.slice A' 0 a') ∧ w.cell? ⟨b, o + i * 5 + 4, none⟩ = some (.slice C' 0 c')) ∧ Lies w T (strV s) [.int .i64 4, .int .i64 0, .string s, .slice A' 0 a', .slice C' 0 c'] := by
  obtain ⟨cs, hc, hat⟩ := hL.at_ (i := i) (e := strV s) (by rw [List.getElem?_map, hs]; rfl)
  have hc2 := hc
  unfold strV at hc
  obtain ⟨A3, a3, B3, b3, ys, rfl, _⟩ := lies_open hc
  obtain ⟨b, o, rfl, hb, h0⟩ := hA.at_ (hat 0 (by decide))
  have k : ∀ j u, xs[i * 5 + j]? = some u → w.cell? ⟨b, o + (i * 5 + j), none⟩ = some u := fun j u hj => by
    obtain ⟨b2, o2, e, _, hc2⟩ := hA.at_ hj
    injection e with e
    injection e with e1 e2
    subst e1 e2
    exact hc2
  refine ⟨b, o, A3, B3, a3, b3, rfl, hb, ⟨?_, ?_, ?_, ?_, ?_⟩, hc2⟩
  · exact k 0 _ (hat 0 (by decide))
  · rw [Nat.add_assoc]; exact k 1 _ (hat 1 (by decide))
  · rw [Nat.add_assoc]; exact k 2 _ (hat 2 (by decide))
  · rw [Nat.add_assoc]; exact k 3 _ (hat 3 (by decide))
  · rw [Nat.add_assoc]; exact k 4 _ (hat 4 (by decide))
/-- Indices of two strings, wherever they lie. -/
theorem indices_cs (s t : ByteArray) (xs ys : List Nat) (hs : valid (strV s) = true) (ht : valid (strV t) = true) (hx : runes s.data.toList = some xs) (hy : runes t.data.toList = some ys) (h1 : s.size ≤ 100000) (h2 : t.size ≤ 100000) (cs ds : List Value) (w : World) (h : Lies w (· < w.heap.size) (strV s) cs) (h' : Lies w (· < w.heap.size) (strV t) ds) :
    Calls Tryz.prog 63 #[.agg cs.toArray, .agg ds.toArray] w (RetPost (ixR xs ys).1 (ixR xs ys).2 w) :=
  top_Indices (strV s) (strV t) _ _ _ _ w h h' (show ¬ kd (strV s) = 5 from (by decide : ¬ (4 : Int) = 5)) fun W hW => by
    have := on_indices (strV s) (strV t) (ixR xs ys) cs ds W (below_lies hW h) (below_lies hW h') fun _ _ _ _ W' => m_indices s t xs ys W' hx hy (by omega) (by omega)
    rw [on_ok hs ht] at this
    exact this
theorem split_cs (s t : ByteArray) (w : World) (hml : MaxL w) (hT : Tabs w) (hs : valid (strV s) = true) (ht : valid (strV t) = true) (ho : okS s = true) (hp : okS t = true) (h1 : s.size ≤ 60) (h2 : t.size ≤ 60) (cs ds : List Value) (h : Lies w (· < w.heap.size) (strV s) cs) (h' : Lies w (· < w.heap.size) (strV t) ds) :
    Calls Tryz.prog 59 #[.agg cs.toArray, .agg ds.toArray] w (RetPost (arrV ((splitL s t).map strV)) 0 w) :=
  top_Split (strV s) (strV t) _ _ _ _ w h h' fun W hW => by
    have := on_split (strV s) (strV t) (arrV ((splitL s t).map strV), 0) cs ds W (below_lies hW h) (below_lies hW h') fun _ _ _ _ W' hW' => by
      have := m_split s t W' ((hml.next hW).next hW') ((hT.next hW).next hW') ho hp (by omega) (by omega) (by have := splitL_len (s := s) (sep := t); omega) (fun x hx => by have := (splitL_ok ho hp x hx).2; omega)
      rw [(split_val ho hp h1).1, (split_val ho hp h1).2.1] at this
      exact this
    rw [on_ok hs ht] at this
    exact this
set_option maxHeartbeats 20000000 in
set_option maxRecDepth 100000 in
theorem textJoin_walk (s t : ByteArray) (w : World) (ha0 : s.size ≤ 140737488355328) (hb0 : t.size ≤ 140737488355328) (hml : MaxL w) (hT : Tabs w) :
    Calls Tryz.prog 9 #[.string s, .string t] w fun e w' => e = .returned (.bool true) ∧ Below w.heap.size w w' := by
  have haw := Lib.hid (fun W => awake8_any W)
  have hst := Lib.hid (fun (s : ByteArray) W => str8_any s W)
  have HSH := Lib.hid (fun W hR => short_any 60 (some ⟨w.heap.size, 0, none⟩) 2 [s, t] (fun x => x = w.heap.size) W hR (by simp [maxLen]) (by intro k hk; simp at hk; rcases hk with rfl | rfl <;> assumption) (by decide) (by decide))
  have HSP := Lib.hid (fun h => shortP_mem (m := 60) (ks := [s, t]) h)
  have HVA := Lib.hid (fun W => valid_any (strV s) (sc s) W (lies_str _ _ _ ha0))
  have HVB := Lib.hid (fun W => valid_any (strV t) (sc t) W (lies_str _ _ _ hb0))
  have HRS := Lib.hid (show Rs (w.alloc (.cells #[.string s, .string t] 9)) (fun x => x = w.heap.size) (some ⟨w.heap.size, 0, none⟩) (kv [s, t]) from rs_boxj (Box.laid w 9 (kv [s, t]).toArray) rfl)
  have HML := Lib.hid hml
  have HTB := Lib.hid hT
  unfold sc at HVA HVB
  clear ha0 hb0 hml hT
  go_enter Tryz.func9, Tryz.ntmps9
  go_wp2_with fail
  refine (HSH.out _ HRS.out).mono ?_
  rintro e1 w1 ⟨rfl, hb1⟩
  have HB1 := Lib.hid (chain (below1 w (.cells #[.string s, .string t] 9)) hb1)
  clear hb1 HRS HSH
  generalize shortP 60 [s, t] = sh at HSP ⊢
  cases sh with
  | false =>
    go_wp2_with fail
    refine (haw.out _).mono ?_
    rintro e9 w9 ⟨rfl, hb9⟩
    go_wp2_with fail
    go_ret
    exact ⟨rfl, chain HB1.out hb9⟩
  | true =>
  have hsz := HSP.out rfl
  have hsa : s.size ≤ 60 := by have := hsz s (by simp); omega
  have hsb : t.size ≤ 60 := by have := hsz t (by simp); omega
  clear hsz HSP
  go_wp2_with fail
  refine (hst.out _ _).mono ?_
  rintro e2 w2 ⟨rfl, hb2⟩
  go_wp2_with fail
  refine (HVA.out _).mono ?_
  rintro e3 w3 ⟨rfl, hb3⟩
  have HB3 := Lib.hid (chain HB1.out (chain hb2 hb3))
  clear hb2 hb3 HVA HB1
  obtain ⟨va, hva⟩ : ∃ x, valid (strV s) = x := ⟨_, rfl⟩
  rw [hva]
  have HA := Lib.hid hva
  clear hva
  cases va with
  | false =>
    go_wp2_with fail
    refine (haw.out _).mono ?_
    rintro e9 w9 ⟨rfl, hb9⟩
    go_wp2_with fail
    go_ret
    exact ⟨rfl, chain HB3.out hb9⟩
  | true =>
  go_wp2_with fail
  refine (hst.out _ _).mono ?_
  rintro e4 w4 ⟨rfl, hb4⟩
  go_wp2_with fail
  refine (HVB.out _).mono ?_
  rintro e5 w5 ⟨rfl, hb5⟩
  have HB5 := Lib.hid (chain HB3.out (chain hb4 hb5))
  clear hb4 hb5 HVB HB3
  obtain ⟨vb, hvb⟩ : ∃ x, valid (strV t) = x := ⟨_, rfl⟩
  rw [hvb]
  have HB := Lib.hid hvb
  clear hvb
  cases vb with
  | false =>
    go_wp2_with fail
    refine (haw.out _).mono ?_
    rintro e9 w9 ⟨rfl, hb9⟩
    go_wp2_with fail
    go_ret
    exact ⟨rfl, chain HB5.out hb9⟩
  | true =>
  have HOA := Lib.hid (okS_of_valid3 HA.out)
  have HOB := Lib.hid (okS_of_valid3 HB.out)
  have HPO := Lib.hid (fun x hx => splitL_ok (s := s) (sep := t) HOA.out HOB.out x hx)
  have HPF := Lib.hid (fun h1 x hx => splitL_free (s := s) (sep := t) h1 x hx)
  have HVV := Lib.hid (split_val (s := s) (t := t) HOA.out HOB.out hsa).2.2
  have hpl := splitL_len (s := s) (sep := t)
  have HFS := Lib.hid (fun W (hW : Below w.heap.size w W) => arr_open (split_cs s t W (HML.out.next hW) (HTB.out.next hW) HA.out HB.out HOA.out HOB.out hsa hsb (sc s) (sc t) (lies_str _ _ _ (by omega)) (lies_str _ _ _ (by omega))))
  have HFJ := Lib.hid (fun (cs : List Value) (W : World) (h : Lies W (· < W.heap.size) (arrV ((splitL s t).map strV)) cs) => by
    have := join_two (splitL s t) t cs (sc t) W h (lies_str _ _ _ (by omega)) HVV.out HB.out (fun x hx => by have := (HPO.out x hx).2; omega) (by omega) (by omega)
    rw [join_val HOA.out HOB.out hsa] at this
    exact this)
  have HFI := Lib.hid (fun (h1 : 1 ≤ t.size) (x : ByteArray) (hx : x ∈ splitL s t) (cs : List Value) (W : World) (h : Lies W (· < W.heap.size) (strV x) cs) => by
    obtain ⟨hox, hsx⟩ := HPO.out x hx
    obtain ⟨us, hus⟩ := okS_some3 hox
    obtain ⟨vs, hvs⟩ := okS_some3 HOB.out
    have hvx := valid_str hox (by omega)
    have hne : vs ≠ [] := by
      rintro rfl
      have e := (encs_runes _ _ (Nat.le_refl _) [] hvs).1
      rw [encs_nil] at e
      have := congrArg List.length e
      have e2 : t.data.toList.length = t.size := by simp
      simp at this
      omega
    have := indices_cs x t us vs hvx HB.out hus hvs (by omega) (by omega) cs (sc t) W h (lies_str _ _ _ (by omega))
    rw [ix_free hus hvs (HPF.out h1 x hx) hne] at this
    exact this)
  unfold sc at HFS HFJ HFI
  obtain ⟨ps, hps⟩ : ∃ ps, splitL s t = ps := ⟨_, rfl⟩
  rw [hps] at HFS HFJ HFI hpl
  clear hps HPO HPF HVV HOA HOB HA HB HML HTB
  obtain ⟨n, hn⟩ : ∃ n, (ps.map strV).length = n := ⟨_, rfl⟩
  have hn2 : ps.length = n := by rw [← hn, List.length_map]
  rw [hn] at HFS
  have HN := Lib.hid hn2
  rw [hn2] at hpl
  clear hn hn2
  go_wp2_with fail
  refine (hst.out _ _).mono ?_
  rintro e6 w6 ⟨rfl, hb6⟩
  go_wp2_with fail
  refine (hst.out _ _).mono ?_
  rintro e7 w7 ⟨rfl, hb7⟩
  have HB7 := Lib.hid (chain HB5.out (chain hb6 hb7))
  clear hb6 hb7 HB5
  go_wp2_with fail
  refine (HFS.out _ HB7.out).mono ?_
  rintro e8 w8 ⟨A8, a8, B8, b8, rfl, hb8, hl8⟩
  obtain ⟨W0, hW0⟩ : ∃ X, X = w8.alloc (.cells #[.int .i64 5, .int .i64 0, .string ⟨#[]⟩, .slice A8 0 a8, .slice B8 n b8] 25) := ⟨_, rfl⟩
  have HB0 : Hid (Below w.heap.size w W0) := Lib.hid (by rw [hW0]; exact chain HB7.out (chain hb8 (below1 _ _)))
  have HV0 : Hid (Vx W0 w8.heap.size (arrV (ps.map strV)) [.int .i64 5, .int .i64 0, .string ⟨#[]⟩, .slice A8 0 a8, .slice B8 n b8]) := Lib.hid (by rw [hW0]; exact Vx.new hl8)
  have HW0 := Lib.hid hW0
  clear hW0 hb8 hl8 HB7 HFS
  go_upto_region 4 with fail
  rw [← HW0.out]
  go_cut [7, 8] (fun tr te wx => GotB W0 (strV s) 0 tr te wx)
  case first =>
    rename_i Jm Km hRJ hMet
    have keepS : Hid (∀ X, Below W0.heap.size W0 X → X.cell? ⟨w8.heap.size, 0, none⟩ = some (.int .i64 5) ∧ X.cell? ⟨w8.heap.size, 1, none⟩ = some (.int .i64 0) ∧ X.cell? ⟨w8.heap.size, 2, none⟩ = some (.string ⟨#[]⟩) ∧ X.cell? ⟨w8.heap.size, 3, none⟩ = some (.slice A8 0 a8) ∧ X.cell? ⟨w8.heap.size, 4, none⟩ = some (.slice B8 n b8)) := Lib.hid fun X hX => box5 (HV0.out.box.below hX HV0.out.box.lt)
    have HBIN : Hid (∀ z W, Sb W0 W z → Calls Tryz.prog 61 #[.agg #[.int .i64 5, .int .i64 0, .string ⟨#[]⟩, .slice A8 0 a8, .slice B8 n b8], .agg #[.int .i64 4, .int .i64 0, .string t, .slice none 0 0, .slice none 0 0]] W (OpS W0 z (strV s) 0)) := Lib.hid fun z W h => opS_of h (HFJ.out [.int .i64 5, .int .i64 0, .string ⟨#[]⟩, .slice A8 0 a8, .slice B8 n b8] W (below_lies h.below HV0.out.lies))
    have st0 := Sb.start W0
    obtain ⟨x0, x1, x2, x3, x4⟩ := keepS.out _ (Below.refl _ _)
    go_region_held3 (fun w' => w'.cell? ⟨w8.heap.size, 0, none⟩ = some (.int .i64 5) ∧ w'.cell? ⟨w8.heap.size, 1, none⟩ = some (.int .i64 0) ∧ w'.cell? ⟨w8.heap.size, 2, none⟩ = some (.string ⟨#[]⟩) ∧ w'.cell? ⟨w8.heap.size, 3, none⟩ = some (.slice A8 0 a8) ∧ w'.cell? ⟨w8.heap.size, 4, none⟩ = some (.slice B8 n b8))
      (first
        | with_reducible exact keepS.out _ (Sb.drew st0).below
        | with_reducible exact keepS.out _ (Sb.drew (Sb.zbox st0)).below
        | with_reducible exact keepS.out _ st5.below
        | with_reducible exact keepS.out _ (Sb.drew st5).below
        | with_reducible exact keepS.out _ (Sb.zbox st5).below
        | with_reducible exact keepS.out _ (Sb.zbox (Sb.drew st5)).below
        | with_reducible exact keepS.out _ st6.below
        | (refine keepS.out _ ?_; with_reducible exact below_five_m hp6 st6.below _ _ _ _ _)
        | with_reducible exact keepS.out _ (chain st6.below (below1 _ _)))
      (first
        | (go_at_call 65; (with_reducible refine (hst.out _ _).mono ?_); rintro e5 w5 ⟨rfl, hb5⟩; (first | (have st5 : Sb W0 w5 none := by with_reducible exact Sb.call hb5 (Sb.drew st0)) | (have st5 : Sb W0 w5 (some W0.heap.size) := by with_reducible exact Sb.call hb5 (Sb.drew (Sb.zbox st0)))))
        | (go_at_call 61; (with_reducible refine (HBIN.out _ _ st5).mono ?_); rintro e6 w7 ⟨k6, n6, s6, A6, la6, a6, C6, lc6, c6, rfl, st6, hl6⟩; (first | (obtain ⟨hp6, zz⟩ := st6.box _ rfl; obtain ⟨y0, y1, y2, y3, y4⟩ := box5 zz; have z0 := zz.free 0; have z1 := zz.free 1; have z2 := zz.free 2; have z3 := zz.free 3; have z4 := zz.free 4) | skip))
        | (go_at_call 61; (with_reducible refine (HBIN.out _ _ (Sb.zbox st5)).mono ?_); rintro e6 w7 ⟨k6, n6, s6, A6, la6, a6, C6, lc6, c6, rfl, st6, hl6⟩; (first | (obtain ⟨hp6, zz⟩ := st6.box _ rfl; obtain ⟨y0, y1, y2, y3, y4⟩ := box5 zz; have z0 := zz.free 0; have z1 := zz.free 1; have z2 := zz.free 2; have z3 := zz.free 3; have z4 := zz.free 4) | skip)))
    all_goals
      refine hMet _ _ (Met.intro (hRJ _ _ ?_))
      (repeat apply Exists.intro)
      refine ⟨?_, rfl⟩
      first
        | exact gotB_fill st6 hl6
        | exact gotB_last st6 hl6
  case rest =>
    obtain ⟨hbx, rfl, g1, k7, n7, s7, A7, la7, a7, C7, lc7, c7, rfl, hvx⟩ := hcut
    obtain ⟨A11, a11, C11, c11, hcs1⟩ := vx_str2 hvx
    rw [hcs1] at hvx
    have HB1x := Lib.hid (chain HB0.out hbx)
    have HV1 := Lib.hid (HV0.out.next hbx)
    obtain ⟨p0, p1, p2, p3, p4⟩ := box5 hvx.box
    have f1 : (s.toList != s.toList) = false := by simp
    clear hbx hvx hcs1 HB0 HV0 HFJ
    obtain ⟨W1, hW1⟩ : ∃ X, X = wc := ⟨_, rfl⟩
    subst hW1
    go_wp2_with fail
    clear p0 p1 p2 p3 p4 f1
    go_loopw [9, 10, 11] (fun t9 _ _ wr => ∃ k : Nat, k ≤ n ∧ t9 = .int .i64 k ∧ Hid (Below W1.heap.size W1 wr)) (fun t9 _ _ _ => n - (intOf t9).toNat)
    case atStart => exact ⟨0, Nat.zero_le _, rfl, Lib.hid (Below.refl _ _)⟩
    case round =>
      obtain ⟨k, hk, rfl, HBR⟩ := hrel
      have HVR := Lib.hid (HV1.out.next HBR.out)
      have x4 := HVR.out.box.cell (i := 4) rfl
      by_cases hlt : k < n
      · have q0 : (0 : Int) ≤ (k : Int) := by omega
        have q1 : (k : Int) < (n : Int) := by omega
        by_cases h0 : t.size = 0
        · have ht0 : t.toList = [] := by rw [Lib.toList_data]; exact List.eq_nil_of_length_eq_zero (by simpa using h0)
          have f2 : t.toList.isEmpty = true := by rw [ht0]; rfl
          clear ht0
          go_wp2_with fail
          refine (haw.out _).mono ?_
          rintro e9 w9 ⟨rfl, hb9⟩
          go_wp2_with fail
          go_ret
          exact ⟨rfl, chain HB1x.out (chain HBR.out hb9)⟩
        · have ht0 : t.toList ≠ [] := by
            rw [Lib.toList_data]
            intro e
            have e2 : t.data.toList.length = t.size := by simp
            have e3 : t.data.toList.length = 0 := by rw [e]; rfl
            omega
          have f2 : t.toList.isEmpty = false := by simpa using ht0
          clear ht0
          obtain ⟨x, hx⟩ : ∃ x, ps[k]? = some x := ⟨_, List.getElem?_eq_getElem (by rw [HN.out]; exact hlt)⟩
          obtain ⟨xs9, hrs9, hll9⟩ := arr_row HVR.out.lies
          obtain ⟨be, oe, Ae, Ce, ae, ce, rfl, hbe, hcells, hle⟩ := elem_cells6 hrs9 hll9 hx
          have HLE := Lib.hid hle
          have HCE := Lib.hid hcells
          have HX := Lib.hid (List.mem_of_getElem? hx)
          obtain ⟨e0, e1, e2, e3, e4⟩ := hcells
          clear hle hrs9 hll9 hx
          obtain ⟨WX, hWX⟩ : ∃ X, X = wr := ⟨_, rfl⟩
          subst hWX
          go_upto_region 10 with fail
          go_cut [10, 11] (fun tr te wx => GotB WX (arrV []) 0 tr te wx)
          case first =>
            rename_i Jm Km hRJ hMet
            have keepS : Hid (∀ X, Below WX.heap.size WX X → X.cell? ⟨w8.heap.size, 4, none⟩ = some (.slice (some ⟨be, oe, none⟩) n b8) ∧ X.cell? ⟨be, oe + k * 5, none⟩ = some (.int .i64 4) ∧ X.cell? ⟨be, oe + k * 5 + 1, none⟩ = some (.int .i64 0) ∧ X.cell? ⟨be, oe + k * 5 + 2, none⟩ = some (.string x) ∧ X.cell? ⟨be, oe + k * 5 + 3, none⟩ = some (.slice Ae 0 ae) ∧ X.cell? ⟨be, oe + k * 5 + 4, none⟩ = some (.slice Ce 0 ce)) := Lib.hid fun X hX => ⟨(hX.cell (p := ⟨w8.heap.size, 4, none⟩) HVR.out.box.lt).trans x4, (hX.cell (p := ⟨be, oe + k * 5, none⟩) hbe).trans HCE.out.1, (hX.cell (p := ⟨be, oe + k * 5 + 1, none⟩) hbe).trans HCE.out.2.1, (hX.cell (p := ⟨be, oe + k * 5 + 2, none⟩) hbe).trans HCE.out.2.2.1, (hX.cell (p := ⟨be, oe + k * 5 + 3, none⟩) hbe).trans HCE.out.2.2.2.1, (hX.cell (p := ⟨be, oe + k * 5 + 4, none⟩) hbe).trans HCE.out.2.2.2.2⟩
            have HBIN : Hid (∀ z W, Sb WX W z → Calls Tryz.prog 63 #[.agg #[.int .i64 4, .int .i64 0, .string x, .slice Ae 0 ae, .slice Ce 0 ce], .agg #[.int .i64 4, .int .i64 0, .string t, .slice none 0 0, .slice none 0 0]] W (OpS WX z (arrV []) 0)) := Lib.hid fun z W h => opS_of h (HFI.out (by omega) x HX.out [.int .i64 4, .int .i64 0, .string x, .slice Ae 0 ae, .slice Ce 0 ce] W (below_lies h.below HLE.out))
            have st0 := Sb.start WX
            obtain ⟨x4, e0, e1, e2, e3, e4⟩ := keepS.out _ (Below.refl _ _)
            go_region_held3 (fun w' => w'.cell? ⟨w8.heap.size, 4, none⟩ = some (.slice (some ⟨be, oe, none⟩) n b8) ∧ w'.cell? ⟨be, oe + k * 5, none⟩ = some (.int .i64 4) ∧ w'.cell? ⟨be, oe + k * 5 + 1, none⟩ = some (.int .i64 0) ∧ w'.cell? ⟨be, oe + k * 5 + 2, none⟩ = some (.string x) ∧ w'.cell? ⟨be, oe + k * 5 + 3, none⟩ = some (.slice Ae 0 ae) ∧ w'.cell? ⟨be, oe + k * 5 + 4, none⟩ = some (.slice Ce 0 ce))
              (first
                | with_reducible exact keepS.out _ (Sb.drew st0).below
                | with_reducible exact keepS.out _ (Sb.drew (Sb.zbox st0)).below
                | with_reducible exact keepS.out _ st5.below
                | with_reducible exact keepS.out _ (Sb.drew st5).below
                | with_reducible exact keepS.out _ (Sb.zbox st5).below
                | with_reducible exact keepS.out _ (Sb.zbox (Sb.drew st5)).below
                | with_reducible exact keepS.out _ st6.below
                | (refine keepS.out _ ?_; with_reducible exact below_five_m hp6 st6.below _ _ _ _ _)
                | with_reducible exact keepS.out _ (chain st6.below (below1 _ _)))
              (first
                | (go_at_call 65; (with_reducible refine (hst.out _ _).mono ?_); rintro e5 w5 ⟨rfl, hb5⟩; (first | (have st5 : Sb WX w5 none := by with_reducible exact Sb.call hb5 (Sb.drew st0)) | (have st5 : Sb WX w5 (some WX.heap.size) := by with_reducible exact Sb.call hb5 (Sb.drew (Sb.zbox st0)))))
                | (go_at_call 63; (with_reducible refine (HBIN.out _ _ st5).mono ?_); rintro e6 w7 ⟨k6, n6, s6, A6, la6, a6, C6, lc6, c6, rfl, st6, hl6⟩; (first | (obtain ⟨hp6, zz⟩ := st6.box _ rfl; obtain ⟨y0, y1, y2, y3, y4⟩ := box5 zz; have z0 := zz.free 0; have z1 := zz.free 1; have z2 := zz.free 2; have z3 := zz.free 3; have z4 := zz.free 4) | skip))
                | (go_at_call 63; (with_reducible refine (HBIN.out _ _ (Sb.zbox st5)).mono ?_); rintro e6 w7 ⟨k6, n6, s6, A6, la6, a6, C6, lc6, c6, rfl, st6, hl6⟩; (first | (obtain ⟨hp6, zz⟩ := st6.box _ rfl; obtain ⟨y0, y1, y2, y3, y4⟩ := box5 zz; have z0 := zz.free 0; have z1 := zz.free 1; have z2 := zz.free 2; have z3 := zz.free 3; have z4 := zz.free 4) | skip)))
            all_goals
              refine hMet _ _ (Met.intro (hRJ _ _ ?_))
              (repeat apply Exists.intro)
              refine ⟨?_, rfl⟩
              first
                | exact gotB_fill st6 hl6
                | exact gotB_last st6 hl6
          case rest =>
            obtain ⟨hbx, rfl, g2, k7, n7, s7, A7, la7, a7, C7, lc7, c7, rfl, hvx⟩ := hcut
            obtain ⟨A12, a12, C12, c12, hcs2⟩ := vx_arr0 hvx
            rw [hcs2] at hvx
            obtain ⟨p0, p1, p2, p3, p4⟩ := box5 hvx.box
            have HBN := Lib.hid (chain HBR.out hbx)
            clear hbx hvx hcs2
            go_wp2_with fail
            go_roundw
            case rel => exact ⟨k + 1, by omega, by first | rfl | go_num, HBN⟩
            case measure => (simp [intOf] <;> omega)
      · have q1 : ¬ ((k : Int) < (n : Int)) := by omega
        go_wp2_with fail
        refine (haw.out _).mono ?_
        rintro e9 w9 ⟨rfl, hb9⟩
        go_wp2_with fail
        go_ret
        exact ⟨rfl, chain HB1x.out (chain HBR.out hb9)⟩
end Go.Proofs.YtjafmdngbphacaaGreatDoor

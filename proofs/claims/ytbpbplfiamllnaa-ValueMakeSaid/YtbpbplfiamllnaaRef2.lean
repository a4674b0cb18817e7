/- The reference's Nodes, Truthy, TypeName, Depth. -/
import Derived.Test.YtbpbplfiamllnaaRef1
set_option linter.unusedVariables false
set_option linter.unusedSimpArgs false
namespace Go.Proofs.Ytbpbplfiamllnaa
open Go.RowKit
set_option maxHeartbeats 1000000 in
set_option maxRecDepth 100000 in
theorem rnodes_any (v : V) (cs : List Value) (w : World) (h : Lies w (· < w.heap.size) v cs) :
    Calls Try.prog 17 #[.agg cs.toArray] w fun e w' => e = .returned (.int .i64 (nodesR v)) ∧ Below w.heap.size w w' := by
  have q1 := Lib.hid (fun W (hW : Below w.heap.size w W) => rm_any v 0 cs W (below_lies hW h) (by omega) (by omega))
  have q2 := Lib.hid (fun W (hW : Below w.heap.size w W) => rvalid_any v cs W (below_lies hW h))
  have hvn : validR v = true → rmP v 0 ≠ none := fun h1 h2 => by simp [validR, h2] at h1
  obtain ⟨k, n, s, ks, es⟩ := v
  obtain ⟨A, a, B, b, xs, rfl, _⟩ := lies_open h
  clear h
  show Calls _ _ #[.agg #[.int .i64 k, .int .i64 n, .string s, .slice A ks.length a, .slice B es.length b]] w _
  unfold nodesR
  generalize validR (.mk k n s ks es) = x at q2 hvn ⊢
  generalize rmP (.mk k n s ks es) 0 = o at q1 hvn ⊢
  cases x with
  | false =>
    clear hvn
    go_enter Try.func17, Try.ntmps17
    go_wp2_with fail
    refine (q2.out _ (below1 _ _)).mono ?_
    rintro e1 w1 ⟨rfl, hb1⟩
    go_wp2_with fail
    go_ret
    exact ⟨rfl, chain (below1 _ _) hb1⟩
  | true =>
    rcases o with _ | ⟨m, c⟩
    · exact absurd rfl (hvn rfl)
    · clear hvn
      simp only [rmV] at q1
      go_enter Try.func17, Try.ntmps17
      go_wp2_with fail
      refine (q2.out _ (below1 _ _)).mono ?_
      rintro e1 w1 ⟨rfl, hb1⟩
      have hB1 := Lib.hid (one_step (Below.refl _ _) hb1)
      have m0 := box_cell hB1.out 0 _ rfl
      have m1 := box_cell hB1.out 1 _ rfl
      have m2 := box_cell hB1.out 2 _ rfl
      have m3 := box_cell hB1.out 3 _ rfl
      have m4 := box_cell hB1.out 4 _ rfl
      go_wp2_with fail
      refine (q1.out _ (below_one hB1.out)).mono ?_
      rintro e2 w2 ⟨rfl, hb2⟩
      go_wp2_with fail
      go_ret
      exact ⟨rfl, chain (below_one hB1.out) hb2⟩
def truthR (v : V) : Bool := match v with | .mk k _ _ _ _ => validR v && decide (1 < k)
set_option maxHeartbeats 1000000 in
set_option maxRecDepth 100000 in
theorem rtruthy_any (v : V) (cs : List Value) (w : World) (h : Lies w (· < w.heap.size) v cs) :
    Calls Try.prog 19 #[.agg cs.toArray] w fun e w' => e = .returned (.bool (truthR v)) ∧ Below w.heap.size w w' := by
  have q2 := Lib.hid (fun W (hW : Below w.heap.size w W) => rvalid_any v cs W (below_lies hW h))
  obtain ⟨k, n, s, ks, es⟩ := v
  obtain ⟨A, a, B, b, xs, rfl, _⟩ := lies_open h
  clear h
  show Calls _ _ #[.agg #[.int .i64 k, .int .i64 n, .string s, .slice A ks.length a, .slice B es.length b]] w _
  have hv : Hid (truthR (.mk k n s ks es) = (validR (.mk k n s ks es) && decide (1 < k))) := Lib.hid rfl
  rw [hv.out]
  clear hv
  generalize validR (.mk k n s ks es) = x at q2 ⊢
  cases x with
  | false =>
    go_enter Try.func19, Try.ntmps19
    go_wp2_with fail
    refine (q2.out _ (below1 _ _)).mono ?_
    rintro e1 w1 ⟨rfl, hb1⟩
    go_wp2_with fail
    go_ret
    exact ⟨rfl, chain (below1 _ _) hb1⟩
  | true =>
    go_enter Try.func19, Try.ntmps19
    go_wp2_with fail
    refine (q2.out _ (below1 _ _)).mono ?_
    rintro e1 w1 ⟨rfl, hb1⟩
    have hB1 := Lib.hid (one_step (Below.refl _ _) hb1)
    have m0 := box_cell hB1.out 0 _ rfl
    go_wp2_with fail
    go_ret
    exact ⟨ret_bool (by rw [Bool.true_and]), below_one hB1.out⟩
mutual
/-- The reference's depth. -/
def rdep : V → Int
  | .mk k n s ks es => if validR (.mk k n s ks es) = true then (if k < 5 then 0 else rdepL es 0 + 1) else 0
def rdepL : List V → Int → Int
  | [], d => d
  | e :: es, d => rdepL es (max d (rdep e))
end
theorem rdep_bd : ∀ v : V, 0 ≤ rdep v ∧ rdep v ≤ v.sz := by
  refine V.ind fun k n s ks es ih => ?_
  have key : ∀ fs : List V, (∀ e ∈ fs, 0 ≤ rdep e ∧ rdep e ≤ e.sz) → ∀ d : Int, 0 ≤ d → 0 ≤ rdepL fs d ∧ rdepL fs d ≤ d + V.szL fs := by
    intro fs
    induction fs with
    | nil => intro _ d hd; rw [rdepL, V.szL]; omega
    | cons e fs ihf =>
      intro hin d hd
      have h1 := hin e (by simp)
      have h2 := ihf (fun x hx => hin x (by simp [hx])) (max d (rdep e)) (by omega)
      rw [rdepL, V.szL]
      omega
  rw [rdep, V.sz]
  have := key es ih 0 (by omega)
  (repeat' split) <;> omega
theorem rdepL_bd (es : List V) (d : Int) (h : 0 ≤ d) : 0 ≤ rdepL es d ∧ rdepL es d ≤ d + V.szL es := by
  induction es generalizing d with
  | nil => rw [rdepL, V.szL]; omega
  | cons e fs ihf =>
    have h1 := rdep_bd e
    have h2 := ihf (max d (rdep e)) (by omega)
    rw [rdepL, V.szL]
    omega
/-- The reference counts the nodes. -/
theorem rmP_sz : ∀ v : V, ∀ lv m b : Int, rmP v lv = some (m, b) → m = v.sz := by
  refine V.ind fun k n s ks es ih lv m b h => ?_
  rw [rmP] at h
  split at h
  · cases h
  · split at h
    · cases h
    · split at h
      · cases h
      · rename_i b2 hk
        have key : ∀ fs : List V, (∀ e ∈ fs, e ∈ es) → ∀ m0 b0 : Int, rmL fs lv m0 b0 = some (m, b) → m = m0 + V.szL fs := by
          intro fs
          induction fs with
          | nil => intro _ m0 b0 h; simp [rmL] at h; rw [V.szL]; omega
          | cons e fs ihf =>
            intro hin m0 b0 h
            rw [rmL] at h
            split at h
            · cases h
            · rename_i m' b' he
              have h2 := ih e (hin e (by simp)) (lv + 1) m' b' he
              split at h
              · cases h
              · have h3 := ihf (fun x hx => hin x (by simp [hx])) _ _ h
                rw [V.szL]
                omega
        have := key es (fun _ h => h) 1 b2 h
        rw [V.sz]
        omega
theorem validR_sz {v : V} (h : validR v = true) : v.sz ≤ 4096 := by
  unfold validR at h
  split at h
  · cases h
  · rename_i m b hm
    have := rmP_sz v 0 m b hm
    simp at h
    omega
def DepOk (v : V) : Prop := ∀ (cs : List Value) (w : World), Lies w (· < w.heap.size) v cs →
  Calls Try.prog 15 #[.agg cs.toArray] w fun e w' => e = .returned (.int .i64 (rdep v)) ∧ Below w.heap.size w w'
theorem rdepL_step {es : List V} {i : Nat} {e : V} (he : es[i]? = some e) (d : Int) : rdepL (es.drop i) d = rdepL (es.drop (i + 1)) (max d (rdep e)) := by
  obtain ⟨hl, rfl⟩ := List.getElem?_eq_some_iff.1 he
  rw [List.drop_eq_getElem_cons hl, rdepL]
set_option maxHeartbeats 2000000 in
set_option maxRecDepth 100000 in
theorem rdepth_any : ∀ v : V, DepOk v := by
  refine V.ind fun k n s ks es ih cs w h => ?_
  have q2 := Lib.hid (fun W (hW : Below w.heap.size w W) => rvalid_any (.mk k n s ks es) cs W (below_lies hW h))
  have hsz : validR (.mk k n s ks es) = true → V.szL es ≤ 4096 := fun h1 => by have := validR_sz h1; rw [V.sz] at this; omega
  have hf := lies_fit _ _ h
  rw [V.Fit] at hf
  obtain ⟨_, _, h3, h4, _⟩ := hf
  obtain ⟨A, a, B, b, xs, rfl, _, _, _, _, _, hB, hL⟩ := lies_open h
  have HB := Lib.hid hB
  have HL := Lib.hid hL
  have IH := Lib.hid ih
  clear h hB hL ih
  show Calls _ _ #[.agg #[.int .i64 k, .int .i64 n, .string s, .slice A ks.length a, .slice B es.length b]] w _
  rw [rdep]
  generalize validR (.mk k n s ks es) = x at q2 hsz ⊢
  cases x with
  | false =>
    clear hsz
    go_enter Try.func15, Try.ntmps15
    go_wp2_with fail
    refine (q2.out _ (below1 _ _)).mono ?_
    rintro e1 w1 ⟨rfl, hb1⟩
    go_wp2_with fail
    go_ret
    exact ⟨rfl, chain (below1 _ _) hb1⟩
  | true =>
    have hsz2 := hsz rfl
    clear hsz
    by_cases hk : k < 5
    · have hr : Hid ((if true = true then (if k < 5 then 0 else rdepL es 0 + 1) else 0) = 0) := Lib.hid (by rw [if_pos rfl, if_pos hk])
      rw [hr.out]
      go_enter Try.func15, Try.ntmps15
      go_wp2_with fail
      refine (q2.out _ (below1 _ _)).mono ?_
      rintro e1 w1 ⟨rfl, hb1⟩
      have hB1 := Lib.hid (one_step (Below.refl _ _) hb1)
      have m0 := box_cell hB1.out 0 _ rfl
      go_wp2_with fail
      go_ret
      exact ⟨rfl, below_one hB1.out⟩
    · have hr : Hid ((if true = true then (if k < 5 then 0 else rdepL es 0 + 1) else 0) = rdepL es 0 + 1) := Lib.hid (by rw [if_pos rfl, if_neg hk])
      rw [hr.out]
      clear hr
      have hbd := rdepL_bd es 0 (by omega)
      generalize hq : rdepL es 0 = r at hbd ⊢
      have HR := Lib.hid hq
      clear hq
      go_enter Try.func15, Try.ntmps15
      go_wp2_with fail
      refine (q2.out _ (below1 _ _)).mono ?_
      rintro e1 w1 ⟨rfl, hb1⟩
      have hB1 := Lib.hid (one_step (Below.refl _ _) hb1)
      have m0 := box_cell hB1.out 0 _ rfl
      have m4 := box_cell hB1.out 4 _ rfl
      go_wp2_with fail
      go_loopw [3, 4] (fun c t wr => ∃ (i : Nat) (d : Int), i ≤ es.length ∧ t = .int .i64 i ∧ c = .int .i64 d ∧ 0 ≤ d ∧ d ≤ 1000000000 ∧ rdepL (es.drop i) d = r ∧ Below (w.heap.size + 1) (w.alloc (.cells #[.int .i64 k, .int .i64 n, .string s, .slice A ks.length a, .slice B es.length b] 25)) wr) (fun _ t _ => es.length - (intOf t).toNat)
      case atStart => exact ⟨0, 0, Nat.zero_le _, rfl, rfl, by omega, by omega, HR.out, hB1.out⟩
      case round =>
        clear m0 m4
        obtain ⟨i, d, hi, rfl, rfl, d0, d1, hr0, hbel0⟩ := hrel
        have HD := Lib.hid hr0
        have HBL := Lib.hid hbel0
        have m4 := box_cell hbel0 4 _ rfl
        clear hr0 hbel0
        by_cases hlt : i < es.length
        · obtain ⟨e, he⟩ : ∃ e, es[i]? = some e := ⟨_, List.getElem?_eq_getElem hlt⟩
          have hin := List.mem_of_getElem? he
          have hse := szL_mem hin
          have hst := Lib.hid ((rdepL_step he d).symm.trans HD.out)
          have hde := rdep_bd e
          have hIH := IH.out e hin
          obtain ⟨ek, en, es', eks, ees⟩ := e
          obtain ⟨bq, oq, eA, ea, eC, ec, rfl, hbq, hle, c0, c1, c2, c3, c4⟩ := elem_open HB.out HL.out he
          have d0 := old_cell HBL.out hbq c0
          have d1' := old_cell HBL.out hbq c1
          have d2 := old_cell HBL.out hbq c2
          have d3 := old_cell HBL.out hbq c3
          have d4 := old_cell HBL.out hbq c4
          clear c0 c1 c2 c3 c4
          have hcall := Lib.hid (hIH [.int .i64 ek, .int .i64 en, .string es', .slice eA eks.length ea, .slice eC ees.length ec] wr (old_lies HBL.out hle))
          clear hIH he hle hin
          generalize rdep (.mk ek en es' eks ees) = z at hst hde hcall
          generalize V.sz (.mk ek en es' eks ees) = zz at hse hde
          go_wp2_with fail
          refine hcall.out.mono ?_
          rintro e3 w3 ⟨rfl, hb3⟩
          go_wp2_with fail
          go_roundw
          case rel => exact ⟨i + 1, max d z, by omega, by go_num, rfl, by omega, by omega, hst.out, one_step HBL.out hb3⟩
          case measure => simp [intOf]; omega
        · have hend : Hid (d = r) := Lib.hid (by rw [← HD.out, List.drop_eq_nil_of_le (by omega), rdepL])
          go_wp2_with fail
          go_ret
          exact ⟨ret_int (by rw [hend.out]), below_one HBL.out⟩
end Go.Proofs.Ytbpbplfiamllnaa

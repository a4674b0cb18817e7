/- table.groups at two valid arrays of one length. -/
import Derived.Test.YtnokmlclephjgaaRMake
import Derived.Test.YtnokmlclephjgaaTA
import Derived.Test.YtnokmlclephjgaaIxL
import Derived.Test.YtnokmlclephjgaaCmp2
import Derived.Deep.LoopGhost
import Derived.Deep.RegionHeld3
import Derived.Deep.DeepCutAuto
import Derived.Deep.AppendLies
import Derived.BigQuiet
import Derived.BigRegion
set_option linter.unusedVariables false
set_option linter.unusedSimpArgs false
namespace Go.Proofs.Ytnokmlclephjgaa
open Go.RowKit
theorem five_of {w : World} {S : Nat → Prop} {b o a : Nat} {xs : List Value} {v0 v1 v2 v3 v4 : Value} (hR : Rs w S (some ⟨b, o, none⟩) xs) (hl : a * 5 + 5 ≤ xs.length) (x0 : w.cell? ⟨b, o + a * 5, none⟩ = some v0) (x1 : w.cell? ⟨b, o + a * 5 + 1, none⟩ = some v1) (x2 : w.cell? ⟨b, o + a * 5 + 2, none⟩ = some v2) (x3 : w.cell? ⟨b, o + a * 5 + 3, none⟩ = some v3) (x4 : w.cell? ⟨b, o + a * 5 + 4, none⟩ = some v4) :
    fiveC xs a = [v0, v1, v2, v3, v4] := by
  have get : ∀ j v, j < 5 → w.cell? ⟨b, o + a * 5 + j, none⟩ = some v → xs[a * 5 + j]? = some v := fun j v hj hc => by
    have hu := List.getElem?_eq_getElem (show a * 5 + j < xs.length by omega)
    obtain ⟨b', o', e, _, h'⟩ := hR _ _ hu
    injection e with e
    injection e with e1 e2
    subst e1 e2
    rw [← Nat.add_assoc, hc] at h'
    rw [hu]
    exact h'.symm
  have g0 := get 0 v0 (by omega) x0
  have g1 := get 1 v1 (by omega) x1
  have g2 := get 2 v2 (by omega) x2
  have g3 := get 3 v3 (by omega) x3
  have g4 := get 4 v4 (by omega) x4
  unfold fiveC
  apply List.ext_getElem?
  intro i
  by_cases hi : i < 5
  · rw [List.getElem?_take_of_lt hi, List.getElem?_drop]
    rcases (by omega : i = 0 ∨ i = 1 ∨ i = 2 ∨ i = 3 ∨ i = 4) with rfl | rfl | rfl | rfl | rfl
    · exact g0
    · exact g1
    · exact g2
    · exact g3
    · exact g4
  · rw [List.getElem?_eq_none (by simp; omega), List.getElem?_eq_none (by simp; omega)]
theorem own_tail {w : World} {base g n c : Nat} {e : TypeId} {ys : List Value} {z0 z1 z2 z3 z4 : Value} (h : w.ownsRow base e 5 (.slice (some ⟨g, 0, none⟩) (n + 1) c) (n + 1) (ys ++ [z0, z1, z2, z3, z4])) (hy : ys.length = n * 5) :
    w.cell? ⟨g, n * 5, none⟩ = some z0 ∧ w.cell? ⟨g, n * 5 + 1, none⟩ = some z1 ∧ w.cell? ⟨g, n * 5 + 2, none⟩ = some z2 ∧ w.cell? ⟨g, n * 5 + 3, none⟩ = some z3 ∧ w.cell? ⟨g, n * 5 + 4, none⟩ = some z4 := by
  refine ⟨?_, ?_, ?_, ?_, ?_⟩ <;> rw [h.cellAt _ (by omega), List.getElem?_append_right (by omega)] <;> simp [hy]
/-- The two parameters' boxes. -/
structure GsB (w W : World) (cs ds : Array Value) : Prop where
  below : Below w.heap.size w W
  b1 : Box W w.heap.size 27 cs
  b2 : Box W (w.heap.size + 1) 27 ds
theorem GsB.start (w : World) (cs ds : Array Value) : GsB w ((w.alloc (.cells cs 27)).alloc (.cells ds 27)) cs ds :=
  ⟨below2 _ _ _, (Box.laid w 27 cs).alloc _, by
    have h1 := Box.laid (w.alloc (.cells cs 27)) 27 ds
    have e : (w.alloc (.cells cs 27)).heap.size = w.heap.size + 1 := by simp
    rw [e] at h1
    exact h1⟩
theorem GsB.step {w W W' : World} {cs ds : Array Value} (h : GsB w W cs ds) (hb : Below W.heap.size W W') : GsB w W' cs ds :=
  ⟨h.below.trans (hb.mono h.below.size), h.b1.below hb h.b1.lt, h.b2.below hb h.b2.lt⟩
theorem GsSt.on {te tr : TypeId} {W1 : World} {K : List V} {ord : List Nat} {xs : List Value} {V : Value} {i : Nat} {wr wx : World} (h : GsSt te tr W1 K ord xs V i wr) (hb : Below wr.heap.size wr wx) : GsSt te tr W1 K ord xs V i wx := by
  obtain ⟨gs, hg, hl⟩ := h.rows
  exact ⟨h.below.trans (hb.mono h.below.size), gs, hg.below hb, hl⟩
theorem GsMid.on {te tr : TypeId} {W1 : World} {K : List V} {ord : List Nat} {xs : List Value} {a : Nat} {V : Value} {i : Nat} {wr wx : World} (h : GsMid te tr W1 K ord xs a V i wr) (hb : Below wr.heap.size wr wx) : GsMid te tr W1 K ord xs a V i wx := by
  obtain ⟨gs, x, hg, hl⟩ := h.rows
  exact ⟨h.below.trans (hb.mono h.below.size), gs, x, hg.below hb, hl⟩
theorem inf_row : (Try.prog.info? 24).map (fun i => (i.zero, i.size, i.bytes)) = some (some (.slice none 0 0), 1, 24) := by kernel_rfl
def GrpPost (es K : List V) (w : World) (e : Ending) (w' : World) : Prop :=
  Below w.heap.size w w' ∧ ∃ V gs xs, e = .returned (.tuple #[V, .int .i64 0]) ∧ Grp w' w.heap.size 27 24 V gs ∧ LiesL w (· < w.heap.size) es xs ∧ Like xs gs (grpF K (Ix.ordL K) K.length)
set_option maxHeartbeats 4000000 in
set_option maxRecDepth 100000 in
theorem groups_any {nv nk : Int} {sv sk : ByteArray} {kv1 kk1 : List ByteArray} {es K : List V} {cs ds : List Value} {w : World} (h1 : Lies w (· < w.heap.size) (.mk 5 nv sv kv1 es) cs) (h2 : Lies w (· < w.heap.size) (.mk 5 nk sk kk1 K) ds)
    (hv : valid (.mk 5 nv sv kv1 es) = true) (hk : valid (.mk 5 nk sk kk1 K) = true) (hKV : K.all valid = true) (hn : es.length = K.length) (hlen : K.length ≤ 1000000) :
    Calls Try.prog 15 #[.agg cs.toArray, .agg ds.toArray] w (GrpPost es K w) := by
  obtain ⟨i0, hi, hz0, hz1, hz2⟩ := info_parts inf_value
  obtain ⟨i1, hi1, hy0, hy1, hy2⟩ := info_parts inf_row
  have HV1 := Lib.hid (fun W (hW : Below w.heap.size w W) => valid_any _ cs W (below_lies hW h1))
  have HV2 := Lib.hid (fun W (hW : Below w.heap.size w W) => valid_any _ ds W (below_lies hW h2))
  rw [hv] at HV1
  rw [hk] at HV2
  obtain ⟨A, a0, B, b0, xs, rfl, -, hB0, -, -, -, hrB, hlB⟩ := lies_open h1
  obtain ⟨C, c0, D, d0, ys, rfl, -, hD0, -, -, -, hrD, hlD⟩ := lies_open h2
  have HRB := Lib.hid hrB
  have HLB := Lib.hid hlB
  have HRD := Lib.hid hrD
  have HLD := Lib.hid hlD
  have HAS := Lib.hid (fun (W : World) (hW : Below w.heap.size w W) => Ix.ascending_all (c := d0) K (hrD.move (S' := fun b => b < w.heap.size) fun b hb => ⟨hb, hW.block b hb⟩) (hlD.move (S' := fun b => b < w.heap.size) fun b hb => ⟨hb, hW.block b hb⟩) (fun b hb => Nat.lt_of_lt_of_le hb hW.size) hKV hlen)
  have HOL := Lib.hid (fun (i : Nat) (h : i < K.length) => (⟨(Ix.ordL K)[i]'(by rw [Ix.ordL_len]; exact h), List.getElem?_eq_getElem _, Ix.ordL_lt K _ (List.getElem_mem _)⟩ : ∃ a, (Ix.ordL K)[i]? = some a ∧ a < K.length))
  have HKE := Lib.hid (fun (a : Nat) (h : a < K.length) => (⟨K[a], List.getElem?_eq_getElem h⟩ : ∃ x, K[a]? = some x))
  have HEE := Lib.hid (fun (a : Nat) (h : a < K.length) => (⟨es[a]'(by rw [hn]; exact h), List.getElem?_eq_getElem _⟩ : ∃ x, es[a]? = some x))
  clear hrB hlB hrD hlD h1 h2 hv hk hKV
  unfold GrpPost
  unfold Ix.AscPost at HAS
  generalize Ix.ordL K = ord at *
  generalize es.length = ne at *
  subst hn
  have HST := Lib.hid (GsB.start w #[.int .i64 5, .int .i64 nv, .string sv, .slice A kv1.length a0, .slice B K.length b0] #[.int .i64 5, .int .i64 nk, .string sk, .slice C kk1.length c0, .slice D K.length d0])
  show Calls _ _ #[.agg #[.int .i64 5, .int .i64 nv, .string sv, .slice A kv1.length a0, .slice B K.length b0], .agg #[.int .i64 5, .int .i64 nk, .string sk, .slice C kk1.length c0, .slice D K.length d0]] w _
  generalize hN : K.length = n at *
  go_enter Try.func15, Try.ntmps15
  go_wp2_with fail
  refine (HV1.out _ (below2 _ _ _)).mono ?_
  rintro e1 w1 ⟨rfl, hb1⟩
  have H1 := Lib.hid (HST.out.step hb1)
  clear hb1 HST
  obtain ⟨t0, t1, t2, t3, t4⟩ := box5 H1.out.b2
  go_wp2_with fail
  refine (HV2.out _ H1.out.below).mono ?_
  rintro e2 w2 ⟨rfl, hb2⟩
  have H2 := Lib.hid (H1.out.step hb2)
  clear hb2 H1 t0 t1 t2 t3 t4
  obtain ⟨t0, t1, t2, t3, t4⟩ := box5 H2.out.b2
  obtain ⟨u0, u1, u2, u3, u4⟩ := box5 H2.out.b1
  go_wp2_with fail
  refine (HAS.out _ H2.out.below).mono ?_
  rintro e3 w3 ⟨hb3, A3, rfl, hrs3⟩
  have H3 := Lib.hid (H2.out.step hb3)
  have HR3 := Lib.hid hrs3
  clear hb3 H2 t0 t1 t2 t3 t4 u0 u1 u2 u3 u4 hrs3
  have HS0 : Hid (GsSt 27 24 w3 K ord xs (.slice none 0 0) 0 w3) := Lib.hid ⟨Below.refl _ _, [], Grp.start _ _ _ _, Like.nil _⟩
  go_wp2_with fail
  go_loopg [6, 8, 9, 41] n (fun gg s6 s8 s9 s41 wr => ∃ i : Nat, s41 = .int .i64 i ∧ i ≤ n ∧ n - i ≤ gg ∧ Hid (GsSt 27 24 w3 K ord xs s6 i wr))
  case atStart => exact ⟨0, rfl, Nat.zero_le _, by omega, HS0⟩
  case round =>
    clear HS0
    obtain ⟨i, rfl, hin, hg, HS⟩ := hrel
    by_cases hlt : i < n
    · have hi0 : (0 : Int) ≤ (i : Int) := by omega
      have hil : (i : Int) < (n : Int) := by omega
      obtain ⟨a, ha, han⟩ := HOL.out i hlt
      obtain ⟨bo, oo, rfl, hbo, hco⟩ := HR3.out.at_ (j := i) (u := .int .i64 (a : Int)) (by rw [List.getElem?_map, ha]; rfl)
      have qo := (HS.out.below.cell (p := ⟨bo, oo + i, none⟩) hbo.2).trans hco
      go_upto_region 12 with fail
      obtain ⟨q, hq⟩ : ∃ q : Bool, q = newB K ord i a := ⟨_, rfl⟩
      go_cut [65] (fun t wx => t = .bool q ∧ Hid (Below wr.heap.size wr wx))
      case first =>
        by_cases h0 : i = 0
        · have hz : (i : Int) = 0 := by omega
          unfold newB at hq
          rw [if_pos h0] at hq
          go_wp2_with fail
          go_quiet (fail)
          go_wp2_with fail
          go_meet
          exact ⟨by rw [hq], Lib.hid ⟨rfl, rfl, rfl, Nat.le_refl _, fun _ _ => rfl⟩⟩
        · unfold newB at hq
          rw [if_neg h0] at hq
          obtain ⟨m, hm⟩ : ∃ m, i = m + 1 := ⟨i - 1, by omega⟩
          have hz : ¬ (i : Int) = 0 := by omega
          have hd : ((i : Int) == 0) = false := beq_false_of_ne hz
          have hm1 : (i : Int) - 1 = (m : Int) := by omega
          obtain ⟨p, hp, hpn⟩ := HOL.out m (by omega)
          obtain ⟨bo', oo', e', hbo', hcp⟩ := HR3.out.at_ (j := m) (u := .int .i64 (p : Int)) (by rw [List.getElem?_map, hp]; rfl)
          cases e'
          obtain ⟨kp, hkp⟩ := HKE.out p hpn
          obtain ⟨ka, hka⟩ := HKE.out a han
          have hw3 : w.heap.size ≤ w3.heap.size := H3.out.below.size
          have hwr : w3.heap.size ≤ wr.heap.size := HS.out.below.size
          have HBW : Below w.heap.size w wr := H3.out.below.trans (HS.out.below.mono hw3)
          have hRr : Rs wr (· < w.heap.size) D ys := HRD.out.move fun b hb => ⟨hb, HBW.block b hb⟩
          have hLr : LiesL wr (· < w.heap.size) K ys := HLD.out.move fun b hb => ⟨hb, HBW.block b hb⟩
          obtain ⟨bD, oD, v0, v1, v2, v3, v4, rfl, hbD, hlx, x0, x1, x2, x3, x4⟩ := elem_cells hRr hLr hkp
          obtain ⟨bE, oE, y0, y1, y2, y3, y4, hBe, hbE, hly, z0, z1, z2, z3, z4⟩ := elem_cells hRr hLr hka
          cases hBe
          have qp := (HS.out.below.cell (p := ⟨bo, oo + m, none⟩) hbo'.2).trans hcp
          obtain ⟨t0, t1, t2, t3, t4⟩ := box5 (H3.out.b2.below HS.out.below H3.out.b2.lt)
          have hb2lt := H3.out.b2.lt
          have hbDr : bD < wr.heap.size := by omega
          have hbor : bo < wr.heap.size := by have := hbo'.2; omega
          have kc : Hid (∀ X, Below wr.heap.size wr X → ∀ (b o : Nat) (u : Value), b < wr.heap.size → wr.cell? ⟨b, o, none⟩ = some u → X.cell? ⟨b, o, none⟩ = some u) := Lib.hid fun X hX b o u hp h => (hX.cell (p := ⟨b, o, none⟩) hp).trans h
          have keepS : Hid (∀ X, Below wr.heap.size wr X → (fun w' => w'.cell? ⟨bD, oD + p * 5, none⟩ = some v0 ∧ w'.cell? ⟨bD, oD + p * 5 + 1, none⟩ = some v1 ∧ w'.cell? ⟨bD, oD + p * 5 + 2, none⟩ = some v2 ∧ w'.cell? ⟨bD, oD + p * 5 + 3, none⟩ = some v3 ∧ w'.cell? ⟨bD, oD + p * 5 + 4, none⟩ = some v4 ∧ w'.cell? ⟨bD, oD + a * 5, none⟩ = some y0 ∧ w'.cell? ⟨bD, oD + a * 5 + 1, none⟩ = some y1 ∧ w'.cell? ⟨bD, oD + a * 5 + 2, none⟩ = some y2 ∧ w'.cell? ⟨bD, oD + a * 5 + 3, none⟩ = some y3 ∧ w'.cell? ⟨bD, oD + a * 5 + 4, none⟩ = some y4 ∧ w'.cell? ⟨w.heap.size + 1, 4, none⟩ = some (.slice (some ⟨bD, oD, none⟩) n d0) ∧ w'.cell? ⟨bo, oo + m, none⟩ = some (.int .i64 (p : Int))) X) := Lib.hid fun X hX => by
            have k := kc.out X hX
            exact ⟨k _ _ _ hbDr x0, k _ _ _ hbDr x1, k _ _ _ hbDr x2, k _ _ _ hbDr x3, k _ _ _ hbDr x4, k _ _ _ hbDr z0, k _ _ _ hbDr z1, k _ _ _ hbDr z2, k _ _ _ hbDr z3, k _ _ _ hbDr z4, k _ _ _ (by omega) t4, k _ _ _ hbor qp⟩
          have HC : Hid (∀ X, Below wr.heap.size wr X → Calls Try.prog 31 #[.agg #[v0, v1, v2, v3, v4], .agg #[y0, y1, y2, y3, y4]] X fun e w' => e = .returned (.bool (eqV kp ka)) ∧ Below X.heap.size X w') := Lib.hid fun X hX =>
            equal_any kp ka [v0, v1, v2, v3, v4] [y0, y1, y2, y3, y4] X (hlx.move fun b hb => ⟨by have := hX.size; omega, hX.block b (by omega)⟩) (hly.move fun b hb => ⟨by have := hX.size; omega, hX.block b (by omega)⟩)
          have hkb : keyB K p a = eqV kp ka := by
            unfold keyB
            rw [hkp, hka]
          rw [show i - 1 = m by omega, hp] at hq
          simp only [hkb] at hq
          clear hm hkb hlx hly hRr hLr hp hkp hka hcp hbo' t0 t1 t2 t3
          generalize eqV kp ka = z at *
          have hp0 : (0 : Int) ≤ (p : Int) := by omega
          have hpl : (p : Int) < (n : Int) := by omega
          have ha0 : (0 : Int) ≤ (a : Int) := by omega
          have hal : (a : Int) < (n : Int) := by omega
          have hm0 : (0 : Int) ≤ (m : Int) := by omega
          have hml : (m : Int) < (n : Int) := by omega
          have hw2 : IntKind.i64.wrap ((i : Int) - 1) = (m : Int) := by rw [IntKind.wrap_i64]; omega
          have hw1 : IntKind.i64.wrap (m : Int) = (m : Int) := by rw [IntKind.wrap_i64]; omega
          go_wp2_with fail
          go_region_held3 (fun w' => w'.cell? ⟨bD, oD + p * 5, none⟩ = some v0 ∧ w'.cell? ⟨bD, oD + p * 5 + 1, none⟩ = some v1 ∧ w'.cell? ⟨bD, oD + p * 5 + 2, none⟩ = some v2 ∧ w'.cell? ⟨bD, oD + p * 5 + 3, none⟩ = some v3 ∧ w'.cell? ⟨bD, oD + p * 5 + 4, none⟩ = some v4 ∧ w'.cell? ⟨bD, oD + a * 5, none⟩ = some y0 ∧ w'.cell? ⟨bD, oD + a * 5 + 1, none⟩ = some y1 ∧ w'.cell? ⟨bD, oD + a * 5 + 2, none⟩ = some y2 ∧ w'.cell? ⟨bD, oD + a * 5 + 3, none⟩ = some y3 ∧ w'.cell? ⟨bD, oD + a * 5 + 4, none⟩ = some y4 ∧ w'.cell? ⟨w.heap.size + 1, 4, none⟩ = some (.slice (some ⟨bD, oD, none⟩) n d0) ∧ w'.cell? ⟨bo, oo + m, none⟩ = some (.int .i64 (p : Int))) (first | with_reducible exact keepS.out _ (Below.drew (Below.refl _ _)) | with_reducible exact keepS.out _ hb4) ((go_at_call 31; (with_reducible refine (HC.out _ (Below.drew (Below.refl _ _))).mono ?_); rintro e4 w4 ⟨rfl, hb4'⟩; have hb4 : Below wr.heap.size wr w4 := (Below.drew (Below.refl _ wr)).trans hb4'))
          all_goals
            go_wp2_with fail
            go_meet
            exact ⟨by rw [hq], Lib.hid hb4⟩
      case rest =>
        obtain ⟨rfl, HB⟩ := hcut
        have HSc := Lib.hid (HS.out.on HB.out)
        clear HS HB qo hco
        go_upto_if 65 with fail
        go_cut [6] (fun t6 wx => Hid (GsMid 27 24 w3 K ord xs a t6 i wx))
        case first =>
          cases q with
          | false =>
            have HQ := Lib.hid hq.symm
            clear hq
            go_wp2_with fail
            go_meet
            exact Lib.hid (GsSt.same' HSc.out ha HQ.out)
          | true =>
            have HQ := Lib.hid hq.symm
            clear hq
            obtain ⟨gs, hg1, hl1⟩ := HSc.out.rows
            have hlg : gs.length ≤ i := by
              rw [hl1.len]
              exact (grpF_sizes i).1
            have HG := Lib.hid hg1
            have HL := Lib.hid hl1
            have HO6 := Lib.hid (own_keepG hg1.out (below1 wc (.cells #[.slice none 0 0] 24)))
            have hsz := HSc.out.below.size
            clear hg1 hl1
            go_wp2_with (at_builtin; refine wpList_append_lies _ rfl (.tmp 66) (.tmp 67) 38 rfl w3.heap.size 24 i1 (.slice none 0 0) 1 24 Try.underlying38 hi1 hy0 hy1 hy2 rfl (by decide) _ gs.length (gs.map Gr.v) rfl HO6.out ⟨wc.heap.size, 0, none⟩ 1 1 [.slice none 0 0] rfl rfl (new_cellsV wc _ _) (by intro u hu; rw [List.mem_singleton.1 hu]; rfl) (by decide) (by unfold maxLen; omega) (by omega) (by simp; omega) (wc.heap.size + 1) (by simp) ?_; intro g cap w5 hown5 hgr5 hor5 hlt5)
            go_meet
            refine Lib.hid (GsSt.push ((HSc.out.below.alloc hsz _).grown hgr5 (by simp; omega) (fun b hb => (HG.out.out.lt b hb).1)) HG.out HL.out ha (newB_true HQ.out) hown5 (grown_one hgr5) (fun b hb => ?_))
            have hgb : g = b := by injection hb
            subst hgb
            rcases hor5 with h | h
            · exact .inl h
            · exact .inr (by omega)
        case rest =>
          have HM := hcut
          clear HSc hcut
          go_upto_region 14 with fail
          go_cut [70] (fun t wx => ∃ bb : Bool, t = .bool bb ∧ Hid (Below wc.heap.size wc wx))
          case first =>
            go_region
            all_goals
              go_wp2_with fail
              go_meet
              exact ⟨_, rfl, Lib.hid (Below.drew (below1 _ _))⟩
          case rest =>
            obtain ⟨bb, rfl, HB7⟩ := hcut
            have HM7 := Lib.hid (HM.out.on HB7.out)
            clear HM HB7
            obtain ⟨gs, x, hg1, ⟨hs1, hs2⟩, hl1⟩ := HM7.out.rows
            obtain ⟨g, c1, hV, hgb, hgw, hcell, hfrz⟩ := hg1.last
            subst hV
            have hxr := hg1.row x (by simp)
            obtain ⟨xv, xn, xxs⟩ := x
            simp only at hxr hcell hs2 hl1
            obtain ⟨A9, c9, rfl, hnil9, -, hlen9⟩ := own_head hxr
            have HX := Lib.hid hxr
            have HG := Lib.hid hg1
            have HL := Lib.hid hl1
            have HLN := Lib.hid hlen9
            have hoff : Hid (∀ b, (Value.slice A9 xn c9).ownBlock = some b → b ≠ g) := Lib.hid fun b hb e => hg1.off ⟨.slice A9 xn c9, xn, xxs⟩ (by simp) b hb (by rw [e]; rfl)
            have hw3 : w.heap.size ≤ w3.heap.size := H3.out.below.size
            have hwr : w3.heap.size ≤ wc.heap.size := HM7.out.below.size
            have HBW : Below w.heap.size w wc := H3.out.below.trans (HM7.out.below.mono hw3)
            have hRr : Rs wc (· < w.heap.size) B xs := HRB.out.move fun b hb => ⟨hb, HBW.block b hb⟩
            have hLr : LiesL wc (· < w.heap.size) es xs := HLB.out.move fun b hb => ⟨hb, HBW.block b hb⟩
            obtain ⟨ea, hea⟩ := HEE.out a han
            obtain ⟨ek, en, ess, eks, ees⟩ := ea
            obtain ⟨bB, oB, A1, a1, C1, cc1, rfl, hbB, hlx, x0, x1, x2, x3, x4⟩ := elem_open hRr hLr hea
            have hfive : Hid (fiveC xs a = [(Value.int .i64 ek), (Value.int .i64 en), (Value.string ess), (Value.slice A1 eks.length a1), (Value.slice C1 ees.length cc1)]) := Lib.hid (five_of hRr (by
              have h1 := hLr.len
              have h2 := (List.getElem?_eq_some_iff.1 hea).1
              omega) x0 x1 x2 x3 x4)
            have hone : Hid (∀ u ∈ [(Value.int .i64 ek), (Value.int .i64 en), (Value.string ess), (Value.slice A1 eks.length a1), (Value.slice C1 ees.length cc1)], u.oneCell' = true) := Lib.hid (five_one _ _ _ _ _ _ _ _ _)
            obtain ⟨t0, t1, t2, t3, t4⟩ := box5 (H3.out.b1.below HM7.out.below H3.out.b1.lt)
            clear t0 t1 t2 t3 hlx hxr hl1 hnil9 hlen9 hg1 hRr hLr
            have hlast : (gs.length : Int) + 1 - 1 = (gs.length : Int) := by omega
            have hHB := H3.out.b1.lt
            have hbBr : bB < wc.heap.size := by omega
            have keepS : Hid (∀ X, Below w3.heap.size wc X → (fun w' : World => w'.cell? ⟨w.heap.size, 4, none⟩ = some (.slice (some ⟨bB, oB, none⟩) n b0) ∧ w'.cell? ⟨bB, oB + a * 5, none⟩ = some (Value.int .i64 ek) ∧ w'.cell? ⟨bB, oB + a * 5 + 1, none⟩ = some (Value.int .i64 en) ∧ w'.cell? ⟨bB, oB + a * 5 + 2, none⟩ = some (Value.string ess) ∧ w'.cell? ⟨bB, oB + a * 5 + 3, none⟩ = some (Value.slice A1 eks.length a1) ∧ w'.cell? ⟨bB, oB + a * 5 + 4, none⟩ = some (Value.slice C1 ees.length cc1)) X) := Lib.hid fun X hX =>
              ⟨(hX.cell (p := ⟨w.heap.size, 4, none⟩) hHB).trans t4, (hX.cell (p := ⟨bB, oB + a * 5, none⟩) (by show bB < _; omega)).trans x0, (hX.cell (p := ⟨bB, oB + a * 5 + 1, none⟩) (by show bB < _; omega)).trans x1, (hX.cell (p := ⟨bB, oB + a * 5 + 2, none⟩) (by show bB < _; omega)).trans x2, (hX.cell (p := ⟨bB, oB + a * 5 + 3, none⟩) (by show bB < _; omega)).trans x3, (hX.cell (p := ⟨bB, oB + a * 5 + 4, none⟩) (by show bB < _; omega)).trans x4⟩
            have ha0 : (0 : Int) ≤ (a : Int) := by omega
            have hal : (a : Int) < (n : Int) := by omega
            have hl0 : (0 : Int) ≤ (gs.length : Int) := by omega
            have hl9 : (gs.length : Int) < (gs.length : Int) + 1 := by omega
            have hw1 : IntKind.i64.wrap (gs.length : Int) = (gs.length : Int) := by rw [IntKind.wrap_i64]; omega
            have hw2 : IntKind.i64.wrap ((gs.length : Int) + 1 - 1) = (gs.length : Int) := by rw [IntKind.wrap_i64]; omega
            have kZ : Hid (Below w3.heap.size wc ((wc.alloc (.cells #[.int .i64 0, .int .i64 0, .string ⟨#[]⟩, .slice none 0 0, .slice none 0 0] 27)).drew)) := Lib.hid (((Below.refl _ _).alloc hwr _).drew)
            have kA : Hid (Below w3.heap.size wc ((wc.alloc (.cells #[(Value.int .i64 ek), (Value.int .i64 en), (Value.string ess), (Value.slice A1 eks.length a1), (Value.slice C1 ees.length cc1)] 27)).drew)) := Lib.hid (((Below.refl _ _).alloc hwr _).drew)
            have cA : ∀ o, (wc.alloc o).cell? ⟨g, gs.length, none⟩ = some (.slice A9 xn c9) := fun o => (World.cell?_alloc_some wc _ o (by rw [hcell]; rfl)).trans hcell
            cases bb with
            | false =>
              go_upto_region 17 with fail
              refine wp_region_noPanic ?_
              refine wp_region_held_drew (S := fun w' : World => w'.cell? ⟨w.heap.size, 4, none⟩ = some (.slice (some ⟨bB, oB, none⟩) n b0) ∧ w'.cell? ⟨bB, oB + a * 5, none⟩ = some (Value.int .i64 ek) ∧ w'.cell? ⟨bB, oB + a * 5 + 1, none⟩ = some (Value.int .i64 en) ∧ w'.cell? ⟨bB, oB + a * 5 + 2, none⟩ = some (Value.string ess) ∧ w'.cell? ⟨bB, oB + a * 5 + 3, none⟩ = some (Value.slice A1 eks.length a1) ∧ w'.cell? ⟨bB, oB + a * 5 + 4, none⟩ = some (Value.slice C1 ees.length cc1)) (by kernel_rfl) (keepS.out _ (Below.drew (Below.refl _ _))) (fun hHeld => ?_)
              refine wpAnyH_take (i := 0) (v := ?_) rfl (by kernel_rfl) (by kernel_rfl) (by kernel_rfl) (fun _ _ _ h => h) (Or.inl ⟨by rfl, ?ytka0⟩) (by assumption) ?_
              case ytka0 => (intro w hSw; (try dsimp only at hSw); go_simp <;> with_reducible rfl)
              try simp only [Act.put, List.setIfInBounds_toArray, List.set_cons_zero, List.set_cons_succ]
              refine wpAnyH_take (i := 1) (v := ?_) rfl (by kernel_rfl) (by kernel_rfl) (by kernel_rfl) (fun _ _ _ h => h) (Or.inl ⟨by rfl, ?ytka1⟩) (by assumption) ?_
              case ytka1 => (intro w hSw; (try dsimp only at hSw); go_simp <;> with_reducible rfl)
              try simp only [Act.put, List.setIfInBounds_toArray, List.set_cons_zero, List.set_cons_succ]
              refine wpAnyH_take (i := 2) (v := ?_) rfl (by kernel_rfl) (by kernel_rfl) (by kernel_rfl) (fun _ _ _ h => h) (Or.inl ⟨by rfl, ?ytka2⟩) (by assumption) ?_
              case ytka2 => (intro w hSw; (try dsimp only at hSw); go_simp <;> with_reducible rfl)
              try simp only [Act.put, List.setIfInBounds_toArray, List.set_cons_zero, List.set_cons_succ]
              refine wpAnyH_take (i := 3) (v := ?_) rfl (by kernel_rfl) (by kernel_rfl) (by kernel_rfl) (fun _ _ _ h => h) (Or.inl ⟨by rfl, ?ytka3⟩) (by assumption) ?_
              case ytka3 => (intro w hSw; (try dsimp only at hSw); go_simp <;> with_reducible rfl)
              try simp only [Act.put, List.setIfInBounds_toArray, List.set_cons_zero, List.set_cons_succ]
              refine wpAnyH_take (i := 4) (v := ?_) rfl (by kernel_rfl) (by kernel_rfl) (by kernel_rfl) (fun _ _ _ h => h) (Or.inl ⟨by rfl, ?ytka4⟩) (by assumption) ?_
              case ytka4 => (intro w hSw; (try dsimp only at hSw); go_simp <;> with_reducible rfl)
              try simp only [Act.put, List.setIfInBounds_toArray, List.set_cons_zero, List.set_cons_succ]
              refine wpAnyH_take (i := 5) (v := ?_) rfl (by kernel_rfl) (by kernel_rfl) (by kernel_rfl) (fun _ _ _ h => h) (Or.inl ⟨by rfl, ?ytka5⟩) (by assumption) ?_
              case ytka5 => (intro w hSw; (try dsimp only at hSw); go_simp <;> with_reducible rfl)
              try simp only [Act.put, List.setIfInBounds_toArray, List.set_cons_zero, List.set_cons_succ]
              refine wpAnyH_take (i := 6) (v := ?_) rfl (by kernel_rfl) (by kernel_rfl) (by kernel_rfl) (fun _ _ _ h => h) (Or.inl ⟨by rfl, ?ytka6⟩) (by assumption) ?_
              case ytka6 => (intro w hSw; (try dsimp only at hSw); go_simp <;> with_reducible rfl)
              try simp only [Act.put, List.setIfInBounds_toArray, List.set_cons_zero, List.set_cons_succ]
              refine wpAnyH_take (i := 7) (v := ?_) rfl (by kernel_rfl) (by kernel_rfl) (by kernel_rfl) (fun _ _ _ h => h) (Or.inl ⟨by rfl, ?ytka7⟩) (by assumption) ?_
              case ytka7 => (intro w hSw; (try dsimp only at hSw); go_simp <;> with_reducible rfl)
              try simp only [Act.put, List.setIfInBounds_toArray, List.set_cons_zero, List.set_cons_succ]
              refine wpAnyH_take (i := 8) (v := ?_) rfl (by kernel_rfl) (by kernel_rfl) (by kernel_rfl) (fun _ _ _ h => h) (Or.inl ⟨by rfl, ?ytka8⟩) (by assumption) ?_
              case ytka8 => (intro w hSw; (try dsimp only at hSw); go_simp <;> with_reducible rfl)
              try simp only [Act.put, List.setIfInBounds_toArray, List.set_cons_zero, List.set_cons_succ]
              refine wpAnyH_take (i := 10) (v := ?_) rfl (by kernel_rfl) (by kernel_rfl) (by kernel_rfl) (fun _ _ _ h => h) (Or.inl ⟨by rfl, ?ytka9⟩) (by assumption) ?_
              case ytka9 => (intro w hSw; (try dsimp only at hSw); go_simp <;> with_reducible rfl)
              try simp only [Act.put, List.setIfInBounds_toArray, List.set_cons_zero, List.set_cons_succ]
              refine wpAnyH_take (i := 11) (v := ?_) rfl (by kernel_rfl) (by kernel_rfl) (by kernel_rfl) (fun _ _ _ h => h) (Or.inl ⟨by rfl, ?ytka10⟩) (by assumption) ?_
              case ytka10 => (intro w hSw; (try dsimp only at hSw); go_simp <;> with_reducible rfl)
              try simp only [Act.put, List.setIfInBounds_toArray, List.set_cons_zero, List.set_cons_succ]
              refine wpAnyH_take (i := 12) (v := ?_) rfl (by kernel_rfl) (by kernel_rfl) (by kernel_rfl) (fun _ _ _ h => h) (Or.inl ⟨by rfl, ?ytka11⟩) (by assumption) ?_
              case ytka11 => (intro w hSw; (try dsimp only at hSw); go_simp <;> with_reducible rfl)
              try simp only [Act.put, List.setIfInBounds_toArray, List.set_cons_zero, List.set_cons_succ]
              refine wpAnyH_take (i := 13) (v := ?_) rfl (by kernel_rfl) (by kernel_rfl) (by kernel_rfl) (fun _ _ _ h => h) (Or.inl ⟨by rfl, ?ytka12⟩) (by assumption) ?_
              case ytka12 => (intro w hSw; (try dsimp only at hSw); go_simp <;> with_reducible rfl)
              try simp only [Act.put, List.setIfInBounds_toArray, List.set_cons_zero, List.set_cons_succ]
              refine wpAnyH_take (i := 14) (v := ?_) rfl (by kernel_rfl) (by kernel_rfl) (by kernel_rfl) (fun _ _ _ h => h) (Or.inl ⟨by rfl, ?ytka13⟩) (by assumption) ?_
              case ytka13 => (intro w hSw; (try dsimp only at hSw); go_simp <;> with_reducible rfl)
              try simp only [Act.put, List.setIfInBounds_toArray, List.set_cons_zero, List.set_cons_succ]
              refine wpAnyH_ready (rs := [9, 15]) (by kernel_rfl) (by simp) ?_
              refine AllReadyH.cons rfl (fun Kc hK => ?_) (AllReadyH.cons rfl (fun Kc hK => ?_) (AllReadyH.nil))
              · skip
                go_simp
                refine hK.out _ _ (keepS.out _ (Below.drew (Below.refl _ _))) (fun hHeld => ?_)
                clear hK Kc
                try simp only [Act.put, List.setIfInBounds_toArray, List.set_cons_zero, List.set_cons_succ]
                refine wpAnyH_ready (rs := [15]) (by kernel_rfl) (by simp) ?_
                refine AllReadyH.cons rfl (fun Kc hK => ?_) (AllReadyH.nil)
                go_simp
                refine hK.out _ _ (keepS.out _ kA.out) (fun hHeld => ?_)
                clear hK Kc
                try simp only [Act.put, List.setIfInBounds_toArray, List.set_cons_zero, List.set_cons_succ]
                refine wpAnyH_ready (rs := [16]) (by kernel_rfl) (by simp) ?_
                refine AllReadyH.cons (o := { dst := some 107, op := Op.call { callee := Callee.builtin Builtin.append, args := #[Operand.tmp 100, Operand.tmp 106], argTypes := #[24, 24] }, type := 24, pos := "table.go:364", after := #[{ on := 9, ground := Ground.data }, { on := 15, ground := Ground.data }], guard := none }) rfl (fun Kc hK => ?_) (AllReadyH.nil)
                refine step_append_lies _ rfl (.tmp 100) (.tmp 106) 24 rfl w3.heap.size 27 i0 zeroVal 5 80 Try.underlying24 hi hz0 hz1 hz2 rfl (by decide) (.slice A9 xn c9) xn xxs rfl (own_keepG HX.out (Below.drew (below1 _ _))) ⟨wc.heap.size, 0, none⟩ 1 1 [(Value.int .i64 ek), (Value.int .i64 en), (Value.string ess), (Value.slice A1 eks.length a1), (Value.slice C1 ees.length cc1)] rfl rfl (fun j u h => new_cellsV wc [(Value.int .i64 ek), (Value.int .i64 en), (Value.string ess), (Value.slice A1 eks.length a1), (Value.slice C1 ees.length cc1)] 27 j u h) hone.out (by decide) (by unfold maxLen; omega) (by omega) (by simp; omega) (wc.heap.size + 1) (by simp) ?_
                intro g2 cap2 w5 hown5 hgr5 hor5 hlt5
                have hB5 : Below w3.heap.size wc w5 := kA.out.grown hgr5 (by simp; omega) (fun b hb => (HX.out.lt b hb).1)
                have hgW : wc.grownBy w5 (Value.slice A9 xn c9).ownBlock := grown_one (o := .cells #[(Value.int .i64 ek), (Value.int .i64 en), (Value.string ess), (Value.slice A1 eks.length a1), (Value.slice C1 ees.length cc1)] 27) ⟨hgr5.os, hgr5.tape, hgr5.output, hgr5.size, hgr5.block⟩
                have hne9 : some g ≠ (Value.slice A9 xn c9).ownBlock := fun e => hoff.out g e.symm rfl
                have q5 := (hgW.cell_far ⟨g, gs.length, none⟩ hgw hne9).trans hcell
                have f5 := (hgW.frozen_far ⟨g, gs.length, none⟩ hgw hne9).trans hfrz
                have hfar : FarG wc (.slice A9 xn c9) (.slice (some ⟨g2, 0, none⟩) (xn + 1) cap2) := fun b hb => by
                  have hb2 : g2 = b := by injection hb
                  subst hb2
                  rcases hor5 with h | h
                  · exact .inl h
                  · exact .inr (by omega)
                have hput := HG.out.put (x := ⟨.slice A9 xn c9, xn, xxs⟩) hown5 hgW hfar rfl
                have hst : Hid (GsSt 27 24 w3 K ord xs (.slice (some ⟨g, 0, none⟩) (gs.length + 1) c1) (i + 1) (w5.setCell ⟨g, gs.length, none⟩ (.slice (some ⟨g2, 0, none⟩) (xn + 1) cap2))) := Lib.hid ⟨(HM7.out.below.trans hB5).setCell hgb _, _, hput, HL.out _ _ _ rfl (by rw [hfive.out])⟩
                clear hput hfar hne9 hgW
                refine hK.out _ _ (keepS.out _ hB5) (fun hHeld => ?_)
                clear hK Kc
                try simp only [Act.put, List.setIfInBounds_toArray, List.set_cons_zero, List.set_cons_succ]
                refine wpAnyH_ready (rs := [17]) (by kernel_rfl) (by simp) ?_
                refine AllReadyH.cons rfl (fun Kc hK => ?_) (AllReadyH.nil)
                go_simp
                refine hK.out _ _ (keepS.out _ hB5) (fun hHeld => ?_)
                clear hK Kc
                try simp only [Act.put, List.setIfInBounds_toArray, List.set_cons_zero, List.set_cons_succ]
                refine wpAnyH_ready (rs := [18]) (by kernel_rfl) (by simp) ?_
                refine AllReadyH.cons rfl (fun Kc hK => ?_) (AllReadyH.nil)
                go_simp
                refine hK.out _ _ (keepS.out _ (hB5.setCell hgb _)) (fun hHeld => ?_)
                clear hK Kc
                try simp only [Act.put, List.setIfInBounds_toArray, List.set_cons_zero, List.set_cons_succ]
                refine wpAnyH_done (by kernel_rfl) ?_ _
                refine NoPanic.normal ?_
                clear hHeld
                go_wp2_with fail
                go_roundg (n - (i + 1))
                case measure => omega
                case rel => exact ⟨i + 1, by first | rfl | go_num, by omega, Nat.le_refl _, hst⟩
              · skip
                go_simp
                refine hK.out _ _ (keepS.out _ kA.out) (fun hHeld => ?_)
                clear hK Kc
                try simp only [Act.put, List.setIfInBounds_toArray, List.set_cons_zero, List.set_cons_succ]
                refine wpAnyH_ready (rs := [9]) (by kernel_rfl) (by simp) ?_
                refine AllReadyH.cons rfl (fun Kc hK => ?_) (AllReadyH.nil)
                go_simp
                refine hK.out _ _ (keepS.out _ kA.out) (fun hHeld => ?_)
                clear hK Kc
                try simp only [Act.put, List.setIfInBounds_toArray, List.set_cons_zero, List.set_cons_succ]
                refine wpAnyH_ready (rs := [16]) (by kernel_rfl) (by simp) ?_
                refine AllReadyH.cons (o := { dst := some 107, op := Op.call { callee := Callee.builtin Builtin.append, args := #[Operand.tmp 100, Operand.tmp 106], argTypes := #[24, 24] }, type := 24, pos := "table.go:364", after := #[{ on := 9, ground := Ground.data }, { on := 15, ground := Ground.data }], guard := none }) rfl (fun Kc hK => ?_) (AllReadyH.nil)
                refine step_append_lies _ rfl (.tmp 100) (.tmp 106) 24 rfl w3.heap.size 27 i0 zeroVal 5 80 Try.underlying24 hi hz0 hz1 hz2 rfl (by decide) (.slice A9 xn c9) xn xxs rfl (own_keepG HX.out (Below.drew (below1 _ _))) ⟨wc.heap.size, 0, none⟩ 1 1 [(Value.int .i64 ek), (Value.int .i64 en), (Value.string ess), (Value.slice A1 eks.length a1), (Value.slice C1 ees.length cc1)] rfl rfl (fun j u h => new_cellsV wc [(Value.int .i64 ek), (Value.int .i64 en), (Value.string ess), (Value.slice A1 eks.length a1), (Value.slice C1 ees.length cc1)] 27 j u h) hone.out (by decide) (by unfold maxLen; omega) (by omega) (by simp; omega) (wc.heap.size + 1) (by simp) ?_
                intro g2 cap2 w5 hown5 hgr5 hor5 hlt5
                have hB5 : Below w3.heap.size wc w5 := kA.out.grown hgr5 (by simp; omega) (fun b hb => (HX.out.lt b hb).1)
                have hgW : wc.grownBy w5 (Value.slice A9 xn c9).ownBlock := grown_one (o := .cells #[(Value.int .i64 ek), (Value.int .i64 en), (Value.string ess), (Value.slice A1 eks.length a1), (Value.slice C1 ees.length cc1)] 27) ⟨hgr5.os, hgr5.tape, hgr5.output, hgr5.size, hgr5.block⟩
                have hne9 : some g ≠ (Value.slice A9 xn c9).ownBlock := fun e => hoff.out g e.symm rfl
                have q5 := (hgW.cell_far ⟨g, gs.length, none⟩ hgw hne9).trans hcell
                have f5 := (hgW.frozen_far ⟨g, gs.length, none⟩ hgw hne9).trans hfrz
                have hfar : FarG wc (.slice A9 xn c9) (.slice (some ⟨g2, 0, none⟩) (xn + 1) cap2) := fun b hb => by
                  have hb2 : g2 = b := by injection hb
                  subst hb2
                  rcases hor5 with h | h
                  · exact .inl h
                  · exact .inr (by omega)
                have hput := HG.out.put (x := ⟨.slice A9 xn c9, xn, xxs⟩) hown5 hgW hfar rfl
                have hst : Hid (GsSt 27 24 w3 K ord xs (.slice (some ⟨g, 0, none⟩) (gs.length + 1) c1) (i + 1) (w5.setCell ⟨g, gs.length, none⟩ (.slice (some ⟨g2, 0, none⟩) (xn + 1) cap2))) := Lib.hid ⟨(HM7.out.below.trans hB5).setCell hgb _, _, hput, HL.out _ _ _ rfl (by rw [hfive.out])⟩
                clear hput hfar hne9 hgW
                refine hK.out _ _ (keepS.out _ hB5) (fun hHeld => ?_)
                clear hK Kc
                try simp only [Act.put, List.setIfInBounds_toArray, List.set_cons_zero, List.set_cons_succ]
                refine wpAnyH_ready (rs := [17]) (by kernel_rfl) (by simp) ?_
                refine AllReadyH.cons rfl (fun Kc hK => ?_) (AllReadyH.nil)
                go_simp
                refine hK.out _ _ (keepS.out _ hB5) (fun hHeld => ?_)
                clear hK Kc
                try simp only [Act.put, List.setIfInBounds_toArray, List.set_cons_zero, List.set_cons_succ]
                refine wpAnyH_ready (rs := [18]) (by kernel_rfl) (by simp) ?_
                refine AllReadyH.cons rfl (fun Kc hK => ?_) (AllReadyH.nil)
                go_simp
                refine hK.out _ _ (keepS.out _ (hB5.setCell hgb _)) (fun hHeld => ?_)
                clear hK Kc
                try simp only [Act.put, List.setIfInBounds_toArray, List.set_cons_zero, List.set_cons_succ]
                refine wpAnyH_done (by kernel_rfl) ?_ _
                refine NoPanic.normal ?_
                clear hHeld
                go_wp2_with fail
                go_roundg (n - (i + 1))
                case measure => omega
                case rel => exact ⟨i + 1, by first | rfl | go_num, by omega, Nat.le_refl _, hst⟩
            | true =>
              go_upto_region 15 with fail
              refine wp_region_noPanic ?_
              refine wp_region_held_drew (S := fun w' : World => w'.cell? ⟨w.heap.size, 4, none⟩ = some (.slice (some ⟨bB, oB, none⟩) n b0) ∧ w'.cell? ⟨bB, oB + a * 5, none⟩ = some (Value.int .i64 ek) ∧ w'.cell? ⟨bB, oB + a * 5 + 1, none⟩ = some (Value.int .i64 en) ∧ w'.cell? ⟨bB, oB + a * 5 + 2, none⟩ = some (Value.string ess) ∧ w'.cell? ⟨bB, oB + a * 5 + 3, none⟩ = some (Value.slice A1 eks.length a1) ∧ w'.cell? ⟨bB, oB + a * 5 + 4, none⟩ = some (Value.slice C1 ees.length cc1)) (by kernel_rfl) (keepS.out _ (Below.drew (Below.refl _ _))) (fun hHeld => ?_)
              refine wpAnyH_take (i := 0) (v := ?_) rfl (by kernel_rfl) (by kernel_rfl) (by kernel_rfl) (fun _ _ _ h => h) (Or.inl ⟨by rfl, ?ytkb0⟩) (by assumption) ?_
              case ytkb0 => (intro w hSw; (try dsimp only at hSw); go_simp <;> with_reducible rfl)
              try simp only [Act.put, List.setIfInBounds_toArray, List.set_cons_zero, List.set_cons_succ]
              refine wpAnyH_take (i := 1) (v := ?_) rfl (by kernel_rfl) (by kernel_rfl) (by kernel_rfl) (fun _ _ _ h => h) (Or.inl ⟨by rfl, ?ytkb1⟩) (by assumption) ?_
              case ytkb1 => (intro w hSw; (try dsimp only at hSw); go_simp <;> with_reducible rfl)
              try simp only [Act.put, List.setIfInBounds_toArray, List.set_cons_zero, List.set_cons_succ]
              refine wpAnyH_take (i := 2) (v := ?_) rfl (by kernel_rfl) (by kernel_rfl) (by kernel_rfl) (fun _ _ _ h => h) (Or.inl ⟨by rfl, ?ytkb2⟩) (by assumption) ?_
              case ytkb2 => (intro w hSw; (try dsimp only at hSw); go_simp <;> with_reducible rfl)
              try simp only [Act.put, List.setIfInBounds_toArray, List.set_cons_zero, List.set_cons_succ]
              refine wpAnyH_take (i := 3) (v := ?_) rfl (by kernel_rfl) (by kernel_rfl) (by kernel_rfl) (fun _ _ _ h => h) (Or.inl ⟨by rfl, ?ytkb3⟩) (by assumption) ?_
              case ytkb3 => (intro w hSw; (try dsimp only at hSw); go_simp <;> with_reducible rfl)
              try simp only [Act.put, List.setIfInBounds_toArray, List.set_cons_zero, List.set_cons_succ]
              refine wpAnyH_take (i := 4) (v := ?_) rfl (by kernel_rfl) (by kernel_rfl) (by kernel_rfl) (fun _ _ _ h => h) (Or.inl ⟨by rfl, ?ytkb4⟩) (by assumption) ?_
              case ytkb4 => (intro w hSw; (try dsimp only at hSw); go_simp <;> with_reducible rfl)
              try simp only [Act.put, List.setIfInBounds_toArray, List.set_cons_zero, List.set_cons_succ]
              refine wpAnyH_take (i := 5) (v := ?_) rfl (by kernel_rfl) (by kernel_rfl) (by kernel_rfl) (fun _ _ _ h => h) (Or.inl ⟨by rfl, ?ytkb5⟩) (by assumption) ?_
              case ytkb5 => (intro w hSw; (try dsimp only at hSw); go_simp <;> with_reducible rfl)
              try simp only [Act.put, List.setIfInBounds_toArray, List.set_cons_zero, List.set_cons_succ]
              refine wpAnyH_take (i := 6) (v := ?_) rfl (by kernel_rfl) (by kernel_rfl) (by kernel_rfl) (fun _ _ _ h => h) (Or.inl ⟨by rfl, ?ytkb6⟩) (by assumption) ?_
              case ytkb6 => (intro w hSw; (try dsimp only at hSw); go_simp <;> with_reducible rfl)
              try simp only [Act.put, List.setIfInBounds_toArray, List.set_cons_zero, List.set_cons_succ]
              refine wpAnyH_take (i := 7) (v := ?_) rfl (by kernel_rfl) (by kernel_rfl) (by kernel_rfl) (fun _ _ _ h => h) (Or.inl ⟨by rfl, ?ytkb7⟩) (by assumption) ?_
              case ytkb7 => (intro w hSw; (try dsimp only at hSw); go_simp <;> with_reducible rfl)
              try simp only [Act.put, List.setIfInBounds_toArray, List.set_cons_zero, List.set_cons_succ]
              refine wpAnyH_take (i := 8) (v := ?_) rfl (by kernel_rfl) (by kernel_rfl) (by kernel_rfl) (fun _ _ _ h => h) (Or.inl ⟨by rfl, ?ytkb8⟩) (by assumption) ?_
              case ytkb8 => (intro w hSw; (try dsimp only at hSw); go_simp <;> with_reducible rfl)
              try simp only [Act.put, List.setIfInBounds_toArray, List.set_cons_zero, List.set_cons_succ]
              refine wpAnyH_take (i := 10) (v := ?_) rfl (by kernel_rfl) (by kernel_rfl) (by kernel_rfl) (fun _ _ _ h => h) (Or.inl ⟨by rfl, ?ytkb9⟩) (by assumption) ?_
              case ytkb9 => (intro w hSw; (try dsimp only at hSw); go_simp <;> with_reducible rfl)
              try simp only [Act.put, List.setIfInBounds_toArray, List.set_cons_zero, List.set_cons_succ]
              refine wpAnyH_take (i := 11) (v := ?_) rfl (by kernel_rfl) (by kernel_rfl) (by kernel_rfl) (fun _ _ _ h => h) (Or.inl ⟨by rfl, ?ytkb10⟩) (by assumption) ?_
              case ytkb10 => (intro w hSw; (try dsimp only at hSw); go_simp <;> with_reducible rfl)
              try simp only [Act.put, List.setIfInBounds_toArray, List.set_cons_zero, List.set_cons_succ]
              refine wpAnyH_take (i := 12) (v := ?_) rfl (by kernel_rfl) (by kernel_rfl) (by kernel_rfl) (fun _ _ _ h => h) (Or.inl ⟨by rfl, ?ytkb11⟩) (by assumption) ?_
              case ytkb11 => (intro w hSw; (try dsimp only at hSw); go_simp <;> with_reducible rfl)
              try simp only [Act.put, List.setIfInBounds_toArray, List.set_cons_zero, List.set_cons_succ]
              refine wpAnyH_take (i := 13) (v := ?_) rfl (by kernel_rfl) (by kernel_rfl) (by kernel_rfl) (fun _ _ _ h => h) (Or.inl ⟨by rfl, ?ytkb12⟩) (by assumption) ?_
              case ytkb12 => (intro w hSw; (try dsimp only at hSw); go_simp <;> with_reducible rfl)
              try simp only [Act.put, List.setIfInBounds_toArray, List.set_cons_zero, List.set_cons_succ]
              refine wpAnyH_take (i := 14) (v := ?_) rfl (by kernel_rfl) (by kernel_rfl) (by kernel_rfl) (fun _ _ _ h => h) (Or.inl ⟨by rfl, ?ytkb13⟩) (by assumption) ?_
              case ytkb13 => (intro w hSw; (try dsimp only at hSw); go_simp <;> with_reducible rfl)
              try simp only [Act.put, List.setIfInBounds_toArray, List.set_cons_zero, List.set_cons_succ]
              refine wpAnyH_ready (rs := [9, 16]) (by kernel_rfl) (by simp) ?_
              refine AllReadyH.cons rfl (fun Kc hK => ?_) (AllReadyH.cons rfl (fun Kc hK => ?_) (AllReadyH.nil))
              · skip
                go_simp
                refine hK.out _ _ (keepS.out _ (Below.drew (Below.refl _ _))) (fun hHeld => ?_)
                clear hK Kc
                try simp only [Act.put, List.setIfInBounds_toArray, List.set_cons_zero, List.set_cons_succ]
                refine wpAnyH_take (i := 15) (v := ?_) rfl (by kernel_rfl) (by kernel_rfl) (by kernel_rfl) (fun _ _ _ h => h) (Or.inl ⟨by rfl, ?ytkc0⟩) (by assumption) ?_
                case ytkc0 => (intro w hSw; (try dsimp only at hSw); go_simp <;> with_reducible rfl)
                try simp only [Act.put, List.setIfInBounds_toArray, List.set_cons_zero, List.set_cons_succ]
                refine wpAnyH_ready (rs := [16]) (by kernel_rfl) (by simp) ?_
                refine AllReadyH.cons rfl (fun Kc hK => ?_) (AllReadyH.nil)
                go_simp
                refine hK.out _ _ (keepS.out _ kZ.out) (fun hHeld => ?_)
                clear hK Kc
                try simp only [Act.put, List.setIfInBounds_toArray, List.set_cons_zero, List.set_cons_succ]
                refine wpAnyH_ready (rs := [17]) (by kernel_rfl) (by simp) ?_
                refine AllReadyH.cons (o := { dst := some 88, op := Op.call { callee := Callee.builtin Builtin.append, args := #[Operand.tmp 80, Operand.tmp 87], argTypes := #[24, 24] }, type := 24, pos := "table.go:364", after := #[{ on := 9, ground := Ground.data }, { on := 16, ground := Ground.data }, { on := 0, ground := Ground.phase }, { on := 1, ground := Ground.phase }, { on := 2, ground := Ground.phase }, { on := 3, ground := Ground.phase }, { on := 4, ground := Ground.phase }, { on := 5, ground := Ground.phase }, { on := 6, ground := Ground.phase }, { on := 7, ground := Ground.phase }, { on := 8, ground := Ground.phase }, { on := 9, ground := Ground.phase }, { on := 10, ground := Ground.phase }, { on := 11, ground := Ground.phase }, { on := 12, ground := Ground.phase }, { on := 13, ground := Ground.phase }, { on := 14, ground := Ground.phase }, { on := 15, ground := Ground.phase }, { on := 16, ground := Ground.phase }], guard := none }) rfl (fun Kc hK => ?_) (AllReadyH.nil)
                refine step_append_lies _ rfl (.tmp 80) (.tmp 87) 24 rfl w3.heap.size 27 i0 zeroVal 5 80 Try.underlying24 hi hz0 hz1 hz2 rfl (by decide) (.slice A9 xn c9) xn xxs rfl (own_keepG HX.out (Below.drew (below1 _ _))) ⟨wc.heap.size, 0, none⟩ 1 1 [.int .i64 0, .int .i64 0, .string ⟨#[]⟩, .slice none 0 0, .slice none 0 0] rfl rfl (fun j u h => new_cellsV wc [.int .i64 0, .int .i64 0, .string ⟨#[]⟩, .slice none 0 0, .slice none 0 0] 27 j u h) (five_one _ _ _ _ _ _ _ _ _) (by decide) (by unfold maxLen; omega) (by omega) (by simp; omega) (wc.heap.size + 1) (by simp) ?_
                intro g2 cap2 w5 hown5 hgr5 hor5 hlt5
                have hB5 : Below w3.heap.size wc w5 := kZ.out.grown hgr5 (by simp; omega) (fun b hb => (HX.out.lt b hb).1)
                have hgW : wc.grownBy w5 (Value.slice A9 xn c9).ownBlock := grown_one (o := .cells #[.int .i64 0, .int .i64 0, .string ⟨#[]⟩, .slice none 0 0, .slice none 0 0] 27) ⟨hgr5.os, hgr5.tape, hgr5.output, hgr5.size, hgr5.block⟩
                have hne9 : some g ≠ (Value.slice A9 xn c9).ownBlock := fun e => hoff.out g e.symm rfl
                have q5 := (hgW.cell_far ⟨g, gs.length, none⟩ hgw hne9).trans hcell
                have f5 := (hgW.frozen_far ⟨g, gs.length, none⟩ hgw hne9).trans hfrz
                have hfar : FarG wc (.slice A9 xn c9) (.slice (some ⟨g2, 0, none⟩) (xn + 1) cap2) := fun b hb => by
                  have hb2 : g2 = b := by injection hb
                  subst hb2
                  rcases hor5 with h | h
                  · exact .inl h
                  · exact .inr (by omega)
                have hput := HG.out.put (x := ⟨.slice A9 xn c9, xn, xxs⟩) hown5 hgW hfar rfl
                have hgx : w3.heap.size ≤ g2 := by
                  rcases hor5 with h | h
                  · exact (HX.out.lt g2 h).1
                  · omega
                have hgg : g2 ≠ g := by
                  rcases hor5 with h | h
                  · exact hoff.out g2 h
                  · omega
                have hfill := hput.fill HLN.out (Value.int .i64 ek) (Value.int .i64 en) (Value.string ess) (Value.slice A1 eks.length a1) (Value.slice C1 ees.length cc1)
                have hst : Hid (GsSt 27 24 w3 K ord xs (.slice (some ⟨g, 0, none⟩) (gs.length + 1) c1) (i + 1) ((((((w5.setCell ⟨g, gs.length, none⟩ (.slice (some ⟨g2, 0, none⟩) (xn + 1) cap2)).setCell ⟨g2, xn * 5, none⟩ (Value.int .i64 ek)).setCell ⟨g2, xn * 5 + 1, none⟩ (Value.int .i64 en)).setCell ⟨g2, xn * 5 + 2, none⟩ (Value.string ess)).setCell ⟨g2, xn * 5 + 3, none⟩ (Value.slice A1 eks.length a1)).setCell ⟨g2, xn * 5 + 4, none⟩ (Value.slice C1 ees.length cc1))) := Lib.hid ⟨((((((HM7.out.below.trans hB5).setCell hgb _).setCell hgx _).setCell hgx _).setCell hgx _).setCell hgx _).setCell hgx _, _, hfill, HL.out _ _ _ rfl (by rw [hfive.out])⟩
                have hx6 : (w5.setCell ⟨g, gs.length, none⟩ (.slice (some ⟨g2, 0, none⟩) (xn + 1) cap2)).ownsRow w3.heap.size 27 5 (.slice (some ⟨g2, 0, none⟩) (xn + 1) cap2) (xn + 1) (xxs ++ [.int .i64 0, .int .i64 0, .string ⟨#[]⟩, .slice none 0 0, .slice none 0 0]) := hput.row ⟨.slice (some ⟨g2, 0, none⟩) (xn + 1) cap2, xn + 1, xxs ++ [.int .i64 0, .int .i64 0, .string ⟨#[]⟩, .slice none 0 0, .slice none 0 0]⟩ (by simp)
                obtain ⟨d0, d1, d2, d3, d4⟩ := own_tail hx6 HLN.out
                have fr := fun j => hx6.frozenAt j
                clear hput hfill hfar hne9 hgW hx6
                refine hK.out _ _ (keepS.out _ hB5) (fun hHeld => ?_)
                clear hK Kc
                try simp only [Act.put, List.setIfInBounds_toArray, List.set_cons_zero, List.set_cons_succ]
                refine wpAnyH_ready (rs := [18]) (by kernel_rfl) (by simp) ?_
                refine AllReadyH.cons rfl (fun Kc hK => ?_) (AllReadyH.nil)
                go_simp
                refine hK.out _ _ (keepS.out _ hB5) (fun hHeld => ?_)
                clear hK Kc
                try simp only [Act.put, List.setIfInBounds_toArray, List.set_cons_zero, List.set_cons_succ]
                refine wpAnyH_ready (rs := [19]) (by kernel_rfl) (by simp) ?_
                refine AllReadyH.cons rfl (fun Kc hK => ?_) (AllReadyH.nil)
                go_simp
                refine hK.out _ _ (keepS.out _ (hB5.setCell hgb _)) (fun hHeld => ?_)
                clear hK Kc
                try simp only [Act.put, List.setIfInBounds_toArray, List.set_cons_zero, List.set_cons_succ]
                refine wpAnyH_done (by kernel_rfl) ?_ _
                refine NoPanic.normal ?_
                clear hHeld
                have hn0 : (0 : Int) ≤ (xn : Int) := by omega
                have hn1 : (xn : Int) < (xn : Int) + 1 := by omega
                go_wp2_with fail
                go_roundg (n - (i + 1))
                case measure => omega
                case rel => exact ⟨i + 1, by first | rfl | go_num, by omega, Nat.le_refl _, hst⟩
              · skip
                go_simp
                refine hK.out _ _ (keepS.out _ kZ.out) (fun hHeld => ?_)
                clear hK Kc
                try simp only [Act.put, List.setIfInBounds_toArray, List.set_cons_zero, List.set_cons_succ]
                refine wpAnyH_ready (rs := [9]) (by kernel_rfl) (by simp) ?_
                refine AllReadyH.cons rfl (fun Kc hK => ?_) (AllReadyH.nil)
                go_simp
                refine hK.out _ _ (keepS.out _ kZ.out) (fun hHeld => ?_)
                clear hK Kc
                try simp only [Act.put, List.setIfInBounds_toArray, List.set_cons_zero, List.set_cons_succ]
                refine wpAnyH_take (i := 15) (v := ?_) rfl (by kernel_rfl) (by kernel_rfl) (by kernel_rfl) (fun _ _ _ h => h) (Or.inl ⟨by rfl, ?ytkc1⟩) (by assumption) ?_
                case ytkc1 => (intro w hSw; (try dsimp only at hSw); go_simp <;> with_reducible rfl)
                try simp only [Act.put, List.setIfInBounds_toArray, List.set_cons_zero, List.set_cons_succ]
                refine wpAnyH_ready (rs := [17]) (by kernel_rfl) (by simp) ?_
                refine AllReadyH.cons (o := { dst := some 88, op := Op.call { callee := Callee.builtin Builtin.append, args := #[Operand.tmp 80, Operand.tmp 87], argTypes := #[24, 24] }, type := 24, pos := "table.go:364", after := #[{ on := 9, ground := Ground.data }, { on := 16, ground := Ground.data }, { on := 0, ground := Ground.phase }, { on := 1, ground := Ground.phase }, { on := 2, ground := Ground.phase }, { on := 3, ground := Ground.phase }, { on := 4, ground := Ground.phase }, { on := 5, ground := Ground.phase }, { on := 6, ground := Ground.phase }, { on := 7, ground := Ground.phase }, { on := 8, ground := Ground.phase }, { on := 9, ground := Ground.phase }, { on := 10, ground := Ground.phase }, { on := 11, ground := Ground.phase }, { on := 12, ground := Ground.phase }, { on := 13, ground := Ground.phase }, { on := 14, ground := Ground.phase }, { on := 15, ground := Ground.phase }, { on := 16, ground := Ground.phase }], guard := none }) rfl (fun Kc hK => ?_) (AllReadyH.nil)
                refine step_append_lies _ rfl (.tmp 80) (.tmp 87) 24 rfl w3.heap.size 27 i0 zeroVal 5 80 Try.underlying24 hi hz0 hz1 hz2 rfl (by decide) (.slice A9 xn c9) xn xxs rfl (own_keepG HX.out (Below.drew (below1 _ _))) ⟨wc.heap.size, 0, none⟩ 1 1 [.int .i64 0, .int .i64 0, .string ⟨#[]⟩, .slice none 0 0, .slice none 0 0] rfl rfl (fun j u h => new_cellsV wc [.int .i64 0, .int .i64 0, .string ⟨#[]⟩, .slice none 0 0, .slice none 0 0] 27 j u h) (five_one _ _ _ _ _ _ _ _ _) (by decide) (by unfold maxLen; omega) (by omega) (by simp; omega) (wc.heap.size + 1) (by simp) ?_
                intro g2 cap2 w5 hown5 hgr5 hor5 hlt5
                have hB5 : Below w3.heap.size wc w5 := kZ.out.grown hgr5 (by simp; omega) (fun b hb => (HX.out.lt b hb).1)
                have hgW : wc.grownBy w5 (Value.slice A9 xn c9).ownBlock := grown_one (o := .cells #[.int .i64 0, .int .i64 0, .string ⟨#[]⟩, .slice none 0 0, .slice none 0 0] 27) ⟨hgr5.os, hgr5.tape, hgr5.output, hgr5.size, hgr5.block⟩
                have hne9 : some g ≠ (Value.slice A9 xn c9).ownBlock := fun e => hoff.out g e.symm rfl
                have q5 := (hgW.cell_far ⟨g, gs.length, none⟩ hgw hne9).trans hcell
                have f5 := (hgW.frozen_far ⟨g, gs.length, none⟩ hgw hne9).trans hfrz
                have hfar : FarG wc (.slice A9 xn c9) (.slice (some ⟨g2, 0, none⟩) (xn + 1) cap2) := fun b hb => by
                  have hb2 : g2 = b := by injection hb
                  subst hb2
                  rcases hor5 with h | h
                  · exact .inl h
                  · exact .inr (by omega)
                have hput := HG.out.put (x := ⟨.slice A9 xn c9, xn, xxs⟩) hown5 hgW hfar rfl
                have hgx : w3.heap.size ≤ g2 := by
                  rcases hor5 with h | h
                  · exact (HX.out.lt g2 h).1
                  · omega
                have hgg : g2 ≠ g := by
                  rcases hor5 with h | h
                  · exact hoff.out g2 h
                  · omega
                have hfill := hput.fill HLN.out (Value.int .i64 ek) (Value.int .i64 en) (Value.string ess) (Value.slice A1 eks.length a1) (Value.slice C1 ees.length cc1)
                have hst : Hid (GsSt 27 24 w3 K ord xs (.slice (some ⟨g, 0, none⟩) (gs.length + 1) c1) (i + 1) ((((((w5.setCell ⟨g, gs.length, none⟩ (.slice (some ⟨g2, 0, none⟩) (xn + 1) cap2)).setCell ⟨g2, xn * 5, none⟩ (Value.int .i64 ek)).setCell ⟨g2, xn * 5 + 1, none⟩ (Value.int .i64 en)).setCell ⟨g2, xn * 5 + 2, none⟩ (Value.string ess)).setCell ⟨g2, xn * 5 + 3, none⟩ (Value.slice A1 eks.length a1)).setCell ⟨g2, xn * 5 + 4, none⟩ (Value.slice C1 ees.length cc1))) := Lib.hid ⟨((((((HM7.out.below.trans hB5).setCell hgb _).setCell hgx _).setCell hgx _).setCell hgx _).setCell hgx _).setCell hgx _, _, hfill, HL.out _ _ _ rfl (by rw [hfive.out])⟩
                have hx6 : (w5.setCell ⟨g, gs.length, none⟩ (.slice (some ⟨g2, 0, none⟩) (xn + 1) cap2)).ownsRow w3.heap.size 27 5 (.slice (some ⟨g2, 0, none⟩) (xn + 1) cap2) (xn + 1) (xxs ++ [.int .i64 0, .int .i64 0, .string ⟨#[]⟩, .slice none 0 0, .slice none 0 0]) := hput.row ⟨.slice (some ⟨g2, 0, none⟩) (xn + 1) cap2, xn + 1, xxs ++ [.int .i64 0, .int .i64 0, .string ⟨#[]⟩, .slice none 0 0, .slice none 0 0]⟩ (by simp)
                obtain ⟨d0, d1, d2, d3, d4⟩ := own_tail hx6 HLN.out
                have fr := fun j => hx6.frozenAt j
                clear hput hfill hfar hne9 hgW hx6
                refine hK.out _ _ (keepS.out _ hB5) (fun hHeld => ?_)
                clear hK Kc
                try simp only [Act.put, List.setIfInBounds_toArray, List.set_cons_zero, List.set_cons_succ]
                refine wpAnyH_ready (rs := [18]) (by kernel_rfl) (by simp) ?_
                refine AllReadyH.cons rfl (fun Kc hK => ?_) (AllReadyH.nil)
                go_simp
                refine hK.out _ _ (keepS.out _ hB5) (fun hHeld => ?_)
                clear hK Kc
                try simp only [Act.put, List.setIfInBounds_toArray, List.set_cons_zero, List.set_cons_succ]
                refine wpAnyH_ready (rs := [19]) (by kernel_rfl) (by simp) ?_
                refine AllReadyH.cons rfl (fun Kc hK => ?_) (AllReadyH.nil)
                go_simp
                refine hK.out _ _ (keepS.out _ (hB5.setCell hgb _)) (fun hHeld => ?_)
                clear hK Kc
                try simp only [Act.put, List.setIfInBounds_toArray, List.set_cons_zero, List.set_cons_succ]
                refine wpAnyH_done (by kernel_rfl) ?_ _
                refine NoPanic.normal ?_
                clear hHeld
                have hn0 : (0 : Int) ≤ (xn : Int) := by omega
                have hn1 : (xn : Int) < (xn : Int) + 1 := by omega
                go_wp2_with fail
                go_roundg (n - (i + 1))
                case measure => omega
                case rel => exact ⟨i + 1, by first | rfl | go_num, by omega, Nat.le_refl _, hst⟩
    · obtain rfl : i = n := by omega
      have hil : ¬ ((i : Int) < (i : Int)) := by omega
      go_wp2_with fail
      go_ret2
      obtain ⟨gs, hg1, hl1⟩ := HS.out.rows
      have hw3 : w.heap.size ≤ w3.heap.size := H3.out.below.size
      exact ⟨H3.out.below.trans (HS.out.below.mono hw3), _, rfl, gs, hg1.low hw3, xs, HLB.out, hl1⟩
end Go.Proofs.Ytnokmlclephjgaa

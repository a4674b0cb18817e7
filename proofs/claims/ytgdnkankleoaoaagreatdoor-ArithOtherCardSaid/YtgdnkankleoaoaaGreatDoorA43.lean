/- The reference's Put. The reference's Obj. -/
import Derived.Test.YtgdnkankleoaoaaGreatDoorA19
import Derived.Test.YtgdnkankleoaoaaGreatDoorA26
import Derived.Test.YtgdnkankleoaoaaGreatDoorA27
import Derived.StillTailTactics
import Derived.Deep.RegionHeld3
import Derived.Deep.CutBlock
import Derived.Deep.DeepCutAuto
import Derived.Deep.DrawnRows
import Derived.Test.YtgdnkankleoaoaaGreatDoorA28
set_option linter.unusedVariables false
set_option linter.unusedSimpArgs false
namespace Go.Proofs.YtgdnkankleoaoaaGreatDoor
open Go.RowKit
/-- The first i keys are less than the one that is put. -/
def LtAll (ks : List ByteArray) (key : ByteArray) (i : Nat) : Prop := ∀ j x, j < i → ks[j]? = some x → scmp x key < 0
theorem LtAll.start (ks : List ByteArray) (key : ByteArray) : LtAll ks key 0 := fun j x h => absurd h (Nat.not_lt_zero _)
theorem LtAll.step {ks : List ByteArray} {key : ByteArray} {i : Nat} (h : LtAll ks key i) {x : ByteArray} (hx : ks[i]? = some x) (hn : scmp x key < 0) : LtAll ks key (i + 1) := by
  intro j y hj hy
  rcases Nat.lt_or_ge j i with h1 | h1
  · exact h j y h1 hy
  · have : j = i := by omega
    subst this
    rw [hx] at hy
    injection hy with hy
    subst hy
    exact hn
/-- What Put leaves, cut at the place of the key. -/
theorem putP_cut {key : ByteArray} {x : V} : ∀ {ps : PL} {i : Nat}, LtAll (ps.map Prod.fst) key i → i ≤ ps.length → (∀ y, (ps.map Prod.fst)[i]? = some y → ¬ scmp y key < 0) →
    putP ps key x = ps.take i ++ (key, x) :: ps.drop (if (ps.map Prod.fst)[i]? = some key then i + 1 else i)
  | [], i, h, hi, hn => by
    have : i = 0 := by simpa using hi
    subst this
    simp [putP]
  | (y, v) :: r, 0, h, hi, hn => by
    have hy := hn y (by simp)
    rw [putP, if_neg hy]
    simp only [List.map_cons, List.getElem?_cons_zero, List.take_zero, List.nil_append]
    by_cases e : y = key
    · subst e; simp
    · rw [if_neg e, if_neg (by simpa using e)]; simp
  | (y, v) :: r, i + 1, h, hi, hn => by
    have hy := h 0 y (by omega) (by simp)
    rw [putP, if_pos hy, putP_cut (ps := r) (i := i) (fun j z hj hz => h (j + 1) z (by omega) (by simpa using hz)) (by simpa using hi) (fun z hz => hn z (by simpa using hz))]
    simp only [List.map_cons, List.getElem?_cons_succ, List.take_succ_cons, List.cons_append]
    congr 2
    split <;> simp
theorem put_keys {key : ByteArray} {x : V} {ps : PL} {i j : Nat} (h : putP ps key x = ps.take i ++ (key, x) :: ps.drop j) :
    objL (putP ps key x) = .mk 6 0 ⟨#[]⟩ ((ps.map Prod.fst).take i ++ key :: (ps.map Prod.fst).drop j) ((ps.map Prod.snd).take i ++ x :: (ps.map Prod.snd).drop j) := by
  unfold objL
  rw [h]
  simp [List.map_append, List.map_take, List.map_drop]
theorem rs_box' {w : World} {g : Nat} {t : TypeId} {cs : List Value} {S : Nat → Prop} (h : Box w g t cs.toArray) (hg : S g) : Rs w S (some ⟨g, 0, none⟩) cs := fun j u hj => ⟨g, 0, rfl, hg, by rw [Nat.zero_add]; exact h.cell (by simpa using hj)⟩
theorem one_str (k : ByteArray) : ∀ u ∈ [Value.string k], u.oneCell' = true := by
  intro u hu
  simp only [List.mem_cons, List.not_mem_nil, or_false] at hu
  subst hu
  rfl
theorem empty_own (W : World) (e : TypeId) (size : Nat) : (W.alloc (.cells #[] e)).ownsRow W.heap.size e size (.slice (some ⟨W.heap.size, 0, none⟩) 0 0) 0 [] := by
  have h := World.ownsRow_lit (base := W.heap.size) (e := e) (size := size) W #[] 0 (by simp) (by unfold maxLen; omega) (by simp)
  simpa using h
theorem size_string : ∀ w, (sizeOf 9).run Tryz.prog w = .ok 1 w := Tryz.sizeOf9
theorem size_value : ∀ w, (sizeOf 25).run Tryz.prog w = .ok 5 w := Tryz.sizeOf25
/-- The state of Put: its boxes, and the keys and elements of the object that is made. -/
structure PSt (w0 W : World) (S : Nat → Prop) (vc : Array Value) (kl : List ByteArray) (el : List V) (vK vE : Value) (ys : List Value) (w : World) : Prop where
  below : Below w0.heap.size w0 w
  vb : Box w w0.heap.size 25 vc
  rb : Box w (w0.heap.size + 2) 25 #[.int .i64 0, .int .i64 0, .string ⟨#[]⟩, .slice none 0 0, .slice none 0 0]
  ob : Box w W.heap.size 25 #[.int .i64 6, .int .i64 0, .string ⟨#[]⟩, vK, vE]
  keys : w.ownsRow (W.heap.size + 1) 9 1 vK kl.length (kv kl)
  elems : w.ownsRow (W.heap.size + 1) 25 5 vE el.length ys
  lies : LiesL w S el ys
theorem below_drew' {w w' : World} {B : Nat} (h : Below B w w') : Below B w w'.drew := h.drew
theorem box_below {w w' : World} {g : Nat} {t : TypeId} {cs : Array Value} (h : Box w g t cs) (hb : Below w.heap.size w w') : Box w' g t cs := h.below hb h.lt
theorem PSt.six {w W w3 w5 : World} {S : Nat → Prop} {vc : Array Value} {kl : List ByteArray} {el : List V} {vK : Value} {E2 : Option Addr} {m f2 : Nat} {ys : List Value} {u : Value} (hWw : w.heap.size + 3 = W.heap.size) (hwW : Below w.heap.size w W) (hb3 : Below W.heap.size W w3)
    (hv : Box w3 w.heap.size 25 vc) (hr : Box w3 (w.heap.size + 2) 25 #[.int .i64 0, .int .i64 0, .string ⟨#[]⟩, .slice none 0 0, .slice none 0 0]) (ho : Box w3 W.heap.size 25 #[.int .i64 6, .int .i64 0, .string ⟨#[]⟩, vK, u])
    (hk : w3.ownsRow (W.heap.size + 1) 9 1 vK kl.length (kv kl)) (hb5 : Below w3.heap.size w3 w5) (hown : w5.ownsRow (W.heap.size + 1) 25 5 (.slice E2 m f2) el.length ys) (hL : LiesL w S el ys) (hS : ∀ b, S b → b < w.heap.size) :
    PSt w W S vc kl el vK (.slice E2 m f2) ys (w5.setCell ⟨W.heap.size, 4, none⟩ (.slice E2 m f2)) := by
  have hbw : Below w.heap.size w w5 := chain hwW (chain hb3 hb5)
  refine ⟨hbw.setCell (by simp; omega) _, (box_below hv hb5).far (by simp; omega) _, (box_below hr hb5).far (by simp; omega) _, (box_below ho hb5).put 4 _, ownsRow_setCell_below (own_below hk hb5) (by simp) _, ownsRow_setCell_below hown (by simp) _, hL.move fun b hb => ⟨hb, ?_⟩⟩
  have := hS b hb
  rw [Below.heap_setCell _ _ _ _ (by simp; omega), hbw.block b this]
theorem PSt.addK {w W wc w5 : World} {S : Nat → Prop} {vc : Array Value} {kl kl' : List ByteArray} {el : List V} {vK vE : Value} {ys : List Value} {u : Value} (h : PSt w W S vc kl el vK vE ys wc) (hW : w.heap.size + 3 = W.heap.size) (hS : ∀ b, S b → b < w.heap.size)
    (hg : wc.grownBy w5 vK.ownBlock) (hown : w5.ownsRow (W.heap.size + 1) 9 1 u kl'.length (kv kl')) : PSt w W S vc kl' el u vE ys (w5.setCell ⟨W.heap.size, 3, none⟩ u) := by
  have hlt : ∀ j, vK.ownBlock = some j → W.heap.size + 1 ≤ j := fun j hj => (h.keys.lt j hj).1
  have hbw : Below w.heap.size w w5 := h.below.grown hg h.below.size (fun j hj => by have := hlt j hj; omega)
  refine ⟨hbw.setCell (by simp; omega) _, (h.vb.grown hg fun e => by have := hlt _ e.symm; omega).far (by simp; omega) _, (h.rb.grown hg fun e => by have := hlt _ e.symm; omega).far (by simp; omega) _, (h.ob.grown hg fun e => by have := hlt _ e.symm; omega).put 3 _, ownsRow_setCell_below hown (by simp) _, ownsRow_setCell_below (h.elems.kept hg (own_apart h.keys h.elems).2) (by simp) _, h.lies.move fun b hb => ⟨hb, ?_⟩⟩
  have := hS b hb
  rw [Below.heap_setCell _ _ _ _ (by simp; omega), hbw.block b this, h.below.block b this]
theorem PSt.addE {w W wc w5 : World} {S : Nat → Prop} {vc : Array Value} {kl : List ByteArray} {el el' : List V} {vK vE : Value} {ys ys' : List Value} {u : Value} (h : PSt w W S vc kl el vK vE ys wc) (hW : w.heap.size + 3 = W.heap.size) (hS : ∀ b, S b → b < w.heap.size)
    (hg : wc.grownBy w5 vE.ownBlock) (hown : w5.ownsRow (W.heap.size + 1) 25 5 u el'.length ys') (hL : LiesL w S el' ys') : PSt w W S vc kl el' vK u ys' (w5.setCell ⟨W.heap.size, 4, none⟩ u) := by
  have hlt : ∀ j, vE.ownBlock = some j → W.heap.size + 1 ≤ j := fun j hj => (h.elems.lt j hj).1
  have hbw : Below w.heap.size w w5 := h.below.grown hg h.below.size (fun j hj => by have := hlt j hj; omega)
  refine ⟨hbw.setCell (by simp; omega) _, (h.vb.grown hg fun e => by have := hlt _ e.symm; omega).far (by simp; omega) _, (h.rb.grown hg fun e => by have := hlt _ e.symm; omega).far (by simp; omega) _, (h.ob.grown hg fun e => by have := hlt _ e.symm; omega).put 4 _, ownsRow_setCell_below (h.keys.kept hg (own_apart h.keys h.elems).1) (by simp) _, ownsRow_setCell_below hown (by simp) _, hL.move fun b hb => ⟨hb, ?_⟩⟩
  have := hS b hb
  rw [Below.heap_setCell _ _ _ _ (by simp; omega), hbw.block b this]
theorem PSt.out {w W wc : World} {S : Nat → Prop} {vc : Array Value} {kl : List ByteArray} {el : List V} {K E : Option Addr} {n m k e : Nat} {ys : List Value} (h : PSt w W S vc kl el (.slice K n k) (.slice E m e) ys wc) (hW : w.heap.size + 3 = W.heap.size)
    (hn : n = kl.length) (hm : m = el.length) (h1 : ∀ x ∈ kl, x.size ≤ 140737488355328) (h2 : kl.length ≤ 140737488355328) (h3 : el.length ≤ 140737488355328) :
    Lies wc (fun b => S b ∨ (w.heap.size + 3 < b ∧ b < wc.heap.size)) (.mk 6 0 ⟨#[]⟩ kl el) [.int .i64 6, .int .i64 0, .string ⟨#[]⟩, .slice K n k, .slice E m e] := by
  subst hn hm
  obtain ⟨A1, c1, e1, a1, a2, a3, a4⟩ := own_open h.keys
  obtain ⟨A2, c2, e2, b1, b2, b3, b4⟩ := own_open h.elems
  injection e1 with e1 _ e1'
  injection e2 with e2 _ e2'
  subst e1 e1' e2 e2'
  rw [Lies]
  exact ⟨⟨Nat.zero_le _, h1, h2, h3⟩, K, k, E, e, ys, rfl, a1, b1, ⟨a2, a3⟩, ⟨b2, b3⟩, a4.move fun b hb => ⟨.inr ⟨by omega, hb.2.1⟩, rfl⟩, b4.move fun b hb => ⟨.inr ⟨by omega, hb.2.1⟩, rfl⟩, h.lies.move fun b hb => ⟨.inl hb, rfl⟩⟩
set_option maxHeartbeats 4000000 in
set_option maxRecDepth 100000 in
theorem put_any (S : Nat → Prop) (ps : PL) (k0 n0 : Int) (s0 : ByteArray) (key : ByteArray) (x : V) (cs ds : List Value) (w : World) (hS : ∀ b, S b → b < w.heap.size) (hv : Lies w S (.mk k0 n0 s0 (ps.map Prod.fst) (ps.map Prod.snd)) cs) (hx : Lies w S x ds)
    (hn : ps.length ≤ 1000000) (hk : key.size ≤ 140737488355328) :
    Calls Tryz.prog 176 #[.agg cs.toArray, .string key, .agg ds.toArray] w fun e w' => Below w.heap.size w w' ∧ ∃ qs : List Value, e = .returned (.agg qs.toArray) ∧ Lies w' (fun b => S b ∨ (w.heap.size + 3 < b ∧ b < w'.heap.size)) (objL (putP ps key x)) qs := by
  have hkl : (ps.map Prod.fst).length = ps.length := by simp
  have hel : (ps.map Prod.snd).length = ps.length := by simp
  have hcut := fun i h1 h2 h3 => put_keys (putP_cut (key := key) (x := x) (ps := ps) (i := i) h1 h2 h3)
  have HCUT := Lib.hid hcut
  clear hcut
  generalize objL (putP ps key x) = R at HCUT ⊢
  generalize ps.map Prod.fst = ks at *
  generalize ps.map Prod.snd = es at *
  rw [← hkl] at HCUT hn hel
  clear hkl
  obtain ⟨i0, hi, hz0, hz1, hz2⟩ := info_parts inf_value
  obtain ⟨i1, hi', hz0', hz1', hz2'⟩ := info_parts inf_string
  have HVS := Lib.hid hv
  obtain ⟨A, a, C, c, xs, rfl, hAn, hCn, ⟨ha1, ha2⟩, ⟨hc1, hc2⟩, hA, hC, hL⟩ := lies_open hv
  have HXS := Lib.hid hx
  obtain ⟨xk, xn, xs0, xks, xes⟩ := x
  obtain ⟨A2, a2, C2, c2, xs2, rfl, _⟩ := lies_open hx
  have HA := Lib.hid hA
  have HC := Lib.hid hC
  have HLL := Lib.hid hL
  have HAN := Lib.hid hAn
  have HCN := Lib.hid hCn
  have HS := Lib.hid hS
  have HEL := Lib.hid hel
  clear hv hx hA hC hL hAn hCn hS hel
  show Calls _ _ #[.agg #[.int .i64 k0, .int .i64 n0, .string s0, .slice A ks.length a, .slice C es.length c], .string key, .agg #[.int .i64 xk, .int .i64 xn, .string xs0, .slice A2 xks.length a2, .slice C2 xes.length c2]] w _
  obtain ⟨o1, ho1⟩ : ∃ O, O = Obj.cells #[.int .i64 k0, .int .i64 n0, .string s0, .slice A ks.length a, .slice C es.length c] 25 := ⟨_, rfl⟩
  obtain ⟨o2, ho2⟩ : ∃ O, O = Obj.cells #[.int .i64 xk, .int .i64 xn, .string xs0, .slice A2 xks.length a2, .slice C2 xes.length c2] 25 := ⟨_, rfl⟩
  obtain ⟨W, hW⟩ : ∃ W, W = ((w.alloc o1).alloc o2).alloc (.cells #[.int .i64 0, .int .i64 0, .string ⟨#[]⟩, .slice none 0 0, .slice none 0 0] 25) := ⟨_, rfl⟩
  have hWs : W.heap.size = w.heap.size + 3 := by rw [hW]; simp
  have hWb : Below w.heap.size w W := by rw [hW]; exact chain (below2 _ _ _) (below1 _ _)
  have hWv : Box W w.heap.size 25 #[.int .i64 k0, .int .i64 n0, .string s0, .slice A ks.length a, .slice C es.length c] := by rw [hW, ho1]; exact ((Box.laid _ _ _).alloc _).alloc _
  have hWx : Box W (w.heap.size + 1) 25 #[.int .i64 xk, .int .i64 xn, .string xs0, .slice A2 xks.length a2, .slice C2 xes.length c2] := by
    have h1 := Box.laid (w.alloc o1) 25 #[.int .i64 xk, .int .i64 xn, .string xs0, .slice A2 xks.length a2, .slice C2 xes.length c2]
    have e : (w.alloc o1).heap.size = w.heap.size + 1 := by simp
    rw [e] at h1
    rw [hW, ho2]
    exact h1.alloc _
  have hWr : Box W (w.heap.size + 2) 25 #[.int .i64 0, .int .i64 0, .string ⟨#[]⟩, .slice none 0 0, .slice none 0 0] := by
    have h1 := Box.laid ((w.alloc o1).alloc o2) 25 #[.int .i64 0, .int .i64 0, .string ⟨#[]⟩, .slice none 0 0, .slice none 0 0]
    have e : ((w.alloc o1).alloc o2).heap.size = w.heap.size + 2 := by simp
    rw [e] at h1
    rw [hW]
    exact h1
  go_enter Tryz.func176, Tryz.ntmps176
  go_upto_block 0 with fail
  rw [← ho1, ← ho2, ← hW]
  have HWS := Lib.hid hWs
  have HWB := Lib.hid hWb
  have HWV := Lib.hid hWv
  have HWX := Lib.hid hWx
  have HWR := Lib.hid hWr
  clear hW hWs hWb hWv hWx hWr ho1 ho2
  have v3 := HWV.out.cell (i := 3) rfl
  have hlt3 : w.heap.size < W.heap.size := by have := HWS.out; omega
  go_cut [7] (fun t wx => wx = W ∧ ∃ i : Nat, i ≤ ks.length ∧ t = .int .i64 i ∧ LtAll ks key i ∧ ∀ y, ks[i]? = some y → ¬ scmp y key < 0)
  case first =>
    go_wp2_with fail
    go_loop [7] (fun t => ∃ i : Nat, i ≤ ks.length ∧ t = .int .i64 i ∧ LtAll ks key i) (fun t => ks.length - (intOf t).toNat)
    case atStart => exact ⟨0, Nat.zero_le _, rfl, LtAll.start _ _⟩
    case round =>
      obtain ⟨i, hi3, rfl, hm0⟩ := hrel
      have HM := Lib.hid hm0
      clear hm0
      by_cases hlt : i < ks.length
      · obtain ⟨x, hx⟩ : ∃ x, ks[i]? = some x := ⟨_, List.getElem?_eq_getElem hlt⟩
        obtain ⟨b0, o0, hAe, hb0, hc0⟩ := HA.out.at_ (kv_at hx)
        have hb0' := HS.out b0 hb0
        have hc1' := below_cell HWB.out hb0' hc0
        clear hc0
        subst hAe
        have hle := less_eq x key
        by_cases hxk : scmp x key < 0
        · have hbq : Op.bytesLess x.toList key.toList = true := by rw [hle, decide_eq_true hxk]
          have HM2 := Lib.hid (HM.out.step hx hxk)
          clear hle hx hxk
          go_wp2_with fail
          go_round
          case rel => exact ⟨i + 1, by omega, by go_num, HM2.out⟩
          case measure => simp [intOf]; omega
        · have hbq : Op.bytesLess x.toList key.toList = false := by rw [hle, decide_eq_false hxk]
          have hfin : Hid (∀ y, ks[i]? = some y → ¬ scmp y key < 0) := Lib.hid fun y hy => by
            rw [hx] at hy
            injection hy with hy
            subst hy
            exact hxk
          clear hle hx hxk
          go_wp2_with fail
          go_meet
          exact ⟨rfl, i, hi3, rfl, HM.out, hfin.out⟩
      · have hfin : Hid (∀ y, ks[i]? = some y → ¬ scmp y key < 0) := Lib.hid fun y hy => by
          rw [List.getElem?_eq_none (by omega)] at hy
          cases hy
        go_wp2_with fail
        go_meet
        exact ⟨rfl, i, hi3, rfl, HM.out, hfin.out⟩
  case rest =>
    obtain ⟨hweq, i, hile, rfl, hlt0, hnlt0⟩ := hcut
    have hweq := hweq.symm
    subst hweq
    have HRC := Lib.hid (HCUT.out i hlt0 hile hnlt0)
    clear HCUT hlt0
    have hsl1 : ∀ X, (Instr.sliceAt 22 (.slice A ks.length a) none (some (.int .i64 (i : Int))) none).run Tryz.prog X = .ok (.slice A i a) X := fun X => slice_to (e := 9) Tryz.underlying22 ⟨1, size_string⟩ (by omega) HAN.out
    obtain ⟨o8, ho8⟩ : ∃ O, O = Obj.cells #[.int .i64 6, .int .i64 0, .string ⟨#[]⟩, .slice none 0 0, .slice none 0 0] 25 := ⟨_, rfl⟩
    have hO9 := empty_own (W.alloc o8) 9 1
    have e9 : (W.alloc o8).heap.size = W.heap.size + 1 := by simp
    rw [e9] at hO9
    have HO9 := Lib.hid hO9
    have HB9 : Hid (Below W.heap.size W ((W.alloc o8).alloc (.cells #[] 9))) := Lib.hid (below2 _ _ _)
    have HX9 : Hid (Box ((W.alloc o8).alloc (.cells #[] 9)) W.heap.size 25 #[.int .i64 6, .int .i64 0, .string ⟨#[]⟩, .slice none 0 0, .slice none 0 0]) := Lib.hid (by rw [ho8]; exact (Box.laid _ _ _).alloc _)
    have hktl : Hid (((kv ks).take i).length = i * 1) := Lib.hid (by rw [List.length_take, kv_length]; omega)
    clear hO9 e9
    subst ho8
    go_wp2_with (at_builtin; refine wpList_append_rs _ rfl (.tmp 26) (.tmp 30) 22 rfl (W.heap.size + 1) 9 i1 (.string ⟨#[]⟩) 1 16 Tryz.underlying22 hi' hz0' hz1' hz2' rfl (by omega) (.slice (some ⟨W.heap.size + 1, 0, none⟩) 0 0) 0 [] rfl HO9.out S A i a ((kv ks).take i) rfl hktl.out ((HA.out.take i).move fun b hb => ⟨hb, by rw [HB9.out.block b (by have := HS.out b hb; omega), HWB.out.block b (HS.out b hb)]⟩) HAN.out (fun u hu => kv_one ks u (List.mem_of_mem_take hu)) ?c3 ?c4 ?c5 ?_)
    case c3 => unfold maxLen; omega
    case c4 => omega
    intro v1 w1 hown1 hgr1
    try simp only [Nat.zero_add, List.nil_append] at hown1
    have hwsz : w.heap.size < W.heap.size := by have := HWS.out; omega
    have HB1 : Hid (Below W.heap.size W w1) := Lib.hid (HB9.out.grown hgr1 (by simp; omega) (fun j hj => by have := (HO9.out.lt j hj).1; omega))
    have HX1 := Lib.hid (HX9.out.grown hgr1 (by simp [Value.ownBlock]))
    have HO1 := Lib.hid hown1
    clear hown1 hgr1 HB9 HO9 HX9
    have hO2 : (w1.alloc (.cells #[.string key] 9)).ownsRow (W.heap.size + 1) 9 1 v1 i ((kv ks).take i) := own_below HO1.out (below1 _ _)
    have HO2 := Lib.hid hO2
    have hR2 : Rs (w1.alloc (.cells #[.string key] 9)) (fun _ => True) (some ⟨w1.heap.size, 0, none⟩) [.string key] := rs_box' (cs := [.string key]) (Box.laid w1 _ _) trivial
    have HR2 := Lib.hid hR2
    clear hO2 hR2
    go_wp2_with (at_builtin; refine wpList_append_rs _ rfl (.tmp 31) (.tmp 33) 22 rfl (W.heap.size + 1) 9 i1 (.string ⟨#[]⟩) 1 16 Tryz.underlying22 hi' hz0' hz1' hz2' rfl (by omega) v1 i _ rfl HO2.out (fun _ => True) (some ⟨w1.heap.size, 0, none⟩) 1 1 [.string key] rfl rfl HR2.out (fun h => by cases h) (one_str key) ?d3 ?d4 ?d5 ?_)
    case d3 => unfold maxLen; omega
    case d4 => omega
    case d5 => have := HB1.out.size; have := HX1.out.lt; simp; omega
    intro v2 w2 hown2 hgr2
    have hkl2 : (kv ks).take i ++ [Value.string key] = kv (ks.take i ++ [key]) := by simp [kv, List.map_take]
    have hkn2 : (ks.take i ++ [key]).length = i + 1 := by simp; omega
    rw [hkl2] at hown2
    have HB2 : Hid (Below W.heap.size W w2) := Lib.hid ((chain HB1.out (below1 _ _)).grown hgr2 (by have := HB1.out.size; simp; omega) (fun j hj => by have := (HO1.out.lt j hj).1; omega))
    have HX2 := Lib.hid ((HX1.out.alloc (.cells #[.string key] 9)).grown hgr2 (fun e => by have := (HO1.out.lt _ e.symm).1; omega))
    obtain ⟨K2, k2, rfl, hK2, hk2n, hk2m, _⟩ := own_open hown2
    have HO2' := Lib.hid hown2
    have HKL2 := Lib.hid hkn2
    clear hown2 hgr2 hkl2 hkn2 HB1 HX1 HO1 HO2 HR2 v3 hsl1
    have x3 := HX2.out.cell (i := 3) rfl
    have z3 := HX2.out.free 3
    obtain ⟨w3, hw3⟩ : ∃ X, X = w2.setCell ⟨W.heap.size, 3, none⟩ (.slice K2 (i + 1) k2) := ⟨_, rfl⟩
    have hB3 : Below W.heap.size W w3 := by rw [hw3]; exact HB2.out.setCell (by simp) _
    have hV3 : Box w3 w.heap.size 25 #[.int .i64 k0, .int .i64 n0, .string s0, .slice A ks.length a, .slice C es.length c] := HWV.out.below hB3 HWV.out.lt
    have hX3 : Box w3 (w.heap.size + 1) 25 #[.int .i64 xk, .int .i64 xn, .string xs0, .slice A2 xks.length a2, .slice C2 xes.length c2] := HWX.out.below hB3 HWX.out.lt
    have hR3 : Box w3 (w.heap.size + 2) 25 #[.int .i64 0, .int .i64 0, .string ⟨#[]⟩, .slice none 0 0, .slice none 0 0] := HWR.out.below hB3 HWR.out.lt
    have hO3 : Box w3 W.heap.size 25 #[.int .i64 6, .int .i64 0, .string ⟨#[]⟩, .slice K2 (i + 1) k2, .slice none 0 0] := by rw [hw3]; exact HX2.out.put 3 (.slice K2 (i + 1) k2)
    have hK3 : w3.ownsRow (W.heap.size + 1) 9 1 (.slice K2 (i + 1) k2) (i + 1) (kv (ks.take i ++ [key])) := by rw [hw3]; exact ownsRow_setCell_below HO2'.out (by simp) _
    have hk3 : ∀ b, b < w.heap.size → w3.heap[b]? = w.heap[b]? := fun b hb => (hB3.block b (by omega)).trans (HWB.out.block b hb)
    go_upto_region 6 with (fail)
    rw [← hw3]
    have HB3 := Lib.hid hB3
    have HV3 := Lib.hid hV3
    have HX3 := Lib.hid hX3
    have HR3 := Lib.hid hR3
    have HO3 := Lib.hid hO3
    have HK3 := Lib.hid hK3
    have Hk3 := Lib.hid hk3
    clear hw3 hB3 hV3 hX3 hR3 hO3 hK3 hk3 x3 z3 HB2 HX2 HO2' hktl
    go_cut [] (fun wx => ∃ (E2 : Option Addr) (f2 : Nat) (ys : List Value), PSt w W S #[.int .i64 k0, .int .i64 n0, .string s0, .slice A ks.length a, .slice C es.length c] (ks.take i ++ [key]) (es.take i ++ [.mk xk xn xs0 xks xes]) (.slice K2 (i + 1) k2) (.slice E2 (i + 1) f2) ys wx)
    case first =>
      rename_i Jm Km hRJ hMet
      have c4 := HV3.out.cell (i := 4) rfl
      obtain ⟨q0, q1, q2, q3, q4⟩ := box5 HX3.out
      have d4 := HO3.out.cell (i := 4) rfl
      have f4 := HO3.out.free 4
      have hsl2 : ∀ X, (Instr.sliceAt 23 (.slice C es.length c) none (some (.int .i64 (i : Int))) none).run Tryz.prog X = .ok (.slice C i c) X := fun X => slice_to (e := 25) Tryz.underlying23 ⟨5, size_value⟩ (by have := HEL.out; omega) HCN.out
      have hW3 : W.heap.size < w3.heap.size := HO3.out.lt
      have hii : (0 : Int) ≤ (i : Int) := by omega
      have hic : (i : Int) ≤ (c : Int) := by have := HEL.out; omega
      obtain ⟨F, hF⟩ : ∃ F, F = Obj.cells #[.int .i64 xk, .int .i64 xn, .string xs0, .slice A2 xks.length a2, .slice C2 xes.length c2] 25 := ⟨_, rfl⟩
      have kA : Hid (Below w3.heap.size w3 (w3.alloc (.cells #[] 25)).drew) := Lib.hid (below_drew' (below1 _ _))
      have kB : Hid (Below w3.heap.size w3 ((w3.alloc (.cells #[] 25)).alloc F).drew) := Lib.hid (below_drew' (below2 _ _ _))
      have kC : Hid (Below w3.heap.size w3 ((w3.alloc F).alloc (.cells #[] 25)).drew) := Lib.hid (below_drew' (below2 _ _ _))
      have OA : Hid ((w3.alloc (.cells #[] 25)).drew.ownsRow w3.heap.size 25 5 (.slice (some ⟨w3.heap.size, 0, none⟩) 0 0) 0 []) := Lib.hid (empty_own w3 25 5)
      have OB : Hid (((w3.alloc (.cells #[] 25)).alloc F).drew.ownsRow w3.heap.size 25 5 (.slice (some ⟨w3.heap.size, 0, none⟩) 0 0) 0 []) := Lib.hid (own_below (empty_own w3 25 5) (below_drew' (below1 _ _)))
      have eF : (w3.alloc F).heap.size = w3.heap.size + 1 := by simp
      have OC0 := empty_own (w3.alloc F) 25 5
      rw [eF] at OC0
      have OC : Hid (((w3.alloc F).alloc (.cells #[] 25)).drew.ownsRow w3.heap.size 25 5 (.slice (some ⟨w3.heap.size + 1, 0, none⟩) 0 0) 0 []) := Lib.hid (Go.Joins.ownsRow_le OC0 (by omega))
      have FB0 := Box.laid (w3.alloc (.cells #[] 25)) 25 #[.int .i64 xk, .int .i64 xn, .string xs0, .slice A2 xks.length a2, .slice C2 xes.length c2]
      rw [show (w3.alloc (.cells #[] 25)).heap.size = w3.heap.size + 1 from by simp, ← hF] at FB0
      have FB : Hid (Box ((w3.alloc (.cells #[] 25)).alloc F).drew (w3.heap.size + 1) 25 #[.int .i64 xk, .int .i64 xn, .string xs0, .slice A2 xks.length a2, .slice C2 xes.length c2]) := Lib.hid FB0
      have FC : Hid (Box ((w3.alloc F).alloc (.cells #[] 25)).drew w3.heap.size 25 #[.int .i64 xk, .int .i64 xn, .string xs0, .slice A2 xks.length a2, .slice C2 xes.length c2]) := Lib.hid (by rw [hF]; exact (Box.laid w3 _ _).alloc _)
      have FD : Hid (∀ X : World, Box (X.alloc F) X.heap.size 25 #[.int .i64 xk, .int .i64 xn, .string xs0, .slice A2 xks.length a2, .slice C2 xes.length c2]) := Lib.hid (fun X => by rw [hF]; exact Box.laid X _ _)
      have hlo : i ≤ es.length := by have := HEL.out; omega
      have hxt : Hid ((xs.take (i * 5)).length = i * 5) := Lib.hid (by rw [List.length_take, HLL.out.len]; omega)
      have HRD : Hid (∀ X, Below w3.heap.size w3 X → Rs X S C (xs.take (i * 5))) := Lib.hid fun X hX => (HC.out.take _).move fun b hb => ⟨hb, (hX.block b (by have := HS.out b hb; omega)).trans (Hk3.out b (HS.out b hb))⟩
      have hone : Hid (∀ u ∈ xs.take (i * 5), u.oneCell' = true) := Lib.hid fun u hu => liesL_one HLL.out u (List.mem_of_mem_take hu)
      have honeF : Hid (∀ u ∈ [Value.int .i64 xk, .int .i64 xn, .string xs0, .slice A2 xks.length a2, .slice C2 xes.length c2], u.oneCell' = true) := Lib.hid (five_one _ _ _ _ _ _ _ _ _)
      have hfin : Hid (∀ (E2 : Option Addr) (f2 : Nat) (w5 : World), Below w3.heap.size w3 w5 → w5.ownsRow w3.heap.size 25 5 (.slice E2 (i + 1) f2) (i + 1) (xs.take (i * 5) ++ [.int .i64 xk, .int .i64 xn, .string xs0, .slice A2 xks.length a2, .slice C2 xes.length c2]) →
          PSt w W S #[.int .i64 k0, .int .i64 n0, .string s0, .slice A ks.length a, .slice C es.length c] (ks.take i ++ [key]) (es.take i ++ [.mk xk xn xs0 xks xes]) (.slice K2 (i + 1) k2) (.slice E2 (i + 1) f2) (xs.take (i * 5) ++ [.int .i64 xk, .int .i64 xn, .string xs0, .slice A2 xks.length a2, .slice C2 xes.length c2]) (w5.setCell ⟨W.heap.size, 4, none⟩ (.slice E2 (i + 1) f2))) := Lib.hid fun E2 f2 w5 hb5 ho5 =>
        PSt.six HWS.out.symm HWB.out HB3.out HV3.out HR3.out HO3.out (by rw [HKL2.out]; exact HK3.out) hb5 (by rw [show (es.take i ++ [V.mk xk xn xs0 xks xes]).length = i + 1 from by simp; omega]; exact Go.Joins.ownsRow_le ho5 (by omega)) ((HLL.out.take i).snoc HXS.out) HS.out
      have keepS : Hid (∀ X, Below w3.heap.size w3 X → X.cell? ⟨w.heap.size, 4, none⟩ = some (.slice C es.length c) ∧ X.cell? ⟨w.heap.size + 1, 0, none⟩ = some (.int .i64 xk) ∧ X.cell? ⟨w.heap.size + 1, 1, none⟩ = some (.int .i64 xn) ∧ X.cell? ⟨w.heap.size + 1, 2, none⟩ = some (.string xs0) ∧ X.cell? ⟨w.heap.size + 1, 3, none⟩ = some (.slice A2 xks.length a2) ∧ X.cell? ⟨w.heap.size + 1, 4, none⟩ = some (.slice C2 xes.length c2)) := Lib.hid fun X hX => by
        have h1 := (box_below HV3.out hX).cell (i := 4) rfl
        obtain ⟨g0, g1, g2, g3, g4⟩ := box5 (box_below HX3.out hX)
        exact ⟨h1, g0, g1, g2, g3, g4⟩
      have keepT : Hid (∀ X u, Below w3.heap.size w3 X → (X.setCell ⟨W.heap.size, 4, none⟩ u).cell? ⟨w.heap.size, 4, none⟩ = some (.slice C es.length c) ∧ (X.setCell ⟨W.heap.size, 4, none⟩ u).cell? ⟨w.heap.size + 1, 0, none⟩ = some (.int .i64 xk) ∧ (X.setCell ⟨W.heap.size, 4, none⟩ u).cell? ⟨w.heap.size + 1, 1, none⟩ = some (.int .i64 xn) ∧ (X.setCell ⟨W.heap.size, 4, none⟩ u).cell? ⟨w.heap.size + 1, 2, none⟩ = some (.string xs0) ∧ (X.setCell ⟨W.heap.size, 4, none⟩ u).cell? ⟨w.heap.size + 1, 3, none⟩ = some (.slice A2 xks.length a2) ∧ (X.setCell ⟨W.heap.size, 4, none⟩ u).cell? ⟨w.heap.size + 1, 4, none⟩ = some (.slice C2 xes.length c2)) := Lib.hid fun X u hX => by
        have := HWS.out
        have h1 := ((box_below HV3.out hX).far (p := ⟨W.heap.size, 4, none⟩) (by simp; omega) u).cell (i := 4) rfl
        obtain ⟨g0, g1, g2, g3, g4⟩ := box5 ((box_below HX3.out hX).far (p := ⟨W.heap.size, 4, none⟩) (by simp; omega) u)
        exact ⟨h1, g0, g1, g2, g3, g4⟩
      have keepO : Hid (∀ X, Below w3.heap.size w3 X → X.cell? ⟨W.heap.size, 4, none⟩ = some (.slice none 0 0) ∧ X.frozen? ⟨W.heap.size, 4, none⟩ = false) := Lib.hid fun X hX => ⟨(box_below HO3.out hX).cell (i := 4) rfl, (box_below HO3.out hX).free 4⟩
      clear FB0 OC0 eF
      go_region_held3 (fun w' => w'.cell? ⟨w.heap.size, 4, none⟩ = some (.slice C es.length c) ∧ w'.cell? ⟨w.heap.size + 1, 0, none⟩ = some (.int .i64 xk) ∧ w'.cell? ⟨w.heap.size + 1, 1, none⟩ = some (.int .i64 xn) ∧ w'.cell? ⟨w.heap.size + 1, 2, none⟩ = some (.string xs0) ∧ w'.cell? ⟨w.heap.size + 1, 3, none⟩ = some (.slice A2 xks.length a2) ∧ w'.cell? ⟨w.heap.size + 1, 4, none⟩ = some (.slice C2 xes.length c2)) (first | exact keepT.out _ _ hb5 | exact keepS.out _ hb5 | exact keepS.out _ hb4 | exact keepS.out _ (chain hb4 (below1 _ _)) | exact keepS.out _ kA.out | exact keepS.out _ kB.out | exact keepS.out _ kC.out | go_keep)
        (first
          | (refine step_append_rs _ rfl (.tmp 36) (.tmp 40) 23 (by rfl) w3.heap.size 25 i0 zeroVal 5 80 Tryz.underlying23 hi hz0 hz1 hz2 rfl (by omega) (.slice (some ⟨w3.heap.size, 0, none⟩) 0 0) 0 [] (by rfl) OA.out S C i c (xs.take (i * 5)) (by rfl) hxt.out (HRD.out _ kA.out) HCN.out hone.out (by unfold maxLen; omega) (by omega) (by first | (simp; done) | (simp; omega)) ?_; intro v4 w4 hown4 hgr4; have hb4 := kA.out.grown hgr4 (by first | (simp; done) | (simp; omega)) (fun j hj => (OA.out.lt j hj).1); simp only [Nat.zero_add, List.nil_append] at hown4)
          | (refine step_append_rs _ rfl (.tmp 36) (.tmp 40) 23 (by rfl) w3.heap.size 25 i0 zeroVal 5 80 Tryz.underlying23 hi hz0 hz1 hz2 rfl (by omega) (.slice (some ⟨w3.heap.size, 0, none⟩) 0 0) 0 [] (by rfl) (by rw [← hF]; exact OB.out) S C i c (xs.take (i * 5)) (by rfl) hxt.out (by rw [← hF]; exact HRD.out _ kB.out) HCN.out hone.out (by unfold maxLen; omega) (by omega) (by first | (simp; done) | (simp; omega)) ?_; rw [← hF]; intro v4 w4 hown4 hgr4; have hb4 := kB.out.grown hgr4 (by first | (simp; done) | (simp; omega)) (fun j hj => (OB.out.lt j hj).1); have hF4 := FB.out.grown hgr4 (by simp [Value.ownBlock]); simp only [Nat.zero_add, List.nil_append] at hown4)
          | (refine step_append_rs _ rfl (.tmp 36) (.tmp 40) 23 (by rfl) w3.heap.size 25 i0 zeroVal 5 80 Tryz.underlying23 hi hz0 hz1 hz2 rfl (by omega) (.slice (some ⟨w3.heap.size + 1, 0, none⟩) 0 0) 0 [] (by rfl) (by rw [← hF]; exact OC.out) S C i c (xs.take (i * 5)) (by rfl) hxt.out (by rw [← hF]; exact HRD.out _ kC.out) HCN.out hone.out (by unfold maxLen; omega) (by omega) (by first | (simp; done) | (simp; omega)) ?_; rw [← hF]; intro v4 w4 hown4 hgr4; have hb4 := kC.out.grown hgr4 (by first | (simp; done) | (simp; omega)) (fun j hj => (OC.out.lt j hj).1); have hF4 := FC.out.grown hgr4 (by simp [Value.ownBlock]); simp only [Nat.zero_add, List.nil_append] at hown4)
          | (refine step_append_rs _ rfl (.tmp 41) (.tmp 43) 23 (by rfl) w3.heap.size 25 i0 zeroVal 5 80 Tryz.underlying23 hi hz0 hz1 hz2 rfl (by omega) v4 i (xs.take (i * 5)) (by rfl) (own_below hown4 (below1 _ _)) (fun _ => True) (some ⟨w4.heap.size, 0, none⟩) 1 1 [.int .i64 xk, .int .i64 xn, .string xs0, .slice A2 xks.length a2, .slice C2 xes.length c2] (by rfl) (by rfl) (by rw [← hF]; exact rs_box' (cs := [.int .i64 xk, .int .i64 xn, .string xs0, .slice A2 xks.length a2, .slice C2 xes.length c2]) (FD.out w4) trivial) (fun h => by cases h) honeF.out (by unfold maxLen; omega) (by omega) (by have := hb4.size; simp; omega) ?_; rw [← hF]; intro v5 w5 hown5 hgr5; have hb5 := (chain hb4 (below1 w4 F)).grown hgr5 (by have := hb4.size; simp; omega) (fun j hj => (hown4.lt j hj).1); obtain ⟨E2, f2, rfl, -, -, -, -⟩ := own_open hown5; have hp := Lib.hid (hfin.out E2 f2 w5 hb5 hown5); obtain ⟨d5, f5⟩ := keepO.out w5 hb5)
          | (refine step_append_rs _ rfl (.tmp 41) (.tmp 43) 23 (by rfl) w3.heap.size 25 i0 zeroVal 5 80 Tryz.underlying23 hi hz0 hz1 hz2 rfl (by omega) v4 i (xs.take (i * 5)) (by rfl) hown4 (fun _ => True) _ 1 1 [.int .i64 xk, .int .i64 xn, .string xs0, .slice A2 xks.length a2, .slice C2 xes.length c2] (by rfl) (by rfl) (rs_box' (cs := [.int .i64 xk, .int .i64 xn, .string xs0, .slice A2 xks.length a2, .slice C2 xes.length c2]) hF4 trivial) (fun h => by cases h) honeF.out (by unfold maxLen; omega) (by omega) (by have := hb4.size; omega) ?_; intro v5 w5 hown5 hgr5; have hb5 := hb4.grown hgr5 (by have := hb4.size; omega) (fun j hj => (hown4.lt j hj).1); obtain ⟨E2, f2, rfl, -, -, -, -⟩ := own_open hown5; have hp := Lib.hid (hfin.out E2 f2 w5 hb5 hown5); obtain ⟨d5, f5⟩ := keepO.out w5 hb5))
      all_goals
        refine hMet _ _ (Met.intro (hRJ _ _ ?_))
        (repeat apply Exists.intro)
        exact ⟨⟨_, _, _, hp.out⟩, rfl⟩
    case rest =>
      obtain ⟨E2, f2, ys, hps⟩ := hcut
      have HP := Lib.hid hps
      clear hps HB3 HV3 HX3 HR3 HO3 HK3 Hk3
      have hsizes : Hid (∀ y ∈ ks, y.size ≤ 140737488355328) := Lib.hid (by have h := HVS.out; rw [Lies] at h; exact h.1.2.1)
      have v3 := HP.out.vb.cell (i := 3) rfl
      have key_cases : ∃ j : Nat, j ≤ ks.length ∧ i ≤ j ∧ R = .mk 6 0 ⟨#[]⟩ (ks.take i ++ key :: ks.drop j) (es.take i ++ .mk xk xn xs0 xks xes :: es.drop j) ∧ ((j = i ∧ ¬ ks[i]? = some key) ∨ (j = i + 1 ∧ ks[i]? = some key)) := by
        have h := HRC.out
        by_cases e : ks[i]? = some key
        · rw [if_pos e] at h
          exact ⟨i + 1, (List.getElem?_eq_some_iff.1 e).1, by omega, h, .inr ⟨rfl, e⟩⟩
        · rw [if_neg e] at h
          exact ⟨i, hile, Nat.le_refl _, h, .inl ⟨rfl, e⟩⟩
      obtain ⟨j, hjl, hij, hRj, hjc⟩ := key_cases
      have HRJ := Lib.hid hRj
      have HJC := Lib.hid hjc
      clear hRj hjc HRC
      have hsl3 : ∀ X, (Instr.sliceAt 22 (.slice A ks.length a) (some (.int .i64 (j : Int))) none none).run Tryz.prog X = .ok (.slice (dropA A a j 1) (ks.length - j) (a - j)) X := fun X => slice_from (e := 9) Tryz.underlying22 size_string hjl
      have hjl2 : j ≤ es.length := by have := HEL.out; omega
      have hsl4 : ∀ X, (Instr.sliceAt 23 (.slice C es.length c) (some (.int .i64 (j : Int))) none none).run Tryz.prog X = .ok (.slice (dropA C c j 5) (es.length - j) (c - j)) X := fun X => slice_from (e := 25) Tryz.underlying23 size_value hjl2
      have HSL3 := Lib.hid hsl3
      have HSL4 := Lib.hid hsl4
      clear hsl3 hsl4
      have hij1 : (i : Int) = (j : Int) ∨ (i : Int) + 1 = (j : Int) := by have := HJC.out; omega
      have hb0s : Hid (∀ (y : ByteArray), ks[i]? = some y → ∃ b0 o0, A = some ⟨b0, o0, none⟩ ∧ wc.cell? ⟨b0, o0 + i, none⟩ = some (.string y)) := Lib.hid fun y hy => by
        obtain ⟨b0, o0, hAe, hb0, hc0⟩ := HA.out.at_ (kv_at hy)
        exact ⟨b0, o0, hAe, below_cell HP.out.below (HS.out b0 hb0) hc0⟩
      have hway : (i < ks.length ∧ ks[i]? = some key ∧ (i : Int) + 1 = (j : Int)) ∨ (i < ks.length ∧ (∃ y, ks[i]? = some y ∧ ¬ scmp y key = 0) ∧ (i : Int) = (j : Int)) ∨ (¬ i < ks.length ∧ (i : Int) = (j : Int)) := by
        rcases HJC.out with ⟨hji, hne⟩ | ⟨hji, heq⟩
        · by_cases hlt : i < ks.length
          · refine .inr (.inl ⟨hlt, ⟨ks[i], List.getElem?_eq_getElem hlt, fun h => hne ?_⟩, by omega⟩)
            rw [List.getElem?_eq_getElem hlt, (scmp_zero _ _).1 h]
          · exact .inr (.inr ⟨hlt, by omega⟩)
        · exact .inl ⟨(List.getElem?_eq_some_iff.1 heq).1, heq, by omega⟩
      have HW := Lib.hid hway
      clear hway hij1
      have hkn := HKL2.out
      have HK := HP.out.keys
      have HE := HP.out.elems
      rw [hkn] at HK
      clear hkn
      have HKD : Hid (wc.drew.ownsRow (W.heap.size + 1) 9 1 (.slice K2 (i + 1) k2) (i + 1) (kv (ks.take i ++ [key]))) := Lib.hid HK
      have HRK : Hid (∀ X, Below w.heap.size w X → Rs X S (dropA A a j 1) ((kv ks).drop (j * 1))) := Lib.hid fun X hX => (HA.out.drop a j 1 ks.length (by rw [kv_length]; omega) ha1 hjl).move fun b hb => ⟨hb, hX.block b (HS.out b hb)⟩
      have HNK : Hid (dropA A a j 1 = none → a - j = 0) := Lib.hid fun h => by have := HAN.out (dropA_none h); omega
      have hlK : Hid (((kv ks).drop (j * 1)).length = (ks.length - j) * 1) := Lib.hid (by rw [List.length_drop, kv_length]; omega)
      have h1K : Hid (∀ u ∈ (kv ks).drop (j * 1), u.oneCell' = true) := Lib.hid fun u hu => kv_one ks u (List.mem_of_mem_drop hu)
      have HB0 : Hid (Below w.heap.size w wc.drew) := Lib.hid (below_drew' HP.out.below)
      have o3 := HP.out.ob.cell (i := 3) rfl
      have f3 := HP.out.ob.free 3
      have hwW : w.heap.size < W.heap.size := by have := HWS.out; omega
      have hWc : W.heap.size < wc.heap.size := HP.out.ob.lt
      clear HK HE
      have hsl3 := HSL3.out
      rcases HW.out with ⟨hlt, heq, hjj⟩ | ⟨hlt, ⟨y, hy, hyn⟩, hjj⟩ | ⟨hlt, hjj⟩
      case' inl =>
        have HJJ := Lib.hid hjj
        clear hjj
        obtain ⟨b0, o0, hAe, hcx⟩ := hb0s.out key heq
        subst hAe
        have hbq : (key.toList == key.toList) = true := by rw [same_eq, scmp_self]; rfl
        clear heq
        go_upto_region 9 with (fail)
      case' inr.inl =>
        have HJJ := Lib.hid hjj
        clear hjj
        obtain ⟨b0, o0, hAe, hcx⟩ := hb0s.out y hy
        subst hAe
        have hbq : (y.toList == key.toList) = false := by rw [same_eq, decide_eq_false hyn]
        clear hy hyn
        go_upto_region 9 with (fail)
      case' inr.inr =>
        have HJJ := Lib.hid hjj
        clear hjj
        go_upto_region 9 with (fail)
      all_goals
        simp only [HJJ.out]
        go_wp2_with fail
        go_still_tail 6, (by kernel_rfl)
        change wpList _ _ _ _ _ wc.drew
        go_wp2_with (at_builtin; refine wpList_append_rs _ rfl (.tmp 63) (.tmp 67) 22 rfl (W.heap.size + 1) 9 i1 (.string ⟨#[]⟩) 1 16 Tryz.underlying22 hi' hz0' hz1' hz2' rfl (by omega) (.slice K2 (i + 1) k2) (i + 1) (kv (ks.take i ++ [key])) rfl HKD.out S _ (ks.length - j) (a - j) ((kv ks).drop (j * 1)) rfl hlK.out (HRK.out _ HB0.out) HNK.out h1K.out ?_ ?_ ?_ ?_)
        · unfold maxLen; omega
        · omega
        · simp; omega
        intro v5 w5 hown5 hgr5
        have hg0 : wc.grownBy wc.drew (Value.slice K2 (i + 1) k2).ownBlock := ⟨rfl, rfl, rfl, Nat.le_refl _, fun _ _ _ => rfl⟩
        have hg5 : wc.grownBy w5 (Value.slice K2 (i + 1) k2).ownBlock := grown_trans hg0 hgr5
        obtain ⟨K5, k5, rfl, -, -, -, -⟩ := own_open hown5
        have hkv : kv (ks.take i ++ [key]) ++ (kv ks).drop j = kv (ks.take i ++ key :: ks.drop j) := by simp [kv, List.map_drop]
        try simp only [Nat.mul_one] at hown5
        have hkn : i + 1 + (ks.length - j) = (ks.take i ++ key :: ks.drop j).length := by simp; omega
        rw [hkv] at hown5
        have HKN := Lib.hid hkn
        have HP5 := Lib.hid (PSt.addK (kl' := ks.take i ++ key :: ks.drop j) HP.out HWS.out.symm HS.out hg5 (by rw [← HKN.out]; exact hown5))
        have o3' := (HP.out.ob.grown hg5 (fun e => by have := (HP.out.keys.lt _ e.symm).1; omega)).cell (i := 3) rfl
        have f3' := (HP.out.ob.grown hg5 (fun e => by have := (HP.out.keys.lt _ e.symm).1; omega)).free 3
        clear hown5 hgr5 hg5 hkv hkn o3 f3 v3 hsl3
        go_upto_region 10 with (fail)
        obtain ⟨w6, hw6⟩ : ∃ X, X = w5.setCell ⟨W.heap.size, 3, none⟩ (.slice K5 (i + 1 + (ks.length - j)) k5) := ⟨_, rfl⟩
        rw [← hw6] at HP5 ⊢
        clear hw6 o3' f3'
        have hel1 : (es.take i ++ [V.mk xk xn xs0 xks xes]).length = i + 1 := by have := HEL.out; simp; omega
        have HE := HP5.out.elems
        rw [hel1] at HE
        have HED : Hid (w6.drew.ownsRow (W.heap.size + 1) 25 5 (.slice E2 (i + 1) f2) (i + 1) ys) := Lib.hid HE
        have HRE : Hid (∀ X, Below w.heap.size w X → Rs X S (dropA C c j 5) (xs.drop (j * 5))) := Lib.hid fun X hX => (HC.out.drop c j 5 es.length HLL.out.len hc1 hjl2).move fun b hb => ⟨hb, hX.block b (HS.out b hb)⟩
        have HNE : Hid (dropA C c j 5 = none → c - j = 0) := Lib.hid fun h => by have := HCN.out (dropA_none h); omega
        have hlE : Hid ((xs.drop (j * 5)).length = (es.length - j) * 5) := Lib.hid (by rw [List.length_drop, HLL.out.len]; omega)
        have h1E : Hid (∀ u ∈ xs.drop (j * 5), u.oneCell' = true) := Lib.hid fun u hu => liesL_one HLL.out u (List.mem_of_mem_drop hu)
        have HB6 : Hid (Below w.heap.size w w6.drew) := Lib.hid (below_drew' HP5.out.below)
        have o4 := HP5.out.ob.cell (i := 4) rfl
        have f4 := HP5.out.ob.free 4
        have v4 := HP5.out.vb.cell (i := 4) rfl
        have hW6 : W.heap.size < w6.heap.size := HP5.out.ob.lt
        have hsl4 := HSL4.out
        have hesn : es.length ≤ 1000000 := by have := HEL.out; omega
        clear HE hel1
        go_wp2_with fail
        go_still_tail 6, (by kernel_rfl)
        change wpList _ _ _ _ _ w6.drew
        go_wp2_with (at_builtin; refine wpList_append_rs _ rfl (.tmp 71) (.tmp 75) 23 rfl (W.heap.size + 1) 25 i0 zeroVal 5 80 Tryz.underlying23 hi hz0 hz1 hz2 rfl (by omega) (.slice E2 (i + 1) f2) (i + 1) ys rfl HED.out S _ (es.length - j) (c - j) (xs.drop (j * 5)) rfl hlE.out (HRE.out _ HB6.out) HNE.out h1E.out ?_ ?_ ?_ ?_)
        · unfold maxLen; omega
        · omega
        · simp; omega
        intro v7 w7 hown7 hgr7
        have hg0 : w6.grownBy w6.drew (Value.slice E2 (i + 1) f2).ownBlock := ⟨rfl, rfl, rfl, Nat.le_refl _, fun _ _ _ => rfl⟩
        have hg7 : w6.grownBy w7 (Value.slice E2 (i + 1) f2).ownBlock := grown_trans hg0 hgr7
        obtain ⟨E7, k7, rfl, -, -, -, -⟩ := own_open hown7
        have hen : i + 1 + (es.length - j) = (es.take i ++ V.mk xk xn xs0 xks xes :: es.drop j).length := by simp; omega
        have HEN := Lib.hid hen
        have hL7 : LiesL w S (es.take i ++ V.mk xk xn xs0 xks xes :: es.drop j) (ys ++ xs.drop (j * 5)) := by
          have h1 := (HP5.out.lies.move (S' := S) (w' := w) fun b hb => ⟨hb, (HP5.out.below.block b (HS.out b hb)).symm⟩).append (HLL.out.drop j)
          rw [show es.take i ++ V.mk xk xn xs0 xks xes :: es.drop j = (es.take i ++ [V.mk xk xn xs0 xks xes]) ++ es.drop j from by simp]
          exact h1
        have HP8 := Lib.hid (PSt.addE (el' := es.take i ++ V.mk xk xn xs0 xks xes :: es.drop j) HP5.out HWS.out.symm HS.out hg7 (by rw [← HEN.out]; exact hown7) hL7)
        have o4' := (HP5.out.ob.grown hg7 (fun e => by have := (HP5.out.elems.lt _ e.symm).1; omega)).cell (i := 4) rfl
        have f4' := (HP5.out.ob.grown hg7 (fun e => by have := (HP5.out.elems.lt _ e.symm).1; omega)).free 4
        clear hown7 hgr7 hg7 hg0 hen hL7 o4 f4 v4 hsl4
        go_upto_region 11 with (fail)
        obtain ⟨w8, hw8⟩ : ∃ X, X = w7.setCell ⟨W.heap.size, 4, none⟩ (.slice E7 (i + 1 + (es.length - j)) k7) := ⟨_, rfl⟩
        rw [← hw8] at HP8 ⊢
        clear hw8 o4' f4'
        obtain ⟨t0, t1, t2, t3, t4⟩ := box5 HP8.out.ob
        obtain ⟨r0, r1, r2, r3, r4⟩ := box5 HP8.out.rb
        have z0 := HP8.out.rb.free 0
        have z1 := HP8.out.rb.free 1
        have z2 := HP8.out.rb.free 2
        have z3 := HP8.out.rb.free 3
        have z4 := HP8.out.rb.free 4
        go_wp2_with fail
        refine bodyPost_ret (v := .agg #[.int .i64 6, .int .i64 0, .string ⟨#[]⟩, .slice K5 (i + 1 + (ks.length - j)) k5, .slice E7 (i + 1 + (es.length - j)) k7]) (by simp [results, Tryz.results176, go_sem, r0, r1, r2, r3, r4]) rfl ?_
        have hsz8 : ∀ y ∈ ks.take i ++ key :: ks.drop j, y.size ≤ 140737488355328 := by
          intro y hy
          rcases List.mem_append.1 hy with hy | hy
          · exact hsizes.out y (List.mem_of_mem_take hy)
          · rcases List.mem_cons.1 hy with rfl | hy
            · exact hk
            · exact hsizes.out y (List.mem_of_mem_drop hy)
        have hlo := HP8.out.out HWS.out.symm HKN.out HEN.out hsz8 (by have := HKN.out; omega) (by have := HEN.out; omega)
        refine ⟨below_five_at (by omega) HP8.out.below _ _ _ _ _, [.int .i64 6, .int .i64 0, .string ⟨#[]⟩, .slice K5 (i + 1 + (ks.length - j)) k5, .slice E7 (i + 1 + (es.length - j)) k7], rfl, ?_⟩
        rw [HRJ.out]
        refine hlo.move fun b hb => ?_
        have hne : b ≠ w.heap.size + 1 + 1 := by
          rcases hb with h | h
          · have := HS.out b h; omega
          · omega
        refine ⟨hb.imp id fun h => ⟨h.1, by have := h.2; simp [World.setCell]; omega⟩, ?_⟩
        rw [Below.heap_setCell _ _ _ _ (by simpa using hne), Below.heap_setCell _ _ _ _ (by simpa using hne), Below.heap_setCell _ _ _ _ (by simpa using hne), Below.heap_setCell _ _ _ _ (by simpa using hne), Below.heap_setCell _ _ _ _ (by simpa using hne)]
end Go.Proofs.YtgdnkankleoaoaaGreatDoor
namespace Go.Proofs.YtgdnkankleoaoaaGreatDoor
open Go.RowKit Go.Sort
theorem putP_len {k : ByteArray} {x : V} : ∀ ps : PL, (putP ps k x).length ≤ ps.length + 1
  | [] => by simp [putP]
  | (y, v) :: r => by
    rw [putP]
    split
    · have := putP_len (k := k) (x := x) r
      simp only [List.length_cons]; omega
    · split <;> simp
/-- The state of the loop that puts. -/
structure RSt (w0 : World) (g : Nat) (ps : PL) (cs : List Value) (w : World) : Prop where
  below : Below w0.heap.size w0 w
  res : Box w w0.heap.size 25 #[.int .i64 0, .int .i64 0, .string ⟨#[]⟩, .slice none 0 0, .slice none 0 0]
  box : Box w g 25 cs.toArray
  gt : w0.heap.size < g
  lies : Lies w (fun b => b < w0.heap.size ∨ (g < b ∧ b < w.heap.size)) (objL ps) cs
theorem RSt.step {w0 w w' : World} {g : Nat} {ps ps' : PL} {u0 u1 u2 u3 u4 v0 v1 v2 v3 v4 : Value} (h : RSt w0 g ps [u0, u1, u2, u3, u4] w) (hb : Below w.heap.size w w')
    (hl : Lies w' (fun b => (b < w0.heap.size ∨ (g < b ∧ b < w.heap.size)) ∨ (w.heap.size + 3 < b ∧ b < w'.heap.size)) (objL ps') [v0, v1, v2, v3, v4]) :
    RSt w0 g ps' [v0, v1, v2, v3, v4] (((((w'.setCell ⟨g, 0, none⟩ v0).setCell ⟨g, 1, none⟩ v1).setCell ⟨g, 2, none⟩ v2).setCell ⟨g, 3, none⟩ v3).setCell ⟨g, 4, none⟩ v4) := by
  have hgt := h.gt
  have hgl := h.box.lt
  have hbx := box_below h.box hb
  have hrs := box_below h.res hb
  refine ⟨below_five_at (by omega) (chain h.below hb) _ _ _ _ _, ((((hrs.far (by simp; omega) _).far (by simp; omega) _).far (by simp; omega) _).far (by simp; omega) _).far (by simp; omega) _, ((((hbx.put 0 v0).put 1 v1).put 2 v2).put 3 v3).put 4 v4, hgt, hl.move fun b hb' => ?_⟩
  have hsz := hb.size
  have hne : b ≠ g := by omega
  refine ⟨?_, ?_⟩
  · rcases hb' with h1 | h1
    · rcases h1 with h1 | h1
      · exact .inl h1
      · exact .inr ⟨h1.1, by have := h1.2; simp [World.setCell]; omega⟩
    · exact .inr ⟨by omega, by have := h1.2; simp [World.setCell]; omega⟩
  · rw [Below.heap_setCell _ _ _ _ (by simpa using hne), Below.heap_setCell _ _ _ _ (by simpa using hne), Below.heap_setCell _ _ _ _ (by simpa using hne), Below.heap_setCell _ _ _ _ (by simpa using hne), Below.heap_setCell _ _ _ _ (by simpa using hne)]
theorem put_open {f : FuncId} {args : Array Value} {W : World} {T : Nat → Prop} {v : V} (h : Calls Tryz.prog f args W fun e w' => Below W.heap.size W w' ∧ ∃ qs : List Value, e = .returned (.agg qs.toArray) ∧ Lies w' (fun b => T b ∨ (W.heap.size + 3 < b ∧ b < w'.heap.size)) v qs) :
    Calls Tryz.prog f args W fun e w' => Below W.heap.size W w' ∧ ∃ (k n : Int) (s : ByteArray) (ks : List ByteArray) (es : List V) (A : Option Addr) (a : Nat) (C : Option Addr) (c : Nat), e = .returned (.agg #[.int .i64 k, .int .i64 n, .string s, .slice A ks.length a, .slice C es.length c]) ∧
      Lies w' (fun b => T b ∨ (W.heap.size + 3 < b ∧ b < w'.heap.size)) v [.int .i64 k, .int .i64 n, .string s, .slice A ks.length a, .slice C es.length c] := by
  refine h.mono fun e w' ⟨hb, qs, he, hl⟩ => ⟨hb, ?_⟩
  subst he
  obtain ⟨k, n, s, ks, es⟩ := v
  have hl2 := hl
  rw [Lies] at hl2
  obtain ⟨_, A, a, C, c, ys, rfl, _⟩ := hl2
  exact ⟨k, n, s, ks, es, A, a, C, c, rfl, hl⟩
end Go.Proofs.YtgdnkankleoaoaaGreatDoor

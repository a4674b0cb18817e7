/- slices.DeleteFunc at values, over the closure of arith.without: the walk. slices.Clone at values, and arith.without. arith.without. -/
import Derived.Test.YtjafmdngbphacaaGreatDoorM36
import Derived.Test.YtjafmdngbphacaaGreatDoorM26
import Derived.Lib.SliceRun
set_option linter.unusedVariables false
set_option linter.unusedSimpArgs false
namespace Go.Proofs.YtjafmdngbphacaaGreatDoor
open Go.RowKit Go.Shelf Go.Sort
theorem flat_take : ∀ (ys : List Fv) (i : Nat), i ≤ ys.length → (ys.flatMap Fv.cs).take (i * 5) = (ys.take i).flatMap Fv.cs
  | ys, 0, _ => by simp
  | [], i + 1, h => by simp at h
  | y :: r, i + 1, h => by
    have ih := flat_take r i (by simpa using h)
    rw [List.flatMap_cons, List.take_succ_cons, List.flatMap_cons, ← ih, show (i + 1) * 5 = y.cs.length + i * 5 by rw [Fv.len]; omega, List.take_length_add_append]
theorem row_own {w : World} {base g n cap : Nat} {e : TypeId} {ys : List Fv} (h : w.ownsRow base e 5 (.slice (some ⟨g, 0, none⟩) n cap) n (ys.flatMap Fv.cs)) : FvRow w.heap.size w (some ⟨g, 0, none⟩) ys := by
  have h1 := h.1
  rw [flat_len] at h1
  intro j x hx
  have hjl : j < ys.length := (List.getElem?_eq_some_iff.1 hx).1
  have hyy : ys[j]! = x := by rw [getElem!_def, hx]
  have c : ∀ c, c < 5 → w.cell? ⟨g, 0 + j * 5 + c, none⟩ = some (x.cs[c]!) := fun c hc => by
    rw [Nat.zero_add, h.cellAt (j * 5 + c) (by omega), flat_get _ _ (by omega), show (j * 5 + c) / 5 = j by omega, show (j * 5 + c) % 5 = c by omega, hyy]
  exact ⟨g, 0, rfl, (h.lt g rfl).2, c 0 (by omega), c 1 (by omega), c 2 (by omega), c 3 (by omega), c 4 (by omega)⟩
/-- What DeleteFunc hands back. -/
def DelOf (base g cap : Nat) (gone l : List (V × Fv)) (w : World) (e : Ending) (w' : World) : Prop :=
  ∃ i : Nat, e = .returned (.slice (some ⟨g, 0, none⟩) i cap) ∧ i = (keptL gone l).length ∧ w'.ownsRow base 25 5 (.slice (some ⟨g, 0, none⟩) i cap) i (((keptL gone l).map Prod.snd).flatMap Fv.cs) ∧ Below base w w' ∧ w.heap.size ≤ w'.heap.size
theorem del_start {base g cap k : Nat} {gone l : List (V × Fv)} {w w' : World} (hown : w.ownsRow base 25 5 (.slice (some ⟨g, 0, none⟩) l.length cap) l.length ((l.map Prod.snd).flatMap Fv.cs)) (hb : Below w.heap.size w w') (hB : base ≤ w.heap.size) (hk : k < l.length)
    (h1 : ∀ j p, j < k → l[j]? = some p → goneB gone p.1 = false) (h2 : ∀ p, l[k]? = some p → goneB gone p.1 = true) : DelSt base g cap gone l w w' k (k + 1) (l.map Prod.snd) := by
  refine ⟨own_belowV hown hb, by rw [List.length_map], ?_, rfl, by omega, by omega, hb.mono hB, hb.size⟩
  rw [kept_step (List.getElem?_eq_getElem hk), if_pos (h2 _ (List.getElem?_eq_getElem hk)), List.append_nil, kept_all, List.map_take]
  intro p hp
  obtain ⟨j, hj⟩ := List.getElem?_of_mem hp
  rw [List.getElem?_take] at hj
  split at hj
  · exact h1 j p (by assumption) hj
  · cases hj
theorem del_end {base g cap i : Nat} {gone l : List (V × Fv)} {w0 w : World} {ys : List Fv} (h : DelSt base g cap gone l w0 w i l.length ys) (vs : List Value) : DelOf base g cap gone l w0 (.returned (.slice (some ⟨g, 0, none⟩) i cap)) (w.setCells g (i * 5) vs) := by
  have hij := h.ij
  have hl := h.len
  have hh := h.head
  rw [List.take_length] at hh
  have hlen : i = (keptL gone l).length := by
    have := congrArg List.length hh
    rw [List.length_map, List.length_take, Nat.min_eq_left (by omega)] at this
    exact this
  have h1 := own_beyond vs w (i * 5) (own_short h.own (Nat.le_of_lt hij)) (Nat.le_refl _)
  rw [flat_take _ _ (by omega), hh] at h1
  exact ⟨i, rfl, hlen, h1, below_cells _ _ _ h.below h.glt.1, by rw [size_setCells]; exact h.size⟩
set_option maxHeartbeats 2000000 in
set_option maxRecDepth 100000 in
theorem delf_any (base g cap S : Nat) (gone l : List (V × Fv)) (w : World) (hown : w.ownsRow base 25 5 (.slice (some ⟨g, 0, none⟩) l.length cap) l.length ((l.map Prod.snd).flatMap Fv.cs)) (hlen : l.length ≤ 1000000) (hG : GoneAt base S gone l w) :
    Calls Tryz.prog 172 #[.slice (some ⟨g, 0, none⟩) l.length cap, .func (.func 173) #[] #[.pointer (some ⟨S, 0, none⟩)]] w (DelOf base g cap gone l w) := by
  have hB : base ≤ w.heap.size := by have := hown.lt g rfl; omega
  have hcap : l.length ≤ cap := by
    rcases hown.2 with ⟨h0, _⟩ | ⟨g', cap', cur, hv, _, _, hnc, _⟩
    · cases h0
    · cases hv; exact hnc
  have HIX := Lib.hid (idxf_any (some ⟨g, 0, none⟩) cap S base gone l w hB (row_own hown) hlen hG)
  have HO := Lib.hid hown
  have HG := Lib.hid hG
  have HB := Lib.hid hB
  clear hown hG hB
  go_enter Tryz.func172, Tryz.ntmps172
  go_wp2_with fail
  refine HIX.out.mono ?_
  rintro e w1 ⟨hsays, hb1⟩
  have HB1 := Lib.hid hb1
  clear HIX hb1
  rcases hsays with ⟨k, hk, h1, h2, rfl⟩ | ⟨hall, rfl⟩
  · have HD := Lib.hid (del_start HO.out HB1.out HB.out hk h1 h2)
    have hk1 : ¬ ((k : Int) = -1) := by omega
    have hk2 : ((k : Int) == -1) = false := by simp
    clear h1 h2 HB1
    go_wp2_with fail
    go_loopg [5, 6] l.length (fun gg s5 s6 wr => ∃ (i j : Nat) (ys : List Fv), s5 = .int .i64 i ∧ s6 = .int .i64 j ∧ l.length - j ≤ gg ∧ Hid (DelSt base g cap gone l w wr i j ys))
    case atStart => exact ⟨k, k + 1, _, rfl, by first | rfl | go_num, by omega, HD⟩
    case round =>
      clear HD
      obtain ⟨i, j, ys, rfl, rfl, hg, HD⟩ := hrel
      have hij := HD.out.ij
      have hjn := HD.out.jn
      by_cases hlt : j < l.length
      · obtain ⟨⟨pv, xk, xn, xs, xA, xla, xa, xC, xlc, xc⟩, hp⟩ : ∃ p, l[j]? = some p := ⟨_, List.getElem?_eq_getElem hlt⟩
        have HP := Lib.hid hp
        obtain ⟨f0, f1, f2, f3, f4⟩ := HD.out.five hp
        simp only at f0 f1 f2 f3 f4
        have hbz : Below wr.heap.size wr (wr.alloc (.cells #[.int .i64 xk, .int .i64 xn, .string xs, .slice xA xla xa, .slice xC xlc xc] 25)) := (Go.RowKit.Below.refl _ wr).alloc (Nat.le_refl _) _
        have hwB : base ≤ wr.heap.size := Nat.le_trans HB.out HD.out.size
        have HD1 := Lib.hid (HD.out.next hbz hwB)
        have HC := Lib.hid (HG.out _ HD1.out.below HD1.out.size pv xk xn xs xA xla xa xC xlc xc (List.mem_of_getElem? hp))
        have HBX := Lib.hid (Box.laid wr 25 #[.int .i64 xk, .int .i64 xn, .string xs, .slice xA xla xa, .slice xC xlc xc])
        have hj0 : (0 : Int) ≤ (j : Int) := by omega
        have hjl : (j : Int) < (l.length : Int) := by omega
        have hi0 : (0 : Int) ≤ (i : Int) := by omega
        have hil : (i : Int) < (l.length : Int) := by omega
        have HWB := Lib.hid (show base ≤ (wr.alloc (.cells #[.int .i64 xk, .int .i64 xn, .string xs, .slice xA xla xa, .slice xC xlc xc] 25)).heap.size from Nat.le_trans hwB hbz.size)
        obtain ⟨b0, b1, b2, b3, b4⟩ := box5 HBX.out
        clear hp hbz hwB
        go_wp2_with fail
        obtain ⟨c, hcc⟩ : ∃ c, goneB gone pv = c := ⟨_, rfl⟩
        have HCC := Lib.hid hcc
        rw [hcc] at HC
        clear hcc
        refine HC.out.mono ?_
        rintro e2 w2 ⟨rfl, hb2⟩
        have HD2 := Lib.hid (HD1.out.next hb2 HWB.out)
        have HBX2 := Lib.hid (HBX.out.below hb2 HBX.out.lt)
        clear b0 b1 b2 b3 b4 hb2 f0 f1 f2 f3 f4 HC HD HD1 HBX HWB
        obtain ⟨u0, u1, u2, u3, u4⟩ := box5 HBX2.out
        cases c with
        | true =>
          go_wp2_with fail
          go_roundg (l.length - (j + 1))
          case measure => omega
          case rel => exact ⟨i, j + 1, ys, rfl, by first | rfl | go_num, Nat.le_refl _, Lib.hid (HD2.out.skip HP.out HCC.out)⟩
        | false =>
          obtain ⟨y0, hy0⟩ := HD2.out.there (i * 5) (by omega)
          obtain ⟨y1, hy1⟩ := HD2.out.there (i * 5 + 1) (by omega)
          obtain ⟨y2, hy2⟩ := HD2.out.there (i * 5 + 2) (by omega)
          obtain ⟨y3, hy3⟩ := HD2.out.there (i * 5 + 3) (by omega)
          obtain ⟨y4, hy4⟩ := HD2.out.there (i * 5 + 4) (by omega)
          have z0 := HD2.out.free (i * 5)
          have z1 := HD2.out.free (i * 5 + 1)
          have z2 := HD2.out.free (i * 5 + 2)
          have z3 := HD2.out.free (i * 5 + 3)
          have z4 := HD2.out.free (i * 5 + 4)
          have HD3 := HD2.out.put HP.out HCC.out
          dsimp only at HD3
          go_wp2_with fail
          generalize (((((w2.setCell ⟨g, i * 5, none⟩ (.int .i64 xk)).setCell ⟨g, i * 5 + 1, none⟩ (.int .i64 xn)).setCell ⟨g, i * 5 + 2, none⟩ (.string xs)).setCell ⟨g, i * 5 + 3, none⟩ (.slice xA xla xa)).setCell ⟨g, i * 5 + 4, none⟩ (.slice xC xlc xc)) = W9 at HD3 ⊢
          have HD4 := Lib.hid HD3
          clear HD3 HD2 HBX2 hy0 hy1 hy2 hy3 hy4 z0 z1 z2 z3 z4 u0 u1 u2 u3 u4
          go_roundg (l.length - (j + 1))
          case measure => omega
          case rel => exact ⟨i + 1, j + 1, _, by first | rfl | go_num, by first | rfl | go_num, Nat.le_refl _, HD4⟩
      · obtain rfl : j = l.length := by omega
        have hjl : ¬ ((l.length : Int) < (l.length : Int)) := by omega
        have hi0 : (0 : Int) ≤ (i : Int) := by omega
        have hil : (i : Int) ≤ (l.length : Int) := by omega
        have hil2 : (i : Int) ≤ (cap : Int) := by omega
        have hcl : ∀ ty, (Builtin.clear_ #[23] ty #[.slice (some ⟨g, i * 5, none⟩) (l.length - i) (cap - i)]).run Tryz.prog wr = .ok (.tuple #[]) (wr.setCells g (i * 5) (Builtin.zeroCells zeroVal.cells (l.length - i)).toList) := fun ty =>
          run_clear5 wr _ ty Tryz.underlying23 g (i * 5) _ _ (by omega) (fun t ht => by obtain ⟨u, hu⟩ := HD.out.there (i * 5 + t) (by omega); rw [hu]; rfl) (fun t ht => HD.out.free _)
        go_wp2_with fail
        go_ret
        exact del_end HD.out _
  · go_wp2_with fail
    go_ret
    refine ⟨l.length, rfl, by rw [kept_all hall], ?_, HB1.out.mono HB.out, HB1.out.size⟩
    rw [kept_all hall]
    exact own_belowV HO.out HB1.out
end Go.Proofs.YtjafmdngbphacaaGreatDoor
namespace Go.Proofs.YtjafmdngbphacaaGreatDoor
open Go.RowKit Go.Shelf Go.Sort
/-- The cells of values, five by five. -/
theorem lies_fv {w : World} {S : Nat → Prop} {v : V} {cs : List Value} (h : Lies w S v cs) : ∃ x : Fv, cs = x.cs := by
  obtain ⟨k, n, s, ks, es⟩ := v
  obtain ⟨A, a, B, b, xs, rfl, _⟩ := lies_open h
  exact ⟨⟨k, n, s, A, ks.length, a, B, es.length, b⟩, rfl⟩
theorem liesL_fv {w : World} {S : Nat → Prop} : ∀ (es : List V) (xs : List Value), LiesL w S es xs → ∃ l : List (V × Fv), l.map Prod.fst = es ∧ xs = (l.map Prod.snd).flatMap Fv.cs ∧ ∀ p ∈ l, Lies w S p.1 p.2.cs
  | [], xs, h => by rw [LiesL] at h; subst h; exact ⟨[], rfl, rfl, fun p hp => by cases hp⟩
  | e :: es, xs, h => by
    rw [LiesL] at h
    obtain ⟨c, r, rfl, hc, hr⟩ := h
    obtain ⟨x, rfl⟩ := lies_fv hc
    obtain ⟨l, h1, rfl, h3⟩ := liesL_fv es r hr
    refine ⟨(e, x) :: l, by rw [List.map_cons, h1], rfl, fun p hp => ?_⟩
    rcases List.mem_cons.1 hp with rfl | hp
    · exact hc
    · exact h3 p hp
theorem rs_row {w : World} {B : Nat} {A : Option Addr} {zs : List Fv} (h : Rs w (· < B) A (zs.flatMap Fv.cs)) : FvRow B w A zs := by
  intro j x hx
  have hjl : j < zs.length := (List.getElem?_eq_some_iff.1 hx).1
  have hyy : zs[j]! = x := by rw [getElem!_def, hx]
  have c : ∀ c, c < 5 → ∃ b o, A = some ⟨b, o, none⟩ ∧ b < B ∧ w.cell? ⟨b, o + (j * 5 + c), none⟩ = some (x.cs[c]!) := fun c hc =>
    h (j * 5 + c) _ (by rw [flat_get _ _ (by omega), show (j * 5 + c) / 5 = j by omega, show (j * 5 + c) % 5 = c by omega, hyy])
  obtain ⟨b, o, rfl, hb, h0⟩ := c 0 (by omega)
  have c' : ∀ k, k < 5 → w.cell? ⟨b, o + j * 5 + k, none⟩ = some (x.cs[k]!) := fun k hk => by
    obtain ⟨b', o', e, _, h1⟩ := c k hk
    injection e with e
    injection e with e1 e2
    subst e1 e2
    rw [Nat.add_assoc]
    exact h1
  exact ⟨b, o, rfl, hb, c' 0 (by omega), c' 1 (by omega), c' 2 (by omega), c' 3 (by omega), c' 4 (by omega)⟩
theorem flat_one (zs : List Fv) : ∀ u ∈ zs.flatMap Fv.cs, u.oneCell' = true := by
  intro u hu
  obtain ⟨x, _, hx⟩ := List.mem_flatMap.1 hu
  exact Fv.one x u hx
set_option maxHeartbeats 2000000 in
set_option maxRecDepth 100000 in
theorem sclone_any (A : Option Addr) (n c : Nat) (zs : List Fv) (w : World) (hr : Rs w (· < w.heap.size) A (zs.flatMap Fv.cs)) (hl : zs.length = n) (hnil : A = none → c = 0) (hn : n ≤ 1000000) :
    Calls Tryz.prog 137 #[.slice A n c] w fun e w' => ∃ v, e = .returned v ∧ w'.ownsRow w.heap.size 25 5 v n (zs.flatMap Fv.cs) ∧ Below w.heap.size w w' := by
  obtain ⟨i0, hi, hz0, hz1, hz2⟩ := info_parts inf_value
  have HR := Lib.hid hr
  have HL := Lib.hid hl
  cases A with
  | none =>
    obtain rfl := hnil rfl
    have h0 := rs_none hr
    have hz : zs.length = 0 := by have := flat_len zs; rw [h0] at this; simp at this; omega
    obtain rfl : n = 0 := by omega
    obtain rfl : zs = [] := List.eq_nil_of_length_eq_zero hz
    clear hr
    have hq : ∀ W, (binOp .eql 23 (.slice none 0 0) (.slice none 0 0)).run Tryz.prog W = .ok (.bool true) W := fun W => Lib.run_eql_slice_nil W _ _ none 0 0 0 0 Tryz.underlying23
    go_enter Tryz.func137, Tryz.ntmps137
    go_wp2_with fail
    go_ret
    exact ⟨_, rfl, World.ownsRow_nil _ _ _ _, Below.refl _ _⟩
  | some ad =>
    clear hr hnil
    have HO : Hid ((w.alloc (.cells #[] 25)).ownsRow w.heap.size 25 5 (.slice (some ⟨w.heap.size, 0, none⟩) 0 0) 0 []) :=
      Lib.hid ⟨rfl, .inr ⟨w.heap.size, 0, #[], rfl, Nat.le_refl _, Box.laid w _ _, Nat.le_refl _, Nat.zero_le _, rfl, rfl⟩⟩
    have HB : Hid (Below w.heap.size w (w.alloc (.cells #[] 25))) := Lib.hid ((Go.RowKit.Below.refl _ w).alloc (Nat.le_refl _) _)
    have hq : ∀ W, (binOp .eql 23 (.slice (some ad) n c) (.slice none 0 0)).run Tryz.prog W = .ok (.bool false) W := fun W => Lib.run_eql_slice_nil W _ _ (some ad) n c 0 0 Tryz.underlying23
    have HN := Lib.hid (show (zs.flatMap Fv.cs).length = n * 5 by rw [flat_len, hl])
    go_enter Tryz.func137, Tryz.ntmps137
    go_wp2_with (at_builtin; refine wpList_append_rs _ rfl (.tmp 5) (.tmp 6) 23 rfl w.heap.size 25 i0 zeroVal 5 80 Tryz.underlying23 hi hz0 hz1 hz2 rfl (by omega) _ 0 [] rfl HO.out (· < w.heap.size) (some ad) n c (zs.flatMap Fv.cs) rfl HN.out (HR.out.move fun b hb => ⟨hb, HB.out.block b hb⟩) (fun h => by cases h) (flat_one zs) (by unfold maxLen; omega) (by omega) HB.out.size ?_; intro v2 w2 hown2 hgrow2; have hb2 := HB.out.grown hgrow2 HB.out.size (own_ge' HO.out))
    go_ret
    rw [Nat.zero_add, List.nil_append] at hown2
    exact ⟨v2, rfl, hown2, hb2⟩
end Go.Proofs.YtjafmdngbphacaaGreatDoor
namespace Go.Proofs.YtjafmdngbphacaaGreatDoor
open Go.RowKit Go.Shelf Go.Sort
/-- What a function that makes a row of its own hands back. -/
def RowOf (base : Nat) (l : List (V × Fv)) (w : World) (e : Ending) (w' : World) : Prop :=
  ∃ u, e = .returned u ∧ w'.ownsRow base 25 5 u l.length ((l.map Prod.snd).flatMap Fv.cs) ∧ Below base w w'
theorem delf_nil (B S : Nat) (gone : List (V × Fv)) (w : World) (hB : B ≤ w.heap.size) (hG : GoneAt B S gone [] w) :
    Calls Tryz.prog 172 #[.slice none 0 0, .func (.func 173) #[] #[.pointer (some ⟨S, 0, none⟩)]] w (RowOf B (keptL gone []) w) := by
  have HIX := Lib.hid (idxf_any none 0 S B gone [] w hB (fun j x h => by simp at h) (by simp) hG)
  have HB := Lib.hid hB
  clear hG hB
  go_enter Tryz.func172, Tryz.ntmps172
  go_wp2_with fail
  refine HIX.out.mono ?_
  rintro e w1 ⟨hsays, hb1⟩
  rcases hsays with ⟨k, hk, _⟩ | ⟨hall, rfl⟩
  · simp at hk
  · go_wp2_with fail
    go_ret
    exact ⟨_, rfl, World.ownsRow_nil _ _ _ _, hb1.mono HB.out⟩
theorem delf_both {base S : Nat} {v : Value} {gone l : List (V × Fv)} {w : World} (hown : w.ownsRow base 25 5 v l.length ((l.map Prod.snd).flatMap Fv.cs)) (hlen : l.length ≤ 1000000) (hB : base ≤ w.heap.size) (hG : GoneAt base S gone l w) :
    Calls Tryz.prog 172 #[v, .func (.func 173) #[] #[.pointer (some ⟨S, 0, none⟩)]] w (RowOf base (keptL gone l) w) := by
  rcases hown.2 with ⟨rfl, hz⟩ | ⟨g, cap, cur, rfl, _⟩
  · obtain rfl : l = [] := List.eq_nil_of_length_eq_zero hz
    exact delf_nil base S gone w hB hG
  · refine (delf_any base g cap S gone l w hown hlen hG).mono ?_
    rintro e w' ⟨i, rfl, rfl, h1, h2, _⟩
    exact ⟨_, rfl, h1, h2⟩
theorem own_row {w : World} {base n cap : Nat} {A : Option Addr} {e : TypeId} {ys : List Fv} (h : w.ownsRow base e 5 (.slice A n cap) n (ys.flatMap Fv.cs)) : FvRow w.heap.size w A ys := by
  have h1 := h.1
  rcases h.2 with ⟨h0, rfl⟩ | ⟨g, cap', cur, hv, _⟩
  · have := flat_len ys
    obtain rfl : ys = [] := List.eq_nil_of_length_eq_zero (by omega)
    exact fun j x hx => by simp at hx
  · cases hv
    exact row_own h
theorem ownsRow_baseV {W : World} {base base' : Nat} {e : TypeId} {size n : Nat} {v : Value} {xs : List Value} (h : W.ownsRow base e size v n xs) (hb : base' ≤ base) : W.ownsRow base' e size v n xs := by
  refine ⟨h.1, ?_⟩
  rcases h.2 with hn | ⟨g, cap, cur, hv, hbg, rest⟩
  · exact .inl hn
  · exact .inr ⟨g, cap, cur, hv, Nat.le_trans hb hbg, rest⟩
theorem gone_perm {ps gone : List (V × Fv)} (h : ps.Perm gone) (t : V) : goneB ps t = goneB gone t := by
  unfold goneB
  rw [Bool.eq_iff_iff, List.any_eq_true, List.any_eq_true]
  constructor
  · rintro ⟨p, hp, hh⟩; exact ⟨p, h.mem_iff.1 hp, hh⟩
  · rintro ⟨p, hp, hh⟩; exact ⟨p, h.mem_iff.2 hp, hh⟩
theorem kept_perm {ps gone : List (V × Fv)} (h : ps.Perm gone) (l : List (V × Fv)) : keptL ps l = keptL gone l := by
  unfold keptL
  congr 1
  funext p
  rw [gone_perm h]
set_option maxHeartbeats 2000000 in
set_option maxRecDepth 100000 in
theorem without_any (A G : Option Addr) (c d : Nat) (l gone : List (V × Fv)) (w : World) (hA : Rs w (· < w.heap.size) A ((l.map Prod.snd).flatMap Fv.cs)) (hnil : A = none → c = 0) (hG : FvRow w.heap.size w G (gone.map Prod.snd))
    (hl : ∀ p ∈ l, Lies w (· < w.heap.size) p.1 p.2.cs ∧ valid p.1 = true) (hg : ∀ p ∈ gone, Lies w (· < w.heap.size) p.1 p.2.cs ∧ valid p.1 = true) (hll : l.length ≤ 1000000) (hgl : gone.length ≤ 1000000) :
    Calls Tryz.prog 129 #[.slice A l.length c, .slice G gone.length d] w (RowOf w.heap.size (keptL gone l) w) := by
  have HV := Lib.hid (callsIn_wide (n := 1).1 (values_any Fence.wide 1 trivial rfl G gone.length d w))
  obtain ⟨w1, hw1⟩ : ∃ X, X = w.alloc (.cells #[.slice G gone.length d] 23) := ⟨_, rfl⟩
  have hb1 : Below w.heap.size w w1 := by rw [hw1]; exact (Go.RowKit.Below.refl _ w).alloc (Nat.le_refl _) _
  have hs1 : w.heap.size < w1.heap.size := by rw [hw1]; simp
  have hx1 : Box w1 w.heap.size 23 #[.slice G gone.length d] := by rw [hw1]; exact Box.laid _ _ _
  rw [← hw1] at HV
  clear hw1
  have HS := Lib.hid (sortedFunc_any w.heap.size d G gone w1 hgl hs1 (hx1.cell (i := 0) rfl) ((hG.below hb1 (Nat.le_refl _)).mono (Nat.le_of_lt hs1)) (fun p hp => ⟨(hg p hp).1.move fun b hb => ⟨Nat.lt_trans hb hs1, hb1.block b hb⟩, (hg p hp).2⟩))
  have HB1 := Lib.hid hb1
  have HA := Lib.hid hA
  have HNIL := Lib.hid hnil
  have HL := Lib.hid hl
  have HGG := Lib.hid hg
  clear hA hnil hG hl hg hx1 hb1
  go_enter Tryz.func129, Tryz.ntmps129
  go_wp2_with fail
  refine HV.out.mono ?_
  rintro e x ⟨rfl, rfl⟩
  go_wp2_with fail
  refine HS.out.mono ?_
  rintro e w2 ⟨v, ps, rfl, hperm, hsrt, hown, hvn, hb2⟩
  obtain ⟨G2, d2, rfl⟩ := own_sl hown
  have HLEN := Lib.hid (show ps.length = gone.length from hperm.length_eq)
  obtain ⟨w3, hw3⟩ : ∃ X, X = w2.alloc (.cells #[.slice G2 ps.length d2] 23) := ⟨_, rfl⟩
  have hb3 : Below w2.heap.size w2 w3 := by rw [hw3]; exact (Go.RowKit.Below.refl _ w2).alloc (Nat.le_refl _) _
  have hs3 : w2.heap.size < w3.heap.size := by rw [hw3]; simp
  have hx3 : Box w3 w2.heap.size 23 #[.slice G2 ps.length d2] := by rw [hw3]; exact Box.laid _ _ _
  have hbw2 : Below w.heap.size w w2 := HB1.out.trans (hb2.mono HB1.out.size)
  have hbw3 : Below w.heap.size w w3 := hbw2.trans (hb3.mono hbw2.size)
  have hrow2 : FvRow w3.heap.size w3 G2 (ps.map Prod.snd) := ((own_row hown).below hb3 (Nat.le_refl _)).mono (Nat.le_of_lt hs3)
  have HC := Lib.hid (sclone_any A l.length c (l.map Prod.snd) w3 (HA.out.move fun b hb => ⟨Nat.lt_of_lt_of_le hb hbw3.size, hbw3.block b hb⟩) (by rw [List.length_map]) HNIL.out hll)
  have HR2 := Lib.hid hrow2
  have HBW3 := Lib.hid hbw3
  have HX3 := Lib.hid hx3
  have HP := Lib.hid hperm
  have HSR := Lib.hid hsrt
  clear hown hvn hb2 hb3 hrow2 hbw2 hbw3 hx3 hperm hsrt HS HV HB1
  go_wp2_with fail
  rw [← hw3]
  clear hw3
  refine HC.out.mono ?_
  rintro e w4 ⟨v4, rfl, hown4, hb4⟩
  have hw4 : Below w.heap.size w w4 := HBW3.out.trans (hb4.mono HBW3.out.size)
  have hga : GoneAt w3.heap.size w2.heap.size ps l w4 := gone_at (A := G2) (cap := d2) hb4.size ⟨HR2.out.below hb4 (Nat.le_refl _), fun p hp => (HGG.out p (HP.out.mem_iff.1 hp)).1.move (fun b hb => ⟨Nat.lt_of_lt_of_le hb HBW3.out.size, hw4.block b hb⟩), fun p hp => (HGG.out p (HP.out.mem_iff.1 hp)).2, by rw [HLEN.out]; exact hgl⟩ HSR.out
    ((hb4.cell (p := ⟨w2.heap.size, 0, none⟩) hs3).trans (HX3.out.cell (i := 0) rfl)) hs3 (fun p hp => ⟨(HL.out p hp).1.move fun b hb => ⟨Nat.lt_of_lt_of_le hb HBW3.out.size, hw4.block b hb⟩, (HL.out p hp).2⟩)
  have HD := Lib.hid (delf_both hown4 hll hb4.size hga)
  have HW4 := Lib.hid hw4
  clear hown4 hb4 hw4 hga
  go_wp2_with fail
  refine HD.out.mono ?_
  rintro e w5 ⟨u, rfl, hown5, hb5⟩
  go_wp2_with fail
  go_ret
  rw [kept_perm HP.out] at hown5
  exact ⟨u, rfl, ownsRow_baseV hown5 HBW3.out.size, HW4.out.trans (hb5.mono HBW3.out.size)⟩
end Go.Proofs.YtjafmdngbphacaaGreatDoor

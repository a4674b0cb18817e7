/- The closure of arith.without, and slices.IndexFunc over it. slices.DeleteFunc at values, over the closure of arith.without. slices.DeleteFunc at values, over the closure of arith.without: the walk. What a valid value is, plain: as the reference counts it. Nothing of the program is named here. -/
import Derived.Test.YtgdnkankleoaoaaGreatDoorA12
import Derived.Test.YtgdnkankleoaoaaGreatDoorA03
set_option linter.unusedVariables false
set_option linter.unusedSimpArgs false
namespace Go.Proofs.YtgdnkankleoaoaaGreatDoor
open Go.RowKit Go.Shelf Go.Sort
theorem FvRow.mono {n₀ n₁ : Nat} {W : World} {A : Option Addr} {zs : List Fv} (h : FvRow n₀ W A zs) (hB : n₀ ≤ n₁) : FvRow n₁ W A zs := fun j x hx => by
  obtain ⟨b, o, e, hb, hf⟩ := h j x hx
  exact ⟨b, o, e, Nat.lt_of_lt_of_le hb hB, hf⟩
theorem Rw.mono {w : World} {B C : Nat} {A : Option Addr} {l : List (V × Fv)} (h : Rw w B A l) (hB : B ≤ C) : Rw w C A l :=
  ⟨h.row.mono hB, fun p hp => (h.lies p hp).move fun b hlt => ⟨Nat.lt_of_lt_of_le hlt hB, rfl⟩, h.ok, h.len⟩
/-- Is a value among the sorted ones? -/
def goneB (l : List (V × Fv)) (t : V) : Bool := l.any fun p => decide (vcmp p.1 t = 0)
set_option maxHeartbeats 4000000 in
set_option maxRecDepth 100000 in
theorem gone_any (A : Option Addr) (cap S : Nat) (l : List (V × Fv)) (t : V) (tk tn : Int) (ts : ByteArray) (tA : Option Addr) (tla ta : Nat) (tC : Option Addr) (tlc tc : Nat) (w : World) (hR : Rw w w.heap.size A l) (hsrt : l.Pairwise (fun a b => vcmp a.1 b.1 ≤ 0))
    (hS : w.cell? ⟨S, 0, none⟩ = some (.slice A l.length cap)) (hSl : S < w.heap.size) (ht : Lies w (· < w.heap.size) t [.int .i64 tk, .int .i64 tn, .string ts, .slice tA tla ta, .slice tC tlc tc]) (hok : valid t = true) :
    Calls Tryz.prog 242 #[.agg #[.int .i64 tk, .int .i64 tn, .string ts, .slice tA tla ta, .slice tC tlc tc], .pointer (some ⟨S, 0, none⟩)] w fun e w' => e = .returned (.bool (goneB l t)) ∧ Below w.heap.size w w' := by
  obtain ⟨w1, hw1⟩ : ∃ X, X = w.alloc (.cells #[.int .i64 tk, .int .i64 tn, .string ts, .slice tA tla ta, .slice tC tlc tc] 25) := ⟨_, rfl⟩
  have hB : Below w.heap.size w w1 := by rw [hw1]; exact (Go.RowKit.Below.refl _ w).alloc (Nat.le_refl _) _
  have hb := bsf_any A cap l t tk tn ts tA tla ta tC tlc tc w1 ((hR.below hB (Nat.le_refl _)).mono hB.size) hsrt (ht.move fun b hb => ⟨Nat.lt_of_lt_of_le hb hB.size, hB.block b hb⟩) hok
  have HB := Lib.hid hb
  have hS1 : w1.cell? ⟨S, 0, none⟩ = some (.slice A l.length cap) := (hB.cell (p := ⟨S, 0, none⟩) hSl).trans hS
  have hx : Box w1 w.heap.size 25 #[.int .i64 tk, .int .i64 tn, .string ts, .slice tA tla ta, .slice tC tlc tc] := by rw [hw1]; exact Box.laid _ _ _
  obtain ⟨u0, u1, u2, u3, u4⟩ := box5 hx
  have HW := Lib.hid hB
  have hG : (l.any fun p => decide (vcmp p.1 t = 0)) = goneB l t := rfl
  rw [hG] at HB
  clear hb hB hR hsrt ht hx hG
  go_enter Tryz.func242, Tryz.ntmps242
  go_wp2_with fail
  rw [← hw1]
  go_wp2_with fail
  refine HB.out.mono ?_
  rintro e w2 ⟨⟨i, rfl⟩, hb2⟩
  go_wp2_with fail
  go_ret
  exact ⟨rfl, HW.out.trans (hb2.mono HW.out.size)⟩
/-- What the closure is asked to keep: in every world in which what lay below B lies as it lay. -/
def GoneAt (B S : Nat) (gone : List (V × Fv)) (l : List (V × Fv)) (w : World) : Prop :=
  ∀ (X : World), Below B w X → w.heap.size ≤ X.heap.size → ∀ (t : V) (tk tn : Int) (ts : ByteArray) (tA : Option Addr) (tla ta : Nat) (tC : Option Addr) (tlc tc : Nat), (t, Fv.mk tk tn ts tA tla ta tC tlc tc) ∈ l →
    Calls Tryz.prog 242 #[.agg #[.int .i64 tk, .int .i64 tn, .string ts, .slice tA tla ta, .slice tC tlc tc], .pointer (some ⟨S, 0, none⟩)] X fun e w' => e = .returned (.bool (goneB gone t)) ∧ Below X.heap.size X w'
theorem gone_at {B S cap : Nat} {A : Option Addr} {gone l : List (V × Fv)} {w : World} (hB : B ≤ w.heap.size) (hR : Rw w B A gone) (hsrt : gone.Pairwise (fun a b => vcmp a.1 b.1 ≤ 0)) (hS : w.cell? ⟨S, 0, none⟩ = some (.slice A gone.length cap)) (hSl : S < B)
    (hl : ∀ p ∈ l, Lies w (· < B) p.1 p.2.cs ∧ valid p.1 = true) : GoneAt B S gone l w := fun X hX hs t tk tn ts tA tla ta tC tlc tc hm =>
  gone_any A cap S gone t tk tn ts tA tla ta tC tlc tc X ((hR.below hX (Nat.le_refl _)).mono (Nat.le_trans hB hs)) hsrt ((hX.cell (p := ⟨S, 0, none⟩) hSl).trans hS) (by omega)
    ((hl _ hm).1.move fun b hb => ⟨by omega, hX.block b hb⟩) (hl _ hm).2
/-- What IndexFunc says. -/
def IxSays (P : V × Fv → Bool) (l : List (V × Fv)) (e : Ending) : Prop :=
  (∃ k : Nat, k < l.length ∧ (∀ j p, j < k → l[j]? = some p → P p = false) ∧ (∀ p, l[k]? = some p → P p = true) ∧ e = .returned (.int .i64 k)) ∨ ((∀ p ∈ l, P p = false) ∧ e = .returned (.int .i64 (-1)))
set_option maxHeartbeats 4000000 in
set_option maxRecDepth 100000 in
theorem idxf_any (A : Option Addr) (cap S B : Nat) (gone l : List (V × Fv)) (w : World) (hB : B ≤ w.heap.size) (hrow : FvRow w.heap.size w A (l.map Prod.snd)) (hlen : l.length ≤ 1000000) (hG : GoneAt B S gone l w) :
    Calls Tryz.prog 203 #[.slice A l.length cap, .func (.func 242) #[] #[.pointer (some ⟨S, 0, none⟩)]] w fun e w' => IxSays (fun p => goneB gone p.1) l e ∧ Below w.heap.size w w' := by
  have HR := Lib.hid hrow
  have HG := Lib.hid hG
  have HBB := Lib.hid hB
  clear hrow hG hB
  go_enter Tryz.func203, Tryz.ntmps203
  go_wp2_with fail
  go_loopg [5, 8] l.length (fun gg _ s8 wr => ∃ k : Nat, k ≤ l.length ∧ l.length - k ≤ gg ∧ s8 = .int .i64 k ∧ Hid (Below w.heap.size w wr) ∧ Hid (∀ j p, j < k → l[j]? = some p → goneB gone p.1 = false))
  case atStart => exact ⟨0, Nat.zero_le _, by omega, rfl, Lib.hid (Below.refl _ _), Lib.hid fun j p hj => absurd hj (Nat.not_lt_zero _)⟩
  case round =>
    obtain ⟨k, hk, hg, rfl, HW, HI⟩ := hrel
    by_cases hlt : k < l.length
    · obtain ⟨⟨pv, xk, xn, xs, xA, xla, xa, xC, xlc, xc⟩, hp⟩ : ∃ p, l[k]? = some p := ⟨_, List.getElem?_eq_getElem hlt⟩
      have HP := Lib.hid hp
      obtain ⟨b, o, rfl, hb, hf⟩ := HR.out k ⟨xk, xn, xs, xA, xla, xa, xC, xlc, xc⟩ (by rw [List.getElem?_map, hp]; rfl)
      obtain ⟨f0, f1, f2, f3, f4⟩ := hf.below HW.out hb
      simp only at f0 f1 f2 f3 f4
      have hc := HG.out wr (HW.out.mono HBB.out) HW.out.size pv xk xn xs xA xla xa xC xlc xc (List.mem_of_getElem? hp)
      have HC := Lib.hid hc
      have hk0 : (0 : Int) ≤ (k : Int) := by omega
      have hkl : (k : Int) < (l.length : Int) := by omega
      clear hc hf hp
      obtain ⟨c, hcc⟩ : ∃ c, goneB gone pv = c := ⟨_, rfl⟩
      have HCC := Lib.hid hcc
      rw [hcc] at HC
      clear hcc
      cases c with
      | true =>
        go_wp2_with fail
        refine HC.out.mono ?_
        rintro e w2 ⟨rfl, hb2⟩
        go_wp2_with fail
        (try simp only [Exit.inBlock, Exit.then])
        go_ret
        refine ⟨Or.inl ⟨k, hlt, HI.out, fun p hp => ?_, rfl⟩, HW.out.trans (hb2.mono HW.out.size)⟩
        have := HP.out
        rw [hp] at this
        injection this with this
        subst this
        exact HCC.out
      | false =>
        go_wp2_with fail
        refine HC.out.mono ?_
        rintro e w2 ⟨rfl, hb2⟩
        go_wp2_with fail
        go_roundg (l.length - (k + 1))
        case measure => omega
        case rel =>
          refine ⟨k + 1, by omega, Nat.le_refl _, by first | rfl | go_num, Lib.hid (HW.out.trans (hb2.mono HW.out.size)), Lib.hid fun j p hj hp => ?_⟩
          rcases Nat.lt_or_ge j k with h | h
          · exact HI.out j p h hp
          · obtain rfl : j = k := by omega
            have := HP.out
            rw [hp] at this
            injection this with this
            subst this
            exact HCC.out
    · have hkl : ¬ ((k : Int) < (l.length : Int)) := by omega
      go_wp2_with fail
      go_ret
      refine ⟨Or.inr ⟨fun p hp => ?_, rfl⟩, HW.out⟩
      obtain ⟨j, hj⟩ := List.getElem?_of_mem hp
      exact HI.out j p (by have := (List.getElem?_eq_some_iff.1 hj).1; omega) hj
end Go.Proofs.YtgdnkankleoaoaaGreatDoor
namespace Go.Proofs.YtgdnkankleoaoaaGreatDoor
open Go.RowKit Go.Shelf Go.Sort
theorem zero_parts (n : Nat) : (Builtin.zeroCells zeroVal.cells n).toList.length = n * 5 ∧ ∀ v ∈ (Builtin.zeroCells zeroVal.cells n).toList, v.oneCell' = true := by
  constructor
  · simp [Builtin.zeroCells, zeroVal, Value.cells]
  · intro v hv
    simp only [Builtin.zeroCells, zeroVal, Value.cells, Array.toList_map, List.mem_map] at hv
    obtain ⟨i, _, rfl⟩ := hv
    have h5 : i % 5 = 0 ∨ i % 5 = 1 ∨ i % 5 = 2 ∨ i % 5 = 3 ∨ i % 5 = 4 := by omega
    rcases h5 with h | h | h | h | h <;> simp [h, Value.oneCell']
theorem run_clear5 (w : World) (t ty : TypeId) (ht : Tryz.prog.underlying t = some (.slice 25)) (b o n c : Nat) (hn : 0 < n) (hc : ∀ j, j < n * 5 → (w.cell? ⟨b, o + j, none⟩).isSome = true) (hf : ∀ j, j < n * 5 → w.frozen? ⟨b, o + j, none⟩ = false) :
    (Builtin.clear_ #[t] ty #[.slice (some ⟨b, o, none⟩) n c]).run Tryz.prog w = .ok (.tuple #[]) (w.setCells b o (Builtin.zeroCells zeroVal.cells n).toList) := by
  obtain ⟨hl, h1⟩ := zero_parts n
  have hst := run_storeCells_cells (P := Tryz.prog) b o (Builtin.zeroCells zeroVal.cells n).toList 0 w (by rw [hl]; simpa using hc) (by rw [hl]; simpa using hf) h1
  simp only [Nat.add_zero] at hst
  have hv : ∀ w, (zeroValue 25).run Tryz.prog w = .ok zeroVal w := Tryz.zeroValue25
  obtain ⟨m, rfl⟩ : ∃ m, n = m + 1 := ⟨n - 1, by omega⟩
  simp [Builtin.clear_, run_underlying ht, hv, hst]
/-- A row cut short: cells beyond it may turn. -/
theorem own_short {w : World} {base g n i cap : Nat} {e : TypeId} {xs : List Value} (h : w.ownsRow base e 5 (.slice (some ⟨g, 0, none⟩) n cap) n xs) (hi : i ≤ n) : w.ownsRow base e 5 (.slice (some ⟨g, 0, none⟩) i cap) i (xs.take (i * 5)) := by
  have h1 := h.1
  refine ⟨by rw [List.length_take]; omega, ?_⟩
  rcases h.2 with ⟨h0, _⟩ | ⟨g', cap', cur, hv, hbg, hg, hnc, hcm, hcs, ht⟩
  · cases h0
  · cases hv
    exact .inr ⟨g, cap, cur, rfl, hbg, hg, by omega, hcm, hcs, by rw [← ht, List.take_take, Nat.min_eq_left (by omega)]⟩
theorem own_beyond {base g i cap : Nat} {e : TypeId} {xs : List Value} : ∀ (vs : List Value) (w : World) (o : Nat), w.ownsRow base e 5 (.slice (some ⟨g, 0, none⟩) i cap) i xs → i * 5 ≤ o → (w.setCells g o vs).ownsRow base e 5 (.slice (some ⟨g, 0, none⟩) i cap) i xs
  | [], _, _, h, _ => h
  | v :: r, w, o, h, ho => by
    rw [World.setCells]
    refine own_beyond r _ _ ?_ (by omega)
    refine ⟨h.1, ?_⟩
    rcases h.2 with ⟨h0, _⟩ | ⟨g', cap', cur, hv, hbg, hg, hnc, hcm, hcs, ht⟩
    · cases h0
    · cases hv
      refine .inr ⟨g, cap, cur.setIfInBounds o v, rfl, hbg, (show Box w g e cur from hg).put o v, hnc, hcm, by rw [Array.size_setIfInBounds]; exact hcs, ?_⟩
      rw [Array.toList_setIfInBounds, List.take_set, ht, List.set_eq_of_length_le (by rw [h.1]; exact ho)]
theorem below_cells {B g : Nat} {a : World} : ∀ (vs : List Value) (w : World) (o : Nat), Below B a w → B ≤ g → Below B a (w.setCells g o vs)
  | [], _, _, h, _ => h
  | v :: r, w, o, h, hg => by
    rw [World.setCells]
    exact below_cells r _ _ (h.setCell hg _) hg
theorem flat_set (x : Fv) : ∀ (ys : List Fv) (i : Nat), i < ys.length → ((((((ys.flatMap Fv.cs).set (i * 5) (.int .i64 x.k)).set (i * 5 + 1) (.int .i64 x.n)).set (i * 5 + 2) (.string x.s)).set (i * 5 + 3) (.slice x.A x.la x.a)).set (i * 5 + 4) (.slice x.C x.lc x.c)) = (ys.set i x).flatMap Fv.cs
  | [], i, h => by simp at h
  | y :: r, 0, _ => by simp [Fv.cs]
  | y :: r, i + 1, h => by
    have ih := flat_set x r i (by simpa using h)
    rw [List.set_cons_succ, List.flatMap_cons, List.flatMap_cons, ← ih]
    have e : (i + 1) * 5 = i * 5 + 1 + 1 + 1 + 1 + 1 := by omega
    rw [e]
    simp only [Fv.cs, List.cons_append, List.nil_append, List.set_cons_succ, Nat.add_right_comm _ _ 1]
theorem own_belowV {w w' : World} {base size n : Nat} {e : TypeId} {v : Value} {xs : List Value} (h : w.ownsRow base e size v n xs) (hb : Below w.heap.size w w') : w'.ownsRow base e size v n xs := by
  refine ⟨h.1, ?_⟩
  rcases h.2 with h1 | ⟨g, cap, cur, rfl, h1, h2, h3⟩
  · exact .inl h1
  · exact .inr ⟨g, cap, cur, rfl, h1, (hb.block g (h.lt g rfl).2).trans h2, h3⟩
/-- What is kept. -/
def keptL (gone l : List (V × Fv)) : List (V × Fv) := l.filter fun p => !goneB gone p.1
theorem kept_step {gone l : List (V × Fv)} {j : Nat} {p : V × Fv} (hj : l[j]? = some p) : keptL gone (l.take (j + 1)) = keptL gone (l.take j) ++ (if goneB gone p.1 = true then [] else [p]) := by
  unfold keptL
  rw [List.take_add_one, hj, List.filter_append]
  congr 1
  cases h : goneB gone p.1 <;> simp [h]
theorem kept_all {gone l : List (V × Fv)} (h : ∀ p ∈ l, goneB gone p.1 = false) : keptL gone l = l := by
  unfold keptL
  rw [List.filter_eq_self]
  intro p hp
  simp [h p hp]
/-- Between two rounds. -/
structure DelSt (base g cap : Nat) (gone l : List (V × Fv)) (w0 w : World) (i j : Nat) (ys : List Fv) : Prop where
  own : w.ownsRow base 25 5 (.slice (some ⟨g, 0, none⟩) l.length cap) l.length (ys.flatMap Fv.cs)
  len : ys.length = l.length
  head : ys.take i = (keptL gone (l.take j)).map Prod.snd
  tail : ys.drop j = (l.map Prod.snd).drop j
  ij : i < j
  jn : j ≤ l.length
  below : Below base w0 w
  size : w0.heap.size ≤ w.heap.size
namespace DelSt
variable {base g cap : Nat} {gone l : List (V × Fv)} {w0 w w' : World} {i j : Nat} {ys : List Fv}
theorem glt (h : DelSt base g cap gone l w0 w i j ys) : base ≤ g ∧ g < w.heap.size := h.own.lt g rfl
theorem next (h : DelSt base g cap gone l w0 w i j ys) (hb : Below w.heap.size w w') (hB : base ≤ w.heap.size) : DelSt base g cap gone l w0 w' i j ys :=
  ⟨own_belowV h.own hb, h.len, h.head, h.tail, h.ij, h.jn, h.below.trans (hb.mono hB), Nat.le_trans h.size hb.size⟩
theorem elem (h : DelSt base g cap gone l w0 w i j ys) {p : V × Fv} (hj : l[j]? = some p) : ys[j]? = some p.2 := by
  have h1 := congrArg (fun x => x[0]?) h.tail
  simp only [List.getElem?_drop, Nat.add_zero, List.getElem?_map, hj] at h1
  exact h1
theorem five (h : DelSt base g cap gone l w0 w i j ys) {p : V × Fv} (hj : l[j]? = some p) : FiveAt w g (j * 5) p.2 := by
  have hy := h.elem hj
  have hjl : j < ys.length := (List.getElem?_eq_some_iff.1 hy).1
  have hyy : ys[j]! = p.2 := by rw [getElem!_def, hy]
  have c : ∀ c, c < 5 → w.cell? ⟨g, j * 5 + c, none⟩ = some (p.2.cs[c]!) := fun c hc => by
    have hl := h.len
    rw [h.own.cellAt (j * 5 + c) (by omega), flat_get _ _ (by omega), show (j * 5 + c) / 5 = j by omega, show (j * 5 + c) % 5 = c by omega, hyy]
  exact ⟨c 0 (by omega), c 1 (by omega), c 2 (by omega), c 3 (by omega), c 4 (by omega)⟩
theorem free (h : DelSt base g cap gone l w0 w i j ys) (k : Nat) : w.frozen? ⟨g, k, none⟩ = false := by
  rcases h.own.2 with ⟨h0, _⟩ | ⟨g', cap', cur, hv, hbg, hgg, _⟩
  · cases h0
  · cases hv
    exact (show Box w g _ cur from hgg).free k
theorem there (h : DelSt base g cap gone l w0 w i j ys) (k : Nat) (hk : k < l.length * 5) : ∃ u, w.cell? ⟨g, k, none⟩ = some u := by
  have h1 := h.own.1
  rw [h.own.cellAt k hk]
  exact ⟨_, List.getElem?_eq_getElem (by omega)⟩
theorem skip (h : DelSt base g cap gone l w0 w i j ys) {p : V × Fv} (hj : l[j]? = some p) (hp : goneB gone p.1 = true) : DelSt base g cap gone l w0 w i (j + 1) ys := by
  have hjl : j < l.length := (List.getElem?_eq_some_iff.1 hj).1
  refine ⟨h.own, h.len, ?_, ?_, by have := h.ij; omega, by omega, h.below, h.size⟩
  · rw [kept_step hj, if_pos hp, List.append_nil, h.head]
  · rw [← List.drop_drop, h.tail, List.drop_drop]
theorem put (h : DelSt base g cap gone l w0 w i j ys) {p : V × Fv} (hj : l[j]? = some p) (hp : goneB gone p.1 = false) :
    DelSt base g cap gone l w0 (((((w.setCell ⟨g, i * 5, none⟩ (.int .i64 p.2.k)).setCell ⟨g, i * 5 + 1, none⟩ (.int .i64 p.2.n)).setCell ⟨g, i * 5 + 2, none⟩ (.string p.2.s)).setCell ⟨g, i * 5 + 3, none⟩ (.slice p.2.A p.2.la p.2.a)).setCell ⟨g, i * 5 + 4, none⟩ (.slice p.2.C p.2.lc p.2.c)) (i + 1) (j + 1) (ys.set i p.2) := by
  have hjl : j < l.length := (List.getElem?_eq_some_iff.1 hj).1
  have hij := h.ij
  have hl := h.len
  have hg := h.glt.1
  refine ⟨?_, by rw [List.length_set]; exact h.len, ?_, ?_, by omega, by omega, ((((h.below.setCell hg _).setCell hg _).setCell hg _).setCell hg _).setCell hg _, by simpa [World.setCell] using h.size⟩
  · rw [← flat_set p.2 ys i (by omega)]
    exact own_set (own_set (own_set (own_set (own_set h.own (i := i * 5) (by omega) _) (i := i * 5 + 1) (by omega) _) (i := i * 5 + 2) (by omega) _) (i := i * 5 + 3) (by omega) _) (i := i * 5 + 4) (by omega) _
  · rw [kept_step hj, if_neg (by rw [hp]; simp), List.map_append, ← h.head]
    rw [List.take_add_one, List.getElem?_set_self (by omega), List.take_set_of_le (Nat.le_refl _)]
    rfl
  · rw [List.drop_set_of_lt (by omega), ← List.drop_drop, h.tail, List.drop_drop]
end DelSt
end Go.Proofs.YtgdnkankleoaoaaGreatDoor
namespace Go.Proofs.YtgdnkankleoaoaaGreatDoor
open Go.RowKit Go.Shelf Go.Sort
theorem flat_take : ∀ (ys : List Fv) (i : Nat), i ≤ ys.length → (ys.flatMap Fv.cs).take (i * 5) = (ys.take i).flatMap Fv.cs
  | ys, 0, _ => by simp
  | [], i + 1, h => by simp at h
  | y :: r, i + 1, h => by
    have ih := flat_take r i (by simpa using h)
    rw [List.flatMap_cons, List.take_succ_cons, List.flatMap_cons, ← ih, show (i + 1) * 5 = y.cs.length + i * 5 by rw [Fv.len]; omega, List.take_length_add_append]
theorem row_own {w : World} {base g n cap : Nat} {e : TypeId} {ys : List Fv} (h : w.ownsRow base e 5 (.slice (some ⟨g, 0, none⟩) n cap) n (ys.flatMap Fv.cs)) : FvRow w.heap.size w (some ⟨g, 0, none⟩) ys := by
  have h1 := h.1
  rw [flat_len] at h1
  intro j x hx
  have hjl : j < ys.length := (List.getElem?_eq_some_iff.1 hx).1
  have hyy : ys[j]! = x := by rw [getElem!_def, hx]
  have c : ∀ c, c < 5 → w.cell? ⟨g, 0 + j * 5 + c, none⟩ = some (x.cs[c]!) := fun c hc => by
    rw [Nat.zero_add, h.cellAt (j * 5 + c) (by omega), flat_get _ _ (by omega), show (j * 5 + c) / 5 = j by omega, show (j * 5 + c) % 5 = c by omega, hyy]
  exact ⟨g, 0, rfl, (h.lt g rfl).2, c 0 (by omega), c 1 (by omega), c 2 (by omega), c 3 (by omega), c 4 (by omega)⟩
/-- What DeleteFunc hands back. -/
def DelOf (base g cap : Nat) (gone l : List (V × Fv)) (w : World) (e : Ending) (w' : World) : Prop :=
  ∃ i : Nat, e = .returned (.slice (some ⟨g, 0, none⟩) i cap) ∧ i = (keptL gone l).length ∧ w'.ownsRow base 25 5 (.slice (some ⟨g, 0, none⟩) i cap) i (((keptL gone l).map Prod.snd).flatMap Fv.cs) ∧ Below base w w' ∧ w.heap.size ≤ w'.heap.size
theorem del_start {base g cap k : Nat} {gone l : List (V × Fv)} {w w' : World} (hown : w.ownsRow base 25 5 (.slice (some ⟨g, 0, none⟩) l.length cap) l.length ((l.map Prod.snd).flatMap Fv.cs)) (hb : Below w.heap.size w w') (hB : base ≤ w.heap.size) (hk : k < l.length)
    (h1 : ∀ j p, j < k → l[j]? = some p → goneB gone p.1 = false) (h2 : ∀ p, l[k]? = some p → goneB gone p.1 = true) : DelSt base g cap gone l w w' k (k + 1) (l.map Prod.snd) := by
  refine ⟨own_belowV hown hb, by rw [List.length_map], ?_, rfl, by omega, by omega, hb.mono hB, hb.size⟩
  rw [kept_step (List.getElem?_eq_getElem hk), if_pos (h2 _ (List.getElem?_eq_getElem hk)), List.append_nil, kept_all, List.map_take]
  intro p hp
  obtain ⟨j, hj⟩ := List.getElem?_of_mem hp
  rw [List.getElem?_take] at hj
  split at hj
  · exact h1 j p (by assumption) hj
  · cases hj
theorem del_end {base g cap i : Nat} {gone l : List (V × Fv)} {w0 w : World} {ys : List Fv} (h : DelSt base g cap gone l w0 w i l.length ys) (vs : List Value) : DelOf base g cap gone l w0 (.returned (.slice (some ⟨g, 0, none⟩) i cap)) (w.setCells g (i * 5) vs) := by
  have hij := h.ij
  have hl := h.len
  have hh := h.head
  rw [List.take_length] at hh
  have hlen : i = (keptL gone l).length := by
    have := congrArg List.length hh
    rw [List.length_map, List.length_take, Nat.min_eq_left (by omega)] at this
    exact this
  have h1 := own_beyond vs w (i * 5) (own_short h.own (Nat.le_of_lt hij)) (Nat.le_refl _)
  rw [flat_take _ _ (by omega), hh] at h1
  exact ⟨i, rfl, hlen, h1, below_cells _ _ _ h.below h.glt.1, by rw [size_setCells]; exact h.size⟩
set_option maxHeartbeats 2000000 in
set_option maxRecDepth 100000 in
theorem delf_any (base g cap S : Nat) (gone l : List (V × Fv)) (w : World) (hown : w.ownsRow base 25 5 (.slice (some ⟨g, 0, none⟩) l.length cap) l.length ((l.map Prod.snd).flatMap Fv.cs)) (hlen : l.length ≤ 1000000) (hG : GoneAt base S gone l w) :
    Calls Tryz.prog 241 #[.slice (some ⟨g, 0, none⟩) l.length cap, .func (.func 242) #[] #[.pointer (some ⟨S, 0, none⟩)]] w (DelOf base g cap gone l w) := by
  have hB : base ≤ w.heap.size := by have := hown.lt g rfl; omega
  have hcap : l.length ≤ cap := by
    rcases hown.2 with ⟨h0, _⟩ | ⟨g', cap', cur, hv, _, _, hnc, _⟩
    · cases h0
    · cases hv; exact hnc
  have HIX := Lib.hid (idxf_any (some ⟨g, 0, none⟩) cap S base gone l w hB (row_own hown) hlen hG)
  have HO := Lib.hid hown
  have HG := Lib.hid hG
  have HB := Lib.hid hB
  clear hown hG hB
  go_enter Tryz.func241, Tryz.ntmps241
  go_wp2_with fail
  refine HIX.out.mono ?_
  rintro e w1 ⟨hsays, hb1⟩
  have HB1 := Lib.hid hb1
  clear HIX hb1
  rcases hsays with ⟨k, hk, h1, h2, rfl⟩ | ⟨hall, rfl⟩
  · have HD := Lib.hid (del_start HO.out HB1.out HB.out hk h1 h2)
    have hk1 : ¬ ((k : Int) = -1) := by omega
    have hk2 : ((k : Int) == -1) = false := by simp
    clear h1 h2 HB1
    go_wp2_with fail
    go_loopg [5, 6] l.length (fun gg s5 s6 wr => ∃ (i j : Nat) (ys : List Fv), s5 = .int .i64 i ∧ s6 = .int .i64 j ∧ l.length - j ≤ gg ∧ Hid (DelSt base g cap gone l w wr i j ys))
    case atStart => exact ⟨k, k + 1, _, rfl, by first | rfl | go_num, by omega, HD⟩
    case round =>
      clear HD
      obtain ⟨i, j, ys, rfl, rfl, hg, HD⟩ := hrel
      have hij := HD.out.ij
      have hjn := HD.out.jn
      by_cases hlt : j < l.length
      · obtain ⟨⟨pv, xk, xn, xs, xA, xla, xa, xC, xlc, xc⟩, hp⟩ : ∃ p, l[j]? = some p := ⟨_, List.getElem?_eq_getElem hlt⟩
        have HP := Lib.hid hp
        obtain ⟨f0, f1, f2, f3, f4⟩ := HD.out.five hp
        simp only at f0 f1 f2 f3 f4
        have hbz : Below wr.heap.size wr (wr.alloc (.cells #[.int .i64 xk, .int .i64 xn, .string xs, .slice xA xla xa, .slice xC xlc xc] 25)) := (Go.RowKit.Below.refl _ wr).alloc (Nat.le_refl _) _
        have hwB : base ≤ wr.heap.size := Nat.le_trans HB.out HD.out.size
        have HD1 := Lib.hid (HD.out.next hbz hwB)
        have HC := Lib.hid (HG.out _ HD1.out.below HD1.out.size pv xk xn xs xA xla xa xC xlc xc (List.mem_of_getElem? hp))
        have HBX := Lib.hid (Box.laid wr 25 #[.int .i64 xk, .int .i64 xn, .string xs, .slice xA xla xa, .slice xC xlc xc])
        have hj0 : (0 : Int) ≤ (j : Int) := by omega
        have hjl : (j : Int) < (l.length : Int) := by omega
        have hi0 : (0 : Int) ≤ (i : Int) := by omega
        have hil : (i : Int) < (l.length : Int) := by omega
        have HWB := Lib.hid (show base ≤ (wr.alloc (.cells #[.int .i64 xk, .int .i64 xn, .string xs, .slice xA xla xa, .slice xC xlc xc] 25)).heap.size from Nat.le_trans hwB hbz.size)
        obtain ⟨b0, b1, b2, b3, b4⟩ := box5 HBX.out
        clear hp hbz hwB
        go_wp2_with fail
        obtain ⟨c, hcc⟩ : ∃ c, goneB gone pv = c := ⟨_, rfl⟩
        have HCC := Lib.hid hcc
        rw [hcc] at HC
        clear hcc
        refine HC.out.mono ?_
        rintro e2 w2 ⟨rfl, hb2⟩
        have HD2 := Lib.hid (HD1.out.next hb2 HWB.out)
        have HBX2 := Lib.hid (HBX.out.below hb2 HBX.out.lt)
        clear b0 b1 b2 b3 b4 hb2 f0 f1 f2 f3 f4 HC HD HD1 HBX HWB
        obtain ⟨u0, u1, u2, u3, u4⟩ := box5 HBX2.out
        cases c with
        | true =>
          go_wp2_with fail
          go_roundg (l.length - (j + 1))
          case measure => omega
          case rel => exact ⟨i, j + 1, ys, rfl, by first | rfl | go_num, Nat.le_refl _, Lib.hid (HD2.out.skip HP.out HCC.out)⟩
        | false =>
          obtain ⟨y0, hy0⟩ := HD2.out.there (i * 5) (by omega)
          obtain ⟨y1, hy1⟩ := HD2.out.there (i * 5 + 1) (by omega)
          obtain ⟨y2, hy2⟩ := HD2.out.there (i * 5 + 2) (by omega)
          obtain ⟨y3, hy3⟩ := HD2.out.there (i * 5 + 3) (by omega)
          obtain ⟨y4, hy4⟩ := HD2.out.there (i * 5 + 4) (by omega)
          have z0 := HD2.out.free (i * 5)
          have z1 := HD2.out.free (i * 5 + 1)
          have z2 := HD2.out.free (i * 5 + 2)
          have z3 := HD2.out.free (i * 5 + 3)
          have z4 := HD2.out.free (i * 5 + 4)
          have HD3 := HD2.out.put HP.out HCC.out
          dsimp only at HD3
          go_wp2_with fail
          generalize (((((w2.setCell ⟨g, i * 5, none⟩ (.int .i64 xk)).setCell ⟨g, i * 5 + 1, none⟩ (.int .i64 xn)).setCell ⟨g, i * 5 + 2, none⟩ (.string xs)).setCell ⟨g, i * 5 + 3, none⟩ (.slice xA xla xa)).setCell ⟨g, i * 5 + 4, none⟩ (.slice xC xlc xc)) = W9 at HD3 ⊢
          have HD4 := Lib.hid HD3
          clear HD3 HD2 HBX2 hy0 hy1 hy2 hy3 hy4 z0 z1 z2 z3 z4 u0 u1 u2 u3 u4
          go_roundg (l.length - (j + 1))
          case measure => omega
          case rel => exact ⟨i + 1, j + 1, _, by first | rfl | go_num, by first | rfl | go_num, Nat.le_refl _, HD4⟩
      · obtain rfl : j = l.length := by omega
        have hjl : ¬ ((l.length : Int) < (l.length : Int)) := by omega
        have hi0 : (0 : Int) ≤ (i : Int) := by omega
        have hil : (i : Int) ≤ (l.length : Int) := by omega
        have hil2 : (i : Int) ≤ (cap : Int) := by omega
        have hcl : ∀ ty, (Builtin.clear_ #[23] ty #[.slice (some ⟨g, i * 5, none⟩) (l.length - i) (cap - i)]).run Tryz.prog wr = .ok (.tuple #[]) (wr.setCells g (i * 5) (Builtin.zeroCells zeroVal.cells (l.length - i)).toList) := fun ty =>
          run_clear5 wr _ ty Tryz.underlying23 g (i * 5) _ _ (by omega) (fun t ht => by obtain ⟨u, hu⟩ := HD.out.there (i * 5 + t) (by omega); rw [hu]; rfl) (fun t ht => HD.out.free _)
        go_wp2_with fail
        go_ret
        exact del_end HD.out _
  · go_wp2_with fail
    go_ret
    refine ⟨l.length, rfl, by rw [kept_all hall], ?_, HB1.out.mono HB.out, HB1.out.size⟩
    rw [kept_all hall]
    exact own_belowV HO.out HB1.out
end Go.Proofs.YtgdnkankleoaoaaGreatDoor
namespace Go.Proofs.YtgdnkankleoaoaaGreatDoor
def fit1 (k n : Int) (s : ByteArray) (nk ne : Nat) : Bool :=
  decide (0 ≤ k) && (decide (k ≤ 6) && ((decide (k = 3) || decide (n = 0)) && ((decide (k = 4) || decide (s.size = 0)) && ((decide (k = 6) || decide (nk = 0)) && (decide (5 ≤ k) || decide (ne = 0))))))
def fit2 (k lv : Int) (s : ByteArray) (nk ne : Nat) : Bool :=
  decide (s.size ≤ 4096) && (okS s && (decide (ne ≤ 1024) && ((! decide (k = 6) || decide (nk = ne)) && (! decide (5 ≤ k) || decide (lv < 32)))))
def keyOk (x : ByteArray) : Bool := decide (x.size ≤ 4096) && okS x
def rkeys : List ByteArray → Option ByteArray → Int → Option Int
  | [], _, b => some b
  | x :: r, none, b => if keyOk x then rkeys r (some x) (b + x.size) else none
  | x :: r, some p, b => if keyOk x then (if scmp p x < 0 then rkeys r (some x) (b + x.size) else none) else none
mutual
/-- The reference's count of a value that is nested in lv others: nodes and bytes. -/
def rmP : V → Int → Option (Int × Int)
  | .mk k n s ks es, lv =>
    if fit1 k n s ks.length es.length = false then none
    else if fit2 k lv s ks.length es.length = false then none
    else match rkeys ks none s.size with
      | none => none
      | some b => rmL es lv 1 b
def rmL : List V → Int → Int → Int → Option (Int × Int)
  | [], _, m, b => some (m, b)
  | e :: es, lv, m, b => match rmP e (lv + 1) with
    | none => none
    | some (m', b') => if 4096 < m + m' ∨ 65536 < b + b' then none else rmL es lv (m + m') (b + b')
end
theorem rkeys_bd {ks : List ByteArray} {p : Option ByteArray} {b r : Int} (h : rkeys ks p b = some r) : b ≤ r ∧ r ≤ b + 4096 * ks.length := by
  induction ks generalizing p b with
  | nil => simp [rkeys] at h; subst h; simp
  | cons x ks ih =>
    have key : keyOk x = true → rkeys ks (some x) (b + x.size) = some r → b ≤ r ∧ r ≤ b + 4096 * (x :: ks).length := by
      intro h1 h2
      simp [keyOk] at h1
      have := ih h2
      rw [List.length_cons]
      omega
    cases p with
    | none =>
      rw [rkeys] at h
      split at h
      · exact key (by assumption) h
      · cases h
    | some p =>
      rw [rkeys] at h
      split at h
      · split at h
        · exact key (by assumption) h
        · cases h
      · cases h
theorem keys_len {k n lv : Int} {s : ByteArray} {nk ne : Nat} (h1 : fit1 k n s nk ne = true) (h2 : fit2 k lv s nk ne = true) : nk ≤ 1024 := by
  simp [fit1] at h1
  simp [fit2] at h2
  omega
theorem fit1_iff_true (k n : Int) (s : ByteArray) (nk ne : Nat) : (fit1 k n s nk ne = true) = (0 ≤ k ∧ k ≤ 6 ∧ (k = 3 ∨ n = 0) ∧ (k = 4 ∨ s.size = 0) ∧ (k = 6 ∨ nk = 0) ∧ (5 ≤ k ∨ ne = 0)) := by
  simp [fit1]
theorem fit2_cls (k lv : Int) (s : ByteArray) (nk ne : Nat) (hsz : s.size ≤ 4096) (hok : okS s = true) :
    (1025 ≤ ne ∧ fit2 k lv s nk ne = false) ∨
    (ne ≤ 1024 ∧ (k == 6) = true ∧ 5 ≤ k ∧ ((nk : Int) != (ne : Int)) = true ∧ fit2 k lv s nk ne = false) ∨
    (ne ≤ 1024 ∧ (k == 6) = true ∧ 5 ≤ k ∧ ((nk : Int) != (ne : Int)) = false ∧ 32 ≤ lv ∧ fit2 k lv s nk ne = false) ∨
    (ne ≤ 1024 ∧ (k == 6) = true ∧ 5 ≤ k ∧ ((nk : Int) != (ne : Int)) = false ∧ lv ≤ 31 ∧ fit2 k lv s nk ne = true) ∨
    (ne ≤ 1024 ∧ (k == 6) = false ∧ 5 ≤ k ∧ 32 ≤ lv ∧ fit2 k lv s nk ne = false) ∨
    (ne ≤ 1024 ∧ (k == 6) = false ∧ 5 ≤ k ∧ lv ≤ 31 ∧ fit2 k lv s nk ne = true) ∨
    (ne ≤ 1024 ∧ (k == 6) = false ∧ k < 5 ∧ fit2 k lv s nk ne = true) := by
  have h1 : decide (s.size ≤ 4096) = true := decide_eq_true hsz
  by_cases hn : ne ≤ 1024
  · by_cases hk : k = 6
    · by_cases he : nk = ne
      · by_cases hl : lv ≤ 31
        · refine .inr (.inr (.inr (.inl ⟨hn, by simp [hk], by omega, by simp [he], hl, ?_⟩)))
          simp [fit2, hok, hsz, hn, he]; omega
        · refine .inr (.inr (.inl ⟨hn, by simp [hk], by omega, by simp [he], by omega, ?_⟩))
          simp [fit2, hok, hsz, hn, he]; omega
      · refine .inr (.inl ⟨hn, by simp [hk], by omega, by simp; omega, ?_⟩)
        simp [fit2, hok, hsz, hn, he, hk]
    · by_cases h5 : 5 ≤ k
      · by_cases hl : lv ≤ 31
        · refine .inr (.inr (.inr (.inr (.inr (.inl ⟨hn, by simp [hk], h5, hl, ?_⟩)))))
          simp [fit2, hok, hsz, hn, hk]; omega
        · refine .inr (.inr (.inr (.inr (.inl ⟨hn, by simp [hk], h5, by omega, ?_⟩))))
          simp [fit2, hok, hsz, hn, hk]; omega
      · refine .inr (.inr (.inr (.inr (.inr (.inr ⟨hn, by simp [hk], by omega, ?_⟩)))))
        simp [fit2, hok, hsz, hn, hk]; omega
  · refine .inl ⟨by omega, ?_⟩
    simp [fit2, hn]
theorem rmP_bd : ∀ v : V, ∀ lv m b : Int, rmP v lv = some (m, b) → (1 ≤ m ∧ m ≤ 4096) ∧ (0 ≤ b ∧ b ≤ 5000000) := by
  refine V.ind fun k n s ks es ih lv m b h => ?_
  rw [rmP] at h
  split at h
  · cases h
  · rename_i h1
    split at h
    · cases h
    · rename_i h2
      split at h
      · cases h
      · rename_i b2 hk
        have g1 : fit1 k n s ks.length es.length = true := by simpa using h1
        have g2 : fit2 k lv s ks.length es.length = true := by simpa using h2
        have g1' := g1
        have g2' := g2
        simp [fit1] at g1
        simp [fit2] at g2
        have hb2 := rkeys_bd hk
        have hlen : ks.length ≤ 1024 := keys_len g1' g2'
        have key : ∀ (fs : List V), (∀ e ∈ fs, e ∈ es) → ∀ m0 b0 : Int, 1 ≤ m0 → m0 ≤ 4096 → 0 ≤ b0 → b0 ≤ 5000000 → rmL fs lv m0 b0 = some (m, b) → (1 ≤ m ∧ m ≤ 4096) ∧ (0 ≤ b ∧ b ≤ 5000000) := by
          intro fs
          induction fs with
          | nil =>
            intro _ m0 b0 _ _ _ _ h
            simp [rmL] at h
            omega
          | cons e fs ihf =>
            intro hin m0 b0 x0 x1 x2 x3 h
            rw [rmL] at h
            split at h
            · cases h
            · rename_i m' b' he
              have h2 := ih e (hin e (by simp)) (lv + 1) m' b' he
              split at h
              · cases h
              · exact ihf (fun x hx => hin x (by simp [hx])) _ _ (by omega) (by omega) (by omega) (by omega) h
        exact key es (fun _ h => h) 1 b2 (by omega) (by omega) (by omega) (by omega) h
end Go.Proofs.YtgdnkankleoaoaaGreatDoor

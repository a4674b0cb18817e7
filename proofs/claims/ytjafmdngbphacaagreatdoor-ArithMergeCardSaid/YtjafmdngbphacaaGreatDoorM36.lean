/- The closure of arith.without, and slices.IndexFunc over it. slices.DeleteFunc at values, over the closure of arith.without. -/
import Derived.Test.YtjafmdngbphacaaGreatDoorM35
set_option linter.unusedVariables false
set_option linter.unusedSimpArgs false
namespace Go.Proofs.YtjafmdngbphacaaGreatDoor
open Go.RowKit Go.Shelf Go.Sort
theorem FvRow.mono {n₀ n₁ : Nat} {W : World} {A : Option Addr} {zs : List Fv} (h : FvRow n₀ W A zs) (hB : n₀ ≤ n₁) : FvRow n₁ W A zs := fun j x hx => by
  obtain ⟨b, o, e, hb, hf⟩ := h j x hx
  exact ⟨b, o, e, Nat.lt_of_lt_of_le hb hB, hf⟩
theorem Rw.mono {w : World} {B C : Nat} {A : Option Addr} {l : List (V × Fv)} (h : Rw w B A l) (hB : B ≤ C) : Rw w C A l :=
  ⟨h.row.mono hB, fun p hp => (h.lies p hp).move fun b hlt => ⟨Nat.lt_of_lt_of_le hlt hB, rfl⟩, h.ok, h.len⟩
/-- Is a value among the sorted ones? -/
def goneB (l : List (V × Fv)) (t : V) : Bool := l.any fun p => decide (vcmp p.1 t = 0)
set_option maxHeartbeats 4000000 in
set_option maxRecDepth 100000 in
theorem gone_any (A : Option Addr) (cap S : Nat) (l : List (V × Fv)) (t : V) (tk tn : Int) (ts : ByteArray) (tA : Option Addr) (tla ta : Nat) (tC : Option Addr) (tlc tc : Nat) (w : World) (hR : Rw w w.heap.size A l) (hsrt : l.Pairwise (fun a b => vcmp a.1 b.1 ≤ 0))
    (hS : w.cell? ⟨S, 0, none⟩ = some (.slice A l.length cap)) (hSl : S < w.heap.size) (ht : Lies w (· < w.heap.size) t [.int .i64 tk, .int .i64 tn, .string ts, .slice tA tla ta, .slice tC tlc tc]) (hok : valid t = true) :
    Calls Tryz.prog 173 #[.agg #[.int .i64 tk, .int .i64 tn, .string ts, .slice tA tla ta, .slice tC tlc tc], .pointer (some ⟨S, 0, none⟩)] w fun e w' => e = .returned (.bool (goneB l t)) ∧ Below w.heap.size w w' := by
  obtain ⟨w1, hw1⟩ : ∃ X, X = w.alloc (.cells #[.int .i64 tk, .int .i64 tn, .string ts, .slice tA tla ta, .slice tC tlc tc] 25) := ⟨_, rfl⟩
  have hB : Below w.heap.size w w1 := by rw [hw1]; exact (Go.RowKit.Below.refl _ w).alloc (Nat.le_refl _) _
  have hb := bsf_any A cap l t tk tn ts tA tla ta tC tlc tc w1 ((hR.below hB (Nat.le_refl _)).mono hB.size) hsrt (ht.move fun b hb => ⟨Nat.lt_of_lt_of_le hb hB.size, hB.block b hb⟩) hok
  have HB := Lib.hid hb
  have hS1 : w1.cell? ⟨S, 0, none⟩ = some (.slice A l.length cap) := (hB.cell (p := ⟨S, 0, none⟩) hSl).trans hS
  have hx : Box w1 w.heap.size 25 #[.int .i64 tk, .int .i64 tn, .string ts, .slice tA tla ta, .slice tC tlc tc] := by rw [hw1]; exact Box.laid _ _ _
  obtain ⟨u0, u1, u2, u3, u4⟩ := box5 hx
  have HW := Lib.hid hB
  have hG : (l.any fun p => decide (vcmp p.1 t = 0)) = goneB l t := rfl
  rw [hG] at HB
  clear hb hB hR hsrt ht hx hG
  go_enter Tryz.func173, Tryz.ntmps173
  go_wp2_with fail
  rw [← hw1]
  go_wp2_with fail
  refine HB.out.mono ?_
  rintro e w2 ⟨⟨i, rfl⟩, hb2⟩
  go_wp2_with fail
  go_ret
  exact ⟨rfl, HW.out.trans (hb2.mono HW.out.size)⟩
/-- What the closure is asked to keep: in every world in which what lay below B lies as it lay. -/
def GoneAt (B S : Nat) (gone : List (V × Fv)) (l : List (V × Fv)) (w : World) : Prop :=
  ∀ (X : World), Below B w X → w.heap.size ≤ X.heap.size → ∀ (t : V) (tk tn : Int) (ts : ByteArray) (tA : Option Addr) (tla ta : Nat) (tC : Option Addr) (tlc tc : Nat), (t, Fv.mk tk tn ts tA tla ta tC tlc tc) ∈ l →
    Calls Tryz.prog 173 #[.agg #[.int .i64 tk, .int .i64 tn, .string ts, .slice tA tla ta, .slice tC tlc tc], .pointer (some ⟨S, 0, none⟩)] X fun e w' => e = .returned (.bool (goneB gone t)) ∧ Below X.heap.size X w'
theorem gone_at {B S cap : Nat} {A : Option Addr} {gone l : List (V × Fv)} {w : World} (hB : B ≤ w.heap.size) (hR : Rw w B A gone) (hsrt : gone.Pairwise (fun a b => vcmp a.1 b.1 ≤ 0)) (hS : w.cell? ⟨S, 0, none⟩ = some (.slice A gone.length cap)) (hSl : S < B)
    (hl : ∀ p ∈ l, Lies w (· < B) p.1 p.2.cs ∧ valid p.1 = true) : GoneAt B S gone l w := fun X hX hs t tk tn ts tA tla ta tC tlc tc hm =>
  gone_any A cap S gone t tk tn ts tA tla ta tC tlc tc X ((hR.below hX (Nat.le_refl _)).mono (Nat.le_trans hB hs)) hsrt ((hX.cell (p := ⟨S, 0, none⟩) hSl).trans hS) (by omega)
    ((hl _ hm).1.move fun b hb => ⟨by omega, hX.block b hb⟩) (hl _ hm).2
/-- What IndexFunc says. -/
def IxSays (P : V × Fv → Bool) (l : List (V × Fv)) (e : Ending) : Prop :=
  (∃ k : Nat, k < l.length ∧ (∀ j p, j < k → l[j]? = some p → P p = false) ∧ (∀ p, l[k]? = some p → P p = true) ∧ e = .returned (.int .i64 k)) ∨ ((∀ p ∈ l, P p = false) ∧ e = .returned (.int .i64 (-1)))
set_option maxHeartbeats 4000000 in
set_option maxRecDepth 100000 in
theorem idxf_any (A : Option Addr) (cap S B : Nat) (gone l : List (V × Fv)) (w : World) (hB : B ≤ w.heap.size) (hrow : FvRow w.heap.size w A (l.map Prod.snd)) (hlen : l.length ≤ 1000000) (hG : GoneAt B S gone l w) :
    Calls Tryz.prog 150 #[.slice A l.length cap, .func (.func 173) #[] #[.pointer (some ⟨S, 0, none⟩)]] w fun e w' => IxSays (fun p => goneB gone p.1) l e ∧ Below w.heap.size w w' := by
  have HR := Lib.hid hrow
  have HG := Lib.hid hG
  have HBB := Lib.hid hB
  clear hrow hG hB
  go_enter Tryz.func150, Tryz.ntmps150
  go_wp2_with fail
  go_loopg [5, 8] l.length (fun gg _ s8 wr => ∃ k : Nat, k ≤ l.length ∧ l.length - k ≤ gg ∧ s8 = .int .i64 k ∧ Hid (Below w.heap.size w wr) ∧ Hid (∀ j p, j < k → l[j]? = some p → goneB gone p.1 = false))
  case atStart => exact ⟨0, Nat.zero_le _, by omega, rfl, Lib.hid (Below.refl _ _), Lib.hid fun j p hj => absurd hj (Nat.not_lt_zero _)⟩
  case round =>
    obtain ⟨k, hk, hg, rfl, HW, HI⟩ := hrel
    by_cases hlt : k < l.length
    · obtain ⟨⟨pv, xk, xn, xs, xA, xla, xa, xC, xlc, xc⟩, hp⟩ : ∃ p, l[k]? = some p := ⟨_, List.getElem?_eq_getElem hlt⟩
      have HP := Lib.hid hp
      obtain ⟨b, o, rfl, hb, hf⟩ := HR.out k ⟨xk, xn, xs, xA, xla, xa, xC, xlc, xc⟩ (by rw [List.getElem?_map, hp]; rfl)
      obtain ⟨f0, f1, f2, f3, f4⟩ := hf.below HW.out hb
      simp only at f0 f1 f2 f3 f4
      have hc := HG.out wr (HW.out.mono HBB.out) HW.out.size pv xk xn xs xA xla xa xC xlc xc (List.mem_of_getElem? hp)
      have HC := Lib.hid hc
      have hk0 : (0 : Int) ≤ (k : Int) := by omega
      have hkl : (k : Int) < (l.length : Int) := by omega
      clear hc hf hp
      obtain ⟨c, hcc⟩ : ∃ c, goneB gone pv = c := ⟨_, rfl⟩
      have HCC := Lib.hid hcc
      rw [hcc] at HC
      clear hcc
      cases c with
      | true =>
        go_wp2_with fail
        refine HC.out.mono ?_
        rintro e w2 ⟨rfl, hb2⟩
        go_wp2_with fail
        (try simp only [Exit.inBlock, Exit.then])
        go_ret
        refine ⟨Or.inl ⟨k, hlt, HI.out, fun p hp => ?_, rfl⟩, HW.out.trans (hb2.mono HW.out.size)⟩
        have := HP.out
        rw [hp] at this
        injection this with this
        subst this
        exact HCC.out
      | false =>
        go_wp2_with fail
        refine HC.out.mono ?_
        rintro e w2 ⟨rfl, hb2⟩
        go_wp2_with fail
        go_roundg (l.length - (k + 1))
        case measure => omega
        case rel =>
          refine ⟨k + 1, by omega, Nat.le_refl _, by first | rfl | go_num, Lib.hid (HW.out.trans (hb2.mono HW.out.size)), Lib.hid fun j p hj hp => ?_⟩
          rcases Nat.lt_or_ge j k with h | h
          · exact HI.out j p h hp
          · obtain rfl : j = k := by omega
            have := HP.out
            rw [hp] at this
            injection this with this
            subst this
            exact HCC.out
    · have hkl : ¬ ((k : Int) < (l.length : Int)) := by omega
      go_wp2_with fail
      go_ret
      refine ⟨Or.inr ⟨fun p hp => ?_, rfl⟩, HW.out⟩
      obtain ⟨j, hj⟩ := List.getElem?_of_mem hp
      exact HI.out j p (by have := (List.getElem?_eq_some_iff.1 hj).1; omega) hj
end Go.Proofs.YtjafmdngbphacaaGreatDoor
namespace Go.Proofs.YtjafmdngbphacaaGreatDoor
open Go.RowKit Go.Shelf Go.Sort
theorem zero_parts (n : Nat) : (Builtin.zeroCells zeroVal.cells n).toList.length = n * 5 ∧ ∀ v ∈ (Builtin.zeroCells zeroVal.cells n).toList, v.oneCell' = true := by
  constructor
  · simp [Builtin.zeroCells, zeroVal, Value.cells]
  · intro v hv
    simp only [Builtin.zeroCells, zeroVal, Value.cells, Array.toList_map, List.mem_map] at hv
    obtain ⟨i, _, rfl⟩ := hv
    have h5 : i % 5 = 0 ∨ i % 5 = 1 ∨ i % 5 = 2 ∨ i % 5 = 3 ∨ i % 5 = 4 := by omega
    rcases h5 with h | h | h | h | h <;> simp [h, Value.oneCell']
theorem run_clear5 (w : World) (t ty : TypeId) (ht : Tryz.prog.underlying t = some (.slice 25)) (b o n c : Nat) (hn : 0 < n) (hc : ∀ j, j < n * 5 → (w.cell? ⟨b, o + j, none⟩).isSome = true) (hf : ∀ j, j < n * 5 → w.frozen? ⟨b, o + j, none⟩ = false) :
    (Builtin.clear_ #[t] ty #[.slice (some ⟨b, o, none⟩) n c]).run Tryz.prog w = .ok (.tuple #[]) (w.setCells b o (Builtin.zeroCells zeroVal.cells n).toList) := by
  obtain ⟨hl, h1⟩ := zero_parts n
  have hst := run_storeCells_cells (P := Tryz.prog) b o (Builtin.zeroCells zeroVal.cells n).toList 0 w (by rw [hl]; simpa using hc) (by rw [hl]; simpa using hf) h1
  simp only [Nat.add_zero] at hst
  have hv : ∀ w, (zeroValue 25).run Tryz.prog w = .ok zeroVal w := Tryz.zeroValue25
  obtain ⟨m, rfl⟩ : ∃ m, n = m + 1 := ⟨n - 1, by omega⟩
  simp [Builtin.clear_, run_underlying ht, hv, hst]
/-- A row cut short: cells beyond it may turn. -/
theorem own_short {w : World} {base g n i cap : Nat} {e : TypeId} {xs : List Value} (h : w.ownsRow base e 5 (.slice (some ⟨g, 0, none⟩) n cap) n xs) (hi : i ≤ n) : w.ownsRow base e 5 (.slice (some ⟨g, 0, none⟩) i cap) i (xs.take (i * 5)) := by
  have h1 := h.1
  refine ⟨by rw [List.length_take]; omega, ?_⟩
  rcases h.2 with ⟨h0, _⟩ | ⟨g', cap', cur, hv, hbg, hg, hnc, hcm, hcs, ht⟩
  · cases h0
  · cases hv
    exact .inr ⟨g, cap, cur, rfl, hbg, hg, by omega, hcm, hcs, by rw [← ht, List.take_take, Nat.min_eq_left (by omega)]⟩
theorem own_beyond {base g i cap : Nat} {e : TypeId} {xs : List Value} : ∀ (vs : List Value) (w : World) (o : Nat), w.ownsRow base e 5 (.slice (some ⟨g, 0, none⟩) i cap) i xs → i * 5 ≤ o → (w.setCells g o vs).ownsRow base e 5 (.slice (some ⟨g, 0, none⟩) i cap) i xs
  | [], _, _, h, _ => h
  | v :: r, w, o, h, ho => by
    rw [World.setCells]
    refine own_beyond r _ _ ?_ (by omega)
    refine ⟨h.1, ?_⟩
    rcases h.2 with ⟨h0, _⟩ | ⟨g', cap', cur, hv, hbg, hg, hnc, hcm, hcs, ht⟩
    · cases h0
    · cases hv
      refine .inr ⟨g, cap, cur.setIfInBounds o v, rfl, hbg, (show Box w g e cur from hg).put o v, hnc, hcm, by rw [Array.size_setIfInBounds]; exact hcs, ?_⟩
      rw [Array.toList_setIfInBounds, List.take_set, ht, List.set_eq_of_length_le (by rw [h.1]; exact ho)]
theorem below_cells {B g : Nat} {a : World} : ∀ (vs : List Value) (w : World) (o : Nat), Below B a w → B ≤ g → Below B a (w.setCells g o vs)
  | [], _, _, h, _ => h
  | v :: r, w, o, h, hg => by
    rw [World.setCells]
    exact below_cells r _ _ (h.setCell hg _) hg
theorem flat_set (x : Fv) : ∀ (ys : List Fv) (i : Nat), i < ys.length → ((((((ys.flatMap Fv.cs).set (i * 5) (.int .i64 x.k)).set (i * 5 + 1) (.int .i64 x.n)).set (i * 5 + 2) (.string x.s)).set (i * 5 + 3) (.slice x.A x.la x.a)).set (i * 5 + 4) (.slice x.C x.lc x.c)) = (ys.set i x).flatMap Fv.cs
  | [], i, h => by simp at h
  | y :: r, 0, _ => by simp [Fv.cs]
  | y :: r, i + 1, h => by
    have ih := flat_set x r i (by simpa using h)
    rw [List.set_cons_succ, List.flatMap_cons, List.flatMap_cons, ← ih]
    have e : (i + 1) * 5 = i * 5 + 1 + 1 + 1 + 1 + 1 := by omega
    rw [e]
    simp only [Fv.cs, List.cons_append, List.nil_append, List.set_cons_succ, Nat.add_right_comm _ _ 1]
theorem own_belowV {w w' : World} {base size n : Nat} {e : TypeId} {v : Value} {xs : List Value} (h : w.ownsRow base e size v n xs) (hb : Below w.heap.size w w') : w'.ownsRow base e size v n xs := by
  refine ⟨h.1, ?_⟩
  rcases h.2 with h1 | ⟨g, cap, cur, rfl, h1, h2, h3⟩
  · exact .inl h1
  · exact .inr ⟨g, cap, cur, rfl, h1, (hb.block g (h.lt g rfl).2).trans h2, h3⟩
/-- What is kept. -/
def keptL (gone l : List (V × Fv)) : List (V × Fv) := l.filter fun p => !goneB gone p.1
theorem kept_step {gone l : List (V × Fv)} {j : Nat} {p : V × Fv} (hj : l[j]? = some p) : keptL gone (l.take (j + 1)) = keptL gone (l.take j) ++ (if goneB gone p.1 = true then [] else [p]) := by
  unfold keptL
  rw [List.take_add_one, hj, List.filter_append]
  congr 1
  cases h : goneB gone p.1 <;> simp [h]
theorem kept_all {gone l : List (V × Fv)} (h : ∀ p ∈ l, goneB gone p.1 = false) : keptL gone l = l := by
  unfold keptL
  rw [List.filter_eq_self]
  intro p hp
  simp [h p hp]
/-- Between two rounds. -/
structure DelSt (base g cap : Nat) (gone l : List (V × Fv)) (w0 w : World) (i j : Nat) (ys : List Fv) : Prop where
  own : w.ownsRow base 25 5 (.slice (some ⟨g, 0, none⟩) l.length cap) l.length (ys.flatMap Fv.cs)
  len : ys.length = l.length
  head : ys.take i = (keptL gone (l.take j)).map Prod.snd
  tail : ys.drop j = (l.map Prod.snd).drop j
  ij : i < j
  jn : j ≤ l.length
  below : Below base w0 w
  size : w0.heap.size ≤ w.heap.size
namespace DelSt
variable {base g cap : Nat} {gone l : List (V × Fv)} {w0 w w' : World} {i j : Nat} {ys : List Fv}
theorem glt (h : DelSt base g cap gone l w0 w i j ys) : base ≤ g ∧ g < w.heap.size := h.own.lt g rfl
theorem next (h : DelSt base g cap gone l w0 w i j ys) (hb : Below w.heap.size w w') (hB : base ≤ w.heap.size) : DelSt base g cap gone l w0 w' i j ys :=
  ⟨own_belowV h.own hb, h.len, h.head, h.tail, h.ij, h.jn, h.below.trans (hb.mono hB), Nat.le_trans h.size hb.size⟩
theorem elem (h : DelSt base g cap gone l w0 w i j ys) {p : V × Fv} (hj : l[j]? = some p) : ys[j]? = some p.2 := by
  have h1 := congrArg (fun x => x[0]?) h.tail
  simp only [List.getElem?_drop, Nat.add_zero, List.getElem?_map, hj] at h1
  exact h1
theorem five (h : DelSt base g cap gone l w0 w i j ys) {p : V × Fv} (hj : l[j]? = some p) : FiveAt w g (j * 5) p.2 := by
  have hy := h.elem hj
  have hjl : j < ys.length := (List.getElem?_eq_some_iff.1 hy).1
  have hyy : ys[j]! = p.2 := by rw [getElem!_def, hy]
  have c : ∀ c, c < 5 → w.cell? ⟨g, j * 5 + c, none⟩ = some (p.2.cs[c]!) := fun c hc => by
    have hl := h.len
    rw [h.own.cellAt (j * 5 + c) (by omega), flat_get _ _ (by omega), show (j * 5 + c) / 5 = j by omega, show (j * 5 + c) % 5 = c by omega, hyy]
  exact ⟨c 0 (by omega), c 1 (by omega), c 2 (by omega), c 3 (by omega), c 4 (by omega)⟩
theorem free (h : DelSt base g cap gone l w0 w i j ys) (k : Nat) : w.frozen? ⟨g, k, none⟩ = false := by
  rcases h.own.2 with ⟨h0, _⟩ | ⟨g', cap', cur, hv, hbg, hgg, _⟩
  · cases h0
  · cases hv
    exact (show Box w g _ cur from hgg).free k
theorem there (h : DelSt base g cap gone l w0 w i j ys) (k : Nat) (hk : k < l.length * 5) : ∃ u, w.cell? ⟨g, k, none⟩ = some u := by
  have h1 := h.own.1
  rw [h.own.cellAt k hk]
  exact ⟨_, List.getElem?_eq_getElem (by omega)⟩
theorem skip (h : DelSt base g cap gone l w0 w i j ys) {p : V × Fv} (hj : l[j]? = some p) (hp : goneB gone p.1 = true) : DelSt base g cap gone l w0 w i (j + 1) ys := by
  have hjl : j < l.length := (List.getElem?_eq_some_iff.1 hj).1
  refine ⟨h.own, h.len, ?_, ?_, by have := h.ij; omega, by omega, h.below, h.size⟩
  · rw [kept_step hj, if_pos hp, List.append_nil, h.head]
  · rw [← List.drop_drop, h.tail, List.drop_drop]
theorem put (h : DelSt base g cap gone l w0 w i j ys) {p : V × Fv} (hj : l[j]? = some p) (hp : goneB gone p.1 = false) :
    DelSt base g cap gone l w0 (((((w.setCell ⟨g, i * 5, none⟩ (.int .i64 p.2.k)).setCell ⟨g, i * 5 + 1, none⟩ (.int .i64 p.2.n)).setCell ⟨g, i * 5 + 2, none⟩ (.string p.2.s)).setCell ⟨g, i * 5 + 3, none⟩ (.slice p.2.A p.2.la p.2.a)).setCell ⟨g, i * 5 + 4, none⟩ (.slice p.2.C p.2.lc p.2.c)) (i + 1) (j + 1) (ys.set i p.2) := by
  have hjl : j < l.length := (List.getElem?_eq_some_iff.1 hj).1
  have hij := h.ij
  have hl := h.len
  have hg := h.glt.1
  refine ⟨?_, by rw [List.length_set]; exact h.len, ?_, ?_, by omega, by omega, ((((h.below.setCell hg _).setCell hg _).setCell hg _).setCell hg _).setCell hg _, by simpa [World.setCell] using h.size⟩
  · rw [← flat_set p.2 ys i (by omega)]
    exact own_set (own_set (own_set (own_set (own_set h.own (i := i * 5) (by omega) _) (i := i * 5 + 1) (by omega) _) (i := i * 5 + 2) (by omega) _) (i := i * 5 + 3) (by omega) _) (i := i * 5 + 4) (by omega) _
  · rw [kept_step hj, if_neg (by rw [hp]; simp), List.map_append, ← h.head]
    rw [List.take_add_one, List.getElem?_set_self (by omega), List.take_set_of_le (Nat.le_refl _)]
    rfl
  · rw [List.drop_set_of_lt (by omega), ← List.drop_drop, h.tail, List.drop_drop]
end DelSt
end Go.Proofs.YtjafmdngbphacaaGreatDoor

/- A region that draws its order, whose operations read old memory alone and whose callees leave old memory as it was: one walk, in the order of the text. Nothing of the program is named here. A block of the call's own that is known whole, and worlds that part from one another in it and in new blocks alone. Nothing of the program is named here. slices.Grow onto nil. Plain facts for the layer utf: the decoding of UTF-8 as functions on lists of bytes; bit operations on int. Nothing of the program is named here. -/
import Derived.Test.YtjafmdngbphacaaGreatDoorM01
import Derived.Deep.Quiet
import Derived.Deep.QuietTactic
import Derived.BigQuiet
import Derived.OwnWalk
import Derived.Test.YtjafmdngbphacaaGreatDoorRows
import Derived.Lib.AppendZerosOnto
import Derived.Lib.Hide
import Derived.WalkSpells
import Derived.WalkLawsBesides
import Derived.Outline
import Derived.WalkKit
import Derived.Laws.BitsAllLaws
import Derived.Laws.BitsLemmas
set_option linter.unusedVariables false
set_option linter.unusedSimpArgs false
namespace Go.Proofs.YtjafmdngbphacaaGreatDoor
open Go.RowKit
/-- A world that parts from w0 above block B alone. -/
structure Calm (B : Nat) (w0 : World) where
  val : World
  below : Below B w0 val
instance {B : Nat} {w0 : World} : Nonempty (Calm B w0) := ⟨⟨w0, Below.refl _ _⟩⟩
theorem wp_region_calm {P : Program} {id : Nat} {Q : Exit → Act → World → Prop} {a : Act} {w w0 : World} {B : Nat} {l : List Oper} (hm : P.follows .mixedOrders = true) (hB : Region.lexB .any l.toArray = true) (hC : Below B w0 w)
    (h : wpQuiet P l.toArray (fun w' => ∃ u : Calm B w0, w' = u.val) (fun a' => ∀ w', (∃ u : Calm B w0, w' = u.val) → Q .normal a' w') l a) : (Code.region id l.toArray true).wp P Q a w :=
  wp_region_quiet (C := fun w' => ∃ u : Calm B w0, w' = u.val) hm hB ⟨⟨_, hC.drew⟩, rfl⟩ (by simpa using h)
/-- A callee's contract, met in such a world. -/
theorem Calm.call {P : Program} {f : FuncId} {args : Array Value} {B : Nat} {w0 : World} {u : Calm B w0} {v : Value} (hB : B ≤ w0.heap.size) (h : Calls P f args u.val fun e w' => e = .returned v ∧ Below u.val.heap.size u.val w') :
    Calls P f args u.val fun e w'' => e = .returned v ∧ ∃ u' : Calm B w0, w'' = u'.val :=
  h.mono fun _ w' ⟨he, hb⟩ => ⟨he, ⟨w', u.below.trans (hb.mono (Nat.le_trans hB u.below.size))⟩, rfl⟩
theorem Calm.cell {B : Nat} {w0 : World} (u : Calm B w0) {b i : Nat} (hlt : b < B) {x : Value} (h : w0.cell? ⟨b, i, none⟩ = some x) : u.val.cell? ⟨b, i, none⟩ = some x := (u.below.cell (p := ⟨b, i, none⟩) hlt).trans h
end Go.Proofs.YtjafmdngbphacaaGreatDoor
namespace Go.Proofs.YtjafmdngbphacaaGreatDoor
open Go.RowKit
/-- Block g is just these cells, none of them frozen. -/
def Box (w : World) (g : Nat) (t : TypeId) (cs : Array Value) : Prop := w.heap[g]? = some (.cells cs t (0, 0))
section
variable {w w' : World} {g : Nat} {t : TypeId} {cs : Array Value}
theorem Box.lt (h : Box w g t cs) : g < w.heap.size := (Array.getElem?_eq_some_iff.1 h).1
theorem Box.cell (h : Box w g t cs) {i : Nat} {u : Value} (hu : cs[i]? = some u) : w.cell? ⟨g, i, none⟩ = some u := (cell_of_row w g i cs t (0, 0) h).trans hu
theorem Box.free (h : Box w g t cs) (i : Nat) : w.frozen? ⟨g, i, none⟩ = false := by
  unfold Box at h
  simp [World.frozen?, h]
theorem Box.put (h : Box w g t cs) (i : Nat) (u : Value) : Box (w.setCell ⟨g, i, none⟩ u) g t (cs.setIfInBounds i u) := by
  unfold Box at h ⊢
  simp [World.setCell, Array.getElem?_modify, h]
theorem Box.laid (w : World) (t : TypeId) (cs : Array Value) : Box (w.alloc (.cells cs t)) w.heap.size t cs := heap_alloc_new w _
theorem Box.drewN (h : Box w g t cs) (n : Nat) : Box (w.drewN n) g t cs := h
theorem Box.alloc (h : Box w g t cs) (o : Obj) : Box (w.alloc o) g t cs := (Below.heap_alloc w o g h.lt).trans h
theorem Box.grown (h : Box w g t cs) {row : Option Nat} (hb : w.grownBy w' row) (hg : some g ≠ row) : Box w' g t cs := (hb.block g h.lt hg).trans h
theorem Box.far (h : Box w g t cs) {p : Addr} (hp : g ≠ p.block) (u : Value) : Box (w.setCell p u) g t cs := (Below.heap_setCell w p u g hp).trans h
theorem Box.below {B : Nat} (h : Box w g t cs) (hb : Below B w w') (hg : g < B) : Box w' g t cs := (hb.block g hg).trans h
end
theorem grown_trans {a b c : World} {row : Option Nat} (h : a.grownBy b row) (k : b.grownBy c row) : a.grownBy c row :=
  ⟨k.os.trans h.os, k.tape.trans h.tape, k.output.trans h.output, Nat.le_trans h.size k.size, fun i hi hn => (k.block i (Nat.lt_of_lt_of_le hi h.size) hn).trans (h.block i hi hn)⟩
theorem grown_set (w : World) (g i : Nat) (u : Value) : w.grownBy (w.setCell ⟨g, i, none⟩ u) (some g) :=
  ⟨rfl, rfl, rfl, by simp [World.setCell], fun k _ hn => Below.heap_setCell w _ u k (fun e => hn (by rw [e]))⟩
/-- Behind blocks that were laid before block g: below g nothing has turned. -/
theorem grown_below {w w' : World} {g : Nat} (h : w.grownBy w' (some g)) (hg : g ≤ w.heap.size) : Below g w w' :=
  ⟨h.os, h.tape, h.output, h.size, fun k hk => h.block k (by omega) (fun e => by injection e with e; omega)⟩
theorem below_grown {w w' : World} (h : Below w.heap.size w w') (row : Option Nat) : w.grownBy w' row := ⟨h.os, h.tape, h.output, h.size, fun k hk _ => h.block k hk⟩
theorem grown_one {w w' : World} {o : Obj} {row : Option Nat} (h : (w.alloc o).grownBy w' row) : w.grownBy w' row := grown_trans (World.grownBy_alloc w o row) h
theorem box3 {w : World} {g : Nat} {t : TypeId} {x y z : Value} (h : Box w g t #[x, y, z]) : w.cell? ⟨g, 0, none⟩ = some x ∧ w.cell? ⟨g, 1, none⟩ = some y ∧ w.cell? ⟨g, 2, none⟩ = some z ∧ w.frozen? ⟨g, 0, none⟩ = false ∧ w.frozen? ⟨g, 1, none⟩ = false ∧ w.frozen? ⟨g, 2, none⟩ = false :=
  ⟨h.cell rfl, h.cell rfl, h.cell rfl, h.free 0, h.free 1, h.free 2⟩
theorem box5 {w : World} {g : Nat} {t : TypeId} {x0 x1 x2 x3 x4 : Value} (h : Box w g t #[x0, x1, x2, x3, x4]) : w.cell? ⟨g, 0, none⟩ = some x0 ∧ w.cell? ⟨g, 1, none⟩ = some x1 ∧ w.cell? ⟨g, 2, none⟩ = some x2 ∧ w.cell? ⟨g, 3, none⟩ = some x3 ∧ w.cell? ⟨g, 4, none⟩ = some x4 :=
  ⟨h.cell rfl, h.cell rfl, h.cell rfl, h.cell rfl, h.cell rfl⟩
end Go.Proofs.YtjafmdngbphacaaGreatDoor
namespace Go.Proofs.YtjafmdngbphacaaGreatDoor
open Go.RowKit
/-- The zero value. -/
def zeroVal : Value := .agg #[.int .i64 0, .int .i64 0, .string ⟨#[]⟩, .slice none 0 0, .slice none 0 0]
theorem inf_value : (Tryz.prog.info? 25).map (fun i => (i.zero, i.size, i.bytes)) = some (some zeroVal, 5, 80) := by kernel_rfl
theorem inf_string : (Tryz.prog.info? 9).map (fun i => (i.zero, i.size, i.bytes)) = some (some (.string ⟨#[]⟩), 1, 16) := by kernel_rfl
def GrowPost (w : World) (e : Ending) (w' : World) : Prop := Below w.heap.size w w' ∧ ∃ v, e = .returned v ∧ w'.ownsRow w.heap.size 25 5 v 0 []
set_option maxHeartbeats 2000000 in
set_option maxRecDepth 100000 in
theorem grow_nil (n : Nat) (w : World) (hn : n ≤ 1000000) : Calls Tryz.prog 149 #[.slice none 0 0, .int .i64 n] w (GrowPost w) := by
  obtain ⟨i0, hi, hz0, hz1, hz2⟩ := info_parts inf_value
  by_cases hz : n = 0
  · subst hz
    go_enter Tryz.func149, Tryz.ntmps149
    go_wp2_with fail
    go_ret
    exact ⟨Below.refl _ _, _, rfl, World.ownsRow_nil _ _ _ _⟩
  · have hz' : 0 < n := by omega
    have hold : (Builtin.firstCells i0.size 0 (.slice none 0 0)).run Tryz.prog w.drew = .ok ([] : List Value).toArray w.drew := run_firstCells_none w.drew i0.size 0 0 0
    have hrz : ∀ ty, (Builtin.append_ #[23, 3] ty #[.slice none 0 0, .int .i64 (n : Int)]).run Tryz.prog w =
        .ok (.slice (some ⟨w.heap.size, 0, none⟩) (0 + n) (grownCap w (0 + n) 0 25)) (w.drew.alloc (.cells (([] : List Value).toArray ++ Builtin.zeroCells zeroVal.cells n ++ Builtin.zeroCells zeroVal.cells (grownCap w (0 + n) 0 25 - (0 + n))) 25)) := fun ty => by
      exact Lib.run_append_grow_zeros w 23 3 ty 25 i0 zeroVal .i64 .i64 Tryz.underlying23 Tryz.underlying3 hi hz0 none 0 0 ([] : List Value) hold n hz' (by rw [hz1]; omega) (by omega) (by omega)
        (by rw [hz2]; omega) (growslice_fits (by omega) (by rw [hz2]; omega))
    have hGn : 0 + n ≤ grownCap w (0 + n) 0 25 := grownCap_ge w _ _ _
    have hG63 : grownCap w (0 + n) 0 25 ≤ maxLen := grownCap_le_maxLen w (0 + n) 0 25 (by unfold maxLen; omega)
    generalize hG : grownCap w (0 + n) 0 25 = G at hrz hGn hG63
    have hG63' : G ≤ 9223372036854775807 := by unfold maxLen at hG63; omega
    have HM := Lib.hid hG63
    clear hold hG hG63
    obtain ⟨C, hC⟩ : ∃ C : Array Value, C = ([] : List Value).toArray ++ Builtin.zeroCells zeroVal.cells n ++ Builtin.zeroCells zeroVal.cells (G - (0 + n)) := ⟨_, rfl⟩
    have hsz : Hid (C.size = G * 5) := Lib.hid (by
      rw [hC, Array.size_append, Array.size_append, size_zeroCells, size_zeroCells, show zeroVal.cells.size = 5 from rfl]
      simp
      omega)
    rw [← hC] at hrz
    have HRZ := Lib.hid hrz
    clear hrz hC
    go_enter Tryz.func149, Tryz.ntmps149
    go_wp2_with (at_builtin; refine Lib.wpList_append_run _ rfl _ _ _ _ rfl _ _ rfl rfl _ _ (HRZ.out _) ?_)
    go_ret
    refine ⟨((Below.refl _ _).drew).alloc (Nat.le_refl _) _, _, rfl, ?_⟩
    exact World.ownsRow_made (base := w.heap.size) (e := 25) (size := 5) w.drew C G (Nat.le_refl _) HM.out hsz.out
end Go.Proofs.YtjafmdngbphacaaGreatDoor
namespace Go.Proofs.YtjafmdngbphacaaGreatDoor
open Go.RowKit
theorem toNat_i64 {a : Nat} (h : a < 9223372036854775808) : (BitVec.ofInt 64 (a : Int)).toNat = a := by
  rw [BitVec.ofInt_natCast, BitVec.toNat_ofNat, Nat.mod_eq_of_lt (by omega)]
theorem and_i64 (a b : Nat) (ha : a < 9223372036854775808) (hb : b < 9223372036854775808) : bits .and .i64 (a : Int) (b : Int) = ((a &&& b : Nat) : Int) := by
  have hle : a &&& b ≤ a := Nat.and_le_left
  have h : bits .and .i64 (a : Int) (b : Int) = IntKind.i64.wrap ((BitVec.ofInt 64 (a : Int) &&& BitVec.ofInt 64 (b : Int)).toNat : Int) := rfl
  rw [h, BitVec.toNat_and, toNat_i64 ha, toNat_i64 hb, IntKind.wrap_i64]; omega
theorem or_i64 (a b : Nat) (ha : a < 9223372036854775808) (hb : b < 9223372036854775808) : bits .or .i64 (a : Int) (b : Int) = ((a ||| b : Nat) : Int) := by
  have hlt : a ||| b < 2 ^ 63 := Nat.or_lt_two_pow (by omega) (by omega)
  have h : bits .or .i64 (a : Int) (b : Int) = IntKind.i64.wrap ((BitVec.ofInt 64 (a : Int) ||| BitVec.ofInt 64 (b : Int)).toNat : Int) := rfl
  rw [h, BitVec.toNat_or, toNat_i64 ha, toNat_i64 hb, IntKind.wrap_i64]; omega
theorem and63 (a : Nat) (ha : a < 4294967296) : bits .and .i64 (a : Int) 63 = ((a % 64 : Nat) : Int) := by
  have h := and_i64 a 63 (by omega) (by omega)
  rw [nat_mask6] at h; exact h
theorem and31 (a : Nat) (ha : a < 4294967296) : bits .and .i64 (a : Int) 31 = ((a % 32 : Nat) : Int) := by
  have h := and_i64 a 31 (by omega) (by omega)
  rw [nat_mask5] at h; exact h
theorem and15 (a : Nat) (ha : a < 4294967296) : bits .and .i64 (a : Int) 15 = ((a % 16 : Nat) : Int) := by
  have h := and_i64 a 15 (by omega) (by omega)
  rw [nat_mask4] at h; exact h
theorem and7 (a : Nat) (ha : a < 4294967296) : bits .and .i64 (a : Int) 7 = ((a % 8 : Nat) : Int) := by
  have h := and_i64 a 7 (by omega) (by omega)
  rw [nat_mask3] at h; exact h
theorem or_low (k a c : Nat) (hc : c < 2 ^ k) : 2 ^ k * a ||| c = 2 ^ k * a + c := (Nat.two_pow_add_eq_or_of_lt hc a).symm
theorem or64 (a c : Nat) (ha : a < 4294967296) (hc : c < 64) : bits .or .i64 ((a * 64 : Nat) : Int) (c : Int) = ((a * 64 + c : Nat) : Int) := by
  rw [or_i64 _ _ (by omega) (by omega)]
  have h := or_low 6 a c (by omega)
  rw [show a * 64 = 2 ^ 6 * a from by omega, h]
/-- Is a number a code point? -/
def cp (r : Int) : Bool := decide (0 ≤ r ∧ r ≤ 1114111 ∧ ¬ (55296 ≤ r ∧ r ≤ 57343))
/-- The bits of n bytes behind a first one. -/
def tl : Nat → Nat → List UInt8 → Option Nat
  | 0, acc, _ => some acc
  | _ + 1, _, [] => none
  | n + 1, acc, b :: r => if 128 ≤ b.toNat ∧ b.toNat ≤ 191 then tl n (acc * 64 + b.toNat % 64) r else none
def fin (n least : Nat) : Option Nat → Option (Nat × Nat)
  | none => none
  | some r => if r < least ∨ cp r = false then none else some (r, n + 1)
/-- The code point at the head of a list of bytes, and the length of its encoding. -/
def dec : List UInt8 → Option (Nat × Nat)
  | [] => none
  | b :: r =>
    if b.toNat < 128 then some (b.toNat, 1)
    else if b.toNat < 192 then none
    else if b.toNat < 224 then fin 1 128 (tl 1 (b.toNat % 32) r)
    else if b.toNat < 240 then fin 2 2048 (tl 2 (b.toNat % 16) r)
    else if b.toNat < 248 then fin 3 65536 (tl 3 (b.toNat % 8) r)
    else none
theorem dec_cons (b : UInt8) (r : List UInt8) : dec (b :: r) = if b.toNat < 128 then some (b.toNat, 1)
    else if b.toNat < 192 then none
    else if b.toNat < 224 then fin 1 128 (tl 1 (b.toNat % 32) r)
    else if b.toNat < 240 then fin 2 2048 (tl 2 (b.toNat % 16) r)
    else if b.toNat < 248 then fin 3 65536 (tl 3 (b.toNat % 8) r)
    else none := rfl
def decV : Option (Nat × Nat) → Value
  | none => .tuple #[.int .i64 0, .int .i64 0, .bool false]
  | some (r, n) => .tuple #[.int .i64 r, .int .i64 n, .bool true]
theorem tl_short (n acc : Nat) (l : List UInt8) (h : l.length < n) : tl n acc l = none := by
  induction n generalizing acc l with
  | zero => omega
  | succ n ih =>
    cases l with
    | nil => rfl
    | cons b r => unfold tl; split
                  · exact ih _ _ (by simp at h; omega)
                  · rfl
theorem tl_step (n acc : Nat) (l : List UInt8) (k : Nat) (hk : k < l.length) :
    tl (n + 1) acc (l.drop k) = if 128 ≤ l[k].toNat ∧ l[k].toNat ≤ 191 then tl n (acc * 64 + l[k].toNat % 64) (l.drop (k + 1)) else none := by
  rw [List.drop_eq_getElem_cons hk]; rfl
theorem tl_bound (n acc : Nat) (l : List UInt8) (r : Nat) (h : tl n acc l = some r) : r < (acc + 1) * 64 ^ n := by
  induction n generalizing acc l with
  | zero => simp [tl] at h; omega
  | succ n ih =>
    cases l with
    | nil => simp [tl] at h
    | cons b t =>
      unfold tl at h
      split at h
      · have := ih _ _ h
        have hb : b.toNat % 64 < 64 := by omega
        have h1 : (acc * 64 + b.toNat % 64 + 1) * 64 ^ n ≤ ((acc + 1) * 64) * 64 ^ n := Nat.mul_le_mul_right _ (by omega)
        rw [Nat.pow_succ, Nat.mul_comm (64 ^ n) 64, ← Nat.mul_assoc]; omega
      · simp at h
theorem dec_some_cp {l : List UInt8} {r n : Nat} (h : dec l = some (r, n)) : cp r = true ∧ 1 ≤ n ∧ n ≤ 4 ∧ n ≤ l.length := by
  have ft : ∀ (m least acc : Nat) (t : List UInt8), fin m least (tl m acc t) = some (r, n) → cp r = true ∧ n = m + 1 ∧ m ≤ t.length := by
    intro m least acc t h
    rcases Nat.lt_or_ge t.length m with hlt | hge
    · rw [tl_short m acc t hlt] at h; simp [fin] at h
    · cases hx : tl m acc t with
      | none => rw [hx] at h; simp [fin] at h
      | some v =>
        rw [hx] at h; unfold fin at h; simp only at h
        split at h
        · simp at h
        · rename_i hc
          injection h with h; injection h with h1 h2
          subst h1; subst h2
          refine ⟨?_, rfl, hge⟩
          cases hcp : cp v with
          | true => rfl
          | false => exact absurd (.inr hcp) hc
  cases l with
  | nil => simp [dec] at h
  | cons b t =>
    rw [dec_cons] at h
    split at h
    · injection h with h; injection h with h1 h2
      subst h1; subst h2
      refine ⟨?_, by omega, by omega, by simp⟩
      unfold cp; simp; omega
    · split at h
      · simp at h
      · split at h
        · obtain ⟨x, y, z⟩ := ft _ _ _ _ h; exact ⟨x, by omega, by omega, by simp; omega⟩
        · split at h
          · obtain ⟨x, y, z⟩ := ft _ _ _ _ h; exact ⟨x, by omega, by omega, by simp; omega⟩
          · split at h
            · obtain ⟨x, y, z⟩ := ft _ _ _ _ h; exact ⟨x, by omega, by omega, by simp; omega⟩
            · simp at h
/-- The number of bytes of an encoding. -/
def sz (r : Int) : Nat := if cp r = false then 0 else if r < 128 then 1 else if r < 2048 then 2 else if r < 65536 then 3 else 4
def lst (n : Nat) : Nat := if n = 2 then 128 else if n = 3 then 2048 else 65536
def top (n : Nat) : Nat := if n = 2 then 32 else if n = 3 then 16 else 8
theorem top_le (n : Nat) : top n ≤ 32 := by unfold top; (repeat' split) <;> omega
theorem fin_size (n r0 acc : Nat) (l : List UInt8) (h2 : 2 ≤ n) (h4 : n ≤ 4) (hr : r0 < top n) (h : tl (n - 1) r0 l = some acc) :
    fin (n - 1) (lst n) (some acc) = if sz acc = n then some (acc, n) else none := by
  have hb := tl_bound _ _ _ _ h
  have hcase : n = 2 ∨ n = 3 ∨ n = 4 := by omega
  unfold fin
  simp only []
  rcases hcase with rfl | rfl | rfl
  all_goals
    simp only [top, lst] at hr hb ⊢
    simp at hr hb
    cases hc : cp acc
    · unfold sz
      simp [hc]
    · have hcr : (acc : Int) ≤ 1114111 := by unfold cp at hc; simp at hc; omega
      unfold sz
      simp only [hc, or_false, Bool.true_eq_false, if_false]
      simp
      (repeat' split) <;> first | rfl | omega
/-- All code points of a list of bytes. -/
def runesF : Nat → List UInt8 → Option (List Nat)
  | _, [] => some []
  | 0, _ :: _ => none
  | f + 1, b :: t => match dec (b :: t) with
    | none => none
    | some (r, n) => (runesF f ((b :: t).drop n)).map (r :: ·)
def runes (l : List UInt8) : Option (List Nat) := runesF l.length l
theorem runesF_enough (f g : Nat) (l : List UInt8) (hf : l.length ≤ f) (hg : l.length ≤ g) : runesF f l = runesF g l := by
  induction f generalizing g l with
  | zero =>
    cases l with
    | nil => unfold runesF; rfl
    | cons b t => simp at hf
  | succ f ih =>
    cases l with
    | nil => cases g <;> rfl
    | cons b t =>
      cases g with
      | zero => simp at hg
      | succ g =>
        unfold runesF
        cases h : dec (b :: t) with
        | none => rfl
        | some rn =>
          obtain ⟨r, n⟩ := rn
          have hn := (dec_some_cp h).2.1
          simp only []
          rw [ih g _ (by simp at hf ⊢; omega) (by simp at hg ⊢; omega)]
theorem runes_nil : runes [] = some [] := rfl
theorem runes_none {l : List UInt8} (hl : l ≠ []) (h : dec l = none) : runes l = none := by
  cases l with
  | nil => exact absurd rfl hl
  | cons b t => unfold runes runesF; simp only [List.length_cons]; rw [h]
theorem runes_some {l : List UInt8} {r n : Nat} (h : dec l = some (r, n)) : runes l = (runes (l.drop n)).map (r :: ·) := by
  have hn := (dec_some_cp h).2.1
  cases l with
  | nil => simp [dec] at h
  | cons b t =>
    show runesF (t.length + 1) (b :: t) = _
    unfold runesF
    rw [h]
    simp only []
    unfold runes
    rw [runesF_enough t.length ((b :: t).drop n).length _ (by simp; omega) (Nat.le_refl _)]
/-- What a scan of the whole list knows when it stands at offset k and has read xs. -/
def Scan (l : List UInt8) (k : Nat) (xs : List Nat) : Prop := k ≤ l.length ∧ xs.length ≤ k ∧ runes l = (runes (l.drop k)).map (xs ++ ·)
theorem Scan.start (l : List UInt8) : Scan l 0 [] := ⟨Nat.zero_le _, Nat.le_refl _, by simp⟩
theorem Scan.step {l : List UInt8} {k : Nat} {xs : List Nat} (h : Scan l k xs) {r n : Nat} (hd : dec (l.drop k) = some (r, n)) : Scan l (k + n) (xs ++ [r]) := by
  obtain ⟨_, hn, _, hl⟩ := dec_some_cp hd
  refine ⟨by rw [List.length_drop] at hl; have := h.1; omega, by have := h.2.1; simp; omega, ?_⟩
  rw [h.2.2, runes_some hd, List.drop_drop, Option.map_map]
  congr 1; funext x; simp
theorem Scan.fail {l : List UInt8} {k : Nat} {xs : List Nat} (h : Scan l k xs) (hk : k < l.length) (hd : dec (l.drop k) = none) : runes l = none := by
  rw [h.2.2, runes_none (by simp; omega) hd]; rfl
theorem Scan.done {l : List UInt8} {k : Nat} {xs : List Nat} (h : Scan l k xs) (hk : ¬ k < l.length) : runes l = some xs := by
  rw [h.2.2, List.drop_eq_nil_of_le (by omega), runes_nil]; simp
end Go.Proofs.YtjafmdngbphacaaGreatDoor

/- What is parsed of the texts of the statements on limits. Nothing of the program is named here. keep.Mod: the remainder that is not negative. The last step of a law's row: the call has answered true, and nothing that was there has changed. Nothing of the program is named here. What the listed variables give: strconv.ErrRange holds an error, and the table of signs lies as the program text lays it. -/
import Derived.Test.YthiempadgehhlaaGreatDoorQD
import Derived.Test.YthiempadgehhlaaGreatDoorRows
import Derived.WalkKit
import Derived.Lib.Hide
import Derived.WalkSpells
import Derived.WalkLawsBesides
import Derived.Test.YthiempadgehhlaaGreatDoorQB
import Derived.ProofKit
import Derived.OpenShut
import Derived.Carry
import Derived.KernelRfl
import Derived.Test.YthiempadgehhlaaGreatDoorParse
import Derived.Test.YthiempadgehhlaaGreatDoorFs
import Derived.Laws.Strings
import Derived.Laws.Rows
import Derived.Lib.LaidTab
import Derived.Test.YthiempadgehhlaaGreatDoorFx
import Derived.LaidMore
import Derived.LaidLaws
import Derived.Stop.LaidErr
set_option linter.unusedVariables false
set_option linter.unusedSectionVars false
set_option linter.unusedSimpArgs false
namespace Go.Proofs.YthiempadgehhlaaGreatDoor
open Go.RowKit
def Ft.opn : Ft → Int
  | .mk op _ _ _ _ => op
def Ft.subs : Ft → List Ft
  | .mk _ _ _ _ fs => fs
def Ft.pars : Ft → List ByteArray
  | .mk _ _ _ ps _ => ps
def Ft.num : Ft → Int
  | .mk _ _ (.mk _ n _ _ _) _ _ => n
/-- The definition's text behind k parameters. -/
def limS (v : Bool) : Nat → ByteArray
  | 0 => ⟨#[46, 32, 124, 32, 100, 101, 102, 32, 102, 40]⟩
  | k + 1 => match k, v with
    | 0, false => limS v k ++ ⟨#[112]⟩
    | 0, true => (limS v k ++ ⟨#[36]⟩) ++ ⟨#[112]⟩
    | _ + 1, false => (limS v k ++ ⟨#[59, 32]⟩) ++ ⟨#[112]⟩
    | _ + 1, true => ((limS v k ++ ⟨#[59, 32]⟩) ++ ⟨#[36]⟩) ++ ⟨#[112]⟩
theorem limS_size (v : Bool) : ∀ k, (limS v k).size ≤ 10 + 4 * k
  | 0 => by rw [limS]; decide
  | k + 1 => by
    have h := limS_size v k
    have h1 : (⟨#[112]⟩ : ByteArray).size = 1 := rfl
    have h2 : (⟨#[36]⟩ : ByteArray).size = 1 := rfl
    have h3 : (⟨#[59, 32]⟩ : ByteArray).size = 2 := rfl
    rw [limS.eq_def]
    dsimp only
    split <;> simp only [ByteArray.size_append, h1, h2, h3] <;> omega
def limT (v : Bool) (n : Nat) : ByteArray := limS v n ++ ⟨#[41, 58, 32, 46, 59, 32, 102]⟩
def limB (v : Bool) (n : Nat) : Bool := match parseP (limT v n).data.toList with
  | (f, a, e) => if 8 < n then decide (e = 2) && (decide (a = 8) && decide (f.opn = 0)) else decide (e = 0) && (decide (f.subs.length = 2) && decide (((f.subs[1]?).map fun g => g.pars.length) = some n))
theorem lim_all (v : Bool) : ∀ n, n < 16 → limB v (n + 1) = true := by
  intro n hn
  have h : ∀ v : Bool, ((List.range 16).all fun n => limB v (n + 1)) = true := by
    intro v
    cases v <;> decide +kernel
  exact List.all_eq_true.1 (h v) n (List.mem_range.2 hn)
def awB : Bool := match parseP [49, 32, 45, 32, 50, 32, 45, 32, 51] with
  | (f, a, e) => decide (e = 0) && (decide (a = 0) && (decide (f.opn = 17) && (decide (f.subs.length = 2) && (decide (((f.subs[0]?).map fun g => g.opn) = some 17) && decide (((f.subs[1]?).map fun g => g.num) = some 3)))))
theorem aw_true : awB = true := by decide +kernel
/-- The texts of the statement on levels. -/
def lvO (i : Nat) : List UInt8 := match i with
  | 0 => [124] | 1 => [44] | 2 => [61] | 3 => [47, 47] | 4 => [111, 114] | 5 => [97, 110, 100] | 6 => [60] | 7 => [43] | _ => [42]
def lvK (i : Nat) : Int := match i with
  | 0 => 12 | 1 => 13 | 2 => 27 | 3 => 14 | 4 => 15 | 5 => 16 | _ => 17
def lvT (i k : Nat) : List UInt8 := [49, 32] ++ lvO i ++ [32, 50, 32] ++ lvO k ++ [32, 51]
def lvFirst (i k : Nat) : Bool := decide (i < k) || (decide (i = k) && (decide (i = 0) || decide (i = 3)))
def lvB (i k : Nat) : Bool := match parseP (lvT i k) with
  | (f, a, e) => if i = k ∧ (i = 2 ∨ i = 6) then decide (e = 4) else
    decide (e = 0) && (decide (f.subs.length = 2) && (decide (f.opn = lvK (if lvFirst i k = true then i else k)) && (decide (((f.subs[(if lvFirst i k = true then 1 else 0)]?).map fun g => (g.opn, g.subs.length)) = some (lvK (if lvFirst i k = true then k else i), 2)) && decide (((f.subs[(if lvFirst i k = true then 0 else 1)]?).map fun g => g.opn) = some 7))))
theorem lv_all : ∀ i, i < 9 → ∀ k, k < 9 → lvB i k = true := by
  intro i hi k hk
  have h : ((List.range 9).all fun i => (List.range 9).all fun k => lvB i k) = true := by decide +kernel
  exact List.all_eq_true.1 (List.all_eq_true.1 h i (List.mem_range.2 hi)) k (List.mem_range.2 hk)
end Go.Proofs.YthiempadgehhlaaGreatDoor
namespace Go.Proofs.YthiempadgehhlaaGreatDoor
open Go.RowKit
theorem retm {k : IntKind} {a b : Int} (h : a = b) : Ending.returned (.int k a) = .returned (.int k b) := by rw [h]
theorem mod_fix' (x n : Int) (hn : 0 < n) : (if x.tmod n < 0 then x.tmod n + n else x.tmod n) = x % n := by
  have h1 := Int.tmod_add_mul_tdiv x n
  have h2 := Int.lt_tmod_of_pos x hn
  have h3 := Int.tmod_lt_of_pos x hn
  split
  · rename_i h
    have : (x.tmod n + n) % n = x % n := by
      conv => rhs; rw [← h1]
      simp
    rw [← this, Int.emod_eq_of_lt (by omega) (by omega)]
  · rename_i h
    have : (x.tmod n) % n = x % n := by
      conv => rhs; rw [← h1]
      simp
    rw [← this, Int.emod_eq_of_lt (by omega) (by omega)]
set_option maxHeartbeats 400000 in
theorem kmod_any (x n : Int) (hn : 0 < n) (hn2 : n ≤ 4611686018427387903) (w : World) :
    Calls Tryz.prog 10 #[.int .i64 x, .int .i64 n] w fun e w' => e = .returned (.int .i64 (x % n)) ∧ w = w' := by
  have hf := Lib.hid (mod_fix' x n hn)
  have hb : Hid (-n < x.tmod n ∧ x.tmod n < n) := Lib.hid (by
    have h1 := Int.lt_tmod_of_pos x hn
    have h2 := Int.tmod_lt_of_pos x hn
    exact ⟨h1, h2⟩)
  have hne : (n == 0) = false := by simp; omega
  have hne1 : n ≠ 0 := by omega
  obtain ⟨hb1, hb2⟩ := hb.out
  by_cases hs : x.tmod n < 0
  · have he : Hid (x.tmod n + n = x % n) := Lib.hid (by rw [← hf.out, if_pos hs])
    go_enter Tryz.func10, Tryz.ntmps10
    go_wp2
    go_ret
    exact ⟨retm he.out, rfl⟩
  · have he : Hid (x.tmod n = x % n) := Lib.hid (by rw [← hf.out, if_neg hs])
    go_enter Tryz.func10, Tryz.ntmps10
    go_wp2
    go_ret
    exact ⟨retm he.out, rfl⟩
/-- Mod as a number of its own. -/
theorem kmod_nat (x : Int) (n : Nat) (hn : 0 < n) (hn2 : n ≤ 1000000) : ∃ d : Nat, d < n ∧ ∀ w, Calls Tryz.prog 10 #[.int .i64 x, .int .i64 (n : Int)] w fun e w' => e = .returned (.int .i64 (d : Int)) ∧ w = w' := by
  have h1 := Int.emod_nonneg x (b := (n : Int)) (by omega)
  have h2 := Int.emod_lt_of_pos x (b := (n : Int)) (by omega)
  refine ⟨(x % n).toNat, by omega, fun w => ?_⟩
  rw [Int.toNat_of_nonneg h1]
  exact kmod_any x n (by omega) (by omega) w
end Go.Proofs.YthiempadgehhlaaGreatDoor
namespace Go.Proofs.YthiempadgehhlaaGreatDoor
open Go.ChangeShapes Go.WideShapes Go.ChangeAt Go.RowKit
section
variable {H : Type} {enc : TypeId × Value → H} {P : Program}
theorem trodAll_stays (hl : laidOutB P = true) {W W' : World} (hb : Below W.heap.size W W') :
    ∀ {ts : List TypeId} {vs : List Value} {ds : List (DataW H)} {ps : List MemPlace}, (∀ t ∈ ts, P.readableRec t = true ∧ t < P.types.size) →
      DataW.TrodAll enc P W 0 (fun _ => true) true ts vs ds ps → (∀ x ∈ ps, x.block < W.heap.size) → DataW.TrodAll enc P W' 0 (fun b => decide (b < W.heap.size)) true ts vs ds ps := by
  intro ts
  induction ts with
  | nil =>
    intro vs ds ps _ h _
    obtain ⟨rfl, rfl, rfl⟩ := trodAll_nil h
    exact trodAll_mk0
  | cons t ts ih =>
    intro vs ds ps ht h hlt
    obtain ⟨v, vs', d, ds', p, q, rfl, rfl, rfl, h0, h1⟩ := trodAll_cons h
    have t0 := ht t (by simp)
    exact trodAll_cons_mk (Below.trod hl t0.1 t0.2 h0 hb (fun x hx => hlt x (by simp [hx]))) (ih (fun u hu => ht u (by simp [hu])) h1 (fun x hx => hlt x (by simp [hx])))
/-- One closed fact: the parameters' types can be read and are rows of the table. -/
def parsRowed (P : Program) (f : Func) : Bool := f.params.toList.all fun t => P.readableRec t && decide (t < P.types.size)
theorem law_post {f : Func} {s : ChangeSpec} {W W' : World} {args : Array Value} {ds gs : List (DataW H)} {before : List MemPlace} {tb : TypeId}
    (hW : DataW.Whole enc P f.params.toList s.vars false W args.toList ds gs before) (hvars : s.vars = [])
    (hres : (s.fn H (ds ++ gs)).results = [.lit (.bool true)]) (hargs : (s.fn H (ds ++ gs)).args = ds) (hsv : (s.fn H (ds ++ gs)).vars = [])
    (hrt : f.resultTypes = #[tb]) (hbt : P.underlying tb = some .bool) (hl : laidOutB P = true) (hp : parsRowed P f = true) (hB : Below W.heap.size W W') :
    s.post enc P f false true false false W args (.bool true) W' := by
  have hlt : ∀ x ∈ before, x.block < W.heap.size := fun x hx => hW.lt x hx
  have hW2 := hW
  obtain ⟨p, q, hA, hV, rfl, hfz, hnd⟩ := hW2
  rw [hvars] at hV
  obtain ⟨rfl, rfl⟩ := trodVars_none hV
  have hp2 : ∀ t ∈ f.params.toList, P.readableRec t = true ∧ t < P.types.size := by
    intro t ht
    have := List.all_eq_true.1 hp t ht
    simpa using this
  refine ⟨ds, [], p ++ [], [], p, [], hW, ?_, ?_, ?_, hB.frame _ |> World.keptBut_mono (fun x hx => ⟨hx, Or.inr (Or.inl (by simpa using hx))⟩), fun h => by cases h⟩
  · rw [hres, hrt]
    exact trodAll_cons_mk (shut_bool hbt true) trodAll_mk0
  · rw [hargs]
    exact trodAll_stays hl hB hp2 hA (fun x hx => hlt x (by simp [hx]))
  · rw [hsv, hvars]
    exact rfl
/-- A slice of ints that came in. -/
theorem open_ints_rd {w : World} {r : Reach} {b0 : Nat} {t e : TypeId} {k : IntKind} {v : Value} {d : DataW H} {ps : List MemPlace} (ht : P.underlying t = some (.slice e)) (he : P.underlying e = some (.int k)) (hc : P.cellsOf e = 1)
    (hval : Value.okWide P w r b0 t v) (h : DataW.Trod enc P w 0 (fun _ => true) true t v d ps) :
    ∃ (A : Option Addr) (c : Nat) (zs : List Int), v = .slice A zs.length c ∧ Rd w w.heap.size A (zs.map (Value.int k)) ∧ (A = none → c = 0) ∧ zs.length ≤ maxLen ∧ ∀ n ∈ zs, (Lit.int k n).wf = true := by
  obtain ⟨a0, len, cap, rfl⟩ := okWide_slice ht hval
  obtain ⟨fuel, hf⟩ := h
  rcases open_ints ht he hc hf with ⟨hcs, hx⟩ | ⟨a, len', cap', zs, hcs, _, hl, hm, hz, hx, hcell, hw⟩
  · simp [Value.cells] at hcs
    obtain ⟨rfl, rfl, rfl⟩ := hcs
    exact ⟨none, 0, [], rfl, Rd.nil _ _ _, fun _ => rfl, Nat.zero_le _, by simp⟩
  · simp [Value.cells] at hcs
    obtain ⟨rfl, rfl, rfl⟩ := hcs
    have hzl : len ≤ zs.length := by rw [hz]; split <;> omega
    have htl : (zs.take len).length = len := by rw [List.length_take]; omega
    refine ⟨some a, cap, zs.take len, by rw [htl], ?_, (fun h => by cases h), by rw [htl]; omega, fun n hn => hw n (List.mem_of_mem_take hn)⟩
    intro j u hj
    have hjl : j < len := by
      rcases Nat.lt_or_ge j len with h1 | h1
      · exact h1
      · rw [List.getElem?_eq_none (by simp; omega)] at hj; cases hj
    have hcj := hcell j (by omega)
    have hc0 := hcell 0 (by omega)
    obtain ⟨b, o, sp⟩ := a
    have hsp : sp = none := by simpa [Addr.add] using World.cell?_spot hc0
    subst hsp
    have h3 : ((⟨b, o, none⟩ : Addr).add j) = ⟨b, o + j, none⟩ := by
      unfold Addr.add
      by_cases h : j = 0 <;> simp [h]
    rw [h3] at hcj
    refine ⟨b, o, rfl, World.block_lt_of_cell? w _ hcj, ?_⟩
    rw [hcj]
    have hjz : j < zs.length := by omega
    simp only [List.getElem?_map, List.getElem?_take, hjl, if_true] at hj
    rw [List.getElem?_eq_getElem hjz] at hj
    injection hj with hj
    subst hj
    simp [List.getElem?_eq_getElem hjz]
end
end Go.Proofs.YthiempadgehhlaaGreatDoor
namespace Go.Proofs.YthiempadgehhlaaGreatDoor
open Go.RowKit
theorem cells_of_strs {H : Type} {enc : TypeId × Value → H} {P : Program} {w : World} {base : Nat} {sp : Nat → Bool} {held : Bool} {fuel : Nat} {t e : TypeId} {n : Nat} {cs : List Value} {zs : List (List UInt8)} {p : List MemPlace}
    (ht : P.underlying t = some (.array n e)) (he : P.underlying e = some .string) (hce : P.cellsOf e = 1) (hct : P.cellsOf t = n)
    (h : DataW.trod enc P w base sp held fuel t cs = some (.agg (zs.map fun z => .lit (.string z)), p)) : cs = zs.map fun z => Value.string (bsF z) := by
  cases fuel with
  | zero => simp [DataW.trod] at h
  | succ fuel =>
    simp only [DataW.trod, ht, hce, hct, Nat.mul_one] at h
    split at h
    · rename_i hl
      obtain ⟨xs, hm, hx⟩ := Option.map_eq_some_iff.1 h
      have hxs : xs.map (·.1) = zs.map fun z => (DataW.lit (.string z) : DataW H) := by
        have := congrArg Prod.fst hx
        simpa using this
      have hxl : xs.length = n := by simpa using Lib.mapM_length hm
      have hzl : zs.length = n := by
        have := congrArg List.length hxs
        simp at this
        omega
      apply List.ext_getElem?
      intro i
      by_cases hi : i < n
      · obtain ⟨b, hb, hf⟩ := Lib.mapM_at hm i i (by simp [hi])
        obtain ⟨z, hc, rfl, _⟩ := DataW.trod_string he hf
        have h1 : cs[i]? = some (.string z) := by
          have := congrArg (·[0]?) hc
          simpa [List.getElem?_take, List.getElem?_drop] using this
        have h2 : (xs.map (·.1))[i]? = some (DataW.lit (.string z.data.toList) : DataW H) := by simp [hb]
        rw [hxs] at h2
        simp only [List.getElem?_map, Option.map_eq_some_iff, DataW.lit.injEq, Lit.string.injEq] at h2
        obtain ⟨z', hz', h3⟩ := h2
        rw [h1, List.getElem?_map, hz', h3]
        rfl
      · rw [List.getElem?_eq_none (by omega), List.getElem?_eq_none (by simp; omega)]
    · cases h
theorem sg_of_head {W : World} {rest : List (String × DataW Unit)} (h : laidMet Tryz.prog (("ndjq/flex.signs", .agg (signsL.map fun z => .lit (.string z))) :: rest) W) : SgIn W := by
  obtain ⟨ps, ⟨g', t', cs, fuel, p, q, hg', ht', hvar, hd, _, _⟩, _⟩ := h
  have hg : Tryz.prog.globalNamed "ndjq/flex.signs" = some 0 := by kernel_rfl
  have hty : (Tryz.prog.globals[0]?).map (·.type) = some 92 := by kernel_rfl
  obtain rfl := Option.some.inj (hg.symm.trans hg')
  obtain rfl := Option.some.inj (hty.symm.trans ht')
  have hcs := cells_of_strs (n := 32) Tryz.underlying92 Tryz.underlying9 (by kernel_rfl) (by kernel_rfl) hd
  unfold World.var? at hvar
  rw [hg, Option.bind_some] at hvar
  cases hq : W.heap[0]? with
  | none => rw [hq] at hvar; cases hvar
  | some o =>
    rw [hq] at hvar
    cases o with
    | cells ds t fr =>
      simp only [Option.some.injEq] at hvar
      refine ⟨t, fr, ?_⟩
      rw [hq, hvar]
      have e : cs = sgV := by
        apply Array.toList_inj.1
        rw [hcs]
        unfold sgV
        simp
      rw [e]
    | _ => cases hvar
def laid10 : List (String × DataW Unit) := [("math/bits.deBruijn32tab", Rows.laid_math_bits_deBruijn32tab), ("math/bits.deBruijn64tab", Rows.laid_math_bits_deBruijn64tab), ("internal/strconv.uint64pow10", Rows.laid_internal_strconv_uint64pow10), ("strconv.ErrRange", Rows.laid_strconv_ErrRange), ("strconv.ErrSyntax", Rows.laid_strconv_ErrSyntax), ("ndjq/flex.signs", Rows.laid_ndjq_flex_signs)]
theorem err_in10 {W : World} (h : laidMet Tryz.prog laid10 W) : ErrIn W := by
  have hL : laidMet Tryz.prog (_ :: _ :: _ :: _ :: _ :: _ :: []) W := h
  obtain ⟨a, s, hv, -, -, -⟩ := laid_sentinel (g := 3) (ti := 89) (tp := 122) hL.tail.tail.tail (by kernel_rfl) (by kernel_rfl) Tryz.underlying89
    (fun u hu => typeName_ptr_named (nm := "errors.errorString") (by kernel_rfl) (by kernel_rfl) (by decide) u (by refine hu.trans ?_; decide)) Tryz.underlying122 Tryz.underlying124 rfl rfl Tryz.underlying9 (by kernel_rfl) (by kernel_rfl)
  have h0 := World.var?_cell (g := 3) (by kernel_rfl) hv 0
  exact ⟨_, _, by simpa using h0⟩
theorem sg_in10 {W : World} (h : laidMet Tryz.prog laid10 W) : SgIn W := by
  have hL : laidMet Tryz.prog (_ :: _ :: _ :: _ :: _ :: _ :: []) W := h
  exact sg_of_head hL.tail.tail.tail.tail.tail
end Go.Proofs.YthiempadgehhlaaGreatDoor

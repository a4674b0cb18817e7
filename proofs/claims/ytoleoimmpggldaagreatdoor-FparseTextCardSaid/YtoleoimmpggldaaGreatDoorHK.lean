import Derived.Test.YtoleoimmpggldaaGreatDoorQD
import Derived.Test.YtoleoimmpggldaaGreatDoorRows
import Derived.WalkKit
import Derived.Lib.Hide
import Derived.WalkSpells
import Derived.WalkLawsBesides
import Derived.Test.YtoleoimmpggldaaGreatDoorQB
import Derived.ProofKit
import Derived.OpenShut
import Derived.Carry
import Derived.KernelRfl
import Derived.Test.YtoleoimmpggldaaGreatDoorParse
import Derived.Test.YtoleoimmpggldaaGreatDoorFs
import Derived.Laws.Strings
import Derived.Laws.Rows
import Derived.Lib.LaidTab
import Derived.Test.YtoleoimmpggldaaGreatDoorFx
import Derived.LaidMore
import Derived.LaidLaws
import Derived.Stop.LaidErr
set_option linter.unusedVariables false
set_option linter.unusedSectionVars false
set_option linter.unusedSimpArgs false
set_option maxHeartbeats 400000
namespace Go.Proofs.YtoleoimmpggldaaGreatDoor
open Go.RowKit
def Ft.opn : Ft → Int
 | .mk op _ _ _ _ => op
def Ft.subs : Ft → List Ft
 | .mk _ _ _ _ fs => fs
def Ft.num : Ft → Int
 | .mk _ _ (.mk _ n _ _ _) _ _ => n
def awB : Bool := match parseP [49, 32, 45, 32, 50, 32, 45, 32, 51] with
 | (f, a, e) => decide (e = 0) && (decide (a = 0) && (decide (f.opn = 17) && (decide (f.subs.length = 2) && (decide (((f.subs[0]?).map fun g => g.opn) = some 17) && decide (((f.subs[1]?).map fun g => g.num) = some 3)))))
theorem aw_true : awB = true := by decide +kernel
end Go.Proofs.YtoleoimmpggldaaGreatDoor
namespace Go.Proofs.YtoleoimmpggldaaGreatDoor
open Go.RowKit
theorem retm {k : IntKind} {a b : Int} (h : a = b) : Ending.returned (.int k a) = .returned (.int k b) := by rw [h]
theorem mod_fix' (x n : Int) (hn : 0 < n) : (if x.tmod n < 0 then x.tmod n + n else x.tmod n) = x % n := by
 have h1 := Int.tmod_add_mul_tdiv x n;have h2 := Int.lt_tmod_of_pos x hn;have h3 := Int.tmod_lt_of_pos x hn
 split
 · rename_i h
   have : (x.tmod n + n) % n = x % n := by
    conv => rhs; rw [← h1]
    simp
   rw [← this, Int.emod_eq_of_lt (by omega) (by omega)]
 · rename_i h
   have : (x.tmod n) % n = x % n := by
    conv => rhs; rw [← h1]
    simp
   rw [← this, Int.emod_eq_of_lt (by omega) (by omega)]
theorem kmod_any (x n : Int) (hn : 0 < n) (hn2 : n ≤ 4611686018427387903) (w : World) :
 Calls Tryz.prog 10 #[ι x, ι n] w fun e w' => e = .returned (ι (x % n)) ∧ w = w' := by
 have hf := hI (mod_fix' x n hn);have hb : Hid (-n < x.tmod n ∧ x.tmod n < n) := hI (by
  have h1 := Int.lt_tmod_of_pos x hn;have h2 := Int.tmod_lt_of_pos x hn;exact ⟨h1, h2⟩)
 have hne : (n == 0) = false := by simp; omega
 have hne1 : n ≠ 0 := by omega
 obtain ⟨hb1, hb2⟩ := hb.out
 by_cases hs : x.tmod n < 0
 · have he : Hid (x.tmod n + n = x % n) := hI (by rw [← hf.out, if_pos hs])
   go_enter Tryz.func10, Tryz.ntmps10
   go_wp2
   go_ret
   exact ⟨retm he.out, rfl⟩
 · have he : Hid (x.tmod n = x % n) := hI (by rw [← hf.out, if_neg hs])
   go_enter Tryz.func10, Tryz.ntmps10
   go_wp2
   go_ret
   exact ⟨retm he.out, rfl⟩
theorem kmod_nat (x : Int) (n : Nat) (hn : 0 < n) (hn2 : n ≤ 1000000) : ∃ d : Nat, d < n ∧ ∀ w, Calls Tryz.prog 10 #[ι x, ι (n : Int)] w fun e w' => e = .returned (ι (d : Int)) ∧ w = w' := by
 have h1 := Int.emod_nonneg x (b := (n : Int)) (by omega);have h2 := Int.emod_lt_of_pos x (b := (n : Int)) (by omega);refine ⟨(x % n).toNat, by omega, fun w => ?_⟩;rw [Int.toNat_of_nonneg h1];exact kmod_any x n (by omega) (by omega) w
end Go.Proofs.YtoleoimmpggldaaGreatDoor
namespace Go.Proofs.YtoleoimmpggldaaGreatDoor
open Go.ChangeShapes Go.WideShapes Go.ChangeAt Go.RowKit
section
variable {H : Type} {enc : TypeId × Value → H} {P : Program}
theorem trodAll_stays (hl : laidOutB P = true) {W W' : World} (hb : Below W.heap.size W W') :
 ∀ {ts : List TypeId} {vs : List Value} {ds : List (DataW H)} {ps : List MemPlace}, (∀ t ∈ ts, P.readableRec t = true ∧ t < P.types.size) →
  DataW.TrodAll enc P W 0 (fun _ => true) true ts vs ds ps → (∀ x ∈ ps, x.block < W.heap.size) → DataW.TrodAll enc P W' 0 (fun b => decide (b < W.heap.size)) true ts vs ds ps := by
 intro ts
 induction ts with
 | nil =>
  intro vs ds ps _ h _;obtain ⟨rfl, rfl, rfl⟩ := trodAll_nil h;exact trodAll_mk0
 | cons t ts ih =>
  intro vs ds ps ht h hlt;obtain ⟨v, vs', d, ds', p, q, rfl, rfl, rfl, h0, h1⟩ := trodAll_cons h;have t0 := ht t (by simp);exact trodAll_cons_mk (Below.trod hl t0.1 t0.2 h0 hb (fun x hx => hlt x (by simp [hx]))) (ih (fun u hu => ht u (by simp [hu])) h1 (fun x hx => hlt x (by simp [hx])))
def parsRowed (P : Program) (f : Func) : Bool := f.params.toList.all fun t => P.readableRec t && decide (t < P.types.size)
theorem law_post {f : Func} {s : ChangeSpec} {W W' : World} {args : Array Value} {ds gs : List (DataW H)} {before : List MemPlace} {tb : TypeId}
 (hW : DataW.Whole enc P f.params.toList s.vars false W args.toList ds gs before) (hvars : s.vars = [])
 (hres : (s.fn H (ds ++ gs)).results = [.lit (.bool true)]) (hargs : (s.fn H (ds ++ gs)).args = ds) (hsv : (s.fn H (ds ++ gs)).vars = [])
 (hrt : f.resultTypes = #[tb]) (hbt : P.underlying tb = some .bool) (hl : laidOutB P = true) (hp : parsRowed P f = true) (hB : Below W.heap.size W W') :
 s.post enc P f false true false false W args (.bool true) W' := by
 have hlt : ∀ x ∈ before, x.block < W.heap.size := fun x hx => hW.lt x hx
 have hW2 := hW;obtain ⟨p, q, hA, hV, rfl, hfz, hnd⟩ := hW2;rw [hvars] at hV;obtain ⟨rfl, rfl⟩ := trodVars_none hV;have hp2 : ∀ t ∈ f.params.toList, P.readableRec t = true ∧ t < P.types.size := by
  intro t ht;have := List.all_eq_true.1 hp t ht
  simpa using this
 refine ⟨ds, [], p ++ [], [], p, [], hW, ?_, ?_, ?_, hB.frame _ |> World.keptBut_mono (fun x hx => ⟨hx, Or.inr (Or.inl (by simpa using hx))⟩), fun h => by cases h⟩
 · rw [hres, hrt];exact trodAll_cons_mk (shut_bool hbt true) trodAll_mk0
 · rw [hargs];exact trodAll_stays hl hB hp2 hA (fun x hx => hlt x (by simp [hx]))
 · rw [hsv, hvars];exact rfl
end
end Go.Proofs.YtoleoimmpggldaaGreatDoor
namespace Go.Proofs.YtoleoimmpggldaaGreatDoor
open Go.RowKit
theorem cells_of_strs {H : Type} {enc : TypeId × Value → H} {P : Program} {w : World} {base : Nat} {sp : Nat → Bool} {held : Bool} {fuel : Nat} {t e : TypeId} {n : Nat} {cs : List Value} {zs : List (List UInt8)} {p : List MemPlace}
 (ht : P.underlying t = some (.array n e)) (he : P.underlying e = some .string) (hce : P.cellsOf e = 1) (hct : P.cellsOf t = n)
 (h : DataW.trod enc P w base sp held fuel t cs = some (.agg (zs.map fun z => .lit (.string z)), p)) : cs = zs.map fun z => Value.string (bsF z) := by
 cases fuel with
 | zero => simp [DataW.trod] at h
 | succ fuel =>
  simp only [DataW.trod, ht, hce, hct, Nat.mul_one] at h
  split at h
  · rename_i hl
    obtain ⟨xs, hm, hx⟩ := Option.map_eq_some_iff.1 h;have hxs : xs.map (·.1) = zs.map fun z => (DataW.lit (.string z) : DataW H) := by
     have := congrArg Prod.fst hx
     simpa using this
    have hxl : xs.length = n := by simpa using Lib.mapM_length hm
    have hzl : zs.length = n := by
     have := congrArg List.length hxs;simp at this;omega
    apply List.ext_getElem?;intro i
    by_cases hi : i < n
    · obtain ⟨b, hb, hf⟩ := Lib.mapM_at hm i i (by simp [hi]);obtain ⟨z, hc, rfl, _⟩ := DataW.trod_string he hf;have h1 : cs[i]? = some (.string z) := by
       have := congrArg (·[0]?) hc
       simpa [List.getElem?_take, List.getElem?_drop] using this
      have h2 : (xs.map (·.1))[i]? = some (DataW.lit (.string z.data.toList) : DataW H) := by simp [hb]
      rw [hxs] at h2;simp only [List.getElem?_map, Option.map_eq_some_iff, DataW.lit.injEq, Lit.string.injEq] at h2;obtain ⟨z', hz', h3⟩ := h2;rw [h1, List.getElem?_map, hz', h3]
      rfl
    · rw [List.getElem?_eq_none (by omega), List.getElem?_eq_none (by simp; omega)]
  · cases h
theorem sg_of_head {W : World} {rest : List (String × DataW Unit)} (h : laidMet Tryz.prog (("ndjq/flex.signs", .agg (signsL.map fun z => .lit (.string z))) :: rest) W) : SgIn W := by
 obtain ⟨ps, ⟨g', t', cs, fuel, p, q, hg', ht', hvar, hd, _, _⟩, _⟩ := h;have hg : Tryz.prog.globalNamed "ndjq/flex.signs" = some 0 := by kernel_rfl
 have hty : (Tryz.prog.globals[0]?).map (·.type) = some 86 := by kernel_rfl
 obtain rfl := Option.some.inj (hg.symm.trans hg');obtain rfl := Option.some.inj (hty.symm.trans ht');have hcs := cells_of_strs (n := 32) Tryz.underlying86 Tryz.underlying9 (by kernel_rfl) (by kernel_rfl) hd;unfold World.var? at hvar;rw [hg, Option.bind_some] at hvar
 cases hq : W.heap[0]? with
 | none => rw [hq] at hvar; cases hvar
 | some o =>
  rw [hq] at hvar
  cases o with
  | cells ds t fr =>
   simp only [Option.some.injEq] at hvar;refine ⟨t, fr, ?_⟩;rw [hq, hvar];have e : cs = sgV := by
    apply Array.toList_inj.1;rw [hcs];unfold sgV
    simp
   rw [e]
  | _ => cases hvar
def laid10 : List (String × DataW Unit) := [("math/bits.deBruijn32tab", Rows.laid_math_bits_deBruijn32tab), ("math/bits.deBruijn64tab", Rows.laid_math_bits_deBruijn64tab), ("internal/strconv.uint64pow10", Rows.laid_internal_strconv_uint64pow10), ("strconv.ErrRange", Rows.laid_strconv_ErrRange), ("strconv.ErrSyntax", Rows.laid_strconv_ErrSyntax), ("ndjq/flex.signs", Rows.laid_ndjq_flex_signs)]
theorem err_in10 {W : World} (h : laidMet Tryz.prog laid10 W) : ErrIn W := by
 have hL : laidMet Tryz.prog (_ :: _ :: _ :: _ :: _ :: _ :: []) W := h;obtain ⟨a, s, hv, -, -, -⟩ := laid_sentinel (g := 3) (ti := 83) (tp := 126) hL.tail.tail.tail (by kernel_rfl) (by kernel_rfl) Tryz.underlying83
  (fun u hu => typeName_ptr_named (nm := "errors.errorString") (by kernel_rfl) (by kernel_rfl) (by decide) u (by refine hu.trans ?_; decide)) Tryz.underlying126 Tryz.underlying128 rfl rfl Tryz.underlying9 (by kernel_rfl) (by kernel_rfl)
 have h0 := World.var?_cell (g := 3) (by kernel_rfl) hv 0;exact ⟨_, _, by simpa using h0⟩
theorem sg_in10 {W : World} (h : laidMet Tryz.prog laid10 W) : SgIn W := by
 have hL : laidMet Tryz.prog (_ :: _ :: _ :: _ :: _ :: _ :: []) W := h;exact sg_of_head hL.tail.tail.tail.tail.tail

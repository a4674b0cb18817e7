/- slices.SortFunc at values: the contract. slices.Collect and slices.SortedFunc at values. -/
import Derived.Shelf.SlSortCmp.WholeK
import Derived.Ground.SlsfProg
import Derived.Test.YtgdnkankleoaoaaGreatDoorRows
import Derived.Test.YtgdnkankleoaoaaGreatDoorA03
import Derived.Test.YtgdnkankleoaoaaGreatDoorA08
import Derived.Test.YtgdnkankleoaoaaGreatDoorA10
import Derived.Shelf.AbstractIn
set_option linter.unusedVariables false
set_option linter.unusedSimpArgs false
namespace Go.Proofs.YtgdnkankleoaoaaGreatDoor
open Go.RowKit Go.Shelf Go.Sort
def Tryz.srt_ren : Go.Shelf.Ren := ⟨fun | 6 => 289 | 15 => 327 | 14 => 326 | 28 => 375 | 29 => 376 | 20 => 367 | 21 => 368 | 22 => 369 | 23 => 370 | 24 => 371 | 25 => 372 | 26 => 373 | 27 => 374 | 46 => 393 | 47 => 394 | 48 => 395 | 49 => 396 | 50 => 397 | 57 => 413 | n => n, fun | 22 => 23 | 24 => 25 | 25 => 47 | 3 => 3 | 39 => 133 | 0 => 0 | 53 => 226 | 55 => 56 | 4 => 4 | 46 => 253 | 45 => 252 | 50 => 89 | 5 => 5 | 9 => 9 | 66 => 276 | 70 => 280 | 76 => 290 | 77 => 168 | n => n, fun | n => n⟩
theorem Tryz.srt : Go.Proofs.SlLaysF0.n6 Tryz.prog Tryz.srt_ren := {
  mixed := by kernel_rfl
  f6 := ⟨Tryz.f289.name, by decide, Tryz.func289.trans (congrArg some (by kernel_rfl))⟩
  f14 := ⟨Tryz.f326.name, by decide, Tryz.func326.trans (congrArg some (by kernel_rfl))⟩
  f15 := Tryz.func327.trans (congrArg some (by kernel_rfl))
  f20 := ⟨Tryz.f367.name, by decide, Tryz.func367.trans (congrArg some (by kernel_rfl))⟩
  f21 := ⟨Tryz.f368.name, by decide, Tryz.func368.trans (congrArg some (by kernel_rfl))⟩
  f22 := ⟨Tryz.f369.name, by decide, Tryz.func369.trans (congrArg some (by kernel_rfl))⟩
  f23 := ⟨Tryz.f370.name, by decide, Tryz.func370.trans (congrArg some (by kernel_rfl))⟩
  f24 := ⟨Tryz.f371.name, by decide, Tryz.func371.trans (congrArg some (by kernel_rfl))⟩
  f25 := ⟨Tryz.f372.name, by decide, Tryz.func372.trans (congrArg some (by kernel_rfl))⟩
  f26 := ⟨Tryz.f373.name, by decide, Tryz.func373.trans (congrArg some (by kernel_rfl))⟩
  f27 := ⟨Tryz.f374.name, by decide, Tryz.func374.trans (congrArg some (by kernel_rfl))⟩
  f28 := Tryz.func375.trans (congrArg some (by kernel_rfl))
  f29 := Tryz.func376.trans (congrArg some (by kernel_rfl))
  f46 := ⟨Tryz.f393.name, by decide, Tryz.func393.trans (congrArg some (by kernel_rfl))⟩
  f47 := Tryz.func394.trans (congrArg some (by kernel_rfl))
  f48 := Tryz.func395.trans (congrArg some (by kernel_rfl))
  f49 := ⟨Tryz.f396.name, by decide, Tryz.func396.trans (congrArg some (by kernel_rfl))⟩
  f50 := ⟨Tryz.f397.name, by decide, Tryz.func397.trans (congrArg some (by kernel_rfl))⟩
  f57 := ⟨Tryz.f413.name, by decide, Tryz.func413.trans (congrArg some (by kernel_rfl))⟩
  t0 := Tryz.underlying0
  a0 := Tryz.isAgg0
  z0 := Tryz.sizeOf0
  v0 := Tryz.zeroValue0
  t3 := Tryz.underlying3
  a3 := Tryz.isAgg3
  z3 := Tryz.sizeOf3
  v3 := Tryz.zeroValue3
  t4 := Tryz.underlying4
  a4 := Tryz.isAgg4
  z4 := Tryz.sizeOf4
  v4 := Tryz.zeroValue4
  t5 := Tryz.underlying5
  a5 := Tryz.isAgg5
  z5 := Tryz.sizeOf5
  v5 := Tryz.zeroValue5
  t9 := Tryz.underlying9
  a9 := Tryz.isAgg9
  z9 := Tryz.sizeOf9
  v9 := Tryz.zeroValue9
  t22 := Tryz.underlying23
  a22 := Tryz.isAgg23
  z22 := Tryz.sizeOf23
  v22 := Tryz.zeroValue23
  t25 := Tryz.underlying47
  a25 := Tryz.isAgg47
  z25 := Tryz.sizeOf47
  v25 := Tryz.zeroValue47
  t39 := Tryz.underlying133
  a39 := Tryz.isAgg133
  z39 := Tryz.sizeOf133
  v39 := Tryz.zeroValue133
  t45 := Tryz.underlying252
  a45 := Tryz.isAgg252
  z45 := Tryz.sizeOf252
  v45 := Tryz.zeroValue252
  t46 := Tryz.underlying253
  a46 := Tryz.isAgg253
  z46 := Tryz.sizeOf253
  v46 := Tryz.zeroValue253
  t50 := Tryz.underlying89
  a50 := Tryz.isAgg89
  z50 := Tryz.sizeOf89
  v50 := Tryz.zeroValue89
  t53 := Tryz.underlying226
  a53 := Tryz.isAgg226
  z53 := Tryz.sizeOf226
  v53 := Tryz.zeroValue226
  t55 := Tryz.underlying56
  a55 := Tryz.isAgg56
  z55 := Tryz.sizeOf56
  v55 := Tryz.zeroValue56
  t66 := Tryz.underlying276
  a66 := Tryz.isAgg276
  z66 := Tryz.sizeOf276
  v66 := Tryz.zeroValue276
  t70 := Tryz.underlying280
  a70 := Tryz.isAgg280
  z70 := Tryz.sizeOf280
  v70 := Tryz.zeroValue280
  t76 := Tryz.underlying290
  a76 := Tryz.isAgg290
  z76 := Tryz.sizeOf290
  v76 := Tryz.zeroValue290
  t77 := Tryz.underlying168
  a77 := Tryz.isAgg168
  z77 := Tryz.sizeOf168
  v77 := Tryz.zeroValue168 }


/-- A value that lies below B, valid, with the five cells that hold it. -/
def Sv (w0 : World) (B : Nat) : Type := {p : V × Fv // Lies w0 (· < B) p.1 p.2.cs ∧ valid p.1 = true}
def Sv.v {w0 : World} {B : Nat} (x : Sv w0 B) : V := x.1.1
def Sv.fv {w0 : World} {B : Nat} (x : Sv w0 B) : Fv := x.1.2
def Sv.enc {w0 : World} {B : Nat} (x : Sv w0 B) : List Value := x.1.2.cs
theorem Sv.lies {w0 : World} {B : Nat} (x : Sv w0 B) : Lies w0 (· < B) x.v x.enc := x.2.1
theorem Sv.ok {w0 : World} {B : Nat} (x : Sv w0 B) : valid x.v = true := x.2.2
theorem srt_swo {β : Type} (f : β → V) : SWO (Go.Proofs.ltOf fun x y : β => vcmp (f x) (f y)) where
  irrefl x := by simp [Go.Proofs.ltOf, (vcmp_zero (f x) (f x)).2 rfl]
  trans x y z h k := by
    simp only [Go.Proofs.ltOf, decide_eq_true_eq] at *
    exact (vcmp_tr (f x) (f y) (f z)).2.1 (by omega) (by omega) (Or.inl h)
  ntrans x y z h k := by
    simp only [Go.Proofs.ltOf, decide_eq_false_iff_not] at *
    have a1 := vcmp_anti (f x) (f y)
    have a2 := vcmp_anti (f y) (f z)
    have a3 := vcmp_anti (f x) (f z)
    have t := (vcmp_tr (f z) (f y) (f x)).1 (by omega) (by omega)
    omega
/-- Behind a sort nothing but its row has turned. -/
theorem srt_grown {α : Type} [Inhabited α] {enc : α → List Value} {k : Nat} {w : World} {g off n : Nat} {d : Array α} {os : Array Obj} : w.grownBy (sortWorldK enc k w g off n d os) (some g) := by
  unfold sortWorldK putRowK
  refine ⟨rfl, rfl, rfl, by simp, fun k hk hne => ?_⟩
  rw [heap_grow_old _ _ (by simpa using hk)]
  have : g ≠ k := fun e => hne (by rw [e])
  simp [putRow, mapBlock, Sort.ahead, Array.getElem?_modify, this]
theorem lies_far {w0 w : World} {B g : Nat} (hB : B ≤ g) (hg : g < w0.heap.size) (h : w0.grownBy w (some g)) {v : V} {cs : List Value} (hl : Lies w0 (· < B) v cs) : Lies w (· < w.heap.size) v cs :=
  hl.move fun b hb => ⟨by have := h.size; omega, h.block b (by omega) (by simp; omega)⟩
theorem cmp_lays {w : World} {B g off size : Nat} [Inhabited (Sv w B)] (hB : B ≤ g) (hg : g < w.heap.size) :
    CmpLays Tryz.prog 101 #[] (Sv.enc (w0 := w) (B := B)) 5 (fun x y => vcmp x.v y.v) g off size w := by
  intro m os dk hdk x y
  rw [Array.append_empty]
  have hgr : w.grownBy (sortWorldK (Sv.enc (w0 := w) (B := B)) 5 w g off m dk os) (some g) := srt_grown
  refine (Dr.cmp_any x.v y.v _ _ _ (lies_far hB hg hgr x.lies) (lies_far hB hg hgr y.lies)).mono ?_
  rintro e w' ⟨rfl, hb⟩
  refine ⟨?_, Dr.below_grow hb⟩
  unfold Dr.cmpV
  rw [if_pos x.ok, if_pos y.ok]
theorem five_get (x : Fv) (c : Nat) (hc : c < 5) : x.cs[c]? = some (x.cs[c]!) := by
  rw [getElem!_pos x.cs c (by rw [Fv.len]; exact hc)]
  exact List.getElem?_eq_getElem _
theorem flat_get : ∀ (xs : List Fv) (t : Nat), t < xs.length * 5 → (xs.flatMap Fv.cs)[t]? = some ((xs[t / 5]!).cs[t % 5]!)
  | [], t, h => by simp at h
  | x :: r, t, h => by
    rw [List.flatMap_cons]
    rcases Nat.lt_or_ge t 5 with h5 | h5
    · rw [List.getElem?_append_left (by rw [Fv.len]; exact h5), Nat.div_eq_of_lt h5, Nat.mod_eq_of_lt h5]
      exact five_get x t h5
    · obtain ⟨u, rfl⟩ : ∃ u, t = u + 5 := ⟨t - 5, by omega⟩
      rw [List.getElem?_append_right (by rw [Fv.len]; omega), Fv.len, Nat.add_sub_cancel, flat_get r u (by simp at h; omega), Nat.add_mod_right, Nat.add_div_right _ (by omega)]
      simp
/-- The row that a slice of values owns is held. -/
theorem holdsK_own {w w0 : World} {base g n cap B : Nat} {e : TypeId} [Inhabited (Sv w0 B)] {d : Array (Sv w0 B)} (h : w.ownsRow base e 5 (.slice (some ⟨g, 0, none⟩) n cap) n ((d.toList.map Sv.fv).flatMap Fv.cs)) (hn : d.size = n) :
    HoldsK (Sv.enc (w0 := w0) (B := B)) 5 w g 0 d := by
  rcases h.2 with ⟨h0, _⟩ | ⟨g', cap', cur, hv, hg, hb, h1, h2, h3, h4⟩
  · cases h0
  cases hv
  intro t ht
  rw [size_flatK] at ht
  rw [get_flatK _ _ _ _ ht]
  have hfl := flat_get (d.toList.map Sv.fv) t (by simpa using ht)
  have hi : t / 5 < d.size := by omega
  have e1 : (d.toList.map Sv.fv)[t / 5]! = (d[t / 5]!).fv := by
    rw [getElem!_pos _ _ (by simpa using hi), getElem!_pos d _ hi]; simp
  rw [e1, ← h4, List.getElem?_take_of_lt (by omega)] at hfl
  refine ⟨?_, ?_⟩
  · show World.cell? w ⟨g, 0 + t, none⟩ = some _
    rw [Nat.zero_add]
    simp [World.cell?, hb]
    rw [← Array.getElem?_toList]
    have e2 : (d[t / 5]!).fv.cs = (d[t / 5]!).enc := rfl
    rw [e2] at hfl
    simpa using hfl
  · simp [World.frozen?, hb]
/-- .. and read off again. -/
theorem own_holdsK {w w' w0 : World} {base g n cap B : Nat} {e : TypeId} [Inhabited (Sv w0 B)] {xs : List Value} {d d' : Array (Sv w0 B)} {m : Nat} {os : Array Obj} (h : w.ownsRow base e 5 (.slice (some ⟨g, 0, none⟩) n cap) n xs) (hn : d'.size = n)
    (hH : HoldsK (Sv.enc (w0 := w0) (B := B)) 5 w g 0 d) (hd : d.size = n) :
    (sortWorldK (Sv.enc (w0 := w0) (B := B)) 5 w g 0 m d' os).ownsRow base e 5 (.slice (some ⟨g, 0, none⟩) n cap) n ((d'.toList.map Sv.fv).flatMap Fv.cs) := by
  rcases h.2 with ⟨h0, _⟩ | ⟨g', cap', cur, hv, hg, hb, h1, h2, h3, h4⟩
  · cases h0
  cases hv
  have hlt : g < w.heap.size := (Array.getElem?_eq_some_iff.1 hb).1
  have hK := holdsK_sortWorldK_c (Sv.enc (w0 := w0) (B := B)) 5 w g 0 d d' m os hH hlt (by omega)
  refine ⟨by rw [flat_len]; simp [hn], .inr ⟨g, cap, putCells id 0 (flatK Sv.enc 5 d') cur, rfl, hg, ?_, h1, h2, by simp [putCells, h3], ?_⟩⟩
  · unfold sortWorldK putRowK
    rw [heap_grow_old _ _ (by simpa using hlt)]
    simp [putRow, mapBlock, Sort.ahead, Array.getElem?_modify, hb, onCells]
  · apply List.ext_getElem?
    intro t
    rcases Nat.lt_or_ge t (n * 5) with ht | ht
    · rw [List.getElem?_take_of_lt ht, flat_get _ _ (by simpa [hn] using ht)]
      have hi : t / 5 < d'.size := by omega
      have e1 : (d'.toList.map Sv.fv)[t / 5]! = (d'[t / 5]!).fv := by
        rw [getElem!_pos _ _ (by simpa using hi), getElem!_pos d' _ hi]; simp
      have hcs : t < cur.size := by rw [h3]; omega
      rw [e1, Array.getElem?_toList]
      have e2 := get_flatK (Sv.enc (w0 := w0) (B := B)) 5 d' t (by rw [hn]; exact ht)
      simp only [putCells, Array.getElem?_mapIdx, Array.getElem?_eq_getElem hcs, Option.map_some, size_flatK, hn, Nat.zero_le, Nat.zero_add, true_and, ht, if_true, Nat.sub_zero, id, e2]
      rfl
    · rw [List.getElem?_take_eq_none ht, List.getElem?_eq_none (by rw [flat_len]; simp [hn]; omega)]
end Go.Proofs.YtgdnkankleoaoaaGreatDoor
namespace Go.Proofs.YtgdnkankleoaoaaGreatDoor
open Go.RowKit Go.Shelf Go.Sort
attribute [local go_sem] Oper.semAt_some
theorem ins_nil (g : Nat) (w : World) : Calls Tryz.prog 367 #[.slice none 0 0, .int .i64 0, .int .i64 0, .func (.func g) #[] #[]] w fun e w' => e = .returned (.tuple #[]) ∧ w' = w := by
  go_enter Tryz.func367, Tryz.ntmps367
  go_wp2_with fail
  go_loop [8] (fun t => t = .int .i64 1) (fun _ => 0)
  case atStart => rfl
  case round =>
    subst hrel
    go_wp2_with fail
    go_end0
    exact ⟨rfl, rfl⟩
theorem pdq_nil (g : Nat) (w : World) : Calls Tryz.prog 326 #[.slice none 0 0, .int .i64 0, .int .i64 0, .int .i64 0, .func (.func g) #[] #[]] w fun e w' => e = .returned (.tuple #[]) ∧ w' = w := by
  have hi := ins_nil g w
  go_enter Tryz.func326, Tryz.ntmps326
  go_wp2_with fail
  go_loop [1, 2, 3, 10, 11] (fun t1 t2 t3 t4 t5 => t1 = .int .i64 0 ∧ t2 = .int .i64 0) (fun _ _ _ _ _ => 0)
  case atStart => exact ⟨rfl, rfl⟩
  case round =>
    obtain ⟨rfl, rfl⟩ := hrel
    go_wp2_with (go_at_call 367; refine hi.mono ?_; rintro e w' ⟨rfl, rfl⟩)
    (try simp only [Exit.inBlock, Exit.then]); refine bodyPost_ret (results_none rfl _ _ _) rfl ?_
    exact ⟨rfl, rfl⟩
theorem sortFunc_nil (g : Nat) (w : World) : Calls Tryz.prog 289 #[.slice none 0 0, .func (.func g) #[] #[]] w fun e w' => e = .returned (.tuple #[]) ∧ w' = w := by
  have hp := pdq_nil g w
  have hl : Calls Tryz.prog 327 #[.int .u64 0] w fun e w' => e = .returned (.int .i64 0) ∧ w' = w := by
    have h := Any.bits_Len (SlLaysF0.n15.bits (P := Tryz.prog) (ρ := Tryz.srt_ren) { Tryz.srt with }) 0 w (by omega) (by omega)
    exact h
  go_enter Tryz.func289, Tryz.ntmps289
  go_wp2_with (first | (go_at_call 327; refine hl.mono ?_; rintro e w' ⟨rfl, rfl⟩) | (go_at_call 326; refine hp.mono ?_; rintro e w' ⟨rfl, rfl⟩))
  go_end0
  exact ⟨rfl, rfl⟩
theorem collect_any (F : Fence) (n : Nat) (h2 : F.fn 288) (h3 : F.fn 325) (hro : F.round = none) (hn : 4 ≤ n) (g : Nat) (lb : Array Value) (hFg : F.fn g) (eg : ∀ args w, (callFunc g args).run Tryz.prog w = .ok (.enter g args) w)
    (S Sp : List Fv → Prop) (N : Nat) (hN : N ≤ 1000000) (w : World) (hseq : SeqStopsK F (n - 1 - 1) Tryz.prog g lb fvEnc (Below w.heap.size) S Sp N w) :
    CallsIn F n Tryz.prog 288 #[.func (.func g) #[] lb] w fun e w' => ∃ (v : Value) (xs : List Fv), e = .returned v ∧ S xs ∧ w'.ownsRow w.heap.size 25 5 v xs.length (xs.flatMap Fv.cs) ∧ (v = .slice none 0 0 ↔ xs = []) ∧ Below w.heap.size w w' := by
  have h1 : 1 ≤ n := by omega
  have hap := appendSeq_any F (n - 1) h3 hro (by omega) g lb hFg eg S Sp N hN w hseq
  refine callsIn_of_wp Tryz.func288 rfl h2 ?_ hro
  simp only [Tryz.ntmps288, List.size_toArray, List.length_cons, List.length_nil, Nat.reduceAdd, Nat.reduceSub, Array.replicate_succ, Array.replicate_zero, List.push_toArray, List.append_toArray, List.nil_append, List.cons_append]
  gi_wp2_with (gi_at_call 325; refine hap.mono ?_; rintro e w' ⟨v, xs, rfl, hS, hrow, hnil, hb⟩)
  go_ret
  exact ⟨v, xs, rfl, hS, hrow, hnil, hb⟩
/-- Values with their cells, sorted: what SortedFunc hands back. -/
def SortedOf (w : World) (l : List (V × Fv)) (e : Ending) (w' : World) : Prop :=
  ∃ (v : Value) (ps : List (V × Fv)), e = .returned v ∧ ps.Perm l ∧ ps.Pairwise (fun a b => vcmp a.1 b.1 ≤ 0) ∧ w'.ownsRow w.heap.size 25 5 v ps.length ((ps.map Prod.snd).flatMap Fv.cs) ∧ (v = .slice none 0 0 ↔ ps = []) ∧ Below w.heap.size w w'
theorem sorted_step {w W : World} (l : List (V × Fv)) (hv : ∀ p ∈ l, Lies w (· < w.heap.size) p.1 p.2.cs ∧ valid p.1 = true) (hb : Below w.heap.size w W) (v : Value) (hrow : W.ownsRow w.heap.size 25 5 v l.length ((l.map Prod.snd).flatMap Fv.cs)) (hnil : v = .slice none 0 0 ↔ l = []) (hlen : l.length ≤ 1000000) :
    Calls Tryz.prog 289 #[v, .func (.func 101) #[] #[]] W fun e w' => e = .returned (.tuple #[]) ∧ SortedOf w l (.returned v) w' := by
  rcases hrow.2 with ⟨rfl, hz⟩ | ⟨g, cap, cur, rfl, hbase, hg, r1, r2, r3, r4⟩
  · have hl : l = [] := List.eq_nil_of_length_eq_zero hz
    subst hl
    exact (sortFunc_nil _ W).mono fun e w' ⟨he, hw⟩ => ⟨he, by subst hw; exact ⟨_, [], rfl, List.Perm.refl _, List.Pairwise.nil, hrow, by simp, hb⟩⟩
  have hne : l ≠ [] := fun e => by have := hnil.2 e; cases this
  have hgl : g < W.heap.size := (Array.getElem?_eq_some_iff.1 hg).1
  have hv' : ∀ p ∈ l, Lies W (· < w.heap.size) p.1 p.2.cs ∧ valid p.1 = true := fun p hp => ⟨(hv p hp).1.move fun b hlt => ⟨hlt, hb.block b hlt⟩, (hv p hp).2⟩
  let ds : List (Sv W w.heap.size) := l.attach.map fun p => ⟨p.1, hv' p.1 p.2⟩
  have hds : ds.map (fun x : Sv W w.heap.size => x.1) = l := by
    exact (List.map_map).trans (List.attach_map_subtype_val l)
  have hdl : ds.length = l.length := by have := congrArg List.length hds; rwa [List.length_map] at this
  haveI : Inhabited (Sv W w.heap.size) := ⟨ds.head (fun e => hne (by rw [← hds, e]; rfl))⟩
  have hfv : ds.map Sv.fv = l.map Prod.snd := by rw [← hds, List.map_map]; rfl
  have hH := holdsK_own (w0 := W) (B := w.heap.size) (d := ds.toArray) (h := by rw [List.toList_toArray, hfv]; exact hrow) (by simp [hdl])
  have hs := AnyQ.slices_SortFunc Tryz.srt 5 Tryz.isAgg25 Tryz.sizeOf25 (Sv.enc (w0 := W) (B := w.heap.size)) (fun x => Fv.len _) (fun x => Fv.one _) (fun x y => vcmp x.v y.v) (srt_swo Sv.v) 101 #[] g 0 cap ds.toArray W
    (fun args w => enters_of Tryz.func101 (by kernel_rfl) rfl args w) (cmp_lays hbase hgl) hH hgl (by simp [hdl]; omega)
  have e1 : ds.toArray.size = l.length := by simp [hdl]
  rw [e1] at hs
  refine hs.mono ?_
  rintro e w' ⟨rfl, d', n, os, hp, hsrt, rfl⟩
  refine ⟨rfl, _, d'.toList.map (fun x : Sv W w.heap.size => x.1), rfl, ?_, ?_, ?_, ?_, ?_⟩
  · have h1 := hp.2.2
    have e2 : d'.extract 0 l.length = d' := by rw [← e1, ← hp.1]; exact Array.extract_size
    have e3 : ds.toArray.extract 0 l.length = ds.toArray := by rw [← e1]; exact Array.extract_size
    rw [e2, e3] at h1
    have h2 := h1.map (fun x : Sv W w.heap.size => x.1)
    rw [List.toList_toArray, hds] at h2
    exact h2
  · rw [List.pairwise_map, List.pairwise_iff_getElem]
    intro i j hi hj hij
    have h1 := hsrt i j (Nat.zero_le _) hij (by rw [← e1, ← hp.1]; simpa using hj)
    simp only [Go.Proofs.ltOf, decide_eq_false_iff_not] at h1
    rw [getElem!_pos d' j (by simpa using hj), getElem!_pos d' i (by simpa using hi)] at h1
    have a1 := vcmp_anti (Sv.v d'.toList[i]) (Sv.v d'.toList[j])
    simp only [Array.getElem_toList] at a1 ⊢
    show vcmp (Sv.v _) (Sv.v _) ≤ 0
    omega
  · have := own_holdsK (w' := W) (m := n) (os := os) hrow (d' := d') (by rw [hp.1, e1]) hH e1
    have e9 : d'.toList.length = l.length := (Array.length_toList (xs := d')).trans (hp.1.trans e1)
    rw [List.length_map, List.map_map, e9]
    exact this
  · constructor
    · intro h; cases h
    · intro h
      have := congrArg List.length h
      have e9 : d'.toList.length = l.length := (Array.length_toList (xs := d')).trans (hp.1.trans e1)
      rw [List.length_map, e9] at this
      exact absurd (List.eq_nil_of_length_eq_zero this) hne
  · exact hb.grown srt_grown hb.size (fun j hj => by cases hj; exact hbase)
theorem sortedFunc_any (Bs cap : Nat) (A : Option Addr) (l : List (V × Fv)) (w : World) (hlen : l.length ≤ 1000000) (hBs : Bs < w.heap.size) (hc : w.cell? ⟨Bs, 0, none⟩ = some (.slice A l.length cap)) (hI : FvRow w.heap.size w A (l.map Prod.snd))
    (hv : ∀ p ∈ l, Lies w (· < w.heap.size) p.1 p.2.cs ∧ valid p.1 = true) :
    Calls Tryz.prog 239 #[.func (.func 290) #[] #[.pointer (some ⟨Bs, 0, none⟩)], .func (.func 101) #[] #[]] w (SortedOf w l) := by
  rw [← callsIn_wide (n := 5)]
  have hco := collect_any Fence.wide 4 trivial trivial rfl (by decide) 290 #[.pointer (some ⟨Bs, 0, none⟩)] trivial (fun args w => enters_of Tryz.func290 (by kernel_rfl) rfl args w) _ _ _ (by simpa using hlen) w
    (values_stops Fence.wide 2 trivial rfl (by decide) Bs w.heap.size cap A (l.map Prod.snd) (by simpa using hlen) w hBs (Nat.le_refl _) (by rw [List.length_map]; exact hc) hI)
  have h1 : Fence.wide.fn 288 := trivial
  have h2 : Fence.wide.fn 289 := trivial
  refine callsIn_of_wp Tryz.func239 rfl trivial ?_ rfl
  simp only [Tryz.ntmps239, List.size_toArray, List.length_cons, List.length_nil, Nat.reduceAdd, Nat.reduceSub, Array.replicate_succ, Array.replicate_zero, List.push_toArray, List.append_toArray, List.nil_append, List.cons_append]
  gi_wp2_with (gi_at_call 288; refine hco.mono ?_; rintro e W ⟨v, xs, rfl, hS, hrow, hnil, hb⟩)
  have hxs : xs = l.map Prod.snd := hS
  subst hxs
  rw [List.length_map] at hrow
  have hso := callsIn_wide (n := 4).2 (sorted_step l hv hb v hrow (by rw [hnil]; simp) hlen)
  gi_wp2_with (gi_at_call 289; refine hso.mono ?_; rintro e W2 ⟨rfl, hE⟩)
  go_ret
  exact hE
end Go.Proofs.YtgdnkankleoaoaaGreatDoor

/- table.SortBy at two valid arrays of one length. table.GroupBy at two valid arrays of one length. -/
import Derived.Test.YtnokmlclephjgaaGg
import Derived.Test.YtnokmlclephjgaaTB
set_option linter.unusedVariables false
set_option linter.unusedSimpArgs false
namespace Go.Proofs.Ytnokmlclephjgaa
open Go.RowKit
theorem below3 (w : World) (o p q : Obj) : Below w.heap.size w (((w.alloc o).alloc p).alloc q) := (below2 w o p).alloc (by simp; omega) q
theorem box_third (w : World) (cs ds rs : Array Value) : Box (((w.alloc (.cells cs 27)).alloc (.cells ds 27)).alloc (.cells rs 27)) (w.heap.size + 2) 27 rs := by
  have h1 := Box.laid ((w.alloc (.cells cs 27)).alloc (.cells ds 27)) 27 rs
  have e : ((w.alloc (.cells cs 27)).alloc (.cells ds 27)).heap.size = w.heap.size + 2 := by simp
  rw [e] at h1
  exact h1
/-- The elements in the order of their keys. -/
def sortV (es K : List V) : List V := pickV es (Ix.ordL K)
theorem sorted_slice {es K : List V} {xs : List Value} {base : Nat} {w : World} {v : Value} (hL : LiesL w (· < w.heap.size) es xs) (hn : es.length = K.length) (hlen : K.length ≤ 1000000) (ho : w.ownsRow base 27 5 v (Ix.ordL K).length (cellsI xs (Ix.ordL K))) :
    ∃ A c, v = .slice A (sortV es K).length c ∧ SliceV w A c (sortV es K) (cellsI xs (Ix.ordL K)) := by
  have hlt : ∀ a ∈ Ix.ordL K, a < es.length := fun a ha => by
    rw [hn]
    exact Ix.ordL_lt K a ha
  have e1 : (sortV es K).length = (Ix.ordL K).length := pickV_len hlt
  obtain ⟨A, c, rfl, h0, hc, hm, hr⟩ := own_open ho
  have hlo := Ix.ordL_len K
  refine ⟨A, c, by rw [e1], ⟨⟨hr.move fun b hb => ⟨hb.2.1, rfl⟩, hL.pick hlt⟩, h0, by rw [e1]; exact hc, hm, by rw [e1]; omega⟩⟩
/-- What SortBy does behind the call of groups, told ahead. -/
def SbPost (m : Nat) (R : V) (E : Int) (W : World) (e : Ending) (w1 : World) : Prop :=
  Below W.heap.size W w1 ∧ ∃ V1, e = .returned (.tuple #[V1, .int .i64 0]) ∧ Hid (∀ w2, Below w1.heap.size w1 w2 → Calls Try.prog 17 #[V1] w2 fun e3 w3 => ∃ A c, e3 = .returned (.slice A m c) ∧ Below w2.heap.size w2 w3 ∧ Hid (Calls Try.prog 16 #[.slice A m c] w3 (RetPost R E w3)))
theorem groups_sorted {nv nk : Int} {sv sk : ByteArray} {kv1 kk1 : List ByteArray} {es K : List V} {cs ds : List Value} {w : World} (h1 : Lies w (· < w.heap.size) (.mk 5 nv sv kv1 es) cs) (h2 : Lies w (· < w.heap.size) (.mk 5 nk sk kk1 K) ds)
    (hv : valid (.mk 5 nv sv kv1 es) = true) (hk : valid (.mk 5 nk sk kk1 K) = true) (hKV : K.all valid = true) (hn : es.length = K.length) (hlen : K.length ≤ 1000000) :
    Calls Try.prog 15 #[.agg cs.toArray, .agg ds.toArray] w (SbPost (sortV es K).length (tabR (sortV es K)) (tabE (sortV es K)) w) := by
  refine (groups_any h1 h2 hv hk hKV hn hlen).mono ?_
  rintro e1 w1 ⟨hb1, V1, gs, xs, rfl, hg, hl, hlk⟩
  have hLO := Ix.ordL_len K
  refine ⟨hb1, V1, rfl, Lib.hid fun w2 hb2 => ?_⟩
  have hl2 : LiesL w2 (· < w2.heap.size) es xs := hl.move fun b hb => ⟨Nat.lt_of_lt_of_le (Nat.lt_of_lt_of_le hb hb1.size) hb2.size, (hb2.block b (Nat.lt_of_lt_of_le hb hb1.size)).trans (hb1.block b hb)⟩
  have hlk' := hlk
  rw [← hLO] at hlk'
  obtain ⟨ho1, ho2⟩ := hlk'.out
  have hone : ∀ x ∈ gs, ∀ u ∈ x.xs, u.oneCell' = true := fun x hx u hu => by
    obtain ⟨I, _, _, e⟩ := hlk.mem x hx
    rw [e] at hu
    exact liesL_one hl2 u (cellsI_mem hu)
  have hgl : gs.length ≤ 1000000 := by
    have h3 := hlk.len
    have h4 := (grpF_sizes (K := K) (ord := Ix.ordL K) K.length).1
    omega
  refine (concat_any (hg.below hb2) hone (by rw [ho2, hLO]; exact hlen) hgl).mono ?_
  rintro e3 w3 ⟨v3, rfl, hown3, hb3⟩
  rw [ho1, ho2] at hown3
  obtain ⟨A2, c2, rfl, hsl⟩ := sorted_slice (hl2.move fun b hb => ⟨Nat.lt_of_lt_of_le hb hb3.size, hb3.block b hb⟩) hn hlen hown3
  exact ⟨A2, c2, rfl, hb3, Lib.hid (tarr_any _ A2 c2 _ w3 hsl)⟩
set_option maxHeartbeats 2000000 in
set_option maxRecDepth 100000 in
theorem sortBy_any {nv nk : Int} {sv sk : ByteArray} {kv1 kk1 : List ByteArray} {es K : List V} {cs ds : List Value} {w : World} (h1 : Lies w (· < w.heap.size) (.mk 5 nv sv kv1 es) cs) (h2 : Lies w (· < w.heap.size) (.mk 5 nk sk kk1 K) ds)
    (hv : valid (.mk 5 nv sv kv1 es) = true) (hk : valid (.mk 5 nk sk kk1 K) = true) (hKV : K.all valid = true) (hn : es.length = K.length) (hlen : K.length ≤ 1000000) :
    Calls Try.prog 8 #[.agg cs.toArray, .agg ds.toArray] w (RetPost (tabR (sortV es K)) (tabE (sortV es K)) w) := by
  have HG := Lib.hid (fun W (hW : Below w.heap.size w W) => groups_sorted (below_lies hW h1) (below_lies hW h2) hv hk hKV hn hlen)
  obtain ⟨A, a0, B, b0, xs0, rfl, -⟩ := lies_open h1
  obtain ⟨C, c0, D, d0, ys0, rfl, -⟩ := lies_open h2
  clear h1 h2 hv hk hKV hn hlen
  show Calls _ _ #[.agg #[.int .i64 5, .int .i64 nv, .string sv, .slice A kv1.length a0, .slice B es.length b0], .agg #[.int .i64 5, .int .i64 nk, .string sk, .slice C kk1.length c0, .slice D K.length d0]] w _
  generalize tabR (sortV es K) = R at *
  generalize tabE (sortV es K) = E at *
  generalize (sortV es K).length = m at *
  generalize es.length = n1 at *
  generalize K.length = n2 at *
  generalize kv1.length = n3 at *
  generalize kk1.length = n4 at *
  generalize hS : SbPost m R E = SP at HG
  go_enter Try.func8, Try.ntmps8
  go_wp2_with fail
  refine (HG.out _ (below3 _ _ _ _)).mono ?_
  rintro e1 w1 hp
  subst hS
  obtain ⟨hb1, V1, rfl, HC⟩ := hp
  have HB1 : Hid (Below w.heap.size w w1) := Lib.hid ((below3 w _ _ _).trans (hb1.mono (by simp; omega)))
  have HR1 := Lib.hid ((box_third w _ _ _).below hb1 (by simp))
  clear hb1 HG
  go_wp2_with fail
  refine (HC.out _ (Below.refl _ _)).mono ?_
  rintro e2 w2 ⟨A2, c2, rfl, hb2, HT0⟩
  have HT := Lib.hid (ret_open HT0.out)
  have HB2 := Lib.hid (HB1.out.trans (hb2.mono HB1.out.size))
  have HR2 := Lib.hid (HR1.out.below hb2 HR1.out.lt)
  clear hb2 HC HT0
  go_wp2_with fail
  refine HT.out.mono ?_
  rintro e3 w3 ⟨rk, rn, rs, rks, res, RA, ra, RC, rc, hrv, rfl, hb3, hl3⟩
  have hres := HR2.out.below hb3 HR2.out.lt
  have hB3 := HB2.out.trans (hb3.mono HB2.out.size)
  have h3lt : w.heap.size + 2 < w2.heap.size := HR2.out.lt
  have HL3 := Lib.hid hl3
  obtain ⟨t0, t1, t2, t3, t4⟩ := box5 hres
  have z0 := hres.free 0
  have z1 := hres.free 1
  have z2 := hres.free 2
  have z3 := hres.free 3
  have z4 := hres.free 4
  have HB3 := Lib.hid hB3
  have HRL := Lib.hid hres.lt
  have hs3 := hb3.size
  clear hrv hl3 hb3 hres hB3
  go_wp2_with fail
  refine bodyPost_ret (v := .tuple #[.agg #[.int .i64 rk, .int .i64 rn, .string rs, .slice RA rks.length ra, .slice RC res.length rc], .int .i64 E]) (by simp [results, Try.results8, go_sem, t0, t1, t2, t3, t4]) rfl ?_
  exact ret_put HB3.out (by omega) HRL.out (HL3.out.move fun b hb => ⟨⟨by omega, hb.2, by omega⟩, rfl⟩)
end Go.Proofs.Ytnokmlclephjgaa
namespace Go.Proofs.Ytnokmlclephjgaa
open Go.RowKit
/-- The header of a row. -/
abbrev Hd := Option Addr × Nat × Nat
def hdOf : Value → Hd
  | .slice A n c => (A, n, c)
  | _ => (none, 0, 0)
/-- The cells of an array with these elements. -/
def hF (h : Hd) : Fv := ⟨5, 0, ⟨#[]⟩, none, 0, 0, h.1, h.2.1, h.2.2⟩
theorem gr_lies {w : World} {base : Nat} {es : List V} {xs : List Value} {x : Gr} {I : List Nat} (hL : LiesL w (· < w.heap.size) es xs) (ho : w.ownsRow base 27 5 x.v x.n x.xs) (hn : x.n = I.length) (hx : x.xs = cellsI xs I)
    (hI : ∀ a ∈ I, a < es.length) (hl : I.length ≤ 1000000) : Lies w (· < w.heap.size) (arrV (pickV es I)) (hF (hdOf x.v)).cs := by
  obtain ⟨A, c, hv, h0, hc, hm, hr⟩ := own_open ho
  have e1 := pickV_len hI
  have h := SliceV.lies (w := w) (A := A) (c := c) (l := pickV es I) (xs := cellsI xs I) ⟨⟨by rw [← hx]; exact hr.move fun b hb => ⟨hb.2.1, rfl⟩, hL.pick hI⟩, h0, by rw [e1, ← hn]; exact hc, hm, by rw [e1]; omega⟩
  rw [e1, ← hn] at h
  rw [hv]
  exact h
theorem like_lies {w : World} {base : Nat} {es : List V} {xs : List Value} (hL : LiesL w (· < w.heap.size) es xs) : ∀ (gs : List Gr) (ig : List (List Nat)), Like xs gs ig → (∀ x ∈ gs, w.ownsRow base 27 5 x.v x.n x.xs) →
    (∀ I ∈ ig, (∀ a ∈ I, a < es.length) ∧ I.length ≤ 1000000) → LiesL w (· < w.heap.size) (ig.map fun I => arrV (pickV es I)) (((gs.map fun x => hdOf x.v).map hF).flatMap Fv.cs)
  | [], [], _, _, _ => by rw [List.map_nil, LiesL]; rfl
  | [], _ :: _, h, _, _ => by simp [Like] at h
  | _ :: _, [], h, _, _ => by simp [Like] at h
  | x :: gs, I :: ig, h, ho, hI => by
    unfold Like at h
    simp only [List.map_cons, List.cons.injEq, Prod.mk.injEq] at h
    obtain ⟨⟨h1, h2⟩, h3⟩ := h
    rw [List.map_cons, LiesL]
    exact ⟨_, _, rfl, gr_lies hL (ho x (by simp)) h1 h2 (hI I (by simp)).1 (hI I (by simp)).2, like_lies hL gs ig h3 (fun y hy => ho y (by simp [hy])) (fun J hJ => hI J (by simp [hJ]))⟩
/-- The groups as values. -/
def groupV (es K : List V) : List V := (grpF K (Ix.ordL K) K.length).map fun I => arrV (pickV es I)
/-- What GroupBy does behind the call of groups, told ahead. -/
def GbPost (n : Nat) (R : V) (E : Int) (W : World) (e : Ending) (w1 : World) : Prop :=
  Below W.heap.size W w1 ∧ ∃ (A : Option Addr) (c : Nat) (hs : List Hd), e = .returned (.tuple #[.slice A n c, .int .i64 0]) ∧ hs.length = n ∧ Hid (∀ (i : Nat) (x : Hd), hs[i]? = some x → ∃ g, A = some ⟨g, 0, none⟩ ∧ g < w1.heap.size ∧ w1.cell? ⟨g, i, none⟩ = some (.slice x.1 x.2.1 x.2.2)) ∧
    Hid (∀ (w2 : World) (g : Nat), Below w1.heap.size w1 w2 → w2.ownsRow w1.heap.size 27 5 (.slice (some ⟨g, 0, none⟩) n n) n ((hs.map hF).flatMap Fv.cs) → Calls Try.prog 16 #[.slice (some ⟨g, 0, none⟩) n n] w2 (RetPost R E w2))
theorem groups_grouped {nv nk : Int} {sv sk : ByteArray} {kv1 kk1 : List ByteArray} {es K : List V} {cs ds : List Value} {w : World} (h1 : Lies w (· < w.heap.size) (.mk 5 nv sv kv1 es) cs) (h2 : Lies w (· < w.heap.size) (.mk 5 nk sk kk1 K) ds)
    (hv : valid (.mk 5 nv sv kv1 es) = true) (hk : valid (.mk 5 nk sk kk1 K) = true) (hKV : K.all valid = true) (hn : es.length = K.length) (hlen : K.length ≤ 1000000) :
    Calls Try.prog 15 #[.agg cs.toArray, .agg ds.toArray] w (GbPost (groupV es K).length (tabR (groupV es K)) (tabE (groupV es K)) w) := by
  refine (groups_any h1 h2 hv hk hKV hn hlen).mono ?_
  rintro e1 w1 ⟨hb1, V1, gs, xs, rfl, hg, hl, hlk⟩
  have hLO := Ix.ordL_len K
  have hlen2 := hlk.len
  have hsz := grpF_sizes (K := K) (ord := Ix.ordL K) K.length
  have hflat := grpF_flat (K := K) (ord := Ix.ordL K) K.length (by omega)
  have hgn : gs.length = (groupV es K).length := by unfold groupV; rw [List.length_map, hlen2]
  have hI : ∀ I ∈ grpF K (Ix.ordL K) K.length, (∀ a ∈ I, a < es.length) ∧ I.length ≤ 1000000 := fun I hI => by
    refine ⟨fun a ha => ?_, ?_⟩
    · have h3 : a ∈ (grpF K (Ix.ordL K) K.length).flatten := List.mem_flatten.2 ⟨I, hI, ha⟩
      rw [hflat] at h3
      rw [hn]
      exact Ix.ordL_lt K a (List.mem_of_mem_take h3)
    · have := hsz.2 I hI
      omega
  obtain ⟨A, c, rfl, hcell⟩ := hg.head
  have hrow := hg.row
  rw [hgn]
  refine ⟨hb1, A, c, gs.map fun x => hdOf x.v, rfl, by rw [List.length_map, hgn], Lib.hid fun i x hx => ?_, Lib.hid fun w2 g hb2 ho2 => ?_⟩
  · rw [List.getElem?_map] at hx
    obtain ⟨y, hy, rfl⟩ := Option.map_eq_some_iff.1 hx
    obtain ⟨g, e1, e2, e3⟩ := hcell i y hy
    obtain ⟨A', c', hv', -⟩ := own_open (hrow y (List.mem_of_getElem? hy))
    refine ⟨g, e1, e2, ?_⟩
    rw [e3, hv']
    rfl
  · have hb : ∀ b, b < w1.heap.size → b < w2.heap.size ∧ w2.heap[b]? = w1.heap[b]? := fun b hb => ⟨Nat.lt_of_lt_of_le hb hb2.size, hb2.block b hb⟩
    have hl2 : LiesL w2 (· < w2.heap.size) es xs := hl.move fun b hb => ⟨Nat.lt_of_lt_of_le (Nat.lt_of_lt_of_le hb hb1.size) hb2.size, (hb2.block b (Nat.lt_of_lt_of_le hb hb1.size)).trans (hb1.block b hb)⟩
    have hrow2 := (hg.below hb2).row
    have hll := like_lies hl2 gs _ hlk hrow2 hI
    obtain ⟨A', c', he, h0, hc, hm, hr⟩ := own_open ho2
    cases he
    have hT := tarr_any (groupV es K) (some ⟨g, 0, none⟩) (groupV es K).length _ w2 ⟨⟨hr.move fun b hb => ⟨hb.2.1, rfl⟩, hll⟩, h0, hc, hm, by rw [← hgn, hlen2]; have := hsz.1; omega⟩
    exact hT
/-- Between two rounds. -/
structure GbSt (g n : Nat) (hs : List Hd) (w1 w : World) (i : Nat) (ys : List Fv) : Prop where
  own : w.ownsRow w1.heap.size 27 5 (.slice (some ⟨g, 0, none⟩) n n) n (ys.flatMap Fv.cs)
  len : ys.length = n
  head : ys.take i = (hs.take i).map hF
  below : Below w1.heap.size w1 w
theorem GbSt.put {g n i : Nat} {hs : List Hd} {w1 w : World} {ys : List Fv} {s : Hd} (h : GbSt g n hs w1 w i ys) (hs1 : hs[i]? = some s) (hi : i < n) :
    GbSt g n hs w1 (((((w.setCell ⟨g, i * 5, none⟩ (.int .i64 5)).setCell ⟨g, i * 5 + 1, none⟩ (.int .i64 0)).setCell ⟨g, i * 5 + 2, none⟩ (.string ⟨#[]⟩)).setCell ⟨g, i * 5 + 3, none⟩ (.slice none 0 0)).setCell ⟨g, i * 5 + 4, none⟩ (.slice s.1 s.2.1 s.2.2)) (i + 1) (ys.set i (hF s)) := by
  have hl := h.len
  have hg : w1.heap.size ≤ g := (h.own.lt g rfl).1
  refine ⟨?_, by rw [List.length_set]; exact hl, ?_, ((((h.below.setCell hg _).setCell hg _).setCell hg _).setCell hg _).setCell hg _⟩
  · rw [← flat_set (hF s) ys i (by omega)]
    exact own_set (own_set (own_set (own_set (own_set h.own (i := i * 5) (by omega) _) (i := i * 5 + 1) (by omega) _) (i := i * 5 + 2) (by omega) _) (i := i * 5 + 3) (by omega) _) (i := i * 5 + 4) (by omega) _
  · rw [List.take_add_one, List.getElem?_set_self (by omega), List.take_set_of_le (Nat.le_refl _), h.head, List.take_add_one, hs1, List.map_append]
    rfl
theorem GbSt.free {g n i : Nat} {hs : List Hd} {w1 w : World} {ys : List Fv} (h : GbSt g n hs w1 w i ys) (k : Nat) : w.frozen? ⟨g, k, none⟩ = false := h.own.frozenAt k
theorem GbSt.there {g n i : Nat} {hs : List Hd} {w1 w : World} {ys : List Fv} (h : GbSt g n hs w1 w i ys) (k : Nat) (hk : k < n * 5) : ∃ u, w.cell? ⟨g, k, none⟩ = some u := by
  have h1 := h.own.1
  rw [h.own.cellAt k hk]
  exact ⟨_, List.getElem?_eq_getElem (by omega)⟩
theorem GbSt.start (w1 : World) (n : Nat) (hs : List Hd) (hn : n ≤ 1000000) : GbSt w1.heap.size n hs w1 (w1.alloc (.cells (zl n).toArray 27)) 0 (List.replicate n fvZero) := by
  refine ⟨⟨by rw [flat_len, List.length_replicate], .inr ⟨w1.heap.size, n, (zl n).toArray, rfl, Nat.le_refl _, Box.laid w1 _ _, Nat.le_refl _, by unfold maxLen; omega, by rw [List.size_toArray, zl_flat, flat_len, List.length_replicate], ?_⟩⟩, List.length_replicate, rfl, below1 _ _⟩
  rw [List.toList_toArray, ← zl_flat, List.take_of_length_le (by rw [zl_flat, flat_len, List.length_replicate]; exact Nat.le_refl _)]
set_option maxHeartbeats 4000000 in
set_option maxRecDepth 100000 in
theorem groupBy_any {nv nk : Int} {sv sk : ByteArray} {kv1 kk1 : List ByteArray} {es K : List V} {cs ds : List Value} {w : World} (h1 : Lies w (· < w.heap.size) (.mk 5 nv sv kv1 es) cs) (h2 : Lies w (· < w.heap.size) (.mk 5 nk sk kk1 K) ds)
    (hv : valid (.mk 5 nv sv kv1 es) = true) (hk : valid (.mk 5 nk sk kk1 K) = true) (hKV : K.all valid = true) (hn : es.length = K.length) (hlen : K.length ≤ 1000000) :
    Calls Try.prog 14 #[.agg cs.toArray, .agg ds.toArray] w (RetPost (tabR (groupV es K)) (tabE (groupV es K)) w) := by
  have HG := Lib.hid (fun W (hW : Below w.heap.size w W) => groups_grouped (below_lies hW h1) (below_lies hW h2) hv hk hKV hn hlen)
  have hm : (groupV es K).length ≤ 1000000 := by
    unfold groupV
    rw [List.length_map]
    have := (grpF_sizes (K := K) (ord := Ix.ordL K) K.length).1
    omega
  obtain ⟨A, a0, B, b0, xs0, rfl, -⟩ := lies_open h1
  obtain ⟨C, c0, D, d0, ys0, rfl, -⟩ := lies_open h2
  clear h1 h2 hv hk hKV hn hlen
  show Calls _ _ #[.agg #[.int .i64 5, .int .i64 nv, .string sv, .slice A kv1.length a0, .slice B es.length b0], .agg #[.int .i64 5, .int .i64 nk, .string sk, .slice C kk1.length c0, .slice D K.length d0]] w _
  generalize tabR (groupV es K) = R at *
  generalize tabE (groupV es K) = E at *
  generalize (groupV es K).length = n at *
  generalize es.length = n1 at *
  generalize K.length = n2 at *
  generalize kv1.length = n3 at *
  generalize kk1.length = n4 at *
  have hmk := made_nulls n hm
  have HM := Lib.hid hm
  have HST := Lib.hid (fun w1 hs => GbSt.start w1 n hs hm)
  clear hm
  generalize hS : GbPost n R E = SP at HG
  go_enter Try.func14, Try.ntmps14
  go_wp2_with fail
  refine (HG.out _ (below3 _ _ _ _)).mono ?_
  rintro e1 w1 hp
  subst hS
  obtain ⟨hb1, V1, cV, hs, rfl, hlen, HC, HT⟩ := hp
  have HB1 : Hid (Below w.heap.size w w1) := Lib.hid ((below3 w _ _ _).trans (hb1.mono (by simp; omega)))
  have HR1 := Lib.hid ((box_third w _ _ _).below hb1 (by simp))
  have HN := Lib.hid hlen
  clear hb1 HG hlen
  go_wp2_with fail
  have HS0 := Lib.hid (HST.out w1 hs)
  clear HST hmk
  generalize (w1.alloc (.cells (zl n).toArray 27)) = w2 at HS0 ⊢
  go_loopg [9, 10, 26] n (fun gg _ _ s26 wr => ∃ (i : Nat) (ys : List Fv), s26 = .int .i64 i ∧ i ≤ n ∧ n - i ≤ gg ∧ Hid (GbSt w1.heap.size n hs w1 wr i ys))
  case atStart => exact ⟨0, _, rfl, Nat.zero_le _, by omega, HS0⟩
  case round =>
    clear HS0
    obtain ⟨i, ys, rfl, hin, hg, HS⟩ := hrel
    by_cases hlt : i < n
    · obtain ⟨s, hs1⟩ : ∃ s, hs[i]? = some s := ⟨_, List.getElem?_eq_getElem (by rw [HN.out]; exact hlt)⟩
      obtain ⟨b, rfl, hb, hc⟩ := HC.out i s hs1
      have hcr := (HS.out.below.cell (p := ⟨b, i, none⟩) hb).trans hc
      have hi0 : (0 : Int) ≤ (i : Int) := by omega
      have hil : (i : Int) < (n : Int) := by omega
      clear hb hc
      obtain ⟨y0, hy0⟩ := HS.out.there (i * 5) (by omega)
      obtain ⟨y1, hy1⟩ := HS.out.there (i * 5 + 1) (by omega)
      obtain ⟨y2, hy2⟩ := HS.out.there (i * 5 + 2) (by omega)
      obtain ⟨y3, hy3⟩ := HS.out.there (i * 5 + 3) (by omega)
      obtain ⟨y4, hy4⟩ := HS.out.there (i * 5 + 4) (by omega)
      have z0 := HS.out.free (i * 5)
      have z1 := HS.out.free (i * 5 + 1)
      have z2 := HS.out.free (i * 5 + 2)
      have z3 := HS.out.free (i * 5 + 3)
      have z4 := HS.out.free (i * 5 + 4)
      have HD3 := HS.out.put hs1 hlt
      clear hs1
      have hm := HM.out
      go_wp2_with fail
      generalize (((((wr.setCell ⟨w1.heap.size, i * 5, none⟩ (.int .i64 5)).setCell ⟨w1.heap.size, i * 5 + 1, none⟩ (.int .i64 0)).setCell ⟨w1.heap.size, i * 5 + 2, none⟩ (.string ⟨#[]⟩)).setCell ⟨w1.heap.size, i * 5 + 3, none⟩ (.slice none 0 0)).setCell ⟨w1.heap.size, i * 5 + 4, none⟩ (.slice s.1 s.2.1 s.2.2)) = W9 at HD3 ⊢
      have HD4 := Lib.hid HD3
      clear HD3 HS hy0 hy1 hy2 hy3 hy4 z0 z1 z2 z3 z4
      go_roundg (n - (i + 1))
      case measure => omega
      case rel => exact ⟨i + 1, _, by first | rfl | go_num, by omega, Nat.le_refl _, HD4⟩
    · obtain rfl : i = n := by omega
      have hil : ¬ ((i : Int) < (i : Int)) := by omega
      have hys : ys = hs.map hF := by
        have := HS.out.head
        rw [List.take_of_length_le (by rw [HS.out.len]; exact Nat.le_refl _), List.take_of_length_le (by rw [HN.out]; exact Nat.le_refl _)] at this
        exact this
      subst hys
      have HC2 := Lib.hid (ret_open (HT.out wr _ HS.out.below HS.out.own))
      have hbw := HS.out.below
      have HB2 := Lib.hid (HB1.out.trans (hbw.mono HB1.out.size))
      have HR2 := Lib.hid (HR1.out.below hbw HR1.out.lt)
      clear HT HC hbw
      go_wp2_with fail
      refine HC2.out.mono ?_
      rintro e3 w3 ⟨rk, rn, rs, rks, res, RA, ra, RC, rc, hrv, rfl, hb3, hl3⟩
      have hres := HR2.out.below hb3 HR2.out.lt
      have h3lt : w.heap.size + 2 < wr.heap.size := HR2.out.lt
      have HL3 := Lib.hid hl3
      obtain ⟨t0, t1, t2, t3, t4⟩ := box5 hres
      have z0 := hres.free 0
      have z1 := hres.free 1
      have z2 := hres.free 2
      have z3 := hres.free 3
      have z4 := hres.free 4
      have HB3 := Lib.hid (HB2.out.trans (hb3.mono HB2.out.size))
      have HRL := Lib.hid hres.lt
      have hs3 := hb3.size
      clear hrv hl3 hb3 hres
      go_wp2_with fail
      refine bodyPost_ret (v := .tuple #[.agg #[.int .i64 rk, .int .i64 rn, .string rs, .slice RA rks.length ra, .slice RC res.length rc], .int .i64 E]) (by simp [results, Try.results14, go_sem, t0, t1, t2, t3, t4]) rfl ?_
      exact ret_put HB3.out (by omega) HRL.out (HL3.out.move fun b hb => ⟨⟨by omega, hb.2, by omega⟩, rfl⟩)
end Go.Proofs.Ytnokmlclephjgaa

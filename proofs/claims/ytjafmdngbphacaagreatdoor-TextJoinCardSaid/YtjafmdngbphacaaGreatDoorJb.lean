/- text: split of the list. slices.ContainsFunc over a test that reads kinds alone (text's isNested and isNoNumber). strings.Join: the library's contract, laid at this program; text.join at strings. text.join at strings. text.Join at an array of strings. text.Split, from the list's split. TextJoin: the pieces of a string are valid strings; they join to it; an array of them is valid. -/
import Derived.Test.YtjafmdngbphacaaGreatDoorC30
import Derived.Test.YtjafmdngbphacaaGreatDoorC34
import Derived.Test.YtjafmdngbphacaaGreatDoorJa
import Derived.Test.YtjafmdngbphacaaGreatDoorC32
import Derived.Shelf.Lays
import Derived.Shelf.Strings.OnBuilder
import Derived.Ground.NamesProg
import Derived.Test.YtjafmdngbphacaaGreatDoorRows
import Derived.Laws.MakeOwn
import Derived.Test.YtjafmdngbphacaaGreatDoorC26
import Derived.Test.YtjafmdngbphacaaGreatDoorC38
set_option linter.unusedVariables false
set_option linter.unusedSimpArgs false
namespace Go.Proofs.YtjafmdngbphacaaGreatDoor
open Go.RowKit Go.Shelf Go.Sort
/-- Between two rounds; w0: the world behind Split. -/
structure SpSt (n : Nat) (ps : List ByteArray) (w0 w : World) (i : Nat) (ys : List Fv) : Prop where
  own : w.ownsRow w0.heap.size 25 5 (.slice (some ⟨w0.heap.size, 0, none⟩) n n) n (ys.flatMap Fv.cs)
  len : ys.length = n
  head : ys.take i = (ps.take i).map strF
  below : Below w0.heap.size w0 w
theorem SpSt.put {n i : Nat} {ps : List ByteArray} {w0 w : World} {ys : List Fv} {s : ByteArray} (h : SpSt n ps w0 w i ys) (hs : ps[i]? = some s) (hi : i < n) :
    SpSt n ps w0 (((((w.setCell ⟨w0.heap.size, i * 5, none⟩ (.int .i64 4)).setCell ⟨w0.heap.size, i * 5 + 1, none⟩ (.int .i64 0)).setCell ⟨w0.heap.size, i * 5 + 2, none⟩ (.string s)).setCell ⟨w0.heap.size, i * 5 + 3, none⟩ (.slice none 0 0)).setCell ⟨w0.heap.size, i * 5 + 4, none⟩ (.slice none 0 0)) (i + 1) (ys.set i (strF s)) := by
  have hl := h.len
  have hg : w0.heap.size ≤ w0.heap.size := Nat.le_refl _
  refine ⟨?_, by rw [List.length_set]; exact hl, ?_, ((((h.below.setCell hg _).setCell hg _).setCell hg _).setCell hg _).setCell hg _⟩
  · rw [← flat_set (strF s) ys i (by omega)]
    exact own_set (own_set (own_set (own_set (own_set h.own (i := i * 5) (by omega) _) (i := i * 5 + 1) (by omega) _) (i := i * 5 + 2) (by omega) _) (i := i * 5 + 3) (by omega) _) (i := i * 5 + 4) (by omega) _
  · rw [List.take_add_one, List.getElem?_set_self (by omega), List.take_set_of_le (Nat.le_refl _), h.head, List.take_add_one, hs, List.map_append]
    rfl
theorem SpSt.free {n i : Nat} {ps : List ByteArray} {w0 w : World} {ys : List Fv} (h : SpSt n ps w0 w i ys) (k : Nat) : w.frozen? ⟨w0.heap.size, k, none⟩ = false := by
  rcases h.own.2 with ⟨h0, _⟩ | ⟨g', cap', cur, hv, hbg, hgg, _⟩
  · cases h0
  · cases hv
    exact (show Box w w0.heap.size _ cur from hgg).free k
theorem SpSt.there {n i : Nat} {ps : List ByteArray} {w0 w : World} {ys : List Fv} (h : SpSt n ps w0 w i ys) (k : Nat) (hk : k < n * 5) : ∃ u, w.cell? ⟨w0.heap.size, k, none⟩ = some u := by
  have h1 := h.own.1
  rw [h.own.cellAt k hk]
  exact ⟨_, List.getElem?_eq_getElem (by omega)⟩
theorem SpSt.start (n : Nat) (ps : List ByteArray) (w0 : World) (hn : n ≤ 1000000) : SpSt n ps w0 (w0.alloc (.cells (zl n).toArray 25)) 0 (List.replicate n fvZero) := by
  refine ⟨⟨by rw [flat_len, List.length_replicate], .inr ⟨w0.heap.size, n, (zl n).toArray, rfl, Nat.le_refl _, Box.laid w0 _ _, Nat.le_refl _, by unfold maxLen; omega, by rw [List.size_toArray, zl_flat, flat_len, List.length_replicate], ?_⟩⟩, List.length_replicate, rfl, below1 _ _⟩
  rw [List.toList_toArray, ← zl_flat, List.take_of_length_le (by rw [zl_flat, flat_len, List.length_replicate]; exact Nat.le_refl _)]
set_option maxHeartbeats 4000000 in
set_option maxRecDepth 100000 in
theorem m_split (s t : ByteArray) (w : World) (hml : MaxL w) (hT : Tabs w) (ho : okS s = true) (hp : okS t = true) (hs : s.size ≤ 4096) (ht : t.size ≤ 4096) (hlen : (splitL s t).length ≤ 1000000) (hsz : ∀ x ∈ splitL s t, x.size ≤ 140737488355328) :
    Calls Tryz.prog 207 #[.agg #[.string s, .string t]] w (RetPost (arrR ((splitL s t).map strV)) (arrE ((splitL s t).map strV)) w) := by
  have H0 := Lib.hid (T2.start w s t)
  have HSP := Lib.hid (split_any s t _ (hml.next H0.out.below) (hT.next H0.out.below) (by omega) (by omega))
  generalize splitB? s t = ok at HSP
  generalize splitL s t = ps at HSP hlen hsz ⊢
  obtain ⟨n, hn⟩ : ∃ n, ps.length = n := ⟨_, rfl⟩
  rw [hn] at hlen
  have HN := Lib.hid hn
  have HZ := Lib.hid hsz
  have hmk := made_nulls n hlen
  have HST := Lib.hid (fun W => SpSt.start n ps W hlen)
  clear hml hT ho hp hs ht hn hsz
  go_enter Tryz.func207, Tryz.ntmps207
  go_wp2_with fail
  refine HSP.out.mono ?_
  rintro e1 w1 ⟨hb1, A, c, rfl, hr, hnil, hlc, hcm⟩
  rw [HN.out]
  have H1 := Lib.hid (H0.out.next hb1)
  have HR := Lib.hid (show Rs w1 (· < w1.heap.size) A (kv ps) from hr.move fun b hb => ⟨hb.2, rfl⟩)
  clear hb1 hr hnil hlc hcm HSP H0
  go_wp2_with fail
  obtain ⟨w2, hw2⟩ : ∃ X, X = w1.alloc (.cells (zl n).toArray 25) := ⟨_, rfl⟩
  have HS : Hid (SpSt n ps w1 w2 0 (List.replicate n fvZero)) := Lib.hid (by rw [hw2]; exact HST.out w1)
  rw [← hw2]
  clear hw2 hmk HST
  go_loopg [7, 8, 22] n (fun gg _ _ s12 wr => ∃ (i : Nat) (ys : List Fv), s12 = .int .i64 i ∧ i ≤ n ∧ n - i ≤ gg ∧ Hid (SpSt n ps w1 wr i ys))
  case atStart => exact ⟨0, _, rfl, Nat.zero_le _, by omega, HS⟩
  case round =>
    clear HS
    obtain ⟨i, ys, rfl, hin, hg, HS⟩ := hrel
    by_cases hlt : i < n
    · obtain ⟨x, hx⟩ : ∃ x, ps[i]? = some x := ⟨_, List.getElem?_eq_getElem (by rw [HN.out]; exact hlt)⟩
      obtain ⟨b, o, rfl, hb, hc⟩ := HR.out.at_ (j := i) (u := .string x) (by simp [kv, hx])
      have hcr := (HS.out.below.cell (p := ⟨b, o + i, none⟩) hb).trans hc
      have hi0 : (0 : Int) ≤ (i : Int) := by omega
      have hil : (i : Int) < (n : Int) := by omega
      obtain ⟨y0, hy0⟩ := HS.out.there (i * 5) (by omega)
      obtain ⟨y1, hy1⟩ := HS.out.there (i * 5 + 1) (by omega)
      obtain ⟨y2, hy2⟩ := HS.out.there (i * 5 + 2) (by omega)
      obtain ⟨y3, hy3⟩ := HS.out.there (i * 5 + 3) (by omega)
      obtain ⟨y4, hy4⟩ := HS.out.there (i * 5 + 4) (by omega)
      have z0 := HS.out.free (i * 5)
      have z1 := HS.out.free (i * 5 + 1)
      have z2 := HS.out.free (i * 5 + 2)
      have z3 := HS.out.free (i * 5 + 3)
      have z4 := HS.out.free (i * 5 + 4)
      have HD3 := HS.out.put hx hlt
      clear hx hb hc
      go_wp2_with fail
      generalize (((((wr.setCell ⟨w1.heap.size, i * 5, none⟩ (.int .i64 4)).setCell ⟨w1.heap.size, i * 5 + 1, none⟩ (.int .i64 0)).setCell ⟨w1.heap.size, i * 5 + 2, none⟩ (.string x)).setCell ⟨w1.heap.size, i * 5 + 3, none⟩ (.slice none 0 0)).setCell ⟨w1.heap.size, i * 5 + 4, none⟩ (.slice none 0 0)) = W9 at HD3 ⊢
      have HD4 := Lib.hid HD3
      clear HD3 HS hy0 hy1 hy2 hy3 hy4 z0 z1 z2 z3 z4
      go_roundg (n - (i + 1))
      case measure => omega
      case rel => exact ⟨i + 1, _, by first | rfl | go_num, by omega, Nat.le_refl _, HD4⟩
    · obtain rfl : i = n := by omega
      have hil : ¬ ((i : Int) < (i : Int)) := by omega
      have hys : ys = ps.map strF := by
        have := HS.out.head
        rw [List.take_of_length_le (by rw [HS.out.len]; exact Nat.le_refl _), List.take_of_length_le (by rw [HN.out]; exact Nat.le_refl _)] at this
        exact this
      subst hys
      obtain ⟨D', d', he, hdn, hdl, hdm, hrs⟩ := own_open HS.out.own
      cases he
      have hm : (ps.map fun s => (strV s, strF s)).map Prod.fst = ps.map strV := by rw [List.map_map]; rfl
      have hm2 : (ps.map fun s => (strV s, strF s)).map Prod.snd = ps.map strF := by rw [List.map_map]; rfl
      have hsl : SliceV wr (some ⟨w1.heap.size, 0, none⟩) i (ps.map strV) ((ps.map strF).flatMap Fv.cs) :=
        ⟨⟨hrs.move fun x hx => ⟨hx.2.1, rfl⟩, by rw [← hm, ← hm2]; exact liesL_of _ fun p hp => by obtain ⟨s, hs, rfl⟩ := List.mem_map.1 hp; exact lies_str _ _ s (HZ.out s hs)⟩, hdn, by rw [List.length_map, HN.out]; exact Nat.le_refl _, hdm, by rw [List.length_map, HN.out]; omega⟩
      have har := arr_any _ _ _ _ _ hsl
      rw [List.length_map, HN.out] at har
      have HC := Lib.hid (ret_open har)
      have H2 := Lib.hid (H1.out.next HS.out.below)
      clear hdn hdl hdm hrs hm hm2 hsl har
      go_wp2_with fail
      refine HC.out.mono ?_
      rintro e2 w2 ⟨rk, rn, rs, rks, res, RA, ra, RC, rc, hrv, rfl, hb2, hl2⟩
      have H3 := Lib.hid (H2.out.next hb2)
      have HL := Lib.hid hl2
      have hs2 := H2.out.r.lt
      have hs3 := H2.out.below.size
      clear hb2 hl2 hrv
      obtain ⟨t0, t1, t2, t3, t4⟩ := box5 H3.out.r
      have z0 := H3.out.r.free 0
      have z1 := H3.out.r.free 1
      have z2 := H3.out.r.free 2
      have z3 := H3.out.r.free 3
      have z4 := H3.out.r.free 4
      go_wp2_with fail
      refine bodyPost_ret (v := .tuple #[.agg #[.int .i64 rk, .int .i64 rn, .string rs, .slice RA rks.length ra, .slice RC res.length rc], .int .i64 (arrE (ps.map strV))]) (by simp [results, Tryz.results207, go_sem, t0, t1, t2, t3, t4]) rfl ?_
      exact ret_put H3.out.below (by omega) H3.out.r.lt (HL.out.move fun b hb => ⟨⟨by omega, hb.2, by omega⟩, rfl⟩)
end Go.Proofs.YtjafmdngbphacaaGreatDoor
namespace Go.Proofs.YtjafmdngbphacaaGreatDoor
open Go.RowKit Go.Shelf Go.Sort
def nestK (k : Int) : Bool := decide (k = 5) || decide (k = 6)
set_option maxHeartbeats 1000000 in
theorem nested_any (k n : Int) (s : ByteArray) (A C : Option Addr) (la a lc c : Nat) (w : World) : Calls Tryz.prog 120 #[.agg #[.int .i64 k, .int .i64 n, .string s, .slice A la a, .slice C lc c]] w fun e w' => e = .returned (.bool (nestK k)) ∧ Below w.heap.size w w' := by
  unfold nestK
  by_cases h5 : k = 5
  · subst h5
    go_enter Tryz.func120, Tryz.ntmps120
    go_wp2_with fail
    go_ret
    exact ⟨rfl, below1 _ _⟩
  have b5 : (k == 5) = false := by simpa using h5
  by_cases h6 : k = 6
  · subst h6
    go_enter Tryz.func120, Tryz.ntmps120
    go_wp2_with fail
    go_ret
    exact ⟨rfl, below1 _ _⟩
  have b6 : (k == 6) = false := by simpa using h6
  go_enter Tryz.func120, Tryz.ntmps120
  go_wp2_with fail
  go_ret
  exact ⟨by simp [h5, h6], below1 _ _⟩
set_option maxHeartbeats 4000000 in
set_option maxRecDepth 100000 in
theorem idxk_any (A : Option Addr) (cap : Nat) (l : List Fv) (w : World) (hrow : FvRow w.heap.size w A l) (hlen : l.length ≤ 1000000) :
    Calls Tryz.prog 150 #[.slice A l.length cap, .func (.func 120) #[] #[]] w fun e w' => (∃ i : Int, e = .returned (.int .i64 i) ∧ decide (0 ≤ i) = l.any fun x => nestK x.k) ∧ Below w.heap.size w w' := by
  have HR := Lib.hid hrow
  have HG := Lib.hid (fun k n s A C la a lc c W => nested_any k n s A C la a lc c W)
  clear hrow
  go_enter Tryz.func150, Tryz.ntmps150
  go_wp2_with fail
  go_loopg [5, 8] l.length (fun gg _ s8 wr => ∃ k : Nat, k ≤ l.length ∧ l.length - k ≤ gg ∧ s8 = .int .i64 k ∧ Hid (Below w.heap.size w wr) ∧ Hid (∀ (j : Nat) (p : Fv), j < k → l[j]? = some p → nestK p.k = false))
  case atStart => exact ⟨0, Nat.zero_le _, by omega, rfl, Lib.hid (Below.refl _ _), Lib.hid fun j p hj => absurd hj (Nat.not_lt_zero _)⟩
  case round =>
    obtain ⟨k, hk, hg, rfl, HW, HI⟩ := hrel
    by_cases hlt : k < l.length
    · obtain ⟨⟨xk, xn, xs, xA, xla, xa, xC, xlc, xc⟩, hp⟩ : ∃ p, l[k]? = some p := ⟨_, List.getElem?_eq_getElem hlt⟩
      have HP := Lib.hid hp
      obtain ⟨b, o, rfl, hb, hf⟩ := HR.out k ⟨xk, xn, xs, xA, xla, xa, xC, xlc, xc⟩ hp
      obtain ⟨f0, f1, f2, f3, f4⟩ := hf.below HW.out hb
      simp only at f0 f1 f2 f3 f4
      have HC := Lib.hid (fun W => HG.out xk xn xs xA xC xla xa xlc xc W)
      have hk0 : (0 : Int) ≤ (k : Int) := by omega
      have hkl : (k : Int) < (l.length : Int) := by omega
      clear hf hp
      obtain ⟨c, hcc⟩ : ∃ c, nestK xk = c := ⟨_, rfl⟩
      have HCC := Lib.hid hcc
      rw [hcc] at HC
      clear hcc
      cases c with
      | true =>
        go_wp2_with fail
        refine (HC.out _).mono ?_
        rintro e w2 ⟨rfl, hb2⟩
        go_wp2_with fail
        (try simp only [Exit.inBlock, Exit.then])
        go_ret
        refine ⟨⟨k, rfl, ?_⟩, HW.out.trans (hb2.mono HW.out.size)⟩
        rw [decide_eq_true hk0]
        exact (List.any_eq_true.2 ⟨_, List.mem_of_getElem? HP.out, HCC.out⟩).symm
      | false =>
        go_wp2_with fail
        refine (HC.out _).mono ?_
        rintro e w2 ⟨rfl, hb2⟩
        go_wp2_with fail
        go_roundg (l.length - (k + 1))
        case measure => omega
        case rel =>
          refine ⟨k + 1, by omega, Nat.le_refl _, by first | rfl | go_num, Lib.hid (HW.out.trans (hb2.mono HW.out.size)), Lib.hid fun j p hj hp => ?_⟩
          rcases Nat.lt_or_ge j k with h | h
          · exact HI.out j p h hp
          · obtain rfl : j = k := by omega
            have := HP.out
            rw [hp] at this
            injection this with this
            subst this
            exact HCC.out
    · have hkl : ¬ ((k : Int) < (l.length : Int)) := by omega
      obtain rfl : k = l.length := by omega
      go_wp2_with fail
      (try simp only [Exit.inBlock, Exit.then])
      go_ret
      refine ⟨⟨-1, rfl, ?_⟩, HW.out⟩
      have hall : (l.any fun x => nestK x.k) = false := by
        rw [List.any_eq_false]
        intro x hx
        obtain ⟨j, hj⟩ := List.getElem?_of_mem hx
        have hlt2 : j < l.length := (List.getElem?_eq_some_iff.1 hj).1
        rw [HI.out j x hlt2 hj]
        exact Bool.false_ne_true
      rw [hall]
      rfl
set_option maxHeartbeats 1000000 in
theorem containsk_any (A : Option Addr) (cap : Nat) (l : List Fv) (w : World) (hrow : FvRow w.heap.size w A l) (hlen : l.length ≤ 1000000) :
    Calls Tryz.prog 102 #[.slice A l.length cap, .func (.func 120) #[] #[]] w fun e w' => e = .returned (.bool (l.any fun x => nestK x.k)) ∧ Below w.heap.size w w' := by
  have HC := Lib.hid (idxk_any A cap l w hrow hlen)
  generalize (l.any fun x => nestK x.k) = r at HC ⊢
  clear hrow
  go_enter Tryz.func102, Tryz.ntmps102
  go_wp2_with fail
  refine HC.out.mono ?_
  rintro e1 w1 ⟨⟨i, rfl, hi⟩, hb⟩
  cases r with
  | true =>
    have h0 : (0 : Int) ≤ i := of_decide_eq_true hi
    go_wp2_with fail
    go_ret
    exact ⟨by first | rfl | simp [h0], hb⟩
  | false =>
    have h0 : ¬ (0 : Int) ≤ i := of_decide_eq_false hi
    go_wp2_with fail
    go_ret
    exact ⟨by first | rfl | simp [h0], hb⟩
end Go.Proofs.YtjafmdngbphacaaGreatDoor
namespace Go.Proofs
open Go.Shelf Go.RowKit
def Tryz.tjn156_ren : Go.Shelf.Ren := ⟨fun | 156 => 164 | 165 => 209 | 166 => 210 | 169 => 211 | 240 => 249 | 241 => 250 | 276 => 289 | 277 => 290 | n => n, fun | 31 => 22 | 9 => 9 | 3 => 3 | 4 => 4 | 0 => 0 | 20 => 20 | 72 => 159 | 76 => 163 | 70 => 157 | 37 => 64 | 75 => 162 | 127 => 190 | 164 => 217 | 5 => 5 | 80 => 165 | n => n, fun | n => n⟩
theorem Tryz.tjn156 : Go.Proofs.Lays.n156 Tryz.prog Tryz.tjn156_ren := {
  mixed := by kernel_rfl
  f156 := Tryz.func164.trans (congrArg some (by kernel_rfl))
  f165 := Tryz.func209.trans (congrArg some (by kernel_rfl))
  f166 := Tryz.func210.trans (congrArg some (by kernel_rfl))
  f169 := Tryz.func211.trans (congrArg some (by kernel_rfl))
  f240 := Tryz.func249.trans (congrArg some (by kernel_rfl))
  f241 := Tryz.func250.trans (congrArg some (by kernel_rfl))
  f276 := Tryz.func289.trans (congrArg some (by kernel_rfl))
  f277 := Tryz.func290.trans (congrArg some (by kernel_rfl))
  t0 := Tryz.underlying0
  a0 := Tryz.isAgg0
  z0 := Tryz.sizeOf0
  v0 := Tryz.zeroValue0
  t3 := Tryz.underlying3
  a3 := Tryz.isAgg3
  z3 := Tryz.sizeOf3
  v3 := Tryz.zeroValue3
  t4 := Tryz.underlying4
  a4 := Tryz.isAgg4
  z4 := Tryz.sizeOf4
  v4 := Tryz.zeroValue4
  t9 := Tryz.underlying9
  a9 := Tryz.isAgg9
  z9 := Tryz.sizeOf9
  v9 := Tryz.zeroValue9
  t20 := Tryz.underlying20
  a20 := Tryz.isAgg20
  z20 := Tryz.sizeOf20
  v20 := Tryz.zeroValue20
  t31 := Tryz.underlying22
  a31 := Tryz.isAgg22
  z31 := Tryz.sizeOf22
  v31 := Tryz.zeroValue22
  t37 := Tryz.underlying64
  a37 := Tryz.isAgg64
  z37 := Tryz.sizeOf64
  v37 := Tryz.zeroValue64
  t70 := Tryz.underlying157
  a70 := Tryz.isAgg157
  z70 := Tryz.sizeOf157
  v70 := Tryz.zeroValue157
  t72 := Tryz.underlying159
  a72 := Tryz.isAgg159
  z72 := Tryz.sizeOf159
  v72 := Tryz.zeroValue159
  t75 := Tryz.underlying162
  a75 := Tryz.isAgg162
  z75 := Tryz.sizeOf162
  v75 := Tryz.zeroValue162
  t76 := Tryz.underlying163
  a76 := Tryz.isAgg163
  z76 := Tryz.sizeOf163
  v76 := Tryz.zeroValue163
  t127 := Tryz.underlying190
  a127 := Tryz.isAgg190
  z127 := Tryz.sizeOf190
  v127 := Tryz.zeroValue190
  t164 := Tryz.underlying217
  a164 := Tryz.isAgg217
  z164 := Tryz.sizeOf217
  v164 := Tryz.zeroValue217 }


theorem Tryz.tjn156_x : Builder.Extra Tryz.prog Tryz.tjn156_ren := {
  sizeBuilder := by kernel_rfl
  liesBuilder := by kernel_rfl
  t5 := Tryz.underlying5
  a5 := Tryz.isAgg5
  z5 := Tryz.sizeOf5
  v5 := Tryz.zeroValue5
  infoByte := by kernel_rfl
  cellsByte := by kernel_rfl
  sizeByte := by kernel_rfl
  neB5 := by decide }
end Go.Proofs
namespace Go.Proofs.YtjafmdngbphacaaGreatDoor
open Go.RowKit Go.Shelf Go.Sort
/-- Strings joined. -/
def joinB (ps : List ByteArray) (sep : ByteArray) : ByteArray := ⟨(Lib.join (ps.map (·.data.toList)) sep.data.toList).toArray⟩
theorem joinB_nil (sep : ByteArray) : joinB [] sep = ⟨#[]⟩ := rfl
theorem joinB_one (x sep : ByteArray) : joinB [x] sep = x := by
  unfold joinB
  simp only [List.map_cons, List.map_nil]
  rw [Lib.join_one]
theorem joinL_cons (x y sep : List UInt8) (r : List (List UInt8)) : Lib.join (x :: y :: r) sep = x ++ sep ++ Lib.join (y :: r) sep := by
  rw [Lib.join_cons, Lib.join_cons]
  simp [Lib.joinTail]
/-- The bytes of joined strings. -/
def joinN (ps : List ByteArray) (sep : ByteArray) : Nat := sep.size * (ps.length - 1) + (ps.map ByteArray.size).sum
theorem joinL_len (sep : List UInt8) : ∀ l : List (List UInt8), (Lib.join l sep).length = sep.length * (l.length - 1) + (l.map List.length).sum
  | [] => by simp [Lib.join_nil]
  | [x] => by rw [Lib.join_one]; simp
  | x :: y :: r => by
    rw [joinL_cons, List.length_append, List.length_append, joinL_len sep (y :: r)]
    simp only [List.length_cons, List.map_cons, List.sum_cons, Nat.add_sub_cancel]
    rw [Nat.mul_succ]
    omega
theorem joinB_size (ps : List ByteArray) (sep : ByteArray) : (joinB ps sep).size = joinN ps sep := by
  unfold joinB joinN
  show (Lib.join (ps.map (·.data.toList)) sep.data.toList).toArray.size = _
  rw [List.size_toArray, joinL_len, List.length_map, List.map_map]
  have e1 : sep.data.toList.length = sep.size := by simp
  have e2 : (List.length ∘ fun (x : ByteArray) => x.data.toList) = ByteArray.size := by funext x; simp
  rw [e1, e2]
theorem joinS_lib (A : Option Addr) (c : Nat) (ps : List ByteArray) (sep : ByteArray) (w : World) (hR : Rs w (· < w.heap.size) A (kv ps)) (hcap : ps.length ≤ c) (hN : ps.length ≤ 1000000) (hlen : (joinB ps sep).size ≤ 140737488355328) :
    Calls Tryz.prog 164 #[.slice A ps.length c, .string sep] w fun e w' => e = .returned (.string (joinB ps sep)) ∧ Below w.heap.size w w' := by
  cases ps with
  | nil => exact (Go.Proofs.Any.strings_Join_none { Tryz.tjn156 with } Tryz.tjn156_x A c sep w).mono fun e w' h => ⟨h.1, by rw [h.2]; exact Below.refl _ _⟩
  | cons x r =>
    obtain ⟨b, o, rfl, hb, hc⟩ := hR.at_ (j := 0) (u := .string x) rfl
    cases r with
    | nil =>
      rw [joinB_one]
      exact (Go.Proofs.Any.strings_Join_one { Tryz.tjn156 with } Tryz.tjn156_x b o c x sep w hc).mono fun e w' h => ⟨h.1, by rw [h.2]; exact Below.refl _ _⟩
    | cons y r =>
      refine Go.Proofs.Any.strings_Join_many { Tryz.tjn156 with } Tryz.tjn156_x b o c (x :: y :: r) sep w ?_ hb (by simp) (by omega) hcap ?_
      · intro j z hz
        obtain ⟨b2, o2, e, _, hc2⟩ := hR.at_ (j := j) (u := .string z) (by unfold kv; rw [List.getElem?_map, hz]; rfl)
        injection e with e
        injection e with e1 e2
        subst e1 e2
        exact hc2
      · have : (joinB (x :: y :: r) sep).size = (Lib.join ((x :: y :: r).map (·.data.toList)) sep.data.toList).length := by
          unfold joinB
          show (Lib.join ((x :: y :: r).map (·.data.toList)) sep.data.toList).toArray.size = _
          rw [List.size_toArray]
        omega
/-- What a string counts for in Join. -/
theorem joined_str (s : ByteArray) (A C : Option Addr) (la a lc c : Nat) (w : World) : Calls Tryz.prog 163 #[.agg #[.int .i64 4, .int .i64 0, .string s, .slice A la a, .slice C lc c]] w fun e w' => e = .returned (.string s) ∧ Below w.heap.size w w' := by
  go_enter Tryz.func163, Tryz.ntmps163
  go_wp2_with fail
  go_ret
  exact ⟨rfl, below1 _ _⟩
end Go.Proofs.YtjafmdngbphacaaGreatDoor
namespace Go.Proofs.YtjafmdngbphacaaGreatDoor
open Go.RowKit Go.Shelf Go.Sort
theorem inf_strT : (Tryz.prog.info? 9).map (fun i => (i.zero, i.size, i.bytes)) = some (some (.string ⟨#[]⟩), 1, 16) := by kernel_rfl
set_option maxRecDepth 100000 in
theorem made_strs (n : Nat) (hn : n ≤ 1000000) : ∀ W, (Instr.makeSlice 22 (.int .i64 (n : Int)) (.int .i64 (n : Int))).run Tryz.prog W = .ok (.slice (some ⟨W.heap.size, 0, none⟩) n n) (W.alloc (.cells (kv (List.replicate n ⟨#[]⟩)).toArray 9)) := by
  obtain ⟨i, hi, hz, hs, hb⟩ := info_parts inf_strT
  intro W
  have := run_make W 22 9 i (.string ⟨#[]⟩) Tryz.underlying22 hi hz .i64 .i64 n n (by omega) (by omega) (by rw [hb]; omega) (by omega)
  rw [hs] at this
  have hC : madeCells (Value.string ⟨#[]⟩).cells (n * 1) = (kv (List.replicate n ⟨#[]⟩)).toArray := by
    refine Array.ext (by simp [madeCells, kv]) fun j h1 h2 => ?_
    have e : j % 1 = 0 := Nat.mod_one j
    simp [madeCells, kv, Value.cells, e]
  simp only [Int.toNat_natCast] at this
  rw [hC] at this
  exact this
/-- Between two rounds; w0: the world behind the result's box. -/
structure JnSt (n : Nat) (ps : List ByteArray) (w0 w : World) (i : Nat) (ys : List ByteArray) : Prop where
  own : w.ownsRow w0.heap.size 9 1 (.slice (some ⟨w0.heap.size, 0, none⟩) n n) n (kv ys)
  len : ys.length = n
  head : ys.take i = ps.take i
  below : Below w0.heap.size w0 w
theorem JnSt.next {n i : Nat} {ps ys : List ByteArray} {w0 w w' : World} (h : JnSt n ps w0 w i ys) (hb : Below w.heap.size w w') : JnSt n ps w0 w' i ys :=
  ⟨own_belowV h.own hb, h.len, h.head, chain h.below hb⟩
theorem JnSt.put {n i : Nat} {ps ys : List ByteArray} {w0 w : World} {s : ByteArray} (h : JnSt n ps w0 w i ys) (hs : ps[i]? = some s) (hi : i < n) :
    JnSt n ps w0 (w.setCell ⟨w0.heap.size, i, none⟩ (.string s)) (i + 1) (ys.set i s) := by
  have hl := h.len
  refine ⟨?_, by rw [List.length_set]; exact hl, ?_, h.below.setCell (Nat.le_refl _) _⟩
  · have := own_set h.own (i := i) (by omega) (.string s)
    unfold kv at this ⊢
    rw [List.map_set]
    exact this
  · rw [List.take_add_one, List.getElem?_set_self (by omega), List.take_set_of_le (Nat.le_refl _), h.head, List.take_add_one, hs]
theorem JnSt.free {n i : Nat} {ps ys : List ByteArray} {w0 w : World} (h : JnSt n ps w0 w i ys) (k : Nat) : w.frozen? ⟨w0.heap.size, k, none⟩ = false := by
  rcases h.own.2 with ⟨h0, _⟩ | ⟨g', cap', cur, hv, hbg, hgg, _⟩
  · cases h0
  · cases hv
    exact (show Box w w0.heap.size _ cur from hgg).free k
theorem JnSt.there {n i : Nat} {ps ys : List ByteArray} {w0 w : World} (h : JnSt n ps w0 w i ys) (k : Nat) (hk : k < n) : ∃ u, w.cell? ⟨w0.heap.size, k, none⟩ = some u := by
  have h1 := h.own.1
  rw [h.own.cellAt k (by omega)]
  exact ⟨_, List.getElem?_eq_getElem (by omega)⟩
theorem JnSt.at_ {n i : Nat} {ps ys : List ByteArray} {w0 w : World} (h : JnSt n ps w0 w i ys) {k : Nat} {s : ByteArray} (hk : ys[k]? = some s) : w.cell? ⟨w0.heap.size, k, none⟩ = some (.string s) := by
  have hlt : k < n := by rw [← h.len]; exact (List.getElem?_eq_some_iff.1 hk).1
  rw [h.own.cellAt k (by omega)]
  unfold kv
  rw [List.getElem?_map, hk]
  rfl
theorem JnSt.start (n : Nat) (ps : List ByteArray) (w0 : World) (hn : n ≤ 1000000) : JnSt n ps w0 (w0.alloc (.cells (kv (List.replicate n ⟨#[]⟩)).toArray 9)) 0 (List.replicate n ⟨#[]⟩) := by
  refine ⟨⟨by simp [kv], .inr ⟨w0.heap.size, n, (kv (List.replicate n ⟨#[]⟩)).toArray, rfl, Nat.le_refl _, Box.laid w0 _ _, Nat.le_refl _, by unfold maxLen; omega, by simp [kv], ?_⟩⟩, List.length_replicate, rfl, below1 _ _⟩
  rw [List.toList_toArray, List.take_of_length_le (by simp [kv])]
/-- The bytes of the first strings. -/
def sumN (ps : List ByteArray) (i : Nat) : Nat := ((ps.take i).map ByteArray.size).sum
theorem sumN_step {ps : List ByteArray} {i : Nat} {s : ByteArray} (h : ps[i]? = some s) : sumN ps (i + 1) = sumN ps i + s.size := by
  unfold sumN
  rw [List.take_add_one, h, List.map_append, List.sum_append]
  simp
theorem sumN_le {ps : List ByteArray} (hz : ∀ x ∈ ps, x.size ≤ 4096) : ∀ i, sumN ps i ≤ i * 4096
  | 0 => by simp [sumN]
  | i + 1 => by
    have := sumN_le hz i
    cases h : ps[i]? with
    | none =>
      have e : sumN ps (i + 1) = sumN ps i := by unfold sumN; rw [List.take_add_one, h]; simp
      omega
    | some s =>
      rw [sumN_step h]
      have := hz s (List.mem_of_getElem? h)
      omega
/-- What join gives for strings. -/
def jnR (ps : List ByteArray) (sep : ByteArray) : V × Int := if 4096 < joinN ps sep then (vnull, 2) else (strR (joinB ps sep), strE (joinB ps sep))
/-- The cells of an element. -/
theorem elem_cells5 {w : World} {S T : Nat → Prop} {A : Option Addr} {ps : List ByteArray} {xs : List Value} (hA : Rs w S A xs) (hL : LiesL w T (ps.map strV) xs) {i : Nat} {s : ByteArray} (hs : ps[i]? = some s) :
    ∃ (b o : Nat) (A' C' : Option Addr) (a' c' : Nat), A = some ⟨b, o, none⟩ ∧ S b ∧ w.cell? ⟨b, o + i * 5, none⟩ = some (.int .i64 4) ∧ w.cell? ⟨b, o + i * 5 + 1, none⟩ = some (.int .i64 0) ∧ w.cell? ⟨b, o + i * 5 + 2, none⟩ = some (.string s) ∧
      w.cell? ⟨b, o + i * 5 + 3, none⟩ = some (.slice A' 0 a') ∧ w.cell? ⟨b, o + i * 5 + 4, none⟩ = some (.slice C' 0 c') := by
  obtain ⟨cs, hc, hat⟩ := hL.at_ (i := i) (e := strV s) (by rw [List.getElem?_map, hs]; rfl)
  unfold strV at hc
  obtain ⟨A3, a3, B3, b3, ys, rfl, _⟩ := lies_open hc
  obtain ⟨b, o, rfl, hb, h0⟩ := hA.at_ (hat 0 (by decide))
  have k : ∀ j u, xs[i * 5 + j]? = some u → w.cell? ⟨b, o + (i * 5 + j), none⟩ = some u := fun j u hj => by
    obtain ⟨b2, o2, e, _, hc2⟩ := hA.at_ hj
    injection e with e
    injection e with e1 e2
    subst e1 e2
    exact hc2
  refine ⟨b, o, A3, B3, a3, b3, rfl, hb, ?_, ?_, ?_, ?_, ?_⟩
  · exact k 0 _ (hat 0 (by decide))
  · rw [Nat.add_assoc]; exact k 1 _ (hat 1 (by decide))
  · rw [Nat.add_assoc]; exact k 2 _ (hat 2 (by decide))
  · rw [Nat.add_assoc]; exact k 3 _ (hat 3 (by decide))
  · rw [Nat.add_assoc]; exact k 4 _ (hat 4 (by decide))
set_option maxHeartbeats 8000000 in
set_option maxRecDepth 100000 in
theorem join_strs (A : Option Addr) (c n : Nat) (ps : List ByteArray) (sep : ByteArray) (xs : List Value) (w : World) (hA : Rs w (· < w.heap.size) A xs) (hL : LiesL w (· < w.heap.size) (ps.map strV) xs) (hn : ps.length = n) (hn1 : n ≤ 1024) (hz : ∀ x ∈ ps, x.size ≤ 4096) (hsep : sep.size ≤ 4096) :
    Calls Tryz.prog 121 #[.slice A n c, .string sep] w (RetPost (jnR ps sep).1 (jnR ps sep).2 w) := by
  have hmk := made_strs n (by omega)
  have HA := Lib.hid hA
  have HL := Lib.hid hL
  have HN := Lib.hid hn
  have HSL := Lib.hid (sumN_le hz)
  have HXZ := Lib.hid hz
  have HST := Lib.hid (fun W => JnSt.start n ps W (by omega))
  have HJ := Lib.hid (fun (s : ByteArray) A C a c W => joined_str s A C 0 a 0 c W)
  obtain ⟨z, hz0⟩ : ∃ z : Nat, sep.size * (n - 1) = z := ⟨_, rfl⟩
  have hz1 : z ≤ 4096 * 1023 := by rw [← hz0]; exact Nat.mul_le_mul hsep (by omega)
  have HZ := Lib.hid hz0
  have hm1 : (sep.size : Int) * ((n : Int) - 1) = (z : Int) ∨ n = 0 := by
    by_cases h0 : n = 0
    · exact .inr h0
    · refine .inl ?_
      rw [← hz0, Int.natCast_mul, Int.natCast_sub (by omega)]
      rfl
  clear hA hL hn hz hz0
  obtain ⟨rv, re, hRE⟩ : ∃ v er, jnR ps sep = (v, er) := ⟨_, _, rfl⟩
  have HRE := Lib.hid hRE
  rw [hRE]
  clear hRE
  dsimp only
  go_enter Tryz.func121, Tryz.ntmps121
  have hzz : wrap64 ((sep.size : Int) * max ((n : Int) - 1) 0) = (z : Int) := by
    rcases hm1 with h | h
    · by_cases h0 : n = 0
      · have hz0 := HZ.out
        subst h0
        simp at hz0
        subst hz0
        rw [show max (((0 : Nat) : Int) - 1) 0 = 0 from rfl, Int.mul_zero]
        unfold wrap64
        omega
      · rw [Int.max_eq_left (by omega), h]
        unfold wrap64
        omega
    · have hz0 := HZ.out
      subst h
      simp at hz0
      subst hz0
      rw [show max (((0 : Nat) : Int) - 1) 0 = 0 from rfl, Int.mul_zero]
      unfold wrap64
      omega
  have HSUM := Lib.hid (show joinN ps sep = z + sumN ps n by
    unfold joinN sumN
    rw [HN.out, HZ.out, List.take_of_length_le (by rw [HN.out]; exact Nat.le_refl _)])
  clear hm1
  go_wp2_with fail
  rw [hzz]
  obtain ⟨w1, hw1⟩ : ∃ X, X = w.alloc (.cells #[.int .i64 0, .int .i64 0, .string ⟨#[]⟩, .slice none 0 0, .slice none 0 0] 25) := ⟨_, rfl⟩
  have HBX : Hid (Box w1 w.heap.size 25 #[.int .i64 0, .int .i64 0, .string ⟨#[]⟩, .slice none 0 0, .slice none 0 0]) := Lib.hid (by rw [hw1]; exact Box.laid w _ _)
  have HW1 : Hid (Below w.heap.size w w1) := Lib.hid (by rw [hw1]; exact below1 _ _)
  have hs1 : w.heap.size + 1 = w1.heap.size := by rw [hw1]; simp
  rw [← hw1, hs1]
  clear hw1 hzz
  obtain ⟨w2, hw2⟩ : ∃ X, X = w1.alloc (.cells (kv (List.replicate n ⟨#[]⟩)).toArray 9) := ⟨_, rfl⟩
  have HS : Hid (JnSt n ps w1 w2 0 (List.replicate n ⟨#[]⟩)) := Lib.hid (by rw [hw2]; exact HST.out w1)
  rw [← hw2]
  clear hw2 hmk HST
  go_loopg [7, 8, 9, 22] n (fun gg s7 _ _ s22 wr => ∃ (i : Nat) (ys : List ByteArray), s22 = .int .i64 i ∧ s7 = .int .i64 ((z + sumN ps i : Nat) : Int) ∧ i ≤ n ∧ n - i ≤ gg ∧ Hid (JnSt n ps w1 wr i ys))
  case atStart => exact ⟨0, _, rfl, by simp [sumN], Nat.zero_le _, by omega, HS⟩
  case round =>
    clear HS
    obtain ⟨i, ys, rfl, rfl, hin, hg, HS⟩ := hrel
    have hsi := HSL.out i
    obtain ⟨q, hq⟩ : ∃ q, sumN ps i = q := ⟨_, rfl⟩
    have HQ := Lib.hid hq
    rw [hq] at hsi ⊢
    clear hq
    by_cases hlt : i < n
    · obtain ⟨x, hx⟩ : ∃ x, ps[i]? = some x := ⟨_, List.getElem?_eq_getElem (by rw [HN.out]; exact hlt)⟩
      have HBW : Hid (Below w.heap.size w wr) := Lib.hid (chain HW1.out HS.out.below)
      obtain ⟨b, o, A', C', a', c', rfl, hb, e0, e1, e2, e3, e4⟩ := elem_cells5 HA.out HL.out hx
      have g0 := (HBW.out.cell (p := ⟨b, o + i * 5, none⟩) hb).trans e0
      have g1 := (HBW.out.cell (p := ⟨b, o + i * 5 + 1, none⟩) hb).trans e1
      have g2 := (HBW.out.cell (p := ⟨b, o + i * 5 + 2, none⟩) hb).trans e2
      have g3 := (HBW.out.cell (p := ⟨b, o + i * 5 + 3, none⟩) hb).trans e3
      have g4 := (HBW.out.cell (p := ⟨b, o + i * 5 + 4, none⟩) hb).trans e4
      have hi0 : (0 : Int) ≤ (i : Int) := by omega
      have hil : (i : Int) < (n : Int) := by omega
      have HX := Lib.hid hx
      have hxs : x.size ≤ 4096 := by
        have h1 := sumN_step hx
        have h2 := HSL.out (i + 1)
        have h3 := HQ.out
        exact HXZ.out x (List.mem_of_getElem? hx)
      clear hx hb e0 e1 e2 e3 e4
      go_wp2_with fail
      refine (HJ.out x A' C' a' c' _).mono ?_
      rintro e2 w3 ⟨rfl, hb3⟩
      have HD := Lib.hid (HS.out.next (chain (below1 wr (.cells #[.int .i64 4, .int .i64 0, .string x, .slice A' 0 a', .slice C' 0 c'] 25)) hb3))
      clear hb3 g0 g1 g2 g3 g4 HS HBW
      obtain ⟨y0, hy0⟩ := HD.out.there i hlt
      have z0 := HD.out.free i
      have HD3 := HD.out.put HX.out hlt
      have HST3 := Lib.hid (sumN_step HX.out)
      go_wp2_with fail
      generalize (w3.setCell ⟨w1.heap.size, i, none⟩ (.string x)) = W9 at HD3 ⊢
      have HD4 := Lib.hid HD3
      clear HD3 HD hy0 z0
      go_roundg (n - (i + 1))
      case measure => omega
      case rel => exact ⟨i + 1, _, by first | rfl | go_num, by (rw [HST3.out, HQ.out]; go_num), by omega, Nat.le_refl _, HD4⟩
    · obtain rfl : i = n := by omega
      have hil : ¬ ((i : Int) < (i : Int)) := by omega
      have hys : ys = ps := by
        have := HS.out.head
        rw [List.take_of_length_le (by rw [HS.out.len]; exact Nat.le_refl _), List.take_of_length_le (by rw [HN.out]; exact Nat.le_refl _)] at this
        exact this
      subst hys
      have hjn : joinN ys sep = z + q := by rw [HSUM.out, HQ.out]
      have HB := Lib.hid (chain HW1.out HS.out.below)
      have HR := Lib.hid (HBX.out.below HS.out.below HBX.out.lt)
      have hlt1 := HBX.out.lt
      have hsz1 := HS.out.below.size
      have hre := HRE.out
      unfold jnR at hre
      by_cases hbig : 4096 < z + q
      · rw [hjn, if_pos hbig] at hre
        obtain ⟨rfl, rfl⟩ := Prod.mk.inj hre
        have hb1 : (4096 : Int) < ((z + q : Nat) : Int) := by omega
        have hb2 : (4096 : Int) < (z : Int) + (q : Int) := by omega
        obtain ⟨t0, t1, t2, t3, t4⟩ := box5 HR.out
        have z0 := HR.out.free 0
        have z1 := HR.out.free 1
        have z2 := HR.out.free 2
        have z3 := HR.out.free 3
        have z4 := HR.out.free 4
        go_wp2_with fail
        refine bodyPost_ret (v := .tuple #[.agg #[.int .i64 0, .int .i64 0, .string ⟨#[]⟩, .slice none 0 0, .slice none 0 0], .int .i64 2]) (by simp [results, Tryz.results121, go_sem, t0, t1, t2, t3, t4]) rfl ?_
        exact ret_put HB.out (Nat.le_refl _) HR.out.lt (lies_null _ _)
      · rw [hjn, if_neg hbig] at hre
        obtain ⟨rfl, rfl⟩ := Prod.mk.inj hre
        clear hre
        have hb1 : ¬ ((4096 : Int) < ((z + q : Nat) : Int)) := by omega
        have hb2 : ¬ ((4096 : Int) < (z : Int) + (q : Int)) := by omega
        obtain ⟨D', d', he, hdn, hdl, hdm, hrs⟩ := own_open HS.out.own
        cases he
        have hjs : (joinB ys sep).size ≤ 4096 := by rw [joinB_size, hjn]; omega
        have HJO := Lib.hid (by have := joinS_lib (some ⟨w1.heap.size, 0, none⟩) i ys sep wr (hrs.move fun x hx => ⟨hx.2.1, rfl⟩) (by rw [HN.out]; exact Nat.le_refl _) (by rw [HN.out]; omega) (by omega); rw [HN.out] at this; exact this)
        have HC := Lib.hid (fun W => ret_open (str_any (joinB ys sep) W (by omega)))
        obtain ⟨r, hr⟩ : ∃ r, joinB ys sep = r := ⟨_, rfl⟩
        rw [hr] at HJO HC
        have HRR := Lib.hid hr
        clear hr
        clear hdn hdl hdm hrs hjs
        go_wp2_with fail
        refine HJO.out.mono ?_
        rintro e2 w3 ⟨rfl, hb3⟩
        have HB3 := Lib.hid (chain HB.out hb3)
        have HR3 := Lib.hid (HR.out.below hb3 HR.out.lt)
        have hsz3 := hb3.size
        clear hb3
        go_wp2_with fail
        refine (HC.out _).mono ?_
        rintro e4 w4 ⟨rk, rn, rs, rks, res, RA, ra, RC, rc, hrv, rfl, hb4, hl4⟩
        have HB4 := Lib.hid (chain HB3.out hb4)
        have HR4 := Lib.hid (HR3.out.below hb4 HR3.out.lt)
        have HLL := Lib.hid hl4
        have hsz4 := HR3.out.lt
        clear hb4 hl4 hrv
        obtain ⟨t0, t1, t2, t3, t4⟩ := box5 HR4.out
        have z0 := HR4.out.free 0
        have z1 := HR4.out.free 1
        have z2 := HR4.out.free 2
        have z3 := HR4.out.free 3
        have z4 := HR4.out.free 4
        go_wp2_with fail
        refine bodyPost_ret (v := .tuple #[.agg #[.int .i64 rk, .int .i64 rn, .string rs, .slice RA rks.length ra, .slice RC res.length rc], .int .i64 (strE r)]) (by simp [results, Tryz.results121, go_sem, t0, t1, t2, t3, t4]) rfl ?_
        rw [HRR.out]
        exact ret_put HB4.out (Nat.le_refl _) HR4.out.lt (HLL.out.move fun b hb => ⟨⟨by have := HB3.out.size; omega, hb.2, by have := HB3.out.size; omega⟩, rfl⟩)
end Go.Proofs.YtjafmdngbphacaaGreatDoor
namespace Go.Proofs.YtjafmdngbphacaaGreatDoor
open Go.RowKit Go.Shelf Go.Sort
theorem no_nest {w : World} {S : Nat → Prop} {ps : List ByteArray} {l : List (V × Fv)} (h1 : l.map Prod.fst = ps.map strV) (h2 : ∀ p ∈ l, Lies w S p.1 p.2.cs) : ((l.map Prod.snd).any fun x => nestK x.k) = false := by
  rw [List.any_eq_false]
  intro x hx
  obtain ⟨p, hp, rfl⟩ := List.mem_map.1 hx
  have hm : p.1 ∈ ps.map strV := by rw [← h1]; exact List.mem_map.2 ⟨p, hp, rfl⟩
  obtain ⟨s, _, hs⟩ := List.mem_map.1 hm
  have hl := h2 p hp
  rw [← hs] at hl
  unfold strV at hl
  obtain ⟨A, a, B, b, xs, e, _⟩ := lies_open hl
  unfold Fv.cs at e
  injection e with e1 _
  injection e1 with _ e2
  rw [e2]
  decide
set_option maxHeartbeats 8000000 in
set_option maxRecDepth 100000 in
theorem join_two (ps : List ByteArray) (sep : ByteArray) (cs ds : List Value) (w : World) (h : Lies w (· < w.heap.size) (arrV (ps.map strV)) cs) (h' : Lies w (· < w.heap.size) (strV sep) ds) (hv : valid (arrV (ps.map strV)) = true) (hu : valid (strV sep) = true) (hz : ∀ x ∈ ps, x.size ≤ 4096) (hn : ps.length ≤ 1024) (hsep : sep.size ≤ 4096) :
    Calls Tryz.prog 61 #[.agg cs.toArray, .agg ds.toArray] w (RetPost (jnR ps sep).1 (jnR ps sep).2 w) := by
  have HV := Lib.hid (fun W (hW : Below w.heap.size w W) => valid_any (arrV (ps.map strV)) cs W (below_lies hW h))
  have HU := Lib.hid (fun W (hW : Below w.heap.size w W) => valid_any (strV sep) ds W (below_lies hW h'))
  rw [hv] at HV
  rw [hu] at HU
  unfold arrV at h
  unfold strV at h'
  obtain ⟨A, a, B, b, xs, rfl, _, _, _, _, _, hrs, hll⟩ := lies_open h
  obtain ⟨A2, a2, B2, b2', ys, rfl, _⟩ := lies_open h'
  clear h h' hv hu
  rw [List.length_map] at HV ⊢
  obtain ⟨l, hl1, hl2, hl3⟩ := liesL_fv _ _ hll
  have HNN := Lib.hid (no_nest hl1 hl3)
  have hll2 : (l.map Prod.snd).length = ps.length := by rw [List.length_map, ← List.length_map (f := Prod.fst), hl1, List.length_map]
  have HCF := Lib.hid (fun W (hW : Below w.heap.size w W) => by
    have hr : Rs W (· < W.heap.size) B ((l.map Prod.snd).flatMap Fv.cs) := by rw [← hl2]; exact hrs.move fun b hb => ⟨Nat.lt_of_lt_of_le hb hW.size, hW.block b hb⟩
    have := containsk_any B b (l.map Prod.snd) W (rs_row hr) (by omega)
    rw [HNN.out, hll2] at this
    exact this)
  have HJ := Lib.hid (fun W (hW : Below w.heap.size w W) => ret_open (join_strs B b ps.length ps sep xs W (hrs.move fun b hb => ⟨Nat.lt_of_lt_of_le hb hW.size, hW.block b hb⟩) (hll.move fun b hb => ⟨Nat.lt_of_lt_of_le hb hW.size, hW.block b hb⟩) rfl hn hz hsep))
  obtain ⟨rv, re, hRE⟩ : ∃ v er, jnR ps sep = (v, er) := ⟨_, _, rfl⟩
  rw [hRE] at HJ ⊢
  dsimp only at HJ ⊢
  obtain ⟨n, hnn⟩ : ∃ n, ps.length = n := ⟨_, rfl⟩
  rw [hnn] at HV HCF HJ ⊢
  have H0 := Lib.hid (B3.start w #[.int .i64 5, .int .i64 0, .string ⟨#[]⟩, .slice A 0 a, .slice B n b] #[.int .i64 4, .int .i64 0, .string sep, .slice A2 0 a2, .slice B2 0 b2'])
  clear hRE hnn hl1 hl2 hl3 hll2 hll hrs HNN hz hsep hn
  go_enter Tryz.func61, Tryz.ntmps61
  go_wp2_with fail
  refine (HV.out _ H0.out.below).mono ?_
  rintro e1 w1 ⟨rfl, hb1⟩
  have H1 := Lib.hid (H0.out.next hb1)
  clear hb1
  obtain ⟨y0, y1, y2, y3, y4⟩ := box5 H1.out.r
  obtain ⟨t0, t1, t2, t3, t4⟩ := box5 H1.out.x
  obtain ⟨u0, u1, u2, u3, u4⟩ := box5 H1.out.y
  go_wp2_with fail
  refine (HU.out _ H1.out.below).mono ?_
  rintro e2 w2 ⟨rfl, hb2⟩
  have H2 := Lib.hid (H1.out.next hb2)
  clear hb2 y0 y1 y2 y3 y4 t0 t1 t2 t3 t4 u0 u1 u2 u3 u4
  obtain ⟨y0, y1, y2, y3, y4⟩ := box5 H2.out.r
  obtain ⟨t0, t1, t2, t3, t4⟩ := box5 H2.out.x
  obtain ⟨u0, u1, u2, u3, u4⟩ := box5 H2.out.y
  go_wp2_with fail
  refine (HCF.out _ H2.out.below).mono ?_
  rintro e3 w3 ⟨rfl, hb3⟩
  have H3 := Lib.hid (H2.out.next hb3)
  clear hb3 y0 y1 y2 y3 y4 t0 t1 t2 t3 t4 u0 u1 u2 u3 u4
  obtain ⟨y0, y1, y2, y3, y4⟩ := box5 H3.out.r
  obtain ⟨t0, t1, t2, t3, t4⟩ := box5 H3.out.x
  obtain ⟨u0, u1, u2, u3, u4⟩ := box5 H3.out.y
  go_wp2_with fail
  refine (HJ.out _ H3.out.below).mono ?_
  rintro e4 w4 ⟨rk, rn, rs, rks, res, RA, ra, RC, rc, hrv, rfl, hb4, hl4⟩
  have H4 := Lib.hid (H3.out.next hb4)
  have HL := Lib.hid hl4
  have hs3 := H3.out.r.lt
  have hs4 := H3.out.below.size
  clear hb4 hl4 hrv y0 y1 y2 y3 y4 t0 t1 t2 t3 t4 u0 u1 u2 u3 u4
  obtain ⟨y0, y1, y2, y3, y4⟩ := box5 H4.out.r
  have z0 := H4.out.r.free 0
  have z1 := H4.out.r.free 1
  have z2 := H4.out.r.free 2
  have z3 := H4.out.r.free 3
  have z4 := H4.out.r.free 4
  go_wp2_with fail
  refine bodyPost_ret (v := .tuple #[.agg #[.int .i64 rk, .int .i64 rn, .string rs, .slice RA rks.length ra, .slice RC res.length rc], .int .i64 re]) (by simp [results, Tryz.results61, go_sem, y0, y1, y2, y3, y4]) rfl ?_
  exact ret_put H4.out.below (by omega) H4.out.r.lt (HL.out.move fun b hb => ⟨⟨by omega, hb.2, by omega⟩, rfl⟩)
end Go.Proofs.YtjafmdngbphacaaGreatDoor
namespace Go.Proofs.YtjafmdngbphacaaGreatDoor
open Go.RowKit Go.Sort
set_option maxHeartbeats 4000000 in
set_option maxRecDepth 100000 in
/-- split. -/
theorem on_split (v u : V) (R : V × Int) (cs ds : List Value) (w : World) (h : Lies w (· < w.heap.size) v cs) (h' : Lies w (· < w.heap.size) u ds)
    (HF : valid v = true → valid u = true → kd v = 4 → kd u = 4 → ∀ W, Below w.heap.size w W → Calls Tryz.prog 207 #[.agg #[.string (stv v), .string (stv u)]] W (RetPost R.1 R.2 W)) :
    Calls Tryz.prog 115 #[.int .i64 10, .agg cs.toArray, .agg ds.toArray] w (RetPost (onR v u R).1 (onR v u R).2 w) := by
  by_cases hgood : valid v = true ∧ valid u = true ∧ kd v = 4 ∧ kd u = 4
  · obtain ⟨hv, hu, k4, k42⟩ := hgood
    have HV := Lib.hid (fun W (hW : Below w.heap.size w W) => valid_any v cs W (below_lies hW h))
    have HU := Lib.hid (fun W (hW : Below w.heap.size w W) => valid_any u ds W (below_lies hW h'))
    have HM := Lib.hid (fun W hW => ret_open (HF hv hu k4 k42 W hW))
    unfold onR
    rw [if_pos hv, if_pos hu, if_pos k4, if_pos k42]
    rw [hv] at HV
    rw [hu] at HU
    clear HF hv hu
    obtain ⟨k, n, s, ks, es⟩ := v
    obtain ⟨k2, n2, t, ks2, es2⟩ := u
    obtain ⟨A, a, B, b, xs, rfl, _⟩ := lies_open h
    obtain ⟨A2, a2, B2, b2', ys, rfl, _⟩ := lies_open h'
    clear h h'
    have H0 := Lib.hid (B3.start w #[.int .i64 k, .int .i64 n, .string s, .slice A ks.length a, .slice B es.length b] #[.int .i64 k2, .int .i64 n2, .string t, .slice A2 ks2.length a2, .slice B2 es2.length b2'])
    have hkd : kd (V.mk k n s ks es) = k := rfl
    have hkd2 : kd (V.mk k2 n2 t ks2 es2) = k2 := rfl
    have hst : stv (V.mk k n s ks es) = s := rfl
    have hst2 : stv (V.mk k2 n2 t ks2 es2) = t := rfl
    rw [hkd] at k4
    rw [hkd2] at k42
    rw [hst, hst2] at HM
    clear hkd hkd2 hst hst2
    subst k4 k42
    have HLI := Lib.hid (fun W => flist_any s t W)
    go_enter Tryz.func115, Tryz.ntmps115
    go_wp2_with fail
    refine (HV.out _ H0.out.below).mono ?_
    rintro e1 w1 ⟨rfl, hb1⟩
    have H1 := Lib.hid (H0.out.next hb1)
    clear hb1
    obtain ⟨y0, y1, y2, y3, y4⟩ := box5 H1.out.r
    have z0 := H1.out.r.free 0
    have z1 := H1.out.r.free 1
    have z2 := H1.out.r.free 2
    have z3 := H1.out.r.free 3
    have z4 := H1.out.r.free 4
    obtain ⟨t0, t1, t2, t3, t4⟩ := box5 H1.out.x
    obtain ⟨u0, u1, u2, u3, u4⟩ := box5 H1.out.y
    go_wp2_with fail
    refine (HU.out _ H1.out.below).mono ?_
    rintro e2 w2 ⟨rfl, hb2⟩
    have H2 := Lib.hid (H1.out.next hb2)
    clear hb2 y0 y1 y2 y3 y4 z0 z1 z2 z3 z4 t0 t1 t2 t3 t4 u0 u1 u2 u3 u4
    obtain ⟨y0, y1, y2, y3, y4⟩ := box5 H2.out.r
    have z0 := H2.out.r.free 0
    have z1 := H2.out.r.free 1
    have z2 := H2.out.r.free 2
    have z3 := H2.out.r.free 3
    have z4 := H2.out.r.free 4
    obtain ⟨t0, t1, t2, t3, t4⟩ := box5 H2.out.x
    obtain ⟨u0, u1, u2, u3, u4⟩ := box5 H2.out.y
    go_wp2_with fail
    refine (HLI.out _).mono ?_
    rintro e3 w3 ⟨g3, hg3, rfl, hb3, hx3⟩
    have H3 := Lib.hid (H2.out.next hb3)
    have hc3 : w3.cell? ⟨g3, 10, none⟩ = some (.func (.func 207) #[.agg #[.string s, .string t]] #[]) := hx3.cell rfl
    clear hb3 hx3 H2 y0 y1 y2 y3 y4 z0 z1 z2 z3 z4 t0 t1 t2 t3 t4 u0 u1 u2 u3 u4
    go_wp2_with fail
    refine (HM.out _ H3.out.below).mono ?_
    rintro e4 w4 ⟨rk, rn, rs, rks, res, RA, ra, RC, rc, hrv, rfl, hb4, hl4⟩
    have H4 := Lib.hid (H3.out.next hb4)
    have HL := Lib.hid hl4
    have hs3 := H3.out.r.lt
    have hs4 := H3.out.below.size
    clear hb4 hl4 hrv hc3
    obtain ⟨y0, y1, y2, y3, y4⟩ := box5 H4.out.r
    have z0 := H4.out.r.free 0
    have z1 := H4.out.r.free 1
    have z2 := H4.out.r.free 2
    have z3 := H4.out.r.free 3
    have z4 := H4.out.r.free 4
    obtain ⟨t0, t1, t2, t3, t4⟩ := box5 H4.out.x
    obtain ⟨u0, u1, u2, u3, u4⟩ := box5 H4.out.y
    go_wp2_with fail
    refine bodyPost_ret (v := .tuple #[.agg #[.int .i64 rk, .int .i64 rn, .string rs, .slice RA rks.length ra, .slice RC res.length rc], .int .i64 R.2]) (by simp [results, Tryz.results115, go_sem, y0, y1, y2, y3, y4]) rfl ?_
    exact ret_put H4.out.below (by omega) H4.out.r.lt (HL.out.move fun b hb => ⟨⟨by omega, hb.2, by omega⟩, rfl⟩)
  · exact on_bad _ v u R cs ds w h h' hgood
set_option maxHeartbeats 4000000 in
set_option maxRecDepth 100000 in
theorem top_Split (v u r : V) (er : Int) (cs ds : List Value) (w : World) (h : Lies w (· < w.heap.size) v cs) (h' : Lies w (· < w.heap.size) u ds)
    (HC : ∀ W, Below w.heap.size w W → Calls Tryz.prog 115 #[.int .i64 10, .agg cs.toArray, .agg ds.toArray] W (RetPost r er W)) :
    Calls Tryz.prog 59 #[.agg cs.toArray, .agg ds.toArray] w (RetPost r er w) := by
  have HM := Lib.hid (fun W hW => ret_open (HC W hW))
  clear HC
  obtain ⟨k, n, s, ks, es⟩ := v
  obtain ⟨k2, n2, s2, ks2, es2⟩ := u
  obtain ⟨A, a, B, b, xs, rfl, _⟩ := lies_open h
  obtain ⟨A2, a2, B2, b2', ys, rfl, _⟩ := lies_open h'
  clear h h'
  have H0 := Lib.hid (B3.start w #[.int .i64 k, .int .i64 n, .string s, .slice A ks.length a, .slice B es.length b] #[.int .i64 k2, .int .i64 n2, .string s2, .slice A2 ks2.length a2, .slice B2 es2.length b2'])
  go_enter Tryz.func59, Tryz.ntmps59
  go_wp2_with fail
  refine (HM.out _ H0.out.below).mono ?_
  rintro e1 w1 ⟨rk, rn, rs, rks, res, RA, ra, RC, rc, hrv, rfl, hb1, hl1⟩
  have H1 := Lib.hid (H0.out.next hb1)
  have HL := Lib.hid hl1
  have hs1 := H0.out.r.lt
  have hs2 := H1.out.r.lt
  have hs3 := H0.out.below.size
  clear hb1 hl1 hrv
  obtain ⟨y0, y1, y2, y3, y4⟩ := box5 H1.out.r
  have z0 := H1.out.r.free 0
  have z1 := H1.out.r.free 1
  have z2 := H1.out.r.free 2
  have z3 := H1.out.r.free 3
  have z4 := H1.out.r.free 4
  obtain ⟨t0, t1, t2, t3, t4⟩ := box5 H1.out.x
  obtain ⟨u0, u1, u2, u3, u4⟩ := box5 H1.out.y
  go_wp2_with fail
  refine bodyPost_ret (v := .tuple #[.agg #[.int .i64 rk, .int .i64 rn, .string rs, .slice RA rks.length ra, .slice RC res.length rc], .int .i64 er]) (by simp [results, Tryz.results59, go_sem, y0, y1, y2, y3, y4]) rfl ?_
  exact ret_put H1.out.below (by omega) H1.out.r.lt (HL.out.move fun b hb => ⟨⟨by omega, hb.2, by omega⟩, rfl⟩)
end Go.Proofs.YtjafmdngbphacaaGreatDoor
namespace Go.Proofs.YtjafmdngbphacaaGreatDoor
open Go.RowKit Go.Lib
theorem joinB_jn (sep : ByteArray) : ∀ l : List ByteArray, joinB l sep = jn sep l
  | [] => rfl
  | [x] => joinB_one x sep
  | x :: y :: r => by
    rw [jn_cons, ← joinB_jn sep (y :: r)]
    apply bytes_extq
    rw [app_dataq, app_dataq]
    unfold joinB
    simp only [List.map_cons]
    rw [joinL_cons]
theorem expl_okL : ∀ (n : Nat) (s : ByteArray), okL s → ∀ x ∈ expl n s, okL x ∧ x.size ≤ s.size
  | 0, s, _, x, hx => by cases hx
  | 1, s, hs, x, hx => by
    rcases List.mem_singleton.1 hx with rfl
    exact ⟨hs, Nat.le_refl _⟩
  | n + 2, s, hs, x, hx => by
    have hx2 : x = s.extract 0 (decodeGo s).2 ∨ x ∈ expl (n + 1) (s.extract (decodeGo s).2 s.size) := List.mem_cons.1 hx
    have hle := decodeGo_le s
    have key : okL (s.extract 0 (decodeGo s).2) ∧ okL (s.extract (decodeGo s).2 s.size) := by
      have e1 : (s.extract 0 (decodeGo s).2).data.toList = s.data.toList.take (decodeGo s).2 := by rw [Lib.extract_data]; simp
      have hl : s.data.toList.length = s.size := by simp
      have e2 : (s.extract (decodeGo s).2 s.size).data.toList = s.data.toList.drop (decodeGo s).2 := by
        rw [Lib.extract_data, List.take_of_length_le (by rw [List.length_drop, hl]; exact Nat.le_refl _)]
      by_cases h0 : s.size = 0
      · have hnil : s.data.toList = [] := List.eq_nil_of_length_eq_zero (by omega)
        constructor
        · unfold okL; rw [e1, hnil]; simp [runes_nil]
        · unfold okL; rw [e2, hnil]; simp [runes_nil]
      · have hd0 : decodeGo s = Lib.decodeL s.data.toList := by
          unfold decodeGo
          rw [if_neg h0]
          have := Lib.decodeL_drop s 0
          rw [List.drop_zero] at this
          exact this.symm
        obtain ⟨xs, hx, hc⟩ := okL_encs hs
        cases xs with
        | nil =>
          rw [encs_nil] at hx
          rw [← hx] at hl
          simp at hl
          omega
        | cons r xs =>
          have hd : dec s.data.toList = some (r, (enc r).length) := by rw [← hx, encs_cons]; exact dec_enc (hc r List.mem_cons_self) _
          rw [dec_L hd] at hd0
          rw [hd0] at e1 e2 ⊢
          dsimp only at e1 e2 ⊢
          constructor
          · refine okL_of (xs := [r]) ?_ fun q hq => hc q (by simp at hq; simp [hq])
            rw [e1, ← hx, encs_cons r xs, List.take_left]
            simp [encs]
          · refine okL_of (xs := xs) ?_ fun q hq => hc q (List.mem_cons_of_mem _ hq)
            rw [e2, ← hx, encs_cons r xs, List.drop_left]
    rcases hx2 with rfl | hx2
    · exact ⟨key.1, by simp; omega⟩
    · obtain ⟨h1, h2⟩ := expl_okL (n + 1) _ key.2 x hx2
      exact ⟨h1, Nat.le_trans h2 (by simp)⟩
/-- The pieces of a valid string. -/
theorem splitL_ok {s sep : ByteArray} (hs : okS s = true) (hp : okS sep = true) : ∀ x ∈ splitL s sep, okS x = true ∧ x.size ≤ s.size := by
  intro x hx
  unfold splitL at hx
  rw [if_neg (by simp [hs, hp])] at hx
  split at hx
  · cases hx
  split at hx
  · exact expl_okL _ s hs x hx
  · rename_i h0
    exact split_okL (sep := sep) hp (by omega) _ s hs x hx
theorem splitL_len {s sep : ByteArray} : (splitL s sep).length ≤ s.size + 1 := by
  unfold splitL
  split
  · simp
  split
  · simp
  split
  · rw [expl_length]
    have := Lib.runeCount_le s
    omega
  · rename_i h0
    rw [splitB_all sep (by omega) 0 _ s rfl]
    have := countB_le sep (by omega) s.size s (Nat.le_refl _)
    omega
theorem splitL_free {s sep : ByteArray} (h1 : 1 ≤ sep.size) : ∀ x ∈ splitL s sep, Free x.data.toList sep.data.toList := by
  intro x hx
  unfold splitL at hx
  split at hx
  · cases hx
  split at hx
  · cases hx
  split at hx
  · omega
  · exact split_free h1 _ s rfl x hx
theorem strs_good : ∀ ps : List ByteArray, (∀ x ∈ ps, okS x = true ∧ x.size ≤ 60) → goodL (ps.map strV) = true ∧ depL (ps.map strV) = 0 ∧ V.szL (ps.map strV) = ps.length ∧ vbytL (ps.map strV) ≤ 60 * ps.length
  | [], _ => ⟨rfl, rfl, rfl, Nat.le_refl _⟩
  | x :: r, h => by
    obtain ⟨a, b, c, d⟩ := strs_good r fun y hy => h y (List.mem_cons_of_mem _ hy)
    obtain ⟨hx, hz⟩ := h x List.mem_cons_self
    have g := (valid_iff _).1 (valid_str hx (by omega))
    rw [List.map_cons]
    refine ⟨?_, ?_, ?_, ?_⟩
    · rw [goodL, g.1, a]; rfl
    · rw [depL, b]; unfold strV; rw [dep]; simp
    · rw [V.szL, c]; unfold strV; rw [V.sz, V.szL]; simp; omega
    · rw [vbytL]
      have : vbyt (strV x) = x.size := by unfold strV; rw [vbyt, vbytL]; simp [kb]
      rw [this, List.length_cons]
      omega
theorem strs_all {ps : List ByteArray} (h : ∀ x ∈ ps, okS x = true ∧ x.size ≤ 60) : (ps.map strV).all valid = true := by
  rw [List.all_eq_true]
  intro v hv
  obtain ⟨x, hx, rfl⟩ := List.mem_map.1 hv
  exact valid_str (h x hx).1 (by have := (h x hx).2; omega)
theorem arr_strs {ps : List ByteArray} (h : ∀ x ∈ ps, okS x = true ∧ x.size ≤ 60) (hn : ps.length ≤ 61) : valid (arrV (ps.map strV)) = true := by
  obtain ⟨a, b, c, d⟩ := strs_good ps h
  have hz : (⟨#[]⟩ : ByteArray).size = 0 := rfl
  rw [valid_iff]
  unfold arrV
  refine ⟨?_, ?_, ?_, ?_⟩
  · rw [good, a]
    have h1 : fits 5 0 (⟨#[]⟩ : ByteArray) ([] : List ByteArray).length (ps.map strV).length = true := by unfold fits; simp; rfl
    rw [h1]
    have h2 : okS (⟨#[]⟩ : ByteArray) = true := by decide +kernel
    rw [h2]
    simp [keysOk]
    omega
  · rw [dep, b]; simp
  · rw [V.sz, c]; omega
  · rw [vbyt, kb]; simp; omega
theorem split_val {s t : ByteArray} (ho : okS s = true) (hp : okS t = true) (h1 : s.size ≤ 60) : arrR ((splitL s t).map strV) = arrV ((splitL s t).map strV) ∧ arrE ((splitL s t).map strV) = 0 ∧ valid (arrV ((splitL s t).map strV)) = true := by
  have hx : ∀ x ∈ splitL s t, okS x = true ∧ x.size ≤ 60 := fun x hx => ⟨(splitL_ok ho hp x hx).1, Nat.le_trans (splitL_ok ho hp x hx).2 h1⟩
  have hl := splitL_len (s := s) (sep := t)
  have hv := arr_strs hx (by omega)
  have ha := arrR_ok (strs_all hx)
  rw [ha.1, ha.2, finV_ok hv, finE_ok hv]
  exact ⟨rfl, rfl, hv⟩
theorem join_val {s t : ByteArray} (ho : okS s = true) (hp : okS t = true) (h1 : s.size ≤ 60) : jnR (splitL s t) t = (strV s, 0) := by
  have hj : joinB (splitL s t) t = s := by rw [joinB_jn]; exact splitL_join s t (by unfold splitB?; simp [ho, hp])
  have hz : joinN (splitL s t) t = s.size := by rw [← joinB_size, hj]
  unfold jnR
  rw [if_neg (by omega), hj, (str_ok ho (by omega)).1, (str_ok ho (by omega)).2]
/-- The separator does not occur in a piece. -/
theorem ix_free {x t : ByteArray} {xs ys : List Nat} (hx : runes x.data.toList = some xs) (ht : runes t.data.toList = some ys) (hf : Free x.data.toList t.data.toList) (h0 : ys ≠ []) : ixR xs ys = (arrV [], 0) := by
  have ho : ∀ k, occ (xs.map Int.ofNat) (ys.map Int.ofNat) k = [] := by
    intro k
    unfold occ
    have : ((List.range k).filter fun a => ((xs.map Int.ofNat).drop a).take (ys.map Int.ofNat).length == (ys.map Int.ofNat).take (ys.map Int.ofNat).length) = [] := by
      rw [List.filter_eq_nil_iff]
      intro a _ hq
      have hq2 := eq_of_beq hq
      rw [List.take_length] at hq2
      refine free_runes hx ht hf a ?_
      have h3 := List.take_prefix (ys.map Int.ofNat).length ((xs.map Int.ofNat).drop a)
      rw [hq2] at h3
      rw [← List.map_drop] at h3
      obtain ⟨t3, ht3⟩ := h3
      have h4 := congrArg (List.map Int.toNat) ht3
      rw [List.map_append, List.map_map, List.map_map] at h4
      have e : (Int.toNat ∘ Int.ofNat) = id := by funext n; rfl
      rw [e, List.map_id, List.map_id] at h4
      exact ⟨_, h4⟩
    rw [this]
    rfl
  unfold ixR
  have hl : ¬ ys.length = 0 := fun h => h0 (List.eq_nil_of_length_eq_zero h)
  rw [if_neg hl, ho]
  have h1 : arrR [] = arrV [] := (arrR_ok rfl).1.trans (finV_ok (by decide +kernel))
  have h2 : arrE [] = 0 := (arrR_ok rfl).2.trans (finE_ok (by decide +kernel))
  rw [List.map_nil, h1, h2]
end Go.Proofs.YtjafmdngbphacaaGreatDoor

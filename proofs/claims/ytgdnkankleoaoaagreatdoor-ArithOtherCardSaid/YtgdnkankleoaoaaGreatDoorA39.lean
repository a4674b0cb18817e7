/- arith.merge: the walk. -/
import Derived.Test.YtgdnkankleoaoaaGreatDoorA38
import Derived.Deep.LoopGhost
import Derived.Deep.RegionHeld3
set_option linter.unusedVariables false
set_option linter.unusedSimpArgs false
namespace Go.Proofs.YtgdnkankleoaoaaGreatDoor
open Go.RowKit Go.Shelf Go.Sort
theorem liesL_fv2 {w : World} {S : Nat → Prop} {es : List V} {xs : List Value} (h : LiesL w S es xs) : ∃ zs : List Fv, xs = zs.flatMap Fv.cs ∧ zs.length = es.length ∧ ∀ (j : Nat) (p : V) (x : Fv), es[j]? = some p → zs[j]? = some x → Lies w S p x.cs := by
  obtain ⟨l, rfl, rfl, hl⟩ := liesL_fv es xs h
  refine ⟨l.map Prod.snd, rfl, by rw [List.length_map, List.length_map], fun j p x hp hx => ?_⟩
  rw [List.getElem?_map] at hp hx
  cases hj : l[j]? with
  | none => rw [hj] at hp; cases hp
  | some q =>
    rw [hj] at hp hx
    cases hp
    cases hx
    exact hl q (List.mem_of_getElem? hj)
theorem liesL_of2 {w : World} {S : Nat → Prop} {es : List V} {zs : List Fv} (hlen : zs.length = es.length) (h : ∀ (j : Nat) (p : V) (x : Fv), es[j]? = some p → zs[j]? = some x → Lies w S p x.cs) : LiesL w S es (zs.flatMap Fv.cs) := by
  have := liesL_of (w := w) (S := S) (es.zip zs) fun p hp => by
    obtain ⟨j, hj⟩ := List.getElem?_of_mem hp
    rw [List.getElem?_zip_eq_some] at hj
    exact h j p.1 p.2 hj.1 hj.2
  rw [List.map_fst_zip (by omega), List.map_snd_zip (by omega)] at this
  exact this
theorem idx_hit {ks : List ByteArray} {es : List V} {k : ByteArray} {e x : V} {p : Nat} (h : idxOf ks k = some p) (hx : es[p]? = some x) : hit ks es k e = if kd x = 6 ∧ kd e = 6 then some x else none := by
  unfold hit
  rw [h]
  simp only [hx]
theorem idx_miss {ks : List ByteArray} {es : List V} {k : ByteArray} {e : V} (h : idxOf ks k = none) : hit ks es k e = none := by
  unfold hit
  rw [h]
theorem lies_kd {w : World} {S : Nat → Prop} {v : V} {x : Fv} (h : Lies w S v x.cs) : x.k = kd v := by
  obtain ⟨k, n, s, ks, es⟩ := v
  obtain ⟨A, a, B, b, xs, hx, _⟩ := lies_open h
  simp only [Fv.cs, List.cons.injEq, Value.int.injEq] at hx
  exact hx.1.2
/-- What the inner merge hands back in the middle of its region. -/
def OpM (w0 : World) (z : Option Nat) (r : V) (er : Int) (e : Ending) (w' : World) : Prop :=
  ∃ (k n : Int) (s : ByteArray) (A : Option Addr) (la a : Nat) (C : Option Addr) (lc c : Nat), e = .returned (.tuple #[.agg #[.int .i64 k, .int .i64 n, .string s, .slice A la a, .slice C lc c], .int .i64 er]) ∧ Sb w0 w' z ∧
    Lies w' (fun b => (∀ g, z = some g → b ≠ g) ∧ w0.heap.size ≤ b ∧ b < w'.heap.size) r [.int .i64 k, .int .i64 n, .string s, .slice A la a, .slice C lc c]
theorem opM_of {w0 W : World} {z : Option Nat} {r : V} {er : Int} {f : FuncId} {args : Array Value} (h : Sb w0 W z) (hc : Calls Tryz.prog f args W (RetPost r er W)) : Calls Tryz.prog f args W (OpM w0 z r er) := by
  refine (ret_open hc).mono fun e w' hp => ?_
  obtain ⟨k, n, s, ks, es, A, a, C, c, hv, rfl, hb, hl⟩ := hp
  exact ⟨k, n, s, A, ks.length, a, C, es.length, c, rfl, Sb.call hb h, hl.move fun b hb => ⟨⟨fun g e => by have := (h.box g e).2.lt; omega, Nat.le_trans h.below.size hb.1, hb.2⟩, rfl⟩⟩
/-- .. and behind the region. -/
def GotM (w0 : World) (r : V) (er : Int) (t u : Value) (wx : World) : Prop :=
  Below w0.heap.size w0 wx ∧ u = .int .i64 er ∧ ∃ (g : Nat) (k n : Int) (s : ByteArray) (A : Option Addr) (la a : Nat) (C : Option Addr) (lc c : Nat), t = .pointer (some ⟨g, 0, none⟩) ∧ Box wx g 25 #[.int .i64 k, .int .i64 n, .string s, .slice A la a, .slice C lc c] ∧
    Lies wx (fun b => w0.heap.size ≤ b ∧ b < wx.heap.size) r [.int .i64 k, .int .i64 n, .string s, .slice A la a, .slice C lc c]
theorem gotM_last {w0 w3 : World} {r : V} {er k n : Int} {s : ByteArray} {A C : Option Addr} {la a lc c : Nat} {z : Option Nat} (hs : Sb w0 w3 z)
    (hl : Lies w3 (fun b => (∀ g, z = some g → b ≠ g) ∧ w0.heap.size ≤ b ∧ b < w3.heap.size) r [.int .i64 k, .int .i64 n, .string s, .slice A la a, .slice C lc c]) :
    GotM w0 r er (.pointer (some ⟨w3.heap.size, 0, none⟩)) (.int .i64 er) (w3.alloc (.cells #[.int .i64 k, .int .i64 n, .string s, .slice A la a, .slice C lc c] 25)) :=
  ⟨chain hs.below (below1 _ _), rfl, _, k, n, s, A, la, a, C, lc, c, rfl, Box.laid _ _ _, hl.move fun b hb => ⟨⟨hb.2.1, Nat.lt_of_lt_of_le hb.2.2 (below1 _ _).size⟩, (below1 w3 _).block b hb.2.2⟩⟩
theorem gotM_fill {w0 w3 : World} {r : V} {er k n : Int} {s : ByteArray} {A C : Option Addr} {la a lc c g : Nat} (hs : Sb w0 w3 (some g))
    (hl : Lies w3 (fun b => (∀ g', some g = some g' → b ≠ g') ∧ w0.heap.size ≤ b ∧ b < w3.heap.size) r [.int .i64 k, .int .i64 n, .string s, .slice A la a, .slice C lc c]) :
    GotM w0 r er (.pointer (some ⟨g, 0, none⟩)) (.int .i64 er) (((((w3.setCell ⟨g, 0, none⟩ (.int .i64 k)).setCell ⟨g, 1, none⟩ (.int .i64 n)).setCell ⟨g, 2, none⟩ (.string s)).setCell ⟨g, 3, none⟩ (.slice A la a)).setCell ⟨g, 4, none⟩ (.slice C lc c)) := by
  have hx := (hs.box g rfl).2
  have hz := (hs.box g rfl).1
  refine ⟨below_five_m hz hs.below _ _ _ _ _, rfl, g, k, n, s, A, la, a, C, lc, c, rfl, ((((hx.put 0 _).put 1 _).put 2 _).put 3 _).put 4 _, ?_⟩
  refine hl.move fun b hb => ⟨⟨hb.2.1, by simp [World.setCell]; exact hb.2.2⟩, ?_⟩
  have hne : b ≠ g := hb.1 g rfl
  rw [Below.heap_setCell _ _ _ _ hne, Below.heap_setCell _ _ _ _ hne, Below.heap_setCell _ _ _ _ hne, Below.heap_setCell _ _ _ _ hne, Below.heap_setCell _ _ _ _ hne]
set_option maxHeartbeats 4000000 in
set_option maxRecDepth 100000 in
theorem merge_any : ∀ u : V, MergeOk u := by
  refine V.ind fun k2 n2 s2 ks2 es2 ih v cs ds w h h' hv hu kv6 ku6 => ?_
  obtain ⟨k, n, s, ks, es⟩ := v
  obtain rfl : k = 6 := kv6
  obtain rfl : k2 = 6 := ku6
  have h0 := h
  rw [Lies] at h0
  obtain ⟨⟨b1, b2, b3, b4⟩, A, a, B, b, xs, rfl, hA0, hB0, ⟨ha1, ha2⟩, ⟨hb1, hb2⟩, hA, hB, hL⟩ := h0
  have h1 := h'
  rw [Lies] at h1
  obtain ⟨⟨d1, d2, d3, d4⟩, A2, a2, B2, b2', ys, rfl, hA20, hB20, ⟨hc1, hc2⟩, ⟨hd1, hd2⟩, hA2, hB2, hL2⟩ := h1
  have hlen : ks.length = es.length := (valid_keys hv).2.1 rfl
  have hlen2 : ks2.length = es2.length := (valid_keys hu).2.1 rfl
  have hz1 := (valid_keys hv).2.2
  have hz2 := (valid_keys hu).2.2
  have hasc := (valid_keys hv).1
  have hel := valid_elems hv
  have hel2 := valid_elems hu
  obtain ⟨z1, rfl, hz1l, hl1⟩ := liesL_fv2 hL
  obtain ⟨z2, rfl, hz2l, hl2⟩ := liesL_fv2 hL2
  have hU := Lib.hid (fun (wr : World) (C : Option Addr) (cap : Nat) (l : List V) (zs : List Fv) => mg_union hv hu (n := n) (n2 := n2) (s := s) (s2 := s2) (C := C) (cap := cap) (wr := wr) (l := l) (zs := zs) hA hA0 hA2 hA20 hB hB0 hL)
  have HRES := Lib.hid (mrg_eq 6 n s ks es 6 n2 s2 ks2 es2)
  generalize mrg (V.mk 6 n s ks es) (V.mk 6 n2 s2 ks2 es2) = R at hU HRES ⊢
  have hCl := Lib.hid (fun W (hW : Below w.heap.size w W) => sclone_any B2 es2.length b2' z2 W (hB2.move fun x hx => ⟨Nat.lt_of_lt_of_le hx hW.size, hW.block x hx⟩) hz2l hB20 (by omega))
  have hSe := Lib.hid (fun (key : ByteArray) W (hW : Below w.heap.size w W) => search_any A a ks key (· < w.heap.size) W (hA.move fun x hx => ⟨hx, hW.block x hx⟩) (by omega) hasc)
  have HL1 := Lib.hid hl1
  have HL2 := Lib.hid hl2
  have HB := Lib.hid (rs_row hB)
  have HA2 := Lib.hid hA2
  have HZ1 := Lib.hid hz1l
  have HZ2 := Lib.hid hz2l
  have HLEN := Lib.hid hlen
  have HLEN2 := Lib.hid hlen2
  have HVX := Lib.hid (fun (x : V) (hx : x ∈ es) => List.all_eq_true.1 hel x hx)
  have HVE := Lib.hid hel2
  have HIH := Lib.hid ih
  have H0 := Lib.hid (B3.start w #[.int .i64 6, .int .i64 n, .string s, .slice A ks.length a, .slice B es.length b] #[.int .i64 6, .int .i64 n2, .string s2, .slice A2 ks2.length a2, .slice B2 es2.length b2'])
  have hn2 : es2.length ≤ 1024 := hz2.2
  clear hA hA0 hA2 hA20 hB hB0 hL hB2 hL2 hl1 hl2 hz1l hz2l hlen hlen2 hz1 hz2 hasc hel hel2 ih h h' hv hu b1 b2 b3 b4 d1 d2 d3 d4 ha1 ha2 hb1 hb2 hc1 hc2 hd1 hd2
  go_enter Tryz.func120, Tryz.ntmps120
  go_wp2_with fail
  refine (hCl.out _ H0.out.below).mono ?_
  rintro e1 w1 ⟨v4, rfl, ho, hbb⟩
  obtain ⟨C, cap, rfl⟩ := own_sl ho
  have H1 := Lib.hid (H0.out.next hbb)
  have HO := Lib.hid (ownsRow_baseV ho H0.out.below.size)
  have HLI := Lib.hid (fun (j : Nat) (p : V) (x : Fv) (hp : es2[j]? = some p) (hx : z2[j]? = some x) => (HL2.out j p x hp hx).move (S' := fun b => b < w.heap.size) (w' := w1) fun b hb => ⟨hb, H1.out.below.block b hb⟩)
  by_cases hn0 : es2.length = 0
  · have hk0 : ks2.length = 0 := by rw [HLEN2.out]; exact hn0
    have h00 : MgP ks es ks2 es2 es2.length es2 := by rw [hn0]; exact MgP.start HVE.out
    have hu1 := hU.out w1 C cap es2 z2 H1.out.below HO.out rfl HVE.out (liesL_of2 HZ2.out fun j p x hp hx => (HLI.out j p x hp hx).move fun b hb => ⟨Nat.lt_of_lt_of_le hb H1.out.below.size, rfl⟩) h00.fin
    have HC := Lib.hid (ret_open hu1)
    have hikl : ¬ ((0 : Int) < (ks2.length : Int)) := by omega
    have HB3 := Lib.hid H1.out
    obtain ⟨t0, t1, t2, t3, t4⟩ := box5 H1.out.x
    obtain ⟨u0, u1, u2, u3, u4⟩ := box5 H1.out.y
    have HK0 := Lib.hid hk0
    clear hu1 h00 ho hbb HO H1 HLI hCl H0 hn0 hk0
    go_wp2_with fail
    go_loopg [19] 1 (fun gg s19 wr => s19 = .int .i64 0 ∧ wr = w1)
    case atStart => exact ⟨rfl, rfl⟩
    case round =>
      obtain ⟨rfl, rfl⟩ := hrel
      go_wp2_with fail
      refine HC.out.mono ?_
      rintro e2 w2 ⟨rk, rn, rs, rks, res, RA, ra, RC, rc, hrv, rfl, hb2, hl2⟩
      have H2 := Lib.hid (HB3.out.next hb2)
      have HL := Lib.hid hl2
      have hs2 := HB3.out.r.lt
      have hs3 := HB3.out.below.size
      clear hb2 hl2 hrv t0 t1 t2 t3 t4 u0 u1 u2 u3 u4
      obtain ⟨t0, t1, t2, t3, t4⟩ := box5 H2.out.r
      have z0 := H2.out.r.free 0
      have z1 := H2.out.r.free 1
      have z2 := H2.out.r.free 2
      have z3 := H2.out.r.free 3
      have z4 := H2.out.r.free 4
      go_wp2_with fail
      refine bodyPost_ret (v := .tuple #[.agg #[.int .i64 rk, .int .i64 rn, .string rs, .slice RA rks.length ra, .slice RC res.length rc], .int .i64 R.2]) (by simp [results, Tryz.results120, go_sem, t0, t1, t2, t3, t4]) rfl ?_
      exact ret_put H2.out.below (by omega) H2.out.r.lt (HL.out.move fun b hb => ⟨⟨by omega, hb.2, by omega⟩, rfl⟩)
  · obtain ⟨g, rfl, hfar⟩ : ∃ g, C = some ⟨g, 0, none⟩ ∧ w.heap.size + 3 ≤ g := by
      rcases ho.2 with ⟨hx, hz⟩ | ⟨g, cap', cur, hx, hbg, _⟩
      · exact absurd hz hn0
      · cases hx
        refine ⟨g, rfl, ?_⟩
        simp at hbg
        omega
    have HS : Hid (MgSt g es2.length cap ks es ks2 es2 _ _ w w1 0 es2 z2) := Lib.hid ⟨MgP.start HVE.out, HO.out, HZ2.out, rfl, fun j p x hp hx => (HLI.out j p x hp hx).move fun b hb => ⟨⟨Nat.lt_of_lt_of_le hb H1.out.below.size, by omega⟩, rfl⟩, H1.out, hfar⟩
    clear ho hbb HO H1 HLI hCl H0
    obtain ⟨t0, t1, t2, t3, t4⟩ := box5 HS.out.b3.y
    go_wp2_with fail
    go_loopg [19] es2.length (fun gg s19 wr => ∃ (i : Nat) (l : List V) (ys : List Fv), s19 = .int .i64 i ∧ i ≤ es2.length ∧ es2.length - i ≤ gg ∧ Hid (MgSt g es2.length cap ks es ks2 es2 #[.int .i64 6, .int .i64 n, .string s, .slice A ks.length a, .slice B es.length b] #[.int .i64 6, .int .i64 n2, .string s2, .slice A2 ks2.length a2, .slice B2 es2.length b2'] w wr i l ys))
    case atStart => exact ⟨0, es2, z2, rfl, Nat.zero_le _, by omega, HS⟩
    case round =>
      clear HS t0 t1 t2 t3 t4
      obtain ⟨i, l, ys, rfl, hin, hg, HS⟩ := hrel
      by_cases hlt : i < es2.length
      · obtain ⟨e, he⟩ : ∃ e, es2[i]? = some e := ⟨_, List.getElem?_eq_getElem hlt⟩
        obtain ⟨key, hk⟩ : ∃ k, ks2[i]? = some k := ⟨_, List.getElem?_eq_getElem (by rw [HLEN2.out]; exact hlt)⟩
        obtain ⟨⟨ek, en, es', eA, ela, ea, eC, elc, ec⟩, hye⟩ : ∃ x, ys[i]? = some x := ⟨_, List.getElem?_eq_getElem (by rw [HS.out.ylen]; exact hlt)⟩
        have hek : ek = kd e := lies_kd (HS.out.lies i e _ (HS.out.plain.elem he) hye)
        have HE := Lib.hid he
        have HK := Lib.hid hk
        have HY := Lib.hid hye
        obtain ⟨bK, oK, rfl, hbK, hcK⟩ := HA2.out.at_ (kv_at hk)
        have hck := (HS.out.b3.below.cell (p := ⟨bK, oK + i, none⟩) hbK).trans hcK
        obtain ⟨t0, t1, t2, t3, t4⟩ := box5 HS.out.b3.x
        obtain ⟨u0, u1, u2, u3, u4⟩ := box5 HS.out.b3.y
        have hi0 : (0 : Int) ≤ (i : Int) := by omega
        have hil : (i : Int) < (es2.length : Int) := by omega
        have hikl : (i : Int) < (ks2.length : Int) := by rw [HLEN2.out]; exact hil
        have hSk := hSe.out key _ HS.out.b3.below
        have HBL : Hid (∀ (q : Nat) (X : World), X = wr.drewN q → Below wr.heap.size wr X) := Lib.hid fun q X hX => by
          have hr := Go.RowKit.Below.refl wr.heap.size wr
          rw [hX]
          exact ⟨hr.os, hr.tape, hr.output, hr.size, hr.block⟩
        obtain ⟨ox, hox⟩ : ∃ o, idxOf ks key = o := ⟨_, rfl⟩
        rw [hox] at hSk
        clear he hk hye hbK hcK
        cases ox with
        | none =>
          have HSK := Lib.hid hSk
          have HOX := Lib.hid hox
          clear hSk hox
          go_wp2_with fail
          refine HSK.out.mono ?_
          rintro e3 w3 ⟨⟨p, rfl, -⟩, q, hw3⟩
          have HS3 := Lib.hid (HS.out.next (HBL.out q w3 hw3))
          clear HS HBL hw3 t0 t1 t2 t3 t4 u0 u1 u2 u3 u4 hck HSK
          obtain ⟨t0, t1, t2, t3, t4⟩ := box5 HS3.out.b3.x
          go_wp2_with fail
          go_roundg (es2.length - (i + 1))
          case measure => omega
          case rel => exact ⟨i + 1, l, ys, by first | rfl | go_num, by omega, Nat.le_refl _, Lib.hid (HS3.out.skip HK.out HE.out (idx_miss HOX.out))⟩
        | some p0 =>
          have hp0 : p0 < es.length := by have := (List.getElem?_eq_some_iff.1 (idxOf_some hox).1).1; rw [HLEN.out] at this; exact this
          obtain ⟨x, hx⟩ : ∃ x, es[p0]? = some x := ⟨_, List.getElem?_eq_getElem hp0⟩
          obtain ⟨⟨xk, xn, xs', xA, xla, xa, xC, xlc, xc⟩, hzx⟩ : ∃ x, z1[p0]? = some x := ⟨_, List.getElem?_eq_getElem (by rw [HZ1.out]; exact hp0)⟩
          have HLX := Lib.hid (HL1.out p0 x _ hx hzx)
          have hxk : xk = kd x := lies_kd HLX.out
          obtain ⟨bB, oB, rfl, hbB, hfB⟩ := HB.out p0 _ hzx
          have HIT := Lib.hid (idx_hit (e := e) hox hx)
          have HX := Lib.hid hx
          have HSK := Lib.hid hSk
          have HFB := Lib.hid hfB
          have hpi0 : (0 : Int) ≤ (p0 : Int) := by omega
          have hpil : (p0 : Int) < (es.length : Int) := by omega
          clear hSk hox hx hzx hfB
          go_wp2_with fail
          refine HSK.out.mono ?_
          rintro e3 w3 ⟨⟨p, rfl, hp⟩, q, hw3⟩
          obtain rfl : p = p0 := hp p0 rfl
          have HS3 := Lib.hid (HS.out.next (HBL.out q w3 hw3))
          clear HS HBL hw3 t0 t1 t2 t3 t4 u0 u1 u2 u3 u4 hck HSK hp
          obtain ⟨t0, t1, t2, t3, t4⟩ := box5 HS3.out.b3.x
          obtain ⟨f0, f1, f2, f3, f4⟩ := HFB.out.below HS3.out.b3.below hbB
          obtain ⟨r0, r1, r2, r3, r4⟩ := HS3.out.five HY.out
          simp only at f0 f1 f2 f3 f4 r0 r1 r2 r3 r4
          by_cases hx6 : kd x = 6
          · by_cases he6 : kd e = 6
            · obtain rfl : xk = 6 := hxk.trans hx6
              obtain rfl : ek = 6 := hek.trans he6
              have hh : hit ks es key e = some x := by rw [HIT.out, if_pos ⟨hx6, he6⟩]
              have HH := Lib.hid hh
              clear hh hxk hek
              have hve : valid e = true := by have := HVE.out; rw [List.all_eq_true] at this; exact this e (List.mem_of_getElem? HE.out)
              have hvx : valid x = true := HVX.out x (List.mem_of_getElem? HX.out)
              obtain ⟨rV, er, hrv⟩ : ∃ a b, mrg x e = (a, b) := ⟨_, _, rfl⟩
              have HRV := Lib.hid hrv
              have hbB3 : bB < w3.heap.size := Nat.lt_of_lt_of_le hbB HS3.out.b3.below.size
              have keepS : Hid (∀ X, Below w3.heap.size w3 X → (fun w' => w'.cell? ⟨bB, oB + p * 5, none⟩ = some (.int .i64 6) ∧ w'.cell? ⟨bB, oB + p * 5 + 1, none⟩ = some (.int .i64 xn) ∧ w'.cell? ⟨bB, oB + p * 5 + 2, none⟩ = some (.string xs') ∧ w'.cell? ⟨bB, oB + p * 5 + 3, none⟩ = some (.slice xA xla xa) ∧ w'.cell? ⟨bB, oB + p * 5 + 4, none⟩ = some (.slice xC xlc xc) ∧ w'.cell? ⟨g, i * 5, none⟩ = some (.int .i64 6) ∧ w'.cell? ⟨g, i * 5 + 1, none⟩ = some (.int .i64 en) ∧ w'.cell? ⟨g, i * 5 + 2, none⟩ = some (.string es') ∧ w'.cell? ⟨g, i * 5 + 3, none⟩ = some (.slice eA ela ea) ∧ w'.cell? ⟨g, i * 5 + 4, none⟩ = some (.slice eC elc ec) ∧ w'.cell? ⟨w.heap.size, 4, none⟩ = some (.slice (some ⟨bB, oB, none⟩) es.length b)) X) := Lib.hid fun X hX => by
                obtain ⟨f0, f1, f2, f3, f4⟩ := (HFB.out.below HS3.out.b3.below hbB).below hX hbB3
                obtain ⟨r0, r1, r2, r3, r4⟩ := (HS3.out.next hX).five HY.out
                obtain ⟨_, _, _, _, t4⟩ := box5 (HS3.out.b3.x.below hX HS3.out.b3.x.lt)
                exact ⟨f0, f1, f2, f3, f4, r0, r1, r2, r3, r4, t4⟩
              have HBIN : Hid (∀ z W, Sb w3 W z → Calls Tryz.prog 120 #[.agg #[.int .i64 6, .int .i64 xn, .string xs', .slice xA xla xa, .slice xC xlc xc], .agg #[.int .i64 6, .int .i64 en, .string es', .slice eA ela ea, .slice eC elc ec]] W (OpM w3 z rV er)) := Lib.hid fun z W hS => opM_of hS (by
                have hw : Below w.heap.size w W := HS3.out.b3.below.trans (hS.below.mono HS3.out.b3.below.size)
                have q0 := HIH.out e (List.mem_of_getElem? HE.out) x [.int .i64 6, .int .i64 xn, .string xs', .slice xA xla xa, .slice xC xlc xc] [.int .i64 6, .int .i64 en, .string es', .slice eA ela ea, .slice eC elc ec] W (HLX.out.move fun b hb => ⟨Nat.lt_of_lt_of_le hb hw.size, hw.block b hb⟩) ((HS3.out.lies i e _ (HS3.out.plain.elem HE.out) HY.out).move fun b hb => ⟨Nat.lt_of_lt_of_le hb.1 hS.below.size, hS.below.block b hb.1⟩) hvx hve hx6 he6
                rw [HRV.out] at q0
                exact q0)
              clear t0 t1 t2 t3 t4 f0 f1 f2 f3 f4 r0 r1 r2 r3 r4 hrv
              obtain ⟨f0, f1, f2, f3, f4, r0, r1, r2, r3, r4, t4⟩ := keepS.out _ (Below.refl _ _)
              go_upto_region 7 with fail
              go_cut [11, 12] (fun tr te wx => GotM w3 rV er tr te wx)
              case first =>
                rename_i Jm Km hRJ hMet
                have st0 := Sb.start w3
                go_region_held3 (fun w' => w'.cell? ⟨bB, oB + p * 5, none⟩ = some (.int .i64 6) ∧ w'.cell? ⟨bB, oB + p * 5 + 1, none⟩ = some (.int .i64 xn) ∧ w'.cell? ⟨bB, oB + p * 5 + 2, none⟩ = some (.string xs') ∧ w'.cell? ⟨bB, oB + p * 5 + 3, none⟩ = some (.slice xA xla xa) ∧ w'.cell? ⟨bB, oB + p * 5 + 4, none⟩ = some (.slice xC xlc xc) ∧ w'.cell? ⟨g, i * 5, none⟩ = some (.int .i64 6) ∧ w'.cell? ⟨g, i * 5 + 1, none⟩ = some (.int .i64 en) ∧ w'.cell? ⟨g, i * 5 + 2, none⟩ = some (.string es') ∧ w'.cell? ⟨g, i * 5 + 3, none⟩ = some (.slice eA ela ea) ∧ w'.cell? ⟨g, i * 5 + 4, none⟩ = some (.slice eC elc ec) ∧ w'.cell? ⟨w.heap.size, 4, none⟩ = some (.slice (some ⟨bB, oB, none⟩) es.length b))
                  (first
                    | with_reducible exact keepS.out _ (Sb.drew st0).below
                    | with_reducible exact keepS.out _ (Sb.drew (Sb.zbox st0)).below
                    | with_reducible exact keepS.out _ st6.below
                    | (refine keepS.out _ ?_; with_reducible exact below_five_m hp6 st6.below _ _ _ _ _)
                    | with_reducible exact keepS.out _ (chain st6.below (below1 _ _)))
                  (first
                    | (go_at_call 120; (with_reducible refine (HBIN.out none _ (Sb.drew st0)).mono ?_); rintro e6 w6 ⟨k6, n6, s6, A6, la6, a6, C6, lc6, c6, rfl, st6, hl6⟩)
                    | (go_at_call 120; (with_reducible refine (HBIN.out _ _ (Sb.drew (Sb.zbox st0))).mono ?_); rintro e6 w6 ⟨k6, n6, s6, A6, la6, a6, C6, lc6, c6, rfl, st6, hl6⟩; (obtain ⟨hp6, zz⟩ := st6.box _ rfl; obtain ⟨y0, y1, y2, y3, y4⟩ := box5 zz; have z0 := zz.free 0; have z1 := zz.free 1; have z2 := zz.free 2; have z3 := zz.free 3; have z4 := zz.free 4)))
                all_goals
                  refine hMet _ _ (Met.intro (hRJ _ _ ?_))
                  (repeat apply Exists.intro)
                  refine ⟨?_, rfl⟩
                  first
                    | exact gotM_fill st6 hl6
                    | exact gotM_last st6 hl6
              case rest =>
                obtain ⟨hbx, rfl, gq, k7, n7, s7, A7, la7, a7, C7, lc7, c7, rfl, hbx7, hl7⟩ := hcut
                have HS4 := Lib.hid (HS3.out.next hbx)
                have HL7 := Lib.hid hl7
                have hglt := HS3.out.glt
                obtain ⟨t0, t1, t2, t3, t4⟩ := box5 hbx7
                clear f0 f1 f2 f3 f4 r0 r1 r2 r3 r4 keepS HBIN HS3 hbx hl7
                by_cases h0 : er = 0
                · subst h0
                  obtain ⟨r0, r1, r2, r3, r4⟩ := HS4.out.five HY.out
                  simp only at r0 r1 r2 r3 r4
                  have z0 := HS4.out.free (i * 5)
                  have z1 := HS4.out.free (i * 5 + 1)
                  have z2 := HS4.out.free (i * 5 + 2)
                  have z3 := HS4.out.free (i * 5 + 3)
                  have z4 := HS4.out.free (i * 5 + 4)
                  have HD3 := HS4.out.put HK.out HE.out HH.out (by rw [HRV.out]) ⟨k7, n7, s7, A7, la7, a7, C7, lc7, c7⟩ (by rw [HRV.out]; exact HL7.out.move fun b hb => ⟨⟨hb.2, by omega⟩, rfl⟩)
                  dsimp only at HD3
                  go_wp2_with fail
                  generalize (((((wc.setCell ⟨g, i * 5, none⟩ (.int .i64 k7)).setCell ⟨g, i * 5 + 1, none⟩ (.int .i64 n7)).setCell ⟨g, i * 5 + 2, none⟩ (.string s7)).setCell ⟨g, i * 5 + 3, none⟩ (.slice A7 la7 a7)).setCell ⟨g, i * 5 + 4, none⟩ (.slice C7 lc7 c7)) = W9 at HD3 ⊢
                  have HD4 := Lib.hid HD3
                  clear HD3 HS4 r0 r1 r2 r3 r4 z0 z1 z2 z3 z4 t0 t1 t2 t3 t4 hbx7
                  go_roundg (es2.length - (i + 1))
                  case measure => omega
                  case rel => exact ⟨i + 1, _, _, by first | rfl | go_num, by omega, Nat.le_refl _, HD4⟩
                · have q2 : (er == 0) = false := by simpa using h0
                  have HR : Hid (R = (vnull, er)) := Lib.hid (by
                    rw [HRES.out]
                    have hq := HS4.out.plain.err HK.out HE.out HH.out (by rw [HRV.out]; exact h0)
                    rw [hq, HRV.out, if_neg h0])
                  obtain ⟨y0, y1, y2, y3, y4⟩ := box5 HS4.out.b3.r
                  have z0 := HS4.out.b3.r.free 0
                  have z1 := HS4.out.b3.r.free 1
                  have z2 := HS4.out.b3.r.free 2
                  have z3 := HS4.out.b3.r.free 3
                  have z4 := HS4.out.b3.r.free 4
                  go_wp2_with fail
                  (try simp only [Exit.inBlock, Exit.then])
                  refine bodyPost_ret (v := .tuple #[.agg #[.int .i64 0, .int .i64 0, .string ⟨#[]⟩, .slice none 0 0, .slice none 0 0], .int .i64 er]) (by simp [results, Tryz.results120, go_sem, y0, y1, y2, y3, y4]) rfl ?_
                  rw [HR.out]
                  exact ret_put HS4.out.b3.below (by omega) HS4.out.b3.r.lt (lies_null _ _)
            · have q1 : ¬ (ek = 6) := by rw [hek]; exact he6
              have q2 : (ek == 6) = false := by simpa using q1
              obtain rfl : xk = 6 := hxk.trans hx6
              clear hxk hek
              go_wp2_with fail
              go_roundg (es2.length - (i + 1))
              case measure => omega
              case rel => exact ⟨i + 1, l, ys, by first | rfl | go_num, by omega, Nat.le_refl _, Lib.hid (HS3.out.skip HK.out HE.out (by rw [HIT.out, if_neg (fun hh => he6 hh.2)]))⟩
          · have q1 : ¬ (xk = 6) := by rw [hxk]; exact hx6
            have q2 : (xk == 6) = false := by simpa using q1
            clear hxk hek
            go_wp2_with fail
            go_roundg (es2.length - (i + 1))
            case measure => omega
            case rel => exact ⟨i + 1, l, ys, by first | rfl | go_num, by omega, Nat.le_refl _, Lib.hid (HS3.out.skip HK.out HE.out (by rw [HIT.out, if_neg (fun hh => hx6 hh.1)]))⟩
      · have hie : i = es2.length := by omega
        subst hie
        have hu1 := hU.out wr _ cap l ys HS.out.b3.below HS.out.own HS.out.plain.len HS.out.plain.ok (liesL_of2 (by rw [HS.out.ylen, HS.out.llen]) fun j p x hp hx => (HS.out.lies j p x hp hx).move fun b hb => ⟨hb.1, rfl⟩) HS.out.plain.fin
        have HC := Lib.hid (ret_open hu1)
        have hikl : ¬ ((es2.length : Int) < (ks2.length : Int)) := by rw [HLEN2.out]; omega
        have HB3 := Lib.hid HS.out.b3
        obtain ⟨t0, t1, t2, t3, t4⟩ := box5 HS.out.b3.x
        obtain ⟨u0, u1, u2, u3, u4⟩ := box5 HS.out.b3.y
        clear hu1 HS
        go_wp2_with fail
        refine HC.out.mono ?_
        rintro e2 w2 ⟨rk, rn, rs, rks, res, RA, ra, RC, rc, hrv, rfl, hb2, hl2⟩
        have H2 := Lib.hid (HB3.out.next hb2)
        have HL := Lib.hid hl2
        have hs2 := HB3.out.r.lt
        have hs3 := HB3.out.below.size
        clear hb2 hl2 hrv t0 t1 t2 t3 t4 u0 u1 u2 u3 u4
        obtain ⟨t0, t1, t2, t3, t4⟩ := box5 H2.out.r
        have z0 := H2.out.r.free 0
        have z1 := H2.out.r.free 1
        have z2 := H2.out.r.free 2
        have z3 := H2.out.r.free 3
        have z4 := H2.out.r.free 4
        go_wp2_with fail
        refine bodyPost_ret (v := .tuple #[.agg #[.int .i64 rk, .int .i64 rn, .string rs, .slice RA rks.length ra, .slice RC res.length rc], .int .i64 R.2]) (by simp [results, Tryz.results120, go_sem, t0, t1, t2, t3, t4]) rfl ?_
        exact ret_put H2.out.below (by omega) H2.out.r.lt (HL.out.move fun b hb => ⟨⟨by omega, hb.2, by omega⟩, rfl⟩)
end Go.Proofs.YtgdnkankleoaoaaGreatDoor

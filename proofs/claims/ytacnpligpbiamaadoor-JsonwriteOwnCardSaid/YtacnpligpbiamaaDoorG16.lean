/- slices.Grow and slices.Concat of bytes; jsonwrite.Append. []byte(s). -/
import Derived.Test.YtacnpligpbiamaaDoorG14
import Derived.Lib.AppendZerosOnto
import Derived.WalkSpells
import Derived.WalkLawsBesides
import Derived.Outline
import Derived.Test.YtacnpligpbiamaaDoorG5
import Derived.Test.YtacnpligpbiamaaDoorG2
import Derived.Lib.ConvBytes
set_option linter.unusedVariables false
set_option linter.unusedSimpArgs false
namespace Go.Proofs.YtacnpligpbiamaaDoor
open Go.RowKit
def GrowB (w : World) (e : Ending) (w' : World) : Prop := Below w.heap.size w w' ∧ ∃ A c, e = .returned (.slice A 0 c) ∧ w'.ownsRow w.heap.size 5 1 (.slice A 0 c) 0 (bv [])
set_option maxHeartbeats 2000000 in
set_option maxRecDepth 100000 in
theorem growB_nil (n : Nat) (w : World) (hn : n ≤ 1073741824) : Calls Tryd.prog 58 #[.slice none 0 0, .int .i64 n] w (GrowB w) := by
  obtain ⟨i0, hi, hz0, hz1, hz2⟩ := info_parts inf_u8
  by_cases hz : n = 0
  · subst hz
    go_enter Tryd.func58, Tryd.ntmps58
    go_wp2_with fail
    go_ret
    exact ⟨Below.refl _ _, none, 0, rfl, World.ownsRow_nil _ _ _ _⟩
  · have hz' : 0 < n := by omega
    have hold : (Builtin.firstCells i0.size 0 (.slice none 0 0)).run Tryd.prog w.drew = .ok ([] : List Value).toArray w.drew := run_firstCells_none w.drew i0.size 0 0 0
    have hrz : ∀ ty, (Builtin.append_ #[39, 3] ty #[.slice none 0 0, .int .i64 (n : Int)]).run Tryd.prog w =
        .ok (.slice (some ⟨w.heap.size, 0, none⟩) (0 + n) (grownCap w (0 + n) 0 5)) (w.drew.alloc (.cells (([] : List Value).toArray ++ Builtin.zeroCells (Value.int .u8 0).cells n ++ Builtin.zeroCells (Value.int .u8 0).cells (grownCap w (0 + n) 0 5 - (0 + n))) 5)) := fun ty => by
      exact Lib.run_append_grow_zeros w 39 3 ty 5 i0 (.int .u8 0) .i64 .i64 Tryd.underlying39 Tryd.underlying3 hi hz0 none 0 0 ([] : List Value) hold n hz' (by rw [hz1]; omega) (by omega) (by omega)
        (by rw [hz2]; omega) (growslice_fits (by omega) (by rw [hz2]; omega))
    have hGn : 0 + n ≤ grownCap w (0 + n) 0 5 := grownCap_ge w _ _ _
    have hG63 : grownCap w (0 + n) 0 5 ≤ maxLen := grownCap_le_maxLen w (0 + n) 0 5 (by unfold maxLen; omega)
    generalize hG : grownCap w (0 + n) 0 5 = G at hrz hGn hG63
    have hG63' : G ≤ 9223372036854775807 := by unfold maxLen at hG63; omega
    have HM := Lib.hid hG63
    clear hold hG hG63
    obtain ⟨C, hC⟩ : ∃ C : Array Value, C = ([] : List Value).toArray ++ Builtin.zeroCells (Value.int .u8 0).cells n ++ Builtin.zeroCells (Value.int .u8 0).cells (G - (0 + n)) := ⟨_, rfl⟩
    have hsz : Hid (C.size = G * 1) := Lib.hid (by
      rw [hC, Array.size_append, Array.size_append, size_zeroCells, size_zeroCells, show (Value.int .u8 0).cells.size = 1 from rfl]
      simp
      omega)
    rw [← hC] at hrz
    have HRZ := Lib.hid hrz
    clear hrz hC
    go_enter Tryd.func58, Tryd.ntmps58
    go_wp2_with (at_builtin; refine Lib.wpList_append_run _ rfl _ _ _ _ rfl _ _ rfl rfl _ _ (HRZ.out _) ?_)
    go_ret
    refine ⟨((Below.refl _ _).drew).alloc (Nat.le_refl _) _, _, _, rfl, ?_⟩
    exact World.ownsRow_made (base := w.heap.size) (e := 5) (size := 1) w.drew C G (Nat.le_refl _) HM.out hsz.out
theorem own_nilB {w : World} {base n m c : Nat} {e : TypeId} {xs : List Value} {A : Option Addr} (h : w.ownsRow base e 1 (.slice A m c) n xs) : A = none → c = 0 := by
  intro hA
  rcases h.2 with ⟨h1, -⟩ | ⟨g, cap, cur, h1, -⟩
  · injection h1
  · injection h1 with h1
    rw [hA] at h1
    cases h1
theorem own_rdB {w : World} {base n m c : Nat} {e : TypeId} {A : Option Addr} {xs : List Value} (h : w.ownsRow base e 1 (.slice A m c) n xs) : Rd w w.heap.size A xs := by
  obtain ⟨A1, c1, h1, -, h2⟩ := own_slice h
  injection h1 with h1
  subst h1
  exact h2
/-- append(v, x...), x any slice of bytes that reads as a list, at the operation. -/
theorem wpList_app_rd {P : Program} (w : World) {ops : Array Oper} {rest : List Oper} {o : Oper} {a : Act} {Q : Exit → Act → World → Prop} (hgd : o.guard = none) (s x : Operand) (t : TypeId)
    (ho : o.op = .call { callee := .builtin .append, args := #[s, x], argTypes := #[t, t] })
    (base : Nat) (e : TypeId) (i : TypeInfo) (z : Value) (ht : P.underlying t = some (.slice e)) (hi : P.info? e = some i) (hz : i.zero = some z)
    (hsize : i.size = 1) (hby : i.bytes = 1) (hzs : z.cells.size = 1)
    (v : Value) (n : Nat) (out : List UInt8) (hs : a.eval s = v) (hown : w.ownsRow base e 1 v n (bv out))
    (B : Nat) (A : Option Addr) (k c : Nat) (l : List UInt8) (hx : a.eval x = .slice A k c) (hk : l.length = k) (hr : Rd w B A (bv l)) (hnil : A = none → c = 0) (hlim : n + k ≤ 1073741824) (hbase : base ≤ w.heap.size)
    (h : ∀ A' c' w', w'.ownsRow base e 1 (.slice A' (n + k) c') (n + k) (bv (out ++ l)) → w.grownBy w' v.ownBlock → wpList P ops Q rest (a.put o.dst (.slice A' (n + k) c')) w') : wpList P ops Q (o :: rest) a w := by
  subst hk
  have hbl : (bv l).length = l.length := bv_length l
  refine wpList_append_rd w hgd s x t ho base e i z 1 ht hi hz hsize hby hzs v n (bv out) hs hown B A c (bv l) (by rw [hbl]; exact hx) hr hnil (bv_one _) (by rw [hbl]; unfold maxLen; omega) (by rw [hbl]; omega) hbase fun v' w' h1 h2 => ?_
  rw [hbl, ← bv_append] at h1
  obtain ⟨A', c', rfl, -, -⟩ := own_slice h1
  exact h A' c' w' h1 h2
/-- The first loop: how much has been counted. -/
def CStB (n0 n1 : Nat) (t3 t11 : Value) : Prop := (t11 = .int .i64 0 ∧ t3 = .int .i64 0) ∨ (t11 = .int .i64 1 ∧ t3 = .int .i64 n0) ∨ (t11 = .int .i64 2 ∧ t3 = .int .i64 ((n0 : Int) + n1))
/-- The second loop: what has been put. -/
def DSt (W : World) (l0 l1 : List UInt8) (t6 t27 : Value) (wr : World) : Prop := ∃ (A : Option Addr) (n c : Nat) (out : List UInt8), t6 = .slice A n c ∧ wr.ownsRow W.heap.size 5 1 (.slice A n c) n (bv out) ∧ Below W.heap.size W wr ∧
  ((t27 = .int .i64 0 ∧ out = []) ∨ (t27 = .int .i64 1 ∧ out = l0) ∨ (t27 = .int .i64 2 ∧ out = l0 ++ l1))
set_option maxHeartbeats 4000000 in
set_option maxRecDepth 100000 in
theorem concat_any (g : Nat) (A0 A1 : Option Addr) (c0 c1 : Nat) (l0 l1 : List UInt8) (w : World) (h0 : w.cell? ⟨g, 0, none⟩ = some (.slice A0 l0.length c0)) (h1 : w.cell? ⟨g, 1, none⟩ = some (.slice A1 l1.length c1))
    (hr0 : Rd w w.heap.size A0 (bv l0)) (hr1 : Rd w w.heap.size A1 (bv l1)) (hc0 : A0 = none → c0 = 0) (hc1 : A1 = none → c1 = 0) (hl0 : l0.length ≤ 16777216) (hl1 : l1.length ≤ 16777216) :
    Calls Tryd.prog 40 #[.slice (some ⟨g, 0, none⟩) 2 2] w (AppC w.heap.size w (l0 ++ l1)) := by
  obtain ⟨i0, hi, hz0, hz1, hz2⟩ := info_parts inf_u8
  have hg : g < w.heap.size := World.block_lt_of_cell? w _ h0
  obtain ⟨n0, hn0⟩ : ∃ n, l0.length = n := ⟨_, rfl⟩
  obtain ⟨n1, hn1⟩ : ∃ n, l1.length = n := ⟨_, rfl⟩
  rw [hn0] at h0 hl0
  rw [hn1] at h1 hl1
  have HN0 := Lib.hid hn0
  have HN1 := Lib.hid hn1
  have HR0 := Lib.hid hr0
  have HR1 := Lib.hid hr1
  have HC0 := Lib.hid hc0
  have HC1 := Lib.hid hc1
  have H0 := Lib.hid h0
  have H1 := Lib.hid h1
  clear hn0 hn1 hr0 hr1 hc0 hc1
  go_enter Tryd.func40, Tryd.ntmps40
  go_wp2_with fail
  go_loop [3, 5, 11] (fun t3 _ t11 => CStB n0 n1 t3 t11) (fun _ _ t11 => 2 - (intOf t11).toNat)
  case atStart => exact .inl ⟨rfl, rfl⟩
  case round =>
    rcases hrel with ⟨rfl, rfl⟩ | ⟨rfl, rfl⟩ | ⟨rfl, rfl⟩
    · go_wp2_with fail
      go_round
      case rel => exact .inr (.inl ⟨rfl, rfl⟩)
      case measure => simp [intOf]
    · go_wp2_with fail
      go_round
      case rel => exact .inr (.inr ⟨rfl, rfl⟩)
      case measure => simp [intOf]
    · go_wp2_with (go_at_call 58; (refine (growB_nil (n0 + n1) _ (by omega)).mono ?_); rintro e w1 ⟨hb1, A, c, rfl, hown1⟩)
      go_loopw [6, 8, 27] (fun t6 _ t27 wr => DSt w l0 l1 t6 t27 wr) (fun _ _ t27 _ => 2 - (intOf t27).toNat)
      case atStart => exact ⟨A, 0, c, [], rfl, hown1, hb1, .inl ⟨rfl, rfl⟩⟩
      case round =>
        clear hown1 hb1 h0 h1
        obtain ⟨A', m, c', out, rfl, hown, hbel, hcase⟩ := hrel
        have HO := Lib.hid hown
        have HBE := Lib.hid hbel
        have hml := own_len hown
        clear hown hbel
        rcases hcase with ⟨rfl, rfl⟩ | ⟨rfl, rfl⟩ | ⟨rfl, rfl⟩
        · have hm0 : m ≤ 16777216 := by simp at hml; omega
          clear hml
          have q := (HBE.out.cell (p := ⟨g, 0, none⟩) hg).trans H0.out
          go_wp2_with (at_builtin; refine wpList_app_rd _ rfl (.tmp 31) (.tmp 32) 39 rfl w.heap.size 5 i0 (.int .u8 0) Tryd.underlying39 hi hz0 hz1 hz2 rfl (.slice A' m c') m _ rfl HO.out w.heap.size A0 n0 c0 l0 rfl HN0.out (HR0.out.keep fun p hp => HBE.out.cell hp) HC0.out (by omega) HBE.out.size ?_; intro A2 c2 w2 hown2 hgrow2; have hb2 := HBE.out.grown hgrow2 HBE.out.size (own_ge HO.out); clear q hgrow2)
          go_roundw
          case rel => exact ⟨A2, _, c2, _, rfl, hown2, hb2, .inr (.inl ⟨rfl, List.nil_append _⟩)⟩
          case measure => simp [intOf]
        · have hm0 : m ≤ 16777216 := by have := HN0.out; omega
          clear hml
          have q := (HBE.out.cell (p := ⟨g, 1, none⟩) hg).trans H1.out
          go_wp2_with (at_builtin; refine wpList_app_rd _ rfl (.tmp 31) (.tmp 32) 39 rfl w.heap.size 5 i0 (.int .u8 0) Tryd.underlying39 hi hz0 hz1 hz2 rfl (.slice A' m c') m _ rfl HO.out w.heap.size A1 n1 c1 l1 rfl HN1.out (HR1.out.keep fun p hp => HBE.out.cell hp) HC1.out (by omega) HBE.out.size ?_; intro A2 c2 w2 hown2 hgrow2; have hb2 := HBE.out.grown hgrow2 HBE.out.size (own_ge HO.out); clear q hgrow2)
          go_roundw
          case rel => exact ⟨A2, _, c2, _, rfl, hown2, hb2, .inr (.inr ⟨rfl, rfl⟩)⟩
          case measure => simp [intOf]
        · go_wp2_with fail
          go_ret
          exact ⟨A', m, c', rfl, HO.out, HBE.out⟩
set_option maxHeartbeats 2000000 in
set_option maxRecDepth 100000 in
theorem wAppend_any (A0 : Option Addr) (c0 : Nat) (l0 : List UInt8) (v : V) (cs : List Value) (w : World) (hr0 : Rd w w.heap.size A0 (bv l0)) (hc0 : A0 = none → c0 = 0) (hl0 : l0.length ≤ 16777216) (h : Lies w (· < w.heap.size) v cs) (hr : rng v) (ht : TabS w) :
    Calls Tryd.prog 18 #[.slice A0 l0.length c0, .agg cs.toArray] w (AppC w.heap.size w (l0 ++ txt v)) := by
  have HX := Lib.hid (fun W (hW : Below w.heap.size w W) => text_any v cs W (below_lies hW h) hr (ht.next hW))
  have HTL := Lib.hid (txt_len hr)
  have HR0 := Lib.hid hr0
  have HC0 := Lib.hid hc0
  obtain ⟨a0, a1, a2, a3, a4, rfl⟩ := arg_five h
  obtain ⟨n0, hn0⟩ : ∃ n, l0.length = n := ⟨_, rfl⟩
  have HN0 := Lib.hid hn0
  rw [hn0] at hl0 ⊢
  clear h ht hr hr0 hc0 hn0
  show Calls _ _ #[.slice A0 n0 c0, .agg #[a0, a1, a2, a3, a4]] w _
  go_enter Tryd.func18, Tryd.ntmps18
  go_wp2_with (first
    | (go_at_call 39; refine (HX.out _ (below1 _ _)).mono ?_; rintro e w1 ⟨A1, n1, c1, rfl, hown1, hb1'⟩; have HB1 := Lib.hid (chain (below1 w _) hb1'); have hl1 := own_len hown1; have HL1 := Lib.hid hl1; have HR1 := Lib.hid (own_rdB hown1); have HC1 := Lib.hid (own_nilB hown1); have hn1 : n1 ≤ 16777216 := (by have := HTL.out; omega); clear hl1 hown1 hb1')
    | (go_at_call 40; refine (concat_any w1.heap.size A0 A1 c0 c1 l0 (txt v) _ (by rw [HN0.out]; exact (Box.laid w1 _ _).cell (i := 0) rfl) (by rw [HL1.out]; exact (Box.laid w1 _ _).cell (i := 1) rfl) (HR0.out.below (chain HB1.out (below1 w1 _)) (Nat.le_refl _) |>.mono (by have := HB1.out.size; simp; omega)) (HR1.out.below (below1 w1 _) (Nat.le_refl _) |>.mono (by simp)) HC0.out HC1.out (by rw [HN0.out]; exact hl0) (by rw [HL1.out]; exact hn1)).mono ?_; rintro e w2 ⟨A2, n2, c2, rfl, hown2, hb2⟩))
  go_ret
  have hs1 := HB1.out.size
  exact ⟨A2, n2, c2, rfl, own_base hown2 (fun g hg => by have := (hown2.lt g hg).1; simp at this; omega), chain HB1.out (chain (below1 w1 _) hb2)⟩
end Go.Proofs.YtacnpligpbiamaaDoor
namespace Go.Proofs.YtacnpligpbiamaaDoor
open Go.RowKit
theorem bytes_of (w : World) (s : ByteArray) : ∃ (c : Nat) (w1 : World), (convert 9 39 (.string s)).run Tryd.prog w = .ok (.slice (some ⟨w.heap.size, 0, none⟩) s.size c) w1 ∧
    Rd w1 (w.heap.size + 1) (some ⟨w.heap.size, 0, none⟩) (bv s.data.toList) ∧ Below w.heap.size w w1 ∧ w.heap.size + 1 ≤ w1.heap.size := by
  refine ⟨_, _, Lib.run_convert_string_bytes w 9 39 5 s Tryd.underlying9 Tryd.underlying39 Tryd.underlying5, ?_, ?_, ?_⟩
  · intro j u hj
    refine ⟨w.heap.size, 0, rfl, by omega, ?_⟩
    have hjl : j < s.size := by
      rcases Nat.lt_or_ge j s.size with h | h
      · exact h
      · rw [List.getElem?_eq_none (by rw [bv_length]; simpa using h)] at hj; cases hj
    rw [Nat.zero_add, Lib.bytesWorld_cell w _ s j hjl]
    rw [← hj]
    have hjl2 : j < s.data.toList.length := by simpa using hjl
    simp [bv, List.getD, List.getElem?_eq_getElem hjl2]
  · refine ⟨?_, ?_, ?_, ?_, fun k hk => Lib.bytesWorld_at_old w _ s k hk⟩
    · unfold Lib.bytesWorld World.freeze; (repeat' split) <;> rfl
    · unfold Lib.bytesWorld World.freeze; (repeat' split) <;> rfl
    · unfold Lib.bytesWorld World.freeze; (repeat' split) <;> rfl
    · rw [Lib.bytesWorld_size]; omega
  · rw [Lib.bytesWorld_size]; omega
end Go.Proofs.YtacnpligpbiamaaDoor

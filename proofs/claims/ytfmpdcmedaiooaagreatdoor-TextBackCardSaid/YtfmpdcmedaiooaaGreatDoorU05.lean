/- The contracts of the small functions of the layer utf and of its reference that make no memory. The contracts of the functions that append encodings. -/
import Derived.Test.YtfmpdcmedaiooaaGreatDoorRows
import Derived.Test.YtfmpdcmedaiooaaGreatDoorU01
import Derived.WalkKit
import Derived.Lib.Hide
import Derived.WalkSpells
import Derived.WalkLawsBesides
import Derived.Deep.CutBlock
import Derived.Deep.DeepCutAuto
import Derived.Test.YtfmpdcmedaiooaaGreatDoorU02
set_option linter.unusedVariables false
set_option linter.unusedSimpArgs false
namespace Go.Proofs.YtfmpdcmedaiooaaGreatDoor
open Go.RowKit
set_option maxHeartbeats 400000 in
theorem isCp (r : Int) (w : World) :
    Calls Tryz.prog 34 #[.int .i64 r] w fun e w' => e = .returned (.bool (cp r)) ∧ w = w' := by
  go_enter Tryz.func34, Tryz.ntmps34
  go_wp2
  all_goals go_ret
  all_goals exact ⟨ret_bool (by unfold cp; simp; omega), rfl⟩

set_option maxHeartbeats 400000 in
theorem tail_any (r : Nat) (hr : r < 4294967296) (w : World) :
    Calls Tryz.prog 46 #[.int .i64 r] w fun e w' => e = .returned (.int .u8 ((128 + r % 64 : Nat) : Int)) ∧ w = w' := by
  have h1 := Lib.hid (and63 r hr)
  have h2 := Lib.hid (u8or128 (r % 64) (by omega))
  go_enter Tryz.func46, Tryz.ntmps46
  go_wp2
  go_ret
  refine ⟨ret_int ?_, rfl⟩
  rw [h1.out, show (((r % 64 : Nat) : Int) % 256) = ((r % 64 : Nat) : Int) from by omega, h2.out]

set_option maxHeartbeats 400000 in
theorem tail_loop (s : ByteArray) (b n l : Nat) (hb : b < 256) (hn : n ≤ 3) (_hl : l ≤ 65536) (hs : s.size ≤ maxLen) (w : World) :
    Calls Tryz.prog 98 #[.string s, .int .i64 b, .int .i64 n, .int .i64 l] w fun e w' => e = .returned (decV (fin n l (tl n b s.data.toList))) ∧ w = w' := by
  unfold maxLen at hs
  by_cases hsz : s.size < n
  · have hx := Lib.hid (tl_short n b s.data.toList (by simpa using hsz))
    go_enter Tryz.func98, Tryz.ntmps98
    go_wp2
    go_ret3
    exact ⟨by rw [hx.out]; rfl, rfl⟩
  · go_enter Tryz.func98, Tryz.ntmps98
    go_wp2
    go_loop [1, 18] (fun t i => ∃ k acc : Nat, k ≤ n ∧ i = .int .i64 k ∧ t = .int .i64 acc ∧ acc < 256 * 64 ^ k ∧ tl n b s.data.toList = tl (n - k) acc (s.data.toList.drop k)) (fun _ i => n - (intOf i).toNat)
    case atStart => exact ⟨0, b, Nat.zero_le _, rfl, rfl, by simpa using hb, rfl⟩
    case round =>
      obtain ⟨k, acc, hk, rfl, rfl, hacc, htl0⟩ := hrel
      have htl := Lib.hid htl0
      clear htl0
      by_cases hlt : k < n
      · have hks : k < s.size := by omega
        have hin : k < s.data.toList.length := by simpa using hks
        have hsp : Hid (tl n b s.data.toList = if 128 ≤ s[k].toNat ∧ s[k].toNat ≤ 191 then tl (n - (k + 1)) (acc * 64 + s[k].toNat % 64) (s.data.toList.drop (k + 1)) else none) := Lib.hid (by
          rw [htl.out, show n - k = n - (k + 1) + 1 from by omega, tl_step _ _ _ k hin]; rfl)
        have ha2 : acc < 16777216 := by
          have : 64 ^ k ≤ 64 ^ 2 := Nat.pow_le_pow_right (by omega) (by omega)
          omega
        have hpw : Hid (64 ^ (k + 1) = 64 ^ k * 64) := Lib.hid (Nat.pow_succ _ _)
        have hor := Lib.hid (or64 acc (s[k].toNat % 64) (by omega) (by omega))
        by_cases hin : 128 ≤ s[k].toNat ∧ s[k].toNat ≤ 191
        · obtain ⟨h1, h2⟩ := hin
          go_wp2
          go_round
          case rel =>
            refine ⟨k + 1, acc * 64 + s[k].toNat % 64, by omega, by go_num, ?_, ?_, ?_⟩
            · rw [← hor.out]; congr 2
            · rw [hpw.out]; omega
            · rw [hsp.out, if_pos ⟨h1, h2⟩]
          case measure => simp [intOf]; omega
        · have hno := Lib.hid (hsp.out.trans (if_neg hin))
          by_cases h1 : s[k].toNat < 128
          all_goals
            have h2 : 191 < s[k].toNat ∨ s[k].toNat < 128 := by omega
            go_wp2
            go_ret3
            exact ⟨by rw [hno.out]; rfl, rfl⟩
      · have hkn : Hid (tl n b s.data.toList = some acc) := Lib.hid (by rw [htl.out, show n - k = 0 from by omega]; rfl)
        have hv : Hid (decV (fin n l (tl n b s.data.toList)) = decV (fin n l (some acc))) := Lib.hid (by rw [hkn.out])
        by_cases hl1 : acc < l
        · have hv2 : Hid (decV (fin n l (some acc)) = .tuple #[.int .i64 0, .int .i64 0, .bool false]) := Lib.hid (by unfold fin; simp only []; rw [if_pos (.inl hl1)]; rfl)
          go_wp2_with (go_at_call 34; refine (isCp _ _).mono ?_; rintro e w' ⟨rfl, rfl⟩)
          go_ret3
          exact ⟨congrArg Ending.returned (hv.out.trans hv2.out).symm, rfl⟩
        · cases hc : cp acc
          · have hv2 : Hid (decV (fin n l (some acc)) = .tuple #[.int .i64 0, .int .i64 0, .bool false]) := Lib.hid (by unfold fin; simp only []; rw [if_pos (.inr hc)]; rfl)
            go_wp2_with (go_at_call 34; refine (isCp _ _).mono ?_; rintro e w' ⟨rfl, rfl⟩)
            go_ret3
            exact ⟨congrArg Ending.returned (hv.out.trans hv2.out).symm, rfl⟩
          · have hv2 : Hid (decV (fin n l (some acc)) = .tuple #[.int .i64 acc, .int .i64 (n + 1), .bool true]) := Lib.hid (by unfold fin; simp only []; rw [if_neg (by simp [hc, hl1])]; rfl)
            go_wp2_with (go_at_call 34; refine (isCp _ _).mono ?_; rintro e w' ⟨rfl, rfl⟩)
            go_ret3
            exact ⟨congrArg Ending.returned (hv.out.trans hv2.out).symm, rfl⟩

theorem drop_extract (s : ByteArray) (k : Nat) : (s.extract k s.size).data.toList = s.data.toList.drop k := by
  obtain ⟨⟨l⟩⟩ := s
  rw [ByteArray.extract_mk]
  simp [ByteArray.size]
  exact List.take_of_length_le (by simp)
theorem wb (b : UInt8) : wrap64 (b.toNat : Int) = (b.toNat : Int) := by
  have := UInt8.toNat_lt b
  exact IntWalk.wrap64_in _ (by omega)
theorem dec_none_of {f : FuncId} {args : Array Value} {w : World} {o : Option (Nat × Nat)} (h : Calls Tryz.prog f args w fun e w' => e = .returned (decV o) ∧ w = w') (ho : o = none) :
    Calls Tryz.prog f args w fun e w' => e = .returned (.tuple #[.int .i64 0, .int .i64 0, .bool false]) ∧ w = w' := by subst ho; exact h
theorem dec_some_of {f : FuncId} {args : Array Value} {w : World} {o : Option (Nat × Nat)} (h : Calls Tryz.prog f args w fun e w' => e = .returned (decV o) ∧ w = w') (r n : Nat) (ho : o = some (r, n)) :
    Calls Tryz.prog f args w fun e w' => e = .returned (.tuple #[.int .i64 r, .int .i64 n, .bool true]) ∧ w = w' := by subst ho; exact h
theorem drop_size (s : ByteArray) (k : Nat) : (s.extract k s.size).size = s.size - k := by
  simp

set_option maxHeartbeats 400000 in
theorem dec_any (s : ByteArray) (k : Nat) (hs : s.size ≤ maxLen) (w : World) :
    Calls Tryz.prog 68 #[.string s, .int .i64 k] w fun e w' => e = .returned (decV (dec (s.data.toList.drop k))) ∧ w = w' := by
  unfold maxLen at hs
  by_cases hk : k < s.size
  · have hin : k < s.data.toList.length := by simpa using hk
    have hd : Hid (dec (s.data.toList.drop k) = dec (s[k] :: s.data.toList.drop (k + 1))) := Lib.hid (by rw [List.drop_eq_getElem_cons hin]; rfl)
    have hb : Hid (s[k].toNat < 256) := Lib.hid (UInt8.toNat_lt _)
    have h31 := Lib.hid (and31 s[k].toNat (by have := hb.out; omega))
    have h15 := Lib.hid (and15 s[k].toNat (by have := hb.out; omega))
    have h7 := Lib.hid (and7 s[k].toNat (by have := hb.out; omega))
    have hdr := Lib.hid (drop_extract s (k + 1))
    have hc := Lib.hid (dec_cons s[k] (s.data.toList.drop (k + 1)))
    go_enter Tryz.func68, Tryz.ntmps68
    have hsz : (s.extract (k + 1) s.size).size ≤ maxLen := by rw [drop_size]; unfold maxLen; omega
    have T1 := Lib.hid (fun (W : World) => tail_loop (s.extract (k + 1) s.size) (s[k].toNat % 32) 1 128 (by omega) (by omega) (by omega) hsz W)
    have T2 := Lib.hid (fun (W : World) => tail_loop (s.extract (k + 1) s.size) (s[k].toNat % 16) 2 2048 (by omega) (by omega) (by omega) hsz W)
    have T3 := Lib.hid (fun (W : World) => tail_loop (s.extract (k + 1) s.size) (s[k].toNat % 8) 3 65536 (by omega) (by omega) (by omega) hsz W)
    rw [hdr.out] at T1 T2 T3
    clear hsz
    go_wp2_with fail
    · simp only [wb] at *
      go_ret3
      have hv : decV (dec (s.data.toList.drop k)) = .tuple #[.int .i64 s[k].toNat, .int .i64 1, .bool true] := by rw [hd.out, hc.out, if_pos (by omega)]; rfl
      exact ⟨congrArg Ending.returned hv.symm, rfl⟩
    · simp only [wb] at *
      go_ret3
      have hv : decV (dec (s.data.toList.drop k)) = .tuple #[.int .i64 0, .int .i64 0, .bool false] := by rw [hd.out, hc.out, if_neg (by omega), if_pos (by omega)]; rfl
      exact ⟨congrArg Ending.returned hv.symm, rfl⟩
    · simp only [wb] at *
      rw [h31.out]
      cases hx : fin 1 128 (tl 1 (s[k].toNat % 32) (s.data.toList.drop (k + 1))) with
      | none =>
        have hX := Lib.hid hx
        clear hx
        have hv : Hid (decV (dec (s.data.toList.drop k)) = .tuple #[.int .i64 0, .int .i64 0, .bool false]) := Lib.hid (by rw [hd.out, hc.out, if_neg (by omega), if_neg (by omega), if_pos (by omega), hX.out]; rfl)
        refine (dec_none_of (T1.out w) hX.out).mono ?_
        rintro e w' ⟨rfl, rfl⟩
        go_wp2
        go_ret3
        exact ⟨congrArg Ending.returned hv.out.symm, rfl⟩
      | some rn =>
        obtain ⟨r, n⟩ := rn
        have hX := Lib.hid hx
        clear hx
        have hv : Hid (decV (dec (s.data.toList.drop k)) = .tuple #[.int .i64 r, .int .i64 n, .bool true]) := Lib.hid (by rw [hd.out, hc.out, if_neg (by omega), if_neg (by omega), if_pos (by omega), hX.out]; rfl)
        refine (dec_some_of (T1.out w) r n hX.out).mono ?_
        rintro e w' ⟨rfl, rfl⟩
        go_wp2
        go_ret3
        exact ⟨congrArg Ending.returned hv.out.symm, rfl⟩
    · simp only [wb] at *
      rw [h15.out]
      cases hx : fin 2 2048 (tl 2 (s[k].toNat % 16) (s.data.toList.drop (k + 1))) with
      | none =>
        have hX := Lib.hid hx
        clear hx
        have hv : Hid (decV (dec (s.data.toList.drop k)) = .tuple #[.int .i64 0, .int .i64 0, .bool false]) := Lib.hid (by rw [hd.out, hc.out, if_neg (by omega), if_neg (by omega), if_neg (by omega), if_pos (by omega), hX.out]; rfl)
        refine (dec_none_of (T2.out w) hX.out).mono ?_
        rintro e w' ⟨rfl, rfl⟩
        go_wp2
        go_ret3
        exact ⟨congrArg Ending.returned hv.out.symm, rfl⟩
      | some rn =>
        obtain ⟨r, n⟩ := rn
        have hX := Lib.hid hx
        clear hx
        have hv : Hid (decV (dec (s.data.toList.drop k)) = .tuple #[.int .i64 r, .int .i64 n, .bool true]) := Lib.hid (by rw [hd.out, hc.out, if_neg (by omega), if_neg (by omega), if_neg (by omega), if_pos (by omega), hX.out]; rfl)
        refine (dec_some_of (T2.out w) r n hX.out).mono ?_
        rintro e w' ⟨rfl, rfl⟩
        go_wp2
        go_ret3
        exact ⟨congrArg Ending.returned hv.out.symm, rfl⟩
    · simp only [wb] at *
      rw [h7.out]
      cases hx : fin 3 65536 (tl 3 (s[k].toNat % 8) (s.data.toList.drop (k + 1))) with
      | none =>
        have hX := Lib.hid hx
        clear hx
        have hv : Hid (decV (dec (s.data.toList.drop k)) = .tuple #[.int .i64 0, .int .i64 0, .bool false]) := Lib.hid (by rw [hd.out, hc.out, if_neg (by omega), if_neg (by omega), if_neg (by omega), if_neg (by omega), if_pos (by omega), hX.out]; rfl)
        refine (dec_none_of (T3.out w) hX.out).mono ?_
        rintro e w' ⟨rfl, rfl⟩
        go_wp2
        go_ret3
        exact ⟨congrArg Ending.returned hv.out.symm, rfl⟩
      | some rn =>
        obtain ⟨r, n⟩ := rn
        have hX := Lib.hid hx
        clear hx
        have hv : Hid (decV (dec (s.data.toList.drop k)) = .tuple #[.int .i64 r, .int .i64 n, .bool true]) := Lib.hid (by rw [hd.out, hc.out, if_neg (by omega), if_neg (by omega), if_neg (by omega), if_neg (by omega), if_pos (by omega), hX.out]; rfl)
        refine (dec_some_of (T3.out w) r n hX.out).mono ?_
        rintro e w' ⟨rfl, rfl⟩
        go_wp2
        go_ret3
        exact ⟨congrArg Ending.returned hv.out.symm, rfl⟩
    · simp only [wb] at *
      go_ret3
      have hv : decV (dec (s.data.toList.drop k)) = .tuple #[.int .i64 0, .int .i64 0, .bool false] := by
        rw [hd.out, hc.out, if_neg (by omega), if_neg (by omega), if_neg (by omega), if_neg (by omega), if_neg (by omega)]; rfl
      exact ⟨congrArg Ending.returned hv.symm, rfl⟩
  · have hd : Hid (decV (dec (s.data.toList.drop k)) = .tuple #[.int .i64 0, .int .i64 0, .bool false]) := Lib.hid (by
      rw [List.drop_eq_nil_of_le (by simp; omega)]; rfl)
    go_enter Tryz.func68, Tryz.ntmps68
    go_wp2
    go_ret3
    exact ⟨congrArg Ending.returned hd.out.symm, rfl⟩
end Go.Proofs.YtfmpdcmedaiooaaGreatDoor
namespace Go.Proofs.YtfmpdcmedaiooaaGreatDoor
open Go.RowKit
theorem inf_u8 : (Tryz.prog.info? 5).map (fun i => (i.zero, i.size, i.bytes)) = some (some (.int .u8 0), 1, 1) := by kernel_rfl
/-- Bytes as values. -/
def bv (l : List UInt8) : List Value := l.map fun b => Value.int .u8 (b.toNat : Int)
theorem bv_append (l m : List UInt8) : bv (l ++ m) = bv l ++ bv m := by simp [bv]
theorem bv_length (l : List UInt8) : (bv l).length = l.length := by simp [bv]
theorem bv_one (l : List UInt8) : ∀ u ∈ bv l, u.oneCell' = true := by
  intro u hu; simp only [bv, List.mem_map] at hu; obtain ⟨b, _, rfl⟩ := hu; rfl
theorem tail_z (z : Int) (h0 : 0 ≤ z) (h1 : z < 4294967296) (w : World) :
    Calls Tryz.prog 46 #[.int .i64 z] w fun e w' => e = .returned (.int .u8 (128 + z % 64)) ∧ w = w' := by
  obtain ⟨r, rfl⟩ := Int.eq_ofNat_of_zero_le h0
  have h := tail_any r (by omega) w
  rw [show ((128 + r % 64 : Nat) : Int) = 128 + (r : Int) % 64 from by omega] at h
  exact h
theorem u8v {n : Nat} {z : Int} (h : n < 256) (hz : z = n) : Value.int .u8 z = Value.int .u8 ((UInt8.ofNat n).toNat : Int) := by
  rw [toNat_ofNat h, hz]
theorem new_cells (w : World) (t : TypeId) (l : List Value) : ∀ (j : Nat) (u : Value), l[j]? = some u → (w.alloc (.cells l.toArray t)).cell? ((⟨w.heap.size, 0, none⟩ : Addr).add j) = some u := by
  intro j u hj
  have h1 : (w.alloc (.cells l.toArray t)).heap[w.heap.size]? = some (.cells l.toArray t) := by
    exact (MapKept.heap_alloc w _).1
  have h2 := cell_of_row (w.alloc (.cells l.toArray t)) w.heap.size j l.toArray t (0, 0) h1
  have h3 : ((⟨w.heap.size, 0, none⟩ : Addr).add j) = ⟨w.heap.size, j, none⟩ := by
    unfold Addr.add
    by_cases h : j = 0 <;> simp [h]
  rw [h3, h2]
  simpa using hj
/-- What an append onto a row of the call's own leaves. -/
def AppPost (B : Nat) (base : Nat) (n : Nat) (xs : List Value) (w : World) (e : Ending) (w' : World) : Prop :=
  ∃ v', e = .returned v' ∧ w'.ownsRow base 5 1 v' n xs ∧ Below B w w' 
theorem AppPost.mk {B base n : Nat} {xs : List Value} {w w' : World} {e : Ending} {v' : Value} (he : e = .returned v') (ho : w'.ownsRow base 5 1 v' n xs) (hb : Below B w w') : AppPost B base n xs w e w' := ⟨v', he, ho, hb⟩
set_option maxRecDepth 100000 in
set_option maxHeartbeats 1000000 in
theorem app_1 (sl : Value) (r : Int) (h0 : 0 ≤ r) (h1 : r < 128) (w : World) (base n : Nat) (xs : List Value) (hown : w.ownsRow base 5 1 sl n xs) (hn : n ≤ 4294967296) (hB : base ≤ w.heap.size) :
    Calls Tryz.prog 35 #[sl, .int .i64 r] w fun e w' => AppPost base base (n + (enc r.toNat).length) (xs ++ bv (enc r.toNat)) w e w' := by
  have he : enc r.toNat = [UInt8.ofNat r.toNat] := by
    unfold enc; rw [if_pos (by omega)]
  have hl : Hid (([.int .u8 (r)] : List Value) = bv (enc r.toNat)) := Lib.hid (by
    rw [he]
    simp only [bv, List.map_cons, List.map_nil]
    rw [u8v (n := r.toNat) (z := r) (by omega) (by omega)])
  have hk : Hid ((enc r.toNat).length = 1) := Lib.hid (by rw [he]; rfl)
  clear he
  obtain ⟨i0, hi, hz0, hz1, hz2⟩ := info_parts inf_u8
  have HO := Lib.hid hown
  clear hown
  go_enter Tryz.func35, Tryz.ntmps35
  go_wp2_with (first
    | (go_at_call 46; refine (tail_z _ (by omega) (by omega) _).mono ?_; rintro e w' ⟨rfl, rfl⟩)
    | (at_builtin; refine wpList_append_own _ rfl _ _ 55 rfl base 5 i0 (.int .u8 0) 1 1 Tryz.underlying55 hi hz0 hz1 hz2 rfl (by decide) _ _ _ rfl (HO.out.alloc _) ⟨w.heap.size, 0, none⟩ 1 1 [.int .u8 (r)] rfl rfl (new_cells w 5 [.int .u8 (r)]) ?c2 ?c3 ?c4 ?c5 ?_))
  case c2 => rw [hl.out]; exact bv_one _
  case c3 => unfold maxLen; omega
  case c4 => omega
  case c5 => simp; omega
  intro v' w1 hown' hgrow _
  have hb : Below base w w1 := ((Below.refl base w).alloc hB _).grown hgrow (by simp; omega) (fun j hj => (HO.out.lt j hj).1)
  rw [hl.out] at hown'
  clear hgrow
  have HO2 := Lib.hid hown'
  have HB := Lib.hid hb
  clear hown' hb
  go_wp2
  go_ret
  rw [hk.out]
  exact AppPost.mk rfl HO2.out HB.out
set_option maxRecDepth 100000 in
set_option maxHeartbeats 1000000 in
theorem app_2 (sl : Value) (r : Int) (h1 : 128 ≤ r) (h2 : r < 2048) (w : World) (base n : Nat) (xs : List Value) (hown : w.ownsRow base 5 1 sl n xs) (hn : n ≤ 4294967296) (hB : base ≤ w.heap.size) :
    Calls Tryz.prog 35 #[sl, .int .i64 r] w fun e w' => AppPost base base (n + (enc r.toNat).length) (xs ++ bv (enc r.toNat)) w e w' := by
  have he : enc r.toNat = [UInt8.ofNat (192 + r.toNat / 64), UInt8.ofNat (128 + r.toNat % 64)] := by
    unfold enc; rw [if_neg (by omega), if_pos (by omega)]
  have hl : Hid (([.int .u8 (192 + r / 64), .int .u8 (128 + r % 64)] : List Value) = bv (enc r.toNat)) := Lib.hid (by
    rw [he]
    simp only [bv, List.map_cons, List.map_nil]
    rw [u8v (n := 192 + r.toNat / 64) (z := 192 + r / 64) (by omega) (by omega), u8v (n := 128 + r.toNat % 64) (z := 128 + r % 64) (by omega) (by omega)])
  have hk : Hid ((enc r.toNat).length = 2) := Lib.hid (by rw [he]; rfl)
  clear he
  obtain ⟨i0, hi, hz0, hz1, hz2⟩ := info_parts inf_u8
  have HO := Lib.hid hown
  clear hown
  go_enter Tryz.func35, Tryz.ntmps35
  go_wp2_with (first
    | (go_at_call 46; refine (tail_z _ (by omega) (by omega) _).mono ?_; rintro e w' ⟨rfl, rfl⟩)
    | (at_builtin; refine wpList_append_own _ rfl _ _ 55 rfl base 5 i0 (.int .u8 0) 1 1 Tryz.underlying55 hi hz0 hz1 hz2 rfl (by decide) _ _ _ rfl (HO.out.alloc _) ⟨w.heap.size, 0, none⟩ 2 2 [.int .u8 (192 + r / 64), .int .u8 (128 + r % 64)] rfl rfl (new_cells w 5 [.int .u8 (192 + r / 64), .int .u8 (128 + r % 64)]) ?c2 ?c3 ?c4 ?c5 ?_))
  case c2 => rw [hl.out]; exact bv_one _
  case c3 => unfold maxLen; omega
  case c4 => omega
  case c5 => simp; omega
  intro v' w1 hown' hgrow _
  have hb : Below base w w1 := ((Below.refl base w).alloc hB _).grown hgrow (by simp; omega) (fun j hj => (HO.out.lt j hj).1)
  rw [hl.out] at hown'
  clear hgrow
  have HO2 := Lib.hid hown'
  have HB := Lib.hid hb
  clear hown' hb
  go_wp2
  go_ret
  rw [hk.out]
  exact AppPost.mk rfl HO2.out HB.out
set_option maxRecDepth 100000 in
set_option maxHeartbeats 1000000 in
theorem app_3 (sl : Value) (r : Int) (h2 : 2048 ≤ r) (h3 : r < 65536) (w : World) (base n : Nat) (xs : List Value) (hown : w.ownsRow base 5 1 sl n xs) (hn : n ≤ 4294967296) (hB : base ≤ w.heap.size) :
    Calls Tryz.prog 35 #[sl, .int .i64 r] w fun e w' => AppPost base base (n + (enc r.toNat).length) (xs ++ bv (enc r.toNat)) w e w' := by
  have he : enc r.toNat = [UInt8.ofNat (224 + r.toNat / 4096), UInt8.ofNat (128 + r.toNat / 64 % 64), UInt8.ofNat (128 + r.toNat % 64)] := by
    unfold enc; rw [if_neg (by omega), if_neg (by omega), if_pos (by omega)]
  have hl : Hid (([.int .u8 (224 + r / 4096), .int .u8 (128 + r / 64 % 64), .int .u8 (128 + r % 64)] : List Value) = bv (enc r.toNat)) := Lib.hid (by
    rw [he]
    simp only [bv, List.map_cons, List.map_nil]
    rw [u8v (n := 224 + r.toNat / 4096) (z := 224 + r / 4096) (by omega) (by omega), u8v (n := 128 + r.toNat / 64 % 64) (z := 128 + r / 64 % 64) (by omega) (by omega), u8v (n := 128 + r.toNat % 64) (z := 128 + r % 64) (by omega) (by omega)])
  have hk : Hid ((enc r.toNat).length = 3) := Lib.hid (by rw [he]; rfl)
  clear he
  obtain ⟨i0, hi, hz0, hz1, hz2⟩ := info_parts inf_u8
  have HO := Lib.hid hown
  clear hown
  go_enter Tryz.func35, Tryz.ntmps35
  go_wp2_with (first
    | (go_at_call 46; refine (tail_z _ (by omega) (by omega) _).mono ?_; rintro e w' ⟨rfl, rfl⟩)
    | (at_builtin; refine wpList_append_own _ rfl _ _ 55 rfl base 5 i0 (.int .u8 0) 1 1 Tryz.underlying55 hi hz0 hz1 hz2 rfl (by decide) _ _ _ rfl (HO.out.alloc _) ⟨w.heap.size, 0, none⟩ 3 3 [.int .u8 (224 + r / 4096), .int .u8 (128 + r / 64 % 64), .int .u8 (128 + r % 64)] rfl rfl (new_cells w 5 [.int .u8 (224 + r / 4096), .int .u8 (128 + r / 64 % 64), .int .u8 (128 + r % 64)]) ?c2 ?c3 ?c4 ?c5 ?_))
  case c2 => rw [hl.out]; exact bv_one _
  case c3 => unfold maxLen; omega
  case c4 => omega
  case c5 => simp; omega
  intro v' w1 hown' hgrow _
  have hb : Below base w w1 := ((Below.refl base w).alloc hB _).grown hgrow (by simp; omega) (fun j hj => (HO.out.lt j hj).1)
  rw [hl.out] at hown'
  clear hgrow
  have HO2 := Lib.hid hown'
  have HB := Lib.hid hb
  clear hown' hb
  go_wp2
  go_ret
  rw [hk.out]
  exact AppPost.mk rfl HO2.out HB.out
set_option maxRecDepth 100000 in
set_option maxHeartbeats 1000000 in
theorem app_4 (sl : Value) (r : Int) (h3 : 65536 ≤ r) (hr : r ≤ 1114111) (w : World) (base n : Nat) (xs : List Value) (hown : w.ownsRow base 5 1 sl n xs) (hn : n ≤ 4294967296) (hB : base ≤ w.heap.size) :
    Calls Tryz.prog 35 #[sl, .int .i64 r] w fun e w' => AppPost base base (n + (enc r.toNat).length) (xs ++ bv (enc r.toNat)) w e w' := by
  have he : enc r.toNat = [UInt8.ofNat (240 + r.toNat / 262144), UInt8.ofNat (128 + r.toNat / 4096 % 64), UInt8.ofNat (128 + r.toNat / 64 % 64), UInt8.ofNat (128 + r.toNat % 64)] := by
    unfold enc; rw [if_neg (by omega), if_neg (by omega), if_neg (by omega)]
  have hl : Hid (([.int .u8 (240 + r / 262144), .int .u8 (128 + r / 4096 % 64), .int .u8 (128 + r / 64 % 64), .int .u8 (128 + r % 64)] : List Value) = bv (enc r.toNat)) := Lib.hid (by
    rw [he]
    simp only [bv, List.map_cons, List.map_nil]
    rw [u8v (n := 240 + r.toNat / 262144) (z := 240 + r / 262144) (by omega) (by omega), u8v (n := 128 + r.toNat / 4096 % 64) (z := 128 + r / 4096 % 64) (by omega) (by omega), u8v (n := 128 + r.toNat / 64 % 64) (z := 128 + r / 64 % 64) (by omega) (by omega), u8v (n := 128 + r.toNat % 64) (z := 128 + r % 64) (by omega) (by omega)])
  have hk : Hid ((enc r.toNat).length = 4) := Lib.hid (by rw [he]; rfl)
  clear he
  obtain ⟨i0, hi, hz0, hz1, hz2⟩ := info_parts inf_u8
  have HO := Lib.hid hown
  clear hown
  go_enter Tryz.func35, Tryz.ntmps35
  go_wp2_with (first
    | (go_at_call 46; refine (tail_z _ (by omega) (by omega) _).mono ?_; rintro e w' ⟨rfl, rfl⟩)
    | (at_builtin; refine wpList_append_own _ rfl _ _ 55 rfl base 5 i0 (.int .u8 0) 1 1 Tryz.underlying55 hi hz0 hz1 hz2 rfl (by decide) _ _ _ rfl (HO.out.alloc _) ⟨w.heap.size, 0, none⟩ 4 4 [.int .u8 (240 + r / 262144), .int .u8 (128 + r / 4096 % 64), .int .u8 (128 + r / 64 % 64), .int .u8 (128 + r % 64)] rfl rfl (new_cells w 5 [.int .u8 (240 + r / 262144), .int .u8 (128 + r / 4096 % 64), .int .u8 (128 + r / 64 % 64), .int .u8 (128 + r % 64)]) ?c2 ?c3 ?c4 ?c5 ?_))
  case c2 => rw [hl.out]; exact bv_one _
  case c3 => unfold maxLen; omega
  case c4 => omega
  case c5 => simp; omega
  intro v' w1 hown' hgrow _
  have hb : Below base w w1 := ((Below.refl base w).alloc hB _).grown hgrow (by simp; omega) (fun j hj => (HO.out.lt j hj).1)
  rw [hl.out] at hown'
  clear hgrow
  have HO2 := Lib.hid hown'
  have HB := Lib.hid hb
  clear hown' hb
  go_wp2
  go_ret
  rw [hk.out]
  exact AppPost.mk rfl HO2.out HB.out
theorem app_any (sl : Value) (r : Int) (h0 : 0 ≤ r) (hr : r ≤ 1114111) (w : World) (base n : Nat) (xs : List Value) (hown : w.ownsRow base 5 1 sl n xs) (hn : n ≤ 4294967296) (hB : base ≤ w.heap.size) :
    Calls Tryz.prog 35 #[sl, .int .i64 r] w fun e w' => AppPost base base (n + (enc r.toNat).length) (xs ++ bv (enc r.toNat)) w e w' := by
  by_cases h1 : r < 128
  · exact app_1 sl r h0 h1 w base n xs hown hn hB
  by_cases h2 : r < 2048
  · exact app_2 sl r (by omega) h2 w base n xs hown hn hB
  by_cases h3 : r < 65536
  · exact app_3 sl r (by omega) h3 w base n xs hown hn hB
  · exact app_4 sl r (by omega) hr w base n xs hown hn hB
end Go.Proofs.YtfmpdcmedaiooaaGreatDoor

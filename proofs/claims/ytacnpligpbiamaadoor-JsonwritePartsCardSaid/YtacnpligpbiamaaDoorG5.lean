/- The contract of the reference's Decode; both Decodes at an offset below 0. The contracts of the functions that append encodings. The contracts of FromRunes. -/
import Derived.Test.YtacnpligpbiamaaDoorUtf1
import Derived.Lib.Hide
import Derived.Deep.CutBlock
import Derived.Deep.DeepCutAuto
import Derived.Test.YtacnpligpbiamaaDoorG1
set_option linter.unusedVariables false
set_option linter.unusedSimpArgs false
namespace Go.Proofs.YtacnpligpbiamaaDoor
open Go.RowKit
theorem u8_le (b : UInt8) : b.toNat ≤ 255 := by have := UInt8.toNat_lt b; omega
def noDec : Value := .tuple #[.int .i64 0, .int .i64 0, .bool false]
set_option maxRecDepth 100000 in
set_option maxHeartbeats 1000000 in
theorem rdec_in (s : ByteArray) (k : Nat) (hs : s.size ≤ maxLen) (w : World) (hk : k < s.size) (b : UInt8) (hb : s[k] = b) :
    Calls Tryd.prog 48 #[.string s, .int .i64 k] w fun e w' => e = .returned (decV (dec (s.data.toList.drop k))) ∧ w = w' := by
  unfold maxLen at hs
  have hb255 := u8_le b
  have hin : k < s.data.toList.length := by simpa using hk
  have hd : Hid (dec (s.data.toList.drop k) = dec (b :: s.data.toList.drop (k + 1))) := Lib.hid (by rw [List.drop_eq_getElem_cons hin, ← hb]; rfl)
  have h31 := Lib.hid (and31 b.toNat (by omega))
  have h15 := Lib.hid (and15 b.toNat (by omega))
  have h7 := Lib.hid (and7 b.toNat (by omega))
  have hc := Lib.hid (dec_cons b (s.data.toList.drop (k + 1)))
  go_enter Tryd.func48, Tryd.ntmps48
  go_upto_block 0 with fail
  go_cut [8, 9] (fun t8 t9 wx => wx = w ∧ ∃ n r0 : Nat, 2 ≤ n ∧ n ≤ 4 ∧ t8 = .int .i64 n ∧ t9 = .int .i64 r0 ∧ r0 < top n ∧ dec (s.data.toList.drop k) = fin (n - 1) (lst n) (tl (n - 1) r0 (s.data.toList.drop (k + 1))))
  case first =>
    go_wp2_with fail
    · go_ret3
      have hv : decV (dec (s.data.toList.drop k)) = .tuple #[.int .i64 b.toNat, .int .i64 1, .bool true] := by rw [hd.out, hc.out, if_pos (by omega)]; rfl
      exact ⟨congrArg Ending.returned hv.symm, rfl⟩
    · go_meet
      exact ⟨rfl, 2, b.toNat % 32, by omega, by omega, rfl, by rw [← h31.out], by unfold top; simp; omega, by rw [hd.out, hc.out, if_neg (by omega), if_neg (by omega), if_pos (by omega)]; rfl⟩
    · go_meet
      exact ⟨rfl, 3, b.toNat % 16, by omega, by omega, rfl, by rw [← h15.out], by unfold top; simp; omega, by rw [hd.out, hc.out, if_neg (by omega), if_neg (by omega), if_neg (by omega), if_pos (by omega)]; rfl⟩
    · go_meet
      exact ⟨rfl, 4, b.toNat % 8, by omega, by omega, rfl, by rw [← h7.out], by unfold top; simp; omega, by rw [hd.out, hc.out, if_neg (by omega), if_neg (by omega), if_neg (by omega), if_neg (by omega), if_pos (by omega)]; rfl⟩
    · go_ret3
      have hv : decV (dec (s.data.toList.drop k)) = noDec := by rw [hd.out, hc.out, if_neg (by omega), if_neg (by omega), if_neg (by omega), if_neg (by omega), if_neg (by omega)]; rfl
      exact ⟨congrArg Ending.returned hv.symm, rfl⟩
    · go_ret3
      have hv : decV (dec (s.data.toList.drop k)) = noDec := by rw [hd.out, hc.out, if_neg (by omega), if_pos (by omega)]; rfl
      exact ⟨congrArg Ending.returned hv.symm, rfl⟩
  case rest =>
    obtain ⟨rfl, n, r0, hn2, hn4, rfl, rfl, hr0, hdd⟩ := hcut
    have hD := Lib.hid hdd
    clear hdd h31 h15 h7 hc hd hb hb255
    by_cases hlen : s.size - k < n
    · have hz : Hid (decV (dec (s.data.toList.drop k)) = noDec) := Lib.hid (by rw [hD.out, tl_short _ _ _ (by simp; omega)]; rfl)
      go_wp2
      all_goals go_ret3
      all_goals exact ⟨congrArg Ending.returned hz.out.symm, rfl⟩
    · have htop := top_le n
      go_wp2
      go_loop [9, 10] (fun t i => ∃ j acc : Nat, j + 1 ≤ n ∧ i = .int .i64 ((j + 1 : Nat) : Int) ∧ t = .int .i64 acc ∧ acc < 32 * 64 ^ j ∧ tl (n - 1) r0 (s.data.toList.drop (k + 1)) = tl (n - 1 - j) acc (s.data.toList.drop (k + 1 + j))) (fun _ i => n - (intOf i).toNat)
      case atStart => exact ⟨0, r0, by omega, rfl, rfl, by simp; omega, rfl⟩
      case round =>
        obtain ⟨j, acc, hj, rfl, rfl, hacc, htl0⟩ := hrel
        have htl := Lib.hid htl0
        clear htl0
        by_cases hlt : j + 1 < n
        · have hkj : k + (j + 1) < s.size := by omega
          have hin2 : k + 1 + j < s.data.toList.length := by rw [Array.length_toList]; show k + 1 + j < s.size; omega
          obtain ⟨c, hcc⟩ : ∃ c, s[k + (j + 1)] = c := ⟨_, rfl⟩
          have hcl : s.data.toList[k + 1 + j] = c := by
            rw [← hcc]; show s.data.toList[k + 1 + j] = s.data.toList[k + (j + 1)]
            congr 1; omega
          have hc255 := u8_le c
          have hsp : Hid (tl (n - 1) r0 (s.data.toList.drop (k + 1)) = if 128 ≤ c.toNat ∧ c.toNat ≤ 191 then tl (n - 1 - (j + 1)) (acc * 64 + c.toNat % 64) (s.data.toList.drop (k + 1 + (j + 1))) else none) := Lib.hid (by
            rw [htl.out, show n - 1 - j = n - 1 - (j + 1) + 1 from by omega, tl_step _ _ _ _ hin2, hcl]; rfl)
          have ha2 : acc < 16777216 := by
            have : 64 ^ j ≤ 64 ^ 2 := Nat.pow_le_pow_right (by omega) (by omega)
            omega
          have hpw : Hid (64 ^ (j + 1) = 64 ^ j * 64) := Lib.hid (Nat.pow_succ _ _)
          have h63 := Lib.hid (and63 c.toNat (by omega))
          have hor := Lib.hid (or64 acc (c.toNat % 64) (by omega) (by omega))
          clear hcl hin2
          by_cases hcin : 128 ≤ c.toNat ∧ c.toNat < 192
          · obtain ⟨g1, g2⟩ := hcin
            go_wp2
            go_round
            case rel =>
              refine ⟨j + 1, acc * 64 + c.toNat % 64, by omega, by go_num, ?_, ?_, ?_⟩
              · rw [h63.out, ← hor.out]; congr 2
              · rw [hpw.out]; omega
              · rw [hsp.out, if_pos ⟨g1, by omega⟩]
            case measure => simp [intOf]; omega
          · have hno : Hid (decV (dec (s.data.toList.drop k)) = noDec) := Lib.hid (by rw [hD.out, hsp.out, if_neg (by omega)]; rfl)
            by_cases g1 : c.toNat < 128
            all_goals
              have g2 : 192 ≤ c.toNat ∨ c.toNat < 128 := by omega
              go_wp2
              all_goals go_ret3
              all_goals exact ⟨congrArg Ending.returned hno.out.symm, rfl⟩
        · have hacc2 : Hid (tl (n - 1) r0 (s.data.toList.drop (k + 1)) = some acc) := Lib.hid (by rw [htl.out, show n - 1 - j = 0 from by omega]; rfl)
          have hfs := Lib.hid (fin_size n r0 acc _ hn2 hn4 hr0 hacc2.out)
          by_cases hsz : sz acc = n
          · have hv : Hid (decV (dec (s.data.toList.drop k)) = .tuple #[.int .i64 acc, .int .i64 n, .bool true]) := Lib.hid (by rw [hD.out, hacc2.out, hfs.out, if_pos hsz]; rfl)
            have hbq : (((sz acc : Nat) : Int) != ((n : Nat) : Int)) = false := by simp [hsz]
            have HB := Lib.hid hsz
            clear hsz
            go_wp2_with (go_at_call 69; refine (size_any _ _).mono ?_; rintro e w' ⟨rfl, rfl⟩)
            all_goals go_ret3
            all_goals exact ⟨congrArg Ending.returned hv.out.symm, rfl⟩
          · have hv : Hid (decV (dec (s.data.toList.drop k)) = noDec) := Lib.hid (by rw [hD.out, hacc2.out, hfs.out, if_neg hsz]; rfl)
            have hbq : (((sz acc : Nat) : Int) != ((n : Nat) : Int)) = true := by simp; omega
            go_wp2_with (go_at_call 69; refine (size_any _ _).mono ?_; rintro e w' ⟨rfl, rfl⟩)
            all_goals go_ret3
            all_goals exact ⟨congrArg Ending.returned hv.out.symm, rfl⟩
theorem rdec_any (s : ByteArray) (k : Nat) (hs : s.size ≤ maxLen) (w : World) :
    Calls Tryd.prog 48 #[.string s, .int .i64 k] w fun e w' => e = .returned (decV (dec (s.data.toList.drop k))) ∧ w = w' := by
  by_cases hk : k < s.size
  · exact rdec_in s k hs w hk _ rfl
  · unfold maxLen at hs
    have hd : Hid (decV (dec (s.data.toList.drop k)) = .tuple #[.int .i64 0, .int .i64 0, .bool false]) := Lib.hid (by
      rw [List.drop_eq_nil_of_le (by simp; omega)]; rfl)
    go_enter Tryd.func48, Tryd.ntmps48
    go_wp2
    go_ret3
    exact ⟨congrArg Ending.returned hd.out.symm, rfl⟩
end Go.Proofs.YtacnpligpbiamaaDoor
namespace Go.Proofs.YtacnpligpbiamaaDoor
open Go.RowKit
theorem inf_u8 : (Tryd.prog.info? 5).map (fun i => (i.zero, i.size, i.bytes)) = some (some (.int .u8 0), 1, 1) := by kernel_rfl
/-- Bytes as values. -/
def bv (l : List UInt8) : List Value := l.map fun b => Value.int .u8 (b.toNat : Int)
theorem bv_append (l m : List UInt8) : bv (l ++ m) = bv l ++ bv m := by simp [bv]
theorem bv_length (l : List UInt8) : (bv l).length = l.length := by simp [bv]
theorem bv_one (l : List UInt8) : ∀ u ∈ bv l, u.oneCell' = true := by
  intro u hu; simp only [bv, List.mem_map] at hu; obtain ⟨b, _, rfl⟩ := hu; rfl
theorem new_cells (w : World) (t : TypeId) (l : List Value) : ∀ (j : Nat) (u : Value), l[j]? = some u → (w.alloc (.cells l.toArray t)).cell? ((⟨w.heap.size, 0, none⟩ : Addr).add j) = some u := by
  intro j u hj
  have h1 : (w.alloc (.cells l.toArray t)).heap[w.heap.size]? = some (.cells l.toArray t) := by
    exact (MapKept.heap_alloc w _).1
  have h2 := cell_of_row (w.alloc (.cells l.toArray t)) w.heap.size j l.toArray t (0, 0) h1
  have h3 : ((⟨w.heap.size, 0, none⟩ : Addr).add j) = ⟨w.heap.size, j, none⟩ := by
    unfold Addr.add
    by_cases h : j = 0 <;> simp [h]
  rw [h3, h2]
  simpa using hj
/-- What an append onto a row of the call's own leaves. -/
def AppPost (B : Nat) (base : Nat) (n : Nat) (xs : List Value) (w : World) (e : Ending) (w' : World) : Prop :=
  ∃ v', e = .returned v' ∧ w'.ownsRow base 5 1 v' n xs ∧ Below B w w' 
theorem AppPost.mk {B base n : Nat} {xs : List Value} {w w' : World} {e : Ending} {v' : Value} (he : e = .returned v') (ho : w'.ownsRow base 5 1 v' n xs) (hb : Below B w w') : AppPost B base n xs w e w' := ⟨v', he, ho, hb⟩
end Go.Proofs.YtacnpligpbiamaaDoor
namespace Go.Proofs.YtacnpligpbiamaaDoor
open Go.RowKit
theorem conv_nil {P : Program} (w : World) (src dst e : TypeId) (c : Nat) (hs : P.underlying src = some (.slice e)) (he : P.underlying e = some (.int .u8)) (hd : P.underlying dst = some .string) :
    (convert src dst (.slice none 0 c)).run P w = .ok (.string ⟨#[]⟩) w := by
  rw [run_convert_bytes_string w src dst e none 0 c hs he hd]
  simp [Conv.bytesToString]; rfl
theorem conv_rd {P : Program} {w : World} {B : Nat} {A : Option Addr} {l : List UInt8} (h : Rd w B A (bv l)) (src dst e : TypeId) (c : Nat) (hs : P.underlying src = some (.slice e)) (he : P.underlying e = some (.int .u8)) (hd : P.underlying dst = some .string) :
    (convert src dst (.slice A l.length c)).run P w = .ok (.string ⟨l.toArray⟩) w := by
  cases A with
  | none =>
    cases l with
    | nil => exact conv_nil w src dst e c hs he hd
    | cons b t => obtain ⟨b1, o, h1, _⟩ := h 0 (.int .u8 b.toNat) (by simp [bv]); cases h1
  | some a =>
    refine run_convert_bytes_back w src dst e a c l hs he hd fun j hj => ?_
    obtain ⟨b, o, h1, _, h2⟩ := h j (.int .u8 l[j].toNat) (by simp [bv, hj])
    injection h1 with h1
    subst h1
    have h3 : ((⟨b, o, none⟩ : Addr).add j) = ⟨b, o + j, none⟩ := by
      unfold Addr.add
      by_cases h : j = 0 <;> simp [h]
    rw [h3, h2]
/-- string(b), b a row of the call's own. -/
theorem conv_own {w : World} {base n : Nat} {v : Value} {l : List UInt8} (h : w.ownsRow base 5 1 v n (bv l)) : (convert 39 9 v).run Tryd.prog w = .ok (.string ⟨l.toArray⟩) w := by
  obtain ⟨A, c, rfl, hl, hr⟩ := own_slice h
  rw [bv_length] at hl
  subst hl
  exact conv_rd hr _ _ 5 c Tryd.underlying39 Tryd.underlying5 Tryd.underlying9
/-- The encodings of the first k elements. -/
def pre (zs : List Int) (k : Nat) : List UInt8 := encs ((zs.take k).map Int.toNat)
end Go.Proofs.YtacnpligpbiamaaDoor

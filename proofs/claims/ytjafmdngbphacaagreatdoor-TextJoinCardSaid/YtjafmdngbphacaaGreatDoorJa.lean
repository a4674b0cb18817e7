/- What the chain lacks. Cutting a string at an occurrence (as in StrP, under names of its own). TextJoin, plain: a valid string is split into valid pieces, in which the separator does not occur. TextJoin, plain: the pieces of a valid string. What the chain lacks. What the chain lacks. -/
import Derived.Test.YtjafmdngbphacaaGreatDoorC08
import Derived.WalkKit
import Derived.Laws.BitsAllLaws
import Derived.Laws.BitsLemmas
import Derived.Lib.Split
import Derived.Lib.SplitLaws
import Derived.Lib.IndexLaws
import Derived.Lib.IndexMore
import Derived.Lib.RepeatB
import Derived.Test.YtjafmdngbphacaaGreatDoorC44
import Derived.Lib.CutLaws
import Derived.Lib.CountLaws
import Derived.Test.YtjafmdngbphacaaGreatDoorC28
import Derived.Test.YtjafmdngbphacaaGreatDoorC29
import Derived.Test.YtjafmdngbphacaaGreatDoorC34
import Derived.Test.YtjafmdngbphacaaGreatDoorC24
import Derived.Lib.Hide
import Derived.Lib.Walk
import Derived.WalkSpells
import Derived.WalkLawsBesides
import Derived.Outline
import Derived.Deep.QuietTactic
import Derived.BigQuiet
import Derived.Deep.DeepCutAuto
import Derived.Deep.RegionHeld3
import Derived.Deep.Light
import Derived.Shelf.LaysM
import Derived.Shelf.Strings.Split
import Derived.Ground.NamesProg
import Derived.Shelf.Utf8.RuneCount
import Derived.Shelf.Unicode.DecodeAny
import Derived.Deep.LoopGhost
import Derived.Lib.AppendZerosOnto
import Derived.Lib.SliceRun
set_option linter.unusedVariables false
set_option linter.unusedSimpArgs false
namespace Go.Proofs.YtjafmdngbphacaaGreatDoor
open Go.RowKit
theorem cp_range {r : Nat} (h : cp r = true) : r ≤ 1114111 ∧ ¬ (55296 ≤ r ∧ r ≤ 57343) := by
  unfold cp at h; simp at h; omega
end Go.Proofs.YtjafmdngbphacaaGreatDoor

namespace Go.Proofs.YtjafmdngbphacaaGreatDoor
open Go.RowKit
/-- The encoding of a code point. -/
def enc (r : Nat) : List UInt8 :=
  if r < 128 then [UInt8.ofNat r]
  else if r < 2048 then [UInt8.ofNat (192 + r / 64), UInt8.ofNat (128 + r % 64)]
  else if r < 65536 then [UInt8.ofNat (224 + r / 4096), UInt8.ofNat (128 + r / 64 % 64), UInt8.ofNat (128 + r % 64)]
  else [UInt8.ofNat (240 + r / 262144), UInt8.ofNat (128 + r / 4096 % 64), UInt8.ofNat (128 + r / 64 % 64), UInt8.ofNat (128 + r % 64)]
def encs (xs : List Nat) : List UInt8 := xs.flatMap enc
theorem encs_nil : encs [] = [] := rfl
theorem encs_cons (r : Nat) (xs : List Nat) : encs (r :: xs) = enc r ++ encs xs := by simp [encs]
theorem encs_append (xs ys : List Nat) : encs (xs ++ ys) = encs xs ++ encs ys := by simp [encs]
theorem enc_len (r : Nat) : 1 ≤ (enc r).length ∧ (enc r).length ≤ 4 := by unfold enc; (repeat' split) <;> simp
theorem toNat_ofNat {n : Nat} (h : n < 256) : (UInt8.ofNat n).toNat = n := by
  rw [UInt8.toNat_ofNat']; exact Nat.mod_eq_of_lt h
theorem tl_cons (n acc : Nat) (b : UInt8) (r : List UInt8) (h : 128 ≤ b.toNat ∧ b.toNat ≤ 191) : tl (n + 1) acc (b :: r) = tl n (acc * 64 + b.toNat % 64) r := by
  show (if _ then _ else _) = _
  rw [if_pos h]
theorem tl_zero (acc : Nat) (l : List UInt8) : tl 0 acc l = some acc := rfl
theorem fin_ok {n least r : Nat} (h1 : least ≤ r) (h2 : cp r = true) : fin n least (some r) = some (r, n + 1) := by
  unfold fin
  simp only []
  rw [if_neg (by simp [h2]; omega)]
/-- What an encoding begins with is decoded to its code point. -/
theorem dec_enc {r : Nat} (h : cp r = true) (t : List UInt8) : dec (enc r ++ t) = some (r, (enc r).length) := by
  have hr := cp_range h
  unfold enc
  split
  · rename_i h1
    show dec (UInt8.ofNat r :: t) = _
    rw [dec_cons, if_pos (by rw [toNat_ofNat (by omega)]; omega), toNat_ofNat (by omega)]; rfl
  · split
    · show dec (UInt8.ofNat (192 + r / 64) :: UInt8.ofNat (128 + r % 64) :: t) = _
      have e0 : (UInt8.ofNat (192 + r / 64)).toNat = 192 + r / 64 := toNat_ofNat (by omega)
      have e1 : (UInt8.ofNat (128 + r % 64)).toNat = 128 + r % 64 := toNat_ofNat (by omega)
      rw [dec_cons, e0, if_neg (by omega), if_neg (by omega), if_pos (by omega), tl_cons _ _ _ _ (by rw [e1]; omega), tl_zero, e1,
        show (192 + r / 64) % 32 * 64 + (128 + r % 64) % 64 = r from by omega, fin_ok (by omega) h]; rfl
    · split
      · show dec (UInt8.ofNat (224 + r / 4096) :: UInt8.ofNat (128 + r / 64 % 64) :: UInt8.ofNat (128 + r % 64) :: t) = _
        have e0 : (UInt8.ofNat (224 + r / 4096)).toNat = 224 + r / 4096 := toNat_ofNat (by omega)
        have e1 : (UInt8.ofNat (128 + r / 64 % 64)).toNat = 128 + r / 64 % 64 := toNat_ofNat (by omega)
        have e2 : (UInt8.ofNat (128 + r % 64)).toNat = 128 + r % 64 := toNat_ofNat (by omega)
        rw [dec_cons, e0, if_neg (by omega), if_neg (by omega), if_neg (by omega), if_pos (by omega), tl_cons _ _ _ _ (by rw [e1]; omega), tl_cons _ _ _ _ (by rw [e2]; omega), tl_zero, e1, e2,
          show ((224 + r / 4096) % 16 * 64 + (128 + r / 64 % 64) % 64) * 64 + (128 + r % 64) % 64 = r from by omega, fin_ok (by omega) h]; rfl
      · show dec (UInt8.ofNat (240 + r / 262144) :: UInt8.ofNat (128 + r / 4096 % 64) :: UInt8.ofNat (128 + r / 64 % 64) :: UInt8.ofNat (128 + r % 64) :: t) = _
        have e0 : (UInt8.ofNat (240 + r / 262144)).toNat = 240 + r / 262144 := toNat_ofNat (by omega)
        have e1 : (UInt8.ofNat (128 + r / 4096 % 64)).toNat = 128 + r / 4096 % 64 := toNat_ofNat (by omega)
        have e2 : (UInt8.ofNat (128 + r / 64 % 64)).toNat = 128 + r / 64 % 64 := toNat_ofNat (by omega)
        have e3 : (UInt8.ofNat (128 + r % 64)).toNat = 128 + r % 64 := toNat_ofNat (by omega)
        rw [dec_cons, e0, if_neg (by omega), if_neg (by omega), if_neg (by omega), if_neg (by omega), if_pos (by omega), tl_cons _ _ _ _ (by rw [e1]; omega), tl_cons _ _ _ _ (by rw [e2]; omega),
          tl_cons _ _ _ _ (by rw [e3]; omega), tl_zero, e1, e2, e3,
          show (((240 + r / 262144) % 8 * 64 + (128 + r / 4096 % 64) % 64) * 64 + (128 + r / 64 % 64) % 64) * 64 + (128 + r % 64) % 64 = r from by omega, fin_ok (by omega) h]; rfl
theorem runes_encs {xs : List Nat} (h : ∀ r ∈ xs, cp (r : Int) = true) : runes (encs xs) = some xs := by
  induction xs with
  | nil => rfl
  | cons r xs ih =>
    rw [encs_cons, runes_some (dec_enc (h r (by simp)) _), List.drop_left, ih (fun q hq => h q (by simp [hq]))]; rfl
/-- What is decoded is the shortest encoding of what it is decoded to. -/
theorem enc_dec {l : List UInt8} {r n : Nat} (h : dec l = some (r, n)) : l.take n = enc r ∧ n = (enc r).length := by
  have tcs : ∀ (m acc v : Nat) (b : UInt8) (t : List UInt8), tl (m + 1) acc (b :: t) = some v → (128 ≤ b.toNat ∧ b.toNat ≤ 191) ∧ tl m (acc * 64 + b.toNat % 64) t = some v := by
    intro m acc v b t h
    have h' : (if 128 ≤ b.toNat ∧ b.toNat ≤ 191 then tl m (acc * 64 + b.toNat % 64) t else none) = some v := h
    split at h'
    · exact ⟨by assumption, h'⟩
    · cases h'
  have tnil : ∀ (m acc v : Nat), tl (m + 1) acc [] = some v → False := by intro m acc v h; cases h
  have fs : ∀ (m least : Nat) (o : Option Nat), fin m least o = some (r, n) → ∃ v, o = some v ∧ least ≤ v ∧ v = r ∧ n = m + 1 := by
    intro m least o h
    cases o with
    | none => cases h
    | some v =>
      unfold fin at h
      simp only [] at h
      split at h
      · cases h
      · rename_i hc
        injection h with h; injection h with h1 h2
        exact ⟨v, rfl, by omega, h1, h2.symm⟩
  have u8 : ∀ (b : UInt8) (m : Nat), b.toNat = m → b = UInt8.ofNat m := by
    intro b m h; rw [← h]; simp
  cases l with
  | nil => cases h
  | cons b t =>
    have hb := UInt8.toNat_lt b
    rw [dec_cons] at h
    split at h
    · injection h with h; injection h with h1 h2
      subst h1; subst h2
      unfold enc
      rw [if_pos (by omega)]
      simp
    · split at h
      · cases h
      · split at h
        · obtain ⟨v, hv, hl, rfl, rfl⟩ := fs _ _ _ h
          cases t with
          | nil => exact (tnil _ _ _ hv).elim
          | cons b1 t =>
            obtain ⟨g1, hv⟩ := tcs _ _ _ _ _ hv
            rw [tl_zero] at hv; injection hv with hv
            unfold enc
            rw [if_neg (by omega), if_pos (by omega)]
            refine ⟨?_, rfl⟩
            rw [← u8 b _ (by omega), ← u8 b1 _ (by omega)]; rfl
        · split at h
          · obtain ⟨v, hv, hl, rfl, rfl⟩ := fs _ _ _ h
            cases t with
            | nil => exact (tnil _ _ _ hv).elim
            | cons b1 t =>
              obtain ⟨g1, hv⟩ := tcs _ _ _ _ _ hv
              cases t with
              | nil => exact (tnil _ _ _ hv).elim
              | cons b2 t =>
                obtain ⟨g2, hv⟩ := tcs _ _ _ _ _ hv
                rw [tl_zero] at hv; injection hv with hv
                unfold enc
                rw [if_neg (by omega), if_neg (by omega), if_pos (by omega)]
                refine ⟨?_, rfl⟩
                rw [← u8 b _ (by omega), ← u8 b1 _ (by omega), ← u8 b2 _ (by omega)]; rfl
          · split at h
            · obtain ⟨v, hv, hl, rfl, rfl⟩ := fs _ _ _ h
              cases t with
              | nil => exact (tnil _ _ _ hv).elim
              | cons b1 t =>
                obtain ⟨g1, hv⟩ := tcs _ _ _ _ _ hv
                cases t with
                | nil => exact (tnil _ _ _ hv).elim
                | cons b2 t =>
                  obtain ⟨g2, hv⟩ := tcs _ _ _ _ _ hv
                  cases t with
                  | nil => exact (tnil _ _ _ hv).elim
                  | cons b3 t =>
                    obtain ⟨g3, hv⟩ := tcs _ _ _ _ _ hv
                    rw [tl_zero] at hv; injection hv with hv
                    unfold enc
                    rw [if_neg (by omega), if_neg (by omega), if_neg (by omega)]
                    refine ⟨?_, rfl⟩
                    rw [← u8 b _ (by omega), ← u8 b1 _ (by omega), ← u8 b2 _ (by omega), ← u8 b3 _ (by omega)]; rfl
            · cases h
theorem encs_runes : ∀ (m : Nat) (l : List UInt8), l.length ≤ m → ∀ xs, runes l = some xs → encs xs = l ∧ ∀ r ∈ xs, cp (r : Int) = true := by
  intro m
  induction m with
  | zero =>
    intro l hl xs h
    have : l = [] := List.eq_nil_of_length_eq_zero (by omega)
    subst this; rw [runes_nil] at h; injection h with h; subst h; exact ⟨rfl, by simp⟩
  | succ m ih =>
    intro l hl xs h
    cases l with
    | nil => rw [runes_nil] at h; injection h with h; subst h; exact ⟨rfl, by simp⟩
    | cons b t =>
      cases hd : dec (b :: t) with
      | none => rw [runes_none (by simp) hd] at h; cases h
      | some rn =>
        obtain ⟨r, n⟩ := rn
        obtain ⟨hc, h1, _, h4⟩ := dec_some_cp hd
        obtain ⟨e1, e2⟩ := enc_dec hd
        rw [runes_some hd] at h
        cases hr : runes ((b :: t).drop n) with
        | none => rw [hr] at h; cases h
        | some ys =>
          rw [hr] at h; injection h with h; subst h
          obtain ⟨i1, i2⟩ := ih _ (by rw [List.length_drop]; omega) ys hr
          refine ⟨?_, ?_⟩
          · rw [encs_cons, i1, ← e1, List.take_append_drop]
          · intro q hq
            rcases List.mem_cons.1 hq with rfl | hq
            · exact hc
            · exact i2 q hq
theorem dec_cont {b : UInt8} {t : List UInt8} (h1 : 128 ≤ b.toNat) (h2 : b.toNat < 192) : dec (b :: t) = none := by
  rw [dec_cons, if_neg (by omega), if_pos h2]
end Go.Proofs.YtjafmdngbphacaaGreatDoor
namespace Go.Proofs.YtjafmdngbphacaaGreatDoor
open Go.RowKit Go.Lib
theorem bytes_extq {a b : ByteArray} (h : a.data.toList = b.data.toList) : a = b := by
  cases a with | mk x => cases b with | mk y => cases x; cases y; simpa using h
theorem app_dataq (a b : ByteArray) : (a ++ b).data.toList = a.data.toList ++ b.data.toList := by simp
theorem cut_backq (s sep : ByteArray) (i : Nat) (h : indexB s sep = i) : s.extract 0 i ++ sep ++ s.extract (i + sep.size) s.size = s := by
  have h' : index s.data.toList sep.data.toList = i := h
  rcases index_spec s.data.toList sep.data.toList with ⟨h1, _⟩ | ⟨j, h1, hj, ho, _⟩
  · rw [h'] at h1; omega
  · rw [h'] at h1
    obtain rfl : i = j := by omega
    obtain ⟨t, ht⟩ := List.isPrefixOf_iff_prefix.1 ho
    apply bytes_extq
    rw [app_dataq, app_dataq, extract_from_zero, extract_to_end, size_eq sep, ← List.drop_drop, ← ht, List.drop_left, List.append_assoc, ht, List.take_append_drop]
end Go.Proofs.YtjafmdngbphacaaGreatDoor
namespace Go.Proofs.YtjafmdngbphacaaGreatDoor
open Go.RowKit Go.Lib
theorem enc_tailb {r : Nat} (h : cp (r : Int) = true) {i : Nat} {c : UInt8} (hi : 1 ≤ i) (hc : (enc r)[i]? = some c) : 128 ≤ c.toNat ∧ c.toNat < 192 := by
  have hd := dec_enc h []
  rw [List.append_nil] at hd
  have hlt : i < (enc r).length := (List.getElem?_eq_some_iff.1 hc).1
  generalize enc r = e at hd hc hlt
  cases e with
  | nil => simp at hlt
  | cons b t =>
    rw [dec_cons] at hd
    have key : ∀ m least acc, fin m least (tl m acc t) = some (r, (b :: t).length) → 128 ≤ c.toNat ∧ c.toNat < 192 := by
      intro m least acc hf
      obtain ⟨h1, h2, _, _⟩ := fin_some hf
      obtain ⟨j, rfl⟩ : ∃ j, i = j + 1 := ⟨i - 1, by omega⟩
      have hm : m = t.length := by simp at h2; omega
      have hcm : c ∈ t.take m := by
        rw [hm, List.take_length]
        exact List.mem_of_getElem? (by simpa using hc)
      have := (tl_bytes _ _ _ _ h1).2 c hcm
      omega
    split at hd
    · injection hd with hd; injection hd with _ h2; simp at h2; rw [h2] at hlt; simp at hlt; omega
    split at hd
    · cases hd
    split at hd
    · exact key _ _ _ hd
    split at hd
    · exact key _ _ _ hd
    split at hd
    · exact key _ _ _ hd
    · cases hd
theorem enc_ne (r : Nat) : enc r ≠ [] := by
  intro h
  have := (enc_len r).1
  rw [h] at this
  simp at this
/-- What begins with the encodings of code points begins with these code points. -/
theorem encs_pre : ∀ (ys xs : List Nat) (B : List UInt8), (∀ r ∈ xs, cp (r : Int) = true) → (∀ r ∈ ys, cp (r : Int) = true) → encs xs = encs ys ++ B → ∃ vs, xs = ys ++ vs ∧ B = encs vs
  | [], xs, B, _, _, h => ⟨xs, rfl, by rw [encs_nil, List.nil_append] at h; exact h.symm⟩
  | y :: ys, [], B, _, _, h => by
    rw [encs_nil, encs_cons] at h
    have := congrArg List.length h
    have h2 := (enc_len y).1
    simp at this
    omega
  | y :: ys, x :: xs, B, hx, hy, h => by
    rw [encs_cons, encs_cons, List.append_assoc] at h
    have d1 := dec_enc (hx x List.mem_cons_self) (encs xs)
    have d2 := dec_enc (hy y List.mem_cons_self) (encs ys ++ B)
    rw [h, d2] at d1
    injection d1 with d1
    injection d1 with d1 _
    subst d1
    have h3 := List.append_cancel_left h
    obtain ⟨vs, rfl, hB⟩ := encs_pre ys xs B (fun r hr => hx r (List.mem_cons_of_mem _ hr)) (fun r hr => hy r (List.mem_cons_of_mem _ hr)) h3
    exact ⟨vs, rfl, hB⟩
/-- An occurrence begins where a code point begins. -/
theorem encs_cut (ys : List Nat) (B : List UInt8) (hy : ∀ r ∈ ys, cp (r : Int) = true) (hne : ys ≠ []) : ∀ (xs : List Nat) (A : List UInt8), (∀ r ∈ xs, cp (r : Int) = true) → encs xs = A ++ (encs ys ++ B) → ∃ us vs, xs = us ++ (ys ++ vs) ∧ A = encs us ∧ B = encs vs := by
  intro xs
  induction xs with
  | nil =>
    intro A hx h
    cases A with
    | nil =>
      rw [List.nil_append] at h
      obtain ⟨vs, h1, rfl⟩ := encs_pre ys [] B hx hy h
      exact ⟨[], vs, h1, rfl, rfl⟩
    | cons a A => rw [encs_nil] at h; simp at h
  | cons x xs ih =>
    intro A hx h
    cases A with
    | nil =>
      rw [List.nil_append] at h
      obtain ⟨vs, h1, rfl⟩ := encs_pre ys (x :: xs) B hx hy h
      exact ⟨[], vs, h1, rfl, rfl⟩
    | cons a A =>
      have hcx := hx x List.mem_cons_self
      rw [encs_cons] at h
      by_cases hl : (enc x).length ≤ (a :: A).length
      · have h1 := List.append_eq_append_iff.1 h
        obtain ⟨A', hA⟩ : ∃ A', a :: A = enc x ++ A' := by
          rcases h1 with ⟨t, e1, _⟩ | ⟨t, e1, _⟩
          · exact ⟨t, e1⟩
          · have : t = [] := by
              have := congrArg List.length e1
              rw [List.length_append] at this
              exact List.eq_nil_of_length_eq_zero (by omega)
            subst this
            exact ⟨[], by rw [e1]; simp⟩
        rw [hA, List.append_assoc] at h
        have h3 := List.append_cancel_left h
        obtain ⟨us, vs, rfl, rfl, e3⟩ := ih A' (fun r hr => hx r (List.mem_cons_of_mem _ hr)) h3
        exact ⟨x :: us, vs, rfl, by rw [hA, encs_cons], e3⟩
      · exfalso
        obtain ⟨y, ys', rfl⟩ : ∃ y ys', ys = y :: ys' := by
          cases ys with
          | nil => exact absurd rfl hne
          | cons y ys' => exact ⟨y, ys', rfl⟩
        obtain ⟨c, t, hc⟩ : ∃ c t, enc y = c :: t := by
          cases he : enc y with
          | nil => exact absurd he (enc_ne y)
          | cons c t => exact ⟨c, t, rfl⟩
        have h5 : (enc x)[(a :: A).length]? = some c := by
          have e1 : (enc x ++ encs xs)[(a :: A).length]? = (enc x)[(a :: A).length]? := List.getElem?_append_left (by omega)
          rw [← e1, h, List.getElem?_append_right (Nat.le_refl _), Nat.sub_self, encs_cons, hc]
          rfl
        have h6 := enc_tailb hcx (by simp) h5
        have d := dec_enc (hy y List.mem_cons_self) []
        rw [List.append_nil, hc, dec_cont h6.1 h6.2] at d
        cases d
end Go.Proofs.YtjafmdngbphacaaGreatDoor
namespace Go.Proofs.YtjafmdngbphacaaGreatDoor
open Go.RowKit Go.Lib
def okL (s : ByteArray) : Prop := (runes s.data.toList).isSome = true
theorem okL_encs {s : ByteArray} (h : okL s) : ∃ xs, encs xs = s.data.toList ∧ ∀ r ∈ xs, cp (r : Int) = true := by
  unfold okL at h
  cases hq : runes s.data.toList with
  | none => rw [hq] at h; cases h
  | some xs => exact ⟨xs, encs_runes _ _ (Nat.le_refl _) xs hq⟩
theorem okL_of {s : ByteArray} {xs : List Nat} (h : encs xs = s.data.toList) (hx : ∀ r ∈ xs, cp (r : Int) = true) : okL s := by
  unfold okL
  rw [← h, runes_encs hx]
  rfl
/-- Around an occurrence. -/
theorem okL_cut {s sep : ByteArray} (hs : okL s) (hp : okL sep) (h1 : 1 ≤ sep.size) {i : Nat} (hi : indexB s sep = i) : okL (s.extract 0 i) ∧ okL (s.extract (i + sep.size) s.size) := by
  obtain ⟨xs, ex, hx⟩ := okL_encs hs
  obtain ⟨ys, ey, hy⟩ := okL_encs hp
  have hne : ys ≠ [] := by
    rintro rfl
    rw [encs_nil] at ey
    have := congrArg List.length ey
    have e : sep.data.toList.length = sep.size := by simp
    simp at this
    omega
  have hc := cut_backq s sep i hi
  have hl : encs xs = (s.extract 0 i).data.toList ++ (encs ys ++ (s.extract (i + sep.size) s.size).data.toList) := by
    rw [ex, ey, ← List.append_assoc]
    have := congrArg (fun b : ByteArray => b.data.toList) hc
    simp only [app_dataq] at this
    exact this.symm
  obtain ⟨us, vs, rfl, hA, hB⟩ := encs_cut ys _ hy hne xs _ hx hl
  exact ⟨okL_of hA.symm fun r hr => hx r (List.mem_append_left _ hr), okL_of hB.symm fun r hr => hx r (List.mem_append_right _ (List.mem_append_right _ hr))⟩
theorem split_okL {sep : ByteArray} (hp : okL sep) (h1 : 1 ≤ sep.size) : ∀ (k : Nat) (s : ByteArray), okL s → ∀ x ∈ splitB sep 0 k s, okL x ∧ x.size ≤ s.size
  | 0, s, hs, x, hx => by
    rw [splitB_zero] at hx
    rcases List.mem_singleton.1 hx with rfl
    exact ⟨hs, Nat.le_refl _⟩
  | k + 1, s, hs, x, hx => by
    rcases indexB_cases s sep with hix | ⟨i, hix, hroom⟩
    · rw [splitB_miss sep 0 _ s hix] at hx
      rcases List.mem_singleton.1 hx with rfl
      exact ⟨hs, Nat.le_refl _⟩
    · rw [splitB_hit sep 0 k s i hix, Nat.add_zero] at hx
      obtain ⟨ha, hb⟩ := okL_cut hs hp h1 hix
      rcases List.mem_cons.1 hx with rfl | hx
      · exact ⟨ha, by simp; omega⟩
      · obtain ⟨h2, h3⟩ := split_okL hp h1 k _ hb x hx
        refine ⟨h2, Nat.le_trans h3 ?_⟩
        simp
/-- No occurrence. -/
def Free (s sep : List UInt8) : Prop := ∀ j, occAt s sep j = false
theorem free_of {s sep : ByteArray} (h1 : 1 ≤ sep.size) (h : indexB s sep = -1) : Free s.data.toList sep.data.toList := by
  have h' : index s.data.toList sep.data.toList = -1 := h
  rcases index_spec s.data.toList sep.data.toList with ⟨_, h2⟩ | ⟨j, h2, _⟩
  · intro j
    by_cases hj : j ≤ s.data.toList.length
    · exact h2 j hj
    · cases ho : occAt s.data.toList sep.data.toList j with
      | false => rfl
      | true =>
        rcases occAt_room ho with h3 | h3
        · omega
        · have e : sep.data.toList.length = sep.size := by simp
          rw [h3] at e
          simp at e
          omega
  · rw [h'] at h2; omega
/-- In front of the first occurrence there is none. -/
theorem free_front {s sep : ByteArray} (h1 : 1 ≤ sep.size) {i : Nat} (hi : indexB s sep = i) : Free (s.extract 0 i).data.toList sep.data.toList := by
  have h' : index s.data.toList sep.data.toList = i := hi
  have e : sep.data.toList.length = sep.size := by simp
  rcases index_spec s.data.toList sep.data.toList with ⟨h2, _⟩ | ⟨j, h2, hj, ho, hno⟩
  · rw [h'] at h2; omega
  · rw [h'] at h2
    obtain rfl : i = j := by omega
    intro p
    cases hp : occAt (s.extract 0 i).data.toList sep.data.toList p with
    | false => rfl
    | true =>
      exfalso
      have el : (s.extract 0 i).data.toList = s.data.toList.take i := by rw [Lib.extract_data]; simp
      rw [el] at hp
      rcases occAt_room hp with h3 | h3
      · rw [List.length_take] at h3
        have hlt : p < i := by omega
        have := hno p hlt
        unfold occAt at hp this
        rw [List.isPrefixOf_iff_prefix] at hp
        have hp2 : sep.data.toList <+: s.data.toList.drop p := by
          obtain ⟨t, ht⟩ := hp
          rw [List.drop_take] at ht
          exact ⟨t ++ (s.data.toList.drop p).drop (i - p), by rw [← List.append_assoc, ht, List.take_append_drop]⟩
        rw [List.isPrefixOf_iff_prefix.2 hp2] at this
        cases this
      · rw [h3] at e
        simp at e
        omega
theorem split_free {sep : ByteArray} (h1 : 1 ≤ sep.size) : ∀ (k : Nat) (s : ByteArray), countB s sep = k → ∀ x ∈ splitB sep 0 k s, Free x.data.toList sep.data.toList
  | 0, s, hk, x, hx => by
    rw [splitB_zero] at hx
    rcases List.mem_singleton.1 hx with rfl
    rcases indexB_cases x sep with hix | ⟨i, hix, _⟩
    · exact free_of h1 hix
    · rw [countB_hit x sep i h1 hix] at hk
      omega
  | k + 1, s, hk, x, hx => by
    rcases indexB_cases s sep with hix | ⟨i, hix, hroom⟩
    · rw [countB_miss s sep hix] at hk
      omega
    · rw [splitB_hit sep 0 k s i hix, Nat.add_zero] at hx
      rw [countB_hit s sep i h1 hix] at hk
      rcases List.mem_cons.1 hx with rfl | hx
      · exact free_front h1 hix
      · exact split_free h1 k _ (by omega) x hx
/-- Code points that occur, occur as bytes. -/
theorem free_runes {s sep : List UInt8} {xs ys : List Nat} (hs : runes s = some xs) (hp : runes sep = some ys) (hf : Free s sep) (a : Nat) : ¬ ys <+: xs.drop a := by
  intro h
  obtain ⟨vs, hv⟩ := h
  have e1 := (encs_runes _ s (Nat.le_refl _) xs hs).1
  have e2 := (encs_runes _ sep (Nat.le_refl _) ys hp).1
  have e3 : xs = xs.take a ++ (ys ++ vs) := by rw [hv, List.take_append_drop]
  have e4 : s = encs (xs.take a) ++ (sep ++ encs vs) := by rw [← e1, ← e2]; conv => lhs; rw [e3]; rw [encs_append, encs_append]
  have h2 := hf (encs (xs.take a)).length
  unfold occAt at h2
  rw [e4, List.drop_left, List.isPrefixOf_iff_prefix.2 ⟨encs vs, rfl⟩] at h2
  cases h2
end Go.Proofs.YtjafmdngbphacaaGreatDoor
namespace Go.Proofs.YtjafmdngbphacaaGreatDoor
open Go.RowKit Go.Sort
theorem size0 {s : ByteArray} (h : s.size = 0) : s = ⟨#[]⟩ := by
  obtain ⟨a⟩ := s
  have : a = #[] := Array.size_eq_zero_iff.1 h
  rw [this]
end Go.Proofs.YtjafmdngbphacaaGreatDoor

namespace Go.Proofs
open Go.Shelf Go.RowKit
def Tryz.spl_ren : Go.Shelf.Ren := ⟨fun | 146 => 91 | 221 => 139 | 268 => 178 | 138 => 179 | 143 => 180 | 195 => 221 | 197 => 222 | 218 => 223 | 219 => 224 | 260 => 259 | 217 => 260 | 225 => 261 | 224 => 262 | 267 => 263 | 266 => 302 | 314 => 303 | n => n, fun | 9 => 9 | 31 => 22 | 3 => 3 | 4 => 4 | 0 => 0 | 105 => 176 | 21 => 21 | 5 => 5 | 46 => 111 | 119 => 230 | 139 => 233 | 138 => 232 | 146 => 200 | 51 => 199 | n => n, fun | 1 => 0 | 3 => 1 | 4 => 2 | n => n⟩
theorem Tryz.spl : Go.Proofs.LaysM.n146 Tryz.prog Tryz.spl_ren := {
  mixed := by kernel_rfl
  f138 := Tryz.func179.trans (congrArg some (by kernel_rfl))
  f143 := Tryz.func180.trans (congrArg some (by kernel_rfl))
  f146 := Tryz.func91.trans (congrArg some (by kernel_rfl))
  f195 := Tryz.func221.trans (congrArg some (by kernel_rfl))
  f197 := Tryz.func222.trans (congrArg some (by kernel_rfl))
  f217 := Tryz.func260.trans (congrArg some (by kernel_rfl))
  f218 := Tryz.func223.trans (congrArg some (by kernel_rfl))
  f219 := Tryz.func224.trans (congrArg some (by kernel_rfl))
  f221 := Tryz.func139.trans (congrArg some (by kernel_rfl))
  f224 := Tryz.func262.trans (congrArg some (by kernel_rfl))
  f225 := Tryz.func261.trans (congrArg some (by kernel_rfl))
  f260 := Tryz.func259.trans (congrArg some (by kernel_rfl))
  f266 := Tryz.func302.trans (congrArg some (by kernel_rfl))
  f267 := Tryz.func263.trans (congrArg some (by kernel_rfl))
  f268 := Tryz.func178.trans (congrArg some (by kernel_rfl))
  f314 := Tryz.func303.trans (congrArg some (by kernel_rfl))
  t0 := Tryz.underlying0
  a0 := Tryz.isAgg0
  z0 := Tryz.sizeOf0
  v0 := Tryz.zeroValue0
  t3 := Tryz.underlying3
  a3 := Tryz.isAgg3
  z3 := Tryz.sizeOf3
  v3 := Tryz.zeroValue3
  t4 := Tryz.underlying4
  a4 := Tryz.isAgg4
  z4 := Tryz.sizeOf4
  v4 := Tryz.zeroValue4
  t5 := Tryz.underlying5
  a5 := Tryz.isAgg5
  z5 := Tryz.sizeOf5
  v5 := Tryz.zeroValue5
  t9 := Tryz.underlying9
  a9 := Tryz.isAgg9
  z9 := Tryz.sizeOf9
  v9 := Tryz.zeroValue9
  t21 := Tryz.underlying21
  a21 := Tryz.isAgg21
  z21 := Tryz.sizeOf21
  v21 := Tryz.zeroValue21
  t31 := Tryz.underlying22
  a31 := Tryz.isAgg22
  z31 := Tryz.sizeOf22
  v31 := Tryz.zeroValue22
  t46 := Tryz.underlying111
  a46 := Tryz.isAgg111
  z46 := Tryz.sizeOf111
  v46 := Tryz.zeroValue111
  t51 := Tryz.underlying199
  a51 := Tryz.isAgg199
  z51 := Tryz.sizeOf199
  v51 := Tryz.zeroValue199
  t105 := Tryz.underlying176
  a105 := Tryz.isAgg176
  z105 := Tryz.sizeOf176
  v105 := Tryz.zeroValue176
  t119 := Tryz.underlying230
  a119 := Tryz.isAgg230
  z119 := Tryz.sizeOf230
  t138 := Tryz.underlying232
  a138 := Tryz.isAgg232
  z138 := Tryz.sizeOf232
  v138 := Tryz.zeroValue232
  t139 := Tryz.underlying233
  a139 := Tryz.isAgg233
  z139 := Tryz.sizeOf233
  v139 := Tryz.zeroValue233
  t146 := Tryz.underlying200
  a146 := Tryz.isAgg200
  z146 := Tryz.sizeOf200
  v146 := Tryz.zeroValue200
  g1 := by kernel_rfl
  g3 := by kernel_rfl
  g4 := by kernel_rfl
  i0 := by kernel_rfl
  i3 := by kernel_rfl
  i4 := by kernel_rfl
  i5 := by kernel_rfl
  i9 := by kernel_rfl
  i21 := by kernel_rfl
  i31 := by kernel_rfl
  i46 := by kernel_rfl
  i51 := by kernel_rfl
  i105 := by kernel_rfl
  i138 := by kernel_rfl
  i139 := by kernel_rfl
  i146 := by kernel_rfl
  m1 := by kernel_rfl
  s1_3 := fun w h => Go.Proofs.cell_of_shapedOpen_int (zero := #[.int .i64 0]) (t := 3) h (of_decide_eq_true (by kernel_rfl)) (by kernel_rfl) rfl (by kernel_rfl) (by kernel_rfl) Tryz.underlying3
  m3 := by kernel_rfl
  m4 := by kernel_rfl }


end Go.Proofs
namespace Go.Proofs.YtjafmdngbphacaaGreatDoor
open Go.RowKit
theorem pieces_len (s sep : ByteArray) (h : 1 ≤ sep.size) : (pieces s sep).length = Lib.countB s sep + 1 := Lib.splitB_all sep h 0 _ s rfl
theorem split_lib (s sep : ByteArray) (w : World) (hm : MaxL w) (hs : s.size < 4294967281) (h1 : 1 ≤ sep.size) :
    Calls Tryz.prog 91 #[.string s, .string sep] w fun e w' => e = .returned (.slice (some ⟨w.heap.size, 0, none⟩) (pieces s sep).length (pieces s sep).length) ∧ w' = w.alloc (.cells (kv (pieces s sep)).toArray 9) := by
  obtain ⟨m, hm⟩ := hm
  rw [pieces_len s sep h1]
  exact Go.Proofs.Any.strings_Split { Tryz.spl with } Tryz.spl.i9 s sep m w hs hm h1
end Go.Proofs.YtjafmdngbphacaaGreatDoor

namespace Go.Proofs.YtjafmdngbphacaaGreatDoor
open Go.RowKit Go.Sort
/-- What Split hands back. -/
def SplitPost (l : List ByteArray) (ok : Bool) (w : World) (e : Ending) (w' : World) : Prop :=
  Below w.heap.size w w' ∧ ∃ A c, e = .returned (.tuple #[.slice A l.length c, .bool ok]) ∧ Rs w' (fun b => w.heap.size ≤ b ∧ b < w'.heap.size) A (kv l) ∧ (A = none → c = 0) ∧ l.length ≤ c ∧ c ≤ maxLen
theorem rs_newbox {w : World} {t : TypeId} {l : List ByteArray} : Rs (w.alloc (.cells (kv l).toArray t)) (fun b => w.heap.size ≤ b ∧ b < (w.alloc (.cells (kv l).toArray t)).heap.size) (some ⟨w.heap.size, 0, none⟩) (kv l) := by
  intro j u hj
  refine ⟨w.heap.size, 0, rfl, ⟨Nat.le_refl _, by simp⟩, ?_⟩
  rw [Nat.zero_add]
  exact (Box.laid w t (kv l).toArray).cell (by simpa using hj)
theorem splitB_le (s sep : ByteArray) (h : 1 ≤ sep.size) : (pieces s sep).length ≤ s.size + 1 := by
  rw [pieces_len s sep h]
  have := Lib.countB_le sep h s.size s (Nat.le_refl _)
  omega
set_option maxHeartbeats 1000000 in
set_option maxRecDepth 100000 in
theorem split_sep (s sep : ByteArray) (w : World) (hm : MaxL w) (hs : s.size ≤ 1048576) (hsep : sep.size ≤ 1048576) (h1 : 1 ≤ sep.size) (ho : okS s = true) (hp : okS sep = true) (hne : s.size ≠ 0) :
    Calls Tryz.prog 23 #[.string s, .string sep] w (SplitPost (pieces s sep) true w) := by
  have hv := Lib.hid (fun W => val_any s (by unfold maxLen; omega) W)
  have hu := Lib.hid (fun W => val_any sep (by unfold maxLen; omega) W)
  have e1 : (runes s.data.toList).isSome = true := ho
  have e2 : (runes sep.data.toList).isSome = true := hp
  rw [e1] at hv
  rw [e2] at hu
  have hl := Lib.hid (split_lib s sep w hm (by omega) h1)
  have hle := splitB_le s sep h1
  have hE : s.toList.isEmpty = false := by
    cases h : s.toList.isEmpty with
    | false => rfl
    | true =>
      rw [Lib.toList_data] at h
      have h3 : s.data.toList = [] := by simpa using h
      exact absurd (by rw [Lib.size_eq, h3]; rfl) hne
  generalize pieces s sep = l at hl hle ⊢
  clear e1 e2 ho hp
  go_enter Tryz.func23, Tryz.ntmps23
  go_wp2_with (first
    | (go_at_call 90; with_reducible refine (hv.out _).mono ?_; rintro e1 w1 ⟨rfl, rfl⟩)
    | (go_at_call 90; with_reducible refine (hu.out _).mono ?_; rintro e2 w2 ⟨rfl, rfl⟩)
    | (go_at_call 91; refine hl.out.mono ?_; rintro e3 w3 ⟨rfl, rfl⟩))
  go_ret2
  refine ⟨below1 _ _, _, _, rfl, rs_newbox, (fun h => by cases h), Nat.le_refl _, by unfold maxLen; omega⟩
end Go.Proofs.YtjafmdngbphacaaGreatDoor

namespace Go.Proofs.YtjafmdngbphacaaGreatDoor
open Go.Shelf Go.RowKit Go.Lib Go.Proofs
variable {P : Program} {ρ : Ren}
theorem decodeN_le (n b0 b1 b2 b3 : Nat) (hn : 1 ≤ n) : (decodeN n b0 b1 b2 b3).2 ≤ n := by
  unfold decodeN
  repeat' split
  all_goals (simp only; omega)
theorem decodeGo_le (s : ByteArray) : (decodeGo s).2 ≤ s.size := by
  unfold decodeGo
  split
  · simp
  · rw [decode_at]; exact decodeN_le _ _ _ _ _ (by omega)
/-- The n pieces that explode makes of s. -/
def expl : Nat → ByteArray → List ByteArray
  | 0, _ => []
  | 1, s => [s]
  | n + 2, s => s.extract 0 (decodeGo s).2 :: expl (n + 1) (s.extract (decodeGo s).2 s.size)
theorem expl_length : ∀ n s, (expl n s).length = n
  | 0, _ => rfl
  | 1, _ => rfl
  | n + 2, s => by rw [expl, List.length_cons, expl_length (n + 1)]
theorem below_al (w : World) (o : Obj) : Below w.heap.size w (w.alloc o) := (Below.refl _ _).alloc (Nat.le_refl _) _
theorem below_iter (w : World) (s : ByteArray) (pos : Nat) : Below w.heap.size w (w.iter s pos) := (Below.refl _ _).alloc (Nat.le_refl _) _
/-- What explode hands back. -/
def ExpPost (t : TypeId) (l : List ByteArray) (w : World) (e : Ending) (w' : World) : Prop :=
  ∃ g, w.heap.size ≤ g ∧ e = .returned (.slice (some ⟨g, 0, none⟩) l.length l.length) ∧ Below w.heap.size w w' ∧ Box w' g t (kv l).toArray
def ExpN (t : TypeId) (n : Nat) (l : List ByteArray) (w : World) (e : Ending) (w' : World) : Prop :=
  ∃ g, w.heap.size ≤ g ∧ e = .returned (.slice (some ⟨g, 0, none⟩) n n) ∧ Below w.heap.size w w' ∧ Box w' g t (kv l).toArray
theorem expN_post {t : TypeId} {l : List ByteArray} {n : Nat} {w : World} (hl : l.length = n) {e : Ending} {w' : World} (h : ExpN t n l w e w') : ExpPost t l w e w' := by
  subst hl
  exact h
set_option maxHeartbeats 8000000 in
set_option maxRecDepth 1000000 in
theorem explode_gen (L : Lays.n268 P ρ) (hi9 : (P.info? (ρ.t 9)).map (fun i => (i.zero, i.size, i.bytes)) = some (some (.string ByteArray.empty), 1, 16)) (s : ByteArray) (n : Int) (w : World) (hn : n < 0) (hs : s.size < 4294967281) (hT : Lib.Utf8Tabs (ρ.g 3) (ρ.g 4) w) :
    Calls P (ρ.f 268) #[.string s, .int .i64 n] w (ExpPost (ρ.t 9) (expl (runeCount s) s) w) := by
  refine Calls.mono (R := ExpN (ρ.t 9) (runeCount s) (expl (runeCount s) s) w) ?_ fun e w' h => expN_post (expl_length _ _) h
  have hR := Any.utf8_RuneCountInString { L with } s w (by omega)
  have hle := runeCount_le s
  generalize hN : runeCount s = N at hR hle ⊢
  have hmk := run_make_row' (P := P) (ρ.t 31) (ρ.t 9) (.string ByteArray.empty) 16 L.t31 hi9 rfl .i64 .i64 N (by omega) (by omega)
  have t3 := L.t3; have a3 := L.a3; have z3 := L.z3; have v3 := L.v3
  have t4 := L.t4; have a4 := L.a4; have z4 := L.z4; have v4 := L.v4
  have t9 := L.t9; have a9 := L.a9; have z9 := L.z9; have v9 := L.v9
  have t21 := L.t21; have a21 := L.a21; have z21 := L.z21; have v21 := L.v21
  have t31 := L.t31; have a31 := L.a31; have z31 := L.z31; have v31 := L.v31
  have e195 : ∀ args w, (callFunc (ρ.f 195) args).run P w = .ok (.enter (ρ.f 195) args) w := enters_of L.f195 (by kernel_rfl) rfl
  have e197 : ∀ args w, (callFunc (ρ.f 197) args).run P w = .ok (.enter (ρ.f 197) args) w := enters_of L.f197 (by kernel_rfl) rfl
  have HT := Lib.hid hT
  clear hT
  go_enter L.f268, Body.n268_ntmps ρ
  go_wp2_with (go_at_fn (ρ.f 195); refine hR.mono ?_; rintro e W1 ⟨rfl, pos, hw⟩; have HB1 : Hid (Below w.heap.size w W1) := Lib.hid (by rw [hw]; exact below_iter w s pos); clear hw)
  clear hR hmk
  rw [← Lib.cellsOf_nil]
  have HT1 : Hid (Lib.Utf8Tabs (ρ.g 3) (ρ.g 4) W1) := Lib.hid (tabs_below HT.out HB1.out)
  go_loopg [0, 7] (N - 1) (fun g s0 s7 wx => ∃ (done : List ByteArray) (R : ByteArray), s0 = .string R ∧ s7 = .int .i64 done.length ∧ done.length + g = N - 1 ∧ R.size ≤ s.size ∧
    Aside (expl N s = done ++ expl (N - done.length) R) ∧ Aside (Below W1.heap.size W1 wx ∧ Box wx W1.heap.size (ρ.t 9) (Lib.cellsOf done N)))
  case atStart => exact ⟨[], s, rfl, rfl, by simp, Nat.le_refl _, rfl, below_al _ _, Box.laid _ _ _⟩
  case round =>
    obtain ⟨done, R, rfl, rfl, hdg, hRs, HD, HX⟩ := hrel
    cases gk with
    | zero =>
      have hlt : ¬ (((done.length : Nat) : Int) < (N : Int) - 1) := by omega
      by_cases h0 : N = 0
      · have hz : ¬ ((0 : Int) < (N : Int)) := by omega
        have h2 := HX.out.2
        have hd0 : done = [] := List.length_eq_zero_iff.1 (by omega)
        subst hd0
        subst h0
        have HX2 := Lib.hid h2
        clear h2
        go_wp2
        go_ret
        refine ⟨W1.heap.size, HB1.out.size, rfl, chain HB1.out HX.out.1, ?_⟩
        exact HX2.out
      · have hz : (0 : Int) < (N : Int) := by omega
        have hidx : (N : Int) - 1 = ((done.length : Nat) : Int) := by omega
        have hnext := HX.out.2.cell (i := done.length) (Lib.cellsOf_next (by omega))
        have hfree := HX.out.2.free done.length
        have hdz : ((done.length : Nat) : Int) < (N : Int) := by omega
        go_wp2
        go_ret
        refine ⟨W1.heap.size, HB1.out.size, rfl, chain HB1.out (HX.out.1.setCell (Nat.le_refl _) _), ?_⟩
        have h2 := HX.out.2.put done.length (.string R)
        rw [Lib.cellsOf_set (by omega)] at h2
        have e1 : expl N s = done ++ [R] := by
          have := HD.out
          rw [this, show N - done.length = 1 from by omega, expl]
        rw [e1]
        have e2 := Lib.cellsOf_full (done ++ [R])
        rw [show (done ++ [R]).length = N from by simp; omega] at e2
        rw [e2] at h2
        exact h2
    | succ g =>
      have hlt : ((done.length : Nat) : Int) < (N : Int) - 1 := by omega
      have hd : done.length < N := by omega
      have hnext := fun W (hb : Below wr.heap.size wr W) => (HX.out.2.below hb HX.out.2.lt).cell (i := done.length) (Lib.cellsOf_next hd)
      have hfree := fun W (hb : Below wr.heap.size wr W) => (HX.out.2.below hb HX.out.2.lt).free done.length
      have hnx := Lib.hid hnext
      have hfr := Lib.hid hfree
      clear hnext hfree
      have hdz : ((done.length : Nat) : Int) < (N : Int) := by omega
      have hdl := decodeGo_le R
      have c := Any.utf8_DecodeRuneInString { L with } R wr (tabs_below HT1.out HX.out.1)
      have hx : expl (N - done.length) R = R.extract 0 (decodeGo R).2 :: expl (N - done.length - 1) (R.extract (decodeGo R).2 R.size) := by
        obtain ⟨m, hm⟩ : ∃ m, N - done.length = m + 2 := ⟨N - done.length - 2, by omega⟩
        rw [hm, expl]
        rfl
      have HDx := Lib.hid hx
      clear hx
      generalize (decodeGo R).2 = k at hdl c HDx
      generalize (decodeGo R).1 = r at c
      go_wp2_with (go_at_fn (ρ.f 197); refine c.mono ?_; rintro e w' ⟨rfl, hb'⟩; have hn1 := hnx.out _ hb'; have hf1 := hfr.out _ hb')
      go_roundg g
      case measure => omega
      case rel =>
        refine ⟨done ++ [R.extract 0 k], R.extract k R.size, rfl, by simp, by simp; omega, by rw [ByteArray.size_extract]; simp; omega, ?_, ?_, ?_⟩
        · show _ = _
          have := HD.out
          rw [this, HDx.out, List.append_assoc, List.length_append, List.length_singleton]
          rfl
        · exact (HX.out.1.trans (hb'.mono HX.out.1.size)).setCell (Nat.le_refl _) _
        · rw [← Lib.cellsOf_set hd]
          exact (HX.out.2.below hb' HX.out.2.lt).put _ _
set_option maxHeartbeats 2000000 in
set_option maxRecDepth 1000000 in
theorem genSplit_gen (L : Lays.n221 P ρ) (hi9 : (P.info? (ρ.t 9)).map (fun i => (i.zero, i.size, i.bytes)) = some (some (.string ByteArray.empty), 1, 16)) (s sep : ByteArray) (sv n : Int) (w : World) (h0 : sep.size = 0) (hn : n < 0) (hs : s.size < 4294967281) (hT : Lib.Utf8Tabs (ρ.g 3) (ρ.g 4) w) :
    Calls P (ρ.f 221) #[.string s, .string sep, .int .i64 sv, .int .i64 n] w (ExpPost (ρ.t 9) (expl (runeCount s) s) w) := by
  have c := explode_gen { L with } hi9 s n w hn hs hT
  clear hT
  generalize expl (runeCount s) s = l at c ⊢
  have hne : (n == 0) = false := beq_eq_false_iff_ne.2 (by omega)
  have hse : sep.toList.isEmpty = true := by
    have hnil : sep.data.toList = [] := List.length_eq_zero_iff.1 (by rw [← Lib.size_eq]; exact h0)
    rw [Lib.toList_data, hnil]
    rfl
  have t3 := L.t3; have a3 := L.a3; have z3 := L.z3; have v3 := L.v3
  have t4 := L.t4; have a4 := L.a4; have z4 := L.z4; have v4 := L.v4
  have t9 := L.t9; have a9 := L.a9; have z9 := L.z9; have v9 := L.v9
  have t31 := L.t31; have a31 := L.a31; have z31 := L.z31; have v31 := L.v31
  have e268 : ∀ args w, (callFunc (ρ.f 268) args).run P w = .ok (.enter (ρ.f 268) args) w := enters_of L.f268 (by kernel_rfl) rfl
  go_enter L.f221, Body.n221_ntmps ρ
  go_wp2_with (go_at_fn (ρ.f 268); refine c.mono ?_; rintro e w' ⟨g, hg, rfl, hb, hx⟩)
  go_ret
  exact ⟨g, hg, rfl, hb, hx⟩
set_option maxHeartbeats 1000000 in
theorem split_empty_gen (L : Lays.n146 P ρ) (hi9 : (P.info? (ρ.t 9)).map (fun i => (i.zero, i.size, i.bytes)) = some (some (.string ByteArray.empty), 1, 16)) (s sep : ByteArray) (w : World) (h0 : sep.size = 0) (hs : s.size < 4294967281) (hT : Lib.Utf8Tabs (ρ.g 3) (ρ.g 4) w) :
    Calls P (ρ.f 146) #[.string s, .string sep] w (ExpPost (ρ.t 9) (expl (runeCount s) s) w) := by
  have c := genSplit_gen { L with } hi9 s sep 0 (-1) w h0 (by decide) hs hT
  clear hT
  generalize expl (runeCount s) s = l at c ⊢
  have t3 := L.t3; have a3 := L.a3; have z3 := L.z3; have v3 := L.v3
  have t9 := L.t9; have a9 := L.a9; have z9 := L.z9; have v9 := L.v9
  have t31 := L.t31; have a31 := L.a31; have z31 := L.z31; have v31 := L.v31
  have e221 : ∀ args w, (callFunc (ρ.f 221) args).run P w = .ok (.enter (ρ.f 221) args) w := enters_of L.f221 (by kernel_rfl) rfl
  go_enter L.f146, Body.n146_ntmps ρ
  go_wp2_with (go_at_fn (ρ.f 221); refine c.mono ?_; rintro e w' ⟨g, hg, rfl, hb, hx⟩)
  go_ret
  exact ⟨g, hg, rfl, hb, hx⟩
end Go.Proofs.YtjafmdngbphacaaGreatDoor

namespace Go.Proofs.YtjafmdngbphacaaGreatDoor
open Go.RowKit Go.Lib
theorem fold_cat (sep : ByteArray) : ∀ (r : List ByteArray) (a b : ByteArray), r.foldl (joinAt sep) (a ++ b) = a ++ r.foldl (joinAt sep) b
  | [], _, _ => rfl
  | y :: r, a, b => by
    rw [List.foldl_cons, List.foldl_cons]
    have : joinAt sep (a ++ b) y = a ++ joinAt sep b y := by unfold joinAt; simp only [ByteArray.append_assoc]
    rw [this, fold_cat sep r]
theorem jn_cons (sep x y : ByteArray) (r : List ByteArray) : jn sep (x :: y :: r) = x ++ sep ++ jn sep (y :: r) := by
  show r.foldl (joinAt sep) (joinAt sep x y) = x ++ sep ++ r.foldl (joinAt sep) y
  exact fold_cat sep r (x ++ sep) y
theorem splitB_ne (sep : ByteArray) (save k : Nat) (s : ByteArray) : ∃ x r, splitB sep save k s = x :: r := by
  cases k with
  | zero => exact ⟨s, [], rfl⟩
  | succ k =>
    unfold splitB
    split
    · exact ⟨_, _, rfl⟩
    · exact ⟨_, _, rfl⟩
theorem cut_back (s sep : ByteArray) (i : Nat) (h : indexB s sep = i) : s.extract 0 i ++ sep ++ s.extract (i + sep.size) s.size = s := by
  have h' : index s.data.toList sep.data.toList = i := h
  rcases index_spec s.data.toList sep.data.toList with ⟨h1, _⟩ | ⟨j, h1, hj, ho, _⟩
  · rw [h'] at h1; omega
  · rw [h'] at h1
    obtain rfl : i = j := by omega
    obtain ⟨t, ht⟩ := List.isPrefixOf_iff_prefix.1 ho
    apply bytes_ext
    rw [app_data, app_data, extract_from_zero, extract_to_end, size_eq sep, ← List.drop_drop, ← ht, List.drop_left, List.append_assoc, ht, List.take_append_drop]
theorem split_join (sep : ByteArray) : ∀ (k : Nat) (s : ByteArray), jn sep (splitB sep 0 k s) = s
  | 0, _ => rfl
  | k + 1, s => by
    rcases indexB_cases s sep with hix | ⟨i, hix, hroom⟩
    · rw [splitB_miss sep 0 _ s hix]; rfl
    · rw [splitB_hit sep 0 k s i hix]
      obtain ⟨x, r, hx⟩ := splitB_ne sep 0 k (s.extract (i + sep.size) s.size)
      have ih := split_join sep k (s.extract (i + sep.size) s.size)
      rw [hx] at ih ⊢
      rw [jn_cons, ih, Nat.add_zero, cut_back s sep i hix]
theorem cut_two (s : ByteArray) (k : Nat) (hk : k ≤ s.size) : s.extract 0 k ++ s.extract k s.size = s := by
  apply bytes_ext
  rw [app_data, extract_from_zero, extract_to_end, List.take_append_drop]
theorem expl_join : ∀ (n : Nat) (s : ByteArray), jn ⟨#[]⟩ (expl (n + 1) s) = s
  | 0, _ => rfl
  | n + 1, s => by
    rw [expl]
    have ih := expl_join n (s.extract (decodeGo s).2 s.size)
    have hne : ∃ x r, expl (n + 1) (s.extract (decodeGo s).2 s.size) = x :: r := by
      cases n with
      | zero => exact ⟨_, _, rfl⟩
      | succ n => exact ⟨_, _, rfl⟩
    obtain ⟨x, r, hx⟩ := hne
    rw [hx] at ih ⊢
    rw [jn_cons, ih]
    have e : s.extract 0 (decodeGo s).2 ++ (⟨#[]⟩ : ByteArray) = s.extract 0 (decodeGo s).2 := by
      apply bytes_ext
      rw [app_data]
      simp
    rw [e, cut_two s _ (decodeGo_le s)]
theorem runeCount_pos (s : ByteArray) (h : 1 ≤ s.size) : 1 ≤ runeCount s := by
  unfold runeCount
  obtain ⟨m, hm⟩ : ∃ m, s.size = m + 1 := ⟨s.size - 1, by omega⟩
  rw [hm]
  unfold runeCountFrom
  rw [if_pos (by omega)]
  omega
/-- What Split hands back. -/
def splitL (s sep : ByteArray) : List ByteArray :=
  if okS s = false ∨ okS sep = false then [] else if s.size = 0 then [] else if sep.size = 0 then expl (runeCount s) s else splitB sep 0 (countB s sep) s
def splitB? (s sep : ByteArray) : Bool := okS s && okS sep
theorem splitL_join (s sep : ByteArray) (h : splitB? s sep = true) : jn sep (splitL s sep) = s := by
  unfold splitB? at h
  rw [Bool.and_eq_true] at h
  unfold splitL
  rw [if_neg (by simp [h.1, h.2])]
  by_cases h0 : s.size = 0
  · rw [if_pos h0, size0 h0]; rfl
  · rw [if_neg h0]
    by_cases h1 : sep.size = 0
    · rw [if_pos h1, size0 h1]
      have := runeCount_pos s (by omega)
      obtain ⟨m, hm⟩ : ∃ m, runeCount s = m + 1 := ⟨runeCount s - 1, by omega⟩
      rw [hm, expl_join]
    · rw [if_neg h1]; exact split_join sep _ s
end Go.Proofs.YtjafmdngbphacaaGreatDoor

namespace Go.Proofs.YtjafmdngbphacaaGreatDoor
open Go.RowKit Go.Sort
theorem split_lib0 (s sep : ByteArray) (w : World) (hT : Tabs w) (h0 : sep.size = 0) (hs : s.size < 4294967281) :
    Calls Tryz.prog 91 #[.string s, .string sep] w (ExpPost 9 (expl (Lib.runeCount s) s) w) :=
  split_empty_gen (ρ := Tryz.spl_ren) { Tryz.spl with } Tryz.spl.i9 s sep w h0 hs hT
theorem rs_boxs {w : World} {t : TypeId} {g : Nat} {l : List ByteArray} {S : Nat → Prop} (h : Box w g t (kv l).toArray) (hS : S g) : Rs w S (some ⟨g, 0, none⟩) (kv l) := by
  intro j u hj
  refine ⟨g, 0, rfl, hS, ?_⟩
  rw [Nat.zero_add]
  exact h.cell (by simpa using hj)
set_option maxHeartbeats 2000000 in
set_option maxRecDepth 100000 in
theorem split_any (s sep : ByteArray) (w : World) (hm : MaxL w) (hT : Tabs w) (hs : s.size ≤ 1048576) (hsep : sep.size ≤ 1048576) :
    Calls Tryz.prog 23 #[.string s, .string sep] w (SplitPost (splitL s sep) (splitB? s sep) w) := by
  have hv := Lib.hid (fun W => val_any s (by unfold maxLen; omega) W)
  have hu := Lib.hid (fun W => val_any sep (by unfold maxLen; omega) W)
  have hE : s.toList.isEmpty = decide (s.size = 0) := by
    rw [Lib.toList_data, Lib.size_eq]
    cases s.data.toList <;> simp
  by_cases ho : okS s = true
  · have e1 : (runes s.data.toList).isSome = true := ho
    rw [e1] at hv
    by_cases hp : okS sep = true
    · have e2 : (runes sep.data.toList).isSome = true := hp
      rw [e2] at hu
      have hb : splitB? s sep = true := by unfold splitB?; rw [ho, hp]; rfl
      rw [hb]
      by_cases h0 : s.size = 0
      · rw [decide_eq_true h0] at hE
        have hl : splitL s sep = [] := by unfold splitL; rw [if_neg (by simp [ho, hp]), if_pos h0]
        rw [hl]
        clear e1 e2 ho hp hb hl h0
        go_enter Tryz.func23, Tryz.ntmps23
        go_wp2_with (first
          | (go_at_call 90; with_reducible refine (hv.out _).mono ?_; rintro e1 w1 ⟨rfl, rfl⟩)
          | (go_at_call 90; with_reducible refine (hu.out _).mono ?_; rintro e2 w2 ⟨rfl, rfl⟩))
        go_ret2
        exact ⟨Below.refl _ _, none, 0, rfl, Rs.nil _ _ _, fun _ => rfl, Nat.le_refl _, Nat.zero_le _⟩
      · rw [decide_eq_false h0] at hE
        by_cases h1 : sep.size = 0
        · have hl : splitL s sep = expl (Lib.runeCount s) s := by unfold splitL; rw [if_neg (by simp [ho, hp]), if_neg h0, if_pos h1]
          have hc := Lib.hid (split_lib0 s sep w hT h1 (by omega))
          have hle := Lib.runeCount_le s
          have hll := expl_length (Lib.runeCount s) s
          rw [hl]
          generalize expl (Lib.runeCount s) s = l at hc hll ⊢
          have hll2 : l.length ≤ 1048576 := by omega
          clear e1 e2 ho hp hb hl h0 hll hle
          go_enter Tryz.func23, Tryz.ntmps23
          go_wp2_with (first
            | (go_at_call 90; with_reducible refine (hv.out _).mono ?_; rintro e1 w1 ⟨rfl, rfl⟩)
            | (go_at_call 90; with_reducible refine (hu.out _).mono ?_; rintro e2 w2 ⟨rfl, rfl⟩)
            | (go_at_call 91; refine hc.out.mono ?_; rintro e3 w3 ⟨g, hg, rfl, hb3, hx3⟩))
          go_ret2
          exact ⟨hb3, _, _, rfl, rs_boxs hx3 ⟨hg, hx3.lt⟩, (fun h => by cases h), Nat.le_refl _, by unfold maxLen; omega⟩
        · have hl : splitL s sep = pieces s sep := by unfold splitL; rw [if_neg (by simp [ho, hp]), if_neg h0, if_neg h1]; rfl
          rw [hl]
          exact split_sep s sep w hm (by omega) (by omega) (by omega) ho hp h0
    · have hp' : okS sep = false := by simpa using hp
      have e2 : (runes sep.data.toList).isSome = false := hp'
      rw [e2] at hu
      have hb : splitB? s sep = false := by unfold splitB?; rw [ho, hp']; rfl
      have hl : splitL s sep = [] := by unfold splitL; rw [if_pos (.inr hp')]
      rw [hb, hl]
      clear e1 e2 ho hp hb hl hE hp'
      go_enter Tryz.func23, Tryz.ntmps23
      go_wp2_with (first
        | (go_at_call 90; with_reducible refine (hv.out _).mono ?_; rintro e1 w1 ⟨rfl, rfl⟩)
        | (go_at_call 90; with_reducible refine (hu.out _).mono ?_; rintro e2 w2 ⟨rfl, rfl⟩))
      go_ret2
      exact ⟨Below.refl _ _, none, 0, rfl, Rs.nil _ _ _, fun _ => rfl, Nat.le_refl _, Nat.zero_le _⟩
  · have ho' : okS s = false := by simpa using ho
    have e1 : (runes s.data.toList).isSome = false := ho'
    rw [e1] at hv
    have hb : splitB? s sep = false := by unfold splitB?; rw [ho']; rfl
    have hl : splitL s sep = [] := by unfold splitL; rw [if_pos (.inl ho')]
    rw [hb, hl]
    clear e1 ho hb hl hE ho'
    go_enter Tryz.func23, Tryz.ntmps23
    go_wp2_with (first
      | (go_at_call 90; with_reducible refine (hv.out _).mono ?_; rintro e1 w1 ⟨rfl, rfl⟩))
    go_ret2
    exact ⟨Below.refl _ _, none, 0, rfl, Rs.nil _ _ _, fun _ => rfl, Nat.le_refl _, Nat.zero_le _⟩
end Go.Proofs.YtjafmdngbphacaaGreatDoor
namespace Go.Proofs.YtjafmdngbphacaaGreatDoor
open Go.RowKit Go.Shelf Go.Sort
/-- The cells of values, five by five. -/
theorem lies_fv {w : World} {S : Nat → Prop} {v : V} {cs : List Value} (h : Lies w S v cs) : ∃ x : Fv, cs = x.cs := by
  obtain ⟨k, n, s, ks, es⟩ := v
  obtain ⟨A, a, B, b, xs, rfl, _⟩ := lies_open h
  exact ⟨⟨k, n, s, A, ks.length, a, B, es.length, b⟩, rfl⟩
theorem liesL_fv {w : World} {S : Nat → Prop} : ∀ (es : List V) (xs : List Value), LiesL w S es xs → ∃ l : List (V × Fv), l.map Prod.fst = es ∧ xs = (l.map Prod.snd).flatMap Fv.cs ∧ ∀ p ∈ l, Lies w S p.1 p.2.cs
  | [], xs, h => by rw [LiesL] at h; subst h; exact ⟨[], rfl, rfl, fun p hp => by cases hp⟩
  | e :: es, xs, h => by
    rw [LiesL] at h
    obtain ⟨c, r, rfl, hc, hr⟩ := h
    obtain ⟨x, rfl⟩ := lies_fv hc
    obtain ⟨l, h1, rfl, h3⟩ := liesL_fv es r hr
    refine ⟨(e, x) :: l, by rw [List.map_cons, h1], rfl, fun p hp => ?_⟩
    rcases List.mem_cons.1 hp with rfl | hp
    · exact hc
    · exact h3 p hp
theorem rs_row {w : World} {B : Nat} {A : Option Addr} {zs : List Fv} (h : Rs w (· < B) A (zs.flatMap Fv.cs)) : FvRow B w A zs := by
  intro j x hx
  have hjl : j < zs.length := (List.getElem?_eq_some_iff.1 hx).1
  have hyy : zs[j]! = x := by rw [getElem!_def, hx]
  have c : ∀ c, c < 5 → ∃ b o, A = some ⟨b, o, none⟩ ∧ b < B ∧ w.cell? ⟨b, o + (j * 5 + c), none⟩ = some (x.cs[c]!) := fun c hc =>
    h (j * 5 + c) _ (by rw [flat_get _ _ (by omega), show (j * 5 + c) / 5 = j by omega, show (j * 5 + c) % 5 = c by omega, hyy])
  obtain ⟨b, o, rfl, hb, h0⟩ := c 0 (by omega)
  have c' : ∀ k, k < 5 → w.cell? ⟨b, o + j * 5 + k, none⟩ = some (x.cs[k]!) := fun k hk => by
    obtain ⟨b', o', e, _, h1⟩ := c k hk
    injection e with e
    injection e with e1 e2
    subst e1 e2
    rw [Nat.add_assoc]
    exact h1
  exact ⟨b, o, rfl, hb, c' 0 (by omega), c' 1 (by omega), c' 2 (by omega), c' 3 (by omega), c' 4 (by omega)⟩
end Go.Proofs.YtjafmdngbphacaaGreatDoor

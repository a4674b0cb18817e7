/- Merging values, plain. Merging a value with itself, plain. The order of values is total, antisymmetric and transitive; plain. -/
import Derived.Test.YtjafmdngbphacaaGreatDoorM29
import Derived.Test.YtjafmdngbphacaaGreatDoorM22
import Derived.Test.YtjafmdngbphacaaGreatDoorM21
import Derived.Test.YtjafmdngbphacaaGreatDoorM15
import Derived.Test.YtjafmdngbphacaaGreatDoorM14
set_option linter.unusedVariables false
set_option linter.unusedSimpArgs false
namespace Go.Proofs.YtjafmdngbphacaaGreatDoor
/-- The object of a with this key, if e is an object as well. -/
def hit (ks : List ByteArray) (es : List V) (k : ByteArray) (e : V) : Option V :=
  match idxOf ks k with
  | none => none
  | some i => match es[i]? with
    | none => none
    | some x => if kd x = 6 ∧ kd e = 6 then some x else none
mutual
/-- The merge of two objects. -/
def mrg : V → V → V × Int
  | .mk _ _ _ ks es, .mk _ _ _ ks2 es2 =>
    if (mrgL ks es ks2 es2).2 = 0 then lim (objL (putL (ks.zip es) (ks2.zip (mrgL ks es ks2 es2).1))) else (vnull, (mrgL ks es ks2 es2).2)
/-- The elements behind the merge of those with one key. -/
def mrgL (ks : List ByteArray) (es : List V) : List ByteArray → List V → List V × Int
  | k :: ks2, e :: es2 =>
    match hit ks es k e with
    | none => (e :: (mrgL ks es ks2 es2).1, (mrgL ks es ks2 es2).2)
    | some x => if (mrg x e).2 = 0 then ((mrg x e).1 :: (mrgL ks es ks2 es2).1, (mrgL ks es ks2 es2).2) else ([], (mrg x e).2)
  | _, _ => ([], 0)
end
theorem mrg_eq (k n : Int) (s : ByteArray) (ks : List ByteArray) (es : List V) (k2 n2 : Int) (s2 : ByteArray) (ks2 : List ByteArray) (es2 : List V) :
    mrg (.mk k n s ks es) (.mk k2 n2 s2 ks2 es2) = if (mrgL ks es ks2 es2).2 = 0 then lim (objL (putL (ks.zip es) (ks2.zip (mrgL ks es ks2 es2).1))) else (vnull, (mrgL ks es ks2 es2).2) := by rw [mrg]
theorem mrgL_none {ks ks2 : List ByteArray} {es es2 : List V} {k : ByteArray} {e : V} (h : hit ks es k e = none) : mrgL ks es (k :: ks2) (e :: es2) = (e :: (mrgL ks es ks2 es2).1, (mrgL ks es ks2 es2).2) := by rw [mrgL, h]
theorem mrgL_some {ks ks2 : List ByteArray} {es es2 : List V} {k : ByteArray} {e x : V} (h : hit ks es k e = some x) (h0 : (mrg x e).2 = 0) : mrgL ks es (k :: ks2) (e :: es2) = ((mrg x e).1 :: (mrgL ks es ks2 es2).1, (mrgL ks es ks2 es2).2) := by rw [mrgL, h]; simp only [if_pos h0]
theorem mrgL_err {ks ks2 : List ByteArray} {es es2 : List V} {k : ByteArray} {e x : V} (h : hit ks es k e = some x) (h0 : ¬ (mrg x e).2 = 0) : mrgL ks es (k :: ks2) (e :: es2) = ([], (mrg x e).2) := by rw [mrgL, h]; simp only [if_neg h0]
theorem mrgL_nil (ks ks2 : List ByteArray) (es : List V) : mrgL ks es ks2 [] = ([], 0) := by cases ks2 <;> rw [mrgL] <;> simp
/-- A merge without an error is valid. -/
theorem mrg_valid {v u : V} (h : (mrg v u).2 = 0) : valid (mrg v u).1 = true := by
  obtain ⟨k, n, s, ks, es⟩ := v
  obtain ⟨k2, n2, s2, ks2, es2⟩ := u
  rw [mrg_eq] at h ⊢
  by_cases h0 : (mrgL ks es ks2 es2).2 = 0
  · rw [if_pos h0] at h ⊢
    have := finE_zero h
    show valid (finV _) = true
    rw [finV_ok this]
    exact this
  · rw [if_neg h0] at h
    exact absurd h h0
/-- Where the loop stands: the elements so far, and what is left. -/
structure MgP (ks : List ByteArray) (es : List V) (ks2 : List ByteArray) (es2 : List V) (i : Nat) (l : List V) : Prop where
  len : l.length = es2.length
  tail : l.drop i = es2.drop i
  ok : l.all valid = true
  res : mrgL ks es ks2 es2 = (l.take i ++ (mrgL ks es (ks2.drop i) (es2.drop i)).1, (mrgL ks es (ks2.drop i) (es2.drop i)).2)
namespace MgP
variable {ks ks2 : List ByteArray} {es es2 l : List V} {i : Nat} {k : ByteArray} {e x : V}
theorem start (h : es2.all valid = true) : MgP ks es ks2 es2 0 es2 := ⟨rfl, rfl, h, by simp⟩
theorem elem (h : MgP ks es ks2 es2 i l) (he : es2[i]? = some e) : l[i]? = some e := by
  have h1 := congrArg (fun x => x[0]?) h.tail
  simp only [List.getElem?_drop, Nat.add_zero, he] at h1
  exact h1
theorem drops (hk : ks2[i]? = some k) (he : es2[i]? = some e) : ks2.drop i = k :: ks2.drop (i + 1) ∧ es2.drop i = e :: es2.drop (i + 1) := by
  obtain ⟨h1, rfl⟩ := List.getElem?_eq_some_iff.1 hk
  obtain ⟨h2, rfl⟩ := List.getElem?_eq_some_iff.1 he
  exact ⟨List.drop_eq_getElem_cons h1, List.drop_eq_getElem_cons h2⟩
theorem skip (h : MgP ks es ks2 es2 i l) (hk : ks2[i]? = some k) (he : es2[i]? = some e) (hh : hit ks es k e = none) : MgP ks es ks2 es2 (i + 1) l := by
  obtain ⟨d1, d2⟩ := drops hk he
  have hl := h.elem he
  refine ⟨h.len, by rw [← List.drop_drop, h.tail, List.drop_drop], h.ok, ?_⟩
  rw [h.res, d1, d2, mrgL_none hh, List.take_add_one, hl]
  simp
theorem put (h : MgP ks es ks2 es2 i l) (hk : ks2[i]? = some k) (he : es2[i]? = some e) (hh : hit ks es k e = some x) (h0 : (mrg x e).2 = 0) : MgP ks es ks2 es2 (i + 1) (l.set i (mrg x e).1) := by
  obtain ⟨d1, d2⟩ := drops hk he
  have hi : i < l.length := by rw [h.len]; exact (List.getElem?_eq_some_iff.1 he).1
  refine ⟨by rw [List.length_set]; exact h.len, by rw [List.drop_set_of_lt (by omega), ← List.drop_drop, h.tail, List.drop_drop], ?_, ?_⟩
  · have := h.ok
    rw [List.all_eq_true] at this ⊢
    intro y hy
    rcases List.mem_or_eq_of_mem_set hy with hy | rfl
    · exact this y hy
    · exact mrg_valid h0
  · rw [h.res, d1, d2, mrgL_some hh h0, List.take_add_one, List.getElem?_set_self hi, List.take_set_of_le (Nat.le_refl _)]
    simp
theorem err (h : MgP ks es ks2 es2 i l) (hk : ks2[i]? = some k) (he : es2[i]? = some e) (hh : hit ks es k e = some x) (h0 : ¬ (mrg x e).2 = 0) : (mrgL ks es ks2 es2).2 = (mrg x e).2 := by
  obtain ⟨d1, d2⟩ := drops hk he
  rw [h.res, d1, d2, mrgL_err hh h0]
theorem fin (h : MgP ks es ks2 es2 es2.length l) : mrgL ks es ks2 es2 = (l, 0) := by
  have := h.len
  rw [h.res, List.drop_length, mrgL_nil, List.take_of_length_le (by omega), List.append_nil]
end MgP
end Go.Proofs.YtjafmdngbphacaaGreatDoor
namespace Go.Proofs.YtjafmdngbphacaaGreatDoor
theorem putL_self {qs : PL} (h : PAsc qs) : putL qs qs = qs :=
  canon (putL_asc h qs) h fun k => by rw [putL_look h k, lastP_asc k h]; cases look qs k <;> rfl
theorem idx_self {ks : List ByteArray} (h : Asc ks) {i : Nat} {k : ByteArray} (hk : ks[i]? = some k) : idxOf ks k = some i := by
  refine idxOf_hit (fun j hj hjk => ?_) hk
  have := asc_at h hj hjk hk
  rw [scmp_self] at this
  omega
theorem mrgL_self {ks : List ByteArray} {es : List V} (ha : Asc ks) (hlen : ks.length = es.length) (ih : ∀ e ∈ es, kd e = 6 → mrg e e = (e, 0)) : ∀ (m i : Nat), es.length - i = m → mrgL ks es (ks.drop i) (es.drop i) = (es.drop i, 0)
  | 0, i, hm => by rw [List.drop_eq_nil_of_le (show es.length ≤ i by omega), mrgL_nil]
  | m + 1, i, hm => by
    have hi : i < es.length := by omega
    have hk : i < ks.length := by omega
    have he := List.getElem?_eq_getElem hi
    have hkk := List.getElem?_eq_getElem hk
    obtain ⟨d1, d2⟩ := MgP.drops hkk he
    have rest := mrgL_self ha hlen ih m (i + 1) (by omega)
    rw [d1, d2]
    have hx := idx_self ha hkk
    have hh : hit ks es ks[i] es[i] = if kd es[i] = 6 ∧ kd es[i] = 6 then some es[i] else none := by
      unfold hit
      rw [hx]
      simp only [he]
    by_cases h6 : kd es[i] = 6
    · rw [if_pos ⟨h6, h6⟩] at hh
      have hs := ih es[i] (List.getElem_mem hi) h6
      rw [mrgL_some hh (by rw [hs]), rest, hs]
    · rw [if_neg (fun q => h6 q.1)] at hh
      rw [mrgL_none hh, rest]
/-- Merging a valid object with itself changes nothing. -/
theorem mrg_self : ∀ v, valid v = true → kd v = 6 → mrg v v = (v, 0) := by
  refine V.ind fun k n s ks es ih hv h6 => ?_
  have h6 : k = 6 := h6
  rcases valid_shape hv with ⟨hk, _⟩ | ⟨hk, _⟩ | ⟨hk, _⟩ | ⟨hk, _⟩ | ⟨hk, hn, hs, hlen⟩
  · omega
  · omega
  · omega
  · omega
  · subst hk hn hs
    have hel := valid_elems hv
    rw [List.all_eq_true] at hel
    have h1 := mrgL_self (valid_keys hv).1 hlen (fun e he hk => ih e he (hel e he) hk) es.length 0 (by omega)
    rw [List.drop_zero, List.drop_zero] at h1
    have ho : objL (ks.zip es) = .mk 6 0 ⟨#[]⟩ ks es := by
      unfold objL
      rw [List.map_fst_zip (by omega), List.map_snd_zip (by omega)]
    have hps : putL (ks.zip es) (ks.zip es) = ks.zip es := putL_self (prs_asc hv)
    rw [mrg_eq, h1, if_pos rfl]
    show lim (objL (putL (ks.zip es) (ks.zip es))) = _
    rw [hps, ho]
    unfold lim
    rw [finV_ok hv, finE_ok hv]
end Go.Proofs.YtjafmdngbphacaaGreatDoor
namespace Go.Proofs.YtjafmdngbphacaaGreatDoor
theorem icmp_anti (x y : Int) : icmp y x = - icmp x y := by unfold icmp; (repeat' split) <;> omega
/-- Three results of one order: of a and b, of b and c, of a and c. -/
def Tr (x y z : Int) : Prop := (x ≤ 0 → y ≤ 0 → z ≤ 0) ∧ (x ≤ 0 → y ≤ 0 → (x < 0 ∨ y < 0) → z < 0) ∧ (x = 0 → y = 0 → z = 0)
theorem tr_icmp (a b c : Int) : Tr (icmp a b) (icmp b c) (icmp a c) := by unfold Tr icmp; (repeat' split) <;> omega
theorem tr_scmp (a b c : ByteArray) : Tr (scmp a b) (scmp b c) (scmp a c) :=
  ⟨scmp_trans, fun h k o => (cb_trans _ _ _ h k).2 o, fun h k => by rw [scmp_zero] at *; exact h.trans k⟩
theorem tr_lex {x1 x2 x3 y1 y2 y3 : Int} (h : Tr x1 x2 x3) (k : Tr y1 y2 y3) : Tr (if x1 = 0 then y1 else x1) (if x2 = 0 then y2 else x2) (if x3 = 0 then y3 else x3) := by
  obtain ⟨h1, h2, h3⟩ := h
  obtain ⟨k1, k2, k3⟩ := k
  unfold Tr
  (repeat' split) <;> omega
theorem anti_lex {x x' y y' : Int} (h : x' = -x) (k : y' = -y) : (if x' = 0 then y' else x') = - (if x = 0 then y else x) := by
  subst h; subst k
  (repeat' split) <;> omega
theorem kcmp_anti : ∀ a b : List ByteArray, kcmp b a = - kcmp a b
  | [], [] => by simp [kcmp]
  | [], _ :: _ => by simp [kcmp]
  | _ :: _, [] => by simp [kcmp]
  | x :: a, y :: b => by rw [kcmp, kcmp]; exact anti_lex (scmp_anti x y) (kcmp_anti a b)
theorem kcmp_zero : ∀ a b : List ByteArray, kcmp a b = 0 ↔ a = b
  | [], [] => by simp [kcmp]
  | [], _ :: _ => by simp [kcmp]
  | _ :: _, [] => by simp [kcmp]
  | x :: a, y :: b => by
    rw [kcmp]
    have h1 := scmp_zero x y
    have h2 := kcmp_zero a b
    by_cases h : scmp x y = 0
    · rw [if_pos h, h2, List.cons.injEq]
      exact ⟨fun k => ⟨h1.1 h, k⟩, fun k => k.2⟩
    · rw [if_neg h, List.cons.injEq]
      exact ⟨fun k => absurd k h, fun k => absurd (h1.2 k.1) h⟩
theorem tr_kcmp : ∀ a b c : List ByteArray, Tr (kcmp a b) (kcmp b c) (kcmp a c)
  | [], [], [] => by simp [kcmp, Tr]
  | [], [], _ :: _ => by simp [kcmp, Tr]
  | [], _ :: _, [] => by simp [kcmp, Tr]
  | [], _ :: _, _ :: _ => by simp [kcmp, Tr]
  | _ :: _, [], [] => by simp [kcmp, Tr]
  | _ :: _, [], _ :: _ => by simp [kcmp, Tr]
  | _ :: _, _ :: _, [] => by simp [kcmp, Tr]
  | x :: a, y :: b, z :: c => by rw [kcmp, kcmp, kcmp]; exact tr_lex (tr_scmp x y z) (tr_kcmp a b c)
theorem vcmp_lex (k n : Int) (s : ByteArray) (ks : List ByteArray) (es : List V) (k' n' : Int) (s' : ByteArray) (ks' : List ByteArray) (es' : List V) :
    vcmp (.mk k n s ks es) (.mk k' n' s' ks' es') = if icmp k k' = 0 then (if icmp n n' = 0 then (if scmp s s' = 0 then (if kcmp ks ks' = 0 then vcmpL es es' else kcmp ks ks') else scmp s s') else icmp n n') else icmp k k' := by rw [vcmp]
theorem vcmpL_lex (e f : V) (es fs : List V) : vcmpL (e :: es) (f :: fs) = if vcmp e f = 0 then vcmpL es fs else vcmp e f := by rw [vcmpL]
theorem vcmpL_nn : vcmpL [] [] = 0 := by rw [vcmpL]
theorem vcmpL_nc (f : V) (fs : List V) : vcmpL [] (f :: fs) = -1 := by rw [vcmpL]
theorem vcmpL_cn (f : V) (fs : List V) : vcmpL (f :: fs) [] = 1 := by rw [vcmpL]
theorem vcmp_anti : ∀ v u : V, vcmp u v = - vcmp v u := by
  refine V.ind fun k n s ks es ih u => ?_
  obtain ⟨k', n', s', ks', es'⟩ := u
  rw [vcmp_lex, vcmp_lex]
  refine anti_lex (icmp_anti _ _) (anti_lex (icmp_anti _ _) (anti_lex (scmp_anti _ _) (anti_lex (kcmp_anti _ _) ?_)))
  clear ks ks' s s' k k' n n'
  induction es generalizing es' with
  | nil =>
    cases es' with
    | nil => rw [vcmpL_nn]; rfl
    | cons f fs => rw [vcmpL_nc, vcmpL_cn]; rfl
  | cons e es ihl =>
    cases es' with
    | nil => rw [vcmpL_cn, vcmpL_nc]
    | cons f fs =>
      rw [vcmpL_lex, vcmpL_lex]
      exact anti_lex (ih e (by simp) f) (ihl (fun x hx => ih x (by simp [hx])) fs)
theorem vcmp_tr : ∀ v u t : V, Tr (vcmp v u) (vcmp u t) (vcmp v t) := by
  refine V.ind fun k n s ks es ih u t => ?_
  obtain ⟨k', n', s', ks', es'⟩ := u
  obtain ⟨k2, n2, s2, ks2, es2⟩ := t
  rw [vcmp_lex, vcmp_lex, vcmp_lex]
  refine tr_lex (tr_icmp _ _ _) (tr_lex (tr_icmp _ _ _) (tr_lex (tr_scmp _ _ _) (tr_lex (tr_kcmp _ _ _) ?_)))
  clear ks ks' s s' k k' n n' ks2 s2 k2 n2
  induction es generalizing es' es2 with
  | nil =>
    cases es' with
    | nil => rw [vcmpL_nn]; cases es2 with
      | nil => rw [vcmpL_nn]; simp [Tr]
      | cons g gs => rw [vcmpL_nc]; simp [Tr]
    | cons f fs => rw [vcmpL_nc]; cases es2 with
      | nil => rw [vcmpL_nn, vcmpL_cn]; simp [Tr]
      | cons g gs => rw [vcmpL_nc]; simp [Tr]
  | cons e es ihl =>
    cases es' with
    | nil => rw [vcmpL_cn]; simp [Tr]
    | cons f fs => cases es2 with
      | nil => rw [vcmpL_cn]; simp [Tr]
      | cons g gs =>
        rw [vcmpL_lex, vcmpL_lex, vcmpL_lex]
        exact tr_lex (ih e (by simp) f g) (ihl (fun x hx => ih x (by simp [hx])) fs gs)
theorem vcmp_zero : ∀ v u : V, vcmp v u = 0 ↔ v = u := by
  refine V.ind fun k n s ks es ih u => ?_
  obtain ⟨k', n', s', ks', es'⟩ := u
  have hL : vcmpL es es' = 0 ↔ es = es' := by
    clear ks ks' s s' k k' n n'
    induction es generalizing es' with
    | nil =>
      cases es' with
      | nil => rw [vcmpL_nn]; simp
      | cons f fs => rw [vcmpL_nc]; simp
    | cons e es ihl =>
      cases es' with
      | nil => rw [vcmpL_cn]; simp
      | cons f fs =>
        rw [vcmpL_lex]
        have h1 := ih e (by simp) f
        have h2 := ihl (fun x hx => ih x (by simp [hx])) fs
        by_cases h : vcmp e f = 0
        · rw [if_pos h, h2, List.cons.injEq]
          exact ⟨fun k => ⟨h1.1 h, k⟩, fun k => k.2⟩
        · rw [if_neg h, List.cons.injEq]
          exact ⟨fun k => absurd k h, fun k => absurd (h1.2 k.1) h⟩
  rw [vcmp_lex, V.mk.injEq, ← hL, ← kcmp_zero ks ks', ← scmp_zero s s', ← icmp_zero (x := k) (y := k'), ← icmp_zero (x := n) (y := n')]
  generalize icmp k k' = a
  generalize icmp n n' = b
  generalize scmp s s' = c
  generalize kcmp ks ks' = d
  generalize vcmpL es es' = f
  by_cases h1 : a = 0 <;> by_cases h2 : b = 0 <;> by_cases h3 : c = 0 <;> by_cases h4 : d = 0 <;> simp [h1, h2, h3, h4]
end Go.Proofs.YtjafmdngbphacaaGreatDoor

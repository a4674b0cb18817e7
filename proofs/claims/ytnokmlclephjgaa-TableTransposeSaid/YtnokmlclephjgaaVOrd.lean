/- The order of values is total, antisymmetric and transitive; plain. -/
import Derived.Test.YtnokmlclephjgaaCmpP
import Derived.Test.YtnokmlclephjgaaSame
set_option linter.unusedVariables false
set_option linter.unusedSimpArgs false
namespace Go.Proofs.Ytnokmlclephjgaa
theorem icmp_anti (x y : Int) : icmp y x = - icmp x y := by unfold icmp; (repeat' split) <;> omega
/-- Three results of one order: of a and b, of b and c, of a and c. -/
def Tr (x y z : Int) : Prop := (x ≤ 0 → y ≤ 0 → z ≤ 0) ∧ (x ≤ 0 → y ≤ 0 → (x < 0 ∨ y < 0) → z < 0) ∧ (x = 0 → y = 0 → z = 0)
theorem tr_icmp (a b c : Int) : Tr (icmp a b) (icmp b c) (icmp a c) := by unfold Tr icmp; (repeat' split) <;> omega
theorem tr_scmp (a b c : ByteArray) : Tr (scmp a b) (scmp b c) (scmp a c) :=
  ⟨scmp_trans, fun h k o => (cb_trans _ _ _ h k).2 o, fun h k => by rw [scmp_zero] at *; exact h.trans k⟩
theorem tr_lex {x1 x2 x3 y1 y2 y3 : Int} (h : Tr x1 x2 x3) (k : Tr y1 y2 y3) : Tr (if x1 = 0 then y1 else x1) (if x2 = 0 then y2 else x2) (if x3 = 0 then y3 else x3) := by
  obtain ⟨h1, h2, h3⟩ := h
  obtain ⟨k1, k2, k3⟩ := k
  unfold Tr
  (repeat' split) <;> omega
theorem anti_lex {x x' y y' : Int} (h : x' = -x) (k : y' = -y) : (if x' = 0 then y' else x') = - (if x = 0 then y else x) := by
  subst h; subst k
  (repeat' split) <;> omega
theorem kcmp_anti : ∀ a b : List ByteArray, kcmp b a = - kcmp a b
  | [], [] => by simp [kcmp]
  | [], _ :: _ => by simp [kcmp]
  | _ :: _, [] => by simp [kcmp]
  | x :: a, y :: b => by rw [kcmp, kcmp]; exact anti_lex (scmp_anti x y) (kcmp_anti a b)
theorem kcmp_zero : ∀ a b : List ByteArray, kcmp a b = 0 ↔ a = b
  | [], [] => by simp [kcmp]
  | [], _ :: _ => by simp [kcmp]
  | _ :: _, [] => by simp [kcmp]
  | x :: a, y :: b => by
    rw [kcmp]
    have h1 := scmp_zero x y
    have h2 := kcmp_zero a b
    by_cases h : scmp x y = 0
    · rw [if_pos h, h2, List.cons.injEq]
      exact ⟨fun k => ⟨h1.1 h, k⟩, fun k => k.2⟩
    · rw [if_neg h, List.cons.injEq]
      exact ⟨fun k => absurd k h, fun k => absurd (h1.2 k.1) h⟩
theorem tr_kcmp : ∀ a b c : List ByteArray, Tr (kcmp a b) (kcmp b c) (kcmp a c)
  | [], [], [] => by simp [kcmp, Tr]
  | [], [], _ :: _ => by simp [kcmp, Tr]
  | [], _ :: _, [] => by simp [kcmp, Tr]
  | [], _ :: _, _ :: _ => by simp [kcmp, Tr]
  | _ :: _, [], [] => by simp [kcmp, Tr]
  | _ :: _, [], _ :: _ => by simp [kcmp, Tr]
  | _ :: _, _ :: _, [] => by simp [kcmp, Tr]
  | x :: a, y :: b, z :: c => by rw [kcmp, kcmp, kcmp]; exact tr_lex (tr_scmp x y z) (tr_kcmp a b c)
theorem vcmp_lex (k n : Int) (s : ByteArray) (ks : List ByteArray) (es : List V) (k' n' : Int) (s' : ByteArray) (ks' : List ByteArray) (es' : List V) :
    vcmp (.mk k n s ks es) (.mk k' n' s' ks' es') = if icmp k k' = 0 then (if icmp n n' = 0 then (if scmp s s' = 0 then (if kcmp ks ks' = 0 then vcmpL es es' else kcmp ks ks') else scmp s s') else icmp n n') else icmp k k' := by rw [vcmp]
theorem vcmpL_lex (e f : V) (es fs : List V) : vcmpL (e :: es) (f :: fs) = if vcmp e f = 0 then vcmpL es fs else vcmp e f := by rw [vcmpL]
theorem vcmpL_nn : vcmpL [] [] = 0 := by rw [vcmpL]
theorem vcmpL_nc (f : V) (fs : List V) : vcmpL [] (f :: fs) = -1 := by rw [vcmpL]
theorem vcmpL_cn (f : V) (fs : List V) : vcmpL (f :: fs) [] = 1 := by rw [vcmpL]
theorem vcmp_anti : ∀ v u : V, vcmp u v = - vcmp v u := by
  refine V.ind fun k n s ks es ih u => ?_
  obtain ⟨k', n', s', ks', es'⟩ := u
  rw [vcmp_lex, vcmp_lex]
  refine anti_lex (icmp_anti _ _) (anti_lex (icmp_anti _ _) (anti_lex (scmp_anti _ _) (anti_lex (kcmp_anti _ _) ?_)))
  clear ks ks' s s' k k' n n'
  induction es generalizing es' with
  | nil =>
    cases es' with
    | nil => rw [vcmpL_nn]; rfl
    | cons f fs => rw [vcmpL_nc, vcmpL_cn]; rfl
  | cons e es ihl =>
    cases es' with
    | nil => rw [vcmpL_cn, vcmpL_nc]
    | cons f fs =>
      rw [vcmpL_lex, vcmpL_lex]
      exact anti_lex (ih e (by simp) f) (ihl (fun x hx => ih x (by simp [hx])) fs)
theorem vcmp_tr : ∀ v u t : V, Tr (vcmp v u) (vcmp u t) (vcmp v t) := by
  refine V.ind fun k n s ks es ih u t => ?_
  obtain ⟨k', n', s', ks', es'⟩ := u
  obtain ⟨k2, n2, s2, ks2, es2⟩ := t
  rw [vcmp_lex, vcmp_lex, vcmp_lex]
  refine tr_lex (tr_icmp _ _ _) (tr_lex (tr_icmp _ _ _) (tr_lex (tr_scmp _ _ _) (tr_lex (tr_kcmp _ _ _) ?_)))
  clear ks ks' s s' k k' n n' ks2 s2 k2 n2
  induction es generalizing es' es2 with
  | nil =>
    cases es' with
    | nil => rw [vcmpL_nn]; cases es2 with
      | nil => rw [vcmpL_nn]; simp [Tr]
      | cons g gs => rw [vcmpL_nc]; simp [Tr]
    | cons f fs => rw [vcmpL_nc]; cases es2 with
      | nil => rw [vcmpL_nn, vcmpL_cn]; simp [Tr]
      | cons g gs => rw [vcmpL_nc]; simp [Tr]
  | cons e es ihl =>
    cases es' with
    | nil => rw [vcmpL_cn]; simp [Tr]
    | cons f fs => cases es2 with
      | nil => rw [vcmpL_cn]; simp [Tr]
      | cons g gs =>
        rw [vcmpL_lex, vcmpL_lex, vcmpL_lex]
        exact tr_lex (ih e (by simp) f g) (ihl (fun x hx => ih x (by simp [hx])) fs gs)
theorem vcmp_zero : ∀ v u : V, vcmp v u = 0 ↔ v = u := by
  refine V.ind fun k n s ks es ih u => ?_
  obtain ⟨k', n', s', ks', es'⟩ := u
  have hL : vcmpL es es' = 0 ↔ es = es' := by
    clear ks ks' s s' k k' n n'
    induction es generalizing es' with
    | nil =>
      cases es' with
      | nil => rw [vcmpL_nn]; simp
      | cons f fs => rw [vcmpL_nc]; simp
    | cons e es ihl =>
      cases es' with
      | nil => rw [vcmpL_cn]; simp
      | cons f fs =>
        rw [vcmpL_lex]
        have h1 := ih e (by simp) f
        have h2 := ihl (fun x hx => ih x (by simp [hx])) fs
        by_cases h : vcmp e f = 0
        · rw [if_pos h, h2, List.cons.injEq]
          exact ⟨fun k => ⟨h1.1 h, k⟩, fun k => k.2⟩
        · rw [if_neg h, List.cons.injEq]
          exact ⟨fun k => absurd k h, fun k => absurd (h1.2 k.1) h⟩
  rw [vcmp_lex, V.mk.injEq, ← hL, ← kcmp_zero ks ks', ← scmp_zero s s', ← icmp_zero (x := k) (y := k'), ← icmp_zero (x := n) (y := n')]
  generalize icmp k k' = a
  generalize icmp n n' = b
  generalize scmp s s' = c
  generalize kcmp ks ks' = d
  generalize vcmpL es es' = f
  by_cases h1 : a = 0 <;> by_cases h2 : b = 0 <;> by_cases h3 : c = 0 <;> by_cases h4 : d = 0 <;> simp [h1, h2, h3, h4]
end Go.Proofs.Ytnokmlclephjgaa

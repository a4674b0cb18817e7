/- The parser's rules of operators. -/
import Derived.Test.YthgnelkppibpeaaGreatDoorYv
set_option linter.unusedVariables false
set_option linter.unusedSimpArgs false
set_option linter.unusedSectionVars false
namespace Go.Proofs.YthgnelkppibpeaaGreatDoor
open Go.RowKit
theorem StrRow.new (w : World) (T : TypeId) (cs : Array Value) (xs : List ByteArray) {h : Nat} (hr : w.heap.size = h) (hc : cs.toList = xs.map Value.string) : StrRow (w.alloc (.cells cs T)) h xs := by
  subst hr
  refine ⟨by simp, fun j u hj => ?_⟩
  refine (Box.laid w T cs).cell ?_
  rw [← Array.getElem?_toList, hc, List.getElem?_map, hj]
  rfl
/-- The method of a rule. -/
def fnum : Ru → Nat
  | .filter => 18
  | .comma => 30
  | .update => 57
  | .alt => 83
  | .or_ => 103
  | .and_ => 117
  | .cmp => 128
  | .sum => 134
  | .product => 140
  | .unary => 146
  | .operand => 154
  | .post => 161
  | .primary => 169
  | .condition => 194
theorem ent_filter : EntF 18 := fun _ _ => by kernel_rfl
theorem ent_comma : EntF 30 := fun _ _ => by kernel_rfl
theorem ent_update : EntF 57 := fun _ _ => by kernel_rfl
theorem ent_alt : EntF 83 := fun _ _ => by kernel_rfl
theorem ent_or : EntF 103 := fun _ _ => by kernel_rfl
theorem ent_and : EntF 117 := fun _ _ => by kernel_rfl
theorem ent_cmp : EntF 128 := fun _ _ => by kernel_rfl
theorem ent_sum : EntF 134 := fun _ _ => by kernel_rfl
theorem ent_product : EntF 140 := fun _ _ => by kernel_rfl
theorem ent_unary : EntF 146 := fun _ _ => by kernel_rfl
theorem ent_operand : EntF 154 := fun _ _ => by kernel_rfl
theorem ent_post : EntF 161 := fun _ _ => by kernel_rfl
theorem ent_primary : EntF 169 := fun _ _ => by kernel_rfl
theorem ent_condition : EntF 194 := fun _ _ => by kernel_rfl
/-- Every rule's method does what call says of the rule. -/
def OkA (L : List Fk) (gt C g : Nat) (call : Ru → PM) : Prop := ∀ r, OkF L gt C g (fnum r) (call r)
set_option maxHeartbeats 4000000 in
set_option maxRecDepth 100000 in
theorem filter_any {L : List Fk} (hL : TokL L) {gt C g : Nat} {call : Ru → PM} (n : Nat) (hA : OkA L gt C g call) : OkF L gt C g 18 (pairM L (call .comma) (call .filter) 12 [(⟨#[124]⟩ : ByteArray)]) := by
  intro W σ t τ hP hm
  have H0 := Lib.hid (RSt.start hP)
  have H1 := Lib.hid (H0.out.alloc (.cells #[.string ⟨#[124]⟩] 9))
  have HR : Hid (StrRow ((W.alloc (.cells z9 29)).alloc (.cells #[.string ⟨#[124]⟩] 9)) (W.heap.size + 1) [(⟨#[124]⟩ : ByteArray)]) := Lib.hid (StrRow.new _ _ _ _ (by simp) rfl)
  have hg0 := hP.glt
  have hng : W.heap.size + 1 ≠ g := by omega
  have HC := Lib.hid (pair_any hL ent_comma ent_filter (hA .comma) (hA .filter) 12 [(⟨#[124]⟩ : ByteArray)] (by decide) (W.heap.size + 1) _ σ τ t H1.out.p HR.out hng hm)
  clear hP hA hm
  go_enter Tryz.func18, Tryz.ntmps18
  go_wp2_with fail
  refine HC.out.mono ?_
  rintro e w1 ⟨c0, c1, c2, c3, c4, c5, c6, c7, c8, rfl, hg1, hp1, hl1⟩
  have HT1 := Lib.hid (TreeAt.of (w0 := W) hl1 H1.out.lt)
  obtain ⟨op1, tx1, k1, j1, s1, A1, n1, m1, A2, n2, m2, A3, n3, m3, A4, n4, m4, rfl, rfl, rfl, rfl, rfl, rfl, rfl, rfl, rfl⟩ := liesF_form hl1
  have H2 := Lib.hid (H1.out.next hg1 hp1)
  obtain ⟨⟨x0, x1, x2, x3, x4, x5, x6, x7, x8⟩, z0, z1, z2, z3, z4, z5, z6, z7, z8⟩ := H2.out.cells
  clear hg1 hp1 hl1
  go_wp2_with fail
  refine post9 Tryz.results18 rfl rfl (H2.out.r.put9z _ _ _ _ _ _ _ _ _) ?_
  exact H2.out.close HT1.out
set_option maxHeartbeats 4000000 in
set_option maxRecDepth 100000 in
theorem comma_any {L : List Fk} (hL : TokL L) {gt C g : Nat} {call : Ru → PM} (n : Nat) (hA : OkA L gt C g call) : OkF L gt C g 30 (chainM L (call .update) 13 [(⟨#[44]⟩ : ByteArray)] n) := by
  intro W σ t τ hP hm
  have H0 := Lib.hid (RSt.start hP)
  have H1 := Lib.hid (H0.out.alloc (.cells #[.string ⟨#[44]⟩] 9))
  have HR : Hid (StrRow ((W.alloc (.cells z9 29)).alloc (.cells #[.string ⟨#[44]⟩] 9)) (W.heap.size + 1) [(⟨#[44]⟩ : ByteArray)]) := Lib.hid (StrRow.new _ _ _ _ (by simp) rfl)
  have hg0 := hP.glt
  have hng : W.heap.size + 1 ≠ g := by omega
  have HC := Lib.hid (chain_any hL ent_update (hA .update) 13 [(⟨#[44]⟩ : ByteArray)] (by decide) (W.heap.size + 1) n _ σ τ t H1.out.p HR.out hng hm)
  clear hP hA hm
  go_enter Tryz.func30, Tryz.ntmps30
  go_wp2_with fail
  refine HC.out.mono ?_
  rintro e w1 ⟨c0, c1, c2, c3, c4, c5, c6, c7, c8, rfl, hg1, hp1, hl1⟩
  have HT1 := Lib.hid (TreeAt.of (w0 := W) hl1 H1.out.lt)
  obtain ⟨op1, tx1, k1, j1, s1, A1, n1, m1, A2, n2, m2, A3, n3, m3, A4, n4, m4, rfl, rfl, rfl, rfl, rfl, rfl, rfl, rfl, rfl⟩ := liesF_form hl1
  have H2 := Lib.hid (H1.out.next hg1 hp1)
  obtain ⟨⟨x0, x1, x2, x3, x4, x5, x6, x7, x8⟩, z0, z1, z2, z3, z4, z5, z6, z7, z8⟩ := H2.out.cells
  clear hg1 hp1 hl1
  go_wp2_with fail
  refine post9 Tryz.results30 rfl rfl (H2.out.r.put9z _ _ _ _ _ _ _ _ _) ?_
  exact H2.out.close HT1.out
set_option maxHeartbeats 4000000 in
set_option maxRecDepth 100000 in
theorem update_any {L : List Fk} (hL : TokL L) {gt C g : Nat} {call : Ru → PM} (n : Nat) (hA : OkA L gt C g call) : OkF L gt C g 57 (pairM L (call .alt) (call .alt) 27 [(⟨#[61]⟩ : ByteArray), (⟨#[124, 61]⟩ : ByteArray), (⟨#[43, 61]⟩ : ByteArray), (⟨#[45, 61]⟩ : ByteArray), (⟨#[42, 61]⟩ : ByteArray), (⟨#[47, 61]⟩ : ByteArray), (⟨#[37, 61]⟩ : ByteArray)]) := by
  intro W σ t τ hP hm
  have H0 := Lib.hid (RSt.start hP)
  have H1 := Lib.hid (H0.out.alloc (.cells #[.string ⟨#[61]⟩, .string ⟨#[124, 61]⟩, .string ⟨#[43, 61]⟩, .string ⟨#[45, 61]⟩, .string ⟨#[42, 61]⟩, .string ⟨#[47, 61]⟩, .string ⟨#[37, 61]⟩] 9))
  have HR : Hid (StrRow ((W.alloc (.cells z9 29)).alloc (.cells #[.string ⟨#[61]⟩, .string ⟨#[124, 61]⟩, .string ⟨#[43, 61]⟩, .string ⟨#[45, 61]⟩, .string ⟨#[42, 61]⟩, .string ⟨#[47, 61]⟩, .string ⟨#[37, 61]⟩] 9)) (W.heap.size + 1) [(⟨#[61]⟩ : ByteArray), (⟨#[124, 61]⟩ : ByteArray), (⟨#[43, 61]⟩ : ByteArray), (⟨#[45, 61]⟩ : ByteArray), (⟨#[42, 61]⟩ : ByteArray), (⟨#[47, 61]⟩ : ByteArray), (⟨#[37, 61]⟩ : ByteArray)]) := Lib.hid (StrRow.new _ _ _ _ (by simp) rfl)
  have hg0 := hP.glt
  have hng : W.heap.size + 1 ≠ g := by omega
  have HC := Lib.hid (pair_any hL ent_alt ent_alt (hA .alt) (hA .alt) 27 [(⟨#[61]⟩ : ByteArray), (⟨#[124, 61]⟩ : ByteArray), (⟨#[43, 61]⟩ : ByteArray), (⟨#[45, 61]⟩ : ByteArray), (⟨#[42, 61]⟩ : ByteArray), (⟨#[47, 61]⟩ : ByteArray), (⟨#[37, 61]⟩ : ByteArray)] (by decide) (W.heap.size + 1) _ σ τ t H1.out.p HR.out hng hm)
  clear hP hA hm
  go_enter Tryz.func57, Tryz.ntmps57
  go_wp2_with fail
  refine HC.out.mono ?_
  rintro e w1 ⟨c0, c1, c2, c3, c4, c5, c6, c7, c8, rfl, hg1, hp1, hl1⟩
  have HT1 := Lib.hid (TreeAt.of (w0 := W) hl1 H1.out.lt)
  obtain ⟨op1, tx1, k1, j1, s1, A1, n1, m1, A2, n2, m2, A3, n3, m3, A4, n4, m4, rfl, rfl, rfl, rfl, rfl, rfl, rfl, rfl, rfl⟩ := liesF_form hl1
  have H2 := Lib.hid (H1.out.next hg1 hp1)
  obtain ⟨⟨x0, x1, x2, x3, x4, x5, x6, x7, x8⟩, z0, z1, z2, z3, z4, z5, z6, z7, z8⟩ := H2.out.cells
  clear hg1 hp1 hl1
  go_wp2_with fail
  refine post9 Tryz.results57 rfl rfl (H2.out.r.put9z _ _ _ _ _ _ _ _ _) ?_
  exact H2.out.close HT1.out
set_option maxHeartbeats 4000000 in
set_option maxRecDepth 100000 in
theorem alt_any {L : List Fk} (hL : TokL L) {gt C g : Nat} {call : Ru → PM} (n : Nat) (hA : OkA L gt C g call) : OkF L gt C g 83 (pairM L (call .or_) (call .alt) 14 [(⟨#[47, 47]⟩ : ByteArray)]) := by
  intro W σ t τ hP hm
  have H0 := Lib.hid (RSt.start hP)
  have H1 := Lib.hid (H0.out.alloc (.cells #[.string ⟨#[47, 47]⟩] 9))
  have HR : Hid (StrRow ((W.alloc (.cells z9 29)).alloc (.cells #[.string ⟨#[47, 47]⟩] 9)) (W.heap.size + 1) [(⟨#[47, 47]⟩ : ByteArray)]) := Lib.hid (StrRow.new _ _ _ _ (by simp) rfl)
  have hg0 := hP.glt
  have hng : W.heap.size + 1 ≠ g := by omega
  have HC := Lib.hid (pair_any hL ent_or ent_alt (hA .or_) (hA .alt) 14 [(⟨#[47, 47]⟩ : ByteArray)] (by decide) (W.heap.size + 1) _ σ τ t H1.out.p HR.out hng hm)
  clear hP hA hm
  go_enter Tryz.func83, Tryz.ntmps83
  go_wp2_with fail
  refine HC.out.mono ?_
  rintro e w1 ⟨c0, c1, c2, c3, c4, c5, c6, c7, c8, rfl, hg1, hp1, hl1⟩
  have HT1 := Lib.hid (TreeAt.of (w0 := W) hl1 H1.out.lt)
  obtain ⟨op1, tx1, k1, j1, s1, A1, n1, m1, A2, n2, m2, A3, n3, m3, A4, n4, m4, rfl, rfl, rfl, rfl, rfl, rfl, rfl, rfl, rfl⟩ := liesF_form hl1
  have H2 := Lib.hid (H1.out.next hg1 hp1)
  obtain ⟨⟨x0, x1, x2, x3, x4, x5, x6, x7, x8⟩, z0, z1, z2, z3, z4, z5, z6, z7, z8⟩ := H2.out.cells
  clear hg1 hp1 hl1
  go_wp2_with fail
  refine post9 Tryz.results83 rfl rfl (H2.out.r.put9z _ _ _ _ _ _ _ _ _) ?_
  exact H2.out.close HT1.out
set_option maxHeartbeats 4000000 in
set_option maxRecDepth 100000 in
theorem or_any {L : List Fk} (hL : TokL L) {gt C g : Nat} {call : Ru → PM} (n : Nat) (hA : OkA L gt C g call) : OkF L gt C g 103 (chainM L (call .and_) 15 [(⟨#[111, 114]⟩ : ByteArray)] n) := by
  intro W σ t τ hP hm
  have H0 := Lib.hid (RSt.start hP)
  have H1 := Lib.hid (H0.out.alloc (.cells #[.string ⟨#[111, 114]⟩] 9))
  have HR : Hid (StrRow ((W.alloc (.cells z9 29)).alloc (.cells #[.string ⟨#[111, 114]⟩] 9)) (W.heap.size + 1) [(⟨#[111, 114]⟩ : ByteArray)]) := Lib.hid (StrRow.new _ _ _ _ (by simp) rfl)
  have hg0 := hP.glt
  have hng : W.heap.size + 1 ≠ g := by omega
  have HC := Lib.hid (chain_any hL ent_and (hA .and_) 15 [(⟨#[111, 114]⟩ : ByteArray)] (by decide) (W.heap.size + 1) n _ σ τ t H1.out.p HR.out hng hm)
  clear hP hA hm
  go_enter Tryz.func103, Tryz.ntmps103
  go_wp2_with fail
  refine HC.out.mono ?_
  rintro e w1 ⟨c0, c1, c2, c3, c4, c5, c6, c7, c8, rfl, hg1, hp1, hl1⟩
  have HT1 := Lib.hid (TreeAt.of (w0 := W) hl1 H1.out.lt)
  obtain ⟨op1, tx1, k1, j1, s1, A1, n1, m1, A2, n2, m2, A3, n3, m3, A4, n4, m4, rfl, rfl, rfl, rfl, rfl, rfl, rfl, rfl, rfl⟩ := liesF_form hl1
  have H2 := Lib.hid (H1.out.next hg1 hp1)
  obtain ⟨⟨x0, x1, x2, x3, x4, x5, x6, x7, x8⟩, z0, z1, z2, z3, z4, z5, z6, z7, z8⟩ := H2.out.cells
  clear hg1 hp1 hl1
  go_wp2_with fail
  refine post9 Tryz.results103 rfl rfl (H2.out.r.put9z _ _ _ _ _ _ _ _ _) ?_
  exact H2.out.close HT1.out
set_option maxHeartbeats 4000000 in
set_option maxRecDepth 100000 in
theorem and_any {L : List Fk} (hL : TokL L) {gt C g : Nat} {call : Ru → PM} (n : Nat) (hA : OkA L gt C g call) : OkF L gt C g 117 (chainM L (call .cmp) 16 [(⟨#[97, 110, 100]⟩ : ByteArray)] n) := by
  intro W σ t τ hP hm
  have H0 := Lib.hid (RSt.start hP)
  have H1 := Lib.hid (H0.out.alloc (.cells #[.string ⟨#[97, 110, 100]⟩] 9))
  have HR : Hid (StrRow ((W.alloc (.cells z9 29)).alloc (.cells #[.string ⟨#[97, 110, 100]⟩] 9)) (W.heap.size + 1) [(⟨#[97, 110, 100]⟩ : ByteArray)]) := Lib.hid (StrRow.new _ _ _ _ (by simp) rfl)
  have hg0 := hP.glt
  have hng : W.heap.size + 1 ≠ g := by omega
  have HC := Lib.hid (chain_any hL ent_cmp (hA .cmp) 16 [(⟨#[97, 110, 100]⟩ : ByteArray)] (by decide) (W.heap.size + 1) n _ σ τ t H1.out.p HR.out hng hm)
  clear hP hA hm
  go_enter Tryz.func117, Tryz.ntmps117
  go_wp2_with fail
  refine HC.out.mono ?_
  rintro e w1 ⟨c0, c1, c2, c3, c4, c5, c6, c7, c8, rfl, hg1, hp1, hl1⟩
  have HT1 := Lib.hid (TreeAt.of (w0 := W) hl1 H1.out.lt)
  obtain ⟨op1, tx1, k1, j1, s1, A1, n1, m1, A2, n2, m2, A3, n3, m3, A4, n4, m4, rfl, rfl, rfl, rfl, rfl, rfl, rfl, rfl, rfl⟩ := liesF_form hl1
  have H2 := Lib.hid (H1.out.next hg1 hp1)
  obtain ⟨⟨x0, x1, x2, x3, x4, x5, x6, x7, x8⟩, z0, z1, z2, z3, z4, z5, z6, z7, z8⟩ := H2.out.cells
  clear hg1 hp1 hl1
  go_wp2_with fail
  refine post9 Tryz.results117 rfl rfl (H2.out.r.put9z _ _ _ _ _ _ _ _ _) ?_
  exact H2.out.close HT1.out
set_option maxHeartbeats 4000000 in
set_option maxRecDepth 100000 in
theorem cmp_any {L : List Fk} (hL : TokL L) {gt C g : Nat} {call : Ru → PM} (n : Nat) (hA : OkA L gt C g call) : OkF L gt C g 128 (pairM L (call .sum) (call .sum) 17 [(⟨#[61, 61]⟩ : ByteArray), (⟨#[33, 61]⟩ : ByteArray), (⟨#[60]⟩ : ByteArray), (⟨#[60, 61]⟩ : ByteArray), (⟨#[62]⟩ : ByteArray), (⟨#[62, 61]⟩ : ByteArray)]) := by
  intro W σ t τ hP hm
  have H0 := Lib.hid (RSt.start hP)
  have H1 := Lib.hid (H0.out.alloc (.cells #[.string ⟨#[61, 61]⟩, .string ⟨#[33, 61]⟩, .string ⟨#[60]⟩, .string ⟨#[60, 61]⟩, .string ⟨#[62]⟩, .string ⟨#[62, 61]⟩] 9))
  have HR : Hid (StrRow ((W.alloc (.cells z9 29)).alloc (.cells #[.string ⟨#[61, 61]⟩, .string ⟨#[33, 61]⟩, .string ⟨#[60]⟩, .string ⟨#[60, 61]⟩, .string ⟨#[62]⟩, .string ⟨#[62, 61]⟩] 9)) (W.heap.size + 1) [(⟨#[61, 61]⟩ : ByteArray), (⟨#[33, 61]⟩ : ByteArray), (⟨#[60]⟩ : ByteArray), (⟨#[60, 61]⟩ : ByteArray), (⟨#[62]⟩ : ByteArray), (⟨#[62, 61]⟩ : ByteArray)]) := Lib.hid (StrRow.new _ _ _ _ (by simp) rfl)
  have hg0 := hP.glt
  have hng : W.heap.size + 1 ≠ g := by omega
  have HC := Lib.hid (pair_any hL ent_sum ent_sum (hA .sum) (hA .sum) 17 [(⟨#[61, 61]⟩ : ByteArray), (⟨#[33, 61]⟩ : ByteArray), (⟨#[60]⟩ : ByteArray), (⟨#[60, 61]⟩ : ByteArray), (⟨#[62]⟩ : ByteArray), (⟨#[62, 61]⟩ : ByteArray)] (by decide) (W.heap.size + 1) _ σ τ t H1.out.p HR.out hng hm)
  clear hP hA hm
  go_enter Tryz.func128, Tryz.ntmps128
  go_wp2_with fail
  refine HC.out.mono ?_
  rintro e w1 ⟨c0, c1, c2, c3, c4, c5, c6, c7, c8, rfl, hg1, hp1, hl1⟩
  have HT1 := Lib.hid (TreeAt.of (w0 := W) hl1 H1.out.lt)
  obtain ⟨op1, tx1, k1, j1, s1, A1, n1, m1, A2, n2, m2, A3, n3, m3, A4, n4, m4, rfl, rfl, rfl, rfl, rfl, rfl, rfl, rfl, rfl⟩ := liesF_form hl1
  have H2 := Lib.hid (H1.out.next hg1 hp1)
  obtain ⟨⟨x0, x1, x2, x3, x4, x5, x6, x7, x8⟩, z0, z1, z2, z3, z4, z5, z6, z7, z8⟩ := H2.out.cells
  clear hg1 hp1 hl1
  go_wp2_with fail
  refine post9 Tryz.results128 rfl rfl (H2.out.r.put9z _ _ _ _ _ _ _ _ _) ?_
  exact H2.out.close HT1.out
set_option maxHeartbeats 4000000 in
set_option maxRecDepth 100000 in
theorem sum_any {L : List Fk} (hL : TokL L) {gt C g : Nat} {call : Ru → PM} (n : Nat) (hA : OkA L gt C g call) : OkF L gt C g 134 (chainM L (call .product) 17 [(⟨#[43]⟩ : ByteArray), (⟨#[45]⟩ : ByteArray)] n) := by
  intro W σ t τ hP hm
  have H0 := Lib.hid (RSt.start hP)
  have H1 := Lib.hid (H0.out.alloc (.cells #[.string ⟨#[43]⟩, .string ⟨#[45]⟩] 9))
  have HR : Hid (StrRow ((W.alloc (.cells z9 29)).alloc (.cells #[.string ⟨#[43]⟩, .string ⟨#[45]⟩] 9)) (W.heap.size + 1) [(⟨#[43]⟩ : ByteArray), (⟨#[45]⟩ : ByteArray)]) := Lib.hid (StrRow.new _ _ _ _ (by simp) rfl)
  have hg0 := hP.glt
  have hng : W.heap.size + 1 ≠ g := by omega
  have HC := Lib.hid (chain_any hL ent_product (hA .product) 17 [(⟨#[43]⟩ : ByteArray), (⟨#[45]⟩ : ByteArray)] (by decide) (W.heap.size + 1) n _ σ τ t H1.out.p HR.out hng hm)
  clear hP hA hm
  go_enter Tryz.func134, Tryz.ntmps134
  go_wp2_with fail
  refine HC.out.mono ?_
  rintro e w1 ⟨c0, c1, c2, c3, c4, c5, c6, c7, c8, rfl, hg1, hp1, hl1⟩
  have HT1 := Lib.hid (TreeAt.of (w0 := W) hl1 H1.out.lt)
  obtain ⟨op1, tx1, k1, j1, s1, A1, n1, m1, A2, n2, m2, A3, n3, m3, A4, n4, m4, rfl, rfl, rfl, rfl, rfl, rfl, rfl, rfl, rfl⟩ := liesF_form hl1
  have H2 := Lib.hid (H1.out.next hg1 hp1)
  obtain ⟨⟨x0, x1, x2, x3, x4, x5, x6, x7, x8⟩, z0, z1, z2, z3, z4, z5, z6, z7, z8⟩ := H2.out.cells
  clear hg1 hp1 hl1
  go_wp2_with fail
  refine post9 Tryz.results134 rfl rfl (H2.out.r.put9z _ _ _ _ _ _ _ _ _) ?_
  exact H2.out.close HT1.out
set_option maxHeartbeats 4000000 in
set_option maxRecDepth 100000 in
theorem product_any {L : List Fk} (hL : TokL L) {gt C g : Nat} {call : Ru → PM} (n : Nat) (hA : OkA L gt C g call) : OkF L gt C g 140 (chainM L (call .unary) 17 [(⟨#[42]⟩ : ByteArray), (⟨#[47]⟩ : ByteArray), (⟨#[37]⟩ : ByteArray)] n) := by
  intro W σ t τ hP hm
  have H0 := Lib.hid (RSt.start hP)
  have H1 := Lib.hid (H0.out.alloc (.cells #[.string ⟨#[42]⟩, .string ⟨#[47]⟩, .string ⟨#[37]⟩] 9))
  have HR : Hid (StrRow ((W.alloc (.cells z9 29)).alloc (.cells #[.string ⟨#[42]⟩, .string ⟨#[47]⟩, .string ⟨#[37]⟩] 9)) (W.heap.size + 1) [(⟨#[42]⟩ : ByteArray), (⟨#[47]⟩ : ByteArray), (⟨#[37]⟩ : ByteArray)]) := Lib.hid (StrRow.new _ _ _ _ (by simp) rfl)
  have hg0 := hP.glt
  have hng : W.heap.size + 1 ≠ g := by omega
  have HC := Lib.hid (chain_any hL ent_unary (hA .unary) 17 [(⟨#[42]⟩ : ByteArray), (⟨#[47]⟩ : ByteArray), (⟨#[37]⟩ : ByteArray)] (by decide) (W.heap.size + 1) n _ σ τ t H1.out.p HR.out hng hm)
  clear hP hA hm
  go_enter Tryz.func140, Tryz.ntmps140
  go_wp2_with fail
  refine HC.out.mono ?_
  rintro e w1 ⟨c0, c1, c2, c3, c4, c5, c6, c7, c8, rfl, hg1, hp1, hl1⟩
  have HT1 := Lib.hid (TreeAt.of (w0 := W) hl1 H1.out.lt)
  obtain ⟨op1, tx1, k1, j1, s1, A1, n1, m1, A2, n2, m2, A3, n3, m3, A4, n4, m4, rfl, rfl, rfl, rfl, rfl, rfl, rfl, rfl, rfl⟩ := liesF_form hl1
  have H2 := Lib.hid (H1.out.next hg1 hp1)
  obtain ⟨⟨x0, x1, x2, x3, x4, x5, x6, x7, x8⟩, z0, z1, z2, z3, z4, z5, z6, z7, z8⟩ := H2.out.cells
  clear hg1 hp1 hl1
  go_wp2_with fail
  refine post9 Tryz.results140 rfl rfl (H2.out.r.put9z _ _ _ _ _ _ _ _ _) ?_
  exact H2.out.close HT1.out
end Go.Proofs.YthgnelkppibpeaaGreatDoor

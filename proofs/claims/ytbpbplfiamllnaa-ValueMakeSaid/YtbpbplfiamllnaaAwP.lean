/- The chapter's second example, plain. -/
import Derived.Test.YtbpbplfiamllnaaObj2
set_option linter.unusedVariables false
set_option linter.unusedSimpArgs false
namespace Go.Proofs.Ytbpbplfiamllnaa
open Go.RowKit Go.Sort
def sA : ByteArray := ⟨#[97]⟩
def sB : ByteArray := ⟨#[98]⟩
def mB1 : Mb := ⟨sB, 3, 1, ⟨#[]⟩, [], [], none, 0, none, 0⟩
def mA2 : Mb := ⟨sA, 3, 2, ⟨#[]⟩, [], [], none, 0, none, 0⟩
def mB3 : Mb := ⟨sB, 3, 3, ⟨#[]⟩, [], [], none, 0, none, 0⟩
def aw3 : List Mb := [mB1, mA2, mB3]
theorem aw_srt : srt aw3 = [mA2, mB1, mB3] := by
  have h3 : aw3.length = 3 := rfl
  have e1 : insInner (Go.Proofs.ltOf mcf) 0 1 aw3.toArray = #[mA2, mB1, mB3] := rfl
  have e2 : insInner (Go.Proofs.ltOf mcf) 0 2 #[mA2, mB1, mB3] = #[mA2, mB1, mB3] := rfl
  unfold srt insertionSort
  rw [h3, insOuter, if_pos (by decide), insOuter, if_pos (by decide), insOuter, if_neg (by decide), e1, e2]
theorem aw_last : lastOf (srt aw3) = [mA2, mB3] := by
  rw [aw_srt]
  have h1 : ¬ mB1.key = mA2.key := by
    intro h
    have := (scmp_zero mB1.key mA2.key).2 h
    exact absurd this (by decide)
  have h2 : mB3.key = mB1.key := rfl
  rw [lastOf_keep h1, lastOf_same h2]
  rfl
theorem aw_obj : objV (lastOf (srt aw3)) = .mk 6 0 ⟨#[]⟩ [sA, sB] [.mk 3 2 ⟨#[]⟩ [] [], .mk 3 3 ⟨#[]⟩ [] []] := by rw [aw_last]; rfl
theorem aw_valid : valid (.mk 6 0 ⟨#[]⟩ [sA, sB] [.mk 3 2 ⟨#[]⟩ [] [], .mk 3 3 ⟨#[]⟩ [] []]) = true := by decide +kernel
theorem aw_all : (aw3.map Mb.v).all valid = true := by decide +kernel
theorem aw_keys : (aw3.map Mb.key).all okS = true := by decide +kernel
theorem aw_ret : objR aw3 = .mk 6 0 ⟨#[]⟩ [sA, sB] [.mk 3 2 ⟨#[]⟩ [] [], .mk 3 3 ⟨#[]⟩ [] []] ∧ objE aw3 = 0 := by
  unfold objR objE
  rw [if_pos aw_all, if_pos aw_all, if_pos aw_keys, if_pos aw_keys, aw_obj]
  unfold finV finE
  rw [if_pos aw_valid, if_pos aw_valid]
  exact ⟨rfl, rfl⟩
end Go.Proofs.Ytbpbplfiamllnaa

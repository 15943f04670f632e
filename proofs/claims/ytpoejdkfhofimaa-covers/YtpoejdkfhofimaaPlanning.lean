import Derived.Test.YtpoejdkfhofimaaSimple
import Derived.Test.YtpoejdkfhofimaaRPlan3
import Derived.Test.YtpoejdkfhofimaaSame
namespace Go.Proofs.Ytpoejdkfhofimaa
open Go.RowKit Classical Tl

theorem fit11 : fitP (pv 1 1) 1 := by
  refine ⟨by decide, ⟨by decide, by decide, by decide, by decide⟩, ⟨by decide, by decide, by decide, by decide⟩, fun i j i1 i2 j1 j2 => ?_⟩
  have e1 : i = 0 := by have : i < 1 := i2; omega
  have e2 : j = 0 := by have : j < 1 := j2; omega
  subst e1; subst e2
  rw [pl_zero]; exact ⟨by decide, by decide⟩
theorem nodup_small {α : Type} {l : List α} (h : l.length ≤ 1) : l.Nodup := by
  match l, h with
  | [], _ => exact List.nodup_nil
  | [a], _ => simp
theorem elem11 {x : Int} {lo hi : Int} : elemP (pv 1 1) [x] lo hi ↔ lo ≤ x ∧ x ≤ hi := by
  constructor
  · intro h
    have := h 0 0 (by decide) (by decide)
    have e : pl (pv 1 1) ((0 : Nat) : Int) ((0 : Nat) : Int) = 0 := pl_zero _
    rw [e] at this
    exact this
  · intro h i j hi hj
    have e1 : i = 0 := by have : (i : Int) < 1 := hi; omega
    have e2 : j = 0 := by have : (j : Int) < 1 := hj; omega
    subst e1; subst e2
    have e : pl (pv 1 1) ((0 : Nat) : Int) ((0 : Nat) : Int) = 0 := pl_zero _
    rw [e]
    exact h

theorem chk (x : Int) (l r o : Sl) (hl : l.len = 1) (hr : r.len = 1) (ho : o.len = 1) :
    errB (dc (kindP (sj 1 1 1))) (dc (viewsP (sj 1 1 1) l r o)) (dc (shapeP (sj 1 1 1))) (dc (elemsP (sj 1 1 1) [x] [3])) (dc (twiceP (sj 1 1 1).o o.len)) (dc (zerosP (sj 1 1 1))) (dc (biasP (sj 1 1 1) [])) (dc (scaleP (sj 1 1 1) [] [])) (dc (limP (sj 1 1 1))) (blkB (sj 1 1 1)) (dc (workP (sj 1 1 1))) = if 0 ≤ x ∧ x ≤ 255 then 0 else 4 := by
  rw [dc_yes (show kindP (sj 1 1 1) from ⟨.inl rfl, by decide, by decide⟩)]
  rw [dc_yes (show viewsP (sj 1 1 1) l r o from ⟨by rw [hl]; exact fit11, by rw [hr]; exact fit11, by rw [ho]; exact fit11⟩)]
  rw [dc_yes (show shapeP (sj 1 1 1) from ⟨rfl, rfl, rfl⟩)]
  by_cases c : 0 ≤ x ∧ x ≤ 255
  · rw [if_pos c]
    rw [dc_yes (show elemsP (sj 1 1 1) [x] [3] from ⟨elem11.2 c, elem11.2 ⟨by decide, by decide⟩⟩)]
    rw [dc_no (show ¬ twiceP (sj 1 1 1).o o.len from fun h => h (nodup_small (allL_len _ _ 1 1)))]
    rw [dc_yes (show zerosP (sj 1 1 1) from fun y hy => by
      have : y = 0 := by simpa [sj] using hy
      subst this; exact ⟨by decide, by decide⟩)]
    rw [dc_yes (show biasP (sj 1 1 1) [] from .inl rfl), dc_yes (show scaleP (sj 1 1 1) [] [] from .inl rfl)]
    rw [dc_yes (show limP (sj 1 1 1) from ⟨fun y hy => by
      have : y = -2147483648 ∨ y = 2147483647 := by simpa [sj] using hy
      rcases this with rfl | rfl <;> exact ⟨by decide, by decide⟩, by decide⟩)]
    rw [show blkB (sj 1 1 1) = true from rfl, dc_yes (show workP (sj 1 1 1) from ⟨by decide, by decide⟩)]
    rfl
  · rw [if_neg c]
    rw [dc_no (show ¬ elemsP (sj 1 1 1) [x] [3] from fun h => c (elem11.1 h.1))]
    rfl

theorem plan311 : planE (sj 3 1 1) = 0 ∧ planT (sj 3 1 1) = [0, 2, 0, 1, 2, 3, 0, 1] := by
  have h1 : sidB (sj 3 1 1).o = true := rfl
  have h2 : blkB (sj 3 1 1) = true := rfl
  obtain ⟨e1, e2⟩ := plan_3 h1 h2
  refine ⟨e1, e2.trans ?_⟩
  rfl

end Go.Proofs.Ytpoejdkfhofimaa

import Derived.Test.YtpoejdkfhofimaaPlan2
import Derived.Deep.RegionHeld3
namespace Go.Proofs.Ytpoejdkfhofimaa
open Go.RowKit Tl

set_option maxHeartbeats 1000000 in
theorem smaller_any (a b : Int) (w : World) :
    Calls Try.prog 41 #[.int .i64 a, .int .i64 b] w fun e w' => e = .returned (.int .i64 (mn a b)) ∧ w' = w := by
  by_cases c : a < b
  · have E : Hid (a = mn a b) := by unfold Hid mn; rw [if_pos c]
    go_enter Try.func41, Try.ntmps41
    go_wp2
    go_ret
    exact ⟨congrArg (fun x => Ending.returned (.int .i64 x)) E.out, rfl⟩
  · have E : Hid (b = mn a b) := by unfold Hid mn; rw [if_neg c]
    go_enter Try.func41, Try.ntmps41
    go_wp2
    go_ret
    exact ⟨congrArg (fun x => Ending.returned (.int .i64 x)) E.out, rfl⟩

theorem blk_no {j : Jb} (h : j.br < 1 ∨ 64 < j.br ∨ j.bc < 1 ∨ 64 < j.bc ∨ j.bd < 1 ∨ 64 < j.bd) : Hid (false = blkB j) := by
  unfold Hid
  cases k : blkB j
  · rfl
  · have := blkB_bd k; omega
theorem blk_yes {j : Jb} (h1 : 1 ≤ j.br) (h2 : j.br ≤ 64) (h3 : 1 ≤ j.bc) (h4 : j.bc ≤ 64) (h5 : 1 ≤ j.bd) (h6 : j.bd ≤ 64) : Hid (true = blkB j) := by
  unfold Hid blkB; rw [Pl.inB_yes h1 h2, Pl.inB_yes h3 h4, Pl.inB_yes h5 h6]; rfl

set_option maxHeartbeats 4000000 in
theorem Rblocks_any (j : Jb) (w : World) :
    Calls Try.prog 37 #[.agg (jcells j)] w fun e w' => e = .returned (.bool (blkB j)) ∧ Below w.heap.size w w' := by
  by_cases a1 : 1 ≤ j.br
  case neg =>
    have d1 : decide (1 ≤ j.br) = false := by simpa using a1
    have E := blk_no (j := j) (by omega)
    go_enter Try.func37, Try.ntmps37
    go_wp2
    go_ret
    exact ⟨ret_bool E.out, (Below.refl _ _).alloc (Nat.le_refl _) _⟩
  by_cases a2 : j.br ≤ 64
  case neg =>
    have d1 : decide (j.br ≤ 64) = false := by simpa using a2
    have E := blk_no (j := j) (by omega)
    go_enter Try.func37, Try.ntmps37
    go_wp2
    go_ret
    exact ⟨ret_bool E.out, (Below.refl _ _).alloc (Nat.le_refl _) _⟩
  by_cases a3 : 1 ≤ j.bc
  case neg =>
    have d1 : decide (1 ≤ j.bc) = false := by simpa using a3
    have E := blk_no (j := j) (by omega)
    go_enter Try.func37, Try.ntmps37
    go_wp2
    go_ret
    exact ⟨ret_bool E.out, (Below.refl _ _).alloc (Nat.le_refl _) _⟩
  by_cases a4 : j.bc ≤ 64
  case neg =>
    have d1 : decide (j.bc ≤ 64) = false := by simpa using a4
    have E := blk_no (j := j) (by omega)
    go_enter Try.func37, Try.ntmps37
    go_wp2
    go_ret
    exact ⟨ret_bool E.out, (Below.refl _ _).alloc (Nat.le_refl _) _⟩
  by_cases a5 : 1 ≤ j.bd
  case neg =>
    have d1 : decide (1 ≤ j.bd) = false := by simpa using a5
    have E := blk_no (j := j) (by omega)
    go_enter Try.func37, Try.ntmps37
    go_wp2
    go_ret
    exact ⟨ret_bool E.out, (Below.refl _ _).alloc (Nat.le_refl _) _⟩
  by_cases a6 : j.bd ≤ 64
  case neg =>
    have d1 : decide (j.bd ≤ 64) = false := by simpa using a6
    have E := blk_no (j := j) (by omega)
    go_enter Try.func37, Try.ntmps37
    go_wp2
    go_ret
    exact ⟨ret_bool E.out, (Below.refl _ _).alloc (Nat.le_refl _) _⟩
  have E := blk_yes a1 a2 a3 a4 a5 a6
  go_enter Try.func37, Try.ntmps37
  go_wp2
  go_ret
  exact ⟨ret_bool E.out, (Below.refl _ _).alloc (Nat.le_refl _) _⟩

theorem sid_no {v : Vw} (h : v.rows < 0 ∨ 24 < v.rows ∨ v.cols < 0 ∨ 24 < v.cols) : sidB v = false := by
  cases k : sidB v
  · rfl
  · have := sidB_bd k; omega

end Go.Proofs.Ytpoejdkfhofimaa

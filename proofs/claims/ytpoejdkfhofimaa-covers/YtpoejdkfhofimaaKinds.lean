import Derived.Test.YtpoejdkfhofimaaRows
import Derived.Test.YtpoejdkfhofimaaPlain
import Derived.WalkKit
import Derived.WalkSpells
import Derived.WalkLawsBesides
namespace Go.Proofs.Ytpoejdkfhofimaa
open Go.RowKit

theorem ret_bool {a b : Bool} (h : a = b) : Ending.returned (.bool a) = .returned (.bool b) := by rw [h]

theorem w32_eq (x : Int) (h1 : -9223372036854775808 ≤ x) (h2 : x ≤ 9223372036854775807) : (wrap64 (wrap32 x) == x) = Pl.inB (-2147483648) 2147483647 x := by
  by_cases c : -2147483648 ≤ x ∧ x ≤ 2147483647
  · rw [Pl.inB_yes c.1 c.2]; simp only [wrap64, wrap32, beq_iff_eq]; omega
  · rw [Pl.inB_no (by omega), beq_eq_false_iff_ne]; simp only [wrap64, wrap32]; omega

set_option maxHeartbeats 400000 in
theorem is32_any (x : Int) (w : World) (h1 : -9223372036854775808 ≤ x) (h2 : x ≤ 9223372036854775807) :
    Calls Try.prog 23 #[.int .i64 x] w fun e w' => e = .returned (.bool (Pl.inB (-2147483648) 2147483647 x)) ∧ w' = w := by
  go_enter Try.func23, Try.ntmps23
  go_wp2
  go_ret
  exact ⟨ret_bool (w32_eq x h1 h2), rfl⟩

set_option maxHeartbeats 400000 in
theorem isU8_any (x : Int) (w : World) (h1 : -9223372036854775808 ≤ x) (h2 : x ≤ 9223372036854775807) :
    Calls Try.prog 69 #[.int .i64 x] w fun e w' => e = .returned (.bool (Pl.inB 0 255 x)) ∧ w' = w := by
  go_enter Try.func69, Try.ntmps69
  go_wp2
  go_ret
  refine ⟨ret_bool ?_, rfl⟩
  by_cases c : 0 ≤ x ∧ x ≤ 255
  · rw [Pl.inB_yes c.1 c.2]; simp only [beq_iff_eq]; omega
  · rw [Pl.inB_no (by omega), beq_eq_false_iff_ne]; omega

set_option maxHeartbeats 400000 in
theorem isI8_any (x : Int) (w : World) (h1 : -9223372036854775808 ≤ x) (h2 : x ≤ 9223372036854775807) :
    Calls Try.prog 70 #[.int .i64 x] w fun e w' => e = .returned (.bool (Pl.inB (-128) 127 x)) ∧ w' = w := by
  go_enter Try.func70, Try.ntmps70
  go_wp2
  go_ret
  refine ⟨ret_bool ?_, rfl⟩
  have e8 : IntKind.i8.wrap x = (x + 128) % 256 - 128 := by
    simp only [IntKind.wrap, IntKind.signed, IntKind.bits]
    simp
    try omega
  rw [e8]
  by_cases c : -128 ≤ x ∧ x ≤ 127
  · rw [Pl.inB_yes c.1 c.2]; simp only [wrap64, beq_iff_eq]; omega
  · rw [Pl.inB_no (by omega), beq_eq_false_iff_ne]; simp only [wrap64]; omega

theorem and_inB (lo hi x : Int) : (decide (lo ≤ x) && decide (x ≤ hi)) = Pl.inB lo hi x := by unfold Pl.inB; simp [Bool.decide_and]

set_option maxHeartbeats 400000 in
theorem isShift_any (x : Int) (w : World) :
    Calls Try.prog 27 #[.int .i64 x] w fun e w' => e = .returned (.bool (Pl.inB 0 31 x)) ∧ w' = w := by
  by_cases c : 0 ≤ x
  · have e1 : Hid (decide (x ≤ 31) = Pl.inB 0 31 x) := by unfold Hid Pl.inB; simp [c]
    go_enter Try.func27, Try.ntmps27
    go_wp2
    go_ret
    exact ⟨ret_bool e1.out, rfl⟩
  · have e1 : Hid (false = Pl.inB 0 31 x) := by unfold Hid; rw [Pl.inB_no (by omega)]
    go_enter Try.func27, Try.ntmps27
    go_wp2
    go_ret
    exact ⟨ret_bool e1.out, rfl⟩

set_option maxHeartbeats 400000 in
theorem isBlock_any (x : Int) (w : World) :
    Calls Try.prog 60 #[.int .i64 x] w fun e w' => e = .returned (.bool (Pl.inB 1 64 x)) ∧ w' = w := by
  by_cases c : 1 ≤ x
  · have e1 : Hid (decide (x ≤ 64) = Pl.inB 1 64 x) := by unfold Hid Pl.inB; simp [c]
    go_enter Try.func60, Try.ntmps60
    go_wp2
    go_ret
    exact ⟨ret_bool e1.out, rfl⟩
  · have e1 : Hid (false = Pl.inB 1 64 x) := by unfold Hid; rw [Pl.inB_no (by omega)]
    go_enter Try.func60, Try.ntmps60
    go_wp2
    go_ret
    exact ⟨ret_bool e1.out, rfl⟩

set_option maxHeartbeats 400000 in
theorem isSide_any (x : Int) (w : World) :
    Calls Try.prog 59 #[.int .i64 x] w fun e w' => e = .returned (.bool (Pl.inB 0 24 x)) ∧ w' = w := by
  by_cases c : 0 ≤ x
  · have e1 : Hid (decide (x ≤ 24) = Pl.inB 0 24 x) := by unfold Hid Pl.inB; simp [c]
    go_enter Try.func59, Try.ntmps59
    go_wp2
    go_ret
    exact ⟨ret_bool e1.out, rfl⟩
  · have e1 : Hid (false = Pl.inB 0 24 x) := by unfold Hid; rw [Pl.inB_no (by omega)]
    go_enter Try.func59, Try.ntmps59
    go_wp2
    go_ret
    exact ⟨ret_bool e1.out, rfl⟩

set_option maxHeartbeats 400000 in
theorem isStep_any (x : Int) (w : World) :
    Calls Try.prog 74 #[.int .i64 x] w fun e w' => e = .returned (.bool (Pl.inB (-1000) 1000 x)) ∧ w' = w := by
  by_cases c : -1000 ≤ x
  · have e1 : Hid (decide (x ≤ 1000) = Pl.inB (-1000) 1000 x) := by unfold Hid Pl.inB; simp [c]
    go_enter Try.func74, Try.ntmps74
    go_wp2
    go_ret
    exact ⟨ret_bool e1.out, rfl⟩
  · have e1 : Hid (false = Pl.inB (-1000) 1000 x) := by unfold Hid; rw [Pl.inB_no (by omega)]
    go_enter Try.func74, Try.ntmps74
    go_wp2
    go_ret
    exact ⟨ret_bool e1.out, rfl⟩

end Go.Proofs.Ytpoejdkfhofimaa

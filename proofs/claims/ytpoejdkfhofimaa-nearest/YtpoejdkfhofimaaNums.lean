import Derived.Test.YtpoejdkfhofimaaRows
import Derived.Test.YtpoejdkfhofimaaKinds
import Derived.WalkKit
import Derived.WalkSpells
import Derived.WalkLawsBesides
namespace Go.Proofs.Ytpoejdkfhofimaa
open Go.RowKit

theorem ret_int {k : IntKind} {a b : Int} (h : a = b) : Ending.returned (.int k a) = .returned (.int k b) := by rw [h]
theorem ret_two {k l : IntKind} {a b c d : Int} (h : a = b) (h' : c = d) : Ending.returned (.tuple #[.int k a, .int l c]) = .returned (.tuple #[.int k b, .int l d]) := by rw [h, h']

set_option maxHeartbeats 400000 in
theorem cut_any (x : Int) (w : World) (h1 : -4611686018427387904 ≤ x) (h2 : x ≤ 4611686018427387905) :
    Calls Try.prog 43 #[.int .i64 x, .int .i32 (-2147483648), .int .i32 2147483647] w fun e w' => e = .returned (.int .i32 (Pl.clampI x)) ∧ w' = w := by
  by_cases c1 : x < -2147483648
  · have e1 : Hid (Pl.clampI x = -2147483648) := by unfold Hid; unfold Pl.clampI; rw [if_pos c1]
    go_enter Try.func43, Try.ntmps43
    go_wp2
    go_ret
    exact ⟨ret_int (by rw [e1.out]), rfl⟩
  · by_cases c2 : 2147483647 < x
    · have e1 : Hid (Pl.clampI x = 2147483647) := by unfold Hid; unfold Pl.clampI; rw [if_neg c1, if_pos c2]
      go_enter Try.func43, Try.ntmps43
      go_wp2
      go_ret
      exact ⟨ret_int (by rw [e1.out]), rfl⟩
    · have e1 : Hid (Pl.clampI x = x) := by unfold Hid; unfold Pl.clampI; rw [if_neg c1, if_neg c2]
      go_enter Try.func43, Try.ntmps43
      go_wp2
      go_ret
      exact ⟨ret_int (by rw [e1.out]), rfl⟩

set_option maxHeartbeats 400000 in
theorem high_any (a b : Int) (w : World) (a1 : -2147483648 ≤ a) (a2 : a ≤ 2147483647) (b1 : -2147483648 ≤ b) (b2 : b ≤ 2147483647) :
    Calls Try.prog 24 #[.int .i32 a, .int .i32 b] w fun e w' => e = .returned (.int .i32 (Pl.hiP (a * b))) ∧ w' = w := by
  obtain ⟨h1, h2⟩ := Pl.mul_bd a b a1 (by omega) b1 (by omega)
  go_enter Try.func24, Try.ntmps24
  go_wp2_with (go_at_call 43; refine (cut_any _ _ (by omega) (by omega)).mono ?_; rintro e w' ⟨rfl, rfl⟩)
  go_ret
  exact ⟨rfl, rfl⟩

set_option maxHeartbeats 400000 in
theorem up_any (x e : Int) (w : World) (h1 : 0 ≤ x) (h2 : x ≤ 2147483648) (h3 : 0 ≤ e) (h4 : e ≤ 31) :
    Calls Try.prog 45 #[.int .i64 x, .int .i64 e] w fun r w' => r = .returned (.int .i64 (Pl.shU x e.toNat)) ∧ w' = w := by
  obtain ⟨p1, p2⟩ := Pl.pow_bd e.toNat (by omega)
  go_enter Try.func45, Try.ntmps45
  go_wp2
  go_ret
  exact ⟨rfl, rfl⟩

set_option maxHeartbeats 400000 in
theorem shifted_any (x e : Int) (w : World) (h1 : -2147483648 ≤ x) (h2 : x ≤ 2147483647) (h3 : 0 ≤ e) (h4 : e ≤ 31) :
    Calls Try.prog 28 #[.int .i32 x, .int .i64 e] w fun r w' => r = .returned (.int .i32 (Pl.shP x e.toNat)) ∧ w' = w := by
  by_cases c : x < 0
  · have e1 : Hid (Pl.shP x e.toNat = - Pl.shU (-x) e.toNat) := by unfold Hid; unfold Pl.shP; rw [if_pos c]
    obtain ⟨s1, s2⟩ := Pl.shU_bd (-x) e.toNat (by omega) (by omega) (by omega)
    go_enter Try.func28, Try.ntmps28
    go_wp2_with (go_at_call 45; refine (up_any _ _ _ (by omega) (by omega) (by omega) (by omega)).mono ?_; rintro e w' ⟨rfl, rfl⟩)
    go_ret
    exact ⟨ret_int (by rw [e1.out]), rfl⟩
  · have e1 : Hid (Pl.shP x e.toNat = Pl.shU x e.toNat) := by unfold Hid; unfold Pl.shP; rw [if_neg c]
    obtain ⟨s1, s2⟩ := Pl.shU_bd x e.toNat (by omega) (by omega) (by omega)
    go_enter Try.func28, Try.ntmps28
    go_wp2_with (go_at_call 45; refine (up_any _ _ _ (by omega) (by omega) (by omega) (by omega)).mono ?_; rintro e w' ⟨rfl, rfl⟩)
    go_ret
    exact ⟨ret_int (by rw [e1.out]), rfl⟩

/-! ### the program's two calls -/
set_option maxHeartbeats 400000 in
theorem High_ok (a b : Int) (w : World) (a1 : -2147483648 ≤ a) (a2 : a ≤ 2147483647) (b1 : -2147483648 ≤ b) (b2 : b ≤ 2147483647) :
    Calls Try.prog 9 #[.int .i64 a, .int .i64 b] w fun e w' => e = .returned (.tuple #[.int .i64 (Pl.hiP (a * b)), .int .i64 0]) ∧ w' = w := by
  obtain ⟨s1, s2⟩ := Pl.hiP_bd (a * b)
  have q1 := Pl.inB_yes a1 a2
  have q2 := Pl.inB_yes b1 b2
  go_enter Try.func9, Try.ntmps9
  go_wp2_with (first | (go_at_call 23; refine (is32_any _ _ (by omega) (by omega)).mono ?_; rintro e w' ⟨rfl, rfl⟩) | (go_at_call 24; refine (high_any _ _ _ (by omega) (by omega) (by omega) (by omega)).mono ?_; rintro e w' ⟨rfl, rfl⟩) | go_in)
  go_ret2
  exact ⟨rfl, rfl⟩

set_option maxHeartbeats 400000 in
theorem High_no (a b : Int) (w : World) (a1 : -9223372036854775808 ≤ a) (a2 : a ≤ 9223372036854775807) (b1 : -9223372036854775808 ≤ b) (b2 : b ≤ 9223372036854775807)
    (h : a < -2147483648 ∨ 2147483647 < a ∨ b < -2147483648 ∨ 2147483647 < b) :
    Calls Try.prog 9 #[.int .i64 a, .int .i64 b] w fun e w' => e = .returned (.tuple #[.int .i64 0, .int .i64 6]) ∧ w' = w := by
  by_cases c : a < -2147483648 ∨ 2147483647 < a
  · have q1 := Pl.inB_no c
    clear h c
    go_enter Try.func9, Try.ntmps9
    go_wp2_with (first | (go_at_call 23; refine (is32_any _ _ (by omega) (by omega)).mono ?_; rintro e w' ⟨rfl, rfl⟩) | go_in)
    go_ret2
    exact ⟨rfl, rfl⟩
  · have q1 : Pl.inB (-2147483648) 2147483647 a = true := Pl.inB_yes (by omega) (by omega)
    have q2 : Pl.inB (-2147483648) 2147483647 b = false := Pl.inB_no (by omega)
    clear h c
    go_enter Try.func9, Try.ntmps9
    go_wp2_with (first | (go_at_call 23; refine (is32_any _ _ (by omega) (by omega)).mono ?_; rintro e w' ⟨rfl, rfl⟩) | go_in)
    go_ret2
    exact ⟨rfl, rfl⟩

set_option maxHeartbeats 400000 in
theorem Shifted_ok (x e : Int) (w : World) (a1 : -2147483648 ≤ x) (a2 : x ≤ 2147483647) (b1 : 0 ≤ e) (b2 : e ≤ 31) :
    Calls Try.prog 12 #[.int .i64 x, .int .i64 e] w fun r w' => r = .returned (.tuple #[.int .i64 (Pl.shP x e.toNat), .int .i64 0]) ∧ w' = w := by
  obtain ⟨s1, s2⟩ := Pl.shP_bd x e.toNat (by omega) (by omega) (by omega)
  have q1 := Pl.inB_yes a1 a2
  have q2 := Pl.inB_yes b1 b2
  go_enter Try.func12, Try.ntmps12
  go_wp2_with (first | (go_at_call 23; refine (is32_any _ _ (by omega) (by omega)).mono ?_; rintro e w' ⟨rfl, rfl⟩) | (go_at_call 27; refine (isShift_any _ _).mono ?_; rintro e w' ⟨rfl, rfl⟩) | (go_at_call 28; refine (shifted_any _ _ _ (by omega) (by omega) (by omega) (by omega)).mono ?_; rintro e w' ⟨rfl, rfl⟩) | go_in)
  go_ret2
  exact ⟨rfl, rfl⟩

set_option maxHeartbeats 400000 in
theorem Shifted_no (x e : Int) (w : World) (a1 : -9223372036854775808 ≤ x) (a2 : x ≤ 9223372036854775807) (h : x < -2147483648 ∨ 2147483647 < x) :
    Calls Try.prog 12 #[.int .i64 x, .int .i64 e] w fun r w' => r = .returned (.tuple #[.int .i64 0, .int .i64 6]) ∧ w' = w := by
  have q1 := Pl.inB_no h
  clear h
  go_enter Try.func12, Try.ntmps12
  go_wp2_with (first | (go_at_call 23; refine (is32_any _ _ (by omega) (by omega)).mono ?_; rintro e w' ⟨rfl, rfl⟩) | go_in)
  go_ret2
  exact ⟨rfl, rfl⟩

set_option maxHeartbeats 400000 in
theorem Shifted_by (x e : Int) (w : World) (a1 : -2147483648 ≤ x) (a2 : x ≤ 2147483647) (h : e < 0 ∨ 31 < e) :
    Calls Try.prog 12 #[.int .i64 x, .int .i64 e] w fun r w' => r = .returned (.tuple #[.int .i64 0, .int .i64 8]) ∧ w' = w := by
  have q1 := Pl.inB_yes a1 a2
  have q2 := Pl.inB_no h
  clear h
  go_enter Try.func12, Try.ntmps12
  go_wp2_with (first | (go_at_call 23; refine (is32_any _ _ (by omega) (by omega)).mono ?_; rintro e w' ⟨rfl, rfl⟩) | (go_at_call 27; refine (isShift_any _ _).mono ?_; rintro e w' ⟨rfl, rfl⟩) | go_in)
  go_ret2
  exact ⟨rfl, rfl⟩

end Go.Proofs.Ytpoejdkfhofimaa

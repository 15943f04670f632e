import Derived.Test.YtpoejdkfhofimaaRefs
namespace Go.Proofs.Ytpoejdkfhofimaa
open Go.RowKit

theorem near_bd (x : Int) (k : Nat) (h : k ≤ 31) :
    -(2 ^ k) ≤ 2 * (x - Pl.shP x k * 2 ^ k) ∧ 2 * (x - Pl.shP x k * 2 ^ k) ≤ 2 ^ k ∧ (2 * (x - Pl.shP x k * 2 ^ k) = 2 ^ k → x < 0) ∧ (2 * (x - Pl.shP x k * 2 ^ k) = -(2 ^ k) → 0 < x) := by
  refine Pl.pow_cases k h (fun k => -(2 ^ k) ≤ 2 * (x - Pl.shP x k * 2 ^ k) ∧ 2 * (x - Pl.shP x k * 2 ^ k) ≤ 2 ^ k ∧ (2 * (x - Pl.shP x k * 2 ^ k) = 2 ^ k → x < 0) ∧ (2 * (x - Pl.shP x k * 2 ^ k) = -(2 ^ k) → 0 < x)) ?_ ?_ ?_ ?_ ?_ ?_ ?_ ?_ ?_ ?_ ?_ ?_ ?_ ?_ ?_ ?_ ?_ ?_ ?_ ?_ ?_ ?_ ?_ ?_ ?_ ?_ ?_ ?_ ?_ ?_ ?_ ?_
  all_goals (simp only [Pl.shP, Pl.shU, Int.reducePow, Int.reduceDiv]; split <;> omega)

theorem hi_near (x y : Int) (a1 : -2147483648 ≤ x) (a2 : x ≤ 2147483647) (b1 : -2147483648 ≤ y) (b2 : y ≤ 2147483647) (h : ¬ (x = -2147483648 ∧ y = -2147483648)) :
    Pl.hiP (x * y) = (x * y + 1073741824) / 2147483648 := by
  have m := Pl.mul_bd x y a1 (by omega) b1 (by omega)
  have m2 : x * y ≤ 4611686018427387904 - 2147483648 := by
    by_cases c : x = -2147483648
    · subst c
      omega
    · by_cases d : y = -2147483648
      · subst d; omega
      · have ha : x.natAbs ≤ 2147483647 := by omega
        have hb : y.natAbs ≤ 2147483647 := by omega
        have h : (x * y).natAbs ≤ 2147483647 * 2147483647 := by rw [Int.natAbs_mul]; exact Nat.mul_le_mul ha hb
        omega
  unfold Pl.hiP Pl.clampI
  rw [if_neg (by omega), if_neg (by omega)]

set_option maxHeartbeats 400000 in
theorem pick_any (c n : Int) (w : World) (h1 : -9223372036854775807 - 1 ≤ c) (h2 : c ≤ 9223372036854775807) (h3 : 1 ≤ n) (h4 : n ≤ 4294967296) :
    Calls Try.prog 15 #[.int .i64 c, .int .i64 n] w fun e w' => ∃ v : Int, 0 ≤ v ∧ v < n ∧ e = .returned (.int .i64 v) ∧ w' = w := by
  by_cases h : c < 0
  · have m1 := Int.emod_nonneg (-(c + 1)) (b := n) (by omega)
    have m2 := Int.emod_lt_of_pos (-(c + 1)) (b := n) (by omega)
    have T : Hid ((c + 1).tmod n = -((-(c + 1)) % n)) := Pl.tmod_neg_form (c + 1) n (by omega)
    have M1 : Hid (0 ≤ (-(c + 1)) % n ∧ (-(c + 1)) % n < n) := ⟨m1, m2⟩
    clear m1 m2
    go_enter Try.func15, Try.ntmps15
    go_wp2
    go_ret
    exact ⟨-(c + 1).tmod n, by have := T.out; have := M1.out; omega, by have := T.out; have := M1.out; omega, rfl, rfl⟩
  · have m1 := Int.emod_nonneg c (b := n) (by omega)
    have m2 := Int.emod_lt_of_pos c (b := n) (by omega)
    go_enter Try.func15, Try.ntmps15
    go_wp2
    go_ret
    exact ⟨_, m1, m2, rfl, rfl⟩

theorem pick32 (c : Int) (w : World) (h1 : -9223372036854775807 - 1 ≤ c) (h2 : c ≤ 9223372036854775807) :
    Calls Try.prog 15 #[.int .i64 c, .int .i64 4294967296] w fun e w' => ∃ x : Int, -2147483648 ≤ x ∧ x ≤ 2147483647 ∧ e = .returned (.int .i64 (x + 2147483648)) ∧ w' = w := by
  refine (pick_any c 4294967296 w h1 h2 (by omega) (by omega)).mono ?_
  rintro e w' ⟨v, v1, v2, rfl, rfl⟩
  exact ⟨v - 2147483648, by omega, by omega, ret_int (by omega), rfl⟩
theorem pick5 (c : Int) (w : World) (h1 : -9223372036854775807 - 1 ≤ c) (h2 : c ≤ 9223372036854775807) :
    Calls Try.prog 15 #[.int .i64 c, .int .i64 32] w fun e w' => ∃ k : Nat, k ≤ 31 ∧ e = .returned (.int .i64 k) ∧ w' = w := by
  refine (pick_any c 32 w h1 h2 (by omega) (by omega)).mono ?_
  rintro e w' ⟨v, v1, v2, rfl, rfl⟩
  exact ⟨v.toNat, by omega, ret_int (by omega), rfl⟩

set_option maxHeartbeats 400000 in
theorem half_any (p : Int) (w : World) (h1 : -4611686018427387904 ≤ p) (h2 : p ≤ 4611686018427387904) :
    Calls Try.prog 16 #[.int .i64 p] w fun e w' => e = .returned (.tuple #[.int .i64 (p / 2147483648), .int .i64 (p % 2147483648)]) ∧ w' = w := by
  by_cases c : 0 ≤ p
  · go_enter Try.func16, Try.ntmps16
    go_wp2
    go_ret2
    exact ⟨rfl, rfl⟩
  · obtain ⟨q, rfl⟩ : ∃ q, p = -q := ⟨-p, by omega⟩
    have f1 : (-q).tdiv 2147483648 = -(q / 2147483648) := by rw [Pl.tdiv_neg_form _ _ (by omega)]; simp
    have f2 : (-q).tmod 2147483648 = -(q % 2147483648) := by rw [Pl.tmod_neg_form _ _ (by omega)]; simp
    have g1 : q.tdiv 2147483648 = q / 2147483648 := Int.tdiv_eq_ediv_of_nonneg (by omega)
    have g2 : q.tmod 2147483648 = q % 2147483648 := Int.tmod_eq_emod_of_nonneg (by omega)
    by_cases d : q % 2147483648 = 0
    · have D : Hid (q % 2147483648 = 0) := d
      have d' : q % 2147483648 ≤ 0 := by omega
      clear d
      go_enter Try.func16, Try.ntmps16
      go_wp2
      go_ret2
      exact ⟨ret_two (by have := D.out; omega) (by have := D.out; omega), rfl⟩
    · have d' : 0 < q % 2147483648 := by omega
      clear d
      go_enter Try.func16, Try.ntmps16
      go_wp2
      go_ret2
      exact ⟨ret_two (by omega) (by omega), rfl⟩

set_option maxHeartbeats 400000 in
theorem rounding_any (w : World) : Calls Try.prog 14 #[] w fun e w' => e = .returned (.bool true) ∧ w' = w := by
  have e1 : Pl.hiP (1073741824 * 3) = 2 := by decide
  have e2 : Pl.shP (-3) (1 : Int).toNat = -2 := by decide
  have N1 : Hid (Calls Try.prog 9 #[.int .i64 1073741824, .int .i64 3] w fun e w' => e = .returned (.tuple #[.int .i64 2, .int .i64 0]) ∧ w' = w) := by
    have := High_ok 1073741824 3 w (by omega) (by omega) (by omega) (by omega)
    rw [e1] at this; exact this
  have N2 : Hid (Calls Try.prog 12 #[.int .i64 (-3), .int .i64 1] w fun e w' => e = .returned (.tuple #[.int .i64 (-2), .int .i64 0]) ∧ w' = w) := by
    have := Shifted_ok (-3) 1 w (by omega) (by omega) (by omega) (by omega)
    rw [e2] at this; exact this
  clear e1 e2
  go_enter Try.func14, Try.ntmps14
  go_wp2_with (first | (go_at_call 9; refine N1.out.mono ?_; rintro e w' ⟨rfl, rfl⟩) | (go_at_call 12; refine N2.out.mono ?_; rintro e w' ⟨rfl, rfl⟩))
  go_ret
  exact ⟨rfl, rfl⟩

end Go.Proofs.Ytpoejdkfhofimaa

import Derived.WalkKit
namespace Go.Proofs.Ytpoejdkfhofimaa.Pl

/-- from the one to the other -/
def inB (lo hi x : Int) : Bool := decide (lo ≤ x ∧ x ≤ hi)
theorem inB_yes {lo hi x : Int} (h1 : lo ≤ x) (h2 : x ≤ hi) : inB lo hi x = true := by unfold inB; simp; omega
theorem inB_no {lo hi x : Int} (h : x < lo ∨ hi < x) : inB lo hi x = false := by unfold inB; simp; omega
theorem inB_iff {lo hi x : Int} : inB lo hi x = true ↔ lo ≤ x ∧ x ≤ hi := by unfold inB; simp

/-- a number brought between the least and the greatest of 32 bits -/
def clampI (x : Int) : Int := if x < -2147483648 then -2147483648 else if 2147483647 < x then 2147483647 else x
/-- the high product -/
def hiP (p : Int) : Int := clampI ((p + 1073741824) / 2147483648)
/-- what is not below 0, shifted -/
def shU (y : Int) (e : Nat) : Int := (y + 2 ^ e / 2) / 2 ^ e
/-- a number, shifted -/
def shP (x : Int) (e : Nat) : Int := if x < 0 then - shU (-x) e else shU x e

theorem clampI_bd (x : Int) : -2147483648 ≤ clampI x ∧ clampI x ≤ 2147483647 := by
  unfold clampI; split <;> (try split) <;> omega

theorem hiP_bd (p : Int) : -2147483648 ≤ hiP p ∧ hiP p ≤ 2147483647 := clampI_bd _

theorem mul_bd (a b : Int) (a1 : -2147483648 ≤ a) (a2 : a ≤ 2147483648) (b1 : -2147483648 ≤ b) (b2 : b ≤ 2147483648) :
    -4611686018427387904 ≤ a * b ∧ a * b ≤ 4611686018427387904 := by
  have ha : a.natAbs ≤ 2147483648 := by omega
  have hb : b.natAbs ≤ 2147483648 := by omega
  have h : (a * b).natAbs ≤ 2147483648 * 2147483648 := by
    rw [Int.natAbs_mul]; exact Nat.mul_le_mul ha hb
  omega

theorem pow_cases (e : Nat) (h : e ≤ 31) (P : Nat → Prop) (f0 : P 0) (f1 : P 1) (f2 : P 2) (f3 : P 3) (f4 : P 4) (f5 : P 5) (f6 : P 6) (f7 : P 7) (f8 : P 8) (f9 : P 9)
    (f10 : P 10) (f11 : P 11) (f12 : P 12) (f13 : P 13) (f14 : P 14) (f15 : P 15) (f16 : P 16) (f17 : P 17) (f18 : P 18) (f19 : P 19) (f20 : P 20) (f21 : P 21) (f22 : P 22)
    (f23 : P 23) (f24 : P 24) (f25 : P 25) (f26 : P 26) (f27 : P 27) (f28 : P 28) (f29 : P 29) (f30 : P 30) (f31 : P 31) : P e := by
  have c : e = 0 ∨ e = 1 ∨ e = 2 ∨ e = 3 ∨ e = 4 ∨ e = 5 ∨ e = 6 ∨ e = 7 ∨ e = 8 ∨ e = 9 ∨ e = 10 ∨ e = 11 ∨ e = 12 ∨ e = 13 ∨ e = 14 ∨ e = 15 ∨ e = 16 ∨ e = 17 ∨ e = 18 ∨ e = 19 ∨ e = 20 ∨ e = 21 ∨ e = 22 ∨ e = 23 ∨ e = 24 ∨ e = 25 ∨ e = 26 ∨ e = 27 ∨ e = 28 ∨ e = 29 ∨ e = 30 ∨ e = 31 := by omega
  rcases c with rfl | rfl | rfl | rfl | rfl | rfl | rfl | rfl | rfl | rfl | rfl | rfl | rfl | rfl | rfl | rfl | rfl | rfl | rfl | rfl | rfl | rfl | rfl | rfl | rfl | rfl | rfl | rfl | rfl | rfl | rfl | rfl
  all_goals assumption

theorem pow_bd (e : Nat) (h : e ≤ 31) : (1 : Int) ≤ 2 ^ e ∧ (2 : Int) ^ e ≤ 2147483648 := by
  refine pow_cases e h (fun e => (1 : Int) ≤ 2 ^ e ∧ (2 : Int) ^ e ≤ 2147483648) ?_ ?_ ?_ ?_ ?_ ?_ ?_ ?_ ?_ ?_ ?_ ?_ ?_ ?_ ?_ ?_ ?_ ?_ ?_ ?_ ?_ ?_ ?_ ?_ ?_ ?_ ?_ ?_ ?_ ?_ ?_ ?_
  all_goals decide

/-- to the nearest, by half added or by the rest -/
theorem shU_rest (y : Int) (e : Nat) (h : e ≤ 31) : shU y e = if 2 ^ e ≤ 2 * (y % 2 ^ e) then y / 2 ^ e + 1 else y / 2 ^ e := by
  refine pow_cases e h (fun e => shU y e = if 2 ^ e ≤ 2 * (y % 2 ^ e) then y / 2 ^ e + 1 else y / 2 ^ e) ?_ ?_ ?_ ?_ ?_ ?_ ?_ ?_ ?_ ?_ ?_ ?_ ?_ ?_ ?_ ?_ ?_ ?_ ?_ ?_ ?_ ?_ ?_ ?_ ?_ ?_ ?_ ?_ ?_ ?_ ?_ ?_
  all_goals (simp only [shU, Int.reducePow, Int.reduceDiv]; split <;> omega)

theorem shU_bd (y : Int) (e : Nat) (h : e ≤ 31) (h0 : 0 ≤ y) (h1 : y ≤ 2147483648) : 0 ≤ shU y e ∧ shU y e ≤ y := by
  refine pow_cases e h (fun e => 0 ≤ shU y e ∧ shU y e ≤ y) ?_ ?_ ?_ ?_ ?_ ?_ ?_ ?_ ?_ ?_ ?_ ?_ ?_ ?_ ?_ ?_ ?_ ?_ ?_ ?_ ?_ ?_ ?_ ?_ ?_ ?_ ?_ ?_ ?_ ?_ ?_ ?_
  all_goals (simp only [shU, Int.reducePow, Int.reduceDiv]; omega)

theorem shP_bd (x : Int) (e : Nat) (h : e ≤ 31) (h0 : -2147483648 ≤ x) (h1 : x ≤ 2147483647) : -2147483648 ≤ shP x e ∧ shP x e ≤ 2147483647 := by
  unfold shP
  split
  · have := shU_bd (-x) e h (by omega) (by omega); omega
  · have := shU_bd x e h (by omega) (by omega); omega

theorem tdiv_neg_form (p n : Int) (h : p ≤ 0) : p.tdiv n = -((-p) / n) := by
  have e : p = -(-p) := by omega
  rw [e, Int.neg_tdiv, Int.tdiv_eq_ediv_of_nonneg (by omega)]; simp

theorem tmod_neg_form (p n : Int) (h : p ≤ 0) : p.tmod n = -((-p) % n) := by
  have e : p = -(-p) := by omega
  rw [e, Int.neg_tmod, Int.tmod_eq_emod_of_nonneg (by omega)]; simp

end Go.Proofs.Ytpoejdkfhofimaa.Pl

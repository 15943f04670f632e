import Derived.Test.YtpoejdkfhofimaaJob
namespace Go.Proofs.Ytpoejdkfhofimaa
open Go.RowKit

/-- a proposition as a bool -/
def dc (P : Prop) [Decidable P] : Bool := decide P
theorem dc_yes {P : Prop} [Decidable P] (h : P) : dc P = true := decide_eq_true h
theorem dc_no {P : Prop} [Decidable P] (h : ¬ P) : dc P = false := decide_eq_false h
theorem dc_iff {P : Prop} [Decidable P] : dc P = true ↔ P := decide_eq_true_iff
theorem dc_off {P : Prop} [Decidable P] : dc P = false ↔ ¬ P := decide_eq_false_iff_not
theorem dc_eq {P Q : Prop} [Decidable P] [Decidable Q] (h : P ↔ Q) : dc P = dc Q := decide_eq_decide.2 h

/-- the place of an element, and as the program reckons it -/
def pl (v : Vw) (i j : Int) : Int := if v.tn = true then v.off + j * v.rs + i * v.cs else v.off + i * v.rs + j * v.cs
def plW (v : Vw) (i j : Int) : Int := if v.tn = true then wrap64 (wrap64 (v.off + j * v.rs) + i * v.cs) else wrap64 (wrap64 (v.off + i * v.rs) + j * v.cs)

theorem mul_small {i a : Int} (h1 : 0 ≤ i) (h2 : i ≤ 24) (h3 : -1000 ≤ a) (h4 : a ≤ 1000) : -24000 ≤ i * a ∧ i * a ≤ 24000 := by
  have c : i = 0 ∨ i = 1 ∨ i = 2 ∨ i = 3 ∨ i = 4 ∨ i = 5 ∨ i = 6 ∨ i = 7 ∨ i = 8 ∨ i = 9 ∨ i = 10 ∨ i = 11 ∨ i = 12 ∨ i = 13 ∨ i = 14 ∨ i = 15 ∨ i = 16 ∨ i = 17 ∨ i = 18 ∨ i = 19 ∨ i = 20 ∨ i = 21 ∨ i = 22 ∨ i = 23 ∨ i = 24 := by omega
  rcases c with rfl | rfl | rfl | rfl | rfl | rfl | rfl | rfl | rfl | rfl | rfl | rfl | rfl | rfl | rfl | rfl | rfl | rfl | rfl | rfl | rfl | rfl | rfl | rfl | rfl <;> omega

theorem wrap_id {x : Int} (h1 : -9223372036854775808 ≤ x) (h2 : x ≤ 9223372036854775807) : wrap64 x = x := by unfold wrap64; omega

theorem plW_eq {v : Vw} {i j : Int} (i1 : 0 ≤ i) (i2 : i ≤ 24) (j1 : 0 ≤ j) (j2 : j ≤ 24) (a1 : -1000 ≤ v.rs) (a2 : v.rs ≤ 1000) (b1 : -1000 ≤ v.cs) (b2 : v.cs ≤ 1000) (o1 : 0 ≤ v.off) (o2 : v.off ≤ 5000) : plW v i j = pl v i j := by
  have m1 := mul_small i1 i2 a1 a2
  have m2 := mul_small i1 i2 b1 b2
  have m3 := mul_small j1 j2 a1 a2
  have m4 := mul_small j1 j2 b1 b2
  unfold plW pl
  split
  · rw [wrap_id (x := v.off + j * v.rs) (by omega) (by omega), wrap_id (by omega) (by omega)]
  · rw [wrap_id (x := v.off + i * v.rs) (by omega) (by omega), wrap_id (by omega) (by omega)]

theorem pl_bd {v : Vw} {i j : Int} (i1 : 0 ≤ i) (i2 : i ≤ 24) (j1 : 0 ≤ j) (j2 : j ≤ 24) (a1 : -1000 ≤ v.rs) (a2 : v.rs ≤ 1000) (b1 : -1000 ≤ v.cs) (b2 : v.cs ≤ 1000) : v.off - 48000 ≤ pl v i j ∧ pl v i j ≤ v.off + 48000 := by
  have m1 := mul_small i1 i2 a1 a2
  have m2 := mul_small i1 i2 b1 b2
  have m3 := mul_small j1 j2 a1 a2
  have m4 := mul_small j1 j2 b1 b2
  unfold pl
  split <;> omega

theorem pl_zero (v : Vw) : pl v 0 0 = v.off := by unfold pl; split <;> simp
theorem plW_zero (v : Vw) (h : -9223372036854775808 ≤ v.off) (h' : v.off ≤ 9223372036854775807) : plW v 0 0 = v.off := by
  unfold plW; split <;> simp only [Int.zero_mul, Int.add_zero] <;> rw [wrap_id (x := v.off) h h', wrap_id h h']

/-- steps within their limits -/
def stpB (v : Vw) : Bool := Pl.inB (-1000) 1000 v.rs && Pl.inB (-1000) 1000 v.cs
theorem stpB_bd {v : Vw} (h : stpB v = true) : -1000 ≤ v.rs ∧ v.rs ≤ 1000 ∧ -1000 ≤ v.cs ∧ v.cs ≤ 1000 := by
  unfold stpB at h; simp only [Bool.and_eq_true, Pl.inB_iff] at h; omega

/-- all places of a view are in a buffer of n numbers -/
def inside (v : Vw) (n : Int) : Prop := ∀ i j : Int, 0 ≤ i → i < v.rows → 0 ≤ j → j < v.cols → 0 ≤ pl v i j ∧ pl v i j < n
/-- a view fits a buffer of n numbers -/
def fitP (v : Vw) (n : Int) : Prop := n ≤ 5000 ∧ (0 ≤ v.rows ∧ v.rows ≤ 24 ∧ 0 ≤ v.cols ∧ v.cols ≤ 24) ∧ (-1000 ≤ v.rs ∧ v.rs ≤ 1000 ∧ -1000 ≤ v.cs ∧ v.cs ≤ 1000) ∧ inside v n
/-- its four corners are -/
def corners (v : Vw) (n : Int) : Prop := (0 ≤ v.off ∧ v.off < n) ∧ (0 ≤ plW v 0 (v.cols - 1) ∧ plW v 0 (v.cols - 1) < n) ∧ (0 ≤ plW v (v.rows - 1) 0 ∧ plW v (v.rows - 1) 0 < n) ∧ (0 ≤ plW v (v.rows - 1) (v.cols - 1) ∧ plW v (v.rows - 1) (v.cols - 1) < n)

theorem between {i m a : Int} (h1 : 0 ≤ i) (h2 : i ≤ m) : (0 ≤ i * a ∧ i * a ≤ m * a) ∨ (m * a ≤ i * a ∧ i * a ≤ 0) := by
  rcases Int.le_total 0 a with h | h
  · exact .inl ⟨Int.mul_nonneg h1 h, Int.mul_le_mul_of_nonneg_right h2 h⟩
  · exact .inr ⟨Int.mul_le_mul_of_nonpos_right h2 h, Int.mul_nonpos_of_nonneg_of_nonpos h1 h⟩

theorem corners_iff {v : Vw} {n : Int} (hn : n ≤ 5000) (r1 : 0 < v.rows) (r2 : v.rows ≤ 24) (c1 : 0 < v.cols) (c2 : v.cols ≤ 24) (a1 : -1000 ≤ v.rs) (a2 : v.rs ≤ 1000) (b1 : -1000 ≤ v.cs) (b2 : v.cs ≤ 1000) : corners v n ↔ inside v n := by
  constructor
  · rintro ⟨⟨o1, o2⟩, h1, h2, h3⟩
    rw [plW_eq (by omega) (by omega) (by omega) (by omega) a1 a2 b1 b2 o1 (by omega)] at h1 h2 h3
    intro i j i1 i2 j1 j2
    have e1 := between (i := i) (m := v.rows - 1) (a := v.rs) i1 (by omega)
    have e2 := between (i := i) (m := v.rows - 1) (a := v.cs) i1 (by omega)
    have e3 := between (i := j) (m := v.cols - 1) (a := v.rs) j1 (by omega)
    have e4 := between (i := j) (m := v.cols - 1) (a := v.cs) j1 (by omega)
    unfold pl at h1 h2 h3 ⊢
    split at h1 <;> rename_i ht
    · simp only [ht, if_true, Int.zero_mul, Int.add_zero] at h1 h2 h3 ⊢
      omega
    · simp only [ht, Int.zero_mul, Int.add_zero] at h1 h2 h3 ⊢
      simp only [Bool.false_eq_true, if_false] at h1 h2 h3 ⊢
      omega
  · intro h
    have h0 := h 0 0 (by omega) (by omega) (by omega) (by omega)
    rw [pl_zero] at h0
    have h1 := h 0 (v.cols - 1) (by omega) (by omega) (by omega) (by omega)
    have h2 := h (v.rows - 1) 0 (by omega) (by omega) (by omega) (by omega)
    have h3 := h (v.rows - 1) (v.cols - 1) (by omega) (by omega) (by omega) (by omega)
    unfold corners
    rw [plW_eq (by omega) (by omega) (by omega) (by omega) a1 a2 b1 b2 h0.1 (by omega), plW_eq (by omega) (by omega) (by omega) (by omega) a1 a2 b1 b2 h0.1 (by omega), plW_eq (by omega) (by omega) (by omega) (by omega) a1 a2 b1 b2 h0.1 (by omega)]
    exact ⟨h0, h1, h2, h3⟩

end Go.Proofs.Ytpoejdkfhofimaa

import Derived.Test.YtpoejdkfhofimaaViews
namespace Go.Proofs.Ytpoejdkfhofimaa
open Go.RowKit Classical

theorem pl_t {v : Vw} {i j : Int} (h : v.tn = true) : pl v i j = v.off + j * v.rs + i * v.cs := by unfold pl; rw [if_pos h]
theorem pl_f {v : Vw} {i j : Int} (h : v.tn = false) : pl v i j = v.off + i * v.rs + j * v.cs := by unfold pl; rw [if_neg (by simp [h])]

set_option maxHeartbeats 1000000 in
theorem Rplace_any (v : Vw) (i j : Int) (w : World) (i1 : 0 ≤ i) (i2 : i ≤ 24) (j1 : 0 ≤ j) (j2 : j ≤ 24) (a1 : -1000 ≤ v.rs) (a2 : v.rs ≤ 1000) (b1 : -1000 ≤ v.cs) (b2 : v.cs ≤ 1000) (o1 : 0 ≤ v.off) (o2 : v.off ≤ 5000) :
    Calls Try.prog 56 #[.agg (vcells v), .int .i64 i, .int .i64 j] w fun e w' => e = .returned (.int .i64 (pl v i j)) ∧ Below w.heap.size w w' := by
  obtain ⟨m1, m2⟩ := mul_small i1 i2 a1 a2
  obtain ⟨m3, m4⟩ := mul_small i1 i2 b1 b2
  obtain ⟨m5, m6⟩ := mul_small j1 j2 a1 a2
  obtain ⟨m7, m8⟩ := mul_small j1 j2 b1 b2
  cases ht : v.tn
  · have E := hid' (pl_f (i := i) (j := j) ht)
    go_enter Try.func56, Try.ntmps56
    go_wp2
    go_ret
    exact ⟨congrArg (fun x => Ending.returned (.int .i64 x)) E.out.symm, (Below.refl _ _).alloc (Nat.le_refl _) _⟩
  · have E := hid' (pl_t (i := i) (j := j) ht)
    go_enter Try.func56, Try.ntmps56
    go_wp2
    go_ret
    exact ⟨congrArg (fun x => Ending.returned (.int .i64 x)) E.out.symm, (Below.refl _ _).alloc (Nat.le_refl _) _⟩

theorem fit_no {v : Vw} {n : Int} (h : ¬ (n ≤ 5000 ∧ (0 ≤ v.rows ∧ v.rows ≤ 24 ∧ 0 ≤ v.cols ∧ v.cols ≤ 24) ∧ (-1000 ≤ v.rs ∧ v.rs ≤ 1000 ∧ -1000 ≤ v.cs ∧ v.cs ≤ 1000))) : Hid (false = dc (fitP v n)) := (dc_no (fun k => h ⟨k.1, k.2.1, k.2.2.1⟩)).symm

set_option maxHeartbeats 4000000 in
theorem Rfits_no (v : Vw) (n : Int) (w : World) (h : ¬ (n ≤ 5000 ∧ (0 ≤ v.rows ∧ v.rows ≤ 24 ∧ 0 ≤ v.cols ∧ v.cols ≤ 24) ∧ (-1000 ≤ v.rs ∧ v.rs ≤ 1000 ∧ -1000 ≤ v.cs ∧ v.cs ≤ 1000))) :
    Calls Try.prog 55 #[.agg (vcells v), .int .i64 n] w fun e w' => e = .returned (.bool (dc (fitP v n))) ∧ Below w.heap.size w w' := by
  have E := fit_no h
  by_cases c0 : 5000 < n
  · have d0 : decide (5000 < n) = true := decide_eq_true c0
    clear h c0
    go_enter Try.func55, Try.ntmps55
    go_wp2
    go_ret
    exact ⟨ret_bool E.out, (Below.refl _ _).alloc (Nat.le_refl _) _⟩
  have d0 : decide (5000 < n) = false := decide_eq_false c0
  by_cases c1 : v.rows < 0
  · have d1 : decide (v.rows < 0) = true := decide_eq_true c1
    clear h c0 c1
    go_enter Try.func55, Try.ntmps55
    go_wp2
    go_ret
    exact ⟨ret_bool E.out, (Below.refl _ _).alloc (Nat.le_refl _) _⟩
  have d1 : decide (v.rows < 0) = false := decide_eq_false c1
  by_cases c2 : 24 < v.rows
  · have d2 : decide (24 < v.rows) = true := decide_eq_true c2
    clear h c0 c1 c2
    go_enter Try.func55, Try.ntmps55
    go_wp2
    go_ret
    exact ⟨ret_bool E.out, (Below.refl _ _).alloc (Nat.le_refl _) _⟩
  have d2 : decide (24 < v.rows) = false := decide_eq_false c2
  by_cases c3 : v.cols < 0
  · have d3 : decide (v.cols < 0) = true := decide_eq_true c3
    clear h c0 c1 c2 c3
    go_enter Try.func55, Try.ntmps55
    go_wp2
    go_ret
    exact ⟨ret_bool E.out, (Below.refl _ _).alloc (Nat.le_refl _) _⟩
  have d3 : decide (v.cols < 0) = false := decide_eq_false c3
  by_cases c4 : 24 < v.cols
  · have d4 : decide (24 < v.cols) = true := decide_eq_true c4
    clear h c0 c1 c2 c3 c4
    go_enter Try.func55, Try.ntmps55
    go_wp2
    go_ret
    exact ⟨ret_bool E.out, (Below.refl _ _).alloc (Nat.le_refl _) _⟩
  have d4 : decide (24 < v.cols) = false := decide_eq_false c4
  by_cases c5 : v.rs < -1000
  · have d5 : decide (v.rs < -1000) = true := decide_eq_true c5
    clear h c0 c1 c2 c3 c4 c5
    go_enter Try.func55, Try.ntmps55
    go_wp2
    go_ret
    exact ⟨ret_bool E.out, (Below.refl _ _).alloc (Nat.le_refl _) _⟩
  have d5 : decide (v.rs < -1000) = false := decide_eq_false c5
  by_cases c6 : 1000 < v.rs
  · have d6 : decide (1000 < v.rs) = true := decide_eq_true c6
    clear h c0 c1 c2 c3 c4 c5 c6
    go_enter Try.func55, Try.ntmps55
    go_wp2
    go_ret
    exact ⟨ret_bool E.out, (Below.refl _ _).alloc (Nat.le_refl _) _⟩
  have d6 : decide (1000 < v.rs) = false := decide_eq_false c6
  by_cases c7 : v.cs < -1000
  · have d7 : decide (v.cs < -1000) = true := decide_eq_true c7
    clear h c0 c1 c2 c3 c4 c5 c6 c7
    go_enter Try.func55, Try.ntmps55
    go_wp2
    go_ret
    exact ⟨ret_bool E.out, (Below.refl _ _).alloc (Nat.le_refl _) _⟩
  have d7 : decide (v.cs < -1000) = false := decide_eq_false c7
  by_cases c8 : 1000 < v.cs
  · have d8 : decide (1000 < v.cs) = true := decide_eq_true c8
    clear h c0 c1 c2 c3 c4 c5 c6 c7 c8
    go_enter Try.func55, Try.ntmps55
    go_wp2
    go_ret
    exact ⟨ret_bool E.out, (Below.refl _ _).alloc (Nat.le_refl _) _⟩
  have d8 : decide (1000 < v.cs) = false := decide_eq_false c8
  exfalso
  apply h
  omega

end Go.Proofs.Ytpoejdkfhofimaa

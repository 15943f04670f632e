import Derived.Test.YtpoejdkfhofimaaRViews
namespace Go.Proofs.Ytpoejdkfhofimaa
open Go.RowKit Classical

set_option maxHeartbeats 2000000 in
theorem Rfits_ok (v : Vw) (n : Int) (w : World) (hn : n ≤ 5000) (q1 : 0 ≤ v.rows) (q2 : v.rows ≤ 24) (q3 : 0 ≤ v.cols) (q4 : v.cols ≤ 24) (s1 : -1000 ≤ v.rs) (s2 : v.rs ≤ 1000) (s3 : -1000 ≤ v.cs) (s4 : v.cs ≤ 1000) :
    Calls Try.prog 55 #[.agg (vcells v), .int .i64 n] w fun e w' => e = .returned (.bool (dc (fitP v n))) ∧ Below w.heap.size w w' := by
  have FI : Hid (inside v n → fitP v n) := fun h => ⟨hn, ⟨q1, q2, q3, q4⟩, ⟨s1, s2, s3, s4⟩, h⟩
  have FN : Hid (∀ i j : Int, 0 ≤ i → i < v.rows → 0 ≤ j → j < v.cols → ¬ (0 ≤ pl v i j ∧ pl v i j < n) → dc (fitP v n) = false) := fun i j i1 i2 j1 j2 h => dc_no (fun k => h (k.2.2.2 i j i1 i2 j1 j2))
  have d0 : decide (5000 < n) = false := decide_eq_false (by omega)
  have d1 : decide (v.rows < 0) = false := decide_eq_false (by omega)
  have d2 : decide (24 < v.rows) = false := decide_eq_false (by omega)
  have d3 : decide (v.cols < 0) = false := decide_eq_false (by omega)
  have d4 : decide (24 < v.cols) = false := decide_eq_false (by omega)
  have d5 : decide (v.rs < -1000) = false := decide_eq_false (by omega)
  have d6 : decide (1000 < v.rs) = false := decide_eq_false (by omega)
  have d7 : decide (v.cs < -1000) = false := decide_eq_false (by omega)
  have d8 : decide (1000 < v.cs) = false := decide_eq_false (by omega)
  obtain ⟨R, hR⟩ := Int.eq_ofNat_of_zero_le q1
  obtain ⟨C, hC⟩ := Int.eq_ofNat_of_zero_le q3
  have r1 : R ≤ 24 := by omega
  have r2 : C ≤ 24 := by omega
  have HR := hid' hR
  have HC := hid' hC
  clear hR hC
  by_cases far : 0 ≤ v.off ∧ v.off < n
  · obtain ⟨f1, f2⟩ := far
    have d9 : decide (v.off < 0) = false := decide_eq_false (by omega)
    have d10 : decide (n ≤ v.off) = false := decide_eq_false (by omega)
    go_enter Try.func55, Try.ntmps55
    go_wp2
    go_loopw [6] (fun i wr => ∃ m : Nat, i = .int .i64 m ∧ m ≤ R ∧ Hid (∀ i j : Int, 0 ≤ i → i < m → 0 ≤ j → j < C → 0 ≤ pl v i j ∧ pl v i j < n) ∧ Hid (VBox w wr v)) (fun i _ => R - (intOf i).toNat)
    case atStart => exact ⟨0, rfl, by omega, fun i j i1 i2 => by omega, VBox.new rfl (Below.refl _ _)⟩
    case round =>
      obtain ⟨m, rfl, hm, HI, HV⟩ := hrel
      have hc := HV.out.cells
      by_cases hlt : m < R
      · have hlt' : (m : Int) < v.rows := by rw [HR.out]; omega
        go_wp2
        clear hc
        go_loopw [7] (fun i wr' => ∃ k : Nat, i = .int .i64 k ∧ k ≤ C ∧ Hid (∀ j : Int, 0 ≤ j → j < k → 0 ≤ pl v m j ∧ pl v m j < n) ∧ Hid (VBox w wr' v)) (fun i _ => C - (intOf i).toNat)
        case atStart => exact ⟨0, rfl, by omega, fun j j1 j2 => by omega, HV⟩
        case round =>
          obtain ⟨k, rfl, hk, HJ, HV'⟩ := hrel
          have hc := HV'.out.cells
          have hz := HV'.out.size
          by_cases hlt2 : k < C
          · have hlt2' : (k : Int) < v.cols := by rw [HC.out]; omega
            by_cases p1 : pl v m k < 0
            · have E : Hid (dc (fitP v n) = false) := FN.out m k (by omega) hlt' (by omega) hlt2' (by omega)
              go_wp2_with (first | (go_at_call 56; refine (Rplace_any v _ _ _ (by omega) (by omega) (by omega) (by omega) s1 s2 s3 s4 f1 (by omega)).mono ?_; rintro e w2 ⟨rfl, hb2⟩; have H2 := hid' (HV'.out.on hb2); clear hb2 hc) | go_in)
              go_ret
              exact ⟨ret_bool E.out.symm, H2.out.below⟩
            · by_cases p2 : n ≤ pl v m k
              · have E : Hid (dc (fitP v n) = false) := FN.out m k (by omega) hlt' (by omega) hlt2' (by omega)
                go_wp2_with (first | (go_at_call 56; refine (Rplace_any v _ _ _ (by omega) (by omega) (by omega) (by omega) s1 s2 s3 s4 f1 (by omega)).mono ?_; rintro e w2 ⟨rfl, hb2⟩; have H2 := hid' (HV'.out.on hb2); clear hb2 hc) | go_in)
                go_ret
                exact ⟨ret_bool E.out.symm, H2.out.below⟩
              · have p2' : pl v m k < n := by omega
                go_wp2_with (first | (go_at_call 56; refine (Rplace_any v _ _ _ (by omega) (by omega) (by omega) (by omega) s1 s2 s3 s4 f1 (by omega)).mono ?_; rintro e w2 ⟨rfl, hb2⟩; have H2 := hid' (HV'.out.on hb2); clear hb2 hc) | go_in)
                go_roundw
                case rel =>
                  refine ⟨k + 1, by go_num, by omega, fun j j1 j2 => ?_, H2⟩
                  by_cases e : j = k
                  · subst e; exact ⟨by omega, by omega⟩
                  · exact HJ.out j j1 (by omega)
                case measure => simp [intOf]; omega
          · have hge : ¬ (k : Int) < v.cols := by rw [HC.out]; omega
            go_wp2
            go_roundw
            case rel =>
              refine ⟨m + 1, by go_num, by omega, fun i j i1 i2 j1 j2 => ?_, HV'⟩
              by_cases e : i = m
              · subst e; exact HJ.out j j1 (by omega)
              · exact HI.out i j i1 (by omega) j1 j2
            case measure => simp [intOf]; omega
      · have hge : ¬ (m : Int) < v.rows := by rw [HR.out]; omega
        have E : Hid (dc (fitP v n) = true) := dc_yes (FI.out (fun i j i1 i2 j1 j2 => HI.out i j i1 (by rw [HR.out] at i2; omega) j1 (by rw [HC.out] at j2; omega)))
        go_wp2
        go_ret
        exact ⟨ret_bool E.out.symm, HV.out.below⟩
  · have far' : v.off < 0 ∨ (¬ v.off < 0 ∧ n ≤ v.off) := by omega
    have FZ : Hid (0 < R → 0 < C → dc (fitP v n) = false) := fun x y => FN.out 0 0 (by omega) (by rw [HR.out]; omega) (by omega) (by rw [HC.out]; omega) (by rw [pl_zero]; exact far)
    have FY : Hid (R = 0 ∨ C = 0 → dc (fitP v n) = true) := fun h => dc_yes (FI.out (fun i j i1 i2 j1 j2 => by rw [HR.out] at i2; rw [HC.out] at j2; omega))
    clear far FI FN
    rcases far' with f1 | ⟨f1, f2⟩
    all_goals
      go_enter Try.func55, Try.ntmps55
      go_wp2
      go_loopw [6] (fun i wr => ∃ m : Nat, i = .int .i64 m ∧ m ≤ R ∧ (0 < m → C = 0) ∧ Hid (VBox w wr v)) (fun i _ => R - (intOf i).toNat)
      case atStart => exact ⟨0, rfl, by omega, fun h => by omega, VBox.new rfl (Below.refl _ _)⟩
      case round =>
        obtain ⟨m, rfl, hm, hz, HV⟩ := hrel
        have hc := HV.out.cells
        by_cases hlt : m < R
        · have hlt' : (m : Int) < v.rows := by rw [HR.out]; omega
          by_cases hc0 : 0 < C
          · have hc0' : 0 < v.cols := by rw [HC.out]; omega
            have E : Hid (dc (fitP v n) = false) := FZ.out (by omega) hc0
            go_wp2
            go_loopw [7] (fun i wr' => i = .int .i64 0 ∧ wr' = wr) (fun i _ => 0)
            case atStart => exact ⟨rfl, rfl⟩
            case round =>
              obtain ⟨rfl, rfl⟩ := hrel
              go_wp2
              go_ret
              exact ⟨ret_bool E.out.symm, HV.out.below⟩
          · have e0 : C = 0 := by omega
            have hc0' : ¬ 0 < v.cols := by rw [HC.out]; omega
            go_wp2
            go_loopw [7] (fun i wr' => i = .int .i64 0 ∧ wr' = wr) (fun i _ => 0)
            case atStart => exact ⟨rfl, rfl⟩
            case round =>
              obtain ⟨rfl, rfl⟩ := hrel
              go_wp2
              go_roundw
              case rel => exact ⟨m + 1, by go_num, by omega, fun _ => e0, HV⟩
              case measure => simp [intOf]; omega
        · have hge : ¬ (m : Int) < v.rows := by rw [HR.out]; omega
          have E : Hid (dc (fitP v n) = true) := FY.out (by omega)
          go_wp2
          go_ret
          exact ⟨ret_bool E.out.symm, HV.out.below⟩

theorem Rfits_any (v : Vw) (n : Int) (w : World) :
    Calls Try.prog 55 #[.agg (vcells v), .int .i64 n] w fun e w' => e = .returned (.bool (dc (fitP v n))) ∧ Below w.heap.size w w' := by
  by_cases h : n ≤ 5000 ∧ (0 ≤ v.rows ∧ v.rows ≤ 24 ∧ 0 ≤ v.cols ∧ v.cols ≤ 24) ∧ (-1000 ≤ v.rs ∧ v.rs ≤ 1000 ∧ -1000 ≤ v.cs ∧ v.cs ≤ 1000)
  · obtain ⟨h1, ⟨h2, h3, h4, h5⟩, h6, h7, h8, h9⟩ := h
    exact Rfits_ok v n w h1 h2 h3 h4 h5 h6 h7 h8 h9
  · exact Rfits_no v n w h

end Go.Proofs.Ytpoejdkfhofimaa

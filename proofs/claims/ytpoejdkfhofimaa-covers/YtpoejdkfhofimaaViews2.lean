import Derived.Test.YtpoejdkfhofimaaViews
namespace Go.Proofs.Ytpoejdkfhofimaa
open Go.RowKit Classical

theorem sidB_iff {v : Vw} : sidB v = true ↔ 0 ≤ v.rows ∧ v.rows ≤ 24 ∧ 0 ≤ v.cols ∧ v.cols ≤ 24 := by
  unfold sidB; simp only [Bool.and_eq_true, Pl.inB_iff]; omega

set_option maxHeartbeats 4000000 in
theorem Fits_any (v : Vw) (n : Int) (w : World) (hn : n ≤ 5000) :
    Calls Try.prog 68 #[.agg (vcells v), .int .i64 n] w fun e w' => e = .returned (.bool (dc (fitP v n))) ∧ Below w.heap.size w w' := by
  cases k1 : sidB v
  · have E : Hid (false = dc (fitP v n)) := (dc_no (fun h => by rw [sidB_iff.2 h.2.1] at k1; cases k1)).symm
    go_enter Try.func68, Try.ntmps68
    go_wp2_with (first | (go_at_call 38; refine (sides_any v _).mono ?_; rintro e w1 ⟨rfl, hb1⟩; have B1 := VBox.new (v := v) rfl hb1; clear hb1; have hc1 := B1.cells; have hz1 := B1.size; have H1 := hid' B1; clear B1) | (go_at_call 74; refine (isStep_any _ _).mono ?_; rintro e w' ⟨rfl, rfl⟩) | go_in)
    go_ret
    exact ⟨ret_bool E.out, H1.out.below⟩
  cases k2 : Pl.inB (-1000) 1000 v.rs
  · have E : Hid (false = dc (fitP v n)) := (dc_no (fun h => by rw [Pl.inB_yes h.2.2.1.1 h.2.2.1.2.1] at k2; cases k2)).symm
    go_enter Try.func68, Try.ntmps68
    go_wp2_with (first | (go_at_call 38; refine (sides_any v _).mono ?_; rintro e w1 ⟨rfl, hb1⟩; have B1 := VBox.new (v := v) rfl hb1; clear hb1; have hc1 := B1.cells; have hz1 := B1.size; have H1 := hid' B1; clear B1) | (go_at_call 74; refine (isStep_any _ _).mono ?_; rintro e w' ⟨rfl, rfl⟩) | go_in)
    go_ret
    exact ⟨ret_bool E.out, H1.out.below⟩
  cases k3 : Pl.inB (-1000) 1000 v.cs
  · have E : Hid (false = dc (fitP v n)) := (dc_no (fun h => by rw [Pl.inB_yes h.2.2.1.2.2.1 h.2.2.1.2.2.2] at k3; cases k3)).symm
    go_enter Try.func68, Try.ntmps68
    go_wp2_with (first | (go_at_call 38; refine (sides_any v _).mono ?_; rintro e w1 ⟨rfl, hb1⟩; have B1 := VBox.new (v := v) rfl hb1; clear hb1; have hc1 := B1.cells; have hz1 := B1.size; have H1 := hid' B1; clear B1) | (go_at_call 74; refine (isStep_any _ _).mono ?_; rintro e w' ⟨rfl, rfl⟩) | go_in)
    go_ret
    exact ⟨ret_bool E.out, H1.out.below⟩
  obtain ⟨q1, q2, q3, q4⟩ := sidB_bd k1
  obtain ⟨s1, s2⟩ := Pl.inB_iff.1 k2
  obtain ⟨s3, s4⟩ := Pl.inB_iff.1 k3
  by_cases z1 : v.rows = 0
  · have E : Hid (true = dc (fitP v n)) := (dc_yes ⟨hn, ⟨q1, q2, q3, q4⟩, ⟨s1, s2, s3, s4⟩, fun i j i1 i2 _ _ => by omega⟩).symm
    have t1 : (v.rows == 0) = true := by simpa using z1
    clear z1
    go_enter Try.func68, Try.ntmps68
    go_wp2_with (first | (go_at_call 38; refine (sides_any v _).mono ?_; rintro e w1 ⟨rfl, hb1⟩; have B1 := VBox.new (v := v) rfl hb1; clear hb1; have hc1 := B1.cells; have hz1 := B1.size; have H1 := hid' B1; clear B1) | (go_at_call 74; refine (isStep_any _ _).mono ?_; rintro e w' ⟨rfl, rfl⟩) | go_in)
    go_ret
    exact ⟨ret_bool E.out, H1.out.below⟩
  by_cases z2 : v.cols = 0
  · have E : Hid (true = dc (fitP v n)) := (dc_yes ⟨hn, ⟨q1, q2, q3, q4⟩, ⟨s1, s2, s3, s4⟩, fun i j _ _ j1 j2 => by omega⟩).symm
    have t1 : (v.rows == 0) = false := by simpa using z1
    have t2 : (v.cols == 0) = true := by simpa using z2
    clear z1 z2
    go_enter Try.func68, Try.ntmps68
    go_wp2_with (first | (go_at_call 38; refine (sides_any v _).mono ?_; rintro e w1 ⟨rfl, hb1⟩; have B1 := VBox.new (v := v) rfl hb1; clear hb1; have hc1 := B1.cells; have hz1 := B1.size; have H1 := hid' B1; clear B1) | (go_at_call 74; refine (isStep_any _ _).mono ?_; rintro e w' ⟨rfl, rfl⟩) | go_in)
    go_ret
    exact ⟨ret_bool E.out, H1.out.below⟩
  have E : Hid (dc (corners v n) = dc (fitP v n)) := dc_eq ((corners_iff hn (by omega) q2 (by omega) q4 s1 s2 s3 s4).trans ⟨fun h => ⟨hn, ⟨q1, q2, q3, q4⟩, ⟨s1, s2, s3, s4⟩, h⟩, fun h => h.2.2.2⟩)
  have t1 : (v.rows == 0) = false := by simpa using z1
  have t2 : (v.cols == 0) = false := by simpa using z2
  go_enter Try.func68, Try.ntmps68
  go_wp2_with (first | (go_at_call 38; refine (sides_any v _).mono ?_; rintro e w1 ⟨rfl, hb1⟩; have B1 := VBox.new (v := v) rfl hb1; clear hb1; have hc1 := B1.cells; have hz1 := B1.size; have H1 := hid' B1; clear B1) | (go_at_call 74; refine (isStep_any _ _).mono ?_; rintro e w' ⟨rfl, rfl⟩) | (go_at_call 75; refine (lies_any v _ _ (by omega) (by omega) (by omega) (by omega) (by omega) (by omega) (by omega) (by omega)).mono ?_; rintro e w2 ⟨rfl, hb2⟩; have H2 := hid' (H1.out.on hb2); clear hb2) | go_in)
  go_ret
  exact ⟨ret_bool E.out, H2.out.below⟩

set_option maxHeartbeats 4000000 in
theorem fits_any (v : Vw) (s : Sl) (w : World) :
    Calls Try.prog 62 #[.agg (vcells v), .slice s.a s.len s.cap] w fun e w' => e = .returned (.bool (dc (fitP v s.len))) ∧ Below w.heap.size w w' := by
  by_cases c : (s.len : Int) ≤ 5000
  · go_enter Try.func62, Try.ntmps62
    go_wp2_with (first | (go_at_call 68; refine (Fits_any v _ _ c).mono ?_; rintro e w1 ⟨rfl, hb1⟩; have H1 := hid' (VBox.new (v := v) rfl hb1); clear hb1) | go_in)
    go_ret
    exact ⟨rfl, H1.out.below⟩
  · have E : Hid (false = dc (fitP v s.len)) := (dc_no (fun h => c h.1)).symm
    have t : decide ((s.len : Int) ≤ 5000) = false := by simpa using c
    go_enter Try.func62, Try.ntmps62
    go_wp2
    go_ret
    exact ⟨ret_bool E.out, (Below.refl _ _).alloc (Nat.le_refl _) _⟩

/-- all three views fit -/
def viewsP (j : Jb) (l r o : Sl) : Prop := fitP j.l l.len ∧ fitP j.r r.len ∧ fitP j.o o.len

set_option maxHeartbeats 4000000 in
theorem views_any (j : Jb) (l r o : Sl) (w : World) :
    Calls Try.prog 47 #[.agg (jcells j), .slice l.a l.len l.cap, .slice r.a r.len r.cap, .slice o.a o.len o.cap] w fun e w' => e = .returned (.bool (dc (viewsP j l r o))) ∧ Below w.heap.size w w' := by
  have X1 := hid' (fits_any j.l l)
  have X2 := hid' (fits_any j.r r)
  have X3 := hid' (fits_any j.o o)
  cases k1 : dc (fitP j.l l.len)
  · have E : Hid (false = dc (viewsP j l r o)) := (dc_no (fun h => by rw [dc_yes h.1] at k1; cases k1)).symm
    rw [k1] at X1
    clear k1
    go_enter Try.func47, Try.ntmps47
    go_wp2_with (first | (go_at_call 62; refine (X1.out _).mono ?_; clear X1; rintro e w1 ⟨rfl, hb1⟩; have H1 := hid' (JBox.new (j := j) rfl hb1); clear hb1) | go_in)
    go_ret
    exact ⟨ret_bool E.out, H1.out.below⟩
  cases k2 : dc (fitP j.r r.len)
  · have E : Hid (false = dc (viewsP j l r o)) := (dc_no (fun h => by rw [dc_yes h.2.1] at k2; cases k2)).symm
    rw [k1] at X1
    rw [k2] at X2
    clear k1 k2
    go_enter Try.func47, Try.ntmps47
    go_wp2_with (first | (go_at_call 62; refine (X1.out _).mono ?_; clear X1; rintro e w1 ⟨rfl, hb1⟩; have B1 := JBox.new (j := j) rfl hb1; clear hb1; have hc1 := B1.cells; have hz1 := B1.size; have H1 := hid' B1; clear B1) | (go_at_call 62; refine (X2.out _).mono ?_; clear X2; rintro e w2 ⟨rfl, hb2⟩; have H2 := hid' (H1.out.on hb2); clear hb2) | go_in)
    go_ret
    exact ⟨ret_bool E.out, H2.out.below⟩
  have E : Hid (dc (fitP j.o o.len) = dc (viewsP j l r o)) := dc_eq ⟨fun h => ⟨dc_iff.1 k1, dc_iff.1 k2, h⟩, fun h => h.2.2⟩
  rw [k1] at X1
  rw [k2] at X2
  clear k1 k2
  go_enter Try.func47, Try.ntmps47
  go_wp2_with (first | (go_at_call 62; refine (X1.out _).mono ?_; clear X1; rintro e w1 ⟨rfl, hb1⟩; have B1 := JBox.new (j := j) rfl hb1; clear hb1; have hc1 := B1.cells; have hz1 := B1.size; have H1 := hid' B1; clear B1) | (go_at_call 62; refine (X2.out _).mono ?_; clear X2; rintro e w2 ⟨rfl, hb2⟩; have B2 := H1.out.on hb2; clear hb2 hc1; have hc2 := B2.cells; have hz2 := B2.size; have H2 := hid' B2; clear B2) | (go_at_call 62; refine (X3.out _).mono ?_; rintro e w3 ⟨rfl, hb3⟩; have H3 := hid' (H2.out.on hb3); clear hb3) | go_in)
  go_ret
  exact ⟨ret_bool E.out, H3.out.below⟩

end Go.Proofs.Ytpoejdkfhofimaa

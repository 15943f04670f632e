import Derived.Test.YtpoejdkfhofimaaRLists
import Derived.Test.YtpoejdkfhofimaaRules
import Derived.Test.YtpoejdkfhofimaaRViews2
import Derived.Test.YtpoejdkfhofimaaViews2
namespace Go.Proofs.Ytpoejdkfhofimaa
open Go.RowKit Classical

set_option maxHeartbeats 4000000 in
theorem Rbias_any (j : Jb) (zb : List Int) (w : World) (h : RowIs w j.bias zb) :
    Calls Try.prog 35 #[.agg (jcells j)] w fun e w' => e = .returned (.bool (dc (biasP j zb))) ∧ Below w.heap.size w w' := by
  have hR : Hid (∀ o, RowIs (w.alloc o) j.bias zb) := fun o => h.below ((Below.refl _ _).alloc (Nat.le_refl _) o)
  clear h
  by_cases c0 : j.bb = 0
  · have E : Hid (true = dc (biasP j zb)) := (dc_yes (.inl c0)).symm
    have d0 : (j.bb == 0) = true := by simpa using c0
    clear c0
    go_enter Try.func35, Try.ntmps35
    go_wp2_with (first | (go_at_call 34; refine (numbers_any j.bias zb _ _ _ _ (hR.out _)).mono ?_; rintro e w' ⟨rfl, rfl⟩) | go_in)
    go_ret
    exact ⟨ret_bool E.out, (Below.refl _ _).alloc (Nat.le_refl _) _⟩
  have d0 : (j.bb == 0) = false := by simpa using c0
  by_cases c1 : j.bb = 1
  · have E : Hid (dc (numP (-2147483648) 2147483647 zb j.o.rows) = dc (biasP j zb)) := dc_eq ⟨fun h => .inr (.inl ⟨c1, h⟩), fun h => by
      rcases h with h | h | h
      · omega
      · exact h.2
      · omega⟩
    have d1 : (j.bb == 1) = true := by simpa using c1
    have d2 : (j.bb == 2) = false := by simp; omega
    clear c0 c1
    cases q : dc (numP (-2147483648) 2147483647 zb j.o.rows)
    all_goals
      rw [q] at E
      go_enter Try.func35, Try.ntmps35
      go_wp2_with (first | (go_at_call 34; refine (numbers_any j.bias zb _ _ _ _ (hR.out _)).mono ?_; rintro e w' ⟨rfl, rfl⟩) | go_in)
      go_ret
      exact ⟨ret_bool E.out, (Below.refl _ _).alloc (Nat.le_refl _) _⟩
  have d1 : (j.bb == 1) = false := by simpa using c1
  by_cases c2 : j.bb = 2
  · have E : Hid (dc (numP (-2147483648) 2147483647 zb j.o.cols) = dc (biasP j zb)) := dc_eq ⟨fun h => .inr (.inr ⟨c2, h⟩), fun h => by
      rcases h with h | h | h
      · omega
      · omega
      · exact h.2⟩
    have d2 : (j.bb == 2) = true := by simpa using c2
    clear c0 c1 c2
    go_enter Try.func35, Try.ntmps35
    go_wp2_with (first | (go_at_call 34; refine (numbers_any j.bias zb _ _ _ _ (hR.out _)).mono ?_; rintro e w' ⟨rfl, rfl⟩) | go_in)
    go_ret
    exact ⟨ret_bool E.out, (Below.refl _ _).alloc (Nat.le_refl _) _⟩
  have d2 : (j.bb == 2) = false := by simpa using c2
  have E : Hid (false = dc (biasP j zb)) := (dc_no (fun h => by rcases h with h | h | h <;> omega)).symm
  clear c0 c1 c2
  go_enter Try.func35, Try.ntmps35
  go_wp2_with (first | (go_at_call 34; refine (numbers_any j.bias zb _ _ _ _ (hR.out _)).mono ?_; rintro e w' ⟨rfl, rfl⟩) | go_in)
  go_ret
  exact ⟨ret_bool E.out, (Below.refl _ _).alloc (Nat.le_refl _) _⟩

set_option maxHeartbeats 4000000 in
theorem Rscale_any (j : Jb) (zf zs : List Int) (w : World) (h : RowIs w j.fac zf) (h' : RowIs w j.shi zs) :
    Calls Try.prog 36 #[.agg (jcells j)] w fun e w' => e = .returned (.bool (dc (scaleP j zf zs))) ∧ Below w.heap.size w w' := by
  have hF : Hid (∀ o, RowIs (w.alloc o) j.fac zf) := fun o => h.below ((Below.refl _ _).alloc (Nat.le_refl _) o)
  have hS : Hid (∀ o, RowIs (w.alloc o) j.shi zs) := fun o => h'.below ((Below.refl _ _).alloc (Nat.le_refl _) o)
  clear h h'
  by_cases c0 : j.sb = 0
  · have E : Hid (true = dc (scaleP j zf zs)) := (dc_yes (.inl c0)).symm
    have d0 : (j.sb == 0) = true := by simpa using c0
    have d2 : (j.sb == 2) = false := by simp; omega
    clear c0
    go_enter Try.func36, Try.ntmps36
    go_wp2_with (first | (go_at_call 34; refine (numbers_any j.fac zf _ (-2147483648) 2147483647 _ (hF.out _)).mono ?_; clear hF; rintro e w' ⟨rfl, rfl⟩) | (go_at_call 34; refine (numbers_any j.shi zs _ 0 31 _ (hS.out _)).mono ?_; rintro e w' ⟨rfl, rfl⟩) | go_in)
    go_ret
    exact ⟨ret_bool E.out, (Below.refl _ _).alloc (Nat.le_refl _) _⟩
  have d0 : (j.sb == 0) = false := by simpa using c0
  by_cases c1 : j.sb = 1
  · have X : Hid (scaleP j zf zs ↔ scP zf zs 1) := ⟨fun h => by
        rcases h with h | h | h
        · omega
        · exact h.2
        · omega, fun h => .inr (.inl ⟨c1, h⟩)⟩
    have d1 : (j.sb == 1) = true := by simpa using c1
    have d2 : (j.sb == 2) = false := by simp; omega
    clear c0 c1
    cases q1 : dc (numP (-2147483648) 2147483647 zf 1)
    · have E : Hid (false = dc (scaleP j zf zs)) := (dc_no (fun h => by rw [dc_yes (X.out.1 h).1] at q1; cases q1)).symm
      go_enter Try.func36, Try.ntmps36
      go_wp2_with (first | (go_at_call 34; refine (numbers_any j.fac zf _ (-2147483648) 2147483647 _ (hF.out _)).mono ?_; clear hF; rintro e w' ⟨rfl, rfl⟩) | (go_at_call 34; refine (numbers_any j.shi zs _ 0 31 _ (hS.out _)).mono ?_; rintro e w' ⟨rfl, rfl⟩) | go_in)
      go_ret
      exact ⟨ret_bool E.out, (Below.refl _ _).alloc (Nat.le_refl _) _⟩
    · have E : Hid (dc (numP 0 31 zs 1) = dc (scaleP j zf zs)) := dc_eq ⟨fun h => X.out.2 ⟨dc_iff.1 q1, h⟩, fun h => (X.out.1 h).2⟩
      go_enter Try.func36, Try.ntmps36
      go_wp2_with (first | (go_at_call 34; refine (numbers_any j.fac zf _ (-2147483648) 2147483647 _ (hF.out _)).mono ?_; clear hF; rintro e w' ⟨rfl, rfl⟩) | (go_at_call 34; refine (numbers_any j.shi zs _ 0 31 _ (hS.out _)).mono ?_; rintro e w' ⟨rfl, rfl⟩) | go_in)
      go_ret
      exact ⟨ret_bool E.out, (Below.refl _ _).alloc (Nat.le_refl _) _⟩
  have d1 : (j.sb == 1) = false := by simpa using c1
  by_cases c2 : j.sb = 2
  · have X : Hid (scaleP j zf zs ↔ scP zf zs j.o.rows) := ⟨fun h => by
        rcases h with h | h | h
        · omega
        · omega
        · exact h.2, fun h => .inr (.inr ⟨c2, h⟩)⟩
    have d2 : (j.sb == 2) = true := by simpa using c2
    clear c0 c1 c2
    cases q1 : dc (numP (-2147483648) 2147483647 zf j.o.rows)
    · have E : Hid (false = dc (scaleP j zf zs)) := (dc_no (fun h => by rw [dc_yes (X.out.1 h).1] at q1; cases q1)).symm
      go_enter Try.func36, Try.ntmps36
      go_wp2_with (first | (go_at_call 34; refine (numbers_any j.fac zf _ (-2147483648) 2147483647 _ (hF.out _)).mono ?_; clear hF; rintro e w' ⟨rfl, rfl⟩) | (go_at_call 34; refine (numbers_any j.shi zs _ 0 31 _ (hS.out _)).mono ?_; rintro e w' ⟨rfl, rfl⟩) | go_in)
      go_ret
      exact ⟨ret_bool E.out, (Below.refl _ _).alloc (Nat.le_refl _) _⟩
    · have E : Hid (dc (numP 0 31 zs j.o.rows) = dc (scaleP j zf zs)) := dc_eq ⟨fun h => X.out.2 ⟨dc_iff.1 q1, h⟩, fun h => (X.out.1 h).2⟩
      go_enter Try.func36, Try.ntmps36
      go_wp2_with (first | (go_at_call 34; refine (numbers_any j.fac zf _ (-2147483648) 2147483647 _ (hF.out _)).mono ?_; clear hF; rintro e w' ⟨rfl, rfl⟩) | (go_at_call 34; refine (numbers_any j.shi zs _ 0 31 _ (hS.out _)).mono ?_; rintro e w' ⟨rfl, rfl⟩) | go_in)
      go_ret
      exact ⟨ret_bool E.out, (Below.refl _ _).alloc (Nat.le_refl _) _⟩
  have d2 : (j.sb == 2) = false := by simpa using c2
  have E : Hid (false = dc (scaleP j zf zs)) := (dc_no (fun h => by rcases h with h | h | h <;> omega)).symm
  clear c0 c1 c2
  go_enter Try.func36, Try.ntmps36
  go_wp2_with (first | (go_at_call 34; refine (numbers_any j.fac zf _ (-2147483648) 2147483647 _ (hF.out _)).mono ?_; clear hF; rintro e w' ⟨rfl, rfl⟩) | (go_at_call 34; refine (numbers_any j.shi zs _ 0 31 _ (hS.out _)).mono ?_; rintro e w' ⟨rfl, rfl⟩) | go_in)
  go_ret
  exact ⟨ret_bool E.out, (Below.refl _ _).alloc (Nat.le_refl _) _⟩

set_option maxHeartbeats 4000000 in
theorem Rviews_any (j : Jb) (l r o : Sl) (w : World) :
    Calls Try.prog 31 #[.agg (jcells j), .slice l.a l.len l.cap, .slice r.a r.len r.cap, .slice o.a o.len o.cap] w fun e w' => e = .returned (.bool (dc (viewsP j l r o))) ∧ Below w.heap.size w w' := by
  have X1 := hid' (Rfits_any j.l l.len)
  have X2 := hid' (Rfits_any j.r r.len)
  have X3 := hid' (Rfits_any j.o o.len)
  cases k1 : dc (fitP j.l l.len)
  · have E : Hid (false = dc (viewsP j l r o)) := (dc_no (fun h => by rw [dc_yes h.1] at k1; cases k1)).symm
    rw [k1] at X1
    clear k1
    go_enter Try.func31, Try.ntmps31
    go_wp2_with (first | (go_at_call 55; refine (X1.out _).mono ?_; clear X1; rintro e w1 ⟨rfl, hb1⟩; have B1 := JBox.new (j := j) rfl hb1; clear hb1; have hc1 := B1.cells; have hz1 := B1.size; have H1 := hid' B1; clear B1) | (go_at_call 55; refine (X2.out _).mono ?_; clear X2; rintro e w2 ⟨rfl, hb2⟩; have B2 := H1.out.on hb2; clear hb2 hc1; have hc2 := B2.cells; have hz2 := B2.size; have H2 := hid' B2; clear B2) | (go_at_call 55; refine (X3.out _).mono ?_; rintro e w3 ⟨rfl, hb3⟩; have H3 := hid' (H2.out.on hb3); clear hb3) | go_in)
    go_ret
    exact ⟨ret_bool E.out, H3.out.below⟩
  cases k2 : dc (fitP j.r r.len)
  · have E : Hid (false = dc (viewsP j l r o)) := (dc_no (fun h => by rw [dc_yes h.2.1] at k2; cases k2)).symm
    rw [k1] at X1
    rw [k2] at X2
    clear k1 k2
    go_enter Try.func31, Try.ntmps31
    go_wp2_with (first | (go_at_call 55; refine (X1.out _).mono ?_; clear X1; rintro e w1 ⟨rfl, hb1⟩; have B1 := JBox.new (j := j) rfl hb1; clear hb1; have hc1 := B1.cells; have hz1 := B1.size; have H1 := hid' B1; clear B1) | (go_at_call 55; refine (X2.out _).mono ?_; clear X2; rintro e w2 ⟨rfl, hb2⟩; have B2 := H1.out.on hb2; clear hb2 hc1; have hc2 := B2.cells; have hz2 := B2.size; have H2 := hid' B2; clear B2) | (go_at_call 55; refine (X3.out _).mono ?_; rintro e w3 ⟨rfl, hb3⟩; have H3 := hid' (H2.out.on hb3); clear hb3) | go_in)
    go_ret
    exact ⟨ret_bool E.out, H3.out.below⟩
  have E : Hid (dc (fitP j.o o.len) = dc (viewsP j l r o)) := dc_eq ⟨fun h => ⟨dc_iff.1 k1, dc_iff.1 k2, h⟩, fun h => h.2.2⟩
  rw [k1] at X1
  rw [k2] at X2
  clear k1 k2
  go_enter Try.func31, Try.ntmps31
  go_wp2_with (first | (go_at_call 55; refine (X1.out _).mono ?_; clear X1; rintro e w1 ⟨rfl, hb1⟩; have B1 := JBox.new (j := j) rfl hb1; clear hb1; have hc1 := B1.cells; have hz1 := B1.size; have H1 := hid' B1; clear B1) | (go_at_call 55; refine (X2.out _).mono ?_; clear X2; rintro e w2 ⟨rfl, hb2⟩; have B2 := H1.out.on hb2; clear hb2 hc1; have hc2 := B2.cells; have hz2 := B2.size; have H2 := hid' B2; clear B2) | (go_at_call 55; refine (X3.out _).mono ?_; rintro e w3 ⟨rfl, hb3⟩; have H3 := hid' (H2.out.on hb3); clear hb3) | go_in)
  go_ret
  exact ⟨ret_bool E.out, H3.out.below⟩

end Go.Proofs.Ytpoejdkfhofimaa

import Derived.Test.YtpoejdkfhofimaaRViews2
import Derived.Test.YtpoejdkfhofimaaElems
namespace Go.Proofs.Ytpoejdkfhofimaa
open Go.RowKit Classical

set_option maxHeartbeats 1000000 in
theorem Rleast_any (k : Int) (w : World) (hk : k = 1 ∨ k = 2) : Calls Try.prog 57 #[.int .i64 k] w fun e w' => e = .returned (.int .i64 (kLo k)) ∧ Below w.heap.size w w' := by
  rcases hk with rfl | rfl
  all_goals
    go_enter Try.func57, Try.ntmps57
    go_wp2
    go_ret
    exact ⟨rfl, (Below.refl _ _).alloc (Nat.le_refl _) _⟩
set_option maxHeartbeats 1000000 in
theorem Rgreatest_any (k : Int) (w : World) (hk : k = 1 ∨ k = 2) : Calls Try.prog 58 #[.int .i64 k] w fun e w' => e = .returned (.int .i64 (kHi k)) ∧ Below w.heap.size w w' := by
  rcases hk with rfl | rfl
  all_goals
    go_enter Try.func58, Try.ntmps58
    go_wp2
    go_ret
    exact ⟨rfl, (Below.refl _ _).alloc (Nat.le_refl _) _⟩

set_option maxHeartbeats 4000000 in
theorem Rof_any (v : Vw) (s : Sl) (zs : List Int) (k : Int) (w : World) (h : RowIs w s zs) (hf : fitP v s.len) (hk : k = 1 ∨ k = 2) :
    Calls Try.prog 32 #[.agg (vcells v), .slice s.a s.len s.cap, .int .i64 k] w fun e w' => e = .returned (.bool (dc (elemP v zs (kLo k) (kHi k)))) ∧ Below w.heap.size w w' := by
  obtain ⟨hn, ⟨q1, q2, q3, q4⟩, ⟨s1, s2, s3, s4⟩, hin⟩ := hf
  obtain ⟨R, hR⟩ := Int.eq_ofNat_of_zero_le q1
  obtain ⟨C, hC⟩ := Int.eq_ofNat_of_zero_le q3
  have EY : Hid ((∀ i j : Nat, i < R → j < C → kLo k ≤ zs.getD (pl v i j).toNat 0 ∧ zs.getD (pl v i j).toNat 0 ≤ kHi k) → dc (elemP v zs (kLo k) (kHi k)) = true) := fun h => dc_yes (fun i j hi hj => h i j (by omega) (by omega))
  have EN : Hid (∀ i j : Nat, i < R → j < C → ¬ (kLo k ≤ zs.getD (pl v i j).toNat 0 ∧ zs.getD (pl v i j).toNat 0 ≤ kHi k) → dc (elemP v zs (kLo k) (kHi k)) = false) := fun i j hi hj hx => dc_no (fun hp => hx (hp i j (by omega) (by omega)))
  have HR := hid' hR
  have HC := hid' hC
  have HIn : Hid (∀ i j : Nat, i < R → j < C → 0 ≤ pl v i j ∧ pl v i j < s.len) := fun i j hi hj => ins hR hC hin i j hi hj
  have HRow := hid' h
  have r1 : R ≤ 24 := by omega
  have r2 : C ≤ 24 := by omega
  clear hR hC hin h
  by_cases h0 : 0 < s.len
  · obtain ⟨b, off, e, hcell⟩ := HRow.out.lies h0
    have CX : Hid (∀ i : Nat, i < s.len → w.cell? ⟨b, off + i, none⟩ = some (.int .i64 (zs.getD i 0))) := hcell
    rw [e]
    clear e hcell HRow
    go_enter Try.func32, Try.ntmps32
    go_wp2
    go_loopw [7] (fun i wr => ∃ m : Nat, i = .int .i64 m ∧ m ≤ R ∧ Hid (∀ i j : Nat, i < m → j < C → kLo k ≤ zs.getD (pl v i j).toNat 0 ∧ zs.getD (pl v i j).toNat 0 ≤ kHi k) ∧ Hid (VBox w wr v)) (fun i _ => R - (intOf i).toNat)
    case atStart => exact ⟨0, rfl, by omega, fun i j i1 => by omega, VBox.new rfl (Below.refl _ _)⟩
    case round =>
      obtain ⟨m, rfl, hm, HI, HV⟩ := hrel
      have hc := HV.out.cells
      by_cases hlt : m < R
      · have hlt' : (m : Int) < v.rows := by rw [HR.out]; omega
        go_wp2
        clear hc
        go_loopw [8] (fun i wr' => ∃ t : Nat, i = .int .i64 t ∧ t ≤ C ∧ Hid (∀ j : Nat, j < t → kLo k ≤ zs.getD (pl v m j).toNat 0 ∧ zs.getD (pl v m j).toNat 0 ≤ kHi k) ∧ Hid (VBox w wr' v)) (fun i _ => C - (intOf i).toNat)
        case atStart => exact ⟨0, rfl, by omega, fun j j1 => by omega, HV⟩
        case round =>
          obtain ⟨t, rfl, ht, HJ, HV'⟩ := hrel
          have hc := HV'.out.cells
          by_cases hlt2 : t < C
          · have hlt2' : (t : Int) < v.cols := by rw [HC.out]; omega
            obtain ⟨p1, p2⟩ := HIn.out m t hlt hlt2
            have o0 := HIn.out 0 0 (by omega) (by omega)
            have e0 : pl v ((0 : Nat) : Int) ((0 : Nat) : Int) = v.off := pl_zero v
            rw [e0] at o0
            obtain ⟨o1, o2⟩ := o0
            obtain ⟨q, hq⟩ := Int.eq_ofNat_of_zero_le p1
            have N1 := hid' (EN.out m t hlt hlt2)
            have Y1 : Hid ((kLo k ≤ zs.getD (pl v m t).toNat 0 ∧ zs.getD (pl v m t).toNat 0 ≤ kHi k) → ∀ j : Nat, j < t + 1 → kLo k ≤ zs.getD (pl v m j).toNat 0 ∧ zs.getD (pl v m j).toNat 0 ≤ kHi k) := fun hx j hj => by
              by_cases e : j = t
              · subst e; exact hx
              · exact HJ.out j (by omega)
            have CE : Hid (∀ w' : World, Below w.heap.size w w' → w'.cell? ⟨b, off + q, none⟩ = some (.int .i64 (zs.getD q 0))) := fun w' hb => by
              have c := CX.out q (by omega)
              exact (hb.cell (p := ⟨b, off + q, none⟩) (World.block_lt_of_cell? w _ c)).trans c
            have hqs : q < s.len := by omega
            have e1 : (pl v m t).toNat = q := by omega
            rw [e1] at N1 Y1
            clear e1 e0 p1 p2
            revert N1 Y1 CE
            generalize zs.getD q 0 = y
            intro N1 Y1 CE
            by_cases c1 : y < kLo k
            · have E : Hid (dc (elemP v zs (kLo k) (kHi k)) = false) := N1.out (by omega)
              go_wp2_with (first | (go_at_call 56; refine (Rplace_any v _ _ _ (by omega) (by omega) (by omega) (by omega) s1 s2 s3 s4 (by omega) (by omega)).mono ?_; rintro e w2 ⟨rfl, hb2⟩; have H2 := hid' (HV'.out.on hb2); clear hb2 hc; have ce2 := CE.out w2 H2.out.below) | (go_at_call 57; refine (Rleast_any _ _ hk).mono ?_; rintro e w3 ⟨rfl, hb3⟩; have H3 := hid' (H2.out.on hb3); clear hb3 ce2) | (go_at_call 58; refine (Rgreatest_any _ _ hk).mono ?_; rintro e w4 ⟨rfl, hb4⟩; have H4 := hid' (H3.out.on hb4); clear hb4) | go_in)
              go_ret
              exact ⟨ret_bool E.out.symm, H3.out.below⟩
            · by_cases c2 : kHi k < y
              · have E : Hid (dc (elemP v zs (kLo k) (kHi k)) = false) := N1.out (by omega)
                go_wp2_with (first | (go_at_call 56; refine (Rplace_any v _ _ _ (by omega) (by omega) (by omega) (by omega) s1 s2 s3 s4 (by omega) (by omega)).mono ?_; rintro e w2 ⟨rfl, hb2⟩; have H2 := hid' (HV'.out.on hb2); clear hb2 hc; have ce2 := CE.out w2 H2.out.below) | (go_at_call 57; refine (Rleast_any _ _ hk).mono ?_; rintro e w3 ⟨rfl, hb3⟩; have H3 := hid' (H2.out.on hb3); clear hb3 ce2) | (go_at_call 58; refine (Rgreatest_any _ _ hk).mono ?_; rintro e w4 ⟨rfl, hb4⟩; have H4 := hid' (H3.out.on hb4); clear hb4) | go_in)
                go_ret
                exact ⟨ret_bool E.out.symm, H4.out.below⟩
              · have E := hid' (Y1.out (by omega))
                go_wp2_with (first | (go_at_call 56; refine (Rplace_any v _ _ _ (by omega) (by omega) (by omega) (by omega) s1 s2 s3 s4 (by omega) (by omega)).mono ?_; rintro e w2 ⟨rfl, hb2⟩; have H2 := hid' (HV'.out.on hb2); clear hb2 hc; have ce2 := CE.out w2 H2.out.below) | (go_at_call 57; refine (Rleast_any _ _ hk).mono ?_; rintro e w3 ⟨rfl, hb3⟩; have H3 := hid' (H2.out.on hb3); clear hb3 ce2) | (go_at_call 58; refine (Rgreatest_any _ _ hk).mono ?_; rintro e w4 ⟨rfl, hb4⟩; have H4 := hid' (H3.out.on hb4); clear hb4) | go_in)
                go_roundw
                case rel => exact ⟨t + 1, by go_num, by omega, E, H4⟩
                case measure => simp [intOf]; omega
          · have hge : ¬ (t : Int) < v.cols := by rw [HC.out]; omega
            go_wp2
            go_roundw
            case rel =>
              refine ⟨m + 1, by go_num, by omega, fun i j i1 j1 => ?_, HV'⟩
              by_cases e : i = m
              · subst e; exact HJ.out j (by omega)
              · exact HI.out i j (by omega) j1
            case measure => simp [intOf]; omega
      · have hge : ¬ (m : Int) < v.rows := by rw [HR.out]; omega
        have E : Hid (dc (elemP v zs (kLo k) (kHi k)) = true) := EY.out (fun i j i1 j1 => HI.out i j (by omega) j1)
        go_wp2
        go_ret
        exact ⟨ret_bool E.out.symm, HV.out.below⟩
  · have RC : R = 0 ∨ C = 0 := by
      by_cases x : 0 < R ∧ 0 < C
      · have := HIn.out 0 0 x.1 x.2; omega
      · omega
    have E : Hid (dc (elemP v zs (kLo k) (kHi k)) = true) := EY.out (fun i j i1 j1 => by omega)
    clear EY EN HIn HRow
    go_enter Try.func32, Try.ntmps32
    go_wp2
    go_loopw [7] (fun i wr => ∃ m : Nat, i = .int .i64 m ∧ m ≤ R ∧ Hid (VBox w wr v)) (fun i _ => R - (intOf i).toNat)
    case atStart => exact ⟨0, rfl, by omega, VBox.new rfl (Below.refl _ _)⟩
    case round =>
      obtain ⟨m, rfl, hm, HV⟩ := hrel
      have hc := HV.out.cells
      by_cases hlt : m < R
      · have hlt' : (m : Int) < v.rows := by rw [HR.out]; omega
        have hc0' : ¬ 0 < v.cols := by rw [HC.out]; omega
        go_wp2
        go_loopw [8] (fun i wr' => i = .int .i64 0 ∧ wr' = wr) (fun i _ => 0)
        case atStart => exact ⟨rfl, rfl⟩
        case round =>
          obtain ⟨rfl, rfl⟩ := hrel
          go_wp2
          go_roundw
          case rel => exact ⟨m + 1, by go_num, by omega, HV⟩
          case measure => simp [intOf]; omega
      · have hge : ¬ (m : Int) < v.rows := by rw [HR.out]; omega
        go_wp2
        go_ret
        exact ⟨ret_bool E.out.symm, HV.out.below⟩

end Go.Proofs.Ytpoejdkfhofimaa

import Derived.Test.YtpoejdkfhofimaaRPlan2
namespace Go.Proofs.Ytpoejdkfhofimaa
open Go.RowKit Tl
attribute [local go_sem ↓] Go.wp_at_zero Go.wp_at_succ

theorem wrapI (x : Int) (h1 : -9223372036854775808 ≤ x) (h2 : x ≤ 9223372036854775807) : IntKind.i64.wrap x = x := by
  simp only [IntKind.wrap, IntKind.signed, IntKind.bits]
  simp
  omega

set_option maxRecDepth 100000 in
set_option maxHeartbeats 8000000 in
theorem RPlan_ok (j : Jb) (w : World) (k1 : sidB j.o = true) (k2 : blkB j = true) :
    Calls Try.prog 20 #[.agg (jcells j)] w fun e w' => ∃ v n, e = .returned (.tuple #[v, .int .i64 (planE j)]) ∧ w'.ownsRow w.heap.size 45 4 v n (ints (planT j)) ∧ Below w.heap.size w w' := by
  obtain ⟨i0, hi, hz0, hz1', hz2⟩ := info_parts Try.info45
  obtain ⟨e1, e2⟩ := plan_3 k1 k2
  obtain ⟨q1, q2, q3, q4⟩ := sidB_bd k1
  obtain ⟨q5, q6, q7, q8, _, _⟩ := blkB_bd k2
  obtain ⟨R, hR⟩ := Int.eq_ofNat_of_zero_le q1
  obtain ⟨C, hC⟩ := Int.eq_ofNat_of_zero_le q3
  obtain ⟨br, hbr⟩ := Int.eq_ofNat_of_zero_le (by omega : 0 ≤ j.br)
  obtain ⟨bc, hbc⟩ := Int.eq_ofNat_of_zero_le (by omega : 0 ≤ j.bc)
  rw [hR, hC, hbr, hbc] at e2
  simp only [Int.toNat_natCast] at e2
  have E1 := hid' e1
  have E2 := hid' e2
  clear e1 e2
  have r1 : R ≤ 24 := by omega
  have r2 : C ≤ 24 := by omega
  have r3 : 1 ≤ br := by omega
  have r4 : br ≤ 64 := by omega
  have r5 : 1 ≤ bc := by omega
  have r6 : bc ≤ 64 := by omega
  clear q1 q2 q3 q4 q5 q6 q7 q8
  go_enter Try.func20, Try.ntmps20
  go_wp2_with (first | (refine wpList_load_mid rfl 36 (.tmp 1) rfl w.heap.size 0 (by rfl) (jcells j).toList _ (jrange w j _) Try.underlying36 rfl (jinfo j) ?_) | (go_at_call 37; refine (Rblocks_any j _).mono ?_; rintro e w1 ⟨rfl, hb1⟩; have B1 := JBox.new (j := j) rfl hb1; clear hb1; have hc1 := B1.cells; have hz1 := B1.size; have H1 := hid' B1; clear B1) | go_in)
  clear hc1
  go_loopw [5, 6] (fun v i wr => ∃ (m n : Nat), i = .int .i64 m ∧ m ≤ R ∧ n ≤ m * 24 ∧ wr.ownsRow (w.heap.size + 1) 45 4 v n (ints (allT R C br bc m)) ∧ Hid (JBox w wr j)) (fun _ i _ => R - (intOf i).toNat)
  case atStart => exact ⟨0, 0, rfl, by omega, by omega, by simpa [allT_zero] using World.ownsRow_nil _ _ _ _, H1⟩
  case round =>
    obtain ⟨m, n, rfl, hm, hn, hown, HB⟩ := hrel
    have hc := HB.out.cells
    by_cases hlt : m < R
    · go_wp2
      clear hc
      go_loopw [5, 7] (fun v i wr' => ∃ (k n' : Nat), i = .int .i64 k ∧ k ≤ C ∧ n' ≤ m * 24 + k ∧ wr'.ownsRow (w.heap.size + 1) 45 4 v n' (ints (allT R C br bc m ++ (if m % br = 0 then rowT R C br bc m k else []))) ∧ Hid (JBox w wr' j)) (fun _ i _ => C - (intOf i).toNat)
      case atStart =>
        refine ⟨0, n, rfl, by omega, by omega, ?_, HB⟩
        rw [rowT_zero]; simpa using hown
      case round =>
        obtain ⟨k, n', rfl, hk, hn', hown', HB'⟩ := hrel
        have hc := HB'.out.cells
        have hz := HB'.out.size
        by_cases hlt2 : k < C
        · by_cases t1 : m % br = 0
          · by_cases t2 : k % bc = 0
            · have u1 : ((m : Int) % (br : Int) == 0) = true := by simp; omega
              have u2 : ((k : Int) % (bc : Int) == 0) = true := by simp; omega
              have c1 : wr.cell? ⟨w.heap.size, 30, none⟩ = some (.int .i64 br) := by rw [hc, jc_30, hbr]
              have c2 : wr.cell? ⟨w.heap.size, 31, none⟩ = some (.int .i64 bc) := by rw [hc, jc_31, hbc]
              have c3 : wr.cell? ⟨w.heap.size, 15, none⟩ = some (.int .i64 R) := by rw [hc, jc_15, hR]
              have c4 : wr.cell? ⟨w.heap.size, 16, none⟩ = some (.int .i64 C) := by rw [hc, jc_16, hC]
              clear hc
              have ST := hid' (every_hit bc (tile R C br bc m) k t2)
              have x1 := wrapI ((m : Int) + br) (by omega) (by omega)
              have x2 := wrapI ((k : Int) + bc) (by omega) (by omega)
              rw [if_pos t1] at hown'
              go_wp2_with fail
              go_region_held3 (fun w' => w'.cell? ⟨w.heap.size, 30, none⟩ = some (.int .i64 br) ∧ w'.cell? ⟨w.heap.size, 31, none⟩ = some (.int .i64 bc) ∧ w'.cell? ⟨w.heap.size, 15, none⟩ = some (.int .i64 R) ∧ w'.cell? ⟨w.heap.size, 16, none⟩ = some (.int .i64 C))
                (first
                  | go_keep
                  | (go_split_ands
                     have nb : some w.heap.size ≠ u5.ownBlock := fun e => by { have := (hown'.lt _ e.symm).1; omega }
                     refine ⟨?_, ?_, ?_, ?_⟩
                     · (rw [hgrow.cell_far _ (by simp; omega) nb]; assumption)
                     · (rw [hgrow.cell_far _ (by simp; omega) nb]; assumption)
                     · (rw [hgrow.cell_far _ (by simp; omega) nb]; assumption)
                     · (rw [hgrow.cell_far _ (by simp; omega) nb]; assumption)))
                (first
                  | ((go_at_call 41; refine (smaller_any _ _ _).mono ?_; rintro e w' ⟨rfl, rfl⟩))
                  | ((refine step_append_lies _ (by rfl) _ _ _ (by rfl) (w.heap.size + 1) 45 i0 _ 4 32 Try.underlying39 hi hz0 hz1' hz2 rfl (by omega) u5 n' _ (by rfl) ((hown'.alloc _).drew) ⟨wr.heap.size, 0, none⟩ 1 1 _ (by rfl) (by rfl) (World.news_of_block (heap_alloc_new wr _)) (by simp [Value.oneCell']) (by omega) (by unfold maxLen; omega) (by omega) (by simp; omega) (wr.heap.size + 1) (by simp) ?_; intro g cap w1 hown1 hgrow hat hlt')))
              have HB1 := hid' (((HB'.out.alloc _).drew).grown hgrow (fun k e => (hown'.lt k e).1))
              clear hgrow hat hlt'
              go_wp2
              go_roundw
              case rel =>
                refine ⟨k + 1, n' + 1, by go_num, by omega, by omega, ?_, HB1⟩
                rw [if_pos t1, show rowT R C br bc m (k + 1) = rowT R C br bc m k ++ tile R C br bc m k from ST.out]
                try rw [x1, x2] at hown1
                simpa [tile] using hown1
              case measure => simp [intOf]; omega
            · have u1 : ((m : Int) % (br : Int) == 0) = true := by simp; omega
              have u2 : ((k : Int) % (bc : Int) == 0) = false := by simp; omega
              have ST := hid' (every_miss bc (tile R C br bc m) k t2)
              go_wp2
              go_roundw
              case rel =>
                refine ⟨k + 1, n', by go_num, by omega, by omega, ?_, HB'⟩
                rw [if_pos t1] at hown' ⊢
                rw [show rowT R C br bc m (k + 1) = rowT R C br bc m k from ST.out]
                exact hown'
              case measure => simp [intOf]; omega
          · have u1 : ((m : Int) % (br : Int) == 0) = false := by simp; omega
            go_wp2
            go_roundw
            case rel =>
              refine ⟨k + 1, n', by go_num, by omega, by omega, ?_, HB'⟩
              rw [if_neg t1] at hown' ⊢
              exact hown'
            case measure => simp [intOf]; omega
        · have ST := hid' (every_succ br (fun i => rowT R C br bc i C) m)
          obtain rfl : k = C := by omega
          go_wp2
          go_roundw
          case rel => exact ⟨m + 1, n', by go_num, by omega, by omega, by rw [show allT R k br bc (m + 1) = _ from ST.out]; exact hown', HB'⟩
          case measure => simp [intOf]; omega
    · obtain rfl : m = R := by omega
      go_wp2
      go_ret2
      exact ⟨_, n, by rw [E1.out]; rfl, by rw [E2.out]; exact own_le hown (by omega), HB.out.below⟩

theorem RPlan_any (j : Jb) (w : World) :
    Calls Try.prog 20 #[.agg (jcells j)] w fun e w' => ∃ v n, e = .returned (.tuple #[v, .int .i64 (planE j)]) ∧ w'.ownsRow w.heap.size 45 4 v n (ints (planT j)) ∧ Below w.heap.size w w' := by
  by_cases k1 : sidB j.o = true
  · by_cases k2 : blkB j = true
    · exact RPlan_ok j w k1 k2
    · exact RPlan_no j w (by rw [(plan_2 k1 (by simpa using k2)).1]; decide)
  · exact RPlan_no j w (by rw [(plan_1 (by simpa using k1)).1]; decide)

end Go.Proofs.Ytpoejdkfhofimaa

import Derived.Test.YtpoejdkfhofimaaPlan
namespace Go.Proofs.Ytpoejdkfhofimaa
open Go.RowKit Tl

theorem own_le {w : World} {b b' s n : Nat} {e : TypeId} {v : Value} {xs : List Value} (h : w.ownsRow b e s v n xs) (hb : b' ≤ b) : w.ownsRow b' e s v n xs := by
  obtain ⟨h1, h2⟩ := h
  rcases h2 with h2 | ⟨g, cap, cur, e1, e2, r⟩
  · exact ⟨h1, .inl h2⟩
  · exact ⟨h1, .inr ⟨g, cap, cur, e1, by omega, r⟩⟩

/-- the error of Plan; its tiles -/
def planE (j : Jb) : Int := if sidB j.o = false then 2 else if blkB j = false then 10 else 0
def planT (j : Jb) : List Int := if sidB j.o = true ∧ blkB j = true then allT j.o.rows.toNat j.o.cols.toNat j.br.toNat j.bc.toNat j.o.rows.toNat else []
theorem plan_1 {j : Jb} (h : sidB j.o = false) : planE j = 2 ∧ planT j = [] := by simp [planE, planT, h]
theorem plan_2 {j : Jb} (h : sidB j.o = true) (h' : blkB j = false) : planE j = 10 ∧ planT j = [] := by simp [planE, planT, h, h']
theorem plan_3 {j : Jb} (h : sidB j.o = true) (h' : blkB j = true) : planE j = 0 ∧ planT j = allT j.o.rows.toNat j.o.cols.toNat j.br.toNat j.bc.toNat j.o.rows.toNat := by simp [planE, planT, h, h']
theorem sidB_bd {v : Vw} (h : sidB v = true) : 0 ≤ v.rows ∧ v.rows ≤ 24 ∧ 0 ≤ v.cols ∧ v.cols ≤ 24 := by
  unfold sidB at h; simp only [Bool.and_eq_true, Pl.inB_iff] at h; omega
theorem blkB_bd {j : Jb} (h : blkB j = true) : 1 ≤ j.br ∧ j.br ≤ 64 ∧ 1 ≤ j.bc ∧ j.bc ≤ 64 ∧ 1 ≤ j.bd ∧ j.bd ≤ 64 := by
  unfold blkB at h; simp only [Bool.and_eq_true, Pl.inB_iff] at h; omega

theorem tiles_nat (R C br bc : Int) (w : World) (hR0 : 0 ≤ R) (hR : R ≤ 24) (hC0 : 0 ≤ C) (hC : C ≤ 24) (h1 : 1 ≤ br) (h2 : br ≤ 64) (h3 : 1 ≤ bc) (h4 : bc ≤ 64) :
    Calls Try.prog 40 #[.int .i64 R, .int .i64 C, .int .i64 br, .int .i64 bc] w fun e w' => ∃ v n, e = .returned v ∧ w'.ownsRow w.heap.size 45 4 v n (ints (allT R.toNat C.toNat br.toNat bc.toNat R.toNat)) ∧ Below w.heap.size w w' := by
  obtain ⟨R', rfl⟩ := Int.eq_ofNat_of_zero_le hR0
  obtain ⟨C', rfl⟩ := Int.eq_ofNat_of_zero_le hC0
  obtain ⟨br', rfl⟩ := Int.eq_ofNat_of_zero_le (by omega : 0 ≤ br)
  obtain ⟨bc', rfl⟩ := Int.eq_ofNat_of_zero_le (by omega : 0 ≤ bc)
  simpa using tiles_any R' C' br' bc' w (by omega) (by omega) (by omega) (by omega) (by omega) (by omega)

set_option maxHeartbeats 2000000 in
theorem Plan_any (j : Jb) (w : World) :
    Calls Try.prog 19 #[.agg (jcells j)] w fun e w' => ∃ v n, e = .returned (.tuple #[v, .int .i64 (planE j)]) ∧ w'.ownsRow w.heap.size 45 4 v n (ints (planT j)) ∧ Below w.heap.size w w' := by
  cases k1 : sidB j.o
  · obtain ⟨e1, e2⟩ := plan_1 k1
    have E1 := hid' e1
    have E2 := hid' e2
    clear e1 e2
    go_enter Try.func19, Try.ntmps19
    go_wp2_with (first | (go_at_call 38; refine (sides_any j.o _).mono ?_; rintro e w1 ⟨rfl, hb1⟩; have B1 := JBox.new (j := j) rfl hb1; clear hb1; have hc1 := B1.cells; have hz1 := B1.size; have H1 := hid' B1; clear B1) | (refine wpList_load_mid rfl 36 (.tmp 1) rfl w.heap.size 0 (by rfl) (jcells j).toList _ H1.out.range Try.underlying36 rfl (jinfo j) ?_) | go_in)
    go_ret2
    exact ⟨.slice none 0 0, 0, by rw [E1.out]; rfl, by rw [E2.out]; exact World.ownsRow_nil _ _ _ _, H1.out.below⟩
  · cases k2 : blkB j
    · obtain ⟨e1, e2⟩ := plan_2 k1 k2
      have E1 := hid' e1
      have E2 := hid' e2
      clear e1 e2
      go_enter Try.func19, Try.ntmps19
      go_wp2_with (first | (go_at_call 38; refine (sides_any j.o _).mono ?_; rintro e w1 ⟨rfl, hb1⟩; have B1 := JBox.new (j := j) rfl hb1; clear hb1; have hc1 := B1.cells; have hz1 := B1.size; have H1 := hid' B1; clear B1) | (refine wpList_load_mid rfl 36 (.tmp 1) rfl w.heap.size 0 (by rfl) (jcells j).toList _ H1.out.range Try.underlying36 rfl (jinfo j) ?_) | (go_at_call 39; refine (blocks_any j _).mono ?_; rintro e w2 ⟨rfl, hb2⟩; have B2 := H1.out.on hb2; clear hb2 hc1; have hc2 := B2.cells; have hz2 := B2.size; have H2 := hid' B2; clear B2) | go_in)
      go_ret2
      exact ⟨.slice none 0 0, 0, by rw [E1.out]; rfl, by rw [E2.out]; exact World.ownsRow_nil _ _ _ _, H2.out.below⟩
    · obtain ⟨e1, e2⟩ := plan_3 k1 k2
      have E1 := hid' e1
      have E2 := hid' e2
      clear e1 e2
      obtain ⟨q1, q2, q3, q4⟩ := sidB_bd k1
      obtain ⟨q5, q6, q7, q8, q9, q10⟩ := blkB_bd k2
      go_enter Try.func19, Try.ntmps19
      go_wp2_with (first | (go_at_call 38; refine (sides_any j.o _).mono ?_; rintro e w1 ⟨rfl, hb1⟩; have B1 := JBox.new (j := j) rfl hb1; clear hb1; have hc1 := B1.cells; have hz1 := B1.size; have H1 := hid' B1; clear B1) | (refine wpList_load_mid rfl 36 (.tmp 1) rfl w.heap.size 0 (by rfl) (jcells j).toList _ H1.out.range Try.underlying36 rfl (jinfo j) ?_) | (go_at_call 39; refine (blocks_any j _).mono ?_; rintro e w2 ⟨rfl, hb2⟩; have B2 := H1.out.on hb2; clear hb2 hc1; have hc2 := B2.cells; have hz2 := B2.size; have H2 := hid' B2; clear B2) | (go_at_call 40; refine (tiles_nat _ _ _ _ _ q1 q2 q3 q4 q5 q6 q7 q8).mono ?_; rintro e w3 ⟨v, n, rfl, hown, hb3⟩) | go_in)
      go_ret2
      exact ⟨v, n, by rw [E1.out]; rfl, by rw [E2.out]; exact own_le hown (by omega), H2.out.below.trans (hb3.mono (by omega))⟩

end Go.Proofs.Ytpoejdkfhofimaa

import Derived.Test.YtpoejdkfhofimaaRPlan
import Derived.Deep.DrawnRows
namespace Go.Proofs.Ytpoejdkfhofimaa
open Go.RowKit Tl

theorem JBox.grown {w0 w1 w2 : World} {j : Jb} {row : Option Nat} (h : JBox w0 w1 j) (hg : w1.grownBy w2 row) (hr : ∀ k, row = some k → w0.heap.size + 1 ≤ k) : JBox w0 w2 j := by
  refine ⟨h.below.grown hg (by have := h.size; omega) (fun k e => by have := hr k e; omega), by have := h.size; have := hg.size; omega, fun i => ?_⟩
  rw [← h.cells i]
  refine World.cell?_of_block (hg.block w0.heap.size h.size ?_)
  intro e
  have := hr _ e.symm
  omega
theorem JBox.alloc {w0 w1 : World} {j : Jb} (h : JBox w0 w1 j) (o : Obj) : JBox w0 (w1.alloc o) j := h.on ((Below.refl _ _).alloc (Nat.le_refl _) o)
theorem JBox.drew {w0 w1 : World} {j : Jb} (h : JBox w0 w1 j) : JBox w0 w1.drew j := h.on (Below.refl _ _).drew

set_option maxHeartbeats 4000000 in
theorem RPlan_no (j : Jb) (w : World) (h : planE j ≠ 0) :
    Calls Try.prog 20 #[.agg (jcells j)] w fun e w' => ∃ v n, e = .returned (.tuple #[v, .int .i64 (planE j)]) ∧ w'.ownsRow w.heap.size 45 4 v n (ints (planT j)) ∧ Below w.heap.size w w' := by
  have key : (sidB j.o = false ∧ (j.o.rows < 0 ∨ (¬ j.o.rows < 0 ∧ 24 < j.o.rows) ∨ (¬ j.o.rows < 0 ∧ ¬ 24 < j.o.rows ∧ j.o.cols < 0) ∨ (¬ j.o.rows < 0 ∧ ¬ 24 < j.o.rows ∧ ¬ j.o.cols < 0 ∧ 24 < j.o.cols))) ∨ (sidB j.o = true ∧ blkB j = false) := by
    cases k1 : sidB j.o
    · refine .inl ⟨rfl, ?_⟩
      by_cases x : j.o.rows < 0 ∨ 24 < j.o.rows ∨ j.o.cols < 0 ∨ 24 < j.o.cols
      · omega
      · exfalso
        have : sidB j.o = true := by unfold sidB; rw [Pl.inB_yes (by omega) (by omega), Pl.inB_yes (by omega) (by omega)]; rfl
        rw [k1] at this; cases this
    · refine .inr ⟨rfl, ?_⟩
      cases k2 : blkB j
      · rfl
      · exact absurd (plan_3 k1 k2).1 h
  clear h
  rcases key with ⟨k1, c⟩ | ⟨k1, k2⟩
  · obtain ⟨e1, e2⟩ := plan_1 k1
    have E1 := hid' e1
    have E2 := hid' e2
    clear e1 e2
    rcases c with c | ⟨c, c2⟩ | ⟨c, c2, c3⟩ | ⟨c, c2, c3, c4⟩
    all_goals
      go_enter Try.func20, Try.ntmps20
      go_wp2_with (first | (refine wpList_load_mid rfl 36 (.tmp 1) rfl w.heap.size 0 (by rfl) (jcells j).toList _ (jrange w j _) Try.underlying36 rfl (jinfo j) ?_) | (go_at_call 37; refine (Rblocks_any j _).mono ?_; rintro e w1 ⟨rfl, hb1⟩; have B1 := JBox.new (j := j) rfl hb1; clear hb1; have hc1 := B1.cells; have hz1 := B1.size; have H1 := hid' B1; clear B1) | go_in)
      go_ret2
      exact ⟨.slice none 0 0, 0, by rw [E1.out]; rfl, by rw [E2.out]; exact World.ownsRow_nil _ _ _ _, H1.out.below⟩
  · obtain ⟨e1, e2⟩ := plan_2 k1 k2
    have E1 := hid' e1
    have E2 := hid' e2
    clear e1 e2
    obtain ⟨q1, q2, q3, q4⟩ := sidB_bd k1
    go_enter Try.func20, Try.ntmps20
    go_wp2_with (first | (refine wpList_load_mid rfl 36 (.tmp 1) rfl w.heap.size 0 (by rfl) (jcells j).toList _ (jrange w j _) Try.underlying36 rfl (jinfo j) ?_) | (go_at_call 37; refine (Rblocks_any j _).mono ?_; rintro e w1 ⟨rfl, hb1⟩; have B1 := JBox.new (j := j) rfl hb1; clear hb1; have hc1 := B1.cells; have hz1 := B1.size; have H1 := hid' B1; clear B1) | go_in)
    go_ret2
    exact ⟨.slice none 0 0, 0, by rw [E1.out]; rfl, by rw [E2.out]; exact World.ownsRow_nil _ _ _ _, H1.out.below⟩

end Go.Proofs.Ytpoejdkfhofimaa

import Derived.Test.YtpoejdkfhofimaaPlanning
namespace Go.Proofs.Ytpoejdkfhofimaa
open Go.RowKit Classical Tl

theorem plan3_any (w : World) : Calls Try.prog 19 #[.agg (jcells (sj 3 1 1))] w fun e w' => ∃ g cap, e = .returned (.tuple #[.slice (some ⟨g, 0, none⟩) 2 cap, .int .i64 0]) ∧ (g < w'.heap.size ∧ w'.cell? ⟨g, 4, none⟩ = some (.int .i64 2) ∧ w'.cell? ⟨g, 5, none⟩ = some (.int .i64 3)) ∧ Below w.heap.size w w' := by
  refine (Plan_any (sj 3 1 1) w).mono ?_
  rintro e w' ⟨v, n, rfl, hown, hb⟩
  rw [plan311.1, plan311.2] at *
  have hn : n = 2 := by have := hown.1; simp [ints] at this; omega
  subst hn
  obtain ⟨a, c, rfl, f⟩ := own_forms hown
  obtain ⟨g, rfl⟩ := f (by omega)
  refine ⟨g, c, rfl, ⟨(hown.lt g rfl).2, ?_, ?_⟩, hb⟩
  · rw [hown.cellAt 4 (by omega)]; rfl
  · rw [hown.cellAt 5 (by omega)]; rfl

theorem jok11 : JOK (sj 1 1 1) := by
  have o : ∀ x : Int, -9223372036854775808 ≤ x → x ≤ 9223372036854775807 → ok64 x := fun x h1 h2 => ⟨h1, h2⟩
  have v : VOK (pv 1 1) := ⟨o _ (by decide) (by decide), o _ (by decide) (by decide), o _ (by decide) (by decide), o _ (by decide) (by decide), o _ (by decide) (by decide)⟩
  exact ⟨o _ (by decide) (by decide), v, v, o _ (by decide) (by decide), o _ (by decide) (by decide), v, o _ (by decide) (by decide), o _ (by decide) (by decide), o _ (by decide) (by decide), o _ (by decide) (by decide), o _ (by decide) (by decide), o _ (by decide) (by decide), o _ (by decide) (by decide), o _ (by decide) (by decide), o _ (by decide) (by decide), o _ (by decide) (by decide)⟩
theorem row_nil (w : World) : RowIs w ⟨none, 0, 0⟩ [] := ⟨rfl, Nat.zero_le _, by simp, fun h => absurd h (by simp)⟩

theorem chk_any (w : World) (x : Int) (hx : ok64 x) : Calls Try.prog 17 #[.agg (jcells (sj 1 1 1)), .slice (some ⟨w.heap.size, 0, none⟩) 1 1, .slice (some ⟨w.heap.size + 1, 0, none⟩) 1 1, .slice (some ⟨w.heap.size + 1 + 1, 0, none⟩) 1 1]
    (((w.alloc (.cells #[.int .i64 x] 3)).alloc (.cells #[.int .i64 3] 3)).alloc (.cells #[.int .i64 0] 3)) fun e w' => e = .returned (.int .i64 (if 0 ≤ x ∧ x ≤ 255 then 0 else 4)) ∧ Below w.heap.size w w' := by
  have h3 : ok64 3 := ⟨by decide, by decide⟩
  have r1 : RowIs (w.alloc (.cells #[.int .i64 x] 3)) ⟨some ⟨w.heap.size, 0, none⟩, 1, 1⟩ [x] := row_new w [x] _ rfl _ _ rfl (fun y hy => by simp at hy; subst hy; exact hx) 1 rfl (by omega)
  have r2 : RowIs ((w.alloc (.cells #[.int .i64 x] 3)).alloc (.cells #[.int .i64 3] 3)) ⟨some ⟨w.heap.size + 1, 0, none⟩, 1, 1⟩ [3] := row_new _ [3] _ (by simp) _ _ rfl (fun y hy => by simp at hy; subst hy; exact h3) 1 rfl (by omega)
  have b1 : ∀ (W : World) (o : Obj), Below W.heap.size W (W.alloc o) := fun W o => (Below.refl _ _).alloc (Nat.le_refl _) o
  have A : Args (((w.alloc (.cells #[.int .i64 x] 3)).alloc (.cells #[.int .i64 3] 3)).alloc (.cells #[.int .i64 0] 3)) (sj 1 1 1) ⟨some ⟨w.heap.size, 0, none⟩, 1, 1⟩ ⟨some ⟨w.heap.size + 1, 0, none⟩, 1, 1⟩ ⟨some ⟨w.heap.size + 1 + 1, 0, none⟩, 1, 1⟩ [x] [3] [] [] [] :=
    ⟨jok11, (r1.below (b1 _ _)).below (b1 _ _), r2.below (b1 _ _), row_nil _, row_nil _, row_nil _⟩
  refine (Check_any (sj 1 1 1) ⟨some ⟨w.heap.size, 0, none⟩, 1, 1⟩ ⟨some ⟨w.heap.size + 1, 0, none⟩, 1, 1⟩ ⟨some ⟨w.heap.size + 1 + 1, 0, none⟩, 1, 1⟩ [x] [3] [] [] [] _ A).mono ?_
  rintro e w' ⟨rfl, hb⟩
  refine ⟨by rw [chk x _ _ _ rfl rfl rfl], ?_⟩
  exact ((((Below.refl _ _).alloc (Nat.le_refl _) _).alloc (by simp) _).alloc (by simp; omega) _).trans (hb.mono (by simp; omega))
theorem chk_ok (w : World) : Calls Try.prog 17 #[.agg (jcells (sj 1 1 1)), .slice (some ⟨w.heap.size, 0, none⟩) 1 1, .slice (some ⟨w.heap.size + 1, 0, none⟩) 1 1, .slice (some ⟨w.heap.size + 1 + 1, 0, none⟩) 1 1]
    (((w.alloc (.cells #[.int .i64 2] 3)).alloc (.cells #[.int .i64 3] 3)).alloc (.cells #[.int .i64 0] 3)) fun e w' => e = .returned (.int .i64 0) ∧ Below w.heap.size w w' := chk_any w 2 ⟨by decide, by decide⟩
theorem chk_no (w : World) : Calls Try.prog 17 #[.agg (jcells (sj 1 1 1)), .slice (some ⟨w.heap.size, 0, none⟩) 1 1, .slice (some ⟨w.heap.size + 1, 0, none⟩) 1 1, .slice (some ⟨w.heap.size + 1 + 1, 0, none⟩) 1 1]
    (((w.alloc (.cells #[.int .i64 256] 3)).alloc (.cells #[.int .i64 3] 3)).alloc (.cells #[.int .i64 0] 3)) fun e w' => e = .returned (.int .i64 4) ∧ Below w.heap.size w w' := chk_any w 256 ⟨by decide, by decide⟩

theorem keep2 {W W' : World} {g : Nat} (h : g < W.heap.size ∧ W.cell? ⟨g, 4, none⟩ = some (.int .i64 2) ∧ W.cell? ⟨g, 5, none⟩ = some (.int .i64 3)) (hb : Below W.heap.size W W') : g < W'.heap.size ∧ W'.cell? ⟨g, 4, none⟩ = some (.int .i64 2) ∧ W'.cell? ⟨g, 5, none⟩ = some (.int .i64 3) :=
  ⟨Nat.lt_of_lt_of_le h.1 hb.size, (hb.cell (p := ⟨g, 4, none⟩) h.1).trans h.2.1, (hb.cell (p := ⟨g, 5, none⟩) h.1).trans h.2.2⟩

set_option maxRecDepth 100000 in
set_option maxHeartbeats 1000000 in
theorem planning_any (w : World) : Calls Try.prog 22 #[] w fun e w' => e = .returned (.bool true) ∧ Below w.heap.size w w' := by
  have S1 := hid' (simple_any 3 1 1)
  have P1 := hid' plan3_any
  have C1 := hid' chk_ok
  have C2 := hid' chk_no
  go_enter Try.func22, Try.ntmps22
  go_wp2_with (first | (go_at_call 42; refine (S1.out _).mono ?_; clear S1; rintro e w1 ⟨rfl, hb⟩; have B := hid' hb; clear hb) | (go_at_call 19; refine (P1.out _).mono ?_; clear P1; rintro e w2 ⟨g, cap, rfl, hg, hb⟩; have HG := hid' hg; have B2 := hid' (B.out.trans (hb.mono B.out.size)); clear hb hg B; have B := B2; clear B2; have S2 := hid' (simple_any 1 1 1)) | (go_at_call 42; refine (S2.out _).mono ?_; clear S2; rintro e w3 ⟨rfl, hb⟩; have B3 := hid' (B.out.trans (hb.mono B.out.size)); have G3 := hid' (keep2 HG.out hb); clear hb B HG; have B := B3; clear B3; have HG := G3; clear G3) | (go_at_call 17; refine (C1.out _).mono ?_; clear C1; rintro e w4 ⟨rfl, hb⟩; have B3 := hid' (B.out.trans (hb.mono B.out.size)); have G3 := hid' (keep2 HG.out hb); clear hb B HG; have B := B3; clear B3; have HG := G3; clear G3; have S2 := hid' (simple_any 1 1 1)) | (go_at_call 17; refine (C2.out _).mono ?_; clear C2; rintro e w5 ⟨rfl, hb⟩; have B3 := hid' (B.out.trans (hb.mono B.out.size)); have G3 := hid' (keep2 HG.out hb); clear hb B HG; have B := B3; clear B3; obtain ⟨hg1, hg2, hg3⟩ := G3.out; clear G3))
  go_ret
  exact ⟨rfl, B.out⟩

end Go.Proofs.Ytpoejdkfhofimaa

import Derived.Test.YtpoejdkfhofimaaPlan2
import Derived.Test.YtpoejdkfhofimaaPlainV
import Derived.Test.YtpoejdkfhofimaaOpen
import Derived.Deep.RegionHeld3
import Derived.Deep.DrawnRows
import Derived.Deep.QuietTactic
import Derived.BigQuiet
import Derived.WalkSmall
namespace Go.Proofs.Ytpoejdkfhofimaa
open Go.RowKit Classical
attribute [local go_sem ↓] Go.wp_at_zero Go.wp_at_succ

@[go_sem] theorem vc_size (v : Vw) : (vcells v).size = 6 := rfl
@[go_sem] theorem vc_0 (v : Vw) : (vcells v)[0]? = some (.int .i64 v.rows) := rfl
@[go_sem] theorem vc_1 (v : Vw) : (vcells v)[1]? = some (.int .i64 v.cols) := rfl
@[go_sem] theorem vc_2 (v : Vw) : (vcells v)[2]? = some (.int .i64 v.off) := rfl
@[go_sem] theorem vc_3 (v : Vw) : (vcells v)[3]? = some (.int .i64 v.rs) := rfl
@[go_sem] theorem vc_4 (v : Vw) : (vcells v)[4]? = some (.int .i64 v.cs) := rfl
@[go_sem] theorem vc_5 (v : Vw) : (vcells v)[5]? = some (.bool v.tn) := rfl

theorem plW_t {v : Vw} {i j : Int} (h : v.tn = true) : plW v i j = wrap64 (wrap64 (v.off + j * v.rs) + i * v.cs) := by unfold plW; rw [if_pos h]
theorem plW_f {v : Vw} {i j : Int} (h : v.tn = false) : plW v i j = wrap64 (wrap64 (v.off + i * v.rs) + j * v.cs) := by unfold plW; rw [if_neg (by simp [h])]

set_option maxHeartbeats 1000000 in
theorem place_any (v : Vw) (i j : Int) (w : World) (i1 : 0 ≤ i) (i2 : i ≤ 24) (j1 : 0 ≤ j) (j2 : j ≤ 24) (a1 : -1000 ≤ v.rs) (a2 : v.rs ≤ 1000) (b1 : -1000 ≤ v.cs) (b2 : v.cs ≤ 1000) :
    Calls Try.prog 72 #[.agg (vcells v), .int .i64 i, .int .i64 j] w fun e w' => e = .returned (.int .i64 (plW v i j)) ∧ Below w.heap.size w w' := by
  obtain ⟨m1, m2⟩ := mul_small i1 i2 a1 a2
  obtain ⟨m3, m4⟩ := mul_small i1 i2 b1 b2
  obtain ⟨m5, m6⟩ := mul_small j1 j2 a1 a2
  obtain ⟨m7, m8⟩ := mul_small j1 j2 b1 b2
  cases ht : v.tn
  · have E := hid' (plW_f (i := i) (j := j) ht)
    go_enter Try.func72, Try.ntmps72
    go_wp2
    go_ret
    exact ⟨congrArg (fun x => Ending.returned (.int .i64 x)) E.out.symm, (Below.refl _ _).alloc (Nat.le_refl _) _⟩
  · have E := hid' (plW_t (i := i) (j := j) ht)
    go_enter Try.func72, Try.ntmps72
    go_wp2
    go_ret
    exact ⟨congrArg (fun x => Ending.returned (.int .i64 x)) E.out.symm, (Below.refl _ _).alloc (Nat.le_refl _) _⟩

/-- a view lies in the block behind those of w0, and nothing of w0 has turned -/
structure VBox (w0 w1 : World) (v : Vw) : Prop where
  below : Below w0.heap.size w0 w1
  size : w0.heap.size < w1.heap.size
  cells : ∀ i : Nat, w1.cell? ⟨w0.heap.size, i, none⟩ = (vcells v)[i]?
theorem VBox.new {w0 w1 : World} {v : Vw} {cs : Array Value} {t : TypeId} (hcs : cs = vcells v) (hb : Below (w0.alloc (.cells cs t)).heap.size (w0.alloc (.cells cs t)) w1) : VBox w0 w1 v := by
  subst hcs
  refine ⟨((Below.refl _ _).alloc (Nat.le_refl _) _).trans (hb.mono (by simp)), by have := hb.size; simp at this; omega, fun i => ?_⟩
  rw [hb.cell (p := ⟨w0.heap.size, i, none⟩) (by simp)]
  exact World.cell?_alloc_at _ _ _ _ rfl
theorem VBox.on {w0 w1 w2 : World} {v : Vw} (h : VBox w0 w1 v) (hb : Below w1.heap.size w1 w2) : VBox w0 w2 v :=
  ⟨h.below.trans (hb.mono (by have := h.size; omega)), by have := h.size; have := hb.size; omega, fun i => (hb.cell (p := ⟨w0.heap.size, i, none⟩) h.size).trans (h.cells i)⟩
/-- the same, cell by cell: for a region that draws its order -/
def VHeld (w0 w1 : World) (v : Vw) : Prop := VBox w0 w1 v ∧ w1.cell? ⟨w0.heap.size, 0, none⟩ = some (.int .i64 v.rows) ∧ w1.cell? ⟨w0.heap.size, 1, none⟩ = some (.int .i64 v.cols) ∧ w1.cell? ⟨w0.heap.size, 2, none⟩ = some (.int .i64 v.off) ∧ w1.cell? ⟨w0.heap.size, 3, none⟩ = some (.int .i64 v.rs) ∧ w1.cell? ⟨w0.heap.size, 4, none⟩ = some (.int .i64 v.cs) ∧ w1.cell? ⟨w0.heap.size, 5, none⟩ = some (.bool v.tn)
theorem VBox.held {w0 w1 : World} {v : Vw} (h : VBox w0 w1 v) : VHeld w0 w1 v := ⟨h, h.cells 0, h.cells 1, h.cells 2, h.cells 3, h.cells 4, h.cells 5⟩

/-- the least and the greatest of four -/
def mn4 (x y z u : Int) : Int := if u < (if z < (if y < x then y else x) then z else (if y < x then y else x)) then u else (if z < (if y < x then y else x) then z else (if y < x then y else x))
def mx4 (x y z u : Int) : Int := if (if (if x < y then y else x) < z then z else (if x < y then y else x)) < u then u else (if (if x < y then y else x) < z then z else (if x < y then y else x))
@[go_sem] theorem run_min4 {P : Program} {w : World} (ts : Array TypeId) (t : TypeId) (k k' k'' k3 : IntKind) (x y z u : Int) : (Builtin.min_ ts t #[.int k x, .int k' y, .int k'' z, .int k3 u]).run P w = .ok (.int k (mn4 x y z u)) w := by
  simp [Builtin.min_, Builtin.min2, mn4]
@[go_sem] theorem run_max4 {P : Program} {w : World} (ts : Array TypeId) (t : TypeId) (k k' k'' k3 : IntKind) (x y z u : Int) : (Builtin.max_ ts t #[.int k x, .int k' y, .int k'' z, .int k3 u]).run P w = .ok (.int k (mx4 x y z u)) w := by
  simp [Builtin.max_, Builtin.max2, mx4]
theorem mn4_yes {x y z u : Int} (h1 : 0 ≤ x) (h2 : 0 ≤ y) (h3 : 0 ≤ z) (h4 : 0 ≤ u) : 0 ≤ mn4 x y z u := by
  unfold mn4; split <;> split <;> (try split) <;> omega
theorem mn4_no {x y z u : Int} (h : x < 0 ∨ y < 0 ∨ z < 0 ∨ u < 0) : decide (0 ≤ mn4 x y z u) = false := by
  simp only [decide_eq_false_iff_not]; unfold mn4; split <;> split <;> (try split) <;> omega
theorem mx4_yes {x y z u n : Int} (h1 : x < n) (h2 : y < n) (h3 : z < n) (h4 : u < n) : mx4 x y z u < n := by
  unfold mx4; split <;> split <;> (try split) <;> omega
theorem mx4_no {x y z u n : Int} (h : n ≤ x ∨ n ≤ y ∨ n ≤ z ∨ n ≤ u) : decide (mx4 x y z u < n) = false := by
  simp only [decide_eq_false_iff_not]; unfold mx4; split <;> split <;> (try split) <;> omega

theorem cor_no {v : Vw} {n : Int} (h : ¬ corners v n) : Hid (false = dc (corners v n)) := (dc_no h).symm
theorem cor_yes {v : Vw} {n : Int} (h : corners v n) : Hid (true = dc (corners v n)) := (dc_yes h).symm

set_option maxRecDepth 100000 in
set_option maxHeartbeats 8000000 in
theorem lies_any (v : Vw) (n : Int) (w : World) (r1 : 0 < v.rows) (r2 : v.rows ≤ 24) (c1 : 0 < v.cols) (c2 : v.cols ≤ 24) (a1 : -1000 ≤ v.rs) (a2 : v.rs ≤ 1000) (b1 : -1000 ≤ v.cs) (b2 : v.cs ≤ 1000) :
    Calls Try.prog 75 #[.agg (vcells v), .int .i64 n] w fun e w' => e = .returned (.bool (dc (corners v n))) ∧ Below w.heap.size w w' := by
  have CI : Hid (corners v n ↔ (0 ≤ v.off ∧ v.off < n) ∧ (0 ≤ plW v 0 (v.cols - 1) ∧ plW v 0 (v.cols - 1) < n) ∧ (0 ≤ plW v (v.rows - 1) 0 ∧ plW v (v.rows - 1) 0 < n) ∧ (0 ≤ plW v (v.rows - 1) (v.cols - 1) ∧ plW v (v.rows - 1) (v.cols - 1) < n)) := Iff.rfl
  go_enter Try.func75, Try.ntmps75
  go_wp2
  go_quiet (fail)
  go_wp2_with fail
  have V0 : VBox w ((w.alloc (.cells (vcells v) 33)).drewN nq) v := VBox.new rfl (below_drewN (Below.refl _ _) nq)
  revert V0
  generalize (w.alloc (.cells (vcells v) 33)).drewN nq = W1
  intro V0
  obtain ⟨V0, z0, z1, z2, z3, z4, z5⟩ := V0.held
  go_region_held3 (fun w' => VBox w w' v ∧ w'.cell? ⟨w.heap.size, 0, none⟩ = some (.int .i64 v.rows) ∧ w'.cell? ⟨w.heap.size, 1, none⟩ = some (.int .i64 v.cols) ∧ w'.cell? ⟨w.heap.size, 2, none⟩ = some (.int .i64 v.off) ∧ w'.cell? ⟨w.heap.size, 3, none⟩ = some (.int .i64 v.rs) ∧ w'.cell? ⟨w.heap.size, 4, none⟩ = some (.int .i64 v.cs) ∧ w'.cell? ⟨w.heap.size, 5, none⟩ = some (.bool v.tn))
    (first
      | (go_split_ands; have Vn := VBox.on (by assumption) hb2; exact Vn.held)
      | (go_split_ands; have Vn := VBox.on V0 (Below.refl _ _).drew; exact Vn.held)
      | go_keep)
    ((go_at_call 72; refine (place_any v _ _ _ (by omega) (by omega) (by omega) (by omega) a1 a2 b1 b2).mono ?_; rintro e w2 ⟨rfl, hb2⟩))
  have HV : VBox w w2 v := by
    rename_i hh
    exact hh.1
  have hB := hid' HV.below
  have zz : w2.cell? ⟨w.heap.size, 2, none⟩ = some (.int .i64 v.off) := HV.cells 2
  clear V0 z0 z1 z2 z3 z4 z5 HV
  generalize plW v 0 (v.cols - 1) = A at CI ⊢
  generalize plW v (v.rows - 1) 0 = B at CI ⊢
  generalize plW v (v.rows - 1) (v.cols - 1) = D at CI ⊢
  by_cases K : (0 ≤ v.off ∧ v.off < n) ∧ (0 ≤ A ∧ A < n) ∧ (0 ≤ B ∧ B < n) ∧ (0 ≤ D ∧ D < n)
  · have E := cor_yes (CI.out.2 K)
    clear CI
    obtain ⟨⟨k1, k2⟩, ⟨k3, k4⟩, ⟨k5, k6⟩, k7, k8⟩ := K
    have t1 := mn4_yes k1 k3 k5 k7
    have t2 := mx4_yes k2 k4 k6 k8
    go_wp2
    go_ret
    exact ⟨ret_bool E.out, hB.out⟩
  · have E := cor_no (fun h => K (CI.out.1 h))
    clear CI
    by_cases K2 : (0 ≤ v.off ∧ 0 ≤ A) ∧ 0 ≤ B ∧ 0 ≤ D
    · obtain ⟨⟨k1, k2⟩, k3, k4⟩ := K2
      have t1 := mn4_yes k1 k2 k3 k4
      have t2 : decide (mx4 v.off A B D < n) = false := mx4_no (by omega)
      clear K
      go_wp2
      go_ret
      exact ⟨ret_bool E.out, hB.out⟩
    · have t1 : decide (0 ≤ mn4 v.off A B D) = false := mn4_no (by omega)
      clear K K2
      go_wp2
      go_ret
      exact ⟨ret_bool E.out, hB.out⟩

end Go.Proofs.Ytpoejdkfhofimaa

/- The statement of 'Plans': its walk out of the callees' contracts, and the row's step. -/
import Derived.Test.YtpoejdkfhofimaaRPlan3
import Derived.Test.YtpoejdkfhofimaaSame
import Derived.Test.YtpoejdkfhofimaaOpen
namespace Go.Proofs.Ytpoejdkfhofimaa.plans
open Go.ChangeShapes Go.WideShapes Go.ChangeAt Go.RowKit
set_option linter.unusedVariables false

theorem own : ownKnob Try.prog.godebug = none := by kernel_rfl
theorem laidOut : laidOutB Try.prog = true := by kernel_rfl

set_option maxHeartbeats 2000000 in
theorem walk (j : Jb) (w : World) :
    Calls Try.prog 7 #[.agg (jcells j)] w fun e w' => e = .returned (.bool true) ∧ Below w.heap.size w w' := by
  go_enter Try.func7, Try.ntmps7
  go_wp2_with (first | (refine wpList_load_mid rfl 36 (.tmp 1) rfl w.heap.size 0 (by rfl) (jcells j).toList _ H1.out.range Try.underlying36 rfl (jinfo j) ?_) | (refine wpList_load_mid rfl 36 (.tmp 1) rfl w.heap.size 0 (by rfl) (jcells j).toList _ (jrange w j _) Try.underlying36 rfl (jinfo j) ?_) | (go_at_call 19; refine (Plan_any j _).mono ?_; rintro e w1 ⟨v1, n1, rfl, own1, hb1⟩; have H1 := hid' (JBox.new (j := j) rfl hb1); clear hb1) | (go_at_call 20; refine (RPlan_any j _).mono ?_; rintro e w2 ⟨v2, n2, rfl, own2, hb2⟩; have H2 := hid' (H1.out.on hb2); have O1 := hid' (own_below own1 hb2); have O2 := hid' own2; clear own1 own2 hb2) | (go_at_call 21; refine (same_any _ _ _ _ _ _ (planT j) _ O1.out O2.out).mono ?_; rintro e w3 ⟨rfl, hb3⟩; have H3 := hid' (H2.out.on hb3); clear hb3) | (go_at_call 11; go_in))
  go_ret
  exact ⟨rfl, H3.out.below⟩

set_option maxRecDepth 100000 in
theorem lifted (os : Os) (started : os.Started) (H : Type) (enc : TypeId × Value → H) :
    ReturnsInHanded {} Try.checked os 7 .any (Rows.plansSpec.pre6 enc Try.prog Try.f7 Rows.plansRow.domain false) (Rows.plansSpec.post enc Try.prog Try.f7 false true false false) := by
  refine returnsInHanded_of_change (C := Try.checked) own started (by kernel_rfl) Try.func7
    (ChangeSpec.witness6 (enc := enc) (C := Try.checked) false ⟨#[], #[.agg #[.int .i64 0, .int .i64 0, .int .i64 0, .int .i64 0, .int .i64 0, .int .i64 0, .bool false, .int .i64 0, .int .i64 0, .int .i64 0, .int .i64 0, .int .i64 0, .bool false, .int .i64 0, .int .i64 0, .int .i64 0, .int .i64 0, .int .i64 0, .int .i64 0, .int .i64 0, .bool false, .int .i64 0, .int .i64 0, .slice none 0 0, .int .i64 0, .slice none 0 0, .slice none 0 0, .int .i64 0, .int .i64 0, .int .i64 0, .int .i64 0, .int .i64 0, .int .i64 0, .int .i64 0]], []⟩ 8 (by kernel_rfl) (by kernel_rfl) (by kernel_rfl) (by kernel_rfl)) ?_
  intro W base args ds gs before hval0 hW hcnd _
  have hval : ∀ (j : Nat) t v, Try.f7.params[j]? = some t → args[j]? = some v → Value.okWide Try.prog W .any base t v := hval0
  have hW' := hW
  obtain ⟨p, q, hA0, hV, rfl, hfz, hnd⟩ := hW
  have hA : DataW.TrodAll enc Try.prog W 0 (fun _ => true) true Try.f7.params.toList args.toList ds p := hA0
  rw [Try.params7] at hA hval
  obtain ⟨v0, vs0, d0, ds0, p0, q0, hargs, rfl, rfl, h0, r0⟩ := trodAll_cons hA
  obtain ⟨rfl, rfl, rfl⟩ := trodAll_nil r0
  obtain rfl : args = #[v0] := by cases args; simp_all
  obtain ⟨rfl, rfl⟩ := trodVars_none hV
  obtain ⟨j, zb, zf, zs, rfl, hj, b1, b2, b3⟩ := open_job (hval 0 36 v0 rfl rfl) h0
  have lt0 : ∀ x ∈ p0, x.block < W.heap.size := by obtain ⟨m, hm⟩ := h0; exact DataW.trod_lt m _ _ _ hm
  clear hA0 hval0
  refine (walk j W).mono fun e W' ⟨he, bel⟩ => ?_
  subst he
  exact ⟨_, rfl, _, _, _, [], _, [], hW', trodAll_mk1 (shut_bool Try.underlying4 _), (trodAll_cons_mk (Below.trod laidOut (by kernel_rfl) (of_decide_eq_true (by kernel_rfl)) h0 bel lt0) trodAll_mk0), rfl, bel.frame _, fun h => by cases h⟩

theorem over : Rows.plansRow.holds Try.pinned (OpenSpec.ofChange Rows.plansSpec) :=
  OpenClaim.holds_of_wide 7 Try.f7 rfl rfl rfl rfl rfl rfl rfl ⟨rfl, rfl, rfl, rfl, rfl⟩ rfl rfl rfl rfl rfl (by kernel_rfl) Try.func7 (by kernel_rfl)
    (of_decide_eq_true (by kernel_rfl)) (by unfold Func.isWrapper; first | (rw [if_pos (by decide +kernel)]; kernel_rfl) | (rw [if_neg (by decide +kernel)]; exact ⟨rfl, rfl⟩))
    (fun os started H enc _ => lifted os started H enc)

theorem proved : Rows.PlansSaid := over
#print axioms proved
end Go.Proofs.Ytpoejdkfhofimaa.plans

/- The statement of 'Checks': its walk out of the callees' contracts, and the row's step. -/
import Derived.Test.YtpoejdkfhofimaaCheck
import Derived.Test.YtpoejdkfhofimaaRCheck2
namespace Go.Proofs.Ytpoejdkfhofimaa.checks
open Go.ChangeShapes Go.WideShapes Go.ChangeAt Go.RowKit
set_option linter.unusedVariables false

theorem own : ownKnob Try.prog.godebug = none := by kernel_rfl
theorem laidOut : laidOutB Try.prog = true := by kernel_rfl

set_option maxHeartbeats 2000000 in
theorem walk (j : Jb) (l r o : Sl) (zl zr zb zf zs : List Int) (w : World) (ha : Args w j l r o zl zr zb zf zs) :
    Calls Try.prog 6 #[.agg (jcells j), .slice l.a l.len l.cap, .slice r.a r.len r.cap, .slice o.a o.len o.cap] w fun e w' => e = .returned (.bool true) ∧ Below w.heap.size w w' := by
  have HA := hid' ha
  clear ha
  have G : ∃ X : Int, (∀ w', Below w.heap.size w w' → Calls Try.prog 17 #[.agg (jcells j), .slice l.a l.len l.cap, .slice r.a r.len r.cap, .slice o.a o.len o.cap] w' fun e w'' => e = .returned (.int .i64 X) ∧ Below w'.heap.size w' w'') ∧
      (∀ w', Below w.heap.size w w' → Calls Try.prog 18 #[.agg (jcells j), .slice l.a l.len l.cap, .slice r.a r.len r.cap, .slice o.a o.len o.cap] w' fun e w'' => e = .returned (.int .i64 X) ∧ Below w'.heap.size w' w'') :=
    ⟨_, fun w' hb => Check_any j l r o zl zr zb zf zs w' (HA.out.below hb), fun w' hb => RCheck_any j l r o zl zr zb zf zs w' (HA.out.below hb)⟩
  obtain ⟨X, g1, g2⟩ := G
  have G1 := hid' g1
  have G2 := hid' g2
  clear g1 g2 HA
  go_enter Try.func6, Try.ntmps6
  go_wp2_with (first | (refine wpList_load_mid rfl 36 (.tmp 4) rfl w.heap.size 0 (by rfl) (jcells j).toList _ H.out.range Try.underlying36 rfl (jinfo j) ?_) | (refine wpList_load_mid rfl 36 (.tmp 4) rfl w.heap.size 0 (by rfl) (jcells j).toList _ (jrange w j _) Try.underlying36 rfl (jinfo j) ?_) | (go_at_call 17; refine (G1.out _ ((Below.refl _ _).alloc (Nat.le_refl _) _)).mono ?_; clear G1; rintro e w1 ⟨rfl, hb⟩; have H := hid' (JBox.new (j := j) rfl hb); clear hb) | (go_at_call 18; refine (G2.out _ H.out.below).mono ?_; rintro e w2 ⟨rfl, hb⟩; have H2 := hid' (H.out.on hb); clear hb) | (go_at_call 11; go_in))
  go_ret
  exact ⟨ret_bool (by simp), H2.out.below⟩

set_option maxRecDepth 100000 in
theorem lifted (os : Os) (started : os.Started) (H : Type) (enc : TypeId × Value → H) :
    ReturnsInHanded {} Try.checked os 6 .any (Rows.checksSpec.pre6 enc Try.prog Try.f6 Rows.checksRow.domain false) (Rows.checksSpec.post enc Try.prog Try.f6 false true false false) := by
  refine returnsInHanded_of_change (C := Try.checked) own started (by kernel_rfl) Try.func6
    (ChangeSpec.witness6 (enc := enc) (C := Try.checked) false ⟨#[], #[.agg #[.int .i64 0, .int .i64 0, .int .i64 0, .int .i64 0, .int .i64 0, .int .i64 0, .bool false, .int .i64 0, .int .i64 0, .int .i64 0, .int .i64 0, .int .i64 0, .bool false, .int .i64 0, .int .i64 0, .int .i64 0, .int .i64 0, .int .i64 0, .int .i64 0, .int .i64 0, .bool false, .int .i64 0, .int .i64 0, .slice none 0 0, .int .i64 0, .slice none 0 0, .slice none 0 0, .int .i64 0, .int .i64 0, .int .i64 0, .int .i64 0, .int .i64 0, .int .i64 0, .int .i64 0], .slice none 0 0, .slice none 0 0, .slice none 0 0], []⟩ 8 (by kernel_rfl) (by kernel_rfl) (by kernel_rfl) (by kernel_rfl)) ?_
  intro W base args ds gs before hval0 hW hcnd _
  have hval : ∀ (j : Nat) t v, Try.f6.params[j]? = some t → args[j]? = some v → Value.okWide Try.prog W .any base t v := hval0
  have hW' := hW
  obtain ⟨p, q, hA0, hV, rfl, hfz, hnd⟩ := hW
  have hA : DataW.TrodAll enc Try.prog W 0 (fun _ => true) true Try.f6.params.toList args.toList ds p := hA0
  rw [Try.params6] at hA hval
  obtain ⟨v0, vs0, d0, ds0, p0, q0, hargs, rfl, rfl, h0, r0⟩ := trodAll_cons hA
  obtain ⟨v1, vs1, d1, ds1, p1, q1, rfl, rfl, rfl, h1, r1⟩ := trodAll_cons r0
  obtain ⟨v2, vs2, d2, ds2, p2, q2, rfl, rfl, rfl, h2, r2⟩ := trodAll_cons r1
  obtain ⟨v3, vs3, d3, ds3, p3, q3, rfl, rfl, rfl, h3, r3⟩ := trodAll_cons r2
  obtain ⟨rfl, rfl, rfl⟩ := trodAll_nil r3
  obtain rfl : args = #[v0, v1, v2, v3] := by cases args; simp_all
  obtain ⟨rfl, rfl⟩ := trodVars_none hV
  obtain ⟨j, zb, zf, zs, rfl, hj, b1, b2, b3⟩ := open_job (hval 0 36 v0 rfl rfl) h0
  obtain ⟨a1, len1, cap1, rfl⟩ := okWide_slice Try.underlying34 (hval 1 34 v1 rfl rfl)
  obtain ⟨a2, len2, cap2, rfl⟩ := okWide_slice Try.underlying34 (hval 2 34 v2 rfl rfl)
  obtain ⟨a3, len3, cap3, rfl⟩ := okWide_slice Try.underlying34 (hval 3 34 v3 rfl rfl)
  have lt0 : ∀ x ∈ p0, x.block < W.heap.size := by obtain ⟨m, hm⟩ := h0; exact DataW.trod_lt m _ _ _ hm
  have lt1 : ∀ x ∈ p1, x.block < W.heap.size := by obtain ⟨m, hm⟩ := h1; exact DataW.trod_lt m _ _ _ hm
  have lt2 : ∀ x ∈ p2, x.block < W.heap.size := by obtain ⟨m, hm⟩ := h2; exact DataW.trod_lt m _ _ _ hm
  have lt3 : ∀ x ∈ p3, x.block < W.heap.size := by obtain ⟨m, hm⟩ := h3; exact DataW.trod_lt m _ _ _ hm
  have k1 := h1
  have k2 := h2
  obtain ⟨m1, f1⟩ := k1
  obtain ⟨m2, f2⟩ := k2
  obtain ⟨zl, rl⟩ := open_row (s := ⟨a1, len1, cap1⟩) f1
  obtain ⟨zr, rr⟩ := open_row (s := ⟨a2, len2, cap2⟩) f2
  clear hA0 hval0
  refine (walk j ⟨a1, len1, cap1⟩ ⟨a2, len2, cap2⟩ ⟨a3, len3, cap3⟩ zl zr zb zf zs W ⟨hj, rl, rr, b1, b2, b3⟩).mono fun e W' ⟨he, bel⟩ => ?_
  subst he
  exact ⟨_, rfl, _, _, _, [], _, [], hW', trodAll_mk1 (shut_bool Try.underlying4 _), (trodAll_cons_mk (Below.trod laidOut (by kernel_rfl) (of_decide_eq_true (by kernel_rfl)) h0 bel lt0) (trodAll_cons_mk (Below.trod laidOut (by kernel_rfl) (of_decide_eq_true (by kernel_rfl)) h1 bel lt1) (trodAll_cons_mk (Below.trod laidOut (by kernel_rfl) (of_decide_eq_true (by kernel_rfl)) h2 bel lt2) (trodAll_cons_mk (Below.trod laidOut (by kernel_rfl) (of_decide_eq_true (by kernel_rfl)) h3 bel lt3) trodAll_mk0)))), rfl, bel.frame _, fun h => by cases h⟩

theorem over : Rows.checksRow.holds Try.pinned (OpenSpec.ofChange Rows.checksSpec) :=
  OpenClaim.holds_of_wide 6 Try.f6 rfl rfl rfl rfl rfl rfl rfl ⟨rfl, rfl, rfl, rfl, rfl⟩ rfl rfl rfl rfl rfl (by kernel_rfl) Try.func6 (by kernel_rfl)
    (of_decide_eq_true (by kernel_rfl)) (by unfold Func.isWrapper; first | (rw [if_pos (by decide +kernel)]; kernel_rfl) | (rw [if_neg (by decide +kernel)]; exact ⟨rfl, rfl⟩))
    (fun os started H enc _ => lifted os started H enc)

theorem proved : Rows.ChecksSaid := over
#print axioms proved
end Go.Proofs.Ytpoejdkfhofimaa.checks

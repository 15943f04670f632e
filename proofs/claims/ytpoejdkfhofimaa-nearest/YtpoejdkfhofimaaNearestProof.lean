/- The statement of 'Nearest': its walk out of the callees' contracts, and the row's step. -/
import Derived.Test.YtpoejdkfhofimaaNear
import Derived.WalkKit
import Derived.ProofKit
import Derived.OpenShut
namespace Go.Proofs.Ytpoejdkfhofimaa.nearest
open Go.ChangeShapes Go.WideShapes Go.ChangeAt Go.RowKit
set_option linter.unusedVariables false      -- a walk need not use every 'w<i>' (that an integer argument fits its kind)

theorem hid {p : Prop} (h : p) : Hid p := h
theorem own : ownKnob Try.prog.godebug = none := by kernel_rfl

/-! ### STEP 1: THE WALK: the Go text returns true. 'Grown w w'': the world has at most new blocks (Derived/RowKit3.lean). Part the cases AHEAD of 'go_enter' where a test parts the walk; take each callee by a contract of your own. -/
set_option maxHeartbeats 1000000 in
theorem walk (a0 : Int) (a1 : Int) (a2 : Int) (w0 : (Lit.int .i64 a0).wf = true) (w1 : (Lit.int .i64 a1).wf = true) (w2 : (Lit.int .i64 a2).wf = true) (w : World) :
    Calls Try.prog 5 #[.int .i64 a0, .int .i64 a1, .int .i64 a2] w fun e w' => e = .returned (.bool true) ∧ Grown w w' := by
  obtain ⟨c1, c2⟩ := bounds_i64 w0
  obtain ⟨c3, c4⟩ := bounds_i64 w1
  obtain ⟨c5, c6⟩ := bounds_i64 w2
  go_enter Try.func5, Try.ntmps5
  go_wp2_with (go_at_call 14; refine (rounding_any _).mono ?_; rintro e w' ⟨rfl, rfl⟩)
  refine (pick32 _ _ (by omega) (by omega)).mono ?_
  rintro e w' ⟨x, x1, x2, rfl, rfl⟩
  go_wp2_with fail
  refine (pick32 _ _ (by omega) (by omega)).mono ?_
  rintro e w' ⟨y, y1, y2, rfl, rfl⟩
  go_wp2_with fail
  refine (pick5 _ _ (by omega) (by omega)).mono ?_
  rintro e w' ⟨k, k1, rfl, rfl⟩
  clear c1 c2 c3 c4 c5 c6 w0 w1 w2
  obtain ⟨m1, m2⟩ := Pl.mul_bd x y x1 (by omega) y1 (by omega)
  have H1 := hid (High_ok x y w' x1 x2 y1 y2)
  have H2 := hid (Shifted_ok x k w' x1 x2 (by omega) (by omega))
  have H3 := hid (half_any (x * y) w' m1 m2)
  obtain ⟨p1, p2⟩ := Pl.pow_bd k k1
  have hn := hid (near_bd x k k1)
  have ways : ((x == -2147483648) = true ∧ (y == -2147483648) = true ∧ 2 * (x * y % 2147483648) < 2147483648 ∧ (Pl.hiP (x * y) == x * y / 2147483648 + -1) = true)
      ∨ ((x == -2147483648) = true ∧ (y == -2147483648) = false ∧ 2147483648 ≤ 2 * (x * y % 2147483648) ∧ (Pl.hiP (x * y) == x * y / 2147483648 + 1) = true)
      ∨ ((x == -2147483648) = true ∧ (y == -2147483648) = false ∧ 2 * (x * y % 2147483648) < 2147483648 ∧ (Pl.hiP (x * y) == x * y / 2147483648) = true)
      ∨ ((x == -2147483648) = false ∧ True ∧ 2147483648 ≤ 2 * (x * y % 2147483648) ∧ (Pl.hiP (x * y) == x * y / 2147483648 + 1) = true)
      ∨ ((x == -2147483648) = false ∧ True ∧ 2 * (x * y % 2147483648) < 2147483648 ∧ (Pl.hiP (x * y) == x * y / 2147483648) = true) := by
    simp only [beq_iff_eq, beq_eq_false_iff_ne]
    by_cases c : x = -2147483648 ∧ y = -2147483648
    · obtain ⟨rfl, rfl⟩ := c
      exact .inl ⟨rfl, rfl, by decide, by decide⟩
    · have e := hi_near x y x1 x2 y1 y2 c
      by_cases d : 2147483648 ≤ 2 * (x * y % 2147483648)
      · by_cases cx : x = -2147483648
        · exact .inr (.inl ⟨cx, by omega, d, by omega⟩)
        · exact .inr (.inr (.inr (.inl ⟨cx, trivial, d, by omega⟩)))
      · by_cases cx : x = -2147483648
        · exact .inr (.inr (.inl ⟨cx, by omega, by omega, by omega⟩))
        · exact .inr (.inr (.inr (.inr ⟨cx, trivial, by omega, by omega⟩)))
  rcases ways with ⟨t1, t2, t3, t4⟩ | ⟨t1, t2, t3, t4⟩ | ⟨t1, t2, t3, t4⟩ | ⟨t1, t2, t3, t4⟩ | ⟨t1, t2, t3, t4⟩
  all_goals
    go_wp2_with (first | (go_at_call 9; refine H1.out.mono ?_; rintro e w' ⟨rfl, rfl⟩) | (go_at_call 12; refine H2.out.mono ?_; rintro e w' ⟨rfl, rfl⟩) | (go_at_call 16; refine H3.out.mono ?_; rintro e w' ⟨rfl, rfl⟩))
    go_loop [18, 19] (fun b i => ∃ n : Nat, n ≤ k ∧ i = .int .i64 n ∧ b = .int .i64 (2 ^ n)) (fun _ i => k - (intOf i).toNat)
    case atStart => exact ⟨0, Nat.zero_le _, rfl, rfl⟩
    case round =>
      obtain ⟨n, hk, rfl, rfl⟩ := hrel
      by_cases hlt : n < k
      · obtain ⟨q1, q2⟩ := Pl.pow_bd n (by omega)
        have HS : Hid ((2 : Int) ^ (n + 1) = 2 * 2 ^ n) := by unfold Hid; rw [Int.pow_succ]; omega
        go_wp2
        go_round
        case rel => exact ⟨n + 1, by omega, by go_num, by rw [HS.out]⟩
        case measure => simp [intOf]; omega
      · have e : n = k := by omega
        subst e
        obtain ⟨n1, n2, n3, n4⟩ := hn.out
        by_cases f1 : 2 * (x - Pl.shP x n * 2 ^ n) = 2 ^ n
        · have xn := n3 f1
          have g1 : (2 * (x - Pl.shP x n * 2 ^ n) == 2 ^ n) = true := beq_iff_eq.2 f1
          have g2 : (2 ^ n : Int) ≤ 2 * (x - Pl.shP x n * 2 ^ n) := by omega
          clear f1 n3 n4 H1 H2 H3 hn
          go_wp2
          all_goals (go_ret; exact ⟨rfl, Grown.refl _⟩)
        · by_cases f2 : 2 * (x - Pl.shP x n * 2 ^ n) = -(2 ^ n)
          · have xn := n4 f2
            have g1 : (2 * (x - Pl.shP x n * 2 ^ n) == -(2 ^ n)) = true := beq_iff_eq.2 f2
            have g2 : 2 * (x - Pl.shP x n * 2 ^ n) ≤ -(2 ^ n : Int) := by omega
            have g3 : decide (-(2 ^ n : Int) < 2 * (x - Pl.shP x n * 2 ^ n)) = false := by simpa using g2
            clear f1 f2 n3 n4 H1 H2 H3 hn
            go_wp2
            all_goals (go_ret; exact ⟨rfl, Grown.refl _⟩)
          · have g1 : 2 * (x - Pl.shP x n * 2 ^ n) < 2 ^ n := by omega
            have g2 : -(2 ^ n : Int) < 2 * (x - Pl.shP x n * 2 ^ n) := by omega
            clear f1 f2 n3 n4 H1 H2 H3 hn
            go_wp2
            go_ret
            exact ⟨rfl, Grown.refl _⟩

/-! ### THE ROW's STEP: WRITTEN OUT: LEAVE IT -/
set_option maxRecDepth 100000 in
theorem lifted (os : Os) (started : os.Started) (H : Type) (enc : TypeId × Value → H) :
    ReturnsInHanded {} Try.checked os 5 .any (Rows.nearestSpec.pre6 enc Try.prog Try.f5 Rows.nearestRow.domain false) (Rows.nearestSpec.post enc Try.prog Try.f5 false true false false) := by
  refine returnsInHanded_of_change (C := Try.checked) own started (by kernel_rfl) Try.func5
    (ChangeSpec.witness6 (enc := enc) (C := Try.checked) false ⟨#[], #[.int .i64 0, .int .i64 0, .int .i64 0], []⟩ 8 (by kernel_rfl) (by kernel_rfl) (by kernel_rfl) (by kernel_rfl)) ?_
  intro W base args ds gs before hval0 hW hcnd _
  have hval : ∀ (j : Nat) t v, Try.f5.params[j]? = some t → args[j]? = some v → Value.okWide Try.prog W .any base t v := hval0
  have hW' := hW
  obtain ⟨p, q, hA0, hV, rfl, hfz, hnd⟩ := hW
  have hA : DataW.TrodAll enc Try.prog W 0 (fun _ => true) true Try.f5.params.toList args.toList ds p := hA0
  rw [Try.params5] at hA hval
  obtain ⟨v0, vs0, d0, ds0, p0, q0, hargs, rfl, rfl, h0, r0⟩ := trodAll_cons hA
  obtain ⟨v1, vs1, d1, ds1, p1, q1, rfl, rfl, rfl, h1, r1⟩ := trodAll_cons r0
  obtain ⟨v2, vs2, d2, ds2, p2, q2, rfl, rfl, rfl, h2, r2⟩ := trodAll_cons r1
  obtain ⟨rfl, rfl, rfl⟩ := trodAll_nil r2
  obtain rfl : args = #[v0, v1, v2] := by cases args; simp_all
  obtain ⟨rfl, rfl⟩ := trodVars_none hV
  obtain ⟨a0, rfl, rfl, rfl, w0⟩ := open_int Try.underlying3 (hval 0 3 v0 rfl rfl) h0
  obtain ⟨a1, rfl, rfl, rfl, w1⟩ := open_int Try.underlying3 (hval 1 3 v1 rfl rfl) h1
  obtain ⟨a2, rfl, rfl, rfl, w2⟩ := open_int Try.underlying3 (hval 2 3 v2 rfl rfl) h2
  clear hA0 hval0
  simp only [List.append_nil] at hW'
  refine (walk a0 a1 a2 w0 w1 w2 W).mono fun e W' ⟨he, hg⟩ => ?_
  subst he
  exact ⟨_, rfl, post_of_same (pa := []) (pv := []) hW' (fun _ _ _ => (trodAll_cons_mk (shut_bool Try.underlying4 _) trodAll_mk0)) (fun sp _ => (trodAll_cons_mk (shut_int Try.underlying3 w0) (trodAll_cons_mk (shut_int Try.underlying3 w1) (trodAll_cons_mk (shut_int Try.underlying3 w2) trodAll_mk0)))) (fun _ _ => rfl) rfl
    (hg.frame _) hg.2.1 (ok_one (by kernel_rfl) rfl (okWide_bool_mk Try.underlying4 _))⟩

theorem over : Rows.nearestRow.holds Try.pinned (OpenSpec.ofChange Rows.nearestSpec) :=
  OpenClaim.holds_of_wide 5 Try.f5 rfl rfl rfl rfl rfl rfl rfl ⟨rfl, rfl, rfl, rfl, rfl⟩ rfl rfl rfl rfl rfl (by kernel_rfl) Try.func5 (by kernel_rfl)
    (of_decide_eq_true (by kernel_rfl)) (by unfold Func.isWrapper; first | (rw [if_pos (by decide +kernel)]; kernel_rfl) | (rw [if_neg (by decide +kernel)]; exact ⟨rfl, rfl⟩))
    (fun os started H enc _ => lifted os started H enc)

/-- ████ THE STATEMENT ████ -/
theorem proved : Rows.NearestSaid :=
  over
#print axioms proved
end Go.Proofs.Ytpoejdkfhofimaa.nearest

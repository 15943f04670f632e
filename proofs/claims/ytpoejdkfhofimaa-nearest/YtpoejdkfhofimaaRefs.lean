import Derived.Test.YtpoejdkfhofimaaNums
namespace Go.Proofs.Ytpoejdkfhofimaa
open Go.RowKit

/-! ### the document's answer -/
set_option maxHeartbeats 400000 in
theorem rcut_any (x l h : Int) (w : World) (h1 : l = -2147483648) (h2 : h = 2147483647) :
    Calls Try.prog 44 #[.int .i64 x, .int .i64 l, .int .i64 h] w fun e w' => e = .returned (.int .i64 (Pl.clampI x)) ∧ w' = w := by
  subst h1; subst h2
  by_cases c1 : x < -2147483648
  · have e1 : Hid (Pl.clampI x = -2147483648) := by unfold Hid; unfold Pl.clampI; rw [if_pos c1]
    go_enter Try.func44, Try.ntmps44
    go_wp2
    go_ret
    exact ⟨ret_int (by rw [e1.out]), rfl⟩
  · by_cases c2 : 2147483647 < x
    · have e1 : Hid (Pl.clampI x = 2147483647) := by unfold Hid; unfold Pl.clampI; rw [if_neg c1, if_pos c2]
      go_enter Try.func44, Try.ntmps44
      go_wp2
      go_ret
      exact ⟨ret_int (by rw [e1.out]), rfl⟩
    · have e1 : Hid (Pl.clampI x = x) := by unfold Hid; unfold Pl.clampI; rw [if_neg c1, if_neg c2]
      go_enter Try.func44, Try.ntmps44
      go_wp2
      go_ret
      exact ⟨ret_int (by rw [e1.out]), rfl⟩

theorem hi_of (p q : Int) (h : (p + 1073741824) / 2147483648 = q) : Pl.clampI q = Pl.hiP p := by
  unfold Pl.hiP; rw [h]

set_option maxHeartbeats 400000 in
theorem rhigh_any (a b : Int) (w : World) (a1 : -2147483648 ≤ a) (a2 : a ≤ 2147483647) (b1 : -2147483648 ≤ b) (b2 : b ≤ 2147483647) :
    Calls Try.prog 26 #[.int .i64 a, .int .i64 b] w fun e w' => e = .returned (.int .i64 (Pl.hiP (a * b))) ∧ w' = w := by
  obtain ⟨h1, h2⟩ := Pl.mul_bd a b a1 (by omega) b1 (by omega)
  by_cases c : 0 ≤ a * b
  · by_cases c2 : 2147483648 ≤ 2 * ((a * b) % 2147483648)
    · go_enter Try.func26, Try.ntmps26
      go_wp2_with (go_at_call 44; refine (rcut_any _ _ _ _ rfl rfl).mono ?_; rintro e w' ⟨rfl, rfl⟩)
      go_ret
      exact ⟨ret_int (hi_of _ _ (by omega)), rfl⟩
    · go_enter Try.func26, Try.ntmps26
      go_wp2_with (go_at_call 44; refine (rcut_any _ _ _ _ rfl rfl).mono ?_; rintro e w' ⟨rfl, rfl⟩)
      go_ret
      exact ⟨ret_int (hi_of _ _ (by omega)), rfl⟩
  · have f1 := Pl.tdiv_neg_form (a * b) 2147483648 (by omega)
    have f2 := Pl.tmod_neg_form (a * b) 2147483648 (by omega)
    generalize ht : (a * b).tdiv 2147483648 = t at f1
    generalize hm : (a * b).tmod 2147483648 = m at f2
    have ht' : Hid ((a * b).tdiv 2147483648 = t) := ht
    have hm' : Hid ((a * b).tmod 2147483648 = m) := hm
    have k1 : -2147483648 ≤ (a * b).tdiv 2147483648 ∧ (a * b).tdiv 2147483648 ≤ 0 := by rw [ht]; omega
    have k2 : -2147483648 < (a * b).tmod 2147483648 ∧ (a * b).tmod 2147483648 ≤ 0 := by rw [hm]; omega
    have F1 : Hid (t = -((-(a * b)) / 2147483648)) := f1
    have F2 : Hid (m = -((-(a * b)) % 2147483648)) := f2
    obtain ⟨k3, k4⟩ := k1
    obtain ⟨k5, k6⟩ := k2
    clear ht hm f1 f2
    by_cases c1 : (a * b).tmod 2147483648 < 0
    · by_cases c2 : 2147483648 ≤ 2 * ((a * b).tmod 2147483648 + 2147483648)
      · go_enter Try.func26, Try.ntmps26
        go_wp2_with (go_at_call 44; refine (rcut_any _ _ _ _ rfl rfl).mono ?_; rintro e w' ⟨rfl, rfl⟩)
        go_ret
        refine ⟨ret_int (hi_of _ _ ?_), rfl⟩
        have := ht'.out; have := hm'.out; have := F1.out; have := F2.out
        omega
      · go_enter Try.func26, Try.ntmps26
        go_wp2_with (go_at_call 44; refine (rcut_any _ _ _ _ rfl rfl).mono ?_; rintro e w' ⟨rfl, rfl⟩)
        go_ret
        refine ⟨ret_int (hi_of _ _ ?_), rfl⟩
        have := ht'.out; have := hm'.out; have := F1.out; have := F2.out
        omega
    · go_enter Try.func26, Try.ntmps26
      go_wp2_with (go_at_call 44; refine (rcut_any _ _ _ _ rfl rfl).mono ?_; rintro e w' ⟨rfl, rfl⟩)
      go_ret
      refine ⟨ret_int (hi_of _ _ ?_), rfl⟩
      have := ht'.out; have := hm'.out; have := F1.out; have := F2.out
      omega

def is32 (x : Int) : Bool := decide (-2147483648 ≤ x ∧ x ≤ 2147483647)
theorem is32_yes {x : Int} (h1 : -2147483648 ≤ x) (h2 : x ≤ 2147483647) : is32 x = true := by unfold is32; simp; omega
theorem is32_no {x : Int} (h : x < -2147483648 ∨ 2147483647 < x) : is32 x = false := by unfold is32; simp; omega
theorem is32_bd {x : Int} (h : is32 x = true) : -2147483648 ≤ x ∧ x ≤ 2147483647 := by unfold is32 at h; simpa using h
theorem is32_out {x : Int} (h : is32 x = false) : x < -2147483648 ∨ 2147483647 < x := by unfold is32 at h; simp at h; omega


set_option maxHeartbeats 400000 in
theorem r16 (x : Int) (w : World) : Calls Try.prog 25 #[.int .i64 x] w fun e w' => e = .returned (.bool (is32 x)) ∧ w' = w := by
  by_cases c1 : x < -2147483648
  · have H : Hid (is32 x = false) := is32_no (.inl c1)
    go_enter Try.func25, Try.ntmps25
    go_wp2
    go_ret
    exact ⟨ret_bool (by rw [H.out]), rfl⟩
  · by_cases c2 : x < 2147483648
    · have H : Hid (is32 x = true) := is32_yes (by omega) (by omega)
      have d : decide (x < 2147483648) = true := by simpa using c2
      go_enter Try.func25, Try.ntmps25
      go_wp2
      go_ret
      exact ⟨ret_bool (by rw [H.out]), rfl⟩
    · have H : Hid (is32 x = false) := is32_no (.inr (by omega))
      have d : decide (x < 2147483648) = false := by simpa using c2
      go_enter Try.func25, Try.ntmps25
      go_wp2
      go_ret
      exact ⟨ret_bool (by rw [H.out]), rfl⟩

set_option maxHeartbeats 400000 in
theorem RHigh_ok (a b : Int) (w : World) (a1 : -2147483648 ≤ a) (a2 : a ≤ 2147483647) (b1 : -2147483648 ≤ b) (b2 : b ≤ 2147483647) :
    Calls Try.prog 10 #[.int .i64 a, .int .i64 b] w fun e w' => e = .returned (.tuple #[.int .i64 (Pl.hiP (a * b)), .int .i64 0]) ∧ w' = w := by
  have k1 := is32_yes a1 a2
  have k2 := is32_yes b1 b2
  go_enter Try.func10, Try.ntmps10
  go_wp2_with (first | (go_at_call 26; refine (rhigh_any _ _ _ (by omega) (by omega) (by omega) (by omega)).mono ?_; rintro e w' ⟨rfl, rfl⟩) | (go_at_call 25; refine (r16 _ _).mono ?_; rintro e w' ⟨rfl, rfl⟩))
  go_ret2
  exact ⟨rfl, rfl⟩

set_option maxHeartbeats 400000 in
theorem RHigh_no (a b : Int) (w : World) (h : is32 a = false ∨ is32 b = false) :
    Calls Try.prog 10 #[.int .i64 a, .int .i64 b] w fun e w' => e = .returned (.tuple #[.int .i64 0, .int .i64 6]) ∧ w' = w := by
  cases k1 : is32 a
  · clear h
    go_enter Try.func10, Try.ntmps10
    go_wp2_with (go_at_call 25; refine (r16 _ _).mono ?_; rintro e w' ⟨rfl, rfl⟩)
    go_ret2
    exact ⟨rfl, rfl⟩
  · cases k2 : is32 b
    · clear h
      go_enter Try.func10, Try.ntmps10
      go_wp2_with (go_at_call 25; refine (r16 _ _).mono ?_; rintro e w' ⟨rfl, rfl⟩)
      go_ret2
      exact ⟨rfl, rfl⟩
    · simp [k1, k2] at h

/-! ### the document's shift: a loop that doubles -/
theorem sh_neg (x : Int) (e : Nat) (q : Int) (h : e ≤ 31) (c : x < 0) (h1 : 2 ^ e ≤ 2 * ((-x) % 2 ^ e) → q = (-x) / 2 ^ e + 1) (h2 : 2 * ((-x) % 2 ^ e) < 2 ^ e → q = (-x) / 2 ^ e) : -q = Pl.shP x e := by
  unfold Pl.shP; rw [if_pos c, Pl.shU_rest _ _ h]
  split
  · rw [h1 ‹_›]
  · rw [h2 (by omega)]
theorem sh_pos (x : Int) (e : Nat) (q : Int) (h : e ≤ 31) (c : ¬ x < 0) (h1 : 2 ^ e ≤ 2 * (x % 2 ^ e) → q = x / 2 ^ e + 1) (h2 : 2 * (x % 2 ^ e) < 2 ^ e → q = x / 2 ^ e) : q = Pl.shP x e := by
  unfold Pl.shP; rw [if_neg c, Pl.shU_rest _ _ h]
  split
  · rw [h1 ‹_›]
  · rw [h2 (by omega)]
theorem div_bd (x p : Int) (h0 : 0 ≤ x) (h1 : x ≤ 2147483648) (h : 1 ≤ p) : 0 ≤ x / p ∧ x / p ≤ 2147483648 := by
  refine ⟨Int.ediv_nonneg h0 (by omega), ?_⟩
  exact Int.le_trans (Int.ediv_le_self p h0) h1
theorem mod_bd (x p : Int) (h : 1 ≤ p) (h2 : p ≤ 2147483648) : 0 ≤ x % p ∧ x % p ≤ 2147483648 :=
  ⟨Int.emod_nonneg _ (by omega), by have := Int.emod_lt_of_pos x (b := p) (by omega); omega⟩

set_option maxHeartbeats 400000 in
theorem rshifted_any (x : Int) (n : Nat) (w : World) (h1 : -2147483648 ≤ x) (h2 : x ≤ 2147483647) (h4 : n ≤ 31) :
    Calls Try.prog 29 #[.int .i64 x, .int .i64 n] w fun r w' => r = .returned (.int .i64 (Pl.shP x n)) ∧ w' = w := by
  obtain ⟨p1, p2⟩ := Pl.pow_bd n h4
  go_enter Try.func29, Try.ntmps29
  go_wp2
  go_loop [5, 6] (fun b i => ∃ k : Nat, k ≤ n ∧ i = .int .i64 k ∧ b = .int .i64 (2 ^ k)) (fun _ i => n - (intOf i).toNat)
  case atStart => exact ⟨0, Nat.zero_le _, rfl, rfl⟩
  case round =>
    obtain ⟨k, hk, rfl, rfl⟩ := hrel
    by_cases hlt : k < n
    · obtain ⟨q1, q2⟩ := Pl.pow_bd k (by omega)
      have HS : Hid ((2 : Int) ^ (k + 1) = 2 * 2 ^ k) := by unfold Hid; rw [Int.pow_succ]; omega
      go_wp2
      go_round
      case rel => exact ⟨k + 1, by omega, by go_num, by rw [HS.out]⟩
      case measure => simp [intOf]; omega
    · have e : k = n := by omega
      subst e
      by_cases c : x < 0
      · obtain ⟨y, rfl⟩ : ∃ y, x = -y := ⟨-x, by omega⟩
        obtain ⟨d1, d2⟩ := div_bd y (2 ^ k) (by omega) (by omega) p1
        obtain ⟨m1, m2⟩ := mod_bd y (2 ^ k) p1 p2
        have c0 : 0 < y := by omega
        have C : Hid (-y < 0) := c
        have NN : Hid (- -y = y) := Int.neg_neg y
        by_cases c2 : 2 ^ k ≤ 2 * (y % 2 ^ k)
        · go_wp2
          go_ret
          exact ⟨ret_int (sh_neg (-y) k _ h4 C.out (by intro _; rw [NN.out]) (by rw [NN.out]; intro; omega)), rfl⟩
        · go_wp2
          go_ret
          exact ⟨ret_int (sh_neg (-y) k _ h4 C.out (by rw [NN.out]; intro; omega) (by intro _; rw [NN.out])), rfl⟩
      · obtain ⟨d1, d2⟩ := div_bd x (2 ^ k) (by omega) (by omega) p1
        obtain ⟨m1, m2⟩ := mod_bd x (2 ^ k) p1 p2
        by_cases c2 : 2 ^ k ≤ 2 * (x % 2 ^ k)
        · go_wp2
          go_ret
          exact ⟨ret_int (sh_pos x k _ h4 (by omega) (by intro _; rfl) (by intro; omega)), rfl⟩
        · go_wp2
          go_ret
          exact ⟨ret_int (sh_pos x k _ h4 (by omega) (by intro; omega) (by intro; rfl)), rfl⟩

set_option maxHeartbeats 400000 in
theorem RShifted_ok (x : Int) (e : Int) (w : World) (a1 : -2147483648 ≤ x) (a2 : x ≤ 2147483647) (b1 : 0 ≤ e) (b2 : e ≤ 31) :
    Calls Try.prog 13 #[.int .i64 x, .int .i64 e] w fun r w' => r = .returned (.tuple #[.int .i64 (Pl.shP x e.toNat), .int .i64 0]) ∧ w' = w := by
  have k1 := is32_yes a1 a2
  obtain ⟨n, rfl⟩ := Int.eq_ofNat_of_zero_le b1
  rw [Int.toNat_natCast]
  go_enter Try.func13, Try.ntmps13
  go_wp2_with (first | (go_at_call 29; refine (rshifted_any _ _ _ (by omega) (by omega) (by omega)).mono ?_; rintro e w' ⟨rfl, rfl⟩) | (go_at_call 25; refine (r16 _ _).mono ?_; rintro e w' ⟨rfl, rfl⟩))
  go_ret2
  exact ⟨rfl, rfl⟩

set_option maxHeartbeats 400000 in
theorem RShifted_no (x : Int) (e : Int) (w : World) (k1 : is32 x = false) :
    Calls Try.prog 13 #[.int .i64 x, .int .i64 e] w fun r w' => r = .returned (.tuple #[.int .i64 0, .int .i64 6]) ∧ w' = w := by
  go_enter Try.func13, Try.ntmps13
  go_wp2_with (go_at_call 25; refine (r16 _ _).mono ?_; rintro e w' ⟨rfl, rfl⟩)
  go_ret2
  exact ⟨rfl, rfl⟩

set_option maxHeartbeats 400000 in
theorem RShifted_by (x : Int) (e : Int) (w : World) (k1 : is32 x = true) (h : e < 0 ∨ 31 < e) :
    Calls Try.prog 13 #[.int .i64 x, .int .i64 e] w fun r w' => r = .returned (.tuple #[.int .i64 0, .int .i64 8]) ∧ w' = w := by
  rcases h with h | h
  · go_enter Try.func13, Try.ntmps13
    go_wp2_with (go_at_call 25; refine (r16 _ _).mono ?_; rintro e w' ⟨rfl, rfl⟩)
    go_ret2
    exact ⟨rfl, rfl⟩
  · go_enter Try.func13, Try.ntmps13
    go_wp2_with (go_at_call 25; refine (r16 _ _).mono ?_; rintro e w' ⟨rfl, rfl⟩)
    go_ret2
    exact ⟨rfl, rfl⟩

end Go.Proofs.Ytpoejdkfhofimaa

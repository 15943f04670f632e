import Derived.Test.YtpoejdkfhofimaaLists
namespace Go.Proofs.Ytpoejdkfhofimaa
open Go.RowKit Classical

set_option maxHeartbeats 2000000 in
theorem numbers_any (s : Sl) (zs : List Int) (n lo hi : Int) (w : World) (h : RowIs w s zs) :
    Calls Try.prog 34 #[.slice s.a s.len s.cap, .int .i64 n, .int .i64 lo, .int .i64 hi] w fun e w' => e = .returned (.bool (dc (numP lo hi zs n))) ∧ w' = w := by
  have hm : s.len ≤ 9223372036854775807 := h.max
  have hl := h.len
  by_cases h0 : 0 < s.len
  · obtain ⟨b, off, e, hc⟩ := h.lies h0
    have C := hid' hc
    rw [e]
    clear hc e h
    go_enter Try.func34, Try.ntmps34
    go_wp2
    go_loop [9] (fun i => ∃ k : Nat, i = .int .i64 k ∧ k ≤ s.len ∧ Hid (∀ i : Nat, i < k → lo ≤ zs.getD i 0 ∧ zs.getD i 0 ≤ hi)) (fun i => s.len - (intOf i).toNat)
    case atStart => exact ⟨0, rfl, by omega, fun i hi => by omega⟩
    case round =>
      obtain ⟨k, rfl, hk, HI⟩ := hrel
      by_cases hlt : k < s.len
      · have ce := C.out k hlt
        have HN : Hid (¬ (lo ≤ zs.getD k 0 ∧ zs.getD k 0 ≤ hi) → dc (numP lo hi zs n) = false) := fun hx => dc_no (fun hp => listP_not (by omega) hx hp.1)
        have HY : Hid ((lo ≤ zs.getD k 0 ∧ zs.getD k 0 ≤ hi) → ∀ i : Nat, i < k + 1 → lo ≤ zs.getD i 0 ∧ zs.getD i 0 ≤ hi) := fun hx i hi => by
          by_cases e : i = k
          · subst e; exact hx
          · exact HI.out i (by omega)
        revert ce HN HY
        generalize zs.getD k 0 = x
        intro ce HN HY
        by_cases c1 : x < lo
        · have E : Hid (dc (numP lo hi zs n) = false) := HN.out (by omega)
          go_wp2
          go_ret
          exact ⟨ret_bool E.out.symm, rfl⟩
        · by_cases c2 : hi < x
          · have E : Hid (dc (numP lo hi zs n) = false) := HN.out (by omega)
            go_wp2
            go_ret
            exact ⟨ret_bool E.out.symm, rfl⟩
          · have E := HY.out (by omega)
            have E' := hid' E
            clear E
            go_wp2
            go_round
            case rel => exact ⟨k + 1, by go_num, by omega, E'⟩
            case measure => simp [intOf]; omega
      · have E : Hid (((s.len : Int) == n) = dc (numP lo hi zs n)) := by
          have hp : listP lo hi zs := listP_all (fun i hi => HI.out i (by omega))
          unfold Hid
          by_cases c : (s.len : Int) = n
          · rw [dc_yes ⟨hp, by omega⟩]; simpa using c
          · rw [dc_no (fun hp => c (by have := hp.2; omega))]; simpa using c
        go_wp2
        go_ret
        exact ⟨ret_bool E.out, rfl⟩
  · have e0 : s.len = 0 := by omega
    have E : Hid (((0 : Int) == n) = dc (numP lo hi zs n)) := by
      have hp : listP lo hi zs := listP_all (fun i hi => by omega)
      unfold Hid
      by_cases c : (0 : Int) = n
      · rw [dc_yes ⟨hp, by omega⟩]; simpa using c
      · rw [dc_no (fun hp => c (by have := hp.2; omega))]; simpa using c
    rw [e0]
    clear h hl hm h0 e0
    go_enter Try.func34, Try.ntmps34
    go_wp2
    go_loop [9] (fun i => i = .int .i64 0) (fun i => 0)
    case atStart => rfl
    case round =>
      obtain rfl := hrel
      go_wp2
      go_ret
      exact ⟨ret_bool E.out, rfl⟩

end Go.Proofs.Ytpoejdkfhofimaa

import Derived.Test.YtpoejdkfhofimaaPlan2
import Derived.Test.YtpoejdkfhofimaaPlainV
import Derived.Test.YtpoejdkfhofimaaOpen
namespace Go.Proofs.Ytpoejdkfhofimaa
open Go.RowKit Classical

/-- all numbers of a list lie from lo to hi; and they are so many -/
def listP (lo hi : Int) (zs : List Int) : Prop := ∀ x ∈ zs, lo ≤ x ∧ x ≤ hi
def numP (lo hi : Int) (zs : List Int) (n : Int) : Prop := listP lo hi zs ∧ (zs.length : Int) = n

theorem listP_all {lo hi : Int} {zs : List Int} (h : ∀ i : Nat, i < zs.length → lo ≤ zs.getD i 0 ∧ zs.getD i 0 ≤ hi) : listP lo hi zs := by
  intro x hx
  obtain ⟨i, hi, rfl⟩ := List.getElem_of_mem hx
  have := h i hi
  rwa [List.getD_eq_getElem?_getD, List.getElem?_eq_getElem hi] at this
theorem listP_not {lo hi : Int} {zs : List Int} {k : Nat} (hk : k < zs.length) (h : ¬ (lo ≤ zs.getD k 0 ∧ zs.getD k 0 ≤ hi)) : ¬ listP lo hi zs := fun hp => by
  apply h
  rw [List.getD_eq_getElem?_getD, List.getElem?_eq_getElem hk]
  exact hp _ (List.getElem_mem hk)
theorem getD_ok {zs : List Int} {k : Nat} (hk : k < zs.length) (h : ∀ x ∈ zs, ok64 x) : ok64 (zs.getD k 0) := by
  rw [List.getD_eq_getElem?_getD, List.getElem?_eq_getElem hk]; exact h _ (List.getElem_mem hk)
theorem RowIs.below {w w' : World} {s : Sl} {zs : List Int} (h : RowIs w s zs) (hb : Below w.heap.size w w') : RowIs w' s zs := by
  refine ⟨h.len, h.max, h.fits, fun h0 => ?_⟩
  obtain ⟨b, off, e, hc⟩ := h.lies h0
  refine ⟨b, off, e, fun i hi => ?_⟩
  have hlt := World.block_lt_of_cell? w _ (hc i hi)
  rw [hb.cell (p := ⟨b, off + i, none⟩) hlt]
  exact hc i hi

set_option maxHeartbeats 2000000 in
theorem all32_any (s : Sl) (zs : List Int) (w : World) (h : RowIs w s zs) :
    Calls Try.prog 73 #[.slice s.a s.len s.cap, .func (.func 23) #[] #[]] w fun e w' => e = .returned (.bool (dc (listP (-2147483648) 2147483647 zs))) ∧ w' = w := by
  have hm : s.len ≤ 9223372036854775807 := h.max
  have hl := h.len
  have F := hid' (fun k hk => getD_ok (k := k) hk h.fits)
  by_cases h0 : 0 < s.len
  · obtain ⟨b, off, e, hc⟩ := h.lies h0
    have C := hid' hc
    rw [e]
    clear hc e h
    go_enter Try.func73, Try.ntmps73
    go_wp2
    go_loop [9] (fun i => ∃ k : Nat, i = .int .i64 k ∧ k ≤ s.len ∧ Hid (∀ i : Nat, i < k → (-2147483648) ≤ zs.getD i 0 ∧ zs.getD i 0 ≤ 2147483647)) (fun i => s.len - (intOf i).toNat)
    case atStart => exact ⟨0, rfl, by omega, fun i hi => by omega⟩
    case round =>
      obtain ⟨k, rfl, hk, HI⟩ := hrel
      by_cases hlt : k < s.len
      · have ce := C.out k hlt
        obtain ⟨f1, f2⟩ : ok64 (zs.getD k 0) := F.out k (by omega)
        have HN : Hid (¬ ((-2147483648) ≤ zs.getD k 0 ∧ zs.getD k 0 ≤ 2147483647) → dc (listP (-2147483648) 2147483647 zs) = false) := fun hx => dc_no (listP_not (by omega) hx)
        have HY : Hid (((-2147483648) ≤ zs.getD k 0 ∧ zs.getD k 0 ≤ 2147483647) → ∀ i : Nat, i < k + 1 → (-2147483648) ≤ zs.getD i 0 ∧ zs.getD i 0 ≤ 2147483647) := fun hx i hi => by
          by_cases e : i = k
          · subst e; exact hx
          · exact HI.out i (by omega)
        revert ce f1 f2 HN HY
        generalize zs.getD k 0 = x
        intro ce f1 f2 HN HY
        cases q : Pl.inB (-2147483648) 2147483647 x
        · have E : Hid (dc (listP (-2147483648) 2147483647 zs) = false) := HN.out (fun hx => by rw [Pl.inB_yes hx.1 hx.2] at q; cases q)
          go_wp2_with (first | (go_at_call 23; refine (is32_any _ _ (by omega) (by omega)).mono ?_; rintro e w' ⟨rfl, rfl⟩) | go_in)
          go_ret
          exact ⟨ret_bool E.out.symm, rfl⟩
        · have E := HY.out (Pl.inB_iff.1 q)
          have E' := hid' E
          clear E
          go_wp2_with (first | (go_at_call 23; refine (is32_any _ _ (by omega) (by omega)).mono ?_; rintro e w' ⟨rfl, rfl⟩) | go_in)
          go_round
          case rel => exact ⟨k + 1, by go_num, by omega, E'⟩
          case measure => simp [intOf]; omega
      · have E : Hid (dc (listP (-2147483648) 2147483647 zs) = true) := dc_yes (listP_all (fun i hi => HI.out i (by omega)))
        go_wp2
        go_ret
        exact ⟨ret_bool E.out.symm, rfl⟩
  · have e0 : s.len = 0 := by omega
    have E : Hid (dc (listP (-2147483648) 2147483647 zs) = true) := dc_yes (listP_all (fun i hi => by omega))
    rw [e0]
    clear h F hl hm h0 e0
    go_enter Try.func73, Try.ntmps73
    go_wp2
    go_loop [9] (fun i => i = .int .i64 0) (fun i => 0)
    case atStart => rfl
    case round =>
      obtain rfl := hrel
      go_wp2
      go_ret
      exact ⟨ret_bool E.out.symm, rfl⟩

set_option maxHeartbeats 2000000 in
theorem allSh_any (s : Sl) (zs : List Int) (w : World) (h : RowIs w s zs) :
    Calls Try.prog 73 #[.slice s.a s.len s.cap, .func (.func 27) #[] #[]] w fun e w' => e = .returned (.bool (dc (listP 0 31 zs))) ∧ w' = w := by
  have hm : s.len ≤ 9223372036854775807 := h.max
  have hl := h.len
  have F := hid' (fun k hk => getD_ok (k := k) hk h.fits)
  by_cases h0 : 0 < s.len
  · obtain ⟨b, off, e, hc⟩ := h.lies h0
    have C := hid' hc
    rw [e]
    clear hc e h
    go_enter Try.func73, Try.ntmps73
    go_wp2
    go_loop [9] (fun i => ∃ k : Nat, i = .int .i64 k ∧ k ≤ s.len ∧ Hid (∀ i : Nat, i < k → 0 ≤ zs.getD i 0 ∧ zs.getD i 0 ≤ 31)) (fun i => s.len - (intOf i).toNat)
    case atStart => exact ⟨0, rfl, by omega, fun i hi => by omega⟩
    case round =>
      obtain ⟨k, rfl, hk, HI⟩ := hrel
      by_cases hlt : k < s.len
      · have ce := C.out k hlt
        obtain ⟨f1, f2⟩ : ok64 (zs.getD k 0) := F.out k (by omega)
        have HN : Hid (¬ (0 ≤ zs.getD k 0 ∧ zs.getD k 0 ≤ 31) → dc (listP 0 31 zs) = false) := fun hx => dc_no (listP_not (by omega) hx)
        have HY : Hid ((0 ≤ zs.getD k 0 ∧ zs.getD k 0 ≤ 31) → ∀ i : Nat, i < k + 1 → 0 ≤ zs.getD i 0 ∧ zs.getD i 0 ≤ 31) := fun hx i hi => by
          by_cases e : i = k
          · subst e; exact hx
          · exact HI.out i (by omega)
        revert ce f1 f2 HN HY
        generalize zs.getD k 0 = x
        intro ce f1 f2 HN HY
        cases q : Pl.inB 0 31 x
        · have E : Hid (dc (listP 0 31 zs) = false) := HN.out (fun hx => by rw [Pl.inB_yes hx.1 hx.2] at q; cases q)
          go_wp2_with (first | (go_at_call 27; refine (isShift_any _ _).mono ?_; rintro e w' ⟨rfl, rfl⟩) | go_in)
          go_ret
          exact ⟨ret_bool E.out.symm, rfl⟩
        · have E := HY.out (Pl.inB_iff.1 q)
          have E' := hid' E
          clear E
          go_wp2_with (first | (go_at_call 27; refine (isShift_any _ _).mono ?_; rintro e w' ⟨rfl, rfl⟩) | go_in)
          go_round
          case rel => exact ⟨k + 1, by go_num, by omega, E'⟩
          case measure => simp [intOf]; omega
      · have E : Hid (dc (listP 0 31 zs) = true) := dc_yes (listP_all (fun i hi => HI.out i (by omega)))
        go_wp2
        go_ret
        exact ⟨ret_bool E.out.symm, rfl⟩
  · have e0 : s.len = 0 := by omega
    have E : Hid (dc (listP 0 31 zs) = true) := dc_yes (listP_all (fun i hi => by omega))
    rw [e0]
    clear h F hl hm h0 e0
    go_enter Try.func73, Try.ntmps73
    go_wp2
    go_loop [9] (fun i => i = .int .i64 0) (fun i => 0)
    case atStart => rfl
    case round =>
      obtain rfl := hrel
      go_wp2
      go_ret
      exact ⟨ret_bool E.out.symm, rfl⟩

set_option maxHeartbeats 1000000 in
theorem are32_any (s : Sl) (zs : List Int) (w : World) (h : RowIs w s zs) :
    Calls Try.prog 66 #[.slice s.a s.len s.cap] w fun e w' => e = .returned (.bool (dc (listP (-2147483648) 2147483647 zs))) ∧ w' = w := by
  have N := hid' (all32_any s zs w h)
  clear h
  go_enter Try.func66, Try.ntmps66
  go_wp2_with (first | (go_at_call 73; refine N.out.mono ?_; rintro e w' ⟨rfl, rfl⟩) | go_in)
  go_ret
  exact ⟨rfl, rfl⟩

end Go.Proofs.Ytpoejdkfhofimaa

import Derived.Test.YtpoejdkfhofimaaJob
import Derived.Test.YtpoejdkfhofimaaTileL
import Derived.Deep.LoopGhost
import Derived.Deep.AppendLies
namespace Go.Proofs.Ytpoejdkfhofimaa
open Go.RowKit Tl

theorem Try.info45 : (Try.prog.info? 45).map (fun i => (i.zero, i.size, i.bytes)) = some (some (.agg #[.int .i64 0, .int .i64 0, .int .i64 0, .int .i64 0]), 4, 32) := by kernel_rfl

theorem hid' {p : Prop} (h : p) : Hid p := h
abbrev ints (zs : List Int) : List Value := zs.map (Value.int .i64)

set_option maxHeartbeats 2000000 in
theorem tiles_any (R C br bc : Nat) (w : World) (hR : R ≤ 24) (hC : C ≤ 24) (h1 : 1 ≤ br) (h2 : br ≤ 64) (h3 : 1 ≤ bc) (h4 : bc ≤ 64) :
    Calls Try.prog 40 #[.int .i64 R, .int .i64 C, .int .i64 br, .int .i64 bc] w fun e w' => ∃ v n, e = .returned v ∧ w'.ownsRow w.heap.size 45 4 v n (ints (allT R C br bc R)) ∧ Below w.heap.size w w' := by
  obtain ⟨i0, hi, hz0, hz1, hz2⟩ := info_parts Try.info45
  go_enter Try.func40, Try.ntmps40
  go_wp2
  go_loopw [9, 10] (fun v i wr => ∃ (m n : Nat), i = .int .i64 m ∧ m ≤ 100 ∧ m % br = 0 ∧ n ≤ min m R * 24 ∧ wr.ownsRow w.heap.size 45 4 v n (ints (allT R C br bc (min m R))) ∧ Below w.heap.size w wr) (fun _ i _ => 200 - (intOf i).toNat)
  case atStart => exact ⟨0, 0, rfl, by omega, by simp, by omega, by simpa [allT, every_zero] using World.ownsRow_nil _ _ _ _, Below.refl _ _⟩
  case round =>
    obtain ⟨m, n, rfl, hm, hmod, hn, hown, hB⟩ := hrel
    by_cases hlt : m < R
    · go_wp2
      go_loopw [9, 11] (fun v i wr' => ∃ (k n' : Nat), i = .int .i64 k ∧ k ≤ 100 ∧ k % bc = 0 ∧ n' ≤ m * 24 + min k C ∧ wr'.ownsRow w.heap.size 45 4 v n' (ints (allT R C br bc m ++ rowT R C br bc m (min k C))) ∧ Below w.heap.size w wr') (fun _ i _ => 200 - (intOf i).toNat)
      case atStart =>
        refine ⟨0, n, rfl, by omega, by simp, by omega, ?_, hB⟩
        rw [Nat.min_eq_left (by omega)] at hown
        rw [Nat.zero_min, rowT_zero, List.append_nil]
        exact hown
      case round =>
        obtain ⟨k, n', rfl, hk, hkm, hn', hown', hB'⟩ := hrel
        by_cases hlt2 : k < C
        · rw [Nat.min_eq_left (by omega)] at hown' hn'
          have ST := hid' (rowT_step R C br bc m k hkm (by omega) hlt2)
          have hmm : (k + bc) % bc = 0 := by rw [Nat.add_mod_right]; exact hkm
          by_cases a1 : (R : Int) < (m : Int) + br <;> by_cases a2 : (C : Int) < (k : Int) + bc
          all_goals
            go_wp2_with (first | (at_builtin; refine wpList_append_lies _ rfl _ _ 39 rfl w.heap.size 45 i0 _ 4 32 Try.underlying39 hi hz0 hz1 hz2 rfl (by decide) _ n' _ (by rfl) (hown'.alloc _) ⟨wr.heap.size, 0, none⟩ 1 1 _ (by rfl) (by rfl) (World.news_of_block (heap_alloc_new wr _)) (by simp [Value.oneCell']) (by omega) (by unfold maxLen; omega) (by omega) (by have := hB'.size; simp; omega) (wr.heap.size + 1) (by simp) ?_; intro g cap w1 hown1 hgrow hat hlt') | go_in)
            have hB1 := (hB'.alloc hB'.size _).grown hgrow (by have := hB'.size; simp; omega) (fun k e => (hown'.lt k e).1)
            clear hgrow hat hlt'
            go_roundw
            case rel =>
              refine ⟨k + bc, n' + 1, by go_num, by omega, hmm, by omega, ?_, hB1⟩
              rw [ST.out]
              first | (simpa [tile, mn_gt a1, mn_gt a2] using hown1) | (simpa [tile, mn_gt a1, mn_le a2] using hown1) | (simpa [tile, mn_le a1, mn_gt a2] using hown1) | (simpa [tile, mn_le a1, mn_le a2] using hown1)
            case measure => simp [intOf]; omega
        · have ST := hid' (allT_step R C br bc m hmod (by omega) hlt)
          rw [Nat.min_eq_right (by omega)] at hown' hn'
          have hmm : (m + br) % br = 0 := by rw [Nat.add_mod_right]; exact hmod
          go_wp2
          go_roundw
          case rel => exact ⟨m + br, n', by go_num, by omega, hmm, by omega, by rw [ST.out]; exact hown', hB'⟩
          case measure => simp [intOf]; omega
    · go_wp2
      go_ret
      rw [Nat.min_eq_right (by omega)] at hown
      exact ⟨_, n, rfl, hown, hB⟩

end Go.Proofs.Ytpoejdkfhofimaa

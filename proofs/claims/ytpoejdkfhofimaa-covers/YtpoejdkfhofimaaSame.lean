import Derived.Test.YtpoejdkfhofimaaPlan2
import Derived.Deep.QuietTactic
import Derived.BigQuiet
import Derived.WalkSmall
namespace Go.Proofs.Ytpoejdkfhofimaa
open Go.RowKit Tl

theorem own_forms {w : World} {b s n : Nat} {e : TypeId} {v : Value} {xs : List Value} (h : w.ownsRow b e s v n xs) : ∃ a c, v = .slice a n c ∧ (0 < n → ∃ g, a = some ⟨g, 0, none⟩) := by
  rcases h.2 with ⟨rfl, rfl⟩ | ⟨g, cap, _, hv, _⟩
  · exact ⟨none, 0, rfl, fun h => by omega⟩
  · exact ⟨_, cap, hv, fun _ => ⟨g, rfl⟩⟩

theorem own_max {w : World} {b s n : Nat} {e : TypeId} {v : Value} {xs : List Value} (h : w.ownsRow b e s v n xs) : n ≤ 9223372036854775807 := by
  rcases h.2 with ⟨_, rfl⟩ | ⟨g, cap, _, _, _, _, h1, h2, _⟩
  · exact Nat.zero_le _
  · unfold maxLen at h2; omega
theorem own_below {w w' : World} {b s n : Nat} {e : TypeId} {v : Value} {xs : List Value} (h : w.ownsRow b e s v n xs) (hb : Below w.heap.size w w') : w'.ownsRow b e s v n xs := by
  refine ⟨h.1, ?_⟩
  rcases h.2 with h2 | ⟨g, cap, cur, e1, e2, hg, r⟩
  · exact .inl h2
  · exact .inr ⟨g, cap, cur, e1, e2, (hb.block g (Array.getElem?_eq_some_iff.1 hg).1).trans hg, r⟩

theorem ints_at' (zs : List Int) (j : Nat) (h : j < zs.length) : (ints zs)[j]? = some (.int .i64 (zs.getD j 0)) := by
  simp [ints, List.getElem?_map, List.getElem?_eq_getElem h, List.getD_eq_getElem?_getD]

set_option maxHeartbeats 2000000 in
theorem same_any (v1 v2 : Value) (n n' b1 b2 : Nat) (zs : List Int) (w : World) (h1 : w.ownsRow b1 45 4 v1 n (ints zs)) (h2 : w.ownsRow b2 45 4 v2 n' (ints zs)) :
    Calls Try.prog 21 #[v1, v2] w fun e w' => e = .returned (.bool true) ∧ Below w.heap.size w w' := by
  have hn : n ≤ 9223372036854775807 := own_max h1
  have l1 := h1.1
  have l2 := h2.1
  simp only [ints, List.length_map] at l1 l2
  obtain rfl : n' = n := by omega
  obtain ⟨a1, c1, rfl, f1⟩ := own_forms h1
  obtain ⟨a2, c2, rfl, f2⟩ := own_forms h2
  by_cases hz : 0 < n'
  · obtain ⟨g1, rfl⟩ := f1 hz
    obtain ⟨g2, rfl⟩ := f2 hz
    have C1 : Hid (∀ i, i < n' * 4 → w.cell? ⟨g1, i, none⟩ = some (.int .i64 (zs.getD i 0))) := fun i hi => by rw [h1.cellAt i hi, ints_at' zs i (by omega)]
    have C2 : Hid (∀ i, i < n' * 4 → w.cell? ⟨g2, i, none⟩ = some (.int .i64 (zs.getD i 0))) := fun i hi => by rw [h2.cellAt i hi, ints_at' zs i (by omega)]
    clear f1 f2 h1 h2 l1 l2
    go_enter Try.func21, Try.ntmps21
    go_wp2
    go_loopw [5] (fun i wr => ∃ k : Nat, i = .int .i64 k ∧ k ≤ n' ∧ Hid (∀ x, wr.cell? x = w.cell? x) ∧ Hid (Below w.heap.size w wr)) (fun i _ => n' - (intOf i).toNat)
    case atStart => exact ⟨0, rfl, by omega, fun _ => rfl, Below.refl _ _⟩
    case round =>
      obtain ⟨k, rfl, hk, HC, HB⟩ := hrel
      by_cases hlt : k < n'
      · have p0 : wr.cell? ⟨g1, k * 4, none⟩ = some (.int .i64 (zs.getD (k * 4) 0)) := by rw [HC.out, C1.out _ (by omega)]
        have p1 : wr.cell? ⟨g1, k * 4 + 1, none⟩ = some (.int .i64 (zs.getD (k * 4 + 1) 0)) := by rw [HC.out, C1.out _ (by omega)]
        have p2 : wr.cell? ⟨g1, k * 4 + 2, none⟩ = some (.int .i64 (zs.getD (k * 4 + 2) 0)) := by rw [HC.out, C1.out _ (by omega)]
        have p3 : wr.cell? ⟨g1, k * 4 + 3, none⟩ = some (.int .i64 (zs.getD (k * 4 + 3) 0)) := by rw [HC.out, C1.out _ (by omega)]
        have q0 : wr.cell? ⟨g2, k * 4, none⟩ = some (.int .i64 (zs.getD (k * 4) 0)) := by rw [HC.out, C2.out _ (by omega)]
        have q1 : wr.cell? ⟨g2, k * 4 + 1, none⟩ = some (.int .i64 (zs.getD (k * 4 + 1) 0)) := by rw [HC.out, C2.out _ (by omega)]
        have q2 : wr.cell? ⟨g2, k * 4 + 2, none⟩ = some (.int .i64 (zs.getD (k * 4 + 2) 0)) := by rw [HC.out, C2.out _ (by omega)]
        have q3 : wr.cell? ⟨g2, k * 4 + 3, none⟩ = some (.int .i64 (zs.getD (k * 4 + 3) 0)) := by rw [HC.out, C2.out _ (by omega)]
        have i0 : (0 : Int) ≤ (k : Int) := Int.natCast_nonneg _
        have i1 : (k : Int) < (n' : Int) := by omega
        go_wp2
        go_quiet (fail)
        go_wp2
        go_roundw
        case rel => exact ⟨k + 1, by go_num, by omega, fun x => by rw [World.cell?_drewN]; exact HC.out x, below_drewN HB.out nq⟩
        case measure => simp [intOf]; omega
      · go_wp2
        go_ret
        exact ⟨rfl, HB.out⟩
  · obtain rfl : n' = 0 := by omega
    clear f1 f2 h1 h2 l1 l2 hz
    go_enter Try.func21, Try.ntmps21
    go_wp2
    go_loopw [5] (fun i wr => i = .int .i64 0 ∧ wr = w) (fun i _ => 0)
    case atStart => exact ⟨rfl, rfl⟩
    case round =>
      obtain ⟨rfl, rfl⟩ := hrel
      go_wp2
      go_ret
      exact ⟨rfl, Below.refl _ _⟩

end Go.Proofs.Ytpoejdkfhofimaa

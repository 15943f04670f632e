import Derived.Test.YtpoejdkfhofimaaRViews2
import Derived.Test.YtpoejdkfhofimaaSame
import Derived.Test.YtpoejdkfhofimaaShares
namespace Go.Proofs.Ytpoejdkfhofimaa
open Go.RowKit Classical

theorem Try.info3 : (Try.prog.info? 3).map (fun i => (i.zero, i.size, i.bytes)) = some (some (.int .i64 0), 1, 8) := by kernel_rfl

/-- the places so far, as numbers -/
def upL (v : Vw) (n : Int) (C m k : Nat) : List Int := (allL v n C m ++ rowL v n m k).map (·.1)
theorem upL_succ {v : Vw} {n : Int} {C m k : Nat} (h : 0 ≤ pl v m k ∧ pl v m k < n) : upL v n C m (k + 1) = upL v n C m k ++ [pl v m k] := by
  unfold upL; rw [rowL_succ, plo_one h, ← List.append_assoc, List.map_append]; rfl
theorem upL_len (v : Vw) (n : Int) (C m k : Nat) (hm : m ≤ 24) (hC : C ≤ 24) (hk : k ≤ 24) : (upL v n C m k).length ≤ 1000 := by
  unfold upL
  have l1 := allL_len v n C m
  have l2 := rowL_len v n m k
  have l3 : m * C ≤ 24 * C := Nat.mul_le_mul_right C hm
  rw [List.length_map, List.length_append]
  omega
theorem nodup_of {n : Int} {l : List (PlS n)} (h : (l.map (·.1)).Nodup) : l.Nodup := by
  refine List.Pairwise.of_map (·.1) (fun a b hab e => hab (by rw [e])) h
theorem nodup_to {n : Int} {l : List (PlS n)} (h : l.Nodup) : (l.map (·.1)).Nodup := by
  exact List.pairwise_map.2 (h.imp (fun hab e => hab (Subtype.ext e)))
theorem nodup_snoc {l : List Int} {p : Int} (h : l.Nodup) (hp : p ∉ l) : (l ++ [p]).Nodup := by
  refine List.nodup_append.2 ⟨h, by simp, fun a ha b hb e => ?_⟩
  simp at hb; subst hb; subst e; exact hp ha
theorem not_nodup_snoc {l : List Int} {p : Int} (hp : p ∈ l) : ¬ (l ++ [p]).Nodup := fun h => (List.nodup_append.1 h).2.2 p hp p (by simp) rfl
theorem mem_getD {l : List Int} {i : Nat} (h : i < l.length) : l.getD i 0 ∈ l := by
  rw [List.getD_eq_getElem?_getD, List.getElem?_eq_getElem h]; exact List.getElem_mem h
theorem not_mem_of {l : List Int} {p : Int} (h : ∀ i : Nat, i < l.length → l.getD i 0 ≠ p) : p ∉ l := fun hp => by
  obtain ⟨i, hi, e⟩ := List.getElem_of_mem hp
  apply h i hi
  rw [List.getD_eq_getElem?_getD, List.getElem?_eq_getElem hi]; exact e

theorem VBox.grown {w0 w1 w2 : World} {v : Vw} {row : Option Nat} (h : VBox w0 w1 v) (hg : w1.grownBy w2 row) (hr : ∀ k, row = some k → w0.heap.size + 1 ≤ k) : VBox w0 w2 v := by
  refine ⟨h.below.grown hg (by have := h.size; omega) (fun k e => by have := hr k e; omega), by have := h.size; have := hg.size; omega, fun i => ?_⟩
  rw [← h.cells i]
  refine World.cell?_of_block (hg.block w0.heap.size h.size ?_)
  intro e
  have := hr _ e.symm
  omega
theorem VBox.alloc {w0 w1 : World} {v : Vw} (h : VBox w0 w1 v) (o : Obj) : VBox w0 (w1.alloc o) v := h.on ((Below.refl _ _).alloc (Nat.le_refl _) o)

set_option maxHeartbeats 4000000 in
theorem Rshared_any (v : Vw) (n : Int) (w : World) (hf : fitP v n) :
    Calls Try.prog 33 #[.agg (vcells v)] w fun e w' => e = .returned (.bool (dc (twiceP v n))) ∧ Below w.heap.size w w' := by
  obtain ⟨i0, hi, hz0, hz1, hz2⟩ := info_parts Try.info3
  obtain ⟨hn, ⟨q1, q2, q3, q4⟩, ⟨s1, s2, s3, s4⟩, hin⟩ := hf
  obtain ⟨R, hR⟩ := Int.eq_ofNat_of_zero_le q1
  obtain ⟨C, hC⟩ := Int.eq_ofNat_of_zero_le q3
  have r1 : R ≤ 24 := by omega
  have r2 : C ≤ 24 := by omega
  have EI : (twiceP v n ↔ ¬ (allL v n C R).Nodup) := by unfold twiceP; rw [hR, hC]; simp
  have EY : Hid (∀ m k : Nat, m < R → k ≤ C → ¬ (upL v n C m k).Nodup → dc (twiceP v n) = true) := fun m k hm hk hx => dc_yes (EI.2 (fun hd => hx (nodup_to (hd.sublist (upto_pre v n C R m k hm hk).sublist))))
  have EF : Hid ((allL v n C R).Nodup → dc (twiceP v n) = false) := fun hd => dc_no (fun hx => EI.1 hx hd)
  clear EI
  have HR := hid' hR
  have HC := hid' hC
  have HIn : Hid (∀ i j : Nat, i < R → j < C → 0 ≤ pl v i j ∧ pl v i j < n) := fun i j hi hj => ins hR hC hin i j hi hj
  clear hR hC hin
  go_enter Try.func33, Try.ntmps33
  go_wp2
  go_loopw [3, 4] (fun u i wr => ∃ (m N : Nat), i = .int .i64 m ∧ m ≤ R ∧ wr.ownsRow (w.heap.size + 1) 3 1 u N (ints (upL v n C m 0)) ∧ Hid ((upL v n C m 0).Nodup) ∧ Hid (VBox w wr v)) (fun _ i _ => R - (intOf i).toNat)
  case atStart => exact ⟨0, 0, rfl, by omega, World.ownsRow_nil _ _ _ _, List.nodup_nil, VBox.new rfl (Below.refl _ _)⟩
  case round =>
    obtain ⟨m, N, rfl, hm, hown, HN, HV⟩ := hrel
    have hc := HV.out.cells
    by_cases hlt : m < R
    · have hlt' : (m : Int) < v.rows := by rw [HR.out]; omega
      go_wp2
      clear hc
      go_loopw [3, 5] (fun u i wr' => ∃ (k N' : Nat), i = .int .i64 k ∧ k ≤ C ∧ wr'.ownsRow (w.heap.size + 1) 3 1 u N' (ints (upL v n C m k)) ∧ Hid ((upL v n C m k).Nodup) ∧ Hid (VBox w wr' v)) (fun _ i _ => C - (intOf i).toNat)
      case atStart => exact ⟨0, N, rfl, by omega, hown, HN, HV⟩
      case round =>
        obtain ⟨k, N', rfl, hk, hown', HN', HV'⟩ := hrel
        have hc := HV'.out.cells
        by_cases hlt2 : k < C
        · have hlt2' : (k : Int) < v.cols := by rw [HC.out]; omega
          have hp := HIn.out m k hlt hlt2
          have o0 := HIn.out 0 0 (by omega) (by omega)
          have e0 : pl v ((0 : Nat) : Int) ((0 : Nat) : Int) = v.off := pl_zero v
          rw [e0] at o0
          obtain ⟨o1, o2⟩ := o0
          have XS := hid' (upL_succ (C := C) hp)
          have XY := hid' (EY.out m (k + 1) hlt (by omega))
          rw [XS.out] at XY
          have hlen := upL_len v n C m k (by omega) r2 (by omega)
          have hl1 : (upL v n C m k).length = N' := by have := hown'.1; simp [ints] at this; omega
          obtain ⟨ad, cp, rfl, hform⟩ := own_forms hown'
          have HP := hid' hp
          clear hp e0
          go_wp2_with (first | (go_at_call 56; refine (Rplace_any v _ _ _ (by omega) (by omega) (by omega) (by omega) s1 s2 s3 s4 (by omega) (by omega)).mono ?_; rintro e w2 ⟨rfl, hb2⟩; have H2 := hid' (HV'.out.on hb2); have O2 := hid' (own_below hown' hb2); clear hb2 hc) | go_in)
          go_loop [7] (fun i => ∃ t : Nat, i = .int .i64 t ∧ t ≤ N' ∧ Hid (∀ s : Nat, s < t → (upL v n C m k).getD s 0 ≠ pl v m k)) (fun i => N' - (intOf i).toNat)
          case atStart => exact ⟨0, rfl, by omega, fun s hs => by omega⟩
          case round =>
            obtain ⟨t, rfl, ht, HI⟩ := hrel
            by_cases hlt3 : t < N'
            · obtain ⟨g, rfl⟩ := hform (by omega)
              have ce : w2.cell? ⟨g, t, none⟩ = some (.int .i64 ((upL v n C m k).getD t 0)) := by
                rw [O2.out.cellAt t (by omega), ints_at' _ t (by omega)]
              have MM : Hid ((upL v n C m k).getD t 0 ∈ upL v n C m k) := mem_getD (by omega)
              have YY : Hid ((upL v n C m k).getD t 0 ≠ pl v m k → ∀ s : Nat, s < t + 1 → (upL v n C m k).getD s 0 ≠ pl v m k) := fun hx s hs => by
                by_cases e : s = t
                · subst e; exact hx
                · exact HI.out s (by omega)
              revert ce MM YY
              generalize (upL v n C m k).getD t 0 = y
              intro ce MM YY
              by_cases e : y = pl v m k
              · have E : Hid (dc (twiceP v n) = true) := XY.out (not_nodup_snoc (e ▸ MM.out))
                have te : (y == pl v m k) = true := by simpa using e
                clear e
                go_wp2
                go_ret
                exact ⟨ret_bool E.out.symm, H2.out.below⟩
              · have E := hid' (YY.out e)
                have te : (y == pl v m k) = false := by simpa using e
                clear e
                go_wp2
                go_round
                case rel => exact ⟨t + 1, by go_num, by omega, E⟩
                case measure => simp [intOf]; omega
            · have ND := hid' (nodup_snoc HN'.out (not_mem_of (fun s hs => HI.out s (by omega))))
              rw [← XS.out] at ND
              have O2' := O2.out
              have hsz := H2.out.size
              go_wp2_with (first | (at_builtin; refine wpList_append_lies _ rfl _ _ 34 rfl (w.heap.size + 1) 3 i0 _ 1 8 Try.underlying34 hi hz0 hz1 hz2 rfl (by decide) _ N' _ (by rfl) (O2'.alloc _) ⟨w2.heap.size, 0, none⟩ 1 1 _ (by rfl) (by rfl) (World.news_of_block (heap_alloc_new w2 _)) (by simp [Value.oneCell']) (by omega) (by unfold maxLen; omega) (by omega) (by simp; omega) (w2.heap.size + 1) (by simp) ?_; intro g cap w3 hown1 hgrow hat hlt') | go_in)
              have HV3 := hid' ((H2.out.alloc _).grown hgrow (fun k e => (O2'.lt k e).1))
              clear hgrow hat hlt' O2'
              go_roundw
              case rel =>
                refine ⟨k + 1, N' + 1, by go_num, by omega, ?_, ND, HV3⟩
                rw [XS.out]
                simpa [ints] using hown1
              case measure => simp [intOf]; omega
        · have hge : ¬ (k : Int) < v.cols := by rw [HC.out]; omega
          obtain rfl : k = C := by omega
          have XE : Hid (upL v n k (m + 1) 0 = upL v n k m k) := by unfold Hid upL; rw [rowL_zero, List.append_nil, allL_succ]
          go_wp2
          go_roundw
          case rel => exact ⟨m + 1, N', by go_num, by omega, by rw [XE.out]; exact hown', by rw [XE.out]; exact HN', HV'⟩
          case measure => simp [intOf]; omega
    · have hge : ¬ (m : Int) < v.rows := by rw [HR.out]; omega
      obtain rfl : m = R := by omega
      have E : Hid (dc (twiceP v n) = false) := EF.out (nodup_of (by have := HN.out; unfold upL at this; rw [rowL_zero, List.append_nil] at this; exact this))
      go_wp2
      go_ret
      exact ⟨ret_bool E.out.symm, HV.out.below⟩

end Go.Proofs.Ytpoejdkfhofimaa

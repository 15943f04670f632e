import Derived.RangeFuncNested
import Derived.RangeFuncBound
import Derived.RangeFuncCalls
import Derived.RangeFuncLeaves
import Derived.Shelf.Abstract
import Derived.Shelf.RegionOpen
import Derived.WalkKit
import Derived.OwnWalkIn
import Derived.TacticsInMore
import Derived.LoopNIn
import Derived.LoopIn
import Derived.Test.YtpoejdkfhofimaaViews
namespace Go.Proofs.Ytpoejdkfhofimaa
open Go.RowKit Go.Shelf Classical
attribute [local go_sem] Oper.semAt_some

/-- a place that is in a buffer of n numbers -/
abbrev PlS (n : Int) := { x : Int // 0 ≤ x ∧ x < n }

theorem ins {v : Vw} {n : Int} {R C : Nat} (hR : v.rows = R) (hC : v.cols = C) (h : inside v n) (i j : Nat) (hi : i < R) (hj : j < C) : 0 ≤ pl v i j ∧ pl v i j < n :=
  h i j (by omega) (by omega) (by omega) (by omega)

/-- the place in row i and column j, as an element of a list of places; none where there is none -/
def plo (v : Vw) (n : Int) (i j : Nat) : List (PlS n) := if h : 0 ≤ pl v i j ∧ pl v i j < n then [⟨pl v i j, h⟩] else []
theorem plo_one {v : Vw} {n : Int} {i j : Nat} (h : 0 ≤ pl v i j ∧ pl v i j < n) : plo v n i j = [⟨pl v i j, h⟩] := by unfold plo; rw [dif_pos h]

/-- the places of a row up to a column; of all rows up to one -/
def rowL (v : Vw) (n : Int) (i k : Nat) : List (PlS n) := (List.range k).flatMap (plo v n i)
def allL (v : Vw) (n : Int) (C m : Nat) : List (PlS n) := (List.range m).flatMap fun i => rowL v n i C
theorem rowL_succ (v : Vw) (n : Int) (i k : Nat) : rowL v n i (k + 1) = rowL v n i k ++ plo v n i k := by unfold rowL; rw [List.range_succ, List.flatMap_append]; simp
theorem allL_succ (v : Vw) (n : Int) (C m : Nat) : allL v n C (m + 1) = allL v n C m ++ rowL v n m C := by unfold allL; rw [List.range_succ, List.flatMap_append]; simp
theorem rowL_zero (v : Vw) (n : Int) (i : Nat) : rowL v n i 0 = [] := rfl
theorem allL_zero (v : Vw) (n : Int) (C : Nat) : allL v n C 0 = [] := rfl
theorem rowL_len (v : Vw) (n : Int) (i k : Nat) : (rowL v n i k).length ≤ k := by
  induction k with
  | zero => simp [rowL_zero]
  | succ k ih =>
    rw [rowL_succ, List.length_append]
    have : (plo v n i k).length ≤ 1 := by unfold plo; split <;> simp
    omega
theorem allL_len (v : Vw) (n : Int) (C m : Nat) : (allL v n C m).length ≤ m * C := by
  induction m with
  | zero => simp [allL_zero]
  | succ m ih =>
    rw [allL_succ, List.length_append, Nat.add_mul, Nat.one_mul]
    have := rowL_len v n m C
    omega
theorem rowL_pre (v : Vw) (n : Int) (i k C : Nat) (h : k ≤ C) : rowL v n i k <+: rowL v n i C := by
  obtain ⟨t, rfl⟩ := Nat.exists_eq_add_of_le h
  clear h
  induction t with
  | zero => exact List.prefix_refl _
  | succ t ih => rw [Nat.add_succ, rowL_succ]; exact ih.trans (List.prefix_append _ _)
theorem allL_pre (v : Vw) (n : Int) (C m R : Nat) (h : m ≤ R) : allL v n C m <+: allL v n C R := by
  obtain ⟨t, rfl⟩ := Nat.exists_eq_add_of_le h
  clear h
  induction t with
  | zero => exact List.prefix_refl _
  | succ t ih => rw [Nat.add_succ, allL_succ]; exact ih.trans (List.prefix_append _ _)
theorem upto_pre (v : Vw) (n : Int) (C R m k : Nat) (hm : m < R) (hk : k ≤ C) : allL v n C m ++ rowL v n m k <+: allL v n C R := by
  have h1 : allL v n C m ++ rowL v n m k <+: allL v n C (m + 1) := by
    rw [allL_succ]; exact (List.prefix_append_right_inj _).2 (rowL_pre v n m k C hk)
  exact h1.trans (allL_pre v n C (m + 1) R hm)

/-- what a round keeps: the block in which the view lies -/
def KpB (B : Nat) (W W' : World) : Prop := W'.heap[B]? = W.heap[B]?
theorem kpB_t {B : Nat} {X Y Z : World} (h : KpB B X Y) (k : KpB B Y Z) : KpB B X Z := Eq.trans k h
theorem kpB_b {B : Nat} {w : World} (hn : B < w.heap.size) (W : World) (l : Nat) (o o' : Obj) (hl : w.heap.size ≤ l) (_ : W.heap[l]? = some o) (_ : o.isCells = false) (_ : o.isWalk = false) : KpB B W (W.putObj l o') :=
  World.putObj_heap_other (by omega)
theorem kpB_cell {B : Nat} {W W' : World} (h : KpB B W W') (i : Nat) : W'.cell? ⟨B, i, none⟩ = W.cell? ⟨B, i, none⟩ := World.cell?_of_block (a := ⟨B, i, none⟩) h
theorem below_grown {W W' : World} (h : Below W.heap.size W W') : W.grownBy W' none := ⟨h.os, h.tape, h.output, h.size, fun k hk _ => h.block k hk⟩

theorem place_pl (v : Vw) (i j : Int) (w : World) (i1 : 0 ≤ i) (i2 : i ≤ 24) (j1 : 0 ≤ j) (j2 : j ≤ 24) (a1 : -1000 ≤ v.rs) (a2 : v.rs ≤ 1000) (b1 : -1000 ≤ v.cs) (b2 : v.cs ≤ 1000) (o1 : 0 ≤ v.off) (o2 : v.off ≤ 5000) :
    Calls Try.prog 72 #[.agg (vcells v), .int .i64 i, .int .i64 j] w fun e w' => e = .returned (.int .i64 (pl v i j)) ∧ Below w.heap.size w w' := by
  have h := place_any v i j w i1 i2 j1 j2 a1 a2 b1 b2
  rw [plW_eq i1 i2 j1 j2 a1 a2 b1 b2 o1 o2] at h
  exact h

/-- the view lies in a block of this world -/
def VAt (B : Nat) (v : Vw) (W : World) : Prop := ∀ i : Nat, W.cell? ⟨B, i, none⟩ = (vcells v)[i]?
theorem VAt.lt {B : Nat} {v : Vw} {W : World} (h : VAt B v W) : B < W.heap.size := World.block_lt_of_cell? W ⟨B, 0, none⟩ (h 0)
theorem VAt.on {B : Nat} {v : Vw} {W W' : World} (h : VAt B v W) (hb : Below W.heap.size W W') : VAt B v W' := fun i => (hb.cell (p := ⟨B, i, none⟩) h.lt).trans (h i)
theorem VAt.kp {B : Nat} {v : Vw} {W W' : World} (h : VAt B v W) (hk : KpB B W W') : VAt B v W' := fun i => (kpB_cell hk i).trans (h i)

set_option maxRecDepth 100000 in
set_option maxHeartbeats 1000000 in
theorem places1_in (F : Fence) (hw : ∀ {k : Nat} {f : FuncId} {args : Array Value} {w : World} {R : Ending → World → Prop}, Calls Try.prog f args w R → CallsIn F k Try.prog f args w R) (hro : F.round = none) (hf1 : F.fn 71) (hf2 : F.fn 72) (n : Int) (v : Vw) (R C : Nat) (hR : v.rows = R) (hC : v.cols = C) (r1 : R ≤ 24) (r2 : C ≤ 24) (hn : n ≤ 5000) (a1 : -1000 ≤ v.rs) (a2 : v.rs ≤ 1000) (b1 : -1000 ≤ v.cs) (b2 : v.cs ≤ 1000) (hin : inside v n)
    (l B : Nat) (J Jx : List (PlS n) → World → Prop) (W : World) (hJ : AbidesFrom W.heap.size J)
    (hY : ∀ pre x W1, J pre W1 → pre.length < 576 → YieldAt F (5 - 1) Try.prog l #[.int .i64 x.1] W1 fun e W' =>
      (e = .returned (.bool true) ∧ J (pre ++ [x]) W' ∧ KpB B W1 W') ∨ (e = .returned (.bool false) ∧ Jx (pre ++ [x]) W'))
    (hv : ∀ i : Nat, W.cell? ⟨B, i, none⟩ = (vcells v)[i]?) (h0 : J [] W) :
    CallsIn F 5 Try.prog 71 #[.func (.yield l) #[] #[], .pointer (some ⟨B, 0, none⟩)] W fun e W' => (∃ v, e = .returned v) ∧
      ((∃ ys, ys = allL v n C R ∧ J ys W') ∨ (∃ pre, pre <+: allL v n C R ∧ Jx pre W')) := by
  refine callsIn_of_wp Try.func71 rfl hf1 ?_ hro
  simp only [Try.ntmps71, List.size_toArray, List.length_cons, List.length_nil, Nat.reduceAdd, Nat.reduceSub, Array.replicate_succ, Array.replicate_zero, List.push_toArray, List.append_toArray, List.nil_append, List.cons_append]
  have HR := hid' hR
  have HC := hid' hC
  have HIn : Hid (∀ i j : Nat, i < R → j < C → 0 ≤ pl v i j ∧ pl v i j < n) := fun i j hi hj => ins hR hC hin i j hi hj
  clear hR hC hin
  gi_wp2
  gi_loopw [7] (fun i wr => ∃ m : Nat, i = .int .i64 m ∧ m ≤ R ∧ Hid (J (allL v n C m) wr) ∧ Hid (VAt B v wr)) (fun i _ => R - (intOf i).toNat)
  case atStart => exact ⟨0, rfl, by omega, h0, hv⟩
  case round =>
    obtain ⟨m, rfl, hm, HJ, HV⟩ := hrel
    have hc : ∀ i : Nat, wr.cell? ⟨B, i, none⟩ = (vcells v)[i]? := HV.out
    by_cases hlt : m < R
    · have hlt' : (m : Int) < v.rows := by rw [HR.out]; omega
      gi_wp2
      clear hc
      gi_loopw [12] (fun i wr' => ∃ k : Nat, i = .int .i64 k ∧ k ≤ C ∧ Hid (J (allL v n C m ++ rowL v n m k) wr') ∧ Hid (VAt B v wr')) (fun i _ => C - (intOf i).toNat)
      case atStart => exact ⟨0, rfl, by omega, by rw [rowL_zero, List.append_nil]; exact HJ, HV⟩
      case round =>
        obtain ⟨k, rfl, hk, HJ', HV'⟩ := hrel
        have hc : ∀ i : Nat, wr.cell? ⟨B, i, none⟩ = (vcells v)[i]? := HV'.out
        by_cases hlt2 : k < C
        · have hlt2' : (k : Int) < v.cols := by rw [HC.out]; omega
          have hp := HIn.out m k hlt hlt2
          have hp0 := HIn.out 0 0 (by omega) (by omega)
          have e0 : pl v ((0 : Nat) : Int) ((0 : Nat) : Int) = v.off := pl_zero v
          rw [e0] at hp0
          have X := hid' (rowL_succ v n m k)
          have X' := hid' (plo_one hp)
          have hlen : Hid ((allL v n C m ++ rowL v n m k).length < 576) := by
            have l1 := allL_len v n C m
            have l2 := rowL_len v n m k
            have l3 : m * C ≤ 23 * C := Nat.mul_le_mul_right C (by omega)
            unfold Hid
            rw [List.length_append]
            omega
          gi_wp2_with (gi_at_call 72; refine (hw (place_pl v _ _ _ (by omega) (by omega) (by omega) (by omega) a1 a2 b1 b2 hp0.1 (by omega))).mono ?_; rintro e w2 ⟨rfl, hb2⟩; have HJ2 := hid' (hJ _ _ _ none HJ'.out (below_grown hb2) (fun r e => by cases e)); have HV2 := hid' (HV'.out.on hb2); clear hc hb2; obtain ⟨fn, tmps, assign, body, hy, hR'⟩ := hY _ ⟨pl v m k, hp⟩ w2 HJ2.out hlen.out; dsimp only at hy)
          refine hR'.mono ?_
          rintro e W3 (⟨rfl, hJ3, hk3⟩ | ⟨rfl, hJx3⟩)
          · gi_wp2
            go_roundw
            case rel => exact ⟨k + 1, by go_num, by omega, by rw [X.out, X'.out, ← List.append_assoc]; exact hJ3, HV2.out.kp hk3⟩
            case measure => simp [intOf]; omega
          · gi_wp2
            refine bodyPost_ret (results_none rfl _ _ _) rfl ?_
            refine ⟨⟨_, rfl⟩, .inr ⟨_, ?_, hJx3⟩⟩
            have := upto_pre v n C R m (k + 1) hlt (by omega)
            rw [X.out, X'.out, ← List.append_assoc] at this
            exact this
        · have hge : ¬ (k : Int) < v.cols := by rw [HC.out]; omega
          obtain rfl : k = C := by omega
          gi_wp2
          go_roundw
          case rel => exact ⟨m + 1, by go_num, by omega, by rw [allL_succ]; exact HJ', HV'⟩
          case measure => simp [intOf]; omega
    · have hge : ¬ (m : Int) < v.rows := by rw [HR.out]; omega
      obtain rfl : m = R := by omega
      gi_wp2
      go_end0
      first | exact ⟨⟨_, rfl⟩, .inl ⟨_, rfl, HJ.out⟩⟩ | exact ⟨⟨_, rfl⟩, .inl HJ.out⟩

theorem places_stops (F : Fence) (hw : ∀ {k : Nat} {f : FuncId} {args : Array Value} {w : World} {R : Ending → World → Prop}, Calls Try.prog f args w R → CallsIn F k Try.prog f args w R) (hro : F.round = none) (hf1 : F.fn 71) (hf2 : F.fn 72)
    (n : Int) (v : Vw) (R C : Nat) (hR : v.rows = R) (hC : v.cols = C) (hf : fitP v n) (B : Nat) (w : World) (hv : VAt B v w) :
    SeqStopsK F 5 Try.prog 71 #[.pointer (some ⟨B, 0, none⟩)] (fun x : PlS n => #[.int .i64 x.1]) (KpB B) (fun ys => ys = allL v n C R) (fun pre => pre <+: allL v n C R) 576 w := fun l J Jx W hW hJ _ hY h0 => by
  obtain ⟨hn, ⟨q1, q2, q3, q4⟩, ⟨a1, a2, b1, b2⟩, hin⟩ := hf
  exact places1_in F hw hro hf1 hf2 n v R C hR hC (by omega) (by omega) hn a1 a2 b1 b2 hin l B J Jx W hJ hY (hv.on hW) h0

set_option maxHeartbeats 1000000 in
theorem Places_any (v : Vw) (w : World) :
    Calls Try.prog 65 #[.agg (vcells v)] w fun e w' => e = .returned (.func (.func 71) #[] #[.pointer (some ⟨w.heap.size, 0, none⟩)]) ∧ w' = w.alloc (.cells (vcells v) 33) := by
  go_enter Try.func65, Try.ntmps65
  go_wp2
  go_ret
  exact ⟨rfl, rfl⟩

end Go.Proofs.Ytpoejdkfhofimaa

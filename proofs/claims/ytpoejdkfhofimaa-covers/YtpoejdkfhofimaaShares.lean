import Derived.Test.YtpoejdkfhofimaaSees
namespace Go.Proofs.Ytpoejdkfhofimaa
open Go.RowKit Go.Shelf Classical
attribute [local go_sem] Oper.semAt_some

/-- two elements of a view share a place -/
def twiceP (v : Vw) (n : Int) : Prop := ¬ (allL v n v.cols.toNat v.rows.toNat).Nodup

/-- has a place come already? -/
def tk {n : Int} (pre : List (PlS n)) (i : Nat) : Bool := pre.any fun p => p.1 == (i : Int)
theorem tk_snoc {n : Int} (pre : List (PlS n)) (x : PlS n) (i : Nat) : tk (pre ++ [x]) i = (tk pre i || (x.1 == (i : Int))) := by simp [tk]
theorem tk_nil {n : Int} (i : Nat) : tk ([] : List (PlS n)) i = false := rfl
theorem tk_yes {n : Int} {pre : List (PlS n)} {x : PlS n} {q : Nat} (hx : x.1 = (q : Int)) (h : tk pre q = true) : ¬ (pre ++ [x]).Nodup := by
  intro hn
  obtain ⟨p, hp, e⟩ := List.any_eq_true.1 h
  have e' : p = x := Subtype.ext (by rw [hx]; exact eq_of_beq e)
  subst e'
  exact (List.nodup_append.1 hn).2.2 p hp p (by simp) rfl
theorem tk_no {n : Int} {pre : List (PlS n)} {x : PlS n} {q : Nat} (hx : x.1 = (q : Int)) (h : tk pre q = false) (hn : pre.Nodup) : (pre ++ [x]).Nodup := by
  refine List.nodup_append.2 ⟨hn, by simp, fun a ha b hb e => ?_⟩
  simp at hb
  subst hb
  subst e
  have : tk pre q = true := List.any_eq_true.2 ⟨a, ha, by simp [hx]⟩
  rw [h] at this
  cases this

def mkc (n : Nat) : Array Value := madeCells #[.bool false] n
theorem mkc_at (n i : Nat) (h : i < n) : (mkc n)[i]? = some (.bool false) := by simp [mkc, madeCells, h, Nat.mod_one]
theorem Try.info4 : (Try.prog.info? 4).map (fun i => (i.zero, i.size, i.bytes)) = some (some (.bool false), 1, 1) := by kernel_rfl
theorem make_bools (n : Nat) (hn : n ≤ 5000) (W : World) : (Instr.makeSlice 64 (.int .i64 (n : Int)) (.int .i64 (n : Int))).run Try.prog W = .ok (.slice (some ⟨W.heap.size, 0, none⟩) n n) (W.alloc (.cells (mkc n) 4)) := by
  obtain ⟨i0, hi, hz0, hz1, hz2⟩ := info_parts Try.info4
  have := run_make (P := Try.prog) W 64 4 i0 (.bool false) Try.underlying64 hi hz0 .i64 .i64 n n (by omega) (Int.le_refl _) (by rw [hz2]; omega) (by omega)
  rw [this, hz1]
  simp [mkc, Value.cells]

theorem cells_new (w : World) (cs : Array Value) (t : TypeId) (i : Nat) : (w.alloc (.cells cs t)).cell? ⟨w.heap.size, i, none⟩ = cs[i]? ∧ (w.alloc (.cells cs t)).frozen? ⟨w.heap.size, i, none⟩ = false := by
  refine ⟨World.cell?_alloc_at _ _ _ _ rfl, ?_⟩
  unfold World.frozen?
  rw [heap_alloc_new]
  simp
theorem cell_far (W : World) (a b : Addr) (v : Value) (h : b.block ≠ a.block) : (W.setCell a v).cell? b = W.cell? b := World.cell?_of_block (heap_setCell_other W a b.block v h)
theorem cell_off (W : World) (g i j : Nat) (v : Value) (h : j ≠ i) : (W.setCell ⟨g, i, none⟩ v).cell? ⟨g, j, none⟩ = W.cell? ⟨g, j, none⟩ := by
  refine World.cell?_setCell_other _ _ _ _ ?_
  intro e
  cases e
  exact h rfl

set_option maxRecDepth 100000 in
set_option maxHeartbeats 2000000 in
theorem shares_in (F : Fence) (hw : ∀ {k : Nat} {f : FuncId} {args : Array Value} {w : World} {R : Ending → World → Prop}, Calls Try.prog f args w R → CallsIn F k Try.prog f args w R) (hro : F.round = none) (hall : ∀ f, F.fn f)
    (v : Vw) (n : Nat) (w : World) (hf : fitP v n) :
    CallsIn F 6 Try.prog 50 #[.agg (vcells v), .int .i64 n] w fun e w' => e = .returned (.bool (dc (twiceP v n))) ∧ Below w.heap.size w w' := by
  have h1 : 1 ≤ 6 := by omega
  obtain ⟨R, hR⟩ := Int.eq_ofNat_of_zero_le hf.2.1.1
  obtain ⟨C, hC⟩ := Int.eq_ofNat_of_zero_le hf.2.1.2.2.1
  have EI : Hid (twiceP v n ↔ ¬ (allL v n C R).Nodup) := by unfold Hid twiceP; rw [hR, hC]; simp
  have HR := hid' hR
  have HC := hid' hC
  have hn : n ≤ 5000 := by have := hf.1; omega
  have HF := hid' hf
  clear hR hC hf
  have hmk := make_bools n hn
  have hfn := hall 50
  have hfp := hall 65
  refine callsIn_of_wp_marks Try.func50 rfl hfn ?_ hro
  simp only [Try.ntmps50, List.size_toArray, List.length_cons, List.length_nil, Nat.reduceAdd, Nat.reduceSub, Array.replicate_succ, Array.replicate_zero, List.push_toArray, List.append_toArray, List.nil_append, List.cons_append]
  gi_wp2_with (gi_at_call 65; refine (hw (Places_any v _)).mono ?_; rintro e w' ⟨rfl, rfl⟩)
  have c1 := one_new (w.alloc (.cells (vcells v) 33)) (.bool false) 4
  have cT : ∀ i : Nat, i < n → (((w.alloc (.cells (vcells v) 33)).alloc (.cells #[.bool false] 4)).alloc (.cells (mkc n) 4)).cell? ⟨w.heap.size + 1 + 1, i, none⟩ = some (.bool false) ∧ (((w.alloc (.cells (vcells v) 33)).alloc (.cells #[.bool false] 4)).alloc (.cells (mkc n) 4)).frozen? ⟨w.heap.size + 1 + 1, i, none⟩ = false := fun i hi => by
    have e := cells_new ((w.alloc (.cells (vcells v) 33)).alloc (.cells #[.bool false] 4)) (mkc n) 4 i
    simp only [World.size_alloc] at e
    rw [mkc_at n i hi] at e
    exact e
  have c3 := one_new (((w.alloc (.cells (vcells v) 33)).alloc (.cells #[.bool false] 4)).alloc (.cells (mkc n) 4)) (.slice (some ⟨w.heap.size + 1 + 1, 0, none⟩) n n) 64
  have c4 := cell_new' ((((w.alloc (.cells (vcells v) 33)).alloc (.cells #[.bool false] 4)).alloc (.cells (mkc n) 4)).alloc (.cells #[(.slice (some ⟨w.heap.size + 1 + 1, 0, none⟩) n n)] 64)) (vcells v) 33
  simp only [World.size_alloc] at c1 c3 c4
  have hB0 : Below w.heap.size w (((((w.alloc (.cells (vcells v) 33)).alloc (.cells #[.bool false] 4)).alloc (.cells (mkc n) 4)).alloc (.cells #[(.slice (some ⟨w.heap.size + 1 + 1, 0, none⟩) n n)] 64)).alloc (.cells (vcells v) 33)) := (((((Below.refl _ w).alloc (Nat.le_refl _) _).alloc (by simp) _).alloc (by simp; omega) _).alloc (by simp; omega) _).alloc (by simp; omega) _
  refine wpIn_rangeFunc_ownF hro h1 (gf := 71) (lb := #[.pointer (some ⟨w.heap.size + 1 + 1 + 1 + 1, 0, none⟩)]) rfl (hall _) (enters_of Try.func71 (by kernel_rfl) rfl)
    (places_stops F hw hro (hall _) (hall _) n v R C HR.out HC.out HF.out (w.heap.size + 1 + 1 + 1 + 1) _ c4) kpB_t (kpB_b (by simp)) (Below.refl _ _) (fun _ => rfl)
    (fun pre W => (pre.Nodup ∧ W.cell? ⟨w.heap.size + 1, 0, none⟩ = some (.bool false) ∧ W.frozen? ⟨w.heap.size + 1, 0, none⟩ = false ∧ W.cell? ⟨w.heap.size + 1 + 1 + 1, 0, none⟩ = some (.slice (some ⟨w.heap.size + 1 + 1, 0, none⟩) n n) ∧ (∀ i : Nat, i < n → W.cell? ⟨w.heap.size + 1 + 1, i, none⟩ = some (.bool (tk pre i)) ∧ W.frozen? ⟨w.heap.size + 1 + 1, i, none⟩ = false)) ∧ Below w.heap.size w W)
    (fun c pre W => (c = .ret ∧ ¬ pre.Nodup ∧ W.cell? ⟨w.heap.size + 1, 0, none⟩ = some (.bool true)) ∧ Below w.heap.size w W)
    (OwnFrom.and (Own.from (fun s A B row hs hg hr => ⟨hs.1, cell_kept hs.2.1 hg hr, (frozen_kept hs.2.1 hg hr).trans hs.2.2.1, cell_kept hs.2.2.2.1 hg hr, fun i hi => ⟨cell_kept (hs.2.2.2.2 i hi).1 hg hr, (frozen_kept (hs.2.2.2.2 i hi).1 hg hr).trans (hs.2.2.2.2 i hi).2⟩⟩) _) (ownFrom_below (Nat.le_refl _) (by simp; omega)))
    (fun c => OwnFrom.and (Own.from (fun s A B row hs hg hr => ⟨hs.1, hs.2.1, cell_kept hs.2.2 hg hr⟩) _) (ownFrom_below (Nat.le_refl _) (by simp; omega)))
    ⟨⟨by simp, one_on _ (one_on _ (one_on _ c1.1)), mark_on _ (one_on _ (one_on _ c1.1)) (mark_on _ (one_on _ c1.1) (mark_on _ c1.1 c1.2)), one_on _ c3.1, fun i hi => ⟨by rw [tk_nil]; exact one_on _ (one_on _ (cT i hi).1), mark_on _ (one_on _ (cT i hi).1) (mark_on _ (cT i hi).1 (cT i hi).2)⟩⟩, hB0⟩
    (fun x => { tmps := #[.agg (vcells v), .int .i64 n, .pointer (some ⟨w.heap.size, 0, none⟩), undef, .pointer (some ⟨w.heap.size + 1, 0, none⟩), .pointer (some ⟨w.heap.size + 1 + 1 + 1, 0, none⟩), .int .i64 x.1, .int .i64 n, (.slice (some ⟨w.heap.size + 1 + 1, 0, none⟩) n n), .agg #[.int .i64 v.rows, .int .i64 v.cols, .int .i64 v.off, .int .i64 v.rs, .int .i64 v.cs, .bool v.tn], .func (.func 71) #[] #[.pointer (some ⟨w.heap.size + 1 + 1 + 1 + 1, 0, none⟩)], .int .i64 x.1, undef, undef, undef, undef, undef, undef, undef], defers := [] }) ?assign ?body ?done ?stop
  case assign =>
    intro l x W K hK
    gi_wp2
    exact hK
  case body =>
    rintro l pre x W ⟨⟨hnd, hcr, hfr, hcs, hct⟩, hB⟩ _
    obtain ⟨p, hp1, hp2⟩ := x
    obtain ⟨q, rfl⟩ := Int.eq_ofNat_of_zero_le hp1
    have hq : q < n := by omega
    obtain ⟨ct, ft⟩ := hct q hq
    have HT := hid' hct
    have HB := hid' hB
    clear EI c1 c3 c4 cT hB0 hct hB
    have hd : 1 ≤ 6 - 1 - 1 := by omega
    cases k : tk pre q
    · have N := hid' (tk_no (x := (⟨(q : Int), hp1, hp2⟩ : PlS n)) rfl k hnd)
      rw [k] at ct
      gi_wp2
      refine ⟨KeepsOthers.setCell _ _ _, heap_setCell_other _ _ _ _ (by simp; try omega), ⟨N.out, ?_, by rw [World.frozen?_setCell]; exact hfr, ?_, fun i hi => ⟨?_, by rw [World.frozen?_setCell]; exact (HT.out i hi).2⟩⟩, HB.out.setCell (p := ⟨w.heap.size + 1 + 1, q, none⟩) (by simp; omega) _⟩
      · rw [cell_far _ _ _ _ (by simp; try omega)]; exact hcr
      · rw [cell_far _ _ _ _ (by simp; try omega)]; exact hcs
      · rw [tk_snoc]
        by_cases e : i = q
        · subst e
          rw [World.cell?_setCell_same' _ _ _ (by rw [ct]; rfl)]
          simp
        · rw [cell_off _ _ _ _ _ (by omega), (HT.out i hi).1]
          have : ((q : Int) == (i : Int)) = false := by simp; omega
          rw [this, Bool.or_false]
    · have N := hid' (tk_yes (x := (⟨(q : Int), hp1, hp2⟩ : PlS n)) rfl k)
      rw [k] at ct
      gi_wp2
      exact ⟨KeepsOthers.setCell _ _ _, ⟨rfl, N.out, World.cell?_setCell_same' _ _ _ (by rw [hcr]; rfl)⟩, HB.out.setCell (p := ⟨w.heap.size + 1, 0, none⟩) (by simp) _⟩
  case done =>
    rintro D ys W hD rfl ⟨⟨hnd, hcr, hfr, _, _⟩, hB⟩ hK
    have E : dc (twiceP v n) = false := dc_no (fun hx => EI.out.1 hx hnd)
    gi_wp2
    have hK' := (KeepsOthers.setCell W ⟨w.heap.size + 1, 0, none⟩ (.bool false)).same D _ hK rfl
    refine ⟨by simp, .inl ⟨_, _, rfl, run_takeDeferred hK', ?_⟩⟩
    have hc5 := cell_kept (World.cell?_setCell_same' W ⟨w.heap.size + 1, 0, none⟩ (.bool false) (by rw [hcr]; rfl)) (grownBy_putObj' _ D (.deferred none)) (fun r e => by cases e; exact ⟨_, hK', rfl⟩)
    refine ⟨.bool false, ?_, by rw [E], (hB.setCell (p := ⟨w.heap.size + 1, 0, none⟩) (by simp) _).trans (belowK_b (w := w) (Nat.le_refl _) _ D _ _ (by simp at hD; omega) hK' rfl rfl)⟩
    simp [results, Try.f50, go_sem, hc5]
  case stop =>
    rintro D c pre W hD hpre ⟨⟨rfl, hnd, hcr⟩, hB⟩ hK
    have E : dc (twiceP v n) = true := dc_yes (EI.out.2 (fun hx => hnd (hx.sublist hpre.sublist)))
    gi_wp2
    refine ⟨by simp, .inl ⟨_, _, rfl, run_takeDeferred hK, ?_⟩⟩
    have hc5 := cell_kept hcr (grownBy_putObj' _ D (.deferred none)) (fun r e => by cases e; exact ⟨_, hK, rfl⟩)
    refine ⟨.bool true, ?_, by rw [E], hB.trans (belowK_b (w := w) (Nat.le_refl _) W D _ _ (by simp at hD; omega) hK rfl rfl)⟩
    simp [results, Try.f50, go_sem, hc5]

theorem shares_any (v : Vw) (n : Nat) (w : World) (hf : fitP v n) :
    Calls Try.prog 50 #[.agg (vcells v), .int .i64 n] w fun e w' => e = .returned (.bool (dc (twiceP v n))) ∧ Below w.heap.size w w' :=
  callsIn_wide.1 (shares_in Fence.wide (fun h => callsIn_wide.2 h) rfl (fun _ => trivial) v n w hf)

end Go.Proofs.Ytpoejdkfhofimaa

import Derived.Test.YtpoejdkfhofimaaIter
import Derived.Test.YtpoejdkfhofimaaRules
namespace Go.Proofs.Ytpoejdkfhofimaa
open Go.RowKit Go.Shelf Classical
attribute [local go_sem] Oper.semAt_some

/-- the elements of a view lie from lo to hi -/
def elemP (v : Vw) (zs : List Int) (lo hi : Int) : Prop := ∀ i j : Nat, (i : Int) < v.rows → (j : Int) < v.cols → lo ≤ zs.getD (pl v i j).toNat 0 ∧ zs.getD (pl v i j).toNat 0 ≤ hi

theorem mem_rowL {v : Vw} {n : Int} {i k : Nat} {x : PlS n} (h : x ∈ rowL v n i k) : ∃ j, j < k ∧ x.1 = pl v i j := by
  unfold rowL at h
  obtain ⟨j, hj, hx⟩ := List.mem_flatMap.1 h
  refine ⟨j, List.mem_range.1 hj, ?_⟩
  unfold plo at hx
  split at hx
  · simp at hx; rw [hx]
  · simp at hx
theorem mem_allL {v : Vw} {n : Int} {C m : Nat} {x : PlS n} (h : x ∈ allL v n C m) : ∃ i j, i < m ∧ j < C ∧ x.1 = pl v i j := by
  unfold allL at h
  obtain ⟨i, hi, hx⟩ := List.mem_flatMap.1 h
  obtain ⟨j, hj, e⟩ := mem_rowL hx
  exact ⟨i, j, List.mem_range.1 hi, hj, e⟩
theorem allL_mem {v : Vw} {n : Int} {C m i j : Nat} (hi : i < m) (hj : j < C) (h : 0 ≤ pl v i j ∧ pl v i j < n) : (⟨pl v i j, h⟩ : PlS n) ∈ allL v n C m := by
  unfold allL
  refine List.mem_flatMap.2 ⟨i, List.mem_range.2 hi, ?_⟩
  unfold rowL
  refine List.mem_flatMap.2 ⟨j, List.mem_range.2 hj, ?_⟩
  rw [plo_one h]; simp

def inL (zs : List Int) (lo hi : Int) {n : Int} (p : PlS n) : Prop := lo ≤ zs.getD p.1.toNat 0 ∧ zs.getD p.1.toNat 0 ≤ hi
theorem elem_iff {v : Vw} {n : Int} {R C : Nat} (zs : List Int) (lo hi : Int) (hR : v.rows = R) (hC : v.cols = C) (hin : inside v n) : elemP v zs lo hi ↔ ∀ p ∈ allL v n C R, inL zs lo hi p := by
  constructor
  · intro h p hp
    obtain ⟨i, j, hi, hj, e⟩ := mem_allL hp
    unfold inL
    rw [e]
    exact h i j (by omega) (by omega)
  · intro h i j hi hj
    have hp := ins hR hC hin i j (by omega) (by omega)
    exact h ⟨pl v i j, hp⟩ (allL_mem (by omega) (by omega) hp)

/-- a new block of one cell: its cell and its mark; what stays of a cell and its mark behind a new block -/
theorem one_new (W : World) (v : Value) (t : TypeId) : (W.alloc (.cells #[v] t)).cell? ⟨W.heap.size, 0, none⟩ = some v ∧ (W.alloc (.cells #[v] t)).frozen? ⟨W.heap.size, 0, none⟩ = false := by
  refine ⟨World.cell?_alloc_at _ _ _ _ rfl, ?_⟩
  unfold World.frozen?
  rw [heap_alloc_new]
  rfl
theorem one_on {W : World} {a : Addr} {v : Value} (o : Obj) (h : W.cell? a = some v) : (W.alloc o).cell? a = some v := cell_kept h (World.grownBy_alloc W o none) (fun r e => by cases e)
theorem mark_on {W : World} {a : Addr} {v : Value} (o : Obj) (h : W.cell? a = some v) (hf : W.frozen? a = false) : (W.alloc o).frozen? a = false := (frozen_kept h (World.grownBy_alloc W o none) (fun r e => by cases e)).trans hf
theorem cell_new' (w : World) (cs : Array Value) (t : TypeId) : ∀ i : Nat, (w.alloc (.cells cs t)).cell? ⟨w.heap.size, i, none⟩ = cs[i]? := fun _ => World.cell?_alloc_at _ _ _ _ rfl

set_option maxRecDepth 100000 in
set_option maxHeartbeats 2000000 in
theorem seesU_in (F : Fence) (hw : ∀ {k : Nat} {f : FuncId} {args : Array Value} {w : World} {R : Ending → World → Prop}, Calls Try.prog f args w R → CallsIn F k Try.prog f args w R) (hro : F.round = none) (hall : ∀ f, F.fn f)
    (v : Vw) (s : Sl) (zs : List Int) (w : World) (h : RowIs w s zs) (hf : fitP v s.len) :
    CallsIn F 6 Try.prog 63 #[.agg (vcells v), .slice s.a s.len s.cap] w fun e w' => e = .returned (.bool (dc (elemP v zs 0 255))) ∧ Below w.heap.size w w' := by
  have h1 : 1 ≤ 6 := by omega
  obtain ⟨R, hR⟩ := Int.eq_ofNat_of_zero_le hf.2.1.1
  obtain ⟨C, hC⟩ := Int.eq_ofNat_of_zero_le hf.2.1.2.2.1
  have EI := hid' (elem_iff zs 0 255 hR hC hf.2.2.2)
  have HR := hid' hR
  have HC := hid' hC
  have HF := hid' hf
  clear hR hC hf
  have hfn := hall 63
  have hfp := hall 65
  have hfi := hall 69
  refine callsIn_of_wp_marks Try.func63 rfl hfn ?_ hro
  simp only [Try.ntmps63, List.size_toArray, List.length_cons, List.length_nil, Nat.reduceAdd, Nat.reduceSub, Array.replicate_succ, Array.replicate_zero, List.push_toArray, List.append_toArray, List.nil_append, List.cons_append]
  gi_wp2_with (gi_at_call 65; refine (hw (Places_any v _)).mono ?_; rintro e w' ⟨rfl, rfl⟩)
  have c1 := one_new (w.alloc (.cells (vcells v) 33)) (.slice s.a s.len s.cap) 34
  have c2 := one_new ((w.alloc (.cells (vcells v) 33)).alloc (.cells #[.slice s.a s.len s.cap] 34)) (.bool false) 4
  have c3 := cell_new' (((w.alloc (.cells (vcells v) 33)).alloc (.cells #[.slice s.a s.len s.cap] 34)).alloc (.cells #[.bool false] 4)) (vcells v) 33
  simp only [World.size_alloc] at c1 c2 c3
  have hB0 : Below w.heap.size w ((((w.alloc (.cells (vcells v) 33)).alloc (.cells #[.slice s.a s.len s.cap] 34)).alloc (.cells #[.bool false] 4)).alloc (.cells (vcells v) 33)) := ((((Below.refl _ w).alloc (Nat.le_refl _) _).alloc (by simp) _).alloc (by simp; omega) _).alloc (by simp; omega) _
  refine wpIn_rangeFunc_ownF hro h1 (gf := 71) (lb := #[.pointer (some ⟨w.heap.size + 1 + 1 + 1, 0, none⟩)]) rfl (hall _) (enters_of Try.func71 (by kernel_rfl) rfl)
    (places_stops F hw hro (hall _) (hall _) s.len v R C HR.out HC.out HF.out (w.heap.size + 1 + 1 + 1) _ c3) kpB_t (kpB_b (by simp)) (Below.refl _ _) (fun _ => rfl)
    (fun pre W => ((∀ p ∈ pre, inL zs 0 255 p) ∧ W.cell? ⟨w.heap.size + 1, 0, none⟩ = some (.slice s.a s.len s.cap) ∧ W.cell? ⟨w.heap.size + 1 + 1, 0, none⟩ = some (.bool false) ∧ W.frozen? ⟨w.heap.size + 1 + 1, 0, none⟩ = false) ∧ Below w.heap.size w W)
    (fun c pre W => (c = .ret ∧ (∃ p ∈ pre, ¬ inL zs 0 255 p) ∧ W.cell? ⟨w.heap.size + 1 + 1, 0, none⟩ = some (.bool false)) ∧ Below w.heap.size w W)
    (OwnFrom.and (Own.from (fun s A B row hs hg hr => ⟨hs.1, cell_kept hs.2.1 hg hr, cell_kept hs.2.2.1 hg hr, (frozen_kept hs.2.2.1 hg hr).trans hs.2.2.2⟩) _) (ownFrom_below (Nat.le_refl _) (by simp; omega)))
    (fun c => OwnFrom.and (Own.from (fun s A B row hs hg hr => ⟨hs.1, hs.2.1, cell_kept hs.2.2 hg hr⟩) _) (ownFrom_below (Nat.le_refl _) (by simp; omega)))
    ⟨⟨by simp, one_on _ (one_on _ c1.1), one_on _ c2.1, mark_on _ c2.1 c2.2⟩, hB0⟩
    (fun x => { tmps := #[.agg (vcells v), .slice s.a s.len s.cap, .pointer (some ⟨w.heap.size, 0, none⟩), .pointer (some ⟨w.heap.size + 1, 0, none⟩), .pointer (some ⟨w.heap.size + 1 + 1, 0, none⟩), .int .i64 x.1, .agg #[.int .i64 v.rows, .int .i64 v.cols, .int .i64 v.off, .int .i64 v.rs, .int .i64 v.cs, .bool v.tn], .func (.func 71) #[] #[.pointer (some ⟨w.heap.size + 1 + 1 + 1, 0, none⟩)], .int .i64 x.1, undef, undef, undef, undef, undef, undef], defers := [] }) ?assign ?body ?done ?stop
  case assign =>
    intro l x W K hK
    gi_wp2
    exact hK
  case body =>
    rintro l pre x W ⟨⟨hp, hcs, hcr, hfr⟩, hB⟩ _
    obtain ⟨p, hp1, hp2⟩ := x
    obtain ⟨q, rfl⟩ := Int.eq_ofNat_of_zero_le hp1
    have hq : q < s.len := by omega
    obtain ⟨b, off, e, hc⟩ := h.lies (by omega)
    have ce := hc q hq
    have hlt := World.block_lt_of_cell? w _ ce
    have ce' : W.cell? ⟨b, off + q, none⟩ = some (.int .i64 (zs.getD q 0)) := (hB.cell (p := ⟨b, off + q, none⟩) hlt).trans ce
    obtain ⟨f1, f2⟩ : ok64 (zs.getD q 0) := getD_ok (by rw [h.len]; exact hq) h.fits
    have HP := hid' hp
    have HBe := hid' hB
    have HY : Hid (inL zs 0 255 (⟨(q : Int), hp1, hp2⟩ : PlS s.len) ↔ 0 ≤ zs.getD q 0 ∧ zs.getD q 0 ≤ 255) := by unfold Hid inL; simp
    clear hc ce hlt hp hB EI c1 c2 c3 hB0 h
    revert ce' f1 f2 HY
    generalize zs.getD q 0 = y
    intro ce' f1 f2 HY
    have hd : 1 ≤ 6 - 1 - 1 := by omega
    cases k : Pl.inB 0 255 y
    · have N : Hid (¬ inL zs 0 255 (⟨(q : Int), hp1, hp2⟩ : PlS s.len)) := fun hx => by
        obtain ⟨x1, x2⟩ := HY.out.1 hx
        rw [Pl.inB_yes x1 x2] at k; cases k
      gi_wp2_with (gi_at_call 69; refine (CallsIn.inRound l (hw (isU8_any _ _ (by omega) (by omega)))).mono ?_; rintro e w' ⟨rfl, rfl⟩)
      exact ⟨KeepsOthers.setCell _ _ _, ⟨rfl, ⟨_, List.mem_append.2 (.inr (by simp)), N.out⟩, World.cell?_setCell_same' _ _ _ (by rw [hcr]; rfl)⟩, HBe.out.setCell (p := ⟨w.heap.size + 1 + 1, 0, none⟩) (by simp; omega) _⟩
    · have N : Hid (inL zs 0 255 (⟨(q : Int), hp1, hp2⟩ : PlS s.len)) := HY.out.2 (Pl.inB_iff.1 k)
      gi_wp2_with (gi_at_call 69; refine (CallsIn.inRound l (hw (isU8_any _ _ (by omega) (by omega)))).mono ?_; rintro e w' ⟨rfl, rfl⟩)
      exact ⟨KeepsOthers.refl _, rfl, ⟨fun y hy => (List.mem_append.1 hy).elim (HP.out y) (fun e => by simp at e; subst e; exact N.out), hcs, hcr, hfr⟩, HBe.out⟩
  case done =>
    rintro D ys W hD rfl ⟨⟨hne, _, hcr, hfr⟩, hB⟩ hK
    have E : dc (elemP v zs 0 255) = true := dc_yes (EI.out.2 hne)
    gi_wp2
    have hK' := (KeepsOthers.setCell W ⟨w.heap.size + 1 + 1, 0, none⟩ (.bool true)).same D _ hK rfl
    refine ⟨by simp, .inl ⟨_, _, rfl, run_takeDeferred hK', ?_⟩⟩
    have hc5 := cell_kept (World.cell?_setCell_same' W ⟨w.heap.size + 1 + 1, 0, none⟩ (.bool true) (by rw [hcr]; rfl)) (grownBy_putObj' _ D (.deferred none)) (fun r e => by cases e; exact ⟨_, hK', rfl⟩)
    refine ⟨.bool true, ?_, by rw [E], (hB.setCell (p := ⟨w.heap.size + 1 + 1, 0, none⟩) (by simp; omega) _).trans (belowK_b (w := w) (Nat.le_refl _) _ D _ _ (by simp at hD; omega) hK' rfl rfl)⟩
    simp [results, Try.f63, go_sem, hc5]
  case stop =>
    rintro D c pre W hD hpre ⟨⟨rfl, ⟨p, hin, hnp⟩, hcr⟩, hB⟩ hK
    have E : dc (elemP v zs 0 255) = false := dc_no (fun hx => hnp (EI.out.1 hx p (hpre.subset hin)))
    gi_wp2
    refine ⟨by simp, .inl ⟨_, _, rfl, run_takeDeferred hK, ?_⟩⟩
    have hc5 := cell_kept hcr (grownBy_putObj' _ D (.deferred none)) (fun r e => by cases e; exact ⟨_, hK, rfl⟩)
    refine ⟨.bool false, ?_, by rw [E], hB.trans (belowK_b (w := w) (Nat.le_refl _) W D _ _ (by simp at hD; omega) hK rfl rfl)⟩
    simp [results, Try.f63, go_sem, hc5]

theorem seesU_any (v : Vw) (s : Sl) (zs : List Int) (w : World) (h : RowIs w s zs) (hf : fitP v s.len) :
    Calls Try.prog 63 #[.agg (vcells v), .slice s.a s.len s.cap] w fun e w' => e = .returned (.bool (dc (elemP v zs 0 255))) ∧ Below w.heap.size w w' :=
  callsIn_wide.1 (seesU_in Fence.wide (fun h => callsIn_wide.2 h) rfl (fun _ => trivial) v s zs w h hf)

set_option maxRecDepth 100000 in
set_option maxHeartbeats 2000000 in
theorem seesI_in (F : Fence) (hw : ∀ {k : Nat} {f : FuncId} {args : Array Value} {w : World} {R : Ending → World → Prop}, Calls Try.prog f args w R → CallsIn F k Try.prog f args w R) (hro : F.round = none) (hall : ∀ f, F.fn f)
    (v : Vw) (s : Sl) (zs : List Int) (w : World) (h : RowIs w s zs) (hf : fitP v s.len) :
    CallsIn F 6 Try.prog 64 #[.agg (vcells v), .slice s.a s.len s.cap] w fun e w' => e = .returned (.bool (dc (elemP v zs (-128) 127))) ∧ Below w.heap.size w w' := by
  have h1 : 1 ≤ 6 := by omega
  obtain ⟨R, hR⟩ := Int.eq_ofNat_of_zero_le hf.2.1.1
  obtain ⟨C, hC⟩ := Int.eq_ofNat_of_zero_le hf.2.1.2.2.1
  have EI := hid' (elem_iff zs (-128) 127 hR hC hf.2.2.2)
  have HR := hid' hR
  have HC := hid' hC
  have HF := hid' hf
  clear hR hC hf
  have hfn := hall 64
  have hfp := hall 65
  have hfi := hall 70
  refine callsIn_of_wp_marks Try.func64 rfl hfn ?_ hro
  simp only [Try.ntmps64, List.size_toArray, List.length_cons, List.length_nil, Nat.reduceAdd, Nat.reduceSub, Array.replicate_succ, Array.replicate_zero, List.push_toArray, List.append_toArray, List.nil_append, List.cons_append]
  gi_wp2_with (gi_at_call 65; refine (hw (Places_any v _)).mono ?_; rintro e w' ⟨rfl, rfl⟩)
  have c1 := one_new (w.alloc (.cells (vcells v) 33)) (.slice s.a s.len s.cap) 34
  have c2 := one_new ((w.alloc (.cells (vcells v) 33)).alloc (.cells #[.slice s.a s.len s.cap] 34)) (.bool false) 4
  have c3 := cell_new' (((w.alloc (.cells (vcells v) 33)).alloc (.cells #[.slice s.a s.len s.cap] 34)).alloc (.cells #[.bool false] 4)) (vcells v) 33
  simp only [World.size_alloc] at c1 c2 c3
  have hB0 : Below w.heap.size w ((((w.alloc (.cells (vcells v) 33)).alloc (.cells #[.slice s.a s.len s.cap] 34)).alloc (.cells #[.bool false] 4)).alloc (.cells (vcells v) 33)) := ((((Below.refl _ w).alloc (Nat.le_refl _) _).alloc (by simp) _).alloc (by simp; omega) _).alloc (by simp; omega) _
  refine wpIn_rangeFunc_ownF hro h1 (gf := 71) (lb := #[.pointer (some ⟨w.heap.size + 1 + 1 + 1, 0, none⟩)]) rfl (hall _) (enters_of Try.func71 (by kernel_rfl) rfl)
    (places_stops F hw hro (hall _) (hall _) s.len v R C HR.out HC.out HF.out (w.heap.size + 1 + 1 + 1) _ c3) kpB_t (kpB_b (by simp)) (Below.refl _ _) (fun _ => rfl)
    (fun pre W => ((∀ p ∈ pre, inL zs (-128) 127 p) ∧ W.cell? ⟨w.heap.size + 1, 0, none⟩ = some (.slice s.a s.len s.cap) ∧ W.cell? ⟨w.heap.size + 1 + 1, 0, none⟩ = some (.bool false) ∧ W.frozen? ⟨w.heap.size + 1 + 1, 0, none⟩ = false) ∧ Below w.heap.size w W)
    (fun c pre W => (c = .ret ∧ (∃ p ∈ pre, ¬ inL zs (-128) 127 p) ∧ W.cell? ⟨w.heap.size + 1 + 1, 0, none⟩ = some (.bool false)) ∧ Below w.heap.size w W)
    (OwnFrom.and (Own.from (fun s A B row hs hg hr => ⟨hs.1, cell_kept hs.2.1 hg hr, cell_kept hs.2.2.1 hg hr, (frozen_kept hs.2.2.1 hg hr).trans hs.2.2.2⟩) _) (ownFrom_below (Nat.le_refl _) (by simp; omega)))
    (fun c => OwnFrom.and (Own.from (fun s A B row hs hg hr => ⟨hs.1, hs.2.1, cell_kept hs.2.2 hg hr⟩) _) (ownFrom_below (Nat.le_refl _) (by simp; omega)))
    ⟨⟨by simp, one_on _ (one_on _ c1.1), one_on _ c2.1, mark_on _ c2.1 c2.2⟩, hB0⟩
    (fun x => { tmps := #[.agg (vcells v), .slice s.a s.len s.cap, .pointer (some ⟨w.heap.size, 0, none⟩), .pointer (some ⟨w.heap.size + 1, 0, none⟩), .pointer (some ⟨w.heap.size + 1 + 1, 0, none⟩), .int .i64 x.1, .agg #[.int .i64 v.rows, .int .i64 v.cols, .int .i64 v.off, .int .i64 v.rs, .int .i64 v.cs, .bool v.tn], .func (.func 71) #[] #[.pointer (some ⟨w.heap.size + 1 + 1 + 1, 0, none⟩)], .int .i64 x.1, undef, undef, undef, undef, undef, undef], defers := [] }) ?assign ?body ?done ?stop
  case assign =>
    intro l x W K hK
    gi_wp2
    exact hK
  case body =>
    rintro l pre x W ⟨⟨hp, hcs, hcr, hfr⟩, hB⟩ _
    obtain ⟨p, hp1, hp2⟩ := x
    obtain ⟨q, rfl⟩ := Int.eq_ofNat_of_zero_le hp1
    have hq : q < s.len := by omega
    obtain ⟨b, off, e, hc⟩ := h.lies (by omega)
    have ce := hc q hq
    have hlt := World.block_lt_of_cell? w _ ce
    have ce' : W.cell? ⟨b, off + q, none⟩ = some (.int .i64 (zs.getD q 0)) := (hB.cell (p := ⟨b, off + q, none⟩) hlt).trans ce
    obtain ⟨f1, f2⟩ : ok64 (zs.getD q 0) := getD_ok (by rw [h.len]; exact hq) h.fits
    have HP := hid' hp
    have HBe := hid' hB
    have HY : Hid (inL zs (-128) 127 (⟨(q : Int), hp1, hp2⟩ : PlS s.len) ↔ (-128) ≤ zs.getD q 0 ∧ zs.getD q 0 ≤ 127) := by unfold Hid inL; simp
    clear hc ce hlt hp hB EI c1 c2 c3 hB0 h
    revert ce' f1 f2 HY
    generalize zs.getD q 0 = y
    intro ce' f1 f2 HY
    have hd : 1 ≤ 6 - 1 - 1 := by omega
    cases k : Pl.inB (-128) 127 y
    · have N : Hid (¬ inL zs (-128) 127 (⟨(q : Int), hp1, hp2⟩ : PlS s.len)) := fun hx => by
        obtain ⟨x1, x2⟩ := HY.out.1 hx
        rw [Pl.inB_yes x1 x2] at k; cases k
      gi_wp2_with (gi_at_call 70; refine (CallsIn.inRound l (hw (isI8_any _ _ (by omega) (by omega)))).mono ?_; rintro e w' ⟨rfl, rfl⟩)
      exact ⟨KeepsOthers.setCell _ _ _, ⟨rfl, ⟨_, List.mem_append.2 (.inr (by simp)), N.out⟩, World.cell?_setCell_same' _ _ _ (by rw [hcr]; rfl)⟩, HBe.out.setCell (p := ⟨w.heap.size + 1 + 1, 0, none⟩) (by simp; omega) _⟩
    · have N : Hid (inL zs (-128) 127 (⟨(q : Int), hp1, hp2⟩ : PlS s.len)) := HY.out.2 (Pl.inB_iff.1 k)
      gi_wp2_with (gi_at_call 70; refine (CallsIn.inRound l (hw (isI8_any _ _ (by omega) (by omega)))).mono ?_; rintro e w' ⟨rfl, rfl⟩)
      exact ⟨KeepsOthers.refl _, rfl, ⟨fun y hy => (List.mem_append.1 hy).elim (HP.out y) (fun e => by simp at e; subst e; exact N.out), hcs, hcr, hfr⟩, HBe.out⟩
  case done =>
    rintro D ys W hD rfl ⟨⟨hne, _, hcr, hfr⟩, hB⟩ hK
    have E : dc (elemP v zs (-128) 127) = true := dc_yes (EI.out.2 hne)
    gi_wp2
    have hK' := (KeepsOthers.setCell W ⟨w.heap.size + 1 + 1, 0, none⟩ (.bool true)).same D _ hK rfl
    refine ⟨by simp, .inl ⟨_, _, rfl, run_takeDeferred hK', ?_⟩⟩
    have hc5 := cell_kept (World.cell?_setCell_same' W ⟨w.heap.size + 1 + 1, 0, none⟩ (.bool true) (by rw [hcr]; rfl)) (grownBy_putObj' _ D (.deferred none)) (fun r e => by cases e; exact ⟨_, hK', rfl⟩)
    refine ⟨.bool true, ?_, by rw [E], (hB.setCell (p := ⟨w.heap.size + 1 + 1, 0, none⟩) (by simp; omega) _).trans (belowK_b (w := w) (Nat.le_refl _) _ D _ _ (by simp at hD; omega) hK' rfl rfl)⟩
    simp [results, Try.f64, go_sem, hc5]
  case stop =>
    rintro D c pre W hD hpre ⟨⟨rfl, ⟨p, hin, hnp⟩, hcr⟩, hB⟩ hK
    have E : dc (elemP v zs (-128) 127) = false := dc_no (fun hx => hnp (EI.out.1 hx p (hpre.subset hin)))
    gi_wp2
    refine ⟨by simp, .inl ⟨_, _, rfl, run_takeDeferred hK, ?_⟩⟩
    have hc5 := cell_kept hcr (grownBy_putObj' _ D (.deferred none)) (fun r e => by cases e; exact ⟨_, hK, rfl⟩)
    refine ⟨.bool false, ?_, by rw [E], hB.trans (belowK_b (w := w) (Nat.le_refl _) W D _ _ (by simp at hD; omega) hK rfl rfl)⟩
    simp [results, Try.f64, go_sem, hc5]

theorem seesI_any (v : Vw) (s : Sl) (zs : List Int) (w : World) (h : RowIs w s zs) (hf : fitP v s.len) :
    Calls Try.prog 64 #[.agg (vcells v), .slice s.a s.len s.cap] w fun e w' => e = .returned (.bool (dc (elemP v zs (-128) 127))) ∧ Below w.heap.size w w' :=
  callsIn_wide.1 (seesI_in Fence.wide (fun h => callsIn_wide.2 h) rfl (fun _ => trivial) v s zs w h hf)

end Go.Proofs.Ytpoejdkfhofimaa

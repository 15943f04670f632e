import Derived.Test.YtpoejdkfhofimaaRCheck1
import Derived.Deep.Cut
import Derived.Deep.CutRange
namespace Go.Proofs.Ytpoejdkfhofimaa
open Go.RowKit Classical

set_option maxRecDepth 100000 in
set_option maxHeartbeats 2000000 in
theorem late5 (j : Jb) (l r o : Sl) (zl zr zb zf zs : List Int) (w : World) (ha : Args w j l r o zl zr zb zf zs) (hk : kindP j) (hv : viewsP j l r o) (hs : shapeP j) (k1 : dc (elemP j.l zl (kLo j.kind) (kHi j.kind)) = true) (k2 : dc (elemP j.r zr (kLo j.kind) (kHi j.kind)) = true) (k3 : dc (twiceP j.o o.len) = false) (k4 : dc (numP (-2147483648) 2147483647 [j.lz, j.rz, j.oz] 3) = true) (k5 : dc (biasP j zb) = false) :
    Calls Try.prog 18 #[.agg (jcells j), .slice l.a l.len l.cap, .slice r.a r.len r.cap, .slice o.a o.len o.cap] w fun e w' => e = .returned (.int .i64 7) ∧ Below w.heap.size w w' := by
  have C0 := hid' (Rviews_any j l r o)
  rw [show dc (viewsP j l r o) = true from dc_yes hv] at C0
  have C1 : Hid (∀ w', Below w.heap.size w w' → Calls Try.prog 32 #[.agg (vcells j.l), .slice l.a l.len l.cap, .int .i64 j.kind] w' fun e w'' => e = .returned (.bool (dc (elemP j.l zl (kLo j.kind) (kHi j.kind)))) ∧ Below w'.heap.size w' w'') := fun w' hb => Rof_any j.l l zl _ w' (ha.left.below hb) hv.1 hk.1
  have C2 : Hid (∀ w', Below w.heap.size w w' → Calls Try.prog 32 #[.agg (vcells j.r), .slice r.a r.len r.cap, .int .i64 j.kind] w' fun e w'' => e = .returned (.bool (dc (elemP j.r zr (kLo j.kind) (kHi j.kind)))) ∧ Below w'.heap.size w' w'') := fun w' hb => Rof_any j.r r zr _ w' (ha.right.below hb) hv.2.1 hk.1
  have C3 : Hid (∀ w', Calls Try.prog 33 #[.agg (vcells j.o)] w' fun e w'' => e = .returned (.bool (dc (twiceP j.o o.len))) ∧ Below w'.heap.size w' w'') := fun w' => Rshared_any j.o o.len w' hv.2.2
  have C4 : Hid (∀ w' (s : Sl), RowIs w' s [j.lz, j.rz, j.oz] → Calls Try.prog 34 #[.slice s.a s.len s.cap, .int .i64 3, .int .i64 (-2147483648), .int .i64 2147483647] w' fun e w'' => e = .returned (.bool (dc (numP (-2147483648) 2147483647 [j.lz, j.rz, j.oz] 3))) ∧ Below w'.heap.size w' w'') := fun w' s h => numB_any s _ _ _ _ w' h
  have C5 : Hid (∀ w', Below w.heap.size w w' → Calls Try.prog 35 #[.agg (jcells j)] w' fun e w'' => e = .returned (.bool (dc (biasP j zb))) ∧ Below w'.heap.size w' w'') := fun w' hb => Rbias_any j zb w' (ha.bias.below hb)
  have C6 : Hid (∀ w', Below w.heap.size w w' → Calls Try.prog 36 #[.agg (jcells j)] w' fun e w'' => e = .returned (.bool (dc (scaleP j zf zs))) ∧ Below w'.heap.size w' w'') := fun w' hb => Rscale_any j zf zs w' (ha.fac.below hb) (ha.shi.below hb)
  have C7 : Hid (∀ w' (s : Sl), RowIs w' s [j.low, j.high] → Calls Try.prog 34 #[.slice s.a s.len s.cap, .int .i64 2, .int .i64 (-2147483648), .int .i64 2147483647] w' fun e w'' => e = .returned (.bool (dc (numP (-2147483648) 2147483647 [j.low, j.high] 2))) ∧ Below w'.heap.size w' w'') := fun w' s h => numB_any s _ _ _ _ w' h
  have C8 := hid' (Rblocks_any j)
  have hf3 : Hid (∀ x ∈ [j.lz, j.rz, j.oz], ok64 x) := fun x hx => by
    simp only [List.mem_cons, List.not_mem_nil, or_false] at hx
    rcases hx with rfl | rfl | rfl
    · exact ha.ok.lz
    · exact ha.ok.rz
    · exact ha.ok.oz
  have hf2 : Hid (∀ x ∈ [j.low, j.high], ok64 x) := fun x hx => by
    simp only [List.mem_cons, List.not_mem_nil, or_false] at hx
    rcases hx with rfl | rfl
    · exact ha.ok.low
    · exact ha.ok.high
  clear ha
  have d0 : decide (j.kind < 1) = false := decide_eq_false (by have := hk.1; have := hk.2; omega)
  have d1 : decide (2 < j.kind) = false := decide_eq_false (by have := hk.1; have := hk.2; omega)
  have d2 : decide (j.ok < 1) = false := decide_eq_false (by have := hk.1; have := hk.2; omega)
  have d3 : decide (4 < j.ok) = false := decide_eq_false (by have := hk.1; have := hk.2; omega)
  have n0 : (j.l.cols != j.r.rows) = false := by simpa using hs.1
  have n1 : (j.o.rows != j.l.rows) = false := by simpa using hs.2.1
  have n2 : (j.o.cols != j.r.cols) = false := by simpa using hs.2.2
  clear hk hv hs
  rw [k1] at C1
  clear k1
  rw [k2] at C2
  clear k2
  rw [k3] at C3
  clear k3
  rw [k4] at C4
  clear k4
  rw [k5] at C5
  clear k5
  go_enter Try.func18, Try.ntmps18
  go_upto_region 2 with (first | (refine wpList_load_mid rfl 36 (.tmp 4) rfl w.heap.size 0 (by rfl) (jcells j).toList _ (jrange w j _) Try.underlying36 rfl (jinfo j) ?_) | (go_at_call 31; refine (C0.out _).mono ?_; clear C0; rintro e w1 ⟨rfl, hb⟩; have H := hid' (JBox.new (j := j) rfl hb); clear hb; have hc := H.out.cells; have hz := H.out.size))
  go_upto_region 12 with (first | (go_at_call 32; refine (C1.out _ H.out.below).mono ?_; clear C1; rintro e w2 ⟨rfl, hb⟩; have H2 := hid' (H.out.on hb); clear hc hz hb H; have H := H2; clear H2; have hc := H.out.cells; have hz := H.out.size) | (go_at_call 32; refine (C2.out _ H.out.below).mono ?_; clear C2; rintro e w2 ⟨rfl, hb⟩; have H2 := hid' (H.out.on hb); clear hc hz hb H; have H := H2; clear H2; have hc := H.out.cells; have hz := H.out.size) | (go_at_call 33; refine (C3.out _).mono ?_; clear C3; rintro e w2 ⟨rfl, hb⟩; have H2 := hid' (H.out.on hb); clear hc hz hb H; have H := H2; clear H2; have hc := H.out.cells; have hz := H.out.size) | (go_at_call 34; refine (C4.out _ ⟨some ⟨_, 0, none⟩, 3, 3⟩ (row_new _ _ _ rfl _ _ rfl hf3.out 3 rfl (by omega))).mono ?_; clear C4; rintro e w2 ⟨rfl, hb⟩; have H2 := hid' (H.out.onAlloc hb); clear hc hz hb H; have H := H2; clear H2; have hc := H.out.cells; have hz := H.out.size))
  go_upto_region 16 with (first | (with_reducible refine load_guard ?_; refine wpList_load_mid rfl 36 (.tmp 4) rfl w.heap.size 0 rfl (jcells j).toList _ H.out.range Try.underlying36 rfl (jinfo j) ?_) | (go_at_call 35; refine (C5.out _ H.out.below).mono ?_; clear C5; rintro e w2 ⟨rfl, hb⟩; have H2 := hid' (H.out.on hb); clear hc hz hb H; have H := H2; clear H2; have hc := H.out.cells; have hz := H.out.size) | (go_at_call 36; refine (C6.out _ H.out.below).mono ?_; clear C6; rintro e w2 ⟨rfl, hb⟩; have H2 := hid' (H.out.on hb); clear hc hz hb H; have H := H2; clear H2; have hc := H.out.cells; have hz := H.out.size) | (go_at_call 34; refine (C7.out _ ⟨some ⟨_, 0, none⟩, 2, 2⟩ (row_new _ _ _ rfl _ _ rfl hf2.out 2 rfl (by omega))).mono ?_; clear C7; rintro e w2 ⟨rfl, hb⟩; have H2 := hid' (H.out.onAlloc hb); clear hc hz hb H; have H := H2; clear H2; have hc := H.out.cells; have hz := H.out.size) | (go_at_call 37; refine (C8.out _).mono ?_; clear C8; rintro e w2 ⟨rfl, hb⟩; have H2 := hid' (H.out.on hb); clear hc hz hb H; have H := H2; clear H2; have hc := H.out.cells; have hz := H.out.size))
  go_wp2_with fail
  go_ret
  exact ⟨rfl, H.out.below⟩

set_option maxRecDepth 100000 in
set_option maxHeartbeats 2000000 in
theorem late6 (j : Jb) (l r o : Sl) (zl zr zb zf zs : List Int) (w : World) (ha : Args w j l r o zl zr zb zf zs) (hk : kindP j) (hv : viewsP j l r o) (hs : shapeP j) (k1 : dc (elemP j.l zl (kLo j.kind) (kHi j.kind)) = true) (k2 : dc (elemP j.r zr (kLo j.kind) (kHi j.kind)) = true) (k3 : dc (twiceP j.o o.len) = false) (k4 : dc (numP (-2147483648) 2147483647 [j.lz, j.rz, j.oz] 3) = true) (k5 : dc (biasP j zb) = true) (k6 : dc (scaleP j zf zs) = false) :
    Calls Try.prog 18 #[.agg (jcells j), .slice l.a l.len l.cap, .slice r.a r.len r.cap, .slice o.a o.len o.cap] w fun e w' => e = .returned (.int .i64 8) ∧ Below w.heap.size w w' := by
  have C0 := hid' (Rviews_any j l r o)
  rw [show dc (viewsP j l r o) = true from dc_yes hv] at C0
  have C1 : Hid (∀ w', Below w.heap.size w w' → Calls Try.prog 32 #[.agg (vcells j.l), .slice l.a l.len l.cap, .int .i64 j.kind] w' fun e w'' => e = .returned (.bool (dc (elemP j.l zl (kLo j.kind) (kHi j.kind)))) ∧ Below w'.heap.size w' w'') := fun w' hb => Rof_any j.l l zl _ w' (ha.left.below hb) hv.1 hk.1
  have C2 : Hid (∀ w', Below w.heap.size w w' → Calls Try.prog 32 #[.agg (vcells j.r), .slice r.a r.len r.cap, .int .i64 j.kind] w' fun e w'' => e = .returned (.bool (dc (elemP j.r zr (kLo j.kind) (kHi j.kind)))) ∧ Below w'.heap.size w' w'') := fun w' hb => Rof_any j.r r zr _ w' (ha.right.below hb) hv.2.1 hk.1
  have C3 : Hid (∀ w', Calls Try.prog 33 #[.agg (vcells j.o)] w' fun e w'' => e = .returned (.bool (dc (twiceP j.o o.len))) ∧ Below w'.heap.size w' w'') := fun w' => Rshared_any j.o o.len w' hv.2.2
  have C4 : Hid (∀ w' (s : Sl), RowIs w' s [j.lz, j.rz, j.oz] → Calls Try.prog 34 #[.slice s.a s.len s.cap, .int .i64 3, .int .i64 (-2147483648), .int .i64 2147483647] w' fun e w'' => e = .returned (.bool (dc (numP (-2147483648) 2147483647 [j.lz, j.rz, j.oz] 3))) ∧ Below w'.heap.size w' w'') := fun w' s h => numB_any s _ _ _ _ w' h
  have C5 : Hid (∀ w', Below w.heap.size w w' → Calls Try.prog 35 #[.agg (jcells j)] w' fun e w'' => e = .returned (.bool (dc (biasP j zb))) ∧ Below w'.heap.size w' w'') := fun w' hb => Rbias_any j zb w' (ha.bias.below hb)
  have C6 : Hid (∀ w', Below w.heap.size w w' → Calls Try.prog 36 #[.agg (jcells j)] w' fun e w'' => e = .returned (.bool (dc (scaleP j zf zs))) ∧ Below w'.heap.size w' w'') := fun w' hb => Rscale_any j zf zs w' (ha.fac.below hb) (ha.shi.below hb)
  have C7 : Hid (∀ w' (s : Sl), RowIs w' s [j.low, j.high] → Calls Try.prog 34 #[.slice s.a s.len s.cap, .int .i64 2, .int .i64 (-2147483648), .int .i64 2147483647] w' fun e w'' => e = .returned (.bool (dc (numP (-2147483648) 2147483647 [j.low, j.high] 2))) ∧ Below w'.heap.size w' w'') := fun w' s h => numB_any s _ _ _ _ w' h
  have C8 := hid' (Rblocks_any j)
  have hf3 : Hid (∀ x ∈ [j.lz, j.rz, j.oz], ok64 x) := fun x hx => by
    simp only [List.mem_cons, List.not_mem_nil, or_false] at hx
    rcases hx with rfl | rfl | rfl
    · exact ha.ok.lz
    · exact ha.ok.rz
    · exact ha.ok.oz
  have hf2 : Hid (∀ x ∈ [j.low, j.high], ok64 x) := fun x hx => by
    simp only [List.mem_cons, List.not_mem_nil, or_false] at hx
    rcases hx with rfl | rfl
    · exact ha.ok.low
    · exact ha.ok.high
  clear ha
  have d0 : decide (j.kind < 1) = false := decide_eq_false (by have := hk.1; have := hk.2; omega)
  have d1 : decide (2 < j.kind) = false := decide_eq_false (by have := hk.1; have := hk.2; omega)
  have d2 : decide (j.ok < 1) = false := decide_eq_false (by have := hk.1; have := hk.2; omega)
  have d3 : decide (4 < j.ok) = false := decide_eq_false (by have := hk.1; have := hk.2; omega)
  have n0 : (j.l.cols != j.r.rows) = false := by simpa using hs.1
  have n1 : (j.o.rows != j.l.rows) = false := by simpa using hs.2.1
  have n2 : (j.o.cols != j.r.cols) = false := by simpa using hs.2.2
  clear hk hv hs
  rw [k1] at C1
  clear k1
  rw [k2] at C2
  clear k2
  rw [k3] at C3
  clear k3
  rw [k4] at C4
  clear k4
  rw [k5] at C5
  clear k5
  rw [k6] at C6
  clear k6
  go_enter Try.func18, Try.ntmps18
  go_upto_region 2 with (first | (refine wpList_load_mid rfl 36 (.tmp 4) rfl w.heap.size 0 (by rfl) (jcells j).toList _ (jrange w j _) Try.underlying36 rfl (jinfo j) ?_) | (go_at_call 31; refine (C0.out _).mono ?_; clear C0; rintro e w1 ⟨rfl, hb⟩; have H := hid' (JBox.new (j := j) rfl hb); clear hb; have hc := H.out.cells; have hz := H.out.size))
  go_upto_region 12 with (first | (go_at_call 32; refine (C1.out _ H.out.below).mono ?_; clear C1; rintro e w2 ⟨rfl, hb⟩; have H2 := hid' (H.out.on hb); clear hc hz hb H; have H := H2; clear H2; have hc := H.out.cells; have hz := H.out.size) | (go_at_call 32; refine (C2.out _ H.out.below).mono ?_; clear C2; rintro e w2 ⟨rfl, hb⟩; have H2 := hid' (H.out.on hb); clear hc hz hb H; have H := H2; clear H2; have hc := H.out.cells; have hz := H.out.size) | (go_at_call 33; refine (C3.out _).mono ?_; clear C3; rintro e w2 ⟨rfl, hb⟩; have H2 := hid' (H.out.on hb); clear hc hz hb H; have H := H2; clear H2; have hc := H.out.cells; have hz := H.out.size) | (go_at_call 34; refine (C4.out _ ⟨some ⟨_, 0, none⟩, 3, 3⟩ (row_new _ _ _ rfl _ _ rfl hf3.out 3 rfl (by omega))).mono ?_; clear C4; rintro e w2 ⟨rfl, hb⟩; have H2 := hid' (H.out.onAlloc hb); clear hc hz hb H; have H := H2; clear H2; have hc := H.out.cells; have hz := H.out.size))
  go_upto_region 16 with (first | (with_reducible refine load_guard ?_; refine wpList_load_mid rfl 36 (.tmp 4) rfl w.heap.size 0 rfl (jcells j).toList _ H.out.range Try.underlying36 rfl (jinfo j) ?_) | (go_at_call 35; refine (C5.out _ H.out.below).mono ?_; clear C5; rintro e w2 ⟨rfl, hb⟩; have H2 := hid' (H.out.on hb); clear hc hz hb H; have H := H2; clear H2; have hc := H.out.cells; have hz := H.out.size) | (go_at_call 36; refine (C6.out _ H.out.below).mono ?_; clear C6; rintro e w2 ⟨rfl, hb⟩; have H2 := hid' (H.out.on hb); clear hc hz hb H; have H := H2; clear H2; have hc := H.out.cells; have hz := H.out.size) | (go_at_call 34; refine (C7.out _ ⟨some ⟨_, 0, none⟩, 2, 2⟩ (row_new _ _ _ rfl _ _ rfl hf2.out 2 rfl (by omega))).mono ?_; clear C7; rintro e w2 ⟨rfl, hb⟩; have H2 := hid' (H.out.onAlloc hb); clear hc hz hb H; have H := H2; clear H2; have hc := H.out.cells; have hz := H.out.size) | (go_at_call 37; refine (C8.out _).mono ?_; clear C8; rintro e w2 ⟨rfl, hb⟩; have H2 := hid' (H.out.on hb); clear hc hz hb H; have H := H2; clear H2; have hc := H.out.cells; have hz := H.out.size))
  go_wp2_with fail
  go_ret
  exact ⟨rfl, H.out.below⟩

set_option maxRecDepth 100000 in
set_option maxHeartbeats 2000000 in
theorem late7 (j : Jb) (l r o : Sl) (zl zr zb zf zs : List Int) (w : World) (ha : Args w j l r o zl zr zb zf zs) (hk : kindP j) (hv : viewsP j l r o) (hs : shapeP j) (k1 : dc (elemP j.l zl (kLo j.kind) (kHi j.kind)) = true) (k2 : dc (elemP j.r zr (kLo j.kind) (kHi j.kind)) = true) (k3 : dc (twiceP j.o o.len) = false) (k4 : dc (numP (-2147483648) 2147483647 [j.lz, j.rz, j.oz] 3) = true) (k5 : dc (biasP j zb) = true) (k6 : dc (scaleP j zf zs) = true) (k7 : dc (numP (-2147483648) 2147483647 [j.low, j.high] 2) = false) :
    Calls Try.prog 18 #[.agg (jcells j), .slice l.a l.len l.cap, .slice r.a r.len r.cap, .slice o.a o.len o.cap] w fun e w' => e = .returned (.int .i64 9) ∧ Below w.heap.size w w' := by
  have C0 := hid' (Rviews_any j l r o)
  rw [show dc (viewsP j l r o) = true from dc_yes hv] at C0
  have C1 : Hid (∀ w', Below w.heap.size w w' → Calls Try.prog 32 #[.agg (vcells j.l), .slice l.a l.len l.cap, .int .i64 j.kind] w' fun e w'' => e = .returned (.bool (dc (elemP j.l zl (kLo j.kind) (kHi j.kind)))) ∧ Below w'.heap.size w' w'') := fun w' hb => Rof_any j.l l zl _ w' (ha.left.below hb) hv.1 hk.1
  have C2 : Hid (∀ w', Below w.heap.size w w' → Calls Try.prog 32 #[.agg (vcells j.r), .slice r.a r.len r.cap, .int .i64 j.kind] w' fun e w'' => e = .returned (.bool (dc (elemP j.r zr (kLo j.kind) (kHi j.kind)))) ∧ Below w'.heap.size w' w'') := fun w' hb => Rof_any j.r r zr _ w' (ha.right.below hb) hv.2.1 hk.1
  have C3 : Hid (∀ w', Calls Try.prog 33 #[.agg (vcells j.o)] w' fun e w'' => e = .returned (.bool (dc (twiceP j.o o.len))) ∧ Below w'.heap.size w' w'') := fun w' => Rshared_any j.o o.len w' hv.2.2
  have C4 : Hid (∀ w' (s : Sl), RowIs w' s [j.lz, j.rz, j.oz] → Calls Try.prog 34 #[.slice s.a s.len s.cap, .int .i64 3, .int .i64 (-2147483648), .int .i64 2147483647] w' fun e w'' => e = .returned (.bool (dc (numP (-2147483648) 2147483647 [j.lz, j.rz, j.oz] 3))) ∧ Below w'.heap.size w' w'') := fun w' s h => numB_any s _ _ _ _ w' h
  have C5 : Hid (∀ w', Below w.heap.size w w' → Calls Try.prog 35 #[.agg (jcells j)] w' fun e w'' => e = .returned (.bool (dc (biasP j zb))) ∧ Below w'.heap.size w' w'') := fun w' hb => Rbias_any j zb w' (ha.bias.below hb)
  have C6 : Hid (∀ w', Below w.heap.size w w' → Calls Try.prog 36 #[.agg (jcells j)] w' fun e w'' => e = .returned (.bool (dc (scaleP j zf zs))) ∧ Below w'.heap.size w' w'') := fun w' hb => Rscale_any j zf zs w' (ha.fac.below hb) (ha.shi.below hb)
  have C7 : Hid (∀ w' (s : Sl), RowIs w' s [j.low, j.high] → Calls Try.prog 34 #[.slice s.a s.len s.cap, .int .i64 2, .int .i64 (-2147483648), .int .i64 2147483647] w' fun e w'' => e = .returned (.bool (dc (numP (-2147483648) 2147483647 [j.low, j.high] 2))) ∧ Below w'.heap.size w' w'') := fun w' s h => numB_any s _ _ _ _ w' h
  have C8 := hid' (Rblocks_any j)
  have hf3 : Hid (∀ x ∈ [j.lz, j.rz, j.oz], ok64 x) := fun x hx => by
    simp only [List.mem_cons, List.not_mem_nil, or_false] at hx
    rcases hx with rfl | rfl | rfl
    · exact ha.ok.lz
    · exact ha.ok.rz
    · exact ha.ok.oz
  have hf2 : Hid (∀ x ∈ [j.low, j.high], ok64 x) := fun x hx => by
    simp only [List.mem_cons, List.not_mem_nil, or_false] at hx
    rcases hx with rfl | rfl
    · exact ha.ok.low
    · exact ha.ok.high
  clear ha
  have d0 : decide (j.kind < 1) = false := decide_eq_false (by have := hk.1; have := hk.2; omega)
  have d1 : decide (2 < j.kind) = false := decide_eq_false (by have := hk.1; have := hk.2; omega)
  have d2 : decide (j.ok < 1) = false := decide_eq_false (by have := hk.1; have := hk.2; omega)
  have d3 : decide (4 < j.ok) = false := decide_eq_false (by have := hk.1; have := hk.2; omega)
  have n0 : (j.l.cols != j.r.rows) = false := by simpa using hs.1
  have n1 : (j.o.rows != j.l.rows) = false := by simpa using hs.2.1
  have n2 : (j.o.cols != j.r.cols) = false := by simpa using hs.2.2
  clear hk hv hs
  rw [k1] at C1
  clear k1
  rw [k2] at C2
  clear k2
  rw [k3] at C3
  clear k3
  rw [k4] at C4
  clear k4
  rw [k5] at C5
  clear k5
  rw [k6] at C6
  clear k6
  rw [k7] at C7
  clear k7
  go_enter Try.func18, Try.ntmps18
  go_upto_region 2 with (first | (refine wpList_load_mid rfl 36 (.tmp 4) rfl w.heap.size 0 (by rfl) (jcells j).toList _ (jrange w j _) Try.underlying36 rfl (jinfo j) ?_) | (go_at_call 31; refine (C0.out _).mono ?_; clear C0; rintro e w1 ⟨rfl, hb⟩; have H := hid' (JBox.new (j := j) rfl hb); clear hb; have hc := H.out.cells; have hz := H.out.size))
  go_upto_region 12 with (first | (go_at_call 32; refine (C1.out _ H.out.below).mono ?_; clear C1; rintro e w2 ⟨rfl, hb⟩; have H2 := hid' (H.out.on hb); clear hc hz hb H; have H := H2; clear H2; have hc := H.out.cells; have hz := H.out.size) | (go_at_call 32; refine (C2.out _ H.out.below).mono ?_; clear C2; rintro e w2 ⟨rfl, hb⟩; have H2 := hid' (H.out.on hb); clear hc hz hb H; have H := H2; clear H2; have hc := H.out.cells; have hz := H.out.size) | (go_at_call 33; refine (C3.out _).mono ?_; clear C3; rintro e w2 ⟨rfl, hb⟩; have H2 := hid' (H.out.on hb); clear hc hz hb H; have H := H2; clear H2; have hc := H.out.cells; have hz := H.out.size) | (go_at_call 34; refine (C4.out _ ⟨some ⟨_, 0, none⟩, 3, 3⟩ (row_new _ _ _ rfl _ _ rfl hf3.out 3 rfl (by omega))).mono ?_; clear C4; rintro e w2 ⟨rfl, hb⟩; have H2 := hid' (H.out.onAlloc hb); clear hc hz hb H; have H := H2; clear H2; have hc := H.out.cells; have hz := H.out.size))
  go_upto_region 16 with (first | (with_reducible refine load_guard ?_; refine wpList_load_mid rfl 36 (.tmp 4) rfl w.heap.size 0 rfl (jcells j).toList _ H.out.range Try.underlying36 rfl (jinfo j) ?_) | (go_at_call 35; refine (C5.out _ H.out.below).mono ?_; clear C5; rintro e w2 ⟨rfl, hb⟩; have H2 := hid' (H.out.on hb); clear hc hz hb H; have H := H2; clear H2; have hc := H.out.cells; have hz := H.out.size) | (go_at_call 36; refine (C6.out _ H.out.below).mono ?_; clear C6; rintro e w2 ⟨rfl, hb⟩; have H2 := hid' (H.out.on hb); clear hc hz hb H; have H := H2; clear H2; have hc := H.out.cells; have hz := H.out.size) | (go_at_call 34; refine (C7.out _ ⟨some ⟨_, 0, none⟩, 2, 2⟩ (row_new _ _ _ rfl _ _ rfl hf2.out 2 rfl (by omega))).mono ?_; clear C7; rintro e w2 ⟨rfl, hb⟩; have H2 := hid' (H.out.onAlloc hb); clear hc hz hb H; have H := H2; clear H2; have hc := H.out.cells; have hz := H.out.size) | (go_at_call 37; refine (C8.out _).mono ?_; clear C8; rintro e w2 ⟨rfl, hb⟩; have H2 := hid' (H.out.on hb); clear hc hz hb H; have H := H2; clear H2; have hc := H.out.cells; have hz := H.out.size))
  go_wp2_with fail
  go_ret
  exact ⟨rfl, H.out.below⟩

set_option maxRecDepth 100000 in
set_option maxHeartbeats 2000000 in
theorem late8 (j : Jb) (l r o : Sl) (zl zr zb zf zs : List Int) (w : World) (ha : Args w j l r o zl zr zb zf zs) (hk : kindP j) (hv : viewsP j l r o) (hs : shapeP j) (k1 : dc (elemP j.l zl (kLo j.kind) (kHi j.kind)) = true) (k2 : dc (elemP j.r zr (kLo j.kind) (kHi j.kind)) = true) (k3 : dc (twiceP j.o o.len) = false) (k4 : dc (numP (-2147483648) 2147483647 [j.lz, j.rz, j.oz] 3) = true) (k5 : dc (biasP j zb) = true) (k6 : dc (scaleP j zf zs) = true) (k7 : dc (numP (-2147483648) 2147483647 [j.low, j.high] 2) = true) (k8 : blkB j = false) (c : j.low ≤ j.high) :
    Calls Try.prog 18 #[.agg (jcells j), .slice l.a l.len l.cap, .slice r.a r.len r.cap, .slice o.a o.len o.cap] w fun e w' => e = .returned (.int .i64 10) ∧ Below w.heap.size w w' := by
  have C0 := hid' (Rviews_any j l r o)
  rw [show dc (viewsP j l r o) = true from dc_yes hv] at C0
  have C1 : Hid (∀ w', Below w.heap.size w w' → Calls Try.prog 32 #[.agg (vcells j.l), .slice l.a l.len l.cap, .int .i64 j.kind] w' fun e w'' => e = .returned (.bool (dc (elemP j.l zl (kLo j.kind) (kHi j.kind)))) ∧ Below w'.heap.size w' w'') := fun w' hb => Rof_any j.l l zl _ w' (ha.left.below hb) hv.1 hk.1
  have C2 : Hid (∀ w', Below w.heap.size w w' → Calls Try.prog 32 #[.agg (vcells j.r), .slice r.a r.len r.cap, .int .i64 j.kind] w' fun e w'' => e = .returned (.bool (dc (elemP j.r zr (kLo j.kind) (kHi j.kind)))) ∧ Below w'.heap.size w' w'') := fun w' hb => Rof_any j.r r zr _ w' (ha.right.below hb) hv.2.1 hk.1
  have C3 : Hid (∀ w', Calls Try.prog 33 #[.agg (vcells j.o)] w' fun e w'' => e = .returned (.bool (dc (twiceP j.o o.len))) ∧ Below w'.heap.size w' w'') := fun w' => Rshared_any j.o o.len w' hv.2.2
  have C4 : Hid (∀ w' (s : Sl), RowIs w' s [j.lz, j.rz, j.oz] → Calls Try.prog 34 #[.slice s.a s.len s.cap, .int .i64 3, .int .i64 (-2147483648), .int .i64 2147483647] w' fun e w'' => e = .returned (.bool (dc (numP (-2147483648) 2147483647 [j.lz, j.rz, j.oz] 3))) ∧ Below w'.heap.size w' w'') := fun w' s h => numB_any s _ _ _ _ w' h
  have C5 : Hid (∀ w', Below w.heap.size w w' → Calls Try.prog 35 #[.agg (jcells j)] w' fun e w'' => e = .returned (.bool (dc (biasP j zb))) ∧ Below w'.heap.size w' w'') := fun w' hb => Rbias_any j zb w' (ha.bias.below hb)
  have C6 : Hid (∀ w', Below w.heap.size w w' → Calls Try.prog 36 #[.agg (jcells j)] w' fun e w'' => e = .returned (.bool (dc (scaleP j zf zs))) ∧ Below w'.heap.size w' w'') := fun w' hb => Rscale_any j zf zs w' (ha.fac.below hb) (ha.shi.below hb)
  have C7 : Hid (∀ w' (s : Sl), RowIs w' s [j.low, j.high] → Calls Try.prog 34 #[.slice s.a s.len s.cap, .int .i64 2, .int .i64 (-2147483648), .int .i64 2147483647] w' fun e w'' => e = .returned (.bool (dc (numP (-2147483648) 2147483647 [j.low, j.high] 2))) ∧ Below w'.heap.size w' w'') := fun w' s h => numB_any s _ _ _ _ w' h
  have C8 := hid' (Rblocks_any j)
  have hf3 : Hid (∀ x ∈ [j.lz, j.rz, j.oz], ok64 x) := fun x hx => by
    simp only [List.mem_cons, List.not_mem_nil, or_false] at hx
    rcases hx with rfl | rfl | rfl
    · exact ha.ok.lz
    · exact ha.ok.rz
    · exact ha.ok.oz
  have hf2 : Hid (∀ x ∈ [j.low, j.high], ok64 x) := fun x hx => by
    simp only [List.mem_cons, List.not_mem_nil, or_false] at hx
    rcases hx with rfl | rfl
    · exact ha.ok.low
    · exact ha.ok.high
  clear ha
  have d0 : decide (j.kind < 1) = false := decide_eq_false (by have := hk.1; have := hk.2; omega)
  have d1 : decide (2 < j.kind) = false := decide_eq_false (by have := hk.1; have := hk.2; omega)
  have d2 : decide (j.ok < 1) = false := decide_eq_false (by have := hk.1; have := hk.2; omega)
  have d3 : decide (4 < j.ok) = false := decide_eq_false (by have := hk.1; have := hk.2; omega)
  have n0 : (j.l.cols != j.r.rows) = false := by simpa using hs.1
  have n1 : (j.o.rows != j.l.rows) = false := by simpa using hs.2.1
  have n2 : (j.o.cols != j.r.cols) = false := by simpa using hs.2.2
  clear hk hv hs
  rw [k1] at C1
  clear k1
  rw [k2] at C2
  clear k2
  rw [k3] at C3
  clear k3
  rw [k4] at C4
  clear k4
  rw [k5] at C5
  clear k5
  rw [k6] at C6
  clear k6
  rw [k7] at C7
  clear k7
  rw [k8] at C8
  clear k8
  go_enter Try.func18, Try.ntmps18
  go_upto_region 2 with (first | (refine wpList_load_mid rfl 36 (.tmp 4) rfl w.heap.size 0 (by rfl) (jcells j).toList _ (jrange w j _) Try.underlying36 rfl (jinfo j) ?_) | (go_at_call 31; refine (C0.out _).mono ?_; clear C0; rintro e w1 ⟨rfl, hb⟩; have H := hid' (JBox.new (j := j) rfl hb); clear hb; have hc := H.out.cells; have hz := H.out.size))
  go_upto_region 12 with (first | (go_at_call 32; refine (C1.out _ H.out.below).mono ?_; clear C1; rintro e w2 ⟨rfl, hb⟩; have H2 := hid' (H.out.on hb); clear hc hz hb H; have H := H2; clear H2; have hc := H.out.cells; have hz := H.out.size) | (go_at_call 32; refine (C2.out _ H.out.below).mono ?_; clear C2; rintro e w2 ⟨rfl, hb⟩; have H2 := hid' (H.out.on hb); clear hc hz hb H; have H := H2; clear H2; have hc := H.out.cells; have hz := H.out.size) | (go_at_call 33; refine (C3.out _).mono ?_; clear C3; rintro e w2 ⟨rfl, hb⟩; have H2 := hid' (H.out.on hb); clear hc hz hb H; have H := H2; clear H2; have hc := H.out.cells; have hz := H.out.size) | (go_at_call 34; refine (C4.out _ ⟨some ⟨_, 0, none⟩, 3, 3⟩ (row_new _ _ _ rfl _ _ rfl hf3.out 3 rfl (by omega))).mono ?_; clear C4; rintro e w2 ⟨rfl, hb⟩; have H2 := hid' (H.out.onAlloc hb); clear hc hz hb H; have H := H2; clear H2; have hc := H.out.cells; have hz := H.out.size))
  go_upto_region 16 with (first | (with_reducible refine load_guard ?_; refine wpList_load_mid rfl 36 (.tmp 4) rfl w.heap.size 0 rfl (jcells j).toList _ H.out.range Try.underlying36 rfl (jinfo j) ?_) | (go_at_call 35; refine (C5.out _ H.out.below).mono ?_; clear C5; rintro e w2 ⟨rfl, hb⟩; have H2 := hid' (H.out.on hb); clear hc hz hb H; have H := H2; clear H2; have hc := H.out.cells; have hz := H.out.size) | (go_at_call 36; refine (C6.out _ H.out.below).mono ?_; clear C6; rintro e w2 ⟨rfl, hb⟩; have H2 := hid' (H.out.on hb); clear hc hz hb H; have H := H2; clear H2; have hc := H.out.cells; have hz := H.out.size) | (go_at_call 34; refine (C7.out _ ⟨some ⟨_, 0, none⟩, 2, 2⟩ (row_new _ _ _ rfl _ _ rfl hf2.out 2 rfl (by omega))).mono ?_; clear C7; rintro e w2 ⟨rfl, hb⟩; have H2 := hid' (H.out.onAlloc hb); clear hc hz hb H; have H := H2; clear H2; have hc := H.out.cells; have hz := H.out.size) | (go_at_call 37; refine (C8.out _).mono ?_; clear C8; rintro e w2 ⟨rfl, hb⟩; have H2 := hid' (H.out.on hb); clear hc hz hb H; have H := H2; clear H2; have hc := H.out.cells; have hz := H.out.size))
  go_wp2_with fail
  go_ret
  exact ⟨rfl, H.out.below⟩

end Go.Proofs.Ytpoejdkfhofimaa

import Derived.Test.YtpoejdkfhofimaaLists
namespace Go.Proofs.Ytpoejdkfhofimaa
open Go.RowKit Classical

theorem row_new (w : World) (zs : List Int) (g : Nat) (hg : g = w.heap.size) (t : TypeId) (cs : Array Value) (hcs : cs = (ints zs).toArray) (hf : ∀ x ∈ zs, ok64 x) (n : Nat) (hn : zs.length = n) (hm : n ≤ 100) : RowIs (w.alloc (.cells cs t)) ⟨some ⟨g, 0, none⟩, n, n⟩ zs := by
  subst hg hcs
  refine ⟨hn, by unfold maxLen; simp only; omega, hf, fun _ => ⟨w.heap.size, 0, rfl, fun i hi => ?_⟩⟩
  rw [World.cell?_alloc_at _ _ _ _ rfl]
  have hi' : i < zs.length := by rw [hn]; exact hi
  simp [ints, List.getElem?_eq_getElem hi', List.getD_eq_getElem?_getD]

def kindP (j : Jb) : Prop := (j.kind = 1 ∨ j.kind = 2) ∧ (1 ≤ j.ok ∧ j.ok ≤ 4)
def shapeP (j : Jb) : Prop := j.l.cols = j.r.rows ∧ j.o.rows = j.l.rows ∧ j.o.cols = j.r.cols
def zerosP (j : Jb) : Prop := listP (-2147483648) 2147483647 [j.lz, j.rz, j.oz]
def limP (j : Jb) : Prop := listP (-2147483648) 2147483647 [j.low, j.high] ∧ j.low ≤ j.high
def biasP (j : Jb) (zb : List Int) : Prop := j.bb = 0 ∨ (j.bb = 1 ∧ numP (-2147483648) 2147483647 zb j.o.rows) ∨ (j.bb = 2 ∧ numP (-2147483648) 2147483647 zb j.o.cols)
def scP (zf zs : List Int) (n : Int) : Prop := numP (-2147483648) 2147483647 zf n ∧ numP 0 31 zs n
def scaleP (j : Jb) (zf zs : List Int) : Prop := j.sb = 0 ∨ (j.sb = 1 ∧ scP zf zs 1) ∨ (j.sb = 2 ∧ scP zf zs j.o.rows)
def workP (j : Jb) : Prop := 1 ≤ j.wk ∧ j.wk ≤ 64

set_option maxHeartbeats 4000000 in
theorem kinds_any (j : Jb) (w : World) :
    Calls Try.prog 46 #[.agg (jcells j)] w fun e w' => e = .returned (.bool (dc (kindP j))) ∧ Below w.heap.size w w' := by
  by_cases c1 : j.kind = 1 ∨ j.kind = 2
  · by_cases c2 : j.ok = 1 ∨ j.ok = 2 ∨ j.ok = 3 ∨ j.ok = 4
    · have E : Hid (true = dc (kindP j)) := (dc_yes ⟨c1, by omega⟩).symm
      rcases c1 with c1 | c1 <;> rcases c2 with c2 | c2 | c2 | c2
      all_goals
        go_enter Try.func46, Try.ntmps46
        go_wp2
        go_ret
        exact ⟨ret_bool E.out, (Below.refl _ _).alloc (Nat.le_refl _) _⟩
    · have E : Hid (false = dc (kindP j)) := (dc_no (fun h => by have := h.2; omega)).symm
      have d1 : (j.ok == 1) = false := by simp; omega
      have d2 : (j.ok == 2) = false := by simp; omega
      have d3 : (j.ok == 3) = false := by simp; omega
      have d4 : (j.ok == 4) = false := by simp; omega
      clear c2
      rcases c1 with c1 | c1
      all_goals
        go_enter Try.func46, Try.ntmps46
        go_wp2
        go_ret
        exact ⟨ret_bool E.out, (Below.refl _ _).alloc (Nat.le_refl _) _⟩
  · have E : Hid (false = dc (kindP j)) := (dc_no (fun h => c1 h.1)).symm
    have d1 : (j.kind != 1) = true := by simp; omega
    have d2 : (j.kind != 2) = true := by simp; omega
    have d3 : (j.kind == 1) = false := by simp; omega
    have d4 : (j.kind == 2) = false := by simp; omega
    clear c1
    go_enter Try.func46, Try.ntmps46
    go_wp2
    go_ret
    exact ⟨ret_bool E.out, (Below.refl _ _).alloc (Nat.le_refl _) _⟩

set_option maxHeartbeats 4000000 in
theorem shapes_any (j : Jb) (w : World) :
    Calls Try.prog 48 #[.agg (jcells j)] w fun e w' => e = .returned (.bool (dc (shapeP j))) ∧ Below w.heap.size w w' := by
  cases d1 : (j.l.cols == j.r.rows)
  · have E : Hid (false = dc (shapeP j)) := (dc_no (fun h => by rw [h.1] at d1; simp at d1)).symm
    go_enter Try.func48, Try.ntmps48
    go_wp2
    go_ret
    exact ⟨ret_bool E.out, (Below.refl _ _).alloc (Nat.le_refl _) _⟩
  cases d2 : (j.o.rows == j.l.rows)
  · have E : Hid (false = dc (shapeP j)) := (dc_no (fun h => by rw [h.2.1] at d2; simp at d2)).symm
    go_enter Try.func48, Try.ntmps48
    go_wp2
    go_ret
    exact ⟨ret_bool E.out, (Below.refl _ _).alloc (Nat.le_refl _) _⟩
  cases d3 : (j.o.cols == j.r.cols)
  · have E : Hid (false = dc (shapeP j)) := (dc_no (fun h => by rw [h.2.2] at d3; simp at d3)).symm
    go_enter Try.func48, Try.ntmps48
    go_wp2
    go_ret
    exact ⟨ret_bool E.out, (Below.refl _ _).alloc (Nat.le_refl _) _⟩
  have E : Hid (true = dc (shapeP j)) := (dc_yes ⟨by simpa using d1, by simpa using d2, by simpa using d3⟩).symm
  go_enter Try.func48, Try.ntmps48
  go_wp2
  go_ret
  exact ⟨ret_bool E.out, (Below.refl _ _).alloc (Nat.le_refl _) _⟩

set_option maxHeartbeats 4000000 in
theorem zeros_any (j : Jb) (w : World) (h1 : ok64 j.lz) (h2 : ok64 j.rz) (h3 : ok64 j.oz) :
    Calls Try.prog 51 #[.agg (jcells j)] w fun e w' => e = .returned (.bool (dc (zerosP j))) ∧ Below w.heap.size w w' := by
  have hf : Hid (∀ x ∈ [j.lz, j.rz, j.oz], ok64 x) := fun x hx => by
    simp only [List.mem_cons, List.not_mem_nil, or_false] at hx
    rcases hx with rfl | rfl | rfl <;> assumption
  clear h1 h2 h3
  go_enter Try.func51, Try.ntmps51
  go_wp2_with (first | (go_at_call 66; refine (are32_any ⟨some ⟨w.heap.size + 1, 0, none⟩, 3, 3⟩ [j.lz, j.rz, j.oz] _ (row_new _ _ _ (by simp) _ _ rfl hf.out 3 rfl (by omega))).mono ?_; rintro e w' ⟨rfl, rfl⟩) | go_in)
  go_ret
  exact ⟨rfl, ((Below.refl _ _).alloc (Nat.le_refl _) _).alloc (by simp) _⟩

set_option maxHeartbeats 4000000 in
theorem limits_any (j : Jb) (w : World) (h1 : ok64 j.low) (h2 : ok64 j.high) :
    Calls Try.prog 54 #[.agg (jcells j)] w fun e w' => e = .returned (.bool (dc (limP j))) ∧ Below w.heap.size w w' := by
  have hf : Hid (∀ x ∈ [j.low, j.high], ok64 x) := fun x hx => by
    simp only [List.mem_cons, List.not_mem_nil, or_false] at hx
    rcases hx with rfl | rfl <;> assumption
  clear h1 h2
  cases k1 : dc (listP (-2147483648) 2147483647 [j.low, j.high])
  · have E : Hid (false = dc (limP j)) := (dc_no (fun h => by rw [dc_yes h.1] at k1; cases k1)).symm
    go_enter Try.func54, Try.ntmps54
    go_wp2_with (first | (go_at_call 66; refine (are32_any ⟨some ⟨w.heap.size + 1, 0, none⟩, 2, 2⟩ [j.low, j.high] _ (row_new _ _ _ (by simp) _ _ rfl hf.out 2 rfl (by omega))).mono ?_; rintro e w' ⟨rfl, rfl⟩) | go_in)
    go_ret
    exact ⟨ret_bool E.out, ((Below.refl _ _).alloc (Nat.le_refl _) _).alloc (by simp) _⟩
  · have E : Hid (decide (j.low ≤ j.high) = dc (limP j)) := by
      unfold Hid
      by_cases c : j.low ≤ j.high
      · rw [dc_yes (show limP j from ⟨dc_iff.1 k1, c⟩)]; simpa using c
      · rw [dc_no (fun h : limP j => c h.2)]; simpa using c
    go_enter Try.func54, Try.ntmps54
    go_wp2_with (first | (go_at_call 66; refine (are32_any ⟨some ⟨w.heap.size + 1, 0, none⟩, 2, 2⟩ [j.low, j.high] _ (row_new _ _ _ (by simp) _ _ rfl hf.out 2 rfl (by omega))).mono ?_; rintro e w' ⟨rfl, rfl⟩) | go_in)
    go_ret
    exact ⟨ret_bool E.out, ((Below.refl _ _).alloc (Nat.le_refl _) _).alloc (by simp) _⟩

set_option maxHeartbeats 4000000 in
theorem bias_any (j : Jb) (zb : List Int) (w : World) (h : RowIs w j.bias zb) :
    Calls Try.prog 52 #[.agg (jcells j)] w fun e w' => e = .returned (.bool (dc (biasP j zb))) ∧ Below w.heap.size w w' := by
  have hR : Hid (∀ o, RowIs (w.alloc o) j.bias zb) := fun o => h.below ((Below.refl _ _).alloc (Nat.le_refl _) o)
  have hl := h.len
  clear h
  by_cases c0 : j.bb = 0
  · have E : Hid (true = dc (biasP j zb)) := (dc_yes (.inl c0)).symm
    go_enter Try.func52, Try.ntmps52
    go_wp2
    go_ret
    exact ⟨ret_bool E.out, (Below.refl _ _).alloc (Nat.le_refl _) _⟩
  have d0 : (j.bb == 0) = false := by simpa using c0
  by_cases c1 : j.bb = 1
  · have X : Hid (biasP j zb ↔ numP (-2147483648) 2147483647 zb j.o.rows) := ⟨fun h => by
        rcases h with h | h | h
        · omega
        · exact h.2
        · omega, fun h => .inr (.inl ⟨c1, h⟩)⟩
    clear c0 d0
    cases d : ((j.bias.len : Int) == j.o.rows)
    · have E : Hid (false = dc (biasP j zb)) := (dc_no (fun h => by have e := (X.out.1 h).2; rw [hl] at e; simp at d; omega)).symm
      clear hl
      go_enter Try.func52, Try.ntmps52
      go_wp2
      go_ret
      exact ⟨ret_bool E.out, (Below.refl _ _).alloc (Nat.le_refl _) _⟩
    · have E : Hid (dc (listP (-2147483648) 2147483647 zb) = dc (biasP j zb)) := dc_eq ((⟨fun h => ⟨h, by rw [hl]; simpa using d⟩, fun h => h.1⟩ : listP (-2147483648) 2147483647 zb ↔ numP (-2147483648) 2147483647 zb j.o.rows).trans X.out.symm)
      clear hl
      go_enter Try.func52, Try.ntmps52
      go_wp2_with (first | (go_at_call 66; refine (are32_any j.bias zb _ (hR.out _)).mono ?_; rintro e w' ⟨rfl, rfl⟩) | go_in)
      go_ret
      exact ⟨ret_bool E.out, (Below.refl _ _).alloc (Nat.le_refl _) _⟩
  have d1 : (j.bb == 1) = false := by simpa using c1
  by_cases c2 : j.bb = 2
  · have X : Hid (biasP j zb ↔ numP (-2147483648) 2147483647 zb j.o.cols) := ⟨fun h => by
        rcases h with h | h | h
        · omega
        · omega
        · exact h.2, fun h => .inr (.inr ⟨c2, h⟩)⟩
    clear c0 d0 c1 d1
    cases d : ((j.bias.len : Int) == j.o.cols)
    · have E : Hid (false = dc (biasP j zb)) := (dc_no (fun h => by have e := (X.out.1 h).2; rw [hl] at e; simp at d; omega)).symm
      clear hl
      go_enter Try.func52, Try.ntmps52
      go_wp2
      go_ret
      exact ⟨ret_bool E.out, (Below.refl _ _).alloc (Nat.le_refl _) _⟩
    · have E : Hid (dc (listP (-2147483648) 2147483647 zb) = dc (biasP j zb)) := dc_eq ((⟨fun h => ⟨h, by rw [hl]; simpa using d⟩, fun h => h.1⟩ : listP (-2147483648) 2147483647 zb ↔ numP (-2147483648) 2147483647 zb j.o.cols).trans X.out.symm)
      clear hl
      go_enter Try.func52, Try.ntmps52
      go_wp2_with (first | (go_at_call 66; refine (are32_any j.bias zb _ (hR.out _)).mono ?_; rintro e w' ⟨rfl, rfl⟩) | go_in)
      go_ret
      exact ⟨ret_bool E.out, (Below.refl _ _).alloc (Nat.le_refl _) _⟩
  have d2 : (j.bb == 2) = false := by simpa using c2
  have E : Hid (false = dc (biasP j zb)) := (dc_no (fun h => by rcases h with h | h | h <;> omega)).symm
  clear c0 c1 c2 hl
  go_enter Try.func52, Try.ntmps52
  go_wp2
  go_ret
  exact ⟨ret_bool E.out, (Below.refl _ _).alloc (Nat.le_refl _) _⟩

set_option maxHeartbeats 4000000 in
theorem scales_any (j : Jb) (n : Int) (zf zs : List Int) (w : World) (h : RowIs w j.fac zf) (h' : RowIs w j.shi zs) :
    Calls Try.prog 67 #[.agg (jcells j), .int .i64 n] w fun e w' => e = .returned (.bool (dc (scP zf zs n))) ∧ Below w.heap.size w w' := by
  have hF : Hid (∀ o, RowIs (w.alloc o) j.fac zf) := fun o => h.below ((Below.refl _ _).alloc (Nat.le_refl _) o)
  have hS : Hid (∀ o, RowIs (w.alloc o) j.shi zs) := fun o => h'.below ((Below.refl _ _).alloc (Nat.le_refl _) o)
  have hl := hid' h.len
  have hl' := hid' h'.len
  clear h h'
  cases d1 : ((j.fac.len : Int) == n)
  · have E : Hid (false = dc (scP zf zs n)) := (dc_no (fun h => by have e := h.1.2; rw [hl.out] at e; simp at d1; omega)).symm
    go_enter Try.func67, Try.ntmps67
    go_wp2
    go_ret
    exact ⟨ret_bool E.out, (Below.refl _ _).alloc (Nat.le_refl _) _⟩
  cases d2 : ((j.shi.len : Int) == n)
  · have E : Hid (false = dc (scP zf zs n)) := (dc_no (fun h => by have e := h.2.2; rw [hl'.out] at e; simp at d2; omega)).symm
    go_enter Try.func67, Try.ntmps67
    go_wp2
    go_ret
    exact ⟨ret_bool E.out, (Below.refl _ _).alloc (Nat.le_refl _) _⟩
  cases d3 : dc (listP (-2147483648) 2147483647 zf)
  · have E : Hid (false = dc (scP zf zs n)) := (dc_no (fun h => by rw [dc_yes h.1.1] at d3; cases d3)).symm
    go_enter Try.func67, Try.ntmps67
    go_wp2_with (first | (go_at_call 66; refine (are32_any j.fac zf _ (hF.out _)).mono ?_; rintro e w' ⟨rfl, rfl⟩) | go_in)
    go_ret
    exact ⟨ret_bool E.out, (Below.refl _ _).alloc (Nat.le_refl _) _⟩
  have E : Hid (dc (listP 0 31 zs) = dc (scP zf zs n)) := dc_eq ⟨fun h => ⟨⟨dc_iff.1 d3, by rw [hl.out]; simpa using d1⟩, ⟨h, by rw [hl'.out]; simpa using d2⟩⟩, fun h => h.2.1⟩
  go_enter Try.func67, Try.ntmps67
  go_wp2_with (first | (go_at_call 66; refine (are32_any j.fac zf _ (hF.out _)).mono ?_; rintro e w' ⟨rfl, rfl⟩) | (go_at_call 73; refine (allSh_any j.shi zs _ (hS.out _)).mono ?_; rintro e w' ⟨rfl, rfl⟩) | go_in)
  go_ret
  exact ⟨ret_bool E.out, (Below.refl _ _).alloc (Nat.le_refl _) _⟩

set_option maxHeartbeats 4000000 in
theorem scale_any (j : Jb) (zf zs : List Int) (w : World) (h : RowIs w j.fac zf) (h' : RowIs w j.shi zs) :
    Calls Try.prog 53 #[.agg (jcells j)] w fun e w' => e = .returned (.bool (dc (scaleP j zf zs))) ∧ Below w.heap.size w w' := by
  have hF : Hid (∀ o, RowIs (w.alloc o) j.fac zf) := fun o => h.below ((Below.refl _ _).alloc (Nat.le_refl _) o)
  have hS : Hid (∀ o, RowIs (w.alloc o) j.shi zs) := fun o => h'.below ((Below.refl _ _).alloc (Nat.le_refl _) o)
  clear h h'
  by_cases c0 : j.sb = 0
  · have E : Hid (true = dc (scaleP j zf zs)) := (dc_yes (.inl c0)).symm
    go_enter Try.func53, Try.ntmps53
    go_wp2
    go_ret
    exact ⟨ret_bool E.out, (Below.refl _ _).alloc (Nat.le_refl _) _⟩
  have d0 : (j.sb == 0) = false := by simpa using c0
  by_cases c1 : j.sb = 1
  · have E : Hid (dc (scP zf zs 1) = dc (scaleP j zf zs)) := dc_eq ⟨fun h => .inr (.inl ⟨c1, h⟩), fun h => by
      rcases h with h | h | h
      · omega
      · exact h.2
      · omega⟩
    clear c0 d0
    go_enter Try.func53, Try.ntmps53
    go_wp2_with (first | (refine wpList_load_mid rfl 36 (.tmp 1) rfl w.heap.size 0 (by rfl) (jcells j).toList _ (jrange w j _) Try.underlying36 rfl (jinfo j) ?_) | (go_at_call 67; refine (scales_any j _ zf zs _ (hF.out _) (hS.out _)).mono ?_; rintro e w1 ⟨rfl, hb1⟩; have H1 := hid' (JBox.new (j := j) rfl hb1); clear hb1) | go_in)
    go_ret
    exact ⟨ret_bool E.out, H1.out.below⟩
  have d1 : (j.sb == 1) = false := by simpa using c1
  by_cases c2 : j.sb = 2
  · have E : Hid (dc (scP zf zs j.o.rows) = dc (scaleP j zf zs)) := dc_eq ⟨fun h => .inr (.inr ⟨c2, h⟩), fun h => by
      rcases h with h | h | h
      · omega
      · omega
      · exact h.2⟩
    clear c0 d0 c1 d1
    go_enter Try.func53, Try.ntmps53
    go_wp2_with (first | (refine wpList_load_mid rfl 36 (.tmp 1) rfl w.heap.size 0 (by rfl) (jcells j).toList _ (jrange w j _) Try.underlying36 rfl (jinfo j) ?_) | (go_at_call 67; refine (scales_any j _ zf zs _ (hF.out _) (hS.out _)).mono ?_; rintro e w1 ⟨rfl, hb1⟩; have H1 := hid' (JBox.new (j := j) rfl hb1); clear hb1) | go_in)
    go_ret
    exact ⟨ret_bool E.out, H1.out.below⟩
  have d2 : (j.sb == 2) = false := by simpa using c2
  have E : Hid (false = dc (scaleP j zf zs)) := (dc_no (fun h => by rcases h with h | h | h <;> omega)).symm
  clear c0 c1 c2
  go_enter Try.func53, Try.ntmps53
  go_wp2
  go_ret
  exact ⟨ret_bool E.out, (Below.refl _ _).alloc (Nat.le_refl _) _⟩

end Go.Proofs.Ytpoejdkfhofimaa

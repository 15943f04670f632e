import Derived.Test.YtpoejdkfhofimaaFirst
import Derived.Test.YtpoejdkfhofimaaROf
import Derived.Test.YtpoejdkfhofimaaRShared
import Derived.Test.YtpoejdkfhofimaaRRules
import Derived.Test.YtpoejdkfhofimaaRPlan
import Derived.Deep.Cut
import Derived.Deep.CutRange
namespace Go.Proofs.Ytpoejdkfhofimaa
open Go.RowKit Classical

theorem load_guard {P : Program} {ops : Array Oper} {rest : List Oper} {d : Option Tmp} {ty : TypeId} {ps : String} {af : Array Edge} {a : Act} {w : World} {Q : Exit → Act → World → Prop}
    (h : wpList P ops Q ({ dst := d, op := .load 36 (.tmp 4), type := ty, pos := ps, after := af, guard := none } :: rest) a w) : wpList P ops Q ({ dst := d, op := .load 36 (.tmp 4), type := ty, pos := ps, after := af, guard := none } :: rest) a w := h
theorem JBox.onAlloc {w0 w1 w2 : World} {j : Jb} {ob : Obj} (h : JBox w0 w1 j) (hb : Below (w1.alloc ob).heap.size (w1.alloc ob) w2) : JBox w0 w2 j :=
  h.on (((Below.refl _ _).alloc (Nat.le_refl _) ob).trans (hb.mono (by simp)))
theorem numB_any (s : Sl) (zs : List Int) (n lo hi : Int) (w : World) (h : RowIs w s zs) :
    Calls Try.prog 34 #[.slice s.a s.len s.cap, .int .i64 n, .int .i64 lo, .int .i64 hi] w fun e w' => e = .returned (.bool (dc (numP lo hi zs n))) ∧ Below w.heap.size w w' :=
  (numbers_any s zs n lo hi w h).mono (fun e w' hh => ⟨hh.1, by rw [hh.2]; exact Below.refl _ _⟩)

set_option maxRecDepth 100000 in
set_option maxHeartbeats 4000000 in
theorem RCheck_early (j : Jb) (l r o : Sl) (X : Int) (w : World)
    (h : (X = 1 ∧ ¬ kindP j) ∨ (X = 2 ∧ kindP j ∧ ¬ viewsP j l r o) ∨ (X = 3 ∧ kindP j ∧ viewsP j l r o ∧ ¬ shapeP j)) :
    Calls Try.prog 18 #[.agg (jcells j), .slice l.a l.len l.cap, .slice r.a r.len r.cap, .slice o.a o.len o.cap] w fun e w' => e = .returned (.int .i64 X) ∧ Below w.heap.size w w' := by
  have C0 := hid' (Rviews_any j l r o)
  rcases h with ⟨rfl, h⟩ | ⟨rfl, hk, h⟩ | ⟨rfl, hk, hv, h⟩
  · by_cases x0 : j.kind < 1
    · have d0 : decide (j.kind < 1) = true := decide_eq_true x0
      clear h x0
      go_enter Try.func18, Try.ntmps18
      go_upto_region 2 with (first | (refine wpList_load_mid rfl 36 (.tmp 4) rfl w.heap.size 0 (by rfl) (jcells j).toList _ (jrange w j _) Try.underlying36 rfl (jinfo j) ?_) | (go_at_call 31; refine (C0.out _).mono ?_; clear C0; rintro e w1 ⟨rfl, hb⟩; have H := hid' (JBox.new (j := j) rfl hb); clear hb; have hc := H.out.cells; have hz := H.out.size))
      go_wp2_with fail
      go_ret
      exact ⟨rfl, H.out.below⟩
    have d0 : decide (j.kind < 1) = false := decide_eq_false x0
    by_cases x1 : 2 < j.kind
    · have d1 : decide (2 < j.kind) = true := decide_eq_true x1
      clear h x0 x1
      go_enter Try.func18, Try.ntmps18
      go_upto_region 2 with (first | (refine wpList_load_mid rfl 36 (.tmp 4) rfl w.heap.size 0 (by rfl) (jcells j).toList _ (jrange w j _) Try.underlying36 rfl (jinfo j) ?_) | (go_at_call 31; refine (C0.out _).mono ?_; clear C0; rintro e w1 ⟨rfl, hb⟩; have H := hid' (JBox.new (j := j) rfl hb); clear hb; have hc := H.out.cells; have hz := H.out.size))
      go_wp2_with fail
      go_ret
      exact ⟨rfl, H.out.below⟩
    have d1 : decide (2 < j.kind) = false := decide_eq_false x1
    by_cases x2 : j.ok < 1
    · have d2 : decide (j.ok < 1) = true := decide_eq_true x2
      clear h x0 x1 x2
      go_enter Try.func18, Try.ntmps18
      go_upto_region 2 with (first | (refine wpList_load_mid rfl 36 (.tmp 4) rfl w.heap.size 0 (by rfl) (jcells j).toList _ (jrange w j _) Try.underlying36 rfl (jinfo j) ?_) | (go_at_call 31; refine (C0.out _).mono ?_; clear C0; rintro e w1 ⟨rfl, hb⟩; have H := hid' (JBox.new (j := j) rfl hb); clear hb; have hc := H.out.cells; have hz := H.out.size))
      go_wp2_with fail
      go_ret
      exact ⟨rfl, H.out.below⟩
    have d2 : decide (j.ok < 1) = false := decide_eq_false x2
    by_cases x3 : 4 < j.ok
    · have d3 : decide (4 < j.ok) = true := decide_eq_true x3
      clear h x0 x1 x2 x3
      go_enter Try.func18, Try.ntmps18
      go_upto_region 2 with (first | (refine wpList_load_mid rfl 36 (.tmp 4) rfl w.heap.size 0 (by rfl) (jcells j).toList _ (jrange w j _) Try.underlying36 rfl (jinfo j) ?_) | (go_at_call 31; refine (C0.out _).mono ?_; clear C0; rintro e w1 ⟨rfl, hb⟩; have H := hid' (JBox.new (j := j) rfl hb); clear hb; have hc := H.out.cells; have hz := H.out.size))
      go_wp2_with fail
      go_ret
      exact ⟨rfl, H.out.below⟩
    have d3 : decide (4 < j.ok) = false := decide_eq_false x3
    exact absurd (show kindP j from ⟨by omega, by omega⟩) h
  · have kv : dc (viewsP j l r o) = false := dc_no h
    rw [kv] at C0
    have d0 : decide (j.kind < 1) = false := decide_eq_false (by have := hk.1; have := hk.2; omega)
    have d1 : decide (2 < j.kind) = false := decide_eq_false (by have := hk.1; have := hk.2; omega)
    have d2 : decide (j.ok < 1) = false := decide_eq_false (by have := hk.1; have := hk.2; omega)
    have d3 : decide (4 < j.ok) = false := decide_eq_false (by have := hk.1; have := hk.2; omega)
    clear h hk kv
    go_enter Try.func18, Try.ntmps18
    go_upto_region 2 with (first | (refine wpList_load_mid rfl 36 (.tmp 4) rfl w.heap.size 0 (by rfl) (jcells j).toList _ (jrange w j _) Try.underlying36 rfl (jinfo j) ?_) | (go_at_call 31; refine (C0.out _).mono ?_; clear C0; rintro e w1 ⟨rfl, hb⟩; have H := hid' (JBox.new (j := j) rfl hb); clear hb; have hc := H.out.cells; have hz := H.out.size))
    go_wp2_with fail
    go_ret
    exact ⟨rfl, H.out.below⟩
  · have kv : dc (viewsP j l r o) = true := dc_yes hv
    rw [kv] at C0
    have d0 : decide (j.kind < 1) = false := decide_eq_false (by have := hk.1; have := hk.2; omega)
    have d1 : decide (2 < j.kind) = false := decide_eq_false (by have := hk.1; have := hk.2; omega)
    have d2 : decide (j.ok < 1) = false := decide_eq_false (by have := hk.1; have := hk.2; omega)
    have d3 : decide (4 < j.ok) = false := decide_eq_false (by have := hk.1; have := hk.2; omega)
    clear hk hv kv
    by_cases y0 : j.l.cols = j.r.rows
    case neg =>
      have n0 : (j.l.cols != j.r.rows) = true := by simpa using y0
      clear h y0
      go_enter Try.func18, Try.ntmps18
      go_upto_region 2 with (first | (refine wpList_load_mid rfl 36 (.tmp 4) rfl w.heap.size 0 (by rfl) (jcells j).toList _ (jrange w j _) Try.underlying36 rfl (jinfo j) ?_) | (go_at_call 31; refine (C0.out _).mono ?_; clear C0; rintro e w1 ⟨rfl, hb⟩; have H := hid' (JBox.new (j := j) rfl hb); clear hb; have hc := H.out.cells; have hz := H.out.size))
      go_wp2_with fail
      go_ret
      exact ⟨rfl, H.out.below⟩
    have n0 : (j.l.cols != j.r.rows) = false := by simpa using y0
    by_cases y1 : j.o.rows = j.l.rows
    case neg =>
      have n1 : (j.o.rows != j.l.rows) = true := by simpa using y1
      clear h y0 y1
      go_enter Try.func18, Try.ntmps18
      go_upto_region 2 with (first | (refine wpList_load_mid rfl 36 (.tmp 4) rfl w.heap.size 0 (by rfl) (jcells j).toList _ (jrange w j _) Try.underlying36 rfl (jinfo j) ?_) | (go_at_call 31; refine (C0.out _).mono ?_; clear C0; rintro e w1 ⟨rfl, hb⟩; have H := hid' (JBox.new (j := j) rfl hb); clear hb; have hc := H.out.cells; have hz := H.out.size))
      go_wp2_with fail
      go_ret
      exact ⟨rfl, H.out.below⟩
    have n1 : (j.o.rows != j.l.rows) = false := by simpa using y1
    by_cases y2 : j.o.cols = j.r.cols
    case neg =>
      have n2 : (j.o.cols != j.r.cols) = true := by simpa using y2
      clear h y0 y1 y2
      go_enter Try.func18, Try.ntmps18
      go_upto_region 2 with (first | (refine wpList_load_mid rfl 36 (.tmp 4) rfl w.heap.size 0 (by rfl) (jcells j).toList _ (jrange w j _) Try.underlying36 rfl (jinfo j) ?_) | (go_at_call 31; refine (C0.out _).mono ?_; clear C0; rintro e w1 ⟨rfl, hb⟩; have H := hid' (JBox.new (j := j) rfl hb); clear hb; have hc := H.out.cells; have hz := H.out.size))
      go_wp2_with fail
      go_ret
      exact ⟨rfl, H.out.below⟩
    have n2 : (j.o.cols != j.r.cols) = false := by simpa using y2
    exact absurd (show shapeP j from ⟨y0, y1, y2⟩) h

end Go.Proofs.Ytpoejdkfhofimaa

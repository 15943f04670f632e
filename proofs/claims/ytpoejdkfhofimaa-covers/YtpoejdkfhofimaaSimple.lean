import Derived.Test.YtpoejdkfhofimaaCheck
namespace Go.Proofs.Ytpoejdkfhofimaa
open Go.RowKit Classical

/-- a view of rows and columns side by side; the simple job -/
def pv (r c : Int) : Vw := ⟨r, c, 0, c, 1, false⟩
def sj (r d c : Int) : Jb := ⟨1, pv r d, pv d c, 0, 0, pv r c, 4, 0, ⟨none, 0, 0⟩, 0, ⟨none, 0, 0⟩, ⟨none, 0, 0⟩, 0, -2147483648, 2147483647, 2, 1, 3, 2⟩

set_option maxHeartbeats 400000 in
theorem plain_any (r c : Int) (w : World) :
    Calls Try.prog 61 #[.int .i64 r, .int .i64 c] w fun e w' => e = .returned (.agg #[.int .i64 r, .int .i64 c, .int .i64 0, .int .i64 c, .int .i64 1, .bool false]) ∧ Below w.heap.size w w' := by
  go_enter Try.func61, Try.ntmps61
  go_wp2
  exact bodyPost_ret (v := .agg #[.int .i64 r, .int .i64 c, .int .i64 0, .int .i64 c, .int .i64 1, .bool false]) (by simp [results, Try.results61, go_sem]) rfl ⟨rfl, (Below.refl _ _).alloc (Nat.le_refl _) _⟩

/-- a block of n cells behind those of w0, that may be written; nothing of w0 has turned -/
structure ZBox (w0 w1 : World) (n : Nat) : Prop where
  below : Below w0.heap.size w0 w1
  size : w0.heap.size < w1.heap.size
  there : w1.there w0.heap.size 0 n
theorem ZBox.new {w0 w1 : World} {cs : Array Value} {t : TypeId} {n : Nat} (hn : cs.size = n) (hb : Below (w0.alloc (.cells cs t)).heap.size (w0.alloc (.cells cs t)) w1) : ZBox w0 w1 n := by
  refine ⟨((Below.refl _ _).alloc (Nat.le_refl _) _).trans (hb.mono (by simp)), by have := hb.size; simp at this; omega, fun k hk => ?_⟩
  rw [hb.cell (p := ⟨w0.heap.size, 0 + k, none⟩) (by simp), hb.frozen (p := ⟨w0.heap.size, 0 + k, none⟩) (by simp), World.cell?_alloc_at _ _ _ _ rfl]
  refine ⟨by simp; omega, ?_⟩
  unfold World.frozen?
  rw [heap_alloc_new]
  simp
theorem ZBox.on {w0 w1 w2 : World} {n : Nat} (h : ZBox w0 w1 n) (hb : Below w1.heap.size w1 w2) : ZBox w0 w2 n :=
  ⟨h.below.trans (hb.mono (by have := h.size; omega)), by have := h.size; have := hb.size; omega, fun k hk => by
    rw [hb.cell (p := ⟨w0.heap.size, 0 + k, none⟩) h.size, hb.frozen (p := ⟨w0.heap.size, 0 + k, none⟩) h.size]; exact h.there k hk⟩
theorem below_setCells {B b : Nat} : ∀ (vs : List Value) (o : Nat) (a w : World), Below B a w → B ≤ b → Below B a (w.setCells b o vs)
  | [], _, _, _, h, _ => h
  | v :: vs, o, a, _, h, hb => below_setCells vs (o + 1) a _ (h.setCell (p := ⟨b, o, none⟩) hb v) hb
theorem results_row {fn : Func} {p : Tmp} {ty : TypeId} {a : Addr} {v : Value} {P : Program} {w : World} (h : fn.results = #[.cell p ty]) (tmps : Array Value) (ha : tmps.getD p undef = .pointer (some a)) (hl : (loadVar ty a).run P w = .ok v w) :
    (results fn tmps).run P w = .ok v w := by
  have e : (results fn tmps).run P w = ((asAddr (tmps.getD p undef)).run P w).andThen fun a w₁ => (loadVar ty a).run P w₁ := by
    simp only [results, h]
    simp [Sem.run_bind, Result.andThen]
  rw [e, ha]
  exact hl
theorem sj_one (r d c : Int) : (jcells (sj r d c)).all (·.oneCell') = true := by simp [jcells, sj, pv, Value.oneCell']

set_option maxRecDepth 100000 in
set_option maxHeartbeats 1000000 in
theorem simple_any (r d c : Int) (w : World) :
    Calls Try.prog 42 #[.int .i64 r, .int .i64 d, .int .i64 c] w fun e w' => e = .returned (.agg (jcells (sj r d c))) ∧ Below w.heap.size w w' := by
  go_enter Try.func42, Try.ntmps42
  go_wp2_with (first | (go_at_call 61; refine (plain_any _ _ _).mono ?_; rintro e w1 ⟨rfl, hb⟩; first | (have Z2 := hid' (Z.out.on hb); clear Z hb; have Z := Z2; clear Z2) | (have Z := hid' (ZBox.new (n := 34) rfl hb); clear hb)) | (refine wpList_store_mid rfl 36 (.tmp 6) (.tmp 16) rfl w.heap.size 0 (jcells (sj r d c)) rfl rfl Z.out.there (by rw [jc_size]; kernel_rfl) (sj_one r d c) ?_))
  have HR := World.rangeAt_setCells_same _ _ _ (jcells (sj r d c)).toList Z.out.there
  have HL := run_loadVar_mid (P := Try.prog) _ w.heap.size 0 36 (jcells (sj r d c)).toList _ HR Try.underlying36 rfl (jinfo _)
  rw [Array.toArray_toList] at HL
  exact bodyPost_ret (v := .agg (jcells (sj r d c))) (results_row rfl _ rfl HL) rfl ⟨rfl, below_setCells _ _ _ _ Z.out.below (Nat.le_refl _)⟩

end Go.Proofs.Ytpoejdkfhofimaa

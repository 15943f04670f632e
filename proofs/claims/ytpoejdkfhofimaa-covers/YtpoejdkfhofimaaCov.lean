import Derived.Test.YtpoejdkfhofimaaPlanning2
import Derived.Test.YtpoejdkfhofimaaCovL
import Derived.Test.YtpoejdkfhofimaaShares
import Derived.Test.YtpoejdkfhofimaaRShared
import Derived.Deep.Cut
import Derived.Deep.CutRange
namespace Go.Proofs.Ytpoejdkfhofimaa
open Go.RowKit Classical Tl

/-- what the counters hold -/
def SeenAt (G n : Nat) (f : Nat → Nat) (W : World) : Prop := ∀ x : Nat, x < n → W.cell? ⟨G, x, none⟩ = some (.int .i64 (f x : Int)) ∧ W.frozen? ⟨G, x, none⟩ = false
theorem SeenAt.on {G n : Nat} {f : Nat → Nat} {W W' : World} (h : SeenAt G n f W) (hb : Below W.heap.size W W') : SeenAt G n f W' := fun x hx => by
  have hlt := World.block_lt_of_cell? W _ (h x hx).1
  rw [hb.cell (p := ⟨G, x, none⟩) hlt, hb.frozen (p := ⟨G, x, none⟩) hlt]
  exact h x hx
theorem SeenAt.to {G n : Nat} {f f' : Nat → Nat} {W : World} (h : SeenAt G n f W) (he : ∀ x, x < n → f' x = f x) : SeenAt G n f' W := fun x hx => by rw [he x hx]; exact h x hx
theorem SeenAt.set {G n x0 : Nat} {f f' : Nat → Nat} {W : World} {v : Int} (h : SeenAt G n f W) (h0 : x0 < n) (hv : v = (f' x0 : Int)) (he : ∀ x, x < n → x ≠ x0 → f' x = f x) : SeenAt G n f' (W.setCell ⟨G, x0, none⟩ (.int .i64 v)) := fun x hx => by
  rw [World.frozen?_setCell]
  refine ⟨?_, (h x hx).2⟩
  by_cases e : x = x0
  · subst e
    rw [World.cell?_setCell_same' _ _ _ (by rw [(h x hx).1]; rfl), hv]
  · rw [cell_off _ _ _ _ _ e, he x hx e]; exact (h x hx).1

/-- the tile at hand -/
def TBox (B : Nat) (i b k d : Nat) (W : World) : Prop := B < W.heap.size ∧ W.cell? ⟨B, 0, none⟩ = some (.int .i64 (i : Int)) ∧ W.cell? ⟨B, 1, none⟩ = some (.int .i64 (b : Int)) ∧ W.cell? ⟨B, 2, none⟩ = some (.int .i64 (k : Int)) ∧ W.cell? ⟨B, 3, none⟩ = some (.int .i64 (d : Int))
theorem TBox.set {B G i b k d x : Nat} {W : World} {v : Value} (h : TBox B i b k d W) (hne : B ≠ G) : TBox B i b k d (W.setCell ⟨G, x, none⟩ v) := by
  obtain ⟨h1, h2, h3, h4, h5⟩ := h
  refine ⟨by simpa using h1, ?_, ?_, ?_, ?_⟩ <;> (rw [cell_far _ _ _ _ (by simpa using hne)]; assumption)

def mki (n : Nat) : Array Value := madeCells #[.int .i64 0] n
theorem mki_at (n i : Nat) (h : i < n) : (mki n)[i]? = some (.int .i64 0) := by simp [mki, madeCells, h, Nat.mod_one]
theorem make_ints (n : Nat) (m : Int) (hm : m = (n : Int)) (hn : n ≤ 5000) (W : World) : (Instr.makeSlice 34 (.int .i64 m) (.int .i64 m)).run Try.prog W = .ok (.slice (some ⟨W.heap.size, 0, none⟩) n n) (W.alloc (.cells (mki n) 3)) := by
  subst hm
  obtain ⟨i0, hi, hz0, hz1, hz2⟩ := info_parts Try.info3
  have := run_make (P := Try.prog) W 34 3 i0 (.int .i64 0) Try.underlying34 hi hz0 .i64 .i64 n n (by omega) (Int.le_refl _) (by rw [hz2]; omega) (by omega)
  rw [this, hz1]
  simp [mki, Value.cells]

/-- what Plan hands back where it hands back tiles -/
structure Tiles (a : Option Addr) (n : Nat) (zs : List Int) (W : World) : Prop where
  len : n * 4 = zs.length
  lies : 0 < n → ∃ g, a = some ⟨g, 0, none⟩ ∧ g < W.heap.size ∧ ∀ x, x < n * 4 → W.cell? ⟨g, x, none⟩ = some (.int .i64 (zs.getD x 0))
theorem Plan_tiles (j : Jb) (w : World) : Calls Try.prog 19 #[.agg (jcells j)] w fun e w' => ∃ a n c, e = .returned (.tuple #[.slice a n c, .int .i64 (planE j)]) ∧ Tiles a n (planT j) w' ∧ Below w.heap.size w w' := by
  refine (Plan_any j w).mono ?_
  rintro e w' ⟨v, n, rfl, hown, hb⟩
  obtain ⟨a, c, rfl, f⟩ := own_forms hown
  have hl : n * 4 = (planT j).length := by have := hown.1; simp [ints] at this; omega
  refine ⟨a, n, c, rfl, ⟨hl, fun h0 => ?_⟩, hb⟩
  obtain ⟨g, rfl⟩ := f h0
  exact ⟨g, rfl, (hown.lt g rfl).2, fun x hx => by rw [hown.cellAt x hx, ints_at' _ x (by omega)]⟩

set_option maxRecDepth 100000 in
set_option maxHeartbeats 1000000 in
theorem cov_no (j : Jb) (w : World) (h : planE j ≠ 0) (hT : planT j = []) :
    Calls Try.prog 8 #[.agg (jcells j)] w fun e w' => e = .returned (.bool true) ∧ Below w.heap.size w w' := by
  have P0 := hid' planning_any
  have P1 := hid' (Plan_tiles j)
  rw [hT] at P1
  have hE : (planE j != 0) = true := by simpa using h
  clear h hT
  go_enter Try.func8, Try.ntmps8
  go_upto_region 3 with (first | (go_at_call 22; refine (P0.out _).mono ?_; clear P0; rintro e w1 ⟨rfl, hb⟩; have H := hid' (JBox.new (j := j) rfl hb); clear hb) | (go_at_call 19; refine (P1.out _).mono ?_; clear P1; rintro e w2 ⟨a, n, c, rfl, ht, hb⟩; have H2 := hid' (H.out.on hb); have HT := hid' ht; clear hb ht) | (refine wpList_load_mid rfl 36 (.tmp 1) rfl w.heap.size 0 rfl (jcells j).toList _ H.out.range Try.underlying36 rfl (jinfo j) ?_))
  have hn : n = 0 := by have := HT.out.len; simp at this; omega
  subst hn
  go_wp2_with fail
  go_ret
  exact ⟨rfl, H2.out.below⟩

end Go.Proofs.Ytpoejdkfhofimaa

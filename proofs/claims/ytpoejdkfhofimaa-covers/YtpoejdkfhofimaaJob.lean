import Derived.Test.YtpoejdkfhofimaaKinds
import Derived.Deep.MidRow
namespace Go.Proofs.Ytpoejdkfhofimaa
open Go.RowKit

/-- a view, a slice, a job: as numbers -/
structure Vw where
  rows : Int
  cols : Int
  off : Int
  rs : Int
  cs : Int
  tn : Bool
structure Sl where
  a : Option Addr
  len : Nat
  cap : Nat
structure Jb where
  kind : Int
  l : Vw
  r : Vw
  lz : Int
  rz : Int
  o : Vw
  ok : Int
  bb : Int
  bias : Sl
  sb : Int
  fac : Sl
  shi : Sl
  oz : Int
  low : Int
  high : Int
  br : Int
  bc : Int
  bd : Int
  wk : Int

/-- their cells -/
def vcells (v : Vw) : Array Value := #[.int .i64 v.rows, .int .i64 v.cols, .int .i64 v.off, .int .i64 v.rs, .int .i64 v.cs, .bool v.tn]
def jcells (j : Jb) : Array Value := #[.int .i64 j.kind,
  .int .i64 j.l.rows, .int .i64 j.l.cols, .int .i64 j.l.off, .int .i64 j.l.rs, .int .i64 j.l.cs, .bool j.l.tn,
  .int .i64 j.r.rows, .int .i64 j.r.cols, .int .i64 j.r.off, .int .i64 j.r.rs, .int .i64 j.r.cs, .bool j.r.tn,
  .int .i64 j.lz, .int .i64 j.rz,
  .int .i64 j.o.rows, .int .i64 j.o.cols, .int .i64 j.o.off, .int .i64 j.o.rs, .int .i64 j.o.cs, .bool j.o.tn,
  .int .i64 j.ok, .int .i64 j.bb, .slice j.bias.a j.bias.len j.bias.cap, .int .i64 j.sb, .slice j.fac.a j.fac.len j.fac.cap, .slice j.shi.a j.shi.len j.shi.cap,
  .int .i64 j.oz, .int .i64 j.low, .int .i64 j.high, .int .i64 j.br, .int .i64 j.bc, .int .i64 j.bd, .int .i64 j.wk]

theorem bcell {W w1 : World} (hb : Below W.heap.size W w1) : (∀ b o, b < W.heap.size → w1.cell? ⟨b, o, none⟩ = W.cell? ⟨b, o, none⟩) ∧ (∀ b o, b < W.heap.size → w1.frozen? ⟨b, o, none⟩ = W.frozen? ⟨b, o, none⟩) :=
  ⟨fun b o h => hb.cell (p := ⟨b, o, none⟩) h, fun b o h => hb.frozen (p := ⟨b, o, none⟩) h⟩

/-- the cells of a job, each by its place -/
@[go_sem] theorem jc_size (j : Jb) : (jcells j).size = 34 := rfl
@[go_sem] theorem jc_0 (j : Jb) : (jcells j)[0]? = some (.int .i64 j.kind) := rfl
@[go_sem] theorem jc_1 (j : Jb) : (jcells j)[1]? = some (.int .i64 j.l.rows) := rfl
@[go_sem] theorem jc_2 (j : Jb) : (jcells j)[2]? = some (.int .i64 j.l.cols) := rfl
@[go_sem] theorem jc_3 (j : Jb) : (jcells j)[3]? = some (.int .i64 j.l.off) := rfl
@[go_sem] theorem jc_4 (j : Jb) : (jcells j)[4]? = some (.int .i64 j.l.rs) := rfl
@[go_sem] theorem jc_5 (j : Jb) : (jcells j)[5]? = some (.int .i64 j.l.cs) := rfl
@[go_sem] theorem jc_6 (j : Jb) : (jcells j)[6]? = some (.bool j.l.tn) := rfl
@[go_sem] theorem jc_7 (j : Jb) : (jcells j)[7]? = some (.int .i64 j.r.rows) := rfl
@[go_sem] theorem jc_8 (j : Jb) : (jcells j)[8]? = some (.int .i64 j.r.cols) := rfl
@[go_sem] theorem jc_9 (j : Jb) : (jcells j)[9]? = some (.int .i64 j.r.off) := rfl
@[go_sem] theorem jc_10 (j : Jb) : (jcells j)[10]? = some (.int .i64 j.r.rs) := rfl
@[go_sem] theorem jc_11 (j : Jb) : (jcells j)[11]? = some (.int .i64 j.r.cs) := rfl
@[go_sem] theorem jc_12 (j : Jb) : (jcells j)[12]? = some (.bool j.r.tn) := rfl
@[go_sem] theorem jc_13 (j : Jb) : (jcells j)[13]? = some (.int .i64 j.lz) := rfl
@[go_sem] theorem jc_14 (j : Jb) : (jcells j)[14]? = some (.int .i64 j.rz) := rfl
@[go_sem] theorem jc_15 (j : Jb) : (jcells j)[15]? = some (.int .i64 j.o.rows) := rfl
@[go_sem] theorem jc_16 (j : Jb) : (jcells j)[16]? = some (.int .i64 j.o.cols) := rfl
@[go_sem] theorem jc_17 (j : Jb) : (jcells j)[17]? = some (.int .i64 j.o.off) := rfl
@[go_sem] theorem jc_18 (j : Jb) : (jcells j)[18]? = some (.int .i64 j.o.rs) := rfl
@[go_sem] theorem jc_19 (j : Jb) : (jcells j)[19]? = some (.int .i64 j.o.cs) := rfl
@[go_sem] theorem jc_20 (j : Jb) : (jcells j)[20]? = some (.bool j.o.tn) := rfl
@[go_sem] theorem jc_21 (j : Jb) : (jcells j)[21]? = some (.int .i64 j.ok) := rfl
@[go_sem] theorem jc_22 (j : Jb) : (jcells j)[22]? = some (.int .i64 j.bb) := rfl
@[go_sem] theorem jc_23 (j : Jb) : (jcells j)[23]? = some (.slice j.bias.a j.bias.len j.bias.cap) := rfl
@[go_sem] theorem jc_24 (j : Jb) : (jcells j)[24]? = some (.int .i64 j.sb) := rfl
@[go_sem] theorem jc_25 (j : Jb) : (jcells j)[25]? = some (.slice j.fac.a j.fac.len j.fac.cap) := rfl
@[go_sem] theorem jc_26 (j : Jb) : (jcells j)[26]? = some (.slice j.shi.a j.shi.len j.shi.cap) := rfl
@[go_sem] theorem jc_27 (j : Jb) : (jcells j)[27]? = some (.int .i64 j.oz) := rfl
@[go_sem] theorem jc_28 (j : Jb) : (jcells j)[28]? = some (.int .i64 j.low) := rfl
@[go_sem] theorem jc_29 (j : Jb) : (jcells j)[29]? = some (.int .i64 j.high) := rfl
@[go_sem] theorem jc_30 (j : Jb) : (jcells j)[30]? = some (.int .i64 j.br) := rfl
@[go_sem] theorem jc_31 (j : Jb) : (jcells j)[31]? = some (.int .i64 j.bc) := rfl
@[go_sem] theorem jc_32 (j : Jb) : (jcells j)[32]? = some (.int .i64 j.bd) := rfl
@[go_sem] theorem jc_33 (j : Jb) : (jcells j)[33]? = some (.int .i64 j.wk) := rfl

/-- a job lies in the block behind those of w0, and nothing of w0 has turned -/
structure JBox (w0 w1 : World) (j : Jb) : Prop where
  below : Below w0.heap.size w0 w1
  size : w0.heap.size < w1.heap.size
  cells : ∀ i : Nat, w1.cell? ⟨w0.heap.size, i, none⟩ = (jcells j)[i]?
theorem JBox.new {w0 w1 : World} {j : Jb} {cs : Array Value} {t : TypeId} (hcs : cs = jcells j) (hb : Below (w0.alloc (.cells cs t)).heap.size (w0.alloc (.cells cs t)) w1) : JBox w0 w1 j := by
  subst hcs
  refine ⟨((Below.refl _ _).alloc (Nat.le_refl _) _).trans (hb.mono (by simp)), by have := hb.size; simp at this; omega, fun i => ?_⟩
  rw [hb.cell (p := ⟨w0.heap.size, i, none⟩) (by simp)]
  exact World.cell?_alloc_at _ _ _ _ rfl
theorem JBox.range {w0 w1 : World} {j : Jb} (h : JBox w0 w1 j) : w1.rangeAt w0.heap.size 0 (jcells j).toList := fun i v hv => by
  rw [Nat.zero_add, h.cells i]; simpa using hv
theorem jrange (w : World) (j : Jb) (t : TypeId) : (w.alloc (.cells (jcells j) t)).rangeAt w.heap.size 0 (jcells j).toList := fun i v hv => by
  rw [Nat.zero_add, World.cell?_alloc_at _ _ _ _ rfl]; simpa using hv
theorem jinfo (j : Jb) : (Try.prog.info? 36).map (·.size) = some (jcells j).toList.length := by
  show _ = some 34
  kernel_rfl
theorem JBox.on {w0 w1 w2 : World} {j : Jb} (h : JBox w0 w1 j) (hb : Below w1.heap.size w1 w2) : JBox w0 w2 j :=
  ⟨h.below.trans (hb.mono (by have := h.size; omega)), by have := h.size; have := hb.size; omega, fun i => (hb.cell (p := ⟨w0.heap.size, i, none⟩) h.size).trans (h.cells i)⟩

/-- the three sides of a block -/
def blkB (j : Jb) : Bool := Pl.inB 1 64 j.br && (Pl.inB 1 64 j.bc && Pl.inB 1 64 j.bd)
/-- the two sides of a view -/
def sidB (v : Vw) : Bool := Pl.inB 0 24 v.rows && Pl.inB 0 24 v.cols

theorem blkB_1 {j : Jb} (h : Pl.inB 1 64 j.br = false) : blkB j = false := by simp [blkB, h]
theorem blkB_2 {j : Jb} (h : Pl.inB 1 64 j.bc = false) : blkB j = false := by simp [blkB, h]
theorem blkB_3 {j : Jb} (h1 : Pl.inB 1 64 j.br = true) (h2 : Pl.inB 1 64 j.bc = true) : blkB j = Pl.inB 1 64 j.bd := by simp [blkB, h1, h2]
theorem sidB_1 {v : Vw} (h : Pl.inB 0 24 v.rows = false) : sidB v = false := by simp [sidB, h]
theorem sidB_2 {v : Vw} (h : Pl.inB 0 24 v.rows = true) : sidB v = Pl.inB 0 24 v.cols := by simp [sidB, h]

set_option maxHeartbeats 1000000 in
theorem blocks_any (j : Jb) (w : World) :
    Calls Try.prog 39 #[.agg (jcells j)] w fun e w' => e = .returned (.bool (blkB j)) ∧ Below w.heap.size w w' := by
  cases k1 : Pl.inB 1 64 j.br
  · have E := blkB_1 k1
    have E' : Hid (false = blkB j) := E.symm
    clear E
    go_enter Try.func39, Try.ntmps39
    go_wp2_with (first | (go_at_call 60; refine (isBlock_any _ _).mono ?_; rintro e w' ⟨rfl, rfl⟩) | go_in)
    go_ret
    exact ⟨ret_bool E'.out, (Below.refl _ _).alloc (Nat.le_refl _) _⟩
  · cases k2 : Pl.inB 1 64 j.bc
    · have E := blkB_2 k2
      have E' : Hid (false = blkB j) := E.symm
      clear E
      go_enter Try.func39, Try.ntmps39
      go_wp2_with (first | (go_at_call 60; refine (isBlock_any _ _).mono ?_; rintro e w' ⟨rfl, rfl⟩) | go_in)
      go_ret
      exact ⟨ret_bool E'.out, (Below.refl _ _).alloc (Nat.le_refl _) _⟩
    · have E := blkB_3 k1 k2
      have E' : Hid (Pl.inB 1 64 j.bd = blkB j) := E.symm
      clear E
      go_enter Try.func39, Try.ntmps39
      go_wp2_with (first | (go_at_call 60; refine (isBlock_any _ _).mono ?_; rintro e w' ⟨rfl, rfl⟩) | go_in)
      go_ret
      exact ⟨ret_bool E'.out, (Below.refl _ _).alloc (Nat.le_refl _) _⟩

set_option maxHeartbeats 1000000 in
theorem sides_any (v : Vw) (w : World) :
    Calls Try.prog 38 #[.agg (vcells v)] w fun e w' => e = .returned (.bool (sidB v)) ∧ Below w.heap.size w w' := by
  unfold vcells
  cases k1 : Pl.inB 0 24 v.rows
  · have E := sidB_1 k1
    have E' : Hid (false = sidB v) := E.symm
    clear E
    go_enter Try.func38, Try.ntmps38
    go_wp2_with (first | (go_at_call 59; refine (isSide_any _ _).mono ?_; rintro e w' ⟨rfl, rfl⟩) | go_in)
    go_ret
    exact ⟨ret_bool E'.out, (Below.refl _ _).alloc (Nat.le_refl _) _⟩
  · have E := sidB_2 k1
    have E' : Hid (Pl.inB 0 24 v.cols = sidB v) := E.symm
    clear E
    go_enter Try.func38, Try.ntmps38
    go_wp2_with (first | (go_at_call 59; refine (isSide_any _ _).mono ?_; rintro e w' ⟨rfl, rfl⟩) | go_in)
    go_ret
    exact ⟨ret_bool E'.out, (Below.refl _ _).alloc (Nat.le_refl _) _⟩

end Go.Proofs.Ytpoejdkfhofimaa

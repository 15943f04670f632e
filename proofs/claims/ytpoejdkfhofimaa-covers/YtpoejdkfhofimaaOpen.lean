import Derived.Test.YtpoejdkfhofimaaJob
import Derived.ProofKit
import Derived.OpenShut
import Derived.ChangeOld
import Derived.Below
namespace Go.Proofs.Ytpoejdkfhofimaa
set_option maxRecDepth 100000
open Go.ChangeShapes Go.WideShapes Go.ChangeAt Go.RowKit

/-- a number of 64 bits -/
def ok64 (x : Int) : Prop := -9223372036854775808 ≤ x ∧ x ≤ 9223372036854775807
structure VOK (v : Vw) : Prop where
  rows : ok64 v.rows
  cols : ok64 v.cols
  off : ok64 v.off
  rs : ok64 v.rs
  cs : ok64 v.cs
structure JOK (j : Jb) : Prop where
  kind : ok64 j.kind
  l : VOK j.l
  r : VOK j.r
  lz : ok64 j.lz
  rz : ok64 j.rz
  o : VOK j.o
  ok : ok64 j.ok
  bb : ok64 j.bb
  sb : ok64 j.sb
  oz : ok64 j.oz
  low : ok64 j.low
  high : ok64 j.high
  br : ok64 j.br
  bc : ok64 j.bc
  bd : ok64 j.bd
  wk : ok64 j.wk
/-- a slice of numbers that lies in the world -/
structure RowIs (w : World) (s : Sl) (zs : List Int) : Prop where
  len : zs.length = s.len
  max : s.len ≤ maxLen
  fits : ∀ x ∈ zs, ok64 x
  lies : 0 < s.len → ∃ b off, s.a = some ⟨b, off, none⟩ ∧ ∀ i, i < s.len → w.cell? ⟨b, off + i, none⟩ = some (.int .i64 (zs.getD i 0))

theorem cellInt {w : World} {r : Reach} {base : Nat} {v : Value} (h : Cell.okWide Try.prog w r base 3 v) : ∃ n, v = .int .i64 n ∧ ok64 n := by
  simp only [Cell.okWide, Try.underlying3] at h
  cases v <;> simp_all [Cell.ok, Try.underlying3, IntKind.has, ok64, IntKind.min, IntKind.max, IntKind.signed, IntKind.bits]
theorem cellBool {w : World} {r : Reach} {base : Nat} {v : Value} (h : Cell.okWide Try.prog w r base 4 v) : ∃ b, v = .bool b := by
  simp only [Cell.okWide, Try.underlying4] at h
  cases v <;> simp_all [Cell.ok, Try.underlying4]
theorem cellSlice {w : World} {r : Reach} {base : Nat} {v : Value} (h : Cell.okWide Try.prog w r base 34 v) : ∃ s : Sl, v = .slice s.a s.len s.cap := by
  simp only [Cell.okWide, Try.underlying34] at h
  cases v
  case slice a l c => exact ⟨⟨a, l, c⟩, rfl⟩
  all_goals simp_all [Cell.ok, Try.underlying34]
theorem at_cell {w : World} {r : Reach} {base i : Nat} {cs : Array Value} {ts : List TypeId} {v : Value} {u : TypeId} (h : ∀ i v, cs[i]? = some v → ∃ u, ts[i % ts.length]? = some u ∧ Cell.okWide Try.prog w r base u v)
    (hc : cs[i]? = some v) (hu : ts[i % ts.length]? = some u) : Cell.okWide Try.prog w r base u v := by
  obtain ⟨u', h1, h2⟩ := h i v hc
  rw [hu] at h1
  cases h1
  exact h2
theorem cons_of {l : List Value} {n : Nat} (h : l.length = n + 1) : ∃ c l', l = c :: l' ∧ l'.length = n := by
  cases l with
  | nil => simp at h
  | cons c l' => exact ⟨c, l', rfl, by simpa using h⟩

def jtypes : List TypeId := [3, 3, 3, 3, 3, 3, 4, 3, 3, 3, 3, 3, 4, 3, 3, 3, 3, 3, 3, 3, 4, 3, 3, 34, 3, 34, 34, 3, 3, 3, 3, 3, 3, 3]
theorem jtypes_are : Try.prog.cellTypes Try.prog.depth 36 = some jtypes := by kernel_rfl
theorem jcount : Try.prog.cellsOf 36 = 34 := by kernel_rfl

set_option maxHeartbeats 2000000 in
theorem open_shape {w : World} {r : Reach} {base : Nat} {v : Value} (h : Value.okWide Try.prog w r base 36 v) : ∃ j : Jb, v = .agg (jcells j) ∧ JOK j := by
  simp only [Value.okWide, Try.underlying36] at h
  obtain ⟨cs, rfl, hsz, ts, hts, _, hc⟩ := h
  rw [jtypes_are] at hts
  cases hts
  rw [jcount] at hsz
  obtain ⟨l0⟩ := cs
  have s0 : l0.length = 34 := hsz
  clear hsz
  obtain ⟨c0, l1, rfl, s1⟩ := cons_of s0
  obtain ⟨c1, l2, rfl, s2⟩ := cons_of s1
  obtain ⟨c2, l3, rfl, s3⟩ := cons_of s2
  obtain ⟨c3, l4, rfl, s4⟩ := cons_of s3
  obtain ⟨c4, l5, rfl, s5⟩ := cons_of s4
  obtain ⟨c5, l6, rfl, s6⟩ := cons_of s5
  obtain ⟨c6, l7, rfl, s7⟩ := cons_of s6
  obtain ⟨c7, l8, rfl, s8⟩ := cons_of s7
  obtain ⟨c8, l9, rfl, s9⟩ := cons_of s8
  obtain ⟨c9, l10, rfl, s10⟩ := cons_of s9
  obtain ⟨c10, l11, rfl, s11⟩ := cons_of s10
  obtain ⟨c11, l12, rfl, s12⟩ := cons_of s11
  obtain ⟨c12, l13, rfl, s13⟩ := cons_of s12
  obtain ⟨c13, l14, rfl, s14⟩ := cons_of s13
  obtain ⟨c14, l15, rfl, s15⟩ := cons_of s14
  obtain ⟨c15, l16, rfl, s16⟩ := cons_of s15
  obtain ⟨c16, l17, rfl, s17⟩ := cons_of s16
  obtain ⟨c17, l18, rfl, s18⟩ := cons_of s17
  obtain ⟨c18, l19, rfl, s19⟩ := cons_of s18
  obtain ⟨c19, l20, rfl, s20⟩ := cons_of s19
  obtain ⟨c20, l21, rfl, s21⟩ := cons_of s20
  obtain ⟨c21, l22, rfl, s22⟩ := cons_of s21
  obtain ⟨c22, l23, rfl, s23⟩ := cons_of s22
  obtain ⟨c23, l24, rfl, s24⟩ := cons_of s23
  obtain ⟨c24, l25, rfl, s25⟩ := cons_of s24
  obtain ⟨c25, l26, rfl, s26⟩ := cons_of s25
  obtain ⟨c26, l27, rfl, s27⟩ := cons_of s26
  obtain ⟨c27, l28, rfl, s28⟩ := cons_of s27
  obtain ⟨c28, l29, rfl, s29⟩ := cons_of s28
  obtain ⟨c29, l30, rfl, s30⟩ := cons_of s29
  obtain ⟨c30, l31, rfl, s31⟩ := cons_of s30
  obtain ⟨c31, l32, rfl, s32⟩ := cons_of s31
  obtain ⟨c32, l33, rfl, s33⟩ := cons_of s32
  obtain ⟨c33, l34, rfl, s34⟩ := cons_of s33
  obtain rfl : l34 = [] := List.length_eq_zero_iff.1 s34
  obtain ⟨x0, rfl, h0⟩ := cellInt (at_cell hc (i := 0) rfl rfl)
  obtain ⟨x1, rfl, h1⟩ := cellInt (at_cell hc (i := 1) rfl rfl)
  obtain ⟨x2, rfl, h2⟩ := cellInt (at_cell hc (i := 2) rfl rfl)
  obtain ⟨x3, rfl, h3⟩ := cellInt (at_cell hc (i := 3) rfl rfl)
  obtain ⟨x4, rfl, h4⟩ := cellInt (at_cell hc (i := 4) rfl rfl)
  obtain ⟨x5, rfl, h5⟩ := cellInt (at_cell hc (i := 5) rfl rfl)
  obtain ⟨x6, rfl⟩ := cellBool (at_cell hc (i := 6) rfl rfl)
  obtain ⟨x7, rfl, h7⟩ := cellInt (at_cell hc (i := 7) rfl rfl)
  obtain ⟨x8, rfl, h8⟩ := cellInt (at_cell hc (i := 8) rfl rfl)
  obtain ⟨x9, rfl, h9⟩ := cellInt (at_cell hc (i := 9) rfl rfl)
  obtain ⟨x10, rfl, h10⟩ := cellInt (at_cell hc (i := 10) rfl rfl)
  obtain ⟨x11, rfl, h11⟩ := cellInt (at_cell hc (i := 11) rfl rfl)
  obtain ⟨x12, rfl⟩ := cellBool (at_cell hc (i := 12) rfl rfl)
  obtain ⟨x13, rfl, h13⟩ := cellInt (at_cell hc (i := 13) rfl rfl)
  obtain ⟨x14, rfl, h14⟩ := cellInt (at_cell hc (i := 14) rfl rfl)
  obtain ⟨x15, rfl, h15⟩ := cellInt (at_cell hc (i := 15) rfl rfl)
  obtain ⟨x16, rfl, h16⟩ := cellInt (at_cell hc (i := 16) rfl rfl)
  obtain ⟨x17, rfl, h17⟩ := cellInt (at_cell hc (i := 17) rfl rfl)
  obtain ⟨x18, rfl, h18⟩ := cellInt (at_cell hc (i := 18) rfl rfl)
  obtain ⟨x19, rfl, h19⟩ := cellInt (at_cell hc (i := 19) rfl rfl)
  obtain ⟨x20, rfl⟩ := cellBool (at_cell hc (i := 20) rfl rfl)
  obtain ⟨x21, rfl, h21⟩ := cellInt (at_cell hc (i := 21) rfl rfl)
  obtain ⟨x22, rfl, h22⟩ := cellInt (at_cell hc (i := 22) rfl rfl)
  obtain ⟨x23, rfl⟩ := cellSlice (at_cell hc (i := 23) rfl rfl)
  obtain ⟨x24, rfl, h24⟩ := cellInt (at_cell hc (i := 24) rfl rfl)
  obtain ⟨x25, rfl⟩ := cellSlice (at_cell hc (i := 25) rfl rfl)
  obtain ⟨x26, rfl⟩ := cellSlice (at_cell hc (i := 26) rfl rfl)
  obtain ⟨x27, rfl, h27⟩ := cellInt (at_cell hc (i := 27) rfl rfl)
  obtain ⟨x28, rfl, h28⟩ := cellInt (at_cell hc (i := 28) rfl rfl)
  obtain ⟨x29, rfl, h29⟩ := cellInt (at_cell hc (i := 29) rfl rfl)
  obtain ⟨x30, rfl, h30⟩ := cellInt (at_cell hc (i := 30) rfl rfl)
  obtain ⟨x31, rfl, h31⟩ := cellInt (at_cell hc (i := 31) rfl rfl)
  obtain ⟨x32, rfl, h32⟩ := cellInt (at_cell hc (i := 32) rfl rfl)
  obtain ⟨x33, rfl, h33⟩ := cellInt (at_cell hc (i := 33) rfl rfl)
  exact ⟨⟨x0, ⟨x1, x2, x3, x4, x5, x6⟩, ⟨x7, x8, x9, x10, x11, x12⟩, x13, x14, ⟨x15, x16, x17, x18, x19, x20⟩, x21, x22, x23, x24, x25, x26, x27, x28, x29, x30, x31, x32, x33⟩, rfl, ⟨h0, ⟨h1, h2, h3, h4, h5⟩, ⟨h7, h8, h9, h10, h11⟩, h13, h14, ⟨h15, h16, h17, h18, h19⟩, h21, h22, h24, h27, h28, h29, h30, h31, h32, h33⟩⟩

theorem open_row {H : Type} {enc : TypeId × Value → H} {w : World} {base : Nat} {spare : Nat → Bool} {held : Bool} {fuel : Nat} {s : Sl} {x : DataW H × List MemPlace}
    (h : DataW.trod enc Try.prog w base spare held fuel 34 [.slice s.a s.len s.cap] = some x) : ∃ zs, RowIs w s zs := by
  rcases open_ints Try.underlying34 Try.underlying3 (by kernel_rfl) h with ⟨hcs, _⟩ | ⟨a, l, c, zs, hcs, _, hl, hm, hz, _, hcell, hwz⟩
  · simp at hcs
    obtain ⟨h1, h2, h3⟩ := hcs
    exact ⟨[], ⟨by simp [h2], by rw [h2]; exact Nat.zero_le _, by simp, fun h => by omega⟩⟩
  · simp at hcs
    obtain ⟨h1, h2, h3⟩ := hcs
    subst h2 h3
    have hzl : s.len ≤ zs.length := by rw [hz]; split <;> omega
    refine ⟨zs.take s.len, ⟨by simp; omega, by omega, fun x hx => ?_, fun h0 => ?_⟩⟩
    · have := hwz x (List.mem_of_mem_take hx)
      exact bounds_i64 this
    · obtain ⟨b, off, rfl, hc⟩ := ints_at hcell (by omega)
      refine ⟨b, off, h1, fun i hi => ?_⟩
      rw [hc i (by omega)]
      simp [List.getD_eq_getElem?_getD, hi]

theorem open_job {H : Type} {enc : TypeId × Value → H} {w : World} {r : Reach} {base b0 : Nat} {spare : Nat → Bool} {held : Bool} {v : Value} {d : DataW H} {p : List MemPlace}
    (h : Value.okWide Try.prog w r b0 36 v) (ht : DataW.Trod enc Try.prog w base spare held 36 v d p) :
    ∃ (j : Jb) (zb zf zs : List Int), v = .agg (jcells j) ∧ JOK j ∧ RowIs w j.bias zb ∧ RowIs w j.fac zf ∧ RowIs w j.shi zs := by
  obtain ⟨j, rfl, hj⟩ := open_shape h
  obtain ⟨fuel, hf⟩ := ht
  obtain ⟨xs, n, _, _, _, hl, hx⟩ := DataW.trod_struct Try.underlying36 hf
  have hl' : xs.length = 19 := hl
  have k1 := hx 8 _ rfl
  have k2 := hx 10 _ rfl
  have k3 := hx 11 _ rfl
  rw [List.getElem?_eq_getElem (by omega)] at k1 k2 k3
  obtain ⟨zb, r1⟩ := open_row (s := j.bias) k1
  obtain ⟨zf, r2⟩ := open_row (s := j.fac) k2
  obtain ⟨zs, r3⟩ := open_row (s := j.shi) k3
  exact ⟨j, zb, zf, zs, rfl, hj, r1, r2, r3⟩

end Go.Proofs.Ytpoejdkfhofimaa

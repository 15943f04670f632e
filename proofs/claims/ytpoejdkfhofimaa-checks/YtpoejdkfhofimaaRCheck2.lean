import Derived.Test.YtpoejdkfhofimaaRCheckA
import Derived.Test.YtpoejdkfhofimaaRCheckB
import Derived.Test.YtpoejdkfhofimaaRCheckC
namespace Go.Proofs.Ytpoejdkfhofimaa
open Go.RowKit Classical

theorem lim_iff {j : Jb} : limP j ↔ numP (-2147483648) 2147483647 [j.low, j.high] 2 ∧ j.low ≤ j.high := ⟨fun h => ⟨⟨h.1, rfl⟩, h.2⟩, fun h => ⟨h.1.1, h.2⟩⟩
theorem zeros_iff {j : Jb} : zerosP j ↔ numP (-2147483648) 2147483647 [j.lz, j.rz, j.oz] 3 := ⟨fun h => ⟨h, rfl⟩, fun h => h.1⟩

theorem RCheck_late (j : Jb) (l r o : Sl) (zl zr zb zf zs : List Int) (X : Int) (w : World) (ha : Args w j l r o zl zr zb zf zs) (hk : kindP j) (hv : viewsP j l r o) (hs : shapeP j)
    (hX : errB true true true (dc (elemsP j zl zr)) (dc (twiceP j.o o.len)) (dc (zerosP j)) (dc (biasP j zb)) (dc (scaleP j zf zs)) (dc (limP j)) (blkB j) (dc (workP j)) = X) :
    Calls Try.prog 18 #[.agg (jcells j), .slice l.a l.len l.cap, .slice r.a r.len r.cap, .slice o.a o.len o.cap] w fun e w' => e = .returned (.int .i64 X) ∧ Below w.heap.size w w' := by
  subst hX
  rw [dc_eq (P := zerosP j) zeros_iff]
  cases k1 : dc (elemP j.l zl (kLo j.kind) (kHi j.kind))
  · rw [show dc (elemsP j zl zr) = false from dc_no (fun h => by rw [dc_yes h.1] at k1; cases k1)]
    exact late1 j l r o zl zr zb zf zs w ha hk hv hs k1
  cases k2 : dc (elemP j.r zr (kLo j.kind) (kHi j.kind))
  · rw [show dc (elemsP j zl zr) = false from dc_no (fun h => by rw [dc_yes h.2] at k2; cases k2)]
    exact late2 j l r o zl zr zb zf zs w ha hk hv hs k1 k2
  rw [show dc (elemsP j zl zr) = true from dc_yes ⟨dc_iff.1 k1, dc_iff.1 k2⟩]
  cases k3 : dc (twiceP j.o o.len)
  case true => exact late3 j l r o zl zr zb zf zs w ha hk hv hs k1 k2 k3
  cases k4 : dc (numP (-2147483648) 2147483647 [j.lz, j.rz, j.oz] 3)
  · exact late4 j l r o zl zr zb zf zs w ha hk hv hs k1 k2 k3 k4
  cases k5 : dc (biasP j zb)
  · exact late5 j l r o zl zr zb zf zs w ha hk hv hs k1 k2 k3 k4 k5
  cases k6 : dc (scaleP j zf zs)
  · exact late6 j l r o zl zr zb zf zs w ha hk hv hs k1 k2 k3 k4 k5 k6
  cases k7 : dc (numP (-2147483648) 2147483647 [j.low, j.high] 2)
  · rw [show dc (limP j) = false from dc_no (fun h => by rw [dc_yes (lim_iff.1 h).1] at k7; cases k7)]
    exact late7 j l r o zl zr zb zf zs w ha hk hv hs k1 k2 k3 k4 k5 k6 k7
  by_cases c : j.high < j.low
  · rw [show dc (limP j) = false from dc_no (fun h => by have := h.2; omega)]
    exact lateH j l r o zl zr zb zf zs w ha hk hv hs k1 k2 k3 k4 k5 k6 k7 c
  rw [show dc (limP j) = true from dc_yes (lim_iff.2 ⟨dc_iff.1 k7, by omega⟩)]
  cases k8 : blkB j
  · exact late8 j l r o zl zr zb zf zs w ha hk hv hs k1 k2 k3 k4 k5 k6 k7 k8 (by omega)
  by_cases c1 : j.wk < 1
  · rw [show dc (workP j) = false from dc_no (fun h => by have := h.1; omega)]
    exact lateA j l r o zl zr zb zf zs w ha hk hv hs k1 k2 k3 k4 k5 k6 k7 k8 (by omega) c1
  by_cases c2 : 64 < j.wk
  · rw [show dc (workP j) = false from dc_no (fun h => by have := h.2; omega)]
    exact lateB j l r o zl zr zb zf zs w ha hk hv hs k1 k2 k3 k4 k5 k6 k7 k8 (by omega) c2
  rw [show dc (workP j) = true from dc_yes (show workP j from ⟨by omega, by omega⟩)]
  exact lateC j l r o zl zr zb zf zs w ha hk hv hs k1 k2 k3 k4 k5 k6 k7 k8 (by omega) (by omega) (by omega)

theorem RCheck_any (j : Jb) (l r o : Sl) (zl zr zb zf zs : List Int) (w : World) (ha : Args w j l r o zl zr zb zf zs) :
    Calls Try.prog 18 #[.agg (jcells j), .slice l.a l.len l.cap, .slice r.a r.len r.cap, .slice o.a o.len o.cap] w fun e w' => e = .returned (.int .i64 (errB (dc (kindP j)) (dc (viewsP j l r o)) (dc (shapeP j)) (dc (elemsP j zl zr)) (dc (twiceP j.o o.len)) (dc (zerosP j)) (dc (biasP j zb)) (dc (scaleP j zf zs)) (dc (limP j)) (blkB j) (dc (workP j)))) ∧ Below w.heap.size w w' := by
  by_cases h1 : kindP j
  · by_cases h2 : viewsP j l r o
    · by_cases h3 : shapeP j
      · exact RCheck_late j l r o zl zr zb zf zs _ w ha h1 h2 h3 (by rw [dc_yes h1, dc_yes h2, dc_yes h3])
      · exact RCheck_early j l r o _ w (.inr (.inr ⟨by rw [dc_yes h1, dc_yes h2, dc_no h3]; rfl, h1, h2, h3⟩))
    · exact RCheck_early j l r o _ w (.inr (.inl ⟨by rw [dc_yes h1, dc_no h2]; rfl, h1, h2⟩))
  · exact RCheck_early j l r o _ w (.inl ⟨by rw [dc_no h1]; rfl, h1⟩)

end Go.Proofs.Ytpoejdkfhofimaa

import Derived.Test.YtpoejdkfhofimaaFirst
namespace Go.Proofs.Ytpoejdkfhofimaa
open Go.RowKit Classical

set_option maxHeartbeats 2000000 in
theorem Check_any (j : Jb) (l r o : Sl) (zl zr zb zf zs : List Int) (w : World) (ha : Args w j l r o zl zr zb zf zs) :
    Calls Try.prog 17 #[.agg (jcells j), .slice l.a l.len l.cap, .slice r.a r.len r.cap, .slice o.a o.len o.cap] w fun e w' => e = .returned (.int .i64 (errB (dc (kindP j)) (dc (viewsP j l r o)) (dc (shapeP j)) (dc (elemsP j zl zr)) (dc (twiceP j.o o.len)) (dc (zerosP j)) (dc (biasP j zb)) (dc (scaleP j zf zs)) (dc (limP j)) (blkB j) (dc (workP j)))) ∧ Below w.heap.size w w' := by
  have HA := hid' ha
  clear ha
  generalize hX : errB (dc (kindP j)) (dc (viewsP j l r o)) (dc (shapeP j)) (dc (elemsP j zl zr)) (dc (twiceP j.o o.len)) (dc (zerosP j)) (dc (biasP j zb)) (dc (scaleP j zf zs)) (dc (limP j)) (blkB j) (dc (workP j)) = X
  have F : Hid (∀ w', Below w.heap.size w w' → Calls Try.prog 30 #[.agg (jcells j), .slice l.a l.len l.cap, .slice r.a r.len r.cap, .slice o.a o.len o.cap] w' fun e w'' => e = .returned (.int .i64 X) ∧ Below w'.heap.size w' w'') := fun w' hb => by
    have := First_any j l r o zl zr zb zf zs w' (HA.out.below hb)
    rw [hX] at this
    exact this
  clear hX HA
  go_enter Try.func17, Try.ntmps17
  go_wp2_with (first | (refine wpList_load_mid rfl 36 (.tmp 4) rfl w.heap.size 0 (by rfl) (jcells j).toList _ (jrange w j _) Try.underlying36 rfl (jinfo j) ?_) | (go_at_call 30; refine (F.out _ ((Below.refl _ _).alloc (Nat.le_refl _) _)).mono ?_; rintro e w1 ⟨rfl, hb⟩; have H := hid' (JBox.new (j := j) rfl hb); clear hb) | go_in)
  go_ret
  exact ⟨rfl, H.out.below⟩

end Go.Proofs.Ytpoejdkfhofimaa

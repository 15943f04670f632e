import Derived.Test.YtpoejdkfhofimaaShares
import Derived.Test.YtpoejdkfhofimaaViews2
namespace Go.Proofs.Ytpoejdkfhofimaa
open Go.RowKit Classical

/-- the limits of a kind of eight bits -/
def kLo (k : Int) : Int := if k = 1 then 0 else -128
def kHi (k : Int) : Int := if k = 1 then 255 else 127
def elemsP (j : Jb) (zl zr : List Int) : Prop := elemP j.l zl (kLo j.kind) (kHi j.kind) ∧ elemP j.r zr (kLo j.kind) (kHi j.kind)

set_option maxHeartbeats 2000000 in
theorem elems_any (j : Jb) (l r : Sl) (zl zr : List Int) (w : World) (hl : RowIs w l zl) (hr : RowIs w r zr) (fl : fitP j.l l.len) (fr : fitP j.r r.len) (hk : j.kind = 1 ∨ j.kind = 2) :
    Calls Try.prog 49 #[.agg (jcells j), .slice l.a l.len l.cap, .slice r.a r.len r.cap] w fun e w' => e = .returned (.bool (dc (elemsP j zl zr))) ∧ Below w.heap.size w w' := by
  have RL : Hid (∀ (w' : World) (u : Unit), Below w.heap.size w w' → RowIs w' l zl) := fun w' _ hb => hl.below hb
  have RR : Hid (∀ (w' : World) (u : Unit), Below w.heap.size w w' → RowIs w' r zr) := fun w' _ hb => hr.below hb
  have FL := hid' fl
  have FR := hid' fr
  clear hl hr fl fr
  rcases hk with hk | hk
  · have X : Hid (elemsP j zl zr ↔ elemP j.l zl 0 255 ∧ elemP j.r zr 0 255) := by unfold Hid elemsP kLo kHi; rw [hk]; exact Iff.rfl
    cases k1 : dc (elemP j.l zl 0 255)
    · have E : Hid (false = dc (elemsP j zl zr)) := (dc_no (fun h => by rw [dc_yes (X.out.1 h).1] at k1; cases k1)).symm
      go_enter Try.func49, Try.ntmps49
      go_wp2_with (first | (go_at_call 63; refine (seesU_any j.l l zl _ (RL.out _ () ((Below.refl _ _).alloc (Nat.le_refl _) _)) FL.out).mono ?_; clear FL; rintro e w1 ⟨rfl, hb1⟩; have B1 := JBox.new (j := j) rfl hb1; clear hb1; have hc1 := B1.cells; have hz1 := B1.size; have H1 := hid' B1; clear B1) | go_in)
      go_ret
      exact ⟨ret_bool E.out, H1.out.below⟩
    · have E : Hid (dc (elemP j.r zr 0 255) = dc (elemsP j zl zr)) := dc_eq ⟨fun h => X.out.2 ⟨dc_iff.1 k1, h⟩, fun h => (X.out.1 h).2⟩
      go_enter Try.func49, Try.ntmps49
      go_wp2_with (first | (go_at_call 63; refine (seesU_any j.l l zl _ (RL.out _ () ((Below.refl _ _).alloc (Nat.le_refl _) _)) FL.out).mono ?_; clear FL; rintro e w1 ⟨rfl, hb1⟩; have B1 := JBox.new (j := j) rfl hb1; clear hb1; have hc1 := B1.cells; have hz1 := B1.size; have H1 := hid' B1; clear B1) | (go_at_call 63; refine (seesU_any j.r r zr _ (RR.out _ () H1.out.below) FR.out).mono ?_; rintro e w2 ⟨rfl, hb2⟩; have H2 := hid' (H1.out.on hb2); clear hb2) | go_in)
      go_ret
      exact ⟨ret_bool E.out, H2.out.below⟩
  · have X : Hid (elemsP j zl zr ↔ elemP j.l zl (-128) 127 ∧ elemP j.r zr (-128) 127) := by unfold Hid elemsP kLo kHi; rw [hk]; exact Iff.rfl
    cases k1 : dc (elemP j.l zl (-128) 127)
    · have E : Hid (false = dc (elemsP j zl zr)) := (dc_no (fun h => by rw [dc_yes (X.out.1 h).1] at k1; cases k1)).symm
      go_enter Try.func49, Try.ntmps49
      go_wp2_with (first | (go_at_call 64; refine (seesI_any j.l l zl _ (RL.out _ () ((Below.refl _ _).alloc (Nat.le_refl _) _)) FL.out).mono ?_; clear FL; rintro e w1 ⟨rfl, hb1⟩; have B1 := JBox.new (j := j) rfl hb1; clear hb1; have hc1 := B1.cells; have hz1 := B1.size; have H1 := hid' B1; clear B1) | go_in)
      go_ret
      exact ⟨ret_bool E.out, H1.out.below⟩
    · have E : Hid (dc (elemP j.r zr (-128) 127) = dc (elemsP j zl zr)) := dc_eq ⟨fun h => X.out.2 ⟨dc_iff.1 k1, h⟩, fun h => (X.out.1 h).2⟩
      go_enter Try.func49, Try.ntmps49
      go_wp2_with (first | (go_at_call 64; refine (seesI_any j.l l zl _ (RL.out _ () ((Below.refl _ _).alloc (Nat.le_refl _) _)) FL.out).mono ?_; clear FL; rintro e w1 ⟨rfl, hb1⟩; have B1 := JBox.new (j := j) rfl hb1; clear hb1; have hc1 := B1.cells; have hz1 := B1.size; have H1 := hid' B1; clear B1) | (go_at_call 64; refine (seesI_any j.r r zr _ (RR.out _ () H1.out.below) FR.out).mono ?_; rintro e w2 ⟨rfl, hb2⟩; have H2 := hid' (H1.out.on hb2); clear hb2) | go_in)
      go_ret
      exact ⟨ret_bool E.out, H2.out.below⟩

end Go.Proofs.Ytpoejdkfhofimaa

/-
  No cell of these rows narrows 'for every input' (looked for: loops, veiled, ifaces, maps, wideKeys, modest, calm, conditions, laid).
  DERIVED. THE GIVEN ROWS OF THIS SEAT. 6 by the template 'for every input the law returns true; each argument reads behind the call as it read before'; 0 by the template 'total and deterministic' (their statements: YtpoejdkfhofimaaTotals.lean).
  GIVEN WITH THE SEED: the statements are not yours to turn. If you find one false, say at which input.
  Laid BY PROGRAM, IN A SANDBOX (cutbox-rows.mjs): the forced cells as the released guide's own fill.sh prints them over the translation 4831af542e0fd518… (all of the seat's roots in one cut). By AI agents, Wed Nov 11 2026. No macro, syntax, notation, axiom, sorry.
-/
import Derived.Test.YtpoejdkfhofimaaChecked
import GoSem.Claim
import GoSem.ClaimJoined
import GoSem.ClaimMapViews
import Derived.JoinedTies
import Derived.KernelRfl
namespace Go.Proofs.Ytpoejdkfhofimaa
/- THE CELL 'sum', in the pinned program and in every row, IS THE sha256 OF THE DUMP (.gsa) THAT YtpoejdkfhofimaaProg.lean LOADS. Nothing in Lean hashes anything: it is a label: what it is worth is what the hold of that sum in a sandbox is worth. -/
noncomputable def Try.pinned : Pinned := { name := "ytpoejdkfhofimaa", sum := "4831af542e0fd518330f391a1346deaefcb32cdd62cc0d905ba37bc077f3e034", checked := Try.checked }
namespace Rows
def none {H : Type} : Left H := { results := [], args := [] }

/-- 'tileslaw.Highs': WHATEVER THE INPUT: true; the input reads as it did. -/
def highsSpec : ChangeSpec := { name := "highs", fn := fun _ => fun
  | [d1, d2] => { results := [.lit (.bool true)], args := [d1, d2] }
  | _ => none }
def highsRow : OpenClaim := { program := "ytpoejdkfhofimaa", sum := "4831af542e0fd518330f391a1346deaefcb32cdd62cc0d905ba37bc077f3e034", func := "tiles/tileslaw.Highs", spec := "highs", apart := false }
def HighsSaid : Prop := highsRow.holds Try.pinned (OpenSpec.ofChange highsSpec)

/-- ITS FALSE NEIGHBOUR: 'it returns false'. Refute it at one input. -/
def highsWrong : ChangeSpec := { name := "highs", fn := fun _ => fun
  | [d1, d2] => { results := [.lit (.bool false)], args := [d1, d2] }
  | _ => none }
def HighsWrongFalsely : Prop := highsRow.holds Try.pinned (OpenSpec.ofChange highsWrong)

/-- 'tileslaw.Shifts': WHATEVER THE INPUT: true; the input reads as it did. -/
def shiftsSpec : ChangeSpec := { name := "shifts", fn := fun _ => fun
  | [d1, d2] => { results := [.lit (.bool true)], args := [d1, d2] }
  | _ => none }
def shiftsRow : OpenClaim := { program := "ytpoejdkfhofimaa", sum := "4831af542e0fd518330f391a1346deaefcb32cdd62cc0d905ba37bc077f3e034", func := "tiles/tileslaw.Shifts", spec := "shifts", apart := false }
def ShiftsSaid : Prop := shiftsRow.holds Try.pinned (OpenSpec.ofChange shiftsSpec)

/-- ITS FALSE NEIGHBOUR: 'it returns false'. Refute it at one input. -/
def shiftsWrong : ChangeSpec := { name := "shifts", fn := fun _ => fun
  | [d1, d2] => { results := [.lit (.bool false)], args := [d1, d2] }
  | _ => none }
def ShiftsWrongFalsely : Prop := shiftsRow.holds Try.pinned (OpenSpec.ofChange shiftsWrong)

/-- 'tileskeep.Nearest': WHATEVER THE INPUT: true; the input reads as it did. -/
def nearestSpec : ChangeSpec := { name := "nearest", fn := fun _ => fun
  | [d1, d2, d3] => { results := [.lit (.bool true)], args := [d1, d2, d3] }
  | _ => none }
def nearestRow : OpenClaim := { program := "ytpoejdkfhofimaa", sum := "4831af542e0fd518330f391a1346deaefcb32cdd62cc0d905ba37bc077f3e034", func := "tiles/tileskeep.Nearest", spec := "nearest", apart := false }
def NearestSaid : Prop := nearestRow.holds Try.pinned (OpenSpec.ofChange nearestSpec)

/-- ITS FALSE NEIGHBOUR: 'it returns false'. Refute it at one input. -/
def nearestWrong : ChangeSpec := { name := "nearest", fn := fun _ => fun
  | [d1, d2, d3] => { results := [.lit (.bool false)], args := [d1, d2, d3] }
  | _ => none }
def NearestWrongFalsely : Prop := nearestRow.holds Try.pinned (OpenSpec.ofChange nearestWrong)

/-- 'tileslaw.Checks': WHATEVER THE INPUT: true; the input reads as it did. -/
def checksSpec : ChangeSpec := { name := "checks", fn := fun _ => fun
  | [d1, d2, d3, d4] => { results := [.lit (.bool true)], args := [d1, d2, d3, d4] }
  | _ => none }
def checksRow : OpenClaim := { program := "ytpoejdkfhofimaa", sum := "4831af542e0fd518330f391a1346deaefcb32cdd62cc0d905ba37bc077f3e034", func := "tiles/tileslaw.Checks", spec := "checks", unfollowed := true, recurses := true, apart := false }
def ChecksSaid : Prop := checksRow.holds Try.pinned (OpenSpec.ofChange checksSpec)

/-- ITS FALSE NEIGHBOUR: 'it returns false'. Refute it at one input. -/
def checksWrong : ChangeSpec := { name := "checks", fn := fun _ => fun
  | [d1, d2, d3, d4] => { results := [.lit (.bool false)], args := [d1, d2, d3, d4] }
  | _ => none }
def ChecksWrongFalsely : Prop := checksRow.holds Try.pinned (OpenSpec.ofChange checksWrong)

/-- 'tileslaw.Plans': WHATEVER THE INPUT: true; the input reads as it did. -/
def plansSpec : ChangeSpec := { name := "plans", fn := fun _ => fun
  | [d] => { results := [.lit (.bool true)], args := [d] }
  | _ => none }
def plansRow : OpenClaim := { program := "ytpoejdkfhofimaa", sum := "4831af542e0fd518330f391a1346deaefcb32cdd62cc0d905ba37bc077f3e034", func := "tiles/tileslaw.Plans", spec := "plans", apart := false }
def PlansSaid : Prop := plansRow.holds Try.pinned (OpenSpec.ofChange plansSpec)

/-- ITS FALSE NEIGHBOUR: 'it returns false'. Refute it at one input. -/
def plansWrong : ChangeSpec := { name := "plans", fn := fun _ => fun
  | [d] => { results := [.lit (.bool false)], args := [d] }
  | _ => none }
def PlansWrongFalsely : Prop := plansRow.holds Try.pinned (OpenSpec.ofChange plansWrong)

/-- 'tileskeep.Covers': WHATEVER THE INPUT: true; the input reads as it did. -/
def coversSpec : ChangeSpec := { name := "covers", fn := fun _ => fun
  | [d] => { results := [.lit (.bool true)], args := [d] }
  | _ => none }
def coversRow : OpenClaim := { program := "ytpoejdkfhofimaa", sum := "4831af542e0fd518330f391a1346deaefcb32cdd62cc0d905ba37bc077f3e034", func := "tiles/tileskeep.Covers", spec := "covers", unfollowed := true, recurses := true, apart := false }
def CoversSaid : Prop := coversRow.holds Try.pinned (OpenSpec.ofChange coversSpec)

/-- ITS FALSE NEIGHBOUR: 'it returns false'. Refute it at one input. -/
def coversWrong : ChangeSpec := { name := "covers", fn := fun _ => fun
  | [d] => { results := [.lit (.bool false)], args := [d] }
  | _ => none }
def CoversWrongFalsely : Prop := coversRow.holds Try.pinned (OpenSpec.ofChange coversWrong)

/- THE SECOND FORM. 'bulk': how many values and letters a reading holds, each counted each time it is reached (what is shared counts as often as it is met; a slice's spare places count too). A statement '..UptoSaid' is the law's where the arguments, and the package variables that the reading takes, are together of bulk at most 1048576: NARROWER than '..Said'. Prove '..Said' where nothing that the law and all that it calls make is longer than what came in: it says more and counts as full. Else prove '..UptoSaid'. A law counts once. -/
mutual
def uptoBulk {H : Type} : DataW H → Nat
  | .lit (.string bytes) => bytes.length + 1
  | .lit _ => 1
  | .nil => 1
  | .ptr d => uptoBulk d + 1
  | .slice elems spare => uptoBulkAll elems + uptoBulkAll spare + 1
  | .agg parts => uptoBulkAll parts + 1
  | .iface _ d => uptoBulk d + 1
  | .map entries => uptoBulkEntries entries + 1
  | .held _ => 1
def uptoBulkAll {H : Type} : List (DataW H) → Nat
  | [] => 0
  | d :: r => uptoBulk d + uptoBulkAll r
def uptoBulkEntries {H : Type} : List (Lit × DataW H) → Nat
  | [] => 0
  | x :: r => uptoBulkEntry x + uptoBulkEntries r
def uptoBulkEntry {H : Type} : Lit × DataW H → Nat
  | (.string bytes, d) => bytes.length + uptoBulk d + 1
  | (_, d) => uptoBulk d + 1
 end
def uptoSmall : (H : Type) → List (DataW H) → Bool := fun _ ds => decide (uptoBulkAll ds ≤ 1048576)
def OpenSpec.upto (s : _root_.Go.ChangeSpec) : _root_.Go.OpenSpec := { _root_.Go.OpenSpec.ofChange s with cond := some uptoSmall }

/-- 'tileslaw.Highs', WHERE WHAT IT READS IS OF BULK AT MOST 1048576: true; the input reads as it did. -/
def highsUptoRow : OpenClaim := { program := "ytpoejdkfhofimaa", sum := "4831af542e0fd518330f391a1346deaefcb32cdd62cc0d905ba37bc077f3e034", func := "tiles/tileslaw.Highs", spec := "highs", apart := false, narrowed := true }
def HighsUptoSaid : Prop := highsUptoRow.holds Try.pinned (OpenSpec.upto highsSpec)

/-- 'tileslaw.Shifts', WHERE WHAT IT READS IS OF BULK AT MOST 1048576: true; the input reads as it did. -/
def shiftsUptoRow : OpenClaim := { program := "ytpoejdkfhofimaa", sum := "4831af542e0fd518330f391a1346deaefcb32cdd62cc0d905ba37bc077f3e034", func := "tiles/tileslaw.Shifts", spec := "shifts", apart := false, narrowed := true }
def ShiftsUptoSaid : Prop := shiftsUptoRow.holds Try.pinned (OpenSpec.upto shiftsSpec)

/-- 'tileskeep.Nearest', WHERE WHAT IT READS IS OF BULK AT MOST 1048576: true; the input reads as it did. -/
def nearestUptoRow : OpenClaim := { program := "ytpoejdkfhofimaa", sum := "4831af542e0fd518330f391a1346deaefcb32cdd62cc0d905ba37bc077f3e034", func := "tiles/tileskeep.Nearest", spec := "nearest", apart := false, narrowed := true }
def NearestUptoSaid : Prop := nearestUptoRow.holds Try.pinned (OpenSpec.upto nearestSpec)

/-- 'tileslaw.Checks', WHERE WHAT IT READS IS OF BULK AT MOST 1048576: true; the input reads as it did. -/
def checksUptoRow : OpenClaim := { program := "ytpoejdkfhofimaa", sum := "4831af542e0fd518330f391a1346deaefcb32cdd62cc0d905ba37bc077f3e034", func := "tiles/tileslaw.Checks", spec := "checks", unfollowed := true, recurses := true, apart := false, narrowed := true }
def ChecksUptoSaid : Prop := checksUptoRow.holds Try.pinned (OpenSpec.upto checksSpec)

/-- 'tileslaw.Plans', WHERE WHAT IT READS IS OF BULK AT MOST 1048576: true; the input reads as it did. -/
def plansUptoRow : OpenClaim := { program := "ytpoejdkfhofimaa", sum := "4831af542e0fd518330f391a1346deaefcb32cdd62cc0d905ba37bc077f3e034", func := "tiles/tileslaw.Plans", spec := "plans", apart := false, narrowed := true }
def PlansUptoSaid : Prop := plansUptoRow.holds Try.pinned (OpenSpec.upto plansSpec)

/-- 'tileskeep.Covers', WHERE WHAT IT READS IS OF BULK AT MOST 1048576: true; the input reads as it did. -/
def coversUptoRow : OpenClaim := { program := "ytpoejdkfhofimaa", sum := "4831af542e0fd518330f391a1346deaefcb32cdd62cc0d905ba37bc077f3e034", func := "tiles/tileskeep.Covers", spec := "covers", unfollowed := true, recurses := true, apart := false, narrowed := true }
def CoversUptoSaid : Prop := coversUptoRow.holds Try.pinned (OpenSpec.upto coversSpec)

end Rows
end Go.Proofs.Ytpoejdkfhofimaa

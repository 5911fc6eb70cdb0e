/-
  What the rows share: the laid tables in the witness's world; a cell's integer, an address.
-/
import Derived.Test.YtfkggpminmonmaaDoorCards
import Derived.Test.YtfkggpminmonmaaDoorTie
import Derived.ProofKit
import Derived.OpenShut
import Derived.Deep.DeepHandedRow
import Derived.Deep.Slices
import Derived.Lay
import Derived.SevenTiedAt
namespace Go.Proofs.YtfkggpminmonmaaDoor
open Go.ChangeShapes Go.WideShapes Go.ChangeAt Go.RowKit

theorem own : ownKnob Tryd.prog.godebug = none := by kernel_rfl
theorem laidOut : laidOutB Tryd.prog = true := by kernel_rfl
def tables : List (String × DataW Unit) := [("unicode/utf8.acceptRanges", Rows.laid_unicode_utf8_acceptRanges), ("unicode/utf8.first", Rows.laid_unicode_utf8_first)]
theorem tables_fit (os : Os) : (World.holding Tryd.prog os ⟨#[], #[], []⟩).layFits Tryd.prog tables [] = true := by kernel_rfl
theorem tables_ifaces (os : Os) : (World.holding Tryd.prog os ⟨#[], #[], []⟩).layIfaces Tryd.prog tables (World.laidAll Tryd.prog os tables) = true := by kernel_rfl
theorem tables_met (os : Os) (args : Array Value) : laidMetH Tryd.prog tables ((World.laidAll Tryd.prog os tables).forCall (fun _ _ => 0) ⟨#[], args, []⟩).memory := by
  rw [MakeChecks.laidMetH_plain _ _ _ (by kernel_rfl)]
  exact laidMet_laidAll args (tables_fit os) (tables_ifaces os)

/-- The integer in a cell. -/
def cellInt (w : World) (b o : Nat) : Int := match w.cell? ⟨b, o, none⟩ with
  | some (.int _ z) => z
  | _ => 0

theorem add_add {a : Addr} (h : a.spot = none) (x y : Nat) : (a.add x).add y = ⟨a.block, a.off + x + y, none⟩ := by
  obtain ⟨b, o, s⟩ := a
  simp only at h
  subst h
  unfold Addr.add
  by_cases hx : x = 0 <;> by_cases hy : y = 0 <;> simp [hx, hy]
end Go.Proofs.YtfkggpminmonmaaDoor

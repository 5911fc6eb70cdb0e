/-
  Plain functions on lists of bytes: numbers, tenants, labels, names, addresses, hosts.
-/
import Derived.Test.YtfkggpminmonmaaDoorPlain
namespace Go.Proofs.YtfkggpminmonmaaDoor.Plain

def digit (c : UInt8) : Nat := c.toNat - 48
def numVal (l : List UInt8) : Nat := l.foldl (fun n c => n * 10 + digit c) 0
/-- Figures, of which the first is 0 only if it is the only one. -/
def numForm (l : List UInt8) : Bool := !l.isEmpty && allB fig l && (l == [48] || l.head? != some 48)
/-- A number that is at most so great. -/
def number (l : List UInt8) (hi : Nat) : Option Nat := if numForm l = true ∧ numVal l ≤ hi then some (numVal l) else none

theorem numVal_snoc (l : List UInt8) (c : UInt8) : numVal (l ++ [c]) = numVal l * 10 + digit c := by simp [numVal]
theorem foldl_ge (l : List UInt8) : ∀ n : Nat, n ≤ l.foldl (fun n c => n * 10 + digit c) n := by
  induction l with
  | nil => intro n; exact Nat.le_refl _
  | cons b l ih => intro n; exact Nat.le_trans (by show n ≤ n * 10 + digit b; omega) (ih _)
theorem numVal_take (l : List UInt8) (k : Nat) : numVal (l.take k) ≤ numVal l := by
  have h : numVal l = (l.drop k).foldl (fun n c => n * 10 + digit c) (numVal (l.take k)) := by
    unfold numVal; rw [← List.foldl_append, List.take_append_drop]
  rw [h]; exact foldl_ge _ _
theorem fig_bounds {c : UInt8} (h : fig c = true) : 48 ≤ c.toNat ∧ c.toNat ≤ 57 := by
  unfold fig at h; simp at h; omega

def tenantOk (l : List UInt8) : Bool := decide (1 ≤ l.length ∧ l.length ≤ 8) && allB small l
def labelOk (l : List UInt8) : Bool := decide (1 ≤ l.length ∧ l.length ≤ 20) && allB ofLabel l && (l.head? != some 45 && l.getLast? != some 45)
def nameOk (l : List UInt8) : Bool := decide ((parts 46 l).length ≤ 5) && (parts 46 l).all labelOk && !allB fig ((parts 46 l).getLastD [])
def lowB (c : UInt8) : UInt8 := if 65 ≤ c.toNat ∧ c.toNat ≤ 90 then c + 32 else c
def lower (l : List UInt8) : List UInt8 := l.map lowB

/-- Four numbers of 0 to 255. -/
def octets : List (List UInt8) → Option (List Nat)
  | [] => some []
  | p :: ps => match number p 255 with
    | none => none
    | some n => match octets ps with
      | none => none
      | some l => some (n :: l)
def address (l : List UInt8) : Option (List Nat) := if (parts 46 l).length = 4 then octets (parts 46 l) else none

/-- A byte's first k bits, 0 behind them. -/
def keep (k a : Nat) : Nat := a / 2 ^ (8 - k) * 2 ^ (8 - k)
theorem keep_and : ∀ k : Fin 9, ∀ a : Fin 256, a.val &&& (255 * 2 ^ (8 - k.val) % 256) = keep k.val a.val := by unfold keep; decide +kernel

/-- What stands behind the last dot. -/
def lastPart (l : List UInt8) : List UInt8 := (parts 46 l).getLastD []
/-- A host: a name (then four zeros), or no name and four numbers. -/
def readHost (l : List UInt8) : Option (List UInt8 × List Nat) :=
  if allB fig (lastPart l) = true then match address l with
    | none => none
    | some a => some ([], a)
  else if nameOk (lower l) = true then some (lower l, [0, 0, 0, 0]) else none
end Go.Proofs.YtfkggpminmonmaaDoor.Plain

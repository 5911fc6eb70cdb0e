/-
  Rules as plain data: how a line is read, and what fits.
-/
import Derived.Test.YtfkggpminmonmaaDoorSpec
namespace Go.Proofs.YtfkggpminmonmaaDoor.Plain

def firstN (n : Nat) : List Nat → List Nat
  | [a, b, c, d] => [keep (min 8 n) a, keep (min 8 (n - 8)) b, keep (min 8 (n - 16)) c, keep (min 8 (n - 24)) d]
  | l => l

/-- A field on hosts: 0: all; 1: a name; 2: a name and all below it; 3: addresses by their first bits. -/
structure HostP where
  kind : Nat
  nm : List UInt8
  ad : List Nat
  bits : Nat

structure RuleS where
  allow : Bool
  ten : Option (List UInt8)
  host : HostP
  port : Option (Nat × Nat)
  minute : Option (Nat × Nat)

def readVerd (l : List UInt8) : Option Bool := if l = [97, 108, 108, 111, 119] then some true else if l = [100, 101, 110, 121] then some false else none
def readTen (l : List UInt8) : Option (Option (List UInt8)) := if l = [42] then some none else if tenantOk l = true then some (some l) else none
def readNetP (a r : List UInt8) : Option HostP := match address a with
  | none => none
  | some ad => match number r 32 with
    | none => none
    | some n => if firstN n ad = ad then some ⟨3, [], ad, n⟩ else none
def readHostP (l : List UInt8) : Option HostP :=
  if l = [42] then some ⟨0, [], [], 0⟩ else match cutAt 47 l with
    | some (a, r) => readNetP a r
    | none => if l.head? = some 46 then (if nameOk l.tail = true then some ⟨2, l.tail, [], 0⟩ else none)
      else if nameOk l = true then some ⟨1, l, [], 0⟩ else none
def span (l : List UInt8) (hi : Nat) : Option (Nat × Nat) := match cutAt 45 l with
  | none => none
  | some (a, r) => match number a hi with
    | none => none
    | some x => match number r hi with
      | none => none
      | some y => some (x, y)
def readPortP (l : List UInt8) : Option (Option (Nat × Nat)) :=
  if l = [42] then some none else match cutAt 45 l with
    | none => match number l 65535 with
      | none => none
      | some n => some (some (n, n))
    | some _ => match span l 65535 with
      | none => none
      | some (x, y) => if x ≤ y then some (some (x, y)) else none
def readMinP (l : List UInt8) : Option (Option (Nat × Nat)) :=
  if l = [42] then some none else match span l 10079 with
    | none => none
    | some (x, y) => some (some (x, y))

def readRule (l : List UInt8) : Option RuleS := match parts 32 l with
  | [f0, f1, f2, f3, f4] => match readVerd f0 with
    | none => none
    | some v => match readTen f1 with
      | none => none
      | some t => match readHostP f2 with
        | none => none
        | some h => match readPortP f3 with
          | none => none
          | some p => match readMinP f4 with
            | none => none
            | some m => some ⟨v, t, h, p, m⟩
  | _ => none

def tenFits (t : Option (List UInt8)) (q : List UInt8) : Bool := match t with
  | none => true
  | some o => q == o
def hostFits (p : HostP) (nm : List UInt8) (ad : List Nat) : Bool :=
  if p.kind = 0 then true else if p.kind = 1 then nm == p.nm else if p.kind = 2 then (nm == p.nm || Lib.hasSuffix nm (46 :: p.nm)) else (nm.isEmpty && firstN p.bits ad == p.ad)
def portFits (p : Option (Nat × Nat)) (n : Int) : Bool := match p with
  | none => true
  | some (a, b) => decide ((a : Int) ≤ n) && decide (n ≤ (b : Int))
def minFits (p : Option (Nat × Nat)) (n : Int) : Bool := match p with
  | none => true
  | some (a, b) => if b < a then (decide ((a : Int) ≤ n) || decide (n ≤ (b : Int))) else (decide ((a : Int) ≤ n) && decide (n ≤ (b : Int)))
def ruleFits (r : RuleS) (t nm : List UInt8) (ad : List Nat) (p m : Int) : Bool := tenFits r.ten t && hostFits r.host nm ad && portFits r.port p && minFits r.minute m
end Go.Proofs.YtfkggpminmonmaaDoor.Plain

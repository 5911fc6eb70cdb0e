/-
  What the rows share: the laid tables in the witness's world; a cell's integer, an address.
-/
import Derived.Test.YtdmaffciijmdcaaGreatDoorCards
import Derived.Test.YtdmaffciijmdcaaGreatDoorTie
import Derived.ProofKit
import Derived.OpenShut
import Derived.Deep.DeepHandedRow
import Derived.Deep.Slices
import Derived.Lay
import Derived.SevenTiedAt
import Derived.Lib.Split
import Derived.Lib.IndexBytes
import Derived.Lib.TrimByte
import Derived.Test.YtdmaffciijmdcaaGreatDoorRows
import Derived.WalkKit
import Derived.WalkSpells
import Derived.WalkLawsBesides
namespace Go.Proofs.YtdmaffciijmdcaaGreatDoor
open Go.ChangeShapes Go.WideShapes Go.ChangeAt Go.RowKit

theorem own : ownKnob Tryz.prog.godebug = none := by kernel_rfl
theorem laidOut : laidOutB Tryz.prog = true := by kernel_rfl
def tables : List (String × DataW Unit) := [("unicode/utf8.acceptRanges", Rows.laid_unicode_utf8_acceptRanges), ("unicode/utf8.first", Rows.laid_unicode_utf8_first)]
theorem tables_fit (os : Os) : (World.holding Tryz.prog os ⟨#[], #[], []⟩).layFits Tryz.prog tables [] = true := by kernel_rfl
theorem tables_ifaces (os : Os) : (World.holding Tryz.prog os ⟨#[], #[], []⟩).layIfaces Tryz.prog tables (World.laidAll Tryz.prog os tables) = true := by kernel_rfl
theorem tables_met (os : Os) (args : Array Value) : laidMetH Tryz.prog tables ((World.laidAll Tryz.prog os tables).forCall (fun _ _ => 0) ⟨#[], args, []⟩).memory := by
  rw [MakeChecks.laidMetH_plain _ _ _ (by kernel_rfl)]
  exact laidMet_laidAll args (tables_fit os) (tables_ifaces os)

/-- The integer in a cell. -/
def cellInt (w : World) (b o : Nat) : Int := match w.cell? ⟨b, o, none⟩ with
  | some (.int _ z) => z
  | _ => 0

theorem add_add {a : Addr} (h : a.spot = none) (x y : Nat) : (a.add x).add y = ⟨a.block, a.off + x + y, none⟩ := by
  obtain ⟨b, o, s⟩ := a
  simp only at h
  subst h
  unfold Addr.add
  by_cases hx : x = 0 <;> by_cases hy : y = 0 <;> simp [hx, hy]
end Go.Proofs.YtdmaffciijmdcaaGreatDoor
/-
  Plain functions on lists of bytes: cutting at a byte, numbers, tenants, labels, names, addresses, hosts, rules; and how the library's cuts at one byte are these.
-/
namespace Go.Proofs.YtdmaffciijmdcaaGreatDoor.Plain

def fig (c : UInt8) : Bool := decide (48 ≤ (c.toNat : Int)) && decide ((c.toNat : Int) ≤ 57)
def small (c : UInt8) : Bool := decide (97 ≤ (c.toNat : Int)) && decide ((c.toNat : Int) ≤ 122)
def great (c : UInt8) : Bool := decide (65 ≤ (c.toNat : Int)) && decide ((c.toNat : Int) ≤ 90)
def seenB (c : UInt8) : Bool := decide (33 ≤ (c.toNat : Int)) && decide ((c.toNat : Int) ≤ 126)
def ofLabel (c : UInt8) : Bool := small c || fig c || ((c.toNat : Int) == 45)
def allB (p : UInt8 → Bool) (l : List UInt8) : Bool := l.all p

/-- Around the first byte c. -/
def cutAt (c : UInt8) : List UInt8 → Option (List UInt8 × List UInt8)
  | [] => none
  | b :: l => if b = c then some ([], l) else match cutAt c l with
    | none => none
    | some (a, r) => some (b :: a, r)

/-- Cut at each byte c. -/
def parts (c : UInt8) : List UInt8 → List (List UInt8)
  | [] => [[]]
  | b :: l => if b = c then [] :: parts c l else match parts c l with
    | [] => [[b]]
    | p :: ps => (b :: p) :: ps

theorem parts_ne (c : UInt8) (l : List UInt8) : parts c l ≠ [] := by
  cases l with
  | nil => simp [parts]
  | cons b l =>
    unfold parts
    split
    · simp
    · split <;> simp

theorem parts_cut (c : UInt8) (l : List UInt8) : parts c l = match cutAt c l with
    | none => [l]
    | some (a, r) => a :: parts c r := by
  induction l with
  | nil => rfl
  | cons b l ih =>
    rw [parts, cutAt]
    by_cases h : b = c
    · simp [h]
    · simp only [h, if_false]
      rw [ih]
      cases hc : cutAt c l with
      | none => rfl
      | some x => rfl

theorem cutAt_none {c : UInt8} {l : List UInt8} : cutAt c l = none ↔ c ∉ l := by
  induction l with
  | nil => simp [cutAt]
  | cons b l ih =>
    unfold cutAt
    by_cases h : b = c
    · simp [h]
    · simp only [h, if_false]
      cases hc : cutAt c l with
      | none => rw [hc] at ih; simp at ih; simp [ih, Ne.symm h]
      | some x => rw [hc] at ih; simp at ih; simp [ih]

theorem cutAt_some {c : UInt8} {l a r : List UInt8} : cutAt c l = some (a, r) ↔ l = a ++ c :: r ∧ c ∉ a := by
  induction l generalizing a r with
  | nil => simp [cutAt]
  | cons b l ih =>
    unfold cutAt
    by_cases h : b = c
    · subst h
      simp only [if_true, Option.some.injEq, Prod.mk.injEq]
      constructor
      · rintro ⟨rfl, rfl⟩; simp
      · rintro ⟨h1, h2⟩
        cases a with
        | nil => simp at h1; exact ⟨rfl, h1⟩
        | cons x a => simp at h1; simp [h1.1] at h2
    · simp only [h, if_false]
      cases hc : cutAt c l with
      | none =>
        simp only [reduceCtorEq, false_iff, not_and]
        intro h1 h2
        have := cutAt_none.1 hc
        cases a with
        | nil => simp at h1; exact h h1.1
        | cons x a => simp at h1; apply this; rw [h1.2]; simp
      | some y =>
        obtain ⟨ya, yr⟩ := y
        simp only [Option.some.injEq, Prod.mk.injEq]
        have hy := ih.1 hc
        constructor
        · rintro ⟨rfl, rfl⟩
          exact ⟨by rw [hy.1]; rfl, by simp [hy.2, Ne.symm h]⟩
        · rintro ⟨h1, h2⟩
          cases a with
          | nil => simp at h1; exact absurd h1.1 h
          | cons x a =>
            simp at h1 h2
            have := ih.2 ⟨h1.2, h2.2⟩
            rw [hc] at this
            simp at this
            exact ⟨by rw [this.1, h1.1], this.2⟩

theorem index_cut (c : UInt8) (l : List UInt8) : Lib.index l [c] = match cutAt c l with
    | none => -1
    | some (a, _) => (a.length : Int) := by
  rw [Lib.index_one]
  induction l with
  | nil => rfl
  | cons b l ih =>
    unfold Lib.indexByte cutAt
    by_cases h : b = c
    · simp [h]
    · simp only [h, if_false, beq_iff_eq]
      rw [ih]
      cases hc : cutAt c l with
      | none => simp
      | some x => simp

theorem lib_cut (c : UInt8) (l : List UInt8) : Lib.cut l [c] = match cutAt c l with
    | none => (l, [], false)
    | some (a, r) => (a, r, true) := by
  unfold Lib.cut
  rw [index_cut]
  cases hc : cutAt c l with
  | none => simp
  | some x =>
    obtain ⟨a, r⟩ := x
    obtain ⟨rfl, _⟩ := cutAt_some.1 hc
    simp

theorem lib_contains (c : UInt8) (l : List UInt8) : Lib.contains l [c] = (cutAt c l).isSome := by
  unfold Lib.contains
  rw [index_cut]
  cases hc : cutAt c l with
  | none => simp
  | some x => simp

theorem splitK_cut (c : UInt8) (k : Nat) (l : List UInt8) : Lib.splitK [c] 0 (k + 1) l = match cutAt c l with
    | none => [l]
    | some (a, r) => a :: Lib.splitK [c] 0 k r := by
  rw [Lib.splitK, index_cut]
  cases hc : cutAt c l with
  | none => simp
  | some x =>
    obtain ⟨a, r⟩ := x
    obtain ⟨rfl, _⟩ := cutAt_some.1 hc
    simp

theorem parts_length (c : UInt8) : ∀ (l : List UInt8), (parts c l).length = l.count c + 1
  | [] => rfl
  | b :: l => by
    have ih := parts_length c l
    unfold parts
    by_cases h : b = c
    · simp [h, ih]
    · rw [if_neg h, List.count_cons_of_ne h]
      split
      · rename_i e; rw [e] at ih; simp at ih
      · rename_i e; rw [e] at ih; simpa using ih

/-- Cut at k places at most: all of them, or k + 1 pieces. -/
theorem splitK_parts (c : UInt8) : ∀ (k : Nat) (l : List UInt8), (parts c l).length ≤ k + 1 → Lib.splitK [c] 0 k l = parts c l
  | 0, l, h => by
    rw [parts_cut] at h ⊢
    cases hc : cutAt c l with
    | none => rfl
    | some x =>
      rw [hc] at h
      simp at h
      exact absurd h (parts_ne _ _)
  | k + 1, l, h => by
    rw [splitK_cut, parts_cut c l]
    rw [parts_cut] at h
    cases hc : cutAt c l with
    | none => rfl
    | some x =>
      rw [hc] at h
      simp at h
      simp only
      rw [splitK_parts c k _ h]

theorem splitK_more (c : UInt8) : ∀ (k : Nat) (l : List UInt8), k + 1 < (parts c l).length → (Lib.splitK [c] 0 k l).length = k + 1
  | 0, l, h => by simp [Lib.splitK]
  | k + 1, l, h => by
    rw [splitK_cut]
    rw [parts_cut] at h
    cases hc : cutAt c l with
    | none => rw [hc] at h; simp at h
    | some x =>
      rw [hc] at h
      simp at h
      simp only [List.length_cons]
      rw [splitK_more c k _ h]

theorem count_parts (c : UInt8) (l : List UInt8) : Lib.count l [c] + 1 = (parts c l).length := by
  rw [parts_length]
  suffices h : ∀ n (l : List UInt8), l.length ≤ n → Lib.count l [c] = l.count c by rw [h l.length l (Nat.le_refl _)]
  intro n
  induction n with
  | zero =>
    intro l h
    cases l with
    | nil => rfl
    | cons => simp at h
  | succ n ih =>
    intro l h
    have hi := index_cut c l
    cases hc : cutAt c l with
    | none =>
      rw [hc] at hi
      rw [Lib.count_miss hi, List.count_eq_zero_of_not_mem (cutAt_none.1 hc)]
    | some x =>
      obtain ⟨a, r⟩ := x
      rw [hc] at hi
      obtain ⟨rfl, ha⟩ := cutAt_some.1 hc
      rw [Lib.count_hit (by simp) hi]
      have e : (a ++ c :: r).drop (a.length + [c].length) = r := by simp
      rw [e, ih r (by simp at h; omega)]
      simp [List.count_append, List.count_eq_zero_of_not_mem ha]
      omega

theorem split_parts (c : UInt8) (l : List UInt8) : Lib.split l [c] = parts c l := by
  unfold Lib.split
  exact splitK_parts c _ l (by rw [count_parts]; exact Nat.le_refl _)

end Go.Proofs.YtdmaffciijmdcaaGreatDoor.Plain
/-
  Plain functions on lists of bytes: numbers, tenants, labels, names, addresses, hosts.
-/
namespace Go.Proofs.YtdmaffciijmdcaaGreatDoor.Plain

def digit (c : UInt8) : Nat := c.toNat - 48
def numVal (l : List UInt8) : Nat := l.foldl (fun n c => n * 10 + digit c) 0
/-- Figures, of which the first is 0 only if it is the only one. -/
def numForm (l : List UInt8) : Bool := !l.isEmpty && allB fig l && (l == [48] || l.head? != some 48)
/-- A number that is at most so great. -/
def number (l : List UInt8) (hi : Nat) : Option Nat := if numForm l = true ∧ numVal l ≤ hi then some (numVal l) else none

theorem numVal_snoc (l : List UInt8) (c : UInt8) : numVal (l ++ [c]) = numVal l * 10 + digit c := by simp [numVal]
theorem foldl_ge (l : List UInt8) : ∀ n : Nat, n ≤ l.foldl (fun n c => n * 10 + digit c) n := by
  induction l with
  | nil => intro n; exact Nat.le_refl _
  | cons b l ih => intro n; exact Nat.le_trans (by show n ≤ n * 10 + digit b; omega) (ih _)
theorem numVal_take (l : List UInt8) (k : Nat) : numVal (l.take k) ≤ numVal l := by
  have h : numVal l = (l.drop k).foldl (fun n c => n * 10 + digit c) (numVal (l.take k)) := by
    unfold numVal; rw [← List.foldl_append, List.take_append_drop]
  rw [h]; exact foldl_ge _ _
theorem fig_bounds {c : UInt8} (h : fig c = true) : 48 ≤ c.toNat ∧ c.toNat ≤ 57 := by
  unfold fig at h; simp at h; omega

def tenantOk (l : List UInt8) : Bool := decide (1 ≤ l.length ∧ l.length ≤ 8) && allB small l
def labelOk (l : List UInt8) : Bool := decide (1 ≤ l.length ∧ l.length ≤ 20) && allB ofLabel l && (l.head? != some 45 && l.getLast? != some 45)
def nameOk (l : List UInt8) : Bool := decide ((parts 46 l).length ≤ 5) && (parts 46 l).all labelOk && !allB fig ((parts 46 l).getLastD [])
def lowB (c : UInt8) : UInt8 := if 65 ≤ c.toNat ∧ c.toNat ≤ 90 then c + 32 else c
def lower (l : List UInt8) : List UInt8 := l.map lowB

/-- Four numbers of 0 to 255. -/
def octets : List (List UInt8) → Option (List Nat)
  | [] => some []
  | p :: ps => match number p 255 with
    | none => none
    | some n => match octets ps with
      | none => none
      | some l => some (n :: l)
def address (l : List UInt8) : Option (List Nat) := if (parts 46 l).length = 4 then octets (parts 46 l) else none

/-- A byte's first k bits, 0 behind them. -/
def keep (k a : Nat) : Nat := a / 2 ^ (8 - k) * 2 ^ (8 - k)
theorem keep_and : ∀ k : Fin 9, ∀ a : Fin 256, a.val &&& (255 * 2 ^ (8 - k.val) % 256) = keep k.val a.val := by unfold keep; decide +kernel

/-- What stands behind the last dot. -/
def lastPart (l : List UInt8) : List UInt8 := (parts 46 l).getLastD []
/-- A host: a name (then four zeros), or no name and four numbers. -/
def readHost (l : List UInt8) : Option (List UInt8 × List Nat) :=
  if allB fig (lastPart l) = true then match address l with
    | none => none
    | some a => some ([], a)
  else if nameOk (lower l) = true then some (lower l, [0, 0, 0, 0]) else none
end Go.Proofs.YtdmaffciijmdcaaGreatDoor.Plain
/-
  Plain functions on lists of bytes: heads, their fields, their targets; users and their credentials.
-/
namespace Go.Proofs.YtdmaffciijmdcaaGreatDoor.Plain

def ofName (c : UInt8) : Bool := small c || great c || fig c || ((c.toNat : Int) == 45)
def ofValue (c : UInt8) : Bool := ((c.toNat : Int) == 32) || seenB c
def endB : List UInt8 := [13, 10, 13, 10]
def http11 : List UInt8 := [72, 84, 84, 80, 47, 49, 46, 49]
def http10 : List UInt8 := [72, 84, 84, 80, 47, 49, 46, 48]

/-- The head that bytes begin with, and what stands behind it; none: there are too few bytes yet. -/
def cutHead (l : List UInt8) : Option (List UInt8 × List UInt8) :=
  if 0 ≤ Lib.index (l.take 1000) endB then some (l.take ((Lib.index (l.take 1000) endB).toNat + 4), l.drop ((Lib.index (l.take 1000) endB).toNat + 4))
  else if l.length < 1000 then none else some (l.take 1000, [])

/-- A head's first line: its method and its target. -/
def firstOk (m t v : List UInt8) : Bool := (!m.isEmpty && allB great m) && (!t.isEmpty && allB seenB t) && (v == http11 || v == http10)
def firstS (l : List UInt8) : Option (List UInt8 × List UInt8) := match parts 32 l with
  | [m, t, v] => if firstOk m t v = true then some (m, t) else none
  | _ => none
/-- A field: its name in small letters, and its value. -/
def fieldS (l : List UInt8) : Option (List UInt8 × List UInt8) := match cutAt 58 l with
  | none => none
  | some (n, v) => if (!n.isEmpty && allB ofName n && allB ofValue v) = true then some (lower n, Lib.trimB v 32) else none
def fieldsS : List (List UInt8) → Option (List (List UInt8 × List UInt8))
  | [] => some []
  | l :: ls => match fieldS l with
    | none => none
    | some f => match fieldsS ls with
      | none => none
      | some fs => some (f :: fs)

structure HeadS where
  method : List UInt8
  target : List UInt8
  fields : List (List UInt8 × List UInt8)

def headLines (l : List UInt8) : List (List UInt8) := Lib.split (Lib.trimSuffix l endB) [13, 10]
/-- A head that is right. -/
def readHead (l : List UInt8) : Option HeadS := if Lib.hasSuffix l endB = true then match headLines l with
    | [] => none
    | x :: xs => match firstS x with
      | none => none
      | some (m, t) => match fieldsS xs with
        | none => none
        | some fs => some ⟨m, t, fs⟩
  else none
/-- The value of the one field of that name. -/
def onlyS (fs : List (List UInt8 × List UInt8)) (n : List UInt8) : Option (List UInt8) := match fs.filter (fun f => f.1 == n) with
  | [f] => some f.2
  | _ => none
/-- A host (in small letters), and a port. -/
def targetS (l : List UInt8) : Option (List UInt8 × Nat) := match cutAt 58 l with
  | none => none
  | some (h, p) => match readHost h with
    | none => none
    | some _ => match number p 65535 with
      | none => none
      | some n => some (lower h, n)

def letters : List UInt8 := [65, 66, 67, 68, 69, 70, 71, 72, 73, 74, 75, 76, 77, 78, 79, 80, 81, 82, 83, 84, 85, 86, 87, 88, 89, 90, 97, 98, 99, 100, 101, 102, 103, 104, 105, 106, 107, 108, 109, 110, 111, 112, 113, 114, 115, 116, 117, 118, 119, 120, 121, 122, 48, 49, 50, 51, 52, 53, 54, 55, 56, 57, 43, 47]
def six (n : Nat) : UInt8 := letters.getD (n % 64) 0
/-- The number that three bytes are. -/
def bits3 (a b c : UInt8) : Nat := a.toNat * 65536 + b.toNat * 256 + c.toNat
def b64 : List UInt8 → List UInt8
  | [] => []
  | [a] => [six (bits3 a 0 0 / 262144), six (bits3 a 0 0 / 4096), 61, 61]
  | [a, b] => [six (bits3 a b 0 / 262144), six (bits3 a b 0 / 4096), six (bits3 a b 0 / 64), 61]
  | a :: b :: c :: l => six (bits3 a b c / 262144) :: six (bits3 a b c / 4096) :: six (bits3 a b c / 64) :: six (bits3 a b c) :: b64 l

def secretOk (s : List UInt8) : Bool := decide (1 ≤ s.length ∧ s.length ≤ 12) && allB seenB s
def basic : List UInt8 := [66, 97, 115, 105, 99, 32]
def credS (n s : List UInt8) : List UInt8 := basic ++ b64 (n ++ [58] ++ s)
/-- A user that may be: its tenant and its credentials. -/
def userS (n s : List UInt8) : Option (List UInt8 × List UInt8) := if tenantOk n = true ∧ secretOk s = true then some (n, credS n s) else none
/-- One user more. -/
def withS (l : List (List UInt8 × List UInt8)) (n s : List UInt8) : Option (List (List UInt8 × List UInt8)) := match userS n s with
  | none => none
  | some t => if l.all (fun o => o.1 != t.1) = true then some (l ++ [t]) else none
/-- Whose credentials these are. -/
def byS (l : List (List UInt8 × List UInt8)) (c : List UInt8) : Option (List UInt8) := match l.find? (fun t => t.2 == c) with
  | none => none
  | some t => some t.1
end Go.Proofs.YtdmaffciijmdcaaGreatDoor.Plain
/-
  The leaves of package words: which bytes are figures, small letters, of a label; Must; all.
-/
namespace Go.Proofs.YtdmaffciijmdcaaGreatDoor
open Go.RowKit Plain

/-- The call dies of one panic. -/
def Dies (e : Ending) : Prop := ∃ t v, e = .panicked [{ v := .iface t v, recovered := false }]

set_option maxHeartbeats 400000 in
theorem isFigure_any (c : UInt8) (w : World) :
    Calls Tryz.prog 203 #[.int .u8 (c.toNat : Int)] w fun e w' => e = .returned (.bool (fig c)) ∧ w' = w := by
  unfold fig
  generalize (c.toNat : Int) = c
  by_cases h1 : 48 ≤ c <;> by_cases h2 : c ≤ 57
  all_goals
    go_enter Tryz.func203, Tryz.ntmps203
    go_wp2
    go_ret
    exact ⟨by simp [h1, h2], rfl⟩

set_option maxHeartbeats 400000 in
theorem isSmall_any (c : UInt8) (w : World) :
    Calls Tryz.prog 162 #[.int .u8 (c.toNat : Int)] w fun e w' => e = .returned (.bool (small c)) ∧ w' = w := by
  unfold small
  generalize (c.toNat : Int) = c
  by_cases h1 : 97 ≤ c <;> by_cases h2 : c ≤ 122
  all_goals
    go_enter Tryz.func162, Tryz.ntmps162
    go_wp2
    go_ret
    exact ⟨by simp [h1, h2], rfl⟩

set_option maxHeartbeats 400000 in
theorem isGreat_any (c : UInt8) (w : World) :
    Calls Tryz.prog 207 #[.int .u8 (c.toNat : Int)] w fun e w' => e = .returned (.bool (great c)) ∧ w' = w := by
  unfold great
  generalize (c.toNat : Int) = c
  by_cases h1 : 65 ≤ c <;> by_cases h2 : c ≤ 90
  all_goals
    go_enter Tryz.func207, Tryz.ntmps207
    go_wp2
    go_ret
    exact ⟨by simp [h1, h2], rfl⟩

set_option maxHeartbeats 400000 in
theorem isSeen_any (c : UInt8) (w : World) :
    Calls Tryz.prog 124 #[.int .u8 (c.toNat : Int)] w fun e w' => e = .returned (.bool (seenB c)) ∧ w' = w := by
  unfold seenB
  generalize (c.toNat : Int) = c
  by_cases h1 : 33 ≤ c <;> by_cases h2 : c ≤ 126
  all_goals
    go_enter Tryz.func124, Tryz.ntmps124
    go_wp2
    go_ret
    exact ⟨by simp [h1, h2], rfl⟩

set_option maxHeartbeats 400000 in
theorem isOfLabel_any (c : UInt8) (w : World) :
    Calls Tryz.prog 222 #[.int .u8 (c.toNat : Int)] w fun e w' => e = .returned (.bool (ofLabel c)) ∧ w' = w := by
  unfold ofLabel
  cases h1 : small c <;> cases h2 : fig c <;> cases h3 : ((c.toNat : Int) == 45)
  all_goals
    go_enter Tryz.func222, Tryz.ntmps222
    go_wp2_with (first | (go_at_call 162; refine (isSmall_any c _).mono ?_; rintro e w' ⟨rfl, rfl⟩; rw [h1]) | (go_at_call 203; refine (isFigure_any c _).mono ?_; rintro e w' ⟨rfl, rfl⟩; rw [h2]))
    go_ret
    exact ⟨by simp, rfl⟩

set_option maxHeartbeats 400000 in
theorem must_yes (t : ByteArray) (w : World) :
    Calls Tryz.prog 88 #[.bool true, .string t] w fun e w' => e = .returned (.tuple #[]) ∧ w' = w := by
  go_enter Tryz.func88, Tryz.ntmps88
  go_wp2
  go_end0
  exact ⟨rfl, rfl⟩

set_option maxHeartbeats 400000 in
theorem must_no (t : ByteArray) (w : World) :
    Calls Tryz.prog 88 #[.bool false, .string t] w fun e w' => Dies e ∧ w' = w := by
  go_enter Tryz.func88, Tryz.ntmps88
  go_wp2
  exact ⟨rfl, ⟨_, _, rfl⟩, rfl⟩

theorem take_snoc (s : ByteArray) (k : Nat) (h : k < s.size) : s.data.toList.take (k + 1) = s.data.toList.take k ++ [s[k]] := by
  rw [List.take_succ_eq_append_getElem (by simpa using h)]; rfl

theorem size_len (s : ByteArray) : s.data.toList.length = s.size := Array.length_toList

theorem ret_bool {a b : Bool} (h : a = b) : Ending.returned (.bool a) = .returned (.bool b) := by rw [h]

theorem all_stop {p : UInt8 → Bool} (s : ByteArray) (k : Nat) (h : k < s.size) (hb : p s[k] = false) : allB p s.data.toList = false := by
  unfold allB
  rw [List.all_eq_false]
  refine ⟨s[k], ?_, by simp [hb]⟩
  have : s[k] = s.data.toList[k]'(by rw [size_len]; exact h) := rfl
  rw [this]; exact List.getElem_mem _

theorem all_step {p : UInt8 → Bool} (s : ByteArray) (k : Nat) (h : k < s.size) (ha : Hid (allB p (s.data.toList.take k) = true)) (hb : p s[k] = true) : Hid (allB p (s.data.toList.take (k + 1)) = true) := by
  show _ = _
  have := ha.out
  unfold allB at *
  rw [take_snoc s k h, List.all_append, this]; simp [hb]

theorem all_full {p : UInt8 → Bool} (s : ByteArray) (k : Nat) (h : s.size ≤ k) (ha : Hid (allB p (s.data.toList.take k) = true)) : allB p s.data.toList = true := by
  have := ha.out
  rwa [List.take_of_length_le (by rw [size_len]; exact h)] at this

set_option maxHeartbeats 400000 in
theorem all_small (s : ByteArray) (w : World) (hs : s.size ≤ maxLen) :
    Calls Tryz.prog 123 #[.string s, .func (.func 162) #[] #[]] w fun e w' => e = .returned (.bool (allB small s.data.toList)) ∧ w' = w := by
  unfold maxLen at hs
  go_enter Tryz.func123, Tryz.ntmps123
  go_wp2
  go_loop [8, 5] (fun i _ => ∃ k : Nat, k ≤ s.size ∧ i = .int .i64 k ∧ Hid (allB small (s.data.toList.take k) = true)) (fun i _ => s.size - (intOf i).toNat)
  case atStart => exact ⟨0, Nat.zero_le _, rfl, rfl⟩
  case round =>
    obtain ⟨k, hk, rfl, hall⟩ := hrel
    by_cases hlt : k < s.size
    · cases hb : small s[k]
      · have hfin := (all_stop (p := small) s k hlt hb)
        go_wp2_with (go_at_call 162; refine (isSmall_any _ _).mono ?_; rintro e w' ⟨rfl, rfl⟩; rw [hb])
        go_ret
        exact ⟨ret_bool hfin.symm, rfl⟩
      · go_wp2_with (go_at_call 162; refine (isSmall_any _ _).mono ?_; rintro e w' ⟨rfl, rfl⟩; rw [hb])
        exact ⟨⟨k + 1, by omega, by go_num, all_step s k hlt hall hb⟩, by simp [intOf]; omega⟩
    · go_wp2
      go_ret
      exact ⟨ret_bool (all_full s k (by omega) hall).symm, rfl⟩

set_option maxHeartbeats 400000 in
theorem all_fig (s : ByteArray) (w : World) (hs : s.size ≤ maxLen) :
    Calls Tryz.prog 123 #[.string s, .func (.func 203) #[] #[]] w fun e w' => e = .returned (.bool (allB fig s.data.toList)) ∧ w' = w := by
  unfold maxLen at hs
  go_enter Tryz.func123, Tryz.ntmps123
  go_wp2
  go_loop [8, 5] (fun i _ => ∃ k : Nat, k ≤ s.size ∧ i = .int .i64 k ∧ Hid (allB fig (s.data.toList.take k) = true)) (fun i _ => s.size - (intOf i).toNat)
  case atStart => exact ⟨0, Nat.zero_le _, rfl, rfl⟩
  case round =>
    obtain ⟨k, hk, rfl, hall⟩ := hrel
    by_cases hlt : k < s.size
    · cases hb : fig s[k]
      · have hfin := (all_stop (p := fig) s k hlt hb)
        go_wp2_with (go_at_call 203; refine (isFigure_any _ _).mono ?_; rintro e w' ⟨rfl, rfl⟩; rw [hb])
        go_ret
        exact ⟨ret_bool hfin.symm, rfl⟩
      · go_wp2_with (go_at_call 203; refine (isFigure_any _ _).mono ?_; rintro e w' ⟨rfl, rfl⟩; rw [hb])
        exact ⟨⟨k + 1, by omega, by go_num, all_step s k hlt hall hb⟩, by simp [intOf]; omega⟩
    · go_wp2
      go_ret
      exact ⟨ret_bool (all_full s k (by omega) hall).symm, rfl⟩

set_option maxHeartbeats 400000 in
theorem all_lab (s : ByteArray) (w : World) (hs : s.size ≤ maxLen) :
    Calls Tryz.prog 123 #[.string s, .func (.func 222) #[] #[]] w fun e w' => e = .returned (.bool (allB ofLabel s.data.toList)) ∧ w' = w := by
  unfold maxLen at hs
  go_enter Tryz.func123, Tryz.ntmps123
  go_wp2
  go_loop [8, 5] (fun i _ => ∃ k : Nat, k ≤ s.size ∧ i = .int .i64 k ∧ Hid (allB ofLabel (s.data.toList.take k) = true)) (fun i _ => s.size - (intOf i).toNat)
  case atStart => exact ⟨0, Nat.zero_le _, rfl, rfl⟩
  case round =>
    obtain ⟨k, hk, rfl, hall⟩ := hrel
    by_cases hlt : k < s.size
    · cases hb : ofLabel s[k]
      · have hfin := (all_stop (p := ofLabel) s k hlt hb)
        go_wp2_with (go_at_call 222; refine (isOfLabel_any _ _).mono ?_; rintro e w' ⟨rfl, rfl⟩; rw [hb])
        go_ret
        exact ⟨ret_bool hfin.symm, rfl⟩
      · go_wp2_with (go_at_call 222; refine (isOfLabel_any _ _).mono ?_; rintro e w' ⟨rfl, rfl⟩; rw [hb])
        exact ⟨⟨k + 1, by omega, by go_num, all_step s k hlt hall hb⟩, by simp [intOf]; omega⟩
    · go_wp2
      go_ret
      exact ⟨ret_bool (all_full s k (by omega) hall).symm, rfl⟩

set_option maxHeartbeats 400000 in
theorem all_great (s : ByteArray) (w : World) (hs : s.size ≤ maxLen) :
    Calls Tryz.prog 123 #[.string s, .func (.func 207) #[] #[]] w fun e w' => e = .returned (.bool (allB great s.data.toList)) ∧ w' = w := by
  unfold maxLen at hs
  go_enter Tryz.func123, Tryz.ntmps123
  go_wp2
  go_loop [8, 5] (fun i _ => ∃ k : Nat, k ≤ s.size ∧ i = .int .i64 k ∧ Hid (allB great (s.data.toList.take k) = true)) (fun i _ => s.size - (intOf i).toNat)
  case atStart => exact ⟨0, Nat.zero_le _, rfl, rfl⟩
  case round =>
    obtain ⟨k, hk, rfl, hall⟩ := hrel
    by_cases hlt : k < s.size
    · cases hb : great s[k]
      · have hfin := (all_stop (p := great) s k hlt hb)
        go_wp2_with (go_at_call 207; refine (isGreat_any _ _).mono ?_; rintro e w' ⟨rfl, rfl⟩; rw [hb])
        go_ret
        exact ⟨ret_bool hfin.symm, rfl⟩
      · go_wp2_with (go_at_call 207; refine (isGreat_any _ _).mono ?_; rintro e w' ⟨rfl, rfl⟩; rw [hb])
        exact ⟨⟨k + 1, by omega, by go_num, all_step s k hlt hall hb⟩, by simp [intOf]; omega⟩
    · go_wp2
      go_ret
      exact ⟨ret_bool (all_full s k (by omega) hall).symm, rfl⟩

set_option maxHeartbeats 400000 in
theorem all_seen (s : ByteArray) (w : World) (hs : s.size ≤ maxLen) :
    Calls Tryz.prog 123 #[.string s, .func (.func 124) #[] #[]] w fun e w' => e = .returned (.bool (allB seenB s.data.toList)) ∧ w' = w := by
  unfold maxLen at hs
  go_enter Tryz.func123, Tryz.ntmps123
  go_wp2
  go_loop [8, 5] (fun i _ => ∃ k : Nat, k ≤ s.size ∧ i = .int .i64 k ∧ Hid (allB seenB (s.data.toList.take k) = true)) (fun i _ => s.size - (intOf i).toNat)
  case atStart => exact ⟨0, Nat.zero_le _, rfl, rfl⟩
  case round =>
    obtain ⟨k, hk, rfl, hall⟩ := hrel
    by_cases hlt : k < s.size
    · cases hb : seenB s[k]
      · have hfin := (all_stop (p := seenB) s k hlt hb)
        go_wp2_with (go_at_call 124; refine (isSeen_any _ _).mono ?_; rintro e w' ⟨rfl, rfl⟩; rw [hb])
        go_ret
        exact ⟨ret_bool hfin.symm, rfl⟩
      · go_wp2_with (go_at_call 124; refine (isSeen_any _ _).mono ?_; rintro e w' ⟨rfl, rfl⟩; rw [hb])
        exact ⟨⟨k + 1, by omega, by go_num, all_step s k hlt hall hb⟩, by simp [intOf]; omega⟩
    · go_wp2
      go_ret
      exact ⟨ret_bool (all_full s k (by omega) hall).symm, rfl⟩

end Go.Proofs.YtdmaffciijmdcaaGreatDoor

/-
  Plain functions on lists of bytes: cutting at a byte, numbers, tenants, labels, names, addresses, hosts, rules; and how the library's cuts at one byte are these.
-/
import Derived.Lib.Split
import Derived.Lib.IndexBytes
namespace Go.Proofs.YtfkggpminmonmaaDoor.Plain

def fig (c : UInt8) : Bool := decide (48 ≤ (c.toNat : Int)) && decide ((c.toNat : Int) ≤ 57)
def small (c : UInt8) : Bool := decide (97 ≤ (c.toNat : Int)) && decide ((c.toNat : Int) ≤ 122)
def great (c : UInt8) : Bool := decide (65 ≤ (c.toNat : Int)) && decide ((c.toNat : Int) ≤ 90)
def seenB (c : UInt8) : Bool := decide (33 ≤ (c.toNat : Int)) && decide ((c.toNat : Int) ≤ 126)
def ofLabel (c : UInt8) : Bool := small c || fig c || ((c.toNat : Int) == 45)
def allB (p : UInt8 → Bool) (l : List UInt8) : Bool := l.all p

/-- Around the first byte c. -/
def cutAt (c : UInt8) : List UInt8 → Option (List UInt8 × List UInt8)
  | [] => none
  | b :: l => if b = c then some ([], l) else match cutAt c l with
    | none => none
    | some (a, r) => some (b :: a, r)

/-- Cut at each byte c. -/
def parts (c : UInt8) : List UInt8 → List (List UInt8)
  | [] => [[]]
  | b :: l => if b = c then [] :: parts c l else match parts c l with
    | [] => [[b]]
    | p :: ps => (b :: p) :: ps

theorem parts_ne (c : UInt8) (l : List UInt8) : parts c l ≠ [] := by
  cases l with
  | nil => simp [parts]
  | cons b l =>
    unfold parts
    split
    · simp
    · split <;> simp

theorem parts_cut (c : UInt8) (l : List UInt8) : parts c l = match cutAt c l with
    | none => [l]
    | some (a, r) => a :: parts c r := by
  induction l with
  | nil => rfl
  | cons b l ih =>
    rw [parts, cutAt]
    by_cases h : b = c
    · simp [h]
    · simp only [h, if_false]
      rw [ih]
      cases hc : cutAt c l with
      | none => rfl
      | some x => rfl

theorem cutAt_none {c : UInt8} {l : List UInt8} : cutAt c l = none ↔ c ∉ l := by
  induction l with
  | nil => simp [cutAt]
  | cons b l ih =>
    unfold cutAt
    by_cases h : b = c
    · simp [h]
    · simp only [h, if_false]
      cases hc : cutAt c l with
      | none => rw [hc] at ih; simp at ih; simp [ih, Ne.symm h]
      | some x => rw [hc] at ih; simp at ih; simp [ih]

theorem cutAt_some {c : UInt8} {l a r : List UInt8} : cutAt c l = some (a, r) ↔ l = a ++ c :: r ∧ c ∉ a := by
  induction l generalizing a r with
  | nil => simp [cutAt]
  | cons b l ih =>
    unfold cutAt
    by_cases h : b = c
    · subst h
      simp only [if_true, Option.some.injEq, Prod.mk.injEq]
      constructor
      · rintro ⟨rfl, rfl⟩; simp
      · rintro ⟨h1, h2⟩
        cases a with
        | nil => simp at h1; exact ⟨rfl, h1⟩
        | cons x a => simp at h1; simp [h1.1] at h2
    · simp only [h, if_false]
      cases hc : cutAt c l with
      | none =>
        simp only [reduceCtorEq, false_iff, not_and]
        intro h1 h2
        have := cutAt_none.1 hc
        cases a with
        | nil => simp at h1; exact h h1.1
        | cons x a => simp at h1; apply this; rw [h1.2]; simp
      | some y =>
        obtain ⟨ya, yr⟩ := y
        simp only [Option.some.injEq, Prod.mk.injEq]
        have hy := ih.1 hc
        constructor
        · rintro ⟨rfl, rfl⟩
          exact ⟨by rw [hy.1]; rfl, by simp [hy.2, Ne.symm h]⟩
        · rintro ⟨h1, h2⟩
          cases a with
          | nil => simp at h1; exact absurd h1.1 h
          | cons x a =>
            simp at h1 h2
            have := ih.2 ⟨h1.2, h2.2⟩
            rw [hc] at this
            simp at this
            exact ⟨by rw [this.1, h1.1], this.2⟩

theorem index_cut (c : UInt8) (l : List UInt8) : Lib.index l [c] = match cutAt c l with
    | none => -1
    | some (a, _) => (a.length : Int) := by
  rw [Lib.index_one]
  induction l with
  | nil => rfl
  | cons b l ih =>
    unfold Lib.indexByte cutAt
    by_cases h : b = c
    · simp [h]
    · simp only [h, if_false, beq_iff_eq]
      rw [ih]
      cases hc : cutAt c l with
      | none => simp
      | some x => simp

theorem lib_cut (c : UInt8) (l : List UInt8) : Lib.cut l [c] = match cutAt c l with
    | none => (l, [], false)
    | some (a, r) => (a, r, true) := by
  unfold Lib.cut
  rw [index_cut]
  cases hc : cutAt c l with
  | none => simp
  | some x =>
    obtain ⟨a, r⟩ := x
    obtain ⟨rfl, _⟩ := cutAt_some.1 hc
    simp

theorem lib_contains (c : UInt8) (l : List UInt8) : Lib.contains l [c] = (cutAt c l).isSome := by
  unfold Lib.contains
  rw [index_cut]
  cases hc : cutAt c l with
  | none => simp
  | some x => simp

theorem splitK_cut (c : UInt8) (k : Nat) (l : List UInt8) : Lib.splitK [c] 0 (k + 1) l = match cutAt c l with
    | none => [l]
    | some (a, r) => a :: Lib.splitK [c] 0 k r := by
  rw [Lib.splitK, index_cut]
  cases hc : cutAt c l with
  | none => simp
  | some x =>
    obtain ⟨a, r⟩ := x
    obtain ⟨rfl, _⟩ := cutAt_some.1 hc
    simp

theorem parts_length (c : UInt8) : ∀ (l : List UInt8), (parts c l).length = l.count c + 1
  | [] => rfl
  | b :: l => by
    have ih := parts_length c l
    unfold parts
    by_cases h : b = c
    · simp [h, ih]
    · rw [if_neg h, List.count_cons_of_ne h]
      split
      · rename_i e; rw [e] at ih; simp at ih
      · rename_i e; rw [e] at ih; simpa using ih

/-- Cut at k places at most: all of them, or k + 1 pieces. -/
theorem splitK_parts (c : UInt8) : ∀ (k : Nat) (l : List UInt8), (parts c l).length ≤ k + 1 → Lib.splitK [c] 0 k l = parts c l
  | 0, l, h => by
    rw [parts_cut] at h ⊢
    cases hc : cutAt c l with
    | none => rfl
    | some x =>
      rw [hc] at h
      simp at h
      exact absurd h (parts_ne _ _)
  | k + 1, l, h => by
    rw [splitK_cut, parts_cut c l]
    rw [parts_cut] at h
    cases hc : cutAt c l with
    | none => rfl
    | some x =>
      rw [hc] at h
      simp at h
      simp only
      rw [splitK_parts c k _ h]

theorem splitK_more (c : UInt8) : ∀ (k : Nat) (l : List UInt8), k + 1 < (parts c l).length → (Lib.splitK [c] 0 k l).length = k + 1
  | 0, l, h => by simp [Lib.splitK]
  | k + 1, l, h => by
    rw [splitK_cut]
    rw [parts_cut] at h
    cases hc : cutAt c l with
    | none => rw [hc] at h; simp at h
    | some x =>
      rw [hc] at h
      simp at h
      simp only [List.length_cons]
      rw [splitK_more c k _ h]

theorem count_parts (c : UInt8) (l : List UInt8) : Lib.count l [c] + 1 = (parts c l).length := by
  rw [parts_length]
  suffices h : ∀ n (l : List UInt8), l.length ≤ n → Lib.count l [c] = l.count c by rw [h l.length l (Nat.le_refl _)]
  intro n
  induction n with
  | zero =>
    intro l h
    cases l with
    | nil => rfl
    | cons => simp at h
  | succ n ih =>
    intro l h
    have hi := index_cut c l
    cases hc : cutAt c l with
    | none =>
      rw [hc] at hi
      rw [Lib.count_miss hi, List.count_eq_zero_of_not_mem (cutAt_none.1 hc)]
    | some x =>
      obtain ⟨a, r⟩ := x
      rw [hc] at hi
      obtain ⟨rfl, ha⟩ := cutAt_some.1 hc
      rw [Lib.count_hit (by simp) hi]
      have e : (a ++ c :: r).drop (a.length + [c].length) = r := by simp
      rw [e, ih r (by simp at h; omega)]
      simp [List.count_append, List.count_eq_zero_of_not_mem ha]
      omega

theorem split_parts (c : UInt8) (l : List UInt8) : Lib.split l [c] = parts c l := by
  unfold Lib.split
  exact splitK_parts c _ l (by rw [count_parts]; exact Nat.le_refl _)

end Go.Proofs.YtfkggpminmonmaaDoor.Plain

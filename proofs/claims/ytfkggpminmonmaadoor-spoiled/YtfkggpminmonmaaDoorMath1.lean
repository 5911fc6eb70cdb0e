/-
  What is made out of raw numbers reads back: figures, addresses, rules.
-/
import Derived.Test.YtfkggpminmonmaaDoorRulesT
namespace Go.Proofs.YtfkggpminmonmaaDoor.Plain

theorem figOf_nat {n : Nat} (h : n < 10) : (figOf n).toNat = 48 + n := by
  unfold figOf
  match n, h with
  | 0, _ => rfl
  | 1, _ => rfl
  | 2, _ => rfl
  | 3, _ => rfl
  | 4, _ => rfl
  | 5, _ => rfl
  | 6, _ => rfl
  | 7, _ => rfl
  | 8, _ => rfl
  | 9, _ => rfl
theorem fig_figOf {n : Nat} (h : n < 10) : fig (figOf n) = true := by
  unfold fig
  rw [figOf_nat h]
  simp; omega

/-- What figures are. -/
theorem digits_facts : ∀ (f n : Nat), n < f → (∀ c ∈ digits n, fig c = true) ∧ numVal (digits n) = n ∧ digits n ≠ [] ∧ ((digits n).head? = some 48 → n = 0)
  | f + 1, n, h => by
    rw [digits_eq]
    by_cases hn : n < 10
    · rw [if_pos hn]
      refine ⟨fun c hc => ?_, ?_, by simp, fun hh => ?_⟩
      · simp at hc; rw [hc]; exact fig_figOf hn
      · unfold numVal digit; simp [figOf_nat hn]
      · have e : figOf n = 48 := by simpa using hh
        have := figOf_nat hn
        rw [e] at this
        have e2 : (48 : UInt8).toNat = 48 := rfl
        omega
    · rw [if_neg hn]
      obtain ⟨h1, h2, h3, h4⟩ := digits_facts f (n / 10) (by omega)
      have hm : n % 10 < 10 := Nat.mod_lt _ (by decide)
      refine ⟨fun c hc => ?_, ?_, by simp, fun hh => ?_⟩
      · rcases List.mem_append.1 hc with hc | hc
        · exact h1 c hc
        · simp at hc; rw [hc]; exact fig_figOf hm
      · rw [numVal_snoc, h2]
        unfold digit
        rw [figOf_nat hm]; omega
      · have e : (digits (n / 10) ++ [figOf (n % 10)]).head? = (digits (n / 10)).head? := by
          cases hd : digits (n / 10) with
          | nil => exact absurd hd h3
          | cons a l => rfl
        rw [e] at hh
        have := h4 hh
        omega

theorem number_digits (n hi : Nat) (h : n ≤ hi) : number (digits n) hi = some n := by
  obtain ⟨h1, h2, h3, h4⟩ := digits_facts (n + 1) n (by omega)
  unfold number
  rw [if_pos, h2]
  refine ⟨?_, by rw [h2]; exact h⟩
  unfold numForm
  have e1 : (digits n).isEmpty = false := by
    cases hd : digits n with
    | nil => exact absurd hd h3
    | cons => rfl
  have e2 : allB fig (digits n) = true := by unfold allB; rw [List.all_eq_true]; exact h1
  rw [e1, e2]
  by_cases hh : (digits n).head? = some 48
  · have h0 := h4 hh
    subst h0
    rfl
  · have e3 : ((digits n).head? != some 48) = true := by rw [bne_iff_ne]; exact hh
    rw [e3]; simp

/-- A byte that a rule's field may hold. -/
def fieldB (c : UInt8) : Bool := small c || fig c || c == 45 || c == 46 || c == 47 || c == 42
theorem fieldB_fig {c : UInt8} (h : fig c = true) : fieldB c = true := by unfold fieldB; rw [h]; simp
theorem digits_mem {n : Nat} {c : UInt8} (h : c ∈ digits n) : fig c = true := (digits_facts (n + 1) n (by omega)).1 c h
theorem fig_not {c : UInt8} (h : fig c = true) (x : UInt8) (hx : fig x = false) : c ≠ x := fun e => by rw [e, hx] at h; cases h
theorem not_digits {n : Nat} (x : UInt8) (hx : fig x = false) : x ∉ digits n := fun hm => by rw [digits_mem hm] at hx; cases hx

theorem parts_first {c : UInt8} {a b : List UInt8} (h : c ∉ a) : parts c (a ++ c :: b) = a :: parts c b := by
  rw [parts_cut, cutAt_some.2 ⟨rfl, h⟩]
theorem parts_alone {c : UInt8} {a : List UInt8} (h : c ∉ a) : parts c a = [a] := by
  rw [parts_cut, cutAt_none.2 h]

/-- The four numbers of an address. -/
def oct (a : Nat) : List Nat := [a / 16777216, a / 65536 % 256, a / 256 % 256, a % 256]
theorem address_dotted (a : Nat) (h : a < 4294967296) : address (dotted a) = some (oct a) := by
  have hd : ∀ n, (46 : UInt8) ∉ digits n := fun n => not_digits 46 (by decide)
  have hp : parts 46 (dotted a) = [digits (a / 16777216), digits (a / 65536 % 256), digits (a / 256 % 256), digits (a % 256)] := by
    unfold dotted
    rw [show digits (a / 16777216) ++ [46] ++ digits (a / 65536 % 256) ++ [46] ++ digits (a / 256 % 256) ++ [46] ++ digits (a % 256) = digits (a / 16777216) ++ 46 :: (digits (a / 65536 % 256) ++ 46 :: (digits (a / 256 % 256) ++ 46 :: digits (a % 256))) by simp]
    rw [parts_first (hd _), parts_first (hd _), parts_first (hd _), parts_alone (hd _)]
  unfold address
  rw [hp, if_pos (by rfl)]
  have h1 := number_digits (a / 16777216) 255 (by omega)
  have h2 := number_digits (a / 65536 % 256) 255 (by omega)
  have h3 := number_digits (a / 256 % 256) 255 (by omega)
  have h4 := number_digits (a % 256) 255 (by omega)
  simp [octets, h1, h2, h3, h4, oct]

theorem upto32 {b : Nat} (h : b < 33) : b = 0 ∨ b = 1 ∨ b = 2 ∨ b = 3 ∨ b = 4 ∨ b = 5 ∨ b = 6 ∨ b = 7 ∨ b = 8 ∨ b = 9 ∨ b = 10 ∨ b = 11 ∨ b = 12 ∨ b = 13 ∨ b = 14 ∨ b = 15 ∨ b = 16 ∨ b = 17 ∨ b = 18 ∨ b = 19 ∨ b = 20 ∨ b = 21 ∨ b = 22 ∨ b = 23 ∨ b = 24 ∨ b = 25 ∨ b = 26 ∨ b = 27 ∨ b = 28 ∨ b = 29 ∨ b = 30 ∨ b = 31 ∨ b = 32 := by omega

/-- The first bits of q are those of the block of A: in numbers. -/
theorem firstN_block (b q A : Nat) (hb : b < 33) (hq : q < 4294967296) (hA : A < 4294967296) :
    (firstN b (oct q) = oct (A / 2 ^ (32 - b) * 2 ^ (32 - b))) ↔ q / 2 ^ (32 - b) = A / 2 ^ (32 - b) := by
  unfold oct firstN keep
  rcases upto32 hb with h | h | h | h | h | h | h | h | h | h | h | h | h | h | h | h | h | h | h | h | h | h | h | h | h | h | h | h | h | h | h | h | h <;> subst h <;> simp <;> omega
theorem firstN_self (b A : Nat) (hb : b < 33) (hA : A < 4294967296) : firstN b (oct (A / 2 ^ (32 - b) * 2 ^ (32 - b))) = oct (A / 2 ^ (32 - b) * 2 ^ (32 - b)) := by
  have hv : 0 < 2 ^ (32 - b) := Nat.pow_pos (by decide)
  have hle : A / 2 ^ (32 - b) * 2 ^ (32 - b) ≤ A := Nat.div_mul_le_self _ _
  refine (firstN_block b _ A hb (by omega) hA).2 ?_
  rw [Nat.mul_div_cancel _ hv]
end Go.Proofs.YtfkggpminmonmaaDoor.Plain

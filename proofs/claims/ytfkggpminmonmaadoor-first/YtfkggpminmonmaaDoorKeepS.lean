/-
  The statements' own rules and questions, as plain functions: numbers picked, figures, tenants, names, addresses, texts.
-/
import Derived.Test.YtfkggpminmonmaaDoorRuleS
namespace Go.Proofs.YtfkggpminmonmaaDoor.Plain

def pickN (c : Int) (n : Nat) : Nat := if c < 0 then (-(c + 1)).toNat % n else c.toNat % n
theorem pickN_lt (c : Int) {n : Nat} (h : 0 < n) : pickN c n < n := by
  unfold pickN
  split <;> exact Nat.mod_lt _ h

/-- One figure. -/
def figOf (n : Nat) : UInt8 := (48 + n).toUInt8
/-- A number's figures; fuel: more than it has. -/
def digitsF : Nat → Nat → List UInt8
  | 0, _ => []
  | f + 1, n => if n < 10 then [figOf n] else digitsF f (n / 10) ++ [figOf (n % 10)]
theorem digitsF_fuel : ∀ (f g n : Nat), n < f → n < g → digitsF f n = digitsF g n
  | f + 1, g + 1, n, h1, h2 => by
    unfold digitsF
    split
    · rfl
    · rw [digitsF_fuel f g (n / 10) (by omega) (by omega)]
def digits (n : Nat) : List UInt8 := digitsF (n + 1) n
theorem digits_eq (n : Nat) : digits n = if n < 10 then [figOf n] else digits (n / 10) ++ [figOf (n % 10)] := by
  unfold digits
  conv => lhs; unfold digitsF
  split
  · rfl
  · rw [digitsF_fuel n (n / 10 + 1) (n / 10) (by omega) (by omega)]

def tenantS (n : Nat) : List UInt8 := match n % 3 with
  | 0 => [97, 110, 110]
  | 1 => [98, 111, 98]
  | _ => [99, 121]
def nameS (n : Nat) : List UInt8 := match n % 6 with
  | 0 => [101, 120, 97, 109, 112, 108, 101, 46, 99, 111, 109]
  | 1 => [119, 119, 119, 46, 101, 120, 97, 109, 112, 108, 101, 46, 99, 111, 109]
  | 2 => [97, 46, 98, 46, 101, 120, 97, 109, 112, 108, 101, 46, 99, 111, 109]
  | 3 => [101, 120, 97, 109, 112, 108, 101, 46, 111, 114, 103]
  | 4 => [110, 111, 116, 101, 120, 97, 109, 112, 108, 101, 46, 99, 111, 109]
  | _ => [120]
def dotted (a : Nat) : List UInt8 := digits (a / 16777216) ++ [46] ++ digits (a / 65536 % 256) ++ [46] ++ digits (a / 256 % 256) ++ [46] ++ digits (a % 256)
end Go.Proofs.YtfkggpminmonmaaDoor.Plain

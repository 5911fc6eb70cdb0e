/-
  Package words: (Address).First.
-/
import Derived.Test.YtfkggpminmonmaaDoorAddr
namespace Go.Proofs.YtfkggpminmonmaaDoor
open Go.RowKit Plain

theorem and_keep (a : Nat) (ha : a ≤ 255) (x : Int) (k : Nat) (hk : k ≤ 8) (hx : x.toNat = 8 - k) : bits .and .u8 (a : Int) (255 * 2 ^ x.toNat % 256) = (keep k a : Int) := by
  rw [hx]
  have e : ((255 : Int) * 2 ^ (8 - k) % 256) = ((255 * 2 ^ (8 - k) % 256 : Nat) : Int) := by
    rw [Int.natCast_emod, Int.natCast_mul, Int.natCast_pow]; rfl
  rw [e, u8_and_nat a _ (by omega) (Nat.mod_lt _ (by decide))]
  exact congrArg _ (keep_and ⟨k, by omega⟩ ⟨a, by omega⟩)

/-- The first n bits of four bytes. -/
def firstBits (n a b c d : Nat) : Value := .agg #[u8 (keep (min 8 n) a), u8 (keep (min 8 (n - 8)) b), u8 (keep (min 8 (n - 16)) c), u8 (keep (min 8 (n - 24)) d)]

set_option maxHeartbeats 800000 in
theorem first_any (a b c d : Nat) (n : Nat) (hn : n ≤ 32) (ha : a ≤ 255) (hb : b ≤ 255) (hc : c ≤ 255) (hd : d ≤ 255) (w : World) :
    Calls Tryd.prog 94 #[.agg #[u8 a, u8 b, u8 c, u8 d], .int .i64 n] w fun e w' => e = .returned (firstBits n a b c d) ∧ Q w w' := by
  have HA := show Hid _ from and_keep a ha (8 - min (n : Int) 8) (min 8 n) (by omega) (by omega)
  have HB := show Hid _ from and_keep b hb (8 - min (max ((n : Int) - 8) 0) 8) (min 8 (n - 8)) (by omega) (by omega)
  have HC := show Hid _ from and_keep c hc (8 - min (max ((n : Int) - 16) 0) 8) (min 8 (n - 16)) (by omega) (by omega)
  have HD := show Hid _ from and_keep d hd (8 - min (max ((n : Int) - 24) 0) 8) (min 8 (n - 24)) (by omega) (by omega)
  unfold u8
  go_enter Tryd.func94, Tryd.ntmps94
  go_wp2_with fail
  refine wp_loop_rounds 5 ?_
  rw [rounds_succ]
  go_wp2_with fail
  go_region
  go_wp2_with fail
  rw [rounds_succ]
  go_wp2_with fail
  go_region
  go_wp2_with fail
  rw [rounds_succ]
  go_wp2_with fail
  go_region
  go_wp2_with fail
  rw [rounds_succ]
  go_wp2_with fail
  go_region
  go_wp2_with fail
  rw [rounds_succ]
  go_wp2_with fail
  go_returns
  rw [HA.out, HB.out, HC.out, HD.out]
  exact ⟨rfl, by unfold Q; go_grown⟩
end Go.Proofs.YtfkggpminmonmaaDoor

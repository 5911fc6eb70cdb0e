/-
  The statements' own functions: dotted, width.
-/
import Derived.Test.YtfkggpminmonmaaDoorKeep1
namespace Go.Proofs.YtfkggpminmonmaaDoor
open Go.RowKit Plain

set_option maxHeartbeats 400000 in
theorem dotted_any (a : Nat) (w : World) (ha : a < 4294967296) :
    Calls Tryd.prog 32 #[.int .i64 (a : Int)] w fun e w' => e = .returned (str (dotted a)) ∧ ∃ m, w' = w.drewN m := by
  have l1 := digits_len6 (a / 16777216) (by omega)
  have l2 := digits_len6 (a / 65536 % 256) (by omega)
  have l3 := digits_len6 (a / 256 % 256) (by omega)
  have l4 := digits_len6 (a % 256) (by omega)
  have HD : Hid (dotted a = digits (a / 16777216) ++ [46] ++ digits (a / 65536 % 256) ++ [46] ++ digits (a / 256 % 256) ++ [46] ++ digits (a % 256)) := rfl
  have e1 : ((a : Int) / 16777216).toNat = a / 16777216 := by omega
  have e2 : ((a : Int) / 65536 % 256).toNat = a / 65536 % 256 := by omega
  have e3 : ((a : Int) / 256 % 256).toNat = a / 256 % 256 := by omega
  have e4 : ((a : Int) % 256).toNat = a % 256 := by omega
  have E1 := show Hid _ from e1
  have E2 := show Hid _ from e2
  have E3 := show Hid _ from e3
  have E4 := show Hid _ from e4
  clear e1 e2 e3 e4
  generalize hg1 : digits (a / 16777216) = d1 at *
  generalize hg2 : digits (a / 65536 % 256) = d2 at *
  generalize hg3 : digits (a / 256 % 256) = d3 at *
  generalize hg4 : digits (a % 256) = d4 at *
  have G1 := show Hid _ from hg1
  have G2 := show Hid _ from hg2
  have G3 := show Hid _ from hg3
  have G4 := show Hid _ from hg4
  clear hg1 hg2 hg3 hg4
  go_enter Tryd.func32, Tryd.ntmps32
  go_wp2_with fail
  refine (digits_any _ _ (by omega) (by omega)).mono ?_
  rintro e w1 ⟨rfl, m1, rfl⟩
  rw [E1.out, G1.out]
  unfold str
  go_wp2_with fail
  refine (digits_any _ _ (by omega) (by omega)).mono ?_
  rintro e w1 ⟨rfl, m2, rfl⟩
  rw [E2.out, G2.out]
  unfold str
  go_wp2_with fail
  refine (digits_any _ _ (by omega) (by omega)).mono ?_
  rintro e w1 ⟨rfl, m3, rfl⟩
  rw [E3.out, G3.out]
  unfold str
  go_wp2_with fail
  refine (digits_any _ _ (by omega) (by omega)).mono ?_
  rintro e w1 ⟨rfl, m4, rfl⟩
  rw [E4.out, G4.out]
  unfold str
  go_wp2_with fail
  go_ret
  refine ⟨?_, _, rfl⟩
  unfold str
  rw [HD.out, ← str_app, ← str_app, ← str_app, ← str_app, ← str_app, ← str_app]
  rfl

/-- 2 to the power of the bits that are left. -/
def widthS (bits : Int) : Nat := 2 ^ (32 - pickN bits 33)

set_option maxHeartbeats 400000 in
theorem width_any (bits : Int) (w : World) (hb : I64 bits) :
    Calls Tryd.prog 49 #[.int .i64 bits] w fun e w' => e = .returned (.int .i64 (widthS bits : Nat)) ∧ w' = w := by
  have hp := pickN_lt bits (n := 33) (by decide)
  have HW : Hid (widthS bits = 2 ^ (32 - pickN bits 33)) := rfl
  generalize hg : pickN bits 33 = p at *
  have G := show Hid _ from hg
  clear hg
  go_enter Tryd.func49, Tryd.ntmps49
  go_wp2_with (first | (go_at_call 14; refine (pick_any bits 33 _ hb (by decide) (by decide)).mono ?_; rintro e w' ⟨rfl, rfl⟩; rw [show pickN bits (33 : Int).toNat = p from G.out]))
  go_loop [3, 4] (fun v i => ∃ k : Nat, p ≤ k ∧ k ≤ 32 ∧ i = .int .i64 k ∧ v = .int .i64 ((2 ^ (k - p) : Nat) : Int)) (fun _ i => 32 - (intOf i).toNat)
  case atStart => exact ⟨p, Nat.le_refl _, by omega, rfl, by simp⟩
  case round =>
    obtain ⟨k, hk1, hk2, rfl, rfl⟩ := hrel
    have hpow : 2 ^ (k - p) ≤ 2 ^ 32 := Nat.pow_le_pow_right (by decide) (by omega)
    by_cases hlt : k < 32
    · have hs : (2 : Nat) ^ (k + 1 - p) = 2 * 2 ^ (k - p) := by rw [show k + 1 - p = (k - p) + 1 by omega, Nat.pow_succ]; omega
      have HS := show Hid _ from hs
      clear hs
      generalize (2 : Nat) ^ (k - p) = v at *
      go_wp2_with fail
      exact ⟨⟨k + 1, by omega, by omega, by go_num, by rw [HS.out]; go_num⟩, by simp [intOf]; omega⟩
    · have hk : k = 32 := by omega
      subst hk
      generalize (2 : Nat) ^ (32 - p) = v at *
      go_wp2_with fail
      go_ret
      exact ⟨ret_int (by rw [HW.out]), rfl⟩
end Go.Proofs.YtfkggpminmonmaaDoor

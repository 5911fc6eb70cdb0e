/-
  The statements' own functions: pick, digits, tenants, names, address, dotted, width.
-/
import Derived.Test.YtdmaffciijmdcaaGreatDoorCaughtQToKeepS
import Derived.Deep.QuietTactic
import Derived.BigQuiet
namespace Go.Proofs.YtdmaffciijmdcaaGreatDoor
open Go.RowKit Plain

def I64 (n : Int) : Prop := -9223372036854775808 ≤ n ∧ n ≤ 9223372036854775807

theorem tmod_nat (a n : Int) (ha : 0 ≤ a) (hn : 0 < n) : a.tmod n = ((a.toNat % n.toNat : Nat) : Int) := by
  rw [Int.tmod_eq_emod_of_nonneg ha]
  obtain ⟨x, rfl⟩ := Int.eq_ofNat_of_zero_le ha
  obtain ⟨y, rfl⟩ := Int.eq_ofNat_of_zero_le (Int.le_of_lt hn)
  rw [Int.toNat_natCast, Int.toNat_natCast, Int.natCast_emod]

set_option maxHeartbeats 400000 in
theorem pick_any (c n : Int) (w : World) (hc : I64 c) (hn : 0 < n) (hn2 : n ≤ 4294967296) :
    Calls Tryz.prog 12 #[.int .i64 c, .int .i64 n] w fun e w' => e = .returned (.int .i64 (pickN c n.toNat : Nat)) ∧ w' = w := by
  obtain ⟨h1, h2⟩ := hc
  have hne : ¬ n = 0 := by omega
  by_cases h : c < 0
  · have hm := tmod_nat (-(c + 1)) n (by omega) hn
    have hlt : (-(c + 1)).toNat % n.toNat < n.toNat := Nat.mod_lt _ (by omega)
    have HM := show Hid _ from hm
    clear hm
    go_enter Tryz.func12, Tryz.ntmps12
    go_wp2
    go_ret
    refine ⟨ret_int ?_, rfl⟩
    unfold pickN
    rw [if_pos h, ← HM.out, Int.neg_tmod]
  · have hm := tmod_nat c n (by omega) hn
    have hlt : c.toNat % n.toNat < n.toNat := Nat.mod_lt _ (by omega)
    have HM := show Hid _ from hm
    clear hm
    go_enter Tryz.func12, Tryz.ntmps12
    go_wp2
    go_ret
    refine ⟨ret_int ?_, rfl⟩
    unfold pickN
    rw [if_neg (by omega), ← HM.out, Int.tmod_eq_emod_of_nonneg h]

theorem ten_slice (s : Nat) (h : s < 10) : (⟨#[48, 49, 50, 51, 52, 53, 54, 55, 56, 57]⟩ : ByteArray).extract s (s + 1) = ⟨[figOf s].toArray⟩ := by
  match s, h with
  | 0, _ => rfl
  | 1, _ => rfl
  | 2, _ => rfl
  | 3, _ => rfl
  | 4, _ => rfl
  | 5, _ => rfl
  | 6, _ => rfl
  | 7, _ => rfl
  | 8, _ => rfl
  | 9, _ => rfl

theorem str_app (a b : List UInt8) : (⟨a.toArray⟩ : ByteArray) ++ (⟨b.toArray⟩ : ByteArray) = ⟨(a ++ b).toArray⟩ := by
  apply ByteArray.ext
  rw [ByteArray.data_append]
  simp

theorem digits_len (n : Nat) : (digits n).length ≤ n + 1 := by
  have h : ∀ f n, (digitsF f n).length ≤ n + 1 := by
    intro f
    induction f with
    | zero => intro n; simp [digitsF]
    | succ f ih =>
      intro n
      unfold digitsF
      split
      · simp
      · have := ih (n / 10); simp; omega
  exact h _ _
theorem digits_len6 (n : Nat) (h : n ≤ 65536) : (digits n).length ≤ 5 := by
  rw [digits_eq]; split; · simp
  rw [digits_eq]; split; · simp
  rw [digits_eq]; split; · simp
  rw [digits_eq]; split; · simp
  rw [digits_eq]; split; · simp
  omega

set_option maxHeartbeats 400000 in
theorem digits_upto (f : Nat) : ∀ (n : Int) (w : World), 0 ≤ n → n ≤ 4294967296 → n.toNat < f →
    Calls Tryz.prog 46 #[.int .i64 n] w fun e w' => e = .returned (str (digits n.toNat)) ∧ ∃ m, w' = w.drewN m := by
  induction f with
  | zero => intro n w _ _ h; omega
  | succ f ih =>
    intro n w h0 hb hf
    have IH := show Hid _ from ih
    clear ih
    obtain ⟨n, rfl⟩ := Int.eq_ofNat_of_zero_le h0
    rw [Int.toNat_natCast] at hf ⊢
    by_cases hn : n < 10
    · have HD : Hid (digits n = [figOf n]) := by
        show _ = _
        rw [digits_eq, if_pos hn]
      have HS := show Hid _ from ten_slice n hn
      go_enter Tryz.func46, Tryz.ntmps46
      go_wp2_with fail
      go_ret
      exact ⟨by rw [HD.out]; unfold str; rw [← HS.out]; rfl, 0, rfl⟩
    · have HD : Hid (digits n = digits (n / 10) ++ [figOf (n % 10)]) := by
        show _ = _
        rw [digits_eq, if_neg hn]
      have hm : n % 10 < 10 := Nat.mod_lt _ (by decide)
      have HS := show Hid _ from ten_slice (n % 10) hm
      have hl := digits_len (n / 10)
      have hq : ((n : Int) / 10).toNat = n / 10 := by omega
      have hq2 : ((n : Int) % 10).toNat = n % 10 := by omega
      have hlt : n / 10 < f := by omega
      have HQ := show Hid _ from hq
      have HQ2 := show Hid _ from hq2
      clear hq hq2
      go_enter Tryz.func46, Tryz.ntmps46
      go_wp2_with fail
      have IH2 : ∀ w, Calls Tryz.prog 46 #[.int .i64 ((n : Int) / 10)] w fun e w' => e = .returned (.string ⟨(digits (n / 10)).toArray⟩) ∧ ∃ m, w' = w.drewN m := fun w => by
        have := IH.out ((n : Int) / 10) w (by omega) (by omega) (by rw [HQ.out]; exact hlt)
        rw [HQ.out] at this
        exact this
      have I2 := fun w => show Hid _ from IH2 w
      clear IH2
      have t1 : (n : Int).tmod 10 = ((n % 10 : Nat) : Int) := by rw [Int.tmod_eq_emod_of_nonneg (by omega)]; omega
      have t2 : IntKind.i64.wrap ((n : Int) / 10) = (n : Int) / 10 := by simp (disch := omega) only [IntWalk.i64_in]
      have t3 : IntKind.i64.wrap ((n : Int) % 10 + 1) = (n : Int) % 10 + 1 := by simp (disch := omega) only [IntWalk.i64_in]
      go_quiet ((go_at_call 46; exact Calls.quiet_of (Hid.out (I2 _))))
      go_wp2_with fail
      go_ret
      refine ⟨?_, _, rfl⟩
      unfold str
      rw [HD.out, ← str_app, ← HS.out]
      rfl

/-- digits, of what is no more than 32 bits. -/
theorem digits_any (n : Int) (w : World) (h0 : 0 ≤ n) (hb : n ≤ 4294967296) :
    Calls Tryz.prog 46 #[.int .i64 n] w fun e w' => e = .returned (str (digits n.toNat)) ∧ ∃ m, w' = w.drewN m := digits_upto (n.toNat + 1) n w h0 hb (by omega)

set_option maxRecDepth 100000 in
set_option maxHeartbeats 400000 in
theorem tenants_any (n : Int) (w : World) (h0 : 0 ≤ n) (hb : n ≤ 2) :
    Calls Tryz.prog 48 #[.int .i64 n] w fun e w' => e = .returned (str (tenantS n.toNat)) ∧ Q w w' := by
  have h : n = 0 ∨ n = 1 ∨ n = 2 := by omega
  rcases h with rfl | rfl | rfl
  all_goals
    go_enter Tryz.func48, Tryz.ntmps48
    go_wp2_with fail
    go_ret
    exact ⟨rfl, by unfold Q; go_grown⟩

set_option maxRecDepth 100000 in
set_option maxHeartbeats 400000 in
theorem names_any (n : Int) (w : World) (h0 : 0 ≤ n) (hb : n ≤ 11) :
    Calls Tryz.prog 23 #[.int .i64 n] w fun e w' => e = .returned (str (nameS n.toNat)) ∧ Q w w' := by
  have h : n = 0 ∨ n = 1 ∨ n = 2 ∨ n = 3 ∨ n = 4 ∨ n = 5 ∨ n = 6 ∨ n = 7 ∨ n = 8 ∨ n = 9 ∨ n = 10 ∨ n = 11 := by omega
  rcases h with rfl | rfl | rfl | rfl | rfl | rfl | rfl | rfl | rfl | rfl | rfl | rfl
  all_goals
    go_enter Tryz.func23, Tryz.ntmps23
    go_wp2_with fail
    go_ret
    exact ⟨rfl, by unfold Q; go_grown⟩

set_option maxHeartbeats 400000 in
theorem address_any (n : Int) (w : World) (hn : I64 n) :
    Calls Tryz.prog 45 #[.int .i64 n] w fun e w' => e = .returned (.int .i64 (pickN n 4294967296 : Nat)) ∧ w' = w := by
  go_enter Tryz.func45, Tryz.ntmps45
  go_wp2_with (first | (go_at_call 12; refine (pick_any n 4294967296 _ hn (by decide) (by decide)).mono ?_; rintro e w' ⟨rfl, rfl⟩))
  go_ret
  exact ⟨rfl, rfl⟩

end Go.Proofs.YtdmaffciijmdcaaGreatDoor
/-
  The statements' own functions: dotted, width.
-/
namespace Go.Proofs.YtdmaffciijmdcaaGreatDoor
open Go.RowKit Plain

set_option maxHeartbeats 400000 in
theorem dotted_any (a : Nat) (w : World) (ha : a < 4294967296) :
    Calls Tryz.prog 44 #[.int .i64 (a : Int)] w fun e w' => e = .returned (str (dotted a)) ∧ ∃ m, w' = w.drewN m := by
  have l1 := digits_len6 (a / 16777216) (by omega)
  have l2 := digits_len6 (a / 65536 % 256) (by omega)
  have l3 := digits_len6 (a / 256 % 256) (by omega)
  have l4 := digits_len6 (a % 256) (by omega)
  have HD : Hid (dotted a = digits (a / 16777216) ++ [46] ++ digits (a / 65536 % 256) ++ [46] ++ digits (a / 256 % 256) ++ [46] ++ digits (a % 256)) := rfl
  have e1 : ((a : Int) / 16777216).toNat = a / 16777216 := by omega
  have e2 : ((a : Int) / 65536 % 256).toNat = a / 65536 % 256 := by omega
  have e3 : ((a : Int) / 256 % 256).toNat = a / 256 % 256 := by omega
  have e4 : ((a : Int) % 256).toNat = a % 256 := by omega
  have E1 := show Hid _ from e1
  have E2 := show Hid _ from e2
  have E3 := show Hid _ from e3
  have E4 := show Hid _ from e4
  clear e1 e2 e3 e4
  generalize hg1 : digits (a / 16777216) = d1 at *
  generalize hg2 : digits (a / 65536 % 256) = d2 at *
  generalize hg3 : digits (a / 256 % 256) = d3 at *
  generalize hg4 : digits (a % 256) = d4 at *
  have G1 := show Hid _ from hg1
  have G2 := show Hid _ from hg2
  have G3 := show Hid _ from hg3
  have G4 := show Hid _ from hg4
  clear hg1 hg2 hg3 hg4
  go_enter Tryz.func44, Tryz.ntmps44
  go_wp2_with fail
  refine (digits_any _ _ (by omega) (by omega)).mono ?_
  rintro e w1 ⟨rfl, m1, rfl⟩
  rw [E1.out, G1.out]
  unfold str
  go_wp2_with fail
  refine (digits_any _ _ (by omega) (by omega)).mono ?_
  rintro e w1 ⟨rfl, m2, rfl⟩
  rw [E2.out, G2.out]
  unfold str
  go_wp2_with fail
  refine (digits_any _ _ (by omega) (by omega)).mono ?_
  rintro e w1 ⟨rfl, m3, rfl⟩
  rw [E3.out, G3.out]
  unfold str
  go_wp2_with fail
  refine (digits_any _ _ (by omega) (by omega)).mono ?_
  rintro e w1 ⟨rfl, m4, rfl⟩
  rw [E4.out, G4.out]
  unfold str
  go_wp2_with fail
  go_ret
  refine ⟨?_, _, rfl⟩
  unfold str
  rw [HD.out, ← str_app, ← str_app, ← str_app, ← str_app, ← str_app, ← str_app]
  rfl

/-- 2 to the power of the bits that are left. -/
def widthS (bits : Int) : Nat := 2 ^ (32 - pickN bits 33)

set_option maxHeartbeats 400000 in
theorem width_any (bits : Int) (w : World) (hb : I64 bits) :
    Calls Tryz.prog 89 #[.int .i64 bits] w fun e w' => e = .returned (.int .i64 (widthS bits : Nat)) ∧ w' = w := by
  have hp := pickN_lt bits (n := 33) (by decide)
  have HW : Hid (widthS bits = 2 ^ (32 - pickN bits 33)) := rfl
  generalize hg : pickN bits 33 = p at *
  have G := show Hid _ from hg
  clear hg
  go_enter Tryz.func89, Tryz.ntmps89
  go_wp2_with (first | (go_at_call 12; refine (pick_any bits 33 _ hb (by decide) (by decide)).mono ?_; rintro e w' ⟨rfl, rfl⟩; rw [show pickN bits (33 : Int).toNat = p from G.out]))
  go_loop [3, 4] (fun v i => ∃ k : Nat, p ≤ k ∧ k ≤ 32 ∧ i = .int .i64 k ∧ v = .int .i64 ((2 ^ (k - p) : Nat) : Int)) (fun _ i => 32 - (intOf i).toNat)
  case atStart => exact ⟨p, Nat.le_refl _, by omega, rfl, by simp⟩
  case round =>
    obtain ⟨k, hk1, hk2, rfl, rfl⟩ := hrel
    have hpow : 2 ^ (k - p) ≤ 2 ^ 32 := Nat.pow_le_pow_right (by decide) (by omega)
    by_cases hlt : k < 32
    · have hs : (2 : Nat) ^ (k + 1 - p) = 2 * 2 ^ (k - p) := by rw [show k + 1 - p = (k - p) + 1 by omega, Nat.pow_succ]; omega
      have HS := show Hid _ from hs
      clear hs
      generalize (2 : Nat) ^ (k - p) = v at *
      go_wp2_with fail
      exact ⟨⟨k + 1, by omega, by omega, by go_num, by rw [HS.out]; go_num⟩, by simp [intOf]; omega⟩
    · have hk : k = 32 := by omega
      subst hk
      generalize (2 : Nat) ^ (32 - p) = v at *
      go_wp2_with fail
      go_ret
      exact ⟨ret_int (by rw [HW.out]), rfl⟩
end Go.Proofs.YtdmaffciijmdcaaGreatDoor

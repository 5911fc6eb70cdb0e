/-
  The leaves of package words: which bytes are figures, small letters, of a label; Must; all.
-/
import Derived.Test.YtfkggpminmonmaaDoorRows
import Derived.Test.YtfkggpminmonmaaDoorPlain
import Derived.WalkKit
import Derived.WalkSpells
import Derived.WalkLawsBesides
namespace Go.Proofs.YtfkggpminmonmaaDoor
open Go.RowKit Plain

/-- The call dies of one panic. -/
def Dies (e : Ending) : Prop := ∃ t v, e = .panicked [{ v := .iface t v, recovered := false }]

set_option maxHeartbeats 400000 in
theorem isFigure_any (c : UInt8) (w : World) :
    Calls Tryd.prog 82 #[.int .u8 (c.toNat : Int)] w fun e w' => e = .returned (.bool (fig c)) ∧ w' = w := by
  unfold fig
  generalize (c.toNat : Int) = c
  by_cases h1 : 48 ≤ c <;> by_cases h2 : c ≤ 57
  all_goals
    go_enter Tryd.func82, Tryd.ntmps82
    go_wp2
    go_ret
    exact ⟨by simp [h1, h2], rfl⟩

set_option maxHeartbeats 400000 in
theorem isSmall_any (c : UInt8) (w : World) :
    Calls Tryd.prog 80 #[.int .u8 (c.toNat : Int)] w fun e w' => e = .returned (.bool (small c)) ∧ w' = w := by
  unfold small
  generalize (c.toNat : Int) = c
  by_cases h1 : 97 ≤ c <;> by_cases h2 : c ≤ 122
  all_goals
    go_enter Tryd.func80, Tryd.ntmps80
    go_wp2
    go_ret
    exact ⟨by simp [h1, h2], rfl⟩

set_option maxHeartbeats 400000 in
theorem isGreat_any (c : UInt8) (w : World) :
    Calls Tryd.prog 105 #[.int .u8 (c.toNat : Int)] w fun e w' => e = .returned (.bool (great c)) ∧ w' = w := by
  unfold great
  generalize (c.toNat : Int) = c
  by_cases h1 : 65 ≤ c <;> by_cases h2 : c ≤ 90
  all_goals
    go_enter Tryd.func105, Tryd.ntmps105
    go_wp2
    go_ret
    exact ⟨by simp [h1, h2], rfl⟩

set_option maxHeartbeats 400000 in
theorem isOfLabel_any (c : UInt8) (w : World) :
    Calls Tryd.prog 113 #[.int .u8 (c.toNat : Int)] w fun e w' => e = .returned (.bool (ofLabel c)) ∧ w' = w := by
  unfold ofLabel
  cases h1 : small c <;> cases h2 : fig c <;> cases h3 : ((c.toNat : Int) == 45)
  all_goals
    go_enter Tryd.func113, Tryd.ntmps113
    go_wp2_with (first | (go_at_call 80; refine (isSmall_any c _).mono ?_; rintro e w' ⟨rfl, rfl⟩; rw [h1]) | (go_at_call 82; refine (isFigure_any c _).mono ?_; rintro e w' ⟨rfl, rfl⟩; rw [h2]))
    go_ret
    exact ⟨by simp, rfl⟩

set_option maxHeartbeats 400000 in
theorem must_yes (t : ByteArray) (w : World) :
    Calls Tryd.prog 38 #[.bool true, .string t] w fun e w' => e = .returned (.tuple #[]) ∧ w' = w := by
  go_enter Tryd.func38, Tryd.ntmps38
  go_wp2
  go_end0
  exact ⟨rfl, rfl⟩

set_option maxHeartbeats 400000 in
theorem must_no (t : ByteArray) (w : World) :
    Calls Tryd.prog 38 #[.bool false, .string t] w fun e w' => Dies e ∧ w' = w := by
  go_enter Tryd.func38, Tryd.ntmps38
  go_wp2
  exact ⟨rfl, ⟨_, _, rfl⟩, rfl⟩

theorem take_snoc (s : ByteArray) (k : Nat) (h : k < s.size) : s.data.toList.take (k + 1) = s.data.toList.take k ++ [s[k]] := by
  rw [List.take_succ_eq_append_getElem (by simpa using h)]; rfl

theorem size_len (s : ByteArray) : s.data.toList.length = s.size := Array.length_toList

theorem ret_bool {a b : Bool} (h : a = b) : Ending.returned (.bool a) = .returned (.bool b) := by rw [h]

theorem all_stop {p : UInt8 → Bool} (s : ByteArray) (k : Nat) (h : k < s.size) (hb : p s[k] = false) : allB p s.data.toList = false := by
  unfold allB
  rw [List.all_eq_false]
  refine ⟨s[k], ?_, by simp [hb]⟩
  have : s[k] = s.data.toList[k]'(by rw [size_len]; exact h) := rfl
  rw [this]; exact List.getElem_mem _

theorem all_step {p : UInt8 → Bool} (s : ByteArray) (k : Nat) (h : k < s.size) (ha : Hid (allB p (s.data.toList.take k) = true)) (hb : p s[k] = true) : Hid (allB p (s.data.toList.take (k + 1)) = true) := by
  show _ = _
  have := ha.out
  unfold allB at *
  rw [take_snoc s k h, List.all_append, this]; simp [hb]

theorem all_full {p : UInt8 → Bool} (s : ByteArray) (k : Nat) (h : s.size ≤ k) (ha : Hid (allB p (s.data.toList.take k) = true)) : allB p s.data.toList = true := by
  have := ha.out
  rwa [List.take_of_length_le (by rw [size_len]; exact h)] at this

set_option maxHeartbeats 400000 in
theorem all_small (s : ByteArray) (w : World) (hs : s.size ≤ maxLen) :
    Calls Tryd.prog 79 #[.string s, .func (.func 80) #[] #[]] w fun e w' => e = .returned (.bool (allB small s.data.toList)) ∧ w' = w := by
  unfold maxLen at hs
  go_enter Tryd.func79, Tryd.ntmps79
  go_wp2
  go_loop [8, 5] (fun i _ => ∃ k : Nat, k ≤ s.size ∧ i = .int .i64 k ∧ Hid (allB small (s.data.toList.take k) = true)) (fun i _ => s.size - (intOf i).toNat)
  case atStart => exact ⟨0, Nat.zero_le _, rfl, rfl⟩
  case round =>
    obtain ⟨k, hk, rfl, hall⟩ := hrel
    by_cases hlt : k < s.size
    · cases hb : small s[k]
      · have hfin := (all_stop (p := small) s k hlt hb)
        go_wp2_with (go_at_call 80; refine (isSmall_any _ _).mono ?_; rintro e w' ⟨rfl, rfl⟩; rw [hb])
        go_ret
        exact ⟨ret_bool hfin.symm, rfl⟩
      · go_wp2_with (go_at_call 80; refine (isSmall_any _ _).mono ?_; rintro e w' ⟨rfl, rfl⟩; rw [hb])
        exact ⟨⟨k + 1, by omega, by go_num, all_step s k hlt hall hb⟩, by simp [intOf]; omega⟩
    · go_wp2
      go_ret
      exact ⟨ret_bool (all_full s k (by omega) hall).symm, rfl⟩

set_option maxHeartbeats 400000 in
theorem all_fig (s : ByteArray) (w : World) (hs : s.size ≤ maxLen) :
    Calls Tryd.prog 79 #[.string s, .func (.func 82) #[] #[]] w fun e w' => e = .returned (.bool (allB fig s.data.toList)) ∧ w' = w := by
  unfold maxLen at hs
  go_enter Tryd.func79, Tryd.ntmps79
  go_wp2
  go_loop [8, 5] (fun i _ => ∃ k : Nat, k ≤ s.size ∧ i = .int .i64 k ∧ Hid (allB fig (s.data.toList.take k) = true)) (fun i _ => s.size - (intOf i).toNat)
  case atStart => exact ⟨0, Nat.zero_le _, rfl, rfl⟩
  case round =>
    obtain ⟨k, hk, rfl, hall⟩ := hrel
    by_cases hlt : k < s.size
    · cases hb : fig s[k]
      · have hfin := (all_stop (p := fig) s k hlt hb)
        go_wp2_with (go_at_call 82; refine (isFigure_any _ _).mono ?_; rintro e w' ⟨rfl, rfl⟩; rw [hb])
        go_ret
        exact ⟨ret_bool hfin.symm, rfl⟩
      · go_wp2_with (go_at_call 82; refine (isFigure_any _ _).mono ?_; rintro e w' ⟨rfl, rfl⟩; rw [hb])
        exact ⟨⟨k + 1, by omega, by go_num, all_step s k hlt hall hb⟩, by simp [intOf]; omega⟩
    · go_wp2
      go_ret
      exact ⟨ret_bool (all_full s k (by omega) hall).symm, rfl⟩

set_option maxHeartbeats 400000 in
theorem all_lab (s : ByteArray) (w : World) (hs : s.size ≤ maxLen) :
    Calls Tryd.prog 79 #[.string s, .func (.func 113) #[] #[]] w fun e w' => e = .returned (.bool (allB ofLabel s.data.toList)) ∧ w' = w := by
  unfold maxLen at hs
  go_enter Tryd.func79, Tryd.ntmps79
  go_wp2
  go_loop [8, 5] (fun i _ => ∃ k : Nat, k ≤ s.size ∧ i = .int .i64 k ∧ Hid (allB ofLabel (s.data.toList.take k) = true)) (fun i _ => s.size - (intOf i).toNat)
  case atStart => exact ⟨0, Nat.zero_le _, rfl, rfl⟩
  case round =>
    obtain ⟨k, hk, rfl, hall⟩ := hrel
    by_cases hlt : k < s.size
    · cases hb : ofLabel s[k]
      · have hfin := (all_stop (p := ofLabel) s k hlt hb)
        go_wp2_with (go_at_call 113; refine (isOfLabel_any _ _).mono ?_; rintro e w' ⟨rfl, rfl⟩; rw [hb])
        go_ret
        exact ⟨ret_bool hfin.symm, rfl⟩
      · go_wp2_with (go_at_call 113; refine (isOfLabel_any _ _).mono ?_; rintro e w' ⟨rfl, rfl⟩; rw [hb])
        exact ⟨⟨k + 1, by omega, by go_num, all_step s k hlt hall hb⟩, by simp [intOf]; omega⟩
    · go_wp2
      go_ret
      exact ⟨ret_bool (all_full s k (by omega) hall).symm, rfl⟩

set_option maxHeartbeats 400000 in
theorem all_great (s : ByteArray) (w : World) (hs : s.size ≤ maxLen) :
    Calls Tryd.prog 79 #[.string s, .func (.func 105) #[] #[]] w fun e w' => e = .returned (.bool (allB great s.data.toList)) ∧ w' = w := by
  unfold maxLen at hs
  go_enter Tryd.func79, Tryd.ntmps79
  go_wp2
  go_loop [8, 5] (fun i _ => ∃ k : Nat, k ≤ s.size ∧ i = .int .i64 k ∧ Hid (allB great (s.data.toList.take k) = true)) (fun i _ => s.size - (intOf i).toNat)
  case atStart => exact ⟨0, Nat.zero_le _, rfl, rfl⟩
  case round =>
    obtain ⟨k, hk, rfl, hall⟩ := hrel
    by_cases hlt : k < s.size
    · cases hb : great s[k]
      · have hfin := (all_stop (p := great) s k hlt hb)
        go_wp2_with (go_at_call 105; refine (isGreat_any _ _).mono ?_; rintro e w' ⟨rfl, rfl⟩; rw [hb])
        go_ret
        exact ⟨ret_bool hfin.symm, rfl⟩
      · go_wp2_with (go_at_call 105; refine (isGreat_any _ _).mono ?_; rintro e w' ⟨rfl, rfl⟩; rw [hb])
        exact ⟨⟨k + 1, by omega, by go_num, all_step s k hlt hall hb⟩, by simp [intOf]; omega⟩
    · go_wp2
      go_ret
      exact ⟨ret_bool (all_full s k (by omega) hall).symm, rfl⟩

end Go.Proofs.YtfkggpminmonmaaDoor

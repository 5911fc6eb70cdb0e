/-
  Package words: Tenant, checkLabel, Name.
-/
import Derived.Test.YtfkggpminmonmaaDoorWords
import Derived.Handy
namespace Go.Proofs.YtfkggpminmonmaaDoor
open Go.RowKit Plain

theorem ret_str {a b : ByteArray} (h : a = b) : Ending.returned (.string a) = .returned (.string b) := by rw [h]

theorem parts_le (c : UInt8) : ∀ (l p : List UInt8), p ∈ parts c l → p.length ≤ l.length
  | [], p, h => by simp [parts] at h; simp [h]
  | b :: l, p, h => by
    rw [parts] at h
    by_cases hb : b = c
    · rw [if_pos hb] at h
      rcases List.mem_cons.1 h with h | h
      · simp [h]
      · have := parts_le c l p h; simp; omega
    · rw [if_neg hb] at h
      have ih := parts_le c l
      cases hp : parts c l with
      | nil => exact absurd hp (parts_ne _ _)
      | cons q qs =>
        rw [hp] at h ih
        rcases List.mem_cons.1 h with h | h
        · have := ih q (by simp); rw [h]; simp; omega
        · have := ih p (by simp [h]); simp; omega

theorem parts_getD_le (c : UInt8) (l : List UInt8) (i : Nat) : (nth (parts c l) i).length ≤ l.length := by
  unfold nth
  by_cases h : i < (parts c l).length
  · rw [List.getD_eq_getElem?_getD, List.getElem?_eq_getElem h]
    exact parts_le c l _ (List.getElem_mem _)
  · rw [List.getD_eq_getElem?_getD, List.getElem?_eq_none (by omega)]; simp

theorem nth_mem {ps : List (List UInt8)} {i : Nat} (h : i < ps.length) : nth ps i ∈ ps := by
  unfold nth
  rw [List.getD_eq_getElem?_getD, List.getElem?_eq_getElem h]
  exact List.getElem_mem _
theorem nth_last {ps : List (List UInt8)} (_h : 1 ≤ ps.length) : nth ps (ps.length - 1) = ps.getLastD [] := by
  unfold nth
  rw [List.getD_eq_getElem?_getD, ← List.getLast?_eq_getElem?, List.getLastD_eq_getLast?]

set_option maxHeartbeats 400000 in
theorem tenant_yes (s : ByteArray) (w : World) (h : tenantOk s.data.toList = true) :
    Calls Tryd.prog 52 #[.string s] w fun e w' => e = .returned (.string s) ∧ w' = w := by
  unfold tenantOk at h
  rw [Bool.and_eq_true, decide_eq_true_eq, size_len] at h
  obtain ⟨⟨h1, h2⟩, h3⟩ := h
  have H3 := show Hid _ from h3
  have hs : s.size ≤ maxLen := by unfold maxLen; omega
  have d1 : decide ((1 : Int) ≤ (s.size : Int)) = true := decide_eq_true (by omega)
  have d2 : decide ((s.size : Int) ≤ 8) = true := decide_eq_true (by omega)
  clear h3
  go_enter Tryd.func52, Tryd.ntmps52
  go_wp2_with (first | (go_at_call 79; refine (all_small _ _ hs).mono ?_; rintro e w' ⟨rfl, rfl⟩; rw [H3.out]) | (go_at_call 38; refine (must_yes _ _).mono ?_; rintro e w' ⟨rfl, rfl⟩))
  go_ret
  exact ⟨rfl, rfl⟩

set_option maxHeartbeats 400000 in
theorem tenant_no (s : ByteArray) (w : World) (h : tenantOk s.data.toList = false) :
    Calls Tryd.prog 52 #[.string s] w fun e w' => Dies e ∧ w' = w := by
  unfold tenantOk at h
  rw [size_len] at h
  by_cases h1 : 1 ≤ s.size
  · by_cases h2 : s.size ≤ 8
    · have h3 : allB small s.data.toList = false := by simpa [h1, h2] using h
      have H3 := show Hid _ from h3
      have hs : s.size ≤ maxLen := by unfold maxLen; omega
      have d1 : decide ((1 : Int) ≤ (s.size : Int)) = true := decide_eq_true (by omega)
      have d2 : decide ((s.size : Int) ≤ 8) = true := decide_eq_true (by omega)
      clear h3 h
      go_enter Tryd.func52, Tryd.ntmps52
      go_wp2_with (first | (go_at_call 79; refine (all_small _ _ hs).mono ?_; rintro e w' ⟨rfl, rfl⟩; rw [H3.out]) | (go_at_call_of 38 (Value.bool true); refine (must_yes _ _).mono ?_; rintro e w' ⟨rfl, rfl⟩) | (go_at_call_of 38 (Value.bool false); refine (must_no _ _).mono ?_; rintro e w' ⟨⟨t, v, rfl⟩, rfl⟩))
      exact ⟨rfl, ⟨_, _, rfl⟩, rfl⟩
    · clear h
      have h2' : decide ((s.size : Int) ≤ 8) = false := decide_eq_false (by omega)
      go_enter Tryd.func52, Tryd.ntmps52
      go_wp2_with (first | (go_at_call 38; refine (must_no _ _).mono ?_; rintro e w' ⟨⟨t, v, rfl⟩, rfl⟩))
      exact ⟨rfl, ⟨_, _, rfl⟩, rfl⟩
  · clear h
    have h1' : decide ((1 : Int) ≤ (s.size : Int)) = false := decide_eq_false (by omega)
    go_enter Tryd.func52, Tryd.ntmps52
    go_wp2_with (first | (go_at_call 38; refine (must_no _ _).mono ?_; rintro e w' ⟨⟨t, v, rfl⟩, rfl⟩))
    exact ⟨rfl, ⟨_, _, rfl⟩, rfl⟩

theorem dash_head (s : ByteArray) (h : 1 ≤ s.size) : (s.data.toList.head? != some 45) = ((s[0].toNat : Int) != 45) := by
  rw [List.head?_eq_getElem?, List.getElem?_eq_getElem (by rw [size_len]; exact h)]
  show (some s[0] != some 45) = _
  rw [Bool.eq_iff_iff, bne_iff_ne, bne_iff_ne]
  constructor
  · intro h1 h2; apply h1
    rw [show s[0] = 45 from UInt8.toNat_inj.1 (by show s[0].toNat = 45; omega)]
  · intro h1 h2; apply h1
    rw [Option.some.inj h2]; rfl
theorem dash_last (s : ByteArray) (h : 1 ≤ s.size) : (s.data.toList.getLast? != some 45) = ((s[s.size - 1].toNat : Int) != 45) := by
  rw [List.getLast?_eq_getElem?, List.getElem?_eq_getElem (by rw [size_len]; omega)]
  have e : s.data.toList[s.data.toList.length - 1]'(by rw [size_len]; omega) = s[s.size - 1] := by
    simp only [size_len]; rfl
  rw [e, Bool.eq_iff_iff, bne_iff_ne, bne_iff_ne]
  constructor
  · intro h1 h2; apply h1
    rw [show s[s.size - 1] = 45 from UInt8.toNat_inj.1 (by show s[s.size - 1].toNat = 45; omega)]
  · intro h1 h2; apply h1
    rw [Option.some.inj h2]; rfl

set_option maxHeartbeats 400000 in
theorem label_yes (s : ByteArray) (w : World) (h : labelOk s.data.toList = true) :
    Calls Tryd.prog 101 #[.string s] w fun e w' => e = .returned (.tuple #[]) ∧ w' = w := by
  unfold labelOk at h
  rw [Bool.and_eq_true, Bool.and_eq_true, Bool.and_eq_true, decide_eq_true_eq, size_len] at h
  obtain ⟨⟨⟨h1, h2⟩, h3⟩, h4, h5⟩ := h
  rw [dash_head s h1] at h4
  rw [dash_last s h1] at h5
  have H3 := show Hid _ from h3
  have hs : s.size ≤ maxLen := by unfold maxLen; omega
  have d1 : decide ((1 : Int) ≤ (s.size : Int)) = true := decide_eq_true (by omega)
  have d2 : decide ((s.size : Int) ≤ 20) = true := decide_eq_true (by omega)
  clear h3
  go_enter Tryd.func101, Tryd.ntmps101
  go_wp2_with (first | (go_at_call 79; refine (all_lab _ _ hs).mono ?_; rintro e w' ⟨rfl, rfl⟩; rw [H3.out]) | (go_at_call_of 38 (Value.bool true); refine (must_yes _ _).mono ?_; rintro e w' ⟨rfl, rfl⟩))
  go_end0
  exact ⟨rfl, rfl⟩

set_option maxHeartbeats 400000 in
theorem label_no (s : ByteArray) (w : World) (h : labelOk s.data.toList = false) :
    Calls Tryd.prog 101 #[.string s] w fun e w' => Dies e ∧ w' = w := by
  unfold labelOk at h
  rw [size_len] at h
  by_cases h1 : 1 ≤ s.size
  · have d1 : decide ((1 : Int) ≤ (s.size : Int)) = true := decide_eq_true (by omega)
    rw [dash_head s h1, dash_last s h1] at h
    by_cases h2 : s.size ≤ 20
    · have hs : s.size ≤ maxLen := by unfold maxLen; omega
      have d2 : decide ((s.size : Int) ≤ 20) = true := decide_eq_true (by omega)
      have h' : (allB ofLabel s.data.toList && (((s[0].toNat : Int) != 45) && ((s[s.size - 1].toNat : Int) != 45))) = false := by simpa [h1, h2] using h
      clear h
      cases h3 : allB ofLabel s.data.toList
      case' true => cases h4 : ((s[0].toNat : Int) != 45)
      case' true.true =>
        have h5 : ((s[s.size - 1].toNat : Int) != 45) = false := by simpa [h3, h4] using h'
      all_goals
        have H3 := show Hid _ from h3
        clear h3 h'
        go_enter Tryd.func101, Tryd.ntmps101
        go_wp2_with (first | (go_at_call 79; refine (all_lab _ _ hs).mono ?_; rintro e w' ⟨rfl, rfl⟩; rw [H3.out]) | (go_at_call_of 38 (Value.bool true); refine (must_yes _ _).mono ?_; rintro e w' ⟨rfl, rfl⟩) | (go_at_call_of 38 (Value.bool false); refine (must_no _ _).mono ?_; rintro e w' ⟨⟨t, v, rfl⟩, rfl⟩))
        exact ⟨rfl, ⟨_, _, rfl⟩, rfl⟩
    · clear h
      have d2 : decide ((s.size : Int) ≤ 20) = false := decide_eq_false (by omega)
      go_enter Tryd.func101, Tryd.ntmps101
      go_wp2_with (first | (go_at_call 38; refine (must_no _ _).mono ?_; rintro e w' ⟨⟨t, v, rfl⟩, rfl⟩))
      exact ⟨rfl, ⟨_, _, rfl⟩, rfl⟩
  · clear h
    have d1 : decide ((1 : Int) ≤ (s.size : Int)) = false := decide_eq_false (by omega)
    go_enter Tryd.func101, Tryd.ntmps101
    go_wp2_with (first | (go_at_call 38; refine (must_no _ _).mono ?_; rintro e w' ⟨⟨t, v, rfl⟩, rfl⟩))
    exact ⟨rfl, ⟨_, _, rfl⟩, rfl⟩
end Go.Proofs.YtfkggpminmonmaaDoor

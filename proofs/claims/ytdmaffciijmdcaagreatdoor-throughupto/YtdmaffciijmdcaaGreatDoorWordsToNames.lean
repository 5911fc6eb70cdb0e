/-
  Package words, by its contracts: each reader returns what the plain function says, or dies where there is nothing.
-/
import Derived.Test.YtdmaffciijmdcaaGreatDoorCutsToSpec
import Derived.Handy
namespace Go.Proofs.YtdmaffciijmdcaaGreatDoor
open Go.RowKit Plain

theorem ret_int {k : IntKind} {a b : Int} (h : a = b) : Ending.returned (.int k a) = .returned (.int k b) := by rw [h]

theorem numForm_parts {s : ByteArray} (h : numForm s.data.toList = true) :
    s.toList.isEmpty = false ∧ allB fig s.data.toList = true ∧ (∃ b, (s.toList == [48]) = b ∧ (b = false → ∃ h0 : 0 < s.size, ((s[0].toNat : Int) != 48) = true)) := by
  unfold numForm at h
  simp only [Bool.and_eq_true, Bool.or_eq_true, Bool.not_eq_true', bne_iff_ne, beq_iff_eq] at h
  obtain ⟨⟨h1, h2⟩, h3⟩ := h
  rw [Lib.toList_data]
  refine ⟨h1, h2, _, rfl, fun hb => ?_⟩
  have hne : s.data.toList ≠ [] := by intro e; rw [e] at h1; simp at h1
  have h0 : 0 < s.size := by rw [← size_len]; exact List.length_pos_iff.2 hne
  refine ⟨h0, ?_⟩
  rcases h3 with h3 | h3
  · rw [h3] at hb; simp at hb
  · have e : s.data.toList.head? = some s[0] := by
      rw [List.head?_eq_getElem?, List.getElem?_eq_getElem (by rw [size_len]; exact h0)]; rfl
    rw [e] at h3
    rw [bne_iff_ne]
    intro h4
    apply h3
    have : s[0].toNat = 48 := by omega
    rw [show s[0] = 48 from UInt8.toNat_inj.1 this]

theorem numVal_step (s : ByteArray) (k : Nat) (h : k < s.size) (ha : allB fig s.data.toList = true) :
    (numVal (s.data.toList.take (k + 1)) : Int) = (numVal (s.data.toList.take k) : Int) * 10 + ((s[k].toNat : Int) - 48) ∧ 48 ≤ (s[k].toNat : Int) ∧ (s[k].toNat : Int) ≤ 57 := by
  have hf : fig s[k] = true := by
    unfold allB at ha
    rw [List.all_eq_true] at ha
    apply ha
    have : s[k] = s.data.toList[k]'(by rw [size_len]; exact h) := rfl
    rw [this]; exact List.getElem_mem _
  have hb := fig_bounds hf
  rw [take_snoc s k h, numVal_snoc]
  unfold digit
  omega

set_option maxHeartbeats 400000 in
theorem number_yes (s : ByteArray) (hi : Nat) (w : World) (hs : s.size ≤ maxLen) (hhi : hi ≤ 65535) (n : Nat) (h : number s.data.toList hi = some n) :
    Calls Tryz.prog 194 #[.string s, .int .i64 hi] w fun e w' => e = .returned (.int .i64 n) ∧ w' = w := by
  have hs' := hs
  unfold maxLen at hs
  unfold number at h
  split at h
  case isFalse => cases h
  rename_i hc
  obtain ⟨hf, hle⟩ := hc
  cases h
  obtain ⟨he, hall, b, hb, h0⟩ := numForm_parts hf
  have Hall : Hid (allB fig s.data.toList = true) := hall
  have Hle : Hid (numVal s.data.toList ≤ hi) := hle
  have Hst := fun k hk => show Hid _ from numVal_step s k hk hall
  clear hall hle hf
  cases b
  case' false => obtain ⟨h00, h01⟩ := h0 rfl
  all_goals
    clear h0
    go_enter Tryz.func194, Tryz.ntmps194
    go_wp2_with (first | (go_at_call 123; refine (all_fig _ _ hs').mono ?_; rintro e w' ⟨rfl, rfl⟩; rw [Hall.out]) | (go_at_call 88; refine (must_yes _ _).mono ?_; rintro e w' ⟨rfl, rfl⟩))
    go_loop [24, 5, 6] (fun i v _ => ∃ k : Nat, k ≤ s.size ∧ i = .int .i64 k ∧ v = .int .i64 (numVal (s.data.toList.take k))) (fun i _ _ => s.size - (intOf i).toNat)
    case atStart => exact ⟨0, Nat.zero_le _, rfl, rfl⟩
    case round =>
      obtain ⟨k, hk, rfl, rfl⟩ := hrel
      by_cases hlt : k < s.size
      · have hst := Hst k hlt
        have hq : numVal (s.data.toList.take (k + 1)) ≤ hi := Nat.le_trans (numVal_take _ _) Hle.out
        have Hq := show Hid _ from hst.out.1
        have hb1 := hst.out.2.1
        have hb2 := hst.out.2.2
        have hr : (numVal (s.data.toList.take k) : Int) * 10 + ((s[k].toNat : Int) - 48) ≤ hi := by have := Hq.out; omega
        have hr0 : (0 : Int) ≤ (numVal (s.data.toList.take k) : Int) := by omega
        have hr1 : (numVal (s.data.toList.take k) : Int) ≤ 65535 := by omega
        clear hst hq
        go_wp2_with (first | (go_at_call 88; refine (must_yes _ _).mono ?_; rintro e w' ⟨rfl, rfl⟩))
        exact ⟨⟨k + 1, by omega, by go_num, by rw [Hq.out]⟩, by simp [intOf]; omega⟩
      · have he := List.take_of_length_le (i := k) (l := s.data.toList) (by rw [size_len]; omega)
        have He := show Hid _ from he
        clear he
        go_wp2_with fail
        go_ret
        exact ⟨ret_int (by rw [He.out]), rfl⟩

theorem numForm_false {s : ByteArray} (h : numForm s.data.toList = false) :
    s.toList.isEmpty = true ∨ (s.toList.isEmpty = false ∧ allB fig s.data.toList = false) ∨
    (s.toList.isEmpty = false ∧ allB fig s.data.toList = true ∧ (s.toList == [48]) = false ∧ ∃ h0 : 0 < s.size, ((s[0].toNat : Int) != 48) = false) := by
  unfold numForm at h
  rw [Lib.toList_data]
  cases h1 : s.data.toList.isEmpty
  · rw [h1] at h
    cases h2 : allB fig s.data.toList
    · exact .inr (.inl ⟨rfl, rfl⟩)
    · rw [h2] at h
      simp only [Bool.not_false, Bool.and_self, Bool.true_and, Bool.or_eq_false_iff, bne_eq_false_iff_eq] at h
      have h0 : 0 < s.size := by rw [← size_len]; exact List.length_pos_iff.2 (by intro e; rw [e] at h1; simp at h1)
      refine .inr (.inr ⟨rfl, rfl, h.1, h0, ?_⟩)
      have e : s.data.toList.head? = some s[0] := by
        rw [List.head?_eq_getElem?, List.getElem?_eq_getElem (by rw [size_len]; exact h0)]; rfl
      rw [e] at h
      have h5 : s[0] = 48 := Option.some.inj h.2
      rw [h5]; rfl
  · exact .inl rfl

set_option maxHeartbeats 400000 in
theorem number_form (s : ByteArray) (hi : Nat) (w : World) (hs : s.size ≤ maxLen) (h : numForm s.data.toList = false) :
    Calls Tryz.prog 194 #[.string s, .int .i64 hi] w fun e w' => Dies e ∧ w' = w := by
  have hs' := hs
  unfold maxLen at hs
  rcases numForm_false h with he | ⟨he, hall⟩ | ⟨he, hall, hb, h0, h01⟩
  · clear h
    go_enter Tryz.func194, Tryz.ntmps194
    go_wp2_with (first | (go_at_call 88; refine (must_no _ _).mono ?_; rintro e w' ⟨⟨t, v, rfl⟩, rfl⟩))
    exact ⟨rfl, ⟨_, _, rfl⟩, rfl⟩
  · have Hall := show Hid _ from hall
    clear h hall
    go_enter Tryz.func194, Tryz.ntmps194
    go_wp2_with (first | (go_at_call 123; refine (all_fig _ _ hs').mono ?_; rintro e w' ⟨rfl, rfl⟩; rw [Hall.out]) | (go_at_call 88; refine (must_no _ _).mono ?_; rintro e w' ⟨⟨t, v, rfl⟩, rfl⟩))
    exact ⟨rfl, ⟨_, _, rfl⟩, rfl⟩
  · have Hall := show Hid _ from hall
    clear h hall
    go_enter Tryz.func194, Tryz.ntmps194
    go_wp2_with (first | (go_at_call 123; refine (all_fig _ _ hs').mono ?_; rintro e w' ⟨rfl, rfl⟩; rw [Hall.out]) | (go_at_call_of 88 (Value.bool true); refine (must_yes _ _).mono ?_; rintro e w' ⟨rfl, rfl⟩) | (go_at_call_of 88 (Value.bool false); refine (must_no _ _).mono ?_; rintro e w' ⟨⟨t, v, rfl⟩, rfl⟩))
    exact ⟨rfl, ⟨_, _, rfl⟩, rfl⟩

set_option maxHeartbeats 400000 in
theorem number_great (s : ByteArray) (hi : Nat) (w : World) (hs : s.size ≤ maxLen) (hhi : hi ≤ 65535) (hf : numForm s.data.toList = true) (hgt : hi < numVal s.data.toList) :
    Calls Tryz.prog 194 #[.string s, .int .i64 hi] w fun e w' => Dies e ∧ w' = w := by
  have hs' := hs
  unfold maxLen at hs
  obtain ⟨he, hall, b, hb, h0⟩ := numForm_parts hf
  have Hall : Hid (allB fig s.data.toList = true) := hall
  have Hgt : Hid (hi < numVal s.data.toList) := hgt
  have Hst := fun k hk => show Hid _ from numVal_step s k hk hall
  clear hall hgt hf
  cases b
  case' false => obtain ⟨h00, h01⟩ := h0 rfl
  all_goals
    clear h0
    go_enter Tryz.func194, Tryz.ntmps194
    go_wp2_with (first | (go_at_call 123; refine (all_fig _ _ hs').mono ?_; rintro e w' ⟨rfl, rfl⟩; rw [Hall.out]) | (go_at_call 88; refine (must_yes _ _).mono ?_; rintro e w' ⟨rfl, rfl⟩))
    go_loop [24, 5, 6] (fun i v _ => ∃ k : Nat, k ≤ s.size ∧ i = .int .i64 k ∧ v = .int .i64 (numVal (s.data.toList.take k)) ∧ numVal (s.data.toList.take k) ≤ hi) (fun i _ _ => s.size - (intOf i).toNat)
    case atStart => exact ⟨0, Nat.zero_le _, rfl, rfl, Nat.zero_le _⟩
    case round =>
      obtain ⟨k, hk, rfl, rfl, hle⟩ := hrel
      by_cases hlt : k < s.size
      · have hst := Hst k hlt
        have Hq := show Hid _ from hst.out.1
        have hb1 := hst.out.2.1
        have hb2 := hst.out.2.2
        have hr0 : (0 : Int) ≤ (numVal (s.data.toList.take k) : Int) := by omega
        have hr1 : (numVal (s.data.toList.take k) : Int) ≤ 65535 := by omega
        clear hst
        by_cases hr : (numVal (s.data.toList.take k) : Int) * 10 + ((s[k].toNat : Int) - 48) ≤ hi
        · go_wp2_with (first | (go_at_call 88; refine (must_yes _ _).mono ?_; rintro e w' ⟨rfl, rfl⟩))
          exact ⟨⟨k + 1, by omega, by go_num, by rw [Hq.out], by have := Hq.out; omega⟩, by simp [intOf]; omega⟩
        · have hr' : decide ((numVal (s.data.toList.take k) : Int) * 10 + ((s[k].toNat : Int) - 48) ≤ hi) = false := decide_eq_false hr
          go_wp2_with (first | (go_at_call 88; refine (must_no _ _).mono ?_; rintro e w' ⟨⟨t, v, rfl⟩, rfl⟩))
          exact ⟨rfl, ⟨_, _, rfl⟩, rfl⟩
      · exfalso
        rw [List.take_of_length_le (by rw [size_len]; omega)] at hle
        have := Hgt.out
        omega

theorem number_no (s : ByteArray) (hi : Nat) (w : World) (hs : s.size ≤ maxLen) (hhi : hi ≤ 65535) (h : number s.data.toList hi = none) :
    Calls Tryz.prog 194 #[.string s, .int .i64 hi] w fun e w' => Dies e ∧ w' = w := by
  cases hf : numForm s.data.toList
  · exact number_form s hi w hs hf
  · refine number_great s hi w hs hhi hf ?_
    unfold number at h
    rw [hf] at h
    simp at h
    exact h

set_option maxHeartbeats 400000 in
theorem port_yes (s : ByteArray) (w : World) (hs : s.size ≤ maxLen) (n : Nat) (h : number s.data.toList 65535 = some n) :
    Calls Tryz.prog 156 #[.string s] w fun e w' => e = .returned (.int .i64 n) ∧ w' = w := by
  have H := fun x => show Hid _ from number_yes s 65535 x hs (by decide) n h
  clear h
  go_enter Tryz.func156, Tryz.ntmps156
  go_wp2_with fail
  refine Calls.mono (Hid.out (H _)) ?_
  rintro e w' ⟨rfl, rfl⟩
  go_wp2_with fail
  go_ret
  exact ⟨rfl, rfl⟩
set_option maxHeartbeats 400000 in
theorem port_no (s : ByteArray) (w : World) (hs : s.size ≤ maxLen) (h : number s.data.toList 65535 = none) :
    Calls Tryz.prog 156 #[.string s] w fun e w' => Dies e ∧ w' = w := by
  have H := fun x => show Hid _ from number_no s 65535 x hs (by decide) h
  clear h
  go_enter Tryz.func156, Tryz.ntmps156
  go_wp2_with fail
  refine Calls.mono (Hid.out (H _)) ?_
  rintro e w' ⟨⟨t, v, rfl⟩, rfl⟩
  exact ⟨rfl, ⟨_, _, rfl⟩, rfl⟩
end Go.Proofs.YtdmaffciijmdcaaGreatDoor
/-
  Package words: Tenant, checkLabel, Name.
-/
namespace Go.Proofs.YtdmaffciijmdcaaGreatDoor
open Go.RowKit Plain

theorem ret_str {a b : ByteArray} (h : a = b) : Ending.returned (.string a) = .returned (.string b) := by rw [h]

theorem parts_le (c : UInt8) : ∀ (l p : List UInt8), p ∈ parts c l → p.length ≤ l.length
  | [], p, h => by simp [parts] at h; simp [h]
  | b :: l, p, h => by
    rw [parts] at h
    by_cases hb : b = c
    · rw [if_pos hb] at h
      rcases List.mem_cons.1 h with h | h
      · simp [h]
      · have := parts_le c l p h; simp; omega
    · rw [if_neg hb] at h
      have ih := parts_le c l
      cases hp : parts c l with
      | nil => exact absurd hp (parts_ne _ _)
      | cons q qs =>
        rw [hp] at h ih
        rcases List.mem_cons.1 h with h | h
        · have := ih q (by simp); rw [h]; simp; omega
        · have := ih p (by simp [h]); simp; omega

theorem parts_getD_le (c : UInt8) (l : List UInt8) (i : Nat) : (nth (parts c l) i).length ≤ l.length := by
  unfold nth
  by_cases h : i < (parts c l).length
  · rw [List.getD_eq_getElem?_getD, List.getElem?_eq_getElem h]
    exact parts_le c l _ (List.getElem_mem _)
  · rw [List.getD_eq_getElem?_getD, List.getElem?_eq_none (by omega)]; simp

theorem nth_mem {ps : List (List UInt8)} {i : Nat} (h : i < ps.length) : nth ps i ∈ ps := by
  unfold nth
  rw [List.getD_eq_getElem?_getD, List.getElem?_eq_getElem h]
  exact List.getElem_mem _
theorem nth_last {ps : List (List UInt8)} (_h : 1 ≤ ps.length) : nth ps (ps.length - 1) = ps.getLastD [] := by
  unfold nth
  rw [List.getD_eq_getElem?_getD, ← List.getLast?_eq_getElem?, List.getLastD_eq_getLast?]

set_option maxHeartbeats 400000 in
theorem tenant_yes (s : ByteArray) (w : World) (h : tenantOk s.data.toList = true) :
    Calls Tryz.prog 122 #[.string s] w fun e w' => e = .returned (.string s) ∧ w' = w := by
  unfold tenantOk at h
  rw [Bool.and_eq_true, decide_eq_true_eq, size_len] at h
  obtain ⟨⟨h1, h2⟩, h3⟩ := h
  have H3 := show Hid _ from h3
  have hs : s.size ≤ maxLen := by unfold maxLen; omega
  have d1 : decide ((1 : Int) ≤ (s.size : Int)) = true := decide_eq_true (by omega)
  have d2 : decide ((s.size : Int) ≤ 8) = true := decide_eq_true (by omega)
  clear h3
  go_enter Tryz.func122, Tryz.ntmps122
  go_wp2_with (first | (go_at_call 123; refine (all_small _ _ hs).mono ?_; rintro e w' ⟨rfl, rfl⟩; rw [H3.out]) | (go_at_call 88; refine (must_yes _ _).mono ?_; rintro e w' ⟨rfl, rfl⟩))
  go_ret
  exact ⟨rfl, rfl⟩

set_option maxHeartbeats 400000 in
theorem tenant_no (s : ByteArray) (w : World) (h : tenantOk s.data.toList = false) :
    Calls Tryz.prog 122 #[.string s] w fun e w' => Dies e ∧ w' = w := by
  unfold tenantOk at h
  rw [size_len] at h
  by_cases h1 : 1 ≤ s.size
  · by_cases h2 : s.size ≤ 8
    · have h3 : allB small s.data.toList = false := by simpa [h1, h2] using h
      have H3 := show Hid _ from h3
      have hs : s.size ≤ maxLen := by unfold maxLen; omega
      have d1 : decide ((1 : Int) ≤ (s.size : Int)) = true := decide_eq_true (by omega)
      have d2 : decide ((s.size : Int) ≤ 8) = true := decide_eq_true (by omega)
      clear h3 h
      go_enter Tryz.func122, Tryz.ntmps122
      go_wp2_with (first | (go_at_call 123; refine (all_small _ _ hs).mono ?_; rintro e w' ⟨rfl, rfl⟩; rw [H3.out]) | (go_at_call_of 88 (Value.bool true); refine (must_yes _ _).mono ?_; rintro e w' ⟨rfl, rfl⟩) | (go_at_call_of 88 (Value.bool false); refine (must_no _ _).mono ?_; rintro e w' ⟨⟨t, v, rfl⟩, rfl⟩))
      exact ⟨rfl, ⟨_, _, rfl⟩, rfl⟩
    · clear h
      have h2' : decide ((s.size : Int) ≤ 8) = false := decide_eq_false (by omega)
      go_enter Tryz.func122, Tryz.ntmps122
      go_wp2_with (first | (go_at_call 88; refine (must_no _ _).mono ?_; rintro e w' ⟨⟨t, v, rfl⟩, rfl⟩))
      exact ⟨rfl, ⟨_, _, rfl⟩, rfl⟩
  · clear h
    have h1' : decide ((1 : Int) ≤ (s.size : Int)) = false := decide_eq_false (by omega)
    go_enter Tryz.func122, Tryz.ntmps122
    go_wp2_with (first | (go_at_call 88; refine (must_no _ _).mono ?_; rintro e w' ⟨⟨t, v, rfl⟩, rfl⟩))
    exact ⟨rfl, ⟨_, _, rfl⟩, rfl⟩

theorem dash_head (s : ByteArray) (h : 1 ≤ s.size) : (s.data.toList.head? != some 45) = ((s[0].toNat : Int) != 45) := by
  rw [List.head?_eq_getElem?, List.getElem?_eq_getElem (by rw [size_len]; exact h)]
  show (some s[0] != some 45) = _
  rw [Bool.eq_iff_iff, bne_iff_ne, bne_iff_ne]
  constructor
  · intro h1 h2; apply h1
    rw [show s[0] = 45 from UInt8.toNat_inj.1 (by show s[0].toNat = 45; omega)]
  · intro h1 h2; apply h1
    rw [Option.some.inj h2]; rfl
theorem dash_last (s : ByteArray) (h : 1 ≤ s.size) : (s.data.toList.getLast? != some 45) = ((s[s.size - 1].toNat : Int) != 45) := by
  rw [List.getLast?_eq_getElem?, List.getElem?_eq_getElem (by rw [size_len]; omega)]
  have e : s.data.toList[s.data.toList.length - 1]'(by rw [size_len]; omega) = s[s.size - 1] := by
    simp only [size_len]; rfl
  rw [e, Bool.eq_iff_iff, bne_iff_ne, bne_iff_ne]
  constructor
  · intro h1 h2; apply h1
    rw [show s[s.size - 1] = 45 from UInt8.toNat_inj.1 (by show s[s.size - 1].toNat = 45; omega)]
  · intro h1 h2; apply h1
    rw [Option.some.inj h2]; rfl

set_option maxHeartbeats 400000 in
theorem label_yes (s : ByteArray) (w : World) (h : labelOk s.data.toList = true) :
    Calls Tryz.prog 202 #[.string s] w fun e w' => e = .returned (.tuple #[]) ∧ w' = w := by
  unfold labelOk at h
  rw [Bool.and_eq_true, Bool.and_eq_true, Bool.and_eq_true, decide_eq_true_eq, size_len] at h
  obtain ⟨⟨⟨h1, h2⟩, h3⟩, h4, h5⟩ := h
  rw [dash_head s h1] at h4
  rw [dash_last s h1] at h5
  have H3 := show Hid _ from h3
  have hs : s.size ≤ maxLen := by unfold maxLen; omega
  have d1 : decide ((1 : Int) ≤ (s.size : Int)) = true := decide_eq_true (by omega)
  have d2 : decide ((s.size : Int) ≤ 20) = true := decide_eq_true (by omega)
  clear h3
  go_enter Tryz.func202, Tryz.ntmps202
  go_wp2_with (first | (go_at_call 123; refine (all_lab _ _ hs).mono ?_; rintro e w' ⟨rfl, rfl⟩; rw [H3.out]) | (go_at_call_of 88 (Value.bool true); refine (must_yes _ _).mono ?_; rintro e w' ⟨rfl, rfl⟩))
  go_end0
  exact ⟨rfl, rfl⟩

set_option maxHeartbeats 400000 in
theorem label_no (s : ByteArray) (w : World) (h : labelOk s.data.toList = false) :
    Calls Tryz.prog 202 #[.string s] w fun e w' => Dies e ∧ w' = w := by
  unfold labelOk at h
  rw [size_len] at h
  by_cases h1 : 1 ≤ s.size
  · have d1 : decide ((1 : Int) ≤ (s.size : Int)) = true := decide_eq_true (by omega)
    rw [dash_head s h1, dash_last s h1] at h
    by_cases h2 : s.size ≤ 20
    · have hs : s.size ≤ maxLen := by unfold maxLen; omega
      have d2 : decide ((s.size : Int) ≤ 20) = true := decide_eq_true (by omega)
      have h' : (allB ofLabel s.data.toList && (((s[0].toNat : Int) != 45) && ((s[s.size - 1].toNat : Int) != 45))) = false := by simpa [h1, h2] using h
      clear h
      cases h3 : allB ofLabel s.data.toList
      case' true => cases h4 : ((s[0].toNat : Int) != 45)
      case' true.true =>
        have h5 : ((s[s.size - 1].toNat : Int) != 45) = false := by simpa [h3, h4] using h'
      all_goals
        have H3 := show Hid _ from h3
        clear h3 h'
        go_enter Tryz.func202, Tryz.ntmps202
        go_wp2_with (first | (go_at_call 123; refine (all_lab _ _ hs).mono ?_; rintro e w' ⟨rfl, rfl⟩; rw [H3.out]) | (go_at_call_of 88 (Value.bool true); refine (must_yes _ _).mono ?_; rintro e w' ⟨rfl, rfl⟩) | (go_at_call_of 88 (Value.bool false); refine (must_no _ _).mono ?_; rintro e w' ⟨⟨t, v, rfl⟩, rfl⟩))
        exact ⟨rfl, ⟨_, _, rfl⟩, rfl⟩
    · clear h
      have d2 : decide ((s.size : Int) ≤ 20) = false := decide_eq_false (by omega)
      go_enter Tryz.func202, Tryz.ntmps202
      go_wp2_with (first | (go_at_call 88; refine (must_no _ _).mono ?_; rintro e w' ⟨⟨t, v, rfl⟩, rfl⟩))
      exact ⟨rfl, ⟨_, _, rfl⟩, rfl⟩
  · clear h
    have d1 : decide ((1 : Int) ≤ (s.size : Int)) = false := decide_eq_false (by omega)
    go_enter Tryz.func202, Tryz.ntmps202
    go_wp2_with (first | (go_at_call 88; refine (must_no _ _).mono ?_; rintro e w' ⟨⟨t, v, rfl⟩, rfl⟩))
    exact ⟨rfl, ⟨_, _, rfl⟩, rfl⟩
end Go.Proofs.YtdmaffciijmdcaaGreatDoor

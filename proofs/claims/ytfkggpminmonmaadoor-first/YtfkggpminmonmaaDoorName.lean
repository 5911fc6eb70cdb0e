/-
  Package words: Name.
-/
import Derived.Test.YtfkggpminmonmaaDoorNames
namespace Go.Proofs.YtfkggpminmonmaaDoor
open Go.RowKit Plain

set_option maxHeartbeats 400000 in
theorem name_yes (s : ByteArray) (w : World) (hs : s.size < 4294967281) (h : nameOk s.data.toList = true) :
    Calls Tryd.prog 64 #[.string s] w fun e w' => e = .returned (.string s) ∧ Q w w' := by
  unfold nameOk at h
  rw [Bool.and_eq_true, Bool.and_eq_true, decide_eq_true_eq, Bool.not_eq_true'] at h
  obtain ⟨⟨h1, h2⟩, h3⟩ := h
  have H2 := show Hid _ from h2
  have H3 := show Hid _ from h3
  clear h2 h3
  go_enter Tryd.func64, Tryd.ntmps64
  go_wp2_with fail
  refine (splitN_one s 46 6 w hs (by decide) (by decide)).mono ?_
  rintro e w' ⟨cs, len, N, rfl, rfl, hlN, hN, hd⟩
  rcases hd with ⟨_, rfl, hcs⟩ | ⟨hbad, _⟩
  case inr => exfalso; omega
  have Hgl := show Hid _ from parts_getD_le 46 s.data.toList
  have hne := parts_ne 46 s.data.toList
  have hpos : 1 ≤ (parts 46 s.data.toList).length := List.length_pos_iff.2 hne
  generalize hps : parts 46 s.data.toList = ps at *
  clear hps hne
  have d5 : decide ((ps.length : Int) ≤ 5) = true := decide_eq_true (by omega)
  go_wp2_with (first | (go_at_call_of 38 (Value.bool true); refine (must_yes _ _).mono ?_; rintro e w' ⟨rfl, rfl⟩))
  go_loop [14, 5] (fun i _ => ∃ k : Nat, k ≤ ps.length ∧ i = .int .i64 k) (fun i _ => ps.length - (intOf i).toNat)
  case atStart => exact ⟨0, Nat.zero_le _, rfl⟩
  case round =>
    obtain ⟨k, hk, rfl⟩ := hrel
    by_cases hlt : k < ps.length
    · have Hl : Hid (labelOk (nth ps k) = true) := List.all_eq_true.1 H2.out _ (nth_mem hlt)
      go_wp2_with (first | (go_at_call 101; refine (label_yes ⟨(nth ps k).toArray⟩ _ Hl.out).mono ?_; rintro e w' ⟨rfl, rfl⟩))
      exact ⟨⟨k + 1, by omega, by go_num⟩, by simp [intOf]; omega⟩
    · have hc1 := hcs (ps.length - 1) (by omega)
      have H3' : Hid (allB fig (nth ps (ps.length - 1)) = false) := by rw [nth_last hpos]; exact H3
      have hsl : (⟨(nth ps (ps.length - 1)).toArray⟩ : ByteArray).size ≤ maxLen := by
        have := Hgl.out (ps.length - 1)
        rw [size_len] at this
        rw [mk_size]
        unfold maxLen; omega
      go_wp2_with (first | (go_at_call 79; refine (all_fig ⟨(nth ps (ps.length - 1)).toArray⟩ _ hsl).mono ?_; rintro e w' ⟨rfl, rfl⟩; rw [mk_toList, H3'.out]) | (go_at_call_of 38 (Value.bool true); refine (must_yes _ _).mono ?_; rintro e w' ⟨rfl, rfl⟩))
      go_ret
      exact ⟨rfl, (Q.refl _).alloc _⟩

/-- The first that is not so. -/
theorem first_no {p : List UInt8 → Bool} : ∀ {ps : List (List UInt8)}, ps.all p = false → ∃ j, j < ps.length ∧ p (nth ps j) = false ∧ ∀ i, i < j → p (nth ps i) = true
  | [], h => by simp at h
  | a :: ps, h => by
    cases ha : p a
    · exact ⟨0, by simp, ha, fun i hi => absurd hi (Nat.not_lt_zero _)⟩
    · have h' : ps.all p = false := by simpa [ha] using h
      obtain ⟨j, hj, h1, h2⟩ := first_no h'
      refine ⟨j + 1, by simpa using hj, h1, fun i hi => ?_⟩
      cases i with
      | zero => exact ha
      | succ i => exact h2 i (by omega)

set_option maxHeartbeats 400000 in
theorem name_no (s : ByteArray) (w : World) (hs : s.size < 4294967281) (h : nameOk s.data.toList = false) :
    Calls Tryd.prog 64 #[.string s] w fun e w' => Dies e ∧ Q w w' := by
  unfold nameOk at h
  have H := show Hid _ from h
  clear h
  go_enter Tryd.func64, Tryd.ntmps64
  go_wp2_with fail
  refine (splitN_one s 46 6 w hs (by decide) (by decide)).mono ?_
  rintro e w' ⟨cs, len, N, rfl, rfl, hlN, hN, hd⟩
  have Hgl := show Hid _ from parts_getD_le 46 s.data.toList
  have hne := parts_ne 46 s.data.toList
  have hpos : 1 ≤ (parts 46 s.data.toList).length := List.length_pos_iff.2 hne
  generalize hps : parts 46 s.data.toList = ps at *
  clear hps hne
  by_cases h5 : ps.length ≤ 5
  case neg =>
    have d5 : decide ((len : Int) ≤ 5) = false := decide_eq_false (by omega)
    clear hd
    go_wp2_with (first | (go_at_call_of 38 (Value.bool false); refine (must_no _ _).mono ?_; rintro e w' ⟨⟨t, v, rfl⟩, rfl⟩))
    exact ⟨rfl, ⟨_, _, rfl⟩, (Q.refl _).alloc _⟩
  rcases hd with ⟨_, rfl, hcs⟩ | ⟨hbad, _⟩
  case inr => exfalso; omega
  have d5 : decide ((ps.length : Int) ≤ 5) = true := decide_eq_true (by omega)
  go_wp2_with (first | (go_at_call_of 38 (Value.bool true); refine (must_yes _ _).mono ?_; rintro e w' ⟨rfl, rfl⟩))
  cases hall : ps.all labelOk
  · obtain ⟨j, hj, hjn, hji⟩ := first_no hall
    have Hj := show Hid _ from hjn
    have Hi := show Hid _ from hji
    clear hjn hji hall
    go_loop [14, 5] (fun i _ => ∃ k : Nat, k ≤ j ∧ i = .int .i64 k) (fun i _ => ps.length - (intOf i).toNat)
    case atStart => exact ⟨0, Nat.zero_le _, rfl⟩
    case round =>
      obtain ⟨k, hk, rfl⟩ := hrel
      have hlt : k < ps.length := by omega
      by_cases hkj : k < j
      · go_wp2_with (first | (go_at_call 101; refine (label_yes ⟨(nth ps k).toArray⟩ _ (Hi.out k hkj)).mono ?_; rintro e w' ⟨rfl, rfl⟩))
        exact ⟨⟨k + 1, by omega, by go_num⟩, by simp [intOf]; omega⟩
      · have hkk : k = j := by omega
        subst hkk
        go_wp2_with (first | (go_at_call 101; refine (label_no ⟨(nth ps k).toArray⟩ _ Hj.out).mono ?_; rintro e w' ⟨⟨t, v, rfl⟩, rfl⟩))
        exact ⟨rfl, ⟨_, _, rfl⟩, (Q.refl _).alloc _⟩
  · have H3 : Hid (allB fig (ps.getLastD []) = true) := by
      have := H.out
      rw [hall, decide_eq_true h5] at this
      show _ = _
      simpa using this
    have H2 : Hid (ps.all labelOk = true) := hall
    clear hall
    go_loop [14, 5] (fun i _ => ∃ k : Nat, k ≤ ps.length ∧ i = .int .i64 k) (fun i _ => ps.length - (intOf i).toNat)
    case atStart => exact ⟨0, Nat.zero_le _, rfl⟩
    case round =>
      obtain ⟨k, hk, rfl⟩ := hrel
      by_cases hlt : k < ps.length
      · have Hl : Hid (labelOk (nth ps k) = true) := List.all_eq_true.1 H2.out _ (nth_mem hlt)
        go_wp2_with (first | (go_at_call 101; refine (label_yes ⟨(nth ps k).toArray⟩ _ Hl.out).mono ?_; rintro e w' ⟨rfl, rfl⟩))
        exact ⟨⟨k + 1, by omega, by go_num⟩, by simp [intOf]; omega⟩
      · have hc1 := hcs (ps.length - 1) (by omega)
        have H3' : Hid (allB fig (nth ps (ps.length - 1)) = true) := by rw [nth_last hpos]; exact H3
        have hsl : (⟨(nth ps (ps.length - 1)).toArray⟩ : ByteArray).size ≤ maxLen := by
          have := Hgl.out (ps.length - 1)
          rw [size_len] at this
          rw [mk_size]
          unfold maxLen; omega
        go_wp2_with (first | (go_at_call 79; refine (all_fig ⟨(nth ps (ps.length - 1)).toArray⟩ _ hsl).mono ?_; rintro e w' ⟨rfl, rfl⟩; rw [mk_toList, H3'.out]) | (go_at_call_of 38 (Value.bool false); refine (must_no _ _).mono ?_; rintro e w' ⟨⟨t, v, rfl⟩, rfl⟩))
        exact ⟨rfl, ⟨_, _, rfl⟩, (Q.refl _).alloc _⟩
end Go.Proofs.YtfkggpminmonmaaDoor

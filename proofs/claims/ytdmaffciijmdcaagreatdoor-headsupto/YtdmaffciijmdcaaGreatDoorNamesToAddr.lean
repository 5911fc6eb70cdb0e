/-
  Package words: Tenant, checkLabel, Name.
-/
import Derived.Test.YtdmaffciijmdcaaGreatDoorCutsToWords
import Derived.Handy
import Derived.Laws.IdiomStrings
import Derived.LoopN
namespace Go.Proofs.YtdmaffciijmdcaaGreatDoor
open Go.RowKit Plain

theorem ret_str {a b : ByteArray} (h : a = b) : Ending.returned (.string a) = .returned (.string b) := by rw [h]

theorem parts_le (c : UInt8) : ∀ (l p : List UInt8), p ∈ parts c l → p.length ≤ l.length
  | [], p, h => by simp [parts] at h; simp [h]
  | b :: l, p, h => by
    rw [parts] at h
    by_cases hb : b = c
    · rw [if_pos hb] at h
      rcases List.mem_cons.1 h with h | h
      · simp [h]
      · have := parts_le c l p h; simp; omega
    · rw [if_neg hb] at h
      have ih := parts_le c l
      cases hp : parts c l with
      | nil => exact absurd hp (parts_ne _ _)
      | cons q qs =>
        rw [hp] at h ih
        rcases List.mem_cons.1 h with h | h
        · have := ih q (by simp); rw [h]; simp; omega
        · have := ih p (by simp [h]); simp; omega

theorem parts_getD_le (c : UInt8) (l : List UInt8) (i : Nat) : (nth (parts c l) i).length ≤ l.length := by
  unfold nth
  by_cases h : i < (parts c l).length
  · rw [List.getD_eq_getElem?_getD, List.getElem?_eq_getElem h]
    exact parts_le c l _ (List.getElem_mem _)
  · rw [List.getD_eq_getElem?_getD, List.getElem?_eq_none (by omega)]; simp

theorem nth_mem {ps : List (List UInt8)} {i : Nat} (h : i < ps.length) : nth ps i ∈ ps := by
  unfold nth
  rw [List.getD_eq_getElem?_getD, List.getElem?_eq_getElem h]
  exact List.getElem_mem _
theorem nth_last {ps : List (List UInt8)} (_h : 1 ≤ ps.length) : nth ps (ps.length - 1) = ps.getLastD [] := by
  unfold nth
  rw [List.getD_eq_getElem?_getD, ← List.getLast?_eq_getElem?, List.getLastD_eq_getLast?]

set_option maxHeartbeats 400000 in
theorem tenant_yes (s : ByteArray) (w : World) (h : tenantOk s.data.toList = true) :
    Calls Tryz.prog 122 #[.string s] w fun e w' => e = .returned (.string s) ∧ w' = w := by
  unfold tenantOk at h
  rw [Bool.and_eq_true, decide_eq_true_eq, size_len] at h
  obtain ⟨⟨h1, h2⟩, h3⟩ := h
  have H3 := show Hid _ from h3
  have hs : s.size ≤ maxLen := by unfold maxLen; omega
  have d1 : decide ((1 : Int) ≤ (s.size : Int)) = true := decide_eq_true (by omega)
  have d2 : decide ((s.size : Int) ≤ 8) = true := decide_eq_true (by omega)
  clear h3
  go_enter Tryz.func122, Tryz.ntmps122
  go_wp2_with (first | (go_at_call 123; refine (all_small _ _ hs).mono ?_; rintro e w' ⟨rfl, rfl⟩; rw [H3.out]) | (go_at_call 88; refine (must_yes _ _).mono ?_; rintro e w' ⟨rfl, rfl⟩))
  go_ret
  exact ⟨rfl, rfl⟩

set_option maxHeartbeats 400000 in
theorem tenant_no (s : ByteArray) (w : World) (h : tenantOk s.data.toList = false) :
    Calls Tryz.prog 122 #[.string s] w fun e w' => Dies e ∧ w' = w := by
  unfold tenantOk at h
  rw [size_len] at h
  by_cases h1 : 1 ≤ s.size
  · by_cases h2 : s.size ≤ 8
    · have h3 : allB small s.data.toList = false := by simpa [h1, h2] using h
      have H3 := show Hid _ from h3
      have hs : s.size ≤ maxLen := by unfold maxLen; omega
      have d1 : decide ((1 : Int) ≤ (s.size : Int)) = true := decide_eq_true (by omega)
      have d2 : decide ((s.size : Int) ≤ 8) = true := decide_eq_true (by omega)
      clear h3 h
      go_enter Tryz.func122, Tryz.ntmps122
      go_wp2_with (first | (go_at_call 123; refine (all_small _ _ hs).mono ?_; rintro e w' ⟨rfl, rfl⟩; rw [H3.out]) | (go_at_call_of 88 (Value.bool true); refine (must_yes _ _).mono ?_; rintro e w' ⟨rfl, rfl⟩) | (go_at_call_of 88 (Value.bool false); refine (must_no _ _).mono ?_; rintro e w' ⟨⟨t, v, rfl⟩, rfl⟩))
      exact ⟨rfl, ⟨_, _, rfl⟩, rfl⟩
    · clear h
      have h2' : decide ((s.size : Int) ≤ 8) = false := decide_eq_false (by omega)
      go_enter Tryz.func122, Tryz.ntmps122
      go_wp2_with (first | (go_at_call 88; refine (must_no _ _).mono ?_; rintro e w' ⟨⟨t, v, rfl⟩, rfl⟩))
      exact ⟨rfl, ⟨_, _, rfl⟩, rfl⟩
  · clear h
    have h1' : decide ((1 : Int) ≤ (s.size : Int)) = false := decide_eq_false (by omega)
    go_enter Tryz.func122, Tryz.ntmps122
    go_wp2_with (first | (go_at_call 88; refine (must_no _ _).mono ?_; rintro e w' ⟨⟨t, v, rfl⟩, rfl⟩))
    exact ⟨rfl, ⟨_, _, rfl⟩, rfl⟩

theorem dash_head (s : ByteArray) (h : 1 ≤ s.size) : (s.data.toList.head? != some 45) = ((s[0].toNat : Int) != 45) := by
  rw [List.head?_eq_getElem?, List.getElem?_eq_getElem (by rw [size_len]; exact h)]
  show (some s[0] != some 45) = _
  rw [Bool.eq_iff_iff, bne_iff_ne, bne_iff_ne]
  constructor
  · intro h1 h2; apply h1
    rw [show s[0] = 45 from UInt8.toNat_inj.1 (by show s[0].toNat = 45; omega)]
  · intro h1 h2; apply h1
    rw [Option.some.inj h2]; rfl
theorem dash_last (s : ByteArray) (h : 1 ≤ s.size) : (s.data.toList.getLast? != some 45) = ((s[s.size - 1].toNat : Int) != 45) := by
  rw [List.getLast?_eq_getElem?, List.getElem?_eq_getElem (by rw [size_len]; omega)]
  have e : s.data.toList[s.data.toList.length - 1]'(by rw [size_len]; omega) = s[s.size - 1] := by
    simp only [size_len]; rfl
  rw [e, Bool.eq_iff_iff, bne_iff_ne, bne_iff_ne]
  constructor
  · intro h1 h2; apply h1
    rw [show s[s.size - 1] = 45 from UInt8.toNat_inj.1 (by show s[s.size - 1].toNat = 45; omega)]
  · intro h1 h2; apply h1
    rw [Option.some.inj h2]; rfl

set_option maxHeartbeats 400000 in
theorem label_yes (s : ByteArray) (w : World) (h : labelOk s.data.toList = true) :
    Calls Tryz.prog 202 #[.string s] w fun e w' => e = .returned (.tuple #[]) ∧ w' = w := by
  unfold labelOk at h
  rw [Bool.and_eq_true, Bool.and_eq_true, Bool.and_eq_true, decide_eq_true_eq, size_len] at h
  obtain ⟨⟨⟨h1, h2⟩, h3⟩, h4, h5⟩ := h
  rw [dash_head s h1] at h4
  rw [dash_last s h1] at h5
  have H3 := show Hid _ from h3
  have hs : s.size ≤ maxLen := by unfold maxLen; omega
  have d1 : decide ((1 : Int) ≤ (s.size : Int)) = true := decide_eq_true (by omega)
  have d2 : decide ((s.size : Int) ≤ 20) = true := decide_eq_true (by omega)
  clear h3
  go_enter Tryz.func202, Tryz.ntmps202
  go_wp2_with (first | (go_at_call 123; refine (all_lab _ _ hs).mono ?_; rintro e w' ⟨rfl, rfl⟩; rw [H3.out]) | (go_at_call_of 88 (Value.bool true); refine (must_yes _ _).mono ?_; rintro e w' ⟨rfl, rfl⟩))
  go_end0
  exact ⟨rfl, rfl⟩

set_option maxHeartbeats 400000 in
theorem label_no (s : ByteArray) (w : World) (h : labelOk s.data.toList = false) :
    Calls Tryz.prog 202 #[.string s] w fun e w' => Dies e ∧ w' = w := by
  unfold labelOk at h
  rw [size_len] at h
  by_cases h1 : 1 ≤ s.size
  · have d1 : decide ((1 : Int) ≤ (s.size : Int)) = true := decide_eq_true (by omega)
    rw [dash_head s h1, dash_last s h1] at h
    by_cases h2 : s.size ≤ 20
    · have hs : s.size ≤ maxLen := by unfold maxLen; omega
      have d2 : decide ((s.size : Int) ≤ 20) = true := decide_eq_true (by omega)
      have h' : (allB ofLabel s.data.toList && (((s[0].toNat : Int) != 45) && ((s[s.size - 1].toNat : Int) != 45))) = false := by simpa [h1, h2] using h
      clear h
      cases h3 : allB ofLabel s.data.toList
      case' true => cases h4 : ((s[0].toNat : Int) != 45)
      case' true.true =>
        have h5 : ((s[s.size - 1].toNat : Int) != 45) = false := by simpa [h3, h4] using h'
      all_goals
        have H3 := show Hid _ from h3
        clear h3 h'
        go_enter Tryz.func202, Tryz.ntmps202
        go_wp2_with (first | (go_at_call 123; refine (all_lab _ _ hs).mono ?_; rintro e w' ⟨rfl, rfl⟩; rw [H3.out]) | (go_at_call_of 88 (Value.bool true); refine (must_yes _ _).mono ?_; rintro e w' ⟨rfl, rfl⟩) | (go_at_call_of 88 (Value.bool false); refine (must_no _ _).mono ?_; rintro e w' ⟨⟨t, v, rfl⟩, rfl⟩))
        exact ⟨rfl, ⟨_, _, rfl⟩, rfl⟩
    · clear h
      have d2 : decide ((s.size : Int) ≤ 20) = false := decide_eq_false (by omega)
      go_enter Tryz.func202, Tryz.ntmps202
      go_wp2_with (first | (go_at_call 88; refine (must_no _ _).mono ?_; rintro e w' ⟨⟨t, v, rfl⟩, rfl⟩))
      exact ⟨rfl, ⟨_, _, rfl⟩, rfl⟩
  · clear h
    have d1 : decide ((1 : Int) ≤ (s.size : Int)) = false := decide_eq_false (by omega)
    go_enter Tryz.func202, Tryz.ntmps202
    go_wp2_with (first | (go_at_call 88; refine (must_no _ _).mono ?_; rintro e w' ⟨⟨t, v, rfl⟩, rfl⟩))
    exact ⟨rfl, ⟨_, _, rfl⟩, rfl⟩
end Go.Proofs.YtdmaffciijmdcaaGreatDoor
/-
  Package words: Name.
-/
namespace Go.Proofs.YtdmaffciijmdcaaGreatDoor
open Go.RowKit Plain

set_option maxHeartbeats 400000 in
theorem name_yes (s : ByteArray) (w : World) (hs : s.size < 4294967281) (h : nameOk s.data.toList = true) :
    Calls Tryz.prog 152 #[.string s] w fun e w' => e = .returned (.string s) ∧ Q w w' := by
  unfold nameOk at h
  rw [Bool.and_eq_true, Bool.and_eq_true, decide_eq_true_eq, Bool.not_eq_true'] at h
  obtain ⟨⟨h1, h2⟩, h3⟩ := h
  have H2 := show Hid _ from h2
  have H3 := show Hid _ from h3
  clear h2 h3
  go_enter Tryz.func152, Tryz.ntmps152
  go_wp2_with fail
  refine (splitN_one s 46 6 w hs (by decide) (by decide)).mono ?_
  rintro e w' ⟨cs, len, N, rfl, rfl, hlN, hN, hd⟩
  rcases hd with ⟨_, rfl, hcs⟩ | ⟨hbad, _⟩
  case inr => exfalso; omega
  have Hgl := show Hid _ from parts_getD_le 46 s.data.toList
  have hne := parts_ne 46 s.data.toList
  have hpos : 1 ≤ (parts 46 s.data.toList).length := List.length_pos_iff.2 hne
  generalize hps : parts 46 s.data.toList = ps at *
  clear hps hne
  have d5 : decide ((ps.length : Int) ≤ 5) = true := decide_eq_true (by omega)
  go_wp2_with (first | (go_at_call_of 88 (Value.bool true); refine (must_yes _ _).mono ?_; rintro e w' ⟨rfl, rfl⟩))
  go_loop [14, 5] (fun i _ => ∃ k : Nat, k ≤ ps.length ∧ i = .int .i64 k) (fun i _ => ps.length - (intOf i).toNat)
  case atStart => exact ⟨0, Nat.zero_le _, rfl⟩
  case round =>
    obtain ⟨k, hk, rfl⟩ := hrel
    by_cases hlt : k < ps.length
    · have Hl : Hid (labelOk (nth ps k) = true) := List.all_eq_true.1 H2.out _ (nth_mem hlt)
      go_wp2_with (first | (go_at_call 202; refine (label_yes ⟨(nth ps k).toArray⟩ _ Hl.out).mono ?_; rintro e w' ⟨rfl, rfl⟩))
      exact ⟨⟨k + 1, by omega, by go_num⟩, by simp [intOf]; omega⟩
    · have hc1 := hcs (ps.length - 1) (by omega)
      have H3' : Hid (allB fig (nth ps (ps.length - 1)) = false) := by rw [nth_last hpos]; exact H3
      have hsl : (⟨(nth ps (ps.length - 1)).toArray⟩ : ByteArray).size ≤ maxLen := by
        have := Hgl.out (ps.length - 1)
        rw [size_len] at this
        rw [mk_size]
        unfold maxLen; omega
      go_wp2_with (first | (go_at_call 123; refine (all_fig ⟨(nth ps (ps.length - 1)).toArray⟩ _ hsl).mono ?_; rintro e w' ⟨rfl, rfl⟩; rw [mk_toList, H3'.out]) | (go_at_call_of 88 (Value.bool true); refine (must_yes _ _).mono ?_; rintro e w' ⟨rfl, rfl⟩))
      go_ret
      exact ⟨rfl, (Q.refl _).alloc _⟩

/-- The first that is not so. -/
theorem first_no {p : List UInt8 → Bool} : ∀ {ps : List (List UInt8)}, ps.all p = false → ∃ j, j < ps.length ∧ p (nth ps j) = false ∧ ∀ i, i < j → p (nth ps i) = true
  | [], h => by simp at h
  | a :: ps, h => by
    cases ha : p a
    · exact ⟨0, by simp, ha, fun i hi => absurd hi (Nat.not_lt_zero _)⟩
    · have h' : ps.all p = false := by simpa [ha] using h
      obtain ⟨j, hj, h1, h2⟩ := first_no h'
      refine ⟨j + 1, by simpa using hj, h1, fun i hi => ?_⟩
      cases i with
      | zero => exact ha
      | succ i => exact h2 i (by omega)

set_option maxHeartbeats 400000 in
theorem name_no (s : ByteArray) (w : World) (hs : s.size < 4294967281) (h : nameOk s.data.toList = false) :
    Calls Tryz.prog 152 #[.string s] w fun e w' => Dies e ∧ Q w w' := by
  unfold nameOk at h
  have H := show Hid _ from h
  clear h
  go_enter Tryz.func152, Tryz.ntmps152
  go_wp2_with fail
  refine (splitN_one s 46 6 w hs (by decide) (by decide)).mono ?_
  rintro e w' ⟨cs, len, N, rfl, rfl, hlN, hN, hd⟩
  have Hgl := show Hid _ from parts_getD_le 46 s.data.toList
  have hne := parts_ne 46 s.data.toList
  have hpos : 1 ≤ (parts 46 s.data.toList).length := List.length_pos_iff.2 hne
  generalize hps : parts 46 s.data.toList = ps at *
  clear hps hne
  by_cases h5 : ps.length ≤ 5
  case neg =>
    have d5 : decide ((len : Int) ≤ 5) = false := decide_eq_false (by omega)
    clear hd
    go_wp2_with (first | (go_at_call_of 88 (Value.bool false); refine (must_no _ _).mono ?_; rintro e w' ⟨⟨t, v, rfl⟩, rfl⟩))
    exact ⟨rfl, ⟨_, _, rfl⟩, (Q.refl _).alloc _⟩
  rcases hd with ⟨_, rfl, hcs⟩ | ⟨hbad, _⟩
  case inr => exfalso; omega
  have d5 : decide ((ps.length : Int) ≤ 5) = true := decide_eq_true (by omega)
  go_wp2_with (first | (go_at_call_of 88 (Value.bool true); refine (must_yes _ _).mono ?_; rintro e w' ⟨rfl, rfl⟩))
  cases hall : ps.all labelOk
  · obtain ⟨j, hj, hjn, hji⟩ := first_no hall
    have Hj := show Hid _ from hjn
    have Hi := show Hid _ from hji
    clear hjn hji hall
    go_loop [14, 5] (fun i _ => ∃ k : Nat, k ≤ j ∧ i = .int .i64 k) (fun i _ => ps.length - (intOf i).toNat)
    case atStart => exact ⟨0, Nat.zero_le _, rfl⟩
    case round =>
      obtain ⟨k, hk, rfl⟩ := hrel
      have hlt : k < ps.length := by omega
      by_cases hkj : k < j
      · go_wp2_with (first | (go_at_call 202; refine (label_yes ⟨(nth ps k).toArray⟩ _ (Hi.out k hkj)).mono ?_; rintro e w' ⟨rfl, rfl⟩))
        exact ⟨⟨k + 1, by omega, by go_num⟩, by simp [intOf]; omega⟩
      · have hkk : k = j := by omega
        subst hkk
        go_wp2_with (first | (go_at_call 202; refine (label_no ⟨(nth ps k).toArray⟩ _ Hj.out).mono ?_; rintro e w' ⟨⟨t, v, rfl⟩, rfl⟩))
        exact ⟨rfl, ⟨_, _, rfl⟩, (Q.refl _).alloc _⟩
  · have H3 : Hid (allB fig (ps.getLastD []) = true) := by
      have := H.out
      rw [hall, decide_eq_true h5] at this
      show _ = _
      simpa using this
    have H2 : Hid (ps.all labelOk = true) := hall
    clear hall
    go_loop [14, 5] (fun i _ => ∃ k : Nat, k ≤ ps.length ∧ i = .int .i64 k) (fun i _ => ps.length - (intOf i).toNat)
    case atStart => exact ⟨0, Nat.zero_le _, rfl⟩
    case round =>
      obtain ⟨k, hk, rfl⟩ := hrel
      by_cases hlt : k < ps.length
      · have Hl : Hid (labelOk (nth ps k) = true) := List.all_eq_true.1 H2.out _ (nth_mem hlt)
        go_wp2_with (first | (go_at_call 202; refine (label_yes ⟨(nth ps k).toArray⟩ _ Hl.out).mono ?_; rintro e w' ⟨rfl, rfl⟩))
        exact ⟨⟨k + 1, by omega, by go_num⟩, by simp [intOf]; omega⟩
      · have hc1 := hcs (ps.length - 1) (by omega)
        have H3' : Hid (allB fig (nth ps (ps.length - 1)) = true) := by rw [nth_last hpos]; exact H3
        have hsl : (⟨(nth ps (ps.length - 1)).toArray⟩ : ByteArray).size ≤ maxLen := by
          have := Hgl.out (ps.length - 1)
          rw [size_len] at this
          rw [mk_size]
          unfold maxLen; omega
        go_wp2_with (first | (go_at_call 123; refine (all_fig ⟨(nth ps (ps.length - 1)).toArray⟩ _ hsl).mono ?_; rintro e w' ⟨rfl, rfl⟩; rw [mk_toList, H3'.out]) | (go_at_call_of 88 (Value.bool false); refine (must_no _ _).mono ?_; rintro e w' ⟨⟨t, v, rfl⟩, rfl⟩))
        exact ⟨rfl, ⟨_, _, rfl⟩, (Q.refl _).alloc _⟩
end Go.Proofs.YtdmaffciijmdcaaGreatDoor
/-
  Package words: Lower.
-/
namespace Go.Proofs.YtdmaffciijmdcaaGreatDoor
open Go.RowKit Plain

/-- The byte at j behind k rounds. -/
def lowAt (s : ByteArray) (k j : Nat) : UInt8 := if j < k then lowB (s.data.toList.getD j 0) else s.data.toList.getD j 0

theorem lower_len (l : List UInt8) : (lower l).length = l.length := by simp [lower]
theorem lowAt_full (s : ByteArray) (k j : Nat) (hk : s.size ≤ k) (hj : j < (lower s.data.toList).length) : lowAt s k j = (lower s.data.toList)[j] := by
  have hj' : j < s.data.toList.length := by rw [lower_len] at hj; exact hj
  unfold lowAt
  rw [if_pos (by rw [size_len] at hj'; omega)]
  simp [lower, List.getElem?_eq_getElem hj']
theorem lowAt_next (s : ByteArray) (k j : Nat) (hj : j ≠ k) : lowAt s (k + 1) j = lowAt s k j := by
  unfold lowAt
  by_cases h : j < k
  · rw [if_pos h, if_pos (by omega)]
  · rw [if_neg h, if_neg (by omega)]
theorem lowAt_self (s : ByteArray) (k : Nat) : lowAt s k k = s.data.toList.getD k 0 := by unfold lowAt; rw [if_neg (by omega)]
theorem lowAt_done (s : ByteArray) (k : Nat) : lowAt s (k + 1) k = lowB (lowAt s k k) := by
  rw [lowAt_self]; unfold lowAt; rw [if_pos (by omega)]
theorem lowB_upper {c : UInt8} (h1 : 65 ≤ (c.toNat : Int)) (h2 : (c.toNat : Int) ≤ 90) : ((lowB c).toNat : Int) = (c.toNat : Int) + 32 := by
  unfold lowB
  rw [if_pos (by omega), UInt8.toNat_add]
  have : (32 : UInt8).toNat = 32 := rfl
  omega
theorem lowB_other {c : UInt8} (h : ¬ (65 ≤ (c.toNat : Int) ∧ (c.toNat : Int) ≤ 90)) : lowB c = c := by
  unfold lowB; rw [if_neg (by omega)]

theorem set_same {w : World} {a : Addr} {u v : Value} (h : w.cell? a = some u) : (w.setCell a v).cell? a = some v := World.cell?_setCell_same' w a v (by simp [h])
theorem set_other {w : World} {a b : Addr} {v : Value} (h : a ≠ b) : (w.setCell a v).cell? b = w.cell? b := by
  apply World.cell?_setCell_other; exact h
theorem off_ne {b i j : Nat} (h : ¬ j = i) : (⟨b, i, none⟩ : Addr) ≠ ⟨b, j, none⟩ := by
  intro e; injection e with _ e2; exact h e2.symm

theorem lower_conv (s : ByteArray) (w : World) : ∃ cap w1, (convert 9 99 (.string s)).run Tryz.prog w = .ok (.slice (some ⟨w.heap.size, 0, none⟩) s.size cap) w1 ∧ Q w w1 ∧
    (∀ j, j < s.size → w1.cell? ⟨w.heap.size, j, none⟩ = some (.int .u8 ((lowAt s 0 j).toNat : Int))) ∧ (∀ j, j < s.size → w1.frozen? ⟨w.heap.size, j, none⟩ = false) := by
  refine ⟨_, _, run_bytes_of_string w 9 99 5 s Tryz.underlying9 Tryz.underlying99 Tryz.underlying5, (Q.refl w).drew.alloc _, fun j hj => ?_, fun j hj => ?_⟩
  · rw [show w.heap.size = w.drew.heap.size from rfl, World.cell?_alloc_mark]
    rw [bytesRow_at s _ j hj]
    unfold lowAt
    rw [if_neg (by omega), List.getD_eq_getElem?_getD, List.getElem?_eq_getElem (by rw [size_len]; exact hj)]
    rfl
  · rw [show w.heap.size = w.drew.heap.size from rfl, World.frozen?_alloc_mark]
    simp [bytesRow]
    intro h
    have : s.data.size = s.size := rfl
    omega

set_option maxHeartbeats 400000 in
theorem lower_any (s : ByteArray) (w : World) (hs : s.size ≤ 281474976710656) :
    Calls Tryz.prog 175 #[.string s] w fun e w' => e = .returned (str (lower s.data.toList)) ∧ Q w w' := by
  obtain ⟨cap, w1, hconv, hQ, hcell, hfz⟩ := lower_conv s w
  go_enter Tryz.func175, Tryz.ntmps175
  go_wp2_with fail
  go_loopw [10, 4, 5] (fun i _ _ wr => ∃ k : Nat, k ≤ s.size ∧ i = .int .i64 k ∧ Q w wr ∧ (∀ j, j < s.size → wr.cell? ⟨w.heap.size, j, none⟩ = some (.int .u8 ((lowAt s k j).toNat : Int))) ∧ (∀ j, j < s.size → wr.frozen? ⟨w.heap.size, j, none⟩ = false)) (fun i _ _ _ => s.size - (intOf i).toNat)
  case atStart => exact ⟨0, Nat.zero_le _, rfl, hQ, hcell, hfz⟩
  case round =>
    clear hconv hcell hfz hQ
    obtain ⟨k, hk, rfl, hq, hcell, hfz⟩ := hrel
    by_cases hlt : k < s.size
    · have hck := hcell k hlt
      have hfk := hfz k hlt
      have Hcell := show Hid _ from hcell
      have Hfz := show Hid _ from hfz
      clear hcell hfz
      cases hu : great (lowAt s k k)
      · have hnu : ¬ (65 ≤ ((lowAt s k k).toNat : Int) ∧ ((lowAt s k k).toNat : Int) ≤ 90) := fun h => by
          unfold great at hu
          rw [decide_eq_true h.1, decide_eq_true h.2] at hu
          cases hu
        have hnext : ∀ j, j < s.size → wr.cell? ⟨w.heap.size, j, none⟩ = some (.int .u8 ((lowAt s (k + 1) j).toNat : Int)) := by
          intro j hj
          by_cases hjk : j = k
          · subst hjk
            rw [hck, lowAt_done, lowB_other hnu]
          · rw [Hcell.out j hj, lowAt_next s k j hjk]
        have Hnext := show Hid _ from hnext
        clear hnext hnu
        go_wp2_with (go_at_call 207; refine (isGreat_any (lowAt s k k) _).mono ?_; rintro e w' ⟨rfl, rfl⟩; rw [hu])
        exact ⟨⟨k + 1, by omega, by go_num, hq, Hnext.out, Hfz.out⟩, by simp [intOf]; omega⟩
      · obtain ⟨hu1, hu2⟩ : 65 ≤ ((lowAt s k k).toNat : Int) ∧ ((lowAt s k k).toNat : Int) ≤ 90 := by
          unfold great at hu
          simpa using hu
        go_wp2_with (go_at_call 207; refine (isGreat_any (lowAt s k k) _).mono ?_; rintro e w' ⟨rfl, rfl⟩; rw [hu])
        refine ⟨⟨k + 1, by omega, by go_num, hq.setCell (Nat.le_refl _) _, fun j hj => ?_, fun j hj => ?_⟩, by simp [intOf]; omega⟩
        · by_cases hjk : j = k
          · subst hjk
            rw [set_same hck, lowAt_done, lowB_upper hu1 hu2]
            congr 2; omega
          · rw [set_other (off_ne hjk), Hcell.out j hj, lowAt_next s k j hjk]
        · rw [World.frozen?_setCell]; exact Hfz.out j hj
    · have hback := run_convert_bytes_back (P := Tryz.prog) wr 99 9 5 ⟨w.heap.size, 0, none⟩ cap (lower s.data.toList) Tryz.underlying99 Tryz.underlying5 Tryz.underlying9
        (fun j hj => by
          have hj' : j < s.size := by rw [lower_len, size_len] at hj; exact hj
          rw [show (⟨w.heap.size, 0, none⟩ : Addr).add j = ⟨w.heap.size, j, none⟩ from by unfold Addr.add; simp; exact fun h => h.symm]
          rw [hcell j hj', lowAt_full s k j (by omega) hj])
      rw [lower_len, size_len] at hback
      clear hcell hfz
      go_wp2_with fail
      go_ret
      exact ⟨rfl, hq⟩
end Go.Proofs.YtdmaffciijmdcaaGreatDoor
/-
  Package words: ReadAddress.
-/
namespace Go.Proofs.YtdmaffciijmdcaaGreatDoor
open Go.RowKit Plain

abbrev u8 (n : Nat) : Value := .int .u8 (n : Int)

theorem number_le {l : List UInt8} {hi n : Nat} (h : number l hi = some n) : n ≤ hi := by
  unfold number at h
  split at h
  · rename_i hc; cases h; exact hc.2
  · cases h

theorem number255_yes (l : List UInt8) (w : World) (hs : l.length ≤ 4294967281) (n : Nat) (h : number l 255 = some n) :
    Calls Tryz.prog 194 #[str l, .int .i64 255] w fun e w' => e = .returned (.int .i64 n) ∧ w' = w :=
  number_yes ⟨l.toArray⟩ 255 w (by rw [mk_size]; unfold maxLen; omega) (by decide) n h
theorem number255_no (l : List UInt8) (w : World) (hs : l.length ≤ 4294967281) (h : number l 255 = none) :
    Calls Tryz.prog 194 #[str l, .int .i64 255] w fun e w' => Dies e ∧ w' = w :=
  number_no ⟨l.toArray⟩ 255 w (by rw [mk_size]; unfold maxLen; omega) (by decide) h

theorem address_some {l : List UInt8} {r : List Nat} (h : address l = some r) : ∃ p0 p1 p2 p3 a b c d, parts 46 l = [p0, p1, p2, p3] ∧ r = [a, b, c, d] ∧
    number p0 255 = some a ∧ number p1 255 = some b ∧ number p2 255 = some c ∧ number p3 255 = some d := by
  unfold address at h
  split at h
  case isFalse => cases h
  rename_i h4
  match hp : parts 46 l, h4 with
  | [p0, p1, p2, p3], _ =>
    rw [hp] at h
    cases h0 : number p0 255 with
    | none => simp [octets, h0] at h
    | some a => cases h1 : number p1 255 with
      | none => simp [octets, h0, h1] at h
      | some b => cases h2 : number p2 255 with
        | none => simp [octets, h0, h1, h2] at h
        | some c => cases h3 : number p3 255 with
          | none => simp [octets, h0, h1, h2, h3] at h
          | some d =>
            simp [octets, h0, h1, h2, h3] at h
            exact ⟨p0, p1, p2, p3, a, b, c, d, rfl, h.symm, h0, h1, h2, h3⟩

theorem address_none {l : List UInt8} (h : address l = none) : (parts 46 l).length ≠ 4 ∨ ∃ p0 p1 p2 p3, parts 46 l = [p0, p1, p2, p3] ∧
    (number p0 255 = none ∨ (∃ a, number p0 255 = some a ∧ number p1 255 = none) ∨ (∃ a b, number p0 255 = some a ∧ number p1 255 = some b ∧ number p2 255 = none) ∨
      (∃ a b c, number p0 255 = some a ∧ number p1 255 = some b ∧ number p2 255 = some c ∧ number p3 255 = none)) := by
  by_cases h4 : (parts 46 l).length = 4
  · refine .inr ?_
    unfold address at h
    rw [if_pos h4] at h
    match hp : parts 46 l, h4 with
    | [p0, p1, p2, p3], _ =>
      rw [hp] at h
      refine ⟨p0, p1, p2, p3, rfl, ?_⟩
      cases h0 : number p0 255 with
      | none => exact .inl rfl
      | some a => cases h1 : number p1 255 with
        | none => exact .inr (.inl ⟨a, rfl, rfl⟩)
        | some b => cases h2 : number p2 255 with
          | none => exact .inr (.inr (.inl ⟨a, b, rfl, rfl, rfl⟩))
          | some c => cases h3 : number p3 255 with
            | none => exact .inr (.inr (.inr ⟨a, b, c, rfl, rfl, rfl, rfl⟩))
            | some d => simp [octets, h0, h1, h2, h3] at h
  · exact .inl h4

theorem four_cells {ps : List (List UInt8)} {p0 p1 p2 p3 : List UInt8} {cs : Array Value} (hp : ps = [p0, p1, p2, p3]) (h : ∀ i, i < ps.length → cs[i]? = some (str (nth ps i))) :
    cs[0]? = some (str p0) ∧ cs[1]? = some (str p1) ∧ cs[2]? = some (str p2) ∧ cs[3]? = some (str p3) := by
  subst hp
  exact ⟨h 0 (by simp), h 1 (by simp), h 2 (by simp), h 3 (by simp)⟩
theorem four_le {l p0 p1 p2 p3 : List UInt8} (hp : parts 46 l = [p0, p1, p2, p3]) (hs : l.length < 4294967281) :
    p0.length ≤ 4294967281 ∧ p1.length ≤ 4294967281 ∧ p2.length ≤ 4294967281 ∧ p3.length ≤ 4294967281 := by
  have h := fun p (hm : p ∈ parts 46 l) => parts_le 46 l p hm
  rw [hp] at h
  have h0 := h p0 (by simp)
  have h1 := h p1 (by simp)
  have h2 := h p2 (by simp)
  have h3 := h p3 (by simp)
  omega

set_option maxHeartbeats 800000 in
theorem readAddress_yes (s : ByteArray) (w : World) (hs : s.size < 4294967281) (a b c d : Nat) (h : address s.data.toList = some [a, b, c, d]) :
    Calls Tryz.prog 193 #[.string s] w fun e w' => e = .returned (.agg #[u8 a, u8 b, u8 c, u8 d]) ∧ Q w w' := by
  obtain ⟨p0, p1, p2, p3, a', b', c', d', hp, hr, h0, h1, h2, h3⟩ := address_some h
  cases hr
  obtain ⟨l0, l1, l2, l3⟩ := four_le hp (by rw [size_len]; exact hs)
  have B0 := number_le h0; have B1 := number_le h1; have B2 := number_le h2; have B3 := number_le h3
  have HP := show Hid _ from hp
  have H0 := show Hid _ from h0
  have H1 := show Hid _ from h1
  have H2 := show Hid _ from h2
  have H3 := show Hid _ from h3
  clear h hp h0 h1 h2 h3
  go_enter Tryz.func193, Tryz.ntmps193
  go_wp2_with fail
  refine (splitN_one s 46 5 _ hs (by decide) (by decide)).mono ?_
  rintro e w' ⟨cs, len, N, rfl, rfl, hlN, hN, hd⟩
  rcases hd with ⟨_, rfl, hcs⟩ | ⟨hbad, _⟩
  case inr => exfalso; rw [HP.out] at hbad; simp at hbad
  obtain ⟨hc0, hc1, hc2, hc3⟩ := four_cells HP.out hcs
  have hlen : (parts 46 s.data.toList).length = 4 := by rw [HP.out]; rfl
  clear hcs HP
  rw [hlen]
  clear hlen hlN hN
  go_wp2_with (first | (go_at_call_of 88 (Value.bool true); refine (must_yes _ _).mono ?_; rintro e w' ⟨rfl, rfl⟩))
  refine wp_loop_rounds 5 ?_
  rw [rounds_succ]
  go_wp2_with (go_at_call 194; refine (number255_yes p0 _ l0 a H0.out).mono ?_; rintro e w' ⟨rfl, rfl⟩)
  rw [rounds_succ]
  go_wp2_with (go_at_call 194; refine (number255_yes p1 _ l1 b H1.out).mono ?_; rintro e w' ⟨rfl, rfl⟩)
  rw [rounds_succ]
  go_wp2_with (go_at_call 194; refine (number255_yes p2 _ l2 c H2.out).mono ?_; rintro e w' ⟨rfl, rfl⟩)
  rw [rounds_succ]
  go_wp2_with (go_at_call 194; refine (number255_yes p3 _ l3 d H3.out).mono ?_; rintro e w' ⟨rfl, rfl⟩)
  rw [rounds_succ]
  go_wp2_with fail
  go_returns
  exact ⟨rfl, by unfold Q; go_grown⟩

/-- How far the reading comes. -/
theorem readAddress_some (s : ByteArray) (w : World) (hs : s.size < 4294967281) (h : (parts 46 s.data.toList).length ≠ 4) :
    Calls Tryz.prog 193 #[.string s] w fun e w' => Dies e ∧ Q w w' := by
  have H := show Hid _ from h
  clear h
  go_enter Tryz.func193, Tryz.ntmps193
  go_wp2_with fail
  refine (splitN_one s 46 5 _ hs (by decide) (by decide)).mono ?_
  rintro e w' ⟨cs, len, N, rfl, rfl, hlN, hN, hd⟩
  have h4 : ((len : Int) == 4) = false := by
    rw [beq_eq_false_iff_ne]
    intro he
    rcases hd with ⟨_, hl, _⟩ | ⟨_, hl⟩
    · exact H.out (by omega)
    · omega
  clear hd H
  go_wp2_with (first | (go_at_call_of 88 (Value.bool false); refine (must_no _ _).mono ?_; rintro e w' ⟨⟨t, v, rfl⟩, rfl⟩))
  exact ⟨rfl, ⟨_, _, rfl⟩, by unfold Q; go_grown⟩

set_option maxHeartbeats 800000 in
theorem readAddress_no (s : ByteArray) (w : World) (hs : s.size < 4294967281) (h : address s.data.toList = none) :
    Calls Tryz.prog 193 #[.string s] w fun e w' => Dies e ∧ Q w w' := by
  rcases address_none h with h4 | ⟨p0, p1, p2, p3, hp, hx⟩
  · exact readAddress_some s w hs h4
  obtain ⟨l0, l1, l2, l3⟩ := four_le hp (by rw [size_len]; exact hs)
  have HP := show Hid _ from hp
  have HX := show Hid _ from hx
  clear h hp hx
  go_enter Tryz.func193, Tryz.ntmps193
  go_wp2_with fail
  refine (splitN_one s 46 5 _ hs (by decide) (by decide)).mono ?_
  rintro e w' ⟨cs, len, N, rfl, rfl, hlN, hN, hd⟩
  rcases hd with ⟨_, rfl, hcs⟩ | ⟨hbad, _⟩
  case inr => exfalso; rw [HP.out] at hbad; simp at hbad
  obtain ⟨hc0, hc1, hc2, hc3⟩ := four_cells HP.out hcs
  have hlen : (parts 46 s.data.toList).length = 4 := by rw [HP.out]; rfl
  clear hcs HP
  rw [hlen]
  clear hlen hlN hN
  go_wp2_with (first | (go_at_call_of 88 (Value.bool true); refine (must_yes _ _).mono ?_; rintro e w' ⟨rfl, rfl⟩))
  refine wp_loop_rounds 5 ?_
  rw [rounds_succ]
  rcases HX.out with h0 | hx
  · have H0 := show Hid _ from h0
    clear h0 HX
    go_wp2_with (go_at_call 194; refine (number255_no p0 _ l0 H0.out).mono ?_; rintro e w' ⟨⟨t, v, rfl⟩, rfl⟩)
    exact ⟨rfl, ⟨_, _, rfl⟩, by unfold Q; go_grown⟩
  clear HX
  have HX := show Hid _ from hx
  obtain ⟨a, ha⟩ : ∃ a, Hid (number p0 255 = some a) := by
    rcases hx with ⟨a, h, _⟩ | ⟨a, b, h, _⟩ | ⟨a, b, c, h, _⟩ <;> exact ⟨a, h⟩
  have B0 := number_le ha.out
  clear hx
  go_wp2_with (go_at_call 194; refine (number255_yes p0 _ l0 a ha.out).mono ?_; rintro e w' ⟨rfl, rfl⟩)
  rw [rounds_succ]
  rcases HX.out with ⟨_, _, h0⟩ | hx
  · have H0 := show Hid _ from h0
    clear h0 HX
    go_wp2_with (go_at_call 194; refine (number255_no p1 _ l1 H0.out).mono ?_; rintro e w' ⟨⟨t, v, rfl⟩, rfl⟩)
    exact ⟨rfl, ⟨_, _, rfl⟩, by unfold Q; go_grown⟩
  clear HX
  have HX := show Hid _ from hx
  obtain ⟨b, hb⟩ : ∃ b, Hid (number p1 255 = some b) := by
    rcases hx with ⟨a, b, _, h, _⟩ | ⟨a, b, c, _, h, _⟩ <;> exact ⟨b, h⟩
  have B1 := number_le hb.out
  clear hx
  go_wp2_with (go_at_call 194; refine (number255_yes p1 _ l1 b hb.out).mono ?_; rintro e w' ⟨rfl, rfl⟩)
  rw [rounds_succ]
  rcases HX.out with ⟨_, _, _, _, h0⟩ | ⟨_, _, c, _, _, hc, h0⟩
  · have H0 := show Hid _ from h0
    clear h0 HX
    go_wp2_with (go_at_call 194; refine (number255_no p2 _ l2 H0.out).mono ?_; rintro e w' ⟨⟨t, v, rfl⟩, rfl⟩)
    exact ⟨rfl, ⟨_, _, rfl⟩, by unfold Q; go_grown⟩
  have H0 := show Hid _ from h0
  have HC := show Hid _ from hc
  have B2 := number_le hc
  clear h0 hc HX
  go_wp2_with (go_at_call 194; refine (number255_yes p2 _ l2 c HC.out).mono ?_; rintro e w' ⟨rfl, rfl⟩)
  rw [rounds_succ]
  go_wp2_with (go_at_call 194; refine (number255_no p3 _ l3 H0.out).mono ?_; rintro e w' ⟨⟨t, v, rfl⟩, rfl⟩)
  exact ⟨rfl, ⟨_, _, rfl⟩, by unfold Q; go_grown⟩
end Go.Proofs.YtdmaffciijmdcaaGreatDoor

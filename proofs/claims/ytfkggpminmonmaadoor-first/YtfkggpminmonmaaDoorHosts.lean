/-
  Package rules: readDomain, readHost, and what the functions on hosts answer.
-/
import Derived.Test.YtfkggpminmonmaaDoorNets
import Derived.Deep.RegionWith
namespace Go.Proofs.YtfkggpminmonmaaDoor
open Go.RowKit Plain

set_option maxHeartbeats 400000 in
theorem readDomain_yes (s : ByteArray) (w : World) (hs : s.size < 4294967281) (h : nameOk s.data.toList = true) :
    Calls Tryd.prog 63 #[.string s] w fun e w' => ∃ v, e = .returned v ∧ Q w w' ∧ HostRep (New w w') w' v ⟨2, s.data.toList, [], 0⟩ := by
  have hmf : ∀ (fn : Fn) (first cap : Array Value) (w : World), (Instr.makeFunc fn first cap).run Tryd.prog w = .ok (.func fn first cap) w := fun _ _ _ _ => rfl
  have HO := show Hid _ from h
  clear h
  go_enter Tryd.func63, Tryd.ntmps63
  go_wp2_with fail
  refine (name_yes s _ hs HO.out).mono ?_
  rintro e w1 ⟨rfl, hq1⟩
  go_wp2_with fail
  refine (clone_any s _ (by omega)).mono ?_
  rintro e w2 ⟨rfl, hq2⟩
  have hq := hq1.trans hq2
  go_wp2_with fail
  go_ret
  refine ⟨_, rfl, hq.alloc _, .inr (.inr (.inl ⟨_, rfl, rfl, ?_, ?_, ?_⟩))⟩
  · simp [go_sem, str]
  · show s.data.toList.length ≤ _
    rw [size_len]; omega
  · exact ⟨hq.size, by simp⟩

set_option maxHeartbeats 400000 in
theorem readDomain_no (s : ByteArray) (w : World) (hs : s.size < 4294967281) (h : nameOk s.data.toList = false) :
    Calls Tryd.prog 63 #[.string s] w fun e w' => Dies e ∧ Q w w' := by
  have HO := show Hid _ from h
  clear h
  go_enter Tryd.func63, Tryd.ntmps63
  go_wp2_with fail
  refine (name_no s _ hs HO.out).mono ?_
  rintro e w1 ⟨⟨t, v, rfl⟩, hq1⟩
  exact ⟨rfl, ⟨_, _, rfl⟩, hq1⟩

theorem prefix_dot (l : List UInt8) : Lib.hasPrefix l [46] = decide (l.head? = some 46) := by
  unfold Lib.hasPrefix
  cases l with
  | nil => rfl
  | cons a l =>
    rw [Bool.eq_iff_iff]
    simp [List.isPrefixOf]
    constructor <;> exact fun h => h.symm
theorem trim_dot {l : List UInt8} (h : l.head? = some 46) : Lib.trimPrefix l [46] = l.tail := by
  unfold Lib.trimPrefix
  rw [prefix_dot, decide_eq_true h]
  cases l with
  | nil => rfl
  | cons a l => rfl

theorem cutPrefix_yes (s : ByteArray) (w : World) (h : s.data.toList.head? = some 46) :
    Calls Tryd.prog 62 #[.string s, .string ⟨#[46]⟩] w fun e w' => e = .returned (.tuple #[str s.data.toList.tail, .bool true]) ∧ w' = w := by
  refine (Tryd.strings_CutPrefix s ⟨#[46]⟩ w).mono fun e w' ⟨he, hw⟩ => ⟨?_, hw⟩
  rw [he]
  have e1 : (⟨#[46]⟩ : ByteArray).data.toList = [46] := rfl
  rw [e1, trim_dot h, prefix_dot, decide_eq_true h]
  rfl
theorem cutPrefix_no (s : ByteArray) (w : World) (h : ¬ s.data.toList.head? = some 46) :
    Calls Tryd.prog 62 #[.string s, .string ⟨#[46]⟩] w fun e w' => (∃ v, e = .returned (.tuple #[v, .bool false])) ∧ w' = w := by
  refine (Tryd.strings_CutPrefix s ⟨#[46]⟩ w).mono fun e w' ⟨he, hw⟩ => ⟨?_, hw⟩
  rw [he]
  have e1 : (⟨#[46]⟩ : ByteArray).data.toList = [46] := rfl
  rw [e1, prefix_dot, decide_eq_false h]
  exact ⟨_, rfl⟩

set_option maxHeartbeats 400000 in
theorem readHostF_yes (s : ByteArray) (w : World) (hs : s.size < 4294967281) (p : HostP) (h : readHostP s.data.toList = some p) :
    Calls Tryd.prog 41 #[.string s] w fun e w' => ∃ v, e = .returned v ∧ Q w w' ∧ HostRep (New w w') w' v p := by
  have hmf : ∀ (fn : Fn) (first cap : Array Value) (w : World), (Instr.makeFunc fn first cap).run Tryd.prog w = .ok (.func fn first cap) w := fun _ _ _ _ => rfl
  unfold readHostP at h
  split at h
  · rename_i hst
    cases h
    have h42 : (s.toList == [42]) = true := by rw [eq_star]; exact decide_eq_true hst
    clear hst
    go_enter Tryd.func41, Tryd.ntmps41
    go_wp2
    go_ret
    exact ⟨_, rfl, Q.refl _, .inl ⟨rfl, rfl⟩⟩
  · rename_i hst
    have h42 : (s.toList == [42]) = false := by rw [eq_star]; exact decide_eq_false hst
    clear hst
    cases hc : cutAt 47 s.data.toList with
    | some x =>
      obtain ⟨a, r⟩ := x
      rw [hc] at h
      simp only at h
      have hl := cut_le hc
      rw [size_len] at hl
      obtain ⟨hl1, hl2⟩ := hl
      have HC := show Hid _ from hc
      have HN := show Hid _ from h
      clear hc h
      go_enter Tryd.func41, Tryd.ntmps41
      go_wp2_with fail
      refine (cut_hit s 47 a r _ (by unfold maxLen; omega) HC.out).mono ?_
      rintro e w1 ⟨rfl, hw1⟩
      rw [hw1]
      go_wp2_with fail
      refine (readNet_yes ⟨a.toArray⟩ ⟨r.toArray⟩ _ (by rw [mk_size]; omega) (by rw [mk_size]; omega) p HN.out).mono ?_
      rintro e w2 ⟨v, rfl, hq, hr⟩
      go_wp2_with fail
      go_ret
      exact ⟨_, rfl, ((Q.refl _).drew).trans hq, hr⟩
    | none =>
      rw [hc] at h
      simp only at h
      have HC := show Hid _ from hc
      clear hc
      split at h
      · rename_i hd
        split at h
        case isFalse => cases h
        rename_i hn
        cases h
        have HD := show Hid _ from hd
        have HN := show Hid _ from hn
        have hlt : s.data.toList.tail.length ≤ s.size := by rw [← size_len s, List.length_tail]; omega
        clear hd hn
        go_enter Tryd.func41, Tryd.ntmps41
        go_wp2_with (first | (go_at_call 17; refine (cut_miss s 47 _ HC.out).mono ?_; rintro e w' ⟨rfl, rfl⟩) | (go_at_call 62; refine (cutPrefix_yes s _ HD.out).mono ?_; rintro e w' ⟨rfl, rfl⟩))
        refine (readDomain_yes ⟨s.data.toList.tail.toArray⟩ _ (by rw [mk_size]; omega) HN.out).mono ?_
        rintro e w2 ⟨v, rfl, hq, hr⟩
        go_wp2_with fail
        go_ret
        exact ⟨_, rfl, hq, hr⟩
      · rename_i hd
        split at h
        case isFalse => cases h
        rename_i hn
        cases h
        have HD := show Hid _ from hd
        have HN := show Hid _ from hn
        clear hd hn
        go_enter Tryd.func41, Tryd.ntmps41
        go_wp2_with (first | (go_at_call 17; refine (cut_miss s 47 _ HC.out).mono ?_; rintro e w' ⟨rfl, rfl⟩) | (go_at_call 62; refine (cutPrefix_no s _ HD.out).mono ?_; rintro e w' ⟨⟨v, rfl⟩, rfl⟩))
        refine (name_yes s _ hs HN.out).mono ?_
        rintro e w1 ⟨rfl, hq1⟩
        go_wp2_with fail
        refine (clone_any s _ (by omega)).mono ?_
        rintro e w2 ⟨rfl, hq2⟩
        have hq := hq1.trans hq2
        go_wp2_with fail
        go_ret
        refine ⟨_, rfl, hq.alloc _, .inr (.inl ⟨_, rfl, rfl, ?_, ?_⟩)⟩
        · simp [go_sem, str]
        · exact ⟨hq.size, by simp⟩

set_option maxHeartbeats 400000 in
theorem readHostF_no (s : ByteArray) (w : World) (hs : s.size < 4294967281) (h : readHostP s.data.toList = none) :
    Calls Tryd.prog 41 #[.string s] w fun e w' => Dies e ∧ Q w w' := by
  unfold readHostP at h
  split at h
  · cases h
  · rename_i hst
    have h42 : (s.toList == [42]) = false := by rw [eq_star]; exact decide_eq_false hst
    clear hst
    cases hc : cutAt 47 s.data.toList with
    | some x =>
      obtain ⟨a, r⟩ := x
      rw [hc] at h
      simp only at h
      have hl := cut_le hc
      rw [size_len] at hl
      obtain ⟨hl1, hl2⟩ := hl
      have HC := show Hid _ from hc
      have HN := show Hid _ from h
      clear hc h
      go_enter Tryd.func41, Tryd.ntmps41
      go_wp2_with fail
      refine (cut_hit s 47 a r _ (by unfold maxLen; omega) HC.out).mono ?_
      rintro e w1 ⟨rfl, hw1⟩
      rw [hw1]
      go_wp2_with fail
      refine (readNet_no ⟨a.toArray⟩ ⟨r.toArray⟩ _ (by rw [mk_size]; omega) (by rw [mk_size]; omega) HN.out).mono ?_
      rintro e w2 ⟨⟨t, v, rfl⟩, hq⟩
      exact ⟨rfl, ⟨_, _, rfl⟩, ((Q.refl _).drew).trans hq⟩
    | none =>
      rw [hc] at h
      simp only at h
      have HC := show Hid _ from hc
      clear hc
      split at h
      · rename_i hd
        split at h
        case isTrue => cases h
        rename_i hn
        have HD := show Hid _ from hd
        have HN : Hid (nameOk s.data.toList.tail = false) := by show _ = false; simpa using hn
        have hlt : s.data.toList.tail.length ≤ s.size := by rw [← size_len s, List.length_tail]; omega
        clear hd hn h
        go_enter Tryd.func41, Tryd.ntmps41
        go_wp2_with (first | (go_at_call 17; refine (cut_miss s 47 _ HC.out).mono ?_; rintro e w' ⟨rfl, rfl⟩) | (go_at_call 62; refine (cutPrefix_yes s _ HD.out).mono ?_; rintro e w' ⟨rfl, rfl⟩))
        refine (readDomain_no ⟨s.data.toList.tail.toArray⟩ _ (by rw [mk_size]; omega) HN.out).mono ?_
        rintro e w2 ⟨⟨t, v, rfl⟩, hq⟩
        exact ⟨rfl, ⟨_, _, rfl⟩, hq⟩
      · rename_i hd
        split at h
        case isTrue => cases h
        rename_i hn
        have HD := show Hid _ from hd
        have HN : Hid (nameOk s.data.toList = false) := by show _ = false; simpa using hn
        clear hd hn h
        go_enter Tryd.func41, Tryd.ntmps41
        go_wp2_with (first | (go_at_call 17; refine (cut_miss s 47 _ HC.out).mono ?_; rintro e w' ⟨rfl, rfl⟩) | (go_at_call 62; refine (cutPrefix_no s _ HD.out).mono ?_; rintro e w' ⟨⟨v, rfl⟩, rfl⟩))
        refine (name_no s _ hs HN.out).mono ?_
        rintro e w2 ⟨⟨t, v, rfl⟩, hq⟩
        exact ⟨rfl, ⟨_, _, rfl⟩, hq⟩

set_option maxHeartbeats 400000 in
theorem fitsAllH (nm : List UInt8) (a b c d : Nat) (w : World) : Calls Tryd.prog 60 #[hostV nm a b c d] w fun e w' => e = .returned (.bool true) ∧ Q w w' := by
  unfold hostV str
  go_enter Tryd.func60, Tryd.ntmps60
  go_wp2
  go_ret
  exact ⟨rfl, by unfold Q; go_grown⟩

theorem str_eq (a b : List UInt8) : ((⟨a.toArray⟩ : ByteArray).toList == (⟨b.toArray⟩ : ByteArray).toList) = (a == b) := by
  rw [Lib.toList_data, Lib.toList_data]

set_option maxHeartbeats 400000 in
theorem host1 (nm o : List UInt8) (a b c d g : Nat) (w : World) (h : w.cell? ⟨g, 0, none⟩ = some (str o)) :
    Calls Tryd.prog 65 #[hostV nm a b c d, .pointer (some ⟨g, 0, none⟩)] w fun e w' => e = .returned (.bool (nm == o)) ∧ Q w w' := by
  have hg := Q.lt h
  unfold hostV
  unfold str at *
  go_enter Tryd.func65, Tryd.ntmps65
  go_wp2
  go_ret
  exact ⟨rfl, by unfold Q; go_grown⟩

theorem dot_str (o : List UInt8) : ((⟨#[46]⟩ : ByteArray) ++ (⟨o.toArray⟩ : ByteArray)).data.toList = 46 :: o := by
  rw [ByteArray.data_append, Array.toList_append]; rfl

set_option maxHeartbeats 400000 in
theorem domain1 (nm o : List UInt8) (a b c d g : Nat) (w : World) (hn : nm.length ≤ 4294967281) (ho : o.length ≤ 4294967281) (h : w.cell? ⟨g, 0, none⟩ = some (str o)) :
    Calls Tryd.prog 98 #[hostV nm a b c d, .pointer (some ⟨g, 0, none⟩)] w fun e w' => e = .returned (.bool (nm == o || Lib.hasSuffix nm (46 :: o))) ∧ Q w w' := by
  have hg := Q.lt h
  unfold hostV
  unfold str at *
  have hsz : (⟨nm.toArray⟩ : ByteArray).size ≤ 9223372036854775807 := by rw [mk_size]; omega
  cases he : (nm == o)
  · have he' : ((⟨nm.toArray⟩ : ByteArray).toList == (⟨o.toArray⟩ : ByteArray).toList) = false := by rw [str_eq]; exact he
    go_enter Tryd.func98, Tryd.ntmps98
    go_wp2_with fail
    refine (Tryd.strings_HasSuffix _ _ _ hsz).mono ?_
    rintro e w1 ⟨rfl, hw1⟩
    rw [hw1, dot_str]
    go_wp2_with fail
    go_ret
    exact ⟨by rw [Bool.false_or]; rfl, by unfold Q; go_grown⟩
  · have he' : ((⟨nm.toArray⟩ : ByteArray).toList == (⟨o.toArray⟩ : ByteArray).toList) = true := by rw [str_eq]; exact he
    go_enter Tryd.func98, Tryd.ntmps98
    go_wp2_with fail
    go_ret
    exact ⟨rfl, by unfold Q; go_grown⟩

set_option maxHeartbeats 400000 in
theorem isAddress_any (nm : List UInt8) (a b c d : Nat) (w : World) : Calls Tryd.prog 96 #[hostV nm a b c d] w fun e w' => e = .returned (.bool nm.isEmpty) ∧ Q w w' := by
  unfold hostV str
  go_enter Tryd.func96, Tryd.ntmps96
  go_wp2
  go_ret
  exact ⟨rfl, by unfold Q; go_grown⟩
end Go.Proofs.YtfkggpminmonmaaDoor

/-
  Package rules: readDomain, readHost, and what the functions on hosts answer.
-/
import Derived.Test.YtdmaffciijmdcaaGreatDoorNetsC
import Derived.Deep.RegionWith
namespace Go.Proofs.YtdmaffciijmdcaaGreatDoor
open Go.RowKit Plain

set_option maxHeartbeats 400000 in
theorem readDomain_yes (s : ByteArray) (w : World) (hs : s.size < 4294967281) (h : nameOk s.data.toList = true) :
    Calls Tryz.prog 151 #[.string s] w fun e w' => ∃ v, e = .returned v ∧ Q w w' ∧ HostRep (New w w') w' v ⟨2, s.data.toList, [], 0⟩ := by
  have hmf : ∀ (fn : Fn) (first cap : Array Value) (w : World), (Instr.makeFunc fn first cap).run Tryz.prog w = .ok (.func fn first cap) w := fun _ _ _ _ => rfl
  have HO := show Hid _ from h
  clear h
  go_enter Tryz.func151, Tryz.ntmps151
  go_wp2_with fail
  refine (name_yes s _ hs HO.out).mono ?_
  rintro e w1 ⟨rfl, hq1⟩
  go_wp2_with fail
  refine (clone_any s _ (by omega)).mono ?_
  rintro e w2 ⟨rfl, hq2⟩
  have hq := hq1.trans hq2
  go_wp2_with fail
  go_ret
  refine ⟨_, rfl, hq.alloc _, .inr (.inr (.inl ⟨_, rfl, rfl, ?_, ?_, ?_⟩))⟩
  · simp [go_sem, str]
  · show s.data.toList.length ≤ _
    rw [size_len]; omega
  · exact ⟨hq.size, by simp⟩

set_option maxHeartbeats 400000 in
theorem readDomain_no (s : ByteArray) (w : World) (hs : s.size < 4294967281) (h : nameOk s.data.toList = false) :
    Calls Tryz.prog 151 #[.string s] w fun e w' => Dies e ∧ Q w w' := by
  have HO := show Hid _ from h
  clear h
  go_enter Tryz.func151, Tryz.ntmps151
  go_wp2_with fail
  refine (name_no s _ hs HO.out).mono ?_
  rintro e w1 ⟨⟨t, v, rfl⟩, hq1⟩
  exact ⟨rfl, ⟨_, _, rfl⟩, hq1⟩

theorem prefix_dot (l : List UInt8) : Lib.hasPrefix l [46] = decide (l.head? = some 46) := by
  unfold Lib.hasPrefix
  cases l with
  | nil => rfl
  | cons a l =>
    rw [Bool.eq_iff_iff]
    simp [List.isPrefixOf]
    constructor <;> exact fun h => h.symm
theorem trim_dot {l : List UInt8} (h : l.head? = some 46) : Lib.trimPrefix l [46] = l.tail := by
  unfold Lib.trimPrefix
  rw [prefix_dot, decide_eq_true h]
  cases l with
  | nil => rfl
  | cons a l => rfl

theorem cutPrefix_yes (s : ByteArray) (w : World) (h : s.data.toList.head? = some 46) :
    Calls Tryz.prog 150 #[.string s, .string ⟨#[46]⟩] w fun e w' => e = .returned (.tuple #[str s.data.toList.tail, .bool true]) ∧ w' = w := by
  refine (Tryz.strings_CutPrefix s ⟨#[46]⟩ w).mono fun e w' ⟨he, hw⟩ => ⟨?_, hw⟩
  rw [he]
  have e1 : (⟨#[46]⟩ : ByteArray).data.toList = [46] := rfl
  rw [e1, trim_dot h, prefix_dot, decide_eq_true h]
  rfl
theorem cutPrefix_no (s : ByteArray) (w : World) (h : ¬ s.data.toList.head? = some 46) :
    Calls Tryz.prog 150 #[.string s, .string ⟨#[46]⟩] w fun e w' => (∃ v, e = .returned (.tuple #[v, .bool false])) ∧ w' = w := by
  refine (Tryz.strings_CutPrefix s ⟨#[46]⟩ w).mono fun e w' ⟨he, hw⟩ => ⟨?_, hw⟩
  rw [he]
  have e1 : (⟨#[46]⟩ : ByteArray).data.toList = [46] := rfl
  rw [e1, prefix_dot, decide_eq_false h]
  exact ⟨_, rfl⟩

set_option maxHeartbeats 400000 in
theorem readHostF_yes (s : ByteArray) (w : World) (hs : s.size < 4294967281) (p : HostP) (h : readHostP s.data.toList = some p) :
    Calls Tryz.prog 119 #[.string s] w fun e w' => ∃ v, e = .returned v ∧ Q w w' ∧ HostRep (New w w') w' v p := by
  have hmf : ∀ (fn : Fn) (first cap : Array Value) (w : World), (Instr.makeFunc fn first cap).run Tryz.prog w = .ok (.func fn first cap) w := fun _ _ _ _ => rfl
  unfold readHostP at h
  split at h
  · rename_i hst
    cases h
    have h42 : (s.toList == [42]) = true := by rw [eq_star]; exact decide_eq_true hst
    clear hst
    go_enter Tryz.func119, Tryz.ntmps119
    go_wp2
    go_ret
    exact ⟨_, rfl, Q.refl _, .inl ⟨rfl, rfl⟩⟩
  · rename_i hst
    have h42 : (s.toList == [42]) = false := by rw [eq_star]; exact decide_eq_false hst
    clear hst
    cases hc : cutAt 47 s.data.toList with
    | some x =>
      obtain ⟨a, r⟩ := x
      rw [hc] at h
      simp only at h
      have hl := cut_le hc
      rw [size_len] at hl
      obtain ⟨hl1, hl2⟩ := hl
      have HC := show Hid _ from hc
      have HN := show Hid _ from h
      clear hc h
      go_enter Tryz.func119, Tryz.ntmps119
      go_wp2_with fail
      refine (cut_hit s 47 a r _ (by unfold maxLen; omega) HC.out).mono ?_
      rintro e w1 ⟨rfl, hw1⟩
      rw [hw1]
      go_wp2_with fail
      refine (readNet_yes ⟨a.toArray⟩ ⟨r.toArray⟩ _ (by rw [mk_size]; omega) (by rw [mk_size]; omega) p HN.out).mono ?_
      rintro e w2 ⟨v, rfl, hq, hr⟩
      go_wp2_with fail
      go_ret
      exact ⟨_, rfl, ((Q.refl _).drew).trans hq, hr⟩
    | none =>
      rw [hc] at h
      simp only at h
      have HC := show Hid _ from hc
      clear hc
      split at h
      · rename_i hd
        split at h
        case isFalse => cases h
        rename_i hn
        cases h
        have HD := show Hid _ from hd
        have HN := show Hid _ from hn
        have hlt : s.data.toList.tail.length ≤ s.size := by rw [← size_len s, List.length_tail]; omega
        clear hd hn
        go_enter Tryz.func119, Tryz.ntmps119
        go_wp2_with (first | (go_at_call 82; refine (cut_miss s 47 _ HC.out).mono ?_; rintro e w' ⟨rfl, rfl⟩) | (go_at_call 150; refine (cutPrefix_yes s _ HD.out).mono ?_; rintro e w' ⟨rfl, rfl⟩))
        refine (readDomain_yes ⟨s.data.toList.tail.toArray⟩ _ (by rw [mk_size]; omega) HN.out).mono ?_
        rintro e w2 ⟨v, rfl, hq, hr⟩
        go_wp2_with fail
        go_ret
        exact ⟨_, rfl, hq, hr⟩
      · rename_i hd
        split at h
        case isFalse => cases h
        rename_i hn
        cases h
        have HD := show Hid _ from hd
        have HN := show Hid _ from hn
        clear hd hn
        go_enter Tryz.func119, Tryz.ntmps119
        go_wp2_with (first | (go_at_call 82; refine (cut_miss s 47 _ HC.out).mono ?_; rintro e w' ⟨rfl, rfl⟩) | (go_at_call 150; refine (cutPrefix_no s _ HD.out).mono ?_; rintro e w' ⟨⟨v, rfl⟩, rfl⟩))
        refine (name_yes s _ hs HN.out).mono ?_
        rintro e w1 ⟨rfl, hq1⟩
        go_wp2_with fail
        refine (clone_any s _ (by omega)).mono ?_
        rintro e w2 ⟨rfl, hq2⟩
        have hq := hq1.trans hq2
        go_wp2_with fail
        go_ret
        refine ⟨_, rfl, hq.alloc _, .inr (.inl ⟨_, rfl, rfl, ?_, ?_⟩)⟩
        · simp [go_sem, str]
        · exact ⟨hq.size, by simp⟩

set_option maxHeartbeats 400000 in
theorem readHostF_no (s : ByteArray) (w : World) (hs : s.size < 4294967281) (h : readHostP s.data.toList = none) :
    Calls Tryz.prog 119 #[.string s] w fun e w' => Dies e ∧ Q w w' := by
  unfold readHostP at h
  split at h
  · cases h
  · rename_i hst
    have h42 : (s.toList == [42]) = false := by rw [eq_star]; exact decide_eq_false hst
    clear hst
    cases hc : cutAt 47 s.data.toList with
    | some x =>
      obtain ⟨a, r⟩ := x
      rw [hc] at h
      simp only at h
      have hl := cut_le hc
      rw [size_len] at hl
      obtain ⟨hl1, hl2⟩ := hl
      have HC := show Hid _ from hc
      have HN := show Hid _ from h
      clear hc h
      go_enter Tryz.func119, Tryz.ntmps119
      go_wp2_with fail
      refine (cut_hit s 47 a r _ (by unfold maxLen; omega) HC.out).mono ?_
      rintro e w1 ⟨rfl, hw1⟩
      rw [hw1]
      go_wp2_with fail
      refine (readNet_no ⟨a.toArray⟩ ⟨r.toArray⟩ _ (by rw [mk_size]; omega) (by rw [mk_size]; omega) HN.out).mono ?_
      rintro e w2 ⟨⟨t, v, rfl⟩, hq⟩
      exact ⟨rfl, ⟨_, _, rfl⟩, ((Q.refl _).drew).trans hq⟩
    | none =>
      rw [hc] at h
      simp only at h
      have HC := show Hid _ from hc
      clear hc
      split at h
      · rename_i hd
        split at h
        case isTrue => cases h
        rename_i hn
        have HD := show Hid _ from hd
        have HN : Hid (nameOk s.data.toList.tail = false) := by show _ = false; simpa using hn
        have hlt : s.data.toList.tail.length ≤ s.size := by rw [← size_len s, List.length_tail]; omega
        clear hd hn h
        go_enter Tryz.func119, Tryz.ntmps119
        go_wp2_with (first | (go_at_call 82; refine (cut_miss s 47 _ HC.out).mono ?_; rintro e w' ⟨rfl, rfl⟩) | (go_at_call 150; refine (cutPrefix_yes s _ HD.out).mono ?_; rintro e w' ⟨rfl, rfl⟩))
        refine (readDomain_no ⟨s.data.toList.tail.toArray⟩ _ (by rw [mk_size]; omega) HN.out).mono ?_
        rintro e w2 ⟨⟨t, v, rfl⟩, hq⟩
        exact ⟨rfl, ⟨_, _, rfl⟩, hq⟩
      · rename_i hd
        split at h
        case isTrue => cases h
        rename_i hn
        have HD := show Hid _ from hd
        have HN : Hid (nameOk s.data.toList = false) := by show _ = false; simpa using hn
        clear hd hn h
        go_enter Tryz.func119, Tryz.ntmps119
        go_wp2_with (first | (go_at_call 82; refine (cut_miss s 47 _ HC.out).mono ?_; rintro e w' ⟨rfl, rfl⟩) | (go_at_call 150; refine (cutPrefix_no s _ HD.out).mono ?_; rintro e w' ⟨⟨v, rfl⟩, rfl⟩))
        refine (name_no s _ hs HN.out).mono ?_
        rintro e w2 ⟨⟨t, v, rfl⟩, hq⟩
        exact ⟨rfl, ⟨_, _, rfl⟩, hq⟩

set_option maxHeartbeats 400000 in
theorem fitsAllH (nm : List UInt8) (a b c d : Nat) (w : World) : Calls Tryz.prog 148 #[hostV nm a b c d] w fun e w' => e = .returned (.bool true) ∧ Q w w' := by
  unfold hostV str
  go_enter Tryz.func148, Tryz.ntmps148
  go_wp2
  go_ret
  exact ⟨rfl, by unfold Q; go_grown⟩

theorem str_eq (a b : List UInt8) : ((⟨a.toArray⟩ : ByteArray).toList == (⟨b.toArray⟩ : ByteArray).toList) = (a == b) := by
  rw [Lib.toList_data, Lib.toList_data]

set_option maxHeartbeats 400000 in
theorem host1 (nm o : List UInt8) (a b c d g : Nat) (w : World) (h : w.cell? ⟨g, 0, none⟩ = some (str o)) :
    Calls Tryz.prog 153 #[hostV nm a b c d, .pointer (some ⟨g, 0, none⟩)] w fun e w' => e = .returned (.bool (nm == o)) ∧ Q w w' := by
  have hg := Q.lt h
  unfold hostV
  unfold str at *
  go_enter Tryz.func153, Tryz.ntmps153
  go_wp2
  go_ret
  exact ⟨rfl, by unfold Q; go_grown⟩

theorem dot_str (o : List UInt8) : ((⟨#[46]⟩ : ByteArray) ++ (⟨o.toArray⟩ : ByteArray)).data.toList = 46 :: o := by
  rw [ByteArray.data_append, Array.toList_append]; rfl

set_option maxHeartbeats 400000 in
theorem domain1 (nm o : List UInt8) (a b c d g : Nat) (w : World) (hn : nm.length ≤ 4294967281) (ho : o.length ≤ 4294967281) (h : w.cell? ⟨g, 0, none⟩ = some (str o)) :
    Calls Tryz.prog 199 #[hostV nm a b c d, .pointer (some ⟨g, 0, none⟩)] w fun e w' => e = .returned (.bool (nm == o || Lib.hasSuffix nm (46 :: o))) ∧ Q w w' := by
  have hg := Q.lt h
  unfold hostV
  unfold str at *
  have hsz : (⟨nm.toArray⟩ : ByteArray).size ≤ 9223372036854775807 := by rw [mk_size]; omega
  cases he : (nm == o)
  · have he' : ((⟨nm.toArray⟩ : ByteArray).toList == (⟨o.toArray⟩ : ByteArray).toList) = false := by rw [str_eq]; exact he
    go_enter Tryz.func199, Tryz.ntmps199
    go_wp2_with fail
    refine (Tryz.strings_HasSuffix _ _ _ hsz).mono ?_
    rintro e w1 ⟨rfl, hw1⟩
    rw [hw1, dot_str]
    go_wp2_with fail
    go_ret
    exact ⟨by rw [Bool.false_or]; rfl, by unfold Q; go_grown⟩
  · have he' : ((⟨nm.toArray⟩ : ByteArray).toList == (⟨o.toArray⟩ : ByteArray).toList) = true := by rw [str_eq]; exact he
    go_enter Tryz.func199, Tryz.ntmps199
    go_wp2_with fail
    go_ret
    exact ⟨rfl, by unfold Q; go_grown⟩

set_option maxHeartbeats 400000 in
theorem isAddress_any (nm : List UInt8) (a b c d : Nat) (w : World) : Calls Tryz.prog 197 #[hostV nm a b c d] w fun e w' => e = .returned (.bool nm.isEmpty) ∧ Q w w' := by
  unfold hostV str
  go_enter Tryz.func197, Tryz.ntmps197
  go_wp2
  go_ret
  exact ⟨rfl, by unfold Q; go_grown⟩
end Go.Proofs.YtdmaffciijmdcaaGreatDoor
/-
  Package rules: what the function on addresses answers.
-/
namespace Go.Proofs.YtdmaffciijmdcaaGreatDoor
open Go.RowKit Plain

attribute [local go_sem] eq4

/-- The cells that the test reads: the host's, the rule's. -/
theorem net1_keep {W w w' : World} {h n b : Nat} {v0 v1 v2 v3 v4 u0 u1 u2 u3 k : Value}
    (hh : w.cell? ⟨h, 0, none⟩ = some v0 ∧ w.cell? ⟨h, 1, none⟩ = some v1 ∧ w.cell? ⟨h, 2, none⟩ = some v2 ∧ w.cell? ⟨h, 3, none⟩ = some v3 ∧ w.cell? ⟨h, 4, none⟩ = some v4 ∧
      w.cell? ⟨b, 0, none⟩ = some u0 ∧ w.cell? ⟨b, 1, none⟩ = some u1 ∧ w.cell? ⟨b, 2, none⟩ = some u2 ∧ w.cell? ⟨b, 3, none⟩ = some u3 ∧ w.cell? ⟨n, 0, none⟩ = some k ∧ Q W w) (q : Q w w') :
    w'.cell? ⟨h, 0, none⟩ = some v0 ∧ w'.cell? ⟨h, 1, none⟩ = some v1 ∧ w'.cell? ⟨h, 2, none⟩ = some v2 ∧ w'.cell? ⟨h, 3, none⟩ = some v3 ∧ w'.cell? ⟨h, 4, none⟩ = some v4 ∧
      w'.cell? ⟨b, 0, none⟩ = some u0 ∧ w'.cell? ⟨b, 1, none⟩ = some u1 ∧ w'.cell? ⟨b, 2, none⟩ = some u2 ∧ w'.cell? ⟨b, 3, none⟩ = some u3 ∧ w'.cell? ⟨n, 0, none⟩ = some k ∧ Q W w' := by
  obtain ⟨h0, h1, h2, h3, h4, h5, h6, h7, h8, h9, h10⟩ := hh
  exact ⟨q.cell h0, q.cell h1, q.cell h2, q.cell h3, q.cell h4, q.cell h5, q.cell h6, q.cell h7, q.cell h8, q.cell h9, h10.trans q⟩

theorem firstBits_eqb {n a b c d x0 x1 x2 x3 : Nat} : (((keep (min 8 n) a : Nat) : Int) == (x0 : Int) && ((keep (min 8 (n - 8)) b : Nat) : Int) == (x1 : Int) && ((keep (min 8 (n - 16)) c : Nat) : Int) == (x2 : Int) && ((keep (min 8 (n - 24)) d : Nat) : Int) == (x3 : Int)) = (firstN n [a, b, c, d] == [x0, x1, x2, x3]) := by
  rw [Bool.eq_iff_iff]
  unfold firstN
  simp
  omega

theorem isAddress_none (a b c d : Nat) (w : World) : Calls Tryz.prog 197 #[.agg #[.string ⟨#[]⟩, .int .u8 a, .int .u8 b, .int .u8 c, .int .u8 d]] w fun e w' => e = .returned (.bool true) ∧ Q w w' := isAddress_any [] a b c d w

set_option maxRecDepth 100000 in
set_option maxHeartbeats 800000 in
theorem net1_yes (a b c d n g x0 x1 x2 x3 m : Nat) (w : World) (ha : a ≤ 255) (hb : b ≤ 255) (hc : c ≤ 255) (hd : d ≤ 255) (hm : m ≤ 32)
    (cn : w.cell? ⟨n, 0, none⟩ = some (i64 m)) (c0 : w.cell? ⟨g, 0, none⟩ = some (u8 x0)) (c1 : w.cell? ⟨g, 1, none⟩ = some (u8 x1)) (c2 : w.cell? ⟨g, 2, none⟩ = some (u8 x2)) (c3 : w.cell? ⟨g, 3, none⟩ = some (u8 x3)) :
    Calls Tryz.prog 196 #[hostV [] a b c d, .pointer (some ⟨n, 0, none⟩), .pointer (some ⟨g, 0, none⟩)] w fun e w' => e = .returned (.bool (firstN m [a, b, c, d] == [x0, x1, x2, x3])) ∧ Q w w' := by
  have hn := Q.lt cn
  have hg := Q.lt c0
  have HE := show Hid _ from @firstBits_eqb m a b c d x0 x1 x2 x3
  generalize hk0 : keep (min 8 m) a = k0 at HE
  generalize hk1 : keep (min 8 (m - 8)) b = k1 at HE
  generalize hk2 : keep (min 8 (m - 16)) c = k2 at HE
  generalize hk3 : keep (min 8 (m - 24)) d = k3 at HE
  have HB : Hid (firstBits m a b c d = .agg #[u8 k0, u8 k1, u8 k2, u8 k3]) := by
    show _ = _
    unfold firstBits; rw [hk0, hk1, hk2, hk3]
  clear hk0 hk1 hk2 hk3
  unfold hostV str at *
  have hq0 : Q w (w.alloc (.cells #[.string ⟨#[]⟩, u8 a, u8 b, u8 c, u8 d] 211)) := (Q.refl w).alloc _
  go_enter Tryz.func196, Tryz.ntmps196
  go_wp2_with fail
  go_region_held3 (fun w' => w'.cell? ⟨w.heap.size, 0, none⟩ = some (.string ⟨#[]⟩) ∧ w'.cell? ⟨w.heap.size, 1, none⟩ = some (.int .u8 a) ∧ w'.cell? ⟨w.heap.size, 2, none⟩ = some (.int .u8 b) ∧ w'.cell? ⟨w.heap.size, 3, none⟩ = some (.int .u8 c) ∧ w'.cell? ⟨w.heap.size, 4, none⟩ = some (.int .u8 d) ∧
      w'.cell? ⟨g, 0, none⟩ = some (.int .u8 x0) ∧ w'.cell? ⟨g, 1, none⟩ = some (.int .u8 x1) ∧ w'.cell? ⟨g, 2, none⟩ = some (.int .u8 x2) ∧ w'.cell? ⟨g, 3, none⟩ = some (.int .u8 x3) ∧ w'.cell? ⟨n, 0, none⟩ = some (.int .i64 m) ∧ Q w w')
    (first | exact ⟨by simp [go_sem], by simp [go_sem], by simp [go_sem], by simp [go_sem], by simp [go_sem], hq0.cell c0, hq0.cell c1, hq0.cell c2, hq0.cell c3, hq0.cell cn, hq0.drew⟩ | exact net1_keep (by assumption) (by assumption) | assumption)
    (first | (go_at_call 197; refine (isAddress_none a b c d _).mono ?_; rintro e w' ⟨rfl, hq2⟩) | (go_at_call 195; refine (first_any a b c d m hm ha hb hc hd _).mono ?_; rintro e w' ⟨rfl, hq2⟩; rw [HB.out]))
  obtain ⟨_, _, _, _, _, _, _, _, _, _, hq⟩ := by assumption
  go_wp2_with fail
  go_ret
  exact ⟨ret_bool HE.out, hq⟩

theorem isAddress_some (nm : List UInt8) (a b c d : Nat) (w : World) (h : nm.isEmpty = false) : Calls Tryz.prog 197 #[.agg #[.string ⟨nm.toArray⟩, .int .u8 a, .int .u8 b, .int .u8 c, .int .u8 d]] w fun e w' => e = .returned (.bool false) ∧ Q w w' :=
  (isAddress_any nm a b c d w).mono fun _ _ ⟨he, hw⟩ => ⟨by rw [he, h], hw⟩

set_option maxRecDepth 100000 in
set_option maxHeartbeats 800000 in
theorem net1_no (nm : List UInt8) (a b c d n g : Nat) (w : World) (hnm : nm.isEmpty = false) :
    Calls Tryz.prog 196 #[hostV nm a b c d, .pointer (some ⟨n, 0, none⟩), .pointer (some ⟨g, 0, none⟩)] w fun e w' => e = .returned (.bool false) ∧ Q w w' := by
  have HN := show Hid _ from hnm
  clear hnm
  unfold hostV str at *
  go_enter Tryz.func196, Tryz.ntmps196
  go_wp2_with fail
  refine wp_region_held_drew (S := fun w' => w'.cell? ⟨w.heap.size, 0, none⟩ = some (.string ⟨nm.toArray⟩) ∧ w'.cell? ⟨w.heap.size, 1, none⟩ = some (.int .u8 a) ∧ w'.cell? ⟨w.heap.size, 2, none⟩ = some (.int .u8 b) ∧ w'.cell? ⟨w.heap.size, 3, none⟩ = some (.int .u8 c) ∧ w'.cell? ⟨w.heap.size, 4, none⟩ = some (.int .u8 d) ∧ Q w w') (by kernel_rfl)
    ⟨by simp [go_sem], by simp [go_sem], by simp [go_sem], by simp [go_sem], by simp [go_sem], ((Q.refl w).alloc _).drew⟩ (fun hHeld => ?_)
  refine wpAnyH_take (i := 0) (v := ?_) rfl (by kernel_rfl) (by kernel_rfl) (by kernel_rfl) (fun _ _ _ h => h) (Or.inl ⟨by rfl, ?_⟩) (by assumption) ?_
  rotate_left
  · (intro w hSw; (try dsimp only at hSw); go_simp; try with_reducible rfl)
  simp only [Act.put, List.getElem_toArray, List.getElem_cons_zero, List.setIfInBounds_toArray, List.set_cons_zero, List.set_cons_succ]
  refine wpAnyH_ready (rs := [1]) (by kernel_rfl) (by simp) ?_
  refine AllReadyH.cons rfl (fun K hK => ?_) AllReadyH.nil
  go_simp
  refine (isAddress_some nm a b c d _ HN.out).mono ?_
  rintro e w1 ⟨rfl, hq1⟩
  go_wp2_with fail
  refine hK.out _ _ (by obtain ⟨c0, c1, c2, c3, c4, q⟩ := hHeld; exact ⟨hq1.cell c0, hq1.cell c1, hq1.cell c2, hq1.cell c3, hq1.cell c4, q.trans hq1⟩) (fun hHeld2 => ?_)
  clear hK K hHeld
  refine wpAnyH_take (i := 2) (v := ?_) rfl (by kernel_rfl) (by kernel_rfl) (by kernel_rfl) (fun _ _ _ h => h) (Or.inl ⟨by rfl, ?_⟩) (by assumption) ?_
  rotate_left
  · (intro w hSw; (try dsimp only at hSw); go_simp; try with_reducible rfl)
  simp only [Act.put, List.getElem_toArray, List.getElem_cons_zero, List.getElem_cons_succ, List.setIfInBounds_toArray, List.set_cons_zero, List.set_cons_succ]
  refine wpAnyH_take (i := 3) (v := undef) rfl (by kernel_rfl) (by kernel_rfl) (by kernel_rfl) (fun _ _ _ h => h) (Or.inr ⟨by rfl, rfl⟩) (by assumption) ?_
  simp only [Act.put, List.getElem_toArray, List.getElem_cons_zero, List.getElem_cons_succ, List.setIfInBounds_toArray, List.set_cons_zero, List.set_cons_succ]
  refine wpAnyH_take (i := 4) (v := undef) rfl (by kernel_rfl) (by kernel_rfl) (by kernel_rfl) (fun _ _ _ h => h) (Or.inr ⟨by rfl, rfl⟩) (by assumption) ?_
  simp only [Act.put, List.getElem_toArray, List.getElem_cons_zero, List.getElem_cons_succ, List.setIfInBounds_toArray, List.set_cons_zero, List.set_cons_succ]
  refine wpAnyH_take (i := 5) (v := undef) rfl (by kernel_rfl) (by kernel_rfl) (by kernel_rfl) (fun _ _ _ h => h) (Or.inr ⟨by rfl, rfl⟩) (by assumption) ?_
  simp only [Act.put, List.getElem_toArray, List.getElem_cons_zero, List.getElem_cons_succ, List.setIfInBounds_toArray, List.set_cons_zero, List.set_cons_succ]
  refine wpAnyH_take (i := 6) (v := undef) rfl (by kernel_rfl) (by kernel_rfl) (by kernel_rfl) (fun _ _ _ h => h) (Or.inr ⟨by rfl, rfl⟩) (by assumption) ?_
  simp only [Act.put, List.getElem_toArray, List.getElem_cons_zero, List.getElem_cons_succ, List.setIfInBounds_toArray, List.set_cons_zero, List.set_cons_succ]
  refine wpAnyH_take (i := 7) (v := undef) rfl (by kernel_rfl) (by kernel_rfl) (by kernel_rfl) (fun _ _ _ h => h) (Or.inr ⟨by rfl, rfl⟩) (by assumption) ?_
  simp only [Act.put, List.getElem_toArray, List.getElem_cons_zero, List.getElem_cons_succ, List.setIfInBounds_toArray, List.set_cons_zero, List.set_cons_succ]
  refine wpAnyH_take (i := 8) (v := undef) rfl (by kernel_rfl) (by kernel_rfl) (by kernel_rfl) (fun _ _ _ h => h) (Or.inr ⟨by rfl, rfl⟩) (by assumption) ?_
  simp only [Act.put, List.getElem_toArray, List.getElem_cons_zero, List.getElem_cons_succ, List.setIfInBounds_toArray, List.set_cons_zero, List.set_cons_succ]
  refine wpAnyH_take (i := 9) (v := ?_) rfl (by kernel_rfl) (by kernel_rfl) (by kernel_rfl) (fun _ _ _ h => h) (Or.inl ⟨by rfl, ?_⟩) (by assumption) ?_
  rotate_left
  · (intro w hSw; (try dsimp only at hSw); go_simp; try with_reducible rfl)
  simp only [Act.put, List.getElem_toArray, List.getElem_cons_zero, List.getElem_cons_succ, List.setIfInBounds_toArray, List.set_cons_zero, List.set_cons_succ]
  refine wpAnyH_take (i := 10) (v := ?_) rfl (by kernel_rfl) (by kernel_rfl) (by kernel_rfl) (fun _ _ _ h => h) (Or.inl ⟨by rfl, ?_⟩) (by assumption) ?_
  rotate_left
  · (intro w hSw; (try dsimp only at hSw); go_simp; try with_reducible rfl)
  simp only [Act.put, List.getElem_toArray, List.getElem_cons_zero, List.getElem_cons_succ, List.setIfInBounds_toArray, List.set_cons_zero, List.set_cons_succ]
  refine wpAnyH_done (by kernel_rfl) ?_ _
  go_wp2_with fail
  go_ret
  exact ⟨rfl, hHeld2.2.2.2.2.2⟩
end Go.Proofs.YtdmaffciijmdcaaGreatDoor

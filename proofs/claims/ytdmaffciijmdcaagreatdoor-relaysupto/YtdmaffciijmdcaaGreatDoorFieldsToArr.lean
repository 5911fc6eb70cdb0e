/-
  Package rules: the readers of a rule's fields, and what the functions that they hand back answer.
-/
import Derived.Test.YtdmaffciijmdcaaGreatDoorFirstToRuleS
namespace Go.Proofs.YtdmaffciijmdcaaGreatDoor
open Go.RowKit Plain

/-- A variable that a function value holds: block b, of those that S says. -/
def TenRep (S : Nat → Prop) (w : World) (v : Value) (t : Option (List UInt8)) : Prop :=
  (t = none ∧ v = .func (.func 146) #[] #[]) ∨
  ∃ b o, t = some o ∧ v = .func (.func 147) #[] #[.pointer (some ⟨b, 0, none⟩)] ∧ w.cell? ⟨b, 0, none⟩ = some (str o) ∧ S b

/-- Of the blocks that S says nothing turns. -/
def Keeps (S S' : Nat → Prop) (w w' : World) : Prop := ∀ b, S b → S' b ∧ ∀ o, w'.cell? ⟨b, o, none⟩ = w.cell? ⟨b, o, none⟩

theorem TenRep.keeps {S S' : Nat → Prop} {w w' : World} {v : Value} {t : Option (List UInt8)} (h : TenRep S w v t) (k : Keeps S S' w w') : TenRep S' w' v t := by
  rcases h with h | ⟨b, o, h1, h2, h3, h4⟩
  · exact .inl h
  · exact .inr ⟨b, o, h1, h2, by rw [(k b h4).2]; exact h3, (k b h4).1⟩

/-- New blocks alone. -/
def New (w w' : World) (b : Nat) : Prop := w.heap.size ≤ b ∧ b < w'.heap.size

theorem eq_star {s : ByteArray} : (s.toList == [42]) = decide (s.data.toList = [42]) := by
  rw [Lib.toList_data, Bool.eq_iff_iff]; simp

set_option maxHeartbeats 400000 in
theorem fitsAllS (s : ByteArray) (w : World) : Calls Tryz.prog 146 #[.string s] w fun e w' => e = .returned (.bool true) ∧ w' = w := by
  go_enter Tryz.func146, Tryz.ntmps146
  go_wp2
  go_ret
  exact ⟨rfl, rfl⟩

set_option maxHeartbeats 400000 in
theorem ten1 (s o : ByteArray) (b : Nat) (w : World) (h : w.cell? ⟨b, 0, none⟩ = some (.string o)) :
    Calls Tryz.prog 147 #[.string s, .pointer (some ⟨b, 0, none⟩)] w fun e w' => e = .returned (.bool (s.toList == o.toList)) ∧ w' = w := by
  go_enter Tryz.func147, Tryz.ntmps147
  go_wp2
  go_ret
  exact ⟨rfl, rfl⟩

set_option maxHeartbeats 400000 in
theorem readTenant_yes (s : ByteArray) (w : World) (t : Option (List UInt8)) (h : readTen s.data.toList = some t) :
    Calls Tryz.prog 118 #[.string s] w fun e w' => ∃ v, e = .returned v ∧ Q w w' ∧ TenRep (New w w') w' v t := by
  unfold readTen at h
  split at h
  · rename_i hst
    cases h
    have h42 : (s.toList == [42]) = true := by rw [eq_star]; exact decide_eq_true hst
    clear hst
    go_enter Tryz.func118, Tryz.ntmps118
    go_wp2
    go_ret
    exact ⟨_, rfl, Q.refl _, .inl ⟨rfl, rfl⟩⟩
  · rename_i hst
    split at h
    case isFalse => cases h
    rename_i hok
    cases h
    have h42 : (s.toList == [42]) = false := by rw [eq_star]; exact decide_eq_false hst
    have hsz : s.size ≤ 8 := by
      unfold tenantOk at hok
      rw [Bool.and_eq_true, decide_eq_true_eq, size_len] at hok
      exact hok.1.2
    have HO := show Hid _ from hok
    clear hst hok
    have hmf : ∀ (fn : Fn) (first cap : Array Value) (w : World), (Instr.makeFunc fn first cap).run Tryz.prog w = .ok (.func fn first cap) w := fun _ _ _ _ => rfl
    go_enter Tryz.func118, Tryz.ntmps118
    go_wp2_with (first | (go_at_call 122; refine (tenant_yes _ _ HO.out).mono ?_; rintro e w' ⟨rfl, rfl⟩) | (go_at_call 92; refine (clone_any s _ (by omega)).mono ?_; rintro e w' ⟨rfl, hq⟩))
    go_ret
    refine ⟨_, rfl, hq.alloc _, .inr ⟨_, _, rfl, rfl, ?_, ?_⟩⟩
    · simp [go_sem, str]
    · exact ⟨hq.size, by simp⟩

set_option maxHeartbeats 400000 in
theorem readTenant_no (s : ByteArray) (w : World) (h : readTen s.data.toList = none) :
    Calls Tryz.prog 118 #[.string s] w fun e w' => Dies e ∧ Q w w' := by
  unfold readTen at h
  split at h
  · cases h
  · rename_i hst
    split at h
    · cases h
    · rename_i hok
      have h42 : (s.toList == [42]) = false := by rw [eq_star]; exact decide_eq_false hst
      have HO : Hid (tenantOk s.data.toList = false) := by show _ = false; simpa using hok
      clear hst hok h
      go_enter Tryz.func118, Tryz.ntmps118
      go_wp2_with (first | (go_at_call 122; refine (tenant_no _ _ HO.out).mono ?_; rintro e w' ⟨⟨t, v, rfl⟩, rfl⟩))
      exact ⟨rfl, ⟨_, _, rfl⟩, Q.refl _⟩

theorem eq_allow {s : ByteArray} : (s.toList == [97, 108, 108, 111, 119]) = decide (s.data.toList = [97, 108, 108, 111, 119]) := by
  rw [Lib.toList_data, Bool.eq_iff_iff]; simp
theorem eq_deny {s : ByteArray} : (s.toList == [100, 101, 110, 121]) = decide (s.data.toList = [100, 101, 110, 121]) := by
  rw [Lib.toList_data, Bool.eq_iff_iff]; simp

set_option maxHeartbeats 400000 in
theorem readVerdict_yes (s : ByteArray) (w : World) (b : Bool) (h : readVerd s.data.toList = some b) :
    Calls Tryz.prog 117 #[.string s] w fun e w' => e = .returned (.bool b) ∧ w' = w := by
  unfold readVerd at h
  by_cases ha : s.data.toList = [97, 108, 108, 111, 119]
  · rw [if_pos ha] at h
    cases h
    have h1 : (s.toList == [97, 108, 108, 111, 119]) = true := by rw [eq_allow]; exact decide_eq_true ha
    clear ha
    go_enter Tryz.func117, Tryz.ntmps117
    go_wp2_with (first | (go_at_call 88; refine (must_yes _ _).mono ?_; rintro e w' ⟨rfl, rfl⟩))
    go_ret
    exact ⟨rfl, rfl⟩
  · rw [if_neg ha] at h
    by_cases hd : s.data.toList = [100, 101, 110, 121]
    · rw [if_pos hd] at h
      cases h
      have h1 : (s.toList == [97, 108, 108, 111, 119]) = false := by rw [eq_allow]; exact decide_eq_false ha
      have h2 : (s.toList == [100, 101, 110, 121]) = true := by rw [eq_deny]; exact decide_eq_true hd
      clear ha hd
      go_enter Tryz.func117, Tryz.ntmps117
      go_wp2_with (first | (go_at_call 88; refine (must_yes _ _).mono ?_; rintro e w' ⟨rfl, rfl⟩))
      go_ret
      exact ⟨rfl, rfl⟩
    · rw [if_neg hd] at h; cases h

set_option maxHeartbeats 400000 in
theorem readVerdict_no (s : ByteArray) (w : World) (h : readVerd s.data.toList = none) :
    Calls Tryz.prog 117 #[.string s] w fun e w' => Dies e ∧ w' = w := by
  unfold readVerd at h
  by_cases ha : s.data.toList = [97, 108, 108, 111, 119]
  · rw [if_pos ha] at h; cases h
  · by_cases hd : s.data.toList = [100, 101, 110, 121]
    · rw [if_neg ha, if_pos hd] at h; cases h
    · have h1 : (s.toList == [97, 108, 108, 111, 119]) = false := by rw [eq_allow]; exact decide_eq_false ha
      have h2 : (s.toList == [100, 101, 110, 121]) = false := by rw [eq_deny]; exact decide_eq_false hd
      clear ha hd h
      go_enter Tryz.func117, Tryz.ntmps117
      go_wp2_with (first | (go_at_call 88; refine (must_no _ _).mono ?_; rintro e w' ⟨⟨t, v, rfl⟩, rfl⟩))
      exact ⟨rfl, ⟨_, _, rfl⟩, rfl⟩
end Go.Proofs.YtdmaffciijmdcaaGreatDoor
/-
  Package rules: readSpan, readPort, readMinute, and what the functions that they hand back answer.
-/
namespace Go.Proofs.YtdmaffciijmdcaaGreatDoor
open Go.RowKit Plain

abbrev i64 (n : Nat) : Value := .int .i64 (n : Int)

def PortRep (S : Nat → Prop) (w : World) (v : Value) (t : Option (Nat × Nat)) : Prop :=
  (t = none ∧ v = .func (.func 154) #[] #[]) ∨
  (∃ b x, t = some (x, x) ∧ v = .func (.func 157) #[] #[.pointer (some ⟨b, 0, none⟩)] ∧ w.cell? ⟨b, 0, none⟩ = some (i64 x) ∧ S b) ∨
  (∃ b c x y, t = some (x, y) ∧ v = .func (.func 159) #[] #[.pointer (some ⟨b, 0, none⟩), .pointer (some ⟨c, 0, none⟩)] ∧ w.cell? ⟨b, 0, none⟩ = some (i64 x) ∧ w.cell? ⟨c, 0, none⟩ = some (i64 y) ∧ S b ∧ S c)

def MinRep (S : Nat → Prop) (w : World) (v : Value) (t : Option (Nat × Nat)) : Prop :=
  (t = none ∧ v = .func (.func 154) #[] #[]) ∨
  (∃ b c x y, t = some (x, y) ∧ y < x ∧ v = .func (.func 160) #[] #[.pointer (some ⟨b, 0, none⟩), .pointer (some ⟨c, 0, none⟩)] ∧ w.cell? ⟨b, 0, none⟩ = some (i64 x) ∧ w.cell? ⟨c, 0, none⟩ = some (i64 y) ∧ S b ∧ S c) ∨
  (∃ b c x y, t = some (x, y) ∧ ¬ y < x ∧ v = .func (.func 161) #[] #[.pointer (some ⟨b, 0, none⟩), .pointer (some ⟨c, 0, none⟩)] ∧ w.cell? ⟨b, 0, none⟩ = some (i64 x) ∧ w.cell? ⟨c, 0, none⟩ = some (i64 y) ∧ S b ∧ S c)

theorem PortRep.keeps {S S' : Nat → Prop} {w w' : World} {v : Value} {t : Option (Nat × Nat)} (h : PortRep S w v t) (k : Keeps S S' w w') : PortRep S' w' v t := by
  rcases h with h | ⟨b, x, h1, h2, h3, h4⟩ | ⟨b, c, x, y, h1, h2, h3, h4, h5, h6⟩
  · exact .inl h
  · exact .inr (.inl ⟨b, x, h1, h2, by rw [(k b h4).2]; exact h3, (k b h4).1⟩)
  · exact .inr (.inr ⟨b, c, x, y, h1, h2, by rw [(k b h5).2]; exact h3, by rw [(k c h6).2]; exact h4, (k b h5).1, (k c h6).1⟩)
theorem MinRep.keeps {S S' : Nat → Prop} {w w' : World} {v : Value} {t : Option (Nat × Nat)} (h : MinRep S w v t) (k : Keeps S S' w w') : MinRep S' w' v t := by
  rcases h with h | ⟨b, c, x, y, h1, h0, h2, h3, h4, h5, h6⟩ | ⟨b, c, x, y, h1, h0, h2, h3, h4, h5, h6⟩
  · exact .inl h
  · exact .inr (.inl ⟨b, c, x, y, h1, h0, h2, by rw [(k b h5).2]; exact h3, by rw [(k c h6).2]; exact h4, (k b h5).1, (k c h6).1⟩)
  · exact .inr (.inr ⟨b, c, x, y, h1, h0, h2, by rw [(k b h5).2]; exact h3, by rw [(k c h6).2]; exact h4, (k b h5).1, (k c h6).1⟩)

theorem span_some {l : List UInt8} {hi : Nat} {r : Nat × Nat} (h : span l hi = some r) : ∃ a b, cutAt 45 l = some (a, b) ∧ number a hi = some r.1 ∧ number b hi = some r.2 := by
  unfold span at h
  cases hc : cutAt 45 l with
  | none => rw [hc] at h; cases h
  | some p =>
    obtain ⟨a, b⟩ := p
    rw [hc] at h
    simp only at h
    cases ha : number a hi with
    | none => rw [ha] at h; cases h
    | some x =>
      rw [ha] at h
      cases hb : number b hi with
      | none => rw [hb] at h; cases h
      | some y => rw [hb] at h; cases h; exact ⟨a, b, rfl, ha, hb⟩
theorem span_none {l : List UInt8} {hi : Nat} (h : span l hi = none) : cutAt 45 l = none ∨ ∃ a b, cutAt 45 l = some (a, b) ∧ (number a hi = none ∨ ∃ x, number a hi = some x ∧ number b hi = none) := by
  unfold span at h
  cases hc : cutAt 45 l with
  | none => exact .inl rfl
  | some p =>
    obtain ⟨a, b⟩ := p
    rw [hc] at h
    simp only at h
    refine .inr ⟨a, b, rfl, ?_⟩
    cases ha : number a hi with
    | none => exact .inl rfl
    | some x =>
      rw [ha] at h
      cases hb : number b hi with
      | none => exact .inr ⟨x, rfl, rfl⟩
      | some y => rw [hb] at h; cases h

theorem cut_le {c : UInt8} {l a r : List UInt8} (h : cutAt c l = some (a, r)) : a.length ≤ l.length ∧ r.length ≤ l.length := by
  rw [(cutAt_some.1 h).1]; simp; omega

theorem num_yes (l : List UInt8) (hi : Nat) (w : World) (hs : l.length ≤ 4294967281) (hhi : hi ≤ 65535) (n : Nat) (h : number l hi = some n) :
    Calls Tryz.prog 194 #[str l, .int .i64 hi] w fun e w' => e = .returned (i64 n) ∧ w' = w :=
  number_yes ⟨l.toArray⟩ hi w (by rw [mk_size]; unfold maxLen; omega) hhi n h
theorem num_no (l : List UInt8) (hi : Nat) (w : World) (hs : l.length ≤ 4294967281) (hhi : hi ≤ 65535) (h : number l hi = none) :
    Calls Tryz.prog 194 #[str l, .int .i64 hi] w fun e w' => Dies e ∧ w' = w :=
  number_no ⟨l.toArray⟩ hi w (by rw [mk_size]; unfold maxLen; omega) hhi h

set_option maxHeartbeats 400000 in
theorem readSpan_yes (s : ByteArray) (hi : Nat) (hhi : hi ≤ 65535) (w : World) (hs : s.size ≤ 4294967281) (r : Nat × Nat) (h : span s.data.toList hi = some r) :
    Calls Tryz.prog 158 #[.string s, .int .i64 hi] w fun e w' => e = .returned (.tuple #[i64 r.1, i64 r.2]) ∧ Q w w' := by
  obtain ⟨a, b, hc, ha, hb⟩ := span_some h
  have hl := cut_le hc
  rw [size_len] at hl
  obtain ⟨hl1, hl2⟩ := hl
  have HC := show Hid _ from hc
  have HA := show Hid _ from ha
  have HB := show Hid _ from hb
  clear h hc ha hb
  go_enter Tryz.func158, Tryz.ntmps158
  go_wp2_with fail
  refine (cut_hit s 45 a b _ (by unfold maxLen; omega) HC.out).mono ?_
  rintro e w1 ⟨rfl, hw1⟩
  rw [hw1]
  go_wp2_with (first | (go_at_call 88; refine (must_yes _ _).mono ?_; rintro e w' ⟨rfl, rfl⟩))
  refine (num_yes a hi _ (by omega) hhi r.1 HA.out).mono ?_
  rintro e w2 ⟨rfl, hw2⟩
  rw [hw2]
  go_wp2_with fail
  refine (num_yes b hi _ (by omega) hhi r.2 HB.out).mono ?_
  rintro e w3 ⟨rfl, hw3⟩
  rw [hw3]
  go_wp2_with fail
  go_ret2
  exact ⟨rfl, (Q.refl _).drew⟩

set_option maxHeartbeats 400000 in
theorem readSpan_no (s : ByteArray) (hi : Nat) (hhi : hi ≤ 65535) (w : World) (hs : s.size ≤ 4294967281) (h : span s.data.toList hi = none) :
    Calls Tryz.prog 158 #[.string s, .int .i64 hi] w fun e w' => Dies e ∧ Q w w' := by
  rcases span_none h with hc | ⟨a, b, hc, hx⟩
  · have HC := show Hid _ from hc
    clear h hc
    go_enter Tryz.func158, Tryz.ntmps158
    go_wp2_with (first | (go_at_call 82; refine (cut_miss s 45 _ HC.out).mono ?_; rintro e w' ⟨rfl, rfl⟩) | (go_at_call 88; refine (must_no _ _).mono ?_; rintro e w' ⟨⟨t, v, rfl⟩, rfl⟩))
    exact ⟨rfl, ⟨_, _, rfl⟩, Q.refl _⟩
  · have hl := cut_le hc
    rw [size_len] at hl
    obtain ⟨hl1, hl2⟩ := hl
    have HC := show Hid _ from hc
    clear h hc
    rcases hx with ha | ⟨x, ha, hb⟩
    · have HA := show Hid _ from ha
      clear ha
      go_enter Tryz.func158, Tryz.ntmps158
      go_wp2_with fail
      refine (cut_hit s 45 a b _ (by unfold maxLen; omega) HC.out).mono ?_
      rintro e w1 ⟨rfl, hw1⟩
      rw [hw1]
      go_wp2_with (first | (go_at_call 88; refine (must_yes _ _).mono ?_; rintro e w' ⟨rfl, rfl⟩))
      refine (num_no a hi _ (by omega) hhi HA.out).mono ?_
      rintro e w2 ⟨⟨t, v, rfl⟩, hw2⟩
      rw [hw2]
      exact ⟨rfl, ⟨_, _, rfl⟩, (Q.refl _).drew⟩
    · have HA := show Hid _ from ha
      have HB := show Hid _ from hb
      clear ha hb
      go_enter Tryz.func158, Tryz.ntmps158
      go_wp2_with fail
      refine (cut_hit s 45 a b _ (by unfold maxLen; omega) HC.out).mono ?_
      rintro e w1 ⟨rfl, hw1⟩
      rw [hw1]
      go_wp2_with (first | (go_at_call 88; refine (must_yes _ _).mono ?_; rintro e w' ⟨rfl, rfl⟩))
      refine (num_yes a hi _ (by omega) hhi x HA.out).mono ?_
      rintro e w2 ⟨rfl, hw2⟩
      rw [hw2]
      go_wp2_with fail
      refine (num_no b hi _ (by omega) hhi HB.out).mono ?_
      rintro e w3 ⟨⟨t, v, rfl⟩, hw3⟩
      rw [hw3]
      exact ⟨rfl, ⟨_, _, rfl⟩, (Q.refl _).drew⟩

theorem span_lit (s : ByteArray) (w : World) (hs : s.size ≤ 4294967281) (r : Nat × Nat) (h : span s.data.toList 65535 = some r) :
    Calls Tryz.prog 158 #[.string s, .int .i64 65535] w fun e w' => e = .returned (.tuple #[i64 r.1, i64 r.2]) ∧ Q w w' := readSpan_yes s 65535 (by decide) w hs r h
theorem span_lit_no (s : ByteArray) (w : World) (hs : s.size ≤ 4294967281) (h : span s.data.toList 65535 = none) :
    Calls Tryz.prog 158 #[.string s, .int .i64 65535] w fun e w' => Dies e ∧ Q w w' := readSpan_no s 65535 (by decide) w hs h
theorem span_min (s : ByteArray) (w : World) (hs : s.size ≤ 4294967281) (r : Nat × Nat) (h : span s.data.toList 10079 = some r) :
    Calls Tryz.prog 158 #[.string s, .int .i64 10079] w fun e w' => e = .returned (.tuple #[i64 r.1, i64 r.2]) ∧ Q w w' := readSpan_yes s 10079 (by decide) w hs r h
theorem span_min_no (s : ByteArray) (w : World) (hs : s.size ≤ 4294967281) (h : span s.data.toList 10079 = none) :
    Calls Tryz.prog 158 #[.string s, .int .i64 10079] w fun e w' => Dies e ∧ Q w w' := readSpan_no s 10079 (by decide) w hs h
theorem num_port (s : ByteArray) (w : World) (hs : s.size ≤ 4294967281) (n : Nat) (h : number s.data.toList 65535 = some n) :
    Calls Tryz.prog 156 #[.string s] w fun e w' => e = .returned (i64 n) ∧ w' = w :=
  port_yes s w (by unfold maxLen; omega) n h
theorem num_port_no (s : ByteArray) (w : World) (hs : s.size ≤ 4294967281) (h : number s.data.toList 65535 = none) :
    Calls Tryz.prog 156 #[.string s] w fun e w' => Dies e ∧ w' = w :=
  port_no s w (by unfold maxLen; omega) h

set_option maxHeartbeats 400000 in
theorem readPort_yes (s : ByteArray) (w : World) (hs : s.size ≤ 4294967281) (t : Option (Nat × Nat)) (h : readPortP s.data.toList = some t) :
    Calls Tryz.prog 120 #[.string s] w fun e w' => ∃ v, e = .returned v ∧ Q w w' ∧ PortRep (New w w') w' v t := by
  have hmf : ∀ (fn : Fn) (first cap : Array Value) (w : World), (Instr.makeFunc fn first cap).run Tryz.prog w = .ok (.func fn first cap) w := fun _ _ _ _ => rfl
  unfold readPortP at h
  split at h
  · rename_i hst
    cases h
    have h42 : (s.toList == [42]) = true := by rw [eq_star]; exact decide_eq_true hst
    clear hst
    go_enter Tryz.func120, Tryz.ntmps120
    go_wp2
    go_ret
    exact ⟨_, rfl, Q.refl _, .inl ⟨rfl, rfl⟩⟩
  · rename_i hst
    have h42 : (s.toList == [42]) = false := by rw [eq_star]; exact decide_eq_false hst
    clear hst
    cases hc : cutAt 45 s.data.toList with
    | none =>
      rw [hc] at h
      simp only at h
      cases hn : number s.data.toList 65535 with
      | none => rw [hn] at h; cases h
      | some n =>
        rw [hn] at h
        cases h
        have HC := show Hid _ from hc
        have HN := show Hid _ from hn
        clear hc hn
        go_enter Tryz.func120, Tryz.ntmps120
        go_wp2_with (first | (go_at_call 155; refine (contains_one s 45 _).mono ?_; rintro e w' ⟨rfl, rfl⟩; rw [HC.out]; simp only [Option.isSome]) | (go_at_call 156; refine (num_port s _ hs n HN.out).mono ?_; rintro e w' ⟨rfl, rfl⟩))
        go_ret
        refine ⟨_, rfl, (Q.refl _).alloc _, .inr (.inl ⟨_, n, rfl, rfl, ?_, Nat.le_refl _, ?_⟩)⟩ <;> simp [go_sem]
    | some p =>
      rw [hc] at h
      simp only at h
      cases hn : span s.data.toList 65535 with
      | none => rw [hn] at h; cases h
      | some r =>
        obtain ⟨x, y⟩ := r
        rw [hn] at h
        simp only at h
        split at h
        case isFalse => cases h
        rename_i hxy
        cases h
        have HC := show Hid _ from hc
        have HN := show Hid _ from hn
        have d1 : decide ((x : Int) ≤ (y : Int)) = true := decide_eq_true (by omega)
        clear hc hn
        go_enter Tryz.func120, Tryz.ntmps120
        go_wp2_with (first | (go_at_call 155; refine (contains_one s 45 _).mono ?_; rintro e w' ⟨rfl, rfl⟩; rw [HC.out]; simp only [Option.isSome]) | (go_at_call 158; refine (span_lit s _ hs (x, y) HN.out).mono ?_; rintro e w' ⟨rfl, hq⟩) | (go_at_call_of 88 (Value.bool true); refine (must_yes _ _).mono ?_; rintro e w' ⟨rfl, rfl⟩))
        go_ret
        have hz := hq.size
        refine ⟨_, rfl, (hq.alloc _).alloc _, .inr (.inr ⟨_, _, x, y, rfl, rfl, ?_, ?_, ⟨?_, ?_⟩, ⟨?_, ?_⟩⟩)⟩
        all_goals first | omega | (simp [go_sem]; done) | (simp; omega)

set_option maxHeartbeats 400000 in
theorem readPort_no (s : ByteArray) (w : World) (hs : s.size ≤ 4294967281) (h : readPortP s.data.toList = none) :
    Calls Tryz.prog 120 #[.string s] w fun e w' => Dies e ∧ Q w w' := by
  unfold readPortP at h
  split at h
  · cases h
  · rename_i hst
    have h42 : (s.toList == [42]) = false := by rw [eq_star]; exact decide_eq_false hst
    clear hst
    cases hc : cutAt 45 s.data.toList with
    | none =>
      rw [hc] at h
      simp only at h
      cases hn : number s.data.toList 65535 with
      | some n => rw [hn] at h; cases h
      | none =>
        have HC := show Hid _ from hc
        have HN := show Hid _ from hn
        clear hc hn h
        go_enter Tryz.func120, Tryz.ntmps120
        go_wp2_with (first | (go_at_call 155; refine (contains_one s 45 _).mono ?_; rintro e w' ⟨rfl, rfl⟩; rw [HC.out]; simp only [Option.isSome]) | (go_at_call 156; refine (num_port_no s _ hs HN.out).mono ?_; rintro e w' ⟨⟨t, v, rfl⟩, rfl⟩))
        exact ⟨rfl, ⟨_, _, rfl⟩, Q.refl _⟩
    | some p =>
      rw [hc] at h
      simp only at h
      cases hn : span s.data.toList 65535 with
      | none =>
        have HC := show Hid _ from hc
        have HN := show Hid _ from hn
        clear hc hn h
        go_enter Tryz.func120, Tryz.ntmps120
        go_wp2_with (first | (go_at_call 155; refine (contains_one s 45 _).mono ?_; rintro e w' ⟨rfl, rfl⟩; rw [HC.out]; simp only [Option.isSome]) | (go_at_call 158; refine (span_lit_no s _ hs HN.out).mono ?_; rintro e w' ⟨⟨t, v, rfl⟩, hq⟩))
        exact ⟨rfl, ⟨_, _, rfl⟩, hq⟩
      | some r =>
        obtain ⟨x, y⟩ := r
        rw [hn] at h
        simp only at h
        split at h
        case isTrue => cases h
        rename_i hxy
        have HC := show Hid _ from hc
        have HN := show Hid _ from hn
        have d1 : decide ((x : Int) ≤ (y : Int)) = false := decide_eq_false (by omega)
        clear hc hn h
        go_enter Tryz.func120, Tryz.ntmps120
        go_wp2_with (first | (go_at_call 155; refine (contains_one s 45 _).mono ?_; rintro e w' ⟨rfl, rfl⟩; rw [HC.out]; simp only [Option.isSome]) | (go_at_call 158; refine (span_lit s _ hs (x, y) HN.out).mono ?_; rintro e w' ⟨rfl, hq⟩) | (go_at_call_of 88 (Value.bool false); refine (must_no _ _).mono ?_; rintro e w' ⟨⟨t, v, rfl⟩, rfl⟩))
        exact ⟨rfl, ⟨_, _, rfl⟩, (hq.alloc _).alloc _⟩

set_option maxHeartbeats 400000 in
theorem readMinute_yes (s : ByteArray) (w : World) (hs : s.size ≤ 4294967281) (t : Option (Nat × Nat)) (h : readMinP s.data.toList = some t) :
    Calls Tryz.prog 121 #[.string s] w fun e w' => ∃ v, e = .returned v ∧ Q w w' ∧ MinRep (New w w') w' v t := by
  have hmf : ∀ (fn : Fn) (first cap : Array Value) (w : World), (Instr.makeFunc fn first cap).run Tryz.prog w = .ok (.func fn first cap) w := fun _ _ _ _ => rfl
  unfold readMinP at h
  split at h
  · rename_i hst
    cases h
    have h42 : (s.toList == [42]) = true := by rw [eq_star]; exact decide_eq_true hst
    clear hst
    go_enter Tryz.func121, Tryz.ntmps121
    go_wp2
    go_ret
    exact ⟨_, rfl, Q.refl _, .inl ⟨rfl, rfl⟩⟩
  · rename_i hst
    have h42 : (s.toList == [42]) = false := by rw [eq_star]; exact decide_eq_false hst
    clear hst
    cases hn : span s.data.toList 10079 with
    | none => rw [hn] at h; cases h
    | some r =>
      obtain ⟨x, y⟩ := r
      rw [hn] at h
      cases h
      have HN := show Hid _ from hn
      clear hn
      by_cases hxy : y < x
      · have d1 : decide ((y : Int) < (x : Int)) = true := decide_eq_true (by omega)
        go_enter Tryz.func121, Tryz.ntmps121
        go_wp2_with (first | (go_at_call 158; refine (span_min s _ hs (x, y) HN.out).mono ?_; rintro e w' ⟨rfl, hq⟩))
        go_ret
        have hz := hq.size
        refine ⟨_, rfl, (hq.alloc _).alloc _, .inr (.inl ⟨_, _, x, y, rfl, hxy, rfl, ?_, ?_, ⟨?_, ?_⟩, ⟨?_, ?_⟩⟩)⟩
        all_goals first | omega | (simp [go_sem]; done) | (simp; omega)
      · have d1 : decide ((y : Int) < (x : Int)) = false := decide_eq_false (by omega)
        go_enter Tryz.func121, Tryz.ntmps121
        go_wp2_with (first | (go_at_call 158; refine (span_min s _ hs (x, y) HN.out).mono ?_; rintro e w' ⟨rfl, hq⟩))
        go_ret
        have hz := hq.size
        refine ⟨_, rfl, (hq.alloc _).alloc _, .inr (.inr ⟨_, _, x, y, rfl, hxy, rfl, ?_, ?_, ⟨?_, ?_⟩, ⟨?_, ?_⟩⟩)⟩
        all_goals first | omega | (simp [go_sem]; done) | (simp; omega)

set_option maxHeartbeats 400000 in
theorem readMinute_no (s : ByteArray) (w : World) (hs : s.size ≤ 4294967281) (h : readMinP s.data.toList = none) :
    Calls Tryz.prog 121 #[.string s] w fun e w' => Dies e ∧ Q w w' := by
  unfold readMinP at h
  split at h
  · cases h
  · rename_i hst
    have h42 : (s.toList == [42]) = false := by rw [eq_star]; exact decide_eq_false hst
    clear hst
    cases hn : span s.data.toList 10079 with
    | some r => rw [hn] at h; cases h
    | none =>
      have HN := show Hid _ from hn
      clear hn h
      go_enter Tryz.func121, Tryz.ntmps121
      go_wp2_with (first | (go_at_call 158; refine (span_min_no s _ hs HN.out).mono ?_; rintro e w' ⟨⟨t, v, rfl⟩, hq⟩))
      exact ⟨rfl, ⟨_, _, rfl⟩, hq⟩

set_option maxHeartbeats 400000 in
theorem fitsAllI (n : Int) (w : World) : Calls Tryz.prog 154 #[.int .i64 n] w fun e w' => e = .returned (.bool true) ∧ w' = w := by
  go_enter Tryz.func154, Tryz.ntmps154
  go_wp2
  go_ret
  exact ⟨rfl, rfl⟩

set_option maxHeartbeats 400000 in
theorem port1 (n : Int) (x b : Nat) (w : World) (h : w.cell? ⟨b, 0, none⟩ = some (i64 x)) :
    Calls Tryz.prog 157 #[.int .i64 n, .pointer (some ⟨b, 0, none⟩)] w fun e w' => e = .returned (.bool (portFits (some (x, x)) n)) ∧ w' = w := by
  go_enter Tryz.func157, Tryz.ntmps157
  go_wp2
  go_ret
  refine ⟨ret_bool ?_, rfl⟩
  unfold portFits
  rw [Bool.eq_iff_iff]; simp; omega

set_option maxHeartbeats 400000 in
theorem port2 (n : Int) (x y b c : Nat) (w : World) (h : w.cell? ⟨b, 0, none⟩ = some (i64 x)) (k : w.cell? ⟨c, 0, none⟩ = some (i64 y)) :
    Calls Tryz.prog 159 #[.int .i64 n, .pointer (some ⟨b, 0, none⟩), .pointer (some ⟨c, 0, none⟩)] w fun e w' => e = .returned (.bool (portFits (some (x, y)) n)) ∧ w' = w := by
  unfold portFits
  by_cases h1 : (x : Int) ≤ n <;> by_cases h2 : n ≤ (y : Int)
  all_goals
    go_enter Tryz.func159, Tryz.ntmps159
    go_wp2
    go_ret
    exact ⟨by simp [h1, h2], rfl⟩

set_option maxHeartbeats 400000 in
theorem min1 (n : Int) (x y b c : Nat) (hxy : y < x) (w : World) (h : w.cell? ⟨b, 0, none⟩ = some (i64 x)) (k : w.cell? ⟨c, 0, none⟩ = some (i64 y)) :
    Calls Tryz.prog 160 #[.int .i64 n, .pointer (some ⟨b, 0, none⟩), .pointer (some ⟨c, 0, none⟩)] w fun e w' => e = .returned (.bool (minFits (some (x, y)) n)) ∧ w' = w := by
  unfold minFits
  simp only [hxy, if_true]
  by_cases h1 : (x : Int) ≤ n <;> by_cases h2 : n ≤ (y : Int)
  all_goals
    go_enter Tryz.func160, Tryz.ntmps160
    go_wp2
    go_ret
    exact ⟨by simp [h1, h2], rfl⟩

set_option maxHeartbeats 400000 in
theorem min2 (n : Int) (x y b c : Nat) (hxy : ¬ y < x) (w : World) (h : w.cell? ⟨b, 0, none⟩ = some (i64 x)) (k : w.cell? ⟨c, 0, none⟩ = some (i64 y)) :
    Calls Tryz.prog 161 #[.int .i64 n, .pointer (some ⟨b, 0, none⟩), .pointer (some ⟨c, 0, none⟩)] w fun e w' => e = .returned (.bool (minFits (some (x, y)) n)) ∧ w' = w := by
  unfold minFits
  simp only [hxy, if_false]
  by_cases h1 : (x : Int) ≤ n <;> by_cases h2 : n ≤ (y : Int)
  all_goals
    go_enter Tryz.func161, Tryz.ntmps161
    go_wp2
    go_ret
    exact ⟨by simp [h1, h2], rfl⟩
end Go.Proofs.YtdmaffciijmdcaaGreatDoor
/-
  Two addresses (arrays of four bytes) compared.
-/
namespace Go.Proofs.YtdmaffciijmdcaaGreatDoor
open Go.RowKit Plain

theorem eq4 (a b c d a' b' c' d' : Int) (w : World) :
    (Op.equalIn 10000 209 (.agg #[.int .u8 a, .int .u8 b, .int .u8 c, .int .u8 d]) (.agg #[.int .u8 a', .int .u8 b', .int .u8 c', .int .u8 d'])).run Tryz.prog w =
      .ok (a == a' && b == b' && c == c' && d == d') w := by
  have u5 := Tryz.underlying5
  have a5 := Tryz.isAgg5
  have z5 := Tryz.sizeOf5
  rw [show (10000 : Nat) = 9999 + 1 from rfl, Op.equalIn]
  simp only [Sem.run_bind, run_underlying Tryz.underlying209, Result.andThen_ok]
  simp only [Std.Legacy.Range.forIn_eq_forIn_range', Std.Legacy.Range.size, Nat.sub_zero, Nat.add_sub_cancel, Nat.div_one, List.range'_succ, List.range'_zero, List.forIn_cons, List.forIn_nil]
  go_simp
  by_cases h1 : a = a' <;> by_cases h2 : b = b' <;> by_cases h3 : c = c' <;> by_cases h4 : d = d' <;> simp [h1, h2, h3, h4]
end Go.Proofs.YtdmaffciijmdcaaGreatDoor

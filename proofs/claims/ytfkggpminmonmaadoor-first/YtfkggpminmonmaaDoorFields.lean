/-
  Package rules: the readers of a rule's fields, and what the functions that they hand back answer.
-/
import Derived.Test.YtfkggpminmonmaaDoorHost
import Derived.Test.YtfkggpminmonmaaDoorRuleS
namespace Go.Proofs.YtfkggpminmonmaaDoor
open Go.RowKit Plain

/-- A variable that a function value holds: block b, of those that S says. -/
def TenRep (S : Nat → Prop) (w : World) (v : Value) (t : Option (List UInt8)) : Prop :=
  (t = none ∧ v = .func (.func 57) #[] #[]) ∨
  ∃ b o, t = some o ∧ v = .func (.func 59) #[] #[.pointer (some ⟨b, 0, none⟩)] ∧ w.cell? ⟨b, 0, none⟩ = some (str o) ∧ S b

/-- Of the blocks that S says nothing turns. -/
def Keeps (S S' : Nat → Prop) (w w' : World) : Prop := ∀ b, S b → S' b ∧ ∀ o, w'.cell? ⟨b, o, none⟩ = w.cell? ⟨b, o, none⟩

theorem TenRep.keeps {S S' : Nat → Prop} {w w' : World} {v : Value} {t : Option (List UInt8)} (h : TenRep S w v t) (k : Keeps S S' w w') : TenRep S' w' v t := by
  rcases h with h | ⟨b, o, h1, h2, h3, h4⟩
  · exact .inl h
  · exact .inr ⟨b, o, h1, h2, by rw [(k b h4).2]; exact h3, (k b h4).1⟩

/-- New blocks alone. -/
def New (w w' : World) (b : Nat) : Prop := w.heap.size ≤ b ∧ b < w'.heap.size

theorem eq_star {s : ByteArray} : (s.toList == [42]) = decide (s.data.toList = [42]) := by
  rw [Lib.toList_data, Bool.eq_iff_iff]; simp

set_option maxHeartbeats 400000 in
theorem fitsAllS (s : ByteArray) (w : World) : Calls Tryd.prog 57 #[.string s] w fun e w' => e = .returned (.bool true) ∧ w' = w := by
  go_enter Tryd.func57, Tryd.ntmps57
  go_wp2
  go_ret
  exact ⟨rfl, rfl⟩

set_option maxHeartbeats 400000 in
theorem ten1 (s o : ByteArray) (b : Nat) (w : World) (h : w.cell? ⟨b, 0, none⟩ = some (.string o)) :
    Calls Tryd.prog 59 #[.string s, .pointer (some ⟨b, 0, none⟩)] w fun e w' => e = .returned (.bool (s.toList == o.toList)) ∧ w' = w := by
  go_enter Tryd.func59, Tryd.ntmps59
  go_wp2
  go_ret
  exact ⟨rfl, rfl⟩

set_option maxHeartbeats 400000 in
theorem readTenant_yes (s : ByteArray) (w : World) (t : Option (List UInt8)) (h : readTen s.data.toList = some t) :
    Calls Tryd.prog 40 #[.string s] w fun e w' => ∃ v, e = .returned v ∧ Q w w' ∧ TenRep (New w w') w' v t := by
  unfold readTen at h
  split at h
  · rename_i hst
    cases h
    have h42 : (s.toList == [42]) = true := by rw [eq_star]; exact decide_eq_true hst
    clear hst
    go_enter Tryd.func40, Tryd.ntmps40
    go_wp2
    go_ret
    exact ⟨_, rfl, Q.refl _, .inl ⟨rfl, rfl⟩⟩
  · rename_i hst
    split at h
    case isFalse => cases h
    rename_i hok
    cases h
    have h42 : (s.toList == [42]) = false := by rw [eq_star]; exact decide_eq_false hst
    have hsz : s.size ≤ 8 := by
      unfold tenantOk at hok
      rw [Bool.and_eq_true, decide_eq_true_eq, size_len] at hok
      exact hok.1.2
    have HO := show Hid _ from hok
    clear hst hok
    have hmf : ∀ (fn : Fn) (first cap : Array Value) (w : World), (Instr.makeFunc fn first cap).run Tryd.prog w = .ok (.func fn first cap) w := fun _ _ _ _ => rfl
    go_enter Tryd.func40, Tryd.ntmps40
    go_wp2_with (first | (go_at_call 52; refine (tenant_yes _ _ HO.out).mono ?_; rintro e w' ⟨rfl, rfl⟩) | (go_at_call 58; refine (clone_any s _ (by omega)).mono ?_; rintro e w' ⟨rfl, hq⟩))
    go_ret
    refine ⟨_, rfl, hq.alloc _, .inr ⟨_, _, rfl, rfl, ?_, ?_⟩⟩
    · simp [go_sem, str]
    · exact ⟨hq.size, by simp⟩

set_option maxHeartbeats 400000 in
theorem readTenant_no (s : ByteArray) (w : World) (h : readTen s.data.toList = none) :
    Calls Tryd.prog 40 #[.string s] w fun e w' => Dies e ∧ Q w w' := by
  unfold readTen at h
  split at h
  · cases h
  · rename_i hst
    split at h
    · cases h
    · rename_i hok
      have h42 : (s.toList == [42]) = false := by rw [eq_star]; exact decide_eq_false hst
      have HO : Hid (tenantOk s.data.toList = false) := by show _ = false; simpa using hok
      clear hst hok h
      go_enter Tryd.func40, Tryd.ntmps40
      go_wp2_with (first | (go_at_call 52; refine (tenant_no _ _ HO.out).mono ?_; rintro e w' ⟨⟨t, v, rfl⟩, rfl⟩))
      exact ⟨rfl, ⟨_, _, rfl⟩, Q.refl _⟩

theorem eq_allow {s : ByteArray} : (s.toList == [97, 108, 108, 111, 119]) = decide (s.data.toList = [97, 108, 108, 111, 119]) := by
  rw [Lib.toList_data, Bool.eq_iff_iff]; simp
theorem eq_deny {s : ByteArray} : (s.toList == [100, 101, 110, 121]) = decide (s.data.toList = [100, 101, 110, 121]) := by
  rw [Lib.toList_data, Bool.eq_iff_iff]; simp

set_option maxHeartbeats 400000 in
theorem readVerdict_yes (s : ByteArray) (w : World) (b : Bool) (h : readVerd s.data.toList = some b) :
    Calls Tryd.prog 39 #[.string s] w fun e w' => e = .returned (.bool b) ∧ w' = w := by
  unfold readVerd at h
  by_cases ha : s.data.toList = [97, 108, 108, 111, 119]
  · rw [if_pos ha] at h
    cases h
    have h1 : (s.toList == [97, 108, 108, 111, 119]) = true := by rw [eq_allow]; exact decide_eq_true ha
    clear ha
    go_enter Tryd.func39, Tryd.ntmps39
    go_wp2_with (first | (go_at_call 38; refine (must_yes _ _).mono ?_; rintro e w' ⟨rfl, rfl⟩))
    go_ret
    exact ⟨rfl, rfl⟩
  · rw [if_neg ha] at h
    by_cases hd : s.data.toList = [100, 101, 110, 121]
    · rw [if_pos hd] at h
      cases h
      have h1 : (s.toList == [97, 108, 108, 111, 119]) = false := by rw [eq_allow]; exact decide_eq_false ha
      have h2 : (s.toList == [100, 101, 110, 121]) = true := by rw [eq_deny]; exact decide_eq_true hd
      clear ha hd
      go_enter Tryd.func39, Tryd.ntmps39
      go_wp2_with (first | (go_at_call 38; refine (must_yes _ _).mono ?_; rintro e w' ⟨rfl, rfl⟩))
      go_ret
      exact ⟨rfl, rfl⟩
    · rw [if_neg hd] at h; cases h

set_option maxHeartbeats 400000 in
theorem readVerdict_no (s : ByteArray) (w : World) (h : readVerd s.data.toList = none) :
    Calls Tryd.prog 39 #[.string s] w fun e w' => Dies e ∧ w' = w := by
  unfold readVerd at h
  by_cases ha : s.data.toList = [97, 108, 108, 111, 119]
  · rw [if_pos ha] at h; cases h
  · by_cases hd : s.data.toList = [100, 101, 110, 121]
    · rw [if_neg ha, if_pos hd] at h; cases h
    · have h1 : (s.toList == [97, 108, 108, 111, 119]) = false := by rw [eq_allow]; exact decide_eq_false ha
      have h2 : (s.toList == [100, 101, 110, 121]) = false := by rw [eq_deny]; exact decide_eq_false hd
      clear ha hd h
      go_enter Tryd.func39, Tryd.ntmps39
      go_wp2_with (first | (go_at_call 38; refine (must_no _ _).mono ?_; rintro e w' ⟨⟨t, v, rfl⟩, rfl⟩))
      exact ⟨rfl, ⟨_, _, rfl⟩, rfl⟩
end Go.Proofs.YtfkggpminmonmaaDoor

/-
  Package rules: Ask.
-/
import Derived.Test.YtfkggpminmonmaaDoorRead
namespace Go.Proofs.YtfkggpminmonmaaDoor
open Go.RowKit Plain

def questV (t : ByteArray) (nm : List UInt8) (a b c d : Nat) (p m : Int) : Value := .agg #[.string t, .string ⟨nm.toArray⟩, u8 a, u8 b, u8 c, u8 d, .int .i64 p, .int .i64 m]

def askS (t h : List UInt8) (p m : Int) : Option (List UInt8 × List Nat) :=
  if 0 ≤ p ∧ p ≤ 65535 ∧ 0 ≤ m ∧ m < 10080 ∧ tenantOk t = true then readHost h else none

theorem host_four {l : List UInt8} {r : List UInt8 × List Nat} (h : readHost l = some r) : ∃ nm a b c d, r = (nm, [a, b, c, d]) ∧ a ≤ 255 ∧ b ≤ 255 ∧ c ≤ 255 ∧ d ≤ 255 ∧ nm.length ≤ l.length := by
  rcases host_some h with ⟨_, a, b, c, d, ha, rfl⟩ | ⟨_, _, rfl⟩
  · obtain ⟨_, _, _, _, a', b', c', d', _, he, h0, h1, h2, h3⟩ := address_some ha
    cases he
    exact ⟨_, _, _, _, _, rfl, number_le h0, number_le h1, number_le h2, number_le h3, by simp⟩
  · exact ⟨_, _, _, _, _, rfl, by decide, by decide, by decide, by decide, by rw [lower_len]; omega⟩

def AskPost (t h : ByteArray) (p m : Int) (w : World) (e : Ending) (w' : World) : Prop :=
  Q w w' ∧ ((∃ nm a b c d, askS t.data.toList h.data.toList p m = some (nm, [a, b, c, d]) ∧ e = .returned (questV t nm a b c d p m)) ∨ (askS t.data.toList h.data.toList p m = none ∧ Dies e))

set_option maxRecDepth 100000 in
set_option maxHeartbeats 1600000 in
theorem ask_any (t h : ByteArray) (p m : Int) (w : World) (hs : h.size < 4294967281) :
    Calls Tryd.prog 29 #[.string t, .string h, .int .i64 p, .int .i64 m] w fun e w' => AskPost t h p m w e w' := by
  by_cases hp : 0 ≤ p ∧ p ≤ 65535
  case neg =>
    have HN : Hid (askS t.data.toList h.data.toList p m = none) := by
      show _ = _
      unfold askS; rw [if_neg]; intro hx; exact hp ⟨hx.1, hx.2.1⟩
    by_cases h1 : 0 ≤ p
    · have h2 : decide (p ≤ 65535) = false := decide_eq_false (fun h2 => hp ⟨h1, h2⟩)
      clear hp
      go_enter Tryd.func29, Tryd.ntmps29
      go_wp2_with (first | (go_at_call 38; refine (must_no _ _).mono ?_; rintro e w' ⟨⟨t, v, rfl⟩, rfl⟩))
      exact ⟨rfl, by unfold Q; go_grown, .inr ⟨HN.out, ⟨_, _, rfl⟩⟩⟩
    · have h2 : decide (0 ≤ p) = false := decide_eq_false h1
      clear hp
      go_enter Tryd.func29, Tryd.ntmps29
      go_wp2_with (first | (go_at_call 38; refine (must_no _ _).mono ?_; rintro e w' ⟨⟨t, v, rfl⟩, rfl⟩))
      exact ⟨rfl, by unfold Q; go_grown, .inr ⟨HN.out, ⟨_, _, rfl⟩⟩⟩
  obtain ⟨hp1, hp2⟩ := hp
  have dp1 : decide (0 ≤ p) = true := decide_eq_true hp1
  have dp2 : decide (p ≤ 65535) = true := decide_eq_true hp2
  by_cases hm : 0 ≤ m ∧ m < 10080
  case neg =>
    have HN : Hid (askS t.data.toList h.data.toList p m = none) := by
      show _ = _
      unfold askS; rw [if_neg]; intro hx; exact hm ⟨hx.2.2.1, hx.2.2.2.1⟩
    by_cases h1 : 0 ≤ m
    · have h2 : decide (m < 10080) = false := decide_eq_false (fun h2 => hm ⟨h1, h2⟩)
      clear hm
      go_enter Tryd.func29, Tryd.ntmps29
      go_wp2_with (first | (go_at_call_of 38 (Value.bool true); refine (must_yes _ _).mono ?_; rintro e w' ⟨rfl, rfl⟩) | (go_at_call_of 38 (Value.bool false); refine (must_no _ _).mono ?_; rintro e w' ⟨⟨t, v, rfl⟩, rfl⟩))
      exact ⟨rfl, by unfold Q; go_grown, .inr ⟨HN.out, ⟨_, _, rfl⟩⟩⟩
    · have h2 : decide (0 ≤ m) = false := decide_eq_false h1
      clear hm
      go_enter Tryd.func29, Tryd.ntmps29
      go_wp2_with (first | (go_at_call_of 38 (Value.bool true); refine (must_yes _ _).mono ?_; rintro e w' ⟨rfl, rfl⟩) | (go_at_call_of 38 (Value.bool false); refine (must_no _ _).mono ?_; rintro e w' ⟨⟨t, v, rfl⟩, rfl⟩))
      exact ⟨rfl, by unfold Q; go_grown, .inr ⟨HN.out, ⟨_, _, rfl⟩⟩⟩
  obtain ⟨hm1, hm2⟩ := hm
  have dm1 : decide (0 ≤ m) = true := decide_eq_true hm1
  have dm2 : decide (m < 10080) = true := decide_eq_true hm2
  cases ht : tenantOk t.data.toList
  · have HN : Hid (askS t.data.toList h.data.toList p m = none) := by
      show _ = _
      unfold askS; rw [if_neg]; intro hx; rw [ht] at hx; exact absurd hx.2.2.2.2 (by decide)
    have HT := show Hid _ from ht
    clear ht
    go_enter Tryd.func29, Tryd.ntmps29
    go_wp2_with (first | (go_at_call_of 38 (Value.bool true); refine (must_yes _ _).mono ?_; rintro e w' ⟨rfl, rfl⟩) | (go_at_call 52; refine (tenant_no _ _ HT.out).mono ?_; rintro e w' ⟨⟨t, v, rfl⟩, rfl⟩))
    exact ⟨rfl, by unfold Q; go_grown, .inr ⟨HN.out, ⟨_, _, rfl⟩⟩⟩
  have HA : Hid (askS t.data.toList h.data.toList p m = readHost h.data.toList) := by
    show _ = _
    unfold askS; rw [if_pos ⟨hp1, hp2, hm1, hm2, ht⟩]
  have HT := show Hid _ from ht
  clear ht
  cases hh : readHost h.data.toList with
  | none =>
    have HH := show Hid _ from hh
    clear hh
    go_enter Tryd.func29, Tryd.ntmps29
    go_wp2_with (first | (go_at_call_of 38 (Value.bool true); refine (must_yes _ _).mono ?_; rintro e w' ⟨rfl, rfl⟩) | (go_at_call 52; refine (tenant_yes _ _ HT.out).mono ?_; rintro e w' ⟨rfl, rfl⟩))
    refine (readHost_no h _ hs HH.out).mono ?_
    rintro e w1 ⟨⟨t', v', rfl⟩, hq⟩
    exact ⟨rfl, ((Q.refl _).alloc _).trans hq, .inr ⟨by rw [HA.out, HH.out], ⟨_, _, rfl⟩⟩⟩
  | some r =>
    obtain ⟨nm, a, b, c, d, rfl, _⟩ := host_four hh
    have HH := show Hid _ from hh
    clear hh
    go_enter Tryd.func29, Tryd.ntmps29
    go_wp2_with (first | (go_at_call_of 38 (Value.bool true); refine (must_yes _ _).mono ?_; rintro e w' ⟨rfl, rfl⟩) | (go_at_call 52; refine (tenant_yes _ _ HT.out).mono ?_; rintro e w' ⟨rfl, rfl⟩))
    refine (readHost_yes h _ hs nm a b c d HH.out).mono ?_
    rintro e w1 ⟨rfl, hq⟩
    unfold hostV str
    obtain ⟨hcl, hfr, hz⟩ := hq.made
    go_wp2_with fail
    refine bodyPost_ret (v := questV t nm a b c d p m) (by simp [results, Tryd.results29, go_sem, hcl, questV]) rfl ⟨?_, .inl ⟨nm, a, b, c, d, by rw [HA.out, HH.out], rfl⟩⟩
    have hQ := ((Q.refl _).alloc _).trans hq
    iterate 8 refine Q.setCell ?_ (Nat.le_refl _) _
    exact hQ
end Go.Proofs.YtfkggpminmonmaaDoor

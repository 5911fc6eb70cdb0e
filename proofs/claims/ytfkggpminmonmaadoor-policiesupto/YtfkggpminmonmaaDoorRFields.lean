/-
  The document's answer: a rule's fields.
-/
import Derived.Test.YtfkggpminmonmaaDoorRPlain3
namespace Go.Proofs.YtfkggpminmonmaaDoor
namespace Plain
theorem portR_star (n : Int) : portR [42] n = (true, true) := rfl
theorem portR_one {s : List UInt8} {n : Int} (h0 : ¬ s = [42]) (h : 0 ≤ numR s 65535) : portR s n = (n == numR s 65535, true) := by unfold portR; rw [if_neg h0, if_pos h]
theorem portR_two {s : List UInt8} {n : Int} (h0 : ¬ s = [42]) (h : ¬ 0 ≤ numR s 65535) : portR s n = (decide ((pairR s 65535).1 ≤ n) && decide (n ≤ (pairR s 65535).2), decide (0 ≤ (pairR s 65535).1) && decide ((pairR s 65535).1 ≤ (pairR s 65535).2)) := by unfold portR; rw [if_neg h0, if_neg h]
theorem minuteR_star (n : Int) : minuteR [42] n = (true, true) := rfl
theorem minuteR_up {s : List UInt8} {n : Int} (h0 : ¬ s = [42]) (h : (pairR s 10079).1 ≤ (pairR s 10079).2) : minuteR s n = (decide ((pairR s 10079).1 ≤ n) && decide (n ≤ (pairR s 10079).2), decide (0 ≤ (pairR s 10079).1)) := by unfold minuteR; rw [if_neg h0, if_pos h]
theorem minuteR_down {s : List UInt8} {n : Int} (h0 : ¬ s = [42]) (h : ¬ (pairR s 10079).1 ≤ (pairR s 10079).2) : minuteR s n = (decide ((pairR s 10079).1 ≤ n) || decide (n ≤ (pairR s 10079).2), true) := by unfold minuteR; rw [if_neg h0, if_neg h]
theorem numR_range (s : List UInt8) (most : Nat) : -1 ≤ numR s most ∧ numR s most ≤ most := by
  rcases numR_cases s most with ⟨_, h⟩ | ⟨n, _, h, hn⟩ <;> rw [h] <;> omega
theorem span_le {s : List UInt8} {most x y : Nat} (h : span s most = some (x, y)) : x ≤ most ∧ y ≤ most := by
  unfold span at h
  cases hc : cutAt 45 s with
  | none => rw [hc] at h; cases h
  | some v =>
    obtain ⟨a, r⟩ := v
    rw [hc] at h
    dsimp only at h
    cases h1 : number a most with
    | none => rw [h1] at h; cases h
    | some x' =>
      rw [h1] at h
      cases h2 : number r most with
      | none => rw [h2] at h; cases h
      | some y' => rw [h2] at h; cases h; exact ⟨number_le h1, number_le h2⟩
theorem pairR_range (s : List UInt8) (most : Nat) : (-1 ≤ (pairR s most).1 ∧ (pairR s most).1 ≤ most) ∧ (-1 ≤ (pairR s most).2 ∧ (pairR s most).2 ≤ most) := by
  rcases pairR_span s most with ⟨_, h⟩ | ⟨x, y, h1, h⟩
  · rw [h]; dsimp only; omega
  · have := span_le h1
    rw [h]; dsimp only; omega
end Plain
open Go.RowKit Plain

theorem tup2 {a b c d : Bool} (h : (a, b) = (c, d)) : Ending.returned (.tuple #[.bool a, .bool b]) = .returned (.tuple #[.bool c, .bool d]) := by cases h; rfl

set_option maxRecDepth 100000 in
set_option maxHeartbeats 1600000 in
theorem rport_any (s : List UInt8) (n : Int) (w : World) (hs : s.length ≤ 2097152) :
    Calls Tryd.prog 46 #[.string ⟨s.toArray⟩, .int .i64 n] w fun e w' => e = .returned (.tuple #[.bool (portR s n).1, .bool (portR s n).2]) ∧ Q w w' := by
  have HN := fun w => show Hid _ from rnumber_any s 65535 w (by omega) (by decide)
  have HP := fun w => show Hid _ from rpair_any s 65535 w hs (by decide)
  go_enter Tryd.func46, Tryd.ntmps46
  by_cases h0 : s = [42]
  · have hb : (s == [42]) = true := by rw [h0]; rfl
    have HS : Hid (portR s n = (true, true)) := by rw [h0]; exact portR_star n
    clear h0
    go_wp2_with fail
    go_ret2
    exact ⟨by rw [HS.out]; rfl, Q.refl _⟩
  have hb : (s == [42]) = false := beq_eq_false_iff_ne.2 h0
  obtain ⟨r1, r2⟩ := numR_range s 65535
  by_cases h1 : 0 ≤ numR s 65535
  · have HS : Hid _ := show portR s n = (n == numR s 65535, true) from portR_one h0 h1
    clear h0
    go_wp2_with fail
    refine Calls.mono (Hid.out (HN _)) ?_
    rintro e w1 ⟨rfl, rfl⟩
    go_wp2_with fail
    go_ret2
    exact ⟨by rw [HS.out]; rfl, Q.refl _⟩
  · have HS : Hid _ := show portR s n = (decide ((pairR s 65535).1 ≤ n) && decide (n ≤ (pairR s 65535).2), decide (0 ≤ (pairR s 65535).1) && decide ((pairR s 65535).1 ≤ (pairR s 65535).2)) from portR_two h0 h1
    clear h0
    obtain ⟨⟨p1, p2⟩, p3, p4⟩ := pairR_range s 65535
    go_wp2_with fail
    refine Calls.mono (Hid.out (HN _)) ?_
    rintro e w1 ⟨rfl, rfl⟩
    have d0 : decide (0 ≤ numR s 65535) = false := decide_eq_false (by omega)
    clear h1
    go_wp2_with fail
    refine Calls.mono (Hid.out (HP _)) ?_
    rintro e w2 ⟨rfl, hq⟩
    generalize (pairR s 65535).1 = a at *
    generalize (pairR s 65535).2 = b at *
    by_cases ha : a ≤ n
    · have da : decide (a ≤ n) = true := decide_eq_true ha
      by_cases hz : 0 ≤ a
      · have dz : decide (0 ≤ a) = true := decide_eq_true hz
        clear ha hz
        go_wp2_with fail
        go_ret2
        exact ⟨by rw [HS.out, da, dz]; rfl, hq⟩
      · have dz : decide (0 ≤ a) = false := decide_eq_false hz
        clear ha hz
        go_wp2_with fail
        go_ret2
        exact ⟨by rw [HS.out, da, dz]; rfl, hq⟩
    · have da : decide (a ≤ n) = false := decide_eq_false ha
      by_cases hz : 0 ≤ a
      · have dz : decide (0 ≤ a) = true := decide_eq_true hz
        clear ha hz
        go_wp2_with fail
        go_ret2
        exact ⟨by rw [HS.out, da, dz]; rfl, hq⟩
      · have dz : decide (0 ≤ a) = false := decide_eq_false hz
        clear ha hz
        go_wp2_with fail
        go_ret2
        exact ⟨by rw [HS.out, da, dz]; rfl, hq⟩

set_option maxRecDepth 100000 in
set_option maxHeartbeats 1600000 in
theorem rminute_any (s : List UInt8) (n : Int) (w : World) (hs : s.length ≤ 2097152) :
    Calls Tryd.prog 47 #[.string ⟨s.toArray⟩, .int .i64 n] w fun e w' => e = .returned (.tuple #[.bool (minuteR s n).1, .bool (minuteR s n).2]) ∧ Q w w' := by
  have HP := fun w => show Hid _ from rpair_any s 10079 w hs (by decide)
  go_enter Tryd.func47, Tryd.ntmps47
  by_cases h0 : s = [42]
  · have hb : (s == [42]) = true := by rw [h0]; rfl
    have HS : Hid (minuteR s n = (true, true)) := by rw [h0]; exact minuteR_star n
    clear h0
    go_wp2_with fail
    go_ret2
    exact ⟨by rw [HS.out]; rfl, Q.refl _⟩
  have hb : (s == [42]) = false := beq_eq_false_iff_ne.2 h0
  have HU : Hid ((pairR s 10079).1 ≤ (pairR s 10079).2 → minuteR s n = (decide ((pairR s 10079).1 ≤ n) && decide (n ≤ (pairR s 10079).2), decide (0 ≤ (pairR s 10079).1))) := minuteR_up h0
  have HD : Hid (¬ (pairR s 10079).1 ≤ (pairR s 10079).2 → minuteR s n = (decide ((pairR s 10079).1 ≤ n) || decide (n ≤ (pairR s 10079).2), true)) := minuteR_down h0
  clear h0
  go_wp2_with fail
  refine Calls.mono (Hid.out (HP _)) ?_
  rintro e w2 ⟨rfl, hq⟩
  generalize (pairR s 10079).1 = a at *
  generalize (pairR s 10079).2 = b at *
  by_cases hab : a ≤ b
  · have HS := show Hid _ from HU.out hab
    have dab : decide (a ≤ b) = true := decide_eq_true hab
    clear hab HU HD
    by_cases ha : a ≤ n
    · have da : decide (a ≤ n) = true := decide_eq_true ha
      clear ha
      go_wp2_with fail
      go_ret2
      exact ⟨by rw [HS.out, da]; rfl, hq⟩
    · have da : decide (a ≤ n) = false := decide_eq_false ha
      clear ha
      go_wp2_with fail
      go_ret2
      exact ⟨by rw [HS.out, da]; rfl, hq⟩
  · have HS := show Hid _ from HD.out (by omega)
    have dab : decide (a ≤ b) = false := decide_eq_false hab
    clear hab HU HD
    by_cases ha : a ≤ n
    · have da : decide (a ≤ n) = true := decide_eq_true ha
      clear ha
      go_wp2_with fail
      go_ret2
      exact ⟨by rw [HS.out, da]; rfl, hq⟩
    · have da : decide (a ≤ n) = false := decide_eq_false ha
      clear ha
      go_wp2_with fail
      go_ret2
      exact ⟨by rw [HS.out, da]; rfl, hq⟩
end Go.Proofs.YtfkggpminmonmaaDoor

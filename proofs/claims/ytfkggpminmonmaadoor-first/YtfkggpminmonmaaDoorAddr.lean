/-
  Package words: ReadAddress.
-/
import Derived.Test.YtfkggpminmonmaaDoorLow
import Derived.LoopN
namespace Go.Proofs.YtfkggpminmonmaaDoor
open Go.RowKit Plain

abbrev u8 (n : Nat) : Value := .int .u8 (n : Int)

theorem number_le {l : List UInt8} {hi n : Nat} (h : number l hi = some n) : n ≤ hi := by
  unfold number at h
  split at h
  · rename_i hc; cases h; exact hc.2
  · cases h

theorem number255_yes (l : List UInt8) (w : World) (hs : l.length ≤ 4294967281) (n : Nat) (h : number l 255 = some n) :
    Calls Tryd.prog 93 #[str l, .int .i64 255] w fun e w' => e = .returned (.int .i64 n) ∧ w' = w :=
  number_yes ⟨l.toArray⟩ 255 w (by rw [mk_size]; unfold maxLen; omega) (by decide) n h
theorem number255_no (l : List UInt8) (w : World) (hs : l.length ≤ 4294967281) (h : number l 255 = none) :
    Calls Tryd.prog 93 #[str l, .int .i64 255] w fun e w' => Dies e ∧ w' = w :=
  number_no ⟨l.toArray⟩ 255 w (by rw [mk_size]; unfold maxLen; omega) (by decide) h

theorem address_some {l : List UInt8} {r : List Nat} (h : address l = some r) : ∃ p0 p1 p2 p3 a b c d, parts 46 l = [p0, p1, p2, p3] ∧ r = [a, b, c, d] ∧
    number p0 255 = some a ∧ number p1 255 = some b ∧ number p2 255 = some c ∧ number p3 255 = some d := by
  unfold address at h
  split at h
  case isFalse => cases h
  rename_i h4
  match hp : parts 46 l, h4 with
  | [p0, p1, p2, p3], _ =>
    rw [hp] at h
    cases h0 : number p0 255 with
    | none => simp [octets, h0] at h
    | some a => cases h1 : number p1 255 with
      | none => simp [octets, h0, h1] at h
      | some b => cases h2 : number p2 255 with
        | none => simp [octets, h0, h1, h2] at h
        | some c => cases h3 : number p3 255 with
          | none => simp [octets, h0, h1, h2, h3] at h
          | some d =>
            simp [octets, h0, h1, h2, h3] at h
            exact ⟨p0, p1, p2, p3, a, b, c, d, rfl, h.symm, h0, h1, h2, h3⟩

theorem address_none {l : List UInt8} (h : address l = none) : (parts 46 l).length ≠ 4 ∨ ∃ p0 p1 p2 p3, parts 46 l = [p0, p1, p2, p3] ∧
    (number p0 255 = none ∨ (∃ a, number p0 255 = some a ∧ number p1 255 = none) ∨ (∃ a b, number p0 255 = some a ∧ number p1 255 = some b ∧ number p2 255 = none) ∨
      (∃ a b c, number p0 255 = some a ∧ number p1 255 = some b ∧ number p2 255 = some c ∧ number p3 255 = none)) := by
  by_cases h4 : (parts 46 l).length = 4
  · refine .inr ?_
    unfold address at h
    rw [if_pos h4] at h
    match hp : parts 46 l, h4 with
    | [p0, p1, p2, p3], _ =>
      rw [hp] at h
      refine ⟨p0, p1, p2, p3, rfl, ?_⟩
      cases h0 : number p0 255 with
      | none => exact .inl rfl
      | some a => cases h1 : number p1 255 with
        | none => exact .inr (.inl ⟨a, rfl, rfl⟩)
        | some b => cases h2 : number p2 255 with
          | none => exact .inr (.inr (.inl ⟨a, b, rfl, rfl, rfl⟩))
          | some c => cases h3 : number p3 255 with
            | none => exact .inr (.inr (.inr ⟨a, b, c, rfl, rfl, rfl, rfl⟩))
            | some d => simp [octets, h0, h1, h2, h3] at h
  · exact .inl h4

theorem four_cells {ps : List (List UInt8)} {p0 p1 p2 p3 : List UInt8} {cs : Array Value} (hp : ps = [p0, p1, p2, p3]) (h : ∀ i, i < ps.length → cs[i]? = some (str (nth ps i))) :
    cs[0]? = some (str p0) ∧ cs[1]? = some (str p1) ∧ cs[2]? = some (str p2) ∧ cs[3]? = some (str p3) := by
  subst hp
  exact ⟨h 0 (by simp), h 1 (by simp), h 2 (by simp), h 3 (by simp)⟩
theorem four_le {l p0 p1 p2 p3 : List UInt8} (hp : parts 46 l = [p0, p1, p2, p3]) (hs : l.length < 4294967281) :
    p0.length ≤ 4294967281 ∧ p1.length ≤ 4294967281 ∧ p2.length ≤ 4294967281 ∧ p3.length ≤ 4294967281 := by
  have h := fun p (hm : p ∈ parts 46 l) => parts_le 46 l p hm
  rw [hp] at h
  have h0 := h p0 (by simp)
  have h1 := h p1 (by simp)
  have h2 := h p2 (by simp)
  have h3 := h p3 (by simp)
  omega

set_option maxHeartbeats 800000 in
theorem readAddress_yes (s : ByteArray) (w : World) (hs : s.size < 4294967281) (a b c d : Nat) (h : address s.data.toList = some [a, b, c, d]) :
    Calls Tryd.prog 83 #[.string s] w fun e w' => e = .returned (.agg #[u8 a, u8 b, u8 c, u8 d]) ∧ Q w w' := by
  obtain ⟨p0, p1, p2, p3, a', b', c', d', hp, hr, h0, h1, h2, h3⟩ := address_some h
  cases hr
  obtain ⟨l0, l1, l2, l3⟩ := four_le hp (by rw [size_len]; exact hs)
  have B0 := number_le h0; have B1 := number_le h1; have B2 := number_le h2; have B3 := number_le h3
  have HP := show Hid _ from hp
  have H0 := show Hid _ from h0
  have H1 := show Hid _ from h1
  have H2 := show Hid _ from h2
  have H3 := show Hid _ from h3
  clear h hp h0 h1 h2 h3
  go_enter Tryd.func83, Tryd.ntmps83
  go_wp2_with fail
  refine (splitN_one s 46 5 _ hs (by decide) (by decide)).mono ?_
  rintro e w' ⟨cs, len, N, rfl, rfl, hlN, hN, hd⟩
  rcases hd with ⟨_, rfl, hcs⟩ | ⟨hbad, _⟩
  case inr => exfalso; rw [HP.out] at hbad; simp at hbad
  obtain ⟨hc0, hc1, hc2, hc3⟩ := four_cells HP.out hcs
  have hlen : (parts 46 s.data.toList).length = 4 := by rw [HP.out]; rfl
  clear hcs HP
  rw [hlen]
  clear hlen hlN hN
  go_wp2_with (first | (go_at_call_of 38 (Value.bool true); refine (must_yes _ _).mono ?_; rintro e w' ⟨rfl, rfl⟩))
  refine wp_loop_rounds 5 ?_
  rw [rounds_succ]
  go_wp2_with (go_at_call 93; refine (number255_yes p0 _ l0 a H0.out).mono ?_; rintro e w' ⟨rfl, rfl⟩)
  rw [rounds_succ]
  go_wp2_with (go_at_call 93; refine (number255_yes p1 _ l1 b H1.out).mono ?_; rintro e w' ⟨rfl, rfl⟩)
  rw [rounds_succ]
  go_wp2_with (go_at_call 93; refine (number255_yes p2 _ l2 c H2.out).mono ?_; rintro e w' ⟨rfl, rfl⟩)
  rw [rounds_succ]
  go_wp2_with (go_at_call 93; refine (number255_yes p3 _ l3 d H3.out).mono ?_; rintro e w' ⟨rfl, rfl⟩)
  rw [rounds_succ]
  go_wp2_with fail
  go_returns
  exact ⟨rfl, by unfold Q; go_grown⟩

/-- How far the reading comes. -/
theorem readAddress_some (s : ByteArray) (w : World) (hs : s.size < 4294967281) (h : (parts 46 s.data.toList).length ≠ 4) :
    Calls Tryd.prog 83 #[.string s] w fun e w' => Dies e ∧ Q w w' := by
  have H := show Hid _ from h
  clear h
  go_enter Tryd.func83, Tryd.ntmps83
  go_wp2_with fail
  refine (splitN_one s 46 5 _ hs (by decide) (by decide)).mono ?_
  rintro e w' ⟨cs, len, N, rfl, rfl, hlN, hN, hd⟩
  have h4 : ((len : Int) == 4) = false := by
    rw [beq_eq_false_iff_ne]
    intro he
    rcases hd with ⟨_, hl, _⟩ | ⟨_, hl⟩
    · exact H.out (by omega)
    · omega
  clear hd H
  go_wp2_with (first | (go_at_call_of 38 (Value.bool false); refine (must_no _ _).mono ?_; rintro e w' ⟨⟨t, v, rfl⟩, rfl⟩))
  exact ⟨rfl, ⟨_, _, rfl⟩, by unfold Q; go_grown⟩

set_option maxHeartbeats 800000 in
theorem readAddress_no (s : ByteArray) (w : World) (hs : s.size < 4294967281) (h : address s.data.toList = none) :
    Calls Tryd.prog 83 #[.string s] w fun e w' => Dies e ∧ Q w w' := by
  rcases address_none h with h4 | ⟨p0, p1, p2, p3, hp, hx⟩
  · exact readAddress_some s w hs h4
  obtain ⟨l0, l1, l2, l3⟩ := four_le hp (by rw [size_len]; exact hs)
  have HP := show Hid _ from hp
  have HX := show Hid _ from hx
  clear h hp hx
  go_enter Tryd.func83, Tryd.ntmps83
  go_wp2_with fail
  refine (splitN_one s 46 5 _ hs (by decide) (by decide)).mono ?_
  rintro e w' ⟨cs, len, N, rfl, rfl, hlN, hN, hd⟩
  rcases hd with ⟨_, rfl, hcs⟩ | ⟨hbad, _⟩
  case inr => exfalso; rw [HP.out] at hbad; simp at hbad
  obtain ⟨hc0, hc1, hc2, hc3⟩ := four_cells HP.out hcs
  have hlen : (parts 46 s.data.toList).length = 4 := by rw [HP.out]; rfl
  clear hcs HP
  rw [hlen]
  clear hlen hlN hN
  go_wp2_with (first | (go_at_call_of 38 (Value.bool true); refine (must_yes _ _).mono ?_; rintro e w' ⟨rfl, rfl⟩))
  refine wp_loop_rounds 5 ?_
  rw [rounds_succ]
  rcases HX.out with h0 | hx
  · have H0 := show Hid _ from h0
    clear h0 HX
    go_wp2_with (go_at_call 93; refine (number255_no p0 _ l0 H0.out).mono ?_; rintro e w' ⟨⟨t, v, rfl⟩, rfl⟩)
    exact ⟨rfl, ⟨_, _, rfl⟩, by unfold Q; go_grown⟩
  clear HX
  have HX := show Hid _ from hx
  obtain ⟨a, ha⟩ : ∃ a, Hid (number p0 255 = some a) := by
    rcases hx with ⟨a, h, _⟩ | ⟨a, b, h, _⟩ | ⟨a, b, c, h, _⟩ <;> exact ⟨a, h⟩
  have B0 := number_le ha.out
  clear hx
  go_wp2_with (go_at_call 93; refine (number255_yes p0 _ l0 a ha.out).mono ?_; rintro e w' ⟨rfl, rfl⟩)
  rw [rounds_succ]
  rcases HX.out with ⟨_, _, h0⟩ | hx
  · have H0 := show Hid _ from h0
    clear h0 HX
    go_wp2_with (go_at_call 93; refine (number255_no p1 _ l1 H0.out).mono ?_; rintro e w' ⟨⟨t, v, rfl⟩, rfl⟩)
    exact ⟨rfl, ⟨_, _, rfl⟩, by unfold Q; go_grown⟩
  clear HX
  have HX := show Hid _ from hx
  obtain ⟨b, hb⟩ : ∃ b, Hid (number p1 255 = some b) := by
    rcases hx with ⟨a, b, _, h, _⟩ | ⟨a, b, c, _, h, _⟩ <;> exact ⟨b, h⟩
  have B1 := number_le hb.out
  clear hx
  go_wp2_with (go_at_call 93; refine (number255_yes p1 _ l1 b hb.out).mono ?_; rintro e w' ⟨rfl, rfl⟩)
  rw [rounds_succ]
  rcases HX.out with ⟨_, _, _, _, h0⟩ | ⟨_, _, c, _, _, hc, h0⟩
  · have H0 := show Hid _ from h0
    clear h0 HX
    go_wp2_with (go_at_call 93; refine (number255_no p2 _ l2 H0.out).mono ?_; rintro e w' ⟨⟨t, v, rfl⟩, rfl⟩)
    exact ⟨rfl, ⟨_, _, rfl⟩, by unfold Q; go_grown⟩
  have H0 := show Hid _ from h0
  have HC := show Hid _ from hc
  have B2 := number_le hc
  clear h0 hc HX
  go_wp2_with (go_at_call 93; refine (number255_yes p2 _ l2 c HC.out).mono ?_; rintro e w' ⟨rfl, rfl⟩)
  rw [rounds_succ]
  go_wp2_with (go_at_call 93; refine (number255_no p3 _ l3 H0.out).mono ?_; rintro e w' ⟨⟨t, v, rfl⟩, rfl⟩)
  exact ⟨rfl, ⟨_, _, rfl⟩, by unfold Q; go_grown⟩
end Go.Proofs.YtfkggpminmonmaaDoor

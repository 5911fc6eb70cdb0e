/-
  A rule's line reads as the rule it was made of; a line with a byte that stands in no rule is none.
-/
import Derived.Test.YtfkggpminmonmaaDoorMath1
namespace Go.Proofs.YtfkggpminmonmaaDoor.Plain

/-- The rule that raw numbers make. -/
def hostOf (r : RawR) : HostP :=
  if pickN r.whr 20 < 6 then ⟨1, nameS (pickN r.whr 20), [], 0⟩ else if pickN r.whr 20 < 12 then ⟨2, nameS (pickN r.whr 20), [], 0⟩
  else if pickN r.whr 20 < 19 then ⟨3, [], oct (netA r), pickN r.bts 33⟩ else ⟨0, [], [], 0⟩
def portOf (r : RawR) : Option (Nat × Nat) :=
  if pickN r.til 65536 < pickN r.frm 65536 then some (pickN r.frm 65536, pickN r.frm 65536) else if r.frm.tmod 3 ≠ 0 then some (pickN r.frm 65536, pickN r.til 65536) else none
def minOf (r : RawR) : Option (Nat × Nat) := if r.beg.tmod 3 ≠ 0 then some (pickN r.beg 10080, pickN r.fin 10080) else none
def ruleOf (r : RawR) : RuleS := ⟨decide (pickN r.says 2 = 0), if pickN r.who 4 < 3 then some (tenantS (pickN r.who 4)) else none, hostOf r, portOf r, minOf r⟩

def lineT (r : RawR) : List UInt8 := saysT r ++ 32 :: (whoT r ++ 32 :: (whereT r ++ 32 :: (portT r ++ 32 :: whenT r)))
theorem ruleT_line (r : RawR) : ruleT r = lineT r ++ [10] := by unfold ruleT lineT; simp

theorem says_read (r : RawR) : readVerd (saysT r) = some (decide (pickN r.says 2 = 0)) ∧ ∀ c ∈ saysT r, fieldB c = true := by
  unfold saysT
  by_cases h : pickN r.says 2 = 0
  · rw [if_pos h, decide_eq_true h]; exact ⟨rfl, by decide⟩
  · rw [if_neg h, decide_eq_false h]; exact ⟨rfl, by decide⟩

theorem tenantS_ok (n : Nat) : tenantOk (tenantS n) = true ∧ tenantS n ≠ [42] ∧ ∀ c ∈ tenantS n, fieldB c = true := by
  unfold tenantS
  split <;> exact ⟨by decide, by decide, by decide⟩
theorem who_read (r : RawR) : readTen (whoT r) = some (if pickN r.who 4 < 3 then some (tenantS (pickN r.who 4)) else none) ∧ ∀ c ∈ whoT r, fieldB c = true := by
  unfold whoT
  by_cases h : pickN r.who 4 < 3
  · obtain ⟨h1, h2, h3⟩ := tenantS_ok (pickN r.who 4)
    rw [if_pos h, if_pos h]
    refine ⟨?_, h3⟩
    unfold readTen
    rw [if_neg h2, if_pos h1]
  · rw [if_neg h, if_neg h]; exact ⟨rfl, by decide⟩

theorem nameS_ok (n : Nat) : nameOk (nameS n) = true ∧ nameS n ≠ [42] ∧ cutAt 47 (nameS n) = none ∧ (nameS n).head? ≠ some 46 ∧ ∀ c ∈ nameS n, fieldB c = true := by
  unfold nameS
  split <;> exact ⟨by decide, by decide, by decide, by decide, by decide⟩

theorem dotted_fig (a : Nat) : ∀ c ∈ dotted a, fig c = true ∨ c = 46 := by
  intro c hc
  unfold dotted at hc
  simp only [List.mem_append, List.mem_singleton] at hc
  rcases hc with (((((hc | hc) | hc) | hc) | hc) | hc) | hc
  · exact .inl (digits_mem hc)
  · exact .inr hc
  · exact .inl (digits_mem hc)
  · exact .inr hc
  · exact .inl (digits_mem hc)
  · exact .inr hc
  · exact .inl (digits_mem hc)

theorem where_read (r : RawR) : readHostP (whereT r) = some (hostOf r) ∧ ∀ c ∈ whereT r, fieldB c = true := by
  unfold whereT hostOf
  obtain ⟨n1, n2, n3, n4, n5⟩ := nameS_ok (pickN r.whr 20)
  by_cases h6 : pickN r.whr 20 < 6
  · rw [if_pos h6, if_pos h6]
    refine ⟨?_, n5⟩
    unfold readHostP
    rw [if_neg n2, n3]
    simp only
    rw [if_neg n4, if_pos n1]
  rw [if_neg h6, if_neg h6]
  by_cases h12 : pickN r.whr 20 < 12
  · rw [if_pos h12, if_pos h12]
    refine ⟨?_, ?_⟩
    · unfold readHostP
      have e1 : [46] ++ nameS (pickN r.whr 20) ≠ [42] := by intro e; simp at e
      have e2 : cutAt 47 ([46] ++ nameS (pickN r.whr 20)) = none := by
        rw [cutAt_none] at n3 ⊢
        simp only [List.mem_append, not_or]
        exact ⟨by decide, n3⟩
      rw [if_neg e1, e2]
      simp only
      rw [if_pos (by rfl), if_pos (by exact n1)]
      rfl
    · intro c hc
      rcases List.mem_append.1 hc with hc | hc
      · simp at hc; rw [hc]; decide
      · exact n5 c hc
  rw [if_neg h12, if_neg h12]
  by_cases h19 : pickN r.whr 20 < 19
  · rw [if_pos h19, if_pos h19]
    have hb := pickN_lt r.bts (n := 33) (by decide)
    have hA := pickN_lt r.whr (n := 4294967296) (by decide)
    have hn := netA_lt r
    have h47 : (47 : UInt8) ∉ dotted (netA r) := fun hm => by
      rcases dotted_fig _ _ hm with h | h
      · exact absurd h (by decide)
      · exact absurd h (by decide)
    refine ⟨?_, ?_⟩
    · unfold readHostP
      have e0 : dotted (netA r) ++ [47] ++ digits (pickN r.bts 33) = dotted (netA r) ++ 47 :: digits (pickN r.bts 33) := by simp
      have e1 : dotted (netA r) ++ [47] ++ digits (pickN r.bts 33) ≠ [42] := by
        intro e
        have : (47 : UInt8) ∈ ([42] : List UInt8) := by rw [← e]; simp
        exact absurd this (by decide)
      rw [if_neg e1, e0, cutAt_some.2 ⟨rfl, h47⟩]
      simp only
      unfold readNetP
      rw [address_dotted _ hn, number_digits _ 32 (by omega)]
      simp only
      rw [if_pos]
      exact firstN_self _ _ hb hA
    · intro c hc
      simp only [List.mem_append, List.mem_singleton] at hc
      rcases hc with (hc | hc) | hc
      · rcases dotted_fig _ _ hc with h | h
        · exact fieldB_fig h
        · rw [h]; decide
      · rw [hc]; decide
      · exact fieldB_fig (digits_mem hc)
  · rw [if_neg h19, if_neg h19]; exact ⟨rfl, by decide⟩

theorem digits_ne (n : Nat) (x : UInt8) (hx : fig x = false) (l : List UInt8) : digits n ++ l ≠ [x] := by
  obtain ⟨h1, _, h3, _⟩ := digits_facts (n + 1) n (by omega)
  intro e
  cases hd : digits n with
  | nil => exact h3 hd
  | cons a t =>
    rw [hd] at e h1
    simp at e
    have := h1 a (by simp)
    rw [e.1, hx] at this
    cases this
theorem dash_digits (a b : Nat) : cutAt 45 (digits a ++ [45] ++ digits b) = some (digits a, digits b) := by
  rw [show digits a ++ [45] ++ digits b = digits a ++ 45 :: digits b by simp]
  exact cutAt_some.2 ⟨rfl, not_digits 45 (by decide)⟩
theorem span_digits (a b hi : Nat) (ha : a ≤ hi) (hb : b ≤ hi) : span (digits a ++ [45] ++ digits b) hi = some (a, b) := by
  unfold span
  rw [dash_digits]
  simp only
  rw [number_digits a hi ha]
  simp only
  rw [number_digits b hi hb]
theorem mem_span {a b : Nat} {c : UInt8} (h : c ∈ digits a ++ [45] ++ digits b) : fieldB c = true := by
  simp only [List.mem_append, List.mem_singleton] at h
  rcases h with (h | h) | h
  · exact fieldB_fig (digits_mem h)
  · rw [h]; decide
  · exact fieldB_fig (digits_mem h)

theorem port_read (r : RawR) : readPortP (portT r) = some (portOf r) ∧ ∀ c ∈ portT r, fieldB c = true := by
  unfold portT portOf
  have h1 := pickN_lt r.frm (n := 65536) (by decide)
  have h2 := pickN_lt r.til (n := 65536) (by decide)
  by_cases h : pickN r.til 65536 < pickN r.frm 65536
  · rw [if_pos h, if_pos h]
    refine ⟨?_, fun c hc => fieldB_fig (digits_mem hc)⟩
    unfold readPortP
    have e1 : digits (pickN r.frm 65536) ≠ [42] := by have := digits_ne (pickN r.frm 65536) 42 (by decide) []; simpa using this
    rw [if_neg e1, cutAt_none.2 (not_digits 45 (by decide))]
    simp only
    rw [number_digits _ 65535 (by omega)]
  rw [if_neg h, if_neg h]
  by_cases h3 : r.frm.tmod 3 ≠ 0
  · rw [if_pos h3, if_pos h3]
    refine ⟨?_, fun c hc => mem_span hc⟩
    unfold readPortP
    have e1 : digits (pickN r.frm 65536) ++ [45] ++ digits (pickN r.til 65536) ≠ [42] := by rw [List.append_assoc]; exact digits_ne _ 42 (by decide) _
    rw [if_neg e1, dash_digits]
    simp only
    rw [span_digits _ _ 65535 (by omega) (by omega)]
    simp only
    rw [if_pos (by omega)]
  · rw [if_neg h3, if_neg h3]; exact ⟨rfl, by decide⟩

theorem when_read (r : RawR) : readMinP (whenT r) = some (minOf r) ∧ ∀ c ∈ whenT r, fieldB c = true := by
  unfold whenT minOf
  have h1 := pickN_lt r.beg (n := 10080) (by decide)
  have h2 := pickN_lt r.fin (n := 10080) (by decide)
  by_cases h3 : r.beg.tmod 3 ≠ 0
  · rw [if_pos h3, if_pos h3]
    refine ⟨?_, fun c hc => mem_span hc⟩
    unfold readMinP
    have e1 : digits (pickN r.beg 10080) ++ [45] ++ digits (pickN r.fin 10080) ≠ [42] := by rw [List.append_assoc]; exact digits_ne _ 42 (by decide) _
    rw [if_neg e1, span_digits _ _ 10079 (by omega) (by omega)]
  · rw [if_neg h3, if_neg h3]; exact ⟨rfl, by decide⟩

theorem field_not {l : List UInt8} {x : UInt8} (h : ∀ c ∈ l, fieldB c = true) (hx : fieldB x = false) : x ∉ l := fun hm => by rw [h x hm] at hx; cases hx

theorem line_read (r : RawR) : readRule (lineT r) = some (ruleOf r) := by
  obtain ⟨a1, a2⟩ := says_read r
  obtain ⟨b1, b2⟩ := who_read r
  obtain ⟨c1, c2⟩ := where_read r
  obtain ⟨d1, d2⟩ := port_read r
  obtain ⟨e1, e2⟩ := when_read r
  have hp : parts 32 (lineT r) = [saysT r, whoT r, whereT r, portT r, whenT r] := by
    unfold lineT
    rw [parts_first (field_not a2 (by decide)), parts_first (field_not b2 (by decide)), parts_first (field_not c2 (by decide)), parts_first (field_not d2 (by decide)), parts_alone (field_not e2 (by decide))]
  unfold readRule
  rw [hp]
  simp only [a1, b1, c1, d1, e1]
  rfl
theorem line_bytes (r : RawR) : ∀ c ∈ lineT r, fieldB c = true ∨ c = 32 := by
  intro c hc
  unfold lineT at hc
  simp only [List.mem_append, List.mem_cons] at hc
  rcases hc with hc | hc | hc | hc | hc | hc | hc | hc | hc
  · exact .inl ((says_read r).2 c hc)
  · exact .inr hc
  · exact .inl ((who_read r).2 c hc)
  · exact .inr hc
  · exact .inl ((where_read r).2 c hc)
  · exact .inr hc
  · exact .inl ((port_read r).2 c hc)
  · exact .inr hc
  · exact .inl ((when_read r).2 c hc)
theorem line_no10 (r : RawR) : (10 : UInt8) ∉ lineT r := fun hm => by
  rcases line_bytes r _ hm with h | h <;> exact absurd h (by decide)
theorem line_ne (r : RawR) : lineT r ≠ [] := by unfold lineT; simp
end Go.Proofs.YtfkggpminmonmaaDoor.Plain

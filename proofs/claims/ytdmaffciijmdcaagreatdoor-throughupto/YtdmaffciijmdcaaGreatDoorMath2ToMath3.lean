/-
  A rule's line reads as the rule it was made of; a line with a byte that stands in no rule is none.
-/
import Derived.Test.YtdmaffciijmdcaaGreatDoorGate12ToMath1
namespace Go.Proofs.YtdmaffciijmdcaaGreatDoor.Plain

/-- The rule that raw numbers make. -/
def hostOf (r : RawR) : HostP :=
  if pickN r.whr 20 < 6 then ⟨1, nameS (pickN r.whr 20), [], 0⟩ else if pickN r.whr 20 < 12 then ⟨2, nameS (pickN r.whr 20), [], 0⟩
  else if pickN r.whr 20 < 19 then ⟨3, [], oct (netA r), pickN r.bts 33⟩ else ⟨0, [], [], 0⟩
def portOf (r : RawR) : Option (Nat × Nat) :=
  if pickN r.til 65536 < pickN r.frm 65536 then some (pickN r.frm 65536, pickN r.frm 65536) else if r.frm.tmod 3 ≠ 0 then some (pickN r.frm 65536, pickN r.til 65536) else none
def minOf (r : RawR) : Option (Nat × Nat) := if r.beg.tmod 3 ≠ 0 then some (pickN r.beg 10080, pickN r.fin 10080) else none
def ruleOf (r : RawR) : RuleS := ⟨decide (pickN r.says 2 = 0), if pickN r.who 4 < 3 then some (tenantS (pickN r.who 4)) else none, hostOf r, portOf r, minOf r⟩

def lineT (r : RawR) : List UInt8 := saysT r ++ 32 :: (whoT r ++ 32 :: (whereT r ++ 32 :: (portT r ++ 32 :: whenT r)))
theorem ruleT_line (r : RawR) : ruleT r = lineT r ++ [10] := by unfold ruleT lineT; simp

theorem says_read (r : RawR) : readVerd (saysT r) = some (decide (pickN r.says 2 = 0)) ∧ ∀ c ∈ saysT r, fieldB c = true := by
  unfold saysT
  by_cases h : pickN r.says 2 = 0
  · rw [if_pos h, decide_eq_true h]; exact ⟨rfl, by decide⟩
  · rw [if_neg h, decide_eq_false h]; exact ⟨rfl, by decide⟩

theorem tenantS_ok (n : Nat) : tenantOk (tenantS n) = true ∧ tenantS n ≠ [42] ∧ ∀ c ∈ tenantS n, fieldB c = true := by
  unfold tenantS
  split <;> exact ⟨by decide, by decide, by decide⟩
theorem who_read (r : RawR) : readTen (whoT r) = some (if pickN r.who 4 < 3 then some (tenantS (pickN r.who 4)) else none) ∧ ∀ c ∈ whoT r, fieldB c = true := by
  unfold whoT
  by_cases h : pickN r.who 4 < 3
  · obtain ⟨h1, h2, h3⟩ := tenantS_ok (pickN r.who 4)
    rw [if_pos h, if_pos h]
    refine ⟨?_, h3⟩
    unfold readTen
    rw [if_neg h2, if_pos h1]
  · rw [if_neg h, if_neg h]; exact ⟨rfl, by decide⟩

theorem nameS_ok (n : Nat) : nameOk (nameS n) = true ∧ nameS n ≠ [42] ∧ cutAt 47 (nameS n) = none ∧ (nameS n).head? ≠ some 46 ∧ ∀ c ∈ nameS n, fieldB c = true := by
  unfold nameS
  split <;> exact ⟨by decide, by decide, by decide, by decide, by decide⟩

theorem dotted_fig (a : Nat) : ∀ c ∈ dotted a, fig c = true ∨ c = 46 := by
  intro c hc
  unfold dotted at hc
  simp only [List.mem_append, List.mem_singleton] at hc
  rcases hc with (((((hc | hc) | hc) | hc) | hc) | hc) | hc
  · exact .inl (digits_mem hc)
  · exact .inr hc
  · exact .inl (digits_mem hc)
  · exact .inr hc
  · exact .inl (digits_mem hc)
  · exact .inr hc
  · exact .inl (digits_mem hc)

theorem where_read (r : RawR) : readHostP (whereT r) = some (hostOf r) ∧ ∀ c ∈ whereT r, fieldB c = true := by
  unfold whereT hostOf
  obtain ⟨n1, n2, n3, n4, n5⟩ := nameS_ok (pickN r.whr 20)
  by_cases h6 : pickN r.whr 20 < 6
  · rw [if_pos h6, if_pos h6]
    refine ⟨?_, n5⟩
    unfold readHostP
    rw [if_neg n2, n3]
    simp only
    rw [if_neg n4, if_pos n1]
  rw [if_neg h6, if_neg h6]
  by_cases h12 : pickN r.whr 20 < 12
  · rw [if_pos h12, if_pos h12]
    refine ⟨?_, ?_⟩
    · unfold readHostP
      have e1 : [46] ++ nameS (pickN r.whr 20) ≠ [42] := by intro e; simp at e
      have e2 : cutAt 47 ([46] ++ nameS (pickN r.whr 20)) = none := by
        rw [cutAt_none] at n3 ⊢
        simp only [List.mem_append, not_or]
        exact ⟨by decide, n3⟩
      rw [if_neg e1, e2]
      simp only
      rw [if_pos (by rfl), if_pos (by exact n1)]
      rfl
    · intro c hc
      rcases List.mem_append.1 hc with hc | hc
      · simp at hc; rw [hc]; decide
      · exact n5 c hc
  rw [if_neg h12, if_neg h12]
  by_cases h19 : pickN r.whr 20 < 19
  · rw [if_pos h19, if_pos h19]
    have hb := pickN_lt r.bts (n := 33) (by decide)
    have hA := pickN_lt r.whr (n := 4294967296) (by decide)
    have hn := netA_lt r
    have h47 : (47 : UInt8) ∉ dotted (netA r) := fun hm => by
      rcases dotted_fig _ _ hm with h | h
      · exact absurd h (by decide)
      · exact absurd h (by decide)
    refine ⟨?_, ?_⟩
    · unfold readHostP
      have e0 : dotted (netA r) ++ [47] ++ digits (pickN r.bts 33) = dotted (netA r) ++ 47 :: digits (pickN r.bts 33) := by simp
      have e1 : dotted (netA r) ++ [47] ++ digits (pickN r.bts 33) ≠ [42] := by
        intro e
        have : (47 : UInt8) ∈ ([42] : List UInt8) := by rw [← e]; simp
        exact absurd this (by decide)
      rw [if_neg e1, e0, cutAt_some.2 ⟨rfl, h47⟩]
      simp only
      unfold readNetP
      rw [address_dotted _ hn, number_digits _ 32 (by omega)]
      simp only
      rw [if_pos]
      exact firstN_self _ _ hb hA
    · intro c hc
      simp only [List.mem_append, List.mem_singleton] at hc
      rcases hc with (hc | hc) | hc
      · rcases dotted_fig _ _ hc with h | h
        · exact fieldB_fig h
        · rw [h]; decide
      · rw [hc]; decide
      · exact fieldB_fig (digits_mem hc)
  · rw [if_neg h19, if_neg h19]; exact ⟨rfl, by decide⟩

theorem digits_ne (n : Nat) (x : UInt8) (hx : fig x = false) (l : List UInt8) : digits n ++ l ≠ [x] := by
  obtain ⟨h1, _, h3, _⟩ := digits_facts (n + 1) n (by omega)
  intro e
  cases hd : digits n with
  | nil => exact h3 hd
  | cons a t =>
    rw [hd] at e h1
    simp at e
    have := h1 a (by simp)
    rw [e.1, hx] at this
    cases this
theorem dash_digits (a b : Nat) : cutAt 45 (digits a ++ [45] ++ digits b) = some (digits a, digits b) := by
  rw [show digits a ++ [45] ++ digits b = digits a ++ 45 :: digits b by simp]
  exact cutAt_some.2 ⟨rfl, not_digits 45 (by decide)⟩
theorem span_digits (a b hi : Nat) (ha : a ≤ hi) (hb : b ≤ hi) : span (digits a ++ [45] ++ digits b) hi = some (a, b) := by
  unfold span
  rw [dash_digits]
  simp only
  rw [number_digits a hi ha]
  simp only
  rw [number_digits b hi hb]
theorem mem_span {a b : Nat} {c : UInt8} (h : c ∈ digits a ++ [45] ++ digits b) : fieldB c = true := by
  simp only [List.mem_append, List.mem_singleton] at h
  rcases h with (h | h) | h
  · exact fieldB_fig (digits_mem h)
  · rw [h]; decide
  · exact fieldB_fig (digits_mem h)

theorem port_read (r : RawR) : readPortP (portT r) = some (portOf r) ∧ ∀ c ∈ portT r, fieldB c = true := by
  unfold portT portOf
  have h1 := pickN_lt r.frm (n := 65536) (by decide)
  have h2 := pickN_lt r.til (n := 65536) (by decide)
  by_cases h : pickN r.til 65536 < pickN r.frm 65536
  · rw [if_pos h, if_pos h]
    refine ⟨?_, fun c hc => fieldB_fig (digits_mem hc)⟩
    unfold readPortP
    have e1 : digits (pickN r.frm 65536) ≠ [42] := by have := digits_ne (pickN r.frm 65536) 42 (by decide) []; simpa using this
    rw [if_neg e1, cutAt_none.2 (not_digits 45 (by decide))]
    simp only
    rw [number_digits _ 65535 (by omega)]
  rw [if_neg h, if_neg h]
  by_cases h3 : r.frm.tmod 3 ≠ 0
  · rw [if_pos h3, if_pos h3]
    refine ⟨?_, fun c hc => mem_span hc⟩
    unfold readPortP
    have e1 : digits (pickN r.frm 65536) ++ [45] ++ digits (pickN r.til 65536) ≠ [42] := by rw [List.append_assoc]; exact digits_ne _ 42 (by decide) _
    rw [if_neg e1, dash_digits]
    simp only
    rw [span_digits _ _ 65535 (by omega) (by omega)]
    simp only
    rw [if_pos (by omega)]
  · rw [if_neg h3, if_neg h3]; exact ⟨rfl, by decide⟩

theorem when_read (r : RawR) : readMinP (whenT r) = some (minOf r) ∧ ∀ c ∈ whenT r, fieldB c = true := by
  unfold whenT minOf
  have h1 := pickN_lt r.beg (n := 10080) (by decide)
  have h2 := pickN_lt r.fin (n := 10080) (by decide)
  by_cases h3 : r.beg.tmod 3 ≠ 0
  · rw [if_pos h3, if_pos h3]
    refine ⟨?_, fun c hc => mem_span hc⟩
    unfold readMinP
    have e1 : digits (pickN r.beg 10080) ++ [45] ++ digits (pickN r.fin 10080) ≠ [42] := by rw [List.append_assoc]; exact digits_ne _ 42 (by decide) _
    rw [if_neg e1, span_digits _ _ 10079 (by omega) (by omega)]
  · rw [if_neg h3, if_neg h3]; exact ⟨rfl, by decide⟩

theorem field_not {l : List UInt8} {x : UInt8} (h : ∀ c ∈ l, fieldB c = true) (hx : fieldB x = false) : x ∉ l := fun hm => by rw [h x hm] at hx; cases hx

theorem line_read (r : RawR) : readRule (lineT r) = some (ruleOf r) := by
  obtain ⟨a1, a2⟩ := says_read r
  obtain ⟨b1, b2⟩ := who_read r
  obtain ⟨c1, c2⟩ := where_read r
  obtain ⟨d1, d2⟩ := port_read r
  obtain ⟨e1, e2⟩ := when_read r
  have hp : parts 32 (lineT r) = [saysT r, whoT r, whereT r, portT r, whenT r] := by
    unfold lineT
    rw [parts_first (field_not a2 (by decide)), parts_first (field_not b2 (by decide)), parts_first (field_not c2 (by decide)), parts_first (field_not d2 (by decide)), parts_alone (field_not e2 (by decide))]
  unfold readRule
  rw [hp]
  simp only [a1, b1, c1, d1, e1]
  rfl
theorem line_bytes (r : RawR) : ∀ c ∈ lineT r, fieldB c = true ∨ c = 32 := by
  intro c hc
  unfold lineT at hc
  simp only [List.mem_append, List.mem_cons] at hc
  rcases hc with hc | hc | hc | hc | hc | hc | hc | hc | hc
  · exact .inl ((says_read r).2 c hc)
  · exact .inr hc
  · exact .inl ((who_read r).2 c hc)
  · exact .inr hc
  · exact .inl ((where_read r).2 c hc)
  · exact .inr hc
  · exact .inl ((port_read r).2 c hc)
  · exact .inr hc
  · exact .inl ((when_read r).2 c hc)
theorem line_no10 (r : RawR) : (10 : UInt8) ∉ lineT r := fun hm => by
  rcases line_bytes r _ hm with h | h <;> exact absurd h (by decide)
theorem line_ne (r : RawR) : lineT r ≠ [] := by unfold lineT; simp
end Go.Proofs.YtdmaffciijmdcaaGreatDoor.Plain
/-
  Rules with a spoiled line are refused, with its number; so are rules whose last byte is cut off.
-/
namespace Go.Proofs.YtdmaffciijmdcaaGreatDoor.Plain

theorem mem_parts {s c : UInt8} : ∀ {l : List UInt8}, c ∈ l → c = s ∨ ∃ p ∈ parts s l, c ∈ p
  | b :: l, h => by
    rw [parts]
    by_cases hb : b = s
    · rw [if_pos hb]
      rcases List.mem_cons.1 h with h | h
      · exact .inl (h.trans hb)
      · rcases mem_parts (s := s) h with h | ⟨p, hp, hc⟩
        · exact .inl h
        · exact .inr ⟨p, List.mem_cons_of_mem _ hp, hc⟩
    · rw [if_neg hb]
      cases hp : parts s l with
      | nil => exact absurd hp (parts_ne _ _)
      | cons q qs =>
        rcases List.mem_cons.1 h with h | h
        · exact .inr ⟨b :: q, by simp, by rw [h]; simp⟩
        · rcases mem_parts (s := s) h with h | ⟨p, hpp, hc⟩
          · exact .inl h
          · rw [hp] at hpp
            rcases List.mem_cons.1 hpp with e | e
            · exact .inr ⟨b :: q, by simp, by rw [← e]; exact List.mem_cons_of_mem _ hc⟩
            · exact .inr ⟨p, List.mem_cons_of_mem _ e, hc⟩

theorem number_bytes {l : List UInt8} {hi n : Nat} (h : number l hi = some n) : ∀ c ∈ l, fieldB c = true := by
  unfold number at h
  split at h
  · rename_i hc
    have := hc.1
    unfold numForm at this
    rw [Bool.and_eq_true, Bool.and_eq_true] at this
    have ha := this.1.2
    unfold allB at ha
    rw [List.all_eq_true] at ha
    exact fun c hm => fieldB_fig (ha c hm)
  · cases h
theorem octets_bytes : ∀ {ps : List (List UInt8)} {r : List Nat}, octets ps = some r → ∀ p ∈ ps, ∀ c ∈ p, fieldB c = true
  | [], _, _, p, hp => by cases hp
  | q :: qs, r, h, p, hp => by
    unfold octets at h
    cases hq : number q 255 with
    | none => rw [hq] at h; cases h
    | some n =>
      rw [hq] at h
      simp only at h
      cases ho : octets qs with
      | none => rw [ho] at h; cases h
      | some l =>
        rcases List.mem_cons.1 hp with e | e
        · rw [e]; exact number_bytes hq
        · exact octets_bytes ho p e
theorem address_bytes {l : List UInt8} {r : List Nat} (h : address l = some r) : ∀ c ∈ l, fieldB c = true := by
  unfold address at h
  split at h
  · intro c hc
    rcases mem_parts (s := 46) hc with e | ⟨p, hp, hm⟩
    · rw [e]; decide
    · exact octets_bytes h p hp c hm
  · cases h
theorem name_bytes {l : List UInt8} (h : nameOk l = true) : ∀ c ∈ l, fieldB c = true := by
  unfold nameOk at h
  rw [Bool.and_eq_true, Bool.and_eq_true] at h
  have ha := h.1.2
  rw [List.all_eq_true] at ha
  intro c hc
  rcases mem_parts (s := 46) hc with e | ⟨p, hp, hm⟩
  · rw [e]; decide
  · have hl := ha p hp
    unfold labelOk at hl
    rw [Bool.and_eq_true, Bool.and_eq_true] at hl
    have hb := hl.1.2
    unfold allB at hb
    rw [List.all_eq_true] at hb
    have := hb c hm
    unfold ofLabel at this
    unfold fieldB
    simp only [Bool.or_eq_true, beq_iff_eq] at this ⊢
    rcases this with (h1 | h1) | h1
    · simp [h1]
    · simp [h1]
    · have e : c = 45 := UInt8.toNat_inj.1 (by show c.toNat = 45; omega)
      simp [e]
theorem verd_bytes {l : List UInt8} {b : Bool} (h : readVerd l = some b) : ∀ c ∈ l, fieldB c = true := by
  unfold readVerd at h
  split at h
  · rename_i e; rw [e]; decide
  · split at h
    · rename_i e; rw [e]; decide
    · cases h
theorem ten_bytes {l : List UInt8} {t : Option (List UInt8)} (h : readTen l = some t) : ∀ c ∈ l, fieldB c = true := by
  unfold readTen at h
  split at h
  · rename_i e; rw [e]; decide
  · split at h
    · rename_i hok
      unfold tenantOk at hok
      rw [Bool.and_eq_true] at hok
      have hb := hok.2
      unfold allB at hb
      rw [List.all_eq_true] at hb
      intro c hc
      unfold fieldB
      rw [hb c hc]; simp
    · cases h
theorem cut_bytes {s : UInt8} {l a r : List UInt8} (h : cutAt s l = some (a, r)) (hs : fieldB s = true) (ha : ∀ c ∈ a, fieldB c = true) (hr : ∀ c ∈ r, fieldB c = true) : ∀ c ∈ l, fieldB c = true := by
  rw [(cutAt_some.1 h).1]
  intro c hc
  rcases List.mem_append.1 hc with hc | hc
  · exact ha c hc
  · rcases List.mem_cons.1 hc with hc | hc
    · rw [hc]; exact hs
    · exact hr c hc
theorem span_bytes {l : List UInt8} {hi : Nat} {p : Nat × Nat} (h : span l hi = some p) : ∀ c ∈ l, fieldB c = true := by
  obtain ⟨a, b, hc, ha, hb⟩ := span_some h
  exact cut_bytes hc (by decide) (number_bytes ha) (number_bytes hb)
theorem host_bytes {l : List UInt8} {p : HostP} (h : readHostP l = some p) : ∀ c ∈ l, fieldB c = true := by
  unfold readHostP at h
  split at h
  · rename_i e; rw [e]; decide
  · cases hc : cutAt 47 l with
    | some x =>
      obtain ⟨a, r⟩ := x
      rw [hc] at h
      simp only at h
      obtain ⟨x0, x1, x2, x3, n, h1, h2, _⟩ := net_some h
      exact cut_bytes hc (by decide) (address_bytes h1) (number_bytes h2)
    | none =>
      rw [hc] at h
      simp only at h
      split at h
      · rename_i hd
        split at h
        · rename_i hn
          have hb := name_bytes hn
          cases l with
          | nil => simp
          | cons x l =>
            simp at hd hb
            intro c hm
            rcases List.mem_cons.1 hm with e | e
            · rw [e, hd]; decide
            · exact hb c e
        · cases h
      · split at h
        · rename_i hn; exact name_bytes hn
        · cases h
theorem port_bytes {l : List UInt8} {p : Option (Nat × Nat)} (h : readPortP l = some p) : ∀ c ∈ l, fieldB c = true := by
  unfold readPortP at h
  split at h
  · rename_i e; rw [e]; decide
  · cases hc : cutAt 45 l with
    | none =>
      rw [hc] at h
      simp only at h
      cases hn : number l 65535 with
      | none => rw [hn] at h; cases h
      | some n => exact number_bytes hn
    | some x =>
      rw [hc] at h
      simp only at h
      cases hn : span l 65535 with
      | none => rw [hn] at h; cases h
      | some y => exact span_bytes hn
theorem min_bytes {l : List UInt8} {p : Option (Nat × Nat)} (h : readMinP l = some p) : ∀ c ∈ l, fieldB c = true := by
  unfold readMinP at h
  split at h
  · rename_i e; rw [e]; decide
  · cases hn : span l 10079 with
    | none => rw [hn] at h; cases h
    | some y => exact span_bytes hn

/-- A rule is of bytes of its fields, and spaces. -/
theorem rule_bytes {l : List UInt8} {r : RuleS} (h : readRule l = some r) : ∀ c ∈ l, fieldB c = true ∨ c = 32 := by
  unfold readRule at h
  split at h
  · rename_i f0 f1 f2 f3 f4 hp
    cases h0 : readVerd f0 with
    | none => rw [h0] at h; cases h
    | some v => cases h1 : readTen f1 with
      | none => rw [h0, h1] at h; cases h
      | some t => cases h2 : readHostP f2 with
        | none => rw [h0, h1, h2] at h; cases h
        | some hh => cases h3 : readPortP f3 with
          | none => rw [h0, h1, h2, h3] at h; cases h
          | some p => cases h4 : readMinP f4 with
            | none => rw [h0, h1, h2, h3, h4] at h; cases h
            | some m =>
              intro c hc
              rcases mem_parts (s := 32) hc with e | ⟨q, hq, hm⟩
              · exact .inr e
              · rw [hp] at hq
                simp only [List.mem_cons, List.not_mem_nil, or_false] at hq
                rcases hq with rfl | rfl | rfl | rfl | rfl
                · exact .inl (verd_bytes h0 c hm)
                · exact .inl (ten_bytes h1 c hm)
                · exact .inl (host_bytes h2 c hm)
                · exact .inl (port_bytes h3 c hm)
                · exact .inl (min_bytes h4 c hm)
  · cases h

/-- The bytes that stand in no rule. -/
def spoils (c : UInt8) : Bool := !fieldB c && c != 32 && c != 10

theorem rulesOf_cons {n : Nat} {l : List UInt8} {ls : List (List UInt8)} (hls : ls ≠ []) (h : ¬ 40 < n) : rulesOf n (l :: ls) = match readRule l with
    | none => .error (3, n)
    | some r => match rulesOf (n + 1) ls with
      | .error e => .error e
      | .ok rs => .ok (r :: rs) := by
  cases ls with
  | nil => exact absurd rfl hls
  | cons m ls => rw [rulesOf, if_neg h]; rfl

theorem flat_cons (r : RawR) (l : List RawR) : (r :: l).flatMap ruleT = lineT r ++ 10 :: l.flatMap ruleT := by
  rw [List.flatMap_cons, ruleT_line]; simp

/-- Right as they were made. -/
theorem rules_right : ∀ (l : List RawR) (n : Nat), n + l.length ≤ 41 → rulesOf n (parts 10 (l.flatMap ruleT)) = .ok (l.map ruleOf)
  | [], n, _ => by simp [parts, rulesOf]
  | r :: l, n, h => by
    rw [flat_cons, parts_first (line_no10 r), rulesOf_cons (parts_ne _ _) (by simp at h; omega), line_read, rules_right l (n + 1) (by simp at h; omega)]
    rfl

/-- Spoiled in one byte. -/
theorem rules_spoiled (c : UInt8) (hc : spoils c = true) : ∀ (l : List RawR) (n k : Nat) (b : UInt8), n + l.length ≤ 41 → (l.flatMap ruleT)[k]? = some b → b ≠ 10 →
    rulesOf n (parts 10 ((l.flatMap ruleT).take k ++ c :: (l.flatMap ruleT).drop (k + 1))) = .error (3, n + ((l.flatMap ruleT).take k).count 10)
  | [], n, k, b, _, hk, _ => by simp at hk
  | r :: l, n, k, b, h, hk, hb => by
    have hc' := hc
    unfold spoils at hc'
    simp only [Bool.and_eq_true, Bool.not_eq_true', bne_iff_ne] at hc'
    obtain ⟨⟨hc1, hc2⟩, hc3⟩ := hc'
    rw [flat_cons] at hk ⊢
    by_cases hlt : k < (lineT r).length
    · rw [List.take_append_of_le_length (by omega), List.drop_append_of_le_length (by omega)]
      have h10 : (10 : UInt8) ∉ (lineT r).take k := fun hm => line_no10 r (List.mem_of_mem_take hm)
      have h10' : (10 : UInt8) ∉ (lineT r).drop (k + 1) := fun hm => line_no10 r (List.mem_of_mem_drop hm)
      have hx : (10 : UInt8) ∉ (lineT r).take k ++ c :: (lineT r).drop (k + 1) := by
        intro hm
        rcases List.mem_append.1 hm with hm | hm
        · exact h10 hm
        · rcases List.mem_cons.1 hm with hm | hm
          · exact hc3 hm.symm
          · exact h10' hm
      rw [show (lineT r).take k ++ c :: ((lineT r).drop (k + 1) ++ 10 :: l.flatMap ruleT) = ((lineT r).take k ++ c :: (lineT r).drop (k + 1)) ++ 10 :: l.flatMap ruleT by simp]
      rw [parts_first hx, rulesOf_cons (parts_ne _ _) (by simp at h; omega)]
      have hn : readRule ((lineT r).take k ++ c :: (lineT r).drop (k + 1)) = none := by
        cases hr : readRule ((lineT r).take k ++ c :: (lineT r).drop (k + 1)) with
        | none => rfl
        | some x =>
          rcases rule_bytes hr c (by simp) with e | e
          · rw [hc1] at e; cases e
          · exact absurd e hc2
      rw [hn, List.count_eq_zero_of_not_mem h10]
      rfl
    · have hne : k ≠ (lineT r).length := fun e => by
        rw [e, List.getElem?_append_right (Nat.le_refl _), Nat.sub_self] at hk
        simp at hk
        exact hb hk.symm
      obtain ⟨k', rfl⟩ : ∃ k', k = (lineT r).length + 1 + k' := ⟨k - (lineT r).length - 1, by omega⟩
      have hk' : (l.flatMap ruleT)[k']? = some b := by
        rw [List.getElem?_append_right (by omega), show (lineT r).length + 1 + k' - (lineT r).length = k' + 1 by omega, List.getElem?_cons_succ] at hk
        exact hk
      have ih := rules_spoiled c hc l (n + 1) k' b (by simp at h; omega) hk' hb
      have et : (lineT r ++ 10 :: l.flatMap ruleT).take ((lineT r).length + 1 + k') = lineT r ++ 10 :: (l.flatMap ruleT).take k' := by
        rw [show (lineT r).length + 1 + k' = (lineT r).length + (k' + 1) by omega, List.take_length_add_append, List.take_succ_cons]
      have ed : (lineT r ++ 10 :: l.flatMap ruleT).drop ((lineT r).length + 1 + k' + 1) = (l.flatMap ruleT).drop (k' + 1) := by
        rw [show (lineT r).length + 1 + k' + 1 = (lineT r).length + (k' + 1 + 1) by omega, List.drop_length_add_append, List.drop_succ_cons]
      rw [et, ed, show lineT r ++ 10 :: (l.flatMap ruleT).take k' ++ c :: (l.flatMap ruleT).drop (k' + 1) = lineT r ++ 10 :: ((l.flatMap ruleT).take k' ++ c :: (l.flatMap ruleT).drop (k' + 1)) by simp]
      rw [parts_first (line_no10 r), rulesOf_cons (parts_ne _ _) (by simp at h; omega), line_read, ih]
      rw [List.count_append, List.count_eq_zero_of_not_mem (line_no10 r), List.count_cons_self]
      simp only
      congr 2
      omega

theorem count_lines : ∀ (l : List RawR), (l.flatMap ruleT).count 10 = l.length
  | [] => rfl
  | r :: l => by
    rw [flat_cons, List.count_append, List.count_eq_zero_of_not_mem (line_no10 r), List.count_cons_self, count_lines l]
    simp

theorem take_pred {a t : List UInt8} (h : 1 ≤ t.length) : (a ++ 10 :: t).take ((a ++ 10 :: t).length - 1) = a ++ 10 :: t.take (t.length - 1) := by
  rw [show (a ++ 10 :: t).length - 1 = a.length + ((t.length - 1) + 1) by simp; omega, List.take_length_add_append, List.take_succ_cons]
theorem flat_pos (q : RawR) (l : List RawR) : 1 ≤ ((q :: l).flatMap ruleT).length := by
  rw [flat_cons, List.length_append, List.length_cons]; omega
theorem cut_step (r : RawR) (t : List UInt8) (n m : Nat) (hn : ¬ 40 < n) (ih : rulesOf (n + 1) (parts 10 t) = .error (3, m)) : rulesOf n (parts 10 (lineT r ++ 10 :: t)) = .error (3, m) := by
  rw [parts_first (line_no10 r), rulesOf_cons (parts_ne _ _) hn, line_read, ih]

/-- The last byte cut off. -/
theorem rules_cut (l : List RawR) : ∀ (q : RawR) (n : Nat), n + l.length ≤ 40 → rulesOf n (parts 10 (((q :: l).flatMap ruleT).take (((q :: l).flatMap ruleT).length - 1))) = .error (3, n + l.length) := by
  induction l with
  | nil =>
    intro q n h
    have e : ([q].flatMap ruleT).take (([q].flatMap ruleT).length - 1) = lineT q := by
      rw [flat_cons]
      simp
    rw [e, parts_alone (line_no10 q), rulesOf, if_neg (line_ne q), if_neg (by simp at h; omega)]
    rfl
  | cons r l ih =>
    intro q n h
    rw [List.length_cons] at h ⊢
    rw [flat_cons q (r :: l), take_pred (flat_pos r l)]
    refine cut_step q _ n _ (by omega) ?_
    rw [ih r (n + 1) (by omega), show n + 1 + l.length = n + (l.length + 1) by omega]
end Go.Proofs.YtdmaffciijmdcaaGreatDoor.Plain

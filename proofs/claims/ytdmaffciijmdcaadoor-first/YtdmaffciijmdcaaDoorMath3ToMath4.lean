/-
  Rules with a spoiled line are refused, with its number; so are rules whose last byte is cut off.
-/
import Derived.Test.YtdmaffciijmdcaaDoorRowCToMath2
namespace Go.Proofs.YtdmaffciijmdcaaDoor.Plain

theorem mem_parts {s c : UInt8} : ∀ {l : List UInt8}, c ∈ l → c = s ∨ ∃ p ∈ parts s l, c ∈ p
  | b :: l, h => by
    rw [parts]
    by_cases hb : b = s
    · rw [if_pos hb]
      rcases List.mem_cons.1 h with h | h
      · exact .inl (h.trans hb)
      · rcases mem_parts (s := s) h with h | ⟨p, hp, hc⟩
        · exact .inl h
        · exact .inr ⟨p, List.mem_cons_of_mem _ hp, hc⟩
    · rw [if_neg hb]
      cases hp : parts s l with
      | nil => exact absurd hp (parts_ne _ _)
      | cons q qs =>
        rcases List.mem_cons.1 h with h | h
        · exact .inr ⟨b :: q, by simp, by rw [h]; simp⟩
        · rcases mem_parts (s := s) h with h | ⟨p, hpp, hc⟩
          · exact .inl h
          · rw [hp] at hpp
            rcases List.mem_cons.1 hpp with e | e
            · exact .inr ⟨b :: q, by simp, by rw [← e]; exact List.mem_cons_of_mem _ hc⟩
            · exact .inr ⟨p, List.mem_cons_of_mem _ e, hc⟩

theorem number_bytes {l : List UInt8} {hi n : Nat} (h : number l hi = some n) : ∀ c ∈ l, fieldB c = true := by
  unfold number at h
  split at h
  · rename_i hc
    have := hc.1
    unfold numForm at this
    rw [Bool.and_eq_true, Bool.and_eq_true] at this
    have ha := this.1.2
    unfold allB at ha
    rw [List.all_eq_true] at ha
    exact fun c hm => fieldB_fig (ha c hm)
  · cases h
theorem octets_bytes : ∀ {ps : List (List UInt8)} {r : List Nat}, octets ps = some r → ∀ p ∈ ps, ∀ c ∈ p, fieldB c = true
  | [], _, _, p, hp => by cases hp
  | q :: qs, r, h, p, hp => by
    unfold octets at h
    cases hq : number q 255 with
    | none => rw [hq] at h; cases h
    | some n =>
      rw [hq] at h
      simp only at h
      cases ho : octets qs with
      | none => rw [ho] at h; cases h
      | some l =>
        rcases List.mem_cons.1 hp with e | e
        · rw [e]; exact number_bytes hq
        · exact octets_bytes ho p e
theorem address_bytes {l : List UInt8} {r : List Nat} (h : address l = some r) : ∀ c ∈ l, fieldB c = true := by
  unfold address at h
  split at h
  · intro c hc
    rcases mem_parts (s := 46) hc with e | ⟨p, hp, hm⟩
    · rw [e]; decide
    · exact octets_bytes h p hp c hm
  · cases h
theorem name_bytes {l : List UInt8} (h : nameOk l = true) : ∀ c ∈ l, fieldB c = true := by
  unfold nameOk at h
  rw [Bool.and_eq_true, Bool.and_eq_true] at h
  have ha := h.1.2
  rw [List.all_eq_true] at ha
  intro c hc
  rcases mem_parts (s := 46) hc with e | ⟨p, hp, hm⟩
  · rw [e]; decide
  · have hl := ha p hp
    unfold labelOk at hl
    rw [Bool.and_eq_true, Bool.and_eq_true] at hl
    have hb := hl.1.2
    unfold allB at hb
    rw [List.all_eq_true] at hb
    have := hb c hm
    unfold ofLabel at this
    unfold fieldB
    simp only [Bool.or_eq_true, beq_iff_eq] at this ⊢
    rcases this with (h1 | h1) | h1
    · simp [h1]
    · simp [h1]
    · have e : c = 45 := UInt8.toNat_inj.1 (by show c.toNat = 45; omega)
      simp [e]
theorem verd_bytes {l : List UInt8} {b : Bool} (h : readVerd l = some b) : ∀ c ∈ l, fieldB c = true := by
  unfold readVerd at h
  split at h
  · rename_i e; rw [e]; decide
  · split at h
    · rename_i e; rw [e]; decide
    · cases h
theorem ten_bytes {l : List UInt8} {t : Option (List UInt8)} (h : readTen l = some t) : ∀ c ∈ l, fieldB c = true := by
  unfold readTen at h
  split at h
  · rename_i e; rw [e]; decide
  · split at h
    · rename_i hok
      unfold tenantOk at hok
      rw [Bool.and_eq_true] at hok
      have hb := hok.2
      unfold allB at hb
      rw [List.all_eq_true] at hb
      intro c hc
      unfold fieldB
      rw [hb c hc]; simp
    · cases h
theorem cut_bytes {s : UInt8} {l a r : List UInt8} (h : cutAt s l = some (a, r)) (hs : fieldB s = true) (ha : ∀ c ∈ a, fieldB c = true) (hr : ∀ c ∈ r, fieldB c = true) : ∀ c ∈ l, fieldB c = true := by
  rw [(cutAt_some.1 h).1]
  intro c hc
  rcases List.mem_append.1 hc with hc | hc
  · exact ha c hc
  · rcases List.mem_cons.1 hc with hc | hc
    · rw [hc]; exact hs
    · exact hr c hc
theorem span_bytes {l : List UInt8} {hi : Nat} {p : Nat × Nat} (h : span l hi = some p) : ∀ c ∈ l, fieldB c = true := by
  obtain ⟨a, b, hc, ha, hb⟩ := span_some h
  exact cut_bytes hc (by decide) (number_bytes ha) (number_bytes hb)
theorem host_bytes {l : List UInt8} {p : HostP} (h : readHostP l = some p) : ∀ c ∈ l, fieldB c = true := by
  unfold readHostP at h
  split at h
  · rename_i e; rw [e]; decide
  · cases hc : cutAt 47 l with
    | some x =>
      obtain ⟨a, r⟩ := x
      rw [hc] at h
      simp only at h
      obtain ⟨x0, x1, x2, x3, n, h1, h2, _⟩ := net_some h
      exact cut_bytes hc (by decide) (address_bytes h1) (number_bytes h2)
    | none =>
      rw [hc] at h
      simp only at h
      split at h
      · rename_i hd
        split at h
        · rename_i hn
          have hb := name_bytes hn
          cases l with
          | nil => simp
          | cons x l =>
            simp at hd hb
            intro c hm
            rcases List.mem_cons.1 hm with e | e
            · rw [e, hd]; decide
            · exact hb c e
        · cases h
      · split at h
        · rename_i hn; exact name_bytes hn
        · cases h
theorem port_bytes {l : List UInt8} {p : Option (Nat × Nat)} (h : readPortP l = some p) : ∀ c ∈ l, fieldB c = true := by
  unfold readPortP at h
  split at h
  · rename_i e; rw [e]; decide
  · cases hc : cutAt 45 l with
    | none =>
      rw [hc] at h
      simp only at h
      cases hn : number l 65535 with
      | none => rw [hn] at h; cases h
      | some n => exact number_bytes hn
    | some x =>
      rw [hc] at h
      simp only at h
      cases hn : span l 65535 with
      | none => rw [hn] at h; cases h
      | some y => exact span_bytes hn
theorem min_bytes {l : List UInt8} {p : Option (Nat × Nat)} (h : readMinP l = some p) : ∀ c ∈ l, fieldB c = true := by
  unfold readMinP at h
  split at h
  · rename_i e; rw [e]; decide
  · cases hn : span l 10079 with
    | none => rw [hn] at h; cases h
    | some y => exact span_bytes hn

/-- A rule is of bytes of its fields, and spaces. -/
theorem rule_bytes {l : List UInt8} {r : RuleS} (h : readRule l = some r) : ∀ c ∈ l, fieldB c = true ∨ c = 32 := by
  unfold readRule at h
  split at h
  · rename_i f0 f1 f2 f3 f4 hp
    cases h0 : readVerd f0 with
    | none => rw [h0] at h; cases h
    | some v => cases h1 : readTen f1 with
      | none => rw [h0, h1] at h; cases h
      | some t => cases h2 : readHostP f2 with
        | none => rw [h0, h1, h2] at h; cases h
        | some hh => cases h3 : readPortP f3 with
          | none => rw [h0, h1, h2, h3] at h; cases h
          | some p => cases h4 : readMinP f4 with
            | none => rw [h0, h1, h2, h3, h4] at h; cases h
            | some m =>
              intro c hc
              rcases mem_parts (s := 32) hc with e | ⟨q, hq, hm⟩
              · exact .inr e
              · rw [hp] at hq
                simp only [List.mem_cons, List.not_mem_nil, or_false] at hq
                rcases hq with rfl | rfl | rfl | rfl | rfl
                · exact .inl (verd_bytes h0 c hm)
                · exact .inl (ten_bytes h1 c hm)
                · exact .inl (host_bytes h2 c hm)
                · exact .inl (port_bytes h3 c hm)
                · exact .inl (min_bytes h4 c hm)
  · cases h

/-- The bytes that stand in no rule. -/
def spoils (c : UInt8) : Bool := !fieldB c && c != 32 && c != 10

theorem rulesOf_cons {n : Nat} {l : List UInt8} {ls : List (List UInt8)} (hls : ls ≠ []) (h : ¬ 40 < n) : rulesOf n (l :: ls) = match readRule l with
    | none => .error (3, n)
    | some r => match rulesOf (n + 1) ls with
      | .error e => .error e
      | .ok rs => .ok (r :: rs) := by
  cases ls with
  | nil => exact absurd rfl hls
  | cons m ls => rw [rulesOf, if_neg h]; rfl

theorem flat_cons (r : RawR) (l : List RawR) : (r :: l).flatMap ruleT = lineT r ++ 10 :: l.flatMap ruleT := by
  rw [List.flatMap_cons, ruleT_line]; simp

/-- Right as they were made. -/
theorem rules_right : ∀ (l : List RawR) (n : Nat), n + l.length ≤ 41 → rulesOf n (parts 10 (l.flatMap ruleT)) = .ok (l.map ruleOf)
  | [], n, _ => by simp [parts, rulesOf]
  | r :: l, n, h => by
    rw [flat_cons, parts_first (line_no10 r), rulesOf_cons (parts_ne _ _) (by simp at h; omega), line_read, rules_right l (n + 1) (by simp at h; omega)]
    rfl

/-- Spoiled in one byte. -/
theorem rules_spoiled (c : UInt8) (hc : spoils c = true) : ∀ (l : List RawR) (n k : Nat) (b : UInt8), n + l.length ≤ 41 → (l.flatMap ruleT)[k]? = some b → b ≠ 10 →
    rulesOf n (parts 10 ((l.flatMap ruleT).take k ++ c :: (l.flatMap ruleT).drop (k + 1))) = .error (3, n + ((l.flatMap ruleT).take k).count 10)
  | [], n, k, b, _, hk, _ => by simp at hk
  | r :: l, n, k, b, h, hk, hb => by
    have hc' := hc
    unfold spoils at hc'
    simp only [Bool.and_eq_true, Bool.not_eq_true', bne_iff_ne] at hc'
    obtain ⟨⟨hc1, hc2⟩, hc3⟩ := hc'
    rw [flat_cons] at hk ⊢
    by_cases hlt : k < (lineT r).length
    · rw [List.take_append_of_le_length (by omega), List.drop_append_of_le_length (by omega)]
      have h10 : (10 : UInt8) ∉ (lineT r).take k := fun hm => line_no10 r (List.mem_of_mem_take hm)
      have h10' : (10 : UInt8) ∉ (lineT r).drop (k + 1) := fun hm => line_no10 r (List.mem_of_mem_drop hm)
      have hx : (10 : UInt8) ∉ (lineT r).take k ++ c :: (lineT r).drop (k + 1) := by
        intro hm
        rcases List.mem_append.1 hm with hm | hm
        · exact h10 hm
        · rcases List.mem_cons.1 hm with hm | hm
          · exact hc3 hm.symm
          · exact h10' hm
      rw [show (lineT r).take k ++ c :: ((lineT r).drop (k + 1) ++ 10 :: l.flatMap ruleT) = ((lineT r).take k ++ c :: (lineT r).drop (k + 1)) ++ 10 :: l.flatMap ruleT by simp]
      rw [parts_first hx, rulesOf_cons (parts_ne _ _) (by simp at h; omega)]
      have hn : readRule ((lineT r).take k ++ c :: (lineT r).drop (k + 1)) = none := by
        cases hr : readRule ((lineT r).take k ++ c :: (lineT r).drop (k + 1)) with
        | none => rfl
        | some x =>
          rcases rule_bytes hr c (by simp) with e | e
          · rw [hc1] at e; cases e
          · exact absurd e hc2
      rw [hn, List.count_eq_zero_of_not_mem h10]
      rfl
    · have hne : k ≠ (lineT r).length := fun e => by
        rw [e, List.getElem?_append_right (Nat.le_refl _), Nat.sub_self] at hk
        simp at hk
        exact hb hk.symm
      obtain ⟨k', rfl⟩ : ∃ k', k = (lineT r).length + 1 + k' := ⟨k - (lineT r).length - 1, by omega⟩
      have hk' : (l.flatMap ruleT)[k']? = some b := by
        rw [List.getElem?_append_right (by omega), show (lineT r).length + 1 + k' - (lineT r).length = k' + 1 by omega, List.getElem?_cons_succ] at hk
        exact hk
      have ih := rules_spoiled c hc l (n + 1) k' b (by simp at h; omega) hk' hb
      have et : (lineT r ++ 10 :: l.flatMap ruleT).take ((lineT r).length + 1 + k') = lineT r ++ 10 :: (l.flatMap ruleT).take k' := by
        rw [show (lineT r).length + 1 + k' = (lineT r).length + (k' + 1) by omega, List.take_length_add_append, List.take_succ_cons]
      have ed : (lineT r ++ 10 :: l.flatMap ruleT).drop ((lineT r).length + 1 + k' + 1) = (l.flatMap ruleT).drop (k' + 1) := by
        rw [show (lineT r).length + 1 + k' + 1 = (lineT r).length + (k' + 1 + 1) by omega, List.drop_length_add_append, List.drop_succ_cons]
      rw [et, ed, show lineT r ++ 10 :: (l.flatMap ruleT).take k' ++ c :: (l.flatMap ruleT).drop (k' + 1) = lineT r ++ 10 :: ((l.flatMap ruleT).take k' ++ c :: (l.flatMap ruleT).drop (k' + 1)) by simp]
      rw [parts_first (line_no10 r), rulesOf_cons (parts_ne _ _) (by simp at h; omega), line_read, ih]
      rw [List.count_append, List.count_eq_zero_of_not_mem (line_no10 r), List.count_cons_self]
      simp only
      congr 2
      omega

theorem count_lines : ∀ (l : List RawR), (l.flatMap ruleT).count 10 = l.length
  | [] => rfl
  | r :: l => by
    rw [flat_cons, List.count_append, List.count_eq_zero_of_not_mem (line_no10 r), List.count_cons_self, count_lines l]
    simp

theorem take_pred {a t : List UInt8} (h : 1 ≤ t.length) : (a ++ 10 :: t).take ((a ++ 10 :: t).length - 1) = a ++ 10 :: t.take (t.length - 1) := by
  rw [show (a ++ 10 :: t).length - 1 = a.length + ((t.length - 1) + 1) by simp; omega, List.take_length_add_append, List.take_succ_cons]
theorem flat_pos (q : RawR) (l : List RawR) : 1 ≤ ((q :: l).flatMap ruleT).length := by
  rw [flat_cons, List.length_append, List.length_cons]; omega
theorem cut_step (r : RawR) (t : List UInt8) (n m : Nat) (hn : ¬ 40 < n) (ih : rulesOf (n + 1) (parts 10 t) = .error (3, m)) : rulesOf n (parts 10 (lineT r ++ 10 :: t)) = .error (3, m) := by
  rw [parts_first (line_no10 r), rulesOf_cons (parts_ne _ _) hn, line_read, ih]

/-- The last byte cut off. -/
theorem rules_cut (l : List RawR) : ∀ (q : RawR) (n : Nat), n + l.length ≤ 40 → rulesOf n (parts 10 (((q :: l).flatMap ruleT).take (((q :: l).flatMap ruleT).length - 1))) = .error (3, n + l.length) := by
  induction l with
  | nil =>
    intro q n h
    have e : ([q].flatMap ruleT).take (([q].flatMap ruleT).length - 1) = lineT q := by
      rw [flat_cons]
      simp
    rw [e, parts_alone (line_no10 q), rulesOf, if_neg (line_ne q), if_neg (by simp at h; omega)]
    rfl
  | cons r l ih =>
    intro q n h
    rw [List.length_cons] at h ⊢
    rw [flat_cons q (r :: l), take_pred (flat_pos r l)]
    refine cut_step q _ n _ (by omega) ?_
    rw [ih r (n + 1) (by omega), show n + 1 + l.length = n + (l.length + 1) by omega]
end Go.Proofs.YtdmaffciijmdcaaDoor.Plain
/-
  Questions by raw numbers: what a rule that raw numbers make says of them.
-/
namespace Go.Proofs.YtdmaffciijmdcaaDoor.Plain

/-- A question by raw numbers. -/
structure AskR where
  who : Int
  whr : Int
  prt : Int
  mnt : Int
def hostT (q : AskR) : List UInt8 := if pickN q.whr 12 < 6 then nameS (pickN q.whr 12) else dotted (pickN q.whr 4294967296)
def hostNm (q : AskR) : List UInt8 := if pickN q.whr 12 < 6 then nameS (pickN q.whr 12) else []
def hostAd (q : AskR) : List Nat := if pickN q.whr 12 < 6 then [0, 0, 0, 0] else oct (pickN q.whr 4294967296)

theorem name_host (n : Nat) : readHost (nameS n) = some (nameS n, [0, 0, 0, 0]) := by
  unfold nameS
  split <;> rfl

theorem last_dotted (a : Nat) : lastPart (dotted a) = digits (a % 256) := by
  have hd : ∀ n, (46 : UInt8) ∉ digits n := fun n => not_digits 46 (by decide)
  unfold lastPart dotted
  rw [show digits (a / 16777216) ++ [46] ++ digits (a / 65536 % 256) ++ [46] ++ digits (a / 256 % 256) ++ [46] ++ digits (a % 256) = digits (a / 16777216) ++ 46 :: (digits (a / 65536 % 256) ++ 46 :: (digits (a / 256 % 256) ++ 46 :: digits (a % 256))) by simp]
  rw [parts_first (hd _), parts_first (hd _), parts_first (hd _), parts_alone (hd _)]
  rfl
theorem host_read (q : AskR) : readHost (hostT q) = some (hostNm q, hostAd q) := by
  unfold hostT hostNm hostAd
  split
  · exact name_host _
  · unfold readHost
    rw [if_pos, address_dotted _ (pickN_lt q.whr (by decide))]
    rw [last_dotted]
    exact List.all_eq_true.2 fun c hc => digits_mem hc
theorem ask_read (q : AskR) : askS (tenantS (pickN q.who 3)) (hostT q) (pickN q.prt 65536 : Nat) (pickN q.mnt 10080 : Nat) = some (hostNm q, hostAd q) := by
  have h1 := pickN_lt q.prt (n := 65536) (by decide)
  have h2 := pickN_lt q.mnt (n := 10080) (by decide)
  unfold askS
  rw [if_pos ⟨by omega, by omega, by omega, by omega, (tenantS_ok _).1⟩]
  exact host_read q

/-- Does a text end with another one, behind a dot, or is it that? -/
def endsS (s last : List UInt8) : Bool := s == last || (decide (last.length < s.length) && (s.drop (s.length - last.length) == last && s.getD (s.length - last.length - 1) 0 == 46))

def whoK (r : RawR) (q : AskR) : Bool := if pickN r.who 4 < 3 then tenantS (pickN q.who 3) == tenantS (pickN r.who 4) else true
def whereK (r : RawR) (q : AskR) : Bool :=
  if pickN r.whr 20 < 6 then hostT q == nameS (pickN r.whr 20)
  else if pickN r.whr 20 < 12 then decide (pickN q.whr 12 < 6) && endsS (hostT q) (nameS (pickN r.whr 20))
  else if pickN r.whr 20 < 19 then !decide (pickN q.whr 12 < 6) && decide (pickN q.whr 4294967296 / 2 ^ (32 - pickN r.bts 33) = pickN r.whr 4294967296 / 2 ^ (32 - pickN r.bts 33))
  else true
def portK (r : RawR) (q : AskR) : Bool :=
  if pickN r.til 65536 < pickN r.frm 65536 then decide (pickN q.prt 65536 = pickN r.frm 65536)
  else if r.frm.tmod 3 ≠ 0 then decide (pickN r.frm 65536 ≤ pickN q.prt 65536) && decide (pickN q.prt 65536 ≤ pickN r.til 65536) else true
def whenK (r : RawR) (q : AskR) : Bool :=
  if r.beg.tmod 3 ≠ 0 then (if pickN r.fin 10080 < pickN r.beg 10080 then decide (pickN r.beg 10080 ≤ pickN q.mnt 10080) || decide (pickN q.mnt 10080 ≤ pickN r.fin 10080)
    else decide (pickN r.beg 10080 ≤ pickN q.mnt 10080) && decide (pickN q.mnt 10080 ≤ pickN r.fin 10080)) else true
def fitsK (r : RawR) (q : AskR) : Bool := whoK r q && whereK r q && portK r q && whenK r q

theorem who_same (r : RawR) (q : AskR) : tenFits (ruleOf r).ten (tenantS (pickN q.who 3)) = whoK r q := by
  unfold ruleOf whoK tenFits
  dsimp only
  split <;> simp_all
theorem port_same (r : RawR) (q : AskR) : portFits (ruleOf r).port ((pickN q.prt 65536 : Nat) : Int) = portK r q := by
  show portFits (portOf r) _ = _
  unfold portK portOf
  by_cases h : pickN r.til 65536 < pickN r.frm 65536
  · rw [if_pos h, if_pos h, portFits, Bool.eq_iff_iff]; simp; omega
  · rw [if_neg h, if_neg h]
    by_cases h3 : r.frm.tmod 3 ≠ 0
    · rw [if_pos h3, if_pos h3, portFits, Bool.eq_iff_iff]; simp
    · rw [if_neg h3, if_neg h3, portFits]
theorem when_same (r : RawR) (q : AskR) : minFits (ruleOf r).minute ((pickN q.mnt 10080 : Nat) : Int) = whenK r q := by
  show minFits (minOf r) _ = _
  unfold whenK minOf
  by_cases h3 : r.beg.tmod 3 ≠ 0
  · rw [if_pos h3, if_pos h3, minFits]
    by_cases h : pickN r.fin 10080 < pickN r.beg 10080
    · rw [if_pos h, if_pos h, Bool.eq_iff_iff]; simp
    · rw [if_neg h, if_neg h, Bool.eq_iff_iff]; simp
  · rw [if_neg h3, if_neg h3, minFits]

theorem nameS_mod (n : Nat) : nameS n = nameS (n % 6) := by unfold nameS; rw [Nat.mod_mod]
theorem ends_names (i j : Nat) : (nameS i == nameS j || Lib.hasSuffix (nameS i) (46 :: nameS j)) = endsS (nameS i) (nameS j) := by
  have hall : ∀ i : Fin 6, ∀ j : Fin 6, (nameS i.1 == nameS j.1 || Lib.hasSuffix (nameS i.1) (46 :: nameS j.1)) = endsS (nameS i.1) (nameS j.1) := by decide
  rw [nameS_mod i, nameS_mod j]
  exact hall ⟨i % 6, Nat.mod_lt _ (by decide)⟩ ⟨j % 6, Nat.mod_lt _ (by decide)⟩
theorem dotted_not_name (a n : Nat) : dotted a ≠ nameS n := by
  intro h
  have h1 : lastPart (dotted a) = digits (a % 256) := last_dotted a
  rw [h] at h1
  have h2 : allB fig (lastPart (nameS n)) = false := by unfold nameS; split <;> rfl
  rw [h1, show allB fig (digits (a % 256)) = true from List.all_eq_true.2 fun c hc => digits_mem hc] at h2
  cases h2
theorem nil_not_suffix (l : List UInt8) (c : UInt8) : Lib.hasSuffix [] (c :: l) = false := by simp [Lib.hasSuffix]
theorem nameS_ne (n : Nat) : nameS n ≠ [] := by unfold nameS; split <;> simp

theorem where_same (r : RawR) (q : AskR) : hostFits (ruleOf r).host (hostNm q) (hostAd q) = whereK r q := by
  have hb := pickN_lt r.bts (n := 33) (by decide)
  have hA := pickN_lt r.whr (n := 4294967296) (by decide)
  have hq := pickN_lt q.whr (n := 4294967296) (by decide)
  unfold ruleOf whereK hostFits hostOf
  dsimp only
  by_cases h6 : pickN r.whr 20 < 6
  · rw [if_pos h6, if_pos h6]
    simp only [Nat.one_ne_zero, if_false, if_true]
    unfold hostNm hostT
    by_cases hn : pickN q.whr 12 < 6
    · rw [if_pos hn, if_pos hn]
    · rw [if_neg hn, if_neg hn, beq_eq_false_iff_ne.2 (dotted_not_name _ _), beq_eq_false_iff_ne.2 (fun e => nameS_ne _ e.symm)]
  · rw [if_neg h6, if_neg h6]
    by_cases h12 : pickN r.whr 20 < 12
    · rw [if_pos h12, if_pos h12]
      dsimp only; rw [if_neg (by decide), if_neg (by decide), if_pos rfl]
      unfold hostNm hostT
      by_cases hn : pickN q.whr 12 < 6
      · rw [if_pos hn, if_pos hn, decide_eq_true hn, Bool.true_and, ends_names]
      · rw [if_neg hn, if_neg hn, decide_eq_false hn, Bool.false_and, beq_eq_false_iff_ne.2 (fun e => nameS_ne _ e.symm), nil_not_suffix]; rfl
    · rw [if_neg h12, if_neg h12]
      by_cases h19 : pickN r.whr 20 < 19
      · rw [if_pos h19, if_pos h19]
        dsimp only; rw [if_neg (by decide), if_neg (by decide), if_neg (by decide)]
        unfold hostNm hostAd
        by_cases hn : pickN q.whr 12 < 6
        · rw [if_pos hn, decide_eq_true hn]
          have : (nameS (pickN q.whr 12)).isEmpty = false := by
            cases h : nameS (pickN q.whr 12) with
            | nil => exact absurd h (nameS_ne _)
            | cons => rfl
          rw [this]; rfl
        · rw [if_neg hn, if_neg hn, decide_eq_false hn]
          have := firstN_block _ _ _ hb hq hA
          rw [Bool.eq_iff_iff]
          simp only [List.isEmpty_nil, Bool.true_and, Bool.not_false, beq_iff_eq, decide_eq_true_eq]
          exact this
      · rw [if_neg h19, if_neg h19]; rfl

theorem fits_same (r : RawR) (q : AskR) : ruleFits (ruleOf r) (tenantS (pickN q.who 3)) (hostNm q) (hostAd q) ((pickN q.prt 65536 : Nat) : Int) ((pickN q.mnt 10080 : Nat) : Int) = fitsK r q := by
  unfold ruleFits fitsK
  rw [who_same, where_same, port_same, when_same]

/-- What the first rule that fits says, and its number. -/
def decidedK (q : AskR) : Nat → List RawR → Bool × Int
  | _, [] => (false, -1)
  | k, r :: rs => if fitsK r q = true then (decide (pickN r.says 2 = 0), (k : Int)) else decidedK q (k + 1) rs
theorem decided_from (q : AskR) : ∀ (k : Nat) (l : List RawR), decideFrom (fun r => ruleFits r (tenantS (pickN q.who 3)) (hostNm q) (hostAd q) ((pickN q.prt 65536 : Nat) : Int) ((pickN q.mnt 10080 : Nat) : Int)) k (l.map ruleOf) = decidedK q k l
  | _, [] => rfl
  | k, r :: l => by
    rw [List.map_cons, decideFrom, decidedK, fits_same, decided_from q (k + 1) l]
    rfl
/-- The two answers are one. -/
theorem decide_same (l : List RawR) (q : AskR) : decideS (l.map ruleOf) (tenantS (pickN q.who 3)) (hostT q) ((pickN q.prt 65536 : Nat) : Int) ((pickN q.mnt 10080 : Nat) : Int) = ((decidedK q 0 l).1, (decidedK q 0 l).2, 0) := by
  unfold decideS
  rw [ask_read]
  dsimp only
  rw [decided_from]
theorem decidedK_drop {q : AskR} {l : List RawR} {k : Nat} {r : RawR} (h : l[k]? = some r) : decidedK q k (l.drop k) = if fitsK r q = true then (decide (pickN r.says 2 = 0), (k : Int)) else decidedK q (k + 1) (l.drop (k + 1)) := by
  obtain ⟨hk, rfl⟩ := List.getElem?_eq_some_iff.1 h
  rw [← List.getElem_cons_drop hk, decidedK]
end Go.Proofs.YtdmaffciijmdcaaDoor.Plain

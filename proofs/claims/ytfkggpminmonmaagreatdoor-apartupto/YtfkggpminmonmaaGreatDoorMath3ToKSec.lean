/-
  Rules with a spoiled line are refused, with its number; so are rules whose last byte is cut off.
-/
import Derived.Test.YtfkggpminmonmaaGreatDoorGate12ToMath2
import Derived.Test.YtfkggpminmonmaaGreatDoorKeepSToRulesT
namespace Go.Proofs.YtfkggpminmonmaaGreatDoor.Plain

theorem mem_parts {s c : UInt8} : ∀ {l : List UInt8}, c ∈ l → c = s ∨ ∃ p ∈ parts s l, c ∈ p
  | b :: l, h => by
    rw [parts]
    by_cases hb : b = s
    · rw [if_pos hb]
      rcases List.mem_cons.1 h with h | h
      · exact .inl (h.trans hb)
      · rcases mem_parts (s := s) h with h | ⟨p, hp, hc⟩
        · exact .inl h
        · exact .inr ⟨p, List.mem_cons_of_mem _ hp, hc⟩
    · rw [if_neg hb]
      cases hp : parts s l with
      | nil => exact absurd hp (parts_ne _ _)
      | cons q qs =>
        rcases List.mem_cons.1 h with h | h
        · exact .inr ⟨b :: q, by simp, by rw [h]; simp⟩
        · rcases mem_parts (s := s) h with h | ⟨p, hpp, hc⟩
          · exact .inl h
          · rw [hp] at hpp
            rcases List.mem_cons.1 hpp with e | e
            · exact .inr ⟨b :: q, by simp, by rw [← e]; exact List.mem_cons_of_mem _ hc⟩
            · exact .inr ⟨p, List.mem_cons_of_mem _ e, hc⟩

theorem number_bytes {l : List UInt8} {hi n : Nat} (h : number l hi = some n) : ∀ c ∈ l, fieldB c = true := by
  unfold number at h
  split at h
  · rename_i hc
    have := hc.1
    unfold numForm at this
    rw [Bool.and_eq_true, Bool.and_eq_true] at this
    have ha := this.1.2
    unfold allB at ha
    rw [List.all_eq_true] at ha
    exact fun c hm => fieldB_fig (ha c hm)
  · cases h
theorem octets_bytes : ∀ {ps : List (List UInt8)} {r : List Nat}, octets ps = some r → ∀ p ∈ ps, ∀ c ∈ p, fieldB c = true
  | [], _, _, p, hp => by cases hp
  | q :: qs, r, h, p, hp => by
    unfold octets at h
    cases hq : number q 255 with
    | none => rw [hq] at h; cases h
    | some n =>
      rw [hq] at h
      simp only at h
      cases ho : octets qs with
      | none => rw [ho] at h; cases h
      | some l =>
        rcases List.mem_cons.1 hp with e | e
        · rw [e]; exact number_bytes hq
        · exact octets_bytes ho p e
theorem address_bytes {l : List UInt8} {r : List Nat} (h : address l = some r) : ∀ c ∈ l, fieldB c = true := by
  unfold address at h
  split at h
  · intro c hc
    rcases mem_parts (s := 46) hc with e | ⟨p, hp, hm⟩
    · rw [e]; decide
    · exact octets_bytes h p hp c hm
  · cases h
theorem name_bytes {l : List UInt8} (h : nameOk l = true) : ∀ c ∈ l, fieldB c = true := by
  unfold nameOk at h
  rw [Bool.and_eq_true, Bool.and_eq_true] at h
  have ha := h.1.2
  rw [List.all_eq_true] at ha
  intro c hc
  rcases mem_parts (s := 46) hc with e | ⟨p, hp, hm⟩
  · rw [e]; decide
  · have hl := ha p hp
    unfold labelOk at hl
    rw [Bool.and_eq_true, Bool.and_eq_true] at hl
    have hb := hl.1.2
    unfold allB at hb
    rw [List.all_eq_true] at hb
    have := hb c hm
    unfold ofLabel at this
    unfold fieldB
    simp only [Bool.or_eq_true, beq_iff_eq] at this ⊢
    rcases this with (h1 | h1) | h1
    · simp [h1]
    · simp [h1]
    · have e : c = 45 := UInt8.toNat_inj.1 (by show c.toNat = 45; omega)
      simp [e]
theorem verd_bytes {l : List UInt8} {b : Bool} (h : readVerd l = some b) : ∀ c ∈ l, fieldB c = true := by
  unfold readVerd at h
  split at h
  · rename_i e; rw [e]; decide
  · split at h
    · rename_i e; rw [e]; decide
    · cases h
theorem ten_bytes {l : List UInt8} {t : Option (List UInt8)} (h : readTen l = some t) : ∀ c ∈ l, fieldB c = true := by
  unfold readTen at h
  split at h
  · rename_i e; rw [e]; decide
  · split at h
    · rename_i hok
      unfold tenantOk at hok
      rw [Bool.and_eq_true] at hok
      have hb := hok.2
      unfold allB at hb
      rw [List.all_eq_true] at hb
      intro c hc
      unfold fieldB
      rw [hb c hc]; simp
    · cases h
theorem cut_bytes {s : UInt8} {l a r : List UInt8} (h : cutAt s l = some (a, r)) (hs : fieldB s = true) (ha : ∀ c ∈ a, fieldB c = true) (hr : ∀ c ∈ r, fieldB c = true) : ∀ c ∈ l, fieldB c = true := by
  rw [(cutAt_some.1 h).1]
  intro c hc
  rcases List.mem_append.1 hc with hc | hc
  · exact ha c hc
  · rcases List.mem_cons.1 hc with hc | hc
    · rw [hc]; exact hs
    · exact hr c hc
theorem span_bytes {l : List UInt8} {hi : Nat} {p : Nat × Nat} (h : span l hi = some p) : ∀ c ∈ l, fieldB c = true := by
  obtain ⟨a, b, hc, ha, hb⟩ := span_some h
  exact cut_bytes hc (by decide) (number_bytes ha) (number_bytes hb)
theorem host_bytes {l : List UInt8} {p : HostP} (h : readHostP l = some p) : ∀ c ∈ l, fieldB c = true := by
  unfold readHostP at h
  split at h
  · rename_i e; rw [e]; decide
  · cases hc : cutAt 47 l with
    | some x =>
      obtain ⟨a, r⟩ := x
      rw [hc] at h
      simp only at h
      obtain ⟨x0, x1, x2, x3, n, h1, h2, _⟩ := net_some h
      exact cut_bytes hc (by decide) (address_bytes h1) (number_bytes h2)
    | none =>
      rw [hc] at h
      simp only at h
      split at h
      · rename_i hd
        split at h
        · rename_i hn
          have hb := name_bytes hn
          cases l with
          | nil => simp
          | cons x l =>
            simp at hd hb
            intro c hm
            rcases List.mem_cons.1 hm with e | e
            · rw [e, hd]; decide
            · exact hb c e
        · cases h
      · split at h
        · rename_i hn; exact name_bytes hn
        · cases h
theorem port_bytes {l : List UInt8} {p : Option (Nat × Nat)} (h : readPortP l = some p) : ∀ c ∈ l, fieldB c = true := by
  unfold readPortP at h
  split at h
  · rename_i e; rw [e]; decide
  · cases hc : cutAt 45 l with
    | none =>
      rw [hc] at h
      simp only at h
      cases hn : number l 65535 with
      | none => rw [hn] at h; cases h
      | some n => exact number_bytes hn
    | some x =>
      rw [hc] at h
      simp only at h
      cases hn : span l 65535 with
      | none => rw [hn] at h; cases h
      | some y => exact span_bytes hn
theorem min_bytes {l : List UInt8} {p : Option (Nat × Nat)} (h : readMinP l = some p) : ∀ c ∈ l, fieldB c = true := by
  unfold readMinP at h
  split at h
  · rename_i e; rw [e]; decide
  · cases hn : span l 10079 with
    | none => rw [hn] at h; cases h
    | some y => exact span_bytes hn

/-- A rule is of bytes of its fields, and spaces. -/
theorem rule_bytes {l : List UInt8} {r : RuleS} (h : readRule l = some r) : ∀ c ∈ l, fieldB c = true ∨ c = 32 := by
  unfold readRule at h
  split at h
  · rename_i f0 f1 f2 f3 f4 hp
    cases h0 : readVerd f0 with
    | none => rw [h0] at h; cases h
    | some v => cases h1 : readTen f1 with
      | none => rw [h0, h1] at h; cases h
      | some t => cases h2 : readHostP f2 with
        | none => rw [h0, h1, h2] at h; cases h
        | some hh => cases h3 : readPortP f3 with
          | none => rw [h0, h1, h2, h3] at h; cases h
          | some p => cases h4 : readMinP f4 with
            | none => rw [h0, h1, h2, h3, h4] at h; cases h
            | some m =>
              intro c hc
              rcases mem_parts (s := 32) hc with e | ⟨q, hq, hm⟩
              · exact .inr e
              · rw [hp] at hq
                simp only [List.mem_cons, List.not_mem_nil, or_false] at hq
                rcases hq with rfl | rfl | rfl | rfl | rfl
                · exact .inl (verd_bytes h0 c hm)
                · exact .inl (ten_bytes h1 c hm)
                · exact .inl (host_bytes h2 c hm)
                · exact .inl (port_bytes h3 c hm)
                · exact .inl (min_bytes h4 c hm)
  · cases h

/-- The bytes that stand in no rule. -/
def spoils (c : UInt8) : Bool := !fieldB c && c != 32 && c != 10

theorem rulesOf_cons {n : Nat} {l : List UInt8} {ls : List (List UInt8)} (hls : ls ≠ []) (h : ¬ 40 < n) : rulesOf n (l :: ls) = match readRule l with
    | none => .error (3, n)
    | some r => match rulesOf (n + 1) ls with
      | .error e => .error e
      | .ok rs => .ok (r :: rs) := by
  cases ls with
  | nil => exact absurd rfl hls
  | cons m ls => rw [rulesOf, if_neg h]; rfl

theorem flat_cons (r : RawR) (l : List RawR) : (r :: l).flatMap ruleT = lineT r ++ 10 :: l.flatMap ruleT := by
  rw [List.flatMap_cons, ruleT_line]; simp

/-- Right as they were made. -/
theorem rules_right : ∀ (l : List RawR) (n : Nat), n + l.length ≤ 41 → rulesOf n (parts 10 (l.flatMap ruleT)) = .ok (l.map ruleOf)
  | [], n, _ => by simp [parts, rulesOf]
  | r :: l, n, h => by
    rw [flat_cons, parts_first (line_no10 r), rulesOf_cons (parts_ne _ _) (by simp at h; omega), line_read, rules_right l (n + 1) (by simp at h; omega)]
    rfl

/-- Spoiled in one byte. -/
theorem rules_spoiled (c : UInt8) (hc : spoils c = true) : ∀ (l : List RawR) (n k : Nat) (b : UInt8), n + l.length ≤ 41 → (l.flatMap ruleT)[k]? = some b → b ≠ 10 →
    rulesOf n (parts 10 ((l.flatMap ruleT).take k ++ c :: (l.flatMap ruleT).drop (k + 1))) = .error (3, n + ((l.flatMap ruleT).take k).count 10)
  | [], n, k, b, _, hk, _ => by simp at hk
  | r :: l, n, k, b, h, hk, hb => by
    have hc' := hc
    unfold spoils at hc'
    simp only [Bool.and_eq_true, Bool.not_eq_true', bne_iff_ne] at hc'
    obtain ⟨⟨hc1, hc2⟩, hc3⟩ := hc'
    rw [flat_cons] at hk ⊢
    by_cases hlt : k < (lineT r).length
    · rw [List.take_append_of_le_length (by omega), List.drop_append_of_le_length (by omega)]
      have h10 : (10 : UInt8) ∉ (lineT r).take k := fun hm => line_no10 r (List.mem_of_mem_take hm)
      have h10' : (10 : UInt8) ∉ (lineT r).drop (k + 1) := fun hm => line_no10 r (List.mem_of_mem_drop hm)
      have hx : (10 : UInt8) ∉ (lineT r).take k ++ c :: (lineT r).drop (k + 1) := by
        intro hm
        rcases List.mem_append.1 hm with hm | hm
        · exact h10 hm
        · rcases List.mem_cons.1 hm with hm | hm
          · exact hc3 hm.symm
          · exact h10' hm
      rw [show (lineT r).take k ++ c :: ((lineT r).drop (k + 1) ++ 10 :: l.flatMap ruleT) = ((lineT r).take k ++ c :: (lineT r).drop (k + 1)) ++ 10 :: l.flatMap ruleT by simp]
      rw [parts_first hx, rulesOf_cons (parts_ne _ _) (by simp at h; omega)]
      have hn : readRule ((lineT r).take k ++ c :: (lineT r).drop (k + 1)) = none := by
        cases hr : readRule ((lineT r).take k ++ c :: (lineT r).drop (k + 1)) with
        | none => rfl
        | some x =>
          rcases rule_bytes hr c (by simp) with e | e
          · rw [hc1] at e; cases e
          · exact absurd e hc2
      rw [hn, List.count_eq_zero_of_not_mem h10]
      rfl
    · have hne : k ≠ (lineT r).length := fun e => by
        rw [e, List.getElem?_append_right (Nat.le_refl _), Nat.sub_self] at hk
        simp at hk
        exact hb hk.symm
      obtain ⟨k', rfl⟩ : ∃ k', k = (lineT r).length + 1 + k' := ⟨k - (lineT r).length - 1, by omega⟩
      have hk' : (l.flatMap ruleT)[k']? = some b := by
        rw [List.getElem?_append_right (by omega), show (lineT r).length + 1 + k' - (lineT r).length = k' + 1 by omega, List.getElem?_cons_succ] at hk
        exact hk
      have ih := rules_spoiled c hc l (n + 1) k' b (by simp at h; omega) hk' hb
      have et : (lineT r ++ 10 :: l.flatMap ruleT).take ((lineT r).length + 1 + k') = lineT r ++ 10 :: (l.flatMap ruleT).take k' := by
        rw [show (lineT r).length + 1 + k' = (lineT r).length + (k' + 1) by omega, List.take_length_add_append, List.take_succ_cons]
      have ed : (lineT r ++ 10 :: l.flatMap ruleT).drop ((lineT r).length + 1 + k' + 1) = (l.flatMap ruleT).drop (k' + 1) := by
        rw [show (lineT r).length + 1 + k' + 1 = (lineT r).length + (k' + 1 + 1) by omega, List.drop_length_add_append, List.drop_succ_cons]
      rw [et, ed, show lineT r ++ 10 :: (l.flatMap ruleT).take k' ++ c :: (l.flatMap ruleT).drop (k' + 1) = lineT r ++ 10 :: ((l.flatMap ruleT).take k' ++ c :: (l.flatMap ruleT).drop (k' + 1)) by simp]
      rw [parts_first (line_no10 r), rulesOf_cons (parts_ne _ _) (by simp at h; omega), line_read, ih]
      rw [List.count_append, List.count_eq_zero_of_not_mem (line_no10 r), List.count_cons_self]
      simp only
      congr 2
      omega

theorem count_lines : ∀ (l : List RawR), (l.flatMap ruleT).count 10 = l.length
  | [] => rfl
  | r :: l => by
    rw [flat_cons, List.count_append, List.count_eq_zero_of_not_mem (line_no10 r), List.count_cons_self, count_lines l]
    simp

theorem take_pred {a t : List UInt8} (h : 1 ≤ t.length) : (a ++ 10 :: t).take ((a ++ 10 :: t).length - 1) = a ++ 10 :: t.take (t.length - 1) := by
  rw [show (a ++ 10 :: t).length - 1 = a.length + ((t.length - 1) + 1) by simp; omega, List.take_length_add_append, List.take_succ_cons]
theorem flat_pos (q : RawR) (l : List RawR) : 1 ≤ ((q :: l).flatMap ruleT).length := by
  rw [flat_cons, List.length_append, List.length_cons]; omega
theorem cut_step (r : RawR) (t : List UInt8) (n m : Nat) (hn : ¬ 40 < n) (ih : rulesOf (n + 1) (parts 10 t) = .error (3, m)) : rulesOf n (parts 10 (lineT r ++ 10 :: t)) = .error (3, m) := by
  rw [parts_first (line_no10 r), rulesOf_cons (parts_ne _ _) hn, line_read, ih]

/-- The last byte cut off. -/
theorem rules_cut (l : List RawR) : ∀ (q : RawR) (n : Nat), n + l.length ≤ 40 → rulesOf n (parts 10 (((q :: l).flatMap ruleT).take (((q :: l).flatMap ruleT).length - 1))) = .error (3, n + l.length) := by
  induction l with
  | nil =>
    intro q n h
    have e : ([q].flatMap ruleT).take (([q].flatMap ruleT).length - 1) = lineT q := by
      rw [flat_cons]
      simp
    rw [e, parts_alone (line_no10 q), rulesOf, if_neg (line_ne q), if_neg (by simp at h; omega)]
    rfl
  | cons r l ih =>
    intro q n h
    rw [List.length_cons] at h ⊢
    rw [flat_cons q (r :: l), take_pred (flat_pos r l)]
    refine cut_step q _ n _ (by omega) ?_
    rw [ih r (n + 1) (by omega), show n + 1 + l.length = n + (l.length + 1) by omega]
end Go.Proofs.YtfkggpminmonmaaGreatDoor.Plain
/-
  Questions by raw numbers: what a rule that raw numbers make says of them.
-/
namespace Go.Proofs.YtfkggpminmonmaaGreatDoor.Plain

/-- A question by raw numbers. -/
structure AskR where
  who : Int
  whr : Int
  prt : Int
  mnt : Int
def hostT (q : AskR) : List UInt8 := if pickN q.whr 12 < 6 then nameS (pickN q.whr 12) else dotted (pickN q.whr 4294967296)
def hostNm (q : AskR) : List UInt8 := if pickN q.whr 12 < 6 then nameS (pickN q.whr 12) else []
def hostAd (q : AskR) : List Nat := if pickN q.whr 12 < 6 then [0, 0, 0, 0] else oct (pickN q.whr 4294967296)

theorem name_host (n : Nat) : readHost (nameS n) = some (nameS n, [0, 0, 0, 0]) := by
  unfold nameS
  split <;> rfl

theorem last_dotted (a : Nat) : lastPart (dotted a) = digits (a % 256) := by
  have hd : ∀ n, (46 : UInt8) ∉ digits n := fun n => not_digits 46 (by decide)
  unfold lastPart dotted
  rw [show digits (a / 16777216) ++ [46] ++ digits (a / 65536 % 256) ++ [46] ++ digits (a / 256 % 256) ++ [46] ++ digits (a % 256) = digits (a / 16777216) ++ 46 :: (digits (a / 65536 % 256) ++ 46 :: (digits (a / 256 % 256) ++ 46 :: digits (a % 256))) by simp]
  rw [parts_first (hd _), parts_first (hd _), parts_first (hd _), parts_alone (hd _)]
  rfl
theorem host_read (q : AskR) : readHost (hostT q) = some (hostNm q, hostAd q) := by
  unfold hostT hostNm hostAd
  split
  · exact name_host _
  · unfold readHost
    rw [if_pos, address_dotted _ (pickN_lt q.whr (by decide))]
    rw [last_dotted]
    exact List.all_eq_true.2 fun c hc => digits_mem hc
theorem ask_read (q : AskR) : askS (tenantS (pickN q.who 3)) (hostT q) (pickN q.prt 65536 : Nat) (pickN q.mnt 10080 : Nat) = some (hostNm q, hostAd q) := by
  have h1 := pickN_lt q.prt (n := 65536) (by decide)
  have h2 := pickN_lt q.mnt (n := 10080) (by decide)
  unfold askS
  rw [if_pos ⟨by omega, by omega, by omega, by omega, (tenantS_ok _).1⟩]
  exact host_read q

/-- Does a text end with another one, behind a dot, or is it that? -/
def endsS (s last : List UInt8) : Bool := s == last || (decide (last.length < s.length) && (s.drop (s.length - last.length) == last && s.getD (s.length - last.length - 1) 0 == 46))

def whoK (r : RawR) (q : AskR) : Bool := if pickN r.who 4 < 3 then tenantS (pickN q.who 3) == tenantS (pickN r.who 4) else true
def whereK (r : RawR) (q : AskR) : Bool :=
  if pickN r.whr 20 < 6 then hostT q == nameS (pickN r.whr 20)
  else if pickN r.whr 20 < 12 then decide (pickN q.whr 12 < 6) && endsS (hostT q) (nameS (pickN r.whr 20))
  else if pickN r.whr 20 < 19 then !decide (pickN q.whr 12 < 6) && decide (pickN q.whr 4294967296 / 2 ^ (32 - pickN r.bts 33) = pickN r.whr 4294967296 / 2 ^ (32 - pickN r.bts 33))
  else true
def portK (r : RawR) (q : AskR) : Bool :=
  if pickN r.til 65536 < pickN r.frm 65536 then decide (pickN q.prt 65536 = pickN r.frm 65536)
  else if r.frm.tmod 3 ≠ 0 then decide (pickN r.frm 65536 ≤ pickN q.prt 65536) && decide (pickN q.prt 65536 ≤ pickN r.til 65536) else true
def whenK (r : RawR) (q : AskR) : Bool :=
  if r.beg.tmod 3 ≠ 0 then (if pickN r.fin 10080 < pickN r.beg 10080 then decide (pickN r.beg 10080 ≤ pickN q.mnt 10080) || decide (pickN q.mnt 10080 ≤ pickN r.fin 10080)
    else decide (pickN r.beg 10080 ≤ pickN q.mnt 10080) && decide (pickN q.mnt 10080 ≤ pickN r.fin 10080)) else true
def fitsK (r : RawR) (q : AskR) : Bool := whoK r q && whereK r q && portK r q && whenK r q

theorem who_same (r : RawR) (q : AskR) : tenFits (ruleOf r).ten (tenantS (pickN q.who 3)) = whoK r q := by
  unfold ruleOf whoK tenFits
  dsimp only
  split <;> simp_all
theorem port_same (r : RawR) (q : AskR) : portFits (ruleOf r).port ((pickN q.prt 65536 : Nat) : Int) = portK r q := by
  show portFits (portOf r) _ = _
  unfold portK portOf
  by_cases h : pickN r.til 65536 < pickN r.frm 65536
  · rw [if_pos h, if_pos h, portFits, Bool.eq_iff_iff]; simp; omega
  · rw [if_neg h, if_neg h]
    by_cases h3 : r.frm.tmod 3 ≠ 0
    · rw [if_pos h3, if_pos h3, portFits, Bool.eq_iff_iff]; simp
    · rw [if_neg h3, if_neg h3, portFits]
theorem when_same (r : RawR) (q : AskR) : minFits (ruleOf r).minute ((pickN q.mnt 10080 : Nat) : Int) = whenK r q := by
  show minFits (minOf r) _ = _
  unfold whenK minOf
  by_cases h3 : r.beg.tmod 3 ≠ 0
  · rw [if_pos h3, if_pos h3, minFits]
    by_cases h : pickN r.fin 10080 < pickN r.beg 10080
    · rw [if_pos h, if_pos h, Bool.eq_iff_iff]; simp
    · rw [if_neg h, if_neg h, Bool.eq_iff_iff]; simp
  · rw [if_neg h3, if_neg h3, minFits]

theorem nameS_mod (n : Nat) : nameS n = nameS (n % 6) := by unfold nameS; rw [Nat.mod_mod]
theorem ends_names (i j : Nat) : (nameS i == nameS j || Lib.hasSuffix (nameS i) (46 :: nameS j)) = endsS (nameS i) (nameS j) := by
  have hall : ∀ i : Fin 6, ∀ j : Fin 6, (nameS i.1 == nameS j.1 || Lib.hasSuffix (nameS i.1) (46 :: nameS j.1)) = endsS (nameS i.1) (nameS j.1) := by decide
  rw [nameS_mod i, nameS_mod j]
  exact hall ⟨i % 6, Nat.mod_lt _ (by decide)⟩ ⟨j % 6, Nat.mod_lt _ (by decide)⟩
theorem dotted_not_name (a n : Nat) : dotted a ≠ nameS n := by
  intro h
  have h1 : lastPart (dotted a) = digits (a % 256) := last_dotted a
  rw [h] at h1
  have h2 : allB fig (lastPart (nameS n)) = false := by unfold nameS; split <;> rfl
  rw [h1, show allB fig (digits (a % 256)) = true from List.all_eq_true.2 fun c hc => digits_mem hc] at h2
  cases h2
theorem nil_not_suffix (l : List UInt8) (c : UInt8) : Lib.hasSuffix [] (c :: l) = false := by simp [Lib.hasSuffix]
theorem nameS_ne (n : Nat) : nameS n ≠ [] := by unfold nameS; split <;> simp

theorem where_same (r : RawR) (q : AskR) : hostFits (ruleOf r).host (hostNm q) (hostAd q) = whereK r q := by
  have hb := pickN_lt r.bts (n := 33) (by decide)
  have hA := pickN_lt r.whr (n := 4294967296) (by decide)
  have hq := pickN_lt q.whr (n := 4294967296) (by decide)
  unfold ruleOf whereK hostFits hostOf
  dsimp only
  by_cases h6 : pickN r.whr 20 < 6
  · rw [if_pos h6, if_pos h6]
    simp only [Nat.one_ne_zero, if_false, if_true]
    unfold hostNm hostT
    by_cases hn : pickN q.whr 12 < 6
    · rw [if_pos hn, if_pos hn]
    · rw [if_neg hn, if_neg hn, beq_eq_false_iff_ne.2 (dotted_not_name _ _), beq_eq_false_iff_ne.2 (fun e => nameS_ne _ e.symm)]
  · rw [if_neg h6, if_neg h6]
    by_cases h12 : pickN r.whr 20 < 12
    · rw [if_pos h12, if_pos h12]
      dsimp only; rw [if_neg (by decide), if_neg (by decide), if_pos rfl]
      unfold hostNm hostT
      by_cases hn : pickN q.whr 12 < 6
      · rw [if_pos hn, if_pos hn, decide_eq_true hn, Bool.true_and, ends_names]
      · rw [if_neg hn, if_neg hn, decide_eq_false hn, Bool.false_and, beq_eq_false_iff_ne.2 (fun e => nameS_ne _ e.symm), nil_not_suffix]; rfl
    · rw [if_neg h12, if_neg h12]
      by_cases h19 : pickN r.whr 20 < 19
      · rw [if_pos h19, if_pos h19]
        dsimp only; rw [if_neg (by decide), if_neg (by decide), if_neg (by decide)]
        unfold hostNm hostAd
        by_cases hn : pickN q.whr 12 < 6
        · rw [if_pos hn, decide_eq_true hn]
          have : (nameS (pickN q.whr 12)).isEmpty = false := by
            cases h : nameS (pickN q.whr 12) with
            | nil => exact absurd h (nameS_ne _)
            | cons => rfl
          rw [this]; rfl
        · rw [if_neg hn, if_neg hn, decide_eq_false hn]
          have := firstN_block _ _ _ hb hq hA
          rw [Bool.eq_iff_iff]
          simp only [List.isEmpty_nil, Bool.true_and, Bool.not_false, beq_iff_eq, decide_eq_true_eq]
          exact this
      · rw [if_neg h19, if_neg h19]; rfl

theorem fits_same (r : RawR) (q : AskR) : ruleFits (ruleOf r) (tenantS (pickN q.who 3)) (hostNm q) (hostAd q) ((pickN q.prt 65536 : Nat) : Int) ((pickN q.mnt 10080 : Nat) : Int) = fitsK r q := by
  unfold ruleFits fitsK
  rw [who_same, where_same, port_same, when_same]

/-- What the first rule that fits says, and its number. -/
def decidedK (q : AskR) : Nat → List RawR → Bool × Int
  | _, [] => (false, -1)
  | k, r :: rs => if fitsK r q = true then (decide (pickN r.says 2 = 0), (k : Int)) else decidedK q (k + 1) rs
theorem decided_from (q : AskR) : ∀ (k : Nat) (l : List RawR), decideFrom (fun r => ruleFits r (tenantS (pickN q.who 3)) (hostNm q) (hostAd q) ((pickN q.prt 65536 : Nat) : Int) ((pickN q.mnt 10080 : Nat) : Int)) k (l.map ruleOf) = decidedK q k l
  | _, [] => rfl
  | k, r :: l => by
    rw [List.map_cons, decideFrom, decidedK, fits_same, decided_from q (k + 1) l]
    rfl
/-- The two answers are one. -/
theorem decide_same (l : List RawR) (q : AskR) : decideS (l.map ruleOf) (tenantS (pickN q.who 3)) (hostT q) ((pickN q.prt 65536 : Nat) : Int) ((pickN q.mnt 10080 : Nat) : Int) = ((decidedK q 0 l).1, (decidedK q 0 l).2, 0) := by
  unfold decideS
  rw [ask_read]
  dsimp only
  rw [decided_from]
theorem decidedK_drop {q : AskR} {l : List RawR} {k : Nat} {r : RawR} (h : l[k]? = some r) : decidedK q k (l.drop k) = if fitsK r q = true then (decide (pickN r.says 2 = 0), (k : Int)) else decidedK q (k + 1) (l.drop (k + 1)) := by
  obtain ⟨hk, rfl⟩ := List.getElem?_eq_some_iff.1 h
  rw [← List.getElem_cons_drop hk, decidedK]
end Go.Proofs.YtfkggpminmonmaaGreatDoor.Plain
/-
  Plain: base 64 says one text alone; a head that was made reads back.
-/
namespace Go.Proofs.YtfkggpminmonmaaGreatDoor.Plain

theorem six_inj0 : ∀ a b : Fin 64, letters.getD a.val 0 = letters.getD b.val 0 → a = b := by decide +kernel
theorem six_61 : ∀ a : Fin 64, letters.getD a.val 0 ≠ 61 ∧ letters.getD a.val 0 ≠ 13 ∧ letters.getD a.val 0 ≠ 32 ∧ seenB (letters.getD a.val 0) = true := by decide +kernel
theorem six_inj {n m : Nat} (h : six n = six m) : n % 64 = m % 64 := by
  unfold six at h
  have := six_inj0 ⟨n % 64, Nat.mod_lt _ (by decide)⟩ ⟨m % 64, Nat.mod_lt _ (by decide)⟩ h
  injection this
theorem six_ne (n : Nat) : six n ≠ 61 ∧ six n ≠ 13 ∧ six n ≠ 32 ∧ seenB (six n) = true := six_61 ⟨n % 64, Nat.mod_lt _ (by decide)⟩
theorem b_eq {a b : UInt8} (h : a.toNat = b.toNat) : a = b := UInt8.toNat_inj.1 h
theorem b64_inj : ∀ (l m : List UInt8), b64 l = b64 m → l = m
  | [], [], _ => rfl
  | [], [_], h => by simp [b64] at h
  | [], [_, _], h => by simp [b64] at h
  | [], _ :: _ :: _ :: _, h => by simp [b64] at h
  | [_], [], h => by simp [b64] at h
  | [_, _], [], h => by simp [b64] at h
  | _ :: _ :: _ :: _, [], h => by simp [b64] at h
  | [a], [b], h => by
    simp only [b64, List.cons.injEq, and_true] at h
    have h1 := six_inj h.1
    have h2 := six_inj h.2
    have ha := a.toNat_lt
    have hb := b.toNat_lt
    have z : (0 : UInt8).toNat = 0 := rfl
    simp only [bits3, z] at h1 h2
    rw [b_eq (a := a) (b := b) (by omega)]
  | [a], [b, c], h => by
    simp only [b64, List.cons.injEq] at h
    exact absurd h.2.2.1.symm (six_ne _).1
  | [a], b :: c :: d :: r, h => by
    simp only [b64, List.cons.injEq] at h
    exact absurd h.2.2.1.symm (six_ne _).1
  | [b, c], [a], h => by
    simp only [b64, List.cons.injEq] at h
    exact absurd h.2.2.1 (six_ne _).1
  | b :: c :: d :: r, [a], h => by
    simp only [b64, List.cons.injEq] at h
    exact absurd h.2.2.1 (six_ne _).1
  | [a, b], [c, d], h => by
    simp only [b64, List.cons.injEq, and_true] at h
    have h1 := six_inj h.1
    have h2 := six_inj h.2.1
    have h3 := six_inj h.2.2
    have ha := a.toNat_lt
    have hb := b.toNat_lt
    have hc := c.toNat_lt
    have hd := d.toNat_lt
    have z : (0 : UInt8).toNat = 0 := rfl
    simp only [bits3, z] at h1 h2 h3
    rw [b_eq (a := a) (b := c) (by omega), b_eq (a := b) (b := d) (by omega)]
  | [a, b], c :: d :: e :: r, h => by
    simp only [b64, List.cons.injEq] at h
    exact absurd h.2.2.2.1.symm (six_ne _).1
  | c :: d :: e :: r, [a, b], h => by
    simp only [b64, List.cons.injEq] at h
    exact absurd h.2.2.2.1 (six_ne _).1
  | a :: b :: c :: l, d :: e :: f :: m, h => by
    simp only [b64, List.cons.injEq] at h
    have h1 := six_inj h.1
    have h2 := six_inj h.2.1
    have h3 := six_inj h.2.2.1
    have h4 := six_inj h.2.2.2.1
    have ha := a.toNat_lt
    have hb := b.toNat_lt
    have hc := c.toNat_lt
    have hd := d.toNat_lt
    have he := e.toNat_lt
    have hf := f.toNat_lt
    simp only [bits3] at h1 h2 h3 h4
    rw [b_eq (a := a) (b := d) (by omega), b_eq (a := b) (b := e) (by omega), b_eq (a := c) (b := f) (by omega), b64_inj l m h.2.2.2.2]
theorem b64_bytes : ∀ (l : List UInt8), ∀ c ∈ b64 l, seenB c = true
  | [], c, h => by simp [b64] at h
  | [a], c, h => by
    simp only [b64, List.mem_cons, List.not_mem_nil, or_false] at h
    rcases h with rfl | rfl | rfl | rfl
    · exact (six_ne _).2.2.2
    · exact (six_ne _).2.2.2
    · decide
    · decide
  | [a, b], c, h => by
    simp only [b64, List.mem_cons, List.not_mem_nil, or_false] at h
    rcases h with rfl | rfl | rfl | rfl
    · exact (six_ne _).2.2.2
    · exact (six_ne _).2.2.2
    · exact (six_ne _).2.2.2
    · decide
  | a :: b :: d :: l, c, h => by
    simp only [b64, List.mem_cons] at h
    rcases h with rfl | rfl | rfl | rfl | h
    · exact (six_ne _).2.2.2
    · exact (six_ne _).2.2.2
    · exact (six_ne _).2.2.2
    · exact (six_ne _).2.2.2
    · exact b64_bytes l c h

/-! Lines with CR LF. -/
theorem seen_not {c : UInt8} (h : seenB c = true) (x : UInt8) (hx : seenB x = false) : c ≠ x := fun e => by rw [e, hx] at h; cases h
theorem pre_ne {b x : UInt8} {l p : List UInt8} (h : b ≠ x) : (x :: p).isPrefixOf (b :: l) = false := by
  simp [List.isPrefixOf, Ne.symm h]
theorem index_skip (p : List UInt8) (t : List UInt8) : ∀ (l : List UInt8), (13 : UInt8) ∉ l → Lib.index (l ++ t) (13 :: p) = if Lib.index t (13 :: p) = -1 then -1 else Lib.index t (13 :: p) + l.length
  | [], _ => by simp
  | b :: l, h => by
    have hb : b ≠ 13 := fun e => h (by rw [e]; simp)
    have ih := index_skip p t l (fun hm => h (by simp [hm]))
    have hge := Lib.index_ge t (13 :: p)
    rw [List.cons_append, Lib.index, pre_ne hb]
    simp only [Bool.false_eq_true, if_false, beq_iff_eq]
    rw [ih]
    by_cases h1 : Lib.index t (13 :: p) = -1
    · simp [h1]
    · rw [if_neg h1, if_neg (by omega), if_neg h1, List.length_cons]
      omega
theorem index_crlf (x : UInt8) (t : List UInt8) (hx : x ≠ 13) : Lib.index (13 :: 10 :: x :: t) endB = if Lib.index (x :: t) endB = -1 then -1 else Lib.index (x :: t) endB + 2 := by
  have e : endB = 13 :: [10, 13, 10] := rfl
  have h1 : endB.isPrefixOf (13 :: 10 :: x :: t) = false := by
    simp [endB, List.isPrefixOf, Ne.symm hx]
  rw [Lib.index, h1]
  simp only [Bool.false_eq_true, if_false, beq_iff_eq]
  have h2 : Lib.index (10 :: x :: t) endB = if Lib.index (x :: t) endB = -1 then -1 else Lib.index (x :: t) endB + 1 := by
    have := index_skip [10, 13, 10] (x :: t) [10] (by decide)
    exact this
  have hge := Lib.index_ge (x :: t) endB
  rw [h2]
  by_cases h3 : Lib.index (x :: t) endB = -1
  · simp [h3]
  · rw [if_neg h3, if_neg (by omega), if_neg h3]
    omega
/-- Three lines, and the empty one: its end is found, and none ahead. -/
theorem index_three {a b c : List UInt8} {y z : UInt8} (ha : (13 : UInt8) ∉ a) (hb : (13 : UInt8) ∉ y :: b) (hc : (13 : UInt8) ∉ z :: c) : Lib.index (a ++ (13 :: 10 :: (y :: b ++ (13 :: 10 :: (z :: c ++ endB))))) endB = ((a ++ (13 :: 10 :: (y :: b ++ (13 :: 10 :: (z :: c))))).length : Nat) := by
  have e0 : Lib.index endB endB = 0 := by decide
  have e1 : Lib.index (z :: c ++ endB) endB = ((z :: c).length : Nat) := by
    have := index_skip [10, 13, 10] endB (z :: c) hc
    rw [show (13 :: [10, 13, 10] : List UInt8) = endB from rfl, e0] at this
    simpa using this
  have e2 : Lib.index (13 :: 10 :: (z :: c ++ endB)) endB = ((z :: c).length + 2 : Nat) := by
    have := index_crlf z (c ++ endB) (fun e => hc (by rw [e]; simp))
    rw [show z :: (c ++ endB) = z :: c ++ endB from rfl, e1] at this
    rw [show z :: c ++ endB = z :: (c ++ endB) from rfl] at this ⊢
    rw [this, if_neg (by omega)]
    omega
  have e3 : Lib.index (y :: b ++ (13 :: 10 :: (z :: c ++ endB))) endB = ((y :: b).length + (z :: c).length + 2 : Nat) := by
    have := index_skip [10, 13, 10] (13 :: 10 :: (z :: c ++ endB)) (y :: b) hb
    rw [show (13 :: [10, 13, 10] : List UInt8) = endB from rfl, e2, if_neg (by omega)] at this
    rw [this]
    omega
  have e4 : Lib.index (13 :: 10 :: (y :: b ++ (13 :: 10 :: (z :: c ++ endB)))) endB = ((y :: b).length + (z :: c).length + 4 : Nat) := by
    have := index_crlf y (b ++ (13 :: 10 :: (z :: c ++ endB))) (fun e => hb (by rw [e]; simp))
    rw [show y :: (b ++ (13 :: 10 :: (z :: c ++ endB))) = y :: b ++ (13 :: 10 :: (z :: c ++ endB)) from rfl, e3] at this
    rw [show y :: b ++ (13 :: 10 :: (z :: c ++ endB)) = y :: (b ++ (13 :: 10 :: (z :: c ++ endB))) from rfl] at this ⊢
    rw [this, if_neg (by omega)]
    omega
  have := index_skip [10, 13, 10] (13 :: 10 :: (y :: b ++ (13 :: 10 :: (z :: c ++ endB)))) a ha
  rw [show (13 :: [10, 13, 10] : List UInt8) = endB from rfl, e4, if_neg (by omega)] at this
  rw [this]
  simp
  omega
end Go.Proofs.YtfkggpminmonmaaGreatDoor.Plain
/-
  The statements' own secrets, users, credentials and heads.
-/
namespace Go.Proofs.YtfkggpminmonmaaGreatDoor
namespace Plain
def secB (n : Int) (k : Nat) : UInt8 := (33 + (pickN n 1048576 + k * 31) % 94).toUInt8
def secretT (n : Int) (k : Nat) : List UInt8 := (List.range k).map (secB n)
theorem secretT_len (n : Int) (k : Nat) : (secretT n k).length = k := by simp [secretT]
theorem secretT_next (n : Int) (k : Nat) : secretT n (k + 1) = secretT n k ++ [secB n k] := by simp [secretT, List.range_succ]
theorem secB_nat (n : Int) (k : Nat) : ((secB n k).toNat : Int) = 33 + ((pickN n 1048576 + k * 31) % 94 : Nat) := by
  unfold secB
  have : (pickN n 1048576 + k * 31) % 94 < 94 := Nat.mod_lt _ (by decide)
  rw [Nat.toUInt8, UInt8.toNat_ofNat']
  omega
end Plain
open Go.RowKit Plain

theorem one_conv (W : World) (c : Int) (b : UInt8) (h : (b.toNat : Int) = c) : (convert 91 9 (.slice (some ⟨W.heap.size, 0, none⟩) 1 1)).run Tryz.prog (W.alloc (.cells #[.int .u8 c] 5)) = .ok (.string ⟨#[b]⟩) (W.alloc (.cells #[.int .u8 c] 5)) :=
  cells_to_str (w := W.alloc (.cells #[.int .u8 c] 5)) (g := W.heap.size) (o := 0) (c := 1) (l := [b]) (fun i hi => by
    have : i = 0 := by simpa using hi
    subst this
    rw [World.cell?_alloc_at (hn := rfl)]
    simp [h])

set_option maxRecDepth 100000 in
set_option maxHeartbeats 1600000 in
theorem secret_any (n : Int) (w : World) (hn : I64 n) :
    Calls Tryz.prog 30 #[.int .i64 n] w fun e w' => e = .returned (str (secretT n (3 + pickN n 7))) ∧ Q w w' := by
  have h7 := pickN_lt n (n := 7) (by decide)
  have hM := pickN_lt n (n := 1048576) (by decide)
  have P7 : ∀ w, Hid (Calls Tryz.prog 7 #[.int .i64 n, .int .i64 7] w fun e w' => e = .returned (.int .i64 ((pickN n 7 : Nat) : Int)) ∧ w' = w) := fun w => pick_any n 7 w hn (by decide) (by decide)
  have PM : ∀ w, Hid (Calls Tryz.prog 7 #[.int .i64 n, .int .i64 1048576] w fun e w' => e = .returned (.int .i64 ((pickN n 1048576 : Nat) : Int)) ∧ w' = w) := fun w => pick_any n 1048576 w hn (by decide) (by decide)
  have HB := fun k => show Hid _ from secB_nat n k
  obtain ⟨p, hp⟩ : ∃ p, p = pickN n 7 := ⟨_, rfl⟩
  obtain ⟨q, hq0⟩ : ∃ q, q = pickN n 1048576 := ⟨_, rfl⟩
  rw [← hp] at P7 h7
  rw [← hq0] at PM hM HB
  have HPE := show Hid _ from hp
  clear hp hq0
  go_enter Tryz.func30, Tryz.ntmps30
  go_wp2_with fail
  go_loopw [3, 4] (fun t i wr => ∃ k : Nat, k ≤ 3 + p ∧ i = .int .i64 k ∧ t = .string ⟨(secretT n k).toArray⟩ ∧ Q w wr) (fun _ i _ => 3 + p - (intOf i).toNat)
  case atStart => exact ⟨0, Nat.zero_le _, rfl, rfl, Q.refl _⟩
  case round =>
    obtain ⟨k, hk, rfl, rfl, hq⟩ := hrel
    by_cases hlt : k < 3 + p
    · have hb := (HB k).out
      have d1 : decide ((k : Int) < 3 + (p : Int)) = true := decide_eq_true (by omega)
      have hcv := fun W => one_conv W (33 + ((q + k * 31) % 94 : Nat)) (secB n k) hb
      have hrem : Int.tmod ((q : Int) + (k : Int) * 31) 94 = ((q + k * 31) % 94 : Nat) := by
        rw [Int.tmod_eq_emod_of_nonneg (by omega)]; omega
      have hm94 : (q + k * 31) % 94 < 94 := Nat.mod_lt _ (by decide)
      generalize (q + k * 31) % 94 = m at *
      have hw8 : ((33 : Int) + (m : Int)) % 256 = 33 + (m : Int) := by omega
      have hsl := secretT_len n k
      obtain ⟨T, hT⟩ : ∃ T : ByteArray, T = ⟨(secretT n k).toArray⟩ := ⟨_, rfl⟩
      have hTs : T.size = k := by rw [hT]; exact hsl
      have HT := show Hid _ from hT
      rw [← hT]
      clear hT hsl hb
      go_wp2_with (first | (go_at_call_of 7 (Value.int IntKind.i64 7); refine Calls.mono (Hid.out (P7 _)) ?_; rintro e w' ⟨rfl, hw⟩; rw [hw]; clear hw) | (go_at_call_of 7 (Value.int IntKind.i64 1048576); refine Calls.mono (Hid.out (PM _)) ?_; rintro e w' ⟨rfl, hw⟩; rw [hw]; clear hw))
      exact ⟨⟨k + 1, by omega, by go_num, by rw [HT.out, secretT_next, ← str_app], hq.alloc _⟩, by simp [intOf]; omega⟩
    · have d1 : decide ((k : Int) < 3 + (p : Int)) = false := decide_eq_false (by omega)
      have hkp : k = 3 + p := by omega
      have HK := show Hid _ from hkp
      clear hkp
      go_wp2_with (first | (go_at_call_of 7 (Value.int IntKind.i64 7); refine Calls.mono (Hid.out (P7 _)) ?_; rintro e w' ⟨rfl, hw⟩; rw [hw]; clear hw) | (go_at_call_of 7 (Value.int IntKind.i64 1048576); refine Calls.mono (Hid.out (PM _)) ?_; rintro e w' ⟨rfl, hw⟩; rw [hw]; clear hw))
      go_ret
      exact ⟨by rw [← HPE.out, ← HK.out]; rfl, hq⟩

namespace Plain
def usersT (n : Int) : List (List UInt8 × List UInt8) := [([97, 110, 110], secretT n (3 + pickN n 7)), ([98, 111, 98], secretT n (3 + pickN n 7) ++ [98]), ([99, 121], [99] ++ secretT n (3 + pickN n 7))]
def wordT (n : Int) (who : Nat) : List UInt8 := ((usersT n).getD who ([], [])).2
theorem secret_len10 (n : Int) : (secretT n (3 + pickN n 7)).length ≤ 9 := by
  rw [secretT_len]
  have := pickN_lt n (n := 7) (by decide)
  omega
end Plain

set_option maxRecDepth 100000 in
set_option maxHeartbeats 1600000 in
theorem users_any (n : Int) (w : World) (hn : I64 n) :
    Calls Tryz.prog 10 #[.int .i64 n] w fun e w' => ∃ g, e = .returned (.slice (some ⟨g, 0, none⟩) 3 3) ∧ Q w w' ∧ w.heap.size ≤ g ∧ g < w'.heap.size ∧ ∀ i u, (usersT n)[i]? = some u → w'.cell? ⟨g, i * 2, none⟩ = some (str u.1) ∧ w'.cell? ⟨g, i * 2 + 1, none⟩ = some (str u.2) := by
  have HS := fun x => show Hid _ from secret_any n x hn
  have hl := secret_len10 n
  obtain ⟨S, hS⟩ : ∃ S : ByteArray, S.data.toList = secretT n (3 + pickN n 7) := ⟨⟨(secretT n (3 + pickN n 7)).toArray⟩, rfl⟩
  have hSz : S.size ≤ 9 := by rw [← size_len, hS]; exact hl
  have HUs : Hid (usersT n = [([97, 110, 110], S.data.toList), ([98, 111, 98], S.data.toList ++ [98]), ([99, 121], [99] ++ S.data.toList)]) := by
    show _ = _
    unfold usersT; rw [hS]
  rw [← hS] at HS
  clear hl hS
  go_enter Tryz.func10, Tryz.ntmps10
  go_wp2_with fail
  refine Calls.mono (Hid.out (HS _)) ?_
  rintro e w1 ⟨rfl, hq1⟩
  rw [str_data]
  go_wp2_with fail
  refine Calls.mono (Hid.out (HS _)) ?_
  rintro e w2 ⟨rfl, hq2⟩
  rw [str_data]
  go_wp2_with fail
  refine Calls.mono (Hid.out (HS _)) ?_
  rintro e w3 ⟨rfl, hq3⟩
  rw [str_data]
  have hQ := (hq1.trans hq2).trans hq3
  clear hq1 hq2 hq3 HS
  go_wp2_with fail
  go_ret
  refine ⟨w3.heap.size, rfl, hQ.alloc _, hQ.size, by simp, fun i u hi => ?_⟩
  rw [HUs.out] at hi
  have sb : (.string (S ++ ⟨#[98]⟩) : Value) = str (S.data.toList ++ [98]) := by
    unfold str
    rw [← Lib.mk_data (S ++ ⟨#[98]⟩)]
    simp
  have sc : (.string (⟨#[99]⟩ ++ S) : Value) = str ([99] ++ S.data.toList) := by
    unfold str
    rw [← Lib.mk_data (⟨#[99]⟩ ++ S)]
    simp
  rw [World.cell?_alloc_at (hn := rfl), World.cell?_alloc_at (hn := rfl)]
  rcases i with _ | _ | _ | i
  · cases hi; exact ⟨rfl, rfl⟩
  · cases hi; exact ⟨rfl, by rw [← sb]; rfl⟩
  · cases hi; exact ⟨rfl, by rw [← sc]; rfl⟩
  · simp at hi

set_option maxRecDepth 100000 in
set_option maxHeartbeats 1600000 in
theorem word_any (n : Int) (who : Nat) (w : World) (hn : I64 n) (hw : who < 3) :
    Calls Tryz.prog 12 #[.int .i64 n, .int .i64 (who : Int)] w fun e w' => e = .returned (str (wordT n who)) ∧ Q w w' := by
  have HU := show Hid _ from users_any n w hn
  have hget : (usersT n)[who]? = some ((usersT n).getD who ([], [])) := by
    rw [List.getD_eq_getElem?_getD, List.getElem?_eq_getElem (show who < (usersT n).length from hw)]; rfl
  have HG := show Hid _ from hget
  clear hget
  go_enter Tryz.func12, Tryz.ntmps12
  go_wp2_with fail
  refine Calls.mono (Hid.out HU) ?_
  rintro e w1 ⟨g, rfl, hq, _, _, hc⟩
  have hc1 := (hc who _ HG.out).2
  have hc2 : w1.cell? ⟨g, who * 2 + 1, none⟩ = some (str (wordT n who)) := hc1
  unfold str at hc2
  clear hc hc1 HU
  go_wp2_with fail
  go_ret
  exact ⟨rfl, hq⟩
end Go.Proofs.YtfkggpminmonmaaGreatDoor

/-
  The document's answer, as plain functions: which hosts there are; what a rule says of a question; rules of a text; the first that fits.
-/
import Derived.Test.YtdmaffciijmdcaaGreatDoorRG5ToRPlain
namespace Go.Proofs.YtdmaffciijmdcaaGreatDoor.Plain

theorem lowB_46 (b : UInt8) : lowB b = 46 ↔ b = 46 := by
  unfold lowB
  split
  · rename_i h
    constructor
    · intro e
      have := congrArg UInt8.toNat e
      rw [UInt8.toNat_add] at this
      have h2 : (b.toNat + 32) % 256 = 46 := this
      omega
    · intro e; rw [e] at h; have h2 : (46 : UInt8).toNat = 46 := rfl; omega
  · exact Iff.rfl
theorem lowB_fig {b : UInt8} (h : fig (lowB b) = true ∨ lowB b = 46) : lowB b = b := by
  unfold lowB at *
  split at h
  · rename_i hx
    exfalso
    have e : (b + 32).toNat = b.toNat + 32 := by
      rw [UInt8.toNat_add]
      show (b.toNat + 32) % 256 = _
      omega
    rcases h with h | h
    · have := fig_bounds h; omega
    · have := congrArg UInt8.toNat h
      rw [e] at this
      have h2 : (46 : UInt8).toNat = 46 := rfl
      omega
  · rename_i hx; rw [if_neg hx]
theorem lower_sameR {l : List UInt8} (h : ∀ c ∈ lower l, fig c = true ∨ c = 46) : lower l = l := by
  induction l with
  | nil => rfl
  | cons b l ih =>
    show lowB b :: lower l = b :: l
    rw [lowB_fig (h (lowB b) (by simp [lower])), ih fun c hc => h c (by simp [lower] at hc ⊢; exact .inr hc)]
theorem parts_lower (l : List UInt8) : parts 46 (lower l) = (parts 46 l).map lower := by
  induction l with
  | nil => rfl
  | cons b l ih =>
    show parts 46 (lowB b :: lower l) = _
    rw [parts, parts]
    by_cases hb : b = 46
    · rw [if_pos ((lowB_46 b).2 hb), if_pos hb, ih]; rfl
    · rw [if_neg (fun e => hb ((lowB_46 b).1 e)), if_neg hb, ih]
      cases h : parts 46 l with
      | nil => exact absurd h (parts_ne _ _)
      | cons p ps => rfl
theorem last_lower (l : List UInt8) : lastPart (lower l) = lower (lastPart l) := by
  unfold lastPart
  rw [parts_lower]
  have hne := parts_ne 46 l
  rw [List.getLastD_eq_getLast?, List.getLastD_eq_getLast?, List.getLast?_map]
  cases h : (parts 46 l).getLast? with
  | none => rw [List.getLast?_eq_none_iff] at h; exact absurd h hne
  | some p => rfl
theorem fig_low_same {b : UInt8} (h : fig b = true) : lowB b = b := by
  have := fig_bounds h
  unfold lowB; rw [if_neg (by omega)]
theorem figs_lower {l : List UInt8} : allB fig (lower l) = allB fig l := by
  unfold allB lower
  rw [List.all_map, Bool.eq_iff_iff, List.all_eq_true, List.all_eq_true]
  constructor
  · intro h c hc
    have := h c hc
    simp only [Function.comp] at this
    rwa [lowB_fig (.inl this)] at this
  · intro h c hc
    simp only [Function.comp]
    rw [fig_low_same (h c hc)]; exact h c hc
theorem address_figs {l : List UInt8} {ns : List Nat} (h : address l = some ns) : (∀ c ∈ l, fig c = true ∨ c = 46) ∧ allB fig (lastPart l) = true := by
  obtain ⟨p0, p1, p2, p3, a, b, c, d, hp, _, h0, h1, h2, h3⟩ := address_some h
  have hnum : ∀ {p : List UInt8} {n : Nat}, number p 255 = some n → allB fig p = true := by
    intro p n hn
    unfold number at hn
    split at hn
    · rename_i hx
      have hf := hx.1
      unfold numForm at hf
      simp only [Bool.and_eq_true] at hf
      exact hf.1.2
    · cases hn
  constructor
  · intro c hc
    rcases mem_parts0 (s := 46) hc with h' | ⟨p, hpm, hcp⟩
    · exact .inr h'
    · rw [hp] at hpm
      simp only [List.mem_cons, List.not_mem_nil, or_false] at hpm
      rcases hpm with rfl | rfl | rfl | rfl
      · exact .inl (List.all_eq_true.1 (hnum h0) c hcp)
      · exact .inl (List.all_eq_true.1 (hnum h1) c hcp)
      · exact .inl (List.all_eq_true.1 (hnum h2) c hcp)
      · exact .inl (List.all_eq_true.1 (hnum h3) c hcp)
  · unfold lastPart
    rw [hp]
    exact hnum h3
theorem address_lower (l : List UInt8) : address (lower l) = address l := by
  cases h : address l with
  | some ns =>
    have : lower l = l := by
      have hf := (address_figs h).1
      apply lower_sameR
      intro c hc
      unfold lower at hc
      obtain ⟨b, hb, rfl⟩ := List.mem_map.1 hc
      rcases hf b hb with h1 | h1
      · rw [fig_low_same h1]; exact .inl h1
      · exact .inr ((lowB_46 b).2 h1)
    rw [this, h]
  | none =>
    cases h2 : address (lower l) with
    | none => rfl
    | some ns => rw [lower_sameR (address_figs h2).1, h] at h2; cases h2

/-- The two ways to be a host. -/
theorem host_cases (h : List UInt8) : (readHost h = none ∧ hostR (lower h) = false) ∨
    (readHost h = some (lower h, [0, 0, 0, 0]) ∧ hostR (lower h) = true ∧ nameOk (lower h) = true ∧ addrR (lower h) = -1) ∨
    ∃ q : Nat, q < 4294967296 ∧ readHost h = some ([], oct0 q) ∧ hostR (lower h) = true ∧ nameOk (lower h) = false ∧ addrR (lower h) = (q : Int) := by
  have hl : addrR (lower h) = addrR h := by unfold addrR; rw [address_lower]
  unfold readHost hostR
  by_cases hf : allB fig (lastPart h) = true
  · rw [if_pos hf]
    have hn : nameOk (lower h) = false := by
      cases hx : nameOk (lower h) with
      | false => rfl
      | true =>
        have := name_last hx
        rw [last_lower, figs_lower, hf] at this; cases this
    cases ha : address h with
    | none =>
      refine .inl ⟨rfl, ?_⟩
      rw [hn, hl, address_none ha]; rfl
    | some ns =>
      obtain ⟨q, hq, rfl, hr⟩ := address_four ha
      refine .inr (.inr ⟨q, hq, rfl, ?_, hn, by rw [hl, hr]⟩)
      rw [hn, hl, hr, decide_eq_true (by omega)]; rfl
  · rw [if_neg hf]
    have ha : address h = none := by
      cases hx : address h with
      | none => rfl
      | some ns => exact absurd (address_figs hx).2 hf
    cases hn : nameOk (lower h) with
    | true => exact .inr (.inl ⟨rfl, rfl, rfl, by rw [hl, address_none ha]⟩)
    | false => exact .inl ⟨rfl, by rw [hl, address_none ha]; rfl⟩

theorem suffix_drop (h s : List UInt8) : Lib.hasSuffix h s = (decide (s.length ≤ h.length) && h.drop (h.length - s.length) == s) := by
  unfold Lib.hasSuffix
  rw [Bool.eq_iff_iff, List.isSuffixOf_iff_suffix, List.suffix_iff_eq_drop]
  simp only [Bool.and_eq_true, decide_eq_true_eq, beq_iff_eq]
  constructor
  · intro e
    exact ⟨by have := congrArg List.length e; simp at this; omega, e.symm⟩
  · intro ⟨_, e⟩
    exact e.symm

theorem where_fit {s h nm : List UInt8} {ad : List Nat} {p : HostP} (hp : readHostP s = some p) (hh : readHost h = some (nm, ad)) : (whereR s (lower h)).1 = hostFits p nm ad := by
  by_cases h0 : s = [42]
  · subst h0; cases hp; rfl
  · rcases host_cases h with ⟨h1, _⟩ | ⟨h1, _, hn, hA⟩ | ⟨q, hq, h1, _, hn, hA⟩
    · rw [h1] at hh; cases hh
    · rw [h1] at hh
      cases hh
      cases hc : cutAt 47 s with
      | none =>
        rw [whereR_other h0 (cut_one hc)]
        rw [readHostP_name h0 hc] at hp
        by_cases hd : s[0]? = some 46
        · rw [if_pos hd] at hp ⊢
          split at hp
          · cases hp
            unfold hostFits
            dsimp only
            rw [if_neg (by decide), if_neg (by decide), if_pos rfl, hn, Bool.true_and, suffix_drop]
            have hs : s = 46 :: s.drop 1 := by
              cases s with
              | nil => simp at hd
              | cons b l => simp at hd; subst hd; rfl
            rw [← hs]
          · cases hp
        · rw [if_neg hd] at hp ⊢
          split at hp
          · cases hp
            rfl
          · cases hp
      | some x =>
        obtain ⟨a, r⟩ := x
        rw [readHostP_net h0 hc] at hp
        rcases net_cases a r with ⟨g1, _⟩ | ⟨A, k, hA2, hk, hR, hN, hm, g1⟩
        · rw [g1] at hp; cases hp
        · rw [g1] at hp
          cases hp
          have hr : (47 : UInt8) ∉ r := by
            intro hx
            rcases numR_cases r 32 with ⟨g2, g3⟩ | ⟨n, g2, _, _⟩
            · rw [g3] at hN; omega
            · exact num_no47 g2 hx
          have hnot : ¬ (addrR a < 0 ∨ numR r 32 < 0 ∨ ¬ addrR a % (sizeR (numR r 32).toNat : Nat) = 0) := by
            rw [hR, hN]
            unfold sizeR
            rw [Int.toNat_natCast, ← Int.natCast_emod, hm]
            omega
          rw [whereR_two h0 (cut_two hc hr), if_neg hnot]
          unfold hostFits
          dsimp only
          rw [if_neg (by decide), if_neg (by decide), if_neg (by decide)]
          have he : (lower h).isEmpty = false := by
            cases hx : lower h with
            | nil => exact absurd hx (name_ne hn)
            | cons => rfl
          rw [he, hA, hR, hN]
          show (decide ((A : Int) ≤ -1) && _) = (false && _)
          rw [decide_eq_false (by omega)]; rfl
    · rw [h1] at hh
      cases hh
      cases hc : cutAt 47 s with
      | none =>
        rw [whereR_other h0 (cut_one hc)]
        rw [readHostP_name h0 hc] at hp
        by_cases hd : s[0]? = some 46
        · rw [if_pos hd] at hp ⊢
          split at hp
          · rename_i hx
            cases hp
            unfold hostFits
            dsimp only
            rw [if_neg (by decide), if_neg (by decide), if_pos rfl, hn, Bool.false_and, nil_not_suffix0, beq_eq_false_iff_ne.2 (fun e => name_ne hx e.symm)]; rfl
          · cases hp
        · rw [if_neg hd] at hp ⊢
          split at hp
          · rename_i hx
            cases hp
            show (lower h == s) = ([] == s)
            rw [beq_eq_false_iff_ne.2 (fun e => by rw [e, hx] at hn; cases hn), beq_eq_false_iff_ne.2 (fun e => name_ne hx e.symm)]
          · cases hp
      | some x =>
        obtain ⟨a, r⟩ := x
        rw [readHostP_net h0 hc] at hp
        rcases net_cases a r with ⟨g1, _⟩ | ⟨A, k, hA2, hk, hR, hN, hm, g1⟩
        · rw [g1] at hp; cases hp
        · rw [g1] at hp
          cases hp
          have hr : (47 : UInt8) ∉ r := by
            intro hx
            rcases numR_cases r 32 with ⟨g2, g3⟩ | ⟨n, g2, _, _⟩
            · rw [g3] at hN; omega
            · exact num_no47 g2 hx
          have hnot : ¬ (addrR a < 0 ∨ numR r 32 < 0 ∨ ¬ addrR a % (sizeR (numR r 32).toNat : Nat) = 0) := by
            rw [hR, hN]
            unfold sizeR
            rw [Int.toNat_natCast, ← Int.natCast_emod, hm]
            omega
          rw [whereR_two h0 (cut_two hc hr), if_neg hnot]
          unfold hostFits
          dsimp only
          rw [if_neg (by decide), if_neg (by decide), if_neg (by decide), hA, hR, hN]
          have hV : 0 < 2 ^ (32 - k) := Nat.pow_pos (by decide)
          have hb := firstN_block0 k q A (by omega) hq hA2
          have hA3 : A / 2 ^ (32 - k) * 2 ^ (32 - k) = A := by
            have := Nat.div_add_mod A (2 ^ (32 - k))
            rw [hm, Nat.add_zero, Nat.mul_comm] at this
            exact this
          rw [hA3] at hb
          have hi := block_iff (q := q) hV hm
          unfold sizeR
          rw [Int.toNat_natCast]
          generalize 2 ^ (32 - k) = V at *
          rw [Bool.eq_iff_iff]
          simp only [List.isEmpty_nil, Bool.true_and, beq_iff_eq, Bool.and_eq_true, decide_eq_true_eq]
          rw [hb, hi]
          omega
end Go.Proofs.YtdmaffciijmdcaaGreatDoor.Plain
/-
  The document's answer, as plain functions: rules of a text, the first that fits, what may be asked.
-/
namespace Go.Proofs.YtdmaffciijmdcaaGreatDoor.Plain

/-- The fields of a line, and the rule that they are. -/
def RowIs (row : List (List UInt8)) (r : RuleS) : Prop := ∃ line, row = parts 32 line ∧ readRule line = some r

theorem five {α : Type} {l : List α} (h : l.length = 5) : ∃ a b c d e, l = [a, b, c, d, e] := by
  match l, h with
  | [a, b, c, d, e], _ => exact ⟨a, b, c, d, e, rfl⟩
theorem fitsR_len {l : List (List UInt8)} {t h : List UInt8} {p m : Int} (hl : ¬ l.length = 5) : fitsR l t h p m = (false, false) := by
  unfold fitsR
  split
  · exact absurd rfl hl
  · rfl
theorem readRule_len {line : List UInt8} (hl : ¬ (parts 32 line).length = 5) : readRule line = none := by
  unfold readRule
  split
  · rename_i he; rw [he] at hl; exact absurd rfl hl
  · rfl
theorem fits_ok (line t h : List UInt8) (p m : Int) : (fitsR (parts 32 line) t h p m).2 = (readRule line).isSome := by
  by_cases hl : (parts 32 line).length = 5
  case neg => rw [fitsR_len hl, readRule_len hl]; rfl
  obtain ⟨f0, f1, f2, f3, f4, he⟩ := five hl
  unfold readRule fitsR
  rw [he]
  dsimp only
  unfold readVerd readTen
  by_cases h0 : f0 = allowB
  · rw [if_neg (fun hx => hx.1 h0), if_pos (show f0 = [97, 108, 108, 111, 119] from h0)]
    dsimp only
    rw [where_ok, port_ok, minute_ok]
    by_cases h1 : f1 = [42]
    · rw [if_pos h1, h1]
      cases readHostP f2 <;> cases readPortP f3 <;> cases readMinP f4 <;> rfl
    · rw [if_neg h1, beq_eq_false_iff_ne.2 h1]
      cases tenantOk f1 <;> cases readHostP f2 <;> cases readPortP f3 <;> cases readMinP f4 <;> rfl
  · rw [if_neg (show ¬ f0 = [97, 108, 108, 111, 119] from h0)]
    by_cases h2 : f0 = denyW
    · rw [if_neg (fun hx => hx.2 h2), if_pos (show f0 = [100, 101, 110, 121] from h2)]
      dsimp only
      rw [where_ok, port_ok, minute_ok]
      by_cases h1 : f1 = [42]
      · rw [if_pos h1, h1]
        cases readHostP f2 <;> cases readPortP f3 <;> cases readMinP f4 <;> rfl
      · rw [if_neg h1, beq_eq_false_iff_ne.2 h1]
        cases tenantOk f1 <;> cases readHostP f2 <;> cases readPortP f3 <;> cases readMinP f4 <;> rfl
    · rw [if_pos ⟨h0, h2⟩, if_neg (show ¬ f0 = [100, 101, 110, 121] from h2)]; rfl

/-- A rule's five fields, read. -/
theorem rule_parts {line : List UInt8} {r : RuleS} (h : readRule line = some r) : ∃ f0 f1 f2 f3 f4, parts 32 line = [f0, f1, f2, f3, f4] ∧ readVerd f0 = some r.allow ∧ readTen f1 = some r.ten ∧ readHostP f2 = some r.host ∧ readPortP f3 = some r.port ∧ readMinP f4 = some r.minute := by
  unfold readRule at h
  split at h
  case h_2 => cases h
  rename_i f0 f1 f2 f3 f4 he
  refine ⟨f0, f1, f2, f3, f4, he, ?_⟩
  cases h0 : readVerd f0 with
  | none => rw [h0] at h; cases h
  | some v =>
    rw [h0] at h
    cases h1 : readTen f1 with
    | none => rw [h1] at h; cases h
    | some t =>
      rw [h1] at h
      cases h2 : readHostP f2 with
      | none => rw [h2] at h; cases h
      | some hp =>
        rw [h2] at h
        cases h3 : readPortP f3 with
        | none => rw [h3] at h; cases h
        | some pp =>
          rw [h3] at h
          cases h4 : readMinP f4 with
          | none => rw [h4] at h; cases h
          | some mm => rw [h4] at h; cases h; exact ⟨rfl, rfl, rfl, rfl, rfl⟩
theorem row_five {row : List (List UInt8)} {r : RuleS} (h : RowIs row r) : row.length = 5 := by
  obtain ⟨line, rfl, h⟩ := h
  obtain ⟨_, _, _, _, _, he, _⟩ := rule_parts h
  rw [he]; rfl
theorem row_allow {row : List (List UInt8)} {r : RuleS} (h : RowIs row r) : ∃ f0 rest, row = f0 :: rest ∧ (f0 == allowB) = r.allow := by
  obtain ⟨line, rfl, h⟩ := h
  obtain ⟨f0, f1, f2, f3, f4, he, h0, _⟩ := rule_parts h
  refine ⟨f0, [f1, f2, f3, f4], he, ?_⟩
  unfold readVerd at h0
  split at h0
  · rename_i hx; rw [hx, ← Option.some.inj h0]; rfl
  · rename_i hx
    split at h0
    · rw [← Option.some.inj h0]; exact beq_eq_false_iff_ne.2 hx
    · cases h0
theorem row_fits {row : List (List UInt8)} {r : RuleS} {t h nm : List UInt8} {ad : List Nat} {p m : Int} (hrow : RowIs row r) (hh : readHost h = some (nm, ad)) : (fitsR row t (lower h) p m).1 = ruleFits r t nm ad p m := by
  obtain ⟨line, rfl, hr⟩ := hrow
  obtain ⟨f0, f1, f2, f3, f4, he, h0, h1, h2, h3, h4⟩ := rule_parts hr
  unfold fitsR ruleFits
  rw [he]
  dsimp only
  have hv : ¬ (f0 ≠ allowB ∧ f0 ≠ denyW) := by
    intro ⟨ha, hb⟩
    unfold readVerd at h0
    rw [if_neg (show ¬ f0 = [97, 108, 108, 111, 119] from ha), if_neg (show ¬ f0 = [100, 101, 110, 121] from hb)] at h0
    cases h0
  rw [if_neg hv]
  dsimp only
  rw [where_fit h2 hh, port_fit h3, minute_fit h4]
  have ht : (f1 == [42] || f1 == t) = tenFits r.ten t := by
    unfold readTen at h1
    split at h1
    · rename_i hx; rw [← Option.some.inj h1, hx]; rfl
    · rename_i hx
      split at h1
      · rw [← Option.some.inj h1, beq_eq_false_iff_ne.2 hx]
        show (false || f1 == t) = (t == f1)
        rw [Bool.false_or, Bool.eq_iff_iff, beq_iff_eq, beq_iff_eq]; exact eq_comm
      · cases h1
  rw [ht]

/-! ### rules of a text -/
def rowsOf : Nat → List (List UInt8) → Except (Nat × Nat) (List (List (List UInt8)))
  | _, [] => .ok []
  | n, [l] => if l = [] then .ok [] else if 40 < n then .error (2, n) else .error (3, n)
  | n, l :: m :: ls => if 40 < n then .error (2, n) else if (readRule l).isSome = true then (match rowsOf (n + 1) (m :: ls) with
      | .error e => .error e
      | .ok rs => .ok (parts 32 l :: rs)) else .error (3, n)
def rulesR (l : List UInt8) : Except (Nat × Nat) (List (List (List UInt8))) := if 4000 < l.length then .error (1, 0) else rowsOf 1 (parts 10 l)
def AllRows : List (List (List UInt8)) → List RuleS → Prop
  | [], [] => True
  | row :: rows, r :: rs => RowIs row r ∧ AllRows rows rs
  | _, _ => False
/-- The same errors; rows for rules. -/
def SameRules : Except (Nat × Nat) (List (List (List UInt8))) → Except (Nat × Nat) (List RuleS) → Prop
  | .error e, .error f => e = f
  | .ok rows, .ok rs => AllRows rows rs
  | _, _ => False
theorem rows_same : ∀ (n : Nat) (ls : List (List UInt8)), SameRules (rowsOf n ls) (rulesOf n ls)
  | _, [] => trivial
  | n, [l] => by
    unfold rowsOf rulesOf
    split
    · trivial
    · split
      · rfl
      · rfl
  | n, l :: m :: ls => by
    unfold rowsOf rulesOf
    have ih := rows_same (n + 1) (m :: ls)
    split
    · rfl
    · cases hr : readRule l with
      | none => rfl
      | some r =>
        dsimp only [Option.isSome_some]
        rw [if_pos rfl]
        revert ih
        cases rowsOf (n + 1) (m :: ls) with
        | error e =>
          cases rulesOf (n + 1) (m :: ls) with
          | error f => exact fun h => h
          | ok rs => exact fun h => h.elim
        | ok rows =>
          cases rulesOf (n + 1) (m :: ls) with
          | error f => exact fun h => h.elim
          | ok rs => exact fun h => ⟨⟨l, rfl, hr⟩, h⟩
theorem rules_same (l : List UInt8) : SameRules (rulesR l) (compileS l) := by
  unfold rulesR compileS
  split
  · rfl
  · exact rows_same _ _
def aheadR (a : List (List (List UInt8))) : Except (Nat × Nat) (List (List (List UInt8))) → Except (Nat × Nat) (List (List (List UInt8)))
  | .error e => .error e
  | .ok b => .ok (a ++ b)
theorem aheadR_nil (x : Except (Nat × Nat) (List (List (List UInt8)))) : aheadR [] x = x := by cases x <;> rfl
theorem aheadR_aheadR (a b : List (List (List UInt8))) (x : Except (Nat × Nat) (List (List (List UInt8)))) : aheadR a (aheadR b x) = aheadR (a ++ b) x := by cases x <;> simp [aheadR]
theorem rows_step {n : Nat} {l m : List UInt8} {ls : List (List UInt8)} (h : ¬ 40 < n) (hr : (readRule l).isSome = true) : rowsOf n (l :: m :: ls) = aheadR [parts 32 l] (rowsOf (n + 1) (m :: ls)) := by
  rw [rowsOf, if_neg h, if_pos hr]
  cases rowsOf (n + 1) (m :: ls) <;> rfl

/-! ### the first that fits -/
def decRows (t h : List UInt8) (p m : Int) : Nat → List (List (List UInt8)) → Bool × Int
  | _, [] => (false, -1)
  | k, row :: rows => if (fitsR row t h p m).1 = true then (row.headD [] == allowB, (k : Int)) else decRows t h p m (k + 1) rows
theorem dec_same {t h nm : List UInt8} {ad : List Nat} {p m : Int} (hh : readHost h = some (nm, ad)) : ∀ (k : Nat) (rows : List (List (List UInt8))) (rs : List RuleS), AllRows rows rs →
    decRows t (lower h) p m k rows = decideFrom (fun r => ruleFits r t nm ad p m) k rs
  | _, [], [], _ => rfl
  | k, row :: rows, r :: rs, hx => by
    rw [decRows, decideFrom, row_fits hx.1 hh, dec_same hh (k + 1) rows rs hx.2]
    obtain ⟨f0, rest, rfl, ha⟩ := row_allow hx.1
    rw [List.headD_cons, ha]
theorem decRows_drop {t h : List UInt8} {p m : Int} {rows : List (List (List UInt8))} {k : Nat} {row : List (List UInt8)} (hk : rows[k]? = some row) :
    decRows t h p m k (rows.drop k) = if (fitsR row t h p m).1 = true then (row.headD [] == allowB, (k : Int)) else decRows t h p m (k + 1) (rows.drop (k + 1)) := by
  obtain ⟨hlt, rfl⟩ := List.getElem?_eq_some_iff.1 hk
  rw [← List.getElem_cons_drop hlt, decRows]
theorem allRows_len : ∀ {rows : List (List (List UInt8))} {rs : List RuleS}, AllRows rows rs → rows.length = rs.length
  | [], [], _ => rfl
  | _ :: _, _ :: _, h => by rw [List.length_cons, List.length_cons, allRows_len h.2]
theorem allRows_five : ∀ {rows : List (List (List UInt8))} {rs : List RuleS}, AllRows rows rs → ∀ row ∈ rows, row.length = 5
  | [], [], _, _, h => by cases h
  | _ :: _, _ :: _, h, row, hm => by
    rcases List.mem_cons.1 hm with rfl | hm
    · exact row_five h.1
    · exact allRows_five h.2 row hm

def asksR (t h : List UInt8) (p m : Int) : Bool := tenantOk t && hostR (lower h) && decide (0 ≤ p) && decide (p ≤ 65535) && decide (0 ≤ m) && decide (m < 10080)
theorem asks_same (t h : List UInt8) (p m : Int) : asksR t h p m = (askS t h p m).isSome := by
  unfold asksR askS
  have hh : hostR (lower h) = (readHost h).isSome := by
    rcases host_cases h with ⟨h1, h2⟩ | ⟨h1, h2, _⟩ | ⟨q, _, h1, h2, _⟩
    · rw [h1, h2]; rfl
    · rw [h1, h2]; rfl
    · rw [h1, h2]; rfl
  rw [hh]
  split
  · rename_i hx
    obtain ⟨a, b, c, d, e⟩ := hx
    rw [e, decide_eq_true a, decide_eq_true b, decide_eq_true c, decide_eq_true d]
    cases (readHost h).isSome <;> rfl
  · rename_i hx
    show _ = false
    rw [Bool.eq_false_iff]
    intro hy
    simp only [Bool.and_eq_true, decide_eq_true_eq] at hy
    exact hx ⟨hy.1.1.1.2, hy.1.1.2, hy.1.2, hy.2, hy.1.1.1.1.1⟩
end Go.Proofs.YtdmaffciijmdcaaGreatDoor.Plain
/-
  The document's answer: a rule's fields.
-/
namespace Go.Proofs.YtdmaffciijmdcaaGreatDoor
namespace Plain
theorem portR_star (n : Int) : portR [42] n = (true, true) := rfl
theorem portR_one {s : List UInt8} {n : Int} (h0 : ¬ s = [42]) (h : 0 ≤ numR s 65535) : portR s n = (n == numR s 65535, true) := by unfold portR; rw [if_neg h0, if_pos h]
theorem portR_two {s : List UInt8} {n : Int} (h0 : ¬ s = [42]) (h : ¬ 0 ≤ numR s 65535) : portR s n = (decide ((pairR s 65535).1 ≤ n) && decide (n ≤ (pairR s 65535).2), decide (0 ≤ (pairR s 65535).1) && decide ((pairR s 65535).1 ≤ (pairR s 65535).2)) := by unfold portR; rw [if_neg h0, if_neg h]
theorem minuteR_star (n : Int) : minuteR [42] n = (true, true) := rfl
theorem minuteR_up {s : List UInt8} {n : Int} (h0 : ¬ s = [42]) (h : (pairR s 10079).1 ≤ (pairR s 10079).2) : minuteR s n = (decide ((pairR s 10079).1 ≤ n) && decide (n ≤ (pairR s 10079).2), decide (0 ≤ (pairR s 10079).1)) := by unfold minuteR; rw [if_neg h0, if_pos h]
theorem minuteR_down {s : List UInt8} {n : Int} (h0 : ¬ s = [42]) (h : ¬ (pairR s 10079).1 ≤ (pairR s 10079).2) : minuteR s n = (decide ((pairR s 10079).1 ≤ n) || decide (n ≤ (pairR s 10079).2), true) := by unfold minuteR; rw [if_neg h0, if_neg h]
theorem numR_range (s : List UInt8) (most : Nat) : -1 ≤ numR s most ∧ numR s most ≤ most := by
  rcases numR_cases s most with ⟨_, h⟩ | ⟨n, _, h, hn⟩ <;> rw [h] <;> omega
theorem span_le {s : List UInt8} {most x y : Nat} (h : span s most = some (x, y)) : x ≤ most ∧ y ≤ most := by
  unfold span at h
  cases hc : cutAt 45 s with
  | none => rw [hc] at h; cases h
  | some v =>
    obtain ⟨a, r⟩ := v
    rw [hc] at h
    dsimp only at h
    cases h1 : number a most with
    | none => rw [h1] at h; cases h
    | some x' =>
      rw [h1] at h
      cases h2 : number r most with
      | none => rw [h2] at h; cases h
      | some y' => rw [h2] at h; cases h; exact ⟨number_le h1, number_le h2⟩
theorem pairR_range (s : List UInt8) (most : Nat) : (-1 ≤ (pairR s most).1 ∧ (pairR s most).1 ≤ most) ∧ (-1 ≤ (pairR s most).2 ∧ (pairR s most).2 ≤ most) := by
  rcases pairR_span s most with ⟨_, h⟩ | ⟨x, y, h1, h⟩
  · rw [h]; dsimp only; omega
  · have := span_le h1
    rw [h]; dsimp only; omega
end Plain
open Go.RowKit Plain

theorem tup2 {a b c d : Bool} (h : (a, b) = (c, d)) : Ending.returned (.tuple #[.bool a, .bool b]) = .returned (.tuple #[.bool c, .bool d]) := by cases h; rfl

set_option maxRecDepth 100000 in
set_option maxHeartbeats 1600000 in
theorem rport_any (s : List UInt8) (n : Int) (w : World) (hs : s.length ≤ 2097152) :
    Calls Tryz.prog 184 #[.string ⟨s.toArray⟩, .int .i64 n] w fun e w' => e = .returned (.tuple #[.bool (portR s n).1, .bool (portR s n).2]) ∧ Q w w' := by
  have HN := fun w => show Hid _ from rnumber_any s 65535 w (by omega) (by decide)
  have HP := fun w => show Hid _ from rpair_any s 65535 w hs (by decide)
  go_enter Tryz.func184, Tryz.ntmps184
  by_cases h0 : s = [42]
  · have hb : (s == [42]) = true := by rw [h0]; rfl
    have HS : Hid (portR s n = (true, true)) := by rw [h0]; exact portR_star n
    clear h0
    go_wp2_with fail
    go_ret2
    exact ⟨by rw [HS.out]; rfl, Q.refl _⟩
  have hb : (s == [42]) = false := beq_eq_false_iff_ne.2 h0
  obtain ⟨r1, r2⟩ := numR_range s 65535
  by_cases h1 : 0 ≤ numR s 65535
  · have HS : Hid _ := show portR s n = (n == numR s 65535, true) from portR_one h0 h1
    clear h0
    go_wp2_with fail
    refine Calls.mono (Hid.out (HN _)) ?_
    rintro e w1 ⟨rfl, rfl⟩
    go_wp2_with fail
    go_ret2
    exact ⟨by rw [HS.out]; rfl, Q.refl _⟩
  · have HS : Hid _ := show portR s n = (decide ((pairR s 65535).1 ≤ n) && decide (n ≤ (pairR s 65535).2), decide (0 ≤ (pairR s 65535).1) && decide ((pairR s 65535).1 ≤ (pairR s 65535).2)) from portR_two h0 h1
    clear h0
    obtain ⟨⟨p1, p2⟩, p3, p4⟩ := pairR_range s 65535
    go_wp2_with fail
    refine Calls.mono (Hid.out (HN _)) ?_
    rintro e w1 ⟨rfl, rfl⟩
    have d0 : decide (0 ≤ numR s 65535) = false := decide_eq_false (by omega)
    clear h1
    go_wp2_with fail
    refine Calls.mono (Hid.out (HP _)) ?_
    rintro e w2 ⟨rfl, hq⟩
    generalize (pairR s 65535).1 = a at *
    generalize (pairR s 65535).2 = b at *
    by_cases ha : a ≤ n
    · have da : decide (a ≤ n) = true := decide_eq_true ha
      by_cases hz : 0 ≤ a
      · have dz : decide (0 ≤ a) = true := decide_eq_true hz
        clear ha hz
        go_wp2_with fail
        go_ret2
        exact ⟨by rw [HS.out, da, dz]; rfl, hq⟩
      · have dz : decide (0 ≤ a) = false := decide_eq_false hz
        clear ha hz
        go_wp2_with fail
        go_ret2
        exact ⟨by rw [HS.out, da, dz]; rfl, hq⟩
    · have da : decide (a ≤ n) = false := decide_eq_false ha
      by_cases hz : 0 ≤ a
      · have dz : decide (0 ≤ a) = true := decide_eq_true hz
        clear ha hz
        go_wp2_with fail
        go_ret2
        exact ⟨by rw [HS.out, da, dz]; rfl, hq⟩
      · have dz : decide (0 ≤ a) = false := decide_eq_false hz
        clear ha hz
        go_wp2_with fail
        go_ret2
        exact ⟨by rw [HS.out, da, dz]; rfl, hq⟩

set_option maxRecDepth 100000 in
set_option maxHeartbeats 1600000 in
theorem rminute_any (s : List UInt8) (n : Int) (w : World) (hs : s.length ≤ 2097152) :
    Calls Tryz.prog 185 #[.string ⟨s.toArray⟩, .int .i64 n] w fun e w' => e = .returned (.tuple #[.bool (minuteR s n).1, .bool (minuteR s n).2]) ∧ Q w w' := by
  have HP := fun w => show Hid _ from rpair_any s 10079 w hs (by decide)
  go_enter Tryz.func185, Tryz.ntmps185
  by_cases h0 : s = [42]
  · have hb : (s == [42]) = true := by rw [h0]; rfl
    have HS : Hid (minuteR s n = (true, true)) := by rw [h0]; exact minuteR_star n
    clear h0
    go_wp2_with fail
    go_ret2
    exact ⟨by rw [HS.out]; rfl, Q.refl _⟩
  have hb : (s == [42]) = false := beq_eq_false_iff_ne.2 h0
  have HU : Hid ((pairR s 10079).1 ≤ (pairR s 10079).2 → minuteR s n = (decide ((pairR s 10079).1 ≤ n) && decide (n ≤ (pairR s 10079).2), decide (0 ≤ (pairR s 10079).1))) := minuteR_up h0
  have HD : Hid (¬ (pairR s 10079).1 ≤ (pairR s 10079).2 → minuteR s n = (decide ((pairR s 10079).1 ≤ n) || decide (n ≤ (pairR s 10079).2), true)) := minuteR_down h0
  clear h0
  go_wp2_with fail
  refine Calls.mono (Hid.out (HP _)) ?_
  rintro e w2 ⟨rfl, hq⟩
  generalize (pairR s 10079).1 = a at *
  generalize (pairR s 10079).2 = b at *
  by_cases hab : a ≤ b
  · have HS := show Hid _ from HU.out hab
    have dab : decide (a ≤ b) = true := decide_eq_true hab
    clear hab HU HD
    by_cases ha : a ≤ n
    · have da : decide (a ≤ n) = true := decide_eq_true ha
      clear ha
      go_wp2_with fail
      go_ret2
      exact ⟨by rw [HS.out, da]; rfl, hq⟩
    · have da : decide (a ≤ n) = false := decide_eq_false ha
      clear ha
      go_wp2_with fail
      go_ret2
      exact ⟨by rw [HS.out, da]; rfl, hq⟩
  · have HS := show Hid _ from HD.out (by omega)
    have dab : decide (a ≤ b) = false := decide_eq_false hab
    clear hab HU HD
    by_cases ha : a ≤ n
    · have da : decide (a ≤ n) = true := decide_eq_true ha
      clear ha
      go_wp2_with fail
      go_ret2
      exact ⟨by rw [HS.out, da]; rfl, hq⟩
    · have da : decide (a ≤ n) = false := decide_eq_false ha
      clear ha
      go_wp2_with fail
      go_ret2
      exact ⟨by rw [HS.out, da]; rfl, hq⟩
end Go.Proofs.YtdmaffciijmdcaaGreatDoor

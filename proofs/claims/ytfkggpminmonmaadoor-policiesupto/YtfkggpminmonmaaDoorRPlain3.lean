/-
  The document's answer, as plain functions: rules of a text, the first that fits, what may be asked.
-/
import Derived.Test.YtfkggpminmonmaaDoorRPlain2
namespace Go.Proofs.YtfkggpminmonmaaDoor.Plain

/-- The fields of a line, and the rule that they are. -/
def RowIs (row : List (List UInt8)) (r : RuleS) : Prop := ∃ line, row = parts 32 line ∧ readRule line = some r

theorem five {α : Type} {l : List α} (h : l.length = 5) : ∃ a b c d e, l = [a, b, c, d, e] := by
  match l, h with
  | [a, b, c, d, e], _ => exact ⟨a, b, c, d, e, rfl⟩
theorem fitsR_len {l : List (List UInt8)} {t h : List UInt8} {p m : Int} (hl : ¬ l.length = 5) : fitsR l t h p m = (false, false) := by
  unfold fitsR
  split
  · exact absurd rfl hl
  · rfl
theorem readRule_len {line : List UInt8} (hl : ¬ (parts 32 line).length = 5) : readRule line = none := by
  unfold readRule
  split
  · rename_i he; rw [he] at hl; exact absurd rfl hl
  · rfl
theorem fits_ok (line t h : List UInt8) (p m : Int) : (fitsR (parts 32 line) t h p m).2 = (readRule line).isSome := by
  by_cases hl : (parts 32 line).length = 5
  case neg => rw [fitsR_len hl, readRule_len hl]; rfl
  obtain ⟨f0, f1, f2, f3, f4, he⟩ := five hl
  unfold readRule fitsR
  rw [he]
  dsimp only
  unfold readVerd readTen
  by_cases h0 : f0 = allowB
  · rw [if_neg (fun hx => hx.1 h0), if_pos (show f0 = [97, 108, 108, 111, 119] from h0)]
    dsimp only
    rw [where_ok, port_ok, minute_ok]
    by_cases h1 : f1 = [42]
    · rw [if_pos h1, h1]
      cases readHostP f2 <;> cases readPortP f3 <;> cases readMinP f4 <;> rfl
    · rw [if_neg h1, beq_eq_false_iff_ne.2 h1]
      cases tenantOk f1 <;> cases readHostP f2 <;> cases readPortP f3 <;> cases readMinP f4 <;> rfl
  · rw [if_neg (show ¬ f0 = [97, 108, 108, 111, 119] from h0)]
    by_cases h2 : f0 = denyB
    · rw [if_neg (fun hx => hx.2 h2), if_pos (show f0 = [100, 101, 110, 121] from h2)]
      dsimp only
      rw [where_ok, port_ok, minute_ok]
      by_cases h1 : f1 = [42]
      · rw [if_pos h1, h1]
        cases readHostP f2 <;> cases readPortP f3 <;> cases readMinP f4 <;> rfl
      · rw [if_neg h1, beq_eq_false_iff_ne.2 h1]
        cases tenantOk f1 <;> cases readHostP f2 <;> cases readPortP f3 <;> cases readMinP f4 <;> rfl
    · rw [if_pos ⟨h0, h2⟩, if_neg (show ¬ f0 = [100, 101, 110, 121] from h2)]; rfl

/-- A rule's five fields, read. -/
theorem rule_parts {line : List UInt8} {r : RuleS} (h : readRule line = some r) : ∃ f0 f1 f2 f3 f4, parts 32 line = [f0, f1, f2, f3, f4] ∧ readVerd f0 = some r.allow ∧ readTen f1 = some r.ten ∧ readHostP f2 = some r.host ∧ readPortP f3 = some r.port ∧ readMinP f4 = some r.minute := by
  unfold readRule at h
  split at h
  case h_2 => cases h
  rename_i f0 f1 f2 f3 f4 he
  refine ⟨f0, f1, f2, f3, f4, he, ?_⟩
  cases h0 : readVerd f0 with
  | none => rw [h0] at h; cases h
  | some v =>
    rw [h0] at h
    cases h1 : readTen f1 with
    | none => rw [h1] at h; cases h
    | some t =>
      rw [h1] at h
      cases h2 : readHostP f2 with
      | none => rw [h2] at h; cases h
      | some hp =>
        rw [h2] at h
        cases h3 : readPortP f3 with
        | none => rw [h3] at h; cases h
        | some pp =>
          rw [h3] at h
          cases h4 : readMinP f4 with
          | none => rw [h4] at h; cases h
          | some mm => rw [h4] at h; cases h; exact ⟨rfl, rfl, rfl, rfl, rfl⟩
theorem row_five {row : List (List UInt8)} {r : RuleS} (h : RowIs row r) : row.length = 5 := by
  obtain ⟨line, rfl, h⟩ := h
  obtain ⟨_, _, _, _, _, he, _⟩ := rule_parts h
  rw [he]; rfl
theorem row_allow {row : List (List UInt8)} {r : RuleS} (h : RowIs row r) : ∃ f0 rest, row = f0 :: rest ∧ (f0 == allowB) = r.allow := by
  obtain ⟨line, rfl, h⟩ := h
  obtain ⟨f0, f1, f2, f3, f4, he, h0, _⟩ := rule_parts h
  refine ⟨f0, [f1, f2, f3, f4], he, ?_⟩
  unfold readVerd at h0
  split at h0
  · rename_i hx; rw [hx, ← Option.some.inj h0]; rfl
  · rename_i hx
    split at h0
    · rw [← Option.some.inj h0]; exact beq_eq_false_iff_ne.2 hx
    · cases h0
theorem row_fits {row : List (List UInt8)} {r : RuleS} {t h nm : List UInt8} {ad : List Nat} {p m : Int} (hrow : RowIs row r) (hh : readHost h = some (nm, ad)) : (fitsR row t (lower h) p m).1 = ruleFits r t nm ad p m := by
  obtain ⟨line, rfl, hr⟩ := hrow
  obtain ⟨f0, f1, f2, f3, f4, he, h0, h1, h2, h3, h4⟩ := rule_parts hr
  unfold fitsR ruleFits
  rw [he]
  dsimp only
  have hv : ¬ (f0 ≠ allowB ∧ f0 ≠ denyB) := by
    intro ⟨ha, hb⟩
    unfold readVerd at h0
    rw [if_neg (show ¬ f0 = [97, 108, 108, 111, 119] from ha), if_neg (show ¬ f0 = [100, 101, 110, 121] from hb)] at h0
    cases h0
  rw [if_neg hv]
  dsimp only
  rw [where_fit h2 hh, port_fit h3, minute_fit h4]
  have ht : (f1 == [42] || f1 == t) = tenFits r.ten t := by
    unfold readTen at h1
    split at h1
    · rename_i hx; rw [← Option.some.inj h1, hx]; rfl
    · rename_i hx
      split at h1
      · rw [← Option.some.inj h1, beq_eq_false_iff_ne.2 hx]
        show (false || f1 == t) = (t == f1)
        rw [Bool.false_or, Bool.eq_iff_iff, beq_iff_eq, beq_iff_eq]; exact eq_comm
      · cases h1
  rw [ht]

/-! ### rules of a text -/
def rowsOf : Nat → List (List UInt8) → Except (Nat × Nat) (List (List (List UInt8)))
  | _, [] => .ok []
  | n, [l] => if l = [] then .ok [] else if 40 < n then .error (2, n) else .error (3, n)
  | n, l :: m :: ls => if 40 < n then .error (2, n) else if (readRule l).isSome = true then (match rowsOf (n + 1) (m :: ls) with
      | .error e => .error e
      | .ok rs => .ok (parts 32 l :: rs)) else .error (3, n)
def rulesR (l : List UInt8) : Except (Nat × Nat) (List (List (List UInt8))) := if 4000 < l.length then .error (1, 0) else rowsOf 1 (parts 10 l)
def AllRows : List (List (List UInt8)) → List RuleS → Prop
  | [], [] => True
  | row :: rows, r :: rs => RowIs row r ∧ AllRows rows rs
  | _, _ => False
/-- The same errors; rows for rules. -/
def SameRules : Except (Nat × Nat) (List (List (List UInt8))) → Except (Nat × Nat) (List RuleS) → Prop
  | .error e, .error f => e = f
  | .ok rows, .ok rs => AllRows rows rs
  | _, _ => False
theorem rows_same : ∀ (n : Nat) (ls : List (List UInt8)), SameRules (rowsOf n ls) (rulesOf n ls)
  | _, [] => trivial
  | n, [l] => by
    unfold rowsOf rulesOf
    split
    · trivial
    · split
      · rfl
      · rfl
  | n, l :: m :: ls => by
    unfold rowsOf rulesOf
    have ih := rows_same (n + 1) (m :: ls)
    split
    · rfl
    · cases hr : readRule l with
      | none => rfl
      | some r =>
        dsimp only [Option.isSome_some]
        rw [if_pos rfl]
        revert ih
        cases rowsOf (n + 1) (m :: ls) with
        | error e =>
          cases rulesOf (n + 1) (m :: ls) with
          | error f => exact fun h => h
          | ok rs => exact fun h => h.elim
        | ok rows =>
          cases rulesOf (n + 1) (m :: ls) with
          | error f => exact fun h => h.elim
          | ok rs => exact fun h => ⟨⟨l, rfl, hr⟩, h⟩
theorem rules_same (l : List UInt8) : SameRules (rulesR l) (compileS l) := by
  unfold rulesR compileS
  split
  · rfl
  · exact rows_same _ _
def aheadR (a : List (List (List UInt8))) : Except (Nat × Nat) (List (List (List UInt8))) → Except (Nat × Nat) (List (List (List UInt8)))
  | .error e => .error e
  | .ok b => .ok (a ++ b)
theorem aheadR_nil (x : Except (Nat × Nat) (List (List (List UInt8)))) : aheadR [] x = x := by cases x <;> rfl
theorem aheadR_aheadR (a b : List (List (List UInt8))) (x : Except (Nat × Nat) (List (List (List UInt8)))) : aheadR a (aheadR b x) = aheadR (a ++ b) x := by cases x <;> simp [aheadR]
theorem rows_step {n : Nat} {l m : List UInt8} {ls : List (List UInt8)} (h : ¬ 40 < n) (hr : (readRule l).isSome = true) : rowsOf n (l :: m :: ls) = aheadR [parts 32 l] (rowsOf (n + 1) (m :: ls)) := by
  rw [rowsOf, if_neg h, if_pos hr]
  cases rowsOf (n + 1) (m :: ls) <;> rfl

/-! ### the first that fits -/
def decRows (t h : List UInt8) (p m : Int) : Nat → List (List (List UInt8)) → Bool × Int
  | _, [] => (false, -1)
  | k, row :: rows => if (fitsR row t h p m).1 = true then (row.headD [] == allowB, (k : Int)) else decRows t h p m (k + 1) rows
theorem dec_same {t h nm : List UInt8} {ad : List Nat} {p m : Int} (hh : readHost h = some (nm, ad)) : ∀ (k : Nat) (rows : List (List (List UInt8))) (rs : List RuleS), AllRows rows rs →
    decRows t (lower h) p m k rows = decideFrom (fun r => ruleFits r t nm ad p m) k rs
  | _, [], [], _ => rfl
  | k, row :: rows, r :: rs, hx => by
    rw [decRows, decideFrom, row_fits hx.1 hh, dec_same hh (k + 1) rows rs hx.2]
    obtain ⟨f0, rest, rfl, ha⟩ := row_allow hx.1
    rw [List.headD_cons, ha]
theorem decRows_drop {t h : List UInt8} {p m : Int} {rows : List (List (List UInt8))} {k : Nat} {row : List (List UInt8)} (hk : rows[k]? = some row) :
    decRows t h p m k (rows.drop k) = if (fitsR row t h p m).1 = true then (row.headD [] == allowB, (k : Int)) else decRows t h p m (k + 1) (rows.drop (k + 1)) := by
  obtain ⟨hlt, rfl⟩ := List.getElem?_eq_some_iff.1 hk
  rw [← List.getElem_cons_drop hlt, decRows]
theorem allRows_len : ∀ {rows : List (List (List UInt8))} {rs : List RuleS}, AllRows rows rs → rows.length = rs.length
  | [], [], _ => rfl
  | _ :: _, _ :: _, h => by rw [List.length_cons, List.length_cons, allRows_len h.2]
theorem allRows_five : ∀ {rows : List (List (List UInt8))} {rs : List RuleS}, AllRows rows rs → ∀ row ∈ rows, row.length = 5
  | [], [], _, _, h => by cases h
  | _ :: _, _ :: _, h, row, hm => by
    rcases List.mem_cons.1 hm with rfl | hm
    · exact row_five h.1
    · exact allRows_five h.2 row hm

def asksR (t h : List UInt8) (p m : Int) : Bool := tenantOk t && hostR (lower h) && decide (0 ≤ p) && decide (p ≤ 65535) && decide (0 ≤ m) && decide (m < 10080)
theorem asks_same (t h : List UInt8) (p m : Int) : asksR t h p m = (askS t h p m).isSome := by
  unfold asksR askS
  have hh : hostR (lower h) = (readHost h).isSome := by
    rcases host_cases h with ⟨h1, h2⟩ | ⟨h1, h2, _⟩ | ⟨q, _, h1, h2, _⟩
    · rw [h1, h2]; rfl
    · rw [h1, h2]; rfl
    · rw [h1, h2]; rfl
  rw [hh]
  split
  · rename_i hx
    obtain ⟨a, b, c, d, e⟩ := hx
    rw [e, decide_eq_true a, decide_eq_true b, decide_eq_true c, decide_eq_true d]
    cases (readHost h).isSome <;> rfl
  · rename_i hx
    show _ = false
    rw [Bool.eq_false_iff]
    intro hy
    simp only [Bool.and_eq_true, decide_eq_true_eq] at hy
    exact hx ⟨hy.1.1.1.2, hy.1.1.2, hy.1.2, hy.2, hy.1.1.1.1.1⟩
end Go.Proofs.YtfkggpminmonmaaDoor.Plain

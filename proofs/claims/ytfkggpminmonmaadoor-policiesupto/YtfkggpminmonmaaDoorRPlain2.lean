/-
  The document's answer, as plain functions: which hosts there are; what a rule says of a question; rules of a text; the first that fits.
-/
import Derived.Test.YtfkggpminmonmaaDoorRPlain
namespace Go.Proofs.YtfkggpminmonmaaDoor.Plain

theorem lowB_46 (b : UInt8) : lowB b = 46 ↔ b = 46 := by
  unfold lowB
  split
  · rename_i h
    constructor
    · intro e
      have := congrArg UInt8.toNat e
      rw [UInt8.toNat_add] at this
      have h2 : (b.toNat + 32) % 256 = 46 := this
      omega
    · intro e; rw [e] at h; have h2 : (46 : UInt8).toNat = 46 := rfl; omega
  · exact Iff.rfl
theorem lowB_fig {b : UInt8} (h : fig (lowB b) = true ∨ lowB b = 46) : lowB b = b := by
  unfold lowB at *
  split at h
  · rename_i hx
    exfalso
    have e : (b + 32).toNat = b.toNat + 32 := by
      rw [UInt8.toNat_add]
      show (b.toNat + 32) % 256 = _
      omega
    rcases h with h | h
    · have := fig_bounds h; omega
    · have := congrArg UInt8.toNat h
      rw [e] at this
      have h2 : (46 : UInt8).toNat = 46 := rfl
      omega
  · rename_i hx; rw [if_neg hx]
theorem lower_same {l : List UInt8} (h : ∀ c ∈ lower l, fig c = true ∨ c = 46) : lower l = l := by
  induction l with
  | nil => rfl
  | cons b l ih =>
    show lowB b :: lower l = b :: l
    rw [lowB_fig (h (lowB b) (by simp [lower])), ih fun c hc => h c (by simp [lower] at hc ⊢; exact .inr hc)]
theorem parts_lower (l : List UInt8) : parts 46 (lower l) = (parts 46 l).map lower := by
  induction l with
  | nil => rfl
  | cons b l ih =>
    show parts 46 (lowB b :: lower l) = _
    rw [parts, parts]
    by_cases hb : b = 46
    · rw [if_pos ((lowB_46 b).2 hb), if_pos hb, ih]; rfl
    · rw [if_neg (fun e => hb ((lowB_46 b).1 e)), if_neg hb, ih]
      cases h : parts 46 l with
      | nil => exact absurd h (parts_ne _ _)
      | cons p ps => rfl
theorem last_lower (l : List UInt8) : lastPart (lower l) = lower (lastPart l) := by
  unfold lastPart
  rw [parts_lower]
  have hne := parts_ne 46 l
  rw [List.getLastD_eq_getLast?, List.getLastD_eq_getLast?, List.getLast?_map]
  cases h : (parts 46 l).getLast? with
  | none => rw [List.getLast?_eq_none_iff] at h; exact absurd h hne
  | some p => rfl
theorem fig_low_same {b : UInt8} (h : fig b = true) : lowB b = b := by
  have := fig_bounds h
  unfold lowB; rw [if_neg (by omega)]
theorem figs_lower {l : List UInt8} : allB fig (lower l) = allB fig l := by
  unfold allB lower
  rw [List.all_map, Bool.eq_iff_iff, List.all_eq_true, List.all_eq_true]
  constructor
  · intro h c hc
    have := h c hc
    simp only [Function.comp] at this
    rwa [lowB_fig (.inl this)] at this
  · intro h c hc
    simp only [Function.comp]
    rw [fig_low_same (h c hc)]; exact h c hc
theorem address_figs {l : List UInt8} {ns : List Nat} (h : address l = some ns) : (∀ c ∈ l, fig c = true ∨ c = 46) ∧ allB fig (lastPart l) = true := by
  obtain ⟨p0, p1, p2, p3, a, b, c, d, hp, _, h0, h1, h2, h3⟩ := address_some h
  have hnum : ∀ {p : List UInt8} {n : Nat}, number p 255 = some n → allB fig p = true := by
    intro p n hn
    unfold number at hn
    split at hn
    · rename_i hx
      have hf := hx.1
      unfold numForm at hf
      simp only [Bool.and_eq_true] at hf
      exact hf.1.2
    · cases hn
  constructor
  · intro c hc
    rcases mem_parts0 (s := 46) hc with h' | ⟨p, hpm, hcp⟩
    · exact .inr h'
    · rw [hp] at hpm
      simp only [List.mem_cons, List.not_mem_nil, or_false] at hpm
      rcases hpm with rfl | rfl | rfl | rfl
      · exact .inl (List.all_eq_true.1 (hnum h0) c hcp)
      · exact .inl (List.all_eq_true.1 (hnum h1) c hcp)
      · exact .inl (List.all_eq_true.1 (hnum h2) c hcp)
      · exact .inl (List.all_eq_true.1 (hnum h3) c hcp)
  · unfold lastPart
    rw [hp]
    exact hnum h3
theorem address_lower (l : List UInt8) : address (lower l) = address l := by
  cases h : address l with
  | some ns =>
    have : lower l = l := by
      have hf := (address_figs h).1
      apply lower_same
      intro c hc
      unfold lower at hc
      obtain ⟨b, hb, rfl⟩ := List.mem_map.1 hc
      rcases hf b hb with h1 | h1
      · rw [fig_low_same h1]; exact .inl h1
      · exact .inr ((lowB_46 b).2 h1)
    rw [this, h]
  | none =>
    cases h2 : address (lower l) with
    | none => rfl
    | some ns => rw [lower_same (address_figs h2).1, h] at h2; cases h2

/-- The two ways to be a host. -/
theorem host_cases (h : List UInt8) : (readHost h = none ∧ hostR (lower h) = false) ∨
    (readHost h = some (lower h, [0, 0, 0, 0]) ∧ hostR (lower h) = true ∧ nameOk (lower h) = true ∧ addrR (lower h) = -1) ∨
    ∃ q : Nat, q < 4294967296 ∧ readHost h = some ([], oct0 q) ∧ hostR (lower h) = true ∧ nameOk (lower h) = false ∧ addrR (lower h) = (q : Int) := by
  have hl : addrR (lower h) = addrR h := by unfold addrR; rw [address_lower]
  unfold readHost hostR
  by_cases hf : allB fig (lastPart h) = true
  · rw [if_pos hf]
    have hn : nameOk (lower h) = false := by
      cases hx : nameOk (lower h) with
      | false => rfl
      | true =>
        have := name_last hx
        rw [last_lower, figs_lower, hf] at this; cases this
    cases ha : address h with
    | none =>
      refine .inl ⟨rfl, ?_⟩
      rw [hn, hl, address_none ha]; rfl
    | some ns =>
      obtain ⟨q, hq, rfl, hr⟩ := address_four ha
      refine .inr (.inr ⟨q, hq, rfl, ?_, hn, by rw [hl, hr]⟩)
      rw [hn, hl, hr, decide_eq_true (by omega)]; rfl
  · rw [if_neg hf]
    have ha : address h = none := by
      cases hx : address h with
      | none => rfl
      | some ns => exact absurd (address_figs hx).2 hf
    cases hn : nameOk (lower h) with
    | true => exact .inr (.inl ⟨rfl, rfl, rfl, by rw [hl, address_none ha]⟩)
    | false => exact .inl ⟨rfl, by rw [hl, address_none ha]; rfl⟩

theorem suffix_drop (h s : List UInt8) : Lib.hasSuffix h s = (decide (s.length ≤ h.length) && h.drop (h.length - s.length) == s) := by
  unfold Lib.hasSuffix
  rw [Bool.eq_iff_iff, List.isSuffixOf_iff_suffix, List.suffix_iff_eq_drop]
  simp only [Bool.and_eq_true, decide_eq_true_eq, beq_iff_eq]
  constructor
  · intro e
    exact ⟨by have := congrArg List.length e; simp at this; omega, e.symm⟩
  · intro ⟨_, e⟩
    exact e.symm

theorem where_fit {s h nm : List UInt8} {ad : List Nat} {p : HostP} (hp : readHostP s = some p) (hh : readHost h = some (nm, ad)) : (whereR s (lower h)).1 = hostFits p nm ad := by
  by_cases h0 : s = [42]
  · subst h0; cases hp; rfl
  · rcases host_cases h with ⟨h1, _⟩ | ⟨h1, _, hn, hA⟩ | ⟨q, hq, h1, _, hn, hA⟩
    · rw [h1] at hh; cases hh
    · rw [h1] at hh
      cases hh
      cases hc : cutAt 47 s with
      | none =>
        rw [whereR_other h0 (cut_one hc)]
        rw [readHostP_name h0 hc] at hp
        by_cases hd : s[0]? = some 46
        · rw [if_pos hd] at hp ⊢
          split at hp
          · cases hp
            unfold hostFits
            dsimp only
            rw [if_neg (by decide), if_neg (by decide), if_pos rfl, hn, Bool.true_and, suffix_drop]
            have hs : s = 46 :: s.drop 1 := by
              cases s with
              | nil => simp at hd
              | cons b l => simp at hd; subst hd; rfl
            rw [← hs]
          · cases hp
        · rw [if_neg hd] at hp ⊢
          split at hp
          · cases hp
            rfl
          · cases hp
      | some x =>
        obtain ⟨a, r⟩ := x
        rw [readHostP_net h0 hc] at hp
        rcases net_cases a r with ⟨g1, _⟩ | ⟨A, k, hA2, hk, hR, hN, hm, g1⟩
        · rw [g1] at hp; cases hp
        · rw [g1] at hp
          cases hp
          have hr : (47 : UInt8) ∉ r := by
            intro hx
            rcases numR_cases r 32 with ⟨g2, g3⟩ | ⟨n, g2, _, _⟩
            · rw [g3] at hN; omega
            · exact num_no47 g2 hx
          have hnot : ¬ (addrR a < 0 ∨ numR r 32 < 0 ∨ ¬ addrR a % (sizeR (numR r 32).toNat : Nat) = 0) := by
            rw [hR, hN]
            unfold sizeR
            rw [Int.toNat_natCast, ← Int.natCast_emod, hm]
            omega
          rw [whereR_two h0 (cut_two hc hr), if_neg hnot]
          unfold hostFits
          dsimp only
          rw [if_neg (by decide), if_neg (by decide), if_neg (by decide)]
          have he : (lower h).isEmpty = false := by
            cases hx : lower h with
            | nil => exact absurd hx (name_ne hn)
            | cons => rfl
          rw [he, hA, hR, hN]
          show (decide ((A : Int) ≤ -1) && _) = (false && _)
          rw [decide_eq_false (by omega)]; rfl
    · rw [h1] at hh
      cases hh
      cases hc : cutAt 47 s with
      | none =>
        rw [whereR_other h0 (cut_one hc)]
        rw [readHostP_name h0 hc] at hp
        by_cases hd : s[0]? = some 46
        · rw [if_pos hd] at hp ⊢
          split at hp
          · rename_i hx
            cases hp
            unfold hostFits
            dsimp only
            rw [if_neg (by decide), if_neg (by decide), if_pos rfl, hn, Bool.false_and, nil_not_suffix0, beq_eq_false_iff_ne.2 (fun e => name_ne hx e.symm)]; rfl
          · cases hp
        · rw [if_neg hd] at hp ⊢
          split at hp
          · rename_i hx
            cases hp
            show (lower h == s) = ([] == s)
            rw [beq_eq_false_iff_ne.2 (fun e => by rw [e, hx] at hn; cases hn), beq_eq_false_iff_ne.2 (fun e => name_ne hx e.symm)]
          · cases hp
      | some x =>
        obtain ⟨a, r⟩ := x
        rw [readHostP_net h0 hc] at hp
        rcases net_cases a r with ⟨g1, _⟩ | ⟨A, k, hA2, hk, hR, hN, hm, g1⟩
        · rw [g1] at hp; cases hp
        · rw [g1] at hp
          cases hp
          have hr : (47 : UInt8) ∉ r := by
            intro hx
            rcases numR_cases r 32 with ⟨g2, g3⟩ | ⟨n, g2, _, _⟩
            · rw [g3] at hN; omega
            · exact num_no47 g2 hx
          have hnot : ¬ (addrR a < 0 ∨ numR r 32 < 0 ∨ ¬ addrR a % (sizeR (numR r 32).toNat : Nat) = 0) := by
            rw [hR, hN]
            unfold sizeR
            rw [Int.toNat_natCast, ← Int.natCast_emod, hm]
            omega
          rw [whereR_two h0 (cut_two hc hr), if_neg hnot]
          unfold hostFits
          dsimp only
          rw [if_neg (by decide), if_neg (by decide), if_neg (by decide), hA, hR, hN]
          have hV : 0 < 2 ^ (32 - k) := Nat.pow_pos (by decide)
          have hb := firstN_block0 k q A (by omega) hq hA2
          have hA3 : A / 2 ^ (32 - k) * 2 ^ (32 - k) = A := by
            have := Nat.div_add_mod A (2 ^ (32 - k))
            rw [hm, Nat.add_zero, Nat.mul_comm] at this
            exact this
          rw [hA3] at hb
          have hi := block_iff (q := q) hV hm
          unfold sizeR
          rw [Int.toNat_natCast]
          generalize 2 ^ (32 - k) = V at *
          rw [Bool.eq_iff_iff]
          simp only [List.isEmpty_nil, Bool.true_and, beq_iff_eq, Bool.and_eq_true, decide_eq_true_eq]
          rw [hb, hi]
          omega
end Go.Proofs.YtfkggpminmonmaaDoor.Plain

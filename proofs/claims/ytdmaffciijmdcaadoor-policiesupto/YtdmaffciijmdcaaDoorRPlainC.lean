/-
  The document's answer, as plain functions; what it says of rules and questions is what the program's plain functions say.
-/
import Derived.Test.YtdmaffciijmdcaaDoorRNamesToRMore
namespace Go.Proofs.YtdmaffciijmdcaaDoor.Plain

def whereR (s host : List UInt8) : Bool × Bool :=
  if s = [42] then (true, true) else match parts 47 s with
    | [a, n] => if addrR a < 0 ∨ numR n 32 < 0 ∨ ¬ addrR a % (sizeR (numR n 32).toNat : Nat) = 0 then (false, false)
      else (decide (addrR a ≤ addrR host) && decide (addrR host < addrR a + (sizeR (numR n 32).toNat : Nat)), true)
    | _ => if s[0]? = some 46 then (nameOk host && (host == s.drop 1 || (decide (s.length ≤ host.length) && host.drop (host.length - s.length) == s)), nameOk (s.drop 1))
      else (host == s, nameOk s)
def portR (s : List UInt8) (n : Int) : Bool × Bool :=
  if s = [42] then (true, true) else if 0 ≤ numR s 65535 then (n == numR s 65535, true)
  else (decide ((pairR s 65535).1 ≤ n) && decide (n ≤ (pairR s 65535).2), decide (0 ≤ (pairR s 65535).1) && decide ((pairR s 65535).1 ≤ (pairR s 65535).2))
def minuteR (s : List UInt8) (n : Int) : Bool × Bool :=
  if s = [42] then (true, true) else if (pairR s 10079).1 ≤ (pairR s 10079).2 then (decide ((pairR s 10079).1 ≤ n) && decide (n ≤ (pairR s 10079).2), decide (0 ≤ (pairR s 10079).1))
  else (decide ((pairR s 10079).1 ≤ n) || decide (n ≤ (pairR s 10079).2), true)
def allowB : List UInt8 := [97, 108, 108, 111, 119]
def denyW : List UInt8 := [100, 101, 110, 121]
def fitsR (l : List (List UInt8)) (t h : List UInt8) (p m : Int) : Bool × Bool := match l with
  | [f0, f1, f2, f3, f4] => if f0 ≠ allowB ∧ f0 ≠ denyW then (false, false)
    else ((f1 == [42] || f1 == t) && (whereR f2 h).1 && (portR f3 p).1 && (minuteR f4 m).1, (tenantOk f1 || f1 == [42]) && (whereR f2 h).2 && (portR f3 p).2 && (minuteR f4 m).2)
  | _ => (false, false)

/-! ### ports, minutes -/
theorem cut45_number {s : List UInt8} {most n : Nat} (h : number s most = some n) : cutAt 45 s = none := cutAt_none.2 (num_no45 h)
theorem pairR_cut {s : List UInt8} {most : Nat} (h : cutAt 45 s = none) : pairR s most = (-1, -1) := by unfold pairR span; rw [h]
theorem pairR_span (s : List UInt8) (most : Nat) : (span s most = none ∧ pairR s most = (-1, -1)) ∨ ∃ x y : Nat, span s most = some (x, y) ∧ pairR s most = ((x : Int), (y : Int)) := by
  unfold pairR
  cases h : span s most with
  | none => exact .inl ⟨rfl, rfl⟩
  | some v => obtain ⟨x, y⟩ := v; exact .inr ⟨x, y, rfl, rfl⟩

theorem port_ok (s : List UInt8) (n : Int) : (portR s n).2 = (readPortP s).isSome := by
  unfold portR readPortP
  by_cases h : s = [42]
  · rw [if_pos h, if_pos h]; rfl
  · rw [if_neg h, if_neg h]
    rcases numR_cases s 65535 with ⟨hn, hr⟩ | ⟨x, hn, hr, _⟩
    · rw [hr, if_neg (by decide)]
      cases hc : cutAt 45 s with
      | none => rw [pairR_cut hc, hn]; rfl
      | some v =>
        rcases pairR_span s 65535 with ⟨h1, h2⟩ | ⟨x, y, h1, h2⟩
        · rw [h1, h2]; rfl
        · rw [h1, h2]
          dsimp only
          by_cases hxy : x ≤ y
          · rw [if_pos hxy, decide_eq_true (by omega), decide_eq_true (by omega)]; rfl
          · rw [if_neg hxy, decide_eq_true (by omega), decide_eq_false (by omega)]; rfl
    · rw [hr, if_pos (by omega), cut45_number hn, hn]; rfl
theorem port_fit {s : List UInt8} {n : Int} {p : Option (Nat × Nat)} (h : readPortP s = some p) : (portR s n).1 = portFits p n := by
  unfold readPortP at h
  unfold portR
  by_cases h0 : s = [42]
  · rw [if_pos h0] at h ⊢; cases h; rfl
  · rw [if_neg h0] at h ⊢
    rcases numR_cases s 65535 with ⟨hn, hr⟩ | ⟨x, hn, hr, _⟩
    · rw [hr, if_neg (by decide)]
      cases hc : cutAt 45 s with
      | none => rw [hc, hn] at h; cases h
      | some v =>
        rw [hc] at h
        rcases pairR_span s 65535 with ⟨h1, h2⟩ | ⟨x, y, h1, h2⟩
        · rw [h1] at h; cases h
        · rw [h1] at h
          dsimp only at h
          split at h
          · cases h; rw [h2]; rfl
          · cases h
    · rw [hr, if_pos (by omega)]
      rw [cut45_number hn, hn] at h
      cases h
      show (n == (x : Int)) = (decide ((x : Int) ≤ n) && decide (n ≤ (x : Int)))
      rw [Bool.eq_iff_iff]; simp; omega
theorem minute_ok (s : List UInt8) (n : Int) : (minuteR s n).2 = (readMinP s).isSome := by
  unfold minuteR readMinP
  by_cases h : s = [42]
  · rw [if_pos h, if_pos h]; rfl
  · rw [if_neg h, if_neg h]
    rcases pairR_span s 10079 with ⟨h1, h2⟩ | ⟨x, y, h1, h2⟩
    · rw [h1, h2]; rfl
    · rw [h1, h2]
      dsimp only
      split
      · show decide (0 ≤ (x : Int)) = true
        exact decide_eq_true (by omega)
      · rfl
theorem minute_fit {s : List UInt8} {n : Int} {p : Option (Nat × Nat)} (h : readMinP s = some p) : (minuteR s n).1 = minFits p n := by
  unfold readMinP at h
  unfold minuteR
  by_cases h0 : s = [42]
  · rw [if_pos h0] at h ⊢; cases h; rfl
  · rw [if_neg h0] at h ⊢
    rcases pairR_span s 10079 with ⟨h1, h2⟩ | ⟨x, y, h1, h2⟩
    · rw [h1] at h; cases h
    · rw [h1] at h
      cases h
      rw [h2]
      unfold minFits
      dsimp only
      by_cases hxy : y < x
      · rw [if_neg (by omega), if_pos hxy]
      · rw [if_pos (by omega), if_neg hxy]

/-! ### hosts -/
theorem name_no47 {l : List UInt8} (h : nameOk l = true) : (47 : UInt8) ∉ l := by
  intro hm
  unfold nameOk at h
  simp only [Bool.and_eq_true] at h
  rcases mem_parts0 (s := 46) hm with h1 | ⟨p, hp, hc⟩
  · cases h1
  · have h2 := List.all_eq_true.1 h.1.2 p hp
    unfold labelOk at h2
    simp only [Bool.and_eq_true] at h2
    have h3 := List.all_eq_true.1 h2.1.2 47 hc
    cases h3
theorem name_ne {l : List UInt8} (h : nameOk l = true) : l ≠ [] := by intro e; rw [e] at h; cases h
theorem name_last {l : List UInt8} (h : nameOk l = true) : allB fig (lastPart l) = false := by
  unfold nameOk at h
  simp only [Bool.and_eq_true] at h
  have := h.2
  unfold lastPart
  simpa using this
theorem num_no47 {l : List UInt8} {most n : Nat} (h : number l most = some n) : (47 : UInt8) ∉ l := by
  unfold number at h
  split at h
  · rename_i hx
    have hf := hx.1
    unfold numForm at hf
    simp only [Bool.and_eq_true] at hf
    intro hm
    have := List.all_eq_true.1 hf.1.2 47 hm
    cases this
  · cases h
theorem octVal_four (a b c d : Nat) : octVal [a, b, c, d] = ((a * 256 + b) * 256 + c) * 256 + d := by simp [octVal]
theorem oct_octVal {a b c d : Nat} (_ha : a ≤ 255) (hb : b ≤ 255) (hc : c ≤ 255) (hd : d ≤ 255) : oct0 (octVal [a, b, c, d]) = [a, b, c, d] := by
  rw [octVal_four]
  unfold oct0
  simp only [List.cons.injEq, and_true]
  omega
theorem octVal_oct {q : Nat} (h : q < 4294967296) : octVal (oct0 q) = q := by
  unfold oct0
  rw [octVal_four]; omega
theorem octVal_lt {a b c d : Nat} (ha : a ≤ 255) (hb : b ≤ 255) (hc : c ≤ 255) (hd : d ≤ 255) : octVal [a, b, c, d] < 4294967296 := by rw [octVal_four]; omega
/-- An address: four numbers. -/
theorem address_four {l : List UInt8} {ns : List Nat} (h : address l = some ns) : ∃ q, q < 4294967296 ∧ ns = oct0 q ∧ addrR l = (q : Int) := by
  obtain ⟨_, _, _, _, a, b, c, d, _, he, h0, h1, h2, h3⟩ := address_some h
  have e : ns = [a, b, c, d] := he
  refine ⟨octVal ns, ?_, ?_, ?_⟩
  · rw [e]; exact octVal_lt (number_le h0) (number_le h1) (number_le h2) (number_le h3)
  · rw [e]; exact (oct_octVal (number_le h0) (number_le h1) (number_le h2) (number_le h3)).symm
  · unfold addrR; rw [h]
theorem address_none {l : List UInt8} (h : address l = none) : addrR l = -1 := by unfold addrR; rw [h]
theorem first_self_iff (k q : Nat) (hk : k < 33) (hq : q < 4294967296) : firstN k (oct0 q) = oct0 q ↔ q % 2 ^ (32 - k) = 0 := by
  have h := (firstN_block0 k q q hk hq hq).2 rfl
  rw [h]
  have hv : 0 < 2 ^ (32 - k) := Nat.pow_pos (by decide)
  generalize 2 ^ (32 - k) = V at *
  have hle : q / V * V ≤ q := Nat.div_mul_le_self _ _
  have hdm := Nat.div_add_mod q V
  rw [Nat.mul_comm] at hdm
  constructor
  · intro e
    have := congrArg octVal e
    rw [octVal_oct (by omega), octVal_oct hq] at this
    omega
  · intro e
    rw [show q / V * V = q by omega]
theorem block_iff {q A V : Nat} (hV : 0 < V) (hA : A % V = 0) : q / V = A / V ↔ A ≤ q ∧ q < A + V := by
  have h1 := Nat.div_add_mod q V
  have h2 := Nat.div_add_mod A V
  have h3 := Nat.mod_lt q hV
  rw [hA, Nat.add_zero] at h2
  constructor
  · intro e; rw [e, h2] at h1; omega
  · intro ⟨ha, hb⟩
    have hd : A / V ≤ q / V := Nat.div_le_div_right ha
    have hu : q / V < A / V + 1 := by
      rw [Nat.div_lt_iff_lt_mul hV, Nat.add_mul, Nat.one_mul, Nat.mul_comm (A / V) V, h2]
      exact hb
    omega

theorem whereR_star (host : List UInt8) : whereR [42] host = (true, true) := rfl
theorem whereR_two {s host a n : List UInt8} (h0 : ¬ s = [42]) (h : parts 47 s = [a, n]) : whereR s host = if addrR a < 0 ∨ numR n 32 < 0 ∨ ¬ addrR a % (sizeR (numR n 32).toNat : Nat) = 0 then (false, false)
      else (decide (addrR a ≤ addrR host) && decide (addrR host < addrR a + (sizeR (numR n 32).toNat : Nat)), true) := by
  unfold whereR
  rw [if_neg h0, h]
theorem whereR_other {s host : List UInt8} (h0 : ¬ s = [42]) (h : ¬ (parts 47 s).length = 2) : whereR s host = if s[0]? = some 46 then (nameOk host && (host == s.drop 1 || (decide (s.length ≤ host.length) && host.drop (host.length - s.length) == s)), nameOk (s.drop 1))
      else (host == s, nameOk s) := by
  unfold whereR
  rw [if_neg h0]
  split
  · rename_i he; rw [he] at h; exact absurd rfl h
  · rfl
theorem cut_two {c : UInt8} {s a r : List UInt8} (hc : cutAt c s = some (a, r)) (hr : c ∉ r) : parts c s = [a, r] := by
  rw [parts_cut, hc]
  show a :: parts c r = [a, r]
  rw [parts_alone0 hr]
theorem cut_moreR {c : UInt8} {s a r : List UInt8} (hc : cutAt c s = some (a, r)) (hr : c ∈ r) : ¬ (parts c s).length = 2 := by
  rw [parts_cut, hc]
  have : 2 ≤ (parts c r).length := by
    rw [parts_length]
    have := List.count_pos_iff.2 hr
    omega
  show ¬ (a :: parts c r).length = 2
  rw [List.length_cons]; omega
theorem cut_one {c : UInt8} {s : List UInt8} (hc : cutAt c s = none) : ¬ (parts c s).length = 2 := by rw [parts_cut, hc]; simp
theorem cut_mem {c : UInt8} {s a r : List UInt8} (hc : cutAt c s = some (a, r)) : c ∈ s := by
  cases h : decide (c ∈ s) with
  | true => exact of_decide_eq_true h
  | false => rw [cutAt_none.2 (of_decide_eq_false h)] at hc; cases hc

theorem readHostP_name {s : List UInt8} (h0 : ¬ s = [42]) (hc : cutAt 47 s = none) : readHostP s = if s[0]? = some 46 then (if nameOk (s.drop 1) = true then some ⟨2, s.drop 1, [], 0⟩ else none) else if nameOk s = true then some ⟨1, s, [], 0⟩ else none := by
  unfold readHostP
  rw [if_neg h0, hc]
  dsimp only
  rw [List.head?_eq_getElem?, List.drop_one]
theorem readHostP_net {s a r : List UInt8} (h0 : ¬ s = [42]) (hc : cutAt 47 s = some (a, r)) : readHostP s = readNetP a r := by
  unfold readHostP
  rw [if_neg h0, hc]

/-- What readNetP says, in numbers. -/
theorem net_cases (a r : List UInt8) : (readNetP a r = none ∧ (addrR a < 0 ∨ numR r 32 < 0 ∨ ¬ addrR a % (sizeR (numR r 32).toNat : Nat) = 0)) ∨
    ∃ A k : Nat, A < 4294967296 ∧ k ≤ 32 ∧ addrR a = (A : Int) ∧ numR r 32 = (k : Int) ∧ A % 2 ^ (32 - k) = 0 ∧ readNetP a r = some ⟨3, [], oct0 A, k⟩ := by
  unfold readNetP
  cases ha : address a with
  | none => exact .inl ⟨rfl, .inl (by rw [address_none ha]; decide)⟩
  | some ad =>
    obtain ⟨A, hA, rfl, hR⟩ := address_four ha
    rcases numR_cases r 32 with ⟨hn, hr⟩ | ⟨k, hn, hr, hk⟩
    · exact .inl ⟨by rw [hn], .inr (.inl (by rw [hr]; decide))⟩
    · rw [hn]
      dsimp only
      have hiff := first_self_iff k A (by omega) hA
      by_cases hm : A % 2 ^ (32 - k) = 0
      · rw [if_pos (hiff.2 hm)]
        exact .inr ⟨A, k, hA, hk, hR, hr, hm, rfl⟩
      · rw [if_neg (fun e => hm (hiff.1 e))]
        refine .inl ⟨rfl, .inr (.inr ?_)⟩
        rw [hR, hr]
        unfold sizeR
        rw [Int.toNat_natCast, ← Int.natCast_emod]
        omega

theorem where_ok (s host : List UInt8) : (whereR s host).2 = (readHostP s).isSome := by
  by_cases h0 : s = [42]
  · rw [h0]; rfl
  · cases hc : cutAt 47 s with
    | none =>
      rw [whereR_other h0 (cut_one hc), readHostP_name h0 hc]
      by_cases hd : s[0]? = some 46
      · rw [if_pos hd, if_pos hd]; cases nameOk (s.drop 1) <;> rfl
      · rw [if_neg hd, if_neg hd]; cases nameOk s <;> rfl
    | some x =>
      obtain ⟨a, r⟩ := x
      rw [readHostP_net h0 hc]
      by_cases hr : (47 : UInt8) ∈ r
      · rw [whereR_other h0 (cut_moreR hc hr)]
        have hn : readNetP a r = none := by
          unfold readNetP
          cases address a with
          | none => rfl
          | some ad =>
            cases hk : number r 32 with
            | none => rfl
            | some k => exact absurd hr (num_no47 hk)
        rw [hn]
        have hm := cut_mem hc
        have hns : nameOk s = false := by
          cases h : nameOk s with
          | false => rfl
          | true => exact absurd hm (name_no47 h)
        by_cases hd : s[0]? = some 46
        · rw [if_pos hd]
          show nameOk (s.drop 1) = false
          cases h : nameOk (s.drop 1) with
          | false => rfl
          | true =>
            exfalso
            apply name_no47 h
            cases s with
            | nil => cases hm
            | cons b l =>
              simp at hd
              subst hd
              simp at hm
              simpa using hm
        · rw [if_neg hd]; exact hns
      · rw [whereR_two h0 (cut_two hc hr)]
        rcases net_cases a r with ⟨h1, h2⟩ | ⟨A, k, hA, hk, hR, hN, hm, h1⟩
        · rw [if_pos h2, h1]; rfl
        · rw [if_neg, h1]; · rfl
          rw [hR, hN]
          unfold sizeR
          rw [Int.toNat_natCast, ← Int.natCast_emod, hm]
          omega
end Go.Proofs.YtdmaffciijmdcaaDoor.Plain

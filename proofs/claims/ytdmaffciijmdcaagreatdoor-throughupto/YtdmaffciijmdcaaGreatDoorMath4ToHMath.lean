/-
  Questions by raw numbers: what a rule that raw numbers make says of them.
-/
import Derived.Test.YtdmaffciijmdcaaGreatDoorMath2ToMath3
import Derived.Test.YtdmaffciijmdcaaGreatDoorRowCToHeads1
import Derived.Test.YtdmaffciijmdcaaGreatDoorGate12ToMath1
namespace Go.Proofs.YtdmaffciijmdcaaGreatDoor.Plain

/-- A question by raw numbers. -/
structure AskR where
  who : Int
  whr : Int
  prt : Int
  mnt : Int
def hostT (q : AskR) : List UInt8 := if pickN q.whr 12 < 6 then nameS (pickN q.whr 12) else dotted (pickN q.whr 4294967296)
def hostNm (q : AskR) : List UInt8 := if pickN q.whr 12 < 6 then nameS (pickN q.whr 12) else []
def hostAd (q : AskR) : List Nat := if pickN q.whr 12 < 6 then [0, 0, 0, 0] else oct (pickN q.whr 4294967296)

theorem name_host (n : Nat) : readHost (nameS n) = some (nameS n, [0, 0, 0, 0]) := by
  unfold nameS
  split <;> rfl

theorem last_dotted (a : Nat) : lastPart (dotted a) = digits (a % 256) := by
  have hd : ∀ n, (46 : UInt8) ∉ digits n := fun n => not_digits 46 (by decide)
  unfold lastPart dotted
  rw [show digits (a / 16777216) ++ [46] ++ digits (a / 65536 % 256) ++ [46] ++ digits (a / 256 % 256) ++ [46] ++ digits (a % 256) = digits (a / 16777216) ++ 46 :: (digits (a / 65536 % 256) ++ 46 :: (digits (a / 256 % 256) ++ 46 :: digits (a % 256))) by simp]
  rw [parts_first (hd _), parts_first (hd _), parts_first (hd _), parts_alone (hd _)]
  rfl
theorem host_read (q : AskR) : readHost (hostT q) = some (hostNm q, hostAd q) := by
  unfold hostT hostNm hostAd
  split
  · exact name_host _
  · unfold readHost
    rw [if_pos, address_dotted _ (pickN_lt q.whr (by decide))]
    rw [last_dotted]
    exact List.all_eq_true.2 fun c hc => digits_mem hc
theorem ask_read (q : AskR) : askS (tenantS (pickN q.who 3)) (hostT q) (pickN q.prt 65536 : Nat) (pickN q.mnt 10080 : Nat) = some (hostNm q, hostAd q) := by
  have h1 := pickN_lt q.prt (n := 65536) (by decide)
  have h2 := pickN_lt q.mnt (n := 10080) (by decide)
  unfold askS
  rw [if_pos ⟨by omega, by omega, by omega, by omega, (tenantS_ok _).1⟩]
  exact host_read q

/-- Does a text end with another one, behind a dot, or is it that? -/
def endsS (s last : List UInt8) : Bool := s == last || (decide (last.length < s.length) && (s.drop (s.length - last.length) == last && s.getD (s.length - last.length - 1) 0 == 46))

def whoK (r : RawR) (q : AskR) : Bool := if pickN r.who 4 < 3 then tenantS (pickN q.who 3) == tenantS (pickN r.who 4) else true
def whereK (r : RawR) (q : AskR) : Bool :=
  if pickN r.whr 20 < 6 then hostT q == nameS (pickN r.whr 20)
  else if pickN r.whr 20 < 12 then decide (pickN q.whr 12 < 6) && endsS (hostT q) (nameS (pickN r.whr 20))
  else if pickN r.whr 20 < 19 then !decide (pickN q.whr 12 < 6) && decide (pickN q.whr 4294967296 / 2 ^ (32 - pickN r.bts 33) = pickN r.whr 4294967296 / 2 ^ (32 - pickN r.bts 33))
  else true
def portK (r : RawR) (q : AskR) : Bool :=
  if pickN r.til 65536 < pickN r.frm 65536 then decide (pickN q.prt 65536 = pickN r.frm 65536)
  else if r.frm.tmod 3 ≠ 0 then decide (pickN r.frm 65536 ≤ pickN q.prt 65536) && decide (pickN q.prt 65536 ≤ pickN r.til 65536) else true
def whenK (r : RawR) (q : AskR) : Bool :=
  if r.beg.tmod 3 ≠ 0 then (if pickN r.fin 10080 < pickN r.beg 10080 then decide (pickN r.beg 10080 ≤ pickN q.mnt 10080) || decide (pickN q.mnt 10080 ≤ pickN r.fin 10080)
    else decide (pickN r.beg 10080 ≤ pickN q.mnt 10080) && decide (pickN q.mnt 10080 ≤ pickN r.fin 10080)) else true
def fitsK (r : RawR) (q : AskR) : Bool := whoK r q && whereK r q && portK r q && whenK r q

theorem who_same (r : RawR) (q : AskR) : tenFits (ruleOf r).ten (tenantS (pickN q.who 3)) = whoK r q := by
  unfold ruleOf whoK tenFits
  dsimp only
  split <;> simp_all
theorem port_same (r : RawR) (q : AskR) : portFits (ruleOf r).port ((pickN q.prt 65536 : Nat) : Int) = portK r q := by
  show portFits (portOf r) _ = _
  unfold portK portOf
  by_cases h : pickN r.til 65536 < pickN r.frm 65536
  · rw [if_pos h, if_pos h, portFits, Bool.eq_iff_iff]; simp; omega
  · rw [if_neg h, if_neg h]
    by_cases h3 : r.frm.tmod 3 ≠ 0
    · rw [if_pos h3, if_pos h3, portFits, Bool.eq_iff_iff]; simp
    · rw [if_neg h3, if_neg h3, portFits]
theorem when_same (r : RawR) (q : AskR) : minFits (ruleOf r).minute ((pickN q.mnt 10080 : Nat) : Int) = whenK r q := by
  show minFits (minOf r) _ = _
  unfold whenK minOf
  by_cases h3 : r.beg.tmod 3 ≠ 0
  · rw [if_pos h3, if_pos h3, minFits]
    by_cases h : pickN r.fin 10080 < pickN r.beg 10080
    · rw [if_pos h, if_pos h, Bool.eq_iff_iff]; simp
    · rw [if_neg h, if_neg h, Bool.eq_iff_iff]; simp
  · rw [if_neg h3, if_neg h3, minFits]

theorem nameS_mod (n : Nat) : nameS n = nameS (n % 6) := by unfold nameS; rw [Nat.mod_mod]
theorem ends_names (i j : Nat) : (nameS i == nameS j || Lib.hasSuffix (nameS i) (46 :: nameS j)) = endsS (nameS i) (nameS j) := by
  have hall : ∀ i : Fin 6, ∀ j : Fin 6, (nameS i.1 == nameS j.1 || Lib.hasSuffix (nameS i.1) (46 :: nameS j.1)) = endsS (nameS i.1) (nameS j.1) := by decide
  rw [nameS_mod i, nameS_mod j]
  exact hall ⟨i % 6, Nat.mod_lt _ (by decide)⟩ ⟨j % 6, Nat.mod_lt _ (by decide)⟩
theorem dotted_not_name (a n : Nat) : dotted a ≠ nameS n := by
  intro h
  have h1 : lastPart (dotted a) = digits (a % 256) := last_dotted a
  rw [h] at h1
  have h2 : allB fig (lastPart (nameS n)) = false := by unfold nameS; split <;> rfl
  rw [h1, show allB fig (digits (a % 256)) = true from List.all_eq_true.2 fun c hc => digits_mem hc] at h2
  cases h2
theorem nil_not_suffix (l : List UInt8) (c : UInt8) : Lib.hasSuffix [] (c :: l) = false := by simp [Lib.hasSuffix]
theorem nameS_ne (n : Nat) : nameS n ≠ [] := by unfold nameS; split <;> simp

theorem where_same (r : RawR) (q : AskR) : hostFits (ruleOf r).host (hostNm q) (hostAd q) = whereK r q := by
  have hb := pickN_lt r.bts (n := 33) (by decide)
  have hA := pickN_lt r.whr (n := 4294967296) (by decide)
  have hq := pickN_lt q.whr (n := 4294967296) (by decide)
  unfold ruleOf whereK hostFits hostOf
  dsimp only
  by_cases h6 : pickN r.whr 20 < 6
  · rw [if_pos h6, if_pos h6]
    simp only [Nat.one_ne_zero, if_false, if_true]
    unfold hostNm hostT
    by_cases hn : pickN q.whr 12 < 6
    · rw [if_pos hn, if_pos hn]
    · rw [if_neg hn, if_neg hn, beq_eq_false_iff_ne.2 (dotted_not_name _ _), beq_eq_false_iff_ne.2 (fun e => nameS_ne _ e.symm)]
  · rw [if_neg h6, if_neg h6]
    by_cases h12 : pickN r.whr 20 < 12
    · rw [if_pos h12, if_pos h12]
      dsimp only; rw [if_neg (by decide), if_neg (by decide), if_pos rfl]
      unfold hostNm hostT
      by_cases hn : pickN q.whr 12 < 6
      · rw [if_pos hn, if_pos hn, decide_eq_true hn, Bool.true_and, ends_names]
      · rw [if_neg hn, if_neg hn, decide_eq_false hn, Bool.false_and, beq_eq_false_iff_ne.2 (fun e => nameS_ne _ e.symm), nil_not_suffix]; rfl
    · rw [if_neg h12, if_neg h12]
      by_cases h19 : pickN r.whr 20 < 19
      · rw [if_pos h19, if_pos h19]
        dsimp only; rw [if_neg (by decide), if_neg (by decide), if_neg (by decide)]
        unfold hostNm hostAd
        by_cases hn : pickN q.whr 12 < 6
        · rw [if_pos hn, decide_eq_true hn]
          have : (nameS (pickN q.whr 12)).isEmpty = false := by
            cases h : nameS (pickN q.whr 12) with
            | nil => exact absurd h (nameS_ne _)
            | cons => rfl
          rw [this]; rfl
        · rw [if_neg hn, if_neg hn, decide_eq_false hn]
          have := firstN_block _ _ _ hb hq hA
          rw [Bool.eq_iff_iff]
          simp only [List.isEmpty_nil, Bool.true_and, Bool.not_false, beq_iff_eq, decide_eq_true_eq]
          exact this
      · rw [if_neg h19, if_neg h19]; rfl

theorem fits_same (r : RawR) (q : AskR) : ruleFits (ruleOf r) (tenantS (pickN q.who 3)) (hostNm q) (hostAd q) ((pickN q.prt 65536 : Nat) : Int) ((pickN q.mnt 10080 : Nat) : Int) = fitsK r q := by
  unfold ruleFits fitsK
  rw [who_same, where_same, port_same, when_same]

/-- What the first rule that fits says, and its number. -/
def decidedK (q : AskR) : Nat → List RawR → Bool × Int
  | _, [] => (false, -1)
  | k, r :: rs => if fitsK r q = true then (decide (pickN r.says 2 = 0), (k : Int)) else decidedK q (k + 1) rs
theorem decided_from (q : AskR) : ∀ (k : Nat) (l : List RawR), decideFrom (fun r => ruleFits r (tenantS (pickN q.who 3)) (hostNm q) (hostAd q) ((pickN q.prt 65536 : Nat) : Int) ((pickN q.mnt 10080 : Nat) : Int)) k (l.map ruleOf) = decidedK q k l
  | _, [] => rfl
  | k, r :: l => by
    rw [List.map_cons, decideFrom, decidedK, fits_same, decided_from q (k + 1) l]
    rfl
/-- The two answers are one. -/
theorem decide_same (l : List RawR) (q : AskR) : decideS (l.map ruleOf) (tenantS (pickN q.who 3)) (hostT q) ((pickN q.prt 65536 : Nat) : Int) ((pickN q.mnt 10080 : Nat) : Int) = ((decidedK q 0 l).1, (decidedK q 0 l).2, 0) := by
  unfold decideS
  rw [ask_read]
  dsimp only
  rw [decided_from]
theorem decidedK_drop {q : AskR} {l : List RawR} {k : Nat} {r : RawR} (h : l[k]? = some r) : decidedK q k (l.drop k) = if fitsK r q = true then (decide (pickN r.says 2 = 0), (k : Int)) else decidedK q (k + 1) (l.drop (k + 1)) := by
  obtain ⟨hk, rfl⟩ := List.getElem?_eq_some_iff.1 h
  rw [← List.getElem_cons_drop hk, decidedK]
end Go.Proofs.YtdmaffciijmdcaaGreatDoor.Plain
/-
  Plain: base 64 says one text alone.
-/
namespace Go.Proofs.YtdmaffciijmdcaaGreatDoor.Plain
theorem six_inj0 : ∀ a b : Fin 64, letters.getD a.val 0 = letters.getD b.val 0 → a = b := by decide +kernel
theorem six_61 : ∀ a : Fin 64, letters.getD a.val 0 ≠ 61 ∧ letters.getD a.val 0 ≠ 13 ∧ letters.getD a.val 0 ≠ 32 ∧ seenB (letters.getD a.val 0) = true := by decide +kernel
theorem six_inj {n m : Nat} (h : six n = six m) : n % 64 = m % 64 := by
  unfold six at h
  have := six_inj0 ⟨n % 64, Nat.mod_lt _ (by decide)⟩ ⟨m % 64, Nat.mod_lt _ (by decide)⟩ h
  injection this
theorem six_ne (n : Nat) : six n ≠ 61 ∧ six n ≠ 13 ∧ six n ≠ 32 ∧ seenB (six n) = true := six_61 ⟨n % 64, Nat.mod_lt _ (by decide)⟩
theorem b_eq {a b : UInt8} (h : a.toNat = b.toNat) : a = b := UInt8.toNat_inj.1 h
theorem b64_inj : ∀ (l m : List UInt8), b64 l = b64 m → l = m
  | [], [], _ => rfl
  | [], [_], h => by simp [b64] at h
  | [], [_, _], h => by simp [b64] at h
  | [], _ :: _ :: _ :: _, h => by simp [b64] at h
  | [_], [], h => by simp [b64] at h
  | [_, _], [], h => by simp [b64] at h
  | _ :: _ :: _ :: _, [], h => by simp [b64] at h
  | [a], [b], h => by
    simp only [b64, List.cons.injEq, and_true] at h
    have h1 := six_inj h.1
    have h2 := six_inj h.2
    have ha := a.toNat_lt
    have hb := b.toNat_lt
    have z : (0 : UInt8).toNat = 0 := rfl
    simp only [bits3, z] at h1 h2
    rw [b_eq (a := a) (b := b) (by omega)]
  | [a], [b, c], h => by
    simp only [b64, List.cons.injEq] at h
    exact absurd h.2.2.1.symm (six_ne _).1
  | [a], b :: c :: d :: r, h => by
    simp only [b64, List.cons.injEq] at h
    exact absurd h.2.2.1.symm (six_ne _).1
  | [b, c], [a], h => by
    simp only [b64, List.cons.injEq] at h
    exact absurd h.2.2.1 (six_ne _).1
  | b :: c :: d :: r, [a], h => by
    simp only [b64, List.cons.injEq] at h
    exact absurd h.2.2.1 (six_ne _).1
  | [a, b], [c, d], h => by
    simp only [b64, List.cons.injEq, and_true] at h
    have h1 := six_inj h.1
    have h2 := six_inj h.2.1
    have h3 := six_inj h.2.2
    have ha := a.toNat_lt
    have hb := b.toNat_lt
    have hc := c.toNat_lt
    have hd := d.toNat_lt
    have z : (0 : UInt8).toNat = 0 := rfl
    simp only [bits3, z] at h1 h2 h3
    rw [b_eq (a := a) (b := c) (by omega), b_eq (a := b) (b := d) (by omega)]
  | [a, b], c :: d :: e :: r, h => by
    simp only [b64, List.cons.injEq] at h
    exact absurd h.2.2.2.1.symm (six_ne _).1
  | c :: d :: e :: r, [a, b], h => by
    simp only [b64, List.cons.injEq] at h
    exact absurd h.2.2.2.1 (six_ne _).1
  | a :: b :: c :: l, d :: e :: f :: m, h => by
    simp only [b64, List.cons.injEq] at h
    have h1 := six_inj h.1
    have h2 := six_inj h.2.1
    have h3 := six_inj h.2.2.1
    have h4 := six_inj h.2.2.2.1
    have ha := a.toNat_lt
    have hb := b.toNat_lt
    have hc := c.toNat_lt
    have hd := d.toNat_lt
    have he := e.toNat_lt
    have hf := f.toNat_lt
    simp only [bits3] at h1 h2 h3 h4
    rw [b_eq (a := a) (b := d) (by omega), b_eq (a := b) (b := e) (by omega), b_eq (a := c) (b := f) (by omega), b64_inj l m h.2.2.2.2]
end Go.Proofs.YtdmaffciijmdcaaGreatDoor.Plain
/-
  Plain: base 64 says one text alone; a head that was made reads back.
-/
namespace Go.Proofs.YtdmaffciijmdcaaGreatDoor.Plain

theorem b64_bytes : ∀ (l : List UInt8), ∀ c ∈ b64 l, seenB c = true
  | [], c, h => by simp [b64] at h
  | [a], c, h => by
    simp only [b64, List.mem_cons, List.not_mem_nil, or_false] at h
    rcases h with rfl | rfl | rfl | rfl
    · exact (six_ne _).2.2.2
    · exact (six_ne _).2.2.2
    · decide
    · decide
  | [a, b], c, h => by
    simp only [b64, List.mem_cons, List.not_mem_nil, or_false] at h
    rcases h with rfl | rfl | rfl | rfl
    · exact (six_ne _).2.2.2
    · exact (six_ne _).2.2.2
    · exact (six_ne _).2.2.2
    · decide
  | a :: b :: d :: l, c, h => by
    simp only [b64, List.mem_cons] at h
    rcases h with rfl | rfl | rfl | rfl | h
    · exact (six_ne _).2.2.2
    · exact (six_ne _).2.2.2
    · exact (six_ne _).2.2.2
    · exact (six_ne _).2.2.2
    · exact b64_bytes l c h

/-! Lines with CR LF. -/
theorem seen_not {c : UInt8} (h : seenB c = true) (x : UInt8) (hx : seenB x = false) : c ≠ x := fun e => by rw [e, hx] at h; cases h
theorem pre_ne {b x : UInt8} {l p : List UInt8} (h : b ≠ x) : (x :: p).isPrefixOf (b :: l) = false := by
  simp [List.isPrefixOf, Ne.symm h]
theorem index_skip (p : List UInt8) (t : List UInt8) : ∀ (l : List UInt8), (13 : UInt8) ∉ l → Lib.index (l ++ t) (13 :: p) = if Lib.index t (13 :: p) = -1 then -1 else Lib.index t (13 :: p) + l.length
  | [], _ => by simp
  | b :: l, h => by
    have hb : b ≠ 13 := fun e => h (by rw [e]; simp)
    have ih := index_skip p t l (fun hm => h (by simp [hm]))
    have hge := Lib.index_ge t (13 :: p)
    rw [List.cons_append, Lib.index, pre_ne hb]
    simp only [Bool.false_eq_true, if_false, beq_iff_eq]
    rw [ih]
    by_cases h1 : Lib.index t (13 :: p) = -1
    · simp [h1]
    · rw [if_neg h1, if_neg (by omega), if_neg h1, List.length_cons]
      omega
theorem index_crlf (x : UInt8) (t : List UInt8) (hx : x ≠ 13) : Lib.index (13 :: 10 :: x :: t) endB = if Lib.index (x :: t) endB = -1 then -1 else Lib.index (x :: t) endB + 2 := by
  have e : endB = 13 :: [10, 13, 10] := rfl
  have h1 : endB.isPrefixOf (13 :: 10 :: x :: t) = false := by
    simp [endB, List.isPrefixOf, Ne.symm hx]
  rw [Lib.index, h1]
  simp only [Bool.false_eq_true, if_false, beq_iff_eq]
  have h2 : Lib.index (10 :: x :: t) endB = if Lib.index (x :: t) endB = -1 then -1 else Lib.index (x :: t) endB + 1 := by
    have := index_skip [10, 13, 10] (x :: t) [10] (by decide)
    exact this
  have hge := Lib.index_ge (x :: t) endB
  rw [h2]
  by_cases h3 : Lib.index (x :: t) endB = -1
  · simp [h3]
  · rw [if_neg h3, if_neg (by omega), if_neg h3]
    omega
/-- Three lines, and the empty one: its end is found, and none ahead. -/
theorem index_three {a b c : List UInt8} {y z : UInt8} (ha : (13 : UInt8) ∉ a) (hb : (13 : UInt8) ∉ y :: b) (hc : (13 : UInt8) ∉ z :: c) : Lib.index (a ++ (13 :: 10 :: (y :: b ++ (13 :: 10 :: (z :: c ++ endB))))) endB = ((a ++ (13 :: 10 :: (y :: b ++ (13 :: 10 :: (z :: c))))).length : Nat) := by
  have e0 : Lib.index endB endB = 0 := by decide
  have e1 : Lib.index (z :: c ++ endB) endB = ((z :: c).length : Nat) := by
    have := index_skip [10, 13, 10] endB (z :: c) hc
    rw [show (13 :: [10, 13, 10] : List UInt8) = endB from rfl, e0] at this
    simpa using this
  have e2 : Lib.index (13 :: 10 :: (z :: c ++ endB)) endB = ((z :: c).length + 2 : Nat) := by
    have := index_crlf z (c ++ endB) (fun e => hc (by rw [e]; simp))
    rw [show z :: (c ++ endB) = z :: c ++ endB from rfl, e1] at this
    rw [show z :: c ++ endB = z :: (c ++ endB) from rfl] at this ⊢
    rw [this, if_neg (by omega)]
    omega
  have e3 : Lib.index (y :: b ++ (13 :: 10 :: (z :: c ++ endB))) endB = ((y :: b).length + (z :: c).length + 2 : Nat) := by
    have := index_skip [10, 13, 10] (13 :: 10 :: (z :: c ++ endB)) (y :: b) hb
    rw [show (13 :: [10, 13, 10] : List UInt8) = endB from rfl, e2, if_neg (by omega)] at this
    rw [this]
    omega
  have e4 : Lib.index (13 :: 10 :: (y :: b ++ (13 :: 10 :: (z :: c ++ endB)))) endB = ((y :: b).length + (z :: c).length + 4 : Nat) := by
    have := index_crlf y (b ++ (13 :: 10 :: (z :: c ++ endB))) (fun e => hb (by rw [e]; simp))
    rw [show y :: (b ++ (13 :: 10 :: (z :: c ++ endB))) = y :: b ++ (13 :: 10 :: (z :: c ++ endB)) from rfl, e3] at this
    rw [show y :: b ++ (13 :: 10 :: (z :: c ++ endB)) = y :: (b ++ (13 :: 10 :: (z :: c ++ endB))) from rfl] at this ⊢
    rw [this, if_neg (by omega)]
    omega
  have := index_skip [10, 13, 10] (13 :: 10 :: (y :: b ++ (13 :: 10 :: (z :: c ++ endB)))) a ha
  rw [show (13 :: [10, 13, 10] : List UInt8) = endB from rfl, e4, if_neg (by omega)] at this
  rw [this]
  simp
  omega
end Go.Proofs.YtdmaffciijmdcaaGreatDoor.Plain

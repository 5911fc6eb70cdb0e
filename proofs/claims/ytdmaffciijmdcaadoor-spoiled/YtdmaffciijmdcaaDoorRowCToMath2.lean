/-
  What the rows share: a slice of structs of integers, opened.
-/
import Derived.Test.YtdmaffciijmdcaaDoorRowTToLeaf
import Derived.Test.YtdmaffciijmdcaaDoorTextToRulesT
namespace Go.Proofs.YtdmaffciijmdcaaDoor
open Go.ChangeShapes Go.WideShapes Go.ChangeAt Go.RowKit Plain

/-- A slice of structs of k integers each, opened. -/
theorem open_rows {H : Type} {enc : TypeId × Value → H} {P : Program} {w : World} {fuel : Nat} {t e : TypeId} {k : Nat} {v : Value} {x : DataW H × List MemPlace} (fs : Array Field)
    (ht : P.underlying t = some (.slice e)) (he : P.underlying e = some (.struct fs)) (hs : fs.size = k) (hce : P.cellsOf e = k) (hk : 0 < k)
    (hf : ∀ j, j < k → ∃ f : Field, fs[j]? = some f ∧ P.underlying f.type = some (.int .i64) ∧ P.cellsOf f.type = 1 ∧ f.offset = j)
    (h : DataW.trod enc P w 0 (fun _ => true) true fuel t [v] = some x) :
    v = .slice none 0 0 ∨ ∃ a len cap, v = .slice (some a) len cap ∧ len ≤ maxLen ∧ ∀ i, i < len → a.spot = none ∧ ∀ j, j < k →
      w.cell? ⟨a.block, a.off + i * k + j, none⟩ = some (.int .i64 (cellInt w a.block (a.off + i * k + j))) ∧ I64 (cellInt w a.block (a.off + i * k + j)) := by
  rcases Go.Deep.open_slice ht h with ⟨hcs, _⟩ | ⟨a, len, cap, m, n, D, Pl, hcs, _, hl, hm, hmm, _, hx⟩
  · exact .inl (List.singleton_inj.1 hcs)
  · refine .inr ⟨a, len, cap, List.singleton_inj.1 hcs, by omega, ?_⟩
    have hlm : len ≤ m := by rw [hmm, if_pos rfl]; exact hl
    have hcell : ∀ i, i < len → ∀ j, j < k → ∃ z, w.cell? ((a.add (i * k)).add j) = some (.int .i64 z) ∧ I64 z := by
      intro i hi j hj
      obtain ⟨cs, h1, h2⟩ := hx i (by omega)
      rw [hce] at h1
      obtain ⟨_, hcl, hc⟩ := World.cells?_some h1
      obtain ⟨xs, n', _, _, _, hxl, hfld⟩ := DataW.trod_struct he h2
      obtain ⟨f, hf1, hf2, hf3, hf4⟩ := hf j hj
      have h3 := hfld j f hf1
      rw [hf3, hf4, List.getElem?_eq_getElem (by rw [hxl, hs]; exact hj)] at h3
      obtain ⟨z, e1, _, hw⟩ := DataW.trod_int hf2 h3
      refine ⟨z, ?_, bounds_i64 hw⟩
      rw [hc j hj]
      have h0 : ((cs.drop j).take 1)[0]? = some (.int .i64 z) := by rw [e1]; rfl
      simpa using h0
    intro i hi
    have hsp : a.spot = none := by
      obtain ⟨z, hz, _⟩ := hcell 0 (by omega) 0 hk
      rw [Nat.zero_mul] at hz
      have : w.cell? a = some (.int .i64 z) := hz
      unfold World.cell? at this
      split at this
      · split at this
        · cases this
        · rename_i hn; simpa using hn
      · cases this
    refine ⟨hsp, fun j hj => ?_⟩
    obtain ⟨z, hz, hz2⟩ := hcell i hi j hj
    rw [add_add hsp] at hz
    have : cellInt w a.block (a.off + i * k + j) = z := by unfold cellInt; rw [hz]
    rw [this]
    exact ⟨hz, hz2⟩

def rawOf (w : World) (b o : Nat) : RawR := ⟨cellInt w b o, cellInt w b (o + 1), cellInt w b (o + 2), cellInt w b (o + 3), cellInt w b (o + 4), cellInt w b (o + 5), cellInt w b (o + 6), cellInt w b (o + 7)⟩

/-- The rules that came in. -/
theorem raws_open {H : Type} {enc : TypeId × Value → H} {w : World} {v : Value} {d : DataW H} {ps : List MemPlace} (h : DataW.Trod enc Tryd.prog w 0 (fun _ => true) true 39 v d ps)
    (hv : ∃ a len cap, v = .slice a len cap) : ∃ l, RawsAt w v l := by
  obtain ⟨a0, len0, cap0, rfl⟩ := hv
  obtain ⟨fuel, hf⟩ := h
  have hf' : DataW.trod enc Tryd.prog w 0 (fun _ => true) true fuel 39 [.slice a0 len0 cap0] = some (d, ps) := hf
  rcases open_rows (k := 8) _ Tryd.underlying39 Tryd.underlying75 rfl (by kernel_rfl) (by decide)
    (fun j hj => by
      match j, hj with
      | 0, _ => exact ⟨_, rfl, Tryd.underlying3, by kernel_rfl, rfl⟩
      | 1, _ => exact ⟨_, rfl, Tryd.underlying3, by kernel_rfl, rfl⟩
      | 2, _ => exact ⟨_, rfl, Tryd.underlying3, by kernel_rfl, rfl⟩
      | 3, _ => exact ⟨_, rfl, Tryd.underlying3, by kernel_rfl, rfl⟩
      | 4, _ => exact ⟨_, rfl, Tryd.underlying3, by kernel_rfl, rfl⟩
      | 5, _ => exact ⟨_, rfl, Tryd.underlying3, by kernel_rfl, rfl⟩
      | 6, _ => exact ⟨_, rfl, Tryd.underlying3, by kernel_rfl, rfl⟩
      | 7, _ => exact ⟨_, rfl, Tryd.underlying3, by kernel_rfl, rfl⟩) hf' with hn | ⟨a, len, cap, hs, hmax, hc⟩
  · cases hn
    exact ⟨[], .inl ⟨rfl, _, _, rfl⟩⟩
  · cases hs
    by_cases h0 : len0 = 0
    · subst h0
      exact ⟨[], .inl ⟨rfl, _, _, rfl⟩⟩
    · have hsp := (hc 0 (by omega)).1
      refine ⟨(List.range len0).map fun i => rawOf w a.block (a.off + i * 8), .inr ⟨a.block, a.off, cap0, ?_, ?_, ?_⟩⟩
      · rw [List.length_map, List.length_range, ← hsp]
      · rw [List.length_map, List.length_range]; unfold maxLen at hmax; omega
      · intro i r hr
        rw [List.getElem?_map] at hr
        obtain ⟨i', hi', rfl⟩ := Option.map_eq_some_iff.1 hr
        obtain ⟨hi, rfl⟩ := List.getElem?_eq_some_iff.1 hi'
        rw [List.getElem_range]
        rw [List.length_range] at hi
        have hh := (hc i hi).2
        have c0 := hh 0 (by decide)
        have c1 := hh 1 (by decide)
        have c2 := hh 2 (by decide)
        have c3 := hh 3 (by decide)
        have c4 := hh 4 (by decide)
        have c5 := hh 5 (by decide)
        have c6 := hh 6 (by decide)
        have c7 := hh 7 (by decide)
        exact ⟨⟨c0.1, c1.1, c2.1, c3.1, c4.1, c5.1, c6.1, c7.1⟩, ⟨c0.2, c1.2, c2.2, c3.2, c4.2, c5.2, c6.2, c7.2⟩⟩
end Go.Proofs.YtdmaffciijmdcaaDoor
/-
  What is made out of raw numbers reads back: figures, addresses, rules.
-/
namespace Go.Proofs.YtdmaffciijmdcaaDoor.Plain

theorem figOf_nat {n : Nat} (h : n < 10) : (figOf n).toNat = 48 + n := by
  unfold figOf
  match n, h with
  | 0, _ => rfl
  | 1, _ => rfl
  | 2, _ => rfl
  | 3, _ => rfl
  | 4, _ => rfl
  | 5, _ => rfl
  | 6, _ => rfl
  | 7, _ => rfl
  | 8, _ => rfl
  | 9, _ => rfl
theorem fig_figOf {n : Nat} (h : n < 10) : fig (figOf n) = true := by
  unfold fig
  rw [figOf_nat h]
  simp; omega

/-- What figures are. -/
theorem digits_facts : ∀ (f n : Nat), n < f → (∀ c ∈ digits n, fig c = true) ∧ numVal (digits n) = n ∧ digits n ≠ [] ∧ ((digits n).head? = some 48 → n = 0)
  | f + 1, n, h => by
    rw [digits_eq]
    by_cases hn : n < 10
    · rw [if_pos hn]
      refine ⟨fun c hc => ?_, ?_, by simp, fun hh => ?_⟩
      · simp at hc; rw [hc]; exact fig_figOf hn
      · unfold numVal digit; simp [figOf_nat hn]
      · have e : figOf n = 48 := by simpa using hh
        have := figOf_nat hn
        rw [e] at this
        have e2 : (48 : UInt8).toNat = 48 := rfl
        omega
    · rw [if_neg hn]
      obtain ⟨h1, h2, h3, h4⟩ := digits_facts f (n / 10) (by omega)
      have hm : n % 10 < 10 := Nat.mod_lt _ (by decide)
      refine ⟨fun c hc => ?_, ?_, by simp, fun hh => ?_⟩
      · rcases List.mem_append.1 hc with hc | hc
        · exact h1 c hc
        · simp at hc; rw [hc]; exact fig_figOf hm
      · rw [numVal_snoc, h2]
        unfold digit
        rw [figOf_nat hm]; omega
      · have e : (digits (n / 10) ++ [figOf (n % 10)]).head? = (digits (n / 10)).head? := by
          cases hd : digits (n / 10) with
          | nil => exact absurd hd h3
          | cons a l => rfl
        rw [e] at hh
        have := h4 hh
        omega

theorem number_digits (n hi : Nat) (h : n ≤ hi) : number (digits n) hi = some n := by
  obtain ⟨h1, h2, h3, h4⟩ := digits_facts (n + 1) n (by omega)
  unfold number
  rw [if_pos, h2]
  refine ⟨?_, by rw [h2]; exact h⟩
  unfold numForm
  have e1 : (digits n).isEmpty = false := by
    cases hd : digits n with
    | nil => exact absurd hd h3
    | cons => rfl
  have e2 : allB fig (digits n) = true := by unfold allB; rw [List.all_eq_true]; exact h1
  rw [e1, e2]
  by_cases hh : (digits n).head? = some 48
  · have h0 := h4 hh
    subst h0
    rfl
  · have e3 : ((digits n).head? != some 48) = true := by rw [bne_iff_ne]; exact hh
    rw [e3]; simp

/-- A byte that a rule's field may hold. -/
def fieldB (c : UInt8) : Bool := small c || fig c || c == 45 || c == 46 || c == 47 || c == 42
theorem fieldB_fig {c : UInt8} (h : fig c = true) : fieldB c = true := by unfold fieldB; rw [h]; simp
theorem digits_mem {n : Nat} {c : UInt8} (h : c ∈ digits n) : fig c = true := (digits_facts (n + 1) n (by omega)).1 c h
theorem fig_not {c : UInt8} (h : fig c = true) (x : UInt8) (hx : fig x = false) : c ≠ x := fun e => by rw [e, hx] at h; cases h
theorem not_digits {n : Nat} (x : UInt8) (hx : fig x = false) : x ∉ digits n := fun hm => by rw [digits_mem hm] at hx; cases hx

theorem parts_first {c : UInt8} {a b : List UInt8} (h : c ∉ a) : parts c (a ++ c :: b) = a :: parts c b := by
  rw [parts_cut, cutAt_some.2 ⟨rfl, h⟩]
theorem parts_alone {c : UInt8} {a : List UInt8} (h : c ∉ a) : parts c a = [a] := by
  rw [parts_cut, cutAt_none.2 h]

/-- The four numbers of an address. -/
def oct (a : Nat) : List Nat := [a / 16777216, a / 65536 % 256, a / 256 % 256, a % 256]
theorem address_dotted (a : Nat) (h : a < 4294967296) : address (dotted a) = some (oct a) := by
  have hd : ∀ n, (46 : UInt8) ∉ digits n := fun n => not_digits 46 (by decide)
  have hp : parts 46 (dotted a) = [digits (a / 16777216), digits (a / 65536 % 256), digits (a / 256 % 256), digits (a % 256)] := by
    unfold dotted
    rw [show digits (a / 16777216) ++ [46] ++ digits (a / 65536 % 256) ++ [46] ++ digits (a / 256 % 256) ++ [46] ++ digits (a % 256) = digits (a / 16777216) ++ 46 :: (digits (a / 65536 % 256) ++ 46 :: (digits (a / 256 % 256) ++ 46 :: digits (a % 256))) by simp]
    rw [parts_first (hd _), parts_first (hd _), parts_first (hd _), parts_alone (hd _)]
  unfold address
  rw [hp, if_pos (by rfl)]
  have h1 := number_digits (a / 16777216) 255 (by omega)
  have h2 := number_digits (a / 65536 % 256) 255 (by omega)
  have h3 := number_digits (a / 256 % 256) 255 (by omega)
  have h4 := number_digits (a % 256) 255 (by omega)
  simp [octets, h1, h2, h3, h4, oct]

theorem upto32 {b : Nat} (h : b < 33) : b = 0 ∨ b = 1 ∨ b = 2 ∨ b = 3 ∨ b = 4 ∨ b = 5 ∨ b = 6 ∨ b = 7 ∨ b = 8 ∨ b = 9 ∨ b = 10 ∨ b = 11 ∨ b = 12 ∨ b = 13 ∨ b = 14 ∨ b = 15 ∨ b = 16 ∨ b = 17 ∨ b = 18 ∨ b = 19 ∨ b = 20 ∨ b = 21 ∨ b = 22 ∨ b = 23 ∨ b = 24 ∨ b = 25 ∨ b = 26 ∨ b = 27 ∨ b = 28 ∨ b = 29 ∨ b = 30 ∨ b = 31 ∨ b = 32 := by omega

/-- The first bits of q are those of the block of A: in numbers. -/
theorem firstN_block (b q A : Nat) (hb : b < 33) (hq : q < 4294967296) (hA : A < 4294967296) :
    (firstN b (oct q) = oct (A / 2 ^ (32 - b) * 2 ^ (32 - b))) ↔ q / 2 ^ (32 - b) = A / 2 ^ (32 - b) := by
  unfold oct firstN keep
  rcases upto32 hb with h | h | h | h | h | h | h | h | h | h | h | h | h | h | h | h | h | h | h | h | h | h | h | h | h | h | h | h | h | h | h | h | h <;> subst h <;> simp <;> omega
theorem firstN_self (b A : Nat) (hb : b < 33) (hA : A < 4294967296) : firstN b (oct (A / 2 ^ (32 - b) * 2 ^ (32 - b))) = oct (A / 2 ^ (32 - b) * 2 ^ (32 - b)) := by
  have hv : 0 < 2 ^ (32 - b) := Nat.pow_pos (by decide)
  have hle : A / 2 ^ (32 - b) * 2 ^ (32 - b) ≤ A := Nat.div_mul_le_self _ _
  refine (firstN_block b _ A hb (by omega) hA).2 ?_
  rw [Nat.mul_div_cancel _ hv]
end Go.Proofs.YtdmaffciijmdcaaDoor.Plain
/-
  A rule's line reads as the rule it was made of; a line with a byte that stands in no rule is none.
-/
namespace Go.Proofs.YtdmaffciijmdcaaDoor.Plain

/-- The rule that raw numbers make. -/
def hostOf (r : RawR) : HostP :=
  if pickN r.whr 20 < 6 then ⟨1, nameS (pickN r.whr 20), [], 0⟩ else if pickN r.whr 20 < 12 then ⟨2, nameS (pickN r.whr 20), [], 0⟩
  else if pickN r.whr 20 < 19 then ⟨3, [], oct (netA r), pickN r.bts 33⟩ else ⟨0, [], [], 0⟩
def portOf (r : RawR) : Option (Nat × Nat) :=
  if pickN r.til 65536 < pickN r.frm 65536 then some (pickN r.frm 65536, pickN r.frm 65536) else if r.frm.tmod 3 ≠ 0 then some (pickN r.frm 65536, pickN r.til 65536) else none
def minOf (r : RawR) : Option (Nat × Nat) := if r.beg.tmod 3 ≠ 0 then some (pickN r.beg 10080, pickN r.fin 10080) else none
def ruleOf (r : RawR) : RuleS := ⟨decide (pickN r.says 2 = 0), if pickN r.who 4 < 3 then some (tenantS (pickN r.who 4)) else none, hostOf r, portOf r, minOf r⟩

def lineT (r : RawR) : List UInt8 := saysT r ++ 32 :: (whoT r ++ 32 :: (whereT r ++ 32 :: (portT r ++ 32 :: whenT r)))
theorem ruleT_line (r : RawR) : ruleT r = lineT r ++ [10] := by unfold ruleT lineT; simp

theorem says_read (r : RawR) : readVerd (saysT r) = some (decide (pickN r.says 2 = 0)) ∧ ∀ c ∈ saysT r, fieldB c = true := by
  unfold saysT
  by_cases h : pickN r.says 2 = 0
  · rw [if_pos h, decide_eq_true h]; exact ⟨rfl, by decide⟩
  · rw [if_neg h, decide_eq_false h]; exact ⟨rfl, by decide⟩

theorem tenantS_ok (n : Nat) : tenantOk (tenantS n) = true ∧ tenantS n ≠ [42] ∧ ∀ c ∈ tenantS n, fieldB c = true := by
  unfold tenantS
  split <;> exact ⟨by decide, by decide, by decide⟩
theorem who_read (r : RawR) : readTen (whoT r) = some (if pickN r.who 4 < 3 then some (tenantS (pickN r.who 4)) else none) ∧ ∀ c ∈ whoT r, fieldB c = true := by
  unfold whoT
  by_cases h : pickN r.who 4 < 3
  · obtain ⟨h1, h2, h3⟩ := tenantS_ok (pickN r.who 4)
    rw [if_pos h, if_pos h]
    refine ⟨?_, h3⟩
    unfold readTen
    rw [if_neg h2, if_pos h1]
  · rw [if_neg h, if_neg h]; exact ⟨rfl, by decide⟩

theorem nameS_ok (n : Nat) : nameOk (nameS n) = true ∧ nameS n ≠ [42] ∧ cutAt 47 (nameS n) = none ∧ (nameS n).head? ≠ some 46 ∧ ∀ c ∈ nameS n, fieldB c = true := by
  unfold nameS
  split <;> exact ⟨by decide, by decide, by decide, by decide, by decide⟩

theorem dotted_fig (a : Nat) : ∀ c ∈ dotted a, fig c = true ∨ c = 46 := by
  intro c hc
  unfold dotted at hc
  simp only [List.mem_append, List.mem_singleton] at hc
  rcases hc with (((((hc | hc) | hc) | hc) | hc) | hc) | hc
  · exact .inl (digits_mem hc)
  · exact .inr hc
  · exact .inl (digits_mem hc)
  · exact .inr hc
  · exact .inl (digits_mem hc)
  · exact .inr hc
  · exact .inl (digits_mem hc)

theorem where_read (r : RawR) : readHostP (whereT r) = some (hostOf r) ∧ ∀ c ∈ whereT r, fieldB c = true := by
  unfold whereT hostOf
  obtain ⟨n1, n2, n3, n4, n5⟩ := nameS_ok (pickN r.whr 20)
  by_cases h6 : pickN r.whr 20 < 6
  · rw [if_pos h6, if_pos h6]
    refine ⟨?_, n5⟩
    unfold readHostP
    rw [if_neg n2, n3]
    simp only
    rw [if_neg n4, if_pos n1]
  rw [if_neg h6, if_neg h6]
  by_cases h12 : pickN r.whr 20 < 12
  · rw [if_pos h12, if_pos h12]
    refine ⟨?_, ?_⟩
    · unfold readHostP
      have e1 : [46] ++ nameS (pickN r.whr 20) ≠ [42] := by intro e; simp at e
      have e2 : cutAt 47 ([46] ++ nameS (pickN r.whr 20)) = none := by
        rw [cutAt_none] at n3 ⊢
        simp only [List.mem_append, not_or]
        exact ⟨by decide, n3⟩
      rw [if_neg e1, e2]
      simp only
      rw [if_pos (by rfl), if_pos (by exact n1)]
      rfl
    · intro c hc
      rcases List.mem_append.1 hc with hc | hc
      · simp at hc; rw [hc]; decide
      · exact n5 c hc
  rw [if_neg h12, if_neg h12]
  by_cases h19 : pickN r.whr 20 < 19
  · rw [if_pos h19, if_pos h19]
    have hb := pickN_lt r.bts (n := 33) (by decide)
    have hA := pickN_lt r.whr (n := 4294967296) (by decide)
    have hn := netA_lt r
    have h47 : (47 : UInt8) ∉ dotted (netA r) := fun hm => by
      rcases dotted_fig _ _ hm with h | h
      · exact absurd h (by decide)
      · exact absurd h (by decide)
    refine ⟨?_, ?_⟩
    · unfold readHostP
      have e0 : dotted (netA r) ++ [47] ++ digits (pickN r.bts 33) = dotted (netA r) ++ 47 :: digits (pickN r.bts 33) := by simp
      have e1 : dotted (netA r) ++ [47] ++ digits (pickN r.bts 33) ≠ [42] := by
        intro e
        have : (47 : UInt8) ∈ ([42] : List UInt8) := by rw [← e]; simp
        exact absurd this (by decide)
      rw [if_neg e1, e0, cutAt_some.2 ⟨rfl, h47⟩]
      simp only
      unfold readNetP
      rw [address_dotted _ hn, number_digits _ 32 (by omega)]
      simp only
      rw [if_pos]
      exact firstN_self _ _ hb hA
    · intro c hc
      simp only [List.mem_append, List.mem_singleton] at hc
      rcases hc with (hc | hc) | hc
      · rcases dotted_fig _ _ hc with h | h
        · exact fieldB_fig h
        · rw [h]; decide
      · rw [hc]; decide
      · exact fieldB_fig (digits_mem hc)
  · rw [if_neg h19, if_neg h19]; exact ⟨rfl, by decide⟩

theorem digits_ne (n : Nat) (x : UInt8) (hx : fig x = false) (l : List UInt8) : digits n ++ l ≠ [x] := by
  obtain ⟨h1, _, h3, _⟩ := digits_facts (n + 1) n (by omega)
  intro e
  cases hd : digits n with
  | nil => exact h3 hd
  | cons a t =>
    rw [hd] at e h1
    simp at e
    have := h1 a (by simp)
    rw [e.1, hx] at this
    cases this
theorem dash_digits (a b : Nat) : cutAt 45 (digits a ++ [45] ++ digits b) = some (digits a, digits b) := by
  rw [show digits a ++ [45] ++ digits b = digits a ++ 45 :: digits b by simp]
  exact cutAt_some.2 ⟨rfl, not_digits 45 (by decide)⟩
theorem span_digits (a b hi : Nat) (ha : a ≤ hi) (hb : b ≤ hi) : span (digits a ++ [45] ++ digits b) hi = some (a, b) := by
  unfold span
  rw [dash_digits]
  simp only
  rw [number_digits a hi ha]
  simp only
  rw [number_digits b hi hb]
theorem mem_span {a b : Nat} {c : UInt8} (h : c ∈ digits a ++ [45] ++ digits b) : fieldB c = true := by
  simp only [List.mem_append, List.mem_singleton] at h
  rcases h with (h | h) | h
  · exact fieldB_fig (digits_mem h)
  · rw [h]; decide
  · exact fieldB_fig (digits_mem h)

theorem port_read (r : RawR) : readPortP (portT r) = some (portOf r) ∧ ∀ c ∈ portT r, fieldB c = true := by
  unfold portT portOf
  have h1 := pickN_lt r.frm (n := 65536) (by decide)
  have h2 := pickN_lt r.til (n := 65536) (by decide)
  by_cases h : pickN r.til 65536 < pickN r.frm 65536
  · rw [if_pos h, if_pos h]
    refine ⟨?_, fun c hc => fieldB_fig (digits_mem hc)⟩
    unfold readPortP
    have e1 : digits (pickN r.frm 65536) ≠ [42] := by have := digits_ne (pickN r.frm 65536) 42 (by decide) []; simpa using this
    rw [if_neg e1, cutAt_none.2 (not_digits 45 (by decide))]
    simp only
    rw [number_digits _ 65535 (by omega)]
  rw [if_neg h, if_neg h]
  by_cases h3 : r.frm.tmod 3 ≠ 0
  · rw [if_pos h3, if_pos h3]
    refine ⟨?_, fun c hc => mem_span hc⟩
    unfold readPortP
    have e1 : digits (pickN r.frm 65536) ++ [45] ++ digits (pickN r.til 65536) ≠ [42] := by rw [List.append_assoc]; exact digits_ne _ 42 (by decide) _
    rw [if_neg e1, dash_digits]
    simp only
    rw [span_digits _ _ 65535 (by omega) (by omega)]
    simp only
    rw [if_pos (by omega)]
  · rw [if_neg h3, if_neg h3]; exact ⟨rfl, by decide⟩

theorem when_read (r : RawR) : readMinP (whenT r) = some (minOf r) ∧ ∀ c ∈ whenT r, fieldB c = true := by
  unfold whenT minOf
  have h1 := pickN_lt r.beg (n := 10080) (by decide)
  have h2 := pickN_lt r.fin (n := 10080) (by decide)
  by_cases h3 : r.beg.tmod 3 ≠ 0
  · rw [if_pos h3, if_pos h3]
    refine ⟨?_, fun c hc => mem_span hc⟩
    unfold readMinP
    have e1 : digits (pickN r.beg 10080) ++ [45] ++ digits (pickN r.fin 10080) ≠ [42] := by rw [List.append_assoc]; exact digits_ne _ 42 (by decide) _
    rw [if_neg e1, span_digits _ _ 10079 (by omega) (by omega)]
  · rw [if_neg h3, if_neg h3]; exact ⟨rfl, by decide⟩

theorem field_not {l : List UInt8} {x : UInt8} (h : ∀ c ∈ l, fieldB c = true) (hx : fieldB x = false) : x ∉ l := fun hm => by rw [h x hm] at hx; cases hx

theorem line_read (r : RawR) : readRule (lineT r) = some (ruleOf r) := by
  obtain ⟨a1, a2⟩ := says_read r
  obtain ⟨b1, b2⟩ := who_read r
  obtain ⟨c1, c2⟩ := where_read r
  obtain ⟨d1, d2⟩ := port_read r
  obtain ⟨e1, e2⟩ := when_read r
  have hp : parts 32 (lineT r) = [saysT r, whoT r, whereT r, portT r, whenT r] := by
    unfold lineT
    rw [parts_first (field_not a2 (by decide)), parts_first (field_not b2 (by decide)), parts_first (field_not c2 (by decide)), parts_first (field_not d2 (by decide)), parts_alone (field_not e2 (by decide))]
  unfold readRule
  rw [hp]
  simp only [a1, b1, c1, d1, e1]
  rfl
theorem line_bytes (r : RawR) : ∀ c ∈ lineT r, fieldB c = true ∨ c = 32 := by
  intro c hc
  unfold lineT at hc
  simp only [List.mem_append, List.mem_cons] at hc
  rcases hc with hc | hc | hc | hc | hc | hc | hc | hc | hc
  · exact .inl ((says_read r).2 c hc)
  · exact .inr hc
  · exact .inl ((who_read r).2 c hc)
  · exact .inr hc
  · exact .inl ((where_read r).2 c hc)
  · exact .inr hc
  · exact .inl ((port_read r).2 c hc)
  · exact .inr hc
  · exact .inl ((when_read r).2 c hc)
theorem line_no10 (r : RawR) : (10 : UInt8) ∉ lineT r := fun hm => by
  rcases line_bytes r _ hm with h | h <;> exact absurd h (by decide)
theorem line_ne (r : RawR) : lineT r ≠ [] := by unfold lineT; simp
end Go.Proofs.YtdmaffciijmdcaaDoor.Plain

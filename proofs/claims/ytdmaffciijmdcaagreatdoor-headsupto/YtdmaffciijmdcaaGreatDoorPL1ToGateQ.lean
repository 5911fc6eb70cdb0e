/-
  The laws' world: gateways, the document's gateways, the book and its lists, side by side in memory.
-/
import Derived.Test.YtdmaffciijmdcaaGreatDoorLW6ToLW7
import Derived.Test.YtdmaffciijmdcaaGreatDoorRG20ToLW1
import Derived.Test.YtdmaffciijmdcaaGreatDoorGateVToGate10
import Derived.Test.YtdmaffciijmdcaaGreatDoorGate12ToGateL
namespace Go.Proofs.YtdmaffciijmdcaaGreatDoor
open Go.RowKit Plain

/-- Whose a block is: one of the i-th gateway's (the program's, or the document's), one of the book's, one of a list that came out. -/
inductive Lb where
  | co (c : Bool) (i : Nat) (k : Kd)
  | bk (n : Nat)
  | held
abbrev Lbl := Nat → Option Lb
def Lbl.pj (o : Lbl) (c : Bool) (i : Nat) : Rl := fun b => match o b with
  | some (.co c' i' k) => if c' = c ∧ i' = i then some k else none
  | _ => none
theorem pj_some {o : Lbl} {c : Bool} {i b : Nat} {k : Kd} : o.pj c i b = some k ↔ o b = some (.co c i k) := by
  unfold Lbl.pj
  cases h : o b with
  | none => simp
  | some x =>
    cases x with
    | co c' i' k' =>
      by_cases e : c' = c ∧ i' = i
      · simp [e]
      · simp only [if_neg e]
        constructor
        · intro h; cases h
        · intro h; injection h with h; injection h with h1 h2 h3; exact absurd ⟨h1, h2⟩ e
    | bk n => simp
    | held => simp
theorem pj_ne {o : Lbl} {c : Bool} {i b : Nat} (h : o.pj c i b ≠ none) : ∃ k, o b = some (.co c i k) := by
  cases hx : o.pj c i b with
  | none => exact absurd hx h
  | some k => exact ⟨k, pj_some.1 hx⟩
theorem pj_none {o : Lbl} {c : Bool} {i b : Nat} (h : ∀ k, o b ≠ some (.co c i k)) : o.pj c i b = none := by
  cases hx : o.pj c i b with
  | none => rfl
  | some k => exact absurd (pj_some.1 hx) (h k)

/-- One component has other blocks now. -/
def Lbl.put (o : Lbl) (c : Bool) (i : Nat) (r' : Rl) : Lbl := fun b => match r' b with
  | some k => some (.co c i k)
  | none => o b
structure Turned (o : Lbl) (c : Bool) (i : Nat) (r' : Rl) (w w' : World) : Prop where
  lab : ∀ b ℓ, (∀ k, ℓ ≠ .co c i k) → (o.put c i r' b = some ℓ ↔ o b = some ℓ)
  same : ∀ b ℓ, (∀ k, ℓ ≠ .co c i k) → o b = some ℓ → SameAt w w' b
  own : (o.put c i r').pj c i = r'
  other : ∀ c' i', (c' ≠ c ∨ i' ≠ i) → (o.put c i r').pj c' i' = o.pj c' i'
  free : ∀ b, b < w.heap.size → o b = none → o.put c i r' b = none ∧ SameAt w w' b
theorem turned {o : Lbl} {c : Bool} {i : Nat} {r' : Rl} {w w' : World} (hlt : ∀ b, o b ≠ none → b < w.heap.size) (gr : Grows (o.pj c i) w r') (fr : Fr (o.pj c i) w w') : Turned o c i r' w w' := by
  have key : ∀ b ℓ, (∀ k, ℓ ≠ Lb.co c i k) → o b = some ℓ → r' b = none ∧ o.pj c i b = none := fun b ℓ hl hb => by
    have h2 : o.pj c i b = none := pj_none fun k e => by rw [hb] at e; injection e with e; exact hl k e
    refine ⟨?_, h2⟩
    cases hx : r' b with
    | none => rfl
    | some x =>
      rcases gr.1 b (by rw [hx]; simp) with h1 | h1
      · exact absurd h2 h1
      · have := hlt b (by rw [hb]; simp)
        omega
  have lab : ∀ b ℓ, (∀ k, ℓ ≠ Lb.co c i k) → (o.put c i r' b = some ℓ ↔ o b = some ℓ) := fun b ℓ hl => by
    constructor
    · intro h
      unfold Lbl.put at h
      split at h
      · injection h with h; exact absurd h.symm (hl _)
      · exact h
    · intro h
      unfold Lbl.put
      rw [(key b ℓ hl h).1]
      exact h
  refine ⟨lab, fun b ℓ hl hb => fr.block b (hlt b (by rw [hb]; simp)) (key b ℓ hl hb).2, ?_, fun c' i' hne => ?_, fun b hb hn => ?_⟩
  · funext b
    cases hx : r' b with
    | some k => rw [pj_some]; unfold Lbl.put; rw [hx]
    | none =>
      refine pj_none fun k e => ?_
      unfold Lbl.put at e
      rw [hx] at e
      have := gr.2 b (by rw [pj_some.2 e]; simp)
      exact this hx
  · funext b
    have hl : ∀ k' k, Lb.co c' i' k' ≠ .co c i k := fun k' k e => by
      injection e with e1 e2 _
      rcases hne with h | h
      · exact h e1
      · exact h e2
    cases hx : o.pj c' i' b with
    | some k => rw [pj_some, lab b _ (hl k)]; exact pj_some.1 hx
    | none =>
      refine pj_none fun k e => ?_
      rw [lab b _ (hl k)] at e
      rw [pj_some.2 e] at hx
      cases hx
  · have h2 : o.pj c i b = none := pj_none fun k e => by rw [hn] at e; cases e
    refine ⟨?_, fr.block b hb h2⟩
    unfold Lbl.put
    cases hx : r' b with
    | none => exact hn
    | some x =>
      rcases gr.1 b (by rw [hx]; simp) with h1 | h1
      · exact absurd h2 h1
      · omega

/-- The book in memory. -/
structure Bk (w0 w : World) (o : Lbl) (wb : Nat) (gbs rbs : List Nat) (vals : List Value) : Prop where
  wbl : o wb = some (.bk 0)
  fz : ∀ p, w.frozen? ⟨wb, p, none⟩ = false
  c0 : ∃ v, w.cell? ⟨wb, 0, none⟩ = some v ∧ w.ownsRow w0.heap.size 30 1 v gbs.length (gbs.map ptr) ∧ ∀ k, v.ownBlock = some k → o k = some (.bk 1)
  c1 : ∃ v, w.cell? ⟨wb, 1, none⟩ = some v ∧ w.ownsRow w0.heap.size 76 1 v rbs.length (rbs.map ptr) ∧ ∀ k, v.ownBlock = some k → o k = some (.bk 2)
  c2 : ∃ v, w.cell? ⟨wb, 2, none⟩ = some v ∧ w.ownsRow w0.heap.size 41 1 v vals.length vals ∧ ∀ k, v.ownBlock = some k → o k = some (.bk 3)
  four : ∃ j, vals.length = 4 * j
  held : ∀ i v, vals[i]? = some v → MarkAt w v (i / 4) ∧ ∀ k, v.ownBlock = some k → o k = some .held
theorem Bk.same {w0 w w' : World} {o o' : Lbl} {wb : Nat} {gbs rbs : List Nat} {vals : List Value} (h : Bk w0 w o wb gbs rbs vals) (hs : ∀ b ℓ, (∀ c i k, ℓ ≠ .co c i k) → o b = some ℓ → o' b = some ℓ ∧ SameAt w w' b) : Bk w0 w' o' wb gbs rbs vals := by
  have sb := hs wb _ (by intro c i k e; cases e) h.wbl
  obtain ⟨v0, a1, a2, a3⟩ := h.c0
  obtain ⟨v1, b1, b2, b3⟩ := h.c1
  obtain ⟨v2, d1, d2, d3⟩ := h.c2
  have H : ∀ n b, o b = some (.bk n) → o' b = some (.bk n) ∧ SameAt w w' b := fun n b hb => hs b _ (by intro c i k e; cases e) hb
  refine ⟨sb.1, fun p => by rw [sb.2.frozen]; exact h.fz p, ⟨v0, by rw [sb.2.cell]; exact a1, owns_same a2 fun k hk => (H 1 k (a3 k hk)).2, fun k hk => (H 1 k (a3 k hk)).1⟩, ⟨v1, by rw [sb.2.cell]; exact b1, owns_same b2 fun k hk => (H 2 k (b3 k hk)).2, fun k hk => (H 2 k (b3 k hk)).1⟩, ⟨v2, by rw [sb.2.cell]; exact d1, owns_same d2 fun k hk => (H 3 k (d3 k hk)).2, fun k hk => (H 3 k (d3 k hk)).1⟩, h.four, fun i v hv => ?_⟩
  obtain ⟨m1, m2⟩ := h.held i v hv
  have K : ∀ k, v.ownBlock = some k → o' k = some .held ∧ SameAt w w' k := fun k hk => hs k _ (by intro c i k e; cases e) (m2 k hk)
  exact ⟨m1.same fun k hk => (K k hk).2, fun k hk => (K k hk).1⟩

/-- A gateway of the program's, one of the document's, and what each is. -/
structure GG where
  gb : Nat
  rb : Nat
  G : GateS
  R : GateS
structure Pl (w0 w : World) (o : Lbl) (wb : Nat) (L : List GG) (vals : List Value) : Prop where
  q : Q w0 w
  lt : ∀ b, o b ≠ none → b < w.heap.size ∧ w0.heap.size ≤ b
  gw : ∀ i x, L[i]? = some x → GwRep (o.pj false i) w0.heap.size w x.gb x.G
  rg : ∀ i x, L[i]? = some x → RGwRep (o.pj true i) w0.heap.size w x.rb x.R
  only : ∀ b c i k, o b = some (.co c i k) → i < L.length
  bk : Bk w0 w o wb (L.map (·.gb)) (L.map (·.rb)) vals
/-- Nothing of it has been turned. -/
theorem Pl.same {w0 w w' : World} {o : Lbl} {wb : Nat} {L : List GG} {vals : List Value} (h : Pl w0 w o wb L vals) (hq : Q w0 w') (hz : w.heap.size ≤ w'.heap.size) (hs : ∀ b, o b ≠ none → SameAt w w' b) : Pl w0 w' o wb L vals :=
  ⟨hq, fun b hb => ⟨Nat.lt_of_lt_of_le (h.lt b hb).1 hz, (h.lt b hb).2⟩, fun i x hx => (h.gw i x hx).same (fun b hb => by obtain ⟨k, hk⟩ := pj_ne hb; exact hs b (by rw [hk]; simp)) hz, fun i x hx => (h.rg i x hx).same (fun b hb => by obtain ⟨k, hk⟩ := pj_ne hb; exact hs b (by rw [hk]; simp)) hz, h.only, h.bk.same fun b ℓ _ hb => ⟨hb, hs b (by rw [hb]; simp)⟩⟩
theorem Pl.stays {w0 w w' : World} {o : Lbl} {wb : Nat} {L : List GG} {vals : List Value} (h : Pl w0 w o wb L vals) (q : Q w w') : Pl w0 w' o wb L vals := h.same (h.q.trans q) q.size fun b hb => q.sameAt (h.lt b hb).1
/-- A row of blocks that are nobody's stays so. -/
theorem Q.ofFr {w0 w w' : World} {r : Rl} (q : Q w0 w) (f : Fr r w w') (hr : ∀ b, r b ≠ none → w0.heap.size ≤ b) : Q w0 w' :=
  Below.trans q ⟨f.os, f.tape, f.output, f.size, fun k hk => f.block k (Nat.lt_of_lt_of_le hk q.size) (by
    cases hx : r k with
    | none => rfl
    | some x =>
      have := hr k (by rw [hx]; simp)
      omega)⟩
/-- A step on a gateway of the program's. -/
theorem Pl.gstep {w0 w w' : World} {o : Lbl} {wb : Nat} {L : List GG} {vals : List Value} (h : Pl w0 w o wb L vals) {i : Nat} {x : GG} (hi : L[i]? = some x) {r' : Rl} {G' : GateS} (hs : GwStep (o.pj false i) w0.heap.size w x.gb r' w' G') :
    Pl w0 w' (o.put false i r') wb (L.set i { x with G := G' }) vals ∧ Turned o false i r' w w' := by
  have ht := turned (fun b hb => (h.lt b hb).1) hs.gr hs.fr
  have hil : i < L.length := (List.getElem?_eq_some_iff.1 hi).1
  have hlow : ∀ b, o.pj false i b ≠ none → w0.heap.size ≤ b := fun b hb => (h.gw i x hi).low b hb
  refine ⟨⟨h.q.ofFr hs.fr hlow, fun b hb => ?_, fun k y hy => ?_, fun k y hy => ?_, fun b c k kd hb => ?_, ?_⟩, ht⟩
  · cases hx : r' b with
    | some k => exact ⟨hs.rep.lt b (by rw [hx]; simp), hs.rep.low b (by rw [hx]; simp)⟩
    | none =>
      have : o b ≠ none := by unfold Lbl.put at hb; rw [hx] at hb; exact hb
      exact ⟨Nat.lt_of_lt_of_le (h.lt b this).1 hs.fr.size, (h.lt b this).2⟩
  · by_cases hk : k = i
    · subst hk
      rw [List.getElem?_set_self hil] at hy
      cases hy
      rw [ht.own]
      exact hs.rep
    · rw [List.getElem?_set_ne (Ne.symm hk)] at hy
      rw [ht.other false k (.inr hk)]
      exact (h.gw k y hy).same (fun b hb => by obtain ⟨kd, hkd⟩ := pj_ne hb; exact ht.same b _ (by intro k' e; injection e with _ e2 _; exact hk e2) hkd) hs.fr.size
  · have hy' : ∃ y0, L[k]? = some y0 ∧ y0.rb = y.rb ∧ y0.R = y.R := by
      by_cases hk : k = i
      · subst hk
        rw [List.getElem?_set_self hil] at hy
        cases hy
        exact ⟨x, hi, rfl, rfl⟩
      · rw [List.getElem?_set_ne (Ne.symm hk)] at hy
        exact ⟨y, hy, rfl, rfl⟩
    obtain ⟨y0, h1, h2, h3⟩ := hy'
    rw [ht.other true k (.inl (by decide)), ← h2, ← h3]
    exact (h.rg k y0 h1).same (fun b hb => by obtain ⟨kd, hkd⟩ := pj_ne hb; exact ht.same b _ (by intro k' e; injection e with e1 _ _; cases e1) hkd) hs.fr.size
  · rw [List.length_set]
    cases hx : r' b with
    | some kk =>
      unfold Lbl.put at hb
      rw [hx] at hb
      injection hb with hb
      injection hb with _ e2 _
      omega
    | none =>
      unfold Lbl.put at hb
      rw [hx] at hb
      exact h.only b c k kd hb
  · have e1 : (L.set i { x with G := G' }).map (·.gb) = L.map (·.gb) := by
      rw [List.map_set]
      apply List.ext_getElem?
      intro n
      by_cases hn : n = i
      · subst hn
        rw [List.getElem?_set_self (by simpa using hil), List.getElem?_map, hi]; rfl
      · rw [List.getElem?_set_ne (Ne.symm hn)]
    have e2 : (L.set i { x with G := G' }).map (·.rb) = L.map (·.rb) := by
      rw [List.map_set]
      apply List.ext_getElem?
      intro n
      by_cases hn : n = i
      · subst hn
        rw [List.getElem?_set_self (by simpa using hil), List.getElem?_map, hi]; rfl
      · rw [List.getElem?_set_ne (Ne.symm hn)]
    rw [e1, e2]
    exact h.bk.same fun b ℓ hl hb => ⟨(ht.lab b ℓ (hl false i)).2 hb, ht.same b ℓ (hl false i) hb⟩
/-- A step on a gateway of the document's. -/
theorem Pl.rstep {w0 w w' : World} {o : Lbl} {wb : Nat} {L : List GG} {vals : List Value} (h : Pl w0 w o wb L vals) {i : Nat} {x : GG} (hi : L[i]? = some x) {r' : Rl} {G' : GateS} (hs : RGwStep (o.pj true i) w0.heap.size w x.rb r' w' G') :
    Pl w0 w' (o.put true i r') wb (L.set i { x with R := G' }) vals ∧ Turned o true i r' w w' := by
  have ht := turned (fun b hb => (h.lt b hb).1) hs.gr hs.fr
  have hil : i < L.length := (List.getElem?_eq_some_iff.1 hi).1
  have hlow : ∀ b, o.pj true i b ≠ none → w0.heap.size ≤ b := fun b hb => (h.rg i x hi).low b hb
  refine ⟨⟨h.q.ofFr hs.fr hlow, fun b hb => ?_, fun k y hy => ?_, fun k y hy => ?_, fun b c k kd hb => ?_, ?_⟩, ht⟩
  · cases hx : r' b with
    | some k => exact ⟨hs.rep.lt b (by rw [hx]; simp), hs.rep.low b (by rw [hx]; simp)⟩
    | none =>
      have : o b ≠ none := by unfold Lbl.put at hb; rw [hx] at hb; exact hb
      exact ⟨Nat.lt_of_lt_of_le (h.lt b this).1 hs.fr.size, (h.lt b this).2⟩
  · have hy' : ∃ y0, L[k]? = some y0 ∧ y0.gb = y.gb ∧ y0.G = y.G := by
      by_cases hk : k = i
      · subst hk
        rw [List.getElem?_set_self hil] at hy
        cases hy
        exact ⟨x, hi, rfl, rfl⟩
      · rw [List.getElem?_set_ne (Ne.symm hk)] at hy
        exact ⟨y, hy, rfl, rfl⟩
    obtain ⟨y0, h1, h2, h3⟩ := hy'
    rw [ht.other false k (.inl (by decide)), ← h2, ← h3]
    exact (h.gw k y0 h1).same (fun b hb => by obtain ⟨kd, hkd⟩ := pj_ne hb; exact ht.same b _ (by intro k' e; injection e with e1 _ _; cases e1) hkd) hs.fr.size
  · by_cases hk : k = i
    · subst hk
      rw [List.getElem?_set_self hil] at hy
      cases hy
      rw [ht.own]
      exact hs.rep
    · rw [List.getElem?_set_ne (Ne.symm hk)] at hy
      rw [ht.other true k (.inr hk)]
      exact (h.rg k y hy).same (fun b hb => by obtain ⟨kd, hkd⟩ := pj_ne hb; exact ht.same b _ (by intro k' e; injection e with _ e2 _; exact hk e2) hkd) hs.fr.size
  · rw [List.length_set]
    cases hx : r' b with
    | some kk =>
      unfold Lbl.put at hb
      rw [hx] at hb
      injection hb with hb
      injection hb with _ e2 _
      omega
    | none =>
      unfold Lbl.put at hb
      rw [hx] at hb
      exact h.only b c k kd hb
  · have e1 : (L.set i { x with R := G' }).map (·.gb) = L.map (·.gb) := by
      rw [List.map_set]
      apply List.ext_getElem?
      intro n
      by_cases hn : n = i
      · subst hn
        rw [List.getElem?_set_self (by simpa using hil), List.getElem?_map, hi]; rfl
      · rw [List.getElem?_set_ne (Ne.symm hn)]
    have e2 : (L.set i { x with R := G' }).map (·.rb) = L.map (·.rb) := by
      rw [List.map_set]
      apply List.ext_getElem?
      intro n
      by_cases hn : n = i
      · subst hn
        rw [List.getElem?_set_self (by simpa using hil), List.getElem?_map, hi]; rfl
      · rw [List.getElem?_set_ne (Ne.symm hn)]
    rw [e1, e2]
    exact h.bk.same fun b ℓ hl hb => ⟨(ht.lab b ℓ (hl true i)).2 hb, ht.same b ℓ (hl true i) hb⟩
end Go.Proofs.YtdmaffciijmdcaaGreatDoor
/-
  The laws' world: a list that came out is kept; events.
-/
namespace Go.Proofs.YtdmaffciijmdcaaGreatDoor
open Go.RowKit Plain

theorem Pl.kept {w0 w w' : World} {o : Lbl} {wb : Nat} {L : List GG} {vals : List Value} {hv v hx a b c : Value} {j : Nat} (h : Pl w0 w o wb L vals) (hj : vals.length = 4 * j) (hvl : ∀ k, hv.ownBlock = some k → o k = some (.bk 3)) (hvo : ∀ k, v.ownBlock = some k → o k = none ∧ w0.heap.size ≤ k ∧ k < w.heap.size) (hk : KInv w w' w0.heap.size wb hv v hx (vals ++ [v, a, b, c]) [v, a, b, c] j) :
    ∃ o', Pl w0 w' o' wb L (vals ++ [v, a, b, c]) := by
  have hol := owns_lt hk.own
  obtain ⟨o', ho'⟩ : ∃ o' : Lbl, o' = fun k => if hx.ownBlock = some k then some (.bk 3) else if v.ownBlock = some k ∨ a.ownBlock = some k ∨ b.ownBlock = some k ∨ c.ownBlock = some k then some .held else o k := ⟨_, rfl⟩
  have ymem : ∀ k, (v.ownBlock = some k ∨ a.ownBlock = some k ∨ b.ownBlock = some k ∨ c.ownBlock = some k) → (v.ownBlock = some k ∨ w.heap.size ≤ k) ∧ k < w'.heap.size ∧ hx.ownBlock ≠ some k ∧ k ≠ wb := fun k hy => by
    rcases hy with hy | hy | hy | hy
    · exact hk.bl v (by simp) k hy
    · exact hk.bl a (by simp) k hy
    · exact hk.bl b (by simp) k hy
    · exact hk.bl c (by simp) k hy
  have fresh : ∀ k, w.heap.size ≤ k → o k = none := fun k hkk => by
    cases hx : o k with
    | none => rfl
    | some y => have := (h.lt k (by rw [hx]; simp)).1; omega
  have yfree : ∀ k, (v.ownBlock = some k ∨ a.ownBlock = some k ∨ b.ownBlock = some k ∨ c.ownBlock = some k) → o k = none := fun k hy => by
    rcases (ymem k hy).1 with h1 | h1
    · exact (hvo k h1).1
    · exact fresh k h1
  have hxl : ∀ k, hx.ownBlock = some k → o k = some (.bk 3) ∨ o k = none := fun k hh => by
    rcases (hk.hb k hh).1 with h1 | h1
    · exact .inl (hvl k h1)
    · exact .inr (fresh k h1)
  have keep : ∀ k ℓ, o k = some ℓ → ℓ ≠ .bk 3 → o' k = some ℓ := fun k ℓ hl hne => by
    rw [ho']
    dsimp only
    rw [if_neg (fun e => by rcases hxl k e with h1 | h1 <;> rw [hl] at h1 <;> cases h1; exact hne rfl), if_neg (fun e => by rw [yfree k e] at hl; cases hl)]
    exact hl
  have back : ∀ k ℓ, o' k = some ℓ → ℓ ≠ .bk 3 → ℓ ≠ .held → o k = some ℓ := fun k ℓ hl h3 h4 => by
    rw [ho'] at hl
    dsimp only at hl
    split at hl
    · injection hl with hl; exact absurd hl.symm h3
    · split at hl
      · injection hl with hl; exact absurd hl.symm h4
      · exact hl
  have sm : ∀ k ℓ, o k = some ℓ → ℓ ≠ .bk 3 → ℓ ≠ .bk 0 → SameAt w w' k := fun k ℓ hl h3 h0 => by
    refine hk.block k (h.lt k (by rw [hl]; simp)).1 (fun e => ?_) (fun e => ?_) (fun e => ?_)
    · rw [e, h.bk.wbl] at hl; injection hl with hl; exact h0 hl.symm
    · rw [hvl k e] at hl; injection hl with hl; exact h3 hl.symm
    · rw [(hvo k e).1] at hl; cases hl
  have pjs : ∀ cc i, o'.pj cc i = o.pj cc i := fun cc i => by
    funext k
    cases hx : o.pj cc i k with
    | some kd => rw [pj_some]; exact keep k _ (pj_some.1 hx) (by intro e; cases e)
    | none =>
      refine pj_none fun kd e => ?_
      rw [pj_some.2 (back k _ e (by intro e; cases e) (by intro e; cases e))] at hx
      cases hx
  have hq : Q w0 w' := Below.trans h.q ⟨hk.os, hk.tape, hk.output, hk.size, fun k hkk => hk.block k (Nat.lt_of_lt_of_le hkk h.q.size) (fun e => by have := (h.lt wb (by rw [h.bk.wbl]; simp)).2; omega) (fun e => by have := (h.lt k (by rw [hvl k e]; simp)).2; omega) (fun e => by have := (hvo k e).2.1; omega)⟩
  have gsame : ∀ cc i k, o.pj cc i k ≠ none → SameAt w w' k := fun cc i k hkk => by
    obtain ⟨kd, e⟩ := pj_ne hkk
    exact sm k _ e (by intro e; cases e) (by intro e; cases e)
  refine ⟨o', hq, fun k hkk => ?_, fun i x hx => by rw [pjs]; exact (h.gw i x hx).same (gsame false i) hk.size, fun i x hx => by rw [pjs]; exact (h.rg i x hx).same (gsame true i) hk.size, fun k cc i kd e => h.only k cc i kd (back k _ e (by intro e; cases e) (by intro e; cases e)), ?_⟩
  · by_cases h1 : hx.ownBlock = some k
    · have := hol k h1; exact ⟨this.2, this.1⟩
    · by_cases h2 : v.ownBlock = some k ∨ a.ownBlock = some k ∨ b.ownBlock = some k ∨ c.ownBlock = some k
      · have h3 := ymem k h2
        refine ⟨h3.2.1, ?_⟩
        rcases h3.1 with h4 | h4
        · exact (hvo k h4).2.1
        · have := h.q.size; omega
      · have h3 : o k ≠ none := by
          rw [ho'] at hkk
          dsimp only at hkk
          rw [if_neg h1, if_neg h2] at hkk
          exact hkk
        exact ⟨Nat.lt_of_lt_of_le (h.lt k h3).1 hk.size, (h.lt k h3).2⟩
  · obtain ⟨v0, a1, a2, a3⟩ := h.bk.c0
    obtain ⟨v1, b1, b2, b3⟩ := h.bk.c1
    refine ⟨keep wb _ h.bk.wbl (by intro e; cases e), fun p => by rw [hk.fz]; exact h.bk.fz p, ⟨v0, by rw [hk.wbc 0 (by decide)]; exact a1, owns_same a2 fun k hkk => sm k _ (a3 k hkk) (by intro e; cases e) (by intro e; cases e), fun k hkk => keep k _ (a3 k hkk) (by intro e; cases e)⟩, ⟨v1, by rw [hk.wbc 1 (by decide)]; exact b1, owns_same b2 fun k hkk => sm k _ (b3 k hkk) (by intro e; cases e) (by intro e; cases e), fun k hkk => keep k _ (b3 k hkk) (by intro e; cases e)⟩, ⟨hx, hk.cell, hk.own, fun k hkk => by rw [ho']; dsimp only; rw [if_pos hkk]⟩, ⟨j + 1, by rw [List.length_append, hj]; simp; omega⟩, fun i y hy => ?_⟩
    by_cases hi : i < vals.length
    · rw [List.getElem?_append_left hi] at hy
      obtain ⟨m1, m2⟩ := h.bk.held i y hy
      exact ⟨m1.same fun k hkk => sm k _ (m2 k hkk) (by intro e; cases e) (by intro e; cases e), fun k hkk => keep k _ (m2 k hkk) (by intro e; cases e)⟩
    · rw [List.getElem?_append_right (by omega)] at hy
      have hlt := (List.getElem?_eq_some_iff.1 hy).1
      have hlt4 : i - vals.length < 4 := hlt
      have hm := List.mem_of_getElem? hy
      rw [show i / 4 = j by omega]
      refine ⟨hk.mrk y hm, fun k hkk => ?_⟩
      have hor : v.ownBlock = some k ∨ a.ownBlock = some k ∨ b.ownBlock = some k ∨ c.ownBlock = some k := by
        simp only [List.mem_cons, List.not_mem_nil, or_false] at hm
        rcases hm with rfl | rfl | rfl | rfl
        · exact .inl hkk
        · exact .inr (.inl hkk)
        · exact .inr (.inr (.inl hkk))
        · exact .inr (.inr (.inr hkk))
      rw [ho']
      dsimp only
      rw [if_neg (ymem k hor).2.2.1, if_pos hor]

/-- A list that is nobody's yet. -/
def FreeRow (w0 w : World) (o : Lbl) (v : Value) (l : List EvS) : Prop := w.ownsRow w0.heap.size 48 4 v l.length (evVals l) ∧ ∀ k, v.ownBlock = some k → o k = none

set_option maxRecDepth 100000 in
set_option maxHeartbeats 400000 in
theorem num_any (n : Int) (w : World) : Calls Tryz.prog 68 #[.int .i64 n] w fun e w' => e = .returned (.int .i64 n) ∧ w' = w := by
  go_enter Tryz.func68, Tryz.ntmps68
  go_wp2_with fail
  go_ret
  exact ⟨rfl, rfl⟩

set_option maxRecDepth 100000 in
set_option maxHeartbeats 1600000 in
theorem events_any {w0 w : World} {o : Lbl} {wb : Nat} {L : List GG} {vals : List Value} (h : Pl w0 w o wb L vals) (hvl : vals.length ≤ 4194800) (a b : Value) (l : List EvS) (hl : l.length ≤ 900) (ha : FreeRow w0 w o a l) (hb : EvAt w b l) (n : Int) :
    Calls Tryz.prog 70 #[ptr wb, a, .int .i64 n, b, .int .i64 n] w fun e w' => e = .returned (.bool true) ∧ ∃ o' vals', Pl w0 w' o' wb L vals' ∧ vals'.length = vals.length + 4 := by
  have HS := show Hid _ from same_any a b l w (EvAt.own ha.1) hb (by omega)
  have HK : ∀ x, Q w x → Hid (Calls Tryz.prog 102 #[ptr wb, a] x fun e w' => e = .returned (.tuple #[]) ∧ ∃ o' vals', Pl w0 w' o' wb L vals' ∧ vals'.length = vals.length + 4) := fun x q => by
    obtain ⟨j, hj⟩ := h.bk.four
    have hp := h.stays q
    obtain ⟨hv, c1, c2, c3⟩ := hp.bk.c2
    have hal := owns_lt ha.1
    refine (keep_any w0.heap.size wb hv vals a l j x c1 c2 (hp.bk.fz 2) hj (by omega) (owns_Q ha.1 q) hl (fun e => ?_) (fun e => ?_) (fun k e1 e2 => ?_) hp.q.size).mono ?_
    · have := ha.2 wb e; rw [h.bk.wbl] at this; cases this
    · have := c3 wb e; rw [h.bk.wbl] at this; cases this
    · have h1 := c3 k e1; rw [ha.2 k e2] at h1; cases h1
    · rintro e w' ⟨rfl, hx, a', b', c', hk⟩
      obtain ⟨o', ho'⟩ := hp.kept hj c3 (fun k hk => ⟨ha.2 k hk, (hal k hk).1, Nat.lt_of_lt_of_le (hal k hk).2 q.size⟩) hk
      exact ⟨rfl, o', _, ho', by simp⟩
  obtain ⟨ao, ac, rfl⟩ := slice_form ha.1
  obtain ⟨bo, bc, rfl, _⟩ := hb
  clear h ha
  generalize l.length = ln at *
  go_enter Tryz.func70, Tryz.ntmps70
  go_wp2_with fail
  refine Calls.mono (Hid.out HS) ?_
  rintro e w1 ⟨rfl, hq1⟩
  have HK1 := HK w1 hq1
  clear HS HK
  go_wp2_with fail
  refine Calls.mono (Hid.out HK1) ?_
  rintro e w2 ⟨rfl, hx⟩
  have HX := show Hid _ from hx
  have HN := show Hid _ from num_any n w2
  clear HK1 hx
  go_wp2_with fail
  refine Calls.mono (Hid.out HN) ?_
  rintro e w3 ⟨rfl, hw3⟩
  rw [hw3]
  clear hw3 HN
  go_wp2_with fail
  go_ret
  exact ⟨by simp, HX.out⟩
end Go.Proofs.YtdmaffciijmdcaaGreatDoor
/-
  Plain: what stays of a gateway through a client's bytes.
-/
namespace Go.Proofs.YtdmaffciijmdcaaGreatDoor
open Go.RowKit Plain

theorem nums_nodup {l : List ConnS} (h : ∀ (i j : Nat) (c d : ConnS), l[i]? = some c → l[j]? = some d → c.num = d.num → i = j) : (l.map (·.num)).Nodup := by
  rw [List.Nodup, List.pairwise_iff_getElem]
  intro i j hi hj hij e
  simp only [List.length_map] at hi hj
  simp only [List.getElem_map] at e
  have := h i j _ _ (List.getElem?_eq_getElem hi) (List.getElem?_eq_getElem hj) e
  omega
theorem nodup_nums {l : List ConnS} (h : (l.map (·.num)).Nodup) (i j : Nat) (c d : ConnS) (hi : l[i]? = some c) (hj : l[j]? = some d) (e : c.num = d.num) : i = j := by
  rw [List.Nodup, List.pairwise_iff_getElem] at h
  obtain ⟨li, rfl⟩ := List.getElem?_eq_some_iff.1 hi
  obtain ⟨lj, rfl⟩ := List.getElem?_eq_some_iff.1 hj
  rcases Nat.lt_trichotomy i j with h1 | h1 | h1
  · exact absurd (show (l.map (·.num))[i]'(by simpa using li) = (l.map (·.num))[j]'(by simpa using lj) by rw [List.getElem_map, List.getElem_map]; exact e) (h i j (by simpa using li) (by simpa using lj) h1)
  · exact h1
  · exact absurd (show (l.map (·.num))[j]'(by simpa using lj) = (l.map (·.num))[i]'(by simpa using li) by rw [List.getElem_map, List.getElem_map]; exact e.symm) (h j i (by simpa using lj) (by simpa using li) h1)
theorem GOk.drop {g : GateS} (ok : GOk g) (n : Nat) : GOk (g.drop n) := by
  refine ⟨Nat.le_trans (List.length_filter_le _ _) ok.few, ok.tens, ?_, fun c hc => ok.past c (List.mem_filter.1 hc).1, ok.top⟩
  exact nodup_nums ((nums_nodup ok.nums).sublist ((List.filter_sublist).map _))
theorem answerS_ok {g : GateS} (ok : GOk g) {i : Nat} {c c' : ConnS} (hi : g.conns[i]? = some c') (hn : c.num = c'.num) (h : List UInt8) : GOk (answerS g i c h).1 := by
  unfold answerS
  split
  · exact ok.drop _
  · exact ok.upd hi hn
theorem upd_get {g : GateS} {i : Nat} {c d : ConnS} (hi : g.conns[i]? = some c) : (g.upd i d).conns[i]? = some d := by
  have hl : i < g.conns.length := (List.getElem?_eq_some_iff.1 hi).1
  simp [GateS.upd, hl]
theorem clientAt_ok {g : GateS} (ok : GOk g) {i : Nat} {c : ConnS} (hi : g.conns[i]? = some c) (s : List UInt8) : GOk (clientAt g i c s).1 := by
  unfold clientAt
  split
  · exact ok.upd hi rfl
  · split
    · exact ok.upd hi rfl
    · split
      · exact ok.upd hi rfl
      · rename_i hd rest _
        exact answerS_ok (c' := { c with silent := 0, wait := rest }) (ok.upd (c' := { c with silent := 0, wait := rest }) hi rfl) (upd_get hi) rfl _
theorem sendS_len (k n : Int) (s : List UInt8) : (sendS k n s).length ≤ 1 := by unfold sendS; split <;> simp
theorem answerS_len (g : GateS) (i : Nat) (c : ConnS) (h : List UInt8) : (answerS g i c h).2.length ≤ 2 := by
  unfold answerS
  split
  · rename_i r _
    have := sendS_len 2 c.num r
    simp only [List.length_append, List.length_singleton]
    omega
  · simp
theorem clientAt_len (g : GateS) (i : Nat) (c : ConnS) (s : List UInt8) : (clientAt g i c s).2.length ≤ 2 := by
  unfold clientAt
  split
  · exact Nat.le_trans (sendS_len _ _ _) (by decide)
  · split
    · simp
    · split
      · simp
      · exact answerS_len _ _ _ _
theorem upd_mem {g : GateS} {i : Nat} {c d : ConnS} (h : d ∈ (g.upd i c).conns) : d ∈ g.conns ∨ d = c := List.mem_or_eq_of_mem_set h
theorem clientAt_waits {g : GateS} {i : Nat} {c : ConnS} (s : List UInt8) {d : ConnS} (h : d ∈ (clientAt g i c s).1.conns) : d ∈ g.conns ∨ d.wait.length ≤ c.wait.length + s.length := by
  have step : ∀ {c' : ConnS}, d ∈ (g.upd i c').conns → c'.wait.length ≤ c.wait.length + s.length → d ∈ g.conns ∨ d.wait.length ≤ c.wait.length + s.length := fun {c'} hd hc => by
    rcases upd_mem hd with h1 | h1
    · exact .inl h1
    · rw [h1]; exact .inr hc
  unfold clientAt at h
  split at h
  · exact step h (Nat.le_add_right _ _)
  · split at h
    · exact step h (by simp)
    · split at h
      · exact step h (by simp)
      · rename_i hd rest hcut
        have hl := (cut_lens hcut).2
        simp only [List.length_append] at hl
        unfold answerS at h
        split at h
        · exact step (List.mem_filter.1 h).1 hl
        · rw [upd_upd] at h
          exact step h hl
theorem clientAt_opens {g : GateS} {i : Nat} {c : ConnS} (s : List UInt8) (hc : c.noMore = false) (hg : ∀ d ∈ g.conns, d.noMore = false) : ∀ d ∈ (clientAt g i c s).1.conns, d.noMore = false := by
  intro d h
  have step : ∀ {c' : ConnS}, d ∈ (g.upd i c').conns → c'.noMore = false → d.noMore = false := fun {c'} hd hc => by
    rcases upd_mem hd with h1 | h1
    · exact hg d h1
    · rw [h1]; exact hc
  unfold clientAt at h
  split at h
  · exact step h hc
  · split at h
    · exact step h hc
    · split at h
      · exact step h hc
      · unfold answerS at h
        split at h
        · exact step (List.mem_filter.1 h).1 hc
        · rw [upd_upd] at h
          exact step h hc
theorem clientAt_last (g : GateS) (i : Nat) (c : ConnS) (s : List UInt8) : (clientAt g i c s).1.rules = g.rules ∧ (clientAt g i c s).1.tens = g.tens ∧ (clientAt g i c s).1.minute = g.minute ∧ (clientAt g i c s).1.last = g.last := by
  unfold clientAt
  split
  · exact ⟨rfl, rfl, rfl, rfl⟩
  · split
    · exact ⟨rfl, rfl, rfl, rfl⟩
    · split
      · exact ⟨rfl, rfl, rfl, rfl⟩
      · unfold answerS
        split
        · exact ⟨rfl, rfl, rfl, rfl⟩
        · exact ⟨rfl, rfl, rfl, rfl⟩
end Go.Proofs.YtdmaffciijmdcaaGreatDoor

/-
  What the rows share: numbers, a question, and a variable of the library's, opened.
-/
import Derived.Test.YtdmaffciijmdcaaGreatDoorRowCToHeads1
import Derived.Test.YtdmaffciijmdcaaGreatDoorGuardWC
import Derived.Lib.SmallJoins
import Derived.ChangeSlices
namespace Go.Proofs.YtdmaffciijmdcaaGreatDoor
open Go.ChangeShapes Go.WideShapes Go.ChangeAt Go.RowKit Plain

theorem spot_none {w : World} {a : Addr} {k : IntKind} {z : Int} (h : w.cell? a = some (.int k z)) : a.spot = none := by
  unfold World.cell? at h
  split at h
  · split at h
    · cases h
    · rename_i hn; simpa using hn
  · cases h

/-- The numbers that came in. -/
theorem ints_open {H : Type} {enc : TypeId × Value → H} {w : World} {v : Value} {d : DataW H} {ps : List MemPlace} (h : DataW.Trod enc Tryz.prog w 0 (fun _ => true) true 28 v d ps)
    (hv : ∃ a len cap, v = .slice a len cap) : ∃ l, IntsAt w v l := by
  obtain ⟨a0, len0, cap0, rfl⟩ := hv
  obtain ⟨fuel, hf⟩ := h
  have hf' : DataW.trod enc Tryz.prog w 0 (fun _ => true) true fuel 28 [.slice a0 len0 cap0] = some (d, ps) := hf
  rcases Go.ChangeShapes.open_ints Tryz.underlying28 Tryz.underlying3 (by kernel_rfl) hf' with ⟨hcs, _⟩ | ⟨a, len, cap, zs, hcs, _, hl, _, hz, _, hcell, hwf⟩
  · cases List.singleton_inj.1 hcs
    exact ⟨[], none, 0, rfl, fun i c hi => by simp at hi⟩
  · cases List.singleton_inj.1 hcs
    have hz' : zs.length = cap0 := by rw [hz]; simp
    refine ⟨zs.take len0, some a, cap0, ?_, fun i c hi => ?_⟩
    · rw [List.length_take, Nat.min_eq_left (by omega)]
    · rw [List.getElem?_take] at hi
      split at hi
      case isFalse => cases hi
      rename_i hil
      have hlt : i < zs.length := (List.getElem?_eq_some_iff.1 hi).1
      have hc := hcell i hlt
      rw [List.getD_eq_getElem?_getD, hi] at hc
      have hsp : a.spot = none := by
        have h0 := hcell 0 (by omega)
        exact spot_none (a := a) h0
      refine ⟨bounds_i64 (hwf c (List.mem_of_getElem? hi)), a.block, a.off, ?_, ?_⟩
      · obtain ⟨b, o, s⟩ := a
        simp only at hsp
        subst hsp
        rfl
      · have := add_add hsp 0 i
        rw [show a.add 0 = a from by unfold Addr.add; simp] at this
        rw [this] at hc
        simpa using hc

set_option maxRecDepth 100000 in
/-- The question that came in. -/
theorem ask_open {H : Type} {enc : TypeId × Value → H} {w : World} {r : Reach} {b0 : Nat} {v : Value} {d : DataW H} {ps : List MemPlace} (hv : Value.okWide Tryz.prog w r b0 27 v) (h : DataW.Trod enc Tryz.prog w 0 (fun _ => true) true 27 v d ps) :
    ∃ q, v = askV q ∧ AskOk q := by
  obtain ⟨v0, v1, v2, v3, y0, y1, y2, y3, n, rfl, _, _, h0, h1, h2, h3⟩ := Go.Joins.open_agg4 Tryz.underlying27 (by kernel_rfl) (by kernel_rfl) hv h
  obtain ⟨z0, e0, _, w0⟩ := DataW.trod_int Tryz.underlying3 h0
  obtain ⟨z1, e1, _, w1⟩ := DataW.trod_int Tryz.underlying3 h1
  obtain ⟨z2, e2, _, w2⟩ := DataW.trod_int Tryz.underlying3 h2
  obtain ⟨z3, e3, _, w3⟩ := DataW.trod_int Tryz.underlying3 h3
  cases List.singleton_inj.1 e0
  cases List.singleton_inj.1 e1
  cases List.singleton_inj.1 e2
  cases List.singleton_inj.1 e3
  exact ⟨⟨z0, z1, z2, z3⟩, rfl, bounds_i64 w0, bounds_i64 w1, bounds_i64 w2, bounds_i64 w3⟩

theorem ml_open {w : World} (h : w.ShapedOpen Tryz.prog) : ML w :=
  Go.Proofs.cell_of_shapedOpen_int (zero := #[.int .i64 0]) (t := 3) h (of_decide_eq_true (by kernel_rfl)) (by kernel_rfl) rfl (by kernel_rfl) (by kernel_rfl) Tryz.underlying3
end Go.Proofs.YtdmaffciijmdcaaGreatDoor
/-
  Several gateways, and lists of events that came out, side by side in memory.
-/
namespace Go.Proofs.YtdmaffciijmdcaaGreatDoor
open Go.RowKit Plain

/-- Whose a block is. -/
inductive Own where
  | gw (i : Nat) (k : Kd)
  | row (j : Nat)
abbrev Ow := Nat → Option Own
/-- The blocks of one gateway. -/
def Ow.pr (o : Ow) (i : Nat) : Rl := fun b => match o b with
  | some (.gw i' k) => if i' = i then some k else none
  | _ => none
theorem pr_some {o : Ow} {i b : Nat} {k : Kd} : o.pr i b = some k ↔ o b = some (.gw i k) := by
  unfold Ow.pr
  cases h : o b with
  | none => simp
  | some x =>
    cases x with
    | gw i' k' =>
      by_cases e : i' = i
      · simp [e]
      · simp [e]
    | row j => simp
theorem pr_ne {o : Ow} {i b : Nat} (h : o.pr i b ≠ none) : ∃ k, o b = some (.gw i k) := by
  cases hx : o.pr i b with
  | none => exact absurd hx h
  | some k => exact ⟨k, pr_some.1 hx⟩
theorem pr_none {o : Ow} {i b : Nat} (h : ∀ k, o b ≠ some (.gw i k)) : o.pr i b = none := by
  cases hx : o.pr i b with
  | none => rfl
  | some k => exact absurd (pr_some.1 hx) (h k)
/-- One place of a table. -/
def put {α : Type} (f : Nat → Option α) (i : Nat) (x : α) : Nat → Option α := fun j => if j = i then some x else f j
theorem put_at {α : Type} (f : Nat → Option α) (i : Nat) (x : α) : put f i x i = some x := by simp [put]
theorem put_ne {α : Type} (f : Nat → Option α) {i j : Nat} (x : α) (h : j ≠ i) : put f i x j = f j := by simp [put, h]

structure Hold (w0 w : World) (o : Ow) (gws : Nat → Option (Nat × GateS)) (rows : Nat → Option (Value × List EvS)) : Prop where
  q : Q w0 w
  lt : ∀ b, o b ≠ none → b < w.heap.size ∧ w0.heap.size ≤ b
  gw : ∀ i x, gws i = some x → GwRep (o.pr i) w0.heap.size w x.1 x.2
  row : ∀ j x, rows j = some x → w.ownsRow w0.heap.size 48 4 x.1 x.2.length (evVals x.2) ∧ ∀ k, x.1.ownBlock = some k → o k = some (.row j)
  only : ∀ b i k, o b = some (.gw i k) → gws i ≠ none
theorem Hold.start {w0 w : World} (q : Q w0 w) : Hold w0 w (fun _ => none) (fun _ => none) (fun _ => none) :=
  ⟨q, fun _ h => absurd rfl h, fun _ _ h => (by cases h), fun _ _ h => (by cases h), fun _ _ _ h => (by cases h)⟩
theorem Hold.stays {w0 w w' : World} {o : Ow} {gws : Nat → Option (Nat × GateS)} {rows : Nat → Option (Value × List EvS)} (h : Hold w0 w o gws rows) (q : Q w w') : Hold w0 w' o gws rows :=
  ⟨h.q.trans q, fun b hb => ⟨Nat.lt_of_lt_of_le (h.lt b hb).1 q.size, (h.lt b hb).2⟩, fun i x hx => (h.gw i x hx).stays q, fun j x hx => ⟨owns_Q (h.row j x hx).1 q, (h.row j x hx).2⟩, h.only⟩
/-- A step on one gateway. -/
theorem Hold.step {w0 w w' : World} {o : Ow} {gws : Nat → Option (Nat × GateS)} {rows : Nat → Option (Value × List EvS)} (h : Hold w0 w o gws rows) {i gb : Nat} {G' : GateS} {r' : Rl} (hs : GwStep (o.pr i) w0.heap.size w gb r' w' G') :
    ∃ o' : Ow, Hold w0 w' o' (put gws i (gb, G')) rows ∧ ∀ b, o' b ≠ none → o b ≠ none ∨ r' b ≠ none := by
  obtain ⟨o', ho'⟩ : ∃ o' : Ow, o' = fun b => match r' b with
    | some k => some (.gw i k)
    | none => match o b with
      | some (.gw i' k) => if i' = i then none else some (.gw i' k)
      | x => x := ⟨_, rfl⟩
  have hnew : ∀ b, r' b ≠ none → (∃ k, o b = some (.gw i k)) ∨ o b = none := fun b hb => by
    rcases hs.gr.1 b hb with h1 | h1
    · exact .inl (pr_ne h1)
    · right
      cases hx : o b with
      | none => rfl
      | some x =>
        have := (h.lt b (by rw [hx]; simp)).1
        omega
  have hpi : o'.pr i = r' := by
    funext b
    cases hx : r' b with
    | some k => exact pr_some.2 (by rw [ho']; simp only [hx])
    | none =>
      refine pr_none fun k hk => ?_
      rw [ho'] at hk
      simp only [hx] at hk
      split at hk
      · split at hk
        · cases hk
        · rename_i i' k' _ hne
          injection hk with hk
          injection hk with h1 h2
          exact hne h1
      · rename_i hno
        exact hno _ _ hk
  have hof : ∀ b, r' b = none → (∀ k, o b ≠ some (.gw i k)) → o' b = o b := fun b h1 h2 => by
    rw [ho']
    simp only [h1]
    split
    · rename_i i' k hx
      rw [if_neg (fun e => h2 k (by rw [hx, e]))]
      exact hx.symm
    · rfl
  have hkeep : ∀ b x, o b = some x → (∀ k, x ≠ .gw i k) → o' b = some x ∧ SameAt w w' b := fun b x hx hne => by
    have hr : r' b = none := by
      cases hy : r' b with
      | none => rfl
      | some k =>
        rcases hnew b (by rw [hy]; simp) with ⟨k', h1⟩ | h1
        · rw [hx] at h1; cases h1; exact absurd rfl (hne k')
        · rw [hx] at h1; cases h1
    refine ⟨by rw [hof b hr (fun k e => by rw [hx] at e; cases e; exact hne k rfl)]; exact hx, hs.fr.block b (h.lt b (by rw [hx]; simp)).1 (pr_none fun k e => by rw [hx] at e; cases e; exact hne k rfl)⟩
  have hlow : ∀ b, o' b ≠ none → o b ≠ none ∨ r' b ≠ none := fun b hb => by
    by_cases hr : r' b = none
    · left
      intro e
      apply hb
      rw [ho']
      simp only [hr, e]
    · exact .inr hr
  refine ⟨o', ⟨h.q.fr hs.fr (fun b hb => ?_), fun b hb => ?_, fun j x hx => ?_, fun j x hx => ?_, fun b i' k hk => ?_⟩, hlow⟩
  · obtain ⟨k, hk⟩ := pr_ne hb
    exact (h.lt b (by rw [hk]; simp)).2
  · rcases hlow b hb with h1 | h1
    · exact ⟨Nat.lt_of_lt_of_le (h.lt b h1).1 hs.fr.size, (h.lt b h1).2⟩
    · exact ⟨hs.rep.lt b h1, hs.rep.low b h1⟩
  · by_cases hj : j = i
    · subst hj
      rw [put_at] at hx
      cases hx
      rw [hpi]
      exact hs.rep
    · rw [put_ne _ _ hj] at hx
      have hprj : o'.pr j = o.pr j := by
        funext b
        cases hy : o.pr j b with
        | some k => exact pr_some.2 (hkeep b _ (pr_some.1 hy) (fun k e => by cases e; exact hj rfl)).1
        | none =>
          refine pr_none fun k hk => ?_
          have hb : o' b ≠ none := by rw [hk]; simp
          by_cases hr : r' b = none
          · rcases hlow b hb with h1 | h1
            · have h2 : ∀ k', o b ≠ some (.gw i k') := fun k' e => by
                have : o.pr i b ≠ none := by rw [pr_some.2 e]; simp
                rw [ho'] at hk
                simp only [hr, e, if_true] at hk
                cases hk
              rw [hof b hr h2] at hk
              rw [pr_some.2 hk] at hy
              cases hy
            · exact h1 hr
          · cases hx2 : r' b with
            | none => exact hr hx2
            | some k' =>
              rw [ho'] at hk
              simp only [hx2] at hk
              injection hk with hk
              injection hk with e1 e2
              exact hj e1.symm
      rw [hprj]
      refine (h.gw j x hx).same (fun b hb => ?_) hs.fr.size
      obtain ⟨k, hk⟩ := pr_ne hb
      exact (hkeep b _ hk (fun k e => by cases e; exact hj rfl)).2
  · obtain ⟨h1, h2⟩ := h.row j x hx
    exact ⟨owns_same h1 fun k hk => (hkeep k _ (h2 k hk) (fun k e => by cases e)).2, fun k hk => (hkeep k _ (h2 k hk) (fun k e => by cases e)).1⟩
  · by_cases e : i' = i
    · rw [e, put_at]; simp
    · rw [put_ne _ _ e]
      by_cases hr : r' b = none
      · rw [ho'] at hk
        simp only [hr] at hk
        split at hk
        · rename_i i2 k2 hx
          split at hk
          · cases hk
          · injection hk with hk
            injection hk with e1 e2
            exact h.only b i' k (by rw [hx, e1, e2])
        · exact h.only b i' k hk
      · cases hx2 : r' b with
        | none => exact absurd hx2 hr
        | some k' =>
          rw [ho'] at hk
          simp only [hx2] at hk
          injection hk with hk
          injection hk with e1 e2
          exact absurd e1.symm e
/-- A list that came out is held, or another one in its place. -/
theorem Hold.addRow {w0 w : World} {o : Ow} {gws : Nat → Option (Nat × GateS)} {rows : Nat → Option (Value × List EvS)} (h : Hold w0 w o gws rows) (j : Nat) {v : Value} {l : List EvS}
    (hown : w.ownsRow w0.heap.size 48 4 v l.length (evVals l)) (hr : ∀ k, v.ownBlock = some k → o k = none ∨ o k = some (.row j)) : ∃ o' : Ow, Hold w0 w o' gws (put rows j (v, l)) := by
  obtain ⟨o', ho'⟩ : ∃ o' : Ow, o' = fun b => if v.ownBlock = some b then some (.row j) else o b := ⟨_, rfl⟩
  have h1 : ∀ b, v.ownBlock = some b → o' b = some (.row j) := fun b hb => by rw [ho']; simp only [hb, if_true]
  have h2 : ∀ b, v.ownBlock ≠ some b → o' b = o b := fun b hb => by rw [ho']; simp only [hb, if_false]
  have hk : ∀ b x, o b = some x → x ≠ .row j → o' b = some x := fun b x hx hne => by
    rw [h2 b (fun e => by
      rcases hr b e with h3 | h3
      · rw [hx] at h3; cases h3
      · rw [hx] at h3; cases h3; exact hne rfl)]
    exact hx
  refine ⟨o', h.q, fun b hb => ?_, fun i x hx => ?_, fun j' x hx => ?_, fun b i k hk' => ?_⟩
  · by_cases e : v.ownBlock = some b
    · exact ⟨(owns_lt hown b e).2, (owns_lt hown b e).1⟩
    · rw [h2 b e] at hb
      exact h.lt b hb
  · have hpr : o'.pr i = o.pr i := by
      funext b
      cases hy : o.pr i b with
      | some k => exact pr_some.2 (hk b _ (pr_some.1 hy) (fun e => by cases e))
      | none =>
        refine pr_none fun k hk' => ?_
        by_cases e : v.ownBlock = some b
        · rw [h1 b e] at hk'; cases hk'
        · rw [h2 b e] at hk'
          rw [pr_some.2 hk'] at hy
          cases hy
    rw [hpr]
    exact h.gw i x hx
  · by_cases hj : j' = j
    · subst hj
      rw [put_at] at hx
      cases hx
      exact ⟨hown, h1⟩
    · rw [put_ne _ _ hj] at hx
      obtain ⟨h3, h4⟩ := h.row j' x hx
      exact ⟨h3, fun k hk' => hk k _ (h4 k hk') (fun e => by cases e; exact hj rfl)⟩
  · by_cases e : v.ownBlock = some b
    · rw [h1 b e] at hk'; cases hk'
    · rw [h2 b e] at hk'
      exact h.only b i k hk'
/-- More events at a list's end. -/
theorem Hold.grown {w0 w w' : World} {o : Ow} {gws : Nat → Option (Nat × GateS)} {rows : Nat → Option (Value × List EvS)} (h : Hold w0 w o gws rows) {j : Nat} {pv v' : Value} {l l' : List EvS} (hj : rows j = some (pv, l))
    (hown : w'.ownsRow w0.heap.size 48 4 v' l'.length (evVals l')) (hg : w.grownBy w' pv.ownBlock) (hat : v'.ownBlock = pv.ownBlock ∨ v'.ownBlock = some w.heap.size) : ∃ o' : Ow, Hold w0 w' o' gws (put rows j (v', l')) := by
  obtain ⟨h1, h2⟩ := h.row j _ hj
  have hfar : ∀ b x, o b = some x → x ≠ .row j → SameAt w w' b := fun b x hx hne => hg.block b (h.lt b (by rw [hx]; simp)).1 (fun e => by
    have := h2 b e.symm
    rw [hx] at this
    cases this
    exact hne rfl)
  have h' : Hold w0 w' o gws (fun j' => if j' = j then none else rows j') := by
    refine ⟨Below.grown h.q hg h.q.size (fun k hk => (owns_lt h1 k hk).1), fun b hb => ⟨Nat.lt_of_lt_of_le (h.lt b hb).1 hg.size, (h.lt b hb).2⟩, fun i x hx => ?_, fun j' x hx => ?_, h.only⟩
    · refine (h.gw i x hx).same (fun b hb => ?_) hg.size
      obtain ⟨k, hk⟩ := pr_ne hb
      exact hfar b _ hk (fun e => by cases e)
    · by_cases e : j' = j
      · simp only [e, if_true] at hx; cases hx
      · simp only [e, if_false] at hx
        obtain ⟨h3, h4⟩ := h.row j' x hx
        exact ⟨owns_same h3 fun k hk => hfar k _ (h4 k hk) (fun e2 => by cases e2; exact e rfl), h4⟩
  obtain ⟨o', ho'⟩ := h'.addRow j hown (fun k hk => by
    rcases hat with e | e
    · exact .inr (h2 k (by rw [← e]; exact hk))
    · rw [e] at hk
      cases hk
      left
      cases hx : o w.heap.size with
      | none => rfl
      | some x =>
        have := (h.lt _ (by rw [hx]; simp)).1
        omega)
  refine ⟨o', ho'.q, ho'.lt, ho'.gw, fun j' x hx => ho'.row j' x ?_, ho'.only⟩
  unfold put at hx ⊢
  split at hx
  · rename_i e; simp only [e, if_true]; exact hx
  · rename_i e; simp only [e, if_false]; exact hx
/-- A new gateway. -/
theorem Hold.more {w0 w w' : World} {o : Ow} {gws : Nat → Option (Nat × GateS)} {rows : Nat → Option (Value × List EvS)} (h : Hold w0 w o gws rows) {i gb : Nat} {G : GateS} {r : Rl} (hi : gws i = none) (q : Q w w') (hr : GwRep r w0.heap.size w' gb G) (hn : ∀ b, r b ≠ none → w.heap.size ≤ b) :
    ∃ o' : Ow, Hold w0 w' o' (put gws i (gb, G)) rows := by
  have hpi : ∀ b k, o b ≠ some (.gw i k) := fun b k e => h.only b i k e hi
  obtain ⟨o', ho'⟩ : ∃ o' : Ow, o' = fun b => match r b with
    | some k => some (.gw i k)
    | none => o b := ⟨_, rfl⟩
  have hold : ∀ b, o b ≠ none → r b = none := fun b hb => by
    cases hx : r b with
    | none => rfl
    | some k =>
      have h1 := hn b (by rw [hx]; simp)
      have h2 := (h.lt b hb).1
      omega
  have h1 : ∀ b k, r b = some k → o' b = some (.gw i k) := fun b k hk => by rw [ho']; simp only [hk]
  have h2 : ∀ b, r b = none → o' b = o b := fun b hk => by rw [ho']; simp only [hk]
  have hpr : o'.pr i = r := by
    funext b
    cases hx : r b with
    | some k => exact pr_some.2 (h1 b k hx)
    | none => exact pr_none fun k hk => by rw [h2 b hx] at hk; exact hpi b k hk
  have hs := h.stays q
  refine ⟨o', hs.q, fun b hb => ?_, fun j x hx => ?_, fun j x hx => ?_, fun b i' k hk => ?_⟩
  · cases hx : r b with
    | some k => exact ⟨hr.lt b (by rw [hx]; simp), hr.low b (by rw [hx]; simp)⟩
    | none =>
      rw [h2 b hx] at hb
      exact hs.lt b hb
  · by_cases hj : j = i
    · subst hj
      rw [put_at] at hx
      cases hx
      rw [hpr]
      exact hr
    · rw [put_ne _ _ hj] at hx
      have hprj : o'.pr j = o.pr j := by
        funext b
        cases hy : o.pr j b with
        | some k =>
          have := pr_some.1 hy
          exact pr_some.2 (by rw [h2 b (hold b (by rw [this]; simp))]; exact this)
        | none =>
          refine pr_none fun k hk => ?_
          cases hz : r b with
          | some k' =>
            rw [h1 b k' hz] at hk
            injection hk with hk
            injection hk with e1 e2
            exact hj e1.symm
          | none =>
            rw [h2 b hz] at hk
            rw [pr_some.2 hk] at hy
            cases hy
      rw [hprj]
      exact hs.gw j x hx
  · obtain ⟨h3, h4⟩ := hs.row j x hx
    exact ⟨h3, fun k hk => by rw [h2 k (hold k (by rw [h4 k hk]; simp))]; exact h4 k hk⟩
  · by_cases e : i' = i
    · rw [e, put_at]; simp
    · rw [put_ne _ _ e]
      cases hz : r b with
      | some k' =>
        rw [h1 b k' hz] at hk
        injection hk with hk
        injection hk with e1 e2
        exact absurd e1.symm e
      | none =>
        rw [h2 b hz] at hk
        exact h.only b i' k hk
end Go.Proofs.YtdmaffciijmdcaaGreatDoor
/-
  The calls on gateways that lie side by side.
-/
namespace Go.Proofs.YtdmaffciijmdcaaGreatDoor
open Go.RowKit Plain
abbrev Gws := Nat → Option (Nat × GateS)
abbrev Rws := Nat → Option (Value × List EvS)

def HClient (w0 : World) (gws : Gws) (rows : Rws) (i gb : Nat) (G : GateS) (n : Int) (s : List UInt8) (j : Nat) (w : World) (e : Ending) (w' : World) : Prop :=
  (∃ (k : Nat) (c : ConnS) (v : Value) (o' : Ow), G.conns[k]? = some c ∧ (c.num : Int) = n ∧ e = .returned (.tuple #[v, .int .i64 0]) ∧ Hold w0 w' o' (put gws i (gb, (clientAt G k c s).1)) (put rows j (v, (clientAt G k c s).2))) ∨
  ((∀ c ∈ G.conns, (c.num : Int) ≠ n) ∧ w' = w ∧ e = .returned (.tuple #[.slice none 0 0, .int .i64 7]))
theorem Hold.client {w0 w : World} {o : Ow} {gws : Gws} {rows : Rws} (h : Hold w0 w o gws rows) {i gb : Nat} {G : GateS} (hi : gws i = some (gb, G)) (ok : GOk G) (hop : ∀ c ∈ G.conns, c.noMore = false) (n : Int) (s : ByteArray) (hl : ∀ c ∈ G.conns, c.wait.length + s.size ≤ 4398046511104) (hm : ML w0) (j : Nat) :
    Calls Tryz.prog 22 #[ptr gb, .int .i64 n, .string s] w fun e w' => HClient w0 gws rows i gb G n s.data.toList j w e w' := by
  have hB : 0 < w0.heap.size := by
    obtain ⟨y, hy⟩ := hm
    exact Q.lt hy
  refine (client_any (h.gw i _ hi) ok hop n s hl (hm.stays h.q) hB).mono ?_
  rintro e w' (⟨k, c, hk, hn, r', v, rfl, hst, hev⟩ | hno)
  · left
    obtain ⟨o1, ho1, hlow⟩ := h.step hst
    obtain ⟨o2, ho2⟩ := ho1.addRow j (owns_base hev.1 h.q.size) (fun b hb => by
      left
      cases hx : o1 b with
      | none => rfl
      | some x =>
        rcases hlow b (by rw [hx]; simp) with h1 | h1
        · have := (h.lt b h1).1
          have := (owns_lt hev.1 b hb).1
          omega
        · exact absurd (hev.2 b hb) h1)
    exact ⟨k, c, v, o2, hk, hn, rfl, ho2⟩
  · exact .inr hno

def HAccept (w0 : World) (gws : Gws) (rows : Rws) (i gb : Nat) (G : GateS) (w : World) (e : Ending) (w' : World) : Prop :=
  (G.conns.length = 8 ∧ w' = w ∧ e = .returned (.tuple #[.int .i64 0, .int .i64 6])) ∨
  (G.conns.length ≠ 8 ∧ (∃ o', Hold w0 w' o' (put gws i (gb, G.accept)) rows) ∧ e = .returned (.tuple #[.int .i64 ((G.last : Int) + 1), .int .i64 0]))
theorem Hold.accept {w0 w : World} {o : Ow} {gws : Gws} {rows : Rws} (h : Hold w0 w o gws rows) {i gb : Nat} {G : GateS} (hi : gws i = some (gb, G)) (ok : GOk G) :
    Calls Tryz.prog 16 #[ptr gb] w fun e w' => HAccept w0 gws rows i gb G w e w' := by
  refine (accept_any (h.gw i _ hi) ok).mono ?_
  rintro e w' (h8 | ⟨h8, ⟨r', hst⟩, rfl⟩)
  · exact .inl h8
  · obtain ⟨o1, ho1, _⟩ := h.step hst
    exact .inr ⟨h8, ⟨o1, ho1⟩, rfl⟩

def HNew (w0 : World) (gws : Gws) (rows : Rws) (i : Nat) (text : List UInt8) (us : List (List UInt8 × List UInt8)) (minute : Int) (w : World) (e : Ending) (w' : World) : Prop :=
  (∃ en ln : Nat, newS text us minute = .error (en, ln) ∧ Q w w' ∧ e = .returned (.tuple #[.pointer none, .int .i64 (en : Int), .int .i64 (ln : Int)])) ∨
  ∃ G gb o', newS text us minute = .ok G ∧ e = .returned (.tuple #[ptr gb, .int .i64 0, .int .i64 0]) ∧ Hold w0 w' o' (put gws i (gb, G)) rows ∧ GOk G ∧ Q w w'
theorem Hold.new {w0 w : World} {o : Ow} {gws : Gws} {rows : Rws} (h : Hold w0 w o gws rows) {i : Nat} (hi : gws i = none) (s : ByteArray) (us : List (List UInt8 × List UInt8)) (v : Value) (minute : Int) (hs : s.size ≤ maxLen) (hv : PairsAt (fun b => b < w.heap.size) w v us) (hul : us.length ≤ 2097152) :
    Calls Tryz.prog 13 #[.string s, v, .int .i64 minute] w fun e w' => HNew w0 gws rows i s.data.toList us minute w e w' := by
  refine (new_any w0.heap.size s us v minute w hs hv hul h.q.size).mono ?_
  rintro e w' ⟨hq, ⟨en, ln, h1, rfl⟩ | ⟨G, gb, r, h1, rfl, hrep, hok, hrl⟩⟩
  · exact .inl ⟨en, ln, h1, hq, rfl⟩
  · obtain ⟨o1, ho1⟩ := h.more hi hq hrep hrl
    exact .inr ⟨G, gb, o1, h1, rfl, ho1, hok, hq⟩

/-- append of events to a list that is held. -/
theorem Hold.append {w0 w : World} {o : Ow} {gws : Gws} {rows : Rws} (h : Hold w0 w o gws rows) {j j2 : Nat} {pv lv : Value} {P L : List EvS} (hj : rows j = some (pv, P)) (hj2 : rows j2 = some (lv, L)) (hb : P.length + L.length ≤ 1000000000000) :
    ∃ v' w' o', (Builtin.append_ #[41, 41] 41 #[pv, lv]).run Tryz.prog w = .ok v' w' ∧ Hold w0 w' o' gws (put rows j (v', P ++ L)) := by
  obtain ⟨v', w', h1, h2, h3, h4⟩ := append_evs w w0.heap.size w0.heap.size pv lv P.length (evVals P) L (h.row j _ hj).1 (h.row j2 _ hj2).1 hb h.q.size
  obtain ⟨o', ho'⟩ := h.grown hj (l' := P ++ L) (by rw [List.length_append, evVals_append]; exact h2) h3 h4
  exact ⟨v', w', o', h1, ho'⟩
theorem Hold.form {w0 w : World} {o : Ow} {gws : Gws} {rows : Rws} (h : Hold w0 w o gws rows) {j : Nat} {v : Value} {l : List EvS} (hj : rows j = some (v, l)) : ∃ a c, v = .slice a l.length c := slice_form (h.row j _ hj).1
end Go.Proofs.YtdmaffciijmdcaaGreatDoor

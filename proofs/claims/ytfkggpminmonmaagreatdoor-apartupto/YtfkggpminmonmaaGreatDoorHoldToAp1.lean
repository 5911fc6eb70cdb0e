/-
  Several gateways, and lists of events that came out, side by side in memory.
-/
import Derived.Test.YtfkggpminmonmaaGreatDoorGuardWToRowD
namespace Go.Proofs.YtfkggpminmonmaaGreatDoor
open Go.RowKit Plain

/-- Whose a block is. -/
inductive Own where
  | gw (i : Nat) (k : Kd)
  | row (j : Nat)
abbrev Ow := Nat → Option Own
/-- The blocks of one gateway. -/
def Ow.pr (o : Ow) (i : Nat) : Rl := fun b => match o b with
  | some (.gw i' k) => if i' = i then some k else none
  | _ => none
theorem pr_some {o : Ow} {i b : Nat} {k : Kd} : o.pr i b = some k ↔ o b = some (.gw i k) := by
  unfold Ow.pr
  cases h : o b with
  | none => simp
  | some x =>
    cases x with
    | gw i' k' =>
      by_cases e : i' = i
      · simp [e]
      · simp [e]
    | row j => simp
theorem pr_ne {o : Ow} {i b : Nat} (h : o.pr i b ≠ none) : ∃ k, o b = some (.gw i k) := by
  cases hx : o.pr i b with
  | none => exact absurd hx h
  | some k => exact ⟨k, pr_some.1 hx⟩
theorem pr_none {o : Ow} {i b : Nat} (h : ∀ k, o b ≠ some (.gw i k)) : o.pr i b = none := by
  cases hx : o.pr i b with
  | none => rfl
  | some k => exact absurd (pr_some.1 hx) (h k)
/-- One place of a table. -/
def put {α : Type} (f : Nat → Option α) (i : Nat) (x : α) : Nat → Option α := fun j => if j = i then some x else f j
theorem put_at {α : Type} (f : Nat → Option α) (i : Nat) (x : α) : put f i x i = some x := by simp [put]
theorem put_ne {α : Type} (f : Nat → Option α) {i j : Nat} (x : α) (h : j ≠ i) : put f i x j = f j := by simp [put, h]

structure Hold (w0 w : World) (o : Ow) (gws : Nat → Option (Nat × GateS)) (rows : Nat → Option (Value × List EvS)) : Prop where
  q : Q w0 w
  lt : ∀ b, o b ≠ none → b < w.heap.size ∧ w0.heap.size ≤ b
  gw : ∀ i x, gws i = some x → GwRep (o.pr i) w0.heap.size w x.1 x.2
  row : ∀ j x, rows j = some x → w.ownsRow w0.heap.size 48 4 x.1 x.2.length (evVals x.2) ∧ ∀ k, x.1.ownBlock = some k → o k = some (.row j)
  only : ∀ b i k, o b = some (.gw i k) → gws i ≠ none
theorem Hold.start {w0 w : World} (q : Q w0 w) : Hold w0 w (fun _ => none) (fun _ => none) (fun _ => none) :=
  ⟨q, fun _ h => absurd rfl h, fun _ _ h => (by cases h), fun _ _ h => (by cases h), fun _ _ _ h => (by cases h)⟩
theorem Hold.stays {w0 w w' : World} {o : Ow} {gws : Nat → Option (Nat × GateS)} {rows : Nat → Option (Value × List EvS)} (h : Hold w0 w o gws rows) (q : Q w w') : Hold w0 w' o gws rows :=
  ⟨h.q.trans q, fun b hb => ⟨Nat.lt_of_lt_of_le (h.lt b hb).1 q.size, (h.lt b hb).2⟩, fun i x hx => (h.gw i x hx).stays q, fun j x hx => ⟨owns_Q (h.row j x hx).1 q, (h.row j x hx).2⟩, h.only⟩
/-- A step on one gateway. -/
theorem Hold.step {w0 w w' : World} {o : Ow} {gws : Nat → Option (Nat × GateS)} {rows : Nat → Option (Value × List EvS)} (h : Hold w0 w o gws rows) {i gb : Nat} {G' : GateS} {r' : Rl} (hs : GwStep (o.pr i) w0.heap.size w gb r' w' G') :
    ∃ o' : Ow, Hold w0 w' o' (put gws i (gb, G')) rows ∧ ∀ b, o' b ≠ none → o b ≠ none ∨ r' b ≠ none := by
  obtain ⟨o', ho'⟩ : ∃ o' : Ow, o' = fun b => match r' b with
    | some k => some (.gw i k)
    | none => match o b with
      | some (.gw i' k) => if i' = i then none else some (.gw i' k)
      | x => x := ⟨_, rfl⟩
  have hnew : ∀ b, r' b ≠ none → (∃ k, o b = some (.gw i k)) ∨ o b = none := fun b hb => by
    rcases hs.gr.1 b hb with h1 | h1
    · exact .inl (pr_ne h1)
    · right
      cases hx : o b with
      | none => rfl
      | some x =>
        have := (h.lt b (by rw [hx]; simp)).1
        omega
  have hpi : o'.pr i = r' := by
    funext b
    cases hx : r' b with
    | some k => exact pr_some.2 (by rw [ho']; simp only [hx])
    | none =>
      refine pr_none fun k hk => ?_
      rw [ho'] at hk
      simp only [hx] at hk
      split at hk
      · split at hk
        · cases hk
        · rename_i i' k' _ hne
          injection hk with hk
          injection hk with h1 h2
          exact hne h1
      · rename_i hno
        exact hno _ _ hk
  have hof : ∀ b, r' b = none → (∀ k, o b ≠ some (.gw i k)) → o' b = o b := fun b h1 h2 => by
    rw [ho']
    simp only [h1]
    split
    · rename_i i' k hx
      rw [if_neg (fun e => h2 k (by rw [hx, e]))]
      exact hx.symm
    · rfl
  have hkeep : ∀ b x, o b = some x → (∀ k, x ≠ .gw i k) → o' b = some x ∧ SameAt w w' b := fun b x hx hne => by
    have hr : r' b = none := by
      cases hy : r' b with
      | none => rfl
      | some k =>
        rcases hnew b (by rw [hy]; simp) with ⟨k', h1⟩ | h1
        · rw [hx] at h1; cases h1; exact absurd rfl (hne k')
        · rw [hx] at h1; cases h1
    refine ⟨by rw [hof b hr (fun k e => by rw [hx] at e; cases e; exact hne k rfl)]; exact hx, hs.fr.block b (h.lt b (by rw [hx]; simp)).1 (pr_none fun k e => by rw [hx] at e; cases e; exact hne k rfl)⟩
  have hlow : ∀ b, o' b ≠ none → o b ≠ none ∨ r' b ≠ none := fun b hb => by
    by_cases hr : r' b = none
    · left
      intro e
      apply hb
      rw [ho']
      simp only [hr, e]
    · exact .inr hr
  refine ⟨o', ⟨h.q.fr hs.fr (fun b hb => ?_), fun b hb => ?_, fun j x hx => ?_, fun j x hx => ?_, fun b i' k hk => ?_⟩, hlow⟩
  · obtain ⟨k, hk⟩ := pr_ne hb
    exact (h.lt b (by rw [hk]; simp)).2
  · rcases hlow b hb with h1 | h1
    · exact ⟨Nat.lt_of_lt_of_le (h.lt b h1).1 hs.fr.size, (h.lt b h1).2⟩
    · exact ⟨hs.rep.lt b h1, hs.rep.low b h1⟩
  · by_cases hj : j = i
    · subst hj
      rw [put_at] at hx
      cases hx
      rw [hpi]
      exact hs.rep
    · rw [put_ne _ _ hj] at hx
      have hprj : o'.pr j = o.pr j := by
        funext b
        cases hy : o.pr j b with
        | some k => exact pr_some.2 (hkeep b _ (pr_some.1 hy) (fun k e => by cases e; exact hj rfl)).1
        | none =>
          refine pr_none fun k hk => ?_
          have hb : o' b ≠ none := by rw [hk]; simp
          by_cases hr : r' b = none
          · rcases hlow b hb with h1 | h1
            · have h2 : ∀ k', o b ≠ some (.gw i k') := fun k' e => by
                have : o.pr i b ≠ none := by rw [pr_some.2 e]; simp
                rw [ho'] at hk
                simp only [hr, e, if_true] at hk
                cases hk
              rw [hof b hr h2] at hk
              rw [pr_some.2 hk] at hy
              cases hy
            · exact h1 hr
          · cases hx2 : r' b with
            | none => exact hr hx2
            | some k' =>
              rw [ho'] at hk
              simp only [hx2] at hk
              injection hk with hk
              injection hk with e1 e2
              exact hj e1.symm
      rw [hprj]
      refine (h.gw j x hx).same (fun b hb => ?_) hs.fr.size
      obtain ⟨k, hk⟩ := pr_ne hb
      exact (hkeep b _ hk (fun k e => by cases e; exact hj rfl)).2
  · obtain ⟨h1, h2⟩ := h.row j x hx
    exact ⟨owns_same h1 fun k hk => (hkeep k _ (h2 k hk) (fun k e => by cases e)).2, fun k hk => (hkeep k _ (h2 k hk) (fun k e => by cases e)).1⟩
  · by_cases e : i' = i
    · rw [e, put_at]; simp
    · rw [put_ne _ _ e]
      by_cases hr : r' b = none
      · rw [ho'] at hk
        simp only [hr] at hk
        split at hk
        · rename_i i2 k2 hx
          split at hk
          · cases hk
          · injection hk with hk
            injection hk with e1 e2
            exact h.only b i' k (by rw [hx, e1, e2])
        · exact h.only b i' k hk
      · cases hx2 : r' b with
        | none => exact absurd hx2 hr
        | some k' =>
          rw [ho'] at hk
          simp only [hx2] at hk
          injection hk with hk
          injection hk with e1 e2
          exact absurd e1.symm e
/-- A list that came out is held, or another one in its place. -/
theorem Hold.addRow {w0 w : World} {o : Ow} {gws : Nat → Option (Nat × GateS)} {rows : Nat → Option (Value × List EvS)} (h : Hold w0 w o gws rows) (j : Nat) {v : Value} {l : List EvS}
    (hown : w.ownsRow w0.heap.size 48 4 v l.length (evVals l)) (hr : ∀ k, v.ownBlock = some k → o k = none ∨ o k = some (.row j)) : ∃ o' : Ow, Hold w0 w o' gws (put rows j (v, l)) := by
  obtain ⟨o', ho'⟩ : ∃ o' : Ow, o' = fun b => if v.ownBlock = some b then some (.row j) else o b := ⟨_, rfl⟩
  have h1 : ∀ b, v.ownBlock = some b → o' b = some (.row j) := fun b hb => by rw [ho']; simp only [hb, if_true]
  have h2 : ∀ b, v.ownBlock ≠ some b → o' b = o b := fun b hb => by rw [ho']; simp only [hb, if_false]
  have hk : ∀ b x, o b = some x → x ≠ .row j → o' b = some x := fun b x hx hne => by
    rw [h2 b (fun e => by
      rcases hr b e with h3 | h3
      · rw [hx] at h3; cases h3
      · rw [hx] at h3; cases h3; exact hne rfl)]
    exact hx
  refine ⟨o', h.q, fun b hb => ?_, fun i x hx => ?_, fun j' x hx => ?_, fun b i k hk' => ?_⟩
  · by_cases e : v.ownBlock = some b
    · exact ⟨(owns_lt hown b e).2, (owns_lt hown b e).1⟩
    · rw [h2 b e] at hb
      exact h.lt b hb
  · have hpr : o'.pr i = o.pr i := by
      funext b
      cases hy : o.pr i b with
      | some k => exact pr_some.2 (hk b _ (pr_some.1 hy) (fun e => by cases e))
      | none =>
        refine pr_none fun k hk' => ?_
        by_cases e : v.ownBlock = some b
        · rw [h1 b e] at hk'; cases hk'
        · rw [h2 b e] at hk'
          rw [pr_some.2 hk'] at hy
          cases hy
    rw [hpr]
    exact h.gw i x hx
  · by_cases hj : j' = j
    · subst hj
      rw [put_at] at hx
      cases hx
      exact ⟨hown, h1⟩
    · rw [put_ne _ _ hj] at hx
      obtain ⟨h3, h4⟩ := h.row j' x hx
      exact ⟨h3, fun k hk' => hk k _ (h4 k hk') (fun e => by cases e; exact hj rfl)⟩
  · by_cases e : v.ownBlock = some b
    · rw [h1 b e] at hk'; cases hk'
    · rw [h2 b e] at hk'
      exact h.only b i k hk'
/-- More events at a list's end. -/
theorem Hold.grown {w0 w w' : World} {o : Ow} {gws : Nat → Option (Nat × GateS)} {rows : Nat → Option (Value × List EvS)} (h : Hold w0 w o gws rows) {j : Nat} {pv v' : Value} {l l' : List EvS} (hj : rows j = some (pv, l))
    (hown : w'.ownsRow w0.heap.size 48 4 v' l'.length (evVals l')) (hg : w.grownBy w' pv.ownBlock) (hat : v'.ownBlock = pv.ownBlock ∨ v'.ownBlock = some w.heap.size) : ∃ o' : Ow, Hold w0 w' o' gws (put rows j (v', l')) := by
  obtain ⟨h1, h2⟩ := h.row j _ hj
  have hfar : ∀ b x, o b = some x → x ≠ .row j → SameAt w w' b := fun b x hx hne => hg.block b (h.lt b (by rw [hx]; simp)).1 (fun e => by
    have := h2 b e.symm
    rw [hx] at this
    cases this
    exact hne rfl)
  have h' : Hold w0 w' o gws (fun j' => if j' = j then none else rows j') := by
    refine ⟨Below.grown h.q hg h.q.size (fun k hk => (owns_lt h1 k hk).1), fun b hb => ⟨Nat.lt_of_lt_of_le (h.lt b hb).1 hg.size, (h.lt b hb).2⟩, fun i x hx => ?_, fun j' x hx => ?_, h.only⟩
    · refine (h.gw i x hx).same (fun b hb => ?_) hg.size
      obtain ⟨k, hk⟩ := pr_ne hb
      exact hfar b _ hk (fun e => by cases e)
    · by_cases e : j' = j
      · simp only [e, if_true] at hx; cases hx
      · simp only [e, if_false] at hx
        obtain ⟨h3, h4⟩ := h.row j' x hx
        exact ⟨owns_same h3 fun k hk => hfar k _ (h4 k hk) (fun e2 => by cases e2; exact e rfl), h4⟩
  obtain ⟨o', ho'⟩ := h'.addRow j hown (fun k hk => by
    rcases hat with e | e
    · exact .inr (h2 k (by rw [← e]; exact hk))
    · rw [e] at hk
      cases hk
      left
      cases hx : o w.heap.size with
      | none => rfl
      | some x =>
        have := (h.lt _ (by rw [hx]; simp)).1
        omega)
  refine ⟨o', ho'.q, ho'.lt, ho'.gw, fun j' x hx => ho'.row j' x ?_, ho'.only⟩
  unfold put at hx ⊢
  split at hx
  · rename_i e; simp only [e, if_true]; exact hx
  · rename_i e; simp only [e, if_false]; exact hx
/-- A new gateway. -/
theorem Hold.more {w0 w w' : World} {o : Ow} {gws : Nat → Option (Nat × GateS)} {rows : Nat → Option (Value × List EvS)} (h : Hold w0 w o gws rows) {i gb : Nat} {G : GateS} {r : Rl} (hi : gws i = none) (q : Q w w') (hr : GwRep r w0.heap.size w' gb G) (hn : ∀ b, r b ≠ none → w.heap.size ≤ b) :
    ∃ o' : Ow, Hold w0 w' o' (put gws i (gb, G)) rows := by
  have hpi : ∀ b k, o b ≠ some (.gw i k) := fun b k e => h.only b i k e hi
  obtain ⟨o', ho'⟩ : ∃ o' : Ow, o' = fun b => match r b with
    | some k => some (.gw i k)
    | none => o b := ⟨_, rfl⟩
  have hold : ∀ b, o b ≠ none → r b = none := fun b hb => by
    cases hx : r b with
    | none => rfl
    | some k =>
      have h1 := hn b (by rw [hx]; simp)
      have h2 := (h.lt b hb).1
      omega
  have h1 : ∀ b k, r b = some k → o' b = some (.gw i k) := fun b k hk => by rw [ho']; simp only [hk]
  have h2 : ∀ b, r b = none → o' b = o b := fun b hk => by rw [ho']; simp only [hk]
  have hpr : o'.pr i = r := by
    funext b
    cases hx : r b with
    | some k => exact pr_some.2 (h1 b k hx)
    | none => exact pr_none fun k hk => by rw [h2 b hx] at hk; exact hpi b k hk
  have hs := h.stays q
  refine ⟨o', hs.q, fun b hb => ?_, fun j x hx => ?_, fun j x hx => ?_, fun b i' k hk => ?_⟩
  · cases hx : r b with
    | some k => exact ⟨hr.lt b (by rw [hx]; simp), hr.low b (by rw [hx]; simp)⟩
    | none =>
      rw [h2 b hx] at hb
      exact hs.lt b hb
  · by_cases hj : j = i
    · subst hj
      rw [put_at] at hx
      cases hx
      rw [hpr]
      exact hr
    · rw [put_ne _ _ hj] at hx
      have hprj : o'.pr j = o.pr j := by
        funext b
        cases hy : o.pr j b with
        | some k =>
          have := pr_some.1 hy
          exact pr_some.2 (by rw [h2 b (hold b (by rw [this]; simp))]; exact this)
        | none =>
          refine pr_none fun k hk => ?_
          cases hz : r b with
          | some k' =>
            rw [h1 b k' hz] at hk
            injection hk with hk
            injection hk with e1 e2
            exact hj e1.symm
          | none =>
            rw [h2 b hz] at hk
            rw [pr_some.2 hk] at hy
            cases hy
      rw [hprj]
      exact hs.gw j x hx
  · obtain ⟨h3, h4⟩ := hs.row j x hx
    exact ⟨h3, fun k hk => by rw [h2 k (hold k (by rw [h4 k hk]; simp))]; exact h4 k hk⟩
  · by_cases e : i' = i
    · rw [e, put_at]; simp
    · rw [put_ne _ _ e]
      cases hz : r b with
      | some k' =>
        rw [h1 b k' hz] at hk
        injection hk with hk
        injection hk with e1 e2
        exact absurd e1.symm e
      | none =>
        rw [h2 b hz] at hk
        exact h.only b i' k hk
end Go.Proofs.YtfkggpminmonmaaGreatDoor
/-
  The calls on gateways that lie side by side.
-/
namespace Go.Proofs.YtfkggpminmonmaaGreatDoor
open Go.RowKit Plain
abbrev Gws := Nat → Option (Nat × GateS)
abbrev Rws := Nat → Option (Value × List EvS)

def HClient (w0 : World) (gws : Gws) (rows : Rws) (i gb : Nat) (G : GateS) (n : Int) (s : List UInt8) (j : Nat) (w : World) (e : Ending) (w' : World) : Prop :=
  (∃ (k : Nat) (c : ConnS) (v : Value) (o' : Ow), G.conns[k]? = some c ∧ (c.num : Int) = n ∧ e = .returned (.tuple #[v, .int .i64 0]) ∧ Hold w0 w' o' (put gws i (gb, (clientAt G k c s).1)) (put rows j (v, (clientAt G k c s).2))) ∨
  ((∀ c ∈ G.conns, (c.num : Int) ≠ n) ∧ w' = w ∧ e = .returned (.tuple #[.slice none 0 0, .int .i64 7]))
theorem Hold.client {w0 w : World} {o : Ow} {gws : Gws} {rows : Rws} (h : Hold w0 w o gws rows) {i gb : Nat} {G : GateS} (hi : gws i = some (gb, G)) (ok : GOk G) (n : Int) (s : ByteArray) (hl : ∀ c ∈ G.conns, c.wait.length + s.size ≤ 4294967280) (hm : ML w0) (j : Nat) :
    Calls Tryz.prog 17 #[ptr gb, .int .i64 n, .string s] w fun e w' => HClient w0 gws rows i gb G n s.data.toList j w e w' := by
  have hB : 0 < w0.heap.size := by
    obtain ⟨y, hy⟩ := hm
    exact Q.lt hy
  refine (client_any (h.gw i _ hi) ok n s hl (hm.stays h.q) hB).mono ?_
  rintro e w' (⟨k, c, hk, hn, r', v, rfl, hst, hev⟩ | hno)
  · left
    obtain ⟨o1, ho1, hlow⟩ := h.step hst
    obtain ⟨o2, ho2⟩ := ho1.addRow j (owns_base hev.1 h.q.size) (fun b hb => by
      left
      cases hx : o1 b with
      | none => rfl
      | some x =>
        rcases hlow b (by rw [hx]; simp) with h1 | h1
        · have := (h.lt b h1).1
          have := (owns_lt hev.1 b hb).1
          omega
        · exact absurd (hev.2 b hb) h1)
    exact ⟨k, c, v, o2, hk, hn, rfl, ho2⟩
  · exact .inr hno

def HAccept (w0 : World) (gws : Gws) (rows : Rws) (i gb : Nat) (G : GateS) (w : World) (e : Ending) (w' : World) : Prop :=
  (G.conns.length = 8 ∧ w' = w ∧ e = .returned (.tuple #[.int .i64 0, .int .i64 6])) ∨
  (G.conns.length ≠ 8 ∧ (∃ o', Hold w0 w' o' (put gws i (gb, G.accept)) rows) ∧ e = .returned (.tuple #[.int .i64 ((G.last : Int) + 1), .int .i64 0]))
theorem Hold.accept {w0 w : World} {o : Ow} {gws : Gws} {rows : Rws} (h : Hold w0 w o gws rows) {i gb : Nat} {G : GateS} (hi : gws i = some (gb, G)) (ok : GOk G) :
    Calls Tryz.prog 11 #[ptr gb] w fun e w' => HAccept w0 gws rows i gb G w e w' := by
  refine (accept_any (h.gw i _ hi) ok).mono ?_
  rintro e w' (h8 | ⟨h8, ⟨r', hst⟩, rfl⟩)
  · exact .inl h8
  · obtain ⟨o1, ho1, _⟩ := h.step hst
    exact .inr ⟨h8, ⟨o1, ho1⟩, rfl⟩

def HNew (w0 : World) (gws : Gws) (rows : Rws) (i : Nat) (text : List UInt8) (us : List (List UInt8 × List UInt8)) (minute : Int) (w : World) (e : Ending) (w' : World) : Prop :=
  (∃ en ln : Nat, newS text us minute = .error (en, ln) ∧ Q w w' ∧ e = .returned (.tuple #[.pointer none, .int .i64 (en : Int), .int .i64 (ln : Int)])) ∨
  ∃ G gb o', newS text us minute = .ok G ∧ e = .returned (.tuple #[ptr gb, .int .i64 0, .int .i64 0]) ∧ Hold w0 w' o' (put gws i (gb, G)) rows ∧ GOk G ∧ Q w w'
theorem Hold.new {w0 w : World} {o : Ow} {gws : Gws} {rows : Rws} (h : Hold w0 w o gws rows) {i : Nat} (hi : gws i = none) (s : ByteArray) (us : List (List UInt8 × List UInt8)) (v : Value) (minute : Int) (hs : s.size ≤ maxLen) (hv : PairsAt (fun b => b < w.heap.size) w v us) (hul : us.length ≤ 2097152) :
    Calls Tryz.prog 8 #[.string s, v, .int .i64 minute] w fun e w' => HNew w0 gws rows i s.data.toList us minute w e w' := by
  refine (new_any w0.heap.size s us v minute w hs hv hul h.q.size).mono ?_
  rintro e w' ⟨hq, ⟨en, ln, h1, rfl⟩ | ⟨G, gb, r, h1, rfl, hrep, hok, hrl⟩⟩
  · exact .inl ⟨en, ln, h1, hq, rfl⟩
  · obtain ⟨o1, ho1⟩ := h.more hi hq hrep hrl
    exact .inr ⟨G, gb, o1, h1, rfl, ho1, hok, hq⟩

/-- append of events to a list that is held. -/
theorem Hold.append {w0 w : World} {o : Ow} {gws : Gws} {rows : Rws} (h : Hold w0 w o gws rows) {j j2 : Nat} {pv lv : Value} {P L : List EvS} (hj : rows j = some (pv, P)) (hj2 : rows j2 = some (lv, L)) (hb : P.length + L.length ≤ 1000000000000) :
    ∃ v' w' o', (Builtin.append_ #[41, 41] 41 #[pv, lv]).run Tryz.prog w = .ok v' w' ∧ Hold w0 w' o' gws (put rows j (v', P ++ L)) := by
  obtain ⟨v', w', h1, h2, h3, h4⟩ := append_evs w w0.heap.size w0.heap.size pv lv P.length (evVals P) L (h.row j _ hj).1 (h.row j2 _ hj2).1 hb h.q.size
  obtain ⟨o', ho'⟩ := h.grown hj (l' := P ++ L) (by rw [List.length_append, evVals_append]; exact h2) h3 h4
  exact ⟨v', w', o', h1, ho'⟩
theorem Hold.form {w0 w : World} {o : Ow} {gws : Gws} {rows : Rws} (h : Hold w0 w o gws rows) {j : Nat} {v : Value} {l : List EvS} (hj : rows j = some (v, l)) : ∃ a c, v = .slice a l.length c := slice_form (h.row j _ hj).1
end Go.Proofs.YtfkggpminmonmaaGreatDoor
/-
  Plain: a head with bytes behind it, in pieces; a client beside another one.
-/
namespace Go.Proofs.YtfkggpminmonmaaGreatDoor
namespace Plain
theorem index_more {T r : List UInt8} {i : Nat} (h : Lib.index T endB = (i : Int)) : Lib.index (T ++ r) endB = (i : Int) := by
  have he : endB.length = 4 := rfl
  rcases Lib.index_spec T endB with ⟨h1, _⟩ | ⟨j, h1, h2, h3, h4⟩
  · omega
  have hij : j = i := by omega
  subst hij
  have hroom := Lib.index_room T endB (by omega)
  rw [h, he] at hroom
  have hocc : ∀ k, k + 4 ≤ T.length → Lib.occAt (T ++ r) endB k = Lib.occAt T endB k := fun k hk => by
    unfold Lib.occAt
    rw [Bool.eq_iff_iff, List.isPrefixOf_iff_prefix, List.isPrefixOf_iff_prefix, List.drop_append_of_le_length (by omega)]
    constructor
    · intro hp
      refine List.prefix_of_prefix_length_le hp (List.prefix_append _ _) ?_
      rw [List.length_drop, he]; omega
    · intro hp
      exact hp.trans (List.prefix_append _ _)
  rcases Lib.index_spec (T ++ r) endB with ⟨h5, h6⟩ | ⟨k, h5, h6, h7, h8⟩
  · have := h6 j (by rw [List.length_append]; omega)
    rw [hocc j (by omega), h3] at this
    cases this
  · rcases Nat.lt_trichotomy k j with hk | hk | hk
    · rw [hocc k (by omega)] at h7
      have := h4 k hk
      rw [h7] at this
      cases this
    · rw [h5, hk]
    · have := h8 j hk
      rw [hocc j (by omega), h3] at this
      cases this
theorem cut_more {T : List UInt8} (hl : T.length < 1000) (h : cutHead T = some (T, [])) (r : List UInt8) : cutHead (T ++ r) = some (T, r) := by
  unfold cutHead at h
  rw [List.take_of_length_le (by omega)] at h
  split at h
  · rename_i h0
    obtain ⟨i, hi⟩ : ∃ i : Nat, Lib.index T endB = (i : Int) := ⟨(Lib.index T endB).toNat, by omega⟩
    rw [hi] at h
    injection h with h
    injection h with h1 h2
    have hlen := congrArg List.length h2
    rw [List.length_drop] at hlen
    simp at hlen
    have hroom := Lib.index_room T endB (by omega)
    rw [hi, show endB.length = 4 from rfl] at hroom
    have hT : i + 4 = T.length := by omega
    have h3 : Lib.index ((T ++ r).take 1000) endB = (i : Int) := by
      rw [List.take_append, List.take_of_length_le (by omega)]
      exact index_more hi
    unfold cutHead
    rw [h3, if_pos (by omega), show (i : Int).toNat + 4 = T.length from by omega, List.take_left, List.drop_left]
  · exact absurd h (by simp)

/-- The first client's connection, when m bytes of its text have come. -/
def xAt (T a : List UInt8) (m : Nat) : ConnS := if m < T.length then ⟨1, 0, 0, (T ++ a).take m⟩ else ⟨1, 0, 1, a.take (m - T.length)⟩
theorem xAt_num (T a : List UInt8) (m : Nat) : (xAt T a m).num = 1 := by unfold xAt; split <;> rfl
theorem xAt_wait (T a : List UInt8) (m : Nat) : (xAt T a m).wait.length ≤ m := by unfold xAt; split <;> simp <;> omega
theorem x_step {g : GateS} {i : Nat} {T a : List UInt8} {host : List UInt8} {port : Nat} (hj : judgeS g.rules g.tens g.minute T = .ok (host, port)) (hl : T.length < 1000) (hc : cutHead T = some (T, [])) (hn : ∀ m, m < T.length → cutHead (T.take m) = none) (m k : Nat) :
    clientAt g i (xAt T a m) (((T ++ a).drop m).take k) = (g.upd i (xAt T a (m + k)), if m < T.length ∧ T.length ≤ m + k then [⟨1, 1, host, (port : Int)⟩] else []) := by
  by_cases hm : m < T.length
  · have hx : xAt T a m = ⟨1, 0, 0, (T ++ a).take m⟩ := if_pos hm
    have htake : (T ++ a).take m ++ ((T ++ a).drop m).take k = (T ++ a).take (m + k) := List.take_add.symm
    rw [hx]
    have hcl : clientAt g i ⟨1, 0, 0, (T ++ a).take m⟩ (((T ++ a).drop m).take k) = match cutHead ((T ++ a).take (m + k)) with
        | none => (g.upd i ⟨1, 0, 0, (T ++ a).take (m + k)⟩, [])
        | some (h, rest) => answerS (g.upd i ⟨1, 0, 0, rest⟩) i ⟨1, 0, 0, rest⟩ h := by
      unfold clientAt
      simp only [htake]
      rfl
    rw [hcl]
    by_cases hmk : m + k < T.length
    · rw [show (T ++ a).take (m + k) = T.take (m + k) from by rw [List.take_append_of_le_length (by omega)], hn _ hmk, if_neg (by omega)]
      have : xAt T a (m + k) = ⟨1, 0, 0, T.take (m + k)⟩ := by
        unfold xAt
        rw [if_pos hmk, List.take_append_of_le_length (by omega)]
      rw [this]
    · rw [show (T ++ a).take (m + k) = T ++ a.take (m + k - T.length) from by rw [List.take_append, List.take_of_length_le (by omega)], cut_more hl hc, if_pos ⟨hm, by omega⟩]
      have hx2 : xAt T a (m + k) = ⟨1, 0, 1, a.take (m + k - T.length)⟩ := if_neg hmk
      rw [hx2]
      show answerS (g.upd i ⟨1, 0, 0, a.take (m + k - T.length)⟩) i ⟨1, 0, 0, a.take (m + k - T.length)⟩ T = _
      unfold answerS
      show (match judgeS g.rules g.tens g.minute T with
        | .error r => _
        | .ok (h, n) => _) = _
      rw [hj]
      show ((g.upd i _).upd i _, _) = _
      rw [upd_upd]
      rfl
  · have hx : xAt T a m = ⟨1, 0, 1, a.take (m - T.length)⟩ := if_neg hm
    have hx2 : xAt T a (m + k) = ⟨1, 0, 1, a.take (m + k - T.length)⟩ := if_neg (by omega)
    rw [hx, hx2, if_neg (by omega)]
    have hd : ((T ++ a).drop m).take k = (a.drop (m - T.length)).take k := by rw [List.drop_append, List.drop_eq_nil_of_le (by omega), List.nil_append]
    have ht : a.take (m - T.length) ++ (a.drop (m - T.length)).take k = a.take (m + k - T.length) := by
      rw [show m + k - T.length = (m - T.length) + k from by omega]
      exact List.take_add.symm
    rw [hd]
    unfold clientAt
    simp only [ht]
    rfl

theorem sendS_one {k n : Int} {s : List UInt8} (h : s.isEmpty = false) : sendS k n s = [⟨k, n, s, 0⟩] := by
  unfold sendS
  rw [h]
  rfl
/-- Whatever a client says: it is refused, and gone; or it is there, and one event at most came. -/
theorem client_kind (g : GateS) (i : Nat) (c : ConnS) (s : List UInt8) :
    (∀ e ∈ (clientAt g i c s).2, e.conn = (c.num : Int)) ∧
    (((clientAt g i c s).2.length = 2 ∧ ∃ c', (clientAt g i c s).1 = (g.upd i c').drop c.num ∧ c'.num = c.num) ∨ ((clientAt g i c s).2.length ≤ 1 ∧ ∃ c', (clientAt g i c s).1 = g.upd i c' ∧ c'.num = c.num)) := by
  unfold clientAt
  split
  · refine ⟨fun e he => ?_, .inr ⟨sendS_len _ _ _, _, rfl, rfl⟩⟩
    unfold sendS at he
    split at he
    · cases he
    · simp only [List.mem_singleton] at he
      rw [he]
  · split
    · exact ⟨fun e he => (by cases he), .inr ⟨by simp, _, rfl, rfl⟩⟩
    · split
      · exact ⟨fun e he => (by cases he), .inr ⟨by simp, _, rfl, rfl⟩⟩
      · rename_i h rest _
        unfold answerS
        split
        · rename_i r hr
          rw [sendS_one (judge_err hr).1]
          refine ⟨fun e he => ?_, .inl ⟨rfl, _, rfl, rfl⟩⟩
          simp only [List.cons_append, List.nil_append, List.mem_cons, List.not_mem_nil, or_false] at he
          rcases he with rfl | rfl <;> rfl
        · rename_i h' n' hr
          refine ⟨fun e he => ?_, .inr ⟨by simp, _, upd_upd _ _ _ _, rfl⟩⟩
          simp only [List.mem_singleton] at he
          rw [he]
end Plain
end Go.Proofs.YtfkggpminmonmaaGreatDoor
/-
  Plain: two gateways, two clients: what the statement 'Apart' does with them.
-/
namespace Go.Proofs.YtfkggpminmonmaaGreatDoor
namespace Plain
def l0 : List RawR := [⟨0, 0, 19, 0, 0, 0, 0, 0⟩]
def q0 : AskR := ⟨0, 0, 443, 0⟩
def exB : List UInt8 := [101, 120, 97, 109, 112, 108, 101, 46, 99, 111, 109]
def annB : List UInt8 := [97, 108, 108, 111, 119, 32, 97, 110, 110, 32, 42, 32, 42, 32, 42, 10]
set_option maxRecDepth 100000 in
theorem l0_text : rulesT l0 = annB := by decide
set_option maxRecDepth 100000 in
theorem q0_host : hostT q0 = exB := by decide
set_option maxRecDepth 100000 in
theorem q0_dec : (decidedK q0 0 (l0.take 40)).1 = true := by decide
theorem l0_new (n : Int) : newS annB (usersT n) 0 = .ok (gateT l0 n 0) := by
  have := new_made l0 n 0 (by decide)
  rw [l0_text] at this
  exact this
/-- The first client's head. -/
def headA (n : Int) : List UInt8 := headT 0 (wordT n 0) exB 443
theorem headA_eq (n : Int) : headT (pickN q0.who 3) (secT n q0 false) (hostT q0) (pickN q0.prt 65536) = headA n := by
  rw [q0_host]; rfl
theorem headA_judge (n : Int) : judgeS (gateT l0 n 0).rules (gateT l0 n 0).tens (gateT l0 n 0).minute (headA n) = .ok (exB, 443) := by
  have := guard_made l0 q0 n false
  rw [headA_eq] at this
  unfold guardS at this
  rw [q0_dec, q0_host] at this
  exact this
theorem headA_short (n : Int) : (headA n).length < 1000 := by
  have := head_short q0 n false
  rw [headA_eq] at this
  exact this
theorem headA_body (n : Int) : headA n = bodyOf exB 443 (b64 (tenantS 0 ++ [58] ++ wordT n 0)) ++ endB := headT_body _ _ _ _
theorem exB_ok : HostOk exB := by rw [← q0_host]; exact hostT_ok q0
theorem headA_cut (n : Int) : cutHead (headA n) = some (headA n, []) ∧ ∀ m, m < (headA n).length → cutHead ((headA n).take m) = none := by
  have h := headA_short n
  rw [headA_body] at h ⊢
  exact cut_made exB_ok 443 (b64_bytes _) h

/-- Two gateways and two clients, when m bytes of the first client's text have come. -/
structure Ap (n : Int) (a : List UInt8) (m L : Nat) (ov : Bool) (G H : GateS) (P : List EvS) : Prop where
  one : H = { gateT l0 n 0 with last := 1, conns := [xAt (headA n) a m] }
  two : ∃ ys, G = { gateT l0 n 0 with last := 2, conns := xAt (headA n) a m :: ys } ∧ ((ov = true ∧ ys = []) ∨ (ov = false ∧ ∃ y, ys = [y] ∧ y.num = 2 ∧ y.wait.length ≤ L))
  evs : P = if m < (headA n).length then [] else [⟨1, 1, exB, 443⟩]
theorem one_ok {n : Int} {c : ConnS} (hc : c.num = 1) : GOk { gateT l0 n 0 with last := 1, conns := [c] } := by
  refine ⟨by simp, by simp [gateT, tensT, usersT], fun i j c d hi hj _ => ?_, fun d hd => ?_, by simp⟩
  · simp only [List.getElem?_singleton] at hi hj
    split at hi <;> split at hj
    · omega
    all_goals simp at *
  · simp only [List.mem_singleton] at hd
    rw [hd, hc]
    exact Nat.le_refl _
theorem two_ok {n : Int} {c : ConnS} {ys : List ConnS} (hc : c.num = 1) (hy : ys = [] ∨ ∃ y, ys = [y] ∧ y.num = 2) : GOk { gateT l0 n 0 with last := 2, conns := c :: ys } := by
  rcases hy with rfl | ⟨y, rfl, hy2⟩
  · refine ⟨by simp, by simp [gateT, tensT, usersT], fun i j c d hi hj _ => ?_, fun d hd => ?_, by simp⟩
    · simp only [List.getElem?_singleton] at hi hj
      split at hi <;> split at hj
      · omega
      all_goals simp at *
    · simp only [List.mem_singleton] at hd
      rw [hd, hc]
      exact Nat.le_succ _
  · refine ⟨by simp, by simp [gateT, tensT, usersT], ?_, fun d hd => ?_, by simp⟩
    · refine nodup_nums ?_
      simp [hc, hy2]
    · simp only [List.mem_cons, List.not_mem_nil, or_false] at hd
      rcases hd with rfl | rfl
      · rw [hc]; exact Nat.le_succ _
      · rw [hy2]; exact Nat.le_refl _
theorem Ap.okH {n : Int} {a : List UInt8} {m L : Nat} {ov : Bool} {G H : GateS} {P : List EvS} (h : Ap n a m L ov G H P) : GOk H := by
  rw [h.one]; exact one_ok (xAt_num _ _ _)
theorem Ap.okG {n : Int} {a : List UInt8} {m L : Nat} {ov : Bool} {G H : GateS} {P : List EvS} (h : Ap n a m L ov G H P) : GOk G := by
  obtain ⟨ys, hG, hy⟩ := h.two
  rw [hG]
  refine two_ok (xAt_num _ _ _) ?_
  rcases hy with ⟨_, h⟩ | ⟨_, y, h1, h2, _⟩
  · exact .inl h
  · exact .inr ⟨y, h1, h2⟩
theorem Ap.getG {n : Int} {a : List UInt8} {m L : Nat} {ov : Bool} {G H : GateS} {P : List EvS} (h : Ap n a m L ov G H P) {k : Nat} {c : ConnS} (hk : G.conns[k]? = some c) (hc : (c.num : Int) = 1) : k = 0 ∧ c = xAt (headA n) a m := by
  obtain ⟨ys, hG, hy⟩ := h.two
  have h0 : G.conns[0]? = some (xAt (headA n) a m) := by rw [hG]; rfl
  have := h.okG.nums k 0 c _ hk h0 (by rw [xAt_num]; omega)
  subst this
  rw [h0] at hk
  cases hk
  exact ⟨rfl, rfl⟩
theorem Ap.getH {n : Int} {a : List UInt8} {m L : Nat} {ov : Bool} {G H : GateS} {P : List EvS} (h : Ap n a m L ov G H P) {k : Nat} {c : ConnS} (hk : H.conns[k]? = some c) (hc : (c.num : Int) = 1) : k = 0 ∧ c = xAt (headA n) a m := by
  have h0 : H.conns[0]? = some (xAt (headA n) a m) := by rw [h.one]; rfl
  have := h.okH.nums k 0 c _ hk h0 (by rw [xAt_num]; omega)
  subst this
  rw [h0] at hk
  cases hk
  exact ⟨rfl, rfl⟩
/-- What the first client's next piece brings. -/
def evX (n : Int) (m k : Nat) : List EvS := if m < (headA n).length ∧ (headA n).length ≤ m + k then [⟨1, 1, exB, 443⟩] else []
theorem evX_len (n : Int) (m k : Nat) : (evX n m k).length ≤ 1 := by unfold evX; split <;> simp
theorem Ap.stepX {n : Int} {a : List UInt8} {m L : Nat} {ov : Bool} {G H : GateS} {P : List EvS} (h : Ap n a m L ov G H P) (k : Nat) :
    (clientAt G 0 (xAt (headA n) a m) (((headA n ++ a).drop m).take k)).2 = evX n m k ∧ (clientAt H 0 (xAt (headA n) a m) (((headA n ++ a).drop m).take k)).2 = evX n m k ∧
    Ap n a (m + k) L ov (clientAt G 0 (xAt (headA n) a m) (((headA n ++ a).drop m).take k)).1 (clientAt H 0 (xAt (headA n) a m) (((headA n ++ a).drop m).take k)).1 (P ++ evX n m k) := by
  obtain ⟨ys, hG, hy⟩ := h.two
  have hj := headA_judge n
  obtain ⟨hc1, hc2⟩ := headA_cut n
  have sG := x_step (g := G) (i := 0) (a := a) (by rw [hG]; exact hj) (headA_short n) hc1 hc2 m k
  have sH := x_step (g := H) (i := 0) (a := a) (by rw [h.one]; exact hj) (headA_short n) hc1 hc2 m k
  rw [sG, sH]
  refine ⟨rfl, rfl, by rw [h.one]; rfl, ⟨ys, by rw [hG]; rfl, hy⟩, ?_⟩
  rw [h.evs]
  unfold evX
  by_cases h1 : m < (headA n).length
  · by_cases h2 : (headA n).length ≤ m + k
    · rw [if_pos h1, if_pos ⟨h1, h2⟩, if_neg (by omega)]; rfl
    · rw [if_pos h1, if_neg (by omega), if_pos (by omega)]; rfl
  · rw [if_neg h1, if_neg (by omega), if_neg (by omega)]; rfl
/-- What the second client's next piece brings. -/
theorem Ap.stepY {n : Int} {a : List UInt8} {m L : Nat} {G H : GateS} {P : List EvS} (h : Ap n a m L false G H P) {k : Nat} {c : ConnS} (hk : G.conns[k]? = some c) (hc : (c.num : Int) = 2) (t : List UInt8) :
    (∀ e ∈ (clientAt G k c t).2, e.conn = 2) ∧ (clientAt G k c t).2.length ≤ 2 ∧ Ap n a m (L + t.length) (decide ((clientAt G k c t).2.length = 2)) (clientAt G k c t).1 H P := by
  obtain ⟨ys, hG, hy⟩ := h.two
  rcases hy with ⟨h1, _⟩ | ⟨_, y, rfl, hy2, hyl⟩
  · cases h1
  have h1 : G.conns[1]? = some y := by rw [hG]; rfl
  have hk1 := h.okG.nums k 1 c y hk h1 (by rw [hy2]; omega)
  subst hk1
  rw [h1] at hk
  cases hk
  obtain ⟨hev, hkind⟩ := client_kind G 1 c t
  rw [hy2] at hev hkind
  refine ⟨hev, clientAt_len _ _ _ _, ?_⟩
  rcases hkind with ⟨hl2, c', hg', hc'⟩ | ⟨hl1, c', hg', hc'⟩
  · refine ⟨h.one, ⟨[], ?_, .inl ⟨by rw [hl2]; rfl, rfl⟩⟩, h.evs⟩
    rw [hg', hG]
    simp [GateS.drop, GateS.upd, xAt_num, hc']
  · have hmem : c' ∈ (clientAt G 1 c t).1.conns := by
      rw [hg']
      exact List.mem_of_getElem? (upd_get h1)
    refine ⟨h.one, ⟨[c'], by rw [hg', hG]; rfl, .inr ⟨by rw [decide_eq_false]; omega, c', rfl, hc', ?_⟩⟩, h.evs⟩
    rcases clientAt_waits t hmem with h2 | h2
    · rw [hG] at h2
      simp only [List.mem_cons, List.not_mem_nil, or_false] at h2
      rcases h2 with h2 | h2
      · rw [h2, xAt_num] at hc'
        cases hc'
      · rw [h2]; omega
    · omega
end Plain
end Go.Proofs.YtfkggpminmonmaaGreatDoor

/-
  The laws' world: one gateway more.
-/
import Derived.Test.YtdmaffciijmdcaaGreatDoorPL5C
namespace Go.Proofs.YtdmaffciijmdcaaGreatDoor
open Go.RowKit Plain

/-- The book's two rows of gateways grow. -/
structure BInv (w x : World) (B wb : Nat) (v0 v1 x0 x1 : Value) (gs rs : List Value) : Prop where
  c0 : x.cell? ⟨wb, 0, none⟩ = some x0
  c1 : x.cell? ⟨wb, 1, none⟩ = some x1
  c2 : x.cell? ⟨wb, 2, none⟩ = w.cell? ⟨wb, 2, none⟩
  o0 : x.ownsRow B 30 1 x0 gs.length gs
  o1 : x.ownsRow B 76 1 x1 rs.length rs
  b0 : ∀ k, x0.ownBlock = some k → (v0.ownBlock = some k ∨ w.heap.size ≤ k) ∧ k ≠ wb ∧ x1.ownBlock ≠ some k
  b1 : ∀ k, x1.ownBlock = some k → (v1.ownBlock = some k ∨ w.heap.size ≤ k) ∧ k ≠ wb
  wbl : wb < w.heap.size
  fz : ∀ p, x.frozen? ⟨wb, p, none⟩ = w.frozen? ⟨wb, p, none⟩
  os : x.os = w.os
  tape : x.tape = w.tape
  output : x.output = w.output
  size : w.heap.size ≤ x.heap.size
  block : ∀ k, k < w.heap.size → k ≠ wb → v0.ownBlock ≠ some k → v1.ownBlock ≠ some k → SameAt w x k
theorem BInv.app0 {w x x' : World} {B wb : Nat} {v0 v1 x0 x1 y : Value} {gs rs : List Value} {g cap m : Nat} (h : BInv w x B wb v0 v1 x0 x1 gs rs) (hm : gs.length = m) (T : TypeId) (hown : x'.ownsRow B 30 1 (.slice (some ⟨g, 0, none⟩) (m + 1) cap) (m + 1) (gs ++ [y])) (hg : (x.alloc (.cells #[y] T)).grownBy x' x0.ownBlock) (hat : x0.ownBlock = some g ∨ g = x.heap.size + 1) :
    x'.cell? ⟨wb, 0, none⟩ = some x0 ∧ (∀ p, x'.frozen? ⟨wb, p, none⟩ = w.frozen? ⟨wb, p, none⟩) ∧ BInv w (x'.setCell ⟨wb, 0, none⟩ (.slice (some ⟨g, 0, none⟩) (m + 1) cap)) B wb v0 v1 (.slice (some ⟨g, 0, none⟩) (m + 1) cap) x1 (gs ++ [y]) rs := by
  subst hm
  have hwx : wb < x.heap.size := Nat.lt_of_lt_of_le h.wbl h.size
  have qa : Q x (x.alloc (.cells #[y] T)) := (Q.refl _).alloc _
  have hza : (x.alloc (.cells #[y] T)).heap.size = x.heap.size + 1 := by simp
  have S : ∀ k, k < x.heap.size → x0.ownBlock ≠ some k → SameAt x x' k := fun k hk hne => SameAt.trans' (qa.sameAt hk) (hg.block k (by omega) (fun e => hne e.symm))
  have swb : SameAt x x' wb := S wb hwx (fun e => (h.b0 wb e).2.1 rfl)
  have hl1 := owns_lt h.o1
  have hgw : g ≠ wb := by
    rcases hat with h1 | h1
    · exact (h.b0 g h1).2.1
    · omega
  have hgs := hg.size
  have hx1g : x1.ownBlock ≠ some g := fun e => by
    rcases hat with h1 | h1
    · exact (h.b0 g h1).2.2 e
    · have := (hl1 g e).2; omega
  refine ⟨by rw [swb.cell]; exact h.c0, fun p => by rw [swb.frozen]; exact h.fz p, set_same (u := x0) (by rw [swb.cell]; exact h.c0), ?_, ?_, ?_, ?_, fun k hk => ?_, fun k hk => ?_, h.wbl, fun p => by rw [World.frozen?_setCell, swb.frozen]; exact h.fz p, hg.os.trans h.os, hg.tape.trans h.tape, hg.output.trans h.output, by have := h.size; simp; omega, fun k h1 h2 h3 h4 => ?_⟩
  · rw [set_other (fun e => by injection e with _ e2; cases e2), swb.cell]; exact h.c1
  · rw [set_other (fun e => by injection e with _ e2; cases e2), swb.cell]; exact h.c2
  · rw [List.length_append]
    exact owns_same hown fun k hk => set_same_at (by
      have : g = k := by simpa [Value.ownBlock] using hk
      rw [← this]; exact hgw)
  · exact owns_same h.o1 fun k hk => SameAt.trans' (S k (hl1 k hk).2 (fun e => (h.b0 k e).2.2 hk)) (set_same_at (h.b1 k hk).2)
  · have e' : g = k := by simpa [Value.ownBlock] using hk
    rw [← e']
    refine ⟨?_, hgw, hx1g⟩
    rcases hat with h1 | h1
    · exact (h.b0 g h1).1
    · exact .inr (by have := h.size; omega)
  · exact h.b1 k hk
  · have hk : k < x.heap.size := Nat.lt_of_lt_of_le h1 h.size
    refine SameAt.trans' (h.block k h1 h2 h3 h4) (SameAt.trans' (S k hk (fun e => ?_)) (set_same_at h2))
    rcases (h.b0 k e).1 with h5 | h5
    · exact h3 h5
    · omega
theorem BInv.app1 {w x x' : World} {B wb : Nat} {v0 v1 x0 x1 y : Value} {gs rs : List Value} {g cap m : Nat} (h : BInv w x B wb v0 v1 x0 x1 gs rs) (hm : rs.length = m) (T : TypeId) (hown : x'.ownsRow B 76 1 (.slice (some ⟨g, 0, none⟩) (m + 1) cap) (m + 1) (rs ++ [y])) (hg : (x.alloc (.cells #[y] T)).grownBy x' x1.ownBlock) (hat : x1.ownBlock = some g ∨ g = x.heap.size + 1) :
    x'.cell? ⟨wb, 1, none⟩ = some x1 ∧ (∀ p, x'.frozen? ⟨wb, p, none⟩ = w.frozen? ⟨wb, p, none⟩) ∧ BInv w (x'.setCell ⟨wb, 1, none⟩ (.slice (some ⟨g, 0, none⟩) (m + 1) cap)) B wb v0 v1 x0 (.slice (some ⟨g, 0, none⟩) (m + 1) cap) gs (rs ++ [y]) := by
  subst hm
  have hwx : wb < x.heap.size := Nat.lt_of_lt_of_le h.wbl h.size
  have qa : Q x (x.alloc (.cells #[y] T)) := (Q.refl _).alloc _
  have hza : (x.alloc (.cells #[y] T)).heap.size = x.heap.size + 1 := by simp
  have S : ∀ k, k < x.heap.size → x1.ownBlock ≠ some k → SameAt x x' k := fun k hk hne => SameAt.trans' (qa.sameAt hk) (hg.block k (by omega) (fun e => hne e.symm))
  have swb : SameAt x x' wb := S wb hwx (fun e => (h.b1 wb e).2 rfl)
  have hl0 := owns_lt h.o0
  have hgw : g ≠ wb := by
    rcases hat with h1 | h1
    · exact (h.b1 g h1).2
    · omega
  have hgs := hg.size
  have hx0g : x0.ownBlock ≠ some g := fun e => by
    rcases hat with h1 | h1
    · exact (h.b0 g e).2.2 h1
    · have := (hl0 g e).2; omega
  refine ⟨by rw [swb.cell]; exact h.c1, fun p => by rw [swb.frozen]; exact h.fz p, ?_, set_same (u := x1) (by rw [swb.cell]; exact h.c1), ?_, ?_, ?_, fun k hk => ?_, fun k hk => ?_, h.wbl, fun p => by rw [World.frozen?_setCell, swb.frozen]; exact h.fz p, hg.os.trans h.os, hg.tape.trans h.tape, hg.output.trans h.output, by have := h.size; simp; omega, fun k h1 h2 h3 h4 => ?_⟩
  · rw [set_other (fun e => by injection e with _ e2; cases e2), swb.cell]; exact h.c0
  · rw [set_other (fun e => by injection e with _ e2; cases e2), swb.cell]; exact h.c2
  · exact owns_same h.o0 fun k hk => SameAt.trans' (S k (hl0 k hk).2 (h.b0 k hk).2.2) (set_same_at (h.b0 k hk).2.1)
  · rw [List.length_append]
    exact owns_same hown fun k hk => set_same_at (by
      have : g = k := by simpa [Value.ownBlock] using hk
      rw [← this]; exact hgw)
  · refine ⟨(h.b0 k hk).1, (h.b0 k hk).2.1, fun e => ?_⟩
    have e' : g = k := by simpa [Value.ownBlock] using e
    rw [← e'] at hk
    exact hx0g hk
  · have e' : g = k := by simpa [Value.ownBlock] using hk
    rw [← e']
    refine ⟨?_, hgw⟩
    rcases hat with h1 | h1
    · exact (h.b1 g h1).1
    · exact .inr (by have := h.size; omega)
  · have hk : k < x.heap.size := Nat.lt_of_lt_of_le h1 h.size
    refine SameAt.trans' (h.block k h1 h2 h3 h4) (SameAt.trans' (S k hk (fun e => ?_)) (set_same_at h2))
    rcases (h.b1 k e).1 with h5 | h5
    · exact h4 h5
    · omega

theorem BInv.own0 {w x : World} {B wb : Nat} {v0 v1 x0 x1 : Value} {gs rs : List Value} (h : BInv w x B wb v0 v1 x0 x1 gs rs) {m : Nat} (hm : gs.length = m) : x.ownsRow B 30 1 x0 m gs := by
  rw [← hm]; exact h.o0
theorem BInv.own1 {w x : World} {B wb : Nat} {v0 v1 x0 x1 : Value} {gs rs : List Value} (h : BInv w x B wb v0 v1 x0 x1 gs rs) {m : Nat} (hm : rs.length = m) : x.ownsRow B 76 1 x1 m rs := by
  rw [← hm]; exact h.o1
/-- One gateway more, of both. -/
theorem Pl.add {w0 w x : World} {o : Lbl} {wb : Nat} {L : List GG} {vals : List Value} {v0 v1 x0 x1 : Value} {gb rb : Nat} {G R : GateS} {r r2 : Rl} (h : Pl w0 w o wb L vals) (h0 : ∀ k, v0.ownBlock = some k → o k = some (.bk 1)) (h1 : ∀ k, v1.ownBlock = some k → o k = some (.bk 2)) (hb : BInv w x w0.heap.size wb v0 v1 x0 x1 (L.map (fun y => ptr y.gb) ++ [ptr gb]) (L.map (fun y => ptr y.rb) ++ [ptr rb])) (hG : GwRep r w0.heap.size w gb G) (hR : RGwRep r2 w0.heap.size w rb R) (hr : ∀ b, r b ≠ none → o b = none) (hr2 : ∀ b, r2 b ≠ none → o b = none ∧ r b = none) :
    ∃ o', Pl w0 x o' wb (L ++ [⟨gb, rb, G, R⟩]) vals ∧ ∀ b, b < w.heap.size → o b = none → SameAt w x b := by
  have hl0 := owns_lt hb.o0
  have hl1 := owns_lt hb.o1
  have fresh : ∀ k, w.heap.size ≤ k → o k = none ∧ r k = none ∧ r2 k = none := fun k hk => by
    refine ⟨?_, ?_, ?_⟩
    · cases hx : o k with
      | none => rfl
      | some y => have := (h.lt k (by rw [hx]; simp)).1; omega
    · exact sized hG hk
    · exact rsized hR hk
  obtain ⟨o', ho'⟩ : ∃ o' : Lbl, o' = fun k => if x0.ownBlock = some k then some (.bk 1) else if x1.ownBlock = some k then some (.bk 2) else match r k with
    | some kd => some (.co false L.length kd)
    | none => match r2 k with
      | some kd => some (.co true L.length kd)
      | none => o k := ⟨_, rfl⟩
  have x0l : ∀ k, x0.ownBlock = some k → (o k = some (.bk 1) ∨ o k = none) ∧ r k = none ∧ r2 k = none := fun k hk => by
    rcases (hb.b0 k hk).1 with e | e
    · have e1 := h0 k e
      refine ⟨.inl e1, ?_, ?_⟩
      · cases hx : r k with
        | none => rfl
        | some y => have := hr k (by rw [hx]; simp); rw [e1] at this; cases this
      · cases hx : r2 k with
        | none => rfl
        | some y => have := (hr2 k (by rw [hx]; simp)).1; rw [e1] at this; cases this
    · exact ⟨.inr (fresh k e).1, (fresh k e).2⟩
  have x1l : ∀ k, x1.ownBlock = some k → (o k = some (.bk 2) ∨ o k = none) ∧ r k = none ∧ r2 k = none := fun k hk => by
    rcases (hb.b1 k hk).1 with e | e
    · have e1 := h1 k e
      refine ⟨.inl e1, ?_, ?_⟩
      · cases hx : r k with
        | none => rfl
        | some y => have := hr k (by rw [hx]; simp); rw [e1] at this; cases this
      · cases hx : r2 k with
        | none => rfl
        | some y => have := (hr2 k (by rw [hx]; simp)).1; rw [e1] at this; cases this
    · exact ⟨.inr (fresh k e).1, (fresh k e).2⟩
  have keep : ∀ k ℓ, o k = some ℓ → ℓ ≠ .bk 1 → ℓ ≠ .bk 2 → o' k = some ℓ := fun k ℓ hl n1 n2 => by
    have hrk : r k = none := by
      cases hx : r k with
      | none => rfl
      | some y => have := hr k (by rw [hx]; simp); rw [hl] at this; cases this
    have hr2k : r2 k = none := by
      cases hx : r2 k with
      | none => rfl
      | some y => have := (hr2 k (by rw [hx]; simp)).1; rw [hl] at this; cases this
    rw [ho']
    dsimp only
    rw [if_neg (fun e => by rcases (x0l k e).1 with e1 | e1 <;> rw [hl] at e1 <;> cases e1; exact n1 rfl), if_neg (fun e => by rcases (x1l k e).1 with e1 | e1 <;> rw [hl] at e1 <;> cases e1; exact n2 rfl), hrk, hr2k]
    exact hl
  have isr : ∀ k kd, r k = some kd → o' k = some (.co false L.length kd) := fun k kd hk => by
    rw [ho']
    dsimp only
    rw [if_neg (fun e => by rw [(x0l k e).2.1] at hk; cases hk), if_neg (fun e => by rw [(x1l k e).2.1] at hk; cases hk), hk]
  have isr2 : ∀ k kd, r2 k = some kd → o' k = some (.co true L.length kd) := fun k kd hk => by
    rw [ho']
    dsimp only
    rw [if_neg (fun e => by rw [(x0l k e).2.2] at hk; cases hk), if_neg (fun e => by rw [(x1l k e).2.2] at hk; cases hk), (hr2 k (by rw [hk]; simp)).2, hk]
  have back : ∀ k ℓ, o' k = some ℓ → ℓ = .bk 1 ∨ ℓ = .bk 2 ∨ (∃ kd, r k = some kd ∧ ℓ = .co false L.length kd) ∨ (∃ kd, r2 k = some kd ∧ ℓ = .co true L.length kd) ∨ o k = some ℓ := fun k ℓ hl => by
    rw [ho'] at hl
    dsimp only at hl
    split at hl
    · injection hl with hl; exact .inl hl.symm
    · split at hl
      · injection hl with hl; exact .inr (.inl hl.symm)
      · split at hl
        · rename_i kd hkd
          injection hl with hl; exact .inr (.inr (.inl ⟨kd, hkd, hl.symm⟩))
        · split at hl
          · rename_i kd hkd
            injection hl with hl; exact .inr (.inr (.inr (.inl ⟨kd, hkd, hl.symm⟩)))
          · exact .inr (.inr (.inr (.inr hl)))
  have sm : ∀ k, k < w.heap.size → (∀ n, o k = some (.bk n) → n ≠ 0 ∧ n ≠ 1 ∧ n ≠ 2) → SameAt w x k := fun k hk hl => by
    refine hb.block k hk (fun e => ?_) (fun e => ?_) (fun e => ?_)
    · exact (hl 0 (by rw [e]; exact h.bk.wbl)).1 rfl
    · exact (hl 1 (h0 k e)).2.1 rfl
    · exact (hl 2 (h1 k e)).2.2 rfl
  have smc : ∀ k c i kd, o k = some (.co c i kd) → SameAt w x k := fun k c i kd e => sm k (h.lt k (by rw [e]; simp)).1 (fun n e2 => by rw [e] at e2; cases e2)
  have smn : ∀ k, k < w.heap.size → o k = none → SameAt w x k := fun k hk e => sm k hk (fun n e2 => by rw [e] at e2; cases e2)
  have only' : ∀ b c i k, o b = some (.co c i k) → i < L.length := h.only
  have pjo : ∀ c i, i < L.length → o'.pj c i = o.pj c i := fun c i hi => by
    funext k
    cases hx : o.pj c i k with
    | some kd => rw [pj_some]; exact keep k _ (pj_some.1 hx) (by intro e; cases e) (by intro e; cases e)
    | none =>
      refine pj_none fun kd e => ?_
      rcases back k _ e with e1 | e1 | ⟨_, _, e1⟩ | ⟨_, _, e1⟩ | e1
      · cases e1
      · cases e1
      · injection e1 with _ e2 _; omega
      · injection e1 with _ e2 _; omega
      · rw [pj_some.2 e1] at hx; cases hx
  have pjr : o'.pj false L.length = r := by
    funext k
    cases hx : r k with
    | some kd => rw [pj_some]; exact isr k kd hx
    | none =>
      refine pj_none fun kd e => ?_
      rcases back k _ e with e1 | e1 | ⟨kd', e0, e1⟩ | ⟨_, _, e1⟩ | e1
      · cases e1
      · cases e1
      · rw [e0] at hx; cases hx
      · cases e1
      · have := only' k _ _ _ e1; omega
  have pjr2 : o'.pj true L.length = r2 := by
    funext k
    cases hx : r2 k with
    | some kd => rw [pj_some]; exact isr2 k kd hx
    | none =>
      refine pj_none fun kd e => ?_
      rcases back k _ e with e1 | e1 | ⟨_, _, e1⟩ | ⟨kd', e0, e1⟩ | e1
      · cases e1
      · cases e1
      · cases e1
      · rw [e0] at hx; cases hx
      · have := only' k _ _ _ e1; omega
  have hq : Q w0 x := Below.trans h.q ⟨hb.os, hb.tape, hb.output, hb.size, fun k hk => by
    have hk' : k < w.heap.size := Nat.lt_of_lt_of_le hk h.q.size
    refine smn k hk' ?_
    cases hx : o k with
    | none => rfl
    | some y => have := (h.lt k (by rw [hx]; simp)).2; omega⟩
  refine ⟨o', ⟨hq, fun k hk => ?_, fun i y hy => ?_, fun i y hy => ?_, fun k c i kd e => ?_, ?_⟩, smn⟩
  · cases hx : o' k with
    | none => exact absurd hx hk
    | some ℓ =>
      have hsz := hb.size
      by_cases e0 : x0.ownBlock = some k
      · exact ⟨(hl0 k e0).2, (hl0 k e0).1⟩
      by_cases e1 : x1.ownBlock = some k
      · exact ⟨(hl1 k e1).2, (hl1 k e1).1⟩
      cases hrk : r k with
      | some kd => exact ⟨Nat.lt_of_lt_of_le (hG.lt k (by rw [hrk]; simp)) hsz, hG.low k (by rw [hrk]; simp)⟩
      | none =>
        cases hr2k : r2 k with
        | some kd => exact ⟨Nat.lt_of_lt_of_le (hR.lt k (by rw [hr2k]; simp)) hsz, hR.low k (by rw [hr2k]; simp)⟩
        | none =>
          have : o k ≠ none := fun e => by
            have h2 : o' k = none := by
              rw [ho']
              dsimp only
              rw [if_neg e0, if_neg e1, hrk, hr2k]
              exact e
            rw [hx] at h2
            cases h2
          exact ⟨Nat.lt_of_lt_of_le (h.lt k this).1 hsz, (h.lt k this).2⟩
  · by_cases hi : i < L.length
    · rw [List.getElem?_append_left hi] at hy
      rw [pjo false i hi]
      exact (h.gw i y hy).same (fun b hb2 => by obtain ⟨kd, e⟩ := pj_ne hb2; exact smc b _ _ _ e) hb.size
    · have hl := (List.getElem?_eq_some_iff.1 hy).1
      rw [List.length_append, List.length_singleton] at hl
      have e : i = L.length := by omega
      subst e
      rw [List.getElem?_append_right (Nat.le_refl _), Nat.sub_self] at hy
      cases hy
      rw [pjr]
      exact hG.same (fun b hb2 => smn b (hG.lt b hb2) (hr b hb2)) hb.size
  · by_cases hi : i < L.length
    · rw [List.getElem?_append_left hi] at hy
      rw [pjo true i hi]
      exact (h.rg i y hy).same (fun b hb2 => by obtain ⟨kd, e⟩ := pj_ne hb2; exact smc b _ _ _ e) hb.size
    · have hl := (List.getElem?_eq_some_iff.1 hy).1
      rw [List.length_append, List.length_singleton] at hl
      have e : i = L.length := by omega
      subst e
      rw [List.getElem?_append_right (Nat.le_refl _), Nat.sub_self] at hy
      cases hy
      rw [pjr2]
      exact hR.same (fun b hb2 => smn b (hR.lt b hb2) (hr2 b hb2).1) hb.size
  · rw [List.length_append, List.length_singleton]
    rcases back k _ e with e1 | e1 | ⟨_, _, e1⟩ | ⟨_, _, e1⟩ | e1
    · cases e1
    · cases e1
    · injection e1 with _ e2 _; omega
    · injection e1 with _ e2 _; omega
    · have := only' k _ _ _ e1; omega
  · obtain ⟨v2, d1, d2, d3⟩ := h.bk.c2
    have g1 : (L ++ [(⟨gb, rb, G, R⟩ : GG)]).map (fun y : GG => y.gb) = L.map (fun y => y.gb) ++ [gb] := by simp
    have g2 : (L ++ [(⟨gb, rb, G, R⟩ : GG)]).map (fun y : GG => y.rb) = L.map (fun y => y.rb) ++ [rb] := by simp
    have g3 : (L.map (fun y : GG => y.gb) ++ [gb]).map ptr = L.map (fun y => ptr y.gb) ++ [ptr gb] := by simp
    have g4 : (L.map (fun y : GG => y.rb) ++ [rb]).map ptr = L.map (fun y => ptr y.rb) ++ [ptr rb] := by simp
    rw [g1, g2]
    refine ⟨keep wb _ h.bk.wbl (by intro e; cases e) (by intro e; cases e), fun p => by rw [hb.fz]; exact h.bk.fz p, ⟨x0, hb.c0, ?_, fun k hk => by rw [ho']; dsimp only; rw [if_pos hk]⟩, ⟨x1, hb.c1, ?_, fun k hk => by rw [ho']; dsimp only; rw [if_neg (fun e => (hb.b0 k e).2.2 hk), if_pos hk]⟩, ⟨v2, by rw [hb.c2]; exact d1, owns_same d2 fun k hk => sm k (h.lt k (by rw [d3 k hk]; simp)).1 (fun n e => by rw [d3 k hk] at e; injection e with e; injection e with e; omega), fun k hk => keep k _ (d3 k hk) (by intro e; cases e) (by intro e; cases e)⟩, h.bk.four, fun i v hv => ?_⟩
    · rw [g3]
      have := hb.o0
      simpa using this
    · rw [g4]
      have := hb.o1
      simpa using this
    · obtain ⟨m1, m2⟩ := h.bk.held i v hv
      exact ⟨m1.same fun k hk => sm k (h.lt k (by rw [m2 k hk]; simp)).1 (fun n e => by rw [m2 k hk] at e; cases e), fun k hk => keep k _ (m2 k hk) (by intro e; cases e) (by intro e; cases e)⟩
end Go.Proofs.YtdmaffciijmdcaaGreatDoor

/-
  A text of rules: what Compile answers; how the rules lie in memory while they are read, and behind it.
-/
import Derived.Test.YtdmaffciijmdcaaGreatDoorAskToCaught
import Derived.Deep.AppendLies
namespace Go.Proofs.YtdmaffciijmdcaaGreatDoor
namespace Plain

/-- Lines from number n on: the rules, or the error and its line. -/
def rulesOf : Nat → List (List UInt8) → Except (Nat × Nat) (List RuleS)
  | _, [] => .ok []
  | n, [l] => if l = [] then .ok [] else if 40 < n then .error (2, n) else .error (3, n)
  | n, l :: m :: ls => if 40 < n then .error (2, n) else match readRule l with
    | none => .error (3, n)
    | some r => match rulesOf (n + 1) (m :: ls) with
      | .error e => .error e
      | .ok rs => .ok (r :: rs)
def compileS (l : List UInt8) : Except (Nat × Nat) (List RuleS) := if 4000 < l.length then .error (1, 0) else rulesOf 1 (parts 10 l)

/-- What was read goes ahead. -/
def aheadS (rs : List RuleS) : Except (Nat × Nat) (List RuleS) → Except (Nat × Nat) (List RuleS)
  | .error e => .error e
  | .ok more => .ok (rs ++ more)

theorem rulesOf_nil (n : Nat) : rulesOf n (parts 10 []) = .ok [] := by simp [parts, rulesOf]
theorem rulesOf_many {n : Nat} {l : List UInt8} (h : 40 < n) (hl : l ≠ []) : rulesOf n (parts 10 l) = .error (2, n) := by
  rw [parts_cut]
  cases hc : cutAt 10 l with
  | none => simp [rulesOf, h, hl]
  | some x =>
    obtain ⟨a, r⟩ := x
    cases hp : parts 10 r with
    | nil => exact absurd hp (parts_ne _ _)
    | cons m ls => simp [rulesOf, h, hp]
theorem rulesOf_miss {n : Nat} {l : List UInt8} (h : ¬ 40 < n) (hl : l ≠ []) (hc : cutAt 10 l = none) : rulesOf n (parts 10 l) = .error (3, n) := by
  rw [parts_cut, hc]; simp [rulesOf, h, hl]
theorem rulesOf_bad {n : Nat} {l a r : List UInt8} (h : ¬ 40 < n) (hc : cutAt 10 l = some (a, r)) (hr : readRule a = none) : rulesOf n (parts 10 l) = .error (3, n) := by
  rw [parts_cut, hc]
  cases hp : parts 10 r with
  | nil => exact absurd hp (parts_ne _ _)
  | cons m ls => simp [rulesOf, h, hp, hr]
theorem rulesOf_good {n : Nat} {l a r : List UInt8} {x : RuleS} (h : ¬ 40 < n) (hc : cutAt 10 l = some (a, r)) (hr : readRule a = some x) : rulesOf n (parts 10 l) = aheadS [x] (rulesOf (n + 1) (parts 10 r)) := by
  rw [parts_cut, hc]
  cases hp : parts 10 r with
  | nil => exact absurd hp (parts_ne _ _)
  | cons m ls =>
    simp only [rulesOf, h, if_false, hp, hr]
    cases rulesOf (n + 1) (m :: ls) <;> rfl
theorem aheadS_aheadS (a b : List RuleS) (x : Except (Nat × Nat) (List RuleS)) : aheadS a (aheadS b x) = aheadS (a ++ b) x := by
  cases x <;> simp [aheadS]
theorem aheadS_nil (x : Except (Nat × Nat) (List RuleS)) : aheadS [] x = x := by cases x <;> rfl
end Plain
open Go.RowKit Plain

/-- Rules and the cells that hold them, five a rule. -/
def ValsRep (S : Nat → Prop) (w : World) : List RuleS → List Value → Prop
  | [], vs => vs = []
  | r :: rs, vs => ∃ vt vh vp vm rest, vs = .bool r.allow :: vt :: vh :: vp :: vm :: rest ∧ RuleRep S w r vt vh vp vm ∧ ValsRep S w rs rest

theorem ValsRep.keeps {S S' : Nat → Prop} {w w' : World} : ∀ {rs : List RuleS} {vs : List Value}, ValsRep S w rs vs → Keeps S S' w w' → ValsRep S' w' rs vs
  | [], _, h, _ => h
  | _ :: _, _, ⟨vt, vh, vp, vm, rest, he, hr, ht⟩, k => ⟨vt, vh, vp, vm, rest, he, hr.keeps k, ValsRep.keeps ht k⟩
theorem ValsRep.snoc {S : Nat → Prop} {w : World} {r : RuleS} {vt vh vp vm : Value} (hr : RuleRep S w r vt vh vp vm) : ∀ {rs : List RuleS} {vs : List Value}, ValsRep S w rs vs → ValsRep S w (rs ++ [r]) (vs ++ [.bool r.allow, vt, vh, vp, vm])
  | [], _, h => by cases h; exact ⟨vt, vh, vp, vm, [], rfl, hr, rfl⟩
  | _ :: _, _, ⟨vt', vh', vp', vm', rest, he, hr', ht⟩ => by subst he; exact ⟨vt', vh', vp', vm', _, rfl, hr', ValsRep.snoc hr ht⟩

/-- The i-th rule's cells. -/
def RuleAt (S : Nat → Prop) (w : World) (g i : Nat) (r : RuleS) : Prop := ∃ vt vh vp vm, w.cell? ⟨g, 5 * i, none⟩ = some (.bool r.allow) ∧ w.cell? ⟨g, 5 * i + 1, none⟩ = some vt ∧ w.cell? ⟨g, 5 * i + 2, none⟩ = some vh ∧ w.cell? ⟨g, 5 * i + 3, none⟩ = some vp ∧ w.cell? ⟨g, 5 * i + 4, none⟩ = some vm ∧ RuleRep S w r vt vh vp vm

theorem ValsRep.at {S : Nat → Prop} {w : World} {g : Nat} : ∀ {rs : List RuleS} {vs : List Value} (k : Nat), ValsRep S w rs vs → (∀ j u, vs[j]? = some u → w.cell? ⟨g, 5 * k + j, none⟩ = some u) → ∀ i r, rs[i]? = some r → RuleAt S w g (k + i) r
  | [], _, _, _, _, i, r, h => by simp at h
  | r0 :: rs, vs, k, ⟨vt, vh, vp, vm, rest, he, hr, ht⟩, hc, i, r, h => by
    subst he
    cases i with
    | zero =>
      simp at h
      subst h
      exact ⟨vt, vh, vp, vm, hc 0 _ rfl, hc 1 _ rfl, hc 2 _ rfl, hc 3 _ rfl, hc 4 _ rfl, hr⟩
    | succ i =>
      have := ValsRep.at (k + 1) ht (fun j u hj => by
        have := hc (j + 5) u (by simpa using hj)
        rwa [show 5 * k + (j + 5) = 5 * (k + 1) + j by omega] at this) i r (by simpa using h)
      rwa [show k + 1 + i = k + (i + 1) by omega] at this

/-- A policy in memory. -/
def PolicyRep (S : Nat → Prop) (w : World) (pb : Nat) (rs : List RuleS) : Prop :=
  S pb ∧ rs.length ≤ 40 ∧ ((rs = [] ∧ w.cell? ⟨pb, 0, none⟩ = some (.slice none 0 0)) ∨
    ∃ g cap, w.cell? ⟨pb, 0, none⟩ = some (.slice (some ⟨g, 0, none⟩) rs.length cap) ∧ rs.length ≤ cap ∧ S g ∧ ∀ i r, rs[i]? = some r → RuleAt S w g i r)

theorem RuleAt.keeps {S S' : Nat → Prop} {w w' : World} {g i : Nat} {r : RuleS} (h : RuleAt S w g i r) (hg : S g) (k : Keeps S S' w w') : RuleAt S' w' g i r := by
  obtain ⟨vt, vh, vp, vm, h0, h1, h2, h3, h4, hr⟩ := h
  have e := (k g hg).2
  exact ⟨vt, vh, vp, vm, by rw [e]; exact h0, by rw [e]; exact h1, by rw [e]; exact h2, by rw [e]; exact h3, by rw [e]; exact h4, hr.keeps k⟩
theorem PolicyRep.keeps {S S' : Nat → Prop} {w w' : World} {pb : Nat} {rs : List RuleS} (h : PolicyRep S w pb rs) (k : Keeps S S' w w') : PolicyRep S' w' pb rs := by
  obtain ⟨hs, h40, h⟩ := h
  refine ⟨(k pb hs).1, h40, ?_⟩
  rcases h with ⟨h1, h2⟩ | ⟨g, cap, h1, h2, h3, h4⟩
  · exact .inl ⟨h1, by rw [(k pb hs).2]; exact h2⟩
  · exact .inr ⟨g, cap, by rw [(k pb hs).2]; exact h1, h2, (k g h3).1, fun i r hi => (h4 i r hi).keeps h3 k⟩

/-- While the rules are read. -/
structure CInv (w wr : World) (pb : Nat) (rs : List RuleS) (sv : Value) (vals : List Value) : Prop where
  q : Q w wr
  hpb : w.heap.size ≤ pb
  cell : wr.cell? ⟨pb, 0, none⟩ = some sv
  fz : wr.frozen? ⟨pb, 0, none⟩ = false
  own : wr.ownsRow (pb + 1) 148 5 sv rs.length vals
  reps : ValsRep (fun b => New w wr b ∧ b ≠ pb ∧ some b ≠ sv.ownBlock) wr rs vals

theorem owns_lt {w : World} {base : Nat} {e : TypeId} {size : Nat} {v : Value} {n : Nat} {xs : List Value} (h : w.ownsRow base e size v n xs) : ∀ k, v.ownBlock = some k → base ≤ k ∧ k < w.heap.size := by
  intro k hk
  rcases h.2 with ⟨rfl, _⟩ | ⟨g, cap, cur, rfl, hb, hg, _⟩
  · simp [Value.ownBlock] at hk
  · simp [Value.ownBlock] at hk
    subst hk
    exact ⟨hb, (Array.getElem?_eq_some_iff.1 hg).1⟩
theorem owns_Q {w w' : World} {base : Nat} {e : TypeId} {size : Nat} {v : Value} {n : Nat} {xs : List Value} (h : w.ownsRow base e size v n xs) (q : Q w w') : w'.ownsRow base e size v n xs := by
  refine ⟨h.1, ?_⟩
  rcases h.2 with hn | ⟨g, cap, cur, hv, hb, hg, r⟩
  · exact .inl hn
  · exact .inr ⟨g, cap, cur, hv, hb, by rw [Below.block q g (Array.getElem?_eq_some_iff.1 hg).1]; exact hg, r⟩

theorem CInv.more {w wr W w' : World} {pb : Nat} {rs : List RuleS} {sv : Value} {vals : List Value} (h : CInv w wr pb rs sv vals) (qW : Q wr W) {r : RuleS} {vt vh vp vm : Value} (hr : RuleRep (New wr W) W r vt vh vp vm)
    {g cap : Nat} (hown : w'.ownsRow (pb + 1) 148 5 (.slice (some ⟨g, 0, none⟩) (rs.length + 1) cap) (rs.length + 1) (vals ++ [.bool r.allow, vt, vh, vp, vm]))
    (hg : W.grownBy w' sv.ownBlock) (hat : sv.ownBlock = some g ∨ g = W.heap.size) (_hlt : g < w'.heap.size) :
    CInv w (w'.setCell ⟨pb, 0, none⟩ (.slice (some ⟨g, 0, none⟩) (rs.length + 1) cap)) pb (rs ++ [r]) (.slice (some ⟨g, 0, none⟩) (rs.length + 1) cap) (vals ++ [.bool r.allow, vt, vh, vp, vm]) := by
  have hp := Q.lt h.cell
  have hpW : pb < W.heap.size := Nat.lt_of_lt_of_le hp qW.size
  have hol := owns_lt h.own
  have hpo : some pb ≠ sv.ownBlock := fun e => by have := (hol pb e.symm).1; omega
  have hcW : W.cell? ⟨pb, 0, none⟩ = some sv := qW.cell h.cell
  have hc' : w'.cell? ⟨pb, 0, none⟩ = some sv := by rw [hg.cell_far ⟨pb, 0, none⟩ hpW hpo]; exact hcW
  have hpg : ¬ pb = g := fun e => by
    rcases hat with e1 | e1
    · exact hpo (by rw [e]; exact e1.symm)
    · omega
  have hgb : pb + 1 ≤ g := by
    rcases hat with e1 | e1
    · exact (hol g e1).1
    · omega
  have K1 : ∀ b, (b < wr.heap.size ∨ New wr W b) → b ≠ pb → some b ≠ sv.ownBlock → ∀ o, (w'.setCell ⟨pb, 0, none⟩ (.slice (some ⟨g, 0, none⟩) (rs.length + 1) cap)).cell? ⟨b, o, none⟩ = W.cell? ⟨b, o, none⟩ := by
    intro b hb1 hb2 hb3 o
    have hbW : b < W.heap.size := by
      rcases hb1 with hb1 | hb1
      · exact Nat.lt_of_lt_of_le hb1 qW.size
      · exact hb1.2
    rw [set_other (fun e => by injection e with e1 _; exact hb2 e1.symm), hg.cell_far ⟨b, o, none⟩ hbW hb3]
  refine ⟨?_, h.hpb, set_same hc', ?_, ?_, ?_⟩
  · have : Below w.heap.size w w' := Below.grown (h.q.trans qW) hg (h.q.trans qW).size (fun k hk => by have := (hol k hk).1; have := h.hpb; omega)
    exact Q.setCell this h.hpb _
  · rw [World.frozen?_setCell, hg.frozen_far ⟨pb, 0, none⟩ hpW hpo, (Q.cells qW).2 _ _ hp]; exact h.fz
  · rw [List.length_append, List.length_singleton]
    exact ownsRow_setCell_below hown (by show pb < pb + 1; omega) _
  · refine ValsRep.snoc ?_ ?_
    · refine hr.keeps fun b hb => ?_
      have hb0 : b ≠ pb := fun e => by have := hb.1; omega
      have hb1 : some b ≠ sv.ownBlock := fun e => by have := (hol b e.symm).2; have := hb.1; omega
      refine ⟨⟨⟨?_, ?_⟩, hb0, ?_⟩, K1 b (.inr hb) hb0 hb1⟩
      · have := h.q.size; have := hb.1; omega
      · have := hg.size; have := hb.2; simp; omega
      · intro e
        have e' : b = g := by simpa [Value.ownBlock] using e
        rcases hat with e1 | e1
        · exact hb1 (by rw [e']; exact e1.symm)
        · have := hb.2; omega
    · refine h.reps.keeps fun b hb => ?_
      have hbw : b < wr.heap.size := hb.1.2
      refine ⟨⟨⟨hb.1.1, ?_⟩, hb.2.1, ?_⟩, fun o => ?_⟩
      · have := hg.size; have := qW.size; simp; omega
      · intro e
        have e' : b = g := by simpa [Value.ownBlock] using e
        rcases hat with e1 | e1
        · exact hb.2.2 (by rw [e']; exact e1.symm)
        · have := qW.size; omega
      · rw [K1 b (.inl hbw) hb.2.1 hb.2.2 o, (Q.cells qW).1 b o hbw]

/-- When all are read. -/
theorem CInv.done {w wr : World} {pb : Nat} {rs : List RuleS} {sv : Value} {vals : List Value} (h : CInv w wr pb rs sv vals) (h40 : rs.length ≤ 40) : PolicyRep (New w wr) wr pb rs := by
  refine ⟨⟨h.hpb, Q.lt h.cell⟩, h40, ?_⟩
  have hk : Keeps (fun b => New w wr b ∧ b ≠ pb ∧ some b ≠ sv.ownBlock) (New w wr) wr wr := fun b hb => ⟨hb.1, fun _ => rfl⟩
  rcases h.own.2 with ⟨h1, h2⟩ | ⟨g, cap, cur, h1, h2, h3, h4, h5, h6, h7⟩
  · exact .inl ⟨List.length_eq_zero_iff.1 h2, by rw [← h1]; exact h.cell⟩
  · refine .inr ⟨g, cap, by rw [← h1]; exact h.cell, h4, ⟨by have := h.hpb; omega, (Array.getElem?_eq_some_iff.1 h3).1⟩, fun i r hi => ?_⟩
    have := ValsRep.at (g := g) 0 (h.reps.keeps hk) (fun j u hj => by
      have e := cell_of_row wr g (5 * 0 + j) cur 148 (0, 0) h3
      rw [e, Nat.mul_zero, Nat.zero_add]
      rw [← h7, List.getElem?_take] at hj
      split at hj
      · simpa using hj
      · cases hj) i r hi
    rwa [Nat.zero_add] at this
end Go.Proofs.YtdmaffciijmdcaaGreatDoor

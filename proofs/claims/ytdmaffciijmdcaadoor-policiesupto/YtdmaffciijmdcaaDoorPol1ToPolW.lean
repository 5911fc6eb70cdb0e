/-
  The law 'Policies': what is in memory while the policies are gathered.
-/
import Derived.Test.YtdmaffciijmdcaaDoorRDecToLaw1
namespace Go.Proofs.YtdmaffciijmdcaaDoor
namespace Plain
theorem rulesOf_en : ∀ (n : Nat) (ls : List (List UInt8)) (en ln : Nat), rulesOf n ls = .error (en, ln) → en ≠ 0
  | _, [], _, _, h => by cases h
  | n, [l], en, ln, h => by
    unfold rulesOf at h
    split at h
    · cases h
    · split at h <;> cases h <;> decide
  | n, l :: m :: ls, en, ln, h => by
    unfold rulesOf at h
    split at h
    · cases h; decide
    · split at h
      · cases h; decide
      · cases hx : rulesOf (n + 1) (m :: ls) with
        | error e =>
          rw [hx] at h
          obtain ⟨a, b⟩ := e
          cases h
          exact rulesOf_en (n + 1) (m :: ls) _ _ hx
        | ok rs => rw [hx] at h; cases h
theorem comp_en {T : List UInt8} {en ln : Nat} (h : compileS T = .error (en, ln)) : en ≠ 0 := by
  unfold compileS at h
  split at h
  · cases h; decide
  · exact rulesOf_en _ _ _ _ h
end Plain
open Go.RowKit Plain

/-- A question. -/
structure Quest where
  t : List UInt8
  h : List UInt8
  p : Int
  m : Int

/-- Texts that came in. -/
def TextsAt (w : World) (v : Value) (l : List (List UInt8)) : Prop :=
  ∃ a cap, v = .slice a l.length cap ∧ l.length ≤ 2097152 ∧ ∀ i s, l[i]? = some s → s.length ≤ 2097152 ∧ ∃ b off, a = some ⟨b, off, none⟩ ∧ w.cell? ⟨b, off + i, none⟩ = some (.string ⟨s.toArray⟩)
def QuestAt (w : World) (b o : Nat) (q : Quest) : Prop :=
  w.cell? ⟨b, o, none⟩ = some (.string ⟨q.t.toArray⟩) ∧ w.cell? ⟨b, o + 1, none⟩ = some (.string ⟨q.h.toArray⟩) ∧ w.cell? ⟨b, o + 2, none⟩ = some (.int .i64 q.p) ∧ w.cell? ⟨b, o + 3, none⟩ = some (.int .i64 q.m)
theorem QuestAt.stays {w w' : World} {b o : Nat} {q : Quest} (h : QuestAt w b o q) (k : Q w w') : QuestAt w' b o q := by
  obtain ⟨h0, h1, h2, h3⟩ := h
  exact ⟨k.cell h0, k.cell h1, k.cell h2, k.cell h3⟩
/-- Questions that came in. -/
def QuestsAt (w : World) (v : Value) (l : List Quest) : Prop :=
  ∃ a cap, v = .slice a l.length cap ∧ l.length ≤ 2097152 ∧ ∀ i q, l[i]? = some q → q.t.length ≤ 2097152 ∧ q.h.length ≤ 2097152 ∧ ∃ b off, a = some ⟨b, off, none⟩ ∧ QuestAt w b (off + i * 4) q

/-- A policy and its rules in memory. -/
def PolEl (S : Nat → Prop) (w : World) (a b : Value) (x : List RuleS × List (List (List UInt8))) : Prop :=
  (∃ pb, a = .pointer (some ⟨pb, 0, none⟩) ∧ PolicyRep S w pb x.1) ∧ RowsAt S w b x.2 ∧ AllRows x.2 x.1 ∧ ∀ row ∈ x.2, ∀ s ∈ row, s.length ≤ 4000
theorem PolEl.keeps {S S' : Nat → Prop} {w w' : World} {a b : Value} {x : List RuleS × List (List (List UInt8))} (h : PolEl S w a b x) (k : Keeps S S' w w') : PolEl S' w' a b x := by
  obtain ⟨⟨pb, h1, h2⟩, h3, h4, h5⟩ := h
  exact ⟨⟨pb, h1, h2.keeps k⟩, h3.keeps k, h4, h5⟩

theorem owns_far {W w' : World} {B : Nat} {e : TypeId} {size : Nat} {v : Value} {n : Nat} {xs : List Value} {row : Option Nat} (h : W.ownsRow B e size v n xs) (hg : W.grownBy w' row) (hne : ∀ k, v.ownBlock = some k → some k ≠ row) : w'.ownsRow B e size v n xs := by
  refine ⟨h.1, ?_⟩
  rcases h.2 with hn | ⟨g, cap, cur, hv, hb, hgg, r⟩
  · exact .inl hn
  · exact .inr ⟨g, cap, cur, hv, hb, by rw [hg.block g (Array.getElem?_eq_some_iff.1 hgg).1 (hne g (by rw [hv]; rfl))]; exact hgg, r⟩
theorem owns_read {w : World} {B : Nat} {e : TypeId} {v : Value} {xs : List Value} (h : w.ownsRow B e 1 v xs.length xs) : ∃ a cap, v = .slice a xs.length cap ∧ ∀ (i : Nat) (u : Value), xs[i]? = some u → ∃ g, a = some ⟨g, 0, none⟩ ∧ w.cell? ⟨g, i, none⟩ = some u := by
  rcases h.2 with ⟨hv, hn⟩ | ⟨g, cap, cur, hv, _⟩
  · refine ⟨none, 0, by rw [hv, hn], fun i u hi => ?_⟩
    have := List.eq_nil_of_length_eq_zero hn
    subst this
    simp at hi
  · exact ⟨_, cap, hv, fun i u hi => ⟨g, rfl, owned_cell (by rw [← hv]; exact h) i u hi⟩⟩

/-- While the policies are gathered. -/
structure PInv (w wr : World) (pv rv : Value) (pols : List (List RuleS × List (List (List UInt8)))) (pvals rvals : List Value) : Prop where
  q : Q w wr
  pown : wr.ownsRow w.heap.size 27 1 pv pvals.length pvals
  rown : wr.ownsRow w.heap.size 31 1 rv rvals.length rvals
  plen : pvals.length = pols.length
  rlen : rvals.length = pols.length
  apart : ∀ k, pv.ownBlock = some k → rv.ownBlock ≠ some k
  reps : ∀ (i : Nat) (x : List RuleS × List (List (List UInt8))), pols[i]? = some x → ∃ a b, pvals[i]? = some a ∧ rvals[i]? = some b ∧ PolEl (fun b => New w wr b ∧ some b ≠ pv.ownBlock ∧ some b ≠ rv.ownBlock) wr a b x
theorem PInv.start (w : World) : PInv w w (.slice none 0 0) (.slice none 0 0) [] [] [] :=
  ⟨Q.refl _, ⟨rfl, .inl ⟨rfl, rfl⟩⟩, ⟨rfl, .inl ⟨rfl, rfl⟩⟩, rfl, rfl, fun k h => by simp [Value.ownBlock] at h, fun i x h => by simp at h⟩
theorem PInv.stays {w wr W : World} {pv rv : Value} {pols : List (List RuleS × List (List (List UInt8)))} {pvals rvals : List Value} (h : PInv w wr pv rv pols pvals rvals) (q : Q wr W) : PInv w W pv rv pols pvals rvals := by
  refine ⟨h.q.trans q, owns_Q h.pown q, owns_Q h.rown q, h.plen, h.rlen, h.apart, fun i x hi => ?_⟩
  obtain ⟨a, b, h1, h2, h3⟩ := h.reps i x hi
  exact ⟨a, b, h1, h2, h3.keeps fun k hk => ⟨⟨⟨hk.1.1, Nat.lt_of_lt_of_le hk.1.2 q.size⟩, hk.2⟩, fun o => q.cells.1 k o hk.1.2⟩⟩
theorem PInv.mid {w W W1 : World} {pv rv : Value} {pols : List (List RuleS × List (List (List UInt8)))} {pvals rvals : List Value} {o : Obj} (h : PInv w W pv rv pols pvals rvals) (hg : (W.alloc o).grownBy W1 pv.ownBlock) : W1.ownsRow w.heap.size 31 1 rv rvals.length rvals :=
  owns_far (owns_Q h.rown ((Q.refl _).alloc _)) hg fun k hk e => h.apart k e.symm hk

theorem PInv.more {w W W1 W2 : World} {pv rv a b : Value} {pols : List (List RuleS × List (List (List UInt8)))} {pvals rvals : List Value} {x : List RuleS × List (List (List UInt8))} {e1 e2 : TypeId} {S : Nat → Prop} (h : PInv w W pv rv pols pvals rvals) (hx : PolEl S W a b x)
    (hS : ∀ k, S k → New w W k ∧ some k ≠ pv.ownBlock ∧ some k ≠ rv.ownBlock)
    {g1 c1 : Nat} (ho1 : W1.ownsRow w.heap.size 27 1 (.slice (some ⟨g1, 0, none⟩) (pvals.length + 1) c1) (pvals.length + 1) (pvals ++ [a]))
    (hb1 : Below w.heap.size W W1) (hg1 : (W.alloc (.cells #[a] e1)).grownBy W1 pv.ownBlock) (hat1 : pv.ownBlock = some g1 ∨ g1 = W.heap.size + 1)
    {g2 c2 : Nat} (ho2 : W2.ownsRow w.heap.size 31 1 (.slice (some ⟨g2, 0, none⟩) (rvals.length + 1) c2) (rvals.length + 1) (rvals ++ [b]))
    (hb2 : Below w.heap.size W1 W2) (hg2 : (W1.alloc (.cells #[b] e2)).grownBy W2 rv.ownBlock) (hat2 : rv.ownBlock = some g2 ∨ g2 = W1.heap.size + 1) :
    PInv w W2 (.slice (some ⟨g1, 0, none⟩) (pvals.length + 1) c1) (.slice (some ⟨g2, 0, none⟩) (rvals.length + 1) c2) (pols ++ [x]) (pvals ++ [a]) (rvals ++ [b]) := by
  have hp := owns_lt h.pown
  have hr := owns_lt h.rown
  have hg1lt : g1 < W1.heap.size := (owns_lt ho1 g1 rfl).2
  have hsz1 : W.heap.size + 1 ≤ W1.heap.size := by have := hg1.size; simpa using this
  have hsz2 : W1.heap.size + 1 ≤ W2.heap.size := by have := hg2.size; simpa using this
  have hg1r : rv.ownBlock ≠ some g1 := by
    rcases hat1 with h1 | h1
    · exact h.apart g1 h1
    · intro e'
      have := (hr g1 e').2
      omega
  have K : ∀ k, k < W.heap.size → some k ≠ pv.ownBlock → some k ≠ rv.ownBlock → k ≠ g1 ∧ k ≠ g2 ∧ ∀ o, W2.cell? ⟨k, o, none⟩ = W.cell? ⟨k, o, none⟩ := by
    intro k hk h1 h2
    refine ⟨?_, ?_, fun o => ?_⟩
    · intro e'
      rcases hat1 with h3 | h3
      · exact h1 (by rw [e']; exact h3.symm)
      · omega
    · intro e'
      rcases hat2 with h3 | h3
      · exact h2 (by rw [e']; exact h3.symm)
      · omega
    · rw [hg2.cell_far ⟨k, o, none⟩ (by show k < _; simp; omega) h2, World.cell?_of_block (w := W1) (a := ⟨k, o, none⟩) (Below.heap_alloc _ _ _ (by show k < _; omega)), hg1.cell_far ⟨k, o, none⟩ (by show k < _; simp; omega) h1]
      exact World.cell?_of_block (w := W) (Below.heap_alloc _ _ _ hk)
  have KK : Keeps (fun k => New w W k ∧ some k ≠ pv.ownBlock ∧ some k ≠ rv.ownBlock) (fun k => New w W2 k ∧ some k ≠ (Value.slice (some ⟨g1, 0, none⟩) (pvals.length + 1) c1).ownBlock ∧ some k ≠ (Value.slice (some ⟨g2, 0, none⟩) (rvals.length + 1) c2).ownBlock) W W2 := by
    intro k hk
    obtain ⟨k1, k2, k3⟩ := K k hk.1.2 hk.2.1 hk.2.2
    have := hk.1.2
    refine ⟨⟨⟨hk.1.1, by omega⟩, ?_, ?_⟩, k3⟩
    · intro e'; exact k1 (by simpa [Value.ownBlock] using e')
    · intro e'; exact k2 (by simpa [Value.ownBlock] using e')
  refine ⟨Below.trans (Below.trans h.q hb1) hb2, ?_, ?_, by simp [h.plen], by simp [h.rlen], ?_, ?_⟩
  · rw [List.length_append]
    exact owns_far (owns_Q ho1 ((Q.refl _).alloc _)) hg2 fun k hk e' => hg1r (by
      have e2 : g1 = k := by simpa [Value.ownBlock] using hk
      rw [e2]; exact e'.symm)
  · rw [List.length_append]; exact ho2
  · intro k hk e'
    have e1' : g1 = k := by simpa [Value.ownBlock] using hk
    have e2' : g2 = k := by simpa [Value.ownBlock] using e'
    rcases hat2 with h3 | h3
    · exact hg1r (by rw [h3, e1', e2'])
    · omega
  · intro i y hi
    by_cases hlt : i < pols.length
    · rw [List.getElem?_append_left hlt] at hi
      obtain ⟨a', b', h1, h2, h3⟩ := h.reps i y hi
      exact ⟨a', b', by rw [List.getElem?_append_left (by rw [h.plen]; exact hlt)]; exact h1, by rw [List.getElem?_append_left (by rw [h.rlen]; exact hlt)]; exact h2, h3.keeps KK⟩
    · have hi' := (List.getElem?_eq_some_iff.1 hi).1
      rw [List.length_append, List.length_singleton] at hi'
      have hie : i = pols.length := by omega
      subst hie
      rw [List.getElem?_append_right (Nat.le_refl _), Nat.sub_self] at hi
      cases hi
      refine ⟨a, b, by rw [← h.plen, List.getElem?_append_right (Nat.le_refl _), Nat.sub_self]; rfl, by rw [← h.rlen, List.getElem?_append_right (Nat.le_refl _), Nat.sub_self]; rfl, ?_⟩
      exact (hx.keeps (S' := fun k => New w W k ∧ some k ≠ pv.ownBlock ∧ some k ≠ rv.ownBlock) fun k hk => ⟨hS k hk, fun _ => rfl⟩).keeps KK

theorem keep6 {a b W : World} {p0 p1 p2 p3 p4 p5 : Addr} {v0 v1 v2 v3 v4 v5 : Value}
    (h : a.cell? p0 = some v0 ∧ a.cell? p1 = some v1 ∧ a.cell? p2 = some v2 ∧ a.cell? p3 = some v3 ∧ a.cell? p4 = some v4 ∧ a.cell? p5 = some v5 ∧ Q W a) (q : Q a b) :
    b.cell? p0 = some v0 ∧ b.cell? p1 = some v1 ∧ b.cell? p2 = some v2 ∧ b.cell? p3 = some v3 ∧ b.cell? p4 = some v4 ∧ b.cell? p5 = some v5 ∧ Q W b := by
  obtain ⟨h0, h1, h2, h3, h4, h5, hq⟩ := h
  exact ⟨q.cell h0, q.cell h1, q.cell h2, q.cell h3, q.cell h4, q.cell h5, hq.trans q⟩
theorem last6 {a W : World} {p0 p1 p2 p3 p4 p5 : Addr} {v0 v1 v2 v3 v4 v5 : Value}
    (h : a.cell? p0 = some v0 ∧ a.cell? p1 = some v1 ∧ a.cell? p2 = some v2 ∧ a.cell? p3 = some v3 ∧ a.cell? p4 = some v4 ∧ a.cell? p5 = some v5 ∧ Q W a) : Q W a := h.2.2.2.2.2.2
end Go.Proofs.YtdmaffciijmdcaaDoor
/-
  The law 'Policies', walked: it answers true, whatever the texts and the questions, up to a size.
-/
namespace Go.Proofs.YtdmaffciijmdcaaDoor
open Go.RowKit Plain

set_option maxRecDepth 100000 in
set_option maxHeartbeats 3200000 in
theorem policies_any (v u : Value) (texts : List (List UInt8)) (asks : List Quest) (w : World) (hv : TextsAt w v texts) (hu : QuestsAt w u asks) :
    Calls Tryd.prog 3 #[v, u] w fun e w' => e = .returned (.bool true) ∧ Q w w' := by
  obtain ⟨ta, tcap, rfl, htl, htc⟩ := hv
  obtain ⟨qa, qcap, rfl, hql, hqc⟩ := hu
  have HTC := show Hid _ from htc
  have HQC := show Hid _ from hqc
  clear htc hqc
  go_enter Tryd.func3, Tryd.ntmps3
  go_wp2_with fail
  refine (known_any w).mono ?_
  rintro e w1 ⟨rfl, hq1⟩
  go_wp2_with fail
  go_loopw [6, 7, 8, 9, 10, 11, 12, 13, 14] (fun ps rs i _ _ _ _ _ _ wr => ∃ (k : Nat) (pols : List (List RuleS × List (List (List UInt8)))) (pvals rvals : List Value), k ≤ texts.length ∧ pols.length ≤ k ∧ i = .int .i64 k ∧ Hid (PInv w1 wr ps rs pols pvals rvals)) (fun _ _ i _ _ _ _ _ _ _ => texts.length - (intOf i).toNat)
  case atStart => exact ⟨0, [], [], [], Nat.zero_le _, Nat.le_refl _, rfl, PInv.start w1⟩
  case round =>
    obtain ⟨k, pols, pvals, rvals, hk, hpk, rfl, hinv⟩ := hrel
    have hqr := hinv.out.q
    have hpl := hinv.out.plen
    have hrl := hinv.out.rlen
    have hQr := hq1.trans hqr
    by_cases hlt : k < texts.length
    · have hget : texts[k]? = some texts[k] := List.getElem?_eq_getElem hlt
      obtain ⟨hsl, b, off, rfl, hc⟩ := HTC.out k _ hget
      generalize texts[k] = T at *
      clear hget
      have hck := hQr.cell hc
      clear hc
      have HSame := show Hid _ from rules_same T
      have HC := fun x => show Hid _ from compile_any ⟨T.toArray⟩ x (by unfold maxLen; show T.length ≤ _; omega)
      have HRu := fun x => show Hid _ from rrules_any T x hsl
      go_wp2_with fail
      refine Calls.mono (Hid.out (HC _)) ?_
      rintro e w2 ⟨hq2, hcase⟩
      have hck2 := hq2.cell hck
      clear hck HC
      rcases hcase with ⟨en, ln, hcs, rfl⟩ | ⟨rs, pb, hcs, rfl, hpol⟩
      · have hen := comp_en hcs
        have HCS : Hid (compileS T = .error (en, ln)) := hcs
        clear hcs
        go_wp2_with fail
        refine Calls.mono (Hid.out (HRu _)) ?_
        rintro e w3 ⟨hq3, ⟨en', ln', hrr, rfl⟩ | ⟨rows, v', hrr, rfl, _⟩⟩
        · have hs := HSame.out
          rw [hrr, HCS.out] at hs
          cases (show (en', ln') = (en, ln) from hs)
          have d0 : ((en : Int) == 0) = false := by rw [beq_eq_false_iff_ne]; omega
          clear hs hrr HSame HCS HRu hck2
          go_wp2_with (first | (go_at_call 9; refine (num_any _ _).mono ?_; rintro e w' ⟨rfl, hw⟩; rw [hw]))
          exact ⟨⟨k + 1, pols, pvals, rvals, by omega, by omega, by go_num, hinv.out.stays (hq2.trans hq3)⟩, by simp [intOf]; omega⟩
        · have hs := HSame.out
          rw [hrr, HCS.out] at hs
          exact hs.elim
      · have HCS : Hid (compileS T = .ok rs) := hcs
        have HPol : Hid (PolicyRep (New wr w2) w2 pb rs) := hpol
        clear hcs hpol
        go_wp2_with fail
        refine Calls.mono (Hid.out (HRu _)) ?_
        rintro e w3 ⟨hq3, ⟨en', ln', hrr, rfl⟩ | ⟨rows, v', hrr, rfl, hrows⟩⟩
        · have hs := HSame.out
          rw [hrr, HCS.out] at hs
          exact hs.elim
        · have hs := HSame.out
          rw [hrr, HCS.out] at hs
          have hEl : PolEl (New wr w3) w3 (.pointer (some ⟨pb, 0, none⟩)) v' (rs, rows) :=
            ⟨⟨pb, rfl, HPol.out.keeps fun b hb => ⟨⟨hb.1, Nat.lt_of_lt_of_le hb.2 hq3.size⟩, fun o => hq3.cells.1 b o hb.2⟩⟩, hrows.keeps (fun b hb => ⟨⟨Nat.le_trans hq2.size hb.1, hb.2⟩, fun _ => rfl⟩), hs, rules_short hrr⟩
          have hform : ∃ o n c, v' = .slice o n c := by
            rcases hrows with ⟨_, h⟩ | ⟨g, cap, h, _⟩ <;> exact ⟨_, _, _, h⟩
          obtain ⟨vo, vn, vc, rfl⟩ := hform
          have HEl : Hid (PolEl (New wr w3) w3 (.pointer (some ⟨pb, 0, none⟩)) (.slice vo vn vc) (rs, rows)) := hEl
          have hqW := hq2.trans hq3
          have HI : Hid (PInv w1 w3 u6 u7 pols pvals rvals) := hinv.out.stays hqW
          have hszw : w1.heap.size ≤ w3.heap.size := (hqr.trans hqW).size
          clear hs hrr HSame HCS HRu hck2 hrows hEl HPol
          go_wp2_with (first | (go_at_call 9; refine (num_any _ _).mono ?_; rintro e w' ⟨rfl, hw⟩; rw [hw]; clear hw w') | (at_builtin; refine append_one rfl (.tmp 64) (.tmp 66) 25 rfl 27 Tryd.t27 (.pointer none) 8 Tryd.underlying25 (by kernel_rfl) (by kernel_rfl) (by kernel_rfl) (by kernel_rfl) rfl u6 pvals (.pointer (some ⟨pb, 0, none⟩)) w1.heap.size w3 rfl rfl HI.out.pown rfl (by omega) (by decide) hszw ?_; intro g1 c1 W1 ho1 hb1 hg1 hat1 _) | (at_builtin; refine append_one rfl (.tmp 68) (.tmp 70) 26 rfl 31 Tryd.t31 (.slice none 0 0) 24 Tryd.underlying26 (by kernel_rfl) (by kernel_rfl) (by kernel_rfl) (by kernel_rfl) rfl u7 rvals (.slice vo vn vc) w1.heap.size W1 rfl rfl (HI.out.mid hg1) rfl (by omega) (by decide) (by have := hg1.size; simp at this; omega) ?_; intro g2 c2 W2 ho2 hb2 hg2 hat2 _))
          have hnx := PInv.more (S := New wr w3) HI.out HEl.out (fun k hk => ⟨⟨Nat.le_trans hqr.size hk.1, hk.2⟩, fun e' => by have := (owns_lt hinv.out.pown k e'.symm).2; have := hk.1; omega, fun e' => by have := (owns_lt hinv.out.rown k e'.symm).2; have := hk.1; omega⟩) ho1 hb1 hg1 hat1 ho2 hb2 hg2 hat2
          rw [hpl, hrl] at hnx
          exact ⟨⟨k + 1, pols ++ [(rs, rows)], _, _, by omega, by rw [List.length_append]; exact Nat.succ_le_succ hpk, by go_num, hnx⟩, by simp [intOf]; omega⟩
    · obtain ⟨wp, hwp⟩ : ∃ wp, wp = wr := ⟨_, rfl⟩
      subst hwp
      obtain ⟨pa, pcap, hpv, hpc⟩ := owns_read hinv.out.pown
      obtain ⟨ra, rcap, hrv, hrc⟩ := owns_read hinv.out.rown
      have HREP : Hid (∀ (i : Nat) (x : List RuleS × List (List (List UInt8))), pols[i]? = some x → ∃ a b, pvals[i]? = some a ∧ rvals[i]? = some b ∧ PolEl (fun b => b < wp.heap.size) wp a b x) := fun i x hi => by
        obtain ⟨a, b, h1, h2, h3⟩ := hinv.out.reps i x hi
        exact ⟨a, b, h1, h2, h3.keeps fun k hk => ⟨hk.1.2, fun _ => rfl⟩⟩
      have HPC : Hid (∀ (i : Nat) (u : Value), pvals[i]? = some u → ∃ g, pa = some ⟨g, 0, none⟩ ∧ wp.cell? ⟨g, i, none⟩ = some u) := hpc
      have HRC : Hid (∀ (i : Nat) (u : Value), rvals[i]? = some u → ∃ g, ra = some ⟨g, 0, none⟩ ∧ wp.cell? ⟨g, i, none⟩ = some u) := hrc
      rw [hpl] at hpv
      rw [hrl] at hrv
      clear hinv hpc hrc hpl hrl HTC
      subst hpv hrv
      go_wp2_with fail
      go_loopw [15, 16, 17] (fun i _ _ wx => ∃ j : Nat, j ≤ pols.length ∧ i = .int .i64 j ∧ Q wp wx) (fun i _ _ _ => pols.length - (intOf i).toNat)
      case atStart => exact ⟨0, Nat.zero_le _, rfl, Q.refl _⟩
      case round =>
        obtain ⟨j, hj, rfl, hqj⟩ := hrel
        by_cases hjl : j < pols.length
        · have hget : pols[j]? = some pols[j] := List.getElem?_eq_getElem hjl
          obtain ⟨a, b, ha, hb, hEl⟩ := HREP.out j _ hget
          obtain ⟨gp, rfl, hcp⟩ := HPC.out j a ha
          obtain ⟨gr, rfl, hcr⟩ := HRC.out j b hb
          obtain ⟨⟨pb, rfl, hpol⟩, hrows, hall, hshort⟩ := hEl
          have hform : ∃ o n c, b = .slice o n c := by
            rcases hrows with ⟨_, h⟩ | ⟨g, cap, h, _⟩ <;> exact ⟨_, _, _, h⟩
          obtain ⟨vo, vn, vc, rfl⟩ := hform
          generalize pols[j] = x at *
          have HP : Hid (PolicyRep (fun b => b < wp.heap.size) wp pb x.1) := hpol
          have HR : Hid (RowsAt (fun b => b < wp.heap.size) wp (.slice vo vn vc) x.2) := hrows
          have HA := show Hid _ from hall
          have HS := show Hid _ from hshort
          clear hpol hrows hall hshort ha hb hget HREP HPC HRC
          go_wp2_with fail
          go_loopw [16, 17] (fun i _ wx => ∃ j2 : Nat, j2 ≤ asks.length ∧ i = .int .i64 j2 ∧ Q wp wx) (fun i _ _ => asks.length - (intOf i).toNat)
          case atStart => exact ⟨0, Nat.zero_le _, rfl, hqj⟩
          case round =>
            obtain ⟨j2, hj2, rfl, hq2⟩ := hrel
            by_cases hal : j2 < asks.length
            · have hget2 : asks[j2]? = some asks[j2] := List.getElem?_eq_getElem hal
              obtain ⟨ht, hh, qb, qo, rfl, hqat⟩ := HQC.out j2 _ hget2
              generalize asks[j2] = q at *
              obtain ⟨c0, c1, c2, c3⟩ := hqat.stays (hQr.trans hq2)
              have e0 := hq2.cell hcp
              have e1 := hq2.cell hcr
              have HD : ∀ x', Q wp x' → Hid (Calls Tryd.prog 10 #[.pointer (some ⟨pb, 0, none⟩), .slice vo vn vc, .agg #[.string ⟨q.t.toArray⟩, .string ⟨q.h.toArray⟩, .int .i64 q.p, .int .i64 q.m]] x' fun e w' => e = .returned (.bool true) ∧ Q x' w') := fun x' hx' =>
                decides_any x.1 pb (.slice vo vn vc) x.2 q.t q.h q.p q.m x' (HP.out.stays hx') (HR.out.keeps fun b hb => ⟨Nat.lt_of_lt_of_le hb hx'.size, fun o => hx'.cells.1 b o hb⟩) HA.out HS.out ht hh
              clear hqat hget2 HQC HP HR HA HS hcp hcr
              go_wp2_with fail
              go_region_held3 (fun w' => w'.cell? ⟨gp, j, none⟩ = some (.pointer (some ⟨pb, 0, none⟩)) ∧ w'.cell? ⟨gr, j, none⟩ = some (.slice vo vn vc) ∧ w'.cell? ⟨qb, qo + j2 * 4, none⟩ = some (.string ⟨q.t.toArray⟩) ∧ w'.cell? ⟨qb, qo + j2 * 4 + 1, none⟩ = some (.string ⟨q.h.toArray⟩) ∧ w'.cell? ⟨qb, qo + j2 * 4 + 2, none⟩ = some (.int .i64 q.p) ∧ w'.cell? ⟨qb, qo + j2 * 4 + 3, none⟩ = some (.int .i64 q.m) ∧ Q wp w')
                (first | exact ⟨e0, e1, c0, c1, c2, c3, hq2.drew⟩ | exact keep6 (by assumption) (by assumption) | assumption)
                (first | (go_at_call 10; refine Calls.mono (Hid.out (HD _ (last6 (by assumption)))) ?_; rintro e w' ⟨rfl, hq3⟩))
              have hS := by first | assumption
              obtain ⟨_, _, _, _, _, _, hq4⟩ := (show _ ∧ _ from hS)
              go_wp2_with fail
              exact ⟨⟨j2 + 1, by omega, by go_num, hq4⟩, by simp [intOf]; omega⟩
            · go_wp2_with fail
              exact ⟨⟨j + 1, by omega, by go_num, hq2⟩, by simp [intOf]; omega⟩
        · go_wp2_with fail
          go_ret
          exact ⟨rfl, hQr.trans hqj⟩
end Go.Proofs.YtdmaffciijmdcaaDoor

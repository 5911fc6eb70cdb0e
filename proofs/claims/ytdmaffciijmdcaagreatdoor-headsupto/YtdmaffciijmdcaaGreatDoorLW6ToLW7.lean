/-
  The laws' own helpers: keep.
-/
import Derived.Test.YtdmaffciijmdcaaGreatDoorLW2ToLW5
namespace Go.Proofs.YtdmaffciijmdcaaGreatDoor
open Go.RowKit Plain

/-- In the midst of keep: what stands of the book (block wb, its lists in hx), of the list v and those made of it (xs). -/
structure KInv (w x : World) (B wb : Nat) (hv v hx : Value) (vals xs : List Value) (j : Nat) : Prop where
  cell : x.cell? ⟨wb, 2, none⟩ = some hx
  own : x.ownsRow B 41 1 hx vals.length vals
  mrk : ∀ y ∈ xs, MarkAt x y j
  bl : ∀ y ∈ xs, ∀ k, y.ownBlock = some k → (v.ownBlock = some k ∨ w.heap.size ≤ k) ∧ k < x.heap.size ∧ hx.ownBlock ≠ some k ∧ k ≠ wb
  hb : ∀ k, hx.ownBlock = some k → (hv.ownBlock = some k ∨ w.heap.size ≤ k) ∧ k ≠ wb ∧ v.ownBlock ≠ some k
  wbl : wb < w.heap.size
  vb : v.ownBlock ≠ some wb
  wbc : ∀ o, o ≠ 2 → x.cell? ⟨wb, o, none⟩ = w.cell? ⟨wb, o, none⟩
  fz : ∀ o, x.frozen? ⟨wb, o, none⟩ = w.frozen? ⟨wb, o, none⟩
  os : x.os = w.os
  tape : x.tape = w.tape
  output : x.output = w.output
  size : w.heap.size ≤ x.heap.size
  block : ∀ k, k < w.heap.size → k ≠ wb → hv.ownBlock ≠ some k → v.ownBlock ≠ some k → SameAt w x k
theorem MarkAt.stays {j : Nat} {w w' : World} {v : Value} (h : MarkAt w v j) (q : Q w w') : MarkAt w' v j := h.marked (Marked.ofQ q)
theorem MarkAt.same {j : Nat} {w w' : World} {v : Value} (h : MarkAt w v j) (hs : ∀ k, v.ownBlock = some k → SameAt w w' k) : MarkAt w' v j := by
  obtain ⟨o, n, cap, h1, h2, h3⟩ := h
  refine ⟨o, n, cap, h1, h2, fun k hk => ?_⟩
  obtain ⟨g, h4, h5⟩ := h3 k hk
  refine ⟨g, h4, fun q u hq hu => ?_⟩
  rw [(hs g (by rw [h1, h4]; rfl)).cell]
  exact h5 q u hq hu
theorem KInv.stays {w x x' : World} {B wb : Nat} {hv v hx : Value} {vals xs : List Value} {j : Nat} (h : KInv w x B wb hv v hx vals xs j) (q : Q x x') : KInv w x' B wb hv v hx vals xs j :=
  ⟨q.cell h.cell, owns_Q h.own q, fun y hy => (h.mrk y hy).stays q, fun y hy k hk => ⟨(h.bl y hy k hk).1, Nat.lt_of_lt_of_le (h.bl y hy k hk).2.1 q.size, (h.bl y hy k hk).2.2⟩, h.hb, h.wbl, h.vb, fun o ho => by rw [q.cells.1 wb o (Nat.lt_of_lt_of_le h.wbl h.size)]; exact h.wbc o ho, fun o => by rw [q.cells.2 wb o (Nat.lt_of_lt_of_le h.wbl h.size)]; exact h.fz o, q.os.trans h.os, q.tape.trans h.tape, q.output.trans h.output, Nat.le_trans h.size q.size, fun k h1 h2 h3 h4 => SameAt.trans' (h.block k h1 h2 h3 h4) (q.sameAt (Nat.lt_of_lt_of_le h1 h.size))⟩
/-- The list v, or what is made of it, is written on. -/
theorem KInv.marked {w x x' : World} {B wb : Nat} {hv v hx : Value} {vals xs : List Value} {j : Nat} (h : KInv w x B wb hv v hx vals xs j) (hg : x.grownBy x' v.ownBlock) (hm : Marked (markS j) x x') {y : Value} (hy : MarkAt x' y j) (hb : ∀ k, y.ownBlock = some k → v.ownBlock = some k ∨ x.heap.size ≤ k) (hbl : ∀ k, y.ownBlock = some k → k < x'.heap.size) : KInv w x' B wb hv v hx vals (xs ++ [y]) j := by
  have hwx : wb < x.heap.size := Nat.lt_of_lt_of_le h.wbl h.size
  have swb : SameAt x x' wb := hg.block wb hwx (fun e => h.vb e.symm)
  have hol := owns_lt h.own
  refine ⟨by rw [swb.cell]; exact h.cell, owns_same h.own fun k hk => hg.block k (hol k hk).2 (fun e => (h.hb k hk).2.2 e.symm), fun z hz => ?_, fun z hz k hk => ?_, h.hb, h.wbl, h.vb, fun o ho => by rw [swb.cell]; exact h.wbc o ho, fun o => by rw [swb.frozen]; exact h.fz o, hg.os.trans h.os, hg.tape.trans h.tape, hg.output.trans h.output, Nat.le_trans h.size hg.size, fun k h1 h2 h3 h4 => SameAt.trans' (h.block k h1 h2 h3 h4) (hg.block k (Nat.lt_of_lt_of_le h1 h.size) (fun e => h4 e.symm))⟩
  · rcases List.mem_append.1 hz with hz | hz
    · exact (h.mrk z hz).marked hm
    · rw [List.mem_singleton.1 hz]; exact hy
  · rcases List.mem_append.1 hz with hz | hz
    · exact ⟨(h.bl z hz k hk).1, Nat.lt_of_lt_of_le (h.bl z hz k hk).2.1 hg.size, (h.bl z hz k hk).2.2⟩
    · rw [List.mem_singleton.1 hz] at hk
      rcases hb k hk with h1 | h1
      · refine ⟨.inl h1, hbl k hk, fun e => (h.hb k e).2.2 h1, fun e => h.vb (by rw [← e]; exact h1)⟩
      · refine ⟨.inr (Nat.le_trans h.size h1), hbl k hk, fun e => ?_, by omega⟩
        have := (hol k e).2
        omega
/-- The list v has been written full. -/
theorem KInv.first {w x x' : World} {B wb : Nat} {hv v hx : Value} {vals : List Value} {j : Nat} (h : KInv w x B wb hv v hx vals [] j) (hg : x.grownBy x' v.ownBlock) (hy : MarkAt x' v j) (hbl : ∀ k, v.ownBlock = some k → k < x'.heap.size) : KInv w x' B wb hv v hx vals [v] j := by
  have hwx : wb < x.heap.size := Nat.lt_of_lt_of_le h.wbl h.size
  have swb : SameAt x x' wb := hg.block wb hwx (fun e => h.vb e.symm)
  have hol := owns_lt h.own
  refine ⟨by rw [swb.cell]; exact h.cell, owns_same h.own fun k hk => hg.block k (hol k hk).2 (fun e => (h.hb k hk).2.2 e.symm), fun z hz => ?_, fun z hz k hk => ?_, h.hb, h.wbl, h.vb, fun o ho => by rw [swb.cell]; exact h.wbc o ho, fun o => by rw [swb.frozen]; exact h.fz o, hg.os.trans h.os, hg.tape.trans h.tape, hg.output.trans h.output, Nat.le_trans h.size hg.size, fun k h1 h2 h3 h4 => SameAt.trans' (h.block k h1 h2 h3 h4) (hg.block k (Nat.lt_of_lt_of_le h1 h.size) (fun e => h4 e.symm))⟩
  · rw [List.mem_singleton.1 hz]; exact hy
  · rw [List.mem_singleton.1 hz] at hk
    exact ⟨.inl hk, hbl k hk, fun e => (h.hb k e).2.2 hk, fun e => h.vb (by rw [← e]; exact hk)⟩
/-- Marks are put behind the list v. -/
theorem KInv.more {w x : World} {B wb : Nat} {hv hx : Value} {vals xs : List Value} {j : Nat} {va : Option Addr} {vc n m : Nat} (h : KInv w x B wb hv (.slice va n vc) hx vals xs j) (hown : x.ownsRow B 48 4 (.slice va n vc) n (marks n (markS j))) (hm : 0 < m) (hm2 : m ≤ 3) (hn : n ≤ 900) (hB : B ≤ x.heap.size) :
    ∃ vo vk w', (Builtin.append_ #[41, 41] 41 #[.slice va n vc, .slice (some ⟨x.heap.size, 0, none⟩) m m]).run Tryz.prog (x.alloc (.cells (marks m (markS j)).toArray 48)) = .ok (.slice vo (n + m) vk) w' ∧ w'.ownsRow B 48 4 (.slice va n vc) n (marks n (markS j)) ∧ KInv w w' B wb hv (.slice va n vc) hx vals (xs ++ [.slice vo (n + m) vk]) j ∧ (∀ k, k < x.heap.size → (Value.slice va n vc).ownBlock ≠ some k → SameAt x w' k) ∧ x.heap.size ≤ w'.heap.size := by
  have qa : Q x (x.alloc (.cells (marks m (markS j)).toArray 48)) := (Q.refl _).alloc _
  have hza : (x.alloc (.cells (marks m (markS j)).toArray 48)).heap.size = x.heap.size + 1 := by simp
  obtain ⟨vo, vk, w', hr, ho, ho2, hg, hat, hmk⟩ := append_marks (x.alloc (.cells (marks m (markS j)).toArray 48)) B (.slice va n vc) n m (markS j) ⟨x.heap.size, 0, none⟩ m (owns_Q hown qa) (fun i u hu => World.news_of_block (w := x.alloc (.cells (marks m (markS j)).toArray 48)) (B := x.heap.size) (cs := (marks m (markS j)).toArray) (t := 48) (fr := (0, 0)) (heap_alloc_new x _) i u (by simpa using hu)) hm (by omega) (by omega)
  have hol := owns_lt ho
  refine ⟨vo, vk, w', hr, ho2, (h.stays qa).marked hg hmk (MarkAt.own ho (by omega)) (fun k hk => ?_) (fun k hk => (hol k hk).2), fun k hk hne => SameAt.trans' (qa.sameAt hk) (hg.block k (by omega) (fun e => hne e.symm)), by have := hg.size; omega⟩
  rcases hat with e | e
  · exact .inl (by rw [← e]; exact hk)
  · rw [e] at hk
    cases hk
    exact .inr (Nat.le_refl _)
/-- One list more stands in the book. -/
theorem KInv.listed {w x x' : World} {B wb : Nat} {hv v hx y : Value} {vals xs : List Value} {j g cap m : Nat} (h : KInv w x B wb hv v hx vals xs j) (hmm : vals.length = m) (T : TypeId) (hown : x'.ownsRow B 41 1 (.slice (some ⟨g, 0, none⟩) (m + 1) cap) (m + 1) (vals ++ [y])) (hg : (x.alloc (.cells #[y] T)).grownBy x' hx.ownBlock) (hat : hx.ownBlock = some g ∨ g = x.heap.size + 1) (hvl : ∀ k, v.ownBlock = some k → k < x.heap.size) :
    KInv w (x'.setCell ⟨wb, 2, none⟩ (.slice (some ⟨g, 0, none⟩) (m + 1) cap)) B wb hv v (.slice (some ⟨g, 0, none⟩) (m + 1) cap) (vals ++ [y]) xs j := by
  subst hmm
  have hwx : wb < x.heap.size := Nat.lt_of_lt_of_le h.wbl h.size
  have qa : Q x (x.alloc (.cells #[y] T)) := (Q.refl _).alloc _
  have hza : (x.alloc (.cells #[y] T)).heap.size = x.heap.size + 1 := by simp
  have S : ∀ k, k < x.heap.size → hx.ownBlock ≠ some k → SameAt x x' k := fun k hk hne => SameAt.trans' (qa.sameAt hk) (hg.block k (by omega) (fun e => hne e.symm))
  have swb : SameAt x x' wb := S wb hwx (fun e => (h.hb wb e).2.1 rfl)
  have hgw : g ≠ wb := by
    rcases hat with h1 | h1
    · exact (h.hb g h1).2.1
    · omega
  have hgs := hg.size
  refine ⟨set_same (u := hx) (by rw [swb.cell]; exact h.cell), ?_, fun z hz => ?_, fun z hz k hk => ?_, fun k hk => ?_, h.wbl, h.vb, fun o ho => ?_, fun o => by rw [World.frozen?_setCell, swb.frozen]; exact h.fz o, hg.os.trans h.os, hg.tape.trans h.tape, hg.output.trans h.output, by have := h.size; simp; omega, fun k h1 h2 h3 h4 => ?_⟩
  · rw [List.length_append]
    exact owns_same hown fun k hk => set_same_at (by
      have : g = k := by simpa [Value.ownBlock] using hk
      rw [← this]; exact hgw)
  · have hz' := h.bl z hz
    exact (h.mrk z hz).same fun k hk => SameAt.trans' (S k (hz' k hk).2.1 (hz' k hk).2.2.1) (set_same_at (hz' k hk).2.2.2)
  · have hz' := h.bl z hz k hk
    refine ⟨hz'.1, by have := hz'.2.1; simp; omega, fun e => ?_, hz'.2.2.2⟩
    have e' : g = k := by simpa [Value.ownBlock] using e
    rcases hat with h1 | h1
    · exact hz'.2.2.1 (by rw [h1, e'])
    · have := hz'.2.1; omega
  · have e' : g = k := by simpa [Value.ownBlock] using hk
    rw [← e']
    rcases hat with h1 | h1
    · exact h.hb g h1
    · refine ⟨.inr (by have := h.size; omega), hgw, fun e => ?_⟩
      have := hvl g e
      omega
  · rw [set_other (fun e => by injection e with _ e2; exact ho e2.symm), swb.cell]
    exact h.wbc o ho
  · have hk : k < x.heap.size := Nat.lt_of_lt_of_le h1 h.size
    refine SameAt.trans' (h.block k h1 h2 h3 h4) (SameAt.trans' (S k hk (fun e => ?_)) (set_same_at h2))
    rcases (h.hb k e).1 with h5 | h5
    · exact h3 h5
    · omega
theorem KInv.near {w x x' : World} {B wb : Nat} {hv v hx : Value} {vals xs : List Value} {j : Nat} (h : KInv w x B wb hv v hx vals xs j) {ob : Obj} (hg : (x.alloc ob).grownBy x' hx.ownBlock) : x'.cell? ⟨wb, 2, none⟩ = some hx ∧ x'.frozen? ⟨wb, 2, none⟩ = w.frozen? ⟨wb, 2, none⟩ := by
  have hwx : wb < x.heap.size := Nat.lt_of_lt_of_le h.wbl h.size
  have qa : Q x (x.alloc ob) := (Q.refl _).alloc _
  have swb : SameAt x x' wb := SameAt.trans' (qa.sameAt hwx) (hg.block wb (Nat.lt_of_lt_of_le hwx qa.size) (fun e => (h.hb wb e.symm).2.1 rfl))
  exact ⟨by rw [swb.cell]; exact h.cell, by rw [swb.frozen]; exact h.fz 2⟩
theorem KInv.own' {w x : World} {B wb : Nat} {hv v hx : Value} {vals xs : List Value} {j : Nat} (h : KInv w x B wb hv v hx vals xs j) {m : Nat} (hm : vals.length = m) : x.ownsRow B 41 1 hx m vals := by
  rw [← hm]; exact h.own
end Go.Proofs.YtdmaffciijmdcaaGreatDoor
/-
  The laws' own helpers: keep, walked.
-/
namespace Go.Proofs.YtdmaffciijmdcaaGreatDoor
open Go.RowKit Plain

def overM (l : List EvS) (e : EvS) (k : Nat) : List EvS := List.replicate k e ++ l.drop k
theorem overM_step {l : List EvS} {e : EvS} {k : Nat} (h : k < l.length) : (overM l e k).set k e = overM l e (k + 1) := by
  unfold overM
  rw [List.set_append_right _ _ (by simp), List.length_replicate, Nat.sub_self, List.drop_eq_getElem_cons h, List.set_cons_zero, List.replicate_succ', List.append_assoc]
  rfl
theorem overM_len {l : List EvS} {e : EvS} {k : Nat} (h : k ≤ l.length) : (overM l e k).length = l.length := by
  unfold overM; simp; omega
theorem evVals_set : ∀ (l : List EvS) (i : Nat) (e : EvS), i < l.length → ((((evVals l).set (i * 4) (.int .i64 e.kind)).set (i * 4 + 1) (.int .i64 e.conn)).set (i * 4 + 2) (str e.text)).set (i * 4 + 3) (.int .i64 e.port) = evVals (l.set i e)
  | [], i, e, h => by simp at h
  | f :: l, 0, e, _ => by
    show ((((evOf f ++ evVals l).set _ _).set _ _).set _ _).set _ _ = evOf e ++ evVals l
    rfl
  | f :: l, i + 1, e, h => by
    have ih := evVals_set l i e (by simpa using h)
    show ((((evOf f ++ evVals l).set _ _).set _ _).set _ _).set _ _ = evOf f ++ evVals (l.set i e)
    rw [← ih, List.set_append_right _ _ (by show 4 ≤ _; omega), List.set_append_right _ _ (by show 4 ≤ _; omega), List.set_append_right _ _ (by show 4 ≤ _; omega), List.set_append_right _ _ (by show 4 ≤ _; omega)]
    have hl : (evOf f).length = 4 := rfl
    rw [hl, show (i + 1) * 4 - 4 = i * 4 by omega, show (i + 1) * 4 + 1 - 4 = i * 4 + 1 by omega, show (i + 1) * 4 + 2 - 4 = i * 4 + 2 by omega, show (i + 1) * 4 + 3 - 4 = i * 4 + 3 by omega]

theorem slice_one (a : Option Addr) (n c : Nat) : ∀ u ∈ ([.slice a n c] : List Value), u.oneCell' = true := by
  intro u hu
  rw [List.mem_singleton.1 hu]; rfl
/-- What keep does. -/
def KeepPost (B wb : Nat) (hv : Value) (vals : List Value) (v : Value) (j : Nat) (w : World) (e : Ending) (w' : World) : Prop :=
  e = .returned (.tuple #[]) ∧ ∃ hx a b c, KInv w w' B wb hv v hx (vals ++ [v, a, b, c]) [v, a, b, c] j

set_option maxRecDepth 100000 in
set_option maxHeartbeats 3200000 in
theorem keep_any (B wb : Nat) (hv : Value) (vals : List Value) (v : Value) (l : List EvS) (j : Nat) (w : World) (hc : w.cell? ⟨wb, 2, none⟩ = some hv) (hown : w.ownsRow B 41 1 hv vals.length vals) (hf : w.frozen? ⟨wb, 2, none⟩ = false) (hj : vals.length = 4 * j) (hjb : j ≤ 1048700) (hl : w.ownsRow B 48 4 v l.length (evVals l)) (hn : l.length ≤ 900) (hvw : v.ownBlock ≠ some wb) (hhw : hv.ownBlock ≠ some wb) (hvh : ∀ k, hv.ownBlock = some k → v.ownBlock ≠ some k) (hB : B ≤ w.heap.size) :
    Calls Tryz.prog 102 #[ptr wb, v] w fun e w' => KeepPost B wb hv vals v j w e w' := by
  obtain ⟨ha, hcp, rfl⟩ := slice_form hown
  obtain ⟨va, vc, rfl⟩ := slice_form hl
  have hwb : wb < w.heap.size := Q.lt hc
  have e1 : ((vals.length : Nat) : Int).tdiv 4 = (j : Int) := by rw [Int.tdiv_eq_ediv_of_nonneg (by omega)]; omega
  have e2 : ((vals.length : Nat) : Int) / 4 = (j : Int) := by omega
  obtain ⟨vn, hvn⟩ : ∃ k, k = vals.length := ⟨_, rfl⟩
  obtain ⟨n, hln⟩ : ∃ k, k = l.length := ⟨_, rfl⟩
  have HLn := show Hid _ from hln
  have HVn := show Hid _ from hvn
  have hlt0 := owns_lt hl
  have HVl : Hid (∀ k, (Value.slice va l.length vc).ownBlock = some k → k < w.heap.size ∧ B ≤ k) := fun k hk => ⟨(hlt0 k hk).2, (hlt0 k hk).1⟩
  have HW0 : Hid ((w.alloc (.cells #[.int .i64 (-1000 - (j : Int)), .int .i64 0, .string ⟨#[]⟩, .int .i64 0] 48)).ownsRow B 48 4 (.slice va l.length vc) l.length (evVals (overM l (markS j) 0))) := by
    have : overM l (markS j) 0 = l := by simp [overM]
    show World.ownsRow _ _ _ _ _ _ _
    rw [this]
    exact owns_Q hl ((Q.refl _).alloc _)
  have HK0 : Hid (KInv w w B wb (.slice ha vals.length hcp) (.slice va l.length vc) (.slice ha vals.length hcp) vals [] j) := ⟨hc, hown, fun y hy => (by cases hy), fun y hy => (by cases hy), fun k hk => ⟨.inl hk, fun e => hhw (by rw [← e]; exact hk), hvh k hk⟩, hwb, hvw, fun _ _ => rfl, fun _ => rfl, rfl, rfl, rfl, Nat.le_refl _, fun _ _ _ _ _ => rfl⟩
  have HF := show Hid _ from hf
  rw [← hvn] at e1 e2 hc HK0
  rw [← hln] at HW0 hn HVl HK0 ⊢
  clear hown hl hvw hhw hvh hj hvn hln hlt0
  go_enter Tryz.func102, Tryz.ntmps102
  go_wp2_with fail
  obtain ⟨W0, hW0⟩ : ∃ x, x = w.alloc (.cells #[.int .i64 (-1000 - (j : Int)), .int .i64 0, .string ⟨#[]⟩, .int .i64 0] 48) := ⟨_, rfl⟩
  have hq0 : Q w W0 := by rw [hW0]; exact (Q.refl _).alloc _
  have hz0 : W0.heap.size = w.heap.size + 1 := by rw [hW0]; simp
  have HMb : Hid (W0.cell? ⟨w.heap.size, 0, none⟩ = some (.int .i64 (-1000 - (j : Int))) ∧ W0.cell? ⟨w.heap.size, 1, none⟩ = some (.int .i64 0) ∧ W0.cell? ⟨w.heap.size, 2, none⟩ = some (.string ⟨#[]⟩) ∧ W0.cell? ⟨w.heap.size, 3, none⟩ = some (.int .i64 0)) := by
    rw [hW0]
    exact ⟨by simp [go_sem], by simp [go_sem], by simp [go_sem], by simp [go_sem]⟩
  rw [← hW0] at HW0 ⊢
  have HQ0 : Hid (Q w W0) := hq0
  clear hW0 hq0 hc
  go_loopw [5] (fun i wr => ∃ k : Nat, k ≤ n ∧ i = .int .i64 (k : Int) ∧ Hid (wr.ownsRow B 48 4 (.slice va n vc) n (evVals (overM l (markS j) k))) ∧ Hid (W0.grownBy wr (Value.slice va n vc).ownBlock)) (fun i _ => n - (intOf i).toNat)
  case atStart => exact ⟨0, Nat.zero_le _, rfl, HW0.out, ⟨rfl, rfl, rfl, Nat.le_refl _, fun _ _ _ => rfl⟩⟩
  case round =>
    obtain ⟨k, hk, rfl, ho, hgr⟩ := hrel
    have smb : SameAt W0 wr w.heap.size := hgr.out.block w.heap.size (by omega) (fun e => by have := (HVl.out _ e.symm).1; omega)
    have m0 : wr.cell? ⟨w.heap.size, 0, none⟩ = some (.int .i64 (-1000 - (j : Int))) := by rw [smb.cell]; exact HMb.out.1
    have m1 : wr.cell? ⟨w.heap.size, 1, none⟩ = some (.int .i64 0) := by rw [smb.cell]; exact HMb.out.2.1
    have m2 : wr.cell? ⟨w.heap.size, 2, none⟩ = some (.string ⟨#[]⟩) := by rw [smb.cell]; exact HMb.out.2.2.1
    have m3 : wr.cell? ⟨w.heap.size, 3, none⟩ = some (.int .i64 0) := by rw [smb.cell]; exact HMb.out.2.2.2
    by_cases hlt : k < n
    · have dk : decide ((k : Int) < (n : Int)) = true := decide_eq_true (by omega)
      obtain ⟨g, cap, hvv, _, hgl⟩ := owned_form ho.out (by omega)
      injection hvv with hva _ hvc
      subst hva
      subst hvc
      have hlen : (overM l (markS j) k).length = n := by rw [overM_len (by have := HLn.out; omega)]; exact HLn.out.symm
      obtain ⟨ee, hee⟩ : ∃ ee, (overM l (markS j) k)[k]? = some ee := ⟨_, List.getElem?_eq_getElem (by omega)⟩
      have c0 := owned_at ho.out (k * 4) _ ((evVals_get _ k ee 0 hee (by decide)).trans rfl)
      have c1 := owned_at ho.out (k * 4 + 1) _ ((evVals_get _ k ee 1 hee (by decide)).trans rfl)
      have c2 := owned_at ho.out (k * 4 + 2) _ ((evVals_get _ k ee 2 hee (by decide)).trans rfl)
      have c3 := owned_at ho.out (k * 4 + 3) _ ((evVals_get _ k ee 3 hee (by decide)).trans rfl)
      unfold str at c2
      have f0 := owned_fz ho.out (k * 4)
      have f1 := owned_fz ho.out (k * 4 + 1)
      have f2 := owned_fz ho.out (k * 4 + 2)
      have f3 := owned_fz ho.out (k * 4 + 3)
      have hgm : g ≠ w.heap.size := fun e => by have := (HVl.out g rfl).1; omega
      have HNx : Hid (((((wr.setCell ⟨g, k * 4, none⟩ (.int .i64 (-1000 - (j : Int)))).setCell ⟨g, k * 4 + 1, none⟩ (.int .i64 0)).setCell ⟨g, k * 4 + 2, none⟩ (.string ⟨#[]⟩)).setCell ⟨g, k * 4 + 3, none⟩ (.int .i64 0)).ownsRow B 48 4 (.slice (some ⟨g, 0, none⟩) n vc) n (evVals (overM l (markS j) (k + 1)))) := by
        have s2 := owned_set (owned_set (owned_set (owned_set ho.out (k * 4) (.int .i64 (markS j).kind)) (k * 4 + 1) (.int .i64 (markS j).conn)) (k * 4 + 2) (str (markS j).text)) (k * 4 + 3) (.int .i64 (markS j).port)
        rw [evVals_set _ k (markS j) (by omega), overM_step (by have := HLn.out; omega)] at s2
        exact s2
      clear hlen hee
      go_wp2_with fail
      exact ⟨⟨k + 1, by omega, by go_num, HNx, grown_set (grown_set (grown_set (grown_set hgr.out rfl _ _) rfl _ _) rfl _ _) rfl _ _⟩, by simp [intOf]; omega⟩
    · have dk : decide ((k : Int) < (n : Int)) = false := decide_eq_false (by omega)
      obtain rfl : k = n := by omega
      have hom : wr.ownsRow B 48 4 (.slice va k vc) k (marks k (markS j)) := by
        have h1 := ho.out
        have h2 : overM l (markS j) k = List.replicate k (markS j) := by
          unfold overM
          rw [List.drop_eq_nil_of_le (by have := HLn.out; omega), List.append_nil]
        rw [h2] at h1
        exact h1
      have hom2 := owns_lt hom
      have K1 := (HK0.out.stays HQ0.out).first hgr.out (MarkAt.own hom (by omega)) (fun b hb => (hom2 b hb).2)
      have hBr : B ≤ wr.heap.size := by have := hgr.out.size; omega
      obtain ⟨aa, ac, wa, hra, hoa, Ka, sa, za⟩ := K1.more (m := 1) hom (by decide) (by decide) hn hBr
      obtain ⟨ba, bc, wb2, hrb, hob, Kb, sb, zb⟩ := Ka.more (m := 2) hoa (by decide) (by decide) hn (by omega)
      obtain ⟨ca, cc, wc2, hrc, hoc, Kc, sc, zc⟩ := Kb.more (m := 3) hob (by decide) (by decide) hn (by omega)
      have hmbv : (Value.slice va k vc).ownBlock ≠ some w.heap.size := fun e => by have := (HVl.out _ e).1; omega
      have hmr : w.heap.size < wr.heap.size := by have := hgr.out.size; omega
      have sma := sa w.heap.size hmr hmbv
      have smb2 := SameAt.trans' sma (sb w.heap.size (by omega) hmbv)
      have a0 : wa.cell? ⟨w.heap.size, 0, none⟩ = some (.int .i64 (-1000 - (j : Int))) := by rw [sma.cell]; exact m0
      have a1 : wa.cell? ⟨w.heap.size, 1, none⟩ = some (.int .i64 0) := by rw [sma.cell]; exact m1
      have a2 : wa.cell? ⟨w.heap.size, 2, none⟩ = some (.string ⟨#[]⟩) := by rw [sma.cell]; exact m2
      have a3 : wa.cell? ⟨w.heap.size, 3, none⟩ = some (.int .i64 0) := by rw [sma.cell]; exact m3
      have b0 : wb2.cell? ⟨w.heap.size, 0, none⟩ = some (.int .i64 (-1000 - (j : Int))) := by rw [smb2.cell]; exact m0
      have b1 : wb2.cell? ⟨w.heap.size, 1, none⟩ = some (.int .i64 0) := by rw [smb2.cell]; exact m1
      have b2 : wb2.cell? ⟨w.heap.size, 2, none⟩ = some (.string ⟨#[]⟩) := by rw [smb2.cell]; exact m2
      have b3 : wb2.cell? ⟨w.heap.size, 3, none⟩ = some (.int .i64 0) := by rw [smb2.cell]; exact m3
      have HLv : Hid (vals.length = vn) := HVn.out.symm
      have HRa := show Hid _ from hra
      have HRb := show Hid _ from hrb
      have HRc := show Hid _ from hrc
      have HKc : Hid (KInv w wc2 B wb (.slice ha vn hcp) (.slice va k vc) (.slice ha vn hcp) vals [.slice va k vc, .slice aa (k + 1) ac, .slice ba (k + 2) bc, .slice ca (k + 3) cc] j) := Kc
      have hVl2 : Hid (∀ b, (Value.slice va k vc).ownBlock = some b → b < w.heap.size) := fun b hb => (HVl.out b hb).1
      have kc := Kc.cell
      have kf : wc2.frozen? ⟨wb, 2, none⟩ = false := by rw [Kc.fz]; exact HF.out
      have hvb := Kc.vb
      have hzB : B ≤ wc2.heap.size := by omega
      have hzw : w.heap.size ≤ wc2.heap.size := by omega
      clear hom hom2 K1 Ka Kb Kc hra hrb hrc hoa hob hoc sa sb sc sma smb2 ho hgr smb HMb HK0
      go_wp2_with (first | (at_builtin; refine wpList_append_run rfl (.tmp 27) (.tmp 29) 41 41 rfl (.slice va k vc) (.slice (some ⟨wr.heap.size, 0, none⟩) 1 1) (.slice aa (k + 1) ac) wa rfl rfl HRa.out ?_) | (at_builtin; refine wpList_append_run rfl (.tmp 31) (.tmp 34) 41 41 rfl (.slice va k vc) (.slice (some ⟨wa.heap.size, 0, none⟩) 2 2) (.slice ba (k + 2) bc) wb2 rfl rfl HRb.out ?_) | (at_builtin; refine wpList_append_run rfl (.tmp 36) (.tmp 40) 41 41 rfl (.slice va k vc) (.slice (some ⟨wb2.heap.size, 0, none⟩) 3 3) (.slice ca (k + 3) cc) wc2 rfl rfl HRc.out ?_) | (at_builtin; refine append_el rfl (.tmp 46) (.tmp 48) 67 rfl 41 Tryz.t41 (.slice none 0 0) 1 24 Tryz.underlying67 (by kernel_rfl) (by kernel_rfl) (by kernel_rfl) (by kernel_rfl) rfl (by decide) (.slice ha vn hcp) vn vals [(.slice va k vc)] rfl B wc2 rfl rfl (HKc.out.own' HLv.out) (slice_one _ _ _) (by omega) (by decide) (Nat.le_trans hB HKc.out.size) ?_; intro g1 cap1 w1 ho1 hb1 hg1 hat1 hlt1; obtain ⟨kc1, kf1⟩ := HKc.out.near hg1; rw [HF.out] at kf1; have K1 := show Hid _ from HKc.out.listed HLv.out 41 ho1 hg1 hat1 (fun b hb => Nat.lt_of_lt_of_le (hVl2.out b hb) HKc.out.size); clear ho1 hb1 hg1 hat1) | (at_builtin; refine append_el rfl (.tmp 56) (.tmp 58) 67 rfl 41 Tryz.t41 (.slice none 0 0) 1 24 Tryz.underlying67 (by kernel_rfl) (by kernel_rfl) (by kernel_rfl) (by kernel_rfl) rfl (by decide) (.slice (some ⟨g1, 0, none⟩) (vn + 1) cap1) (vn + 1) (vals ++ [(.slice va k vc)]) [(.slice aa (k + 1) ac)] rfl B (w1.setCell ⟨wb, 2, none⟩ (.slice (some ⟨g1, 0, none⟩) (vn + 1) cap1)) rfl (by simp [Act.eval]) (K1.out.own' (by simp [HLv.out])) (slice_one _ _ _) (by omega) (by decide) (Nat.le_trans hB K1.out.size) ?_; intro g2 cap2 w2 ho2 hb2 hg2 hat2 hlt2; obtain ⟨kc2, kf2⟩ := K1.out.near hg2; rw [HF.out] at kf2; have K2 := show Hid _ from K1.out.listed (by simp [HLv.out]) 41 ho2 hg2 hat2 (fun b hb => Nat.lt_of_lt_of_le (hVl2.out b hb) K1.out.size); clear ho2 hb2 hg2 hat2) | (at_builtin; refine append_el rfl (.tmp 66) (.tmp 68) 67 rfl 41 Tryz.t41 (.slice none 0 0) 1 24 Tryz.underlying67 (by kernel_rfl) (by kernel_rfl) (by kernel_rfl) (by kernel_rfl) rfl (by decide) (.slice (some ⟨g2, 0, none⟩) ((vn + 1) + 1) cap2) ((vn + 1) + 1) ((vals ++ [(.slice va k vc)]) ++ [(.slice aa (k + 1) ac)]) [(.slice ba (k + 2) bc)] rfl B (w2.setCell ⟨wb, 2, none⟩ (.slice (some ⟨g2, 0, none⟩) ((vn + 1) + 1) cap2)) rfl (by simp [Act.eval]) (K2.out.own' (by simp [HLv.out])) (slice_one _ _ _) (by omega) (by decide) (Nat.le_trans hB K2.out.size) ?_; intro g3 cap3 w3 ho3 hb3 hg3 hat3 hlt3; obtain ⟨kc3, kf3⟩ := K2.out.near hg3; rw [HF.out] at kf3; have K3 := show Hid _ from K2.out.listed (by simp [HLv.out]) 41 ho3 hg3 hat3 (fun b hb => Nat.lt_of_lt_of_le (hVl2.out b hb) K2.out.size); clear ho3 hb3 hg3 hat3) | (at_builtin; refine append_el rfl (.tmp 76) (.tmp 78) 67 rfl 41 Tryz.t41 (.slice none 0 0) 1 24 Tryz.underlying67 (by kernel_rfl) (by kernel_rfl) (by kernel_rfl) (by kernel_rfl) rfl (by decide) (.slice (some ⟨g3, 0, none⟩) (((vn + 1) + 1) + 1) cap3) (((vn + 1) + 1) + 1) (((vals ++ [(.slice va k vc)]) ++ [(.slice aa (k + 1) ac)]) ++ [(.slice ba (k + 2) bc)]) [(.slice ca (k + 3) cc)] rfl B (w3.setCell ⟨wb, 2, none⟩ (.slice (some ⟨g3, 0, none⟩) (((vn + 1) + 1) + 1) cap3)) rfl (by simp [Act.eval]) (K3.out.own' (by simp [HLv.out])) (slice_one _ _ _) (by omega) (by decide) (Nat.le_trans hB K3.out.size) ?_; intro g4 cap4 w4 ho4 hb4 hg4 hat4 hlt4; obtain ⟨kc4, kf4⟩ := K3.out.near hg4; rw [HF.out] at kf4; have K4 := show Hid _ from K3.out.listed (by simp [HLv.out]) 41 ho4 hg4 hat4 (fun b hb => Nat.lt_of_lt_of_le (hVl2.out b hb) K3.out.size); clear ho4 hb4 hg4 hat4))
      go_end0
      refine ⟨rfl, .slice (some ⟨g4, 0, none⟩) (vn + 1 + 1 + 1 + 1) cap4, .slice aa (k + 1) ac, .slice ba (k + 2) bc, .slice ca (k + 3) cc, ?_⟩
      have hfin := K4.out
      simp only [List.append_assoc, List.singleton_append] at hfin
      rw [← HVn.out]
      exact hfin
end Go.Proofs.YtdmaffciijmdcaaGreatDoor

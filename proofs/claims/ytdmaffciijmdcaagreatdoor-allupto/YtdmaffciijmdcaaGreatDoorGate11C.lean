/-
  Package turnpike: Accept, walked.
-/
import Derived.Test.YtdmaffciijmdcaaGreatDoorGateVToGate10
namespace Go.Proofs.YtdmaffciijmdcaaGreatDoor
open Go.RowKit Plain

def AcceptPost (r : Rl) (B : Nat) (gb : Nat) (g : GateS) (w : World) (e : Ending) (w' : World) : Prop :=
  (g.conns.length = 8 ∧ w' = w ∧ e = .returned (.tuple #[.int .i64 0, .int .i64 6])) ∨
  (g.conns.length ≠ 8 ∧ (∃ r', GwStep r B w gb r' w' g.accept) ∧ e = .returned (.tuple #[.int .i64 ((g.last : Int) + 1), .int .i64 0]))

set_option maxRecDepth 100000 in
set_option maxHeartbeats 3200000 in
theorem accept_any {r : Rl} {B : Nat} {w : World} {gb : Nat} {g : GateS} (h : GwRep r B w gb g) (ok : GOk g) :
    Calls Tryz.prog 16 #[ptr gb] w fun e w' => AcceptPost r B gb g w e w' := by
  obtain ⟨cv, cbs, x1, x2, x3, x4⟩ := h.con
  have hlen := x4.len
  have hfew := ok.few
  have htop := ok.top
  have hBs : B ≤ w.heap.size := by
    have h1 := h.low gb (by rw [h.role]; simp)
    have h2 := h.lt gb (by rw [h.role]; simp)
    omega
  obtain ⟨vo, vc, rfl⟩ := slice_form x2
  have hgbl : gb < w.heap.size := Q.lt x1
  by_cases h8 : g.conns.length = 8
  · have d8 : ((cbs.length : Int) == 8) = true := by rw [beq_iff_eq]; omega
    have H8 := show Hid _ from h8
    clear h8 h ok x2 x3 x4
    go_enter Tryz.func16, Tryz.ntmps16
    go_wp2_with fail
    go_ret2
    exact .inl ⟨H8.out, rfl, rfl⟩
  · have d8 : ((cbs.length : Int) == 8) = false := by rw [beq_eq_false_iff_ne]; omega
    have H8 := show Hid _ from h8
    have hl3 := h.last
    have hfz3 := h.fz 3
    have hgne : ∀ k, (Value.slice vo cbs.length vc).ownBlock = some k → k ≠ gb := fun k hk e => by
      have := x3 k hk
      rw [e, h.role] at this
      cases this
    have hown1 : ((w.setCell ⟨gb, 3, none⟩ (.int .i64 ((g.last : Int) + 1)))).ownsRow B 95 1 (.slice vo cbs.length vc) cbs.length (cbs.map ptr) := owns_same x2 fun k hk => set_same_at (hgne k hk)
    have qW : Q (w.setCell ⟨gb, 3, none⟩ (.int .i64 ((g.last : Int) + 1))) ((((w.setCell ⟨gb, 3, none⟩ (.int .i64 ((g.last : Int) + 1))).alloc (.cells #[.int .i64 ((g.last : Int) + 1), .int .i64 0, .int .i64 0, .slice none 0 0, .bool false, .bool false] 101)).alloc (.cells #[.pointer (some ⟨w.heap.size, 0, none⟩)] 95)).drew) := (((Q.refl _).alloc _).alloc _).drew
    have HO := show Hid _ from owns_Q hown1 qW
    have hszW : (((((w.setCell ⟨gb, 3, none⟩ (.int .i64 ((g.last : Int) + 1))).alloc (.cells #[.int .i64 ((g.last : Int) + 1), .int .i64 0, .int .i64 0, .slice none 0 0, .bool false, .bool false] 101)).alloc (.cells #[.pointer (some ⟨w.heap.size, 0, none⟩)] 95)).drew)).heap.size = w.heap.size + 1 + 1 := by simp
    have HBB : Hid (B ≤ (((((w.setCell ⟨gb, 3, none⟩ (.int .i64 ((g.last : Int) + 1))).alloc (.cells #[.int .i64 ((g.last : Int) + 1), .int .i64 0, .int .i64 0, .slice none 0 0, .bool false, .bool false] 101)).alloc (.cells #[.pointer (some ⟨w.heap.size, 0, none⟩)] 95)).drew)).heap.size) := by show _ ≤ _; omega
    have hblk : (((((w.setCell ⟨gb, 3, none⟩ (.int .i64 ((g.last : Int) + 1))).alloc (.cells #[.int .i64 ((g.last : Int) + 1), .int .i64 0, .int .i64 0, .slice none 0 0, .bool false, .bool false] 101)).alloc (.cells #[.pointer (some ⟨w.heap.size, 0, none⟩)] 95)).drew)).heap[w.heap.size + 1]? = some (.cells #[.pointer (some ⟨w.heap.size, 0, none⟩)] 95) := by
      have := heap_two (w := (w.setCell ⟨gb, 3, none⟩ (.int .i64 ((g.last : Int) + 1)))) (a := (.cells #[.int .i64 ((g.last : Int) + 1), .int .i64 0, .int .i64 0, .slice none 0 0, .bool false, .bool false] 101)) (b := (.cells #[.pointer (some ⟨w.heap.size, 0, none⟩)] 95))
      simpa using this
    have hbox : (((((w.setCell ⟨gb, 3, none⟩ (.int .i64 ((g.last : Int) + 1))).alloc (.cells #[.int .i64 ((g.last : Int) + 1), .int .i64 0, .int .i64 0, .slice none 0 0, .bool false, .bool false] 101)).alloc (.cells #[.pointer (some ⟨w.heap.size, 0, none⟩)] 95)).drew)).heap[w.heap.size]? = some (.cells #[.int .i64 ((g.last : Int) + 1), .int .i64 0, .int .i64 0, .slice none 0 0, .bool false, .bool false] 101) := by
      show ((((w.setCell ⟨gb, 3, none⟩ (.int .i64 ((g.last : Int) + 1)))).heap.push _).push _)[w.heap.size]? = _
      rw [Array.getElem?_push, if_neg (by simp), Array.getElem?_push, if_pos (by simp)]
    have HNw := show Hid _ from World.news_of_block hblk
    have HOne : Hid (∀ u ∈ ([.pointer (some ⟨w.heap.size, 0, none⟩)] : List Value), u.oneCell' = true) := by
      intro u hu
      simp only [List.mem_cons, List.not_mem_nil, or_false] at hu
      rcases hu with rfl
      rfl
    have HFin : Hid (∀ (ge cap : Nat) (w3 : World), w3.ownsRow B 95 1 (.slice (some ⟨ge, 0, none⟩) (cbs.length + 1) cap) (cbs.length + 1) (cbs.map ptr ++ [.pointer (some ⟨w.heap.size, 0, none⟩)]) → (((((w.setCell ⟨gb, 3, none⟩ (.int .i64 ((g.last : Int) + 1))).alloc (.cells #[.int .i64 ((g.last : Int) + 1), .int .i64 0, .int .i64 0, .slice none 0 0, .bool false, .bool false] 101)).alloc (.cells #[.pointer (some ⟨w.heap.size, 0, none⟩)] 95)).drew)).grownBy w3 (Value.slice vo cbs.length vc).ownBlock → ((Value.slice vo cbs.length vc).ownBlock = some ge ∨ ge = (((((w.setCell ⟨gb, 3, none⟩ (.int .i64 ((g.last : Int) + 1))).alloc (.cells #[.int .i64 ((g.last : Int) + 1), .int .i64 0, .int .i64 0, .slice none 0 0, .bool false, .bool false] 101)).alloc (.cells #[.pointer (some ⟨w.heap.size, 0, none⟩)] 95)).drew)).heap.size) → ge < w3.heap.size →
        w3.cell? ⟨gb, 3, none⟩ = some (.int .i64 ((g.last : Int) + 1)) ∧ w3.cell? ⟨gb, 4, none⟩ = some (.slice vo cbs.length vc) ∧ w3.frozen? ⟨gb, 4, none⟩ = false ∧ ∃ r', GwStep r B w gb r' (w3.setCell ⟨gb, 4, none⟩ (.slice (some ⟨ge, 0, none⟩) (cbs.length + 1) cap)) g.accept) := by
      intro ge cap w3 hown3 hgrow hat3 _
      have hgw : some gb ≠ (Value.slice vo cbs.length vc).ownBlock := fun e => hgne gb e.symm rfl
      have hgW : ∀ o, w3.cell? ⟨gb, o, none⟩ = ((w.setCell ⟨gb, 3, none⟩ (.int .i64 ((g.last : Int) + 1)))).cell? ⟨gb, o, none⟩ := fun o => by
        rw [hgrow.cell_far ⟨gb, o, none⟩ (by rw [hszW]; show gb < _; omega) hgw]
        exact qW.cells.1 gb o (by simpa using hgbl)
      have hfW : ∀ o, w3.frozen? ⟨gb, o, none⟩ = false := fun o => by
        rw [hgrow.frozen_far ⟨gb, o, none⟩ (by rw [hszW]; show gb < _; omega) hgw, qW.cells.2 gb o (by simpa using hgbl), World.frozen?_setCell]
        exact h.fz o
      have e3 : w3.cell? ⟨gb, 3, none⟩ = some (.int .i64 ((g.last : Int) + 1)) := by rw [hgW]; exact set_same hl3
      have e4 : w3.cell? ⟨gb, 4, none⟩ = some (.slice vo cbs.length vc) := by
        rw [hgW, set_other (fun e => by injection e with _ e2; cases e2)]; exact x1
      have hgegb : ge ≠ gb := by
        rcases hat3 with h1 | h1
        · exact hgne ge h1
        · rw [hszW] at h1; omega
      have hnbr : some w.heap.size ≠ (Value.slice vo cbs.length vc).ownBlock := fun e => by
        have := h.lt w.heap.size (by rw [x3 _ e.symm]; simp)
        omega
      refine ⟨e3, e4, hfW 4, accept_rep h (cv := .slice vo cbs.length vc) (cbs := cbs) x3 x4 (ge := ge) (cap := cap) ?_ ?_ ?_ ?_ ?_ ?_ ?_ ?_ ?_ ?_ ?_ ?_ hBs⟩
      · intro b hb hne hrow
        have h1 := hgrow.block b (by rw [hszW]; omega) hrow
        have h2 := Below.block qW b (by simpa using hb)
        exact (set_same_at hne).trans (h1.trans (h2.trans (set_same_at hne)))
      · have := hgrow.size
        rw [hszW] at this
        simp
        omega
      · intro o h1 h2
        rw [set_other (fun e => by injection e with _ e2; exact h2 e2.symm), hgW, set_other (fun e => by injection e with _ e2; exact h1 e2.symm)]
      · intro o; rw [World.frozen?_setCell]; exact hfW o
      · rw [set_other (fun e => by injection e with _ e2; cases e2)]; exact e3
      · exact set_same e4
      · exact owns_same hown3 fun k hk => by
          have : ge = k := by simpa [Value.ownBlock] using hk
          exact set_same_at (by rw [← this]; exact hgegb)
      · rcases hat3 with h1 | h1
        · exact .inl h1
        · rw [hszW] at h1; exact .inr (by omega)
      · rw [Below.heap_setCell _ _ _ _ (by show w.heap.size ≠ gb; omega), hgrow.block w.heap.size (by rw [hszW]; omega) hnbr]
        exact hbox
      · exact hgrow.os
      · exact hgrow.tape
      · exact hgrow.output
    clear h8 h ok x2 x3 x4 hown1 hblk hbox hgne
    have hcl8 : cbs.length ≤ 8 := by omega
    clear hlen
    go_enter Tryz.func16, Tryz.ntmps16
    go_wp2_with fail
    refine wp_region_held_drew (S := fun w' => w'.cell? ⟨gb, 3, none⟩ = some (.int .i64 ((g.last : Int) + 1))) (by kernel_rfl) (by simpa using set_same hl3) (fun hHeld0 => ?_)
    refine wpAnyH_take (i := 0) (v := ?_) rfl (by kernel_rfl) (by kernel_rfl) (by kernel_rfl) (fun _ _ _ h => h) (Or.inl ⟨by rfl, ?_⟩) (by assumption) ?_
    rotate_left
    · (intro w hSw; (try dsimp only at hSw); go_simp; try with_reducible rfl)
    simp only [Act.put, List.getElem_toArray, List.getElem_cons_zero, List.setIfInBounds_toArray, List.set_cons_zero, List.set_cons_succ]
    refine wpAnyH_take (i := 1) (v := ?_) rfl (by kernel_rfl) (by kernel_rfl) (by kernel_rfl) (fun _ _ _ h => h) (Or.inl ⟨by rfl, ?_⟩) (by assumption) ?_
    rotate_left
    · (intro w hSw; (try dsimp only at hSw); go_simp; try with_reducible rfl)
    simp only [Act.put, List.getElem_toArray, List.getElem_cons_zero, List.getElem_cons_succ, List.setIfInBounds_toArray, List.set_cons_zero, List.set_cons_succ]
    refine wpAnyH_take (i := 2) (v := ?_) rfl (by kernel_rfl) (by kernel_rfl) (by kernel_rfl) (fun _ _ _ h => h) (Or.inl ⟨by rfl, ?_⟩) (by assumption) ?_
    rotate_left
    · (intro w hSw; (try dsimp only at hSw); go_simp; try with_reducible rfl)
    simp only [Act.put, List.getElem_toArray, List.getElem_cons_zero, List.getElem_cons_succ, List.setIfInBounds_toArray, List.set_cons_zero, List.set_cons_succ]
    refine wpAnyH_take (i := 3) (v := ?_) rfl (by kernel_rfl) (by kernel_rfl) (by kernel_rfl) (fun _ _ _ h => h) (Or.inl ⟨by rfl, ?_⟩) (by assumption) ?_
    rotate_left
    · (intro w hSw; (try dsimp only at hSw); go_simp; try with_reducible rfl)
    simp only [Act.put, List.getElem_toArray, List.getElem_cons_zero, List.getElem_cons_succ, List.setIfInBounds_toArray, List.set_cons_zero, List.set_cons_succ]
    refine wpAnyH_take (i := 5) (v := ?_) rfl (by kernel_rfl) (by kernel_rfl) (by kernel_rfl) (fun _ _ _ h => h) (Or.inl ⟨by rfl, ?_⟩) (by assumption) ?_
    rotate_left
    · (intro w hSw; (try dsimp only at hSw); go_simp; try with_reducible rfl)
    simp only [Act.put, List.getElem_toArray, List.getElem_cons_zero, List.getElem_cons_succ, List.setIfInBounds_toArray, List.set_cons_zero, List.set_cons_succ]
    refine wpAnyH_take (i := 6) (v := ?_) rfl (by kernel_rfl) (by kernel_rfl) (by kernel_rfl) (fun _ _ _ h => h) (Or.inl ⟨by rfl, ?_⟩) (by assumption) ?_
    rotate_left
    · (intro w hSw; (try dsimp only at hSw); go_simp; try with_reducible rfl)
    simp only [Act.put, List.getElem_toArray, List.getElem_cons_zero, List.getElem_cons_succ, List.setIfInBounds_toArray, List.set_cons_zero, List.set_cons_succ]
    refine wpAnyH_take (i := 7) (v := ?_) rfl (by kernel_rfl) (by kernel_rfl) (by kernel_rfl) (fun _ _ _ h => h) (Or.inl ⟨by rfl, ?_⟩) (by assumption) ?_
    rotate_left
    · (intro w hSw; (try dsimp only at hSw); go_simp; try with_reducible rfl)
    simp only [Act.put, List.getElem_toArray, List.getElem_cons_zero, List.getElem_cons_succ, List.setIfInBounds_toArray, List.set_cons_zero, List.set_cons_succ]
    refine wpAnyH_take (i := 8) (v := ?_) rfl (by kernel_rfl) (by kernel_rfl) (by kernel_rfl) (fun _ _ _ h => h) (Or.inl ⟨by rfl, ?_⟩) (by assumption) ?_
    rotate_left
    · (intro w hSw; (try dsimp only at hSw); go_simp; try with_reducible rfl)
    simp only [Act.put, List.getElem_toArray, List.getElem_cons_zero, List.getElem_cons_succ, List.setIfInBounds_toArray, List.set_cons_zero, List.set_cons_succ]
    refine wpAnyH_take (i := 9) (v := ?_) rfl (by kernel_rfl) (by kernel_rfl) (by kernel_rfl) (fun _ _ _ h => h) (Or.inl ⟨by rfl, ?_⟩) (by assumption) ?_
    rotate_left
    · (intro w hSw; (try dsimp only at hSw); go_simp; try with_reducible rfl)
    simp only [Act.put, List.getElem_toArray, List.getElem_cons_zero, List.getElem_cons_succ, List.setIfInBounds_toArray, List.set_cons_zero, List.set_cons_succ]
    refine wpAnyH_take (i := 10) (v := ?_) rfl (by kernel_rfl) (by kernel_rfl) (by kernel_rfl) (fun _ _ _ h => h) (Or.inl ⟨by rfl, ?_⟩) (by assumption) ?_
    rotate_left
    · (intro w hSw; (try dsimp only at hSw); go_simp; try with_reducible rfl)
    simp only [Act.put, List.getElem_toArray, List.getElem_cons_zero, List.getElem_cons_succ, List.setIfInBounds_toArray, List.set_cons_zero, List.set_cons_succ]
    refine wpAnyH_ready (rs := [4, 11]) (by kernel_rfl) (by simp) ?_
    refine AllReadyH.cons rfl (fun K hK => ?_) (AllReadyH.cons rfl (fun K hK => ?_) AllReadyH.nil)
    · go_simp
      refine hK.out _ _ (by first | exact hHeld0 | (have h3' := set_same (v := .int .i64 ((g.last : Int) + 1)) hl3; simp [go_sem, hgbl, h3'])) (fun _ => ?_)
      clear hK K
      refine wpAnyH_ready (rs := [11]) (by kernel_rfl) (by simp) ?_
      refine AllReadyH.cons rfl (fun K hK => ?_) AllReadyH.nil
      go_simp
      refine hK.out _ _ (by first | exact hHeld0 | (have h3' := set_same (v := .int .i64 ((g.last : Int) + 1)) hl3; simp [go_sem, hgbl, h3'])) (fun _ => ?_)
      clear hK K
      refine wpAnyH_ready (rs := [12]) (by kernel_rfl) (by simp) ?_
      refine AllReadyH.cons rfl (fun K hK => ?_) AllReadyH.nil
      go_simp
      refine hK.out _ _ (by first | exact hHeld0 | (have h3' := set_same (v := .int .i64 ((g.last : Int) + 1)) hl3; simp [go_sem, hgbl, h3'])) (fun _ => ?_)
      clear hK K
      refine wpAnyH_ready (rs := [13]) (by kernel_rfl) (by simp) ?_
      refine AllReadyH.cons rfl (fun K hK => ?_) AllReadyH.nil
      refine step_append_lies _ rfl (.tmp 21) (.tmp 29) 90 rfl B 95 Tryz.t95 (.pointer none) 1 8 Tryz.underlying90 (by kernel_rfl) (by kernel_rfl) (by kernel_rfl) (by kernel_rfl) rfl (by decide) (.slice vo cbs.length vc) cbs.length (cbs.map ptr) rfl HO.out ⟨w.heap.size + 1, 0, none⟩ 1 1 [.pointer (some ⟨w.heap.size, 0, none⟩)] rfl rfl HNw.out HOne.out (by decide) (by unfold maxLen; omega) (by omega) HBB.out _ rfl ?_
      intro ge cap w3 hown3 hgrow hat3 hlt3
      obtain ⟨y3, y4, yf, yr⟩ := HFin.out ge cap w3 hown3 hgrow hat3 hlt3
      have HYR := show Hid _ from yr
      clear yr hown3 hgrow hat3 hlt3
      refine hK.out _ _ y3 (fun _ => ?_)
      clear hK K
      simp only [Act.put, List.getElem_toArray, List.getElem_cons_zero, List.getElem_cons_succ, List.setIfInBounds_toArray, List.set_cons_zero, List.set_cons_succ]
      refine wpAnyH_take (i := 14) (v := ?_) rfl (by kernel_rfl) (by kernel_rfl) (by kernel_rfl) (fun _ _ _ h => h) (Or.inl ⟨by rfl, ?_⟩) (by assumption) ?_
      rotate_left
      · (intro w hSw; (try dsimp only at hSw); go_simp; try with_reducible rfl)
      simp only [Act.put, List.getElem_toArray, List.getElem_cons_zero, List.getElem_cons_succ, List.setIfInBounds_toArray, List.set_cons_zero, List.set_cons_succ]
      refine wpAnyH_take (i := 15) (v := ?_) rfl (by kernel_rfl) (by kernel_rfl) (by kernel_rfl) (fun _ _ _ h => h) (Or.inl ⟨by rfl, ?_⟩) (by assumption) ?_
      rotate_left
      · (intro w hSw; (try dsimp only at hSw); go_simp; try with_reducible rfl)
      simp only [Act.put, List.getElem_toArray, List.getElem_cons_zero, List.getElem_cons_succ, List.setIfInBounds_toArray, List.set_cons_zero, List.set_cons_succ]
      refine wpAnyH_ready (rs := [16]) (by kernel_rfl) (by simp) ?_
      refine AllReadyH.cons rfl (fun K hK => ?_) AllReadyH.nil
      go_simp
      have y3' : (w3.setCell ⟨gb, 4, none⟩ (.slice (some ⟨ge, 0, none⟩) (cbs.length + 1) cap)).cell? ⟨gb, 3, none⟩ = some (.int .i64 ((g.last : Int) + 1)) := by
        rw [set_other (fun e => by injection e with _ e2; cases e2)]; exact y3
      refine hK.out _ _ y3' (fun _ => ?_)
      clear hK K
      refine wpAnyH_done (by kernel_rfl) ?_ _
      go_wp2_with fail
      go_ret2
      exact .inr ⟨H8.out, HYR.out, rfl⟩
    · go_simp
      refine hK.out _ _ (by first | exact hHeld0 | (have h3' := set_same (v := .int .i64 ((g.last : Int) + 1)) hl3; simp [go_sem, hgbl, h3'])) (fun _ => ?_)
      clear hK K
      refine wpAnyH_ready (rs := [4, 12]) (by kernel_rfl) (by simp) ?_
      refine AllReadyH.cons rfl (fun K hK => ?_) (AllReadyH.cons rfl (fun K hK => ?_) AllReadyH.nil)
      · go_simp
        refine hK.out _ _ (by first | exact hHeld0 | (have h3' := set_same (v := .int .i64 ((g.last : Int) + 1)) hl3; simp [go_sem, hgbl, h3'])) (fun _ => ?_)
        clear hK K
        refine wpAnyH_ready (rs := [12]) (by kernel_rfl) (by simp) ?_
        refine AllReadyH.cons rfl (fun K hK => ?_) AllReadyH.nil
        go_simp
        refine hK.out _ _ (by first | exact hHeld0 | (have h3' := set_same (v := .int .i64 ((g.last : Int) + 1)) hl3; simp [go_sem, hgbl, h3'])) (fun _ => ?_)
        clear hK K
        refine wpAnyH_ready (rs := [13]) (by kernel_rfl) (by simp) ?_
        refine AllReadyH.cons rfl (fun K hK => ?_) AllReadyH.nil
        refine step_append_lies _ rfl (.tmp 21) (.tmp 29) 90 rfl B 95 Tryz.t95 (.pointer none) 1 8 Tryz.underlying90 (by kernel_rfl) (by kernel_rfl) (by kernel_rfl) (by kernel_rfl) rfl (by decide) (.slice vo cbs.length vc) cbs.length (cbs.map ptr) rfl HO.out ⟨w.heap.size + 1, 0, none⟩ 1 1 [.pointer (some ⟨w.heap.size, 0, none⟩)] rfl rfl HNw.out HOne.out (by decide) (by unfold maxLen; omega) (by omega) HBB.out _ rfl ?_
        intro ge cap w3 hown3 hgrow hat3 hlt3
        obtain ⟨y3, y4, yf, yr⟩ := HFin.out ge cap w3 hown3 hgrow hat3 hlt3
        have HYR := show Hid _ from yr
        clear yr hown3 hgrow hat3 hlt3
        refine hK.out _ _ y3 (fun _ => ?_)
        clear hK K
        simp only [Act.put, List.getElem_toArray, List.getElem_cons_zero, List.getElem_cons_succ, List.setIfInBounds_toArray, List.set_cons_zero, List.set_cons_succ]
        refine wpAnyH_take (i := 14) (v := ?_) rfl (by kernel_rfl) (by kernel_rfl) (by kernel_rfl) (fun _ _ _ h => h) (Or.inl ⟨by rfl, ?_⟩) (by assumption) ?_
        rotate_left
        · (intro w hSw; (try dsimp only at hSw); go_simp; try with_reducible rfl)
        simp only [Act.put, List.getElem_toArray, List.getElem_cons_zero, List.getElem_cons_succ, List.setIfInBounds_toArray, List.set_cons_zero, List.set_cons_succ]
        refine wpAnyH_take (i := 15) (v := ?_) rfl (by kernel_rfl) (by kernel_rfl) (by kernel_rfl) (fun _ _ _ h => h) (Or.inl ⟨by rfl, ?_⟩) (by assumption) ?_
        rotate_left
        · (intro w hSw; (try dsimp only at hSw); go_simp; try with_reducible rfl)
        simp only [Act.put, List.getElem_toArray, List.getElem_cons_zero, List.getElem_cons_succ, List.setIfInBounds_toArray, List.set_cons_zero, List.set_cons_succ]
        refine wpAnyH_ready (rs := [16]) (by kernel_rfl) (by simp) ?_
        refine AllReadyH.cons rfl (fun K hK => ?_) AllReadyH.nil
        go_simp
        have y3' : (w3.setCell ⟨gb, 4, none⟩ (.slice (some ⟨ge, 0, none⟩) (cbs.length + 1) cap)).cell? ⟨gb, 3, none⟩ = some (.int .i64 ((g.last : Int) + 1)) := by
          rw [set_other (fun e => by injection e with _ e2; cases e2)]; exact y3
        refine hK.out _ _ y3' (fun _ => ?_)
        clear hK K
        refine wpAnyH_done (by kernel_rfl) ?_ _
        go_wp2_with fail
        go_ret2
        exact .inr ⟨H8.out, HYR.out, rfl⟩
      · go_simp
        refine hK.out _ _ (by first | exact hHeld0 | (have h3' := set_same (v := .int .i64 ((g.last : Int) + 1)) hl3; simp [go_sem, hgbl, h3'])) (fun _ => ?_)
        clear hK K
        refine wpAnyH_ready (rs := [4]) (by kernel_rfl) (by simp) ?_
        refine AllReadyH.cons rfl (fun K hK => ?_) AllReadyH.nil
        go_simp
        refine hK.out _ _ (by first | exact hHeld0 | (have h3' := set_same (v := .int .i64 ((g.last : Int) + 1)) hl3; simp [go_sem, hgbl, h3'])) (fun _ => ?_)
        clear hK K
        refine wpAnyH_ready (rs := [13]) (by kernel_rfl) (by simp) ?_
        refine AllReadyH.cons rfl (fun K hK => ?_) AllReadyH.nil
        refine step_append_lies _ rfl (.tmp 21) (.tmp 29) 90 rfl B 95 Tryz.t95 (.pointer none) 1 8 Tryz.underlying90 (by kernel_rfl) (by kernel_rfl) (by kernel_rfl) (by kernel_rfl) rfl (by decide) (.slice vo cbs.length vc) cbs.length (cbs.map ptr) rfl HO.out ⟨w.heap.size + 1, 0, none⟩ 1 1 [.pointer (some ⟨w.heap.size, 0, none⟩)] rfl rfl HNw.out HOne.out (by decide) (by unfold maxLen; omega) (by omega) HBB.out _ rfl ?_
        intro ge cap w3 hown3 hgrow hat3 hlt3
        obtain ⟨y3, y4, yf, yr⟩ := HFin.out ge cap w3 hown3 hgrow hat3 hlt3
        have HYR := show Hid _ from yr
        clear yr hown3 hgrow hat3 hlt3
        refine hK.out _ _ y3 (fun _ => ?_)
        clear hK K
        simp only [Act.put, List.getElem_toArray, List.getElem_cons_zero, List.getElem_cons_succ, List.setIfInBounds_toArray, List.set_cons_zero, List.set_cons_succ]
        refine wpAnyH_take (i := 14) (v := ?_) rfl (by kernel_rfl) (by kernel_rfl) (by kernel_rfl) (fun _ _ _ h => h) (Or.inl ⟨by rfl, ?_⟩) (by assumption) ?_
        rotate_left
        · (intro w hSw; (try dsimp only at hSw); go_simp; try with_reducible rfl)
        simp only [Act.put, List.getElem_toArray, List.getElem_cons_zero, List.getElem_cons_succ, List.setIfInBounds_toArray, List.set_cons_zero, List.set_cons_succ]
        refine wpAnyH_take (i := 15) (v := ?_) rfl (by kernel_rfl) (by kernel_rfl) (by kernel_rfl) (fun _ _ _ h => h) (Or.inl ⟨by rfl, ?_⟩) (by assumption) ?_
        rotate_left
        · (intro w hSw; (try dsimp only at hSw); go_simp; try with_reducible rfl)
        simp only [Act.put, List.getElem_toArray, List.getElem_cons_zero, List.getElem_cons_succ, List.setIfInBounds_toArray, List.set_cons_zero, List.set_cons_succ]
        refine wpAnyH_ready (rs := [16]) (by kernel_rfl) (by simp) ?_
        refine AllReadyH.cons rfl (fun K hK => ?_) AllReadyH.nil
        go_simp
        have y3' : (w3.setCell ⟨gb, 4, none⟩ (.slice (some ⟨ge, 0, none⟩) (cbs.length + 1) cap)).cell? ⟨gb, 3, none⟩ = some (.int .i64 ((g.last : Int) + 1)) := by
          rw [set_other (fun e => by injection e with _ e2; cases e2)]; exact y3
        refine hK.out _ _ y3' (fun _ => ?_)
        clear hK K
        refine wpAnyH_done (by kernel_rfl) ?_ _
        go_wp2_with fail
        go_ret2
        exact .inr ⟨H8.out, HYR.out, rfl⟩
end Go.Proofs.YtdmaffciijmdcaaGreatDoor

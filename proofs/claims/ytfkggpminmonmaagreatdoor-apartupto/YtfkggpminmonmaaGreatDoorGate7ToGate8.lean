/-
  Package turnpike: refuse.
-/
import Derived.Test.YtfkggpminmonmaaGreatDoorGate6C
namespace Go.Proofs.YtfkggpminmonmaaGreatDoor
open Go.RowKit Plain

/-- Events, in new memory that is no gateway's. -/
def EvsOut (r' : Rl) (l : List EvS) (w : World) (v : Value) (w' : World) : Prop :=
  w'.ownsRow w.heap.size 48 4 v l.length (evVals l) ∧ ∀ k, v.ownBlock = some k → r' k = none

def GwPost (r : Rl) (B : Nat) (gb : Nat) (g' : GateS) (l : List EvS) (w : World) (e : Ending) (w' : World) : Prop :=
  ∃ r' v, e = .returned v ∧ GwStep r B w gb r' w' g' ∧ EvsOut r' l w v w'

theorem sized {r : Rl} {B : Nat} {w : World} {gb : Nat} {g : GateS} (h : GwRep r B w gb g) {k : Nat} (hk : w.heap.size ≤ k) : r k = none := by
  cases hr : r k with
  | none => rfl
  | some x =>
    have := h.lt k (by rw [hr]; simp)
    omega

theorem slice_form {w : World} {B : Nat} {e : TypeId} {size : Nat} {v : Value} {n : Nat} {xs : List Value} (h : w.ownsRow B e size v n xs) : ∃ o c, v = .slice o n c := by
  rcases h.2 with ⟨h1, h2⟩ | ⟨g, cap, cur, h1, _⟩
  · exact ⟨none, 0, by rw [h1, h2]⟩
  · exact ⟨_, _, h1⟩

set_option maxRecDepth 100000 in
set_option maxHeartbeats 1600000 in
theorem refuse_any {r : Rl} {B : Nat} {w : World} {gb : Nat} {g : GateS} {i cb : Nat} {c : ConnS} (h : AtConn r B w gb g i cb c) (s : ByteArray) (hs : s.size ≤ 4294967296) :
    Calls Tryz.prog 81 #[ptr gb, ptr cb, .string s] w fun e w' => GwPost r B gb (g.drop c.num) (sendS 2 c.num s.data.toList ++ [⟨4, c.num, [], 0⟩]) w e w' := by
  have HD := show Hid _ from drop_any h
  have hc0 := h.conn.c0
  have hlen : (sendS 2 c.num s.data.toList).length ≤ 1 := by unfold sendS; split <;> simp
  clear h
  go_enter Tryz.func81, Tryz.ntmps81
  go_wp2_with fail
  refine Calls.mono (Hid.out HD) ?_
  rintro e w1 ⟨rfl, hst, hsame⟩
  have hc1 : w1.cell? ⟨cb, 0, none⟩ = some (.int .i64 (c.num : Int)) := by rw [hsame.cell]; exact hc0
  have HST := show Hid _ from hst
  have hz1 := hst.fr.size
  clear HD hsame hst hc0
  have HS := fun x hx => show Hid _ from send_any 2 c.num s cb x hx hs
  have HE := fun x hx => show Hid _ from event_any 4 c.num cb x hx
  go_wp2_with fail
  refine wp_region_held_drew (S := fun w' => w'.cell? ⟨cb, 0, none⟩ = some (.int .i64 (c.num : Int)) ∧ Q w1 w') (by kernel_rfl) ⟨by simpa using hc1, (Q.refl _).drew⟩ (fun hHeld0 => ?_)
  refine wpAnyH_take (i := 0) (v := ?_) rfl (by kernel_rfl) (by kernel_rfl) (by kernel_rfl) (fun _ _ _ h => h) (Or.inl ⟨by rfl, ?_⟩) (by assumption) ?_
  rotate_left
  · (intro w hSw; (try dsimp only at hSw); go_simp; try with_reducible rfl)
  simp only [Act.put, List.getElem_toArray, List.getElem_cons_zero, List.setIfInBounds_toArray, List.set_cons_zero, List.set_cons_succ]
  refine wpAnyH_take (i := 1) (v := ?_) rfl (by kernel_rfl) (by kernel_rfl) (by kernel_rfl) (fun _ _ _ h => h) (Or.inl ⟨by rfl, ?_⟩) (by assumption) ?_
  rotate_left
  · (intro w hSw; (try dsimp only at hSw); go_simp; try with_reducible rfl)
  simp only [Act.put, List.getElem_toArray, List.getElem_cons_zero, List.getElem_cons_succ, List.setIfInBounds_toArray, List.set_cons_zero, List.set_cons_succ]
  refine wpAnyH_take (i := 2) (v := ?_) rfl (by kernel_rfl) (by kernel_rfl) (by kernel_rfl) (fun _ _ _ h => h) (Or.inl ⟨by rfl, ?_⟩) (by assumption) ?_
  rotate_left
  · (intro w hSw; (try dsimp only at hSw); go_simp; try with_reducible rfl)
  simp only [Act.put, List.getElem_toArray, List.getElem_cons_zero, List.getElem_cons_succ, List.setIfInBounds_toArray, List.set_cons_zero, List.set_cons_succ]
  refine wpAnyH_take (i := 3) (v := ?_) rfl (by kernel_rfl) (by kernel_rfl) (by kernel_rfl) (fun _ _ _ h => h) (Or.inl ⟨by rfl, ?_⟩) (by assumption) ?_
  rotate_left
  · (intro w hSw; (try dsimp only at hSw); go_simp; try with_reducible rfl)
  simp only [Act.put, List.getElem_toArray, List.getElem_cons_zero, List.getElem_cons_succ, List.setIfInBounds_toArray, List.set_cons_zero, List.set_cons_succ]
  refine wpAnyH_take (i := 5) (v := ?_) rfl (by kernel_rfl) (by kernel_rfl) (by kernel_rfl) (fun _ _ _ h => h) (Or.inl ⟨by rfl, ?_⟩) (by assumption) ?_
  rotate_left
  · (intro w hSw; (try dsimp only at hSw); go_simp; try with_reducible rfl)
  simp only [Act.put, List.getElem_toArray, List.getElem_cons_zero, List.getElem_cons_succ, List.setIfInBounds_toArray, List.set_cons_zero, List.set_cons_succ]
  refine wpAnyH_take (i := 6) (v := ?_) rfl (by kernel_rfl) (by kernel_rfl) (by kernel_rfl) (fun _ _ _ h => h) (Or.inl ⟨by rfl, ?_⟩) (by assumption) ?_
  rotate_left
  · (intro w hSw; (try dsimp only at hSw); go_simp; try with_reducible rfl)
  simp only [Act.put, List.getElem_toArray, List.getElem_cons_zero, List.getElem_cons_succ, List.setIfInBounds_toArray, List.set_cons_zero, List.set_cons_succ]
  refine wpAnyH_take (i := 7) (v := ?_) rfl (by kernel_rfl) (by kernel_rfl) (by kernel_rfl) (fun _ _ _ h => h) (Or.inl ⟨by rfl, ?_⟩) (by assumption) ?_
  rotate_left
  · (intro w hSw; (try dsimp only at hSw); go_simp; try with_reducible rfl)
  simp only [Act.put, List.getElem_toArray, List.getElem_cons_zero, List.getElem_cons_succ, List.setIfInBounds_toArray, List.set_cons_zero, List.set_cons_succ]
  refine wpAnyH_ready (rs := [4]) (by kernel_rfl) (by simp) ?_
  refine AllReadyH.cons rfl (fun K hK => ?_) AllReadyH.nil
  go_simp
  refine Calls.mono (Hid.out (HS _ (by simpa using hc1))) ?_
  rintro e w2 ⟨hq2, v2, rfl, hown2⟩
  have q2 : Q w1 w2 := ((Q.refl _).drew).trans hq2
  have hown2' : w2.ownsRow w1.heap.size 48 4 v2 (sendS 2 c.num s.data.toList).length (evVals (sendS 2 c.num s.data.toList)) := hown2
  obtain ⟨vo, vc, rfl⟩ := slice_form hown2'
  have hc2 := q2.cell hc1
  have HO2 := show Hid _ from hown2'
  clear hq2 hown2 hown2' HS
  go_wp2_with fail
  refine hK.out _ _ ⟨hc2, q2⟩ (fun hHeld1 => ?_)
  clear hK K hHeld0
  refine wpAnyH_ready (rs := [8]) (by kernel_rfl) (by simp) ?_
  refine AllReadyH.cons rfl (fun K hK => ?_) AllReadyH.nil
  go_simp
  refine Calls.mono (Hid.out (HE _ hc2)) ?_
  rintro e w3 ⟨rfl, hq3⟩
  have q3 : Q w1 w3 := q2.trans hq3
  have hc3 := q3.cell hc1
  have HO3 := show Hid _ from owns_Q HO2.out hq3
  clear HE HO2
  go_wp2_with fail
  refine hK.out _ _ ⟨hc3, q3⟩ (fun hHeld2 => ?_)
  clear hK K hHeld1
  refine wpAnyH_ready (rs := [9]) (by kernel_rfl) (by simp) ?_
  refine AllReadyH.cons rfl (fun K hK => ?_) AllReadyH.nil
  go_simp
  have q4 : Q w3 (w3.alloc (.cells #[.int .i64 4, .int .i64 (c.num : Int), .string ⟨#[]⟩, .int .i64 0] 48)) := (Q.refl _).alloc _
  refine hK.out _ _ ⟨q4.cell hc3, q3.trans q4⟩ (fun hHeld3 => ?_)
  clear hK K hHeld2
  refine wpAnyH_ready (rs := [10]) (by kernel_rfl) (by simp) ?_
  refine AllReadyH.cons rfl (fun K hK => ?_) AllReadyH.nil
  have HO4 := show Hid _ from owns_Q HO3.out q4
  have HNw := show Hid _ from World.news_of_block (w := w3.alloc (.cells #[.int .i64 4, .int .i64 (c.num : Int), .string ⟨#[]⟩, .int .i64 0] 48)) (B := w3.heap.size) (cs := #[.int .i64 4, .int .i64 (c.num : Int), .string ⟨#[]⟩, .int .i64 0]) (t := 48) (fr := (0, 0)) (heap_alloc_new w3 _)
  have HOne : Hid (∀ u ∈ ([.int .i64 4, .int .i64 (c.num : Int), .string ⟨#[]⟩, .int .i64 0] : List Value), u.oneCell' = true) := by
    intro u hu
    simp only [List.mem_cons, List.not_mem_nil, or_false] at hu
    rcases hu with rfl | rfl | rfl | rfl <;> rfl
  have hz3 := q3.size
  refine step_append_lies _ rfl (.tmp 14) (.tmp 19) 41 rfl w1.heap.size 48 Tryz.t48 (.agg #[.int .i64 0, .int .i64 0, .string ⟨#[]⟩, .int .i64 0]) 4 40 Tryz.underlying41 (by kernel_rfl) (by kernel_rfl) (by kernel_rfl) (by kernel_rfl) rfl (by decide) (.slice vo (sendS 2 c.num s.data.toList).length vc) (sendS 2 c.num s.data.toList).length (evVals (sendS 2 c.num s.data.toList)) rfl HO4.out ⟨w3.heap.size, 0, none⟩ 1 1 [.int .i64 4, .int .i64 (c.num : Int), .string ⟨#[]⟩, .int .i64 0] rfl rfl HNw.out HOne.out (by decide) (by unfold maxLen; omega) (by omega) (by simp; omega) _ rfl ?_
  intro ge cap w5 hown5 hgrow hat hlt5
  have hol := owns_lt HO4.out
  have hQ5 : Below w1.heap.size w1 w5 := Below.grown (q3.trans q4) hgrow (q3.trans q4).size (fun k hk => (hol k hk).1)
  have hc5 : w5.cell? ⟨cb, 0, none⟩ = some (.int .i64 (c.num : Int)) := by
    have := Below.cell (p := ⟨cb, 0, none⟩) hQ5 (Q.lt hc1)
    rw [this]; exact hc1
  have hfin : GwPost r B gb (g.drop c.num) (sendS 2 c.num s.data.toList ++ [⟨4, c.num, [], 0⟩]) w (.returned (.slice (some ⟨ge, 0, none⟩) ((sendS 2 c.num s.data.toList).length + 1) cap)) w5 := by
    have hstep := HST.out
    have hrep5 : GwRep r B w5 gb (g.drop c.num) := hstep.rep.stays hQ5
    refine ⟨r, _, rfl, ⟨hrep5, hstep.fr.trans hstep.gr (Fr.ofQ hQ5), hstep.gr⟩, ?_, ?_⟩
    · rw [List.length_append, evVals_append]
      exact owns_base hown5 hz1
    · intro k hk
      have : ge = k := by simpa [Value.ownBlock] using hk
      have hgl := owns_lt hown5 ge rfl
      rw [← this]
      exact sized hstep.rep hgl.1
  have HFin := show Hid _ from hfin
  refine hK.out _ _ ⟨hc5, hQ5⟩ (fun hHeld4 => ?_)
  clear hK K hHeld3 hown5 hgrow hat hlt5 hol hfin HST HO3 HO4 HNw HOne
  simp only [Act.put, List.getElem_toArray, List.getElem_cons_zero, List.getElem_cons_succ, List.setIfInBounds_toArray, List.set_cons_zero, List.set_cons_succ]
  refine wpAnyH_take (i := 11) (v := ?_) rfl (by kernel_rfl) (by kernel_rfl) (by kernel_rfl) (fun _ _ _ h => h) (Or.inl ⟨by rfl, ?_⟩) (by assumption) ?_
  rotate_left
  · (intro w hSw; (try dsimp only at hSw); go_simp; try with_reducible rfl)
  simp only [Act.put, List.getElem_toArray, List.getElem_cons_zero, List.getElem_cons_succ, List.setIfInBounds_toArray, List.set_cons_zero, List.set_cons_succ]
  refine wpAnyH_done (by kernel_rfl) ?_ _
  clear hHeld4
  go_wp2_with fail
  go_ret
  exact HFin.out
end Go.Proofs.YtfkggpminmonmaaGreatDoor
/-
  Package turnpike: answer.
-/
namespace Go.Proofs.YtfkggpminmonmaaGreatDoor
namespace Plain
theorem judge_err {rs : List RuleS} {tens : List (List UInt8 × List UInt8)} {m : Int} {l r : List UInt8} (h : judgeS rs tens m l = .error r) : r.isEmpty = false ∧ r.length ≤ 100 := by
  unfold judgeS at h
  split at h
  · cases h; exact ⟨rfl, by decide⟩
  · split at h
    · cases h; exact ⟨rfl, by decide⟩
    · split at h
      · cases h; exact ⟨rfl, by decide⟩
      · split at h
        · cases h; exact ⟨rfl, by decide⟩
        · split at h
          · cases h
          · cases h; exact ⟨rfl, by decide⟩
/-- What a head is answered. -/
def answerS (g : GateS) (i : Nat) (c : ConnS) (head : List UInt8) : GateS × List EvS := match judgeS g.rules g.tens g.minute head with
  | .error r => (g.drop c.num, sendS 2 c.num r ++ [⟨4, c.num, [], 0⟩])
  | .ok (h, n) => (g.upd i { c with stage := 1 }, [⟨1, c.num, h, (n : Int)⟩])
end Plain
open Go.RowKit Plain

theorem AtConn.fr {r : Rl} {B : Nat} {w : World} {gb : Nat} {g : GateS} {i cb : Nat} {c : ConnS} (h : AtConn r B w gb g i cb c) (o : Nat) (u : Value) : Fr r w (w.setCell ⟨cb, o, none⟩ u) := Fr.set r w cb o u (by rw [h.conn.role]; simp)

set_option maxRecDepth 100000 in
set_option maxHeartbeats 1600000 in
theorem answer_any {r : Rl} {B : Nat} {w : World} {gb : Nat} {g : GateS} {i cb : Nat} {c : ConnS} (h : AtConn r B w gb g i cb c) (s : ByteArray) (hs : s.size ≤ 1000) (hm : ML w) :
    Calls Tryz.prog 43 #[ptr gb, ptr cb, .string s] w fun e w' => GwPost r B gb (answerS g i c s.data.toList).1 (answerS g i c s.data.toList).2 w e w' := by
  have HJ := show Hid _ from judge_any gb g.rules g.tens g.minute s w (h.rep.read h.ok.tens) hm hs
  have HA : Hid (AtConn r B w gb g i cb c) := h
  have hcl : cb < w.heap.size := Q.lt h.conn.c0
  clear h hm
  go_enter Tryz.func43, Tryz.ntmps43
  go_wp2_with fail
  refine Calls.mono (Hid.out HJ) ?_
  rintro e w1 ⟨hq1, ⟨rf, hj, rfl⟩ | ⟨host, port, hj, rfl⟩⟩
  · have HAn : Hid (answerS g i c s.data.toList = (g.drop c.num, sendS 2 c.num rf ++ [⟨4, c.num, [], 0⟩])) := by
      show _ = _
      unfold answerS; rw [hj]
    obtain ⟨hne, hrl⟩ := judge_err hj
    obtain ⟨R, rfl⟩ : ∃ M : ByteArray, M.data.toList = rf := ⟨⟨rf.toArray⟩, rfl⟩
    rw [size_len] at hrl
    have hemp : R.toList.isEmpty = false := by rw [Lib.toList_data]; exact hne
    have q1 : Q w (w1.alloc (.cells #[.string ⟨#[]⟩, .int .i64 0] 156)) := hq1.alloc _
    have HR := show Hid _ from refuse_any (HA.out.stays q1) R (by omega)
    rw [str_data]
    clear hj hne HJ
    unfold str
    go_wp2_with fail
    refine Calls.mono (Hid.out HR) ?_
    rintro e w2 ⟨r', v, rfl, hst, hout⟩
    obtain ⟨vo, vc, rfl⟩ := slice_form hout.1
    have HP : Hid (GwPost r B gb (answerS g i c s.data.toList).1 (answerS g i c s.data.toList).2 w (.returned (.slice vo (sendS 2 c.num R.data.toList ++ [(⟨4, c.num, [], 0⟩ : EvS)]).length vc)) w2) := by
      rw [HAn.out]
      exact ⟨r', _, rfl, (GwStep.here HA.out.rep q1).trans hst, owns_base hout.1 q1.size, hout.2⟩
    clear hst hout HR
    generalize (sendS 2 c.num R.data.toList ++ [(⟨4, c.num, [], 0⟩ : EvS)]).length = n at HP ⊢
    go_wp2_with fail
    go_ret
    exact HP.out
  · have HAn : Hid (answerS g i c s.data.toList = (g.upd i { c with stage := 1 }, [⟨1, c.num, host, (port : Int)⟩])) := by
      show _ = _
      unfold answerS; rw [hj]
    obtain ⟨H, rfl⟩ : ∃ M : ByteArray, M.data.toList = host := ⟨⟨host.toArray⟩, rfl⟩
    rw [str_data]
    unfold str
    have HA1 := show Hid _ from HA.out.stays hq1
    have HA2 : Hid (AtConn r B (w1.setCell ⟨cb, 2, none⟩ (.int .i64 1)) gb (g.upd i { c with stage := 1 }) i cb { c with stage := 1 }) := HA1.out.stage 1
    have hFr : Fr r w (w1.setCell ⟨cb, 2, none⟩ (.int .i64 1)) := (Fr.ofQ hq1).trans (Grows.refl _ _) (HA1.out.fr 2 _)
    have hc2 := HA1.out.conn.c2
    have hf2 := HA1.out.conn.fz 2
    have hcl1 : cb < w1.heap.size := Nat.lt_of_lt_of_le hcl hq1.size
    have qW : Q (w1.setCell ⟨cb, 2, none⟩ (.int .i64 1)) ((w1.setCell ⟨cb, 2, none⟩ (.int .i64 1)).alloc (.cells #[.string H, .int .i64 (port : Int)] 156)) := (Q.refl _).alloc _
    have hn0 : ((w1.setCell ⟨cb, 2, none⟩ (.int .i64 1)).alloc (.cells #[.string H, .int .i64 (port : Int)] 156)).cell? ⟨cb, 0, none⟩ = some (.int .i64 (c.num : Int)) := qW.cell HA2.out.conn.c0
    have hz1 : w.heap.size ≤ w1.heap.size := hq1.size
    have HD := fun x hx => show Hid _ from dial_any c.num H port cb x hx
    clear hj HJ
    go_wp2_with fail
    refine wp_region_held_drew (S := fun w' => w'.cell? ⟨w1.heap.size, 0, none⟩ = some (.string H) ∧ w'.cell? ⟨w1.heap.size, 1, none⟩ = some (.int .i64 (port : Int)) ∧ w'.cell? ⟨cb, 0, none⟩ = some (.int .i64 (c.num : Int)) ∧ Q ((w1.setCell ⟨cb, 2, none⟩ (.int .i64 1)).alloc (.cells #[.string H, .int .i64 (port : Int)] 156)) w') (by kernel_rfl) ⟨by simp [go_sem], by simp [go_sem], hn0, (Q.refl _).drew⟩ (fun hHeld0 => ?_)
    refine wpAnyH_take (i := 0) (v := ?_) rfl (by kernel_rfl) (by kernel_rfl) (by kernel_rfl) (fun _ _ _ h => h) (Or.inl ⟨by rfl, ?_⟩) (by assumption) ?_
    rotate_left
    · (intro w hSw; (try dsimp only at hSw); go_simp; try with_reducible rfl)
    simp only [Act.put, List.getElem_toArray, List.getElem_cons_zero, List.setIfInBounds_toArray, List.set_cons_zero, List.set_cons_succ]
    refine wpAnyH_take (i := 1) (v := ?_) rfl (by kernel_rfl) (by kernel_rfl) (by kernel_rfl) (fun _ _ _ h => h) (Or.inl ⟨by rfl, ?_⟩) (by assumption) ?_
    rotate_left
    · (intro w hSw; (try dsimp only at hSw); go_simp; try with_reducible rfl)
    simp only [Act.put, List.getElem_toArray, List.getElem_cons_zero, List.getElem_cons_succ, List.setIfInBounds_toArray, List.set_cons_zero, List.set_cons_succ]
    refine wpAnyH_take (i := 2) (v := ?_) rfl (by kernel_rfl) (by kernel_rfl) (by kernel_rfl) (fun _ _ _ h => h) (Or.inl ⟨by rfl, ?_⟩) (by assumption) ?_
    rotate_left
    · (intro w hSw; (try dsimp only at hSw); go_simp; try with_reducible rfl)
    simp only [Act.put, List.getElem_toArray, List.getElem_cons_zero, List.getElem_cons_succ, List.setIfInBounds_toArray, List.set_cons_zero, List.set_cons_succ]
    refine wpAnyH_take (i := 3) (v := ?_) rfl (by kernel_rfl) (by kernel_rfl) (by kernel_rfl) (fun _ _ _ h => h) (Or.inl ⟨by rfl, ?_⟩) (by assumption) ?_
    rotate_left
    · (intro w hSw; (try dsimp only at hSw); go_simp; try with_reducible rfl)
    simp only [Act.put, List.getElem_toArray, List.getElem_cons_zero, List.getElem_cons_succ, List.setIfInBounds_toArray, List.set_cons_zero, List.set_cons_succ]
    refine wpAnyH_ready (rs := [4]) (by kernel_rfl) (by simp) ?_
    refine AllReadyH.cons rfl (fun K hK => ?_) AllReadyH.nil
    go_simp
    refine Calls.mono (Hid.out (HD _ hHeld0.2.2.1)) ?_
    rintro e w5 ⟨hq5, v5, rfl, hown5⟩
    have q5 := hHeld0.2.2.2.trans hq5
    obtain ⟨vo, vc, rfl⟩ := slice_form hown5
    have HP : Hid (GwPost r B gb (answerS g i c s.data.toList).1 (answerS g i c s.data.toList).2 w (.returned (.slice vo 1 vc)) w5) := by
      rw [HAn.out]
      have qq := qW.trans q5
      refine ⟨r, _, rfl, ⟨HA2.out.rep.stays qq, hFr.trans (Grows.refl _ _) (Fr.ofQ qq), Grows.refl _ _⟩, owns_base hown5 ?_, fun k hk => ?_⟩
      · show w.heap.size ≤ (World.alloc _ _).heap.size
        simp
        omega
      · have := (owns_lt hown5 k hk).1
        have h2 : w1.heap.size ≤ k := by
          have h3 : (((w1.setCell ⟨cb, 2, none⟩ (.int .i64 1)).alloc (.cells #[.string H, .int .i64 (port : Int)] 156)).drew).heap.size ≤ k := this
          simp at h3
          omega
        exact sized HA1.out.rep h2
    have hS5 : w5.cell? ⟨w1.heap.size, 0, none⟩ = some (.string H) ∧ w5.cell? ⟨w1.heap.size, 1, none⟩ = some (.int .i64 (port : Int)) ∧ w5.cell? ⟨cb, 0, none⟩ = some (.int .i64 (c.num : Int)) ∧ Q ((w1.setCell ⟨cb, 2, none⟩ (.int .i64 1)).alloc (.cells #[.string H, .int .i64 (port : Int)] 156)) w5 := ⟨hq5.cell hHeld0.1, hq5.cell hHeld0.2.1, hq5.cell hHeld0.2.2.1, q5⟩
    simp only [List.length_cons, List.length_nil, Nat.zero_add]
    clear hown5 HD
    go_wp2_with fail
    refine hK.out _ _ hS5 (fun hHeld1 => ?_)
    clear hK K hHeld0
    refine wpAnyH_take (i := 5) (v := ?_) rfl (by kernel_rfl) (by kernel_rfl) (by kernel_rfl) (fun _ _ _ h => h) (Or.inl ⟨by rfl, ?_⟩) (by assumption) ?_
    rotate_left
    · (intro w hSw; (try dsimp only at hSw); go_simp; try with_reducible rfl)
    simp only [Act.put, List.getElem_toArray, List.getElem_cons_zero, List.getElem_cons_succ, List.setIfInBounds_toArray, List.set_cons_zero, List.set_cons_succ]
    refine wpAnyH_done (by kernel_rfl) ?_ _
    clear hHeld1 hS5
    go_wp2_with fail
    go_ret
    exact HP.out
end Go.Proofs.YtfkggpminmonmaaGreatDoor

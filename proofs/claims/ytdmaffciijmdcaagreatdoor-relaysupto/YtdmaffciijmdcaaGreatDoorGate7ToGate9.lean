/-
  Package turnpike: refuse.
-/
import Derived.Test.YtdmaffciijmdcaaGreatDoorGate6ToGateS1
namespace Go.Proofs.YtdmaffciijmdcaaGreatDoor
open Go.RowKit Plain

def GwPost (r : Rl) (B : Nat) (gb : Nat) (g' : GateS) (l : List EvS) (w : World) (e : Ending) (w' : World) : Prop :=
  ∃ r' v, e = .returned v ∧ GwStep r B w gb r' w' g' ∧ EvsOut r' l w v w'

theorem sized {r : Rl} {B : Nat} {w : World} {gb : Nat} {g : GateS} (h : GwRep r B w gb g) {k : Nat} (hk : w.heap.size ≤ k) : r k = none := by
  cases hr : r k with
  | none => rfl
  | some x =>
    have := h.lt k (by rw [hr]; simp)
    omega

/-- Events put behind others, where a step has been done. -/
theorem evs_join {r : Rl} {B : Nat} {w w1 w3 : World} {gb : Nat} {g1 : GateS} {l m : List EvS} {v u : Value} {B2 : Nat} (h : GwStep r B w gb r w1 g1) (q : Q w1 w3) (hl : w3.ownsRow w1.heap.size 48 4 v l.length (evVals l)) (hm : w3.ownsRow B2 48 4 u m.length (evVals m)) (hb : l.length + m.length ≤ 1000000000000) :
    ∃ vo vc w4, (Builtin.append_ #[41, 41] 41 #[v, u]).run Tryz.prog w3 = .ok (.slice vo (l.length + m.length) vc) w4 ∧ Q w1 w4 ∧ GwPost r B gb g1 (l ++ m) w (.returned (.slice vo (l.length + m.length) vc)) w4 := by
  obtain ⟨v4, w4, hrun, hown, hgr, hat⟩ := append_evs w3 w1.heap.size B2 v u l.length (evVals l) m hl hm hb q.size
  obtain ⟨vo, vc, rfl⟩ := slice_form hown
  have hol := owns_lt hl
  have q4 : Below w1.heap.size w1 w4 := Below.grown q hgr q.size (fun k hk => (hol k hk).1)
  refine ⟨vo, vc, w4, hrun, q4, r, _, rfl, h.trans (GwStep.here h.rep q4), ?_, fun k hk => sized h.rep (owns_lt hown k hk).1⟩
  rw [List.length_append, evVals_append]
  exact owns_base hown h.fr.size

set_option maxRecDepth 100000 in
set_option maxHeartbeats 1600000 in
theorem refuse_any {r : Rl} {B : Nat} {w : World} {gb : Nat} {g : GateS} {i cb : Nat} {c : ConnS} (h : AtConn r B w gb g i cb c) (s : ByteArray) (hs : s.size ≤ 4398046511104) :
    Calls Tryz.prog 57 #[ptr gb, ptr cb, .string s] w fun e w' => GwPost r B gb (g.drop c.num) (sendS 2 c.num s.data.toList ++ [⟨4, c.num, [], 0⟩]) w e w' := by
  have HD := show Hid _ from drop_any h
  have hc0 := h.conn.c0
  have hlen : (sendS 2 c.num s.data.toList).length ≤ 1 := by unfold sendS; split <;> simp
  clear h
  go_enter Tryz.func57, Tryz.ntmps57
  go_wp2_with fail
  refine Calls.mono (Hid.out HD) ?_
  rintro e w1 ⟨rfl, hst, hsame, _⟩
  have hc1 : w1.cell? ⟨cb, 0, none⟩ = some (.int .i64 (c.num : Int)) := by rw [hsame.cell]; exact hc0
  have HST := show Hid _ from hst
  have hz1 := hst.fr.size
  clear HD hsame hst hc0
  have HS := fun x hx => show Hid _ from send_any 2 c.num s cb x hx hs
  have HE := fun x kv hx hk => show Hid _ from shut_any (c.num : Int) [4] kv cb x hx hk (by decide)
  go_wp2_with fail
  go_region_law (first | (refine step_append_run rfl (.tmp 14) (.tmp 19) 41 41 rfl _ _ _ w4 (by simp [Act.eval]) (by simp [Act.eval]) HRun.out ?_) | (go_simp; refine Calls.mono (Hid.out (HS _ (by first | exact ((Q.refl w1).drew).cell hc1 | exact (((Q.refl w1).drew).alloc _).cell hc1))) ?_; rintro e w2 ⟨hq2, v2, rfl, hown2⟩; have HQ2 : Hid (Q w1 w2) := (by first | exact ((Q.refl w1).drew).trans hq2 | exact (((Q.refl w1).drew).alloc _).trans hq2); have HO2 : Hid (w2.ownsRow w1.heap.size 48 4 v2 (sendS 2 c.num s.data.toList).length (evVals (sendS 2 c.num s.data.toList))) := owns_base hown2 (by first | exact Nat.le_refl _ | simp); have hc2 := HQ2.out.cell hc1; clear hown2; dsimp only) | (go_simp; refine Calls.mono (Hid.out (HE _ _ (by first | exact hc2 | exact ((Q.refl w2).alloc _).cell hc2) (by first | exact kinds_one _ 4 | exact (kinds_one w1.drew 4).stays hq2))) ?_; rintro e w3 ⟨hq3, v3, rfl, hown3⟩; have q23 : Q w2 w3 := (by first | exact hq3 | exact ((Q.refl _).alloc _).trans hq3); obtain ⟨vo, vc, w4, hrun, hq4, hpost⟩ := evs_join (m := shutS (c.num : Int) [4]) HST.out (HQ2.out.trans q23) (owns_Q HO2.out q23) hown3 (by rw [shutS_len]; simp; omega); have HRun := show Hid _ from hrun; have HPost := show Hid _ from hpost; have hc4 := hq4.cell hc1; clear hrun hpost hown3; dsimp only))
  all_goals
    go_wp2_with fail
    go_ret
    exact HPost.out
end Go.Proofs.YtdmaffciijmdcaaGreatDoor
/-
  Package turnpike: answer.
-/
namespace Go.Proofs.YtdmaffciijmdcaaGreatDoor
namespace Plain
theorem judge_err {rs : List RuleS} {tens : List (List UInt8 × List UInt8)} {m : Int} {l r : List UInt8} (h : judgeS rs tens m l = .error r) : r.isEmpty = false ∧ r.length ≤ 100 := by
  unfold judgeS at h
  split at h
  · cases h; exact ⟨rfl, by decide⟩
  · split at h
    · cases h; exact ⟨rfl, by decide⟩
    · split at h
      · cases h; exact ⟨rfl, by decide⟩
      · split at h
        · cases h; exact ⟨rfl, by decide⟩
        · split at h
          · cases h
          · cases h; exact ⟨rfl, by decide⟩
end Plain
open Go.RowKit Plain

theorem AtConn.fr {r : Rl} {B : Nat} {w : World} {gb : Nat} {g : GateS} {i cb : Nat} {c : ConnS} (h : AtConn r B w gb g i cb c) (o : Nat) (u : Value) : Fr r w (w.setCell ⟨cb, o, none⟩ u) := Fr.set r w cb o u (by rw [h.conn.role]; simp)

set_option maxRecDepth 100000 in
set_option maxHeartbeats 1600000 in
theorem answer_any {r : Rl} {B : Nat} {w : World} {gb : Nat} {g : GateS} {i cb : Nat} {c : ConnS} (h : AtConn r B w gb g i cb c) (s : ByteArray) (hs : s.size ≤ 1000) (hm : ML w) :
    Calls Tryz.prog 56 #[ptr gb, ptr cb, .string s] w fun e w' => GwPost r B gb (answerS g i c s.data.toList).1 (answerS g i c s.data.toList).2 w e w' := by
  have HJ := show Hid _ from judge_any gb g.rules g.tens g.minute s w (h.rep.read h.ok.tens) hm hs
  have HA : Hid (AtConn r B w gb g i cb c) := h
  have hcl : cb < w.heap.size := Q.lt h.conn.c0
  clear h hm
  go_enter Tryz.func56, Tryz.ntmps56
  go_wp2_with fail
  refine Calls.mono (Hid.out HJ) ?_
  rintro e w1 ⟨hq1, ⟨rf, hj, rfl⟩ | ⟨host, port, hj, rfl⟩⟩
  · have HAn : Hid (answerS g i c s.data.toList = (g.drop c.num, sendS 2 c.num rf ++ [⟨4, c.num, [], 0⟩])) := by
      show _ = _
      unfold answerS; rw [hj]
    obtain ⟨hne, hrl⟩ := judge_err hj
    obtain ⟨R, rfl⟩ : ∃ M : ByteArray, M.data.toList = rf := ⟨⟨rf.toArray⟩, rfl⟩
    rw [size_len] at hrl
    have hemp : R.toList.isEmpty = false := by rw [Lib.toList_data]; exact hne
    have q1 : Q w (w1.alloc (.cells #[.string ⟨#[]⟩, .int .i64 0] 165)) := hq1.alloc _
    have HR := show Hid _ from refuse_any (HA.out.stays q1) R (by omega)
    rw [str_data]
    clear hj hne HJ
    unfold str
    go_wp2_with fail
    refine Calls.mono (Hid.out HR) ?_
    rintro e w2 ⟨r', v, rfl, hst, hout⟩
    obtain ⟨vo, vc, rfl⟩ := slice_form hout.1
    have HP : Hid (GwPost r B gb (answerS g i c s.data.toList).1 (answerS g i c s.data.toList).2 w (.returned (.slice vo (sendS 2 c.num R.data.toList ++ [(⟨4, c.num, [], 0⟩ : EvS)]).length vc)) w2) := by
      rw [HAn.out]
      exact ⟨r', _, rfl, (GwStep.here HA.out.rep q1).trans hst, owns_base hout.1 q1.size, hout.2⟩
    clear hst hout HR
    generalize (sendS 2 c.num R.data.toList ++ [(⟨4, c.num, [], 0⟩ : EvS)]).length = n at HP ⊢
    go_wp2_with fail
    go_ret
    exact HP.out
  · have HAn : Hid (answerS g i c s.data.toList = (g.upd i { c with stage := 1 }, [⟨1, c.num, host, (port : Int)⟩])) := by
      show _ = _
      unfold answerS; rw [hj]
    obtain ⟨H, rfl⟩ : ∃ M : ByteArray, M.data.toList = host := ⟨⟨host.toArray⟩, rfl⟩
    rw [str_data]
    unfold str
    have HA1 := show Hid _ from HA.out.stays hq1
    have HA2 : Hid (AtConn r B (w1.setCell ⟨cb, 2, none⟩ (.int .i64 1)) gb (g.upd i { c with stage := 1 }) i cb { c with stage := 1 }) := HA1.out.stage 1
    have hFr : Fr r w (w1.setCell ⟨cb, 2, none⟩ (.int .i64 1)) := (Fr.ofQ hq1).trans (Grows.refl _ _) (HA1.out.fr 2 _)
    have hc2 := HA1.out.conn.c2
    have hf2 := HA1.out.conn.fz 2
    have hcl1 : cb < w1.heap.size := Nat.lt_of_lt_of_le hcl hq1.size
    have qW : Q (w1.setCell ⟨cb, 2, none⟩ (.int .i64 1)) ((w1.setCell ⟨cb, 2, none⟩ (.int .i64 1)).alloc (.cells #[.string H, .int .i64 (port : Int)] 165)) := (Q.refl _).alloc _
    have hn0 : ((w1.setCell ⟨cb, 2, none⟩ (.int .i64 1)).alloc (.cells #[.string H, .int .i64 (port : Int)] 165)).cell? ⟨cb, 0, none⟩ = some (.int .i64 (c.num : Int)) := qW.cell HA2.out.conn.c0
    have hz1 : w.heap.size ≤ w1.heap.size := hq1.size
    have HD := fun x hx => show Hid _ from dial_any c.num H port cb x hx
    clear hj HJ
    go_wp2_with fail
    refine wp_region_held_drew (S := fun w' => w'.cell? ⟨w1.heap.size, 0, none⟩ = some (.string H) ∧ w'.cell? ⟨w1.heap.size, 1, none⟩ = some (.int .i64 (port : Int)) ∧ w'.cell? ⟨cb, 0, none⟩ = some (.int .i64 (c.num : Int)) ∧ Q ((w1.setCell ⟨cb, 2, none⟩ (.int .i64 1)).alloc (.cells #[.string H, .int .i64 (port : Int)] 165)) w') (by kernel_rfl) ⟨by simp [go_sem], by simp [go_sem], hn0, (Q.refl _).drew⟩ (fun hHeld0 => ?_)
    refine wpAnyH_take (i := 0) (v := ?_) rfl (by kernel_rfl) (by kernel_rfl) (by kernel_rfl) (fun _ _ _ h => h) (Or.inl ⟨by rfl, ?_⟩) (by assumption) ?_
    rotate_left
    · (intro w hSw; (try dsimp only at hSw); go_simp; try with_reducible rfl)
    simp only [Act.put, List.getElem_toArray, List.getElem_cons_zero, List.setIfInBounds_toArray, List.set_cons_zero, List.set_cons_succ]
    refine wpAnyH_take (i := 1) (v := ?_) rfl (by kernel_rfl) (by kernel_rfl) (by kernel_rfl) (fun _ _ _ h => h) (Or.inl ⟨by rfl, ?_⟩) (by assumption) ?_
    rotate_left
    · (intro w hSw; (try dsimp only at hSw); go_simp; try with_reducible rfl)
    simp only [Act.put, List.getElem_toArray, List.getElem_cons_zero, List.getElem_cons_succ, List.setIfInBounds_toArray, List.set_cons_zero, List.set_cons_succ]
    refine wpAnyH_take (i := 2) (v := ?_) rfl (by kernel_rfl) (by kernel_rfl) (by kernel_rfl) (fun _ _ _ h => h) (Or.inl ⟨by rfl, ?_⟩) (by assumption) ?_
    rotate_left
    · (intro w hSw; (try dsimp only at hSw); go_simp; try with_reducible rfl)
    simp only [Act.put, List.getElem_toArray, List.getElem_cons_zero, List.getElem_cons_succ, List.setIfInBounds_toArray, List.set_cons_zero, List.set_cons_succ]
    refine wpAnyH_take (i := 3) (v := ?_) rfl (by kernel_rfl) (by kernel_rfl) (by kernel_rfl) (fun _ _ _ h => h) (Or.inl ⟨by rfl, ?_⟩) (by assumption) ?_
    rotate_left
    · (intro w hSw; (try dsimp only at hSw); go_simp; try with_reducible rfl)
    simp only [Act.put, List.getElem_toArray, List.getElem_cons_zero, List.getElem_cons_succ, List.setIfInBounds_toArray, List.set_cons_zero, List.set_cons_succ]
    refine wpAnyH_ready (rs := [4]) (by kernel_rfl) (by simp) ?_
    refine AllReadyH.cons rfl (fun K hK => ?_) AllReadyH.nil
    go_simp
    refine Calls.mono (Hid.out (HD _ hHeld0.2.2.1)) ?_
    rintro e w5 ⟨hq5, v5, rfl, hown5⟩
    have q5 := hHeld0.2.2.2.trans hq5
    obtain ⟨vo, vc, rfl⟩ := slice_form hown5
    have HP : Hid (GwPost r B gb (answerS g i c s.data.toList).1 (answerS g i c s.data.toList).2 w (.returned (.slice vo 1 vc)) w5) := by
      rw [HAn.out]
      have qq := qW.trans q5
      refine ⟨r, _, rfl, ⟨HA2.out.rep.stays qq, hFr.trans (Grows.refl _ _) (Fr.ofQ qq), Grows.refl _ _⟩, owns_base hown5 ?_, fun k hk => ?_⟩
      · show w.heap.size ≤ (World.alloc _ _).heap.size
        simp
        omega
      · have := (owns_lt hown5 k hk).1
        have h2 : w1.heap.size ≤ k := by
          have h3 : (((w1.setCell ⟨cb, 2, none⟩ (.int .i64 1)).alloc (.cells #[.string H, .int .i64 (port : Int)] 165)).drew).heap.size ≤ k := this
          simp at h3
          omega
        exact sized HA1.out.rep h2
    have hS5 : w5.cell? ⟨w1.heap.size, 0, none⟩ = some (.string H) ∧ w5.cell? ⟨w1.heap.size, 1, none⟩ = some (.int .i64 (port : Int)) ∧ w5.cell? ⟨cb, 0, none⟩ = some (.int .i64 (c.num : Int)) ∧ Q ((w1.setCell ⟨cb, 2, none⟩ (.int .i64 1)).alloc (.cells #[.string H, .int .i64 (port : Int)] 165)) w5 := ⟨hq5.cell hHeld0.1, hq5.cell hHeld0.2.1, hq5.cell hHeld0.2.2.1, q5⟩
    simp only [List.length_cons, List.length_nil, Nat.zero_add]
    clear hown5 HD
    go_wp2_with fail
    refine hK.out _ _ hS5 (fun hHeld1 => ?_)
    clear hK K hHeld0
    refine wpAnyH_take (i := 5) (v := ?_) rfl (by kernel_rfl) (by kernel_rfl) (by kernel_rfl) (fun _ _ _ h => h) (Or.inl ⟨by rfl, ?_⟩) (by assumption) ?_
    rotate_left
    · (intro w hSw; (try dsimp only at hSw); go_simp; try with_reducible rfl)
    simp only [Act.put, List.getElem_toArray, List.getElem_cons_zero, List.getElem_cons_succ, List.setIfInBounds_toArray, List.set_cons_zero, List.set_cons_succ]
    refine wpAnyH_done (by kernel_rfl) ?_ _
    clear hHeld1 hS5
    go_wp2_with fail
    go_ret
    exact HP.out
end Go.Proofs.YtdmaffciijmdcaaGreatDoor
/-
  Package turnpike: Client.
-/
namespace Go.Proofs.YtdmaffciijmdcaaGreatDoor
namespace Plain
theorem upd_upd (g : GateS) (i : Nat) (c d : ConnS) : (g.upd i c).upd i d = g.upd i d := by simp [GateS.upd, List.set_set]
end Plain
open Go.RowKit Plain

def GwPostE (r : Rl) (B : Nat) (gb : Nat) (g' : GateS) (l : List EvS) (en : Int) (w : World) (e : Ending) (w' : World) : Prop :=
  ∃ r' v, e = .returned (.tuple #[v, .int .i64 en]) ∧ GwStep r B w gb r' w' g' ∧ EvsOut r' l w v w'

theorem ML.fr {r : Rl} {B : Nat} {w w' : World} {gb : Nat} {g : GateS} (h : ML w) (hr : GwRep r B w gb g) (hB : 0 < B) (f : Fr r w w') : ML w' := by
  obtain ⟨m, hm⟩ := h
  refine ⟨m, ?_⟩
  have hn : r 0 = none := by
    cases hx : r 0 with
    | none => rfl
    | some x =>
      have := hr.low 0 (by rw [hx]; simp)
      omega
  have hs := f.block _ (Q.lt hm) hn
  rw [hs.cell]
  exact hm

/-- A call on a connection: what it does where it may be made, else ErrConn. -/
def CallPost (r : Rl) (B : Nat) (gb : Nat) (g : GateS) (n : Int) (P : ConnS → Prop) (f : Nat → ConnS → GateS × List EvS) (w : World) (e : Ending) (w' : World) : Prop :=
  (∃ (i : Nat) (c : ConnS), g.conns[i]? = some c ∧ (c.num : Int) = n ∧ P c ∧ GwPostE r B gb (f i c).1 (f i c).2 0 w e w') ∨
  ((∀ c ∈ g.conns, (c.num : Int) = n → ¬ P c) ∧ w' = w ∧ e = .returned (.tuple #[.slice none 0 0, .int .i64 7]))
theorem CallPost.yes {r r' : Rl} {B : Nat} {gb : Nat} {g g' : GateS} {n : Int} {P : ConnS → Prop} {f : Nat → ConnS → GateS × List EvS} {w w' : World} {i : Nat} {c : ConnS} {l : List EvS} {v : Value} (hi : g.conns[i]? = some c) (hn : (c.num : Int) = n) (hp : P c) (he : f i c = (g', l)) (hs : GwStep r B w gb r' w' g') (ho : EvsOut r' l w v w') :
    CallPost r B gb g n P f w (.returned (.tuple #[v, .int .i64 0])) w' :=
  .inl ⟨i, c, hi, hn, hp, r', v, rfl, by rw [he]; exact hs, by rw [he]; exact ho⟩
theorem only_conn {g : GateS} (ok : GOk g) {i : Nat} {c : ConnS} {n : Int} (hi : g.conns[i]? = some c) (hn : (c.num : Int) = n) {P : ConnS → Prop} (hp : ¬ P c) : ∀ d ∈ g.conns, (d.num : Int) = n → ¬ P d := fun d hd he => by
  obtain ⟨j, hj⟩ := List.getElem?_of_mem hd
  have := ok.nums i j c d hi hj (by omega)
  subst this
  rw [hi] at hj
  cases hj
  exact hp

set_option maxRecDepth 100000 in
set_option maxHeartbeats 400000 in
theorem mayHearClient_any (cb : Nat) (b : Bool) (w : World) (hc : w.cell? ⟨cb, 4, none⟩ = some (.bool b)) :
    Calls Tryz.prog 51 #[ptr cb] w fun e w' => e = .returned (.bool (!b)) ∧ w' = w := by
  cases b
  · go_enter Tryz.func51, Tryz.ntmps51
    go_wp2_with fail
    go_ret
    exact ⟨rfl, rfl⟩
  · go_enter Tryz.func51, Tryz.ntmps51
    go_wp2_with fail
    go_ret
    exact ⟨rfl, rfl⟩

/-- What a client's bytes do where every connection may hear its client. -/
def ClientPost (r : Rl) (B : Nat) (gb : Nat) (g : GateS) (n : Int) (s : List UInt8) (w : World) (e : Ending) (w' : World) : Prop :=
  (∃ (i : Nat) (c : ConnS), g.conns[i]? = some c ∧ (c.num : Int) = n ∧ GwPostE r B gb (clientAt g i c s).1 (clientAt g i c s).2 0 w e w') ∨
  ((∀ c ∈ g.conns, (c.num : Int) ≠ n) ∧ w' = w ∧ e = .returned (.tuple #[.slice none 0 0, .int .i64 7]))

set_option maxRecDepth 100000 in
set_option maxHeartbeats 3200000 in
theorem clientC_any {r : Rl} {B : Nat} {w : World} {gb : Nat} {g : GateS} (h : GwRep r B w gb g) (ok : GOk g) (n : Int) (s : ByteArray) (hl : ∀ c ∈ g.conns, c.wait.length + s.size ≤ 4398046511104) (hm : ML w) (hB : 0 < B) :
    Calls Tryz.prog 22 #[ptr gb, .int .i64 n, .string s] w fun e w' => CallPost r B gb g n (fun c => c.noMore = false) (fun i c => clientAt g i c s.data.toList) w e w' := by
  obtain ⟨cv, cbs, x1, x2, x3, x4⟩ := h.con
  have HF := show Hid _ from find_any r B gb n cv cbs g.conns w x1 x2 x4 (by have := ok.few; omega)
  have hBs : B ≤ w.heap.size := by
    have h1 := h.low gb (by rw [h.role]; simp)
    have h2 := h.lt gb (by rw [h.role]; simp)
    omega
  have HAt : ∀ (i : Nat) (c : ConnS) (cb : Nat), g.conns[i]? = some c → cbs[i]? = some cb → Hid (AtConn r B w gb g i cb c) := fun i c cb hi hb => ⟨h, ok, hi, cv, cbs, x1, x2, x3, x4, hb⟩
  have HL := show Hid _ from hl
  have HM : Hid (ML w) := hm
  clear x1 x2 x3 x4 h hl hm ok
  go_enter Tryz.func22, Tryz.ntmps22
  go_wp2_with fail
  refine Calls.mono (Hid.out HF) ?_
  rintro e w' ⟨hw, ⟨i, c, cb, hi, hb, hn, rfl⟩ | ⟨hno, rfl⟩⟩
  case inr =>
    have HN : Hid (∀ c ∈ g.conns, (c.num : Int) = n → ¬ c.noMore = false) := fun c hc e => absurd e (hno c hc)
    rw [hw]
    clear hno HAt HF HL hw
    go_wp2_with fail
    go_ret2
    exact .inr ⟨HN.out, rfl, rfl⟩
  rw [hw]
  clear hw w'
  have HA := HAt i c cb hi hb
  have hcon := HA.out.conn
  have HMay := show Hid _ from mayHearClient_any cb c.noMore w hcon.c4
  cases hnm : c.noMore with
  | true =>
    rw [hnm] at HMay
    have HN : Hid (∀ c ∈ g.conns, (c.num : Int) = n → ¬ c.noMore = false) := only_conn HA.out.ok hi hn (fun e => by rw [hnm] at e; cases e)
    clear HAt hcon HF HL hi hb hn hnm
    go_wp2_with fail
    refine Calls.mono (Hid.out HMay) ?_
    rintro e w1 ⟨rfl, hw1⟩
    rw [hw1]
    clear hw1 HMay
    go_wp2_with fail
    go_ret2
    exact .inr ⟨HN.out, rfl, rfl⟩
  | false =>
  rw [hnm] at HMay
  have HNM : Hid (c.noMore = false) := hnm
  clear hnm
  have hc1 := hcon.c1
  have hf1 := hcon.fz 1
  have HHd := show Hid _ from heard_any cb (.int .i64 c.silent) w hc1 hf1
  have HI := show Hid _ from hi
  have HN := show Hid _ from hn
  have HA1 := show Hid _ from HA.out.heard
  have hFr1 := HA.out.fr 1 (.int .i64 0)
  have hlw : c.wait.length + s.size ≤ 4398046511104 := HL.out c (List.mem_of_getElem? hi)
  have HM1 : Hid (ML (w.setCell ⟨cb, 1, none⟩ (.int .i64 0))) := HM.out.fr HA.out.rep hB hFr1
  have hst := HA1.out.conn.c2
  have hcl : cb < w.heap.size := Q.lt hc1
  clear HAt hi hb hn hcon hc1 hf1 HF HL
  go_wp2_with fail
  refine Calls.mono (Hid.out HMay) ?_
  rintro e w' ⟨rfl, hw⟩
  rw [hw]
  clear hw w' HMay
  go_wp2_with fail
  refine Calls.mono (Hid.out HHd) ?_
  rintro e w1 ⟨rfl, hw1⟩
  rw [← hw1] at HA1 hFr1 HM1 hst
  have hB1 : B ≤ w1.heap.size := Nat.le_trans hBs hFr1.size
  have hs1 : w1.heap.size = w.heap.size := by rw [hw1]; simp
  clear hw1 HHd
  have hstage : w1.cell? ⟨cb, 2, none⟩ = some (.int .i64 (c.stage : Int)) := hst
  clear hst
  by_cases h2 : c.stage = 2
  · have d2 : ((c.stage : Int) == 2) = true := by rw [beq_iff_eq]; omega
    have HCA : Hid (clientAt g i c s.data.toList = (g.upd i { c with silent := 0 }, sendS 3 c.num s.data.toList)) := by
      show _ = _
      unfold clientAt; rw [if_pos h2]
    have HS := show Hid _ from send_any 3 c.num s cb w1 HA1.out.conn.c0 (by omega)
    clear h2
    go_wp2_with fail
    refine Calls.mono (Hid.out HS) ?_
    rintro e w2 ⟨hq2, v, rfl, hown⟩
    obtain ⟨vo, vc, rfl⟩ := slice_form hown
    have HP : Hid (CallPost r B gb g n (fun c => c.noMore = false) (fun i c => clientAt g i c s.data.toList) w (.returned (.tuple #[.slice vo (sendS 3 c.num s.data.toList).length vc, .int .i64 0])) w2) := by
      refine .inl ⟨i, c, HI.out, HN.out, HNM.out, ?_⟩
      dsimp only
      rw [HCA.out]
      exact ⟨r, _, rfl, ⟨HA1.out.rep.stays hq2, hFr1.trans (Grows.refl _ _) (Fr.ofQ hq2), Grows.refl _ _⟩, owns_base hown (by omega), fun k hk => sized HA1.out.rep (owns_lt hown k hk).1⟩
    clear hown HS
    generalize (sendS 3 c.num s.data.toList).length = m at HP ⊢
    go_wp2_with fail
    go_ret2
    exact HP.out
  have d2 : ((c.stage : Int) == 2) = false := by rw [beq_eq_false_iff_ne]; omega
  have HW := show Hid _ from wait_any HA1.out s (by show c.wait.length + s.size ≤ _; omega) hB1
  go_wp2_with fail
  refine Calls.mono (Hid.out HW) ?_
  rintro e w2 ⟨rfl, r2, hat2, hfr2, hgr2⟩
  rw [upd_upd] at hat2
  have HA2 : Hid (AtConn r2 B w2 gb (g.upd i { c with silent := 0, wait := c.wait ++ s.data.toList }) i cb { c with silent := 0, wait := c.wait ++ s.data.toList }) := hat2
  have hst2 : w2.cell? ⟨cb, 2, none⟩ = some (.int .i64 (c.stage : Int)) := hat2.conn.c2
  have HStep : Hid (GwStep r B w gb r2 w2 (g.upd i { c with silent := 0, wait := c.wait ++ s.data.toList })) := ⟨hat2.rep, hFr1.trans (Grows.refl _ _) hfr2, (Grows.refl r w).trans (Nat.le_of_eq hs1.symm) hgr2⟩
  have HM2 : Hid (ML w2) := HM1.out.fr HA1.out.rep hB hfr2
  clear hat2 hfr2 hgr2 HW hstage HM1
  by_cases h1 : c.stage = 1
  · have d1 : ((c.stage : Int) == 1) = true := by rw [beq_iff_eq]; omega
    have HCA : Hid (clientAt g i c s.data.toList = (g.upd i { c with silent := 0, wait := c.wait ++ s.data.toList }, [])) := by
      show _ = _
      unfold clientAt; rw [if_neg h2, if_pos h1]
    clear h1 h2
    go_wp2_with fail
    go_ret2
    refine .inl ⟨i, c, HI.out, HN.out, HNM.out, ?_⟩
    dsimp only
    rw [HCA.out]
    exact ⟨r2, _, rfl, HStep.out, evs_nil _ _ _⟩
  have d1 : ((c.stage : Int) == 1) = false := by rw [beq_eq_false_iff_ne]; omega
  have HCA : Hid (clientAt g i c s.data.toList = match cutHead (c.wait ++ s.data.toList) with
    | none => (g.upd i { c with silent := 0, wait := c.wait ++ s.data.toList }, [])
    | some (h, rest) => answerS (g.upd i { c with silent := 0, wait := rest }) i { c with silent := 0, wait := rest } h) := by
    show _ = _
    unfold clientAt; rw [if_neg h2, if_neg h1]
    rcases cutHead (c.wait ++ s.data.toList) with _ | ⟨h, r⟩ <;> rfl
  have hB2 : B ≤ w2.heap.size := Nat.le_trans hBs HStep.out.fr.size
  have HT := show Hid _ from takeHead_any HA2.out HM2.out (by show (c.wait ++ s.data.toList).length ≤ _; rw [List.length_append, size_len]; omega) hB2
  clear h1 h2
  go_wp2_with fail
  refine Calls.mono (Hid.out HT) ?_
  rintro e w3 (⟨hcut, rfl, hq3⟩ | ⟨hd, rest, hcut, rfl, r3, hat3, hfr3, hgr3⟩)
  · have HCut : Hid (cutHead (c.wait ++ s.data.toList) = none) := hcut
    clear hcut HT
    unfold str
    go_wp2_with fail
    go_ret2
    refine .inl ⟨i, c, HI.out, HN.out, HNM.out, ?_⟩
    dsimp only
    rw [HCA.out, HCut.out]
    exact ⟨r2, _, rfl, HStep.out.trans (GwStep.here HStep.out.rep hq3), evs_nil _ _ _⟩
  · have HCut : Hid (cutHead (c.wait ++ s.data.toList) = some (hd, rest)) := hcut
    have hdl := (cut_lens hcut).1
    rw [upd_upd] at hat3
    have HA3 : Hid (AtConn r3 B w3 gb (g.upd i { c with silent := 0, wait := rest }) i cb { c with silent := 0, wait := rest }) := hat3
    obtain ⟨D, rfl⟩ : ∃ M : ByteArray, M.data.toList = hd := ⟨⟨hd.toArray⟩, rfl⟩
    rw [size_len] at hdl
    rw [str_data]
    have HStep3 : Hid (GwStep r B w gb r3 w3 (g.upd i { c with silent := 0, wait := rest })) := HStep.out.trans ⟨hat3.rep, hfr3, hgr3⟩
    have HM3 : Hid (ML w3) := HM2.out.fr HA2.out.rep hB hfr3
    have HAn := show Hid _ from answer_any HA3.out D hdl HM3.out
    clear hcut HT hat3 hfr3 hgr3
    go_wp2_with fail
    refine Calls.mono (Hid.out HAn) ?_
    rintro e w4 ⟨r4, v, rfl, hst4, hout4⟩
    have HP : Hid (CallPost r B gb g n (fun c => c.noMore = false) (fun i c => clientAt g i c s.data.toList) w (.returned (.tuple #[v, .int .i64 0])) w4) := by
      refine .inl ⟨i, c, HI.out, HN.out, HNM.out, ?_⟩
      dsimp only
      rw [HCA.out, HCut.out]
      exact ⟨r4, _, rfl, HStep3.out.trans hst4, owns_base hout4.1 HStep3.out.fr.size, hout4.2⟩
    obtain ⟨vo, vc, rfl⟩ := slice_form hout4.1
    clear hst4 hout4 HAn
    generalize (answerS (g.upd i { c with silent := 0, wait := rest }) i { c with silent := 0, wait := rest } D.data.toList).2.length = m at HP ⊢
    go_wp2_with fail
    go_ret2
    exact HP.out
theorem client_any {r : Rl} {B : Nat} {w : World} {gb : Nat} {g : GateS} (h : GwRep r B w gb g) (ok : GOk g) (hop : ∀ c ∈ g.conns, c.noMore = false) (n : Int) (s : ByteArray) (hl : ∀ c ∈ g.conns, c.wait.length + s.size ≤ 4398046511104) (hm : ML w) (hB : 0 < B) :
    Calls Tryz.prog 22 #[ptr gb, .int .i64 n, .string s] w fun e w' => ClientPost r B gb g n s.data.toList w e w' := by
  refine (clientC_any h ok n s hl hm hB).mono ?_
  rintro e w' (⟨i, c, h1, h2, _, h3⟩ | ⟨h1, h2⟩)
  · exact .inl ⟨i, c, h1, h2, h3⟩
  · exact .inr ⟨fun c hc e => h1 c hc e (hop c hc), h2⟩
end Go.Proofs.YtdmaffciijmdcaaGreatDoor

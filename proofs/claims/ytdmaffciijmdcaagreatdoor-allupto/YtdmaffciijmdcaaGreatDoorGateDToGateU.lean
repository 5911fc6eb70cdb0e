/-
  Package turnpike: Dialed.
-/
import Derived.Test.YtdmaffciijmdcaaGreatDoorGateBToGateW
namespace Go.Proofs.YtdmaffciijmdcaaGreatDoor
open Go.RowKit Plain

/-- Events put behind others that are no gateway's. -/
theorem evs_join2 {r r1 : Rl} {B : Nat} {w w3 : World} {gb : Nat} {g1 : GateS} {l m : List EvS} {v u : Value} {B2 : Nat} (h : GwStep r B w gb r1 w3 g1) (hl : w3.ownsRow w.heap.size 48 4 v l.length (evVals l)) (hfree : ∀ k, v.ownBlock = some k → r1 k = none) (hm : w3.ownsRow B2 48 4 u m.length (evVals m)) (hb : l.length + m.length ≤ 1000000000000) :
    ∃ vo vc w4, (Builtin.append_ #[41, 41] 41 #[v, u]).run Tryz.prog w3 = .ok (.slice vo (l.length + m.length) vc) w4 ∧ w3.grownBy w4 v.ownBlock ∧ GwStep r B w gb r1 w4 g1 ∧ EvsOut r1 (l ++ m) w (.slice vo (l.length + m.length) vc) w4 ∧ ((Value.slice vo (l.length + m.length) vc).ownBlock = v.ownBlock ∨ (Value.slice vo (l.length + m.length) vc).ownBlock = some w3.heap.size) := by
  obtain ⟨v4, w4, hrun, hown, hgr, hat⟩ := append_evs w3 w.heap.size B2 v u l.length (evVals l) m hl hm hb h.fr.size
  obtain ⟨vo, vc, rfl⟩ := slice_form hown
  have hol := owns_lt hl
  refine ⟨vo, vc, w4, hrun, hgr, ⟨h.rep.same (fun b hb => hgr.block b (h.rep.lt b hb) (fun e => hb (hfree b e.symm))) hgr.size, ⟨hgr.os.trans h.fr.os, hgr.tape.trans h.fr.tape, hgr.output.trans h.fr.output, Nat.le_trans h.fr.size hgr.size, fun k hk hr => (hgr.block k (Nat.lt_of_lt_of_le hk h.fr.size) (fun e => by have := (hol k e.symm).1; omega)).trans (h.fr.block k hk hr)⟩, h.gr⟩, ⟨?_, fun k hk => ?_⟩, hat⟩
  · rw [List.length_append, evVals_append]
    exact hown
  · rcases hat with e | e
    · exact hfree k (by rw [← e]; exact hk)
    · rw [e] at hk
      cases hk
      exact sized h.rep (Nat.le_refl _)

set_option maxRecDepth 100000 in
set_option maxHeartbeats 3200000 in
theorem dialed_any {r : Rl} {B : Nat} {w : World} {gb : Nat} {g : GateS} (h : GwRep r B w gb g) (ok : GOk g) (hwt : ∀ c ∈ g.conns, c.wait.length ≤ 4398046511104) (n : Int) (yes : Bool) :
    Calls Tryz.prog 24 #[ptr gb, .int .i64 n, .bool yes] w fun e w' => CallPost r B gb g n (fun c => c.stage = 1) (fun i c => dialedAt g i c yes) w e w' := by
  have HF := show Hid _ from find_at h ok n
  clear h
  go_enter Tryz.func24, Tryz.ntmps24
  go_wp2_with fail
  refine Calls.mono (Hid.out HF) ?_
  rintro e w' ⟨hw, ⟨i, c, cb, hi, hn, hat, rfl⟩ | ⟨hno, rfl⟩⟩
  case inr =>
    have HN : Hid (∀ c ∈ g.conns, (c.num : Int) = n → ¬ (c.stage = 1)) := fun c hc e => absurd e (hno c hc)
    rw [hw]
    clear hno HF hw ok hwt
    go_wp2_with fail
    go_ret2
    exact .inr ⟨HN.out, rfl, rfl⟩
  rw [hw]
  clear hw w' HF
  have HI : Hid (g.conns[i]? = some c ∧ (c.num : Int) = n) := ⟨hi, hn⟩
  have hst := hat.conn.c2
  by_cases hp : c.stage = 1
  case neg =>
    have d1 : ((c.stage : Int) != 1) = true := by rw [bne_iff_ne]; omega
    have HN : Hid (∀ c ∈ g.conns, (c.num : Int) = n → ¬ (c.stage = 1)) := only_conn ok hi hn hp
    clear hp hat hi hn ok hwt
    go_wp2_with fail
    go_ret2
    exact .inr ⟨HN.out, rfl, rfl⟩
  have HP := show Hid _ from hp
  have hst' : w.cell? ⟨cb, 2, none⟩ = some (.int .i64 1) := by rw [hst, hp]; rfl
  have HHd := show Hid _ from heard_any cb (.int .i64 c.silent) w hat.conn.c1 (hat.conn.fz 1)
  have HA1 := show Hid _ from hat.heard
  have HS1 : Hid (GwStep r B w gb r (w.setCell ⟨cb, 1, none⟩ (.int .i64 0)) (g.upd i { c with silent := 0 })) := ⟨HA1.out.rep, hat.fr 1 (.int .i64 0), Grows.refl _ _⟩
  have hlw : c.wait.length ≤ 4398046511104 := hwt c (List.mem_of_getElem? hi)
  clear hp hat hi hn ok hwt hst
  go_wp2_with fail
  refine Calls.mono (Hid.out HHd) ?_
  rintro e w1 ⟨rfl, hw1⟩
  rw [← hw1] at HA1 HS1
  clear hw1 HHd hst'
  cases yes with
  | false =>
    have HRf := show Hid _ from refuse_any HA1.out ⟨goneB.toArray⟩ (by decide)
    have HEq : Hid (dialedAt g i c false = ((g.upd i { c with silent := 0 }).drop c.num, sendS 2 c.num goneB ++ [⟨4, c.num, [], 0⟩])) := by
      show _ = _
      rw [drop_upd g i c { c with silent := 0 } HI.out.1 rfl]
      rfl
    go_wp2_with fail
    refine Calls.mono (Hid.out HRf) ?_
    rintro e w2 ⟨r', v, rfl, hst2, hout2⟩
    have HQ : Hid (CallPost r B gb g n (fun c => c.stage = 1) (fun i c => dialedAt g i c false) w (.returned (.tuple #[v, .int .i64 0])) w2) :=
      CallPost.yes HI.out.1 HI.out.2 HP.out HEq.out (HS1.out.trans hst2) ⟨owns_base hout2.1 HS1.out.fr.size, hout2.2⟩
    obtain ⟨vo, vc, rfl⟩ := slice_form hout2.1
    generalize (sendS 2 (c.num : Int) (⟨goneB.toArray⟩ : ByteArray).data.toList ++ [(⟨4, (c.num : Int), [], 0⟩ : EvS)]).length = m at *
    clear hst2 hout2 HRf
    go_wp2_with fail
    go_ret2
    exact HQ.out
  | true =>
    have HEq : Hid (dialedAt g i c true = (g.upd i { c with silent := 0, stage := 2, wait := [] }, sendS 2 c.num goB ++ sendS 3 c.num c.wait)) := rfl
    have c2 := HA1.out.conn.c2
    have f2 := HA1.out.conn.fz 2
    have hcl : cb < w1.heap.size := Q.lt c2
    have HA2 : Hid (AtConn r B (w1.setCell ⟨cb, 2, none⟩ (.int .i64 2)) gb (g.upd i { c with silent := 0, stage := 2 }) i cb { c with silent := 0, stage := 2 }) := by
      have := HA1.out.stage 2
      rw [upd_upd] at this
      exact this
    have HS2 : Hid (GwStep r B w gb r (w1.setCell ⟨cb, 2, none⟩ (.int .i64 2)) (g.upd i { c with silent := 0, stage := 2 })) := HS1.out.trans ⟨HA2.out.rep, HA1.out.fr 2 _, Grows.refl _ _⟩
    have HTw := fun x q => show Hid _ from takeWaiting_any (HA2.out.stays (w' := x) q)
    obtain ⟨L2, hL2⟩ : ∃ l, l = sendS 2 (c.num : Int) goB := ⟨_, rfl⟩
    obtain ⟨L3, hL3⟩ : ∃ l, l = sendS 3 (c.num : Int) c.wait := ⟨_, rfl⟩
    have HSa : ∀ x, x.cell? ⟨cb, 0, none⟩ = some (.int .i64 (c.num : Int)) → Hid (Calls Tryz.prog 53 #[.pointer (some ⟨cb, 0, none⟩), .int .i64 2, .string ⟨#[72, 84, 84, 80, 47, 49, 46, 49, 32, 50, 48, 48, 32, 79, 75, 13, 10, 13, 10]⟩] x fun e w' => EvsPost L2 x e w') := fun x hx => by
      rw [hL2]
      exact send_any 2 c.num ⟨goB.toArray⟩ cb x hx (by decide)
    have HSb : ∀ x, x.cell? ⟨cb, 0, none⟩ = some (.int .i64 (c.num : Int)) → Hid (Calls Tryz.prog 53 #[.pointer (some ⟨cb, 0, none⟩), .int .i64 3, .string ⟨c.wait.toArray⟩] x fun e w' => EvsPost L3 x e w') := fun x hx => by
      rw [hL3]
      exact send_any 3 c.num ⟨c.wait.toArray⟩ cb x hx (by show c.wait.toArray.size ≤ _; simpa using hlw)
    have l2 : L2.length ≤ 1 := by rw [hL2]; unfold sendS; split <;> simp
    have l3 : L3.length ≤ 1 := by rw [hL3]; unfold sendS; split <;> simp
    rw [← hL2, ← hL3] at HEq
    clear hL2 hL3
    go_wp2_with fail
    generalize (w1.setCell ⟨cb, 2, none⟩ (.int .i64 2)) = W1 at *
    clear c2 f2
    have k0 := HA2.out.conn.c0
    have kcl : cb < W1.heap.size := Q.lt k0
    have HFin : Hid (∀ (w2 w3 w4 : World) (v2 v4 : Value), Q W1 w2 → w2.ownsRow W1.heap.size 48 4 v2 L2.length (evVals L2) → AtConn r B w3 gb ((g.upd i { c with silent := 0, stage := 2 }).upd i { c with silent := 0, stage := 2, wait := [] }) i cb { c with silent := 0, stage := 2, wait := [] } → w3 = w2.setCell ⟨cb, 3, none⟩ (.slice none 0 0) → Q w3 w4 → w4.ownsRow w3.heap.size 48 4 v4 L3.length (evVals L3) →
        ∃ vo vc w5, (Builtin.append_ #[41, 41] 41 #[v2, v4]).run Tryz.prog w4 = .ok (.slice vo (L2.length + L3.length) vc) w5 ∧ w5.cell? ⟨cb, 0, none⟩ = some (.int .i64 (c.num : Int)) ∧ CallPost r B gb g n (fun c => c.stage = 1) (fun i c => dialedAt g i c true) w (.returned (.tuple #[.slice vo (L2.length + L3.length) vc, .int .i64 0])) w5) := by
      intro w2 w3 w4 v2 v4 q2 ho2 ha3 hw3 q4 ho4
      rw [upd_upd] at ha3
      have st2 := HS2.out.more q2
      have hol := owns_lt ho2
      have st3 : GwStep r B w gb r w3 (g.upd i { c with silent := 0, stage := 2, wait := [] }) := ⟨ha3.rep, st2.fr.trans (Grows.refl _ _) (by rw [hw3]; exact Fr.set r w2 cb 3 _ (by rw [HA2.out.conn.role]; simp)), Grows.refl _ _⟩
      have ho3 : w3.ownsRow w.heap.size 48 4 v2 L2.length (evVals L2) := by
        rw [hw3]
        exact owns_base (owns_same ho2 fun k hk => set_same_at (fun e => by have := (hol k hk).1; omega)) HS2.out.fr.size
      have hfree : ∀ k, v2.ownBlock = some k → r k = none := fun k hk => sized HS2.out.rep (hol k hk).1
      obtain ⟨vo, vc, w5, hrun, hgr, st5, out5, _⟩ := evs_join2 (st3.more q4) (owns_Q ho3 q4) hfree ho4 (by omega)
      have hk4 := q4.cell ha3.conn.c0
      refine ⟨vo, vc, w5, hrun, ?_, CallPost.yes HI.out.1 HI.out.2 HP.out HEq.out st5 out5⟩
      rw [hgr.cell_far ⟨cb, 0, none⟩ (Q.lt hk4) (fun e => by have := (hol cb e.symm).1; omega)]
      exact hk4
    go_region_law (first | (refine step_append_run rfl (.tmp 36) (.tmp 42) 41 41 rfl _ _ _ w5 (by simp [Act.eval]) (by simp [Act.eval]) HRun.out ?_) | (revert HW3; intro HW3; go_simp; refine Calls.mono (Hid.out (HSb _ k3)) ?_; rintro e w4 ⟨hq4, v4, rfl, hown4⟩; obtain ⟨vo, vc, w5, hrun, hc5, hpost⟩ := HFin.out w2 w3 w4 v2 v4 HQ2.out HO2.out HA3.out HW3.out hq4 hown4; have HRun := show Hid _ from hrun; have HPost := show Hid _ from hpost; clear hrun hpost hown4; dsimp only) | (go_simp; refine Calls.mono (Hid.out (HTw _ HQ2.out)) ?_; rintro e w3 ⟨rfl, ha3, hw3⟩; have HA3 := show Hid _ from ha3; have HW3 := show Hid _ from hw3; have k3 := ha3.conn.c0; clear ha3 hw3; dsimp only) | (go_simp; refine Calls.mono (Hid.out (HSa _ (((Q.refl W1).drew).cell k0))) ?_; rintro e w2 ⟨hq2, v2, rfl, hown2⟩; have HQ2 : Hid (Q W1 w2) := ((Q.refl W1).drew).trans hq2; have HO2 := show Hid _ from hown2; clear hown2 hq2; dsimp only))
    all_goals
      go_wp2_with fail
      go_ret2
      exact HPost.out
end Go.Proofs.YtdmaffciijmdcaaGreatDoor
/-
  Package turnpike: Tick.
-/
namespace Go.Proofs.YtdmaffciijmdcaaGreatDoor
namespace Plain
/-- A gateway in the midst of a Tick: the first k connections have been looked at. -/
def midT (g : GateS) (m : Int) (k : Nat) : GateS := { g with minute := (tickS g m).1.minute, conns := stayOf m (g.conns.take k) ++ g.conns.drop k }
theorem stay_nums (m : Int) (l : List ConnS) : (stayOf m l).map (·.num) = (l.filter fun c => decide (c.silent + m < 10)).map (·.num) := by
  unfold stayOf
  rw [List.map_map]
  rfl
theorem mid_nums (g : GateS) (m : Int) (k : Nat) : ((midT g m k).conns.map (·.num)).Sublist (g.conns.map (·.num)) := by
  show ((stayOf m (g.conns.take k) ++ g.conns.drop k).map (·.num)).Sublist _
  rw [List.map_append, stay_nums]
  conv => rhs; rw [← List.take_append_drop k g.conns, List.map_append]
  exact ((List.filter_sublist).map _).append (List.Sublist.refl _)
end Plain
open Go.RowKit Plain
theorem nums_nodup2 {l : List ConnS} (h : ∀ (i j : Nat) (c d : ConnS), l[i]? = some c → l[j]? = some d → c.num = d.num → i = j) : (l.map (·.num)).Nodup := by
  rw [List.Nodup, List.pairwise_iff_getElem]
  intro i j hi hj hij e
  simp only [List.length_map] at hi hj
  simp only [List.getElem_map] at e
  have := h i j _ _ (List.getElem?_eq_getElem hi) (List.getElem?_eq_getElem hj) e
  omega
theorem nodup_nums2 {l : List ConnS} (h : (l.map (·.num)).Nodup) (i j : Nat) (c d : ConnS) (hi : l[i]? = some c) (hj : l[j]? = some d) (e : c.num = d.num) : i = j := by
  rw [List.Nodup, List.pairwise_iff_getElem] at h
  obtain ⟨li, rfl⟩ := List.getElem?_eq_some_iff.1 hi
  obtain ⟨lj, rfl⟩ := List.getElem?_eq_some_iff.1 hj
  rcases Nat.lt_trichotomy i j with h1 | h1 | h1
  · exact absurd (show (l.map (·.num))[i]'(by simpa using li) = (l.map (·.num))[j]'(by simpa using lj) by rw [List.getElem_map, List.getElem_map]; exact e) (h i j (by simpa using li) (by simpa using lj) h1)
  · exact h1
  · exact absurd (show (l.map (·.num))[j]'(by simpa using lj) = (l.map (·.num))[i]'(by simpa using li) by rw [List.getElem_map, List.getElem_map]; exact e.symm) (h j i (by simpa using lj) (by simpa using li) h1)
theorem mid_ok {g : GateS} (ok : GOk g) (m : Int) (k : Nat) : GOk (midT g m k) := by
  have hs := mid_nums g m k
  refine ⟨?_, ok.tens, nodup_nums2 ((nums_nodup2 ok.nums).sublist hs), fun c hc => ?_, ok.top⟩
  · have := hs.length_le
    rw [List.length_map, List.length_map] at this
    exact Nat.le_trans this ok.few
  · have h1 : c.num ∈ (midT g m k).conns.map (·.num) := List.mem_map.2 ⟨c, hc, rfl⟩
    obtain ⟨d, hd, e⟩ := List.mem_map.1 (hs.subset h1)
    rw [← e]
    exact ok.past d hd
theorem mid_at {g : GateS} {m : Int} {k : Nat} {c : ConnS} (hc : g.conns[k]? = some c) : (midT g m k).conns[(stayOf m (g.conns.take k)).length]? = some c := by
  show (stayOf m (g.conns.take k) ++ g.conns.drop k)[_]? = _
  rw [List.getElem?_append_right (Nat.le_refl _), Nat.sub_self, List.getElem?_drop, Nat.add_zero]
  exact hc
theorem mid_stays {g : GateS} {m : Int} {k : Nat} {c : ConnS} (hc : g.conns[k]? = some c) (h : c.silent + m < 10) : (midT g m k).upd (stayOf m (g.conns.take k)).length { c with silent := c.silent + m } = midT g m (k + 1) := by
  obtain ⟨hlt, rfl⟩ := List.getElem?_eq_some_iff.1 hc
  unfold midT GateS.upd
  congr 1
  show (stayOf m (g.conns.take k) ++ g.conns.drop k).set _ _ = _
  rw [((over_step hc).1 h).2, List.set_append_right _ _ (Nat.le_refl _), Nat.sub_self, List.drop_eq_getElem_cons hlt, List.set_cons_zero, List.append_assoc]
  rfl
theorem mid_over {g : GateS} (ok : GOk g) {m : Int} {k : Nat} {c : ConnS} (hc : g.conns[k]? = some c) (h : ¬ c.silent + m < 10) : (midT g m k).drop c.num = midT g m (k + 1) := by
  have hok := mid_ok ok m k
  have hat := mid_at (m := m) hc
  obtain ⟨hlt, hce⟩ := List.getElem?_eq_some_iff.1 hc
  have hl : (midT g m k).conns = stayOf m (g.conns.take k) ++ c :: g.conns.drop (k + 1) := by
    show stayOf m (g.conns.take k) ++ g.conns.drop k = _
    rw [List.drop_eq_getElem_cons hlt, hce]
  unfold GateS.drop
  rw [hl]
  have hne : ∀ d ∈ stayOf m (g.conns.take k) ++ g.conns.drop (k + 1), d.num ≠ c.num := fun d hd e => by
    have hnd := nums_nodup2 hok.nums
    rw [hl, List.map_append, List.map_cons] at hnd
    obtain ⟨_, h2, h3⟩ := List.nodup_append.1 hnd
    rcases List.mem_append.1 hd with hd | hd
    · exact h3 d.num (List.mem_map.2 ⟨d, hd, rfl⟩) c.num (by simp) e
    · exact (List.nodup_cons.1 h2).1 (by rw [← e]; exact List.mem_map.2 ⟨d, hd, rfl⟩)
  rw [List.filter_append, List.filter_cons, if_neg (by simp)]
  rw [List.filter_eq_self.2 (fun d hd => by simpa using hne d (List.mem_append.2 (.inl hd))), List.filter_eq_self.2 (fun d hd => by simpa using hne d (List.mem_append.2 (.inr hd)))]
  unfold midT
  rw [((over_step hc).2 h).2]
theorem mid_end (g : GateS) (m : Int) {k : Nat} (hk : g.conns.length ≤ k) : midT g m k = (tickS g m).1 ∧ overOf m (g.conns.take k) = (tickS g m).2 := by
  unfold midT
  rw [List.take_of_length_le hk, List.drop_eq_nil_of_le hk, List.append_nil]
  exact ⟨rfl, rfl⟩
/-- Where the connections lie behind a drop. -/
theorem ptrs_left {ps rest : List Nat} {cb : Nat} (h : ((ps ++ cb :: rest).filter fun b => b != cb).length = ps.length + rest.length) : (ps ++ cb :: rest).filter (fun b => b != cb) = ps ++ rest := by
  rw [List.filter_append, List.filter_cons, if_neg (by simp), ← List.filter_append] at h ⊢
  refine List.filter_eq_self.2 ?_
  refine List.length_filter_eq_length_iff.1 ?_
  rw [h, List.length_append]

theorem GwRep.setMin {r : Rl} {B : Nat} {w : World} {gb : Nat} {g : GateS} (h : GwRep r B w gb g) (m : Int) : GwStep r B w gb r (w.setCell ⟨gb, 2, none⟩ (.int .i64 m)) { g with minute := m } := by
  have hne : ∀ b k, r b = some k → k ≠ .gw → SameAt w (w.setCell ⟨gb, 2, none⟩ (.int .i64 m)) b := fun b k hb hk => set_same_at (fun e => by
    rw [e, h.role] at hb
    cases hb
    exact hk rfl)
  have cg : ∀ o, o ≠ 2 → (w.setCell ⟨gb, 2, none⟩ (.int .i64 m)).cell? ⟨gb, o, none⟩ = w.cell? ⟨gb, o, none⟩ := fun o ho => set_other (fun e => by injection e with _ e2; exact ho e2.symm)
  obtain ⟨pb, h4, h5⟩ := h.pol
  obtain ⟨tv, h6, h7⟩ := h.ten
  obtain ⟨cv, cbs, h11, h12, h13, h14⟩ := h.con
  have ks : Keeps (fun b => r b = some .stat) (fun b => r b = some .stat) w (w.setCell ⟨gb, 2, none⟩ (.int .i64 m)) := fun b hb => ⟨hb, fun o => (hne b _ hb (by simp)).cell o⟩
  exact ⟨⟨fun b hb => by simpa using h.lt b hb, h.low, h.role, ⟨pb, by rw [cg 0 (by decide)]; exact h4, h5.keeps ks⟩, ⟨tv, by rw [cg 1 (by decide)]; exact h6, h7.keeps ks⟩, set_same h.min, by rw [cg 3 (by decide)]; exact h.last, fun o => by rw [World.frozen?_setCell]; exact h.fz o, cv, cbs, by rw [cg 4 (by decide)]; exact h11, owns_same h12 fun k hk => hne k _ (h13 k hk) (by simp), h13, h14.same fun c _ b hb => ⟨rfl, by rcases hb with hb | hb <;> exact hne b _ hb (by simp)⟩⟩, Fr.set r w gb 2 _ (by rw [h.role]; simp), Grows.refl _ _⟩

/-- What Tick answers. -/
def TickPost (r : Rl) (B : Nat) (gb : Nat) (g : GateS) (m : Int) (w : World) (e : Ending) (w' : World) : Prop :=
  ((m < 1 ∨ 10080 ≤ m) ∧ w' = w ∧ e = .returned (.tuple #[.slice none 0 0, .int .i64 5])) ∨
  ((1 ≤ m ∧ m < 10080) ∧ GwPostE r B gb (tickS g m).1 (tickS g m).2 0 w e w')

/-- In the midst of a Tick. -/
structure TickAt (r : Rl) (B : Nat) (w : World) (gb : Nat) (g : GateS) (m : Int) (cbs : List Nat) (cv : Value) (k : Nat) (ov : Value) (wr : World) : Prop where
  ex : ∃ rr ps, GwStep r B w gb rr wr (midT g m k) ∧ EvsOut rr (overOf m (g.conns.take k)) w ov wr ∧ PtrsAt B wr gb (ps ++ cbs.drop k) ∧ ps.length = (stayOf m (g.conns.take k)).length ∧ (∀ b, cv.ownBlock = some b → rr b = none ∧ ov.ownBlock ≠ some b)
  cl : wr.ownsRow w.heap.size 95 1 cv cbs.length (cbs.map ptr)

theorem evs_stay {r r' : Rl} {B : Nat} {w0 w1 w2 : World} {gb : Nat} {g' : GateS} {out : List EvS} {ov : Value} (ho : EvsOut r out w0 ov w1) (hs : GwStep r B w1 gb r' w2 g') : EvsOut r' out w0 ov w2 := by
  have hbl := fun k hk => owns_lt ho.1 k hk
  refine ⟨owns_same ho.1 fun k hk => hs.fr.block k (hbl k hk).2 (ho.2 k hk), fun k hk => ?_⟩
  cases hx : r' k with
  | none => rfl
  | some x =>
    rcases hs.gr.1 k (by rw [hx]; simp) with h1 | h1
    · exact absurd (ho.2 k hk) h1
    · have := (hbl k hk).2; omega

/-- The k-th connection. -/
theorem TickAt.conn {r : Rl} {B : Nat} {w : World} {gb : Nat} {g : GateS} {m : Int} {cbs : List Nat} {cv : Value} {k : Nat} {ov : Value} {wr : World} (h : TickAt r B w gb g m cbs cv k ov wr) (ok : GOk g) {c : ConnS} (hc : g.conns[k]? = some c) {cb : Nat} (hb : cbs[k]? = some cb) :
    ∃ rr, GwStep r B w gb rr wr (midT g m k) ∧ AtConn rr B wr gb (midT g m k) (stayOf m (g.conns.take k)).length cb c := by
  obtain ⟨rr, ps, hst, _, hpt, hps, _⟩ := h.ex
  obtain ⟨cv', cbs', x1, x2, x3, x4⟩ := hst.rep.con
  have e := PtrsAt.uniq ⟨cv', x1, x2⟩ hpt
  subst e
  refine ⟨rr, hst, hst.rep, mid_ok ok m k, mid_at hc, cv', _, x1, x2, x3, x4, ?_⟩
  rw [← hps, List.getElem?_append_right (Nat.le_refl _), Nat.sub_self, List.getElem?_drop, Nat.add_zero]
  exact hb
/-- Behind an append to the events. -/
theorem TickAt.grown {r rr : Rl} {B : Nat} {w w3 w4 : World} {gb : Nat} {g : GateS} {m : Int} {cbs ps : List Nat} {cv ov v : Value} {k : Nat} {l : List EvS} (hs : GwStep r B w gb rr w3 (midT g m k)) (hpt : PtrsAt B w3 gb (ps ++ cbs.drop k)) (hps : ps.length = (stayOf m (g.conns.take k)).length) (hcl : w3.ownsRow w.heap.size 95 1 cv cbs.length (cbs.map ptr)) (hcv : ∀ b, cv.ownBlock = some b → rr b = none ∧ ov.ownBlock ≠ some b) (hfree : ∀ b, ov.ownBlock = some b → rr b = none)
    (hgr : w3.grownBy w4 ov.ownBlock) (s4 : GwStep r B w gb rr w4 (midT g m k)) (hev : EvsOut rr l w v w4) (hl : l = overOf m (g.conns.take k)) (hat : v.ownBlock = ov.ownBlock ∨ v.ownBlock = some w3.heap.size) : TickAt r B w gb g m cbs cv k v w4 := by
  have hbl := owns_lt hcl
  obtain ⟨cv', cbs', x1, x2, x3, x4⟩ := hs.rep.con
  have e := PtrsAt.uniq ⟨cv', x1, x2⟩ hpt
  subst e
  have S : ∀ b, rr b ≠ none → SameAt w3 w4 b := fun b hb => hgr.block b (hs.rep.lt b hb) (fun e => hb (hfree b e.symm))
  refine ⟨⟨rr, ps, s4, by rw [← hl]; exact hev, ⟨cv', by rw [(S gb (by rw [hs.rep.role]; simp)).cell]; exact x1, owns_same x2 fun b hb => S b (by rw [x3 b hb]; simp)⟩, hps, fun b hb => ⟨(hcv b hb).1, fun e => ?_⟩⟩, owns_same hcl fun b hb => hgr.block b (hbl b hb).2 (fun e => (hcv b hb).2 e.symm)⟩
  rcases hat with h1 | h1
  · rw [h1] at e
    exact (hcv b hb).2 e
  · rw [h1] at e
    cases e
    have := (hbl _ hb).2
    omega
/-- The k-th connection has been looked at: events in v come behind the others. -/
theorem TickAt.next {r : Rl} {B : Nat} {w : World} {gb : Nat} {g : GateS} {m : Int} {cbs : List Nat} {cv : Value} {k : Nat} {ov : Value} {wr : World} (h : TickAt r B w gb g m cbs cv k ov wr) (ok : GOk g) (hin : GIn g) {c : ConnS} (hc : g.conns[k]? = some c) {cb : Nat} (hb : cbs[k]? = some cb) (hm : 1 ≤ m ∧ m < 10080) :
    Calls Tryz.prog 64 #[ptr gb, ptr cb, .int .i64 m] wr fun e w2 => ∃ v n vo w4 vc, e = .returned v ∧ (∃ a n c, v = .slice a n c) ∧ (Builtin.append_ #[41, 41] 41 #[ov, v]).run Tryz.prog w2 = .ok (.slice vo n vc) w4 ∧ TickAt r B w gb g m cbs cv (k + 1) (.slice vo n vc) w4 := by
  obtain ⟨rr0, ps, hst, hev, hpt, hps, hcv⟩ := h.ex
  obtain ⟨cv', cbs', x1, x2, x3, x4⟩ := hst.rep.con
  have e := PtrsAt.uniq ⟨cv', x1, x2⟩ hpt
  subst e
  have hbl : k < cbs.length := (List.getElem?_eq_some_iff.1 hb).1
  have hdr : cbs.drop k = cb :: cbs.drop (k + 1) := by
    rw [List.drop_eq_getElem_cons hbl, (List.getElem?_eq_some_iff.1 hb).2]
  have hat : AtConn rr0 B wr gb (midT g m k) (stayOf m (g.conns.take k)).length cb c := ⟨hst.rep, mid_ok ok m k, mid_at hc, cv', _, x1, x2, x3, x4, by
    rw [← hps, List.getElem?_append_right (Nat.le_refl _), Nat.sub_self, List.getElem?_drop, Nat.add_zero]
    exact hb⟩
  have hlen : (overOf m (g.conns.take k)).length ≤ 100 := over_len m _ (by rw [List.length_take]; have := ok.few; omega)
  have hcl : ∀ w2 rr2 g2 g3, GwStep rr0 B wr gb rr2 w2 g2 → w2.ownsRow w.heap.size 95 1 cv cbs.length (cbs.map ptr) ∧ ∀ b, cv.ownBlock = some b → rr2 b = none ∧ ov.ownBlock ≠ some b ∧ (g3 : GateS) = g3 := fun w2 rr2 g2 g3 hs => by
    have hbl2 := owns_lt h.cl
    refine ⟨owns_same h.cl fun b hb2 => hs.fr.block b (hbl2 b hb2).2 (hcv b hb2).1, fun b hb2 => ⟨?_, (hcv b hb2).2, rfl⟩⟩
    cases hx : rr2 b with
    | none => rfl
    | some x =>
      rcases hs.gr.1 b (by rw [hx]; simp) with h1 | h1
      · exact absurd (hcv b hb2).1 h1
      · have := (hbl2 b hb2).2; omega
  refine (age_any hat (hin c (List.mem_of_getElem? hc)) m hm).mono ?_
  rintro e w2 (⟨h10, rfl, hw2⟩ | ⟨h10, ⟨r2, v, rfl, hst2, hout2⟩, cbs2, p1, p2⟩)
  · have hat2 := hat.silentTo (c.silent + m)
    rw [← hw2, mid_stays hc h10] at hat2
    have s2 : GwStep rr0 B wr gb rr0 w2 (midT g m (k + 1)) := ⟨hat2.rep, by rw [hw2]; exact hat.fr 1 _, Grows.refl _ _⟩
    have s3 := hst.trans s2
    have hev2 := evs_stay hev s2
    obtain ⟨hc2, hcv2⟩ := hcl w2 rr0 _ g s2
    have hpt2 : PtrsAt B w2 gb ((ps ++ [cb]) ++ cbs.drop (k + 1)) := by
      have hgc : gb ≠ cb := fun e => by have := hat.rep.role; rw [e, hat.conn.role] at this; cases this
      rw [List.append_assoc, List.singleton_append, ← hdr]
      refine ⟨cv', by rw [hw2, (set_same_at hgc).cell]; exact x1, ?_⟩
      rw [hw2]
      refine owns_same x2 fun b hb2 => set_same_at (fun e => ?_)
      have := x3 b hb2
      rw [e, hat.conn.role] at this
      cases this
    have hso := (over_step (m := m) hc).1 h10
    obtain ⟨vo, vc, w4, hrun, hgr, s4, out4, hat4⟩ := evs_join2 (m := []) (u := .slice none 0 0) (B2 := 0) s3 hev2.1 hev2.2 ⟨rfl, .inl ⟨rfl, rfl⟩⟩ (by simp; omega)
    refine ⟨_, _, vo, w4, vc, rfl, ⟨_, _, _, rfl⟩, hrun, ?_⟩
    exact TickAt.grown s3 hpt2 (by rw [hso.2, List.length_append, List.length_append, hps]; rfl) hc2 (fun b hb2 => ⟨(hcv2 b hb2).1, (hcv2 b hb2).2.1⟩) hev2.2 hgr s4 out4 (by rw [hso.1, List.append_nil]) hat4
  · rw [mid_over ok hc h10] at hst2
    have s3 := hst.trans hst2
    have hev2 := evs_stay hev hst2
    obtain ⟨hc2, hcv2⟩ := hcl w2 r2 _ g hst2
    have hso := (over_step (m := m) hc).2 h10
    have e2 := PtrsAt.uniq p1 hpt
    subst e2
    have hpt2 : PtrsAt B w2 gb (ps ++ cbs.drop (k + 1)) := by
      obtain ⟨cv3, cbs3, y1, y2, y3, y4⟩ := hst2.rep.con
      have e3 := PtrsAt.uniq ⟨cv3, y1, y2⟩ p2
      have hl3 := y4.len
      have hl0 := x4.len
      have hmid : (midT g m (k + 1)).conns.length = ps.length + (cbs.drop (k + 1)).length := by
        show (stayOf m (g.conns.take (k + 1)) ++ g.conns.drop (k + 1)).length = _
        have h0 : (ps ++ cbs.drop k).length = (stayOf m (g.conns.take k) ++ g.conns.drop k).length := hl0
        rw [List.length_append, List.length_append, List.length_drop, List.length_drop] at h0
        rw [List.length_append, hso.2, List.length_drop, List.length_drop, hps]
        have := (List.getElem?_eq_some_iff.1 hc).1
        omega
      rw [hdr] at p2 e3
      rw [ptrs_left (by rw [← e3, hl3, hmid])] at p2
      exact p2
    obtain ⟨vo, vc, w4, hrun, hgr, s4, out4, hat4⟩ := evs_join2 (m := overEvs c) (u := v) s3 hev2.1 hev2.2 hout2.1 (by
      have : (overEvs c).length ≤ 2 := by
        unfold overEvs
        rw [List.length_append]
        split <;> split <;> simp
      omega)
    refine ⟨_, _, vo, w4, vc, rfl, ?_, hrun, ?_⟩
    · obtain ⟨a, b, hv⟩ := slice_form hout2.1
      exact ⟨a, _, b, hv⟩
    · exact TickAt.grown s3 hpt2 (by rw [hso.2, hps]) hc2 (fun b hb2 => ⟨(hcv2 b hb2).1, (hcv2 b hb2).2.1⟩) hev2.2 hgr s4 out4 hso.1.symm hat4
end Go.Proofs.YtdmaffciijmdcaaGreatDoor

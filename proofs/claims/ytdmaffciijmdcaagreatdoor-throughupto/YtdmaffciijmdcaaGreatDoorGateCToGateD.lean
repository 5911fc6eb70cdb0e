/-
  Package slices: Clone of a row of connections.
-/
import Derived.Test.YtdmaffciijmdcaaGreatDoorGate2C
import Derived.Test.YtdmaffciijmdcaaGreatDoorGate3ToGate5
import Derived.Test.YtdmaffciijmdcaaGreatDoorGateBToGateT
namespace Go.Proofs.YtdmaffciijmdcaaGreatDoor
open Go.RowKit Plain

set_option maxRecDepth 100000 in
theorem nilC (w : World) (a : Option Addr) (n c : Nat) : (binOp .eql 90 (.slice a n c) (.slice none 0 0)).run Tryz.prog w = .ok (.bool a.isNone) w := by
  have hn : ∀ d : Nat, (Op.equalIn (d + 1) 90 (.slice a n c) (.slice none 0 0)).run Tryz.prog w = .ok a.isNone w := fun d => by
    cases a <;> simp [Op.equalIn, run_underlying Tryz.underlying90]
  simp only [binOp]
  simp [Op.equal, Op.maxDepth, hn 9999]

set_option maxRecDepth 100000 in
set_option maxHeartbeats 800000 in
theorem cloneC_any (B : Nat) (v : Value) (cbs : List Nat) (w : World) (hown : w.ownsRow B 95 1 v cbs.length (cbs.map ptr)) (hl : cbs.length ≤ 8) :
    Calls Tryz.prog 63 #[v] w fun e w' => Q w w' ∧ ∃ v', e = .returned v' ∧ w'.ownsRow w.heap.size 95 1 v' cbs.length (cbs.map ptr) := by
  rcases hown.2 with ⟨rfl, hn⟩ | ⟨g, cap, cur, rfl, hb, hg, h4, h5, h6, h7⟩
  · have := List.eq_nil_of_length_eq_zero hn
    subst this
    have hq := nilC w none 0 0
    simp only [Option.isNone_none] at hq
    clear hown
    go_enter Tryz.func63, Tryz.ntmps63
    go_wp2_with fail
    go_ret
    exact ⟨Q.refl _, _, rfl, rfl, .inl ⟨rfl, rfl⟩⟩
  · have hq := nilC w (some ⟨g, 0, none⟩) cbs.length cap
    simp only [Option.isNone_some] at hq
    go_enter Tryz.func63, Tryz.ntmps63
    have hq0 : Q w (w.alloc (.cells #[] 95)) := (Q.refl _).alloc _
    have hown0 : (w.alloc (.cells #[] 95)).ownsRow w.heap.size 95 1 (.slice (some ⟨w.heap.size, 0, none⟩) 0 0) 0 [] := ⟨rfl, .inr ⟨w.heap.size, 0, #[], rfl, Nat.le_refl _, heap_alloc_new w _, Nat.le_refl _, by decide, rfl, rfl⟩⟩
    have hcells := (owns_Q hown hq0).cells (g := g) rfl
    obtain ⟨v', w', hrun, hown', hgr, _, _⟩ := run_append_own_at (P := Tryz.prog) (w.alloc (.cells #[] 95)) w.heap.size 90 90 95 Tryz.t95 (.pointer none) 1 8 Tryz.underlying90 (by kernel_rfl) (by kernel_rfl) (by kernel_rfl) (by kernel_rfl) rfl (by decide) (.slice (some ⟨w.heap.size, 0, none⟩) 0 0) 0 [] hown0 ⟨g, 0, none⟩ cbs.length cap (cbs.map ptr) (by simp) hcells (fun u hu => by
      obtain ⟨b, _, rfl⟩ := List.mem_map.1 hu
      rfl) (by unfold maxLen; omega) (by omega) hq0.size
    have HO : Hid (w'.ownsRow w.heap.size 95 1 v' cbs.length (cbs.map ptr)) := by
      show World.ownsRow _ _ _ _ _ _ _
      simpa using hown'
    have HQ : Hid (Q w w') := Below.grown hq0 hgr hq0.size (fun k hk => by
      have : w.heap.size = k := by simpa [Value.ownBlock] using hk
      omega)
    obtain ⟨vo, vc, rfl⟩ := slice_form HO.out
    have HRun := show Hid _ from hrun
    clear hown hown0 hcells hrun hown' hgr h7 hg
    generalize cbs.length = n at *
    go_wp2_with (first | (at_builtin; refine wpList_append_run rfl (.tmp 5) (.tmp 6) 90 90 rfl _ _ _ w' rfl rfl HRun.out ?_))
    go_ret
    exact ⟨HQ.out, _, rfl, HO.out⟩
end Go.Proofs.YtdmaffciijmdcaaGreatDoor
/-
  Package turnpike: takeWaiting.
-/
namespace Go.Proofs.YtdmaffciijmdcaaGreatDoor
open Go.RowKit Plain

theorem bytes_to_str {w : World} {B g cap : Nat} {l : List UInt8} (h : w.ownsRow B 5 1 (.slice (some ⟨g, 0, none⟩) l.length cap) l.length (bvals l)) : (convert 99 9 (.slice (some ⟨g, 0, none⟩) l.length cap)).run Tryz.prog w = .ok (.string ⟨l.toArray⟩) w := by
  refine cells_to_str fun i hi => ?_
  have hb : (bvals l)[i]? = some (.int .u8 ((l.getD i 0).toNat : Int)) := by
    unfold bvals
    rw [List.getElem?_map, List.getD_eq_getElem?_getD, List.getElem?_eq_getElem hi]
    rfl
  have := h.cells (g := g) rfl i _ hb
  rw [Nat.zero_add]
  have e : (⟨g, 0, none⟩ : Addr).add i = ⟨g, i, none⟩ := by unfold Addr.add; split <;> simp_all
  rw [e] at this
  exact this

set_option maxRecDepth 100000 in
set_option maxHeartbeats 800000 in
theorem takeWaiting_any {r : Rl} {B : Nat} {w : World} {gb : Nat} {g : GateS} {i cb : Nat} {c : ConnS} (h : AtConn r B w gb g i cb c) :
    Calls Tryz.prog 58 #[ptr cb] w fun e w' => e = .returned (.string ⟨c.wait.toArray⟩) ∧ AtConn r B w' gb (g.upd i { c with wait := [] }) i cb { c with wait := [] } ∧ w' = w.setCell ⟨cb, 3, none⟩ (.slice none 0 0) := by
  have hc := h.conn
  obtain ⟨wv, x1, x2, x3⟩ := hc.wt
  have f3 := hc.fz 3
  have HA : Hid (AtConn r B (w.setCell ⟨cb, 3, none⟩ (.slice none 0 0)) gb (g.upd i { c with wait := [] }) i cb { c with wait := [] }) := by
    obtain ⟨s1, s2⟩ := hc.setCell 3 (.slice none 0 0)
    exact h.set (c' := { c with wait := [] }) rfl 3 _ ⟨hc.role, by rw [s1 0 (by decide)]; exact hc.c0, by rw [s1 1 (by decide)]; exact hc.c1, by rw [s1 2 (by decide)]; exact hc.c2, by rw [s1 4 (by decide)]; exact hc.c4, by rw [s1 5 (by decide)]; exact hc.c5, obj_set hc.obj, .slice none 0 0, s2 _ x1, ⟨rfl, .inl ⟨rfl, rfl⟩⟩, fun k hk => by cases hk⟩
  clear h hc
  rcases x2.2 with ⟨rfl, hn⟩ | ⟨gw, cap, cur, rfl, _⟩
  · have hw : c.wait = [] := List.eq_nil_of_length_eq_zero hn
    have HW : Hid (c.wait = []) := hw
    have hcv : (convert 99 9 (.slice none 0 0)).run Tryz.prog w = .ok (.string ⟨#[]⟩) w := by
      rw [run_convert_bytes_string (P := Tryz.prog) w 99 9 5 none 0 0 Tryz.underlying99 Tryz.underlying5 Tryz.underlying9]
      simp [Conv.bytesToString]
      rfl
    clear x2 x3 hn hw
    go_enter Tryz.func58, Tryz.ntmps58
    go_wp2_with fail
    go_ret
    exact ⟨by rw [HW.out]; rfl, HA.out, rfl⟩
  · have hcv := bytes_to_str x2
    generalize c.wait.length = wl at *
    clear x2 x3
    go_enter Tryz.func58, Tryz.ntmps58
    go_wp2_with fail
    go_ret
    exact ⟨rfl, HA.out, rfl⟩
end Go.Proofs.YtdmaffciijmdcaaGreatDoor
/-
  Package turnpike: Dialed.
-/
namespace Go.Proofs.YtdmaffciijmdcaaGreatDoor
open Go.RowKit Plain

/-- Events put behind others that are no gateway's. -/
theorem evs_join2 {r r1 : Rl} {B : Nat} {w w3 : World} {gb : Nat} {g1 : GateS} {l m : List EvS} {v u : Value} {B2 : Nat} (h : GwStep r B w gb r1 w3 g1) (hl : w3.ownsRow w.heap.size 48 4 v l.length (evVals l)) (hfree : ∀ k, v.ownBlock = some k → r1 k = none) (hm : w3.ownsRow B2 48 4 u m.length (evVals m)) (hb : l.length + m.length ≤ 1000000000000) :
    ∃ vo vc w4, (Builtin.append_ #[41, 41] 41 #[v, u]).run Tryz.prog w3 = .ok (.slice vo (l.length + m.length) vc) w4 ∧ w3.grownBy w4 v.ownBlock ∧ GwStep r B w gb r1 w4 g1 ∧ EvsOut r1 (l ++ m) w (.slice vo (l.length + m.length) vc) w4 ∧ ((Value.slice vo (l.length + m.length) vc).ownBlock = v.ownBlock ∨ (Value.slice vo (l.length + m.length) vc).ownBlock = some w3.heap.size) := by
  obtain ⟨v4, w4, hrun, hown, hgr, hat⟩ := append_evs w3 w.heap.size B2 v u l.length (evVals l) m hl hm hb h.fr.size
  obtain ⟨vo, vc, rfl⟩ := slice_form hown
  have hol := owns_lt hl
  refine ⟨vo, vc, w4, hrun, hgr, ⟨h.rep.same (fun b hb => hgr.block b (h.rep.lt b hb) (fun e => hb (hfree b e.symm))) hgr.size, ⟨hgr.os.trans h.fr.os, hgr.tape.trans h.fr.tape, hgr.output.trans h.fr.output, Nat.le_trans h.fr.size hgr.size, fun k hk hr => (hgr.block k (Nat.lt_of_lt_of_le hk h.fr.size) (fun e => by have := (hol k e.symm).1; omega)).trans (h.fr.block k hk hr)⟩, h.gr⟩, ⟨?_, fun k hk => ?_⟩, hat⟩
  · rw [List.length_append, evVals_append]
    exact hown
  · rcases hat with e | e
    · exact hfree k (by rw [← e]; exact hk)
    · rw [e] at hk
      cases hk
      exact sized h.rep (Nat.le_refl _)

set_option maxRecDepth 100000 in
set_option maxHeartbeats 3200000 in
theorem dialed_any {r : Rl} {B : Nat} {w : World} {gb : Nat} {g : GateS} (h : GwRep r B w gb g) (ok : GOk g) (hwt : ∀ c ∈ g.conns, c.wait.length ≤ 4398046511104) (n : Int) (yes : Bool) :
    Calls Tryz.prog 24 #[ptr gb, .int .i64 n, .bool yes] w fun e w' => CallPost r B gb g n (fun c => c.stage = 1) (fun i c => dialedAt g i c yes) w e w' := by
  have HF := show Hid _ from find_at h ok n
  clear h
  go_enter Tryz.func24, Tryz.ntmps24
  go_wp2_with fail
  refine Calls.mono (Hid.out HF) ?_
  rintro e w' ⟨hw, ⟨i, c, cb, hi, hn, hat, rfl⟩ | ⟨hno, rfl⟩⟩
  case inr =>
    have HN : Hid (∀ c ∈ g.conns, (c.num : Int) = n → ¬ (c.stage = 1)) := fun c hc e => absurd e (hno c hc)
    rw [hw]
    clear hno HF hw ok hwt
    go_wp2_with fail
    go_ret2
    exact .inr ⟨HN.out, rfl, rfl⟩
  rw [hw]
  clear hw w' HF
  have HI : Hid (g.conns[i]? = some c ∧ (c.num : Int) = n) := ⟨hi, hn⟩
  have hst := hat.conn.c2
  by_cases hp : c.stage = 1
  case neg =>
    have d1 : ((c.stage : Int) != 1) = true := by rw [bne_iff_ne]; omega
    have HN : Hid (∀ c ∈ g.conns, (c.num : Int) = n → ¬ (c.stage = 1)) := only_conn ok hi hn hp
    clear hp hat hi hn ok hwt
    go_wp2_with fail
    go_ret2
    exact .inr ⟨HN.out, rfl, rfl⟩
  have HP := show Hid _ from hp
  have hst' : w.cell? ⟨cb, 2, none⟩ = some (.int .i64 1) := by rw [hst, hp]; rfl
  have HHd := show Hid _ from heard_any cb (.int .i64 c.silent) w hat.conn.c1 (hat.conn.fz 1)
  have HA1 := show Hid _ from hat.heard
  have HS1 : Hid (GwStep r B w gb r (w.setCell ⟨cb, 1, none⟩ (.int .i64 0)) (g.upd i { c with silent := 0 })) := ⟨HA1.out.rep, hat.fr 1 (.int .i64 0), Grows.refl _ _⟩
  have hlw : c.wait.length ≤ 4398046511104 := hwt c (List.mem_of_getElem? hi)
  clear hp hat hi hn ok hwt hst
  go_wp2_with fail
  refine Calls.mono (Hid.out HHd) ?_
  rintro e w1 ⟨rfl, hw1⟩
  rw [← hw1] at HA1 HS1
  clear hw1 HHd hst'
  cases yes with
  | false =>
    have HRf := show Hid _ from refuse_any HA1.out ⟨goneB.toArray⟩ (by decide)
    have HEq : Hid (dialedAt g i c false = ((g.upd i { c with silent := 0 }).drop c.num, sendS 2 c.num goneB ++ [⟨4, c.num, [], 0⟩])) := by
      show _ = _
      rw [drop_upd g i c { c with silent := 0 } HI.out.1 rfl]
      rfl
    go_wp2_with fail
    refine Calls.mono (Hid.out HRf) ?_
    rintro e w2 ⟨r', v, rfl, hst2, hout2⟩
    have HQ : Hid (CallPost r B gb g n (fun c => c.stage = 1) (fun i c => dialedAt g i c false) w (.returned (.tuple #[v, .int .i64 0])) w2) :=
      CallPost.yes HI.out.1 HI.out.2 HP.out HEq.out (HS1.out.trans hst2) ⟨owns_base hout2.1 HS1.out.fr.size, hout2.2⟩
    obtain ⟨vo, vc, rfl⟩ := slice_form hout2.1
    generalize (sendS 2 (c.num : Int) (⟨goneB.toArray⟩ : ByteArray).data.toList ++ [(⟨4, (c.num : Int), [], 0⟩ : EvS)]).length = m at *
    clear hst2 hout2 HRf
    go_wp2_with fail
    go_ret2
    exact HQ.out
  | true =>
    have HEq : Hid (dialedAt g i c true = (g.upd i { c with silent := 0, stage := 2, wait := [] }, sendS 2 c.num goB ++ sendS 3 c.num c.wait)) := rfl
    have c2 := HA1.out.conn.c2
    have f2 := HA1.out.conn.fz 2
    have hcl : cb < w1.heap.size := Q.lt c2
    have HA2 : Hid (AtConn r B (w1.setCell ⟨cb, 2, none⟩ (.int .i64 2)) gb (g.upd i { c with silent := 0, stage := 2 }) i cb { c with silent := 0, stage := 2 }) := by
      have := HA1.out.stage 2
      rw [upd_upd] at this
      exact this
    have HS2 : Hid (GwStep r B w gb r (w1.setCell ⟨cb, 2, none⟩ (.int .i64 2)) (g.upd i { c with silent := 0, stage := 2 })) := HS1.out.trans ⟨HA2.out.rep, HA1.out.fr 2 _, Grows.refl _ _⟩
    have HTw := fun x q => show Hid _ from takeWaiting_any (HA2.out.stays (w' := x) q)
    obtain ⟨L2, hL2⟩ : ∃ l, l = sendS 2 (c.num : Int) goB := ⟨_, rfl⟩
    obtain ⟨L3, hL3⟩ : ∃ l, l = sendS 3 (c.num : Int) c.wait := ⟨_, rfl⟩
    have HSa : ∀ x, x.cell? ⟨cb, 0, none⟩ = some (.int .i64 (c.num : Int)) → Hid (Calls Tryz.prog 53 #[.pointer (some ⟨cb, 0, none⟩), .int .i64 2, .string ⟨#[72, 84, 84, 80, 47, 49, 46, 49, 32, 50, 48, 48, 32, 79, 75, 13, 10, 13, 10]⟩] x fun e w' => EvsPost L2 x e w') := fun x hx => by
      rw [hL2]
      exact send_any 2 c.num ⟨goB.toArray⟩ cb x hx (by decide)
    have HSb : ∀ x, x.cell? ⟨cb, 0, none⟩ = some (.int .i64 (c.num : Int)) → Hid (Calls Tryz.prog 53 #[.pointer (some ⟨cb, 0, none⟩), .int .i64 3, .string ⟨c.wait.toArray⟩] x fun e w' => EvsPost L3 x e w') := fun x hx => by
      rw [hL3]
      exact send_any 3 c.num ⟨c.wait.toArray⟩ cb x hx (by show c.wait.toArray.size ≤ _; simpa using hlw)
    have l2 : L2.length ≤ 1 := by rw [hL2]; unfold sendS; split <;> simp
    have l3 : L3.length ≤ 1 := by rw [hL3]; unfold sendS; split <;> simp
    rw [← hL2, ← hL3] at HEq
    clear hL2 hL3
    go_wp2_with fail
    generalize (w1.setCell ⟨cb, 2, none⟩ (.int .i64 2)) = W1 at *
    clear c2 f2
    have k0 := HA2.out.conn.c0
    have kcl : cb < W1.heap.size := Q.lt k0
    have HFin : Hid (∀ (w2 w3 w4 : World) (v2 v4 : Value), Q W1 w2 → w2.ownsRow W1.heap.size 48 4 v2 L2.length (evVals L2) → AtConn r B w3 gb ((g.upd i { c with silent := 0, stage := 2 }).upd i { c with silent := 0, stage := 2, wait := [] }) i cb { c with silent := 0, stage := 2, wait := [] } → w3 = w2.setCell ⟨cb, 3, none⟩ (.slice none 0 0) → Q w3 w4 → w4.ownsRow w3.heap.size 48 4 v4 L3.length (evVals L3) →
        ∃ vo vc w5, (Builtin.append_ #[41, 41] 41 #[v2, v4]).run Tryz.prog w4 = .ok (.slice vo (L2.length + L3.length) vc) w5 ∧ w5.cell? ⟨cb, 0, none⟩ = some (.int .i64 (c.num : Int)) ∧ CallPost r B gb g n (fun c => c.stage = 1) (fun i c => dialedAt g i c true) w (.returned (.tuple #[.slice vo (L2.length + L3.length) vc, .int .i64 0])) w5) := by
      intro w2 w3 w4 v2 v4 q2 ho2 ha3 hw3 q4 ho4
      rw [upd_upd] at ha3
      have st2 := HS2.out.more q2
      have hol := owns_lt ho2
      have st3 : GwStep r B w gb r w3 (g.upd i { c with silent := 0, stage := 2, wait := [] }) := ⟨ha3.rep, st2.fr.trans (Grows.refl _ _) (by rw [hw3]; exact Fr.set r w2 cb 3 _ (by rw [HA2.out.conn.role]; simp)), Grows.refl _ _⟩
      have ho3 : w3.ownsRow w.heap.size 48 4 v2 L2.length (evVals L2) := by
        rw [hw3]
        exact owns_base (owns_same ho2 fun k hk => set_same_at (fun e => by have := (hol k hk).1; omega)) HS2.out.fr.size
      have hfree : ∀ k, v2.ownBlock = some k → r k = none := fun k hk => sized HS2.out.rep (hol k hk).1
      obtain ⟨vo, vc, w5, hrun, hgr, st5, out5, _⟩ := evs_join2 (st3.more q4) (owns_Q ho3 q4) hfree ho4 (by omega)
      have hk4 := q4.cell ha3.conn.c0
      refine ⟨vo, vc, w5, hrun, ?_, CallPost.yes HI.out.1 HI.out.2 HP.out HEq.out st5 out5⟩
      rw [hgr.cell_far ⟨cb, 0, none⟩ (Q.lt hk4) (fun e => by have := (hol cb e.symm).1; omega)]
      exact hk4
    go_region_law (first | (refine step_append_run rfl (.tmp 36) (.tmp 42) 41 41 rfl _ _ _ w5 (by simp [Act.eval]) (by simp [Act.eval]) HRun.out ?_) | (revert HW3; intro HW3; go_simp; refine Calls.mono (Hid.out (HSb _ k3)) ?_; rintro e w4 ⟨hq4, v4, rfl, hown4⟩; obtain ⟨vo, vc, w5, hrun, hc5, hpost⟩ := HFin.out w2 w3 w4 v2 v4 HQ2.out HO2.out HA3.out HW3.out hq4 hown4; have HRun := show Hid _ from hrun; have HPost := show Hid _ from hpost; clear hrun hpost hown4; dsimp only) | (go_simp; refine Calls.mono (Hid.out (HTw _ HQ2.out)) ?_; rintro e w3 ⟨rfl, ha3, hw3⟩; have HA3 := show Hid _ from ha3; have HW3 := show Hid _ from hw3; have k3 := ha3.conn.c0; clear ha3 hw3; dsimp only) | (go_simp; refine Calls.mono (Hid.out (HSa _ (((Q.refl W1).drew).cell k0))) ?_; rintro e w2 ⟨hq2, v2, rfl, hown2⟩; have HQ2 : Hid (Q W1 w2) := ((Q.refl W1).drew).trans hq2; have HO2 := show Hid _ from hown2; clear hown2 hq2; dsimp only))
    all_goals
      go_wp2_with fail
      go_ret2
      exact HPost.out
end Go.Proofs.YtdmaffciijmdcaaGreatDoor

/-
  Package turnpike: abandon, dropIfBothEnded, leave, mayHearHost.
-/
import Derived.Test.YtdmaffciijmdcaaGreatDoorGate7ToGate9
import Derived.Test.YtdmaffciijmdcaaGreatDoorJudgeToGate2
import Derived.Test.YtdmaffciijmdcaaGreatDoorGate3ToGate5
namespace Go.Proofs.YtdmaffciijmdcaaGreatDoor
open Go.RowKit Plain

theorem PtrsAt.stays {B : Nat} {w w' : World} {gb : Nat} {cbs : List Nat} (h : PtrsAt B w gb cbs) (q : Q w w') : PtrsAt B w' gb cbs := by
  obtain ⟨cv, h1, h2⟩ := h
  exact ⟨cv, q.cell h1, owns_Q h2 q⟩
/-- Events made behind a step. -/
theorem evs_out {r r1 : Rl} {B : Nat} {w w1 w2 : World} {gb : Nat} {g1 : GateS} {l : List EvS} {v : Value} (h : GwStep r B w gb r1 w1 g1) (ho : w2.ownsRow w1.heap.size 48 4 v l.length (evVals l)) : EvsOut r1 l w v w2 :=
  ⟨owns_base ho h.fr.size, fun k hk => sized h.rep (owns_lt ho k hk).1⟩
theorem GwStep.more {r r1 : Rl} {B : Nat} {w w1 w2 : World} {gb : Nat} {g1 : GateS} (h : GwStep r B w gb r1 w1 g1) (q : Q w1 w2) : GwStep r B w gb r1 w2 g1 := h.trans (GwStep.here h.rep q)

set_option maxRecDepth 100000 in
set_option maxHeartbeats 1600000 in
theorem abandon_any {r : Rl} {B : Nat} {w : World} {gb : Nat} {g : GateS} {i cb : Nat} {c : ConnS} (h : AtConn r B w gb g i cb c) :
    Calls Tryz.prog 98 #[ptr gb, ptr cb] w fun e w' => GwPost r B gb (g.drop c.num) (overEvs c) w e w' ∧ ∃ cbs, PtrsAt B w gb cbs ∧ PtrsAt B w' gb (cbs.filter fun b => b != cb) := by
  have HD := show Hid _ from drop_any h
  have hcn := h.conn
  have hc0 := hcn.c0
  have HC : Hid (ConnRep r B w cb c) := hcn
  clear h hcn
  go_enter Tryz.func98, Tryz.ntmps98
  go_wp2_with fail
  refine Calls.mono (Hid.out HD) ?_
  rintro e w1 ⟨rfl, hst, hsame, hpt⟩
  have HST := show Hid _ from hst
  have HPT := show Hid _ from hpt
  have hc1 : w1.cell? ⟨cb, 0, none⟩ = some (.int .i64 (c.num : Int)) := by rw [hsame.cell]; exact hc0
  have HU : ∀ x, Q w1 x → Hid _ := fun x q => show Hid _ from unshut_any cb c x (q.cell (by rw [hsame.cell]; exact HC.out.c2)) (q.cell (by rw [hsame.cell]; exact HC.out.c4)) (q.cell (by rw [hsame.cell]; exact HC.out.c5))
  have HS := fun x kv hx hk => show Hid _ from shut_any (c.num : Int) (unshutS c) kv cb x hx hk (unshutS_len c)
  have HP : Hid (∀ w2 w3 v3, Q w1 w2 → Q w2 w3 → w3.ownsRow w2.heap.size 48 4 v3 (shutS (c.num : Int) (unshutS c)).length (evVals (shutS (c.num : Int) (unshutS c))) → GwPost r B gb (g.drop c.num) (overEvs c) w (.returned v3) w3 ∧ ∃ cbs, PtrsAt B w gb cbs ∧ PtrsAt B w3 gb (cbs.filter fun b => b != cb)) := by
    intro w2 w3 v3 hq2 hq3 hown
    rw [← overEvs_shut] at hown
    obtain ⟨cbs, p1, p2⟩ := HPT.out
    exact ⟨⟨r, v3, rfl, HST.out.more (hq2.trans hq3), evs_out (HST.out.more hq2) hown⟩, cbs, p1, p2.stays (hq2.trans hq3)⟩
  clear HD hst hsame hpt hc0
  go_wp2_with fail
  go_region_law (first | (go_simp; refine Calls.mono (Hid.out (HU w1.drew ((Q.refl w1).drew))) ?_; rintro e w2 ⟨hq2, v2, rfl, hk2⟩; have HQ2 : Hid (Q w1 w2) := ((Q.refl w1).drew).trans hq2; have HK2 := show Hid _ from hk2; have hc2 := HQ2.out.cell hc1; obtain ⟨va, vc, rfl, _⟩ := hk2; clear hq2; dsimp only) | (go_simp; refine Calls.mono (Hid.out (HS _ _ hc2 HK2.out)) ?_; rintro e w3 ⟨hq3, v3, rfl, hown3⟩; have HPost := show Hid _ from HP.out w2 w3 v3 HQ2.out hq3 hown3; obtain ⟨vo, vk, rfl⟩ := slice_form hown3; clear hown3; dsimp only))
  all_goals
    go_wp2_with fail
    go_ret
    exact HPost.out

set_option maxRecDepth 100000 in
set_option maxHeartbeats 800000 in
theorem dropIfBothEnded_any {r : Rl} {B : Nat} {w : World} {gb : Nat} {g : GateS} {i cb : Nat} {c : ConnS} (h : AtConn r B w gb g i cb c) :
    Calls Tryz.prog 61 #[ptr gb, ptr cb] w fun e w' => e = .returned (.tuple #[]) ∧ GwStep r B w gb r w' (if c.noMore = true ∧ c.hostEnd = true then g.drop c.num else g) ∧ SameAt w w' cb := by
  have HD := show Hid _ from drop_any h
  have HR : Hid (GwRep r B w gb g) := h.rep
  have h4 := h.conn.c4
  have h5 := h.conn.c5
  clear h
  cases h1 : c.noMore <;> cases h2 : c.hostEnd <;> rw [h1] at h4 <;> rw [h2] at h5 <;> clear h1 h2
  case true.true =>
    go_enter Tryz.func61, Tryz.ntmps61
    go_wp2_with fail
    refine Calls.mono (Hid.out HD) ?_
    rintro e w1 ⟨rfl, hst, hsame, _⟩
    have HST := show Hid _ from hst
    have HS := show Hid _ from hsame
    clear HD hst hsame
    go_wp2_with fail
    go_end0
    exact ⟨rfl, by simpa using HST.out, HS.out⟩
  all_goals
    go_enter Tryz.func61, Tryz.ntmps61
    go_wp2_with fail
    go_end0
    exact ⟨rfl, by simpa using GwStep.here HR.out (Q.refl _), rfl⟩

set_option maxRecDepth 100000 in
set_option maxHeartbeats 400000 in
theorem mayHearHost_any (cb st : Nat) (b : Bool) (w : World) (h2 : w.cell? ⟨cb, 2, none⟩ = some (.int .i64 (st : Int))) (hc : w.cell? ⟨cb, 5, none⟩ = some (.bool b)) :
    Calls Tryz.prog 59 #[ptr cb] w fun e w' => e = .returned (.bool (decide (st = 2) && !b)) ∧ w' = w := by
  by_cases h : st = 2
  · subst h
    cases b
    · go_enter Tryz.func59, Tryz.ntmps59
      go_wp2_with fail
      go_ret
      exact ⟨rfl, rfl⟩
    · go_enter Tryz.func59, Tryz.ntmps59
      go_wp2_with fail
      go_ret
      exact ⟨rfl, rfl⟩
  · have d2 : ((st : Int) == 2) = false := by rw [beq_eq_false_iff_ne]; omega
    rw [decide_eq_false h]
    clear h
    go_enter Tryz.func59, Tryz.ntmps59
    go_wp2_with fail
    go_ret
    exact ⟨rfl, rfl⟩

set_option maxRecDepth 100000 in
set_option maxHeartbeats 1600000 in
theorem leave_any {r : Rl} {B : Nat} {w : World} {gb : Nat} {g : GateS} {i cb : Nat} {c : ConnS} (h : AtConn r B w gb g i cb c) (hin : CIn c) (hnm : c.noMore = false) :
    Calls Tryz.prog 60 #[ptr gb, ptr cb] w fun e w' => GwPost r B gb (endClientAt g i c).1 (endClientAt g i c).2 w e w' := by
  have h2 := h.conn.c2
  by_cases hs : c.stage = 2
  case neg =>
    have d2 : ((c.stage : Int) != 2) = true := by rw [bne_iff_ne]; omega
    have HA := show Hid _ from abandon_any h
    have HE : Hid (endClientAt g i c = (g.drop c.num, overEvs c)) := by
      show _ = _
      obtain ⟨_, e2⟩ := hin.ends hs
      have h3 := hin.st
      unfold endClientAt overEvs
      by_cases h0 : c.stage = 0
      · simp [h0, e2]
      · have h1 : c.stage = 1 := by omega
        simp [h1, e2, hnm]
    clear h hs hin hnm
    go_enter Tryz.func60, Tryz.ntmps60
    go_wp2_with fail
    refine Calls.mono (Hid.out HA) ?_
    rintro e w1 ⟨⟨r', v, rfl, hst, hout⟩, _⟩
    have HP : Hid (GwPost r B gb (endClientAt g i c).1 (endClientAt g i c).2 w (.returned v) w1) := by
      rw [HE.out]
      exact ⟨r', v, rfl, hst, hout⟩
    obtain ⟨vo, vc, rfl⟩ := slice_form hout.1
    generalize (overEvs c).length = ol at *
    clear hst hout HA
    go_wp2_with fail
    go_ret
    exact HP.out
  have h2' : w.cell? ⟨cb, 2, none⟩ = some (.int .i64 2) := by rw [h2, hs]; rfl
  have h4 := h.conn.c4
  have f4 := h.conn.fz 4
  have HA1 := show Hid _ from h.endsC true
  have HFr : Hid (Fr r w (w.setCell ⟨cb, 4, none⟩ (.bool true))) := Fr.set r w cb 4 _ (by rw [h.conn.role]; simp)
  have HD := show Hid _ from dropIfBothEnded_any HA1.out
  have HE : Hid (endClientAt g i c = (if c.hostEnd = true then g.drop c.num else g.upd i { c with noMore := true }, [⟨5, c.num, [], 0⟩])) := by
    show _ = _
    unfold endClientAt
    rw [if_neg (by omega), if_neg (by omega)]
  have HDu : Hid ((g.upd i { c with noMore := true }).drop c.num = g.drop c.num) := drop_upd g i c { c with noMore := true } h.hi rfl
  have hcl : cb < w.heap.size := Q.lt h2
  clear h h2 hs hin hnm
  go_enter Tryz.func60, Tryz.ntmps60
  go_wp2_with fail
  refine Calls.mono (Hid.out HD) ?_
  rintro e w1 ⟨rfl, hst, hsame⟩
  have HST : Hid (GwStep r B w gb r w1 (endClientAt g i c).1) := by
    rw [HE.out]
    have hw : GwStep r B w gb r (w.setCell ⟨cb, 4, none⟩ (.bool true)) (g.upd i { c with noMore := true }) := ⟨HA1.out.rep, HFr.out, Grows.refl _ _⟩
    have := hw.trans hst
    simp only [true_and, HDu.out] at this
    exact this
  have hc1 : w1.cell? ⟨cb, 0, none⟩ = some (.int .i64 (c.num : Int)) := by rw [hsame.cell]; exact HA1.out.conn.c0
  have HS := show Hid _ from shut_any (c.num : Int) [5] (.slice (some ⟨w1.heap.size, 0, none⟩) 1 1) cb (w1.alloc (.cells #[.int .i64 5] 3)) (((Q.refl w1).alloc _).cell hc1) (kinds_one w1 5) (by decide)
  clear HD hst hsame h2' h4 f4
  go_wp2_with fail
  refine Calls.mono (Hid.out HS) ?_
  rintro e w3 ⟨hq3, v3, rfl, hown⟩
  have HP : Hid (GwPost r B gb (endClientAt g i c).1 (endClientAt g i c).2 w (.returned v3) w3) := by
    have q3 : Q w1 w3 := ((Q.refl w1).alloc _).trans hq3
    refine ⟨r, v3, rfl, HST.out.more q3, ?_⟩
    rw [HE.out]
    exact evs_out (HST.out.more ((Q.refl w1).alloc _)) hown
  obtain ⟨vo, vc, rfl⟩ := slice_form hown
  clear hown HS
  go_wp2_with fail
  go_ret
  exact HP.out
end Go.Proofs.YtdmaffciijmdcaaGreatDoor
/-
  Package turnpike: Host, EndClient, EndHost.
-/
namespace Go.Proofs.YtdmaffciijmdcaaGreatDoor
open Go.RowKit Plain

theorem GwRep.inB {r : Rl} {B : Nat} {w : World} {gb : Nat} {g : GateS} (h : GwRep r B w gb g) : B ≤ w.heap.size ∧ gb < w.heap.size := by
  have h1 := h.low gb (by rw [h.role]; simp)
  have h2 := h.lt gb (by rw [h.role]; simp)
  exact ⟨by omega, h2⟩
/-- find, and where the connection lies. -/
theorem find_at {r : Rl} {B : Nat} {w : World} {gb : Nat} {g : GateS} (h : GwRep r B w gb g) (ok : GOk g) (n : Int) :
    Calls Tryz.prog 50 #[ptr gb, .int .i64 n] w fun e w' => w' = w ∧ ((∃ (i : Nat) (c : ConnS) (cb : Nat), g.conns[i]? = some c ∧ (c.num : Int) = n ∧ AtConn r B w gb g i cb c ∧ e = .returned (ptr cb)) ∨ ((∀ c ∈ g.conns, (c.num : Int) ≠ n) ∧ e = .returned (.pointer none))) := by
  obtain ⟨cv, cbs, x1, x2, x3, x4⟩ := h.con
  refine (find_any r B gb n cv cbs g.conns w x1 x2 x4 (by have := ok.few; omega)).mono ?_
  rintro e w' ⟨hw, ⟨i, c, cb, hi, hb, hn, he⟩ | hno⟩
  · exact ⟨hw, .inl ⟨i, c, cb, hi, hn, ⟨h, ok, hi, cv, cbs, x1, x2, x3, x4, hb⟩, he⟩⟩
  · exact ⟨hw, .inr hno⟩

set_option maxRecDepth 100000 in
set_option maxHeartbeats 1600000 in
theorem host2_any {r : Rl} {B : Nat} {w : World} {gb : Nat} {g : GateS} (h : GwRep r B w gb g) (ok : GOk g) (n : Int) (s : ByteArray) (hs : s.size ≤ 4398046511104) :
    Calls Tryz.prog 26 #[ptr gb, .int .i64 n, .string s] w fun e w' => CallPost r B gb g n (fun c => c.stage = 2 ∧ c.hostEnd = false) (fun i c => hostAt g i c s.data.toList) w e w' := by
  have HF := show Hid _ from find_at h ok n
  clear h
  go_enter Tryz.func26, Tryz.ntmps26
  go_wp2_with fail
  refine Calls.mono (Hid.out HF) ?_
  rintro e w' ⟨hw, ⟨i, c, cb, hi, hn, hat, rfl⟩ | ⟨hno, rfl⟩⟩
  case inr =>
    have HN : Hid (∀ c ∈ g.conns, (c.num : Int) = n → ¬ (c.stage = 2 ∧ c.hostEnd = false)) := fun c hc e => absurd e (hno c hc)
    rw [hw]
    clear hno HF hw ok
    go_wp2_with fail
    go_ret2
    exact .inr ⟨HN.out, rfl, rfl⟩
  rw [hw]
  clear hw w' HF
  have HA := show Hid _ from hat
  have HI : Hid (g.conns[i]? = some c ∧ (c.num : Int) = n) := ⟨hi, hn⟩
  have HMay := show Hid _ from mayHearHost_any cb c.stage c.hostEnd w hat.conn.c2 hat.conn.c5
  by_cases hp : c.stage = 2 ∧ c.hostEnd = false
  case neg =>
    have hb : (decide (c.stage = 2) && !c.hostEnd) = false := by
      cases hx : c.hostEnd with
      | true => simp
      | false => simp [show ¬ c.stage = 2 from fun e => hp ⟨e, hx⟩]
    rw [hb] at HMay
    have HN : Hid (∀ c ∈ g.conns, (c.num : Int) = n → ¬ (c.stage = 2 ∧ c.hostEnd = false)) := only_conn ok hi hn hp
    clear hp hb hat hi hn ok
    go_wp2_with fail
    refine Calls.mono (Hid.out HMay) ?_
    rintro e w1 ⟨rfl, hw1⟩
    rw [hw1]
    clear hw1 HMay
    go_wp2_with fail
    go_ret2
    exact .inr ⟨HN.out, rfl, rfl⟩
  have HP := show Hid _ from hp
  rw [show (decide (c.stage = 2) && !c.hostEnd) = true by rw [hp.1, hp.2]; rfl] at HMay
  have HHd := show Hid _ from heard_any cb (.int .i64 c.silent) w hat.conn.c1 (hat.conn.fz 1)
  have HA1 := show Hid _ from hat.heard
  have HFr := show Hid _ from hat.fr 1 (.int .i64 0)
  have HS := show Hid _ from send_any 2 c.num s cb (w.setCell ⟨cb, 1, none⟩ (.int .i64 0)) HA1.out.conn.c0 hs
  clear hp hat hi hn ok
  go_wp2_with fail
  refine Calls.mono (Hid.out HMay) ?_
  rintro e w1 ⟨rfl, hw1⟩
  rw [hw1]
  clear hw1 HMay w1
  go_wp2_with fail
  refine Calls.mono (Hid.out HHd) ?_
  rintro e w1 ⟨rfl, hw1⟩
  rw [← hw1] at HA1 HFr HS
  have HZ : Hid (w1.heap.size = w.heap.size) := by show _ = _; rw [hw1]; simp
  clear hw1 HHd
  go_wp2_with fail
  refine Calls.mono (Hid.out HS) ?_
  rintro e w2 ⟨hq2, v, rfl, hown⟩
  have HQ : Hid (CallPost r B gb g n (fun c => c.stage = 2 ∧ c.hostEnd = false) (fun i c => hostAt g i c s.data.toList) w (.returned (.tuple #[v, .int .i64 0])) w2) := by
    have hst : GwStep r B w gb r w1 (g.upd i { c with silent := 0 }) := ⟨HA1.out.rep, HFr.out, Grows.refl _ _⟩
    exact CallPost.yes (g' := g.upd i { c with silent := 0 }) (l := sendS 2 c.num s.data.toList) HI.out.1 HI.out.2 HP.out rfl (hst.more hq2) (evs_out hst hown)
  obtain ⟨vo, vc, rfl⟩ := slice_form hown
  generalize (sendS 2 (c.num : Int) s.data.toList).length = m at *
  clear hown HS
  go_wp2_with fail
  go_ret2
  exact HQ.out

set_option maxRecDepth 100000 in
set_option maxHeartbeats 1600000 in
theorem endClient_any {r : Rl} {B : Nat} {w : World} {gb : Nat} {g : GateS} (h : GwRep r B w gb g) (ok : GOk g) (hin : GIn g) (n : Int) :
    Calls Tryz.prog 28 #[ptr gb, .int .i64 n] w fun e w' => CallPost r B gb g n (fun c => c.noMore = false) (fun i c => endClientAt g i c) w e w' := by
  have HF := show Hid _ from find_at h ok n
  clear h
  go_enter Tryz.func28, Tryz.ntmps28
  go_wp2_with fail
  refine Calls.mono (Hid.out HF) ?_
  rintro e w' ⟨hw, ⟨i, c, cb, hi, hn, hat, rfl⟩ | ⟨hno, rfl⟩⟩
  case inr =>
    have HN : Hid (∀ c ∈ g.conns, (c.num : Int) = n → ¬ (c.noMore = false)) := fun c hc e => absurd e (hno c hc)
    rw [hw]
    clear hno HF hw ok hin
    go_wp2_with fail
    go_ret2
    exact .inr ⟨HN.out, rfl, rfl⟩
  rw [hw]
  clear hw w' HF
  have HI : Hid (g.conns[i]? = some c ∧ (c.num : Int) = n) := ⟨hi, hn⟩
  have HMay := show Hid _ from mayHearClient_any cb c.noMore w hat.conn.c4
  by_cases hp : c.noMore = false
  case neg =>
    have hb : c.noMore = true := by simpa using hp
    rw [hb] at HMay
    have HN : Hid (∀ c ∈ g.conns, (c.num : Int) = n → ¬ (c.noMore = false)) := only_conn ok hi hn hp
    clear hp hb hat hi hn ok hin
    go_wp2_with fail
    refine Calls.mono (Hid.out HMay) ?_
    rintro e w1 ⟨rfl, hw1⟩
    rw [hw1]
    clear hw1 HMay
    go_wp2_with fail
    go_ret2
    exact .inr ⟨HN.out, rfl, rfl⟩
  have HP := show Hid _ from hp
  have HL := show Hid _ from leave_any hat (hin c (List.mem_of_getElem? hi)) hp
  rw [hp] at HMay
  clear hp hat hi hn ok hin
  go_wp2_with fail
  refine Calls.mono (Hid.out HMay) ?_
  rintro e w1 ⟨rfl, hw1⟩
  rw [hw1]
  clear hw1 HMay w1
  go_wp2_with fail
  refine Calls.mono (Hid.out HL) ?_
  rintro e w1 ⟨r', v, rfl, hst, hout⟩
  have HQ : Hid (CallPost r B gb g n (fun c => c.noMore = false) (fun i c => endClientAt g i c) w (.returned (.tuple #[v, .int .i64 0])) w1) :=
    CallPost.yes (g' := (endClientAt g i c).1) (l := (endClientAt g i c).2) HI.out.1 HI.out.2 HP.out rfl hst hout
  obtain ⟨vo, vc, rfl⟩ := slice_form hout.1
  generalize (endClientAt g i c).2.length = m at *
  clear hst hout HL
  go_wp2_with fail
  go_ret2
  exact HQ.out

set_option maxRecDepth 100000 in
set_option maxHeartbeats 1600000 in
theorem endHost_any {r : Rl} {B : Nat} {w : World} {gb : Nat} {g : GateS} (h : GwRep r B w gb g) (ok : GOk g) (n : Int) :
    Calls Tryz.prog 29 #[ptr gb, .int .i64 n] w fun e w' => CallPost r B gb g n (fun c => c.stage = 2 ∧ c.hostEnd = false) (fun i c => endHostAt g i c) w e w' := by
  have HF := show Hid _ from find_at h ok n
  clear h
  go_enter Tryz.func29, Tryz.ntmps29
  go_wp2_with fail
  refine Calls.mono (Hid.out HF) ?_
  rintro e w' ⟨hw, ⟨i, c, cb, hi, hn, hat, rfl⟩ | ⟨hno, rfl⟩⟩
  case inr =>
    have HN : Hid (∀ c ∈ g.conns, (c.num : Int) = n → ¬ (c.stage = 2 ∧ c.hostEnd = false)) := fun c hc e => absurd e (hno c hc)
    rw [hw]
    clear hno HF hw ok
    go_wp2_with fail
    go_ret2
    exact .inr ⟨HN.out, rfl, rfl⟩
  rw [hw]
  clear hw w' HF
  have HI : Hid (g.conns[i]? = some c ∧ (c.num : Int) = n) := ⟨hi, hn⟩
  have HMay := show Hid _ from mayHearHost_any cb c.stage c.hostEnd w hat.conn.c2 hat.conn.c5
  by_cases hp : c.stage = 2 ∧ c.hostEnd = false
  case neg =>
    have hb : (decide (c.stage = 2) && !c.hostEnd) = false := by
      cases hx : c.hostEnd with
      | true => simp
      | false => simp [show ¬ c.stage = 2 from fun e => hp ⟨e, hx⟩]
    rw [hb] at HMay
    have HN : Hid (∀ c ∈ g.conns, (c.num : Int) = n → ¬ (c.stage = 2 ∧ c.hostEnd = false)) := only_conn ok hi hn hp
    clear hp hb hat hi hn ok
    go_wp2_with fail
    refine Calls.mono (Hid.out HMay) ?_
    rintro e w1 ⟨rfl, hw1⟩
    rw [hw1]
    clear hw1 HMay
    go_wp2_with fail
    go_ret2
    exact .inr ⟨HN.out, rfl, rfl⟩
  have HP := show Hid _ from hp
  rw [show (decide (c.stage = 2) && !c.hostEnd) = true by rw [hp.1, hp.2]; rfl] at HMay
  have h5 := hat.conn.c5
  have f5 := hat.conn.fz 5
  have HA1 := show Hid _ from hat.endsH true
  have HFr := show Hid _ from hat.fr 5 (.bool true)
  have HD := show Hid _ from dropIfBothEnded_any HA1.out
  have HE : Hid (endHostAt g i c = (if c.noMore = true then g.drop c.num else g.upd i { c with hostEnd := true }, [⟨4, c.num, [], 0⟩])) := rfl
  have HDu : Hid ((g.upd i { c with hostEnd := true }).drop c.num = g.drop c.num) := drop_upd g i c { c with hostEnd := true } hi rfl
  have hcl : cb < w.heap.size := Q.lt h5
  clear hp hat hi hn ok
  go_wp2_with fail
  refine Calls.mono (Hid.out HMay) ?_
  rintro e w1 ⟨rfl, hw1⟩
  rw [hw1]
  clear hw1 HMay w1
  go_wp2_with fail
  refine Calls.mono (Hid.out HD) ?_
  rintro e w1 ⟨rfl, hst, hsame⟩
  have HST : Hid (GwStep r B w gb r w1 (endHostAt g i c).1) := by
    rw [HE.out]
    have hw : GwStep r B w gb r (w.setCell ⟨cb, 5, none⟩ (.bool true)) (g.upd i { c with hostEnd := true }) := ⟨HA1.out.rep, HFr.out, Grows.refl _ _⟩
    have := hw.trans hst
    simp only [and_true, HDu.out] at this
    exact this
  have hc1 : w1.cell? ⟨cb, 0, none⟩ = some (.int .i64 (c.num : Int)) := by rw [hsame.cell]; exact HA1.out.conn.c0
  have HS := show Hid _ from shut_any (c.num : Int) [4] (.slice (some ⟨w1.heap.size, 0, none⟩) 1 1) cb (w1.alloc (.cells #[.int .i64 4] 3)) (((Q.refl w1).alloc _).cell hc1) (kinds_one w1 4) (by decide)
  clear HD hst hsame h5 f5
  go_wp2_with fail
  refine Calls.mono (Hid.out HS) ?_
  rintro e w3 ⟨hq3, v3, rfl, hown⟩
  have HQ : Hid (CallPost r B gb g n (fun c => c.stage = 2 ∧ c.hostEnd = false) (fun i c => endHostAt g i c) w (.returned (.tuple #[v3, .int .i64 0])) w3) := by
    have q3 : Q w1 w3 := ((Q.refl w1).alloc _).trans hq3
    exact CallPost.yes (g' := (endHostAt g i c).1) (l := [⟨4, c.num, [], 0⟩]) HI.out.1 HI.out.2 HP.out HE.out (HST.out.more q3) (evs_out (HST.out.more ((Q.refl w1).alloc _)) hown)
  obtain ⟨vo, vc, rfl⟩ := slice_form hown
  clear hown HS
  go_wp2_with fail
  go_ret2
  exact HQ.out
end Go.Proofs.YtdmaffciijmdcaaGreatDoor
/-
  Package turnpike: Tick.
-/
namespace Go.Proofs.YtdmaffciijmdcaaGreatDoor
open Go.RowKit Plain

set_option maxRecDepth 100000 in
set_option maxHeartbeats 1600000 in
theorem age_any {r : Rl} {B : Nat} {w : World} {gb : Nat} {g : GateS} {i cb : Nat} {c : ConnS} (h : AtConn r B w gb g i cb c) (hin : CIn c) (m : Int) (hm : 1 ≤ m ∧ m < 10080) :
    Calls Tryz.prog 64 #[ptr gb, ptr cb, .int .i64 m] w fun e w' =>
      (c.silent + m < 10 ∧ e = .returned (.slice none 0 0) ∧ w' = w.setCell ⟨cb, 1, none⟩ (.int .i64 (c.silent + m))) ∨
      (¬ c.silent + m < 10 ∧ GwPost r B gb (g.drop c.num) (overEvs c) w e w' ∧ ∃ cbs, PtrsAt B w gb cbs ∧ PtrsAt B w' gb (cbs.filter fun b => b != cb)) := by
  have h1 := h.conn.c1
  have f1 := h.conn.fz 1
  have hcl : cb < w.heap.size := Q.lt h1
  have s0 := hin.s0
  have s1 := hin.s1
  have HA1 := show Hid _ from h.silentTo (c.silent + m)
  have HFr : Hid (Fr r w (w.setCell ⟨cb, 1, none⟩ (.int .i64 (c.silent + m)))) := Fr.set r w cb 1 _ (by rw [h.conn.role]; simp)
  have HI : Hid (g.conns[i]? = some c) := h.hi
  have HPt : Hid (∀ cbs, PtrsAt B (w.setCell ⟨cb, 1, none⟩ (.int .i64 (c.silent + m))) gb cbs → PtrsAt B w gb cbs) := by
    intro cbs hp
    obtain ⟨cv, x1, x2⟩ := hp
    have hgc : gb ≠ cb := fun e => by have := h.rep.role; rw [e, h.conn.role] at this; cases this
    obtain ⟨cv', cbs', y1, y2, y3, _, _⟩ := h.con
    have hc4 : (w.setCell ⟨cb, 1, none⟩ (.int .i64 (c.silent + m))).cell? ⟨gb, 4, none⟩ = w.cell? ⟨gb, 4, none⟩ := (set_same_at hgc).cell 4
    rw [hc4, y1] at x1
    cases x1
    refine ⟨_, y1, owns_same x2 fun k hk => ?_⟩
    have hk2 : k ≠ cb := fun e => by have := y3 k hk; rw [e, h.conn.role] at this; cases this
    exact (set_same_at hk2).symm
  have HAb := show Hid _ from abandon_any HA1.out
  have ew : IntKind.i64.wrap (c.silent + m) = c.silent + m := IntWalk.i64_in _ (by omega)
  obtain ⟨si, hsi⟩ : ∃ z : Int, z = c.silent := ⟨_, rfl⟩
  have HSi := show Hid _ from hsi
  rw [← hsi] at h1 s0 s1 ew
  clear h hin hsi
  by_cases h10 : si + m < 10
  · have d10 : decide (si + m < 10) = true := decide_eq_true h10
    have H10 := show Hid _ from h10
    clear h10
    go_enter Tryz.func64, Tryz.ntmps64
    go_wp2_with fail
    go_ret
    exact .inl ⟨by rw [← HSi.out]; exact H10.out, rfl, by rw [← HSi.out]⟩
  · have d10 : decide (si + m < 10) = false := decide_eq_false h10
    have H10 := show Hid _ from h10
    clear h10
    rw [← HSi.out] at HAb
    go_enter Tryz.func64, Tryz.ntmps64
    go_wp2_with fail
    refine Calls.mono (Hid.out HAb) ?_
    rintro e w1 ⟨⟨r', v, rfl, hst, hout⟩, cbs, p1, p2⟩
    have HPost : Hid (GwPost r B gb (g.drop c.num) (overEvs c) w (.returned v) w1 ∧ ∃ cbs, PtrsAt B w gb cbs ∧ PtrsAt B w1 gb (cbs.filter fun b => b != cb)) := by
      have hst0 : GwStep r B w gb r (w.setCell ⟨cb, 1, none⟩ (.int .i64 (c.silent + m))) (g.upd i { c with silent := c.silent + m }) := ⟨HA1.out.rep, HFr.out, Grows.refl _ _⟩
      rw [← HSi.out] at hst0
      have hst1 := hst0.trans hst
      have hdu := drop_upd g i c { c with silent := si + m } HI.out rfl
      refine ⟨⟨r', v, rfl, ?_, owns_base hout.1 hst0.fr.size, hout.2⟩, cbs, HPt.out cbs (by rw [← HSi.out]; exact p1), p2⟩
      rw [← hdu]
      exact hst1
    obtain ⟨vo, vc, rfl⟩ := slice_form hout.1
    clear hst hout p1 p2 HAb
    generalize (overEvs { c with silent := si + m }).length = ol at *
    go_wp2_with fail
    go_ret
    exact .inr ⟨by have h1 : ¬ si + m < 10 := H10.out; have h2 := HSi.out; omega, HPost.out⟩
end Go.Proofs.YtdmaffciijmdcaaGreatDoor
/-
  Package slices: Clone of a row of connections.
-/
namespace Go.Proofs.YtdmaffciijmdcaaGreatDoor
open Go.RowKit Plain

set_option maxRecDepth 100000 in
theorem nilC (w : World) (a : Option Addr) (n c : Nat) : (binOp .eql 90 (.slice a n c) (.slice none 0 0)).run Tryz.prog w = .ok (.bool a.isNone) w := by
  have hn : ∀ d : Nat, (Op.equalIn (d + 1) 90 (.slice a n c) (.slice none 0 0)).run Tryz.prog w = .ok a.isNone w := fun d => by
    cases a <;> simp [Op.equalIn, run_underlying Tryz.underlying90]
  simp only [binOp]
  simp [Op.equal, Op.maxDepth, hn 9999]

set_option maxRecDepth 100000 in
set_option maxHeartbeats 800000 in
theorem cloneC_any (B : Nat) (v : Value) (cbs : List Nat) (w : World) (hown : w.ownsRow B 95 1 v cbs.length (cbs.map ptr)) (hl : cbs.length ≤ 8) :
    Calls Tryz.prog 63 #[v] w fun e w' => Q w w' ∧ ∃ v', e = .returned v' ∧ w'.ownsRow w.heap.size 95 1 v' cbs.length (cbs.map ptr) := by
  rcases hown.2 with ⟨rfl, hn⟩ | ⟨g, cap, cur, rfl, hb, hg, h4, h5, h6, h7⟩
  · have := List.eq_nil_of_length_eq_zero hn
    subst this
    have hq := nilC w none 0 0
    simp only [Option.isNone_none] at hq
    clear hown
    go_enter Tryz.func63, Tryz.ntmps63
    go_wp2_with fail
    go_ret
    exact ⟨Q.refl _, _, rfl, rfl, .inl ⟨rfl, rfl⟩⟩
  · have hq := nilC w (some ⟨g, 0, none⟩) cbs.length cap
    simp only [Option.isNone_some] at hq
    go_enter Tryz.func63, Tryz.ntmps63
    have hq0 : Q w (w.alloc (.cells #[] 95)) := (Q.refl _).alloc _
    have hown0 : (w.alloc (.cells #[] 95)).ownsRow w.heap.size 95 1 (.slice (some ⟨w.heap.size, 0, none⟩) 0 0) 0 [] := ⟨rfl, .inr ⟨w.heap.size, 0, #[], rfl, Nat.le_refl _, heap_alloc_new w _, Nat.le_refl _, by decide, rfl, rfl⟩⟩
    have hcells := (owns_Q hown hq0).cells (g := g) rfl
    obtain ⟨v', w', hrun, hown', hgr, _, _⟩ := run_append_own_at (P := Tryz.prog) (w.alloc (.cells #[] 95)) w.heap.size 90 90 95 Tryz.t95 (.pointer none) 1 8 Tryz.underlying90 (by kernel_rfl) (by kernel_rfl) (by kernel_rfl) (by kernel_rfl) rfl (by decide) (.slice (some ⟨w.heap.size, 0, none⟩) 0 0) 0 [] hown0 ⟨g, 0, none⟩ cbs.length cap (cbs.map ptr) (by simp) hcells (fun u hu => by
      obtain ⟨b, _, rfl⟩ := List.mem_map.1 hu
      rfl) (by unfold maxLen; omega) (by omega) hq0.size
    have HO : Hid (w'.ownsRow w.heap.size 95 1 v' cbs.length (cbs.map ptr)) := by
      show World.ownsRow _ _ _ _ _ _ _
      simpa using hown'
    have HQ : Hid (Q w w') := Below.grown hq0 hgr hq0.size (fun k hk => by
      have : w.heap.size = k := by simpa [Value.ownBlock] using hk
      omega)
    obtain ⟨vo, vc, rfl⟩ := slice_form HO.out
    have HRun := show Hid _ from hrun
    clear hown hown0 hcells hrun hown' hgr h7 hg
    generalize cbs.length = n at *
    go_wp2_with (first | (at_builtin; refine wpList_append_run rfl (.tmp 5) (.tmp 6) 90 90 rfl _ _ _ w' rfl rfl HRun.out ?_))
    go_ret
    exact ⟨HQ.out, _, rfl, HO.out⟩
end Go.Proofs.YtdmaffciijmdcaaGreatDoor
/-
  Package turnpike: takeWaiting.
-/
namespace Go.Proofs.YtdmaffciijmdcaaGreatDoor
open Go.RowKit Plain

theorem bytes_to_str {w : World} {B g cap : Nat} {l : List UInt8} (h : w.ownsRow B 5 1 (.slice (some ⟨g, 0, none⟩) l.length cap) l.length (bvals l)) : (convert 99 9 (.slice (some ⟨g, 0, none⟩) l.length cap)).run Tryz.prog w = .ok (.string ⟨l.toArray⟩) w := by
  refine cells_to_str fun i hi => ?_
  have hb : (bvals l)[i]? = some (.int .u8 ((l.getD i 0).toNat : Int)) := by
    unfold bvals
    rw [List.getElem?_map, List.getD_eq_getElem?_getD, List.getElem?_eq_getElem hi]
    rfl
  have := h.cells (g := g) rfl i _ hb
  rw [Nat.zero_add]
  have e : (⟨g, 0, none⟩ : Addr).add i = ⟨g, i, none⟩ := by unfold Addr.add; split <;> simp_all
  rw [e] at this
  exact this

set_option maxRecDepth 100000 in
set_option maxHeartbeats 800000 in
theorem takeWaiting_any {r : Rl} {B : Nat} {w : World} {gb : Nat} {g : GateS} {i cb : Nat} {c : ConnS} (h : AtConn r B w gb g i cb c) :
    Calls Tryz.prog 58 #[ptr cb] w fun e w' => e = .returned (.string ⟨c.wait.toArray⟩) ∧ AtConn r B w' gb (g.upd i { c with wait := [] }) i cb { c with wait := [] } ∧ w' = w.setCell ⟨cb, 3, none⟩ (.slice none 0 0) := by
  have hc := h.conn
  obtain ⟨wv, x1, x2, x3⟩ := hc.wt
  have f3 := hc.fz 3
  have HA : Hid (AtConn r B (w.setCell ⟨cb, 3, none⟩ (.slice none 0 0)) gb (g.upd i { c with wait := [] }) i cb { c with wait := [] }) := by
    obtain ⟨s1, s2⟩ := hc.setCell 3 (.slice none 0 0)
    exact h.set (c' := { c with wait := [] }) rfl 3 _ ⟨hc.role, by rw [s1 0 (by decide)]; exact hc.c0, by rw [s1 1 (by decide)]; exact hc.c1, by rw [s1 2 (by decide)]; exact hc.c2, by rw [s1 4 (by decide)]; exact hc.c4, by rw [s1 5 (by decide)]; exact hc.c5, obj_set hc.obj, .slice none 0 0, s2 _ x1, ⟨rfl, .inl ⟨rfl, rfl⟩⟩, fun k hk => by cases hk⟩
  clear h hc
  rcases x2.2 with ⟨rfl, hn⟩ | ⟨gw, cap, cur, rfl, _⟩
  · have hw : c.wait = [] := List.eq_nil_of_length_eq_zero hn
    have HW : Hid (c.wait = []) := hw
    have hcv : (convert 99 9 (.slice none 0 0)).run Tryz.prog w = .ok (.string ⟨#[]⟩) w := by
      rw [run_convert_bytes_string (P := Tryz.prog) w 99 9 5 none 0 0 Tryz.underlying99 Tryz.underlying5 Tryz.underlying9]
      simp [Conv.bytesToString]
      rfl
    clear x2 x3 hn hw
    go_enter Tryz.func58, Tryz.ntmps58
    go_wp2_with fail
    go_ret
    exact ⟨by rw [HW.out]; rfl, HA.out, rfl⟩
  · have hcv := bytes_to_str x2
    generalize c.wait.length = wl at *
    clear x2 x3
    go_enter Tryz.func58, Tryz.ntmps58
    go_wp2_with fail
    go_ret
    exact ⟨rfl, HA.out, rfl⟩
end Go.Proofs.YtdmaffciijmdcaaGreatDoor

/-
  Package turnpike: Client.
-/
import Derived.Test.YtdmaffciijmdcaaGreatDoorGateS1ToGate8
namespace Go.Proofs.YtdmaffciijmdcaaGreatDoor
namespace Plain
theorem upd_upd (g : GateS) (i : Nat) (c d : ConnS) : (g.upd i c).upd i d = g.upd i d := by simp [GateS.upd, List.set_set]
end Plain
open Go.RowKit Plain

def GwPostE (r : Rl) (B : Nat) (gb : Nat) (g' : GateS) (l : List EvS) (en : Int) (w : World) (e : Ending) (w' : World) : Prop :=
  ∃ r' v, e = .returned (.tuple #[v, .int .i64 en]) ∧ GwStep r B w gb r' w' g' ∧ EvsOut r' l w v w'

theorem ML.fr {r : Rl} {B : Nat} {w w' : World} {gb : Nat} {g : GateS} (h : ML w) (hr : GwRep r B w gb g) (hB : 0 < B) (f : Fr r w w') : ML w' := by
  obtain ⟨m, hm⟩ := h
  refine ⟨m, ?_⟩
  have hn : r 0 = none := by
    cases hx : r 0 with
    | none => rfl
    | some x =>
      have := hr.low 0 (by rw [hx]; simp)
      omega
  have hs := f.block _ (Q.lt hm) hn
  rw [hs.cell]
  exact hm

/-- A call on a connection: what it does where it may be made, else ErrConn. -/
def CallPost (r : Rl) (B : Nat) (gb : Nat) (g : GateS) (n : Int) (P : ConnS → Prop) (f : Nat → ConnS → GateS × List EvS) (w : World) (e : Ending) (w' : World) : Prop :=
  (∃ (i : Nat) (c : ConnS), g.conns[i]? = some c ∧ (c.num : Int) = n ∧ P c ∧ GwPostE r B gb (f i c).1 (f i c).2 0 w e w') ∨
  ((∀ c ∈ g.conns, (c.num : Int) = n → ¬ P c) ∧ w' = w ∧ e = .returned (.tuple #[.slice none 0 0, .int .i64 7]))
theorem CallPost.yes {r r' : Rl} {B : Nat} {gb : Nat} {g g' : GateS} {n : Int} {P : ConnS → Prop} {f : Nat → ConnS → GateS × List EvS} {w w' : World} {i : Nat} {c : ConnS} {l : List EvS} {v : Value} (hi : g.conns[i]? = some c) (hn : (c.num : Int) = n) (hp : P c) (he : f i c = (g', l)) (hs : GwStep r B w gb r' w' g') (ho : EvsOut r' l w v w') :
    CallPost r B gb g n P f w (.returned (.tuple #[v, .int .i64 0])) w' :=
  .inl ⟨i, c, hi, hn, hp, r', v, rfl, by rw [he]; exact hs, by rw [he]; exact ho⟩
theorem only_conn {g : GateS} (ok : GOk g) {i : Nat} {c : ConnS} {n : Int} (hi : g.conns[i]? = some c) (hn : (c.num : Int) = n) {P : ConnS → Prop} (hp : ¬ P c) : ∀ d ∈ g.conns, (d.num : Int) = n → ¬ P d := fun d hd he => by
  obtain ⟨j, hj⟩ := List.getElem?_of_mem hd
  have := ok.nums i j c d hi hj (by omega)
  subst this
  rw [hi] at hj
  cases hj
  exact hp

set_option maxRecDepth 100000 in
set_option maxHeartbeats 400000 in
theorem mayHearClient_any (cb : Nat) (b : Bool) (w : World) (hc : w.cell? ⟨cb, 4, none⟩ = some (.bool b)) :
    Calls Tryz.prog 51 #[ptr cb] w fun e w' => e = .returned (.bool (!b)) ∧ w' = w := by
  cases b
  · go_enter Tryz.func51, Tryz.ntmps51
    go_wp2_with fail
    go_ret
    exact ⟨rfl, rfl⟩
  · go_enter Tryz.func51, Tryz.ntmps51
    go_wp2_with fail
    go_ret
    exact ⟨rfl, rfl⟩

/-- What a client's bytes do where every connection may hear its client. -/
def ClientPost (r : Rl) (B : Nat) (gb : Nat) (g : GateS) (n : Int) (s : List UInt8) (w : World) (e : Ending) (w' : World) : Prop :=
  (∃ (i : Nat) (c : ConnS), g.conns[i]? = some c ∧ (c.num : Int) = n ∧ GwPostE r B gb (clientAt g i c s).1 (clientAt g i c s).2 0 w e w') ∨
  ((∀ c ∈ g.conns, (c.num : Int) ≠ n) ∧ w' = w ∧ e = .returned (.tuple #[.slice none 0 0, .int .i64 7]))

set_option maxRecDepth 100000 in
set_option maxHeartbeats 3200000 in
theorem clientC_any {r : Rl} {B : Nat} {w : World} {gb : Nat} {g : GateS} (h : GwRep r B w gb g) (ok : GOk g) (n : Int) (s : ByteArray) (hl : ∀ c ∈ g.conns, c.wait.length + s.size ≤ 4398046511104) (hm : ML w) (hB : 0 < B) :
    Calls Tryz.prog 22 #[ptr gb, .int .i64 n, .string s] w fun e w' => CallPost r B gb g n (fun c => c.noMore = false) (fun i c => clientAt g i c s.data.toList) w e w' := by
  obtain ⟨cv, cbs, x1, x2, x3, x4⟩ := h.con
  have HF := show Hid _ from find_any r B gb n cv cbs g.conns w x1 x2 x4 (by have := ok.few; omega)
  have hBs : B ≤ w.heap.size := by
    have h1 := h.low gb (by rw [h.role]; simp)
    have h2 := h.lt gb (by rw [h.role]; simp)
    omega
  have HAt : ∀ (i : Nat) (c : ConnS) (cb : Nat), g.conns[i]? = some c → cbs[i]? = some cb → Hid (AtConn r B w gb g i cb c) := fun i c cb hi hb => ⟨h, ok, hi, cv, cbs, x1, x2, x3, x4, hb⟩
  have HL := show Hid _ from hl
  have HM : Hid (ML w) := hm
  clear x1 x2 x3 x4 h hl hm ok
  go_enter Tryz.func22, Tryz.ntmps22
  go_wp2_with fail
  refine Calls.mono (Hid.out HF) ?_
  rintro e w' ⟨hw, ⟨i, c, cb, hi, hb, hn, rfl⟩ | ⟨hno, rfl⟩⟩
  case inr =>
    have HN : Hid (∀ c ∈ g.conns, (c.num : Int) = n → ¬ c.noMore = false) := fun c hc e => absurd e (hno c hc)
    rw [hw]
    clear hno HAt HF HL hw
    go_wp2_with fail
    go_ret2
    exact .inr ⟨HN.out, rfl, rfl⟩
  rw [hw]
  clear hw w'
  have HA := HAt i c cb hi hb
  have hcon := HA.out.conn
  have HMay := show Hid _ from mayHearClient_any cb c.noMore w hcon.c4
  cases hnm : c.noMore with
  | true =>
    rw [hnm] at HMay
    have HN : Hid (∀ c ∈ g.conns, (c.num : Int) = n → ¬ c.noMore = false) := only_conn HA.out.ok hi hn (fun e => by rw [hnm] at e; cases e)
    clear HAt hcon HF HL hi hb hn hnm
    go_wp2_with fail
    refine Calls.mono (Hid.out HMay) ?_
    rintro e w1 ⟨rfl, hw1⟩
    rw [hw1]
    clear hw1 HMay
    go_wp2_with fail
    go_ret2
    exact .inr ⟨HN.out, rfl, rfl⟩
  | false =>
  rw [hnm] at HMay
  have HNM : Hid (c.noMore = false) := hnm
  clear hnm
  have hc1 := hcon.c1
  have hf1 := hcon.fz 1
  have HHd := show Hid _ from heard_any cb (.int .i64 c.silent) w hc1 hf1
  have HI := show Hid _ from hi
  have HN := show Hid _ from hn
  have HA1 := show Hid _ from HA.out.heard
  have hFr1 := HA.out.fr 1 (.int .i64 0)
  have hlw : c.wait.length + s.size ≤ 4398046511104 := HL.out c (List.mem_of_getElem? hi)
  have HM1 : Hid (ML (w.setCell ⟨cb, 1, none⟩ (.int .i64 0))) := HM.out.fr HA.out.rep hB hFr1
  have hst := HA1.out.conn.c2
  have hcl : cb < w.heap.size := Q.lt hc1
  clear HAt hi hb hn hcon hc1 hf1 HF HL
  go_wp2_with fail
  refine Calls.mono (Hid.out HMay) ?_
  rintro e w' ⟨rfl, hw⟩
  rw [hw]
  clear hw w' HMay
  go_wp2_with fail
  refine Calls.mono (Hid.out HHd) ?_
  rintro e w1 ⟨rfl, hw1⟩
  rw [← hw1] at HA1 hFr1 HM1 hst
  have hB1 : B ≤ w1.heap.size := Nat.le_trans hBs hFr1.size
  have hs1 : w1.heap.size = w.heap.size := by rw [hw1]; simp
  clear hw1 HHd
  have hstage : w1.cell? ⟨cb, 2, none⟩ = some (.int .i64 (c.stage : Int)) := hst
  clear hst
  by_cases h2 : c.stage = 2
  · have d2 : ((c.stage : Int) == 2) = true := by rw [beq_iff_eq]; omega
    have HCA : Hid (clientAt g i c s.data.toList = (g.upd i { c with silent := 0 }, sendS 3 c.num s.data.toList)) := by
      show _ = _
      unfold clientAt; rw [if_pos h2]
    have HS := show Hid _ from send_any 3 c.num s cb w1 HA1.out.conn.c0 (by omega)
    clear h2
    go_wp2_with fail
    refine Calls.mono (Hid.out HS) ?_
    rintro e w2 ⟨hq2, v, rfl, hown⟩
    obtain ⟨vo, vc, rfl⟩ := slice_form hown
    have HP : Hid (CallPost r B gb g n (fun c => c.noMore = false) (fun i c => clientAt g i c s.data.toList) w (.returned (.tuple #[.slice vo (sendS 3 c.num s.data.toList).length vc, .int .i64 0])) w2) := by
      refine .inl ⟨i, c, HI.out, HN.out, HNM.out, ?_⟩
      dsimp only
      rw [HCA.out]
      exact ⟨r, _, rfl, ⟨HA1.out.rep.stays hq2, hFr1.trans (Grows.refl _ _) (Fr.ofQ hq2), Grows.refl _ _⟩, owns_base hown (by omega), fun k hk => sized HA1.out.rep (owns_lt hown k hk).1⟩
    clear hown HS
    generalize (sendS 3 c.num s.data.toList).length = m at HP ⊢
    go_wp2_with fail
    go_ret2
    exact HP.out
  have d2 : ((c.stage : Int) == 2) = false := by rw [beq_eq_false_iff_ne]; omega
  have HW := show Hid _ from wait_any HA1.out s (by show c.wait.length + s.size ≤ _; omega) hB1
  go_wp2_with fail
  refine Calls.mono (Hid.out HW) ?_
  rintro e w2 ⟨rfl, r2, hat2, hfr2, hgr2⟩
  rw [upd_upd] at hat2
  have HA2 : Hid (AtConn r2 B w2 gb (g.upd i { c with silent := 0, wait := c.wait ++ s.data.toList }) i cb { c with silent := 0, wait := c.wait ++ s.data.toList }) := hat2
  have hst2 : w2.cell? ⟨cb, 2, none⟩ = some (.int .i64 (c.stage : Int)) := hat2.conn.c2
  have HStep : Hid (GwStep r B w gb r2 w2 (g.upd i { c with silent := 0, wait := c.wait ++ s.data.toList })) := ⟨hat2.rep, hFr1.trans (Grows.refl _ _) hfr2, (Grows.refl r w).trans (Nat.le_of_eq hs1.symm) hgr2⟩
  have HM2 : Hid (ML w2) := HM1.out.fr HA1.out.rep hB hfr2
  clear hat2 hfr2 hgr2 HW hstage HM1
  by_cases h1 : c.stage = 1
  · have d1 : ((c.stage : Int) == 1) = true := by rw [beq_iff_eq]; omega
    have HCA : Hid (clientAt g i c s.data.toList = (g.upd i { c with silent := 0, wait := c.wait ++ s.data.toList }, [])) := by
      show _ = _
      unfold clientAt; rw [if_neg h2, if_pos h1]
    clear h1 h2
    go_wp2_with fail
    go_ret2
    refine .inl ⟨i, c, HI.out, HN.out, HNM.out, ?_⟩
    dsimp only
    rw [HCA.out]
    exact ⟨r2, _, rfl, HStep.out, evs_nil _ _ _⟩
  have d1 : ((c.stage : Int) == 1) = false := by rw [beq_eq_false_iff_ne]; omega
  have HCA : Hid (clientAt g i c s.data.toList = match cutHead (c.wait ++ s.data.toList) with
    | none => (g.upd i { c with silent := 0, wait := c.wait ++ s.data.toList }, [])
    | some (h, rest) => answerS (g.upd i { c with silent := 0, wait := rest }) i { c with silent := 0, wait := rest } h) := by
    show _ = _
    unfold clientAt; rw [if_neg h2, if_neg h1]
    rcases cutHead (c.wait ++ s.data.toList) with _ | ⟨h, r⟩ <;> rfl
  have hB2 : B ≤ w2.heap.size := Nat.le_trans hBs HStep.out.fr.size
  have HT := show Hid _ from takeHead_any HA2.out HM2.out (by show (c.wait ++ s.data.toList).length ≤ _; rw [List.length_append, size_len]; omega) hB2
  clear h1 h2
  go_wp2_with fail
  refine Calls.mono (Hid.out HT) ?_
  rintro e w3 (⟨hcut, rfl, hq3⟩ | ⟨hd, rest, hcut, rfl, r3, hat3, hfr3, hgr3⟩)
  · have HCut : Hid (cutHead (c.wait ++ s.data.toList) = none) := hcut
    clear hcut HT
    unfold str
    go_wp2_with fail
    go_ret2
    refine .inl ⟨i, c, HI.out, HN.out, HNM.out, ?_⟩
    dsimp only
    rw [HCA.out, HCut.out]
    exact ⟨r2, _, rfl, HStep.out.trans (GwStep.here HStep.out.rep hq3), evs_nil _ _ _⟩
  · have HCut : Hid (cutHead (c.wait ++ s.data.toList) = some (hd, rest)) := hcut
    have hdl := (cut_lens hcut).1
    rw [upd_upd] at hat3
    have HA3 : Hid (AtConn r3 B w3 gb (g.upd i { c with silent := 0, wait := rest }) i cb { c with silent := 0, wait := rest }) := hat3
    obtain ⟨D, rfl⟩ : ∃ M : ByteArray, M.data.toList = hd := ⟨⟨hd.toArray⟩, rfl⟩
    rw [size_len] at hdl
    rw [str_data]
    have HStep3 : Hid (GwStep r B w gb r3 w3 (g.upd i { c with silent := 0, wait := rest })) := HStep.out.trans ⟨hat3.rep, hfr3, hgr3⟩
    have HM3 : Hid (ML w3) := HM2.out.fr HA2.out.rep hB hfr3
    have HAn := show Hid _ from answer_any HA3.out D hdl HM3.out
    clear hcut HT hat3 hfr3 hgr3
    go_wp2_with fail
    refine Calls.mono (Hid.out HAn) ?_
    rintro e w4 ⟨r4, v, rfl, hst4, hout4⟩
    have HP : Hid (CallPost r B gb g n (fun c => c.noMore = false) (fun i c => clientAt g i c s.data.toList) w (.returned (.tuple #[v, .int .i64 0])) w4) := by
      refine .inl ⟨i, c, HI.out, HN.out, HNM.out, ?_⟩
      dsimp only
      rw [HCA.out, HCut.out]
      exact ⟨r4, _, rfl, HStep3.out.trans hst4, owns_base hout4.1 HStep3.out.fr.size, hout4.2⟩
    obtain ⟨vo, vc, rfl⟩ := slice_form hout4.1
    clear hst4 hout4 HAn
    generalize (answerS (g.upd i { c with silent := 0, wait := rest }) i { c with silent := 0, wait := rest } D.data.toList).2.length = m at HP ⊢
    go_wp2_with fail
    go_ret2
    exact HP.out
theorem client_any {r : Rl} {B : Nat} {w : World} {gb : Nat} {g : GateS} (h : GwRep r B w gb g) (ok : GOk g) (hop : ∀ c ∈ g.conns, c.noMore = false) (n : Int) (s : ByteArray) (hl : ∀ c ∈ g.conns, c.wait.length + s.size ≤ 4398046511104) (hm : ML w) (hB : 0 < B) :
    Calls Tryz.prog 22 #[ptr gb, .int .i64 n, .string s] w fun e w' => ClientPost r B gb g n s.data.toList w e w' := by
  refine (clientC_any h ok n s hl hm hB).mono ?_
  rintro e w' (⟨i, c, h1, h2, _, h3⟩ | ⟨h1, h2⟩)
  · exact .inl ⟨i, c, h1, h2, h3⟩
  · exact .inr ⟨fun c hc e => h1 c hc e (hop c hc), h2⟩
end Go.Proofs.YtdmaffciijmdcaaGreatDoor
/-
  Package turnpike: Accept.
-/
namespace Go.Proofs.YtdmaffciijmdcaaGreatDoor
namespace Plain
theorem accept_ok {g : GateS} (ok : GOk g) (h8 : g.conns.length ≠ 8) (ht : g.last + 1 ≤ 1000000000000) : GOk g.accept := by
  refine ⟨by simp [GateS.accept]; have := ok.few; omega, ok.tens, fun i j c d hi hj hcd => ?_, fun c hc => ?_, ht⟩
  · simp only [GateS.accept] at hi hj
    have key : ∀ (k : Nat) (x : ConnS), (g.conns ++ [(⟨g.last + 1, 0, 0, [], false, false⟩ : ConnS)])[k]? = some x → (k < g.conns.length ∧ g.conns[k]? = some x ∧ x.num ≤ g.last) ∨ (k = g.conns.length ∧ x.num = g.last + 1) := fun k x hk => by
      by_cases hlt : k < g.conns.length
      · rw [List.getElem?_append_left hlt] at hk
        exact .inl ⟨hlt, hk, ok.past x (List.mem_of_getElem? hk)⟩
      · have hl := (List.getElem?_eq_some_iff.1 hk).1
        rw [List.length_append, List.length_singleton] at hl
        have e : k = g.conns.length := by omega
        subst e
        rw [List.getElem?_append_right (Nat.le_refl _), Nat.sub_self] at hk
        cases hk
        exact .inr ⟨rfl, rfl⟩
    rcases key i c hi with ⟨h1, h2, h3⟩ | ⟨h1, h2⟩ <;> rcases key j d hj with ⟨h4, h5, h6⟩ | ⟨h4, h5⟩
    · exact ok.nums i j c d h2 h5 hcd
    · omega
    · omega
    · omega
  · simp only [GateS.accept, List.mem_append, List.mem_singleton] at hc
    rcases hc with hc | rfl
    · have := ok.past c hc
      show c.num ≤ g.last + 1
      omega
    · exact Nat.le_refl _
end Plain
open Go.RowKit Plain

theorem accept_rep {r : Rl} {B : Nat} {w w4 : World} {gb : Nat} {g : GateS} (h : GwRep r B w gb g) {cv : Value} {cbs : List Nat} (x3 : ∀ k, cv.ownBlock = some k → r k = some .row) (x4 : Conns r B w cbs g.conns)
    {ge cap : Nat} (hS : ∀ b, b < w.heap.size → b ≠ gb → some b ≠ cv.ownBlock → SameAt w w4 b) (hsz : w.heap.size < w4.heap.size) (hg : ∀ o, o ≠ 3 → o ≠ 4 → w4.cell? ⟨gb, o, none⟩ = w.cell? ⟨gb, o, none⟩) (hfz : ∀ o, w4.frozen? ⟨gb, o, none⟩ = false)
    (h3 : w4.cell? ⟨gb, 3, none⟩ = some (.int .i64 ((g.last : Int) + 1))) (h4 : w4.cell? ⟨gb, 4, none⟩ = some (.slice (some ⟨ge, 0, none⟩) (cbs.length + 1) cap)) (hown : w4.ownsRow B 95 1 (.slice (some ⟨ge, 0, none⟩) (cbs.length + 1) cap) (cbs.length + 1) (cbs.map ptr ++ [ptr w.heap.size]))
    (hat : cv.ownBlock = some ge ∨ w.heap.size < ge) (hobj : w4.heap[w.heap.size]? = some (.cells #[.int .i64 ((g.last : Int) + 1), .int .i64 0, .int .i64 0, .slice none 0 0, .bool false, .bool false] 101 (0, 0))) (hos : w4.os = w.os) (htp : w4.tape = w.tape) (hop : w4.output = w.output) (hB : B ≤ w.heap.size) :
    ∃ r', GwStep r B w gb r' w4 g.accept := by
  have hnew : r w.heap.size = none := sized h (Nat.le_refl _)
  have hgen : ge ≠ w.heap.size := by
    rcases hat with h1 | h1
    · intro e
      have := x3 ge h1
      rw [e, hnew] at this
      cases this
    · omega
  have hgel : ge < w4.heap.size := (owns_lt hown ge rfl).2
  have hgeB : B ≤ ge := (owns_lt hown ge rfl).1
  have hger : ∀ k, r ge = some k → k = .row := fun k hk => by
    rcases hat with h1 | h1
    · rw [x3 ge h1] at hk
      cases hk
      rfl
    · have := h.lt ge (by rw [hk]; simp)
      omega
  refine ⟨fun b => if b = w.heap.size then some (.conn (g.last + 1)) else if b = ge then some .row else r b, ?_⟩
  have R : ∀ b k, r b = some k → k ≠ .row → (if b = w.heap.size then some (Kd.conn (g.last + 1)) else if b = ge then some .row else r b) = r b := fun b k hb hk => by
    rw [if_neg (fun e => by rw [e, hnew] at hb; cases hb), if_neg]
    intro e
    exact hk (hger k (by rw [← e]; exact hb))
  have SS : ∀ b k, r b = some k → k ≠ .gw → k ≠ .row → SameAt w w4 b := fun b k hb h1 h2 => by
    refine hS b (h.lt b (by rw [hb]; simp)) (fun e => ?_) (fun e => ?_)
    · rw [e, h.role] at hb
      cases hb
      exact h1 rfl
    · rw [x3 b e.symm] at hb
      cases hb
      exact h2 rfl
  obtain ⟨k1, k2, k3, ⟨pb, k4, k5⟩, ⟨tv, k6, k7⟩, k8, k9, k10, _⟩ := h
  have ks : Keeps (fun b => r b = some .stat) (fun b => (if b = w.heap.size then some (Kd.conn (g.last + 1)) else if b = ge then some .row else r b) = some .stat) w w4 := fun b hb => ⟨by
    show (if b = w.heap.size then some (Kd.conn (g.last + 1)) else if b = ge then some .row else r b) = some .stat
    rw [R b _ hb (by simp)]; exact hb, fun o => (SS b _ hb (by simp) (by simp)).cell o⟩
  refine ⟨⟨fun b hb => ?_, fun b hb => ?_, ?_, ⟨pb, by rw [hg 0 (by decide) (by decide)]; exact k4, k5.keeps ks⟩, ⟨tv, by rw [hg 1 (by decide) (by decide)]; exact k6, k7.keeps ks⟩, by rw [hg 2 (by decide) (by decide)]; exact k8, ?_, hfz, _, cbs ++ [w.heap.size], h4, ?_, ?_, ?_⟩, ⟨hos, htp, hop, by omega, fun k hk hr => ?_⟩, ?_⟩
  · by_cases e1 : b = w.heap.size
    · omega
    · by_cases e2 : b = ge
      · omega
      · have hb' : r b ≠ none := by simpa [e1, e2] using hb
        have := k1 b hb'
        omega
  · by_cases e1 : b = w.heap.size
    · omega
    · by_cases e2 : b = ge
      · omega
      · have hb' : r b ≠ none := by simpa [e1, e2] using hb
        exact k2 b hb'
  · show (if gb = w.heap.size then some (Kd.conn (g.last + 1)) else if gb = ge then some .row else r gb) = _
    rw [R gb _ k3 (by simp)]; exact k3
  · show _ = some (Value.int .i64 ((g.last + 1 : Nat) : Int))
    rw [h3]; simp
  · rw [List.length_append, List.map_append]
    exact hown
  · intro k hk
    have : ge = k := by simpa [Value.ownBlock] using hk
    show (if k = w.heap.size then some (Kd.conn (g.last + 1)) else if k = ge then some .row else r k) = _
    rw [← this, if_neg hgen, if_pos rfl]
  · refine Conns.snoc ?_ (x4.same fun c _ b hb => ?_)
    · have C : ∀ o, w4.cell? ⟨w.heap.size, o, none⟩ = (#[.int .i64 ((g.last : Int) + 1), .int .i64 0, .int .i64 0, .slice none 0 0, .bool false, .bool false] : Array Value)[o]? := fun o => cell_of_row w4 w.heap.size o _ _ _ hobj
      refine ⟨?_, ?_, by rw [C]; rfl, by rw [C]; rfl, by rw [C]; rfl, by rw [C]; rfl, ⟨_, _, hobj⟩, .slice none 0 0, by rw [C]; rfl, ⟨rfl, .inl ⟨rfl, rfl⟩⟩, fun k hk => by cases hk⟩
      · show (if w.heap.size = w.heap.size then some (Kd.conn (g.last + 1)) else _) = _
        rw [if_pos rfl]
      · show _ = some (Value.int .i64 ((g.last + 1 : Nat) : Int))
        rw [C]; simp
    · rcases hb with hb | hb
      · exact ⟨R b _ hb (by simp), SS b _ hb (by simp) (by simp)⟩
      · exact ⟨R b _ hb (by simp), SS b _ hb (by simp) (by simp)⟩
  · refine hS k hk (fun e => ?_) (fun e => ?_)
    · rw [e, k3] at hr; cases hr
    · rw [x3 k e.symm] at hr; cases hr
  · refine ⟨fun b hb => ?_, fun b hb => ?_⟩
    · by_cases e1 : b = w.heap.size
      · exact .inr (by omega)
      · by_cases e2 : b = ge
        · rcases hat with h1 | h1
          · exact .inl (by rw [e2, x3 ge h1]; simp)
          · exact .inr (by omega)
        · exact .inl (by simpa [e1, e2] using hb)
    · by_cases e1 : b = w.heap.size
      · simp [e1]
      · by_cases e2 : b = ge
        · simp [e2, hgen]
        · simpa [e1, e2] using hb
end Go.Proofs.YtdmaffciijmdcaaGreatDoor

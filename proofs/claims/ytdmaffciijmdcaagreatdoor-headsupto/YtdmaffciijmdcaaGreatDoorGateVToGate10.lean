/-
  Package turnpike: Tick, walked.
-/
import Derived.Test.YtdmaffciijmdcaaGreatDoorGateDToGateU
import Derived.Test.YtdmaffciijmdcaaGreatDoorGate7ToGate9
namespace Go.Proofs.YtdmaffciijmdcaaGreatDoor
open Go.RowKit Plain

theorem row_read {w : World} {B : Nat} {a : Option Addr} {n c : Nat} {cbs : List Nat} (h : w.ownsRow B 95 1 (.slice a n c) cbs.length (cbs.map ptr)) {k cb : Nat} (hb : cbs[k]? = some cb) : ∃ g, a = some ⟨g, 0, none⟩ ∧ w.cell? ⟨g, k, none⟩ = some (ptr cb) := by
  rcases h.2 with ⟨_, hn⟩ | ⟨g, cap, cur, hv, _, hg, _, _, _, h7⟩
  · have := List.eq_nil_of_length_eq_zero hn
    subst this
    simp at hb
  · injection hv with e1 _ _
    refine ⟨g, e1, ?_⟩
    rw [cell_of_row w g k cur 95 (0, 0) hg]
    have hj : (cur.toList.take (cbs.length * 1))[k]? = some (ptr cb) := by
      rw [h7, List.getElem?_map, hb]; rfl
    rw [List.getElem?_take] at hj
    split at hj
    · simpa using hj
    · cases hj

set_option maxRecDepth 100000 in
set_option maxHeartbeats 3200000 in
theorem tick_any {r : Rl} {B : Nat} {w : World} {gb : Nat} {g : GateS} (h : GwRep r B w gb g) (ok : GOk g) (hin : GIn g) (hmb : 0 ≤ g.minute ∧ g.minute < 10080) (m : Int) :
    Calls Tryz.prog 31 #[ptr gb, .int .i64 m] w fun e w' => TickPost r B gb g m w e w' := by
  by_cases hm : m < 1 ∨ 10080 ≤ m
  · have HM := show Hid _ from hm
    clear h ok hin
    by_cases h1 : m < 1
    · have d1 : decide (m < 1) = true := decide_eq_true h1
      clear hm h1
      go_enter Tryz.func31, Tryz.ntmps31
      go_wp2_with fail
      go_ret2
      exact .inl ⟨HM.out, rfl, rfl⟩
    · have d1 : decide (m < 1) = false := decide_eq_false h1
      have d2 : decide (10080 ≤ m) = true := decide_eq_true (by omega)
      clear hm h1
      go_enter Tryz.func31, Tryz.ntmps31
      go_wp2_with fail
      go_ret2
      exact .inl ⟨HM.out, rfl, rfl⟩
  have hm1 : 1 ≤ m ∧ m < 10080 := by omega
  have d1 : decide (m < 1) = false := decide_eq_false (by omega)
  have d2 : decide (10080 ≤ m) = false := decide_eq_false (by omega)
  have HOK : Hid (GOk g) := ok
  have HIn : Hid (GIn g) := hin
  have hgb := h.inB.2
  have hmin := h.min
  have hfz := h.fz 2
  have HSM := show Hid _ from h.setMin ((g.minute + m) % 10080)
  have HMin : Hid ((tickS g m).1.minute = (g.minute + m) % 10080) := by
    show (if 10080 ≤ g.minute + m then g.minute + m - 10080 else g.minute + m) = _
    split <;> omega
  obtain ⟨cv, cbs, x1, x2, x3, x4⟩ := h.con
  have hlen := x4.len
  have HNe : Hid (∀ k, cv.ownBlock = some k → k ≠ gb) := fun k hk e => by
    have := x3 k hk
    rw [e, h.role] at this
    cases this
  obtain ⟨M, hM⟩ : ∃ M, M = g.minute := ⟨_, rfl⟩
  rw [← hM] at hmin hmb HSM HMin
  clear h ok hin hm hM
  go_enter Tryz.func31, Tryz.ntmps31
  go_wp2_with fail
  have hcell4 : (w.setCell ⟨gb, 2, none⟩ (.int .i64 ((M + m) % 10080))).cell? ⟨gb, 4, none⟩ = some cv := by
    rw [set_other (fun e => by injection e with _ e2; cases e2)]; exact x1
  have hown1 : (w.setCell ⟨gb, 2, none⟩ (.int .i64 ((M + m) % 10080))).ownsRow B 95 1 cv cbs.length (cbs.map ptr) := owns_same x2 fun k hk => set_same_at (HNe.out k hk)
  have HCl := show Hid _ from cloneC_any B cv cbs _ hown1 (by have := HOK.out.few; omega)
  have HPt1 : Hid (PtrsAt B (w.setCell ⟨gb, 2, none⟩ (.int .i64 ((M + m) % 10080))) gb cbs) := ⟨cv, hcell4, hown1⟩
  have HZ : Hid ((w.setCell ⟨gb, 2, none⟩ (.int .i64 ((M + m) % 10080))).heap.size = w.heap.size) := by
    show _ = _
    simp
  generalize w.setCell ⟨gb, 2, none⟩ (.int .i64 ((M + m) % 10080)) = W1 at *
  clear hcell4 hown1 x1 x2 hmin hfz
  refine Calls.mono (Hid.out HCl) ?_
  rintro e w2 ⟨hq2, v2, rfl, hown2⟩
  have hT : TickAt r B w gb g m cbs v2 0 (.slice none 0 0) w2 := by
    have hs : GwStep r B w gb r w2 (midT g m 0) := by
      have := HSM.out.more hq2
      rw [← HMin.out] at this
      exact this
    have hz := HZ.out
    refine ⟨⟨r, [], hs, evs_nil _ _ _, HPt1.out.stays hq2, rfl, fun b hb => ⟨sized HSM.out.rep (owns_lt hown2 b hb).1, by intro e; cases e⟩⟩, owns_base hown2 (by omega)⟩
  have HT := show Hid _ from hT
  obtain ⟨va, vc, rfl⟩ := slice_form hown2
  have HLn : Hid (cbs.length = g.conns.length) := hlen
  have hcn : cbs.length ≤ 8 := by have := HOK.out.few; omega
  clear hT HCl hq2 hown2 hlen
  obtain ⟨n, hn⟩ : ∃ n, n = cbs.length := ⟨_, rfl⟩
  rw [← hn] at hcn HT ⊢
  have HN := show Hid _ from hn
  clear hn
  go_wp2_with fail
  go_loopw [31, 6, 8] (fun i ov _ wr => ∃ k : Nat, k ≤ n ∧ i = .int .i64 (k : Int) ∧ (∃ a j c, ov = .slice a j c) ∧ Hid (TickAt r B w gb g m cbs (.slice va n vc) k ov wr)) (fun i _ _ _ => n - (intOf i).toNat)
  case atStart => exact ⟨0, Nat.zero_le _, rfl, ⟨_, _, _, rfl⟩, HT.out⟩
  case round =>
    obtain ⟨k, hk, rfl, ⟨oa, oj, oc, rfl⟩, hta⟩ := hrel
    by_cases hlt : k < n
    · obtain ⟨cb, hcb⟩ : ∃ cb, cbs[k]? = some cb := ⟨_, List.getElem?_eq_getElem (by rw [← HN.out]; exact hlt)⟩
      obtain ⟨c, hc⟩ : ∃ c, g.conns[k]? = some c := ⟨_, List.getElem?_eq_getElem (by have := HLn.out; have := HN.out; omega)⟩
      obtain ⟨cg, rfl, hcell⟩ := row_read hta.out.cl hcb
      have HNx := show Hid _ from hta.out.next HOK.out HIn.out hc hcb hm1
      clear hc hcb
      go_wp2_with fail
      refine Calls.mono (Hid.out HNx) ?_
      rintro e w3 ⟨v3, vn, vo, w4, vk, rfl, ⟨va3, vn3, vc3, rfl⟩, hrun, hta4⟩
      have HRun := show Hid _ from hrun
      have HT4 := show Hid _ from hta4
      clear hrun hta4 HNx
      go_wp2_with (first | (at_builtin; refine wpList_append_run rfl (.tmp 35) (.tmp 39) 41 41 rfl (.slice oa oj oc) (.slice va3 vn3 vc3) (.slice vo vn vk) w4 rfl rfl HRun.out ?_))
      exact ⟨⟨k + 1, by omega, by go_num, ⟨_, _, _, rfl⟩, HT4⟩, by simp [intOf]; omega⟩
    · have HFin : Hid (GwPostE r B gb (tickS g m).1 (tickS g m).2 0 w (.returned (.tuple #[.slice oa oj oc, .int .i64 0])) wr) := by
        obtain ⟨rr, ps, hs, hev, _⟩ := hta.out.ex
        obtain ⟨e1, e2⟩ := mid_end g m (k := k) (by have := HLn.out; have := HN.out; omega)
        rw [e1] at hs
        rw [e2] at hev
        exact ⟨rr, _, rfl, hs, hev⟩
      clear hta
      go_wp2_with fail
      go_ret2
      exact .inr ⟨hm1, HFin.out⟩
end Go.Proofs.YtdmaffciijmdcaaGreatDoor
/-
  Package turnpike: Accept.
-/
namespace Go.Proofs.YtdmaffciijmdcaaGreatDoor
namespace Plain
theorem accept_ok {g : GateS} (ok : GOk g) (h8 : g.conns.length ≠ 8) (ht : g.last + 1 ≤ 1000000000000) : GOk g.accept := by
  refine ⟨by simp [GateS.accept]; have := ok.few; omega, ok.tens, fun i j c d hi hj hcd => ?_, fun c hc => ?_, ht⟩
  · simp only [GateS.accept] at hi hj
    have key : ∀ (k : Nat) (x : ConnS), (g.conns ++ [(⟨g.last + 1, 0, 0, [], false, false⟩ : ConnS)])[k]? = some x → (k < g.conns.length ∧ g.conns[k]? = some x ∧ x.num ≤ g.last) ∨ (k = g.conns.length ∧ x.num = g.last + 1) := fun k x hk => by
      by_cases hlt : k < g.conns.length
      · rw [List.getElem?_append_left hlt] at hk
        exact .inl ⟨hlt, hk, ok.past x (List.mem_of_getElem? hk)⟩
      · have hl := (List.getElem?_eq_some_iff.1 hk).1
        rw [List.length_append, List.length_singleton] at hl
        have e : k = g.conns.length := by omega
        subst e
        rw [List.getElem?_append_right (Nat.le_refl _), Nat.sub_self] at hk
        cases hk
        exact .inr ⟨rfl, rfl⟩
    rcases key i c hi with ⟨h1, h2, h3⟩ | ⟨h1, h2⟩ <;> rcases key j d hj with ⟨h4, h5, h6⟩ | ⟨h4, h5⟩
    · exact ok.nums i j c d h2 h5 hcd
    · omega
    · omega
    · omega
  · simp only [GateS.accept, List.mem_append, List.mem_singleton] at hc
    rcases hc with hc | rfl
    · have := ok.past c hc
      show c.num ≤ g.last + 1
      omega
    · exact Nat.le_refl _
end Plain
open Go.RowKit Plain

theorem accept_rep {r : Rl} {B : Nat} {w w4 : World} {gb : Nat} {g : GateS} (h : GwRep r B w gb g) {cv : Value} {cbs : List Nat} (x3 : ∀ k, cv.ownBlock = some k → r k = some .row) (x4 : Conns r B w cbs g.conns)
    {ge cap : Nat} (hS : ∀ b, b < w.heap.size → b ≠ gb → some b ≠ cv.ownBlock → SameAt w w4 b) (hsz : w.heap.size < w4.heap.size) (hg : ∀ o, o ≠ 3 → o ≠ 4 → w4.cell? ⟨gb, o, none⟩ = w.cell? ⟨gb, o, none⟩) (hfz : ∀ o, w4.frozen? ⟨gb, o, none⟩ = false)
    (h3 : w4.cell? ⟨gb, 3, none⟩ = some (.int .i64 ((g.last : Int) + 1))) (h4 : w4.cell? ⟨gb, 4, none⟩ = some (.slice (some ⟨ge, 0, none⟩) (cbs.length + 1) cap)) (hown : w4.ownsRow B 95 1 (.slice (some ⟨ge, 0, none⟩) (cbs.length + 1) cap) (cbs.length + 1) (cbs.map ptr ++ [ptr w.heap.size]))
    (hat : cv.ownBlock = some ge ∨ w.heap.size < ge) (hobj : w4.heap[w.heap.size]? = some (.cells #[.int .i64 ((g.last : Int) + 1), .int .i64 0, .int .i64 0, .slice none 0 0, .bool false, .bool false] 101 (0, 0))) (hos : w4.os = w.os) (htp : w4.tape = w.tape) (hop : w4.output = w.output) (hB : B ≤ w.heap.size) :
    ∃ r', GwStep r B w gb r' w4 g.accept := by
  have hnew : r w.heap.size = none := sized h (Nat.le_refl _)
  have hgen : ge ≠ w.heap.size := by
    rcases hat with h1 | h1
    · intro e
      have := x3 ge h1
      rw [e, hnew] at this
      cases this
    · omega
  have hgel : ge < w4.heap.size := (owns_lt hown ge rfl).2
  have hgeB : B ≤ ge := (owns_lt hown ge rfl).1
  have hger : ∀ k, r ge = some k → k = .row := fun k hk => by
    rcases hat with h1 | h1
    · rw [x3 ge h1] at hk
      cases hk
      rfl
    · have := h.lt ge (by rw [hk]; simp)
      omega
  refine ⟨fun b => if b = w.heap.size then some (.conn (g.last + 1)) else if b = ge then some .row else r b, ?_⟩
  have R : ∀ b k, r b = some k → k ≠ .row → (if b = w.heap.size then some (Kd.conn (g.last + 1)) else if b = ge then some .row else r b) = r b := fun b k hb hk => by
    rw [if_neg (fun e => by rw [e, hnew] at hb; cases hb), if_neg]
    intro e
    exact hk (hger k (by rw [← e]; exact hb))
  have SS : ∀ b k, r b = some k → k ≠ .gw → k ≠ .row → SameAt w w4 b := fun b k hb h1 h2 => by
    refine hS b (h.lt b (by rw [hb]; simp)) (fun e => ?_) (fun e => ?_)
    · rw [e, h.role] at hb
      cases hb
      exact h1 rfl
    · rw [x3 b e.symm] at hb
      cases hb
      exact h2 rfl
  obtain ⟨k1, k2, k3, ⟨pb, k4, k5⟩, ⟨tv, k6, k7⟩, k8, k9, k10, _⟩ := h
  have ks : Keeps (fun b => r b = some .stat) (fun b => (if b = w.heap.size then some (Kd.conn (g.last + 1)) else if b = ge then some .row else r b) = some .stat) w w4 := fun b hb => ⟨by
    show (if b = w.heap.size then some (Kd.conn (g.last + 1)) else if b = ge then some .row else r b) = some .stat
    rw [R b _ hb (by simp)]; exact hb, fun o => (SS b _ hb (by simp) (by simp)).cell o⟩
  refine ⟨⟨fun b hb => ?_, fun b hb => ?_, ?_, ⟨pb, by rw [hg 0 (by decide) (by decide)]; exact k4, k5.keeps ks⟩, ⟨tv, by rw [hg 1 (by decide) (by decide)]; exact k6, k7.keeps ks⟩, by rw [hg 2 (by decide) (by decide)]; exact k8, ?_, hfz, _, cbs ++ [w.heap.size], h4, ?_, ?_, ?_⟩, ⟨hos, htp, hop, by omega, fun k hk hr => ?_⟩, ?_⟩
  · by_cases e1 : b = w.heap.size
    · omega
    · by_cases e2 : b = ge
      · omega
      · have hb' : r b ≠ none := by simpa [e1, e2] using hb
        have := k1 b hb'
        omega
  · by_cases e1 : b = w.heap.size
    · omega
    · by_cases e2 : b = ge
      · omega
      · have hb' : r b ≠ none := by simpa [e1, e2] using hb
        exact k2 b hb'
  · show (if gb = w.heap.size then some (Kd.conn (g.last + 1)) else if gb = ge then some .row else r gb) = _
    rw [R gb _ k3 (by simp)]; exact k3
  · show _ = some (Value.int .i64 ((g.last + 1 : Nat) : Int))
    rw [h3]; simp
  · rw [List.length_append, List.map_append]
    exact hown
  · intro k hk
    have : ge = k := by simpa [Value.ownBlock] using hk
    show (if k = w.heap.size then some (Kd.conn (g.last + 1)) else if k = ge then some .row else r k) = _
    rw [← this, if_neg hgen, if_pos rfl]
  · refine Conns.snoc ?_ (x4.same fun c _ b hb => ?_)
    · have C : ∀ o, w4.cell? ⟨w.heap.size, o, none⟩ = (#[.int .i64 ((g.last : Int) + 1), .int .i64 0, .int .i64 0, .slice none 0 0, .bool false, .bool false] : Array Value)[o]? := fun o => cell_of_row w4 w.heap.size o _ _ _ hobj
      refine ⟨?_, ?_, by rw [C]; rfl, by rw [C]; rfl, by rw [C]; rfl, by rw [C]; rfl, ⟨_, _, hobj⟩, .slice none 0 0, by rw [C]; rfl, ⟨rfl, .inl ⟨rfl, rfl⟩⟩, fun k hk => by cases hk⟩
      · show (if w.heap.size = w.heap.size then some (Kd.conn (g.last + 1)) else _) = _
        rw [if_pos rfl]
      · show _ = some (Value.int .i64 ((g.last + 1 : Nat) : Int))
        rw [C]; simp
    · rcases hb with hb | hb
      · exact ⟨R b _ hb (by simp), SS b _ hb (by simp) (by simp)⟩
      · exact ⟨R b _ hb (by simp), SS b _ hb (by simp) (by simp)⟩
  · refine hS k hk (fun e => ?_) (fun e => ?_)
    · rw [e, k3] at hr; cases hr
    · rw [x3 k e.symm] at hr; cases hr
  · refine ⟨fun b hb => ?_, fun b hb => ?_⟩
    · by_cases e1 : b = w.heap.size
      · exact .inr (by omega)
      · by_cases e2 : b = ge
        · rcases hat with h1 | h1
          · exact .inl (by rw [e2, x3 ge h1]; simp)
          · exact .inr (by omega)
        · exact .inl (by simpa [e1, e2] using hb)
    · by_cases e1 : b = w.heap.size
      · simp [e1]
      · by_cases e2 : b = ge
        · simp [e2, hgen]
        · simpa [e1, e2] using hb
end Go.Proofs.YtdmaffciijmdcaaGreatDoor

/-
  Package turnpike: Reload.
-/
import Derived.Test.YtdmaffciijmdcaaGreatDoorGate12ToMath1
import Derived.Test.YtdmaffciijmdcaaGreatDoorGateBToGateT
import Derived.Test.YtdmaffciijmdcaaGreatDoorFed0ToFed1
import Derived.Test.YtdmaffciijmdcaaGreatDoorRowDToHold2
import Derived.Test.YtdmaffciijmdcaaGreatDoorGateUToGateV
namespace Go.Proofs.YtdmaffciijmdcaaGreatDoor
open Go.RowKit Plain

/-- What Reload answers. -/
def ReloadPost (r : Rl) (B : Nat) (gb : Nat) (g : GateS) (T : List UInt8) (w : World) (e : Ending) (w' : World) : Prop :=
  (∃ en ln : Nat, compileS T = .error (en, ln) ∧ e = .returned (.tuple #[.int .i64 (en : Int), .int .i64 (ln : Int)]) ∧ Q w w') ∨
  ∃ rs r', compileS T = .ok rs ∧ e = .returned (.tuple #[.int .i64 0, .int .i64 0]) ∧ GwStep r B w gb r' w' { g with rules := rs }

theorem GwRep.setRules {r : Rl} {B : Nat} {w w1 : World} {gb : Nat} {g : GateS} (h : GwRep r B w gb g) (q : Q w w1) {pb : Nat} {rs : List RuleS} (hv : PolicyRep (New w w1) w1 pb rs) :
    ∃ r', GwStep r B w gb r' (w1.setCell ⟨gb, 0, none⟩ (ptr pb)) { g with rules := rs } := by
  have hgb := h.inB
  have hsz := q.size
  obtain ⟨pb0, h4, _⟩ := h.pol
  obtain ⟨tv, h6, h7⟩ := h.ten
  obtain ⟨cv, cbs, h11, h12, h13, h14⟩ := h.con
  have hr' : ∀ b x, r b = some x → (if w.heap.size ≤ b ∧ b < w1.heap.size then some Kd.stat else r b) = some x := fun b x hb => by
    rw [if_neg]
    · exact hb
    · intro e
      have := h.lt b (by rw [hb]; simp)
      omega
  have sm : ∀ b, b < w.heap.size → b ≠ gb → SameAt w (w1.setCell ⟨gb, 0, none⟩ (ptr pb)) b := fun b hb hne => (set_same_at hne).trans (q.sameAt hb)
  have smr : ∀ b k, r b = some k → k ≠ .gw → SameAt w (w1.setCell ⟨gb, 0, none⟩ (ptr pb)) b := fun b k hb hk => sm b (h.lt b (by rw [hb]; simp)) (fun e => by
    rw [e, h.role] at hb
    cases hb
    exact hk rfl)
  have cg : ∀ o, o ≠ 0 → (w1.setCell ⟨gb, 0, none⟩ (ptr pb)).cell? ⟨gb, o, none⟩ = w.cell? ⟨gb, o, none⟩ := fun o ho => by
    rw [set_other (fun e => by injection e with _ e2; exact ho e2.symm)]
    exact q.cells.1 gb o hgb.2
  have ks : Keeps (fun b => r b = some .stat) (fun b => (if w.heap.size ≤ b ∧ b < w1.heap.size then some Kd.stat else r b) = some .stat) w (w1.setCell ⟨gb, 0, none⟩ (ptr pb)) := fun b hb =>
    ⟨hr' b _ hb, fun o => (smr b _ hb (by simp)).cell o⟩
  have kn : Keeps (New w w1) (fun b => (if w.heap.size ≤ b ∧ b < w1.heap.size then some Kd.stat else r b) = some .stat) w1 (w1.setCell ⟨gb, 0, none⟩ (ptr pb)) := fun b hb =>
    ⟨if_pos hb, fun o => (set_same_at (fun e => by have := hb.1; omega)).cell o⟩
  refine ⟨fun b => if w.heap.size ≤ b ∧ b < w1.heap.size then some .stat else r b, ⟨⟨fun b hb => ?_, fun b hb => ?_, hr' gb _ h.role, ⟨pb, set_same (u := ptr pb0) (q.cell h4), hv.keeps kn⟩, ⟨tv, by rw [cg 1 (by decide)]; exact h6, h7.keeps ks⟩, by rw [cg 2 (by decide)]; exact h.min, by rw [cg 3 (by decide)]; exact h.last, fun o => by rw [World.frozen?_setCell, q.cells.2 gb o hgb.2]; exact h.fz o, cv, cbs, by rw [cg 4 (by decide)]; exact h11, owns_same h12 fun k hk => smr k _ (h13 k hk) (by simp), fun k hk => hr' k _ (h13 k hk), h14.same fun c _ b hb => ?_⟩, ⟨q.os, q.tape, q.output, by simp; omega, fun k hk2 hr => sm k hk2 (fun e => by rw [e, h.role] at hr; cases hr)⟩, fun b hb => ?_, fun b hb => ?_⟩⟩
  · by_cases e : w.heap.size ≤ b ∧ b < w1.heap.size
    · simpa using e.2
    · have hb' : r b ≠ none := by simpa [e] using hb
      have := h.lt b hb'; simp; omega
  · by_cases e : w.heap.size ≤ b ∧ b < w1.heap.size
    · omega
    · exact h.low b (by simpa [e] using hb)
  · rcases hb with hb | hb
    · exact ⟨(hr' b _ hb).trans hb.symm, smr b _ hb (by simp)⟩
    · exact ⟨(hr' b _ hb).trans hb.symm, smr b _ hb (by simp)⟩
  · by_cases e : w.heap.size ≤ b ∧ b < w1.heap.size
    · exact .inr e.1
    · exact .inl (by simpa [e] using hb)
  · by_cases e : w.heap.size ≤ b ∧ b < w1.heap.size
    · simp [e]
    · simpa [e] using hb

set_option maxRecDepth 100000 in
set_option maxHeartbeats 1600000 in
theorem reload_any {r : Rl} {B : Nat} {w : World} {gb : Nat} {g : GateS} (h : GwRep r B w gb g) (s : ByteArray) (hs : s.size ≤ maxLen) :
    Calls Tryz.prog 30 #[ptr gb, .string s] w fun e w' => ReloadPost r B gb g s.data.toList w e w' := by
  have HR : Hid (GwRep r B w gb g) := h
  obtain ⟨pb0, h4, _⟩ := h.pol
  have hfz := h.fz 0
  have hgb := h.inB.2
  have HC := show Hid _ from compile_any s w hs
  clear h hs
  go_enter Tryz.func30, Tryz.ntmps30
  go_wp2_with fail
  refine Calls.mono (Hid.out HC) ?_
  rintro e w1 ⟨hq1, ⟨en, ln, hcs, rfl⟩ | ⟨rs, pb, hcs, rfl, hpol⟩⟩
  · have hen := comp_en0 hcs
    have d0 : ((en : Int) != 0) = true := by rw [bne_iff_ne]; omega
    have HN := show Hid _ from hcs
    clear hcs HC hen
    go_wp2_with fail
    go_ret2
    exact .inl ⟨en, ln, HN.out, rfl, hq1⟩
  · have HN := show Hid _ from hcs
    have HS := show Hid _ from HR.out.setRules hq1 hpol
    have c0 := hq1.cell h4
    have f0 : w1.frozen? ⟨gb, 0, none⟩ = false := by rw [hq1.cells.2 gb 0 hgb]; exact hfz
    clear hcs hpol HC
    go_wp2_with fail
    go_ret2
    obtain ⟨r', hst⟩ := HS.out
    exact .inr ⟨rs, r', HN.out, rfl, hst⟩
end Go.Proofs.YtdmaffciijmdcaaGreatDoor
/-
  Plain: what every call keeps of a gateway.
-/
namespace Go.Proofs.YtdmaffciijmdcaaGreatDoor
open Go.RowKit Plain

theorem GIn.upd {g : GateS} (h : GIn g) {i : Nat} {c : ConnS} (hc : CIn c) : GIn (g.upd i c) := fun d hd => by
  rcases upd_mem hd with h1 | h1
  · exact h d h1
  · rw [h1]; exact hc
theorem GIn.drop {g : GateS} (h : GIn g) (n : Nat) : GIn (g.drop n) := fun d hd => h d (List.mem_filter.1 hd).1
theorem GIn.accept {g : GateS} (h : GIn g) : GIn g.accept := fun d hd => by
  simp only [GateS.accept, List.mem_append, List.mem_singleton] at hd
  rcases hd with hd | rfl
  · exact h d hd
  · exact ⟨by simp, by simp, by simp, fun _ => ⟨rfl, rfl⟩⟩
theorem GIn.client {g : GateS} (h : GIn g) {i : Nat} {c : ConnS} (hi : g.conns[i]? = some c) (s : List UInt8) : GIn (clientAt g i c s).1 := by
  have hc := h c (List.mem_of_getElem? hi)
  unfold clientAt
  split
  · exact h.upd ⟨by simp, by simp, hc.st, hc.ends⟩
  · rename_i h2
    split
    · exact h.upd ⟨by simp, by simp, hc.st, hc.ends⟩
    · split
      · exact h.upd ⟨by simp, by simp, hc.st, hc.ends⟩
      · unfold answerS
        split
        · refine GIn.drop (GIn.upd h ?_) _
          exact ⟨by simp, by simp, hc.st, hc.ends⟩
        · rw [upd_upd]
          exact h.upd ⟨by simp, by simp, by simp, fun _ => hc.ends h2⟩
theorem GIn.dialed {g : GateS} (h : GIn g) {i : Nat} {c : ConnS} (ok : Bool) : GIn (dialedAt g i c ok).1 := by
  unfold dialedAt
  split
  · exact h.upd ⟨by simp, by simp, by simp, fun h2 => absurd rfl h2⟩
  · exact h.drop _
theorem GIn.host {g : GateS} (h : GIn g) {i : Nat} {c : ConnS} (hi : g.conns[i]? = some c) (s : List UInt8) : GIn (hostAt g i c s).1 := by
  have hc := h c (List.mem_of_getElem? hi)
  exact h.upd ⟨by simp, by simp, hc.st, hc.ends⟩
theorem GIn.endClient {g : GateS} (h : GIn g) {i : Nat} {c : ConnS} (hi : g.conns[i]? = some c) : GIn (endClientAt g i c).1 := by
  have hc := h c (List.mem_of_getElem? hi)
  unfold endClientAt
  split
  · exact h.drop _
  · split
    · exact h.drop _
    · rename_i h0 h1
      dsimp only
      split
      · exact h.drop _
      · exact h.upd ⟨hc.s0, hc.s1, hc.st, fun h2 => absurd (show c.stage = 2 by have := hc.st; omega) h2⟩
theorem GIn.endHost {g : GateS} (h : GIn g) {i : Nat} {c : ConnS} (hi : g.conns[i]? = some c) (h2 : c.stage = 2) : GIn (endHostAt g i c).1 := by
  have hc := h c (List.mem_of_getElem? hi)
  unfold endHostAt
  dsimp only
  split
  · exact h.drop _
  · exact h.upd ⟨hc.s0, hc.s1, hc.st, fun h3 => absurd h2 h3⟩
theorem GIn.tick {g : GateS} (h : GIn g) {m : Int} (hm : 1 ≤ m) : GIn (tickS g m).1 := fun d hd => by
  obtain ⟨c, hc, rfl⟩ := List.mem_map.1 hd
  obtain ⟨hc, hl⟩ := List.mem_filter.1 hc
  have hc := h c hc
  have hl := of_decide_eq_true hl
  exact ⟨by have := hc.s0; show 0 ≤ c.silent + m; omega, hl, hc.st, hc.ends⟩

theorem GOk.dialed {g : GateS} (ok : GOk g) {i : Nat} {c : ConnS} (hi : g.conns[i]? = some c) (yes : Bool) : GOk (dialedAt g i c yes).1 := by
  unfold dialedAt
  split
  · exact ok.upd hi rfl
  · exact ok.drop _
theorem GOk.host {g : GateS} (ok : GOk g) {i : Nat} {c : ConnS} (hi : g.conns[i]? = some c) (s : List UInt8) : GOk (hostAt g i c s).1 := ok.upd hi rfl
theorem GOk.endClient {g : GateS} (ok : GOk g) {i : Nat} {c : ConnS} (hi : g.conns[i]? = some c) : GOk (endClientAt g i c).1 := by
  unfold endClientAt
  split
  · exact ok.drop _
  · split
    · exact ok.drop _
    · dsimp only
      split
      · exact ok.drop _
      · exact ok.upd hi rfl
theorem GOk.endHost {g : GateS} (ok : GOk g) {i : Nat} {c : ConnS} (hi : g.conns[i]? = some c) : GOk (endHostAt g i c).1 := by
  unfold endHostAt
  dsimp only
  split
  · exact ok.drop _
  · exact ok.upd hi rfl
theorem GOk.tick {g : GateS} (ok : GOk g) (m : Int) : GOk (tickS g m).1 := by
  refine ⟨?_, ok.tens, ?_, fun d hd => ?_, ok.top⟩
  · show ((g.conns.filter _).map _).length ≤ 8
    rw [List.length_map]
    exact Nat.le_trans (List.length_filter_le _ _) ok.few
  · refine nodup_nums ?_
    show (((g.conns.filter _).map _).map _).Nodup
    rw [List.map_map]
    exact (nums_nodup ok.nums).sublist ((List.filter_sublist).map _)
  · obtain ⟨c, hc, rfl⟩ := List.mem_map.1 hd
    exact ok.past c (List.mem_filter.1 hc).1
theorem GOk.rules {g : GateS} (ok : GOk g) (rs : List RuleS) : GOk { g with rules := rs } := ⟨ok.few, ok.tens, ok.nums, ok.past, ok.top⟩

/-- What waits at any connection is this long at most. -/
def Waits (L : Nat) (g : GateS) : Prop := ∀ c ∈ g.conns, c.wait.length ≤ L
theorem Waits.mono {L M : Nat} {g : GateS} (h : Waits L g) (hl : L ≤ M) : Waits M g := fun c hc => Nat.le_trans (h c hc) hl
theorem Waits.upd {L : Nat} {g : GateS} (h : Waits L g) {i : Nat} {c : ConnS} (hc : c.wait.length ≤ L) : Waits L (g.upd i c) := fun d hd => by
  rcases upd_mem hd with h1 | h1
  · exact h d h1
  · rw [h1]; exact hc
theorem Waits.drop {L : Nat} {g : GateS} (h : Waits L g) (n : Nat) : Waits L (g.drop n) := fun d hd => h d (List.mem_filter.1 hd).1
theorem Waits.accept {L : Nat} {g : GateS} (h : Waits L g) : Waits L g.accept := fun d hd => by
  simp only [GateS.accept, List.mem_append, List.mem_singleton] at hd
  rcases hd with hd | rfl
  · exact h d hd
  · simp
theorem Waits.client {L : Nat} {g : GateS} (h : Waits L g) {i : Nat} {c : ConnS} (hi : g.conns[i]? = some c) (s : List UInt8) : Waits (L + s.length) (clientAt g i c s).1 := fun d hd => by
  rcases clientAt_waits s hd with h1 | h1
  · have := h d h1; omega
  · have := h c (List.mem_of_getElem? hi); omega
theorem Waits.dialed {L : Nat} {g : GateS} (h : Waits L g) {i : Nat} {c : ConnS} (yes : Bool) : Waits L (dialedAt g i c yes).1 := by
  unfold dialedAt
  split
  · exact h.upd (by simp)
  · exact h.drop _
theorem Waits.host {L : Nat} {g : GateS} (h : Waits L g) {i : Nat} {c : ConnS} (hi : g.conns[i]? = some c) (s : List UInt8) : Waits L (hostAt g i c s).1 := h.upd (h c (List.mem_of_getElem? hi))
theorem Waits.endClient {L : Nat} {g : GateS} (h : Waits L g) {i : Nat} {c : ConnS} (hi : g.conns[i]? = some c) : Waits L (endClientAt g i c).1 := by
  unfold endClientAt
  split
  · exact h.drop _
  · split
    · exact h.drop _
    · dsimp only
      split
      · exact h.drop _
      · exact h.upd (h c (List.mem_of_getElem? hi))
theorem Waits.endHost {L : Nat} {g : GateS} (h : Waits L g) {i : Nat} {c : ConnS} (hi : g.conns[i]? = some c) : Waits L (endHostAt g i c).1 := by
  unfold endHostAt
  dsimp only
  split
  · exact h.drop _
  · exact h.upd (h c (List.mem_of_getElem? hi))
theorem Waits.tick {L : Nat} {g : GateS} (h : Waits L g) (m : Int) : Waits L (tickS g m).1 := fun d hd => by
  obtain ⟨c, hc, rfl⟩ := List.mem_map.1 hd
  exact h c (List.mem_filter.1 hc).1
end Go.Proofs.YtdmaffciijmdcaaGreatDoor
/-
  All calls on gateways that lie side by side.
-/
namespace Go.Proofs.YtdmaffciijmdcaaGreatDoor
open Go.RowKit Plain

/-- Events that a step on a gateway gave are one row more. -/
theorem Hold.stepRow {w0 w w' : World} {o : Ow} {gws : Gws} {rows : Rws} (h : Hold w0 w o gws rows) {i gb : Nat} {G' : GateS} {r' : Rl} {l : List EvS} {v : Value} (hs : GwStep (o.pr i) w0.heap.size w gb r' w' G') (hev : EvsOut r' l w v w') (j : Nat) :
    ∃ o' : Ow, Hold w0 w' o' (put gws i (gb, G')) (put rows j (v, l)) := by
  obtain ⟨o1, ho1, hlow⟩ := h.step hs
  refine ho1.addRow j (owns_base hev.1 h.q.size) (fun b hb => ?_)
  left
  cases hx : o1 b with
  | none => rfl
  | some x =>
    rcases hlow b (by rw [hx]; simp) with h1 | h1
    · have := (h.lt b h1).1
      have := (owns_lt hev.1 b hb).1
      omega
    · exact absurd (hev.2 b hb) h1

def HCall (w0 : World) (gws : Gws) (rows : Rws) (i gb : Nat) (G : GateS) (n : Int) (P : ConnS → Prop) (f : Nat → ConnS → GateS × List EvS) (j : Nat) (w : World) (e : Ending) (w' : World) : Prop :=
  (∃ (k : Nat) (c : ConnS) (v : Value) (o' : Ow), G.conns[k]? = some c ∧ (c.num : Int) = n ∧ P c ∧ e = .returned (.tuple #[v, .int .i64 0]) ∧ Hold w0 w' o' (put gws i (gb, (f k c).1)) (put rows j (v, (f k c).2))) ∨
  ((∀ c ∈ G.conns, (c.num : Int) = n → ¬ P c) ∧ w' = w ∧ e = .returned (.tuple #[.slice none 0 0, .int .i64 7]))
theorem Hold.called {w0 w w' : World} {o : Ow} {gws : Gws} {rows : Rws} (h : Hold w0 w o gws rows) {i gb : Nat} {G : GateS} {n : Int} {P : ConnS → Prop} {f : Nat → ConnS → GateS × List EvS} {e : Ending} (j : Nat) (hc : CallPost (o.pr i) w0.heap.size gb G n P f w e w') : HCall w0 gws rows i gb G n P f j w e w' := by
  rcases hc with ⟨k, c, hk, hn, hp, r', v, rfl, hst, hev⟩ | hno
  · obtain ⟨o2, ho2⟩ := h.stepRow hst hev j
    exact .inl ⟨k, c, v, o2, hk, hn, hp, rfl, ho2⟩
  · exact .inr hno
theorem ml_low {w : World} (hm : ML w) : 0 < w.heap.size := by
  obtain ⟨y, hy⟩ := hm
  exact Q.lt hy
theorem Hold.clientC {w0 w : World} {o : Ow} {gws : Gws} {rows : Rws} (h : Hold w0 w o gws rows) {i gb : Nat} {G : GateS} (hi : gws i = some (gb, G)) (ok : GOk G) (n : Int) (s : ByteArray) (hl : ∀ c ∈ G.conns, c.wait.length + s.size ≤ 4398046511104) (hm : ML w0) (j : Nat) :
    Calls Tryz.prog 22 #[ptr gb, .int .i64 n, .string s] w fun e w' => HCall w0 gws rows i gb G n (fun c => c.noMore = false) (fun k c => clientAt G k c s.data.toList) j w e w' :=
  (clientC_any (h.gw i _ hi) ok n s hl (hm.stays h.q) (ml_low hm)).mono fun _ _ hc => h.called j hc
theorem Hold.dialed {w0 w : World} {o : Ow} {gws : Gws} {rows : Rws} (h : Hold w0 w o gws rows) {i gb : Nat} {G : GateS} (hi : gws i = some (gb, G)) (ok : GOk G) (hwt : ∀ c ∈ G.conns, c.wait.length ≤ 4398046511104) (n : Int) (yes : Bool) (j : Nat) :
    Calls Tryz.prog 24 #[ptr gb, .int .i64 n, .bool yes] w fun e w' => HCall w0 gws rows i gb G n (fun c => c.stage = 1) (fun k c => dialedAt G k c yes) j w e w' :=
  (dialed_any (h.gw i _ hi) ok hwt n yes).mono fun _ _ hc => h.called j hc
theorem Hold.host {w0 w : World} {o : Ow} {gws : Gws} {rows : Rws} (h : Hold w0 w o gws rows) {i gb : Nat} {G : GateS} (hi : gws i = some (gb, G)) (ok : GOk G) (n : Int) (s : ByteArray) (hs : s.size ≤ 4398046511104) (j : Nat) :
    Calls Tryz.prog 26 #[ptr gb, .int .i64 n, .string s] w fun e w' => HCall w0 gws rows i gb G n (fun c => c.stage = 2 ∧ c.hostEnd = false) (fun k c => hostAt G k c s.data.toList) j w e w' :=
  (host2_any (h.gw i _ hi) ok n s hs).mono fun _ _ hc => h.called j hc
theorem Hold.endClient {w0 w : World} {o : Ow} {gws : Gws} {rows : Rws} (h : Hold w0 w o gws rows) {i gb : Nat} {G : GateS} (hi : gws i = some (gb, G)) (ok : GOk G) (hin : GIn G) (n : Int) (j : Nat) :
    Calls Tryz.prog 28 #[ptr gb, .int .i64 n] w fun e w' => HCall w0 gws rows i gb G n (fun c => c.noMore = false) (fun k c => endClientAt G k c) j w e w' :=
  (endClient_any (h.gw i _ hi) ok hin n).mono fun _ _ hc => h.called j hc
theorem Hold.endHost {w0 w : World} {o : Ow} {gws : Gws} {rows : Rws} (h : Hold w0 w o gws rows) {i gb : Nat} {G : GateS} (hi : gws i = some (gb, G)) (ok : GOk G) (n : Int) (j : Nat) :
    Calls Tryz.prog 29 #[ptr gb, .int .i64 n] w fun e w' => HCall w0 gws rows i gb G n (fun c => c.stage = 2 ∧ c.hostEnd = false) (fun k c => endHostAt G k c) j w e w' :=
  (endHost_any (h.gw i _ hi) ok n).mono fun _ _ hc => h.called j hc
theorem Hold.tick {w0 w : World} {o : Ow} {gws : Gws} {rows : Rws} (h : Hold w0 w o gws rows) {i gb : Nat} {G : GateS} (hi : gws i = some (gb, G)) (ok : GOk G) (hin : GIn G) (hmb : 0 ≤ G.minute ∧ G.minute < 10080) (m : Int) (hm : 1 ≤ m ∧ m < 10080) (j : Nat) :
    Calls Tryz.prog 31 #[ptr gb, .int .i64 m] w fun e w' => ∃ v o', e = .returned (.tuple #[v, .int .i64 0]) ∧ Hold w0 w' o' (put gws i (gb, (tickS G m).1)) (put rows j (v, (tickS G m).2)) := by
  refine (tick_any (h.gw i _ hi) ok hin hmb m).mono ?_
  rintro e w' (⟨h1, _⟩ | ⟨_, r', v, rfl, hst, hev⟩)
  · omega
  · obtain ⟨o2, ho2⟩ := h.stepRow hst hev j
    exact ⟨v, o2, rfl, ho2⟩
theorem Hold.reload {w0 w : World} {o : Ow} {gws : Gws} {rows : Rws} (h : Hold w0 w o gws rows) {i gb : Nat} {G : GateS} (hi : gws i = some (gb, G)) (s : ByteArray) (hs : s.size ≤ maxLen) :
    Calls Tryz.prog 30 #[ptr gb, .string s] w fun e w' => (∃ en ln : Nat, compileS s.data.toList = .error (en, ln) ∧ e = .returned (.tuple #[.int .i64 (en : Int), .int .i64 (ln : Int)]) ∧ Q w w') ∨ ∃ rs o', compileS s.data.toList = .ok rs ∧ e = .returned (.tuple #[.int .i64 0, .int .i64 0]) ∧ Hold w0 w' o' (put gws i (gb, { G with rules := rs })) rows := by
  refine (reload_any (h.gw i _ hi) s hs).mono ?_
  rintro e w' (hno | ⟨rs, r', h1, h2, hst⟩)
  · exact .inl hno
  · obtain ⟨o2, ho2, _⟩ := h.step hst
    exact .inr ⟨rs, o2, h1, h2, ho2⟩
theorem Hold.fed {w0 w : World} {o : Ow} {gws : Gws} {rows : Rws} (h : Hold w0 w o gws rows) {i gb : Nat} {G : GateS} (hi : gws i = some (gb, G)) (ok : GOk G) (hop : ∀ c ∈ G.conns, c.noMore = false) (n : Int) (s0 : ByteArray) (rv : Value) (raw : List Int) (hraw : IntsLow w0.heap.size w rv raw) (hl : ∀ c ∈ G.conns, c.wait.length + s0.size ≤ 4294967280) (hz : s0.size ≤ 4294967280) (hm : ML w0) (j : Nat) :
    Calls Tryz.prog 19 #[ptr gb, .int .i64 n, .string s0, rv] w fun e w' => ∃ (k : Nat) (g : GateS) (s : List UInt8) (out : List EvS) (v : Value) (o' : Ow), FedTo n raw G s0.data.toList k g s out ∧ Hold w0 w' o' (put gws i (gb, g)) (put rows j (v, out)) ∧
      ((s = [] ∧ e = .returned (.tuple #[v, .bool true])) ∨ (s ≠ [] ∧ (∀ c ∈ g.conns, (c.num : Int) ≠ n) ∧ e = .returned (.tuple #[v, .bool false]))) := by
  refine (fed_any (h.gw i _ hi) ok hop n s0 rv raw hraw hl hz (hm.stays h.q) (ml_low hm)).mono ?_
  rintro e w' ⟨k, g, s, out, ov, hto, ⟨r', hst, hev⟩, hend⟩
  obtain ⟨o2, ho2⟩ := h.stepRow hst hev j
  exact ⟨k, g, s, out, ov, o2, hto, ho2, hend⟩
end Go.Proofs.YtdmaffciijmdcaaGreatDoor

/-
  Package turnpike: one connection of a gateway: heard, wait.
-/
import Derived.Test.YtdmaffciijmdcaaGreatDoorJudgeToGate2
import Derived.Lib.AppendStr
namespace Go.Proofs.YtdmaffciijmdcaaGreatDoor
open Go.RowKit Plain

/-- A gateway in memory, and where its i-th connection lies. -/
structure AtConn (r : Rl) (B : Nat) (w : World) (gb : Nat) (g : GateS) (i cb : Nat) (c : ConnS) : Prop where
  rep : GwRep r B w gb g
  ok : GOk g
  hi : g.conns[i]? = some c
  con : ∃ cv cbs, w.cell? ⟨gb, 4, none⟩ = some cv ∧ w.ownsRow B 95 1 cv cbs.length (cbs.map ptr) ∧ (∀ k, cv.ownBlock = some k → r k = some .row) ∧ Conns r B w cbs g.conns ∧ cbs[i]? = some cb
theorem AtConn.conn {r : Rl} {B : Nat} {w : World} {gb : Nat} {g : GateS} {i cb : Nat} {c : ConnS} (h : AtConn r B w gb g i cb c) : ConnRep r B w cb c := by
  obtain ⟨cv, cbs, _, _, _, hcs, hb⟩ := h.con
  obtain ⟨cb', hb', hc⟩ := hcs.get i c h.hi
  rw [hb] at hb'
  cases hb'
  exact hc
theorem GOk.upd {g : GateS} (ok : GOk g) {i : Nat} {c c' : ConnS} (hi : g.conns[i]? = some c) (hn : c'.num = c.num) : GOk (g.upd i c') := by
  have hl : i < g.conns.length := (List.getElem?_eq_some_iff.1 hi).1
  have G : ∀ (j : Nat) (d : ConnS), (g.conns.set i c')[j]? = some d → ∃ d0, g.conns[j]? = some d0 ∧ d0.num = d.num := fun j d hd => by
    by_cases hj : i = j
    · subst hj
      rw [List.getElem?_set_self hl] at hd
      cases hd
      exact ⟨c, hi, hn.symm⟩
    · rw [List.getElem?_set_ne hj] at hd
      exact ⟨d, hd, rfl⟩
  refine ⟨by simp [GateS.upd]; exact ok.few, ok.tens, fun j k d e hd he hde => ?_, fun d hd => ?_, ok.top⟩
  · obtain ⟨d0, h1, h2⟩ := G j d hd
    obtain ⟨e0, h3, h4⟩ := G k e he
    exact ok.nums j k d0 e0 h1 h3 (by rw [h2, h4, hde])
  · obtain ⟨j, hj⟩ := List.getElem?_of_mem hd
    obtain ⟨d0, h1, h2⟩ := G j d hj
    rw [← h2]
    exact ok.past d0 (List.mem_of_getElem? h1)
theorem AtConn.upd {r r' : Rl} {B : Nat} {w w' : World} {gb : Nat} {g : GateS} {i cb : Nat} {c c' : ConnS} (h : AtConn r B w gb g i cb c) (hn : c'.num = c.num) (hc : ConnRep r' B w' cb c')
    (hs : ∀ b k, r b = some k → k ≠ .conn c.num → k ≠ .wait c.num → r' b = r b ∧ SameAt w w' b) (hlt : ∀ b, r' b ≠ none → b < w'.heap.size ∧ B ≤ b) : AtConn r' B w' gb (g.upd i c') i cb c' := by
  obtain ⟨cv, cbs, h1, h2, h3, h4, h5⟩ := h.con
  have hl : i < g.conns.length := (List.getElem?_eq_some_iff.1 h.hi).1
  have hg := h.rep.role
  refine ⟨h.rep.upd h.ok h1 h2 h3 h4 h.hi h5 hc hs hlt, h.ok.upd h.hi hn, by simp [GateS.upd, hl], cv, cbs, ?_, ?_, ?_, ?_, h5⟩
  · rw [(hs gb _ hg (by simp) (by simp)).2.cell]; exact h1
  · exact owns_same h2 fun k hk => (hs k _ (h3 k hk) (by simp) (by simp)).2
  · exact fun k hk => by rw [(hs k _ (h3 k hk) (by simp) (by simp)).1]; exact h3 k hk
  · refine h4.upd h.hi h5 hc fun j d hj hd b hbr => ?_
    have hne : d.num ≠ c.num := fun e => hj (h.ok.nums j i d c hd h.hi e)
    rcases hbr with hbr | hbr
    · exact hs b _ hbr (fun e => hne (by injection e)) (by simp)
    · exact hs b _ hbr (by simp) (fun e => hne (by injection e))
theorem AtConn.stays {r : Rl} {B : Nat} {w w' : World} {gb : Nat} {g : GateS} {i cb : Nat} {c : ConnS} (h : AtConn r B w gb g i cb c) (q : Q w w') : AtConn r B w' gb g i cb c := by
  obtain ⟨cv, cbs, h1, h2, h3, h4, h5⟩ := h.con
  have S : ∀ b k, r b = some k → SameAt w w' b := fun b k hb => q.sameAt (h.rep.lt b (by rw [hb]; simp))
  exact ⟨h.rep.stays q, h.ok, h.hi, cv, cbs, q.cell h1, owns_Q h2 q, h3, h4.same fun c _ b hb => ⟨rfl, by rcases hb with hb | hb <;> exact S b _ hb⟩, h5⟩

/-- A cell of the connection's own block is another one now. -/
theorem AtConn.set {r : Rl} {B : Nat} {w : World} {gb : Nat} {g : GateS} {i cb : Nat} {c c' : ConnS} (h : AtConn r B w gb g i cb c) (hn : c'.num = c.num) (o : Nat) (u : Value) (hc : ConnRep r B (w.setCell ⟨cb, o, none⟩ u) cb c') : AtConn r B (w.setCell ⟨cb, o, none⟩ u) gb (g.upd i c') i cb c' := by
  have hr := h.conn.role
  refine h.upd hn hc (fun b k hb h1 _ => ⟨rfl, set_same_at fun e => ?_⟩) (fun b hb => ⟨by simp; exact h.rep.lt b hb, h.rep.low b hb⟩)
  subst e
  rw [hr] at hb
  cases hb
  exact h1 rfl
theorem ConnRep.setCell {r : Rl} {B : Nat} {w : World} {cb : Nat} {c : ConnS} (_h : ConnRep r B w cb c) (o : Nat) (u : Value) : (∀ p, p ≠ o → (w.setCell ⟨cb, o, none⟩ u).cell? ⟨cb, p, none⟩ = w.cell? ⟨cb, p, none⟩) ∧ (∀ v, w.cell? ⟨cb, o, none⟩ = some v → (w.setCell ⟨cb, o, none⟩ u).cell? ⟨cb, o, none⟩ = some u) :=
  ⟨fun p hp => set_other (fun e => by injection e with _ e2; exact hp e2.symm), fun v hv => set_same hv⟩
theorem ConnRep.wait_far {r : Rl} {B : Nat} {w : World} {cb : Nat} {c : ConnS} (h : ConnRep r B w cb c) {wv : Value} (hw : ∀ k, wv.ownBlock = some k → r k = some (.wait c.num)) : ∀ k, wv.ownBlock = some k → k ≠ cb := fun k hk e => by
  have := hw k hk
  rw [e, h.role] at this
  cases this
theorem AtConn.heard {r : Rl} {B : Nat} {w : World} {gb : Nat} {g : GateS} {i cb : Nat} {c : ConnS} (h : AtConn r B w gb g i cb c) : AtConn r B (w.setCell ⟨cb, 1, none⟩ (.int .i64 0)) gb (g.upd i { c with silent := 0 }) i cb { c with silent := 0 } := by
  have hc := h.conn
  obtain ⟨s1, s2⟩ := hc.setCell 1 (.int .i64 0)
  obtain ⟨wv, w1, w2, w3⟩ := hc.wt
  refine h.set (c' := { c with silent := 0 }) rfl 1 _ ⟨hc.role, by rw [s1 0 (by decide)]; exact hc.c0, s2 _ hc.c1, by rw [s1 2 (by decide)]; exact hc.c2, by rw [s1 4 (by decide)]; exact hc.c4, by rw [s1 5 (by decide)]; exact hc.c5, obj_set hc.obj, wv, by rw [s1 3 (by decide)]; exact w1, owns_same w2 fun k hk => set_same_at (hc.wait_far w3 k hk), w3⟩
theorem AtConn.stage {r : Rl} {B : Nat} {w : World} {gb : Nat} {g : GateS} {i cb : Nat} {c : ConnS} (h : AtConn r B w gb g i cb c) (n : Nat) : AtConn r B (w.setCell ⟨cb, 2, none⟩ (.int .i64 (n : Int))) gb (g.upd i { c with stage := n }) i cb { c with stage := n } := by
  have hc := h.conn
  obtain ⟨s1, s2⟩ := hc.setCell 2 (.int .i64 (n : Int))
  obtain ⟨wv, w1, w2, w3⟩ := hc.wt
  refine h.set (c' := { c with stage := n }) rfl 2 _ ⟨hc.role, by rw [s1 0 (by decide)]; exact hc.c0, by rw [s1 1 (by decide)]; exact hc.c1, s2 _ hc.c2, by rw [s1 4 (by decide)]; exact hc.c4, by rw [s1 5 (by decide)]; exact hc.c5, obj_set hc.obj, wv, by rw [s1 3 (by decide)]; exact w1, owns_same w2 fun k hk => set_same_at (hc.wait_far w3 k hk), w3⟩

theorem AtConn.silentTo {r : Rl} {B : Nat} {w : World} {gb : Nat} {g : GateS} {i cb : Nat} {c : ConnS} (h : AtConn r B w gb g i cb c) (n : Int) : AtConn r B (w.setCell ⟨cb, 1, none⟩ (.int .i64 n)) gb (g.upd i { c with silent := n }) i cb { c with silent := n } := by
  have hc := h.conn
  obtain ⟨s1, s2⟩ := hc.setCell 1 (.int .i64 n)
  obtain ⟨wv, w1, w2, w3⟩ := hc.wt
  refine h.set (c' := { c with silent := n }) rfl 1 _ ⟨hc.role, by rw [s1 0 (by decide)]; exact hc.c0, s2 _ hc.c1, by rw [s1 2 (by decide)]; exact hc.c2, by rw [s1 4 (by decide)]; exact hc.c4, by rw [s1 5 (by decide)]; exact hc.c5, obj_set hc.obj, wv, by rw [s1 3 (by decide)]; exact w1, owns_same w2 fun k hk => set_same_at (hc.wait_far w3 k hk), w3⟩
theorem AtConn.endsC {r : Rl} {B : Nat} {w : World} {gb : Nat} {g : GateS} {i cb : Nat} {c : ConnS} (h : AtConn r B w gb g i cb c) (n : Bool) : AtConn r B (w.setCell ⟨cb, 4, none⟩ (.bool n)) gb (g.upd i { c with noMore := n }) i cb { c with noMore := n } := by
  have hc := h.conn
  obtain ⟨s1, s2⟩ := hc.setCell 4 (.bool n)
  obtain ⟨wv, w1, w2, w3⟩ := hc.wt
  refine h.set (c' := { c with noMore := n }) rfl 4 _ ⟨hc.role, by rw [s1 0 (by decide)]; exact hc.c0, by rw [s1 1 (by decide)]; exact hc.c1, by rw [s1 2 (by decide)]; exact hc.c2, s2 _ hc.c4, by rw [s1 5 (by decide)]; exact hc.c5, obj_set hc.obj, wv, by rw [s1 3 (by decide)]; exact w1, owns_same w2 fun k hk => set_same_at (hc.wait_far w3 k hk), w3⟩
theorem AtConn.endsH {r : Rl} {B : Nat} {w : World} {gb : Nat} {g : GateS} {i cb : Nat} {c : ConnS} (h : AtConn r B w gb g i cb c) (n : Bool) : AtConn r B (w.setCell ⟨cb, 5, none⟩ (.bool n)) gb (g.upd i { c with hostEnd := n }) i cb { c with hostEnd := n } := by
  have hc := h.conn
  obtain ⟨s1, s2⟩ := hc.setCell 5 (.bool n)
  obtain ⟨wv, w1, w2, w3⟩ := hc.wt
  refine h.set (c' := { c with hostEnd := n }) rfl 5 _ ⟨hc.role, by rw [s1 0 (by decide)]; exact hc.c0, by rw [s1 1 (by decide)]; exact hc.c1, by rw [s1 2 (by decide)]; exact hc.c2, by rw [s1 4 (by decide)]; exact hc.c4, s2 _ hc.c5, obj_set hc.obj, wv, by rw [s1 3 (by decide)]; exact w1, owns_same w2 fun k hk => set_same_at (hc.wait_far w3 k hk), w3⟩

/-- What waits is another row now: new memory, or the old row grown. -/
theorem AtConn.waits {r : Rl} {B : Nat} {w w1 : World} {gb : Nat} {g : GateS} {i cb : Nat} {c : ConnS} (h : AtConn r B w gb g i cb c) {wv v' : Value} (hwv : w.cell? ⟨cb, 3, none⟩ = some wv) (hwr : ∀ k, wv.ownBlock = some k → r k = some (.wait c.num)) (l : List UInt8)
    (hown : w1.ownsRow B 5 1 v' l.length (bvals l)) (hg : w.grownBy w1 wv.ownBlock) (hat : ∀ k, v'.ownBlock = some k → wv.ownBlock = some k ∨ w.heap.size ≤ k) :
    ∃ r', AtConn r' B (w1.setCell ⟨cb, 3, none⟩ v') gb (g.upd i { c with wait := l }) i cb { c with wait := l } ∧ Fr r w (w1.setCell ⟨cb, 3, none⟩ v') ∧ Grows r w r' ∧ (∀ b, w.heap.size ≤ b → r' b ≠ none → v'.ownBlock = some b) := by
  have hc := h.conn
  have hcbl : cb < w.heap.size := Q.lt hwv
  have hne : ∀ k, wv.ownBlock = some k → k ≠ cb := hc.wait_far hwr
  have hcb : SameAt w w1 cb := hg.block cb hcbl (fun e => hne cb e.symm rfl)
  have hvl := owns_lt hown
  have hvne : ∀ k, v'.ownBlock = some k → k ≠ cb := fun k hk e => by
    rcases hat k hk with h1 | h1
    · exact hne k h1 e
    · omega
  have hS : ∀ b k, r b = some k → k ≠ .conn c.num → k ≠ .wait c.num → SameAt w (w1.setCell ⟨cb, 3, none⟩ v') b := fun b k hb h1 h2 => by
    have hb1 : b ≠ cb := fun e => by
      subst e
      rw [hc.role] at hb
      cases hb
      exact h1 rfl
    have hb2 : some b ≠ wv.ownBlock := fun e => by
      have := hwr b e.symm
      rw [this] at hb
      cases hb
      exact h2 rfl
    exact (set_same_at hb1).trans (hg.block b (h.rep.lt b (by rw [hb]; simp)) hb2)
  refine ⟨fun b => if v'.ownBlock = some b then some (.wait c.num) else r b, ?_, ?_, ?_, ?_⟩
  · refine h.upd (c' := { c with wait := l }) rfl ?_ (fun b k hb h1 h2 => ⟨?_, hS b k hb h1 h2⟩) (fun b hb => ?_)
    · refine ⟨?_, ?_, ?_, ?_, ?_, ?_, ?_, v', ?_, ?_, ?_⟩
      · show (if v'.ownBlock = some cb then some (.wait c.num) else r cb) = _
        rw [if_neg (fun e => hvne cb e rfl)]; exact hc.role
      · rw [set_other (fun e => by injection e with _ e2; cases e2), hcb.cell]; exact hc.c0
      · rw [set_other (fun e => by injection e with _ e2; cases e2), hcb.cell]; exact hc.c1
      · rw [set_other (fun e => by injection e with _ e2; cases e2), hcb.cell]; exact hc.c2
      · rw [set_other (fun e => by injection e with _ e2; cases e2), hcb.cell]; exact hc.c4
      · rw [set_other (fun e => by injection e with _ e2; cases e2), hcb.cell]; exact hc.c5
      · obtain ⟨cs, t, ho⟩ := hc.obj
        exact obj_set ⟨cs, t, by rw [hcb]; exact ho⟩
      · exact set_same (u := wv) (by rw [hcb.cell]; exact hwv)
      · exact owns_same hown fun k hk => set_same_at (hvne k hk)
      · intro k hk
        show (if v'.ownBlock = some k then some (.wait c.num) else r k) = _
        rw [if_pos hk]
    · show (if v'.ownBlock = some b then some (.wait c.num) else r b) = r b
      rw [if_neg]
      intro e
      rcases hat b e with h3 | h3
      · have := hwr b h3
        rw [this] at hb
        cases hb
        exact h2 rfl
      · have := h.rep.lt b (by rw [hb]; simp)
        omega
    · by_cases e : v'.ownBlock = some b
      · have := hvl b e
        exact ⟨by simp; exact this.2, this.1⟩
      · have hb' : r b ≠ none := by simpa [e] using hb
        exact ⟨by have := h.rep.lt b hb'; have := hg.size; simp; omega, h.rep.low b hb'⟩
  · refine ⟨hg.os, hg.tape, hg.output, by have := hg.size; simp; omega, fun k hk hr => ?_⟩
    have h1 : k ≠ cb := fun e => by rw [e, hc.role] at hr; cases hr
    have h2 : some k ≠ wv.ownBlock := fun e => by rw [hwr k e.symm] at hr; cases hr
    exact (set_same_at h1).trans (hg.block k hk h2)
  · refine ⟨fun b hb => ?_, fun b hb => ?_⟩
    · by_cases e : v'.ownBlock = some b
      · rcases hat b e with h3 | h3
        · exact .inl (by rw [hwr b h3]; simp)
        · exact .inr h3
      · exact .inl (by simpa [e] using hb)
    · by_cases e : v'.ownBlock = some b
      · simp [e]
      · simpa [e] using hb
  · intro b hb hr
    by_cases e : v'.ownBlock = some b
    · exact e
    · have hb' : r b ≠ none := by simpa [e] using hr
      have := h.rep.lt b hb'
      omega
end Go.Proofs.YtdmaffciijmdcaaGreatDoor
/-
  Package turnpike: wait, takeHead.
-/
namespace Go.Proofs.YtdmaffciijmdcaaGreatDoor
open Go.RowKit Plain

theorem append_str_lies (w : World) (B : Nat) (v : Value) (l : List UInt8) (s : ByteArray) (hown : w.ownsRow B 5 1 v l.length (bvals l)) (hb : l.length + s.size ≤ 4398046511104) (hB : B ≤ w.heap.size) :
    ∃ v' w', (Builtin.append_ #[99, 9] 99 #[v, .string s]).run Tryz.prog w = .ok v' w' ∧ w'.ownsRow B 5 1 v' (l ++ s.data.toList).length (bvals (l ++ s.data.toList)) ∧ w.grownBy w' v.ownBlock ∧ ∀ k, v'.ownBlock = some k → v.ownBlock = some k ∨ w.heap.size ≤ k := by
  obtain ⟨v', w', hr, h2, h3, h4⟩ := Lib.run_append_own_string (P := Tryz.prog) w B 99 9 99 5 Tryz.t5 Tryz.underlying99 Tryz.underlying9 (by kernel_rfl) (by kernel_rfl) (by kernel_rfl) (by kernel_rfl) v l.length (bvals l) hown s (by unfold maxLen; omega) (by omega) hB
  refine ⟨v', w', hr, ?_, h3, ?_⟩
  · rw [bvals_append, List.length_append, size_len]
    exact h2
  · intro k hk
    rcases hown.2 with ⟨rfl, hn⟩ | ⟨g, cap, cur, rfl, hbg, hg, hnc, hcm, hcs, htake⟩
    · by_cases hm : s.size = 0
      · rw [h4.2 ⟨rfl, hm⟩] at hk
        cases hk
      · have hr2 := run_append_nil_string (P := Tryz.prog) w 99 9 99 5 Tryz.t5 (.int .u8 0) Tryz.underlying99 Tryz.underlying9 (by kernel_rfl) (by kernel_rfl) s (by omega) (by omega) (by show _ * 1 ≤ _; omega)
        rw [hr] at hr2
        injection hr2 with e1 _
        rw [e1] at hk
        simp [Value.ownBlock] at hk
        exact .inr (by omega)
    · by_cases hroom : l.length + s.size ≤ cap
      · have hr2 := Lib.run_append_room_string (P := Tryz.prog) w 99 9 99 5 Tryz.t5 Tryz.underlying99 Tryz.underlying9 (by kernel_rfl) (by kernel_rfl) g l.length cap cur hg s hroom (by omega)
        rw [hr] at hr2
        injection hr2 with e1 _
        rw [e1] at hk
        exact .inl hk
      · have holds : ∀ j u, (bvals l)[j]? = some u → w.cell? ((⟨g, 0, none⟩ : Addr).add j) = some u := hown.cells (g := g) rfl
        have hr2 := Lib.run_append_grow_string (P := Tryz.prog) w 99 9 99 5 Tryz.t5 (.int .u8 0) Tryz.underlying99 Tryz.underlying9 (by kernel_rfl) (by kernel_rfl) ⟨g, 0, none⟩ l.length cap (bvals l) (by rw [bvals_len]; exact (Nat.mul_one _).symm) holds s (by omega) (by omega) (by show Builtin.nextslicecap _ _ * 1 ≤ _; exact growslice_fits (by omega) (by omega))
        rw [hr] at hr2
        injection hr2 with e1 _
        rw [e1] at hk
        simp [Value.ownBlock] at hk
        exact .inr (by omega)

/-- A step on one connection. -/
def ConnStep (r : Rl) (B : Nat) (w : World) (gb : Nat) (g : GateS) (i cb : Nat) (c' : ConnS) (w' : World) : Prop :=
  ∃ r', AtConn r' B w' gb (g.upd i c') i cb c' ∧ Fr r w w' ∧ Grows r w r'

set_option maxRecDepth 100000 in
set_option maxHeartbeats 800000 in
theorem wait_any {r : Rl} {B : Nat} {w : World} {gb : Nat} {g : GateS} {i cb : Nat} {c : ConnS} (h : AtConn r B w gb g i cb c) (s : ByteArray) (hl : c.wait.length + s.size ≤ 4398046511104) (hB : B ≤ w.heap.size) :
    Calls Tryz.prog 54 #[ptr cb, .string s] w fun e w' => e = .returned (.tuple #[]) ∧ ConnStep r B w gb g i cb { c with wait := c.wait ++ s.data.toList } w' := by
  have hc := h.conn
  obtain ⟨wv, w1, w2, w3⟩ := hc.wt
  obtain ⟨v', w', hr, ho, hg, hat⟩ := append_str_lies w B wv c.wait s w2 hl hB
  have HW := show Hid _ from h.waits w1 w3 (c.wait ++ s.data.toList) ho hg hat
  have hcl : cb < w.heap.size := Q.lt w1
  have hne : some cb ≠ wv.ownBlock := fun e => hc.wait_far w3 cb e.symm rfl
  have x3 : w'.cell? ⟨cb, 3, none⟩ = some wv := by rw [hg.cell_far ⟨cb, 3, none⟩ hcl hne]; exact w1
  have f3 : w'.frozen? ⟨cb, 3, none⟩ = false := by rw [hg.frozen_far ⟨cb, 3, none⟩ hcl hne]; exact hc.fz 3
  have hform : ∃ o n k, wv = .slice o n k := by
    rcases w2.2 with ⟨e, _⟩ | ⟨g, cap, cur, e, _⟩ <;> exact ⟨_, _, _, e⟩
  obtain ⟨vo, vn, vk, rfl⟩ := hform
  have hform' : ∃ o n k, v' = .slice o n k := by
    rcases ho.2 with ⟨e, _⟩ | ⟨g, cap, cur, e, _⟩ <;> exact ⟨_, _, _, e⟩
  obtain ⟨uo, un, uk, rfl⟩ := hform'
  have HR := show Hid _ from hr
  clear hc w2 w3 ho hg hat hne h hr
  go_enter Tryz.func54, Tryz.ntmps54
  go_wp2_with (first | (at_builtin; refine wpList_append_run rfl (.tmp 8) (.tmp 9) 99 9 rfl (.slice vo vn vk) (.string s) (.slice uo un uk) w' rfl rfl HR.out ?_))
  go_end0
  obtain ⟨r', k1, k2, k3, _⟩ := HW.out
  exact ⟨rfl, r', k1, k2, k3⟩
end Go.Proofs.YtdmaffciijmdcaaGreatDoor
/-
  Package turnpike: takeHead.
-/
namespace Go.Proofs.YtdmaffciijmdcaaGreatDoor
open Go.RowKit Plain

theorem owns_base {w : World} {B B' : Nat} {e : TypeId} {size : Nat} {v : Value} {n : Nat} {xs : List Value} (h : w.ownsRow B e size v n xs) (hb : B' ≤ B) : w.ownsRow B' e size v n xs := by
  refine ⟨h.1, ?_⟩
  rcases h.2 with hn | ⟨g, cap, cur, hv, hg, t⟩
  · exact .inl hn
  · exact .inr ⟨g, cap, cur, hv, Nat.le_trans hb hg, t⟩

def TakePost (r : Rl) (B : Nat) (gb : Nat) (g : GateS) (i cb : Nat) (c : ConnS) (w : World) (e : Ending) (w' : World) : Prop :=
  (cutHead c.wait = none ∧ e = .returned (.tuple #[str [], .bool false]) ∧ Q w w') ∨ ∃ h rest, cutHead c.wait = some (h, rest) ∧ e = .returned (.tuple #[str h, .bool true]) ∧ ConnStep r B w gb g i cb { c with wait := rest } w'

theorem cut_lens {l h rest : List UInt8} (hc : cutHead l = some (h, rest)) : h.length ≤ 1000 ∧ rest.length ≤ l.length := by
  unfold cutHead at hc
  split at hc
  · rename_i hi
    cases hc
    have := Lib.index_room (l.take 1000) endB hi
    have h4 : endB.length = 4 := rfl
    rw [h4, List.length_take] at this
    simp only [List.length_take, List.length_drop]
    omega
  · split at hc
    · cases hc
    · cases hc
      simp
      omega

set_option maxRecDepth 100000 in
set_option maxHeartbeats 1600000 in
theorem takeHead_any {r : Rl} {B : Nat} {w : World} {gb : Nat} {g : GateS} {i cb : Nat} {c : ConnS} (h : AtConn r B w gb g i cb c) (hm : ML w) (hl : c.wait.length ≤ 4398046511104) (hB : B ≤ w.heap.size) :
    Calls Tryz.prog 55 #[ptr cb] w fun e w' => TakePost r B gb g i cb c w e w' := by
  have hc := h.conn
  obtain ⟨wv, x1, x2, x3⟩ := hc.wt
  have HCut := show Hid _ from cut_any (fun k => wv.ownBlock = some k) c.wait wv w (BytesIn.own x2) hm hl
  have HWt : ∀ (w2 : World) (v' : Value) (l : List UInt8), w2.ownsRow B 5 1 v' l.length (bvals l) → Q w w2 → (∀ k, v'.ownBlock = some k → w.heap.size ≤ k) → Hid (ConnStep r B w gb g i cb { c with wait := l } (w2.setCell ⟨cb, 3, none⟩ v')) := fun w2 v' l ho q hk => by
    obtain ⟨r', k1, k2, k3, _⟩ := h.waits x1 x3 l ho (q.grow _) (fun k e => .inr (hk k e))
    exact ⟨r', k1, k2, k3⟩
  have hcl : cb < w.heap.size := Q.lt x1
  have hfz := hc.fz 3
  have HOL := show Hid _ from owns_lt x2
  have hform : ∃ o n k, wv = .slice o n k := by
    rcases x2.2 with ⟨e, _⟩ | ⟨g, cap, cur, e, _⟩ <;> exact ⟨_, _, _, e⟩
  obtain ⟨vo, vn, vk, rfl⟩ := hform
  clear hc x2 x3 h hm
  go_enter Tryz.func55, Tryz.ntmps55
  go_wp2_with fail
  refine Calls.mono (Hid.out HCut) ?_
  rintro e w1 ⟨hq1, ⟨hcut, rfl⟩ | ⟨hd, rest, rv, hcut, rfl, hrv⟩⟩
  · have HC := show Hid _ from hcut
    clear hcut HCut HWt
    unfold str
    go_wp2_with fail
    go_ret2
    exact .inl ⟨HC.out, rfl, hq1⟩
  · have HC := show Hid _ from hcut
    have hlen := (cut_lens hcut).2
    have y3 : w1.cell? ⟨cb, 3, none⟩ = some (.slice vo vn vk) := hq1.cell x1
    clear hcut HCut
    unfold str
    rcases hrv with ⟨rfl, hre⟩ | ⟨gr, o, cc, rfl, hS, hlc, hcells⟩
    · have HS := HWt w1 (.slice none 0 0) rest (by rw [hre]; exact ⟨rfl, .inl ⟨rfl, rfl⟩⟩) hq1 (fun k e => by cases e)
      have f3 : w1.frozen? ⟨cb, 3, none⟩ = false := by rw [hq1.cells.2 _ _ hcl]; exact hfz
      clear HWt hre
      go_wp2_with (first | (go_at_call 94; refine (Tryz.bytes_Clone_nil 0 0 _).mono ?_; rintro e w' ⟨rfl, rfl⟩))
      go_ret2
      exact .inr ⟨hd, rest, HC.out, rfl, HS.out⟩
    · have HCl := show Hid _ from Tryz.bytes_Clone_at ⟨gr, o, none⟩ rest.length cc (nums rest) w1 (nums_len rest) (by omega) (fun j hj => by
        have e : (⟨gr, o, none⟩ : Addr).add j = ⟨gr, o + j, none⟩ := by unfold Addr.add; split <;> simp_all
        rw [e, hcells j hj, nums_get])
      clear hcells
      go_wp2_with fail
      refine Calls.mono (Hid.out HCl) ?_
      rintro e w2 ⟨v', rfl, hown, hnn, hb2⟩
      have hq2 : Q w1 w2 := hb2
      have hbv : (nums rest).map (Value.int .u8) = bvals rest := by
        unfold nums bvals
        rw [List.map_map]; rfl
      rw [hbv] at hown
      have HS := HWt w2 v' rest (owns_base hown (Nat.le_trans hB hq1.size)) (hq1.trans hq2) (fun k e => Nat.le_trans hq1.size (owns_lt hown k e).1)
      have z3 : w2.cell? ⟨cb, 3, none⟩ = some (.slice vo vn vk) := hq2.cell y3
      have f3 : w2.frozen? ⟨cb, 3, none⟩ = false := by rw [(hq1.trans hq2).cells.2 _ _ hcl]; exact hfz
      have hform' : ∃ o n k, v' = .slice o n k := by
        rcases hown.2 with ⟨e, _⟩ | ⟨g, cap, cur, e, _⟩ <;> exact ⟨_, _, _, e⟩
      obtain ⟨uo, un, uk, rfl⟩ := hform'
      clear HWt HCl hown hnn hb2 hbv y3 x1
      go_wp2_with fail
      go_ret2
      exact .inr ⟨hd, rest, HC.out, rfl, HS.out⟩
end Go.Proofs.YtdmaffciijmdcaaGreatDoor

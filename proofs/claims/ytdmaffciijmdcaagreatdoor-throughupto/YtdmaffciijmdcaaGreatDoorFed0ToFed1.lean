/-
  Plain: what stays of a gateway through a client's bytes; a text that goes in piece by piece.
-/
import Derived.Test.YtdmaffciijmdcaaGreatDoorGate12ToMath1
import Derived.Test.YtdmaffciijmdcaaGreatDoorHMath2ToHMath3
namespace Go.Proofs.YtdmaffciijmdcaaGreatDoor
open Go.RowKit Plain

theorem nums_nodup {l : List ConnS} (h : ∀ (i j : Nat) (c d : ConnS), l[i]? = some c → l[j]? = some d → c.num = d.num → i = j) : (l.map (·.num)).Nodup := by
  rw [List.Nodup, List.pairwise_iff_getElem]
  intro i j hi hj hij e
  simp only [List.length_map] at hi hj
  simp only [List.getElem_map] at e
  have := h i j _ _ (List.getElem?_eq_getElem hi) (List.getElem?_eq_getElem hj) e
  omega
theorem nodup_nums {l : List ConnS} (h : (l.map (·.num)).Nodup) (i j : Nat) (c d : ConnS) (hi : l[i]? = some c) (hj : l[j]? = some d) (e : c.num = d.num) : i = j := by
  rw [List.Nodup, List.pairwise_iff_getElem] at h
  obtain ⟨li, rfl⟩ := List.getElem?_eq_some_iff.1 hi
  obtain ⟨lj, rfl⟩ := List.getElem?_eq_some_iff.1 hj
  rcases Nat.lt_trichotomy i j with h1 | h1 | h1
  · exact absurd (show (l.map (·.num))[i]'(by simpa using li) = (l.map (·.num))[j]'(by simpa using lj) by rw [List.getElem_map, List.getElem_map]; exact e) (h i j (by simpa using li) (by simpa using lj) h1)
  · exact h1
  · exact absurd (show (l.map (·.num))[j]'(by simpa using lj) = (l.map (·.num))[i]'(by simpa using li) by rw [List.getElem_map, List.getElem_map]; exact e.symm) (h j i (by simpa using lj) (by simpa using li) h1)
theorem GOk.drop {g : GateS} (ok : GOk g) (n : Nat) : GOk (g.drop n) := by
  refine ⟨Nat.le_trans (List.length_filter_le _ _) ok.few, ok.tens, ?_, fun c hc => ok.past c (List.mem_filter.1 hc).1, ok.top⟩
  exact nodup_nums ((nums_nodup ok.nums).sublist ((List.filter_sublist).map _))
theorem answerS_ok {g : GateS} (ok : GOk g) {i : Nat} {c c' : ConnS} (hi : g.conns[i]? = some c') (hn : c.num = c'.num) (h : List UInt8) : GOk (answerS g i c h).1 := by
  unfold answerS
  split
  · exact ok.drop _
  · exact ok.upd hi hn
theorem upd_get {g : GateS} {i : Nat} {c d : ConnS} (hi : g.conns[i]? = some c) : (g.upd i d).conns[i]? = some d := by
  have hl : i < g.conns.length := (List.getElem?_eq_some_iff.1 hi).1
  simp [GateS.upd, hl]
theorem clientAt_ok {g : GateS} (ok : GOk g) {i : Nat} {c : ConnS} (hi : g.conns[i]? = some c) (s : List UInt8) : GOk (clientAt g i c s).1 := by
  unfold clientAt
  split
  · exact ok.upd hi rfl
  · split
    · exact ok.upd hi rfl
    · split
      · exact ok.upd hi rfl
      · rename_i hd rest _
        exact answerS_ok (c' := { c with silent := 0, wait := rest }) (ok.upd (c' := { c with silent := 0, wait := rest }) hi rfl) (upd_get hi) rfl _
theorem sendS_len (k n : Int) (s : List UInt8) : (sendS k n s).length ≤ 1 := by unfold sendS; split <;> simp
theorem answerS_len (g : GateS) (i : Nat) (c : ConnS) (h : List UInt8) : (answerS g i c h).2.length ≤ 2 := by
  unfold answerS
  split
  · rename_i r _
    have := sendS_len 2 c.num r
    simp only [List.length_append, List.length_singleton]
    omega
  · simp
theorem clientAt_len (g : GateS) (i : Nat) (c : ConnS) (s : List UInt8) : (clientAt g i c s).2.length ≤ 2 := by
  unfold clientAt
  split
  · exact Nat.le_trans (sendS_len _ _ _) (by decide)
  · split
    · simp
    · split
      · simp
      · exact answerS_len _ _ _ _
theorem upd_mem {g : GateS} {i : Nat} {c d : ConnS} (h : d ∈ (g.upd i c).conns) : d ∈ g.conns ∨ d = c := List.mem_or_eq_of_mem_set h
theorem clientAt_waits {g : GateS} {i : Nat} {c : ConnS} (s : List UInt8) {d : ConnS} (h : d ∈ (clientAt g i c s).1.conns) : d ∈ g.conns ∨ d.wait.length ≤ c.wait.length + s.length := by
  have step : ∀ {c' : ConnS}, d ∈ (g.upd i c').conns → c'.wait.length ≤ c.wait.length + s.length → d ∈ g.conns ∨ d.wait.length ≤ c.wait.length + s.length := fun {c'} hd hc => by
    rcases upd_mem hd with h1 | h1
    · exact .inl h1
    · rw [h1]; exact .inr hc
  unfold clientAt at h
  split at h
  · exact step h (Nat.le_add_right _ _)
  · split at h
    · exact step h (by simp)
    · split at h
      · exact step h (by simp)
      · rename_i hd rest hcut
        have hl := (cut_lens hcut).2
        simp only [List.length_append] at hl
        unfold answerS at h
        split at h
        · exact step (List.mem_filter.1 h).1 hl
        · rw [upd_upd] at h
          exact step h hl
theorem clientAt_opens {g : GateS} {i : Nat} {c : ConnS} (s : List UInt8) (hc : c.noMore = false) (hg : ∀ d ∈ g.conns, d.noMore = false) : ∀ d ∈ (clientAt g i c s).1.conns, d.noMore = false := by
  intro d h
  have step : ∀ {c' : ConnS}, d ∈ (g.upd i c').conns → c'.noMore = false → d.noMore = false := fun {c'} hd hc => by
    rcases upd_mem hd with h1 | h1
    · exact hg d h1
    · rw [h1]; exact hc
  unfold clientAt at h
  split at h
  · exact step h hc
  · split at h
    · exact step h hc
    · split at h
      · exact step h hc
      · unfold answerS at h
        split at h
        · exact step (List.mem_filter.1 h).1 hc
        · rw [upd_upd] at h
          exact step h hc
theorem clientAt_last (g : GateS) (i : Nat) (c : ConnS) (s : List UInt8) : (clientAt g i c s).1.rules = g.rules ∧ (clientAt g i c s).1.tens = g.tens ∧ (clientAt g i c s).1.minute = g.minute ∧ (clientAt g i c s).1.last = g.last := by
  unfold clientAt
  split
  · exact ⟨rfl, rfl, rfl, rfl⟩
  · split
    · exact ⟨rfl, rfl, rfl, rfl⟩
    · split
      · exact ⟨rfl, rfl, rfl, rfl⟩
      · unfold answerS
        split
        · exact ⟨rfl, rfl, rfl, rfl⟩
        · exact ⟨rfl, rfl, rfl, rfl⟩

/-- A text goes in piece by piece: what has been done after k pieces. -/
inductive FedTo (n : Int) (raw : List Int) (g0 : GateS) (s0 : List UInt8) : Nat → GateS → List UInt8 → List EvS → Prop
  | start : FedTo n raw g0 s0 0 g0 s0 []
  | step {k : Nat} {g : GateS} {s : List UInt8} {out : List EvS} {i : Nat} {c : ConnS} : FedTo n raw g0 s0 k g s out → s ≠ [] → g.conns[i]? = some c → (c.num : Int) = n →
      FedTo n raw g0 s0 (k + 1) (clientAt g i c (s.take (pieceN s.length raw[k]?))).1 (s.drop (pieceN s.length raw[k]?)) (out ++ (clientAt g i c (s.take (pieceN s.length raw[k]?))).2)

theorem FedTo.ok {n : Int} {raw : List Int} {g0 : GateS} {s0 : List UInt8} (ok : GOk g0) {k : Nat} {g : GateS} {s : List UInt8} {out : List EvS} (h : FedTo n raw g0 s0 k g s out) : GOk g := by
  induction h with
  | start => exact ok
  | step _ _ hi _ ih => exact clientAt_ok ih hi _
theorem FedTo.waits {n : Int} {raw : List Int} {g0 : GateS} {s0 : List UInt8} {L : Nat} (hl : ∀ c ∈ g0.conns, c.wait.length + s0.length ≤ L) {k : Nat} {g : GateS} {s : List UInt8} {out : List EvS} (h : FedTo n raw g0 s0 k g s out) : ∀ c ∈ g.conns, c.wait.length + s.length ≤ L := by
  induction h with
  | start => exact hl
  | @step k g s out i c _ _ hi _ ih =>
    intro d hd
    have hp := (pieceN_le s.length raw[k]?).1
    rw [List.length_drop]
    rcases clientAt_waits _ hd with h1 | h1
    · have := ih d h1; omega
    · have := ih c (List.mem_of_getElem? hi)
      rw [List.length_take] at h1
      omega
theorem FedTo.opens {n : Int} {raw : List Int} {g0 : GateS} {s0 : List UInt8} (hop : ∀ c ∈ g0.conns, c.noMore = false) {k : Nat} {g : GateS} {s : List UInt8} {out : List EvS} (h : FedTo n raw g0 s0 k g s out) : ∀ c ∈ g.conns, c.noMore = false := by
  induction h with
  | start => exact hop
  | step _ _ hi _ ih => exact clientAt_opens _ (ih _ (List.mem_of_getElem? hi)) ih
theorem FedTo.few {n : Int} {raw : List Int} {g0 : GateS} {s0 : List UInt8} {k : Nat} {g : GateS} {s : List UInt8} {out : List EvS} (h : FedTo n raw g0 s0 k g s out) : out.length + 2 * s.length ≤ 2 * s0.length ∧ k + s.length ≤ s0.length := by
  induction h with
  | start => simp
  | @step k g s out i c _ hne hi _ ih =>
    obtain ⟨h1, h2⟩ := pieceN_le s.length raw[k]?
    have h3 := h2 (List.length_pos_iff.2 hne)
    have h4 := clientAt_len g i c (s.take (pieceN s.length raw[k]?))
    rw [List.length_append, List.length_drop]
    omega
end Go.Proofs.YtdmaffciijmdcaaGreatDoor
/-
  The statements' fed.
-/
namespace Go.Proofs.YtdmaffciijmdcaaGreatDoor
open Go.RowKit Plain

/-- What fed has in memory. -/
def FedAt (r0 : Rl) (B : Nat) (w0 : World) (gb : Nat) (g : GateS) (out : List EvS) (ov : Value) (wr : World) : Prop :=
  ∃ r, GwStep r0 B w0 gb r wr g ∧ EvsOut r out w0 ov wr
theorem FedAt.stays {r0 : Rl} {B : Nat} {w0 : World} {gb : Nat} {g : GateS} {out : List EvS} {ov : Value} {wr w' : World} (h : FedAt r0 B w0 gb g out ov wr) (q : Q wr w') : FedAt r0 B w0 gb g out ov w' := by
  obtain ⟨r, h1, h2, h3⟩ := h
  exact ⟨r, h1.trans (GwStep.here h1.rep q), owns_Q h2 q, h3⟩
theorem FedAt.fr {r0 : Rl} {B : Nat} {w0 : World} {gb : Nat} {g : GateS} {out : List EvS} {ov : Value} {wr : World} (h : FedAt r0 B w0 gb g out ov wr) : Fr r0 w0 wr := by
  obtain ⟨r, h1, _⟩ := h
  exact h1.fr
/-- More events behind those that are there. -/
theorem FedAt.more {r0 r r' : Rl} {B : Nat} {w0 w1 w2 w3 : World} {gb : Nat} {g g' : GateS} {out l : List EvS} {ov v' : Value} (hs : GwStep r0 B w0 gb r w1 g) (ho : EvsOut r out w0 ov w1) (hs2 : GwStep r B w1 gb r' w2 g')
    (hown : w3.ownsRow w0.heap.size 48 4 v' (out.length + l.length) (evVals out ++ evVals l)) (hg : w2.grownBy w3 ov.ownBlock) (hat : v'.ownBlock = ov.ownBlock ∨ v'.ownBlock = some w2.heap.size) : FedAt r0 B w0 gb g' (out ++ l) v' w3 := by
  have hbl := fun k hk => owns_lt ho.1 k hk
  have hr' : ∀ k, ov.ownBlock = some k → r' k = none := fun k hk => by
    cases hx : r' k with
    | none => rfl
    | some x =>
      rcases hs2.gr.1 k (by rw [hx]; simp) with h1 | h1
      · exact absurd (ho.2 k hk) h1
      · have := (hbl k hk).2; omega
  have hrep3 : GwRep r' B w3 gb g' := hs2.rep.same (fun b hb => hg.block b (hs2.rep.lt b hb) (fun e => hb (hr' b e.symm))) hg.size
  have h02 := hs.trans hs2
  refine ⟨r', ⟨hrep3, ⟨hg.os.trans h02.fr.os, hg.tape.trans h02.fr.tape, hg.output.trans h02.fr.output, Nat.le_trans h02.fr.size hg.size, fun k hk hn => ?_⟩, h02.gr⟩, ?_, ?_⟩
  · exact (hg.block k (Nat.lt_of_lt_of_le hk h02.fr.size) (fun e => by have := (hbl k e.symm).1; omega)).trans (h02.fr.block k hk hn)
  · rw [List.length_append, evVals_append]; exact hown
  · intro k hk
    rcases hat with h1 | h1
    · exact hr' k (by rw [← h1]; exact hk)
    · rw [h1] at hk
      cases hk
      exact sized hs2.rep (Nat.le_refl _)
theorem evs_kept {r r' : Rl} {B : Nat} {w0 w1 w2 : World} {gb : Nat} {g' : GateS} {out : List EvS} {ov : Value} (ho : EvsOut r out w0 ov w1) (hs : GwStep r B w1 gb r' w2 g') : EvsOut r' out w0 ov w2 := by
  have hbl := fun k hk => owns_lt ho.1 k hk
  refine ⟨owns_same ho.1 fun k hk => hs.fr.block k (hbl k hk).2 (ho.2 k hk), fun k hk => ?_⟩
  cases hx : r' k with
  | none => rfl
  | some x =>
    rcases hs.gr.1 k (by rw [hx]; simp) with h1 | h1
    · exact absurd (ho.2 k hk) h1
    · have := (hbl k hk).2; omega

def FedPost (n : Int) (raw : List Int) (s0 : List UInt8) (r0 : Rl) (B : Nat) (gb : Nat) (g0 : GateS) (w0 : World) (e : Ending) (w' : World) : Prop :=
  ∃ (k : Nat) (g : GateS) (s : List UInt8) (out : List EvS) (ov : Value), FedTo n raw g0 s0 k g s out ∧ FedAt r0 B w0 gb g out ov w' ∧
    ((s = [] ∧ e = .returned (.tuple #[ov, .bool true])) ∨ (s ≠ [] ∧ (∀ c ∈ g.conns, (c.num : Int) ≠ n) ∧ e = .returned (.tuple #[ov, .bool false])))

def Low (B : Nat) (w w' : World) : Prop := ∀ k, k < B → SameAt w w' k
theorem Fr.low {r : Rl} {B : Nat} {w w' w0 : World} {gb : Nat} {g : GateS} (h : Fr r w w') (hr : GwRep r B w0 gb g) (hB : B ≤ w.heap.size) : Low B w w' := fun k hk => h.block k (by omega) (by
  cases hx : r k with
  | none => rfl
  | some x =>
    have := hr.low k (by rw [hx]; simp)
    omega)
/-- Numbers that came in, below a gateway's memory. -/
def IntsLow (B : Nat) (w : World) (v : Value) (l : List Int) : Prop := ∀ w', Low B w w' → IntsAt w' v l

set_option maxRecDepth 100000 in
set_option maxHeartbeats 3200000 in
theorem fed_any {r : Rl} {B : Nat} {w : World} {gb : Nat} {g0 : GateS} (h : GwRep r B w gb g0) (ok : GOk g0) (hop : ∀ c ∈ g0.conns, c.noMore = false) (n : Int) (s0 : ByteArray) (rv : Value) (raw : List Int) (hraw : IntsLow B w rv raw) (hl : ∀ c ∈ g0.conns, c.wait.length + s0.size ≤ 4294967280) (hz : s0.size ≤ 4294967280) (hm : ML w) (hB : 0 < B) :
    Calls Tryz.prog 19 #[ptr gb, .int .i64 n, .string s0, rv] w fun e w' => FedPost n raw s0.data.toList r B gb g0 w e w' := by
  have hBs : B ≤ w.heap.size := by
    have h1 := h.low gb (by rw [h.role]; simp)
    have h2 := h.lt gb (by rw [h.role]; simp)
    omega
  have HR0 : Hid (GwRep r B w gb g0) := h
  have HOk : Hid (GOk g0) := ok
  have HOp := show Hid _ from hop
  have HRaw : Hid (IntsLow B w rv raw) := hraw
  have HL := show Hid _ from hl
  have HM : Hid (ML w) := hm
  obtain ⟨ra, rc, rfl, _⟩ := hraw w (fun _ _ => rfl)
  clear h ok hraw hl hm hop
  obtain ⟨m, hmr⟩ : ∃ m, m = raw.length := ⟨_, rfl⟩
  rw [← hmr] at HRaw ⊢
  clear hmr
  go_enter Tryz.func19, Tryz.ntmps19
  go_wp2_with fail
  go_loopw [2, 10, 11, 12, 13, 14, 15] (fun t o i _ _ _ _ wr => ∃ (k : Nat) (g : GateS) (s : ByteArray) (out : List EvS), t = .string s ∧ i = .int .i64 k ∧ k + s.size ≤ 4294967280 ∧ Hid (FedTo n raw g0 s0.data.toList k g s.data.toList out) ∧ Hid (FedAt r B w gb g out o wr)) (fun t _ _ _ _ _ _ _ => strLen t)
  case atStart => exact ⟨0, g0, s0, [], rfl, rfl, by omega, .start, r, GwStep.here HR0.out (Q.refl _), evs_nil _ _ _⟩
  case round =>
    obtain ⟨k, g, s, out, rfl, rfl, hks, hto, hat⟩ := hrel
    obtain ⟨rr, hst, hout⟩ := hat.out
    obtain ⟨vo, vc, rfl⟩ := slice_form hout.1
    have HPc := show Hid _ from piece_any s (.slice ra m rc) raw k wr (HRaw.out wr (hat.out.fr.low HR0.out hBs)) (by omega)
    have HSt : Hid (GwStep r B w gb rr wr g) := hst
    have HOut : Hid (EvsOut rr out w (.slice vo out.length vc) wr) := hout
    have hzr := hst.fr.size
    have hob : out.length ≤ 8589934560 := by
      have := hto.out.few.1
      rw [size_len, size_len] at this
      omega
    clear hst hout
    obtain ⟨ol, hol⟩ : ∃ ol, ol = out.length := ⟨_, rfl⟩
    rw [← hol] at HOut hat hob ⊢
    have HOl := show Hid _ from hol
    clear hol
    by_cases hs0 : s.size = 0
    · have hnil : s.data.toList = [] := List.eq_nil_of_length_eq_zero (by rw [size_len]; exact hs0)
      have hemp : s.toList.isEmpty = true := by rw [Lib.toList_data, hnil]; rfl
      have HN : Hid (s.data.toList = []) := hnil
      clear hnil hs0
      go_wp2_with fail
      go_ret2
      exact ⟨k, g, s.data.toList, out, _, hto.out, hat.out, .inl ⟨HN.out, rfl⟩⟩
    · have hne : s.data.toList ≠ [] := fun e => hs0 (by rw [← size_len, e]; rfl)
      have hemp : s.toList.isEmpty = false := by rw [Lib.toList_data]; cases hx : s.data.toList with
        | nil => exact absurd hx hne
        | cons a b => rfl
      have HNe : Hid (s.data.toList ≠ []) := hne
      obtain ⟨pn, hpn⟩ : ∃ p, p = pieceN s.size raw[k]? := ⟨_, rfl⟩
      obtain ⟨hp1, hp2⟩ := pieceN_le s.size raw[k]?
      have HPn := show Hid _ from hpn
      rw [← hpn] at HPc hp1 hp2
      obtain ⟨P, hP⟩ : ∃ M : ByteArray, M.data.toList = s.data.toList.take pn := ⟨⟨(s.data.toList.take pn).toArray⟩, rfl⟩
      obtain ⟨R, hR⟩ : ∃ M : ByteArray, M.data.toList = s.data.toList.drop pn := ⟨⟨(s.data.toList.drop pn).toArray⟩, rfl⟩
      have HPz : Hid (P.size = pn) := by show _ = _; rw [← size_len, hP, List.length_take, size_len]; omega
      have HRz : Hid (R.size = s.size - pn) := by show _ = _; rw [← size_len, hR, List.length_drop, size_len]
      have hpp : 0 < pn := hp2 (by omega)
      rw [← hP, ← hR, str_data, str_data] at HPc
      have HP := show Hid _ from hP
      have HRr := show Hid _ from hR
      clear hP hR hne hs0 hpn hp2
      go_wp2_with fail
      refine Calls.mono (Hid.out HPc) ?_
      rintro e w1 ⟨rfl, hq1⟩
      have hst1 : GwStep r B w gb rr w1 g := HSt.out.trans (GwStep.here HSt.out.rep hq1)
      have HOut1 : Hid (EvsOut rr out w (.slice vo ol vc) w1) := ⟨owns_Q HOut.out.1 hq1, HOut.out.2⟩
      have HSt1 : Hid (GwStep r B w gb rr w1 g) := hst1
      have HC := show Hid _ from client_any hst1.rep (hto.out.ok HOk.out) (hto.out.opens HOp.out) n P (fun c hc => by
        have := hto.out.waits (L := 4294967280) (fun c hc => by rw [size_len]; exact HL.out c hc) c hc
        rw [size_len] at this
        have := HPz.out
        omega) (HM.out.fr HR0.out hB hst1.fr) hB
      have hz1 : w.heap.size ≤ w1.heap.size := hst1.fr.size
      clear hst1 HPc HSt HOut hq1 hzr
      go_wp2_with fail
      refine Calls.mono (Hid.out HC) ?_
      rintro e w2 (⟨i, c, hi, hn, r2, v, rfl, hst2, hout2⟩ | ⟨hno, hw, rfl⟩)
      rotate_left
      · have HNo := show Hid _ from hno
        rw [hw]
        clear hw hno HC
        go_wp2_with fail
        go_ret2
        exact ⟨k, g, s.data.toList, out, _, hto.out, ⟨rr, HSt1.out, HOut1.out⟩, .inr ⟨HNe.out, HNo.out, rfl⟩⟩
      · obtain ⟨lo, lc, rfl⟩ := slice_form hout2.1
        have hlen := clientAt_len g i c P.data.toList
        have hol := HOl.out
        obtain ⟨v', w3, hrun, hown3, hg3, hat3⟩ := append_evs w2 w.heap.size w1.heap.size (.slice vo ol vc) (.slice lo (clientAt g i c P.data.toList).2.length lc) out.length (evVals out) (clientAt g i c P.data.toList).2 (evs_kept HOut1.out hst2).1 hout2.1 (by omega) (Nat.le_trans hz1 hst2.fr.size)
        obtain ⟨uo, uc, rfl⟩ := slice_form hown3
        have HAt3 := show Hid _ from FedAt.more HSt1.out HOut1.out hst2 hown3 hg3 hat3
        have HRun := show Hid _ from hrun
        have HI := show Hid _ from hi
        have HN := show Hid _ from hn
        obtain ⟨ll, hll⟩ : ∃ ll, ll = (clientAt g i c P.data.toList).2.length := ⟨_, rfl⟩
        rw [← hol] at HAt3 HRun
        rw [← hll] at HAt3 HRun ⊢
        clear hll hol hlen hrun hown3 hg3 hat3 hst2 hout2 hi hn HC
        go_wp2_with (first | (at_builtin; refine wpList_append_run rfl (.tmp 37) (.tmp 38) 41 41 rfl (.slice vo ol vc) (.slice lo ll lc) (.slice uo (ol + ll) uc) w3 rfl rfl HRun.out ?_))
        refine ⟨⟨k + 1, (clientAt g i c P.data.toList).1, R, out ++ (clientAt g i c P.data.toList).2, rfl, by simp, by have := HRz.out; omega, ?_, HAt3⟩, ?_⟩
        · have := hto.out.step HNe.out HI.out HN.out
          rw [size_len, ← HPn.out, ← HP.out, ← HRr.out] at this
          exact this
        · show R.size < s.size
          have := HRz.out
          omega
end Go.Proofs.YtdmaffciijmdcaaGreatDoor

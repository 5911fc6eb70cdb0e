/-
  Package turnpike: shut, unshut: which events shut what is not shut yet.
-/
import Derived.Test.YtdmaffciijmdcaaGreatDoorGateMToGate1
import Derived.Test.YtdmaffciijmdcaaGreatDoorGate6C
namespace Go.Proofs.YtdmaffciijmdcaaGreatDoor
namespace Plain
/-- Events of these kinds, and nothing else. -/
def shutS (num : Int) (ks : List Int) : List EvS := ks.map fun k => ⟨k, num, [], 0⟩
theorem shutS_len (num : Int) (ks : List Int) : (shutS num ks).length = ks.length := by simp [shutS]
theorem shutS_take {num : Int} {ks : List Int} {k : Nat} {x : Int} (h : ks[k]? = some x) : shutS num (ks.take (k + 1)) = shutS num (ks.take k) ++ [⟨x, num, [], 0⟩] := by
  obtain ⟨hlt, rfl⟩ := List.getElem?_eq_some_iff.1 h
  unfold shutS
  rw [List.take_succ_eq_append_getElem hlt, List.map_append]
  rfl
/-- The kinds of the events that shut what is not shut yet. -/
def unshutS (c : ConnS) : List Int := (if c.hostEnd = true then [] else [4]) ++ (if 0 < c.stage ∧ c.noMore = false then [5] else [])
theorem unshutS_len (c : ConnS) : (unshutS c).length ≤ 8 := by
  unfold unshutS
  split <;> split <;> simp
theorem overEvs_shut (c : ConnS) : overEvs c = shutS (c.num : Int) (unshutS c) := by
  unfold overEvs unshutS shutS
  split <;> split <;> rfl
end Plain
open Go.RowKit Plain

/-- A row of kinds. -/
def KindsAt (w : World) (v : Value) (ks : List Int) : Prop :=
  ∃ a cap, v = .slice a ks.length cap ∧ ∀ (i : Nat) (k : Int), ks[i]? = some k → ∃ b, a = some ⟨b, 0, none⟩ ∧ w.cell? ⟨b, i, none⟩ = some (.int .i64 k)

set_option maxRecDepth 100000 in
set_option maxHeartbeats 800000 in
theorem shut_any (num : Int) (ks : List Int) (kv : Value) (lb : Nat) (w : World) (hc : w.cell? ⟨lb, 0, none⟩ = some (.int .i64 num)) (hk : KindsAt w kv ks) (hl : ks.length ≤ 8) :
    Calls Tryz.prog 62 #[ptr lb, kv] w fun e w' => EvsPost (shutS num ks) w e w' := by
  obtain ⟨a, cap, rfl, hcell⟩ := hk
  have HC := show Hid _ from hcell
  have HE := fun kd x hx => show Hid _ from event_any kd num lb x hx
  clear hcell
  go_enter Tryz.func62, Tryz.ntmps62
  obtain ⟨n, hn⟩ : ∃ n, n = ks.length := ⟨_, rfl⟩
  have HN := show Hid _ from hn
  rw [← hn] at hl ⊢
  clear hn
  have hlb : lb < w.heap.size := Q.lt hc
  go_wp2_with fail
  go_loopw [10, 5, 7] (fun i ov _ wr => ∃ k : Nat, k ≤ n ∧ i = .int .i64 (k : Int) ∧ Hid (Q w wr) ∧ Hid (wr.ownsRow w.heap.size 48 4 ov k (evVals (shutS num (ks.take k))))) (fun i _ _ _ => n - (intOf i).toNat)
  case atStart => exact ⟨0, Nat.zero_le _, rfl, Q.refl _, ⟨rfl, .inl ⟨rfl, rfl⟩⟩⟩
  case round =>
    obtain ⟨k, hk, rfl, hq, hown⟩ := hrel
    by_cases hlt : k < n
    · obtain ⟨x, hx⟩ : ∃ x, ks[k]? = some x := ⟨_, List.getElem?_eq_getElem (by rw [← HN.out]; exact hlt)⟩
      obtain ⟨b, rfl, hb⟩ := HC.out k x hx
      have hb' := hq.out.cell hb
      have HT := show Hid _ from shutS_take (num := num) hx
      have hx0 := hq.out.cell hc
      clear hx hb
      go_wp2_with fail
      refine Calls.mono (Hid.out (HE x _ hx0)) ?_
      rintro e w2 ⟨rfl, hq2⟩
      have HQ2 : Hid (Q w w2) := hq.out.trans hq2
      have HO2 := show Hid _ from owns_Q hown.out hq2
      have hsz := HQ2.out.size
      obtain ⟨o5, k5, rfl⟩ := slice_form hown.out
      clear hq hown hq2 hb' hx0
      go_wp2_with (first | (at_builtin; refine append_el rfl (.tmp 14) (.tmp 18) 41 rfl 48 Tryz.t48 (.agg #[.int .i64 0, .int .i64 0, .string ⟨#[]⟩, .int .i64 0]) 4 40 Tryz.underlying41 (by kernel_rfl) (by kernel_rfl) (by kernel_rfl) (by kernel_rfl) rfl (by decide) (.slice o5 k k5) k (evVals (shutS num (ks.take k))) (evOf ⟨x, num, [], 0⟩) rfl w.heap.size w2 rfl rfl HO2.out (evOf_one _) (by omega) (by decide) hsz ?_; intro g3 cap3 w3 ho3 hb3 hg3 hat3 _))
      refine ⟨⟨k + 1, by omega, by go_num, (Below.trans HQ2.out hb3 : Below w.heap.size w w3), ?_⟩, by simp [intOf]; omega⟩
      show World.ownsRow _ _ _ _ _ _ _
      rw [HT.out, evVals_append, evVals_one]
      exact ho3
    · have HO : Hid (wr.ownsRow w.heap.size 48 4 u5 (shutS num ks).length (evVals (shutS num ks))) := by
        show World.ownsRow _ _ _ _ _ _ _
        have := hown.out
        have hkn : k = ks.length := by have := HN.out; omega
        rw [List.take_of_length_le (by omega)] at this
        rw [shutS_len, ← hkn]
        exact this
      obtain ⟨o5, k5, rfl⟩ := slice_form hown.out
      clear hown
      go_wp2_with fail
      go_ret
      exact ⟨hq.out, _, rfl, HO.out⟩

/-- Kinds in a row that the call made. -/
theorem KindsAt.own {w : World} {B : Nat} {v : Value} {ks : List Int} (h : w.ownsRow B 3 1 v ks.length (ks.map (.int .i64))) : KindsAt w v ks := by
  rcases h.2 with ⟨rfl, hn⟩ | ⟨g, cap, cur, rfl, hb, hg, h4, h5, h6, h7⟩
  · have := List.eq_nil_of_length_eq_zero hn
    subst this
    exact ⟨none, 0, rfl, fun i k hi => by simp at hi⟩
  · refine ⟨_, cap, rfl, fun i k hi => ⟨g, rfl, ?_⟩⟩
    rw [cell_of_row w g i cur 3 (0, 0) hg]
    have hj : (cur.toList.take (ks.length * 1))[i]? = some (.int .i64 k) := by
      rw [h7, List.getElem?_map, hi]; rfl
    rw [List.getElem?_take] at hj
    split at hj
    · simpa using hj
    · cases hj

theorem int_one (k : Int) : ∀ u ∈ ([.int .i64 k] : List Value), u.oneCell' = true := by
  intro u hu
  simp only [List.mem_cons, List.not_mem_nil, or_false] at hu
  rw [hu]; rfl

set_option maxRecDepth 100000 in
set_option maxHeartbeats 1600000 in
theorem unshut_any (cb : Nat) (c : ConnS) (w : World) (h2 : w.cell? ⟨cb, 2, none⟩ = some (.int .i64 (c.stage : Int))) (h4 : w.cell? ⟨cb, 4, none⟩ = some (.bool c.noMore)) (h5 : w.cell? ⟨cb, 5, none⟩ = some (.bool c.hostEnd)) :
    Calls Tryz.prog 138 #[ptr cb] w fun e w' => Q w w' ∧ ∃ v, e = .returned v ∧ KindsAt w' v (unshutS c) := by
  have HU : Hid (unshutS c = (if c.hostEnd = true then [] else [4]) ++ (if 0 < c.stage ∧ c.noMore = false then [5] else [])) := rfl
  by_cases h0 : 0 < c.stage ∧ c.noMore = false
  · rw [if_pos h0] at HU
    have d0 : ((c.stage : Int) != 0) = true := by rw [bne_iff_ne]; omega
    rw [h0.2] at h4
    obtain ⟨st, hst⟩ : ∃ z : Int, z = (c.stage : Int) := ⟨_, rfl⟩
    rw [← hst] at h2 d0
    clear hst h0
    cases he : c.hostEnd <;> rw [he] at h5 HU <;> clear he
    · go_enter Tryz.func138, Tryz.ntmps138
      go_wp2_with (first | (at_builtin; refine append_el rfl (.tmp 9) (.tmp 10) 28 rfl 3 Tryz.t3 (.int .i64 0) 1 8 Tryz.underlying28 (by kernel_rfl) (by kernel_rfl) (by kernel_rfl) (by kernel_rfl) rfl (by decide) (.slice none 0 0) 0 [] [.int .i64 4] rfl w.heap.size w rfl rfl ⟨rfl, .inl ⟨rfl, rfl⟩⟩ (int_one 4) (by omega) (by decide) (Nat.le_refl _) ?_; intro g1 cap1 w1 ho1 hb1 hg1 hat1 hgl1; have q1 : Q w w1 := hb1; have x2 := q1.cell h2; have x4 := q1.cell h4) | (at_builtin; refine append_el rfl (.tmp 24) (.tmp 25) 28 rfl 3 Tryz.t3 (.int .i64 0) 1 8 Tryz.underlying28 (by kernel_rfl) (by kernel_rfl) (by kernel_rfl) (by kernel_rfl) rfl (by decide) (.slice (some ⟨g1, 0, none⟩) (0 + 1) cap1) 1 [.int .i64 4] [.int .i64 5] rfl w.heap.size w1 rfl rfl ho1 (int_one 5) (by omega) (by decide) q1.size ?_; intro g2 cap2 w2 ho2 hb2 hg2 hat2 hgl2))
      go_ret
      exact ⟨(Below.trans q1 hb2 : Below w.heap.size w w2), _, rfl, by rw [HU.out]; exact KindsAt.own ho2⟩
    · go_enter Tryz.func138, Tryz.ntmps138
      go_wp2_with (first | (at_builtin; refine append_el rfl (.tmp 24) (.tmp 25) 28 rfl 3 Tryz.t3 (.int .i64 0) 1 8 Tryz.underlying28 (by kernel_rfl) (by kernel_rfl) (by kernel_rfl) (by kernel_rfl) rfl (by decide) (.slice none 0 0) 0 [] [.int .i64 5] rfl w.heap.size w rfl rfl ⟨rfl, .inl ⟨rfl, rfl⟩⟩ (int_one 5) (by omega) (by decide) (Nat.le_refl _) ?_; intro g2 cap2 w2 ho2 hb2 hg2 hat2 hgl2))
      go_ret
      exact ⟨hb2, _, rfl, by rw [HU.out]; exact KindsAt.own ho2⟩
  · rw [if_neg h0] at HU
    by_cases h1 : c.stage = 0
    · have h2' : w.cell? ⟨cb, 2, none⟩ = some (.int .i64 0) := by rw [h2, h1]; rfl
      clear h2 h1 h0
      cases he : c.hostEnd <;> rw [he] at h5 HU <;> clear he
      · go_enter Tryz.func138, Tryz.ntmps138
        go_wp2_with (first | (at_builtin; refine append_el rfl (.tmp 9) (.tmp 10) 28 rfl 3 Tryz.t3 (.int .i64 0) 1 8 Tryz.underlying28 (by kernel_rfl) (by kernel_rfl) (by kernel_rfl) (by kernel_rfl) rfl (by decide) (.slice none 0 0) 0 [] [.int .i64 4] rfl w.heap.size w rfl rfl ⟨rfl, .inl ⟨rfl, rfl⟩⟩ (int_one 4) (by omega) (by decide) (Nat.le_refl _) ?_; intro g1 cap1 w1 ho1 hb1 hg1 hat1 hgl1; have q1 : Q w w1 := hb1; have x2 := q1.cell h2'))
        go_ret
        exact ⟨q1, _, rfl, by rw [HU.out]; exact KindsAt.own ho1⟩
      · go_enter Tryz.func138, Tryz.ntmps138
        go_wp2_with fail
        go_ret
        exact ⟨Q.refl _, _, rfl, by rw [HU.out]; exact ⟨none, 0, rfl, fun i k hi => by simp at hi⟩⟩
    · have hno : c.noMore = true := by
        cases hx : c.noMore with
        | true => rfl
        | false => exact absurd ⟨by omega, hx⟩ h0
      have d0 : ((c.stage : Int) != 0) = true := by rw [bne_iff_ne]; omega
      rw [hno] at h4
      obtain ⟨st, hst⟩ : ∃ z : Int, z = (c.stage : Int) := ⟨_, rfl⟩
      rw [← hst] at h2 d0
      clear hst h0 h1 hno
      cases he : c.hostEnd <;> rw [he] at h5 HU <;> clear he
      · go_enter Tryz.func138, Tryz.ntmps138
        go_wp2_with (first | (at_builtin; refine append_el rfl (.tmp 9) (.tmp 10) 28 rfl 3 Tryz.t3 (.int .i64 0) 1 8 Tryz.underlying28 (by kernel_rfl) (by kernel_rfl) (by kernel_rfl) (by kernel_rfl) rfl (by decide) (.slice none 0 0) 0 [] [.int .i64 4] rfl w.heap.size w rfl rfl ⟨rfl, .inl ⟨rfl, rfl⟩⟩ (int_one 4) (by omega) (by decide) (Nat.le_refl _) ?_; intro g1 cap1 w1 ho1 hb1 hg1 hat1 hgl1; have q1 : Q w w1 := hb1; have x2 := q1.cell h2; have x4 := q1.cell h4))
        go_ret
        exact ⟨q1, _, rfl, by rw [HU.out]; exact KindsAt.own ho1⟩
      · go_enter Tryz.func138, Tryz.ntmps138
        go_wp2_with fail
        go_ret
        exact ⟨Q.refl _, _, rfl, by rw [HU.out]; exact ⟨none, 0, rfl, fun i k hi => by simp at hi⟩⟩
theorem KindsAt.stays {w w' : World} {v : Value} {ks : List Int} (h : KindsAt w v ks) (q : Q w w') : KindsAt w' v ks := by
  obtain ⟨a, cap, h1, h2⟩ := h
  refine ⟨a, cap, h1, fun i k hi => ?_⟩
  obtain ⟨b, h3, h4⟩ := h2 i k hi
  exact ⟨b, h3, q.cell h4⟩
/-- A row of one kind, just made. -/
theorem kinds_one (w : World) (k : Int) : KindsAt (w.alloc (.cells #[.int .i64 k] 3)) (.slice (some ⟨w.heap.size, 0, none⟩) 1 1) [k] :=
  ⟨some ⟨w.heap.size, 0, none⟩, 1, rfl, fun i x hi => ⟨w.heap.size, rfl, by
    cases i with
    | zero => cases hi; simp [go_sem]
    | succ i => simp at hi⟩⟩
end Go.Proofs.YtdmaffciijmdcaaGreatDoor
/-
  Package turnpike: refuse.
-/
namespace Go.Proofs.YtdmaffciijmdcaaGreatDoor
open Go.RowKit Plain

def GwPost (r : Rl) (B : Nat) (gb : Nat) (g' : GateS) (l : List EvS) (w : World) (e : Ending) (w' : World) : Prop :=
  ∃ r' v, e = .returned v ∧ GwStep r B w gb r' w' g' ∧ EvsOut r' l w v w'

theorem sized {r : Rl} {B : Nat} {w : World} {gb : Nat} {g : GateS} (h : GwRep r B w gb g) {k : Nat} (hk : w.heap.size ≤ k) : r k = none := by
  cases hr : r k with
  | none => rfl
  | some x =>
    have := h.lt k (by rw [hr]; simp)
    omega

/-- Events put behind others, where a step has been done. -/
theorem evs_join {r : Rl} {B : Nat} {w w1 w3 : World} {gb : Nat} {g1 : GateS} {l m : List EvS} {v u : Value} {B2 : Nat} (h : GwStep r B w gb r w1 g1) (q : Q w1 w3) (hl : w3.ownsRow w1.heap.size 48 4 v l.length (evVals l)) (hm : w3.ownsRow B2 48 4 u m.length (evVals m)) (hb : l.length + m.length ≤ 1000000000000) :
    ∃ vo vc w4, (Builtin.append_ #[41, 41] 41 #[v, u]).run Tryz.prog w3 = .ok (.slice vo (l.length + m.length) vc) w4 ∧ Q w1 w4 ∧ GwPost r B gb g1 (l ++ m) w (.returned (.slice vo (l.length + m.length) vc)) w4 := by
  obtain ⟨v4, w4, hrun, hown, hgr, hat⟩ := append_evs w3 w1.heap.size B2 v u l.length (evVals l) m hl hm hb q.size
  obtain ⟨vo, vc, rfl⟩ := slice_form hown
  have hol := owns_lt hl
  have q4 : Below w1.heap.size w1 w4 := Below.grown q hgr q.size (fun k hk => (hol k hk).1)
  refine ⟨vo, vc, w4, hrun, q4, r, _, rfl, h.trans (GwStep.here h.rep q4), ?_, fun k hk => sized h.rep (owns_lt hown k hk).1⟩
  rw [List.length_append, evVals_append]
  exact owns_base hown h.fr.size

set_option maxRecDepth 100000 in
set_option maxHeartbeats 1600000 in
theorem refuse_any {r : Rl} {B : Nat} {w : World} {gb : Nat} {g : GateS} {i cb : Nat} {c : ConnS} (h : AtConn r B w gb g i cb c) (s : ByteArray) (hs : s.size ≤ 4398046511104) :
    Calls Tryz.prog 57 #[ptr gb, ptr cb, .string s] w fun e w' => GwPost r B gb (g.drop c.num) (sendS 2 c.num s.data.toList ++ [⟨4, c.num, [], 0⟩]) w e w' := by
  have HD := show Hid _ from drop_any h
  have hc0 := h.conn.c0
  have hlen : (sendS 2 c.num s.data.toList).length ≤ 1 := by unfold sendS; split <;> simp
  clear h
  go_enter Tryz.func57, Tryz.ntmps57
  go_wp2_with fail
  refine Calls.mono (Hid.out HD) ?_
  rintro e w1 ⟨rfl, hst, hsame, _⟩
  have hc1 : w1.cell? ⟨cb, 0, none⟩ = some (.int .i64 (c.num : Int)) := by rw [hsame.cell]; exact hc0
  have HST := show Hid _ from hst
  have hz1 := hst.fr.size
  clear HD hsame hst hc0
  have HS := fun x hx => show Hid _ from send_any 2 c.num s cb x hx hs
  have HE := fun x kv hx hk => show Hid _ from shut_any (c.num : Int) [4] kv cb x hx hk (by decide)
  go_wp2_with fail
  go_region_law (first | (refine step_append_run rfl (.tmp 14) (.tmp 19) 41 41 rfl _ _ _ w4 (by simp [Act.eval]) (by simp [Act.eval]) HRun.out ?_) | (go_simp; refine Calls.mono (Hid.out (HS _ (by first | exact ((Q.refl w1).drew).cell hc1 | exact (((Q.refl w1).drew).alloc _).cell hc1))) ?_; rintro e w2 ⟨hq2, v2, rfl, hown2⟩; have HQ2 : Hid (Q w1 w2) := (by first | exact ((Q.refl w1).drew).trans hq2 | exact (((Q.refl w1).drew).alloc _).trans hq2); have HO2 : Hid (w2.ownsRow w1.heap.size 48 4 v2 (sendS 2 c.num s.data.toList).length (evVals (sendS 2 c.num s.data.toList))) := owns_base hown2 (by first | exact Nat.le_refl _ | simp); have hc2 := HQ2.out.cell hc1; clear hown2; dsimp only) | (go_simp; refine Calls.mono (Hid.out (HE _ _ (by first | exact hc2 | exact ((Q.refl w2).alloc _).cell hc2) (by first | exact kinds_one _ 4 | exact (kinds_one w1.drew 4).stays hq2))) ?_; rintro e w3 ⟨hq3, v3, rfl, hown3⟩; have q23 : Q w2 w3 := (by first | exact hq3 | exact ((Q.refl _).alloc _).trans hq3); obtain ⟨vo, vc, w4, hrun, hq4, hpost⟩ := evs_join (m := shutS (c.num : Int) [4]) HST.out (HQ2.out.trans q23) (owns_Q HO2.out q23) hown3 (by rw [shutS_len]; simp; omega); have HRun := show Hid _ from hrun; have HPost := show Hid _ from hpost; have hc4 := hq4.cell hc1; clear hrun hpost hown3; dsimp only))
  all_goals
    go_wp2_with fail
    go_ret
    exact HPost.out
end Go.Proofs.YtdmaffciijmdcaaGreatDoor
/-
  Package turnpike: answer.
-/
namespace Go.Proofs.YtdmaffciijmdcaaGreatDoor
namespace Plain
theorem judge_err {rs : List RuleS} {tens : List (List UInt8 × List UInt8)} {m : Int} {l r : List UInt8} (h : judgeS rs tens m l = .error r) : r.isEmpty = false ∧ r.length ≤ 100 := by
  unfold judgeS at h
  split at h
  · cases h; exact ⟨rfl, by decide⟩
  · split at h
    · cases h; exact ⟨rfl, by decide⟩
    · split at h
      · cases h; exact ⟨rfl, by decide⟩
      · split at h
        · cases h; exact ⟨rfl, by decide⟩
        · split at h
          · cases h
          · cases h; exact ⟨rfl, by decide⟩
end Plain
open Go.RowKit Plain

theorem AtConn.fr {r : Rl} {B : Nat} {w : World} {gb : Nat} {g : GateS} {i cb : Nat} {c : ConnS} (h : AtConn r B w gb g i cb c) (o : Nat) (u : Value) : Fr r w (w.setCell ⟨cb, o, none⟩ u) := Fr.set r w cb o u (by rw [h.conn.role]; simp)

set_option maxRecDepth 100000 in
set_option maxHeartbeats 1600000 in
theorem answer_any {r : Rl} {B : Nat} {w : World} {gb : Nat} {g : GateS} {i cb : Nat} {c : ConnS} (h : AtConn r B w gb g i cb c) (s : ByteArray) (hs : s.size ≤ 1000) (hm : ML w) :
    Calls Tryz.prog 56 #[ptr gb, ptr cb, .string s] w fun e w' => GwPost r B gb (answerS g i c s.data.toList).1 (answerS g i c s.data.toList).2 w e w' := by
  have HJ := show Hid _ from judge_any gb g.rules g.tens g.minute s w (h.rep.read h.ok.tens) hm hs
  have HA : Hid (AtConn r B w gb g i cb c) := h
  have hcl : cb < w.heap.size := Q.lt h.conn.c0
  clear h hm
  go_enter Tryz.func56, Tryz.ntmps56
  go_wp2_with fail
  refine Calls.mono (Hid.out HJ) ?_
  rintro e w1 ⟨hq1, ⟨rf, hj, rfl⟩ | ⟨host, port, hj, rfl⟩⟩
  · have HAn : Hid (answerS g i c s.data.toList = (g.drop c.num, sendS 2 c.num rf ++ [⟨4, c.num, [], 0⟩])) := by
      show _ = _
      unfold answerS; rw [hj]
    obtain ⟨hne, hrl⟩ := judge_err hj
    obtain ⟨R, rfl⟩ : ∃ M : ByteArray, M.data.toList = rf := ⟨⟨rf.toArray⟩, rfl⟩
    rw [size_len] at hrl
    have hemp : R.toList.isEmpty = false := by rw [Lib.toList_data]; exact hne
    have q1 : Q w (w1.alloc (.cells #[.string ⟨#[]⟩, .int .i64 0] 165)) := hq1.alloc _
    have HR := show Hid _ from refuse_any (HA.out.stays q1) R (by omega)
    rw [str_data]
    clear hj hne HJ
    unfold str
    go_wp2_with fail
    refine Calls.mono (Hid.out HR) ?_
    rintro e w2 ⟨r', v, rfl, hst, hout⟩
    obtain ⟨vo, vc, rfl⟩ := slice_form hout.1
    have HP : Hid (GwPost r B gb (answerS g i c s.data.toList).1 (answerS g i c s.data.toList).2 w (.returned (.slice vo (sendS 2 c.num R.data.toList ++ [(⟨4, c.num, [], 0⟩ : EvS)]).length vc)) w2) := by
      rw [HAn.out]
      exact ⟨r', _, rfl, (GwStep.here HA.out.rep q1).trans hst, owns_base hout.1 q1.size, hout.2⟩
    clear hst hout HR
    generalize (sendS 2 c.num R.data.toList ++ [(⟨4, c.num, [], 0⟩ : EvS)]).length = n at HP ⊢
    go_wp2_with fail
    go_ret
    exact HP.out
  · have HAn : Hid (answerS g i c s.data.toList = (g.upd i { c with stage := 1 }, [⟨1, c.num, host, (port : Int)⟩])) := by
      show _ = _
      unfold answerS; rw [hj]
    obtain ⟨H, rfl⟩ : ∃ M : ByteArray, M.data.toList = host := ⟨⟨host.toArray⟩, rfl⟩
    rw [str_data]
    unfold str
    have HA1 := show Hid _ from HA.out.stays hq1
    have HA2 : Hid (AtConn r B (w1.setCell ⟨cb, 2, none⟩ (.int .i64 1)) gb (g.upd i { c with stage := 1 }) i cb { c with stage := 1 }) := HA1.out.stage 1
    have hFr : Fr r w (w1.setCell ⟨cb, 2, none⟩ (.int .i64 1)) := (Fr.ofQ hq1).trans (Grows.refl _ _) (HA1.out.fr 2 _)
    have hc2 := HA1.out.conn.c2
    have hf2 := HA1.out.conn.fz 2
    have hcl1 : cb < w1.heap.size := Nat.lt_of_lt_of_le hcl hq1.size
    have qW : Q (w1.setCell ⟨cb, 2, none⟩ (.int .i64 1)) ((w1.setCell ⟨cb, 2, none⟩ (.int .i64 1)).alloc (.cells #[.string H, .int .i64 (port : Int)] 165)) := (Q.refl _).alloc _
    have hn0 : ((w1.setCell ⟨cb, 2, none⟩ (.int .i64 1)).alloc (.cells #[.string H, .int .i64 (port : Int)] 165)).cell? ⟨cb, 0, none⟩ = some (.int .i64 (c.num : Int)) := qW.cell HA2.out.conn.c0
    have hz1 : w.heap.size ≤ w1.heap.size := hq1.size
    have HD := fun x hx => show Hid _ from dial_any c.num H port cb x hx
    clear hj HJ
    go_wp2_with fail
    refine wp_region_held_drew (S := fun w' => w'.cell? ⟨w1.heap.size, 0, none⟩ = some (.string H) ∧ w'.cell? ⟨w1.heap.size, 1, none⟩ = some (.int .i64 (port : Int)) ∧ w'.cell? ⟨cb, 0, none⟩ = some (.int .i64 (c.num : Int)) ∧ Q ((w1.setCell ⟨cb, 2, none⟩ (.int .i64 1)).alloc (.cells #[.string H, .int .i64 (port : Int)] 165)) w') (by kernel_rfl) ⟨by simp [go_sem], by simp [go_sem], hn0, (Q.refl _).drew⟩ (fun hHeld0 => ?_)
    refine wpAnyH_take (i := 0) (v := ?_) rfl (by kernel_rfl) (by kernel_rfl) (by kernel_rfl) (fun _ _ _ h => h) (Or.inl ⟨by rfl, ?_⟩) (by assumption) ?_
    rotate_left
    · (intro w hSw; (try dsimp only at hSw); go_simp; try with_reducible rfl)
    simp only [Act.put, List.getElem_toArray, List.getElem_cons_zero, List.setIfInBounds_toArray, List.set_cons_zero, List.set_cons_succ]
    refine wpAnyH_take (i := 1) (v := ?_) rfl (by kernel_rfl) (by kernel_rfl) (by kernel_rfl) (fun _ _ _ h => h) (Or.inl ⟨by rfl, ?_⟩) (by assumption) ?_
    rotate_left
    · (intro w hSw; (try dsimp only at hSw); go_simp; try with_reducible rfl)
    simp only [Act.put, List.getElem_toArray, List.getElem_cons_zero, List.getElem_cons_succ, List.setIfInBounds_toArray, List.set_cons_zero, List.set_cons_succ]
    refine wpAnyH_take (i := 2) (v := ?_) rfl (by kernel_rfl) (by kernel_rfl) (by kernel_rfl) (fun _ _ _ h => h) (Or.inl ⟨by rfl, ?_⟩) (by assumption) ?_
    rotate_left
    · (intro w hSw; (try dsimp only at hSw); go_simp; try with_reducible rfl)
    simp only [Act.put, List.getElem_toArray, List.getElem_cons_zero, List.getElem_cons_succ, List.setIfInBounds_toArray, List.set_cons_zero, List.set_cons_succ]
    refine wpAnyH_take (i := 3) (v := ?_) rfl (by kernel_rfl) (by kernel_rfl) (by kernel_rfl) (fun _ _ _ h => h) (Or.inl ⟨by rfl, ?_⟩) (by assumption) ?_
    rotate_left
    · (intro w hSw; (try dsimp only at hSw); go_simp; try with_reducible rfl)
    simp only [Act.put, List.getElem_toArray, List.getElem_cons_zero, List.getElem_cons_succ, List.setIfInBounds_toArray, List.set_cons_zero, List.set_cons_succ]
    refine wpAnyH_ready (rs := [4]) (by kernel_rfl) (by simp) ?_
    refine AllReadyH.cons rfl (fun K hK => ?_) AllReadyH.nil
    go_simp
    refine Calls.mono (Hid.out (HD _ hHeld0.2.2.1)) ?_
    rintro e w5 ⟨hq5, v5, rfl, hown5⟩
    have q5 := hHeld0.2.2.2.trans hq5
    obtain ⟨vo, vc, rfl⟩ := slice_form hown5
    have HP : Hid (GwPost r B gb (answerS g i c s.data.toList).1 (answerS g i c s.data.toList).2 w (.returned (.slice vo 1 vc)) w5) := by
      rw [HAn.out]
      have qq := qW.trans q5
      refine ⟨r, _, rfl, ⟨HA2.out.rep.stays qq, hFr.trans (Grows.refl _ _) (Fr.ofQ qq), Grows.refl _ _⟩, owns_base hown5 ?_, fun k hk => ?_⟩
      · show w.heap.size ≤ (World.alloc _ _).heap.size
        simp
        omega
      · have := (owns_lt hown5 k hk).1
        have h2 : w1.heap.size ≤ k := by
          have h3 : (((w1.setCell ⟨cb, 2, none⟩ (.int .i64 1)).alloc (.cells #[.string H, .int .i64 (port : Int)] 165)).drew).heap.size ≤ k := this
          simp at h3
          omega
        exact sized HA1.out.rep h2
    have hS5 : w5.cell? ⟨w1.heap.size, 0, none⟩ = some (.string H) ∧ w5.cell? ⟨w1.heap.size, 1, none⟩ = some (.int .i64 (port : Int)) ∧ w5.cell? ⟨cb, 0, none⟩ = some (.int .i64 (c.num : Int)) ∧ Q ((w1.setCell ⟨cb, 2, none⟩ (.int .i64 1)).alloc (.cells #[.string H, .int .i64 (port : Int)] 165)) w5 := ⟨hq5.cell hHeld0.1, hq5.cell hHeld0.2.1, hq5.cell hHeld0.2.2.1, q5⟩
    simp only [List.length_cons, List.length_nil, Nat.zero_add]
    clear hown5 HD
    go_wp2_with fail
    refine hK.out _ _ hS5 (fun hHeld1 => ?_)
    clear hK K hHeld0
    refine wpAnyH_take (i := 5) (v := ?_) rfl (by kernel_rfl) (by kernel_rfl) (by kernel_rfl) (fun _ _ _ h => h) (Or.inl ⟨by rfl, ?_⟩) (by assumption) ?_
    rotate_left
    · (intro w hSw; (try dsimp only at hSw); go_simp; try with_reducible rfl)
    simp only [Act.put, List.getElem_toArray, List.getElem_cons_zero, List.getElem_cons_succ, List.setIfInBounds_toArray, List.set_cons_zero, List.set_cons_succ]
    refine wpAnyH_done (by kernel_rfl) ?_ _
    clear hHeld1 hS5
    go_wp2_with fail
    go_ret
    exact HP.out
end Go.Proofs.YtdmaffciijmdcaaGreatDoor

/-
  The document's answer: New.
-/
import Derived.Test.YtdmaffciijmdcaaGreatDoorRG19C
namespace Go.Proofs.YtdmaffciijmdcaaGreatDoor
namespace Plain
theorem users_split : ∀ (a b : List (List UInt8 × List UInt8)) (j : Nat) (acc : List (List UInt8 × List UInt8)), usersFrom j acc (a ++ b) = match usersFrom j acc a with
    | .error e => .error e
    | .ok t => usersFrom (j + a.length) t b
  | [], b, j, acc => by simp [usersFrom]
  | u :: a, b, j, acc => by
    rw [List.cons_append, usersFrom, usersFrom]
    cases withS acc u.1 u.2 with
    | none => rfl
    | some t =>
      dsimp only
      rw [users_split a b (j + 1) t, List.length_cons, show j + (a.length + 1) = j + 1 + a.length by omega]
/-- One user more. -/
theorem users_next {us tens : List (List UInt8 × List UInt8)} {k : Nat} {u : List UInt8 × List UInt8} (hu : us[k]? = some u) (h : usersFrom 0 [] (us.take k) = .ok tens) :
    (withS tens u.1 u.2 = none → usersFrom 0 [] us = .error k) ∧ ∀ t, withS tens u.1 u.2 = some t → usersFrom 0 [] (us.take (k + 1)) = .ok t := by
  obtain ⟨hlt, rfl⟩ := List.getElem?_eq_some_iff.1 hu
  have hlen : (us.take k).length = k := by rw [List.length_take]; omega
  refine ⟨fun hw => ?_, fun t hw => ?_⟩
  · have e : us = us.take k ++ us[k] :: us.drop (k + 1) := by rw [List.getElem_cons_drop hlt, List.take_append_drop]
    rw [e, users_split, h]
    dsimp only
    rw [hlen, Nat.zero_add]
    unfold usersFrom
    rw [hw]
  · rw [List.take_succ_eq_append_getElem hlt, users_split, h]
    dsimp only
    unfold usersFrom
    rw [hw]
    rfl
/-- Whether a user may stand behind others. -/
def goodK (us : List (List UInt8 × List UInt8)) (u : List UInt8 × List UInt8) (k : Nat) : Bool := secretOk u.2 && (us.take k).all fun o => o.1 != u.1
theorem good_step {us : List (List UInt8 × List UInt8)} {u o : List UInt8 × List UInt8} {k : Nat} (h : us[k]? = some o) : goodK us u (k + 1) = (goodK us u k && (o.1 != u.1)) := by
  obtain ⟨hlt, rfl⟩ := List.getElem?_eq_some_iff.1 h
  unfold goodK
  rw [List.take_succ_eq_append_getElem hlt, List.all_append, ← Bool.and_assoc]
  simp
theorem with_good {us tens : List (List UInt8 × List UInt8)} {k : Nat} {u : List UInt8 × List UInt8} (h : usersFrom 0 [] (us.take k) = .ok tens) : (tenantOk u.1 && goodK us u k) = (withS tens u.1 u.2).isSome := by
  have e := (users_ok _ 0 [] tens h).1
  rw [List.nil_append] at e
  have ha : (tens.all fun o => o.1 != u.1) = ((us.take k).all fun o => o.1 != u.1) := by
    rw [e, List.all_map]
    rfl
  unfold withS userS goodK
  by_cases hx : tenantOk u.1 = true ∧ secretOk u.2 = true
  · rw [if_pos hx]
    dsimp only
    rw [ha, hx.1, hx.2]
    cases (us.take k).all fun o => o.1 != u.1 <;> rfl
  · rw [if_neg hx]
    dsimp only
    cases h1 : tenantOk u.1 with
    | false => rfl
    | true =>
      cases h2 : secretOk u.2 with
      | false => rfl
      | true => exact absurd ⟨h1, h2⟩ hx
end Plain
open Go.RowKit Plain

/-- Users that were handed in. -/
def UsersAt (w : World) (v : Value) (l : List (List UInt8 × List UInt8)) : Prop :=
  ∃ a cap, v = .slice a l.length cap ∧ l.length ≤ 2097152 ∧ ∀ i u, l[i]? = some u → u.1.length ≤ 2097152 ∧ u.2.length ≤ 2097152 ∧ ∃ b off, a = some ⟨b, off, none⟩ ∧ w.cell? ⟨b, off + i * 2, none⟩ = some (str u.1) ∧ w.cell? ⟨b, off + i * 2 + 1, none⟩ = some (str u.2)
theorem UsersAt.stays {w w' : World} {v : Value} {l : List (List UInt8 × List UInt8)} (h : UsersAt w v l) (q : Q w w') : UsersAt w' v l := by
  obtain ⟨a, cap, h1, h2, h3⟩ := h
  refine ⟨a, cap, h1, h2, fun i u hi => ?_⟩
  obtain ⟨x1, x2, b, off, x3, x4, x5⟩ := h3 i u hi
  exact ⟨x1, x2, b, off, x3, q.cell x4, q.cell x5⟩

def RNewPost (B : Nat) (T : List UInt8) (us : List (List UInt8 × List UInt8)) (m : Int) (w : World) (e : Ending) (w' : World) : Prop :=
  Q w w' ∧ ((∃ en ln : Nat, newS T us m = .error (en, ln) ∧ e = .returned (.tuple #[.pointer none, .int .i64 (en : Int), .int .i64 (ln : Int)])) ∨
    ∃ G gb r, newS T us m = .ok G ∧ e = .returned (.tuple #[ptr gb, .int .i64 0, .int .i64 0]) ∧ RGwRep r B w' gb G ∧ GOk G ∧ ∀ b, r b ≠ none → w.heap.size ≤ b)

theorem pairVals_len (l : List (List UInt8 × List UInt8)) : (pairVals l).length = l.length * 2 := by
  induction l with
  | nil => rfl
  | cons f l ih =>
    have : pairVals (f :: l) = str f.1 :: str f.2 :: pairVals l := rfl
    rw [this, List.length_cons, List.length_cons, ih, List.length_cons]; omega
theorem pairVals_one (l : List (List UInt8 × List UInt8)) : ∀ u ∈ pairVals l, u.oneCell' = true := by
  intro u hu
  obtain ⟨f, _, hf⟩ := List.mem_flatMap.1 hu
  simp only [List.mem_cons, List.not_mem_nil, or_false] at hf
  rcases hf with rfl | rfl <;> rfl
theorem append_users (w : World) (uv : Value) (us : List (List UInt8 × List UInt8)) (hu : UsersAt w uv us) :
    ∃ v' w', (Builtin.append_ #[35, 35] 35 #[.slice none 0 0, uv]).run Tryz.prog w = .ok v' w' ∧ w'.ownsRow w.heap.size 71 2 v' us.length (pairVals us) ∧ w.grownBy w' none := by
  obtain ⟨ua, ucap, rfl, hul, huc⟩ := hu
  rcases us with _ | ⟨u0, us'⟩
  · have hi : Tryz.prog.info? 71 = some Tryz.t71 := by kernel_rfl
    refine ⟨.slice none 0 0, w, ?_, ⟨rfl, .inl ⟨rfl, rfl⟩⟩, ⟨rfl, rfl, rfl, Nat.le_refl _, fun _ _ _ => rfl⟩⟩
    cases ua with
    | none => simp [Builtin.append_, run_underlying Tryz.underlying35, sizeOf, typeInfo, hi, Builtin.lenOf, Builtin.firstCells]
    | some a => simp [Builtin.append_, run_underlying Tryz.underlying35, sizeOf, typeInfo, hi, Builtin.lenOf, Builtin.firstCells, loadCells, loadCellsFrom]
  · obtain ⟨_, _, ub, off, rfl, _, _⟩ := huc 0 u0 rfl
    have hnews : ∀ j u, (pairVals (u0 :: us'))[j]? = some u → w.cell? ((⟨ub, off, none⟩ : Addr).add j) = some u := fun j u hj => by
      have hlt := (List.getElem?_eq_some_iff.1 hj).1
      rw [pairVals_len] at hlt
      obtain ⟨f, hf⟩ : ∃ f, (u0 :: us')[j / 2]? = some f := ⟨_, List.getElem?_eq_getElem (by omega)⟩
      obtain ⟨p1, p2⟩ := pairVals_get _ (j / 2) f hf
      obtain ⟨_, _, b2, o2, ha, c1, c2⟩ := huc (j / 2) f hf
      obtain ⟨rfl, rfl⟩ : ub = b2 ∧ off = o2 := by
        injection ha with e
        injection e with e1 e2 _
        exact ⟨e1, e2⟩
      rw [show (⟨ub, off, none⟩ : Addr).add j = ⟨ub, off + j, none⟩ from by simp [Addr.add]]
      rcases Nat.mod_two_eq_zero_or_one j with h0 | h0
      · have e : j = j / 2 * 2 := by omega
        rw [← e] at p1 c1
        rw [p1] at hj
        cases hj
        exact c1
      · have e : j = j / 2 * 2 + 1 := by omega
        have e2 : off + j / 2 * 2 + 1 = off + j := by omega
        rw [← e] at p2
        rw [e2] at c2
        rw [p2] at hj
        cases hj
        exact c2
    obtain ⟨v', w', h1, h2, h3, _, _⟩ := run_append_own_at (P := Tryz.prog) w w.heap.size 35 35 71 Tryz.t71 (.agg #[.string ⟨#[]⟩, .string ⟨#[]⟩]) 2 32 Tryz.underlying35 (by kernel_rfl) (by kernel_rfl) (by kernel_rfl) (by kernel_rfl) rfl (by decide) (.slice none 0 0) 0 [] ⟨rfl, .inl ⟨rfl, rfl⟩⟩ ⟨ub, off, none⟩ (u0 :: us').length ucap (pairVals (u0 :: us')) (pairVals_len _) hnews (pairVals_one _) (by unfold maxLen; omega) (by omega) (Nat.le_refl _)
    refine ⟨v', w', h1, ?_, h3⟩
    rw [Nat.zero_add, List.nil_append] at h2
    exact h2
theorem rnew_rep {w w1 wr w5 : World} {v uv' : Value} {rows : List (List (List UInt8))} {rs : List RuleS} {us tens : List (List UInt8 × List UInt8)} {m : Int} {B : Nat} (hq1 : Q w w1) (hv : RowsAt (New w w1) w1 v rows ∧ AllRows rows rs ∧ rs.length ≤ 40 ∧ ∀ row ∈ rows, ∀ s ∈ row, s.length ≤ 4000) (hq : Q w1 wr) (hus : usersFrom 0 [] us = .ok tens) (h8 : us.length ≤ 8) (hm : 0 ≤ m ∧ m < 10080)
    (hg : (wr.alloc (.cells #[v, .slice none 0 0, .int .i64 m, .slice none 0 0, .int .i64 0] 133)).grownBy w5 none) (ho : w5.ownsRow (wr.heap.size + 1) 71 2 uv' us.length (pairVals us)) (hB : B ≤ w.heap.size) :
    (∃ r, RGwRep r B (w5.setCell ⟨wr.heap.size, 1, none⟩ uv') wr.heap.size ⟨rs, tens, m, 0, []⟩ ∧ ∀ b, r b ≠ none → w.heap.size ≤ b) ∧ Q w (w5.setCell ⟨wr.heap.size, 1, none⟩ uv') := by
  have hz1 := hq1.size
  have hz2 := hq.size
  have hz5 : wr.heap.size + 1 ≤ w5.heap.size := by have := hg.size; simpa using this
  have hlt := owns_lt ho
  have hcell : ∀ o, w5.cell? ⟨wr.heap.size, o, none⟩ = (wr.alloc (.cells #[v, .slice none 0 0, .int .i64 m, .slice none 0 0, .int .i64 0] 133)).cell? ⟨wr.heap.size, o, none⟩ := fun o => World.cell?_of_block (hg.block _ (by simp) (by simp))
  have hfz : ∀ o, w5.frozen? ⟨wr.heap.size, o, none⟩ = false := fun o => by
    have := World.frozen?_of_block (a := ⟨wr.heap.size, o, none⟩) (hg.block wr.heap.size (by simp) (by simp))
    rw [this, World.frozen?_alloc_at (hn := rfl)]
  have k1 : w5.cell? ⟨wr.heap.size, 1, none⟩ = some (.slice none 0 0) := by rw [hcell]; simp [go_sem]
  have cg : ∀ o, o ≠ 1 → (w5.setCell ⟨wr.heap.size, 1, none⟩ uv').cell? ⟨wr.heap.size, o, none⟩ = w5.cell? ⟨wr.heap.size, o, none⟩ := fun o h => set_other (fun e => by injection e with _ e2; exact h e2.symm)
  have sm : ∀ b, b < wr.heap.size → SameAt wr (w5.setCell ⟨wr.heap.size, 1, none⟩ uv') b := fun b hb => SameAt.trans' (SameAt.trans' (Q.sameAt ((Q.refl wr).alloc _) hb) (hg.block b (by simp; omega) (by simp))) (set_same_at (by omega))
  have ks : Keeps (New w w1) (fun b => (if b = wr.heap.size then some Kd.gw else if (w.heap.size ≤ b ∧ b < w1.heap.size) ∨ uv'.ownBlock = some b then some .stat else none) = some .stat) w1 (w5.setCell ⟨wr.heap.size, 1, none⟩ uv') := fun b hb => by
    have h1 := hb.1
    have h2 := hb.2
    refine ⟨?_, fun o => ?_⟩
    · show (if b = wr.heap.size then some Kd.gw else if (w.heap.size ≤ b ∧ b < w1.heap.size) ∨ uv'.ownBlock = some b then some .stat else none) = some .stat
      rw [if_neg (by omega), if_pos (.inl ⟨h1, h2⟩)]
    · exact (SameAt.trans' (hq.sameAt h2) (sm b (by omega))).cell o
  have hp := PairsAt.own ho
  have kp : Keeps (fun b => uv'.ownBlock = some b) (fun b => (if b = wr.heap.size then some Kd.gw else if (w.heap.size ≤ b ∧ b < w1.heap.size) ∨ uv'.ownBlock = some b then some .stat else none) = some .stat) w5 (w5.setCell ⟨wr.heap.size, 1, none⟩ uv') := fun b hb => by
    have h1 := (hlt b hb).1
    refine ⟨?_, fun o => (set_same_at (by omega)).cell o⟩
    show (if b = wr.heap.size then some Kd.gw else if (w.heap.size ≤ b ∧ b < w1.heap.size) ∨ uv'.ownBlock = some b then some .stat else none) = some .stat
    rw [if_neg (by omega), if_pos (.inr hb)]
  refine ⟨⟨fun b => if b = wr.heap.size then some .gw else if (w.heap.size ≤ b ∧ b < w1.heap.size) ∨ uv'.ownBlock = some b then some .stat else none, ⟨fun b hb => ?_, fun b hb => ?_, if_pos rfl, ⟨v, rows, by rw [cg 0 (by decide), hcell]; simp [go_sem], hv.1.keeps ks, hv.2⟩, ⟨uv', us, set_same k1, hp.keeps kp, hus, h8⟩, by rw [cg 2 (by decide), hcell]; simp [go_sem], hm, ⟨.slice none 0 0, by rw [cg 3 (by decide), hcell]; simp [go_sem], ⟨rfl, .inl ⟨rfl, rfl⟩⟩, fun k hk => by cases hk⟩, by rw [cg 4 (by decide), hcell]; simp [go_sem], fun o => by rw [World.frozen?_setCell]; exact hfz o⟩, fun b hb => ?_⟩, ?_⟩
  · by_cases e1 : b = wr.heap.size
    · rw [e1]; simp; omega
    · by_cases e2 : (w.heap.size ≤ b ∧ b < w1.heap.size) ∨ uv'.ownBlock = some b
      · rcases e2 with e2 | e2
        · simp; omega
        · have := (hlt b e2).2; simp; omega
      · simp [e1, e2] at hb
  · by_cases e1 : b = wr.heap.size
    · omega
    · by_cases e2 : (w.heap.size ≤ b ∧ b < w1.heap.size) ∨ uv'.ownBlock = some b
      · rcases e2 with e2 | e2
        · omega
        · have := (hlt b e2).1; omega
      · simp [e1, e2] at hb
  · by_cases e1 : b = wr.heap.size
    · omega
    · by_cases e2 : (w.heap.size ≤ b ∧ b < w1.heap.size) ∨ uv'.ownBlock = some b
      · rcases e2 with e2 | e2
        · omega
        · have := (hlt b e2).1; omega
      · simp [e1, e2] at hb
  · have q5 : Q w (wr.alloc (.cells #[v, .slice none 0 0, .int .i64 m, .slice none 0 0, .int .i64 0] 133)) := (hq1.trans hq).alloc _
    have b5 : Q w w5 := Below.grown q5 hg (by simp; omega) (fun k hk => by cases hk)
    have hh : w.heap.size ≤ wr.heap.size := by omega
    exact b5.setCell hh _

set_option maxRecDepth 100000 in
set_option maxHeartbeats 3200000 in
theorem rnew_any (B : Nat) (T : List UInt8) (uv : Value) (us : List (List UInt8 × List UInt8)) (m : Int) (w : World) (hT : T.length ≤ 2097152) (hu : UsersAt w uv us) (hB : B ≤ w.heap.size) :
    Calls Tryz.prog 66 #[.string ⟨T.toArray⟩, uv, .int .i64 m] w fun e w' => RNewPost B T us m w e w' := by
  obtain ⟨ua, ucap, rfl, hul, huc⟩ := hu
  have HU := show Hid _ from huc
  have HRu := show Hid _ from rrules_any T w hT
  clear huc
  go_enter Tryz.func66, Tryz.ntmps66
  go_wp2_with fail
  refine Calls.mono (Hid.out HRu) ?_
  rintro e w1 ⟨hq1, ⟨en, ln, hr, rfl⟩ | ⟨rows, v, hr, rfl, hrows⟩⟩
  · obtain ⟨hen, hc⟩ := rules_errR hr
    have HN : Hid (newS T us m = .error (en, ln)) := by
      show _ = _
      unfold newS; rw [hc]
    have d0 : ((en : Int) != 0) = true := by rw [bne_iff_ne]; omega
    have HQ : Hid (Q w w1) := hq1
    clear hr hc HRu
    go_wp2_with fail
    go_ret3
    exact ⟨HQ.out, .inl ⟨en, ln, HN.out, rfl⟩⟩
  obtain ⟨rs, hc, hall⟩ := rules_okR hr
  have HN0 : Hid (newS T us m = if 8 < us.length then .error (2, 0) else match usersFrom 0 [] us with
    | .error k => .error (4, k)
    | .ok tens => if m < 0 ∨ 10080 ≤ m then .error (5, 0) else .ok ⟨rs, tens, m, 0, []⟩) := by
    show _ = _
    unfold newS; rw [hc]
    dsimp only
    cases usersFrom 0 [] us <;> rfl
  have HRows : Hid (RowsAt (New w w1) w1 v rows ∧ AllRows rows rs ∧ rs.length ≤ 40 ∧ ∀ row ∈ rows, ∀ s ∈ row, s.length ≤ 4000) := ⟨hrows, hall, by rw [← allRows_len hall]; exact rules_few hr, rules_shortR hr⟩
  have HQ1 : Hid (Q w w1) := hq1
  obtain ⟨vo, vn, vc, rfl⟩ : ∃ o n c, v = .slice o n c := by
    rcases hrows with ⟨_, h⟩ | ⟨g', cap, h, _⟩ <;> exact ⟨_, _, _, h⟩
  clear hr hc HRu hrows hall hq1
  by_cases h8 : 8 < us.length
  · have d8 : decide ((8 : Int) < (us.length : Int)) = true := decide_eq_true (by omega)
    have HN : Hid (newS T us m = .error (2, 0)) := by
      show _ = _
      rw [HN0.out, if_pos h8]
    clear h8 HN0
    go_wp2_with fail
    go_ret3
    exact ⟨HQ1.out, .inl ⟨2, 0, HN.out, rfl⟩⟩
  have d8 : decide ((8 : Int) < (us.length : Int)) = false := decide_eq_false (by omega)
  rw [if_neg h8] at HN0
  go_wp2_with fail
  go_loopw [12, 13, 14, 15] (fun i _ _ _ wr => ∃ (k : Nat) (tens : List (List UInt8 × List UInt8)), k ≤ us.length ∧ i = .int .i64 (k : Int) ∧ Hid (usersFrom 0 [] (us.take k) = .ok tens) ∧ Hid (Q w1 wr)) (fun i _ _ _ _ => us.length - (intOf i).toNat)
  case atStart => exact ⟨0, [], Nat.zero_le _, rfl, rfl, Q.refl _⟩
  case round =>
    obtain ⟨k, tens, hk, rfl, hfr, hqr⟩ := hrel
    by_cases hlt : k < us.length
    · obtain ⟨u, hget⟩ : ∃ u, us[k]? = some u := ⟨_, List.getElem?_eq_getElem hlt⟩
      obtain ⟨b1, b2, ub, off, rfl, x1, x2⟩ := HU.out k u hget
      have y1 := hqr.out.cell (HQ1.out.cell x1)
      have y2 := hqr.out.cell (HQ1.out.cell x2)
      have HNx := show Hid _ from users_next hget hfr.out
      have HG := show Hid _ from with_good (u := u) hfr.out
      have HTe := fun x => show Hid _ from rtenant_any u.1 x (by omega)
      have HSe := fun x => show Hid _ from rsecret_any u.2 x (by omega)
      have HGd : Hid (goodK us u 0 = secretOk u.2) := by
        show _ = _
        unfold goodK; simp
      unfold str at y1 y2
      clear hget x1 x2
      go_wp2_with fail
      refine Calls.mono (Hid.out (HTe _)) ?_
      rintro e w' ⟨rfl, hw⟩
      rw [hw]
      clear hw w' HTe
      go_wp2_with fail
      refine Calls.mono (Hid.out (HSe _)) ?_
      rintro e w' ⟨rfl, hw⟩
      rw [hw]
      clear hw w' HSe
      rw [← HGd.out]
      clear HGd
      go_wp2_with fail
      obtain ⟨wp, hwp⟩ : ∃ wp, wp = wr := ⟨_, rfl⟩
      subst hwp
      go_loopw [14, 15] (fun gd j wr => ∃ q : Nat, q ≤ k ∧ j = .int .i64 (q : Int) ∧ gd = .bool (goodK us u q) ∧ Hid (Q wp wr)) (fun _ j _ => k - (intOf j).toNat)
      case atStart => exact ⟨0, Nat.zero_le _, rfl, rfl, Q.refl _⟩
      case round =>
        obtain ⟨q, hqk, rfl, rfl, hqq⟩ := hrel
        by_cases hql : q < k
        · obtain ⟨o, hgo⟩ : ∃ o, us[q]? = some o := ⟨_, List.getElem?_eq_getElem (by omega)⟩
          obtain ⟨_, _, ub2, off2, hua2, x3, _⟩ := HU.out q o hgo
          obtain ⟨rfl, rfl⟩ : ub2 = ub ∧ off2 = off := by
            injection hua2 with e
            injection e with e1 e2 _
            exact ⟨e1.symm, e2.symm⟩
          have z1 := hqq.out.cell (hqr.out.cell (HQ1.out.cell x3))
          have z2 := hqq.out.cell y1
          have HGs := show Hid _ from good_step (u := u) hgo
          unfold str at z1
          have hqu : q < us.length := by omega
          clear hgo x3 hua2
          cases hgd : goodK us u q with
          | false =>
            rw [hgd, Bool.false_and] at HGs
            clear hgd
            go_wp2_with fail
            go_quiet (fail)
            go_wp2_with fail
            exact ⟨⟨q + 1, by omega, by go_num, by rw [HGs.out], hqq.out.drews _⟩, by simp [intOf]; omega⟩
          | true =>
            rw [hgd, Bool.true_and] at HGs
            clear hgd
            go_wp2_with fail
            go_quiet (fail)
            go_wp2_with fail
            exact ⟨⟨q + 1, by omega, by go_num, by rw [HGs.out]; rfl, hqq.out.drews _⟩, by simp [intOf]; omega⟩
        · have hqk' : q = k := by omega
          subst hqk'
          have HQr : Hid (Q w1 wr) := hqr.out.trans hqq.out
          generalize goodK us u q = gd at *
          generalize tenantOk u.1 = te at *
          cases hb : (te && gd) with
          | false =>
            have HE : Hid (usersFrom 0 [] us = .error q) := HNx.out.1 (by
              cases hw : withS tens u.1 u.2 with
              | none => rfl
              | some t =>
                have := HG.out
                rw [hw, hb] at this
                cases this)
            have HN : Hid (newS T us m = .error (4, q)) := by
              show _ = _
              rw [HN0.out, HE.out]
            clear HNx HG HE HN0
            cases te
            · go_wp2_with fail
              go_ret3
              exact ⟨HQ1.out.trans HQr.out, .inl ⟨4, q, HN.out, rfl⟩⟩
            · cases gd
              · go_wp2_with fail
                go_ret3
                exact ⟨HQ1.out.trans HQr.out, .inl ⟨4, q, HN.out, rfl⟩⟩
              · cases hb
          | true =>
            obtain ⟨t, HT1⟩ : ∃ t, Hid (usersFrom 0 [] (us.take (q + 1)) = .ok t) := by
              cases hw : withS tens u.1 u.2 with
              | none =>
                have := HG.out
                rw [hw, hb] at this
                cases this
              | some t => exact ⟨t, HNx.out.2 t hw⟩
            obtain ⟨rfl, rfl⟩ : te = true ∧ gd = true := by
              cases te <;> cases gd <;> simp at hb ⊢
            clear HNx HG hb HN0
            go_wp2_with fail
            exact ⟨⟨q + 1, t, by omega, by go_num, HT1, HQr⟩, by simp [intOf]; omega⟩
    · have HFr : Hid (usersFrom 0 [] us = .ok tens) := by
        have := hfr.out
        rw [List.take_of_length_le (by omega)] at this
        exact this
      have HQr : Hid (Q w wr) := HQ1.out.trans hqr.out
      have HN1 : Hid (newS T us m = if m < 0 ∨ 10080 ≤ m then .error (5, 0) else .ok ⟨rs, tens, m, 0, []⟩) := by
        show _ = _
        rw [HN0.out, HFr.out]
      clear HN0 hfr
      by_cases hm : m < 0 ∨ 10080 ≤ m
      · have HN : Hid (newS T us m = .error (5, 0)) := by
          show _ = _
          rw [HN1.out, if_pos hm]
        clear HN1
        by_cases hm0 : m < 0
        · have e1 : decide (m < 0) = true := decide_eq_true hm0
          clear hm hm0
          go_wp2_with fail
          go_ret3
          exact ⟨HQr.out, .inl ⟨5, 0, HN.out, rfl⟩⟩
        · have e1 : decide (m < 0) = false := decide_eq_false hm0
          have e2 : decide (10080 ≤ m) = true := decide_eq_true (by omega)
          clear hm hm0
          go_wp2_with fail
          go_ret3
          exact ⟨HQr.out, .inl ⟨5, 0, HN.out, rfl⟩⟩
      · have HN : Hid (newS T us m = .ok ⟨rs, tens, m, 0, []⟩) := by
          show _ = _
          rw [HN1.out, if_neg hm]
        have e1 : decide (m < 0) = false := decide_eq_false (by omega)
        have e2 : decide (10080 ≤ m) = false := decide_eq_false (by omega)
        have HM : Hid (0 ≤ m ∧ m < 10080) := ⟨by omega, by omega⟩
        clear HN1 hm
        have hua : UsersAt (wr.alloc (.cells #[.slice vo vn vc, .slice none 0 0, .int .i64 m, .slice none 0 0, .int .i64 0] 133)) (.slice ua us.length ucap) us := ⟨ua, ucap, rfl, hul, fun i u hi => by
          obtain ⟨x1, x2, b, off, x3, x4, x5⟩ := HU.out i u hi
          exact ⟨x1, x2, b, off, x3, (HQr.out.alloc _).cell x4, (HQr.out.alloc _).cell x5⟩⟩
        obtain ⟨uv', w5, hrun, hown, hgr⟩ := append_users _ _ us hua
        have hsz : (wr.alloc (.cells #[.slice vo vn vc, .slice none 0 0, .int .i64 m, .slice none 0 0, .int .i64 0] 133)).heap.size = wr.heap.size + 1 := by simp
        rw [hsz] at hown
        have HRep := show Hid _ from rnew_rep HQ1.out HRows.out hqr.out HFr.out (by omega) HM.out hgr hown hB
        obtain ⟨uo, uc, rfl⟩ := slice_form hown
        have HRun := show Hid _ from hrun
        have k1 : w5.cell? ⟨wr.heap.size, 1, none⟩ = some (.slice none 0 0) := by
          rw [World.cell?_of_block (w := wr.alloc (.cells #[.slice vo vn vc, .slice none 0 0, .int .i64 m, .slice none 0 0, .int .i64 0] 133)) (hgr.block wr.heap.size (by simp) (by simp))]
          simp [go_sem]
        have f1 : w5.frozen? ⟨wr.heap.size, 1, none⟩ = false := by
          rw [World.frozen?_of_block (w := wr.alloc (.cells #[.slice vo vn vc, .slice none 0 0, .int .i64 m, .slice none 0 0, .int .i64 0] 133)) (hgr.block wr.heap.size (by simp) (by simp)), World.frozen?_alloc_at (hn := rfl)]
        have hlt5 : wr.heap.size < w5.heap.size := Q.lt k1
        clear hua hrun hown hgr HRows
        go_wp2_with (first | (at_builtin; refine wpList_append_run rfl (.tmp 88) (.tmp 89) 35 35 rfl (.slice none 0 0) (.slice ua us.length ucap) (.slice uo us.length uc) w5 rfl rfl HRun.out ?_))
        go_ret3
        obtain ⟨⟨r, hrep, hlow⟩, hqf⟩ := HRep.out
        refine ⟨hqf, .inr ⟨⟨rs, tens, m, 0, []⟩, wr.heap.size, r, HN.out, rfl, hrep, ⟨by simp, ?_, (fun i j c d hi => by simp at hi), (fun c hc => by cases hc), by simp⟩, hlow⟩⟩
        have := (users_ok us 0 [] tens HFr.out).1
        show tens.length ≤ 1000
        rw [this, List.nil_append, List.length_map]
        omega
end Go.Proofs.YtdmaffciijmdcaaGreatDoor
/-
  The laws' own helpers: pick, same.
-/
namespace Go.Proofs.YtdmaffciijmdcaaGreatDoor
open Go.RowKit Plain

theorem evVals_cons (e : EvS) (l : List EvS) : evVals (e :: l) = evOf e ++ evVals l := rfl
theorem evVals_get : ∀ (l : List EvS) (i : Nat) (e : EvS) (j : Nat), l[i]? = some e → j < 4 → (evVals l)[i * 4 + j]? = (evOf e)[j]?
  | [], i, e, j, h, _ => by simp at h
  | d :: l, 0, e, j, h, hj => by
    cases h
    rw [evVals_cons, List.getElem?_append_left (by show _ < 4; omega)]
    simp
  | d :: l, i + 1, e, j, h, hj => by
    rw [evVals_cons, List.getElem?_append_right (by show 4 ≤ _; omega)]
    rw [show (i + 1) * 4 + j - (evOf d).length = i * 4 + j by show _ - 4 = _; omega]
    exact evVals_get l i e j (by simpa using h) hj
/-- A list of events, read. -/
def EvAt (w : World) (v : Value) (l : List EvS) : Prop :=
  ∃ o cap, v = .slice o l.length cap ∧ ∀ i e, l[i]? = some e → ∃ g, o = some ⟨g, 0, none⟩ ∧ ∀ j u, j < 4 → (evOf e)[j]? = some u → w.cell? ⟨g, i * 4 + j, none⟩ = some u
theorem EvAt.own {w : World} {B : Nat} {v : Value} {l : List EvS} (h : w.ownsRow B 48 4 v l.length (evVals l)) : EvAt w v l := by
  rcases h.2 with ⟨hv, hn⟩ | ⟨g, cap, cur, hv, _⟩
  · refine ⟨none, 0, by rw [hv, hn], fun i e hi => ?_⟩
    have := List.eq_nil_of_length_eq_zero hn
    subst this
    simp at hi
  · rw [hv] at h
    exact ⟨_, cap, hv, fun i e hi => ⟨g, rfl, fun j u hj hu => owned_at h _ u ((evVals_get l i e j hi hj).trans hu)⟩⟩
theorem EvAt.stays {w w' : World} {v : Value} {l : List EvS} (h : EvAt w v l) (q : Q w w') : EvAt w' v l := by
  obtain ⟨o, cap, h1, h2⟩ := h
  refine ⟨o, cap, h1, fun i e hi => ?_⟩
  obtain ⟨g, h3, h4⟩ := h2 i e hi
  exact ⟨g, h3, fun j u hj hu => q.cell (h4 j u hj hu)⟩

set_option maxRecDepth 100000 in
set_option maxHeartbeats 1600000 in
theorem same_any (a b : Value) (l : List EvS) (w : World) (ha : EvAt w a l) (hb : EvAt w b l) (hl : l.length ≤ 1000000) :
    Calls Tryz.prog 35 #[a, b] w fun e w' => e = .returned (.bool true) ∧ Q w w' := by
  obtain ⟨ao, ac, rfl, ha⟩ := ha
  obtain ⟨bo, bc, rfl, hb⟩ := hb
  have HA := show Hid _ from ha
  have HB := show Hid _ from hb
  obtain ⟨n, hn⟩ : ∃ n, n = l.length := ⟨_, rfl⟩
  have HN := show Hid _ from hn
  rw [← hn] at hl ⊢
  clear ha hb hn
  go_enter Tryz.func35, Tryz.ntmps35
  go_wp2_with fail
  go_loopw [5] (fun i wr => ∃ k : Nat, k ≤ n ∧ i = .int .i64 (k : Int) ∧ Hid (Q w wr)) (fun i _ => n - (intOf i).toNat)
  case atStart => exact ⟨0, Nat.zero_le _, rfl, Q.refl _⟩
  case round =>
    obtain ⟨k, hk, rfl, hq⟩ := hrel
    by_cases hlt : k < n
    · obtain ⟨e, he⟩ : ∃ e, l[k]? = some e := ⟨_, List.getElem?_eq_getElem (by rw [← HN.out]; exact hlt)⟩
      obtain ⟨ga, rfl, ca⟩ := HA.out k e he
      obtain ⟨gb, rfl, cb⟩ := HB.out k e he
      obtain ⟨kd, cn, tx, po⟩ := e
      have a0 : wr.cell? ⟨ga, k * 4, none⟩ = some (.int .i64 kd) := hq.out.cell (ca 0 _ (by decide) rfl)
      have a1 := hq.out.cell (ca 1 _ (by decide) rfl)
      have a2 := hq.out.cell (ca 2 _ (by decide) rfl)
      have a3 := hq.out.cell (ca 3 _ (by decide) rfl)
      have b0 : wr.cell? ⟨gb, k * 4, none⟩ = some (.int .i64 kd) := hq.out.cell (cb 0 _ (by decide) rfl)
      have b1 := hq.out.cell (cb 1 _ (by decide) rfl)
      have b2 := hq.out.cell (cb 2 _ (by decide) rfl)
      have b3 := hq.out.cell (cb 3 _ (by decide) rfl)
      unfold str at a2 b2
      clear ca cb he
      go_wp2_with fail
      go_quiet (fail)
      go_wp2_with fail
      exact ⟨⟨k + 1, by omega, by go_num, hq.out.drews _⟩, by simp [intOf]; omega⟩
    · go_wp2_with fail
      go_ret
      exact ⟨rfl, hq.out⟩

/-- Which of n things a raw number speaks of. -/
def pickL (c : Int) (n : Nat) : Nat := if c < 0 then (-(c + 1)).toNat % n else c.toNat % n
theorem pickL_lt (c : Int) {n : Nat} (h : 0 < n) : pickL c n < n := by
  unfold pickL
  split <;> exact Nat.mod_lt _ h
theorem tmod_natL (c n : Int) (hc : 0 ≤ c) (hn : 0 < n) : c.tmod n = ((c.toNat % n.toNat : Nat) : Int) := by
  obtain ⟨a, rfl⟩ := Int.eq_ofNat_of_zero_le hc
  obtain ⟨b, rfl⟩ := Int.eq_ofNat_of_zero_le (Int.le_of_lt hn)
  rw [Int.tmod_eq_emod_of_nonneg hc]
  simp
set_option maxRecDepth 100000 in
set_option maxHeartbeats 800000 in
theorem lpick_any (c n : Int) (w : World) (h1 : -9223372036854775808 ≤ c) (h2 : c ≤ 9223372036854775807) (hn : 0 < n) (hn2 : n ≤ 4294967296) :
    Calls Tryz.prog 36 #[.int .i64 c, .int .i64 n] w fun e w' => e = .returned (.int .i64 (pickL c n.toNat : Nat)) ∧ w' = w := by
  have hne : ¬ n = 0 := by omega
  by_cases h : c < 0
  · have hm := tmod_natL (-(c + 1)) n (by omega) hn
    have hlt : (-(c + 1)).toNat % n.toNat < n.toNat := Nat.mod_lt _ (by omega)
    have HM := show Hid _ from hm
    clear hm
    go_enter Tryz.func36, Tryz.ntmps36
    go_wp2
    go_ret
    refine ⟨ret_int ?_, rfl⟩
    unfold pickL
    rw [if_pos h, ← HM.out, Int.neg_tmod]
  · have hm := tmod_natL c n (by omega) hn
    have hlt : c.toNat % n.toNat < n.toNat := Nat.mod_lt _ (by omega)
    have HM := show Hid _ from hm
    clear hm
    go_enter Tryz.func36, Tryz.ntmps36
    go_wp2
    go_ret
    refine ⟨ret_int ?_, rfl⟩
    unfold pickL
    rw [if_neg (by omega), ← HM.out, Int.tmod_eq_emod_of_nonneg h]
end Go.Proofs.YtdmaffciijmdcaaGreatDoor

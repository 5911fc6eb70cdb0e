/-
  Package turnpike: New.
-/
import Derived.Test.YtdmaffciijmdcaaGreatDoorGate11C
import Derived.Test.YtdmaffciijmdcaaGreatDoorGateBToGateW
namespace Go.Proofs.YtdmaffciijmdcaaGreatDoor
namespace Plain
theorem rulesOf_en0 : ∀ (n : Nat) (ls : List (List UInt8)) (en ln : Nat), rulesOf n ls = .error (en, ln) → en ≠ 0
  | _, [], _, _, h => by cases h
  | n, [l], en, ln, h => by
    unfold rulesOf at h
    split at h
    · cases h
    · split at h <;> cases h <;> decide
  | n, l :: m :: ls, en, ln, h => by
    unfold rulesOf at h
    split at h
    · cases h; decide
    · split at h
      · cases h; decide
      · cases hx : rulesOf (n + 1) (m :: ls) with
        | error e =>
          rw [hx] at h
          obtain ⟨a, b⟩ := e
          cases h
          exact rulesOf_en0 (n + 1) (m :: ls) _ _ hx
        | ok rs => rw [hx] at h; cases h
theorem comp_en0 {T : List UInt8} {en ln : Nat} (h : compileS T = .error (en, ln)) : en ≠ 0 := by
  unfold compileS at h
  split at h
  · cases h; decide
  · exact rulesOf_en0 _ _ _ _ h
theorem with_len {l : List (List UInt8 × List UInt8)} {n s : List UInt8} {l' : List (List UInt8 × List UInt8)} (h : withS l n s = some l') : l'.length = l.length + 1 := by
  unfold withS at h
  split at h
  · cases h
  · split at h
    · cases h; simp
    · cases h
end Plain
open Go.RowKit Plain

def NewPost (B : Nat) (text : List UInt8) (us : List (List UInt8 × List UInt8)) (minute : Int) (w : World) (e : Ending) (w' : World) : Prop :=
  Q w w' ∧ ((∃ en ln : Nat, newS text us minute = .error (en, ln) ∧ e = .returned (.tuple #[.pointer none, .int .i64 (en : Int), .int .i64 (ln : Int)])) ∨
    ∃ g gb r, newS text us minute = .ok g ∧ e = .returned (.tuple #[ptr gb, .int .i64 0, .int .i64 0]) ∧ GwRep r B w' gb g ∧ GOk g ∧ ∀ b, r b ≠ none → w.heap.size ≤ b)

theorem new_rep {w w1 wr : World} {pb kb : Nat} {rs : List RuleS} {tens : List (List UInt8 × List UInt8)} {lv : Value} {minute : Int} {B : Nat} (hq1 : Q w w1) (hpol : PolicyRep (New w w1) w1 pb rs) (hq : Q w1 wr) (hkb : w1.heap.size ≤ kb) (hown : wr.ownsRow (kb + 1) 154 2 lv tens.length (pairVals tens)) (hB : B ≤ w.heap.size) :
    ∃ r, GwRep r B (wr.alloc (.cells #[ptr pb, lv, .int .i64 minute, .int .i64 0, .slice none 0 0] 92)) wr.heap.size ⟨rs, tens, minute, 0, []⟩ ∧ ∀ b, r b ≠ none → w.heap.size ≤ b := by
  have hz1 := hq1.size
  have hz2 := hq.size
  have qa : Q wr (wr.alloc (.cells #[ptr pb, lv, .int .i64 minute, .int .i64 0, .slice none 0 0] 92)) := (Q.refl _).alloc _
  have C : ∀ o, (wr.alloc (.cells #[ptr pb, lv, .int .i64 minute, .int .i64 0, .slice none 0 0] 92)).cell? ⟨wr.heap.size, o, none⟩ = (#[ptr pb, lv, .int .i64 minute, .int .i64 0, .slice none 0 0] : Array Value)[o]? := fun o => by
    rw [World.cell?_alloc_at (hn := rfl)]
  refine ⟨fun b => if b = wr.heap.size then some .gw else if w.heap.size ≤ b ∧ b < wr.heap.size then some .stat else none, ?_, fun b hb => ?_⟩
  · refine ⟨fun b hb => ?_, fun b hb => ?_, if_pos rfl, ⟨pb, by rw [C]; rfl, ?_⟩, ⟨lv, by rw [C]; rfl, ?_⟩, by rw [C]; rfl, by rw [C]; rfl, fun o => ?_, .slice none 0 0, [], by rw [C]; rfl, ⟨rfl, .inl ⟨rfl, rfl⟩⟩, (fun k hk => by cases hk), trivial⟩
    · by_cases e1 : b = wr.heap.size
      · simp; omega
      · by_cases e2 : w.heap.size ≤ b ∧ b < wr.heap.size
        · simp; omega
        · simp [e1, e2] at hb
    · by_cases e1 : b = wr.heap.size
      · omega
      · by_cases e2 : w.heap.size ≤ b ∧ b < wr.heap.size
        · omega
        · simp [e1, e2] at hb
    · refine hpol.keeps fun b hb => ?_
      obtain ⟨h1, h2⟩ := hb
      refine ⟨?_, fun o => ?_⟩
      · show (if b = wr.heap.size then some Kd.gw else if w.heap.size ≤ b ∧ b < wr.heap.size then some .stat else none) = some .stat
        rw [if_neg (by omega), if_pos ⟨h1, by omega⟩]
      · exact (hq.trans qa).cells.1 b o h2
    · refine (PairsAt.own hown).keeps fun b hb => ?_
      have h1 := owns_lt hown b hb
      refine ⟨?_, fun o => qa.cells.1 b o h1.2⟩
      show (if b = wr.heap.size then some Kd.gw else if w.heap.size ≤ b ∧ b < wr.heap.size then some .stat else none) = some .stat
      rw [if_neg (by omega), if_pos ⟨by omega, h1.2⟩]
    · rw [World.frozen?_alloc_at (hn := rfl)]
  · by_cases e1 : b = wr.heap.size
    · omega
    · by_cases e2 : w.heap.size ≤ b ∧ b < wr.heap.size
      · exact e2.1
      · simp [e1, e2] at hb

set_option maxRecDepth 100000 in
set_option maxHeartbeats 3200000 in
theorem new_any (B : Nat) (s : ByteArray) (us : List (List UInt8 × List UInt8)) (v : Value) (minute : Int) (w : World) (hs : s.size ≤ maxLen) (hv : PairsAt (fun b => b < w.heap.size) w v us) (hul : us.length ≤ 2097152) (hB : B ≤ w.heap.size) :
    Calls Tryz.prog 13 #[.string s, v, .int .i64 minute] w fun e w' => NewPost B s.data.toList us minute w e w' := by
  have hmf : ∀ (fn : Fn) (first cap : Array Value) (w : World), (Instr.makeFunc fn first cap).run Tryz.prog w = .ok (.func fn first cap) w := fun _ _ _ _ => rfl
  obtain ⟨ua, ucap, rfl, hua⟩ := hv
  have HU := show Hid _ from hua
  have HC := show Hid _ from compile_any s w hs
  clear hua hs
  go_enter Tryz.func13, Tryz.ntmps13
  go_wp2_with fail
  refine Calls.mono (Hid.out HC) ?_
  rintro e w1 ⟨hq1, ⟨en, ln, hcs, rfl⟩ | ⟨rs, pb, hcs, rfl, hpol⟩⟩
  · have hen := comp_en0 hcs
    have d0 : ((en : Int) != 0) = true := by rw [bne_iff_ne]; omega
    have HN : Hid (newS s.data.toList us minute = .error (en, ln)) := by
      show _ = _
      unfold newS; rw [hcs]
    clear hcs HC hen
    go_wp2_with fail
    go_ret3
    exact ⟨hq1, .inl ⟨en, ln, HN.out, rfl⟩⟩
  have HN : Hid (newS s.data.toList us minute = if 8 < us.length then .error (2, 0) else match usersFrom 0 [] us with
    | .error k => .error (4, k)
    | .ok tens => if minute < 0 ∨ 10080 ≤ minute then .error (5, 0) else .ok ⟨rs, tens, minute, 0, []⟩) := by
    show _ = _
    unfold newS; rw [hcs]
    dsimp only
    cases usersFrom 0 [] us <;> rfl
  have HP := show Hid _ from hpol
  clear hcs hpol HC
  by_cases h8 : 8 < us.length
  · have d8 : decide ((8 : Int) < (us.length : Int)) = true := decide_eq_true (by omega)
    have HN2 : Hid (newS s.data.toList us minute = .error (2, 0)) := by
      show _ = _
      rw [HN.out, if_pos h8]
    clear HN h8
    go_wp2_with fail
    go_ret3
    exact ⟨hq1, .inl ⟨2, 0, HN2.out, rfl⟩⟩
  have d8 : decide ((8 : Int) < (us.length : Int)) = false := decide_eq_false (by omega)
  have HN3 : Hid (newS s.data.toList us minute = match usersFrom 0 [] us with
    | .error k => .error (4, k)
    | .ok tens => if minute < 0 ∨ 10080 ≤ minute then .error (5, 0) else .ok ⟨rs, tens, minute, 0, []⟩) := by
    show _ = _
    rw [HN.out, if_neg h8]
  clear HN
  go_wp2_with fail
  go_loopw [32, 13, 14, 15, 16] (fun i _ _ _ _ wr => ∃ (k : Nat) (tens : List (List UInt8 × List UInt8)) (lv : Value), k ≤ us.length ∧ tens.length = k ∧ i = .int .i64 k ∧ Q w1 wr ∧ wr.cell? ⟨w1.heap.size, 0, none⟩ = some lv ∧ wr.frozen? ⟨w1.heap.size, 0, none⟩ = false ∧ Hid (wr.ownsRow (w1.heap.size + 1) 154 2 lv tens.length (pairVals tens)) ∧ Hid (usersFrom 0 [] us = usersFrom k tens (us.drop k))) (fun i _ _ _ _ _ => us.length - (intOf i).toNat)
  case atStart => exact ⟨0, [], .slice none 0 0, Nat.zero_le _, rfl, rfl, (Q.refl _).alloc _, by simp [go_sem], by simp [go_sem], ⟨rfl, .inl ⟨rfl, rfl⟩⟩, rfl⟩
  case round =>
    obtain ⟨k, tens, lv, hk, htl, rfl, hq, hkc, hkf, hown, hsp⟩ := hrel
    obtain ⟨lo, lc, rfl⟩ := slice_form hown.out
    have hkl : w1.heap.size < wr.heap.size := Q.lt hkc
    have HTL := show Hid _ from htl
    by_cases hlt : k < us.length
    · have hget : us[k]? = some us[k] := List.getElem?_eq_getElem hlt
      obtain ⟨ug, hug, rfl, g1, g2⟩ := HU.out k _ hget
      have HGet := show Hid _ from hget
      generalize us[k] = u at *
      obtain ⟨un, uss⟩ := u
      obtain ⟨N, rfl⟩ : ∃ M : ByteArray, M.data.toList = un := ⟨⟨un.toArray⟩, rfl⟩
      obtain ⟨S, rfl⟩ : ∃ M : ByteArray, M.data.toList = uss := ⟨⟨uss.toArray⟩, rfl⟩
      have c1 : wr.cell? ⟨ug, k * 2, none⟩ = some (.string N) := (hq1.trans hq).cell g1
      have c2 : wr.cell? ⟨ug, k * 2 + 1, none⟩ = some (.string S) := (hq1.trans hq).cell g2
      have qa : Q wr (wr.alloc (.cells #[.string N, .string S] 71)) := (Q.refl _).alloc _
      have HL := show Hid _ from caughtL_any (w1.heap.size + 1) tens (.slice lo tens.length lc) N S w1.heap.size wr.heap.size (wr.alloc (.cells #[.string N, .string S] 71)) (qa.cell hkc) (by simp [go_sem]) (by simp [go_sem]) (owns_Q hown.out qa) (by simp; omega) (by omega)
      have HOL := show Hid _ from owns_lt hown.out
      clear hget g1 g2 htl
      go_wp2_with fail
      refine Calls.mono (Hid.out HL) ?_
      rintro e w2 (⟨l', gg, cap', hw, rfl, hown2, hgr, hat⟩ | ⟨hw, rfl, hq2⟩)
      · have hne : some w1.heap.size ≠ (Value.slice lo tens.length lc).ownBlock := fun e => by have := (HOL.out _ e.symm).1; omega
        have hkc2 : w2.cell? ⟨w1.heap.size, 0, none⟩ = some (.slice lo tens.length lc) := by
          rw [hgr.cell_far ⟨w1.heap.size, 0, none⟩ (by simp; omega) hne]; exact qa.cell hkc
        have hkf2 : w2.frozen? ⟨w1.heap.size, 0, none⟩ = false := by
          rw [hgr.frozen_far ⟨w1.heap.size, 0, none⟩ (by simp; omega) hne, qa.cells.2 _ _ hkl]; exact hkf
        have hQ2 : Q w1 w2 := Below.grown (hq.trans qa) hgr (hq.trans qa).size (fun b hb => by have := (HOL.out b hb).1; omega)
        have HW := show Hid _ from hw
        have HO2 := show Hid _ from hown2
        have HLL := show Hid _ from with_len hw
        have hgk : gg ≠ w1.heap.size := fun e => by have := (owns_lt hown2 gg rfl).1; omega
        clear hw hown2 hgr hat HL
        go_wp2_with fail
        refine ⟨⟨k + 1, l', _, by omega, by have := HTL.out; have := HLL.out; omega, by go_num, hQ2.setCell (Nat.le_refl _) _, set_same hkc2, by rw [World.frozen?_setCell]; exact hkf2, ?_, ?_⟩, by simp [intOf]; omega⟩
        · exact owns_same HO2.out fun b hb => set_same_at (by
            have : gg = b := by simpa [Value.ownBlock] using hb
            rw [← this]; exact hgk)
        · show _ = _
          rw [hsp.out, drop_consL HGet.out, usersFrom]
          simp only [HW.out]
      · have HN4 : Hid (newS s.data.toList us minute = .error (4, k)) := by
          show _ = _
          rw [HN3.out, hsp.out, drop_consL HGet.out, usersFrom]
          simp only [hw]
        have hQ2 : Q w w2 := (hq1.trans (hq.trans qa)).trans hq2
        clear hw HL
        go_wp2_with fail
        go_ret3
        exact ⟨hQ2, .inl ⟨4, k, HN4.out, rfl⟩⟩
    · have HE : Hid (usersFrom 0 [] us = .ok tens) := by
        show _ = _
        rw [hsp.out, List.drop_eq_nil_of_le (by omega)]; rfl
      have hq1r : Q w wr := hq1.trans hq
      by_cases hm0 : minute < 0
      · have b0 : decide (minute < 0) = true := decide_eq_true hm0
        have HN4 : Hid (newS s.data.toList us minute = .error (5, 0)) := by
          show _ = _
          rw [HN3.out, HE.out]
          simp only [hm0, true_or, if_true]
        clear hm0
        go_wp2_with fail
        go_ret3
        exact ⟨hq1r, .inl ⟨5, 0, HN4.out, rfl⟩⟩
      · have b0 : decide (minute < 0) = false := decide_eq_false hm0
        by_cases hm1 : 10080 ≤ minute
        · have b1 : decide (10080 ≤ minute) = true := decide_eq_true hm1
          have HN4 : Hid (newS s.data.toList us minute = .error (5, 0)) := by
            show _ = _
            rw [HN3.out, HE.out]
            simp only [hm1, or_true, if_true]
          clear hm0 hm1
          go_wp2_with fail
          go_ret3
          exact ⟨hq1r, .inl ⟨5, 0, HN4.out, rfl⟩⟩
        · have b1 : decide (10080 ≤ minute) = false := decide_eq_false hm1
          have HN4 : Hid (newS s.data.toList us minute = .ok ⟨rs, tens, minute, 0, []⟩) := by
            show _ = _
            rw [HN3.out, HE.out]
            simp only [hm0, hm1, or_self, if_false]
          have HNR := show Hid _ from new_rep (minute := minute) (B := B) hq1 HP.out hq (Nat.le_refl _) hown.out hB
          have htens : tens.length ≤ 1000 := by omega
          clear hm0 hm1 htl
          go_wp2_with fail
          go_ret3
          obtain ⟨r, h1, h2⟩ := HNR.out
          exact ⟨hq1r.alloc _, .inr ⟨⟨rs, tens, minute, 0, []⟩, wr.heap.size, r, HN4.out, rfl, h1, ⟨by simp, htens, fun i j c d hi => by simp at hi, fun c hc => by simp at hc, by simp⟩, h2⟩⟩
end Go.Proofs.YtdmaffciijmdcaaGreatDoor
/-
  Package turnpike: Reload.
-/
namespace Go.Proofs.YtdmaffciijmdcaaGreatDoor
open Go.RowKit Plain

/-- What Reload answers. -/
def ReloadPost (r : Rl) (B : Nat) (gb : Nat) (g : GateS) (T : List UInt8) (w : World) (e : Ending) (w' : World) : Prop :=
  (∃ en ln : Nat, compileS T = .error (en, ln) ∧ e = .returned (.tuple #[.int .i64 (en : Int), .int .i64 (ln : Int)]) ∧ Q w w') ∨
  ∃ rs r', compileS T = .ok rs ∧ e = .returned (.tuple #[.int .i64 0, .int .i64 0]) ∧ GwStep r B w gb r' w' { g with rules := rs }

theorem GwRep.setRules {r : Rl} {B : Nat} {w w1 : World} {gb : Nat} {g : GateS} (h : GwRep r B w gb g) (q : Q w w1) {pb : Nat} {rs : List RuleS} (hv : PolicyRep (New w w1) w1 pb rs) :
    ∃ r', GwStep r B w gb r' (w1.setCell ⟨gb, 0, none⟩ (ptr pb)) { g with rules := rs } := by
  have hgb := h.inB
  have hsz := q.size
  obtain ⟨pb0, h4, _⟩ := h.pol
  obtain ⟨tv, h6, h7⟩ := h.ten
  obtain ⟨cv, cbs, h11, h12, h13, h14⟩ := h.con
  have hr' : ∀ b x, r b = some x → (if w.heap.size ≤ b ∧ b < w1.heap.size then some Kd.stat else r b) = some x := fun b x hb => by
    rw [if_neg]
    · exact hb
    · intro e
      have := h.lt b (by rw [hb]; simp)
      omega
  have sm : ∀ b, b < w.heap.size → b ≠ gb → SameAt w (w1.setCell ⟨gb, 0, none⟩ (ptr pb)) b := fun b hb hne => (set_same_at hne).trans (q.sameAt hb)
  have smr : ∀ b k, r b = some k → k ≠ .gw → SameAt w (w1.setCell ⟨gb, 0, none⟩ (ptr pb)) b := fun b k hb hk => sm b (h.lt b (by rw [hb]; simp)) (fun e => by
    rw [e, h.role] at hb
    cases hb
    exact hk rfl)
  have cg : ∀ o, o ≠ 0 → (w1.setCell ⟨gb, 0, none⟩ (ptr pb)).cell? ⟨gb, o, none⟩ = w.cell? ⟨gb, o, none⟩ := fun o ho => by
    rw [set_other (fun e => by injection e with _ e2; exact ho e2.symm)]
    exact q.cells.1 gb o hgb.2
  have ks : Keeps (fun b => r b = some .stat) (fun b => (if w.heap.size ≤ b ∧ b < w1.heap.size then some Kd.stat else r b) = some .stat) w (w1.setCell ⟨gb, 0, none⟩ (ptr pb)) := fun b hb =>
    ⟨hr' b _ hb, fun o => (smr b _ hb (by simp)).cell o⟩
  have kn : Keeps (New w w1) (fun b => (if w.heap.size ≤ b ∧ b < w1.heap.size then some Kd.stat else r b) = some .stat) w1 (w1.setCell ⟨gb, 0, none⟩ (ptr pb)) := fun b hb =>
    ⟨if_pos hb, fun o => (set_same_at (fun e => by have := hb.1; omega)).cell o⟩
  refine ⟨fun b => if w.heap.size ≤ b ∧ b < w1.heap.size then some .stat else r b, ⟨⟨fun b hb => ?_, fun b hb => ?_, hr' gb _ h.role, ⟨pb, set_same (u := ptr pb0) (q.cell h4), hv.keeps kn⟩, ⟨tv, by rw [cg 1 (by decide)]; exact h6, h7.keeps ks⟩, by rw [cg 2 (by decide)]; exact h.min, by rw [cg 3 (by decide)]; exact h.last, fun o => by rw [World.frozen?_setCell, q.cells.2 gb o hgb.2]; exact h.fz o, cv, cbs, by rw [cg 4 (by decide)]; exact h11, owns_same h12 fun k hk => smr k _ (h13 k hk) (by simp), fun k hk => hr' k _ (h13 k hk), h14.same fun c _ b hb => ?_⟩, ⟨q.os, q.tape, q.output, by simp; omega, fun k hk2 hr => sm k hk2 (fun e => by rw [e, h.role] at hr; cases hr)⟩, fun b hb => ?_, fun b hb => ?_⟩⟩
  · by_cases e : w.heap.size ≤ b ∧ b < w1.heap.size
    · simpa using e.2
    · have hb' : r b ≠ none := by simpa [e] using hb
      have := h.lt b hb'; simp; omega
  · by_cases e : w.heap.size ≤ b ∧ b < w1.heap.size
    · omega
    · exact h.low b (by simpa [e] using hb)
  · rcases hb with hb | hb
    · exact ⟨(hr' b _ hb).trans hb.symm, smr b _ hb (by simp)⟩
    · exact ⟨(hr' b _ hb).trans hb.symm, smr b _ hb (by simp)⟩
  · by_cases e : w.heap.size ≤ b ∧ b < w1.heap.size
    · exact .inr e.1
    · exact .inl (by simpa [e] using hb)
  · by_cases e : w.heap.size ≤ b ∧ b < w1.heap.size
    · simp [e]
    · simpa [e] using hb

set_option maxRecDepth 100000 in
set_option maxHeartbeats 1600000 in
theorem reload_any {r : Rl} {B : Nat} {w : World} {gb : Nat} {g : GateS} (h : GwRep r B w gb g) (s : ByteArray) (hs : s.size ≤ maxLen) :
    Calls Tryz.prog 30 #[ptr gb, .string s] w fun e w' => ReloadPost r B gb g s.data.toList w e w' := by
  have HR : Hid (GwRep r B w gb g) := h
  obtain ⟨pb0, h4, _⟩ := h.pol
  have hfz := h.fz 0
  have hgb := h.inB.2
  have HC := show Hid _ from compile_any s w hs
  clear h hs
  go_enter Tryz.func30, Tryz.ntmps30
  go_wp2_with fail
  refine Calls.mono (Hid.out HC) ?_
  rintro e w1 ⟨hq1, ⟨en, ln, hcs, rfl⟩ | ⟨rs, pb, hcs, rfl, hpol⟩⟩
  · have hen := comp_en0 hcs
    have d0 : ((en : Int) != 0) = true := by rw [bne_iff_ne]; omega
    have HN := show Hid _ from hcs
    clear hcs HC hen
    go_wp2_with fail
    go_ret2
    exact .inl ⟨en, ln, HN.out, rfl, hq1⟩
  · have HN := show Hid _ from hcs
    have HS := show Hid _ from HR.out.setRules hq1 hpol
    have c0 := hq1.cell h4
    have f0 : w1.frozen? ⟨gb, 0, none⟩ = false := by rw [hq1.cells.2 gb 0 hgb]; exact hfz
    clear hcs hpol HC
    go_wp2_with fail
    go_ret2
    obtain ⟨r', hst⟩ := HS.out
    exact .inr ⟨rs, r', HN.out, rfl, hst⟩
end Go.Proofs.YtdmaffciijmdcaaGreatDoor

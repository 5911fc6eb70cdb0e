/-
  Package turnpike: judge.
-/
import Derived.Test.YtdmaffciijmdcaaGreatDoorCaughtNToJudge0
import Derived.Deep.RegionHeld3
import Derived.Test.YtdmaffciijmdcaaGreatDoorGateMToRG6
namespace Go.Proofs.YtdmaffciijmdcaaGreatDoor
open Go.RowKit Plain

def JudgePost (x : Except (List UInt8) (List UInt8 × Nat)) (w : World) (e : Ending) (w' : World) : Prop :=
  Q w w' ∧ ((∃ r, x = .error r ∧ e = .returned (.tuple #[.agg #[str [], .int .i64 0], str r])) ∨ ∃ h n, x = .ok (h, n) ∧ e = .returned (.tuple #[.agg #[str h, .int .i64 (n : Int)], str []]))

theorem two_twice {W : World} {p q : Addr} {a b a' b' a0 b0 : Value} (hpq : p ≠ q) (h0 : W.cell? p = some a0) (h1 : W.cell? q = some b0) : ((((W.setCell p a).setCell q b).setCell p a').setCell q b').cell? p = some a' ∧ ((((W.setCell p a).setCell q b).setCell p a').setCell q b').cell? q = some b' := by
  constructor
  · rw [set_other (Ne.symm hpq)]
    exact set_same (u := a) (by rw [set_other (Ne.symm hpq)]; exact set_same h0)
  · refine set_same (u := b) ?_
    rw [set_other hpq]
    exact set_same (u := b0) (by rw [set_other hpq]; exact h1)
theorem two_once {W : World} {p q : Addr} {a b a0 b0 : Value} (hpq : p ≠ q) (h0 : W.cell? p = some a0) (h1 : W.cell? q = some b0) : ((W.setCell p a).setCell q b).cell? p = some a ∧ ((W.setCell p a).setCell q b).cell? q = some b := by
  constructor
  · rw [set_other (Ne.symm hpq)]
    exact set_same h0
  · exact set_same (u := b0) (by rw [set_other hpq]; exact h1)
theorem target_len {l h : List UInt8} {n : Nat} (ht : targetS l = some (h, n)) : h.length ≤ l.length := by
  unfold targetS at ht
  split at ht
  · cases ht
  · rename_i a p hc
    split at ht
    · cases ht
    · split at ht
      · cases ht
      · cases ht
        rw [lower_len]
        exact (cut_le hc).1

set_option maxRecDepth 100000 in
set_option maxHeartbeats 3200000 in
theorem judge_any (gb : Nat) (rs : List RuleS) (tens : List (List UInt8 × List UInt8)) (minute : Int) (s : ByteArray) (w : World) (hg : GwRead w gb rs tens minute) (hm : ML w) (hs : s.size ≤ 1000) :
    Calls Tryz.prog 95 #[.pointer (some ⟨gb, 0, none⟩), .string s] w fun e w' => JudgePost (judgeS rs tens minute s.data.toList) w e w' := by
  have hmf : ∀ (fn : Fn) (first cap : Array Value) (w : World), (Instr.makeFunc fn first cap).run Tryz.prog w = .ok (.func fn first cap) w := fun _ _ _ _ => rfl
  have HGW : Hid (GwRead w gb rs tens minute) := hg
  have hgl : gb < w.heap.size := Q.lt hg.min
  have HM : Hid (ML w) := hm
  clear hg hm
  go_enter Tryz.func95, Tryz.ntmps95
  go_wp2_with fail
  have hq0 : Q w ((w.alloc (.cells #[.string s] 9)).alloc (.cells #[.string ⟨#[]⟩, .int .i64 0] 165)) := ((Q.refl _).alloc _).alloc _
  refine (caughtH_any s w.heap.size _ hs (HM.out.stays hq0) (by simp [go_sem])).mono ?_
  rintro e w1 ⟨hq, ⟨h, sv, hr, rfl, hp⟩ | ⟨hr, rfl⟩⟩
  case inr =>
    have hcl : ∀ i, w1.cell? ⟨w.heap.size + 1, i, none⟩ = (#[.string ⟨#[]⟩, .int .i64 0] : Array Value)[i]? := hq.made2n.2.1
    have hfr : ∀ i, w1.frozen? ⟨w.heap.size + 1, i, none⟩ = false := fun i => by
      rw [hq.cells.2 _ _ (by simp)]; simp [go_sem]
    have hlt : w.heap.size + 1 < w1.heap.size := hq.made2n.2.2
    have HJ : Hid (judgeS rs tens minute s.data.toList = .error badB) := by
      show _ = _
      unfold judgeS; rw [hr]
    have hQ1 : Q w w1 := hq0.trans hq
    clear hr hq
    unfold headV str
    go_wp2_with fail
    refine bodyPost_ret (v := .tuple #[.agg #[str [], .int .i64 0], str badB]) (by simp [results, Tryz.results95, go_sem, hcl, hlt, str, badB]) rfl ⟨?_, .inl ⟨_, HJ.out, rfl⟩⟩
    (repeat first | exact hQ1 | refine Q.setCell ?_ (Nat.le_succ _) _ | refine Q.alloc ?_ _ | refine Q.drew ?_)
  obtain ⟨a, cap, rfl, hat⟩ := hp
  obtain ⟨bt, bm, bf⟩ := head_bounds hr (by rw [size_len]; exact hs)
  have HJ0 : Hid (judgeS rs tens minute s.data.toList = if (h.method == connectB) = false then .error kindB else match targetS h.target with
    | none => .error badB
    | some (host, port) => match whoIs tens h.fields with
      | none => .error whoB
      | some t => if (decideS rs t host (port : Int) minute).1 = true then .ok (host, port) else .error denyB) := by
    show _ = _
    unfold judgeS; rw [hr]; rfl
  have HP : Hid (PairsAt (fun b => w.heap.size + 2 ≤ b ∧ b < w1.heap.size) w1 (.slice a h.fields.length cap) h.fields) := PairsAt.keeps ⟨a, cap, rfl, hat⟩ fun k hk => ⟨⟨by have := hk.1; simp at this; omega, hk.2⟩, fun _ => rfl⟩
  clear hr hat
  obtain ⟨m, t, fs⟩ := h
  obtain ⟨M, rfl⟩ : ∃ M : ByteArray, M.data.toList = m := ⟨⟨m.toArray⟩, rfl⟩
  obtain ⟨T, rfl⟩ : ∃ M : ByteArray, M.data.toList = t := ⟨⟨t.toArray⟩, rfl⟩
  unfold headV
  simp only [str_data, size_len] at *
  have hcl : ∀ i, w1.cell? ⟨w.heap.size + 1, i, none⟩ = (#[.string ⟨#[]⟩, .int .i64 0] : Array Value)[i]? := hq.made2n.2.1
  have hfr : ∀ i, w1.frozen? ⟨w.heap.size + 1, i, none⟩ = false := fun i => by
    rw [hq.cells.2 _ _ (by simp)]; simp [go_sem]
  have hlt : w.heap.size + 1 < w1.heap.size := hq.made2n.2.2
  have hQ1 : Q w w1 := hq0.trans hq
  have hgl1 : gb < w1.heap.size := Nat.lt_of_lt_of_le hgl hQ1.size
  clear hq
  cases hk : (M.data.toList == connectB)
  · have hkk : (M.toList == [67, 79, 78, 78, 69, 67, 84]) = false := by rw [Lib.toList_data]; exact hk
    have HJ : Hid (judgeS rs tens minute s.data.toList = .error kindB) := by
      show _ = _
      rw [HJ0.out, if_pos hk]
    clear hk HJ0
    go_wp2_with fail
    refine bodyPost_ret (v := .tuple #[.agg #[str [], .int .i64 0], str kindB]) (by simp [results, Tryz.results95, go_sem, hcl, hlt, str, kindB]) rfl ⟨?_, .inl ⟨_, HJ.out, rfl⟩⟩
    (repeat first | exact hQ1 | refine Q.setCell ?_ (Nat.le_succ _) _ | refine Q.alloc ?_ _ | refine Q.drew ?_)
  have hkk : (M.toList == [67, 79, 78, 78, 69, 67, 84]) = true := by rw [Lib.toList_data]; exact hk
  have HJ1 : Hid (judgeS rs tens minute s.data.toList = match targetS T.data.toList with
    | none => .error badB
    | some (host, port) => match whoIs tens fs with
      | none => .error whoB
      | some t => if (decideS rs t host (port : Int) minute).1 = true then .ok (host, port) else .error denyB) := by
    show _ = _
    rw [HJ0.out, if_neg (by rw [hk]; decide)]
  clear hk HJ0
  have HTg := fun x hx => show Hid _ from caughtT_any T w1.heap.size x (by omega) hx
  go_wp2_with fail
  refine Calls.mono (Hid.out (HTg _ (by simp [go_sem]))) ?_
  rintro e w2 ⟨hq2, ⟨host, port, hr, rfl⟩ | ⟨hr, rfl⟩⟩
  case inr =>
    have hQ2 : Q w w2 := (hQ1.alloc _).trans hq2
    have hcl2 : ∀ i, w2.cell? ⟨w.heap.size + 1, i, none⟩ = (#[.string ⟨#[]⟩, .int .i64 0] : Array Value)[i]? := fun i => by
      rw [hq2.cells.1 _ _ (by simp; omega)]; simp [go_sem, hcl, hlt]
    have hfr2 : ∀ i, w2.frozen? ⟨w.heap.size + 1, i, none⟩ = false := fun i => by
      rw [hq2.cells.2 _ _ (by simp; omega)]; simp [go_sem, hfr, hlt]
    have HJ : Hid (judgeS rs tens minute s.data.toList = .error badB) := by
      show _ = _
      rw [HJ1.out, hr]
    clear hr hq2 hcl hfr HJ1 HTg
    unfold str
    go_wp2_with fail
    have hpq : (⟨w.heap.size + 1, 0, none⟩ : Addr) ≠ ⟨w.heap.size + 1, 1, none⟩ := fun e => by injection e with _ e2; cases e2
    obtain ⟨x0, x1⟩ := two_twice (a := .string ⟨#[]⟩) (b := .int .i64 0) (a' := .string ⟨#[]⟩) (b' := .int .i64 0) hpq (hcl2 0) (hcl2 1)
    refine bodyPost_ret (v := .tuple #[.agg #[str [], .int .i64 0], str badB]) (by simp [results, Tryz.results95, go_sem, x0, x1, str, badB]) rfl ⟨?_, .inl ⟨_, HJ.out, rfl⟩⟩
    (repeat first | exact hQ2 | refine Q.setCell ?_ (Nat.le_succ _) _ | refine Q.alloc ?_ _ | refine Q.drew ?_)
  have HJ2 : Hid (judgeS rs tens minute s.data.toList = match whoIs tens fs with
      | none => .error whoB
      | some t => if (decideS rs t host (port : Int) minute).1 = true then .ok (host, port) else .error denyB) := by
    show _ = _
    rw [HJ1.out, hr]
  have hhost : host.length ≤ 1000 := by
    have := target_len hr
    rw [size_len] at this
    omega
  obtain ⟨H, rfl⟩ : ∃ M : ByteArray, M.data.toList = host := ⟨⟨host.toArray⟩, rfl⟩
  rw [str_data]
  rw [size_len] at hhost
  have hQ2 : Q w w2 := (hQ1.alloc _).trans hq2
  have hcl2 : ∀ i, w2.cell? ⟨w.heap.size + 1, i, none⟩ = (#[.string ⟨#[]⟩, .int .i64 0] : Array Value)[i]? := fun i => by
    rw [hq2.cells.1 _ _ (by simp; omega)]; simp [go_sem, hcl, hlt]
  have hfr2 : ∀ i, w2.frozen? ⟨w.heap.size + 1, i, none⟩ = false := fun i => by
    rw [hq2.cells.2 _ _ (by simp; omega)]; simp [go_sem, hfr, hlt]
  have hhc : ∀ i, w2.cell? ⟨w1.heap.size, i, none⟩ = (#[.string M, .string T, .slice a fs.length cap] : Array Value)[i]? := fun i => by
    rw [hq2.cells.1 _ _ (by simp)]; simp [go_sem]
  have hlt2 : w.heap.size + 1 < w2.heap.size := by have := hq2.size; simp at this; omega
  have hne : ¬ (w1.heap.size = w.heap.size + 1) := by omega
  clear hr hcl hfr HJ1 HTg
  go_wp2_with fail
  have hpq : (⟨w.heap.size + 1, 0, none⟩ : Addr) ≠ ⟨w.heap.size + 1, 1, none⟩ := fun e => by injection e with _ e2; cases e2
  obtain ⟨W3, hW3⟩ : ∃ W, W = (w2.setCell ⟨w.heap.size + 1, 0, none⟩ (.string H)).setCell ⟨w.heap.size + 1, 1, none⟩ (.int .i64 (port : Int)) := ⟨_, rfl⟩
  have hT := two_once (a := .string H) (b := .int .i64 (port : Int)) hpq (hcl2 0) (hcl2 1)
  rw [← hW3] at hT
  have hfr3 : ∀ i, W3.frozen? ⟨w.heap.size + 1, i, none⟩ = false := fun i => by rw [hW3]; simp [hfr2]
  have hQ3 : Q w W3 := by rw [hW3]; exact (hQ2.setCell (Nat.le_succ _) _).setCell (Nat.le_succ _) _
  have HP3 : Hid (PairsAt (fun b => b < W3.heap.size) W3 (.slice a fs.length cap) fs) := by
    refine PairsAt.keeps HP.out fun k hk => ?_
    obtain ⟨h1, h2⟩ := hk
    have hz := hq2.size
    simp at hz
    have hneA : ∀ o i, (⟨w.heap.size + 1, o, none⟩ : Addr) ≠ ⟨k, i, none⟩ := fun o i e => by injection e with e1 _; omega
    rw [hW3]
    refine ⟨by simp; omega, fun o => ?_⟩
    rw [set_other (hneA _ _), set_other (hneA _ _), hq2.cells.1 k o (by simp; omega)]
    exact World.cell?_of_block (w := w1) (Below.heap_alloc _ _ _ h2)
  rw [← hW3]
  clear hW3 hcl2 hfr2 hhc hq2
  obtain ⟨hT0, hT1⟩ := hT
  refine (tenantOf_any gb rs tens minute M T (.slice a fs.length cap) fs W3 (HGW.out.stays hQ3) HP3.out (by simpa using (by omega : fs.length ≤ 2000))).mono ?_
  rintro e w4 ⟨rfl, hq4⟩
  have hQ4 := hQ3.trans hq4
  have t0 := hq4.cell hT0
  have t1 := hq4.cell hT1
  have tf : ∀ i, w4.frozen? ⟨w.heap.size + 1, i, none⟩ = false := fun i => by rw [hq4.cells.2 _ _ (Q.lt hT0)]; exact hfr3 i
  cases htn : whoIs tens fs with
  | none =>
    have HJ : Hid (judgeS rs tens minute s.data.toList = .error whoB) := by
      show _ = _
      rw [HJ2.out, htn]
    clear htn HJ2 hT0 hT1 hfr3 hq4
    simp only [Option.getD_none, Option.isSome_none]
    unfold str
    go_wp2_with fail
    obtain ⟨x0, x1⟩ := two_once (a := .string ⟨#[]⟩) (b := .int .i64 0) hpq t0 t1
    refine bodyPost_ret (v := .tuple #[.agg #[str [], .int .i64 0], str whoB]) (by simp [results, Tryz.results95, go_sem, x0, x1, str, whoB]) rfl ⟨?_, .inl ⟨_, HJ.out, rfl⟩⟩
    (repeat first | exact hQ4 | refine Q.setCell ?_ (Nat.le_succ _) _ | refine Q.alloc ?_ _ | refine Q.drew ?_)
  | some tn =>
    have HJ3 : Hid (judgeS rs tens minute s.data.toList = if (decideS rs tn H.data.toList (port : Int) minute).1 = true then .ok (H.data.toList, port) else .error denyB) := by
      show _ = _
      rw [HJ2.out, htn]
    clear htn HJ2 hT0 hT1 hfr3 hq4
    simp only [Option.getD_some, Option.isSome_some]
    obtain ⟨N, rfl⟩ : ∃ M : ByteArray, M.data.toList = tn := ⟨⟨tn.toArray⟩, rfl⟩
    rw [str_data]
    have HG4 := show Hid _ from HGW.out.stays hQ4
    obtain ⟨⟨pb, hp0, hpr⟩, _, hmin, _⟩ := HG4.out
    have HD : ∀ x, Q w4 x → Hid (Calls Tryz.prog 135 #[.pointer (some ⟨pb, 0, none⟩), .string N, .string H, .int .i64 (port : Int), .int .i64 minute] x fun e w' => Q x w' ∧ e = .returned (.tuple #[.bool (decideS rs N.data.toList H.data.toList (port : Int) minute).1, .int .i64 (decideS rs N.data.toList H.data.toList (port : Int) minute).2.1, .int .i64 ((decideS rs N.data.toList H.data.toList (port : Int) minute).2.2 : Nat)])) := fun x hx => decide_any rs pb N H port minute x (by omega) (PolicyRep.stays hpr hx)
    clear hpr HG4
    generalize (decideS rs N.data.toList H.data.toList (port : Int) minute) = dd at *
    obtain ⟨d1, d2, d3⟩ := dd
    go_wp2_with fail
    go_region_held3 (fun w' => w'.cell? ⟨gb, 0, none⟩ = some (.pointer (some ⟨pb, 0, none⟩)) ∧ w'.cell? ⟨gb, 2, none⟩ = some (.int .i64 minute) ∧ w'.cell? ⟨w.heap.size + 1, 0, none⟩ = some (.string H) ∧ w'.cell? ⟨w.heap.size + 1, 1, none⟩ = some (.int .i64 (port : Int)) ∧ Q w4 w')
      (first | exact ⟨hp0, hmin, t0, t1, (Q.refl _).drew⟩ | exact keepG (by assumption) (by assumption) | assumption)
      (first | (go_at_call 135; refine Calls.mono (Hid.out (HD _ (lastG (by assumption)))) ?_; rintro e w' ⟨hq5, rfl⟩))
    have hS := by first | assumption
    obtain ⟨_, _, c0, c1, hq6⟩ := (show _ ∧ _ from hS)
    have tf6 := fun i => (hq6.cells.2 (w.heap.size + 1) i (Q.lt t0)).trans (tf i)
    have hQ6 := hQ4.trans hq6
    obtain ⟨x0, x1⟩ := two_once (a := .string ⟨#[]⟩) (b := .int .i64 0) hpq c0 c1
    obtain ⟨y0, y1⟩ := two_once (a := .string H) (b := .int .i64 (port : Int)) hpq c0 c1
    clear hS hq6 t0 t1 tf HD hp0 hmin
    cases d1
    · have HJ : Hid (judgeS rs tens minute s.data.toList = .error denyB) := by
        show _ = _
        rw [HJ3.out, if_neg (by decide)]
      clear HJ3
      go_wp2_with fail
      refine bodyPost_ret (v := .tuple #[.agg #[str [], .int .i64 0], str denyB]) (by simp [results, Tryz.results95, go_sem, x0, x1, str, denyB]) rfl ⟨?_, .inl ⟨_, HJ.out, rfl⟩⟩
      (repeat first | exact hQ6 | refine Q.setCell ?_ (Nat.le_succ _) _ | refine Q.alloc ?_ _ | refine Q.drew ?_)
    · have HJ : Hid (judgeS rs tens minute s.data.toList = .ok (H.data.toList, port)) := by
        show _ = _
        rw [HJ3.out, if_pos rfl]
      clear HJ3
      go_wp2_with fail
      refine bodyPost_ret (v := .tuple #[.agg #[str H.data.toList, .int .i64 (port : Int)], str []]) (by simp [results, Tryz.results95, go_sem, y0, y1, str]) rfl ⟨?_, .inr ⟨_, _, HJ.out, rfl⟩⟩
      (repeat first | exact hQ6 | refine Q.setCell ?_ (Nat.le_succ _) _ | refine Q.alloc ?_ _ | refine Q.drew ?_)
end Go.Proofs.YtdmaffciijmdcaaGreatDoor
/-
  Package turnpike: events, and what a gateway is in memory.
-/
namespace Go.Proofs.YtdmaffciijmdcaaGreatDoor
open Go.RowKit Plain

set_option maxRecDepth 100000 in
set_option maxHeartbeats 400000 in
theorem event_any (kind num : Int) (lb : Nat) (w : World) (hc : w.cell? ⟨lb, 0, none⟩ = some (.int .i64 num)) :
    Calls Tryz.prog 91 #[.pointer (some ⟨lb, 0, none⟩), .int .i64 kind] w fun e w' => e = .returned (.agg #[.int .i64 kind, .int .i64 num, .string ⟨#[]⟩, .int .i64 0]) ∧ Q w w' := by
  have hlt := Q.lt hc
  go_enter Tryz.func91, Tryz.ntmps91
  go_wp2_with fail
  go_returns
  exact ⟨rfl, (Q.refl _).alloc _⟩

set_option maxRecDepth 100000 in
set_option maxHeartbeats 800000 in
theorem send_any (kind num : Int) (s : ByteArray) (lb : Nat) (w : World) (hc : w.cell? ⟨lb, 0, none⟩ = some (.int .i64 num)) (hs : s.size ≤ 4398046511104) :
    Calls Tryz.prog 53 #[.pointer (some ⟨lb, 0, none⟩), .int .i64 kind, .string s] w fun e w' => EvsPost (sendS kind num s.data.toList) w e w' := by
  cases he : s.data.toList.isEmpty
  · have hemp : s.toList.isEmpty = false := by rw [Lib.toList_data]; exact he
    have HS : Hid (sendS kind num s.data.toList = [⟨kind, num, s.data.toList, 0⟩]) := by
      show _ = _
      unfold sendS; rw [he]; rfl
    clear he
    have HE := show Hid _ from event_any kind num lb w hc
    have HC := fun x => show Hid _ from clone_any s x (by omega)
    go_enter Tryz.func53, Tryz.ntmps53
    go_wp2_with fail
    refine Calls.mono (Hid.out HE) ?_
    rintro e w1 ⟨rfl, hq1⟩
    go_wp2_with fail
    refine Calls.mono (Hid.out (HC _)) ?_
    rintro e w2 ⟨rfl, hq2⟩
    obtain ⟨hcl, hfr, hz⟩ := hq2.made
    have hQ : Q w w2 := (hq1.alloc _).trans hq2
    have hsz := hq1.size
    clear HE HC hq1 hq2
    go_wp2_with fail
    go_ret
    refine ⟨(hQ.setCell hsz _).alloc _, _, rfl, ?_⟩
    rw [HS.out]
    exact own_new _ _ w2.heap.size (by simp) (evOf ⟨kind, num, s.data.toList, 0⟩) _ rfl hQ.size
  · have hemp : s.toList.isEmpty = true := by rw [Lib.toList_data]; exact he
    have HS : Hid (sendS kind num s.data.toList = []) := by
      show _ = _
      unfold sendS; rw [he]; rfl
    clear he
    go_enter Tryz.func53, Tryz.ntmps53
    go_wp2_with fail
    go_ret
    refine ⟨Q.refl _, _, rfl, ?_⟩
    rw [HS.out]
    exact ⟨rfl, .inl ⟨rfl, rfl⟩⟩

set_option maxRecDepth 100000 in
set_option maxHeartbeats 800000 in
theorem dial_any (num : Int) (h : ByteArray) (p : Int) (lb : Nat) (w : World) (hc : w.cell? ⟨lb, 0, none⟩ = some (.int .i64 num)) :
    Calls Tryz.prog 96 #[.pointer (some ⟨lb, 0, none⟩), .agg #[.string h, .int .i64 p]] w fun e w' => EvsPost [⟨1, num, h.data.toList, p⟩] w e w' := by
  have hlt := Q.lt hc
  have HE := fun x hx => show Hid _ from event_any 1 num lb x hx
  go_enter Tryz.func96, Tryz.ntmps96
  go_wp2_with fail
  refine Calls.mono (Hid.out (HE _ (((Q.refl _).alloc _).cell hc))) ?_
  rintro e w1 ⟨rfl, hq1⟩
  obtain ⟨hcl, hfr, hz⟩ := hq1.made
  have hQ : Q w w1 := ((Q.refl _).alloc _).trans hq1
  clear HE hq1
  go_wp2_with fail
  go_region
  go_wp2_with fail
  go_ret
  refine ⟨((hQ.alloc _).alloc _).drew, _, rfl, ?_⟩
  exact own_new (w1.alloc _) _ (w1.heap.size + 1) (by simp) (evOf ⟨1, num, h.data.toList, p⟩) _ rfl (Nat.le_succ_of_le hQ.size)

set_option maxRecDepth 100000 in
set_option maxHeartbeats 400000 in
theorem heard_any (lb : Nat) (u : Value) (w : World) (hc : w.cell? ⟨lb, 1, none⟩ = some u) (hf : w.frozen? ⟨lb, 1, none⟩ = false) :
    Calls Tryz.prog 52 #[.pointer (some ⟨lb, 0, none⟩)] w fun e w' => e = .returned (.tuple #[]) ∧ w' = w.setCell ⟨lb, 1, none⟩ (.int .i64 0) := by
  go_enter Tryz.func52, Tryz.ntmps52
  go_wp2_with fail
  go_end0
  exact ⟨rfl, rfl⟩
end Go.Proofs.YtdmaffciijmdcaaGreatDoor
/-
  Package turnpike: a gateway in memory; find.
-/
namespace Go.Proofs.YtdmaffciijmdcaaGreatDoor
open Go.RowKit Plain

/-- A connection in memory. -/
structure ConnRep (r : Rl) (B : Nat) (w : World) (cb : Nat) (c : ConnS) : Prop where
  role : r cb = some (.conn c.num)
  c0 : w.cell? ⟨cb, 0, none⟩ = some (.int .i64 (c.num : Int))
  c1 : w.cell? ⟨cb, 1, none⟩ = some (.int .i64 c.silent)
  c2 : w.cell? ⟨cb, 2, none⟩ = some (.int .i64 (c.stage : Int))
  c4 : w.cell? ⟨cb, 4, none⟩ = some (.bool c.noMore)
  c5 : w.cell? ⟨cb, 5, none⟩ = some (.bool c.hostEnd)
  obj : ∃ cs t, w.heap[cb]? = some (.cells cs t (0, 0))
  wt : ∃ wv, w.cell? ⟨cb, 3, none⟩ = some wv ∧ w.ownsRow B 5 1 wv c.wait.length (bvals c.wait) ∧ ∀ k, wv.ownBlock = some k → r k = some (.wait c.num)
theorem ConnRep.fz {r : Rl} {B : Nat} {w : World} {cb : Nat} {c : ConnS} (h : ConnRep r B w cb c) (o : Nat) : w.frozen? ⟨cb, o, none⟩ = false := by
  obtain ⟨cs, t, ho⟩ := h.obj
  simp [World.frozen?, ho]
def Conns (r : Rl) (B : Nat) (w : World) : List Nat → List ConnS → Prop
  | [], [] => True
  | cb :: cbs, c :: cs => ConnRep r B w cb c ∧ Conns r B w cbs cs
  | _, _ => False
/-- A gateway in memory. -/
structure GwRep (r : Rl) (B : Nat) (w : World) (gb : Nat) (g : GateS) : Prop where
  lt : ∀ b, r b ≠ none → b < w.heap.size
  low : ∀ b, r b ≠ none → B ≤ b
  role : r gb = some .gw
  pol : ∃ pb, w.cell? ⟨gb, 0, none⟩ = some (ptr pb) ∧ PolicyRep (fun b => r b = some .stat) w pb g.rules
  ten : ∃ tv, w.cell? ⟨gb, 1, none⟩ = some tv ∧ PairsAt (fun b => r b = some .stat) w tv g.tens
  min : w.cell? ⟨gb, 2, none⟩ = some (.int .i64 g.minute)
  last : w.cell? ⟨gb, 3, none⟩ = some (.int .i64 (g.last : Int))
  fz : ∀ o, w.frozen? ⟨gb, o, none⟩ = false
  con : ∃ cv cbs, w.cell? ⟨gb, 4, none⟩ = some cv ∧ w.ownsRow B 95 1 cv cbs.length (cbs.map ptr) ∧ (∀ k, cv.ownBlock = some k → r k = some .row) ∧ Conns r B w cbs g.conns

theorem ConnRep.same {r r' : Rl} {B : Nat} {w w' : World} {cb : Nat} {c : ConnS} (h : ConnRep r B w cb c) (hs : ∀ b, r b = some (.conn c.num) ∨ r b = some (.wait c.num) → r' b = r b ∧ SameAt w w' b) : ConnRep r' B w' cb c := by
  obtain ⟨h0, h1, h2, h3, hx4, hx5, h4, wv, h5, h6, h7⟩ := h
  obtain ⟨e, s⟩ := hs cb (.inl h0)
  exact ⟨by rw [e]; exact h0, by rw [s.cell]; exact h1, by rw [s.cell]; exact h2, by rw [s.cell]; exact h3, by rw [s.cell]; exact hx4, by rw [s.cell]; exact hx5, by obtain ⟨cs, t, h4⟩ := h4; exact ⟨cs, t, by rw [s]; exact h4⟩, wv, by rw [s.cell]; exact h5, owns_same h6 fun k hk => (hs k (.inr (h7 k hk))).2, fun k hk => by rw [(hs k (.inr (h7 k hk))).1]; exact h7 k hk⟩
theorem Conns.same {r r' : Rl} {B : Nat} {w w' : World} : ∀ {cbs : List Nat} {cs : List ConnS}, Conns r B w cbs cs → (∀ c ∈ cs, ∀ b, r b = some (.conn c.num) ∨ r b = some (.wait c.num) → r' b = r b ∧ SameAt w w' b) → Conns r' B w' cbs cs
  | [], [], _, _ => trivial
  | cb :: cbs, c :: cs, h, hs => ⟨h.1.same (hs c (by simp)), h.2.same fun x hx => hs x (by simp [hx])⟩
  | [], c :: cs, h, _ => h.elim
  | cb :: cbs, [], h, _ => h.elim
theorem Conns.len {r : Rl} {B : Nat} {w : World} : ∀ {cbs : List Nat} {cs : List ConnS}, Conns r B w cbs cs → cbs.length = cs.length
  | [], [], _ => rfl
  | cb :: cbs, c :: cs, h => by simp [h.2.len]
  | [], c :: cs, h => h.elim
  | cb :: cbs, [], h => h.elim
theorem Conns.get {r : Rl} {B : Nat} {w : World} : ∀ {cbs : List Nat} {cs : List ConnS}, Conns r B w cbs cs → ∀ (i : Nat) (c : ConnS), cs[i]? = some c → ∃ cb, cbs[i]? = some cb ∧ ConnRep r B w cb c
  | [], [], _, i, c, hi => by simp at hi
  | cb :: cbs, d :: cs, h, 0, c, hi => by cases hi; exact ⟨cb, rfl, h.1⟩
  | cb :: cbs, d :: cs, h, i + 1, c, hi => h.2.get i c (by simpa using hi)
  | [], c :: cs, h, _, _, _ => h.elim
  | cb :: cbs, [], h, _, _, _ => h.elim
theorem Conns.snoc {r : Rl} {B : Nat} {w : World} {cb : Nat} {c : ConnS} (hc : ConnRep r B w cb c) : ∀ {cbs : List Nat} {cs : List ConnS}, Conns r B w cbs cs → Conns r B w (cbs ++ [cb]) (cs ++ [c])
  | [], [], _ => ⟨hc, trivial⟩
  | _ :: _, _ :: _, h => ⟨h.1, Conns.snoc hc h.2⟩
  | [], _ :: _, h => h.elim
  | _ :: _, [], h => h.elim
/-- One connection is another one now. -/
theorem Conns.upd {r r' : Rl} {B : Nat} {w w' : World} {c' : ConnS} : ∀ {cbs : List Nat} {cs : List ConnS} {i cb : Nat} {c : ConnS}, Conns r B w cbs cs → cs[i]? = some c → cbs[i]? = some cb → ConnRep r' B w' cb c' → (∀ j d, j ≠ i → cs[j]? = some d → ∀ b, r b = some (.conn d.num) ∨ r b = some (.wait d.num) → r' b = r b ∧ SameAt w w' b) → Conns r' B w' cbs (cs.set i c')
  | [], [], _, _, _, _, hi, _, _, _ => by simp at hi
  | b :: cbs, d :: cs, 0, cb, c, h, hi, hb, hc, hs => by
    cases hb
    refine ⟨hc, h.2.same fun x hx => ?_⟩
    obtain ⟨j, hj⟩ := List.getElem?_of_mem hx
    exact hs (j + 1) x (by omega) (by simpa using hj)
  | b :: cbs, d :: cs, i + 1, cb, c, h, hi, hb, hc, hs => by
    refine ⟨h.1.same (hs 0 d (by omega) rfl), ?_⟩
    exact h.2.upd (by simpa using hi) (by simpa using hb) hc fun j x hj hx => hs (j + 1) x (by omega) (by simpa using hx)
  | [], c :: cs, _, _, _, h, _, _, _, _ => h.elim
  | cb :: cbs, [], _, _, _, h, _, _, _, _ => h.elim

theorem GwRep.same {r : Rl} {B : Nat} {w w' : World} {gb : Nat} {g : GateS} (h : GwRep r B w gb g) (hs : ∀ b, r b ≠ none → SameAt w w' b) (hz : w.heap.size ≤ w'.heap.size) : GwRep r B w' gb g := by
  have S : ∀ b k, r b = some k → SameAt w w' b := fun b k hb => hs b (by rw [hb]; simp)
  obtain ⟨h1, h2, h3, ⟨pb, h4, h5⟩, ⟨tv, h6, h7⟩, h8, h9, h10, cv, cbs, h11, h12, h13, h14⟩ := h
  have sg := S gb _ h3
  have ks : Keeps (fun b => r b = some .stat) (fun b => r b = some .stat) w w' := fun b hb => ⟨hb, fun o => (S b _ hb).cell o⟩
  exact ⟨fun b hb => Nat.lt_of_lt_of_le (h1 b hb) hz, h2, h3, ⟨pb, by rw [sg.cell]; exact h4, h5.keeps ks⟩, ⟨tv, by rw [sg.cell]; exact h6, h7.keeps ks⟩, by rw [sg.cell]; exact h8, by rw [sg.cell]; exact h9, fun o => by rw [sg.frozen]; exact h10 o, cv, cbs, by rw [sg.cell]; exact h11, owns_same h12 fun k hk => S k _ (h13 k hk), h13, h14.same fun c _ b hb => ⟨rfl, by rcases hb with hb | hb <;> exact S b _ hb⟩⟩
theorem GwRep.stays {r : Rl} {B : Nat} {w w' : World} {gb : Nat} {g : GateS} (h : GwRep r B w gb g) (q : Q w w') : GwRep r B w' gb g := h.same (fun b hb => q.sameAt (h.lt b hb)) q.size
theorem GwRep.read {r : Rl} {B : Nat} {w : World} {gb : Nat} {g : GateS} (h : GwRep r B w gb g) (hf : g.tens.length ≤ 1000) : GwRead w gb g.rules g.tens g.minute := by
  obtain ⟨pb, h4, h5⟩ := h.pol
  obtain ⟨tv, h6, h7⟩ := h.ten
  have ks : Keeps (fun b => r b = some .stat) (fun b => b < w.heap.size) w w := fun b hb => ⟨h.lt b (by rw [hb]; simp), fun _ => rfl⟩
  exact ⟨⟨pb, h4, h5.keeps ks⟩, ⟨tv, h6, h7.keeps ks⟩, h.min, hf⟩

structure GwStep (r : Rl) (B : Nat) (w : World) (gb : Nat) (r' : Rl) (w' : World) (g' : GateS) : Prop where
  rep : GwRep r' B w' gb g'
  fr : Fr r w w'
  gr : Grows r w r'
theorem GwStep.trans {r r1 r2 : Rl} {B : Nat} {w w1 w2 : World} {gb : Nat} {g1 g2 : GateS} (h : GwStep r B w gb r1 w1 g1) (k : GwStep r1 B w1 gb r2 w2 g2) : GwStep r B w gb r2 w2 g2 :=
  ⟨k.rep, h.fr.trans h.gr k.fr, h.gr.trans h.fr.size k.gr⟩
theorem GwStep.here {r : Rl} {B : Nat} {w w' : World} {gb : Nat} {g : GateS} (h : GwRep r B w gb g) (q : Q w w') : GwStep r B w gb r w' g := ⟨h.stays q, Fr.ofQ q, Grows.refl _ _⟩

/-- One connection is another one now, of the same number. -/
theorem GwRep.upd {r r' : Rl} {B : Nat} {w w' : World} {gb : Nat} {g : GateS} {i cb : Nat} {c c' : ConnS} {cv : Value} {cbs : List Nat} (h : GwRep r B w gb g) (ok : GOk g)
    (hcv : w.cell? ⟨gb, 4, none⟩ = some cv) (hown : w.ownsRow B 95 1 cv cbs.length (cbs.map ptr)) (hrow : ∀ k, cv.ownBlock = some k → r k = some .row) (hcs : Conns r B w cbs g.conns)
    (hi : g.conns[i]? = some c) (hb : cbs[i]? = some cb) (hc : ConnRep r' B w' cb c')
    (hs : ∀ b k, r b = some k → k ≠ .conn c.num → k ≠ .wait c.num → r' b = r b ∧ SameAt w w' b) (hlt : ∀ b, r' b ≠ none → b < w'.heap.size ∧ B ≤ b) :
    GwRep r' B w' gb { g with conns := g.conns.set i c' } := by
  obtain ⟨h1, h2, h3, ⟨pb, h4, h5⟩, ⟨tv, h6, h7⟩, h8, h9, h10, _⟩ := h
  obtain ⟨eg, sg⟩ := hs gb _ h3 (by simp) (by simp)
  have ks : Keeps (fun b => r b = some .stat) (fun b => r' b = some .stat) w w' := fun b hb => by
    obtain ⟨e1, e2⟩ := hs b _ hb (by simp) (by simp)
    exact ⟨by show r' b = _; rw [e1]; exact hb, fun o => e2.cell o⟩
  refine ⟨fun b hb => (hlt b hb).1, fun b hb => (hlt b hb).2, by rw [eg]; exact h3, ⟨pb, by rw [sg.cell]; exact h4, h5.keeps ks⟩, ⟨tv, by rw [sg.cell]; exact h6, h7.keeps ks⟩, by rw [sg.cell]; exact h8, by rw [sg.cell]; exact h9, fun o => by rw [sg.frozen]; exact h10 o, cv, cbs, by rw [sg.cell]; exact hcv, owns_same hown fun k hk => (hs k _ (hrow k hk) (by simp) (by simp)).2, fun k hk => by rw [(hs k _ (hrow k hk) (by simp) (by simp)).1]; exact hrow k hk, ?_⟩
  refine hcs.upd hi hb hc fun j d hj hd b hbr => ?_
  have hne : d.num ≠ c.num := fun e => hj (ok.nums j i d c hd hi e)
  rcases hbr with hbr | hbr
  · exact hs b _ hbr (fun e => hne (by injection e)) (by simp)
  · exact hs b _ hbr (by simp) (fun e => hne (by injection e))

def FindPost (cs : List ConnS) (cbs : List Nat) (n : Int) (w : World) (e : Ending) (w' : World) : Prop :=
  w' = w ∧ ((∃ (i : Nat) (c : ConnS) (cb : Nat), cs[i]? = some c ∧ cbs[i]? = some cb ∧ (c.num : Int) = n ∧ e = .returned (ptr cb)) ∨ ((∀ c ∈ cs, (c.num : Int) ≠ n) ∧ e = .returned (.pointer none)))

set_option maxRecDepth 100000 in
set_option maxHeartbeats 800000 in
theorem find_any (r : Rl) (B gb : Nat) (n : Int) (cv : Value) (cbs : List Nat) (cs : List ConnS) (w : World)
    (hcv : w.cell? ⟨gb, 4, none⟩ = some cv) (hown : w.ownsRow B 95 1 cv cbs.length (cbs.map ptr)) (hcs : Conns r B w cbs cs) (hl : cs.length ≤ 1000) :
    Calls Tryz.prog 50 #[ptr gb, .int .i64 n] w fun e w' => FindPost cs cbs n w e w' := by
  obtain ⟨a, cap, rfl, hread⟩ : ∃ a cap, cv = .slice a cbs.length cap ∧ ∀ (i : Nat) (b : Nat), cbs[i]? = some b → ∃ g, a = some ⟨g, 0, none⟩ ∧ w.cell? ⟨g, i, none⟩ = some (ptr b) := by
    rcases hown.2 with ⟨hv, hn⟩ | ⟨g, cap, cur, hv, hb, hg, h4, h5, h6, h7⟩
    · refine ⟨none, 0, by rw [hv, hn], fun i b hi => ?_⟩
      have := List.eq_nil_of_length_eq_zero hn
      subst this
      simp at hi
    · refine ⟨_, cap, hv, fun i b hi => ⟨g, rfl, ?_⟩⟩
      rw [cell_of_row w g i cur 95 (0, 0) hg]
      have hj : (cur.toList.take (cbs.length * 1))[i]? = some (ptr b) := by
        rw [h7, List.getElem?_map, hi]; rfl
      rw [List.getElem?_take] at hj
      split at hj
      · simpa using hj
      · cases hj
  have hlen := hcs.len
  have HR := show Hid _ from hread
  have HC := show Hid _ from hcs.get
  have hgl := Q.lt hcv
  clear hread hown hcs
  go_enter Tryz.func50, Tryz.ntmps50
  go_wp2_with fail
  go_loop [12, 6] (fun i _ => ∃ k : Nat, k ≤ cbs.length ∧ i = .int .i64 k ∧ Hid (∀ (j : Nat) (c : ConnS), j < k → cs[j]? = some c → (c.num : Int) ≠ n)) (fun i _ => cbs.length - (intOf i).toNat)
  case atStart => exact ⟨0, Nat.zero_le _, rfl, fun j c hj => absurd hj (Nat.not_lt_zero _)⟩
  case round =>
    obtain ⟨k, hk, rfl, hall⟩ := hrel
    by_cases hlt : k < cbs.length
    · have hget : cs[k]? = some cs[k] := List.getElem?_eq_getElem (by omega)
      obtain ⟨cb, hcb, hrep⟩ := HC.out k _ hget
      obtain ⟨g, rfl, hcell⟩ := HR.out k cb hcb
      have h0 := hrep.c0
      generalize cs[k] = c at *
      clear hrep
      by_cases he : (c.num : Int) = n
      · have d1 : ((c.num : Int) == n) = true := by rw [beq_iff_eq]; exact he
        have HG := show Hid _ from hget
        have HCB := show Hid _ from hcb
        have HE := show Hid _ from he
        clear hget hcb he
        go_wp2_with fail
        go_ret
        exact ⟨rfl, .inl ⟨k, c, cb, HG.out, HCB.out, HE.out, rfl⟩⟩
      · have d1 : ((c.num : Int) == n) = false := by rw [beq_eq_false_iff_ne]; exact he
        have HN : Hid (∀ (j : Nat) (d : ConnS), j < k + 1 → cs[j]? = some d → (d.num : Int) ≠ n) := fun j d hj hd => by
          by_cases hjk : j = k
          · subst hjk
            rw [hget] at hd
            cases hd
            exact he
          · exact hall.out j d (by omega) hd
        clear hget hcb he hall
        go_wp2_with fail
        exact ⟨⟨k + 1, by omega, by go_num, HN.out⟩, by simp [intOf]; omega⟩
    · have HN : Hid (∀ c ∈ cs, (c.num : Int) ≠ n) := fun c hc => by
        obtain ⟨j, hj⟩ := List.getElem?_of_mem hc
        have := (List.getElem?_eq_some_iff.1 hj).1
        exact hall.out j c (by omega) hj
      clear hall
      go_wp2_with fail
      go_ret
      exact ⟨rfl, .inr ⟨HN.out, rfl⟩⟩
end Go.Proofs.YtdmaffciijmdcaaGreatDoor

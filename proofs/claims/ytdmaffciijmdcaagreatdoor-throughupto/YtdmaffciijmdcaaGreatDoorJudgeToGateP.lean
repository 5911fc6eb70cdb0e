/-
  Package turnpike: judge.
-/
import Derived.Test.YtdmaffciijmdcaaGreatDoorCaughtMToJudge0
import Derived.Deep.RegionHeld3
namespace Go.Proofs.YtdmaffciijmdcaaGreatDoor
open Go.RowKit Plain

def JudgePost (x : Except (List UInt8) (List UInt8 × Nat)) (w : World) (e : Ending) (w' : World) : Prop :=
  Q w w' ∧ ((∃ r, x = .error r ∧ e = .returned (.tuple #[.agg #[str [], .int .i64 0], str r])) ∨ ∃ h n, x = .ok (h, n) ∧ e = .returned (.tuple #[.agg #[str h, .int .i64 (n : Int)], str []]))

theorem two_twice {W : World} {p q : Addr} {a b a' b' a0 b0 : Value} (hpq : p ≠ q) (h0 : W.cell? p = some a0) (h1 : W.cell? q = some b0) : ((((W.setCell p a).setCell q b).setCell p a').setCell q b').cell? p = some a' ∧ ((((W.setCell p a).setCell q b).setCell p a').setCell q b').cell? q = some b' := by
  constructor
  · rw [set_other (Ne.symm hpq)]
    exact set_same (u := a) (by rw [set_other (Ne.symm hpq)]; exact set_same h0)
  · refine set_same (u := b) ?_
    rw [set_other hpq]
    exact set_same (u := b0) (by rw [set_other hpq]; exact h1)
theorem two_once {W : World} {p q : Addr} {a b a0 b0 : Value} (hpq : p ≠ q) (h0 : W.cell? p = some a0) (h1 : W.cell? q = some b0) : ((W.setCell p a).setCell q b).cell? p = some a ∧ ((W.setCell p a).setCell q b).cell? q = some b := by
  constructor
  · rw [set_other (Ne.symm hpq)]
    exact set_same h0
  · exact set_same (u := b0) (by rw [set_other hpq]; exact h1)
theorem target_len {l h : List UInt8} {n : Nat} (ht : targetS l = some (h, n)) : h.length ≤ l.length := by
  unfold targetS at ht
  split at ht
  · cases ht
  · rename_i a p hc
    split at ht
    · cases ht
    · split at ht
      · cases ht
      · cases ht
        rw [lower_len]
        exact (cut_le hc).1

set_option maxRecDepth 100000 in
set_option maxHeartbeats 3200000 in
theorem judge_any (gb : Nat) (rs : List RuleS) (tens : List (List UInt8 × List UInt8)) (minute : Int) (s : ByteArray) (w : World) (hg : GwRead w gb rs tens minute) (hm : ML w) (hs : s.size ≤ 1000) :
    Calls Tryz.prog 95 #[.pointer (some ⟨gb, 0, none⟩), .string s] w fun e w' => JudgePost (judgeS rs tens minute s.data.toList) w e w' := by
  have hmf : ∀ (fn : Fn) (first cap : Array Value) (w : World), (Instr.makeFunc fn first cap).run Tryz.prog w = .ok (.func fn first cap) w := fun _ _ _ _ => rfl
  have HGW : Hid (GwRead w gb rs tens minute) := hg
  have hgl : gb < w.heap.size := Q.lt hg.min
  have HM : Hid (ML w) := hm
  clear hg hm
  go_enter Tryz.func95, Tryz.ntmps95
  go_wp2_with fail
  have hq0 : Q w ((w.alloc (.cells #[.string s] 9)).alloc (.cells #[.string ⟨#[]⟩, .int .i64 0] 165)) := ((Q.refl _).alloc _).alloc _
  refine (caughtH_any s w.heap.size _ hs (HM.out.stays hq0) (by simp [go_sem])).mono ?_
  rintro e w1 ⟨hq, ⟨h, sv, hr, rfl, hp⟩ | ⟨hr, rfl⟩⟩
  case inr =>
    have hcl : ∀ i, w1.cell? ⟨w.heap.size + 1, i, none⟩ = (#[.string ⟨#[]⟩, .int .i64 0] : Array Value)[i]? := hq.made2n.2.1
    have hfr : ∀ i, w1.frozen? ⟨w.heap.size + 1, i, none⟩ = false := fun i => by
      rw [hq.cells.2 _ _ (by simp)]; simp [go_sem]
    have hlt : w.heap.size + 1 < w1.heap.size := hq.made2n.2.2
    have HJ : Hid (judgeS rs tens minute s.data.toList = .error badB) := by
      show _ = _
      unfold judgeS; rw [hr]
    have hQ1 : Q w w1 := hq0.trans hq
    clear hr hq
    unfold headV str
    go_wp2_with fail
    refine bodyPost_ret (v := .tuple #[.agg #[str [], .int .i64 0], str badB]) (by simp [results, Tryz.results95, go_sem, hcl, hlt, str, badB]) rfl ⟨?_, .inl ⟨_, HJ.out, rfl⟩⟩
    (repeat first | exact hQ1 | refine Q.setCell ?_ (Nat.le_succ _) _ | refine Q.alloc ?_ _ | refine Q.drew ?_)
  obtain ⟨a, cap, rfl, hat⟩ := hp
  obtain ⟨bt, bm, bf⟩ := head_bounds hr (by rw [size_len]; exact hs)
  have HJ0 : Hid (judgeS rs tens minute s.data.toList = if (h.method == connectB) = false then .error kindB else match targetS h.target with
    | none => .error badB
    | some (host, port) => match whoIs tens h.fields with
      | none => .error whoB
      | some t => if (decideS rs t host (port : Int) minute).1 = true then .ok (host, port) else .error denyB) := by
    show _ = _
    unfold judgeS; rw [hr]; rfl
  have HP : Hid (PairsAt (fun b => w.heap.size + 2 ≤ b ∧ b < w1.heap.size) w1 (.slice a h.fields.length cap) h.fields) := PairsAt.keeps ⟨a, cap, rfl, hat⟩ fun k hk => ⟨⟨by have := hk.1; simp at this; omega, hk.2⟩, fun _ => rfl⟩
  clear hr hat
  obtain ⟨m, t, fs⟩ := h
  obtain ⟨M, rfl⟩ : ∃ M : ByteArray, M.data.toList = m := ⟨⟨m.toArray⟩, rfl⟩
  obtain ⟨T, rfl⟩ : ∃ M : ByteArray, M.data.toList = t := ⟨⟨t.toArray⟩, rfl⟩
  unfold headV
  simp only [str_data, size_len] at *
  have hcl : ∀ i, w1.cell? ⟨w.heap.size + 1, i, none⟩ = (#[.string ⟨#[]⟩, .int .i64 0] : Array Value)[i]? := hq.made2n.2.1
  have hfr : ∀ i, w1.frozen? ⟨w.heap.size + 1, i, none⟩ = false := fun i => by
    rw [hq.cells.2 _ _ (by simp)]; simp [go_sem]
  have hlt : w.heap.size + 1 < w1.heap.size := hq.made2n.2.2
  have hQ1 : Q w w1 := hq0.trans hq
  have hgl1 : gb < w1.heap.size := Nat.lt_of_lt_of_le hgl hQ1.size
  clear hq
  cases hk : (M.data.toList == connectB)
  · have hkk : (M.toList == [67, 79, 78, 78, 69, 67, 84]) = false := by rw [Lib.toList_data]; exact hk
    have HJ : Hid (judgeS rs tens minute s.data.toList = .error kindB) := by
      show _ = _
      rw [HJ0.out, if_pos hk]
    clear hk HJ0
    go_wp2_with fail
    refine bodyPost_ret (v := .tuple #[.agg #[str [], .int .i64 0], str kindB]) (by simp [results, Tryz.results95, go_sem, hcl, hlt, str, kindB]) rfl ⟨?_, .inl ⟨_, HJ.out, rfl⟩⟩
    (repeat first | exact hQ1 | refine Q.setCell ?_ (Nat.le_succ _) _ | refine Q.alloc ?_ _ | refine Q.drew ?_)
  have hkk : (M.toList == [67, 79, 78, 78, 69, 67, 84]) = true := by rw [Lib.toList_data]; exact hk
  have HJ1 : Hid (judgeS rs tens minute s.data.toList = match targetS T.data.toList with
    | none => .error badB
    | some (host, port) => match whoIs tens fs with
      | none => .error whoB
      | some t => if (decideS rs t host (port : Int) minute).1 = true then .ok (host, port) else .error denyB) := by
    show _ = _
    rw [HJ0.out, if_neg (by rw [hk]; decide)]
  clear hk HJ0
  have HTg := fun x hx => show Hid _ from caughtT_any T w1.heap.size x (by omega) hx
  go_wp2_with fail
  refine Calls.mono (Hid.out (HTg _ (by simp [go_sem]))) ?_
  rintro e w2 ⟨hq2, ⟨host, port, hr, rfl⟩ | ⟨hr, rfl⟩⟩
  case inr =>
    have hQ2 : Q w w2 := (hQ1.alloc _).trans hq2
    have hcl2 : ∀ i, w2.cell? ⟨w.heap.size + 1, i, none⟩ = (#[.string ⟨#[]⟩, .int .i64 0] : Array Value)[i]? := fun i => by
      rw [hq2.cells.1 _ _ (by simp; omega)]; simp [go_sem, hcl, hlt]
    have hfr2 : ∀ i, w2.frozen? ⟨w.heap.size + 1, i, none⟩ = false := fun i => by
      rw [hq2.cells.2 _ _ (by simp; omega)]; simp [go_sem, hfr, hlt]
    have HJ : Hid (judgeS rs tens minute s.data.toList = .error badB) := by
      show _ = _
      rw [HJ1.out, hr]
    clear hr hq2 hcl hfr HJ1 HTg
    unfold str
    go_wp2_with fail
    have hpq : (⟨w.heap.size + 1, 0, none⟩ : Addr) ≠ ⟨w.heap.size + 1, 1, none⟩ := fun e => by injection e with _ e2; cases e2
    obtain ⟨x0, x1⟩ := two_twice (a := .string ⟨#[]⟩) (b := .int .i64 0) (a' := .string ⟨#[]⟩) (b' := .int .i64 0) hpq (hcl2 0) (hcl2 1)
    refine bodyPost_ret (v := .tuple #[.agg #[str [], .int .i64 0], str badB]) (by simp [results, Tryz.results95, go_sem, x0, x1, str, badB]) rfl ⟨?_, .inl ⟨_, HJ.out, rfl⟩⟩
    (repeat first | exact hQ2 | refine Q.setCell ?_ (Nat.le_succ _) _ | refine Q.alloc ?_ _ | refine Q.drew ?_)
  have HJ2 : Hid (judgeS rs tens minute s.data.toList = match whoIs tens fs with
      | none => .error whoB
      | some t => if (decideS rs t host (port : Int) minute).1 = true then .ok (host, port) else .error denyB) := by
    show _ = _
    rw [HJ1.out, hr]
  have hhost : host.length ≤ 1000 := by
    have := target_len hr
    rw [size_len] at this
    omega
  obtain ⟨H, rfl⟩ : ∃ M : ByteArray, M.data.toList = host := ⟨⟨host.toArray⟩, rfl⟩
  rw [str_data]
  rw [size_len] at hhost
  have hQ2 : Q w w2 := (hQ1.alloc _).trans hq2
  have hcl2 : ∀ i, w2.cell? ⟨w.heap.size + 1, i, none⟩ = (#[.string ⟨#[]⟩, .int .i64 0] : Array Value)[i]? := fun i => by
    rw [hq2.cells.1 _ _ (by simp; omega)]; simp [go_sem, hcl, hlt]
  have hfr2 : ∀ i, w2.frozen? ⟨w.heap.size + 1, i, none⟩ = false := fun i => by
    rw [hq2.cells.2 _ _ (by simp; omega)]; simp [go_sem, hfr, hlt]
  have hhc : ∀ i, w2.cell? ⟨w1.heap.size, i, none⟩ = (#[.string M, .string T, .slice a fs.length cap] : Array Value)[i]? := fun i => by
    rw [hq2.cells.1 _ _ (by simp)]; simp [go_sem]
  have hlt2 : w.heap.size + 1 < w2.heap.size := by have := hq2.size; simp at this; omega
  have hne : ¬ (w1.heap.size = w.heap.size + 1) := by omega
  clear hr hcl hfr HJ1 HTg
  go_wp2_with fail
  have hpq : (⟨w.heap.size + 1, 0, none⟩ : Addr) ≠ ⟨w.heap.size + 1, 1, none⟩ := fun e => by injection e with _ e2; cases e2
  obtain ⟨W3, hW3⟩ : ∃ W, W = (w2.setCell ⟨w.heap.size + 1, 0, none⟩ (.string H)).setCell ⟨w.heap.size + 1, 1, none⟩ (.int .i64 (port : Int)) := ⟨_, rfl⟩
  have hT := two_once (a := .string H) (b := .int .i64 (port : Int)) hpq (hcl2 0) (hcl2 1)
  rw [← hW3] at hT
  have hfr3 : ∀ i, W3.frozen? ⟨w.heap.size + 1, i, none⟩ = false := fun i => by rw [hW3]; simp [hfr2]
  have hQ3 : Q w W3 := by rw [hW3]; exact (hQ2.setCell (Nat.le_succ _) _).setCell (Nat.le_succ _) _
  have HP3 : Hid (PairsAt (fun b => b < W3.heap.size) W3 (.slice a fs.length cap) fs) := by
    refine PairsAt.keeps HP.out fun k hk => ?_
    obtain ⟨h1, h2⟩ := hk
    have hz := hq2.size
    simp at hz
    have hneA : ∀ o i, (⟨w.heap.size + 1, o, none⟩ : Addr) ≠ ⟨k, i, none⟩ := fun o i e => by injection e with e1 _; omega
    rw [hW3]
    refine ⟨by simp; omega, fun o => ?_⟩
    rw [set_other (hneA _ _), set_other (hneA _ _), hq2.cells.1 k o (by simp; omega)]
    exact World.cell?_of_block (w := w1) (Below.heap_alloc _ _ _ h2)
  rw [← hW3]
  clear hW3 hcl2 hfr2 hhc hq2
  obtain ⟨hT0, hT1⟩ := hT
  refine (tenantOf_any gb rs tens minute M T (.slice a fs.length cap) fs W3 (HGW.out.stays hQ3) HP3.out (by simpa using (by omega : fs.length ≤ 2000))).mono ?_
  rintro e w4 ⟨rfl, hq4⟩
  have hQ4 := hQ3.trans hq4
  have t0 := hq4.cell hT0
  have t1 := hq4.cell hT1
  have tf : ∀ i, w4.frozen? ⟨w.heap.size + 1, i, none⟩ = false := fun i => by rw [hq4.cells.2 _ _ (Q.lt hT0)]; exact hfr3 i
  cases htn : whoIs tens fs with
  | none =>
    have HJ : Hid (judgeS rs tens minute s.data.toList = .error whoB) := by
      show _ = _
      rw [HJ2.out, htn]
    clear htn HJ2 hT0 hT1 hfr3 hq4
    simp only [Option.getD_none, Option.isSome_none]
    unfold str
    go_wp2_with fail
    obtain ⟨x0, x1⟩ := two_once (a := .string ⟨#[]⟩) (b := .int .i64 0) hpq t0 t1
    refine bodyPost_ret (v := .tuple #[.agg #[str [], .int .i64 0], str whoB]) (by simp [results, Tryz.results95, go_sem, x0, x1, str, whoB]) rfl ⟨?_, .inl ⟨_, HJ.out, rfl⟩⟩
    (repeat first | exact hQ4 | refine Q.setCell ?_ (Nat.le_succ _) _ | refine Q.alloc ?_ _ | refine Q.drew ?_)
  | some tn =>
    have HJ3 : Hid (judgeS rs tens minute s.data.toList = if (decideS rs tn H.data.toList (port : Int) minute).1 = true then .ok (H.data.toList, port) else .error denyB) := by
      show _ = _
      rw [HJ2.out, htn]
    clear htn HJ2 hT0 hT1 hfr3 hq4
    simp only [Option.getD_some, Option.isSome_some]
    obtain ⟨N, rfl⟩ : ∃ M : ByteArray, M.data.toList = tn := ⟨⟨tn.toArray⟩, rfl⟩
    rw [str_data]
    have HG4 := show Hid _ from HGW.out.stays hQ4
    obtain ⟨⟨pb, hp0, hpr⟩, _, hmin, _⟩ := HG4.out
    have HD : ∀ x, Q w4 x → Hid (Calls Tryz.prog 135 #[.pointer (some ⟨pb, 0, none⟩), .string N, .string H, .int .i64 (port : Int), .int .i64 minute] x fun e w' => Q x w' ∧ e = .returned (.tuple #[.bool (decideS rs N.data.toList H.data.toList (port : Int) minute).1, .int .i64 (decideS rs N.data.toList H.data.toList (port : Int) minute).2.1, .int .i64 ((decideS rs N.data.toList H.data.toList (port : Int) minute).2.2 : Nat)])) := fun x hx => decide_any rs pb N H port minute x (by omega) (PolicyRep.stays hpr hx)
    clear hpr HG4
    generalize (decideS rs N.data.toList H.data.toList (port : Int) minute) = dd at *
    obtain ⟨d1, d2, d3⟩ := dd
    go_wp2_with fail
    go_region_held3 (fun w' => w'.cell? ⟨gb, 0, none⟩ = some (.pointer (some ⟨pb, 0, none⟩)) ∧ w'.cell? ⟨gb, 2, none⟩ = some (.int .i64 minute) ∧ w'.cell? ⟨w.heap.size + 1, 0, none⟩ = some (.string H) ∧ w'.cell? ⟨w.heap.size + 1, 1, none⟩ = some (.int .i64 (port : Int)) ∧ Q w4 w')
      (first | exact ⟨hp0, hmin, t0, t1, (Q.refl _).drew⟩ | exact keepG (by assumption) (by assumption) | assumption)
      (first | (go_at_call 135; refine Calls.mono (Hid.out (HD _ (lastG (by assumption)))) ?_; rintro e w' ⟨hq5, rfl⟩))
    have hS := by first | assumption
    obtain ⟨_, _, c0, c1, hq6⟩ := (show _ ∧ _ from hS)
    have tf6 := fun i => (hq6.cells.2 (w.heap.size + 1) i (Q.lt t0)).trans (tf i)
    have hQ6 := hQ4.trans hq6
    obtain ⟨x0, x1⟩ := two_once (a := .string ⟨#[]⟩) (b := .int .i64 0) hpq c0 c1
    obtain ⟨y0, y1⟩ := two_once (a := .string H) (b := .int .i64 (port : Int)) hpq c0 c1
    clear hS hq6 t0 t1 tf HD hp0 hmin
    cases d1
    · have HJ : Hid (judgeS rs tens minute s.data.toList = .error denyB) := by
        show _ = _
        rw [HJ3.out, if_neg (by decide)]
      clear HJ3
      go_wp2_with fail
      refine bodyPost_ret (v := .tuple #[.agg #[str [], .int .i64 0], str denyB]) (by simp [results, Tryz.results95, go_sem, x0, x1, str, denyB]) rfl ⟨?_, .inl ⟨_, HJ.out, rfl⟩⟩
      (repeat first | exact hQ6 | refine Q.setCell ?_ (Nat.le_succ _) _ | refine Q.alloc ?_ _ | refine Q.drew ?_)
    · have HJ : Hid (judgeS rs tens minute s.data.toList = .ok (H.data.toList, port)) := by
        show _ = _
        rw [HJ3.out, if_pos rfl]
      clear HJ3
      go_wp2_with fail
      refine bodyPost_ret (v := .tuple #[.agg #[str H.data.toList, .int .i64 (port : Int)], str []]) (by simp [results, Tryz.results95, go_sem, y0, y1, str]) rfl ⟨?_, .inr ⟨_, _, HJ.out, rfl⟩⟩
      (repeat first | exact hQ6 | refine Q.setCell ?_ (Nat.le_succ _) _ | refine Q.alloc ?_ _ | refine Q.drew ?_)
end Go.Proofs.YtdmaffciijmdcaaGreatDoor
/-
  Plain functions: events, connections, gateways, and what each call does to them.
-/
namespace Go.Proofs.YtdmaffciijmdcaaGreatDoor
namespace Plain
structure EvS where
  kind : Int
  conn : Int
  text : List UInt8
  port : Int
/-- An event by which a text goes; none, if it is empty. -/
def sendS (kind num : Int) (s : List UInt8) : List EvS := if s.isEmpty = true then [] else [⟨kind, num, s, 0⟩]
structure ConnS where
  num : Nat
  silent : Int
  stage : Nat
  wait : List UInt8
  noMore : Bool
  hostEnd : Bool
structure GateS where
  rules : List RuleS
  tens : List (List UInt8 × List UInt8)
  minute : Int
  last : Nat
  conns : List ConnS
def GateS.upd (g : GateS) (i : Nat) (c : ConnS) : GateS := { g with conns := g.conns.set i c }
def GateS.drop (g : GateS) (n : Nat) : GateS := { g with conns := g.conns.filter fun d => d.num != n }
/-- What a head is answered. -/
def answerS (g : GateS) (i : Nat) (c : ConnS) (head : List UInt8) : GateS × List EvS := match judgeS g.rules g.tens g.minute head with
  | .error r => (g.drop c.num, sendS 2 c.num r ++ [⟨4, c.num, [], 0⟩])
  | .ok (h, n) => (g.upd i { c with stage := 1 }, [⟨1, c.num, h, (n : Int)⟩])
/-- What a client's bytes do at an open connection. -/
def clientAt (g : GateS) (i : Nat) (c : ConnS) (s : List UInt8) : GateS × List EvS :=
  if c.stage = 2 then (g.upd i { c with silent := 0 }, sendS 3 c.num s)
  else if c.stage = 1 then (g.upd i { c with silent := 0, wait := c.wait ++ s }, [])
  else match cutHead (c.wait ++ s) with
    | none => (g.upd i { c with silent := 0, wait := c.wait ++ s }, [])
    | some (h, rest) => answerS (g.upd i { c with silent := 0, wait := rest }) i { c with silent := 0, wait := rest } h
def GateS.accept (g : GateS) : GateS := { g with last := g.last + 1, conns := g.conns ++ [⟨g.last + 1, 0, 0, [], false, false⟩] }
def usersFrom : Nat → List (List UInt8 × List UInt8) → List (List UInt8 × List UInt8) → Except Nat (List (List UInt8 × List UInt8))
  | _, tens, [] => .ok tens
  | k, tens, u :: us => match withS tens u.1 u.2 with
    | none => .error k
    | some t => usersFrom (k + 1) t us
/-- What New answers: an error and its place, or a gateway. -/
def newS (text : List UInt8) (us : List (List UInt8 × List UInt8)) (minute : Int) : Except (Nat × Nat) GateS := match compileS text with
  | .error e => .error e
  | .ok rs => if 8 < us.length then .error (2, 0) else match usersFrom 0 [] us with
    | .error k => .error (4, k)
    | .ok tens => if minute < 0 ∨ 10080 ≤ minute then .error (5, 0) else .ok ⟨rs, tens, minute, 0, []⟩
/-- A host has answered, or not. -/
def dialedAt (g : GateS) (i : Nat) (c : ConnS) (ok : Bool) : GateS × List EvS :=
  if ok = true then (g.upd i { c with silent := 0, stage := 2, wait := [] }, ⟨2, c.num, goB, 0⟩ :: sendS 3 c.num c.wait)
  else (g.drop c.num, [⟨2, c.num, goneB, 0⟩, ⟨4, c.num, [], 0⟩])
/-- A host's bytes. -/
def hostAt (g : GateS) (i : Nat) (c : ConnS) (s : List UInt8) : GateS × List EvS := (g.upd i { c with silent := 0 }, sendS 2 c.num s)
/-- A client's end. -/
def endClientAt (g : GateS) (i : Nat) (c : ConnS) : GateS × List EvS :=
  if c.stage = 0 then (g.drop c.num, [⟨4, c.num, [], 0⟩])
  else if c.stage = 1 then (g.drop c.num, [⟨4, c.num, [], 0⟩, ⟨5, c.num, [], 0⟩])
  else (if c.hostEnd = true then g.drop c.num else g.upd i { c with noMore := true }, [⟨5, c.num, [], 0⟩])
/-- A host's end. -/
def endHostAt (g : GateS) (i : Nat) (c : ConnS) : GateS × List EvS :=
  (if c.noMore = true then g.drop c.num else g.upd i { c with hostEnd := true }, [⟨4, c.num, [], 0⟩])
/-- What a connection that is over by its silence gives. -/
def overEvs (c : ConnS) : List EvS := (if c.hostEnd = true then [] else [⟨4, c.num, [], 0⟩]) ++ (if 0 < c.stage ∧ c.noMore = false then [⟨5, c.num, [], 0⟩] else [])
/-- Minutes go by. -/
def tickS (g : GateS) (m : Int) : GateS × List EvS :=
  ({ g with minute := if 10080 ≤ g.minute + m then g.minute + m - 10080 else g.minute + m, conns := (g.conns.filter fun c => decide (c.silent + m < 10)).map fun c => { c with silent := c.silent + m } },
    (g.conns.filter fun c => !decide (c.silent + m < 10)).flatMap overEvs)
theorem drop_upd (g : GateS) (i : Nat) (c c' : ConnS) (hi : g.conns[i]? = some c) (hn : c'.num = c.num) : (g.upd i c').drop c.num = g.drop c.num := by
  unfold GateS.upd GateS.drop
  congr 1
  show (g.conns.set i c').filter _ = _
  obtain ⟨hlt, rfl⟩ := List.getElem?_eq_some_iff.1 hi
  have : ∀ (l : List ConnS) (i : Nat) (h : i < l.length), c'.num = (l[i]).num → (l.set i c').filter (fun d => d.num != (l[i]).num) = l.filter fun d => d.num != (l[i]).num := by
    intro l
    induction l with
    | nil => intro i h; simp at h
    | cons a l ih =>
      intro i h e
      cases i with
      | zero =>
        have e' : c'.num = a.num := e
        simp [e']
      | succ i =>
        have h' : i < l.length := by simpa using h
        have e' : c'.num = (l[i]).num := by simpa using e
        have := ih i h' e'
        simp only [List.set_cons_succ, List.getElem_cons_succ, List.filter_cons]
        rw [this]
  exact this g.conns i hlt hn
theorem filter_take {α : Type} (p : α → Bool) (l : List α) {k : Nat} {x : α} (h : l[k]? = some x) : (l.take (k + 1)).filter p = (l.take k).filter p ++ if p x = true then [x] else [] := by
  obtain ⟨hlt, rfl⟩ := List.getElem?_eq_some_iff.1 h
  rw [List.take_succ_eq_append_getElem hlt, List.filter_append]
  congr 1
  by_cases hp : p l[k] = true <;> simp [hp]
/-- What is over, and what is left, of the first connections. -/
def overOf (m : Int) (l : List ConnS) : List EvS := (l.filter fun c => !decide (c.silent + m < 10)).flatMap overEvs
def stayOf (m : Int) (l : List ConnS) : List ConnS := (l.filter fun c => decide (c.silent + m < 10)).map fun c => { c with silent := c.silent + m }
theorem over_step {m : Int} {l : List ConnS} {k : Nat} {c : ConnS} (h : l[k]? = some c) : (c.silent + m < 10 → overOf m (l.take (k + 1)) = overOf m (l.take k) ∧ stayOf m (l.take (k + 1)) = stayOf m (l.take k) ++ [{ c with silent := c.silent + m }]) ∧ (¬ c.silent + m < 10 → overOf m (l.take (k + 1)) = overOf m (l.take k) ++ overEvs c ∧ stayOf m (l.take (k + 1)) = stayOf m (l.take k)) := by
  unfold overOf stayOf
  rw [filter_take _ l h, filter_take _ l h]
  refine ⟨fun e => ?_, fun e => ?_⟩
  · rw [if_neg (by simp [e]), if_pos (by simp [e])]
    simp
  · rw [if_pos (by simp [e]), if_neg (by simp [e])]
    simp
theorem over_len (m : Int) : ∀ l : List ConnS, l.length ≤ 8 → (overOf m l).length ≤ 100 := by
  intro l hl
  have h1 : ∀ l : List ConnS, (l.flatMap overEvs).length ≤ 2 * l.length := by
    intro l
    induction l with
    | nil => simp
    | cons c l ih =>
      rw [List.flatMap_cons, List.length_append, List.length_cons]
      have : (overEvs c).length ≤ 2 := by
        unfold overEvs
        rw [List.length_append]
        split <;> split <;> simp
      omega
  have h2 := h1 (l.filter fun c => !decide (c.silent + m < 10))
  have h3 := List.length_filter_le (fun c : ConnS => !decide (c.silent + m < 10)) l
  unfold overOf
  omega
end Plain
open Plain
/-- What of a gateway is known beside its memory. -/
structure GOk (g : GateS) : Prop where
  few : g.conns.length ≤ 8
  tens : g.tens.length ≤ 1000
  nums : ∀ (i j : Nat) (c d : ConnS), g.conns[i]? = some c → g.conns[j]? = some d → c.num = d.num → i = j
  past : ∀ c ∈ g.conns, c.num ≤ g.last
  top : g.last ≤ 1000000000000
/-- What each connection keeps. -/
structure CIn (c : ConnS) : Prop where
  s0 : 0 ≤ c.silent
  s1 : c.silent < 10
  st : c.stage ≤ 2
  ends : c.stage ≠ 2 → c.noMore = false ∧ c.hostEnd = false
def GIn (g : GateS) : Prop := ∀ c ∈ g.conns, CIn c

end Go.Proofs.YtdmaffciijmdcaaGreatDoor

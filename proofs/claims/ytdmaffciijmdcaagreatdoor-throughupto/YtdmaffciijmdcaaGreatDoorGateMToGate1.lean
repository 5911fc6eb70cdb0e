/-
  Memory: events in rows, blocks that stay, whose blocks they are.
-/
import Derived.Test.YtdmaffciijmdcaaGreatDoorJudgeToGateP
namespace Go.Proofs.YtdmaffciijmdcaaGreatDoor
open Go.RowKit Plain

def evOf (e : EvS) : List Value := [.int .i64 e.kind, .int .i64 e.conn, str e.text, .int .i64 e.port]
def evVals (l : List EvS) : List Value := l.flatMap evOf
def evV (e : EvS) : Value := .agg (evOf e).toArray
theorem evVals_append (a b : List EvS) : evVals (a ++ b) = evVals a ++ evVals b := by simp [evVals]
theorem evVals_one (e : EvS) : evVals [e] = evOf e := by simp [evVals]
theorem evVals_len (l : List EvS) : (evVals l).length = l.length * 4 := by
  induction l with
  | nil => rfl
  | cons e l ih =>
    have : evVals (e :: l) = evOf e ++ evVals l := rfl
    rw [this, List.length_append, ih]
    simp [evOf]
    omega

/-- Events in new memory. -/
def EvsPost (l : List EvS) (w : World) (e : Ending) (w' : World) : Prop :=
  Q w w' ∧ ∃ v, e = .returned v ∧ w'.ownsRow w.heap.size 48 4 v l.length (evVals l)

theorem own_new (W : World) (B H : Nat) (hH : W.heap.size = H) (cs : List Value) (e : TypeId) (h4 : cs.length = 4) (hB : B ≤ H) : (W.alloc (.cells cs.toArray e)).ownsRow B e 4 (.slice (some ⟨H, 0, none⟩) 1 1) 1 cs := by
  subst hH
  exact ⟨by rw [h4], .inr ⟨W.heap.size, 1, cs.toArray, rfl, hB, heap_alloc_new W _, Nat.le_refl _, by decide, by simp [h4], by rw [List.take_of_length_le (by simp [h4])]⟩⟩

/-- What a block of a gateway's is for. -/
inductive Kd where
  | gw | stat | row
  | conn (n : Nat)
  | wait (n : Nat)
abbrev Rl := Nat → Option Kd
abbrev ptr (b : Nat) : Value := .pointer (some ⟨b, 0, none⟩)

theorem obj_set {w : World} {cb o : Nat} {u : Value} (h : ∃ cs t, w.heap[cb]? = some (.cells cs t (0, 0))) : ∃ cs t, (w.setCell ⟨cb, o, none⟩ u).heap[cb]? = some (.cells cs t (0, 0)) := by
  obtain ⟨cs, t, h⟩ := h
  exact ⟨cs.setIfInBounds o u, t, by simp [World.setCell, Array.getElem?_modify, h]⟩
/-- The same block. -/
def SameAt (w w' : World) (b : Nat) : Prop := w'.heap[b]? = w.heap[b]?
theorem SameAt.cell {w w' : World} {b : Nat} (h : SameAt w w' b) (o : Nat) : w'.cell? ⟨b, o, none⟩ = w.cell? ⟨b, o, none⟩ := World.cell?_of_block h
theorem SameAt.frozen {w w' : World} {b : Nat} (h : SameAt w w' b) (o : Nat) : w'.frozen? ⟨b, o, none⟩ = w.frozen? ⟨b, o, none⟩ := World.frozen?_of_block h
theorem owns_same {w w' : World} {base : Nat} {e : TypeId} {size : Nat} {v : Value} {n : Nat} {xs : List Value} (h : w.ownsRow base e size v n xs) (hs : ∀ k, v.ownBlock = some k → SameAt w w' k) : w'.ownsRow base e size v n xs := by
  refine ⟨h.1, ?_⟩
  rcases h.2 with hn | ⟨g, cap, cur, hv, hb, hg, t⟩
  · exact .inl hn
  · exact .inr ⟨g, cap, cur, hv, hb, by rw [hs g (by rw [hv]; rfl)]; exact hg, t⟩

theorem Q.sameAt {w w' : World} (q : Q w w') {b : Nat} (h : b < w.heap.size) : SameAt w w' b := Below.block q b h
/-- What a call on a gateway may turn: its own blocks alone. -/
structure Fr (r : Rl) (w w' : World) : Prop where
  os : w'.os = w.os
  tape : w'.tape = w.tape
  output : w'.output = w.output
  size : w.heap.size ≤ w'.heap.size
  block : ∀ k, k < w.heap.size → r k = none → SameAt w w' k
theorem Fr.refl (r : Rl) (w : World) : Fr r w w := ⟨rfl, rfl, rfl, Nat.le_refl _, fun _ _ _ => rfl⟩
theorem Fr.ofQ {r : Rl} {w w' : World} (q : Q w w') : Fr r w w' := ⟨q.os, q.tape, q.output, q.size, fun _ hk _ => q.sameAt hk⟩
theorem Fr.set (r : Rl) (w : World) (b o : Nat) (u : Value) (h : r b ≠ none) : Fr r w (w.setCell ⟨b, o, none⟩ u) := ⟨rfl, rfl, rfl, by simp, fun k _ hk => Below.heap_setCell _ _ _ _ (fun e => h (by have e' : k = b := e; rw [← e']; exact hk))⟩
/-- More blocks are its own: new ones. -/
def Grows (r : Rl) (w : World) (r' : Rl) : Prop := (∀ b, r' b ≠ none → r b ≠ none ∨ w.heap.size ≤ b) ∧ ∀ b, r b ≠ none → r' b ≠ none
theorem Grows.refl (r : Rl) (w : World) : Grows r w r := ⟨fun _ h => .inl h, fun _ h => h⟩
theorem Fr.trans {r r1 : Rl} {w w1 w2 : World} (h : Fr r w w1) (g : Grows r w r1) (h2 : Fr r1 w1 w2) : Fr r w w2 :=
  ⟨h2.os.trans h.os, h2.tape.trans h.tape, h2.output.trans h.output, Nat.le_trans h.size h2.size, fun k hk hr => (h2.block k (Nat.lt_of_lt_of_le hk h.size) (by
    cases hr1 : r1 k with
    | none => rfl
    | some x =>
      rcases g.1 k (by rw [hr1]; simp) with h3 | h3
      · exact absurd hr h3
      · omega)).trans (h.block k hk hr)⟩
theorem Grows.trans {r r1 r2 : Rl} {w w1 : World} (g : Grows r w r1) (hz : w.heap.size ≤ w1.heap.size) (g2 : Grows r1 w1 r2) : Grows r w r2 :=
  ⟨fun b hb => by
    rcases g2.1 b hb with h | h
    · exact g.1 b h
    · exact .inr (Nat.le_trans hz h), fun b hb => g2.2 b (g.2 b hb)⟩
theorem set_same_at {w : World} {b o k : Nat} {u : Value} (h : k ≠ b) : SameAt w (w.setCell ⟨b, o, none⟩ u) k := Below.heap_setCell _ _ _ _ h
theorem slice_form {w : World} {B : Nat} {e : TypeId} {size : Nat} {v : Value} {n : Nat} {xs : List Value} (h : w.ownsRow B e size v n xs) : ∃ o c, v = .slice o n c := by
  rcases h.2 with ⟨h1, h2⟩ | ⟨g, cap, cur, h1, _⟩
  · exact ⟨none, 0, by rw [h1, h2]⟩
  · exact ⟨_, _, h1⟩

/-- Events, in new memory that is no gateway's. -/
def EvsOut (r' : Rl) (l : List EvS) (w : World) (v : Value) (w' : World) : Prop :=
  w'.ownsRow w.heap.size 48 4 v l.length (evVals l) ∧ ∀ k, v.ownBlock = some k → r' k = none

theorem evs_nil (r' : Rl) (w w' : World) : EvsOut r' [] w (.slice none 0 0) w' := ⟨⟨rfl, .inl ⟨rfl, rfl⟩⟩, fun k hk => by cases hk⟩

theorem own_newN (W : World) (B H m : Nat) (hH : W.heap.size = H) (cs : List Value) (e : TypeId) (h4 : cs.length = m * 4) (hm : m ≤ maxLen) (hB : B ≤ H) : (W.alloc (.cells cs.toArray e)).ownsRow B e 4 (.slice (some ⟨H, 0, none⟩) m m) m cs := by
  subst hH
  exact ⟨h4, .inr ⟨W.heap.size, m, cs.toArray, rfl, hB, heap_alloc_new W _, Nat.le_refl _, hm, by simp [h4], by rw [List.take_of_length_le (by simp [h4])]⟩⟩
theorem wpList_append_run {P : Program} {w : World} {ops : Array Oper} {rest : List Oper} {o : Oper} {a : Act} {Q' : Exit → Act → World → Prop} (hgd : o.guard = none) (sl x : Operand) (t u : TypeId)
    (ho : o.op = .call { callee := .builtin .append, args := #[sl, x], argTypes := #[t, u] }) (v xv v' : Value) (w' : World) (hs : a.eval sl = v) (hx : a.eval x = xv)
    (hr : (Builtin.append_ #[t, u] o.type #[v, xv]).run P w = .ok v' w') (h : wpList P ops Q' rest (a.put o.dst v') w') : wpList P ops Q' (o :: rest) a w := by
  refine wpList_plain hgd fun K hK => ?_
  unfold Oper.wp execOp
  simp only [ho, resolve, invoke, builtin, Sem.run_bind, Sem.run_pure, Result.andThen_ok, List.map_toArray, List.map_cons, List.map_nil, hs, hx, hr]
  exact hK _ _ h

theorem step_append_run {P : Program} {ops : Array Oper} {o : Oper} {a : Act} {w : World} {K : Act → World → Prop} {Q : Exit → Act → World → Prop} {E : Prop} (hgd : o.guard = none) (sl x : Operand) (t u : TypeId)
    (ho : o.op = .call { callee := .builtin .append, args := #[sl, x], argTypes := #[t, u] }) (v xv v' : Value) (w' : World) (hs : a.eval sl = v) (hx : a.eval x = xv)
    (hr : (Builtin.append_ #[t, u] o.type #[v, xv]).run P w = .ok v' w') (h : K (a.put o.dst v') w') : if Region.wanted o (yielded ops a.tmps) = true then Oper.wp P o a w K Q else E := by
  have hw : Region.wanted o (yielded ops a.tmps) = true := by simp [Region.wanted, hgd]
  rw [if_pos hw]
  unfold Oper.wp execOp
  simp only [ho, resolve, invoke, builtin, Sem.run_bind, Sem.run_pure, Result.andThen_ok, List.map_toArray, List.map_cons, List.map_nil, hs, hx, hr]
  exact h

theorem evOf_one (e : EvS) : ∀ u ∈ evOf e, u.oneCell' = true := by
  intro u hu
  simp only [evOf, List.mem_cons, List.not_mem_nil, or_false] at hu
  rcases hu with rfl | rfl | rfl | rfl <;> rfl
theorem evVals_oneCell (l : List EvS) : ∀ u ∈ evVals l, u.oneCell' = true := by
  intro u hu
  obtain ⟨e, _, he⟩ := List.mem_flatMap.1 hu
  exact evOf_one e u he

theorem append_evs (w : World) (B B2 : Nat) (v lv : Value) (n : Nat) (xs : List Value) (l : List EvS) (hown : w.ownsRow B 48 4 v n xs) (hl : w.ownsRow B2 48 4 lv l.length (evVals l)) (hb : n + l.length ≤ 1000000000000) (hB : B ≤ w.heap.size) :
    ∃ v' w', (Builtin.append_ #[41, 41] 41 #[v, lv]).run Tryz.prog w = .ok v' w' ∧ w'.ownsRow B 48 4 v' (n + l.length) (xs ++ evVals l) ∧ w.grownBy w' v.ownBlock ∧ (v'.ownBlock = v.ownBlock ∨ v'.ownBlock = some w.heap.size) := by
  rcases hl.2 with ⟨rfl, hn⟩ | ⟨g, cap, cur, rfl, hbg, hg, hnc, hcm, hcs, htake⟩
  · have hl0 : l = [] := List.eq_nil_of_length_eq_zero hn
    subst hl0
    obtain ⟨vo, vc, rfl⟩ : ∃ o c, v = .slice o n c := by
      rcases hown.2 with ⟨h1, h2⟩ | ⟨g, cap, cur, h1, _⟩
      · exact ⟨none, 0, by rw [h1, h2]⟩
      · exact ⟨_, _, h1⟩
    have hi : Tryz.prog.info? 48 = some Tryz.t48 := by kernel_rfl
    have hc : n ≤ vc := by
      rcases hown.2 with ⟨h1, h2⟩ | ⟨g, cap, cur, h1, _, _, h3, _⟩
      · omega
      · cases h1; exact h3
    refine ⟨.slice vo n vc, w, ?_, by simpa [evVals] using hown, ⟨rfl, rfl, rfl, Nat.le_refl _, fun _ _ _ => rfl⟩, .inl rfl⟩
    cases vo <;> simp [Builtin.append_, run_underlying Tryz.underlying41, sizeOf, typeInfo, hi, Builtin.lenOf, Builtin.firstCells, loadCells, storeCells, hc]
  · obtain ⟨v', w', h1, h2, h3, _, h5⟩ := run_append_own_at (P := Tryz.prog) w B 41 41 48 Tryz.t48 (.agg #[.int .i64 0, .int .i64 0, .string ⟨#[]⟩, .int .i64 0]) 4 40 Tryz.underlying41 (by kernel_rfl) (by kernel_rfl) (by kernel_rfl) (by kernel_rfl) rfl (by decide) v n xs hown ⟨g, 0, none⟩ l.length cap (evVals l) (evVals_len l) (hl.cells (g := g) rfl) (evVals_oneCell l) (by unfold maxLen; omega) (by omega) hB
    exact ⟨v', w', h1, h2, h3, h5⟩

section
variable {P : Program}
/-- One element of some cells is appended to a row that the call made. -/
theorem append_el {ops : Array Oper} {rest : List Oper} {o : Oper} {a : Act} {Q' : Exit → Act → World → Prop} (hgd : o.guard = none) (s x : Operand) (t : TypeId)
    (ho : o.op = .call { callee := .builtin .append, args := #[s, x], argTypes := #[t, t] })
    (e : TypeId) (i : TypeInfo) (z : Value) (size bytes : Nat) (ht : P.underlying t = some (.slice e)) (hi : P.info? e = some i) (hz : i.zero = some z)
    (hsize : i.size = size) (hby : i.bytes = bytes) (hzs : z.cells.size = size) (hs0 : 0 < size) (v : Value) (n : Nat) (xs us : List Value) (hul : us.length = size) (B : Nat) (wr : World) (hs : a.eval s = v) (hx : a.eval x = .slice (some ⟨wr.heap.size, 0, none⟩) 1 1)
    (hown : wr.ownsRow B e size v n xs) (h1 : ∀ u ∈ us, u.oneCell' = true) (hl : n ≤ 8388608) (hbb : bytes ≤ 64) (hB : B ≤ wr.heap.size)
    (h : ∀ g cap w', w'.ownsRow B e size (.slice (some ⟨g, 0, none⟩) (n + 1) cap) (n + 1) (xs ++ us) → Below B wr w' → (wr.alloc (.cells us.toArray e)).grownBy w' v.ownBlock → (v.ownBlock = some g ∨ g = wr.heap.size + 1) → g < w'.heap.size →
      wpList P ops Q' rest (a.put o.dst (.slice (some ⟨g, 0, none⟩) (n + 1) cap)) w') : wpList P ops Q' (o :: rest) a (wr.alloc (.cells us.toArray e)) := by
  have hq : Q wr (wr.alloc (.cells us.toArray e)) := (Q.refl _).alloc _
  refine wpList_append_lies _ hgd s x t ho B e i z size bytes ht hi hz hsize hby hzs hs0 v n xs hs (owns_Q hown hq) ⟨wr.heap.size, 0, none⟩ 1 1 us hx (by rw [hul, Nat.one_mul]) ?_ h1 (by decide) ?_ ?_ ?_ (wr.heap.size + 1) (by simp) ?_
  · exact World.news_of_block (w := wr.alloc (.cells us.toArray e)) (B := wr.heap.size) (cs := us.toArray) (t := e) (fr := (0, 0)) (heap_alloc_new wr _)
  · unfold maxLen; omega
  · have : (n + 1) * bytes ≤ (n + 1) * 64 := Nat.mul_le_mul_left _ hbb
    omega
  · simp; omega
  · intro g cap w' ho' hg hat hlt
    exact h g cap w' ho' ((hq.mono hB).grown hg (by simp; omega) (fun k hk => (owns_lt hown k hk).1)) hg hat hlt
end
end Go.Proofs.YtdmaffciijmdcaaGreatDoor
/-
  Package turnpike: events, and what a gateway is in memory.
-/
namespace Go.Proofs.YtdmaffciijmdcaaGreatDoor
open Go.RowKit Plain

set_option maxRecDepth 100000 in
set_option maxHeartbeats 400000 in
theorem event_any (kind num : Int) (lb : Nat) (w : World) (hc : w.cell? ⟨lb, 0, none⟩ = some (.int .i64 num)) :
    Calls Tryz.prog 91 #[.pointer (some ⟨lb, 0, none⟩), .int .i64 kind] w fun e w' => e = .returned (.agg #[.int .i64 kind, .int .i64 num, .string ⟨#[]⟩, .int .i64 0]) ∧ Q w w' := by
  have hlt := Q.lt hc
  go_enter Tryz.func91, Tryz.ntmps91
  go_wp2_with fail
  go_returns
  exact ⟨rfl, (Q.refl _).alloc _⟩

set_option maxRecDepth 100000 in
set_option maxHeartbeats 800000 in
theorem send_any (kind num : Int) (s : ByteArray) (lb : Nat) (w : World) (hc : w.cell? ⟨lb, 0, none⟩ = some (.int .i64 num)) (hs : s.size ≤ 4398046511104) :
    Calls Tryz.prog 53 #[.pointer (some ⟨lb, 0, none⟩), .int .i64 kind, .string s] w fun e w' => EvsPost (sendS kind num s.data.toList) w e w' := by
  cases he : s.data.toList.isEmpty
  · have hemp : s.toList.isEmpty = false := by rw [Lib.toList_data]; exact he
    have HS : Hid (sendS kind num s.data.toList = [⟨kind, num, s.data.toList, 0⟩]) := by
      show _ = _
      unfold sendS; rw [he]; rfl
    clear he
    have HE := show Hid _ from event_any kind num lb w hc
    have HC := fun x => show Hid _ from clone_any s x (by omega)
    go_enter Tryz.func53, Tryz.ntmps53
    go_wp2_with fail
    refine Calls.mono (Hid.out HE) ?_
    rintro e w1 ⟨rfl, hq1⟩
    go_wp2_with fail
    refine Calls.mono (Hid.out (HC _)) ?_
    rintro e w2 ⟨rfl, hq2⟩
    obtain ⟨hcl, hfr, hz⟩ := hq2.made
    have hQ : Q w w2 := (hq1.alloc _).trans hq2
    have hsz := hq1.size
    clear HE HC hq1 hq2
    go_wp2_with fail
    go_ret
    refine ⟨(hQ.setCell hsz _).alloc _, _, rfl, ?_⟩
    rw [HS.out]
    exact own_new _ _ w2.heap.size (by simp) (evOf ⟨kind, num, s.data.toList, 0⟩) _ rfl hQ.size
  · have hemp : s.toList.isEmpty = true := by rw [Lib.toList_data]; exact he
    have HS : Hid (sendS kind num s.data.toList = []) := by
      show _ = _
      unfold sendS; rw [he]; rfl
    clear he
    go_enter Tryz.func53, Tryz.ntmps53
    go_wp2_with fail
    go_ret
    refine ⟨Q.refl _, _, rfl, ?_⟩
    rw [HS.out]
    exact ⟨rfl, .inl ⟨rfl, rfl⟩⟩

set_option maxRecDepth 100000 in
set_option maxHeartbeats 800000 in
theorem dial_any (num : Int) (h : ByteArray) (p : Int) (lb : Nat) (w : World) (hc : w.cell? ⟨lb, 0, none⟩ = some (.int .i64 num)) :
    Calls Tryz.prog 96 #[.pointer (some ⟨lb, 0, none⟩), .agg #[.string h, .int .i64 p]] w fun e w' => EvsPost [⟨1, num, h.data.toList, p⟩] w e w' := by
  have hlt := Q.lt hc
  have HE := fun x hx => show Hid _ from event_any 1 num lb x hx
  go_enter Tryz.func96, Tryz.ntmps96
  go_wp2_with fail
  refine Calls.mono (Hid.out (HE _ (((Q.refl _).alloc _).cell hc))) ?_
  rintro e w1 ⟨rfl, hq1⟩
  obtain ⟨hcl, hfr, hz⟩ := hq1.made
  have hQ : Q w w1 := ((Q.refl _).alloc _).trans hq1
  clear HE hq1
  go_wp2_with fail
  go_region
  go_wp2_with fail
  go_ret
  refine ⟨((hQ.alloc _).alloc _).drew, _, rfl, ?_⟩
  exact own_new (w1.alloc _) _ (w1.heap.size + 1) (by simp) (evOf ⟨1, num, h.data.toList, p⟩) _ rfl (Nat.le_succ_of_le hQ.size)

set_option maxRecDepth 100000 in
set_option maxHeartbeats 400000 in
theorem heard_any (lb : Nat) (u : Value) (w : World) (hc : w.cell? ⟨lb, 1, none⟩ = some u) (hf : w.frozen? ⟨lb, 1, none⟩ = false) :
    Calls Tryz.prog 52 #[.pointer (some ⟨lb, 0, none⟩)] w fun e w' => e = .returned (.tuple #[]) ∧ w' = w.setCell ⟨lb, 1, none⟩ (.int .i64 0) := by
  go_enter Tryz.func52, Tryz.ntmps52
  go_wp2_with fail
  go_end0
  exact ⟨rfl, rfl⟩
end Go.Proofs.YtdmaffciijmdcaaGreatDoor

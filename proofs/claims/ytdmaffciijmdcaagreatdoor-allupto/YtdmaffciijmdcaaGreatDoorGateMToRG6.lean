/-
  Memory: events in rows, blocks that stay, whose blocks they are.
-/
import Derived.Test.YtdmaffciijmdcaaGreatDoorRRulesToGateP
import Derived.Test.YtdmaffciijmdcaaGreatDoorRowTToLeaf
import Derived.Test.YtdmaffciijmdcaaGreatDoorRG3ToRG4
namespace Go.Proofs.YtdmaffciijmdcaaGreatDoor
open Go.RowKit Plain

def evOf (e : EvS) : List Value := [.int .i64 e.kind, .int .i64 e.conn, str e.text, .int .i64 e.port]
def evVals (l : List EvS) : List Value := l.flatMap evOf
def evV (e : EvS) : Value := .agg (evOf e).toArray
theorem evVals_append (a b : List EvS) : evVals (a ++ b) = evVals a ++ evVals b := by simp [evVals]
theorem evVals_one (e : EvS) : evVals [e] = evOf e := by simp [evVals]
theorem evVals_len (l : List EvS) : (evVals l).length = l.length * 4 := by
  induction l with
  | nil => rfl
  | cons e l ih =>
    have : evVals (e :: l) = evOf e ++ evVals l := rfl
    rw [this, List.length_append, ih]
    simp [evOf]
    omega

/-- Events in new memory. -/
def EvsPost (l : List EvS) (w : World) (e : Ending) (w' : World) : Prop :=
  Q w w' ∧ ∃ v, e = .returned v ∧ w'.ownsRow w.heap.size 48 4 v l.length (evVals l)

theorem own_new (W : World) (B H : Nat) (hH : W.heap.size = H) (cs : List Value) (e : TypeId) (h4 : cs.length = 4) (hB : B ≤ H) : (W.alloc (.cells cs.toArray e)).ownsRow B e 4 (.slice (some ⟨H, 0, none⟩) 1 1) 1 cs := by
  subst hH
  exact ⟨by rw [h4], .inr ⟨W.heap.size, 1, cs.toArray, rfl, hB, heap_alloc_new W _, Nat.le_refl _, by decide, by simp [h4], by rw [List.take_of_length_le (by simp [h4])]⟩⟩

/-- What a block of a gateway's is for. -/
inductive Kd where
  | gw | stat | row
  | conn (n : Nat)
  | wait (n : Nat)
abbrev Rl := Nat → Option Kd
abbrev ptr (b : Nat) : Value := .pointer (some ⟨b, 0, none⟩)

theorem obj_set {w : World} {cb o : Nat} {u : Value} (h : ∃ cs t, w.heap[cb]? = some (.cells cs t (0, 0))) : ∃ cs t, (w.setCell ⟨cb, o, none⟩ u).heap[cb]? = some (.cells cs t (0, 0)) := by
  obtain ⟨cs, t, h⟩ := h
  exact ⟨cs.setIfInBounds o u, t, by simp [World.setCell, Array.getElem?_modify, h]⟩
/-- The same block. -/
def SameAt (w w' : World) (b : Nat) : Prop := w'.heap[b]? = w.heap[b]?
theorem SameAt.cell {w w' : World} {b : Nat} (h : SameAt w w' b) (o : Nat) : w'.cell? ⟨b, o, none⟩ = w.cell? ⟨b, o, none⟩ := World.cell?_of_block h
theorem SameAt.frozen {w w' : World} {b : Nat} (h : SameAt w w' b) (o : Nat) : w'.frozen? ⟨b, o, none⟩ = w.frozen? ⟨b, o, none⟩ := World.frozen?_of_block h
theorem owns_same {w w' : World} {base : Nat} {e : TypeId} {size : Nat} {v : Value} {n : Nat} {xs : List Value} (h : w.ownsRow base e size v n xs) (hs : ∀ k, v.ownBlock = some k → SameAt w w' k) : w'.ownsRow base e size v n xs := by
  refine ⟨h.1, ?_⟩
  rcases h.2 with hn | ⟨g, cap, cur, hv, hb, hg, t⟩
  · exact .inl hn
  · exact .inr ⟨g, cap, cur, hv, hb, by rw [hs g (by rw [hv]; rfl)]; exact hg, t⟩

theorem Q.sameAt {w w' : World} (q : Q w w') {b : Nat} (h : b < w.heap.size) : SameAt w w' b := Below.block q b h
/-- What a call on a gateway may turn: its own blocks alone. -/
structure Fr (r : Rl) (w w' : World) : Prop where
  os : w'.os = w.os
  tape : w'.tape = w.tape
  output : w'.output = w.output
  size : w.heap.size ≤ w'.heap.size
  block : ∀ k, k < w.heap.size → r k = none → SameAt w w' k
theorem Fr.refl (r : Rl) (w : World) : Fr r w w := ⟨rfl, rfl, rfl, Nat.le_refl _, fun _ _ _ => rfl⟩
theorem Fr.ofQ {r : Rl} {w w' : World} (q : Q w w') : Fr r w w' := ⟨q.os, q.tape, q.output, q.size, fun _ hk _ => q.sameAt hk⟩
theorem Fr.set (r : Rl) (w : World) (b o : Nat) (u : Value) (h : r b ≠ none) : Fr r w (w.setCell ⟨b, o, none⟩ u) := ⟨rfl, rfl, rfl, by simp, fun k _ hk => Below.heap_setCell _ _ _ _ (fun e => h (by have e' : k = b := e; rw [← e']; exact hk))⟩
/-- More blocks are its own: new ones. -/
def Grows (r : Rl) (w : World) (r' : Rl) : Prop := (∀ b, r' b ≠ none → r b ≠ none ∨ w.heap.size ≤ b) ∧ ∀ b, r b ≠ none → r' b ≠ none
theorem Grows.refl (r : Rl) (w : World) : Grows r w r := ⟨fun _ h => .inl h, fun _ h => h⟩
theorem Fr.trans {r r1 : Rl} {w w1 w2 : World} (h : Fr r w w1) (g : Grows r w r1) (h2 : Fr r1 w1 w2) : Fr r w w2 :=
  ⟨h2.os.trans h.os, h2.tape.trans h.tape, h2.output.trans h.output, Nat.le_trans h.size h2.size, fun k hk hr => (h2.block k (Nat.lt_of_lt_of_le hk h.size) (by
    cases hr1 : r1 k with
    | none => rfl
    | some x =>
      rcases g.1 k (by rw [hr1]; simp) with h3 | h3
      · exact absurd hr h3
      · omega)).trans (h.block k hk hr)⟩
theorem Grows.trans {r r1 r2 : Rl} {w w1 : World} (g : Grows r w r1) (hz : w.heap.size ≤ w1.heap.size) (g2 : Grows r1 w1 r2) : Grows r w r2 :=
  ⟨fun b hb => by
    rcases g2.1 b hb with h | h
    · exact g.1 b h
    · exact .inr (Nat.le_trans hz h), fun b hb => g2.2 b (g.2 b hb)⟩
theorem set_same_at {w : World} {b o k : Nat} {u : Value} (h : k ≠ b) : SameAt w (w.setCell ⟨b, o, none⟩ u) k := Below.heap_setCell _ _ _ _ h
theorem slice_form {w : World} {B : Nat} {e : TypeId} {size : Nat} {v : Value} {n : Nat} {xs : List Value} (h : w.ownsRow B e size v n xs) : ∃ o c, v = .slice o n c := by
  rcases h.2 with ⟨h1, h2⟩ | ⟨g, cap, cur, h1, _⟩
  · exact ⟨none, 0, by rw [h1, h2]⟩
  · exact ⟨_, _, h1⟩

/-- Events, in new memory that is no gateway's. -/
def EvsOut (r' : Rl) (l : List EvS) (w : World) (v : Value) (w' : World) : Prop :=
  w'.ownsRow w.heap.size 48 4 v l.length (evVals l) ∧ ∀ k, v.ownBlock = some k → r' k = none

theorem evs_nil (r' : Rl) (w w' : World) : EvsOut r' [] w (.slice none 0 0) w' := ⟨⟨rfl, .inl ⟨rfl, rfl⟩⟩, fun k hk => by cases hk⟩

theorem own_newN (W : World) (B H m : Nat) (hH : W.heap.size = H) (cs : List Value) (e : TypeId) (h4 : cs.length = m * 4) (hm : m ≤ maxLen) (hB : B ≤ H) : (W.alloc (.cells cs.toArray e)).ownsRow B e 4 (.slice (some ⟨H, 0, none⟩) m m) m cs := by
  subst hH
  exact ⟨h4, .inr ⟨W.heap.size, m, cs.toArray, rfl, hB, heap_alloc_new W _, Nat.le_refl _, hm, by simp [h4], by rw [List.take_of_length_le (by simp [h4])]⟩⟩
theorem wpList_append_run {P : Program} {w : World} {ops : Array Oper} {rest : List Oper} {o : Oper} {a : Act} {Q' : Exit → Act → World → Prop} (hgd : o.guard = none) (sl x : Operand) (t u : TypeId)
    (ho : o.op = .call { callee := .builtin .append, args := #[sl, x], argTypes := #[t, u] }) (v xv v' : Value) (w' : World) (hs : a.eval sl = v) (hx : a.eval x = xv)
    (hr : (Builtin.append_ #[t, u] o.type #[v, xv]).run P w = .ok v' w') (h : wpList P ops Q' rest (a.put o.dst v') w') : wpList P ops Q' (o :: rest) a w := by
  refine wpList_plain hgd fun K hK => ?_
  unfold Oper.wp execOp
  simp only [ho, resolve, invoke, builtin, Sem.run_bind, Sem.run_pure, Result.andThen_ok, List.map_toArray, List.map_cons, List.map_nil, hs, hx, hr]
  exact hK _ _ h

theorem step_append_run {P : Program} {ops : Array Oper} {o : Oper} {a : Act} {w : World} {K : Act → World → Prop} {Q : Exit → Act → World → Prop} {E : Prop} (hgd : o.guard = none) (sl x : Operand) (t u : TypeId)
    (ho : o.op = .call { callee := .builtin .append, args := #[sl, x], argTypes := #[t, u] }) (v xv v' : Value) (w' : World) (hs : a.eval sl = v) (hx : a.eval x = xv)
    (hr : (Builtin.append_ #[t, u] o.type #[v, xv]).run P w = .ok v' w') (h : K (a.put o.dst v') w') : if Region.wanted o (yielded ops a.tmps) = true then Oper.wp P o a w K Q else E := by
  have hw : Region.wanted o (yielded ops a.tmps) = true := by simp [Region.wanted, hgd]
  rw [if_pos hw]
  unfold Oper.wp execOp
  simp only [ho, resolve, invoke, builtin, Sem.run_bind, Sem.run_pure, Result.andThen_ok, List.map_toArray, List.map_cons, List.map_nil, hs, hx, hr]
  exact h

theorem evOf_one (e : EvS) : ∀ u ∈ evOf e, u.oneCell' = true := by
  intro u hu
  simp only [evOf, List.mem_cons, List.not_mem_nil, or_false] at hu
  rcases hu with rfl | rfl | rfl | rfl <;> rfl
theorem evVals_oneCell (l : List EvS) : ∀ u ∈ evVals l, u.oneCell' = true := by
  intro u hu
  obtain ⟨e, _, he⟩ := List.mem_flatMap.1 hu
  exact evOf_one e u he

theorem append_evs (w : World) (B B2 : Nat) (v lv : Value) (n : Nat) (xs : List Value) (l : List EvS) (hown : w.ownsRow B 48 4 v n xs) (hl : w.ownsRow B2 48 4 lv l.length (evVals l)) (hb : n + l.length ≤ 1000000000000) (hB : B ≤ w.heap.size) :
    ∃ v' w', (Builtin.append_ #[41, 41] 41 #[v, lv]).run Tryz.prog w = .ok v' w' ∧ w'.ownsRow B 48 4 v' (n + l.length) (xs ++ evVals l) ∧ w.grownBy w' v.ownBlock ∧ (v'.ownBlock = v.ownBlock ∨ v'.ownBlock = some w.heap.size) := by
  rcases hl.2 with ⟨rfl, hn⟩ | ⟨g, cap, cur, rfl, hbg, hg, hnc, hcm, hcs, htake⟩
  · have hl0 : l = [] := List.eq_nil_of_length_eq_zero hn
    subst hl0
    obtain ⟨vo, vc, rfl⟩ : ∃ o c, v = .slice o n c := by
      rcases hown.2 with ⟨h1, h2⟩ | ⟨g, cap, cur, h1, _⟩
      · exact ⟨none, 0, by rw [h1, h2]⟩
      · exact ⟨_, _, h1⟩
    have hi : Tryz.prog.info? 48 = some Tryz.t48 := by kernel_rfl
    have hc : n ≤ vc := by
      rcases hown.2 with ⟨h1, h2⟩ | ⟨g, cap, cur, h1, _, _, h3, _⟩
      · omega
      · cases h1; exact h3
    refine ⟨.slice vo n vc, w, ?_, by simpa [evVals] using hown, ⟨rfl, rfl, rfl, Nat.le_refl _, fun _ _ _ => rfl⟩, .inl rfl⟩
    cases vo <;> simp [Builtin.append_, run_underlying Tryz.underlying41, sizeOf, typeInfo, hi, Builtin.lenOf, Builtin.firstCells, loadCells, storeCells, hc]
  · obtain ⟨v', w', h1, h2, h3, _, h5⟩ := run_append_own_at (P := Tryz.prog) w B 41 41 48 Tryz.t48 (.agg #[.int .i64 0, .int .i64 0, .string ⟨#[]⟩, .int .i64 0]) 4 40 Tryz.underlying41 (by kernel_rfl) (by kernel_rfl) (by kernel_rfl) (by kernel_rfl) rfl (by decide) v n xs hown ⟨g, 0, none⟩ l.length cap (evVals l) (evVals_len l) (hl.cells (g := g) rfl) (evVals_oneCell l) (by unfold maxLen; omega) (by omega) hB
    exact ⟨v', w', h1, h2, h3, h5⟩

section
variable {P : Program}
/-- One element of some cells is appended to a row that the call made. -/
theorem append_el {ops : Array Oper} {rest : List Oper} {o : Oper} {a : Act} {Q' : Exit → Act → World → Prop} (hgd : o.guard = none) (s x : Operand) (t : TypeId)
    (ho : o.op = .call { callee := .builtin .append, args := #[s, x], argTypes := #[t, t] })
    (e : TypeId) (i : TypeInfo) (z : Value) (size bytes : Nat) (ht : P.underlying t = some (.slice e)) (hi : P.info? e = some i) (hz : i.zero = some z)
    (hsize : i.size = size) (hby : i.bytes = bytes) (hzs : z.cells.size = size) (hs0 : 0 < size) (v : Value) (n : Nat) (xs us : List Value) (hul : us.length = size) (B : Nat) (wr : World) (hs : a.eval s = v) (hx : a.eval x = .slice (some ⟨wr.heap.size, 0, none⟩) 1 1)
    (hown : wr.ownsRow B e size v n xs) (h1 : ∀ u ∈ us, u.oneCell' = true) (hl : n ≤ 8388608) (hbb : bytes ≤ 64) (hB : B ≤ wr.heap.size)
    (h : ∀ g cap w', w'.ownsRow B e size (.slice (some ⟨g, 0, none⟩) (n + 1) cap) (n + 1) (xs ++ us) → Below B wr w' → (wr.alloc (.cells us.toArray e)).grownBy w' v.ownBlock → (v.ownBlock = some g ∨ g = wr.heap.size + 1) → g < w'.heap.size →
      wpList P ops Q' rest (a.put o.dst (.slice (some ⟨g, 0, none⟩) (n + 1) cap)) w') : wpList P ops Q' (o :: rest) a (wr.alloc (.cells us.toArray e)) := by
  have hq : Q wr (wr.alloc (.cells us.toArray e)) := (Q.refl _).alloc _
  refine wpList_append_lies _ hgd s x t ho B e i z size bytes ht hi hz hsize hby hzs hs0 v n xs hs (owns_Q hown hq) ⟨wr.heap.size, 0, none⟩ 1 1 us hx (by rw [hul, Nat.one_mul]) ?_ h1 (by decide) ?_ ?_ ?_ (wr.heap.size + 1) (by simp) ?_
  · exact World.news_of_block (w := wr.alloc (.cells us.toArray e)) (B := wr.heap.size) (cs := us.toArray) (t := e) (fr := (0, 0)) (heap_alloc_new wr _)
  · unfold maxLen; omega
  · have : (n + 1) * bytes ≤ (n + 1) * 64 := Nat.mul_le_mul_left _ hbb
    omega
  · simp; omega
  · intro g cap w' ho' hg hat hlt
    exact h g cap w' ho' ((hq.mono hB).grown hg (by simp; omega) (fun k hk => (owns_lt hown k hk).1)) hg hat hlt
end
end Go.Proofs.YtdmaffciijmdcaaGreatDoor
/-
  Plain: base 64 says one text alone.
-/
namespace Go.Proofs.YtdmaffciijmdcaaGreatDoor.Plain
theorem six_inj0 : ∀ a b : Fin 64, letters.getD a.val 0 = letters.getD b.val 0 → a = b := by decide +kernel
theorem six_61 : ∀ a : Fin 64, letters.getD a.val 0 ≠ 61 ∧ letters.getD a.val 0 ≠ 13 ∧ letters.getD a.val 0 ≠ 32 ∧ seenB (letters.getD a.val 0) = true := by decide +kernel
theorem six_inj {n m : Nat} (h : six n = six m) : n % 64 = m % 64 := by
  unfold six at h
  have := six_inj0 ⟨n % 64, Nat.mod_lt _ (by decide)⟩ ⟨m % 64, Nat.mod_lt _ (by decide)⟩ h
  injection this
theorem six_ne (n : Nat) : six n ≠ 61 ∧ six n ≠ 13 ∧ six n ≠ 32 ∧ seenB (six n) = true := six_61 ⟨n % 64, Nat.mod_lt _ (by decide)⟩
theorem b_eq {a b : UInt8} (h : a.toNat = b.toNat) : a = b := UInt8.toNat_inj.1 h
theorem b64_inj : ∀ (l m : List UInt8), b64 l = b64 m → l = m
  | [], [], _ => rfl
  | [], [_], h => by simp [b64] at h
  | [], [_, _], h => by simp [b64] at h
  | [], _ :: _ :: _ :: _, h => by simp [b64] at h
  | [_], [], h => by simp [b64] at h
  | [_, _], [], h => by simp [b64] at h
  | _ :: _ :: _ :: _, [], h => by simp [b64] at h
  | [a], [b], h => by
    simp only [b64, List.cons.injEq, and_true] at h
    have h1 := six_inj h.1
    have h2 := six_inj h.2
    have ha := a.toNat_lt
    have hb := b.toNat_lt
    have z : (0 : UInt8).toNat = 0 := rfl
    simp only [bits3, z] at h1 h2
    rw [b_eq (a := a) (b := b) (by omega)]
  | [a], [b, c], h => by
    simp only [b64, List.cons.injEq] at h
    exact absurd h.2.2.1.symm (six_ne _).1
  | [a], b :: c :: d :: r, h => by
    simp only [b64, List.cons.injEq] at h
    exact absurd h.2.2.1.symm (six_ne _).1
  | [b, c], [a], h => by
    simp only [b64, List.cons.injEq] at h
    exact absurd h.2.2.1 (six_ne _).1
  | b :: c :: d :: r, [a], h => by
    simp only [b64, List.cons.injEq] at h
    exact absurd h.2.2.1 (six_ne _).1
  | [a, b], [c, d], h => by
    simp only [b64, List.cons.injEq, and_true] at h
    have h1 := six_inj h.1
    have h2 := six_inj h.2.1
    have h3 := six_inj h.2.2
    have ha := a.toNat_lt
    have hb := b.toNat_lt
    have hc := c.toNat_lt
    have hd := d.toNat_lt
    have z : (0 : UInt8).toNat = 0 := rfl
    simp only [bits3, z] at h1 h2 h3
    rw [b_eq (a := a) (b := c) (by omega), b_eq (a := b) (b := d) (by omega)]
  | [a, b], c :: d :: e :: r, h => by
    simp only [b64, List.cons.injEq] at h
    exact absurd h.2.2.2.1.symm (six_ne _).1
  | c :: d :: e :: r, [a, b], h => by
    simp only [b64, List.cons.injEq] at h
    exact absurd h.2.2.2.1 (six_ne _).1
  | a :: b :: c :: l, d :: e :: f :: m, h => by
    simp only [b64, List.cons.injEq] at h
    have h1 := six_inj h.1
    have h2 := six_inj h.2.1
    have h3 := six_inj h.2.2.1
    have h4 := six_inj h.2.2.2.1
    have ha := a.toNat_lt
    have hb := b.toNat_lt
    have hc := c.toNat_lt
    have hd := d.toNat_lt
    have he := e.toNat_lt
    have hf := f.toNat_lt
    simp only [bits3] at h1 h2 h3 h4
    rw [b_eq (a := a) (b := d) (by omega), b_eq (a := b) (b := e) (by omega), b_eq (a := c) (b := f) (by omega), b64_inj l m h.2.2.2.2]
end Go.Proofs.YtdmaffciijmdcaaGreatDoor.Plain
/-
  Plain: what the document's answer makes of a head, step by step, is what judgeS says.
-/
namespace Go.Proofs.YtdmaffciijmdcaaGreatDoor
namespace Plain
def credOf (u : List UInt8 × List UInt8) : List UInt8 × List UInt8 := (u.1, credS u.1 u.2)
theorem with_someR {acc : List (List UInt8 × List UInt8)} {n s : List UInt8} {t : List (List UInt8 × List UInt8)} (h : withS acc n s = some t) : t = acc ++ [(n, credS n s)] ∧ tenantOk n = true ∧ secretOk s = true ∧ ∀ a ∈ acc, a.1 ≠ n := by
  unfold withS userS at h
  by_cases hx : tenantOk n = true ∧ secretOk s = true
  · rw [if_pos hx] at h
    simp only at h
    by_cases hy : (acc.all fun o => o.1 != n) = true
    · rw [if_pos hy] at h
      cases h
      refine ⟨rfl, hx.1, hx.2, fun a ha => ?_⟩
      have := List.all_eq_true.1 hy a ha
      simpa using this
    · rw [if_neg hy] at h; cases h
  · rw [if_neg hx] at h; cases h
theorem users_ok : ∀ (us : List (List UInt8 × List UInt8)) (k : Nat) (acc tens : List (List UInt8 × List UInt8)), usersFrom k acc us = .ok tens →
    tens = acc ++ us.map credOf ∧ ∀ u ∈ us, tenantOk u.1 = true ∧ secretOk u.2 = true
  | [], k, acc, tens, h => by
    cases h
    exact ⟨by simp, fun u hu => by cases hu⟩
  | u :: us, k, acc, tens, h => by
    unfold usersFrom at h
    cases hw : withS acc u.1 u.2 with
    | none => rw [hw] at h; cases h
    | some t =>
      rw [hw] at h
      obtain ⟨rfl, h1, h2, _⟩ := with_someR hw
      obtain ⟨e, hall⟩ := users_ok us (k + 1) _ tens h
      refine ⟨by rw [e]; simp [credOf], fun v hv => ?_⟩
      rcases List.mem_cons.1 hv with rfl | hv
      · exact ⟨h1, h2⟩
      · exact hall v hv
theorem small_no58 {n : List UInt8} (h : tenantOk n = true) : (58 : UInt8) ∉ n ∧ n ≠ [] ∧ n.length ≤ 8 := by
  unfold tenantOk at h
  simp only [Bool.and_eq_true, decide_eq_true_eq] at h
  refine ⟨fun hm => ?_, fun e => by rw [e] at h; simp at h, h.1.2⟩
  have := List.all_eq_true.1 h.2 58 hm
  exact absurd this (by decide)
theorem cred_name {n s n' s' : List UInt8} (h : credS n s = credS n' s') (hn : tenantOk n = true) (hn' : tenantOk n' = true) : n = n' := by
  have h1 : b64 (n ++ [58] ++ s) = b64 (n' ++ [58] ++ s') := List.append_cancel_left h
  have h2 := b64_inj _ _ h1
  have a1 : cutAt 58 (n ++ [58] ++ s) = some (n, s) := cutAt_some.2 ⟨by simp, (small_no58 hn).1⟩
  have a2 : cutAt 58 (n' ++ [58] ++ s') = some (n', s') := cutAt_some.2 ⟨by simp, (small_no58 hn').1⟩
  rw [h2, a2] at a1
  injection a1 with a1
  injection a1 with a1 _
  exact a1.symm
/-- The last user whose credentials these are. -/
def foundR (us : List (List UInt8 × List UInt8)) (c : List UInt8) : List UInt8 := us.foldl (fun t u => if c = credS u.1 u.2 then u.1 else t) []
theorem found_step (us : List (List UInt8 × List UInt8)) (c : List UInt8) {k : Nat} {u : List UInt8 × List UInt8} (h : us[k]? = some u) : foundR (us.take (k + 1)) c = if c = credS u.1 u.2 then u.1 else foundR (us.take k) c := by
  obtain ⟨hlt, rfl⟩ := List.getElem?_eq_some_iff.1 h
  unfold foundR
  rw [List.take_succ_eq_append_getElem hlt, List.foldl_append]
  rfl
theorem fold_found (c n : List UInt8) : ∀ (us : List (List UInt8 × List UInt8)) (i : List UInt8), (∀ u ∈ us, c = credS u.1 u.2 → u.1 = n) → (us.foldl (fun t u => if c = credS u.1 u.2 then u.1 else t) i = i ∧ ∀ u ∈ us, c ≠ credS u.1 u.2) ∨ us.foldl (fun t u => if c = credS u.1 u.2 then u.1 else t) i = n
  | [], i, _ => .inl ⟨rfl, fun u hu => by cases hu⟩
  | u :: us, i, h => by
    rw [List.foldl_cons]
    by_cases e : c = credS u.1 u.2
    · rw [if_pos e]
      have hn := h u (by simp) e
      rcases fold_found c n us u.1 (fun v hv => h v (by simp [hv])) with ⟨h1, _⟩ | h1
      · exact .inr (h1.trans hn)
      · exact .inr h1
    · rw [if_neg e]
      rcases fold_found c n us i (fun v hv => h v (by simp [hv])) with ⟨h1, h2⟩ | h1
      · refine .inl ⟨h1, fun v hv => ?_⟩
        rcases List.mem_cons.1 hv with rfl | hv
        · exact e
        · exact h2 v hv
      · exact .inr h1
theorem found_same {us tens : List (List UInt8 × List UInt8)} (h : usersFrom 0 [] us = .ok tens) (c : List UInt8) : (byS tens c = none ∧ foundR us c = []) ∨ ∃ t, byS tens c = some t ∧ foundR us c = t ∧ tenantOk t = true := by
  obtain ⟨e, hall⟩ := users_ok us 0 [] tens h
  rw [List.nil_append] at e
  unfold byS foundR
  cases hf : tens.find? (fun t => t.2 == c) with
  | none =>
    refine .inl ⟨rfl, ?_⟩
    have hno : ∀ u ∈ us, c ≠ credS u.1 u.2 := fun u hu hc => by
      have := List.find?_eq_none.1 hf (credOf u) (by rw [e]; exact List.mem_map_of_mem hu)
      simp [credOf, hc] at this
    rcases fold_found c [] us [] (fun u hu hc => absurd hc (hno u hu)) with ⟨h1, _⟩ | h1 <;> exact h1
  | some t =>
    have hm := List.mem_of_find?_eq_some hf
    have hp := List.find?_some hf
    rw [e] at hm
    obtain ⟨u, hu, rfl⟩ := List.mem_map.1 hm
    have hc : credS u.1 u.2 = c := by simpa [credOf] using hp
    refine .inr ⟨u.1, rfl, ?_, (hall u hu).1⟩
    rcases fold_found c u.1 us [] (fun v hv hcv => cred_name (hcv.symm.trans hc.symm) (hall v hv).1 (hall u hu).1) with ⟨_, h2⟩ | h1
    · exact absurd hc.symm (h2 u hu)
    · exact h1
theorem lowB_lowB (c : UInt8) : lowB (lowB c) = lowB c := by
  by_cases h : 65 ≤ c.toNat ∧ c.toNat ≤ 90
  · have h1 := lowB_up h.1 h.2
    exact lowB_same (by omega)
  · rw [lowB_same h, lowB_same h]
theorem lower_lower (l : List UInt8) : lower (lower l) = lower l := by
  unfold lower
  rw [List.map_map]
  apply List.map_congr_left
  intro c _
  exact lowB_lowB c
/-- A target by its parts. -/
theorem target_parts (t : List UInt8) : targetS t = match parts 58 t with
    | [h, p] => if hostR (lower h) = true then match number p 65535 with
      | none => none
      | some n => some (lower h, n)
      else none
    | _ => none := by
  unfold targetS
  cases hc : cutAt 58 t with
  | none =>
    rw [parts_cut, hc]
  | some x =>
    obtain ⟨h, p⟩ := x
    by_cases hp : (58 : UInt8) ∈ p
    · have hn : number p 65535 = none := by
        cases hx : number p 65535 with
        | none => rfl
        | some n =>
          exfalso
          unfold number at hx
          split at hx
          · rename_i hy
            have := hy.1
            unfold numForm at this
            simp only [Bool.and_eq_true] at this
            have hall : allB fig p = true := by first | exact this.1 | exact this.2 | exact this.1.1 | exact this.1.2 | exact this.2.1 | exact this.2.2
            exact absurd (List.all_eq_true.1 hall 58 hp) (by decide)
          · cases hx
      have hl := cut_moreR hc hp
      simp only [hn]
      generalize parts 58 t = l at *
      rcases l with _ | ⟨a, _ | ⟨b, _ | ⟨c, r⟩⟩⟩
      · cases readHost h <;> rfl
      · cases readHost h <;> rfl
      · exact absurd rfl hl
      · cases readHost h <;> rfl
    · rw [cut_two hc hp]
      simp only
      rcases host_cases h with ⟨h1, h2⟩ | ⟨h1, h2, _⟩ | ⟨q, _, h1, h2, _⟩
      · rw [h1, h2]; rfl
      · rw [h1, h2]; rfl
      · rw [h1, h2]; rfl
theorem splitCR_len : ∀ l : List UInt8, (splitCR l).length ≤ l.length + 1
  | [] => by simp [splitCR]
  | [a] => by simp [splitCR]
  | a :: b :: t => by
    have i1 := splitCR_len t
    have i2 := splitCR_len (b :: t)
    unfold splitCR
    split
    · simp only [List.length_cons]; omega
    · cases hs : splitCR (b :: t) with
      | nil => exact absurd hs (splitCR_ne _)
      | cons p ps =>
        rw [hs] at i2
        simp only [consHead, List.length_cons] at i2 ⊢
        omega
theorem splitCR_part : ∀ (l p : List UInt8), p ∈ splitCR l → p.length ≤ l.length
  | [], p, h => by simp [splitCR] at h; rw [h]; exact Nat.le_refl _
  | [a], p, h => by simp [splitCR] at h; rw [h]; exact Nat.le_refl _
  | a :: b :: t, p, h => by
    unfold splitCR at h
    split at h
    · rcases List.mem_cons.1 h with rfl | h
      · simp
      · have := splitCR_part t p h
        simp only [List.length_cons]; omega
    · cases hs : splitCR (b :: t) with
      | nil => exact absurd hs (splitCR_ne _)
      | cons q qs =>
        rw [hs] at h
        simp only [consHead] at h
        rcases List.mem_cons.1 h with rfl | h
        · have := splitCR_part (b :: t) q (by rw [hs]; simp)
          simp only [List.length_cons] at this ⊢; omega
        · have := splitCR_part (b :: t) p (by rw [hs]; simp [h])
          simp only [List.length_cons] at this ⊢; omega
/-- A head that has its end, read by its lines. -/
theorem head_lines (X : List UInt8) : readHead (X ++ endB) = match splitCR X with
    | [] => none
    | x :: xs => match firstS x with
      | none => none
      | some (m, t) => match fieldsS xs with
        | none => none
        | some fs => some ⟨m, t, fs⟩ := by
  have hsuf : Lib.hasSuffix (X ++ endB) endB = true := by
    unfold Lib.hasSuffix
    exact List.isSuffixOf_iff_suffix.2 (List.suffix_append _ _)
  have hbody : Lib.trimSuffix (X ++ endB) endB = X := by
    unfold Lib.trimSuffix
    rw [if_pos hsuf]
    simp
  unfold readHead headLines
  rw [if_pos hsuf, hbody, split_same]
  rcases splitCR X with _ | ⟨x, xs⟩
  · rfl
  · dsimp only
    rcases firstS x with _ | ⟨m, t⟩
    · rfl
    · dsimp only
      cases fieldsS xs <;> rfl
/-- The values of the fields by which a client says who it is. -/
def saidOf (fs : List (List UInt8 × List UInt8)) : List (List UInt8) := (fs.filter fun f => f.1 == proxyB).map (·.2)
theorem said_only (fs : List (List UInt8 × List UInt8)) : onlyS fs proxyB = match saidOf fs with
    | [c] => some c
    | _ => none := by
  unfold onlyS saidOf
  generalize (fs.filter fun f => f.1 == proxyB) = l
  rcases l with _ | ⟨a, _ | ⟨b, t⟩⟩ <;> rfl
theorem fields_snoc {ls : List (List UInt8)} {fs : List (List UInt8 × List UInt8)} {l : List UInt8} (h : fieldsS ls = some fs) : fieldsS (ls ++ [l]) = match fieldS l with
    | none => none
    | some f => some (fs ++ [f]) := by
  induction ls generalizing fs with
  | nil =>
    cases h
    rw [List.nil_append, fieldsS]
    cases fieldS l <;> rfl
  | cons a ls ih =>
    rw [fieldsS] at h
    cases ha : fieldS a with
    | none => rw [ha] at h; cases h
    | some f =>
      rw [ha] at h
      simp only at h
      cases hr : fieldsS ls with
      | none => rw [hr] at h; cases h
      | some gs =>
        rw [hr] at h
        cases h
        rw [List.cons_append, fieldsS, ha, ih hr]
        cases fieldS l <;> rfl
theorem fields_none {ls : List (List UInt8)} {l : List UInt8} (hm : l ∈ ls) (h : fieldS l = none) : fieldsS ls = none := by
  induction ls with
  | nil => cases hm
  | cons a ls ih =>
    rw [fieldsS]
    rcases List.mem_cons.1 hm with rfl | hm
    · rw [h]
    · rw [ih hm]
      cases fieldS a <;> rfl
end Plain
end Go.Proofs.YtdmaffciijmdcaaGreatDoor

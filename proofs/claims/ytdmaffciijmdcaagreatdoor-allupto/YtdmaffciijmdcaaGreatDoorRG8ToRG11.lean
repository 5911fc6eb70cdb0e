/-
  The document's answer: a gateway in memory; events; find.
-/
import Derived.Test.YtdmaffciijmdcaaGreatDoorRG7C
namespace Go.Proofs.YtdmaffciijmdcaaGreatDoor
open Go.RowKit Plain

def connOf (c : ConnS) : List Value := [.int .i64 (c.num : Int), str c.wait, .int .i64 (c.stage : Int), .int .i64 c.silent, .bool c.noMore, .bool c.hostEnd]
def connVals (l : List ConnS) : List Value := l.flatMap connOf
theorem connVals_cons (c : ConnS) (l : List ConnS) : connVals (c :: l) = connOf c ++ connVals l := rfl
theorem connVals_append (a b : List ConnS) : connVals (a ++ b) = connVals a ++ connVals b := by simp [connVals]
theorem connVals_len (l : List ConnS) : (connVals l).length = l.length * 6 := by
  induction l with
  | nil => rfl
  | cons c l ih =>
    rw [connVals_cons, List.length_append, ih, List.length_cons]
    show 6 + _ = _
    omega
theorem connVals_get : ∀ (l : List ConnS) (i : Nat) (c : ConnS) (j : Nat), l[i]? = some c → j < 6 → (connVals l)[i * 6 + j]? = (connOf c)[j]?
  | [], i, c, j, h, _ => by simp at h
  | d :: l, 0, c, j, h, hj => by
    cases h
    rw [connVals_cons, List.getElem?_append_left (by show _ < 6; omega)]
    simp
  | d :: l, i + 1, c, j, h, hj => by
    rw [connVals_cons, List.getElem?_append_right (by show 6 ≤ _; omega)]
    rw [show (i + 1) * 6 + j - (connOf d).length = i * 6 + j by show _ - 6 = _; omega]
    exact connVals_get l i c j (by simpa using h) hj
theorem connVals_set : ∀ (l : List ConnS) (i : Nat) (c c' : ConnS) (j : Nat) (u : Value), l[i]? = some c → j < 6 → connOf c' = (connOf c).set j u → (connVals l).set (i * 6 + j) u = connVals (l.set i c')
  | [], i, c, c', j, u, h, _, _ => by simp at h
  | d :: l, 0, c, c', j, u, h, hj, e => by
    cases h
    rw [connVals_cons, List.set_cons_zero, connVals_cons, e, Nat.zero_mul, Nat.zero_add, List.set_append_left _ _ (by show _ < 6; omega)]
  | d :: l, i + 1, c, c', j, u, h, hj, e => by
    rw [connVals_cons, List.set_cons_succ, connVals_cons, List.set_append_right _ _ (by show 6 ≤ _; omega)]
    rw [show (i + 1) * 6 + j - (connOf d).length = i * 6 + j by show _ - 6 = _; omega]
    rw [connVals_set l i c c' j u (by simpa using h) hj e]

/-- A row that is owned, read at any place. -/
theorem owned_at {w : World} {base : Nat} {e : TypeId} {g n cap size : Nat} {xs : List Value} (h : w.ownsRow base e size (.slice (some ⟨g, 0, none⟩) n cap) n xs) (p : Nat) (u : Value) (hp : xs[p]? = some u) : w.cell? ⟨g, p, none⟩ = some u := by
  obtain ⟨h1, h2⟩ := h
  rcases h2 with ⟨h2, _⟩ | ⟨g', cap', cur, hv, _, hg, _, _, _, ht⟩
  · cases h2
  · cases hv
    have hin : p < n * size := by have := (List.getElem?_eq_some_iff.1 hp).1; omega
    simp only [World.cell?, hg]
    rw [← ht, List.getElem?_take_of_lt hin] at hp
    simpa using hp
theorem owned_fz {w : World} {base : Nat} {e : TypeId} {g n cap size : Nat} {xs : List Value} (h : w.ownsRow base e size (.slice (some ⟨g, 0, none⟩) n cap) n xs) (p : Nat) : w.frozen? ⟨g, p, none⟩ = false := by
  rcases h.2 with ⟨h2, _⟩ | ⟨g', cap', cur, hv, _, hg, _⟩
  · cases h2
  · cases hv
    simp [World.frozen?, hg]
/-- A row that is owned, with one cell set. -/
theorem owned_set {w : World} {base : Nat} {e : TypeId} {g n cap size : Nat} {xs : List Value} (h : w.ownsRow base e size (.slice (some ⟨g, 0, none⟩) n cap) n xs) (p : Nat) (u : Value) : (w.setCell ⟨g, p, none⟩ u).ownsRow base e size (.slice (some ⟨g, 0, none⟩) n cap) n (xs.set p u) := by
  obtain ⟨h1, h2⟩ := h
  rcases h2 with ⟨h2, _⟩ | ⟨g', cap', cur, hv, hb, hg, hn, hc, hs, ht⟩
  · cases h2
  · cases hv
    refine ⟨by rw [List.length_set]; exact h1, .inr ⟨g, cap, cur.setIfInBounds p u, rfl, hb, by simp [World.setCell, Array.getElem?_modify, hg], hn, hc, by simp [hs], ?_⟩⟩
    rw [Array.toList_setIfInBounds, List.take_set, ht]
theorem owned_form {w : World} {base : Nat} {e : TypeId} {v : Value} {n size : Nat} {xs : List Value} (h : w.ownsRow base e size v n xs) (hn : 0 < n) : ∃ g cap, v = .slice (some ⟨g, 0, none⟩) n cap ∧ base ≤ g ∧ g < w.heap.size := by
  rcases h.2 with ⟨_, h2⟩ | ⟨g, cap, cur, hv, hb, hg, _⟩
  · omega
  · exact ⟨g, cap, hv, hb, (Array.getElem?_eq_some_iff.1 hg).1⟩

/-- The document's gateway in memory. -/
structure RGwRep (r : Rl) (B : Nat) (w : World) (gb : Nat) (g : GateS) : Prop where
  lt : ∀ b, r b ≠ none → b < w.heap.size
  low : ∀ b, r b ≠ none → B ≤ b
  role : r gb = some .gw
  rules : ∃ rv rows, w.cell? ⟨gb, 0, none⟩ = some rv ∧ RowsAt (fun b => r b = some .stat) w rv rows ∧ AllRows rows g.rules ∧ g.rules.length ≤ 40 ∧ ∀ row ∈ rows, ∀ s ∈ row, s.length ≤ 4000
  users : ∃ uv us, w.cell? ⟨gb, 1, none⟩ = some uv ∧ PairsAt (fun b => r b = some .stat) w uv us ∧ usersFrom 0 [] us = .ok g.tens ∧ us.length ≤ 8
  min : w.cell? ⟨gb, 2, none⟩ = some (.int .i64 g.minute)
  minB : 0 ≤ g.minute ∧ g.minute < 10080
  con : ∃ cv, w.cell? ⟨gb, 3, none⟩ = some cv ∧ w.ownsRow B 129 6 cv g.conns.length (connVals g.conns) ∧ ∀ k, cv.ownBlock = some k → r k = some .row
  last : w.cell? ⟨gb, 4, none⟩ = some (.int .i64 (g.last : Int))
  fz : ∀ o, w.frozen? ⟨gb, o, none⟩ = false
theorem RGwRep.same {r : Rl} {B : Nat} {w w' : World} {gb : Nat} {g : GateS} (h : RGwRep r B w gb g) (hs : ∀ b, r b ≠ none → SameAt w w' b) (hz : w.heap.size ≤ w'.heap.size) : RGwRep r B w' gb g := by
  have S : ∀ b k, r b = some k → SameAt w w' b := fun b k hb => hs b (by rw [hb]; simp)
  obtain ⟨h1, h2, h3, ⟨rv, rows, h4, h5, h6⟩, ⟨uv, us, h7, h8, h9⟩, h10, h11, ⟨cv, h12, h13, h14⟩, h15, h16⟩ := h
  have sg := S gb _ h3
  have ks : Keeps (fun b => r b = some .stat) (fun b => r b = some .stat) w w' := fun b hb => ⟨hb, fun o => (S b _ hb).cell o⟩
  exact ⟨fun b hb => Nat.lt_of_lt_of_le (h1 b hb) hz, h2, h3, ⟨rv, rows, by rw [sg.cell]; exact h4, h5.keeps ks, h6⟩, ⟨uv, us, by rw [sg.cell]; exact h7, h8.keeps ks, h9⟩, by rw [sg.cell]; exact h10, h11, ⟨cv, by rw [sg.cell]; exact h12, owns_same h13 fun k hk => S k _ (h14 k hk), h14⟩, by rw [sg.cell]; exact h15, fun o => by rw [sg.frozen]; exact h16 o⟩
theorem RGwRep.stays {r : Rl} {B : Nat} {w w' : World} {gb : Nat} {g : GateS} (h : RGwRep r B w gb g) (q : Q w w') : RGwRep r B w' gb g := h.same (fun b hb => q.sameAt (h.lt b hb)) q.size
theorem RGwRep.read {r : Rl} {B : Nat} {w : World} {gb : Nat} {g : GateS} (h : RGwRep r B w gb g) : RGRead w gb g.rules g.tens g.minute := by
  obtain ⟨rv, rows, h4, h5, h6⟩ := h.rules
  obtain ⟨uv, us, h7, h8, h9⟩ := h.users
  have ks : Keeps (fun b => r b = some .stat) (fun b => b < w.heap.size) w w := fun b hb => ⟨h.lt b (by rw [hb]; simp), fun _ => rfl⟩
  exact ⟨⟨rv, rows, h4, h5.keeps ks, h6⟩, ⟨uv, us, h7, h8.keeps ks, h9⟩, h.min, h.minB⟩
theorem RGwRep.inB {r : Rl} {B : Nat} {w : World} {gb : Nat} {g : GateS} (h : RGwRep r B w gb g) : B ≤ w.heap.size ∧ gb < w.heap.size := by
  have h1 := h.low gb (by rw [h.role]; simp)
  have h2 := h.lt gb (by rw [h.role]; simp)
  exact ⟨by omega, h2⟩
structure RGwStep (r : Rl) (B : Nat) (w : World) (gb : Nat) (r' : Rl) (w' : World) (g' : GateS) : Prop where
  rep : RGwRep r' B w' gb g'
  fr : Fr r w w'
  gr : Grows r w r'
theorem RGwStep.trans {r r1 r2 : Rl} {B : Nat} {w w1 w2 : World} {gb : Nat} {g1 g2 : GateS} (h : RGwStep r B w gb r1 w1 g1) (k : RGwStep r1 B w1 gb r2 w2 g2) : RGwStep r B w gb r2 w2 g2 :=
  ⟨k.rep, h.fr.trans h.gr k.fr, h.gr.trans h.fr.size k.gr⟩
theorem RGwStep.here {r : Rl} {B : Nat} {w w' : World} {gb : Nat} {g : GateS} (h : RGwRep r B w gb g) (q : Q w w') : RGwStep r B w gb r w' g := ⟨h.stays q, Fr.ofQ q, Grows.refl _ _⟩
theorem RGwStep.more {r r1 : Rl} {B : Nat} {w w1 w2 : World} {gb : Nat} {g1 : GateS} (h : RGwStep r B w gb r1 w1 g1) (q : Q w1 w2) : RGwStep r B w gb r1 w2 g1 := h.trans (RGwStep.here h.rep q)
theorem rsized {r : Rl} {B : Nat} {w : World} {gb : Nat} {g : GateS} (h : RGwRep r B w gb g) {k : Nat} (hk : w.heap.size ≤ k) : r k = none := by
  cases hr : r k with
  | none => rfl
  | some x =>
    have := h.lt k (by rw [hr]; simp)
    omega

/-- A cell of one connection is another one now. -/
theorem RGwRep.conn {r : Rl} {B : Nat} {w : World} {gb : Nat} {g : GateS} (h : RGwRep r B w gb g) {cg cap i j : Nat} {c c' : ConnS} {u : Value} (hc : w.cell? ⟨gb, 3, none⟩ = some (.slice (some ⟨cg, 0, none⟩) g.conns.length cap)) (hi : g.conns[i]? = some c) (hj : j < 6) (he : connOf c' = (connOf c).set j u) :
    RGwStep r B w gb r (w.setCell ⟨cg, i * 6 + j, none⟩ u) (g.upd i c') ∧ (w.setCell ⟨cg, i * 6 + j, none⟩ u).cell? ⟨gb, 3, none⟩ = some (.slice (some ⟨cg, 0, none⟩) (g.upd i c').conns.length cap) := by
  obtain ⟨cv, h12, h13, h14⟩ := h.con
  rw [hc] at h12
  cases h12
  have hrow : r cg = some .row := h14 cg rfl
  have hne : cg ≠ gb := fun e => by rw [e, h.role] at hrow; cases hrow
  have S : ∀ b k, r b = some k → k ≠ .row → SameAt w (w.setCell ⟨cg, i * 6 + j, none⟩ u) b := fun b k hb hk => set_same_at fun e => by
    rw [e, hrow] at hb
    cases hb
    exact hk rfl
  have sg := S gb _ h.role (by simp)
  have ks : Keeps (fun b => r b = some .stat) (fun b => r b = some .stat) w (w.setCell ⟨cg, i * 6 + j, none⟩ u) := fun b hb => ⟨hb, fun o => (S b _ hb (by simp)).cell o⟩
  have hlen : (g.upd i c').conns.length = g.conns.length := by simp [GateS.upd]
  obtain ⟨rv, rows, h4, h5, h6⟩ := h.rules
  obtain ⟨uv, us, h7, h8, h9⟩ := h.users
  refine ⟨⟨⟨fun b hb => by simpa using h.lt b hb, h.low, h.role, ⟨rv, rows, by rw [sg.cell]; exact h4, h5.keeps ks, h6⟩, ⟨uv, us, by rw [sg.cell]; exact h7, h8.keeps ks, h9⟩, by rw [sg.cell]; exact h.min, h.minB, ⟨_, by rw [sg.cell]; exact hc, ?_, h14⟩, by rw [sg.cell]; exact h.last, fun o => by rw [sg.frozen]; exact h.fz o⟩, Fr.set r w cg _ u (by rw [hrow]; simp), Grows.refl _ _⟩, by rw [sg.cell, hlen]; exact hc⟩
  have := owned_set h13 (i * 6 + j) u
  rw [connVals_set g.conns i c c' j u hi hj he] at this
  rw [hlen]
  exact this

set_option maxRecDepth 100000 in
set_option maxHeartbeats 400000 in
theorem revent_any (kind num : Int) (s : ByteArray) (w : World) :
    Calls Tryz.prog 103 #[.int .i64 kind, .int .i64 num, .string s] w fun e w' => e = .returned (.agg #[.int .i64 kind, .int .i64 num, .string s, .int .i64 0]) ∧ Q w w' := by
  go_enter Tryz.func103, Tryz.ntmps103
  go_wp2_with fail
  go_returns
  exact ⟨rfl, (Q.refl _).alloc _⟩

set_option maxRecDepth 100000 in
set_option maxHeartbeats 800000 in
theorem rsome_any (kind num : Int) (s : List UInt8) (w : World) :
    Calls Tryz.prog 78 #[.int .i64 kind, .int .i64 num, .string ⟨s.toArray⟩] w fun e w' => EvsPost (sendS kind num s) w e w' := by
  have HE := fun x => show Hid _ from revent_any kind num ⟨s.toArray⟩ x
  cases he : s.isEmpty
  · have HS : Hid (sendS kind num s = [⟨kind, num, s, 0⟩]) := by
      show _ = _
      unfold sendS; rw [he]; rfl
    go_enter Tryz.func78, Tryz.ntmps78
    go_wp2_with fail
    refine Calls.mono (Hid.out (HE _)) ?_
    rintro e w1 ⟨rfl, hq1⟩
    clear HE
    go_wp2_with fail
    go_ret
    refine ⟨hq1.alloc _, _, rfl, ?_⟩
    rw [HS.out]
    exact own_new _ _ w1.heap.size rfl (evOf ⟨kind, num, s, 0⟩) _ rfl hq1.size
  · have HS : Hid (sendS kind num s = []) := by
      show _ = _
      unfold sendS; rw [he]; rfl
    go_enter Tryz.func78, Tryz.ntmps78
    go_wp2_with fail
    go_ret
    refine ⟨Q.refl _, _, rfl, ?_⟩
    rw [HS.out]
    exact ⟨rfl, .inl ⟨rfl, rfl⟩⟩

def RFindPost (cs : List ConnS) (n : Int) (w : World) (e : Ending) (w' : World) : Prop :=
  w' = w ∧ ((∃ (i : Nat) (c : ConnS), cs[i]? = some c ∧ (c.num : Int) = n ∧ e = .returned (.int .i64 (i : Int))) ∨ ((∀ c ∈ cs, (c.num : Int) ≠ n) ∧ e = .returned (.int .i64 (-1))))

set_option maxRecDepth 100000 in
set_option maxHeartbeats 800000 in
theorem rfind_any {r : Rl} {B : Nat} {w : World} {gb : Nat} {g : GateS} (h : RGwRep r B w gb g) (hf : g.conns.length ≤ 8) (n : Int) :
    Calls Tryz.prog 77 #[ptr gb, .int .i64 n] w fun e w' => RFindPost g.conns n w e w' := by
  obtain ⟨cv, h1, h2, _⟩ := h.con
  have HO := show Hid _ from h2
  obtain ⟨co, cc, rfl⟩ := slice_form h2
  clear h h2
  obtain ⟨cn, hcn⟩ : ∃ k, k = g.conns.length := ⟨_, rfl⟩
  have HCN := show Hid _ from hcn
  rw [← hcn] at h1 HO hf
  clear hcn
  go_enter Tryz.func77, Tryz.ntmps77
  go_wp2_with fail
  go_loopw [5] (fun i wr => ∃ k : Nat, k ≤ cn ∧ i = .int .i64 (k : Int) ∧ wr = w ∧ Hid (∀ (j : Nat) (c : ConnS), j < k → g.conns[j]? = some c → (c.num : Int) ≠ n)) (fun i _ => cn - (intOf i).toNat)
  case atStart => exact ⟨0, Nat.zero_le _, rfl, rfl, fun j c hj => absurd hj (Nat.not_lt_zero _)⟩
  case round =>
    obtain ⟨k, hk, rfl, hwr, hno⟩ := hrel
    rw [hwr]
    clear hwr
    by_cases hlt : k < cn
    · obtain ⟨c, hc⟩ : ∃ c, g.conns[k]? = some c := ⟨_, List.getElem?_eq_getElem (by rw [← HCN.out]; exact hlt)⟩
      obtain ⟨cg, cap, hv, _, _⟩ := owned_form HO.out (by omega)
      obtain ⟨rfl, rfl⟩ : co = some ⟨cg, 0, none⟩ ∧ cc = cap := by
        injection hv with e1 _ e3
        exact ⟨e1, e3⟩
      have cell0 : w.cell? ⟨cg, k * 6, none⟩ = some (.int .i64 (c.num : Int)) := owned_at HO.out (k * 6) _ (connVals_get g.conns k c 0 hc (by decide))
      clear hv
      by_cases hn : (c.num : Int) = n
      · have HE : Hid (g.conns[k]? = some c ∧ (c.num : Int) = n) := ⟨hc, hn⟩
        rw [hn] at cell0
        clear hc hn
        go_wp2_with fail
        go_ret
        exact ⟨rfl, .inl ⟨k, c, HE.out.1, HE.out.2, rfl⟩⟩
      · have dn : ((c.num : Int) == n) = false := beq_eq_false_iff_ne.2 hn
        have HN : Hid (∀ (j : Nat) (d : ConnS), j < k + 1 → g.conns[j]? = some d → (d.num : Int) ≠ n) := fun j d hj hd => by
          by_cases e : j = k
          · subst e
            rw [hc] at hd
            cases hd
            exact hn
          · exact hno.out j d (by omega) hd
        obtain ⟨cm, hcm⟩ : ∃ m : Int, m = (c.num : Int) := ⟨_, rfl⟩
        rw [← hcm] at cell0 dn
        clear hc hn hcm
        go_wp2_with fail
        exact ⟨⟨k + 1, by omega, by go_num, by trivial, HN⟩, by simp [intOf]; omega⟩
    · have HN : Hid (∀ c ∈ g.conns, (c.num : Int) ≠ n) := fun c hc => by
        obtain ⟨j, hj⟩ := List.getElem?_of_mem hc
        have := (List.getElem?_eq_some_iff.1 hj).1
        exact hno.out j c (by have := HCN.out; omega) hj
      go_wp2_with fail
      go_ret
      exact ⟨rfl, .inr ⟨HN.out, rfl⟩⟩
end Go.Proofs.YtdmaffciijmdcaaGreatDoor
/-
  The document's answer: drop, refuse.
-/
namespace Go.Proofs.YtdmaffciijmdcaaGreatDoor
open Go.RowKit Plain

theorem connOf_one (c : ConnS) : ∀ u ∈ connOf c, u.oneCell' = true := by
  intro u hu
  simp only [connOf, List.mem_cons, List.not_mem_nil, or_false] at hu
  rcases hu with rfl | rfl | rfl | rfl | rfl | rfl <;> rfl

/-- The connections of a gateway are others now: a row in new memory. -/
theorem RGwRep.conns {r : Rl} {B : Nat} {w w1 : World} {gb : Nat} {g : GateS} (h : RGwRep r B w gb g) (q : Q w w1) (lv : Value) (cs : List ConnS) (hown : w1.ownsRow w.heap.size 129 6 lv cs.length (connVals cs)) :
    ∃ r', RGwStep r B w gb r' (w1.setCell ⟨gb, 3, none⟩ lv) { g with conns := cs } ∧ ∀ b, r' b ≠ none → r b ≠ none ∨ lv.ownBlock = some b := by
  have hk := owns_lt hown
  have hgb := h.inB
  have hgne : ∀ k, lv.ownBlock = some k → k ≠ gb := fun k hx e => by have := (hk k hx).1; omega
  have hne2 : ∀ k, lv.ownBlock = some k → r k = none := fun k hx => rsized h (hk k hx).1
  obtain ⟨rv, rows, h4, h5, h6⟩ := h.rules
  obtain ⟨uv, us, h7, h8, h9⟩ := h.users
  obtain ⟨cv, h12, _, _⟩ := h.con
  have hr' : ∀ b x, r b = some x → (if lv.ownBlock = some b then some Kd.row else r b) = some x := fun b x hb => by
    rw [if_neg]
    · exact hb
    · intro e
      rw [hne2 b e] at hb
      cases hb
  have sm : ∀ b, b < w.heap.size → b ≠ gb → SameAt w (w1.setCell ⟨gb, 3, none⟩ lv) b := fun b hb hne => (set_same_at hne).trans (q.sameAt hb)
  have cg : ∀ o, o ≠ 3 → (w1.setCell ⟨gb, 3, none⟩ lv).cell? ⟨gb, o, none⟩ = w.cell? ⟨gb, o, none⟩ := fun o ho => by
    rw [set_other (fun e => by injection e with _ e2; exact ho e2.symm)]
    exact q.cells.1 gb o hgb.2
  have ks : Keeps (fun b => r b = some .stat) (fun b => (if lv.ownBlock = some b then some Kd.row else r b) = some .stat) w (w1.setCell ⟨gb, 3, none⟩ lv) := fun b hb =>
    ⟨hr' b _ hb, fun o => (sm b (h.lt b (by rw [hb]; simp)) (fun e => by rw [e, h.role] at hb; cases hb)).cell o⟩
  refine ⟨fun b => if lv.ownBlock = some b then some .row else r b, ⟨⟨fun b hb => ?_, fun b hb => ?_, hr' gb _ h.role, ⟨rv, rows, by rw [cg 0 (by decide)]; exact h4, h5.keeps ks, h6⟩, ⟨uv, us, by rw [cg 1 (by decide)]; exact h7, h8.keeps ks, h9⟩, by rw [cg 2 (by decide)]; exact h.min, h.minB, ⟨lv, ?_, ?_, ?_⟩, by rw [cg 4 (by decide)]; exact h.last, fun o => ?_⟩, ⟨q.os, q.tape, q.output, by have := q.size; simp; omega, fun k hk2 hr => sm k hk2 (fun e => by rw [e, h.role] at hr; cases hr)⟩, fun b hb => ?_, fun b hb => ?_⟩, fun b hb => ?_⟩
  · by_cases e : lv.ownBlock = some b
    · have := (hk b e).2; simp; omega
    · have hb' : r b ≠ none := by simpa [e] using hb
      have := h.lt b hb'; have := q.size; simp; omega
  · by_cases e : lv.ownBlock = some b
    · have := (hk b e).1; omega
    · exact h.low b (by simpa [e] using hb)
  · exact set_same (u := cv) (q.cell h12)
  · have h1 : w1.ownsRow B 129 6 lv cs.length (connVals cs) := by
      refine ⟨hown.1, ?_⟩
      rcases hown.2 with hn | ⟨g', cap, cur, hv, hb, t⟩
      · exact .inl hn
      · exact .inr ⟨g', cap, cur, hv, by omega, t⟩
    exact owns_same h1 fun k hx => set_same_at (hgne k hx)
  · intro k hx
    show (if lv.ownBlock = some k then some Kd.row else r k) = _
    rw [if_pos hx]
  · rw [World.frozen?_setCell, q.cells.2 gb o hgb.2]
    exact h.fz o
  · by_cases e : lv.ownBlock = some b
    · exact .inr (hk b e).1
    · exact .inl (by simpa [e] using hb)
  · by_cases e : lv.ownBlock = some b
    · simp [e]
    · simpa [e] using hb
  · by_cases e : lv.ownBlock = some b
    · exact .inr e
    · exact .inl (by simpa [e] using hb)

set_option maxRecDepth 100000 in
set_option maxHeartbeats 1600000 in
theorem rdrop_any {r : Rl} {B : Nat} {w : World} {gb : Nat} {g : GateS} (h : RGwRep r B w gb g) (hf : g.conns.length ≤ 8) (n : Nat) :
    Calls Tryz.prog 104 #[ptr gb, .int .i64 (n : Int)] w fun e w' => e = .returned (.tuple #[]) ∧ ∃ r', RGwStep r B w gb r' w' (g.drop n) ∧ ∀ b, r' b ≠ none → b < w'.heap.size := by
  have HR : Hid (RGwRep r B w gb g) := h
  obtain ⟨cv, h1, h2, _⟩ := h.con
  have HO := show Hid _ from h2
  obtain ⟨co, cc, rfl⟩ := slice_form h2
  have hfz := h.fz 3
  have hgb := h.inB.2
  clear h h2
  obtain ⟨cn, hcn⟩ : ∃ k, k = g.conns.length := ⟨_, rfl⟩
  have HCN := show Hid _ from hcn
  rw [← hcn] at h1 HO hf
  clear hcn
  go_enter Tryz.func104, Tryz.ntmps104
  go_wp2_with fail
  go_loopw [4, 5] (fun lv i wr => ∃ k : Nat, k ≤ cn ∧ i = .int .i64 (k : Int) ∧ Hid (Q w wr) ∧ Hid (wr.ownsRow w.heap.size 129 6 lv ((g.conns.take k).filter fun d => d.num != n).length (connVals ((g.conns.take k).filter fun d => d.num != n)))) (fun _ i _ => cn - (intOf i).toNat)
  case atStart => exact ⟨0, Nat.zero_le _, rfl, Q.refl _, ⟨rfl, .inl ⟨rfl, rfl⟩⟩⟩
  case round =>
    obtain ⟨k, hk, rfl, hq, hown⟩ := hrel
    have x1 := hq.out.cell h1
    by_cases hlt : k < cn
    · obtain ⟨c, hc⟩ : ∃ c, g.conns[k]? = some c := ⟨_, List.getElem?_eq_getElem (by rw [← HCN.out]; exact hlt)⟩
      obtain ⟨cg, cap, hv, _, _⟩ := owned_form HO.out (by omega)
      obtain ⟨rfl, rfl⟩ : co = some ⟨cg, 0, none⟩ ∧ cc = cap := by
        injection hv with e1 _ e3
        exact ⟨e1, e3⟩
      have cell : ∀ j u, j < 6 → (connOf c)[j]? = some u → wr.cell? ⟨cg, k * 6 + j, none⟩ = some u := fun j u hj hu => hq.out.cell (owned_at HO.out (k * 6 + j) u ((connVals_get g.conns k c j hc hj).trans hu))
      have c0 : wr.cell? ⟨cg, k * 6, none⟩ = some (.int .i64 (c.num : Int)) := cell 0 _ (by decide) rfl
      have c1 := cell 1 _ (by decide) rfl
      have c2 := cell 2 _ (by decide) rfl
      have c3 := cell 3 _ (by decide) rfl
      have c4 := cell 4 _ (by decide) rfl
      have c5 := cell 5 _ (by decide) rfl
      have HF := show Hid _ from filter_take (fun d : ConnS => d.num != n) g.conns hc
      have hfl : ((g.conns.take k).filter fun d => d.num != n).length ≤ k := by
        have := List.length_filter_le (fun d : ConnS => d.num != n) (g.conns.take k)
        rw [List.length_take] at this
        omega
      clear cell hv hc
      by_cases hn : c.num = n
      · have dn : ((c.num : Int) != (n : Int)) = false := by rw [hn]; simp
        have HF2 : Hid ((g.conns.take (k + 1)).filter (fun d => d.num != n) = (g.conns.take k).filter fun d => d.num != n) := by
          show _ = _
          rw [HF.out, if_neg (by simp [hn]), List.append_nil]
        obtain ⟨cm, hcm⟩ : ∃ m : Int, m = (c.num : Int) := ⟨_, rfl⟩
        rw [← hcm] at c0 dn
        clear hn HF hcm c1 c2 c3 c4 c5
        go_wp2_with fail
        exact ⟨⟨k + 1, by omega, by go_num, hq, by show World.ownsRow _ _ _ _ _ _ _; rw [HF2.out]; exact hown.out⟩, by simp [intOf]; omega⟩
      · have dn : ((c.num : Int) != (n : Int)) = true := by rw [bne_iff_ne]; omega
        have HF2 : Hid ((g.conns.take (k + 1)).filter (fun d => d.num != n) = ((g.conns.take k).filter fun d => d.num != n) ++ [c]) := by
          show _ = _
          rw [HF.out, if_pos (by simp [hn])]
        unfold str at c1
        have hsz := hq.out.size
        clear hn HF
        generalize ((g.conns.take k).filter fun d => d.num != n) = L at *
        go_wp2_with (first | (at_builtin; refine append_el rfl (.tmp 25) (.tmp 33) 131 rfl 129 Tryz.t129 (.agg #[.int .i64 0, .string ⟨#[]⟩, .int .i64 0, .int .i64 0, .bool false, .bool false]) 6 48 Tryz.underlying131 (by kernel_rfl) (by kernel_rfl) (by kernel_rfl) (by kernel_rfl) rfl (by decide) u4 L.length (connVals L) (connOf c) rfl w.heap.size wr rfl rfl hown.out (connOf_one c) (by omega) (by decide) hsz ?_; intro g2 cap2 w2 ho2 hb2 _ _ _))
        refine ⟨⟨k + 1, by omega, by go_num, (Below.trans hq.out hb2 : Below w.heap.size w w2), ?_⟩, by simp [intOf]; omega⟩
        show World.ownsRow _ _ _ _ _ _ _
        rw [HF2.out, List.length_append, connVals_append]
        have e : connVals [c] = connOf c := by simp [connVals]
        rw [e]
        exact ho2
    · have HD : Hid ((g.conns.take k).filter (fun d => d.num != n) = (g.drop n).conns) := by
        show _ = _
        rw [List.take_of_length_le (by have := HCN.out; omega)]
        rfl
      have hfz' : wr.frozen? ⟨gb, 3, none⟩ = false := by rw [hq.out.cells.2 gb 3 hgb]; exact hfz
      have HFin : Hid (∃ r', RGwStep r B w gb r' (wr.setCell ⟨gb, 3, none⟩ u4) (g.drop n) ∧ ∀ b, r' b ≠ none → b < (wr.setCell ⟨gb, 3, none⟩ u4).heap.size) := by
        rw [HD.out] at hown
        obtain ⟨r', hs, _⟩ := HR.out.conns hq.out u4 (g.drop n).conns hown.out
        exact ⟨r', hs, hs.rep.lt⟩
      obtain ⟨uo, uc, rfl⟩ := slice_form hown.out
      generalize ((g.conns.take k).filter fun d => d.num != n).length = ln at *
      go_wp2_with fail
      go_end0
      exact ⟨rfl, HFin.out⟩
end Go.Proofs.YtdmaffciijmdcaaGreatDoor
/-
  The document's answer: refuse, Dialed, Host, EndClient, EndHost.
-/
namespace Go.Proofs.YtdmaffciijmdcaaGreatDoor
open Go.RowKit Plain

def RGwPost (r : Rl) (B : Nat) (gb : Nat) (g' : GateS) (l : List EvS) (w : World) (e : Ending) (w' : World) : Prop :=
  ∃ r' v, e = .returned v ∧ RGwStep r B w gb r' w' g' ∧ EvsOut r' l w v w'
def RGwPostE (r : Rl) (B : Nat) (gb : Nat) (g' : GateS) (l : List EvS) (en : Int) (w : World) (e : Ending) (w' : World) : Prop :=
  ∃ r' v, e = .returned (.tuple #[v, .int .i64 en]) ∧ RGwStep r B w gb r' w' g' ∧ EvsOut r' l w v w'

/-- Events made behind a step. -/
theorem revs_out {r r1 : Rl} {B : Nat} {w w1 w2 : World} {gb : Nat} {g1 : GateS} {l : List EvS} {v : Value} (h : RGwStep r B w gb r1 w1 g1) (_q : Q w1 w2) (ho : w2.ownsRow w1.heap.size 48 4 v l.length (evVals l)) : EvsOut r1 l w v w2 := by
  refine ⟨⟨ho.1, ?_⟩, fun k hk => rsized h.rep (owns_lt ho k hk).1⟩
  rcases ho.2 with hn | ⟨g, cap, cur, hv, hb, t⟩
  · exact .inl hn
  · exact .inr ⟨g, cap, cur, hv, Nat.le_trans h.fr.size hb, t⟩

set_option maxRecDepth 100000 in
set_option maxHeartbeats 1600000 in
theorem rrefuse_any {r : Rl} {B : Nat} {w : World} {gb : Nat} {g : GateS} (h : RGwRep r B w gb g) (hf : g.conns.length ≤ 8) (n : Nat) (s : ByteArray) :
    Calls Tryz.prog 80 #[ptr gb, .int .i64 (n : Int), .string s] w fun e w' => RGwPost r B gb (g.drop n) [⟨2, (n : Int), s.data.toList, 0⟩, ⟨4, (n : Int), [], 0⟩] w e w' := by
  have HD := show Hid _ from rdrop_any h hf n
  have HE := fun k t x => show Hid _ from revent_any k (n : Int) t x
  clear h
  go_enter Tryz.func80, Tryz.ntmps80
  go_wp2_with fail
  refine Calls.mono (Hid.out HD) ?_
  rintro e w1 ⟨rfl, r1, hst, _⟩
  have HST := show Hid _ from hst
  clear HD hst
  go_wp2_with fail
  refine Calls.mono (Hid.out (HE 2 s _)) ?_
  rintro e w2 ⟨rfl, hq2⟩
  go_wp2_with fail
  refine Calls.mono (Hid.out (HE 4 _ _)) ?_
  rintro e w3 ⟨rfl, hq3⟩
  have HQ : Hid (Q w1 w3) := hq2.trans hq3
  clear HE hq2 hq3
  go_wp2_with fail
  go_ret
  have q4 : Q w1 (w3.alloc (.cells (evVals [⟨2, (n : Int), s.data.toList, 0⟩, ⟨4, (n : Int), [], 0⟩]).toArray 48)) := HQ.out.alloc _
  exact ⟨r1, _, rfl, HST.out.more q4, revs_out HST.out q4 (own_newN w3 _ w3.heap.size 2 rfl (evVals [⟨2, (n : Int), s.data.toList, 0⟩, ⟨4, (n : Int), [], 0⟩]) _ rfl (by decide) HQ.out.size)⟩
end Go.Proofs.YtdmaffciijmdcaaGreatDoor
/-
  The document's answer: Host, EndHost.
-/
namespace Go.Proofs.YtdmaffciijmdcaaGreatDoor
open Go.RowKit Plain

/-- Where a connection lies. -/
theorem RGwRep.at {r : Rl} {B : Nat} {w : World} {gb : Nat} {g : GateS} (h : RGwRep r B w gb g) {i : Nat} {c : ConnS} (hi : g.conns[i]? = some c) :
    ∃ cg cap, w.cell? ⟨gb, 3, none⟩ = some (.slice (some ⟨cg, 0, none⟩) g.conns.length cap) ∧ (∀ j u, j < 6 → (connOf c)[j]? = some u → w.cell? ⟨cg, i * 6 + j, none⟩ = some u) ∧ (∀ p, w.frozen? ⟨cg, p, none⟩ = false) ∧ cg < w.heap.size ∧ cg ≠ gb := by
  obtain ⟨cv, h1, h2, h3⟩ := h.con
  have hl := (List.getElem?_eq_some_iff.1 hi).1
  obtain ⟨cg, cap, rfl, _, hlt⟩ := owned_form h2 (by omega)
  refine ⟨cg, cap, h1, fun j u hj hu => owned_at h2 _ u ((connVals_get g.conns i c j hi hj).trans hu), owned_fz h2, hlt, fun e => ?_⟩
  have := h3 cg rfl
  rw [e, h.role] at this
  cases this

/-- A call on a connection: what it does where it may be made, else ErrConn. -/
def RCallPost (r : Rl) (B : Nat) (gb : Nat) (g : GateS) (n : Int) (P : ConnS → Prop) (f : Nat → ConnS → GateS × List EvS) (w : World) (e : Ending) (w' : World) : Prop :=
  (∃ (i : Nat) (c : ConnS), g.conns[i]? = some c ∧ (c.num : Int) = n ∧ P c ∧ RGwPostE r B gb (f i c).1 (f i c).2 0 w e w') ∨
  ((∀ c ∈ g.conns, (c.num : Int) = n → ¬ P c) ∧ w' = w ∧ e = .returned (.tuple #[.slice none 0 0, .int .i64 7]))
theorem RCallPost.yes {r r' : Rl} {B : Nat} {gb : Nat} {g g' : GateS} {n : Int} {P : ConnS → Prop} {f : Nat → ConnS → GateS × List EvS} {w w' : World} {i : Nat} {c : ConnS} {l : List EvS} {v : Value} (hi : g.conns[i]? = some c) (hn : (c.num : Int) = n) (hp : P c) (he : f i c = (g', l)) (hs : RGwStep r B w gb r' w' g') (ho : EvsOut r' l w v w') :
    RCallPost r B gb g n P f w (.returned (.tuple #[v, .int .i64 0])) w' :=
  .inl ⟨i, c, hi, hn, hp, r', v, rfl, by rw [he]; exact hs, by rw [he]; exact ho⟩
theorem one_conn {g : GateS} (ok : GOk g) {i : Nat} {c : ConnS} {n : Int} (hi : g.conns[i]? = some c) (hn : (c.num : Int) = n) {P : ConnS → Prop} (hp : ¬ P c) : ∀ d ∈ g.conns, (d.num : Int) = n → ¬ P d := fun d hd he => by
  obtain ⟨j, hj⟩ := List.getElem?_of_mem hd
  have := ok.nums i j c d hi hj (by omega)
  subst this
  rw [hi] at hj
  cases hj
  exact hp

set_option maxRecDepth 100000 in
set_option maxHeartbeats 1600000 in
theorem rhost2_any {r : Rl} {B : Nat} {w : World} {gb : Nat} {g : GateS} (h : RGwRep r B w gb g) (ok : GOk g) (n : Int) (s : List UInt8) :
    Calls Tryz.prog 72 #[ptr gb, .int .i64 n, .string ⟨s.toArray⟩] w fun e w' => RCallPost r B gb g n (fun c => c.stage = 2 ∧ c.hostEnd = false) (fun i c => hostAt g i c s) w e w' := by
  have HF := show Hid _ from rfind_any h ok.few n
  have HR : Hid (RGwRep r B w gb g) := h
  have HOK : Hid (GOk g) := ok
  have hgb := h.inB.2
  have HS := fun x => show Hid _ from rsome_any 2 n s x
  clear h ok
  go_enter Tryz.func72, Tryz.ntmps72
  go_wp2_with fail
  refine Calls.mono (Hid.out HF) ?_
  rintro e w' ⟨hw, ⟨i, c, hi, hn, rfl⟩ | ⟨hno, rfl⟩⟩
  case inr =>
    have HN : Hid (∀ c ∈ g.conns, (c.num : Int) = n → ¬ (c.stage = 2 ∧ c.hostEnd = false)) := fun c hc e => absurd e (hno c hc)
    rw [hw]
    clear hw hno HF
    go_wp2_with fail
    go_ret2
    exact .inr ⟨HN.out, rfl, rfl⟩
  rw [hw]
  clear hw HF
  obtain ⟨cg, cap, x1, x2, x3, x4, x5⟩ := HR.out.at hi
  have c2 := x2 2 _ (by decide) rfl
  have c3 := x2 3 _ (by decide) rfl
  have c5 := x2 5 _ (by decide) rfl
  have f3 := x3 (i * 6 + 3)
  have hil : i < g.conns.length := (List.getElem?_eq_some_iff.1 hi).1
  have hf := HOK.out.few
  have HI : Hid (g.conns[i]? = some c ∧ (c.num : Int) = n) := ⟨hi, hn⟩
  have HX1 := show Hid _ from x1
  have d0 : decide ((i : Int) < 0) = false := decide_eq_false (by omega)
  obtain ⟨cn, hcn⟩ : ∃ k, k = g.conns.length := ⟨_, rfl⟩
  rw [← hcn] at x1 hil hf
  clear hi hn x2 x3 hcn
  by_cases hst : c.stage = 2
  case neg =>
    have d2 : ((c.stage : Int) != 2) = true := by rw [bne_iff_ne]; omega
    have HN : Hid (∀ c ∈ g.conns, (c.num : Int) = n → ¬ (c.stage = 2 ∧ c.hostEnd = false)) := one_conn HOK.out HI.out.1 HI.out.2 fun hp => hst hp.1
    obtain ⟨st, hst'⟩ : ∃ m : Int, m = (c.stage : Int) := ⟨_, rfl⟩
    rw [← hst'] at c2 d2
    clear hst hst' c3 c5
    go_wp2_with fail
    go_ret2
    exact .inr ⟨HN.out, rfl, rfl⟩
  have c2' : w.cell? ⟨cg, i * 6 + 2, none⟩ = some (.int .i64 2) := by rw [c2, hst]; rfl
  clear c2
  cases he : c.hostEnd with
  | true =>
    rw [he] at c5
    have HN : Hid (∀ c ∈ g.conns, (c.num : Int) = n → ¬ (c.stage = 2 ∧ c.hostEnd = false)) := one_conn HOK.out HI.out.1 HI.out.2 fun hp => by rw [he] at hp; exact absurd hp.2 (by decide)
    clear hst he c3
    go_wp2_with fail
    go_ret2
    exact .inr ⟨HN.out, rfl, rfl⟩
  | false =>
    rw [he] at c5
    have HP : Hid (c.stage = 2 ∧ c.hostEnd = false) := ⟨hst, he⟩
    have HSt := show Hid _ from (HR.out.conn (c' := { c with silent := 0 }) (u := .int .i64 0) (j := 3) HX1.out HI.out.1 (by decide) rfl).1
    clear hst he
    go_wp2_with fail
    refine Calls.mono (Hid.out (HS _)) ?_
    rintro e w2 ⟨hq2, v, rfl, hown⟩
    go_wp2_with fail
    go_ret2
    refine .inl ⟨i, c, HI.out.1, HI.out.2, HP.out, r, v, rfl, HSt.out.more hq2, ?_⟩
    show EvsOut r (sendS 2 (c.num : Int) s) w v w2
    rw [HI.out.2]
    exact revs_out HSt.out hq2 hown
end Go.Proofs.YtdmaffciijmdcaaGreatDoor

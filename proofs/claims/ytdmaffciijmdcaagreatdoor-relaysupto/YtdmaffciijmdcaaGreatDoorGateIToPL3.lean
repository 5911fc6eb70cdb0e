/-
  Plain: what every call keeps of a gateway.
-/
import Derived.Test.YtdmaffciijmdcaaGreatDoorPL1ToGateQ
namespace Go.Proofs.YtdmaffciijmdcaaGreatDoor
open Go.RowKit Plain

theorem GIn.upd {g : GateS} (h : GIn g) {i : Nat} {c : ConnS} (hc : CIn c) : GIn (g.upd i c) := fun d hd => by
  rcases upd_mem hd with h1 | h1
  · exact h d h1
  · rw [h1]; exact hc
theorem GIn.drop {g : GateS} (h : GIn g) (n : Nat) : GIn (g.drop n) := fun d hd => h d (List.mem_filter.1 hd).1
theorem GIn.accept {g : GateS} (h : GIn g) : GIn g.accept := fun d hd => by
  simp only [GateS.accept, List.mem_append, List.mem_singleton] at hd
  rcases hd with hd | rfl
  · exact h d hd
  · exact ⟨by simp, by simp, by simp, fun _ => ⟨rfl, rfl⟩⟩
theorem GIn.client {g : GateS} (h : GIn g) {i : Nat} {c : ConnS} (hi : g.conns[i]? = some c) (s : List UInt8) : GIn (clientAt g i c s).1 := by
  have hc := h c (List.mem_of_getElem? hi)
  unfold clientAt
  split
  · exact h.upd ⟨by simp, by simp, hc.st, hc.ends⟩
  · rename_i h2
    split
    · exact h.upd ⟨by simp, by simp, hc.st, hc.ends⟩
    · split
      · exact h.upd ⟨by simp, by simp, hc.st, hc.ends⟩
      · unfold answerS
        split
        · refine GIn.drop (GIn.upd h ?_) _
          exact ⟨by simp, by simp, hc.st, hc.ends⟩
        · rw [upd_upd]
          exact h.upd ⟨by simp, by simp, by simp, fun _ => hc.ends h2⟩
theorem GIn.dialed {g : GateS} (h : GIn g) {i : Nat} {c : ConnS} (ok : Bool) : GIn (dialedAt g i c ok).1 := by
  unfold dialedAt
  split
  · exact h.upd ⟨by simp, by simp, by simp, fun h2 => absurd rfl h2⟩
  · exact h.drop _
theorem GIn.host {g : GateS} (h : GIn g) {i : Nat} {c : ConnS} (hi : g.conns[i]? = some c) (s : List UInt8) : GIn (hostAt g i c s).1 := by
  have hc := h c (List.mem_of_getElem? hi)
  exact h.upd ⟨by simp, by simp, hc.st, hc.ends⟩
theorem GIn.endClient {g : GateS} (h : GIn g) {i : Nat} {c : ConnS} (hi : g.conns[i]? = some c) : GIn (endClientAt g i c).1 := by
  have hc := h c (List.mem_of_getElem? hi)
  unfold endClientAt
  split
  · exact h.drop _
  · split
    · exact h.drop _
    · rename_i h0 h1
      dsimp only
      split
      · exact h.drop _
      · exact h.upd ⟨hc.s0, hc.s1, hc.st, fun h2 => absurd (show c.stage = 2 by have := hc.st; omega) h2⟩
theorem GIn.endHost {g : GateS} (h : GIn g) {i : Nat} {c : ConnS} (hi : g.conns[i]? = some c) (h2 : c.stage = 2) : GIn (endHostAt g i c).1 := by
  have hc := h c (List.mem_of_getElem? hi)
  unfold endHostAt
  dsimp only
  split
  · exact h.drop _
  · exact h.upd ⟨hc.s0, hc.s1, hc.st, fun h3 => absurd h2 h3⟩
theorem GIn.tick {g : GateS} (h : GIn g) {m : Int} (hm : 1 ≤ m) : GIn (tickS g m).1 := fun d hd => by
  obtain ⟨c, hc, rfl⟩ := List.mem_map.1 hd
  obtain ⟨hc, hl⟩ := List.mem_filter.1 hc
  have hc := h c hc
  have hl := of_decide_eq_true hl
  exact ⟨by have := hc.s0; show 0 ≤ c.silent + m; omega, hl, hc.st, hc.ends⟩

theorem GOk.dialed {g : GateS} (ok : GOk g) {i : Nat} {c : ConnS} (hi : g.conns[i]? = some c) (yes : Bool) : GOk (dialedAt g i c yes).1 := by
  unfold dialedAt
  split
  · exact ok.upd hi rfl
  · exact ok.drop _
theorem GOk.host {g : GateS} (ok : GOk g) {i : Nat} {c : ConnS} (hi : g.conns[i]? = some c) (s : List UInt8) : GOk (hostAt g i c s).1 := ok.upd hi rfl
theorem GOk.endClient {g : GateS} (ok : GOk g) {i : Nat} {c : ConnS} (hi : g.conns[i]? = some c) : GOk (endClientAt g i c).1 := by
  unfold endClientAt
  split
  · exact ok.drop _
  · split
    · exact ok.drop _
    · dsimp only
      split
      · exact ok.drop _
      · exact ok.upd hi rfl
theorem GOk.endHost {g : GateS} (ok : GOk g) {i : Nat} {c : ConnS} (hi : g.conns[i]? = some c) : GOk (endHostAt g i c).1 := by
  unfold endHostAt
  dsimp only
  split
  · exact ok.drop _
  · exact ok.upd hi rfl
theorem GOk.tick {g : GateS} (ok : GOk g) (m : Int) : GOk (tickS g m).1 := by
  refine ⟨?_, ok.tens, ?_, fun d hd => ?_, ok.top⟩
  · show ((g.conns.filter _).map _).length ≤ 8
    rw [List.length_map]
    exact Nat.le_trans (List.length_filter_le _ _) ok.few
  · refine nodup_nums ?_
    show (((g.conns.filter _).map _).map _).Nodup
    rw [List.map_map]
    exact (nums_nodup ok.nums).sublist ((List.filter_sublist).map _)
  · obtain ⟨c, hc, rfl⟩ := List.mem_map.1 hd
    exact ok.past c (List.mem_filter.1 hc).1
theorem GOk.rules {g : GateS} (ok : GOk g) (rs : List RuleS) : GOk { g with rules := rs } := ⟨ok.few, ok.tens, ok.nums, ok.past, ok.top⟩

/-- What waits at any connection is this long at most. -/
def Waits (L : Nat) (g : GateS) : Prop := ∀ c ∈ g.conns, c.wait.length ≤ L
theorem Waits.mono {L M : Nat} {g : GateS} (h : Waits L g) (hl : L ≤ M) : Waits M g := fun c hc => Nat.le_trans (h c hc) hl
theorem Waits.upd {L : Nat} {g : GateS} (h : Waits L g) {i : Nat} {c : ConnS} (hc : c.wait.length ≤ L) : Waits L (g.upd i c) := fun d hd => by
  rcases upd_mem hd with h1 | h1
  · exact h d h1
  · rw [h1]; exact hc
theorem Waits.drop {L : Nat} {g : GateS} (h : Waits L g) (n : Nat) : Waits L (g.drop n) := fun d hd => h d (List.mem_filter.1 hd).1
theorem Waits.accept {L : Nat} {g : GateS} (h : Waits L g) : Waits L g.accept := fun d hd => by
  simp only [GateS.accept, List.mem_append, List.mem_singleton] at hd
  rcases hd with hd | rfl
  · exact h d hd
  · simp
theorem Waits.client {L : Nat} {g : GateS} (h : Waits L g) {i : Nat} {c : ConnS} (hi : g.conns[i]? = some c) (s : List UInt8) : Waits (L + s.length) (clientAt g i c s).1 := fun d hd => by
  rcases clientAt_waits s hd with h1 | h1
  · have := h d h1; omega
  · have := h c (List.mem_of_getElem? hi); omega
theorem Waits.dialed {L : Nat} {g : GateS} (h : Waits L g) {i : Nat} {c : ConnS} (yes : Bool) : Waits L (dialedAt g i c yes).1 := by
  unfold dialedAt
  split
  · exact h.upd (by simp)
  · exact h.drop _
theorem Waits.host {L : Nat} {g : GateS} (h : Waits L g) {i : Nat} {c : ConnS} (hi : g.conns[i]? = some c) (s : List UInt8) : Waits L (hostAt g i c s).1 := h.upd (h c (List.mem_of_getElem? hi))
theorem Waits.endClient {L : Nat} {g : GateS} (h : Waits L g) {i : Nat} {c : ConnS} (hi : g.conns[i]? = some c) : Waits L (endClientAt g i c).1 := by
  unfold endClientAt
  split
  · exact h.drop _
  · split
    · exact h.drop _
    · dsimp only
      split
      · exact h.drop _
      · exact h.upd (h c (List.mem_of_getElem? hi))
theorem Waits.endHost {L : Nat} {g : GateS} (h : Waits L g) {i : Nat} {c : ConnS} (hi : g.conns[i]? = some c) : Waits L (endHostAt g i c).1 := by
  unfold endHostAt
  dsimp only
  split
  · exact h.drop _
  · exact h.upd (h c (List.mem_of_getElem? hi))
theorem Waits.tick {L : Nat} {g : GateS} (h : Waits L g) (m : Int) : Waits L (tickS g m).1 := fun d hd => by
  obtain ⟨c, hc, rfl⟩ := List.mem_map.1 hd
  exact h c (List.mem_filter.1 hc).1
end Go.Proofs.YtdmaffciijmdcaaGreatDoor
/-
  The laws' world: a call on a gateway, and the same one on the document's.
-/
namespace Go.Proofs.YtdmaffciijmdcaaGreatDoor
open Go.RowKit Plain

/-- What a call on a connection comes to. -/
def Outcome (g : GateS) (n : Int) (P : ConnS → Prop) (f : Nat → ConnS → GateS × List EvS) (G1 : GateS) (l : List EvS) (en : Int) : Prop :=
  (∃ k c, g.conns[k]? = some c ∧ (c.num : Int) = n ∧ P c ∧ f k c = (G1, l) ∧ en = 0) ∨ ((∀ c ∈ g.conns, (c.num : Int) = n → ¬ P c) ∧ G1 = g ∧ l = [] ∧ en = 7)
theorem Outcome.one {g : GateS} (ok : GOk g) {n : Int} {P : ConnS → Prop} {f : Nat → ConnS → GateS × List EvS} {G1 G2 : GateS} {l m : List EvS} {en em : Int} (h : Outcome g n P f G1 l en) (h2 : Outcome g n P f G2 m em) : G2 = G1 ∧ m = l ∧ em = en := by
  rcases h with ⟨k, c, h1, hn, hp, hf, rfl⟩ | ⟨hno, rfl, rfl, rfl⟩ <;> rcases h2 with ⟨k', c', h1', hn', hp', hf', rfl⟩ | ⟨hno', rfl, rfl, rfl⟩
  · have e := ok.nums k' k c' c h1' h1 (by omega)
    subst e
    rw [h1] at h1'
    cases h1'
    rw [hf] at hf'
    cases hf'
    exact ⟨rfl, rfl, rfl⟩
  · exact absurd hp (hno' c (List.mem_of_getElem? h1) hn)
  · exact absurd hp' (hno c' (List.mem_of_getElem? h1') hn')
  · exact ⟨rfl, rfl, rfl⟩
theorem set_here {L : List GG} {i : Nat} {x : GG} (h : L[i]? = some x) : L.set i x = L := by
  obtain ⟨hl, he⟩ := List.getElem?_eq_some_iff.1 h
  rw [← he, List.set_getElem_self]
theorem FreeRow.turned {w0 w w' : World} {o : Lbl} {c : Bool} {i : Nat} {r' : Rl} {v : Value} {l : List EvS} (h : FreeRow w0 w o v l) (t : Turned o c i r' w w') : FreeRow w0 w' (o.put c i r') v l := by
  have hl := owns_lt h.1
  exact ⟨owns_same h.1 fun k hk => (t.free k (hl k hk).2 (h.2 k hk)).2, fun k hk => (t.free k (hl k hk).2 (h.2 k hk)).1⟩
theorem FreeRow.stays {w0 w w' : World} {o : Lbl} {v : Value} {l : List EvS} (h : FreeRow w0 w o v l) (q : Q w w') : FreeRow w0 w' o v l := ⟨owns_Q h.1 q, h.2⟩
theorem FreeRow.nil (w0 w : World) (o : Lbl) : FreeRow w0 w o (.slice none 0 0) [] := ⟨⟨rfl, .inl ⟨rfl, rfl⟩⟩, fun k hk => by cases hk⟩
theorem FreeRow.made {w0 w w' : World} {o : Lbl} {wb : Nat} {L : List GG} {vals : List Value} (h : Pl w0 w o wb L vals) {c : Bool} {i : Nat} {r' : Rl} {v : Value} {l : List EvS} (hev : EvsOut r' l w v w') : FreeRow w0 w' (o.put c i r') v l := by
  have hl := owns_lt hev.1
  refine ⟨owns_base hev.1 h.q.size, fun k hk => ?_⟩
  unfold Lbl.put
  rw [hev.2 k hk]
  cases hx : o k with
  | none => rfl
  | some y =>
    have h1 := (h.lt k (by rw [hx]; simp)).1
    have h2 := (hl k hk).1
    omega
/-- A call on a gateway of the program's. -/
theorem Pl.called {w0 w w1 : World} {o : Lbl} {wb : Nat} {L : List GG} {vals : List Value} (h : Pl w0 w o wb L vals) {i : Nat} {x : GG} (hi : L[i]? = some x) {n : Int} {P : ConnS → Prop} {f : Nat → ConnS → GateS × List EvS} {e : Ending} (hc : CallPost (o.pj false i) w0.heap.size x.gb x.G n P f w e w1) :
    ∃ av en l o1 G1, e = .returned (.tuple #[av, .int .i64 en]) ∧ Pl w0 w1 o1 wb (L.set i { x with G := G1 }) vals ∧ FreeRow w0 w1 o1 av l ∧ Outcome x.G n P f G1 l en ∧ ∀ b, b < w.heap.size → o b = none → SameAt w w1 b := by
  rcases hc with ⟨k, c, h1, hn, hp, r', v, rfl, hst, hev⟩ | ⟨hno, hw, rfl⟩
  · obtain ⟨hp1, ht⟩ := h.gstep hi hst
    exact ⟨v, 0, _, _, _, rfl, hp1, FreeRow.made h hev, .inl ⟨k, c, h1, hn, hp, rfl, rfl⟩, fun b hb hn => (ht.free b hb hn).2⟩
  · rw [hw]
    exact ⟨_, 7, [], o, x.G, rfl, by rw [set_here hi]; exact h, FreeRow.nil _ _ _, .inr ⟨hno, rfl, rfl, rfl⟩, fun _ _ _ => rfl⟩
/-- A call on a gateway of the document's. -/
theorem Pl.rcalled {w0 w w1 : World} {o : Lbl} {wb : Nat} {L : List GG} {vals : List Value} (h : Pl w0 w o wb L vals) {i : Nat} {x : GG} (hi : L[i]? = some x) {n : Int} {P : ConnS → Prop} {f : Nat → ConnS → GateS × List EvS} {e : Ending} (hc : RCallPost (o.pj true i) w0.heap.size x.rb x.R n P f w e w1) :
    ∃ bv en l o1 G1, e = .returned (.tuple #[bv, .int .i64 en]) ∧ Pl w0 w1 o1 wb (L.set i { x with R := G1 }) vals ∧ EvAt w1 bv l ∧ Outcome x.R n P f G1 l en ∧ ∀ v m, FreeRow w0 w o v m → FreeRow w0 w1 o1 v m := by
  rcases hc with ⟨k, c, h1, hn, hp, r', v, rfl, hst, hev⟩ | ⟨hno, hw, rfl⟩
  · obtain ⟨hp1, ht⟩ := h.rstep hi hst
    exact ⟨v, 0, _, _, _, rfl, hp1, EvAt.own hev.1, .inl ⟨k, c, h1, hn, hp, rfl, rfl⟩, fun v m hf => hf.turned ht⟩
  · rw [hw]
    exact ⟨_, 7, [], o, x.R, rfl, by rw [set_here hi]; exact h, ⟨none, 0, rfl, fun i e hi => by simp at hi⟩, .inr ⟨hno, rfl, rfl, rfl⟩, fun _ _ hf => hf⟩

/-- What is known of a gateway after k steps. -/
structure GoodG (k : Nat) (G : GateS) : Prop where
  ok : GOk G
  inn : GIn G
  wt : Waits (k * 1048576) G
  last : G.last ≤ k
theorem GoodG.next {k : Nat} {G : GateS} (h : GoodG k G) : GoodG (k + 1) G := ⟨h.ok, h.inn, h.wt.mono (by omega), by have := h.last; omega⟩
def Goods (k : Nat) (L : List GG) : Prop := ∀ x ∈ L, x.R = x.G ∧ GoodG k x.G
theorem Goods.next {k : Nat} {L : List GG} (h : Goods k L) : Goods (k + 1) L := fun x hx => ⟨(h x hx).1, (h x hx).2.next⟩
theorem Goods.set {k : Nat} {L : List GG} (h : Goods k L) {i : Nat} {x : GG} (hx : x.R = x.G ∧ GoodG (k + 1) x.G) : Goods (k + 1) (L.set i x) := fun y hy => by
  rcases List.mem_or_eq_of_mem_set hy with h1 | h1
  · exact h.next y h1
  · rw [h1]; exact hx
/-- What each step leaves. -/
def StepPost (w0 : World) (wb : Nat) (L : List GG) (vals : List Value) (k : Nat) (e : Ending) (w' : World) : Prop :=
  e = .returned (.bool true) ∧ ∃ o' L' vals', Pl w0 w' o' wb L' vals' ∧ L'.length = L.length ∧ vals'.length ≤ vals.length + 4 ∧ Goods (k + 1) L'
/-- Both calls, and what came of them, handed on to events. -/
theorem events_both {w0 w2 : World} {o2 : Lbl} {wb : Nat} {L : List GG} {vals : List Value} {i : Nat} {x : GG} {G1 G2 : GateS} {n : Int} {P : ConnS → Prop} {f : Nat → ConnS → GateS × List EvS} {l m : List EvS} {en em : Int} {av bv : Value} {k : Nat} (hi : L[i]? = some x) (hg : Goods k L) (hvl : vals.length ≤ 4194800) (h1 : Outcome x.G n P f G1 l en) (h2 : Outcome x.R n P f G2 m em) (hp : Pl w0 w2 o2 wb ((L.set i { x with G := G1 }).set i { x with G := G1, R := G2 }) vals) (ha : FreeRow w0 w2 o2 av l) (hb : EvAt w2 bv m)
    (hf : ∀ q c, x.G.conns[q]? = some c → (c.num : Int) = n → P c → GoodG (k + 1) (f q c).1 ∧ (f q c).2.length ≤ 900) :
    em = en ∧ Calls Tryz.prog 70 #[ptr wb, av, .int .i64 en, bv, .int .i64 en] w2 fun e w' => StepPost w0 wb L vals k e w' := by
  have hx := hg x (List.mem_of_getElem? hi)
  rw [hx.1] at h2
  obtain ⟨rfl, rfl, rfl⟩ := h1.one hx.2.ok h2
  refine ⟨rfl, ?_⟩
  rw [List.set_set] at hp
  have hG : GoodG (k + 1) G2 ∧ m.length ≤ 900 := by
    rcases h1 with ⟨q, c, h1, hn, hpc, hfe, _⟩ | ⟨_, rfl, rfl, _⟩
    · have := hf q c h1 hn hpc
      rw [hfe] at this
      exact this
    · exact ⟨hx.2.next, by simp⟩
  refine (events_any hp hvl av bv m hG.2 ha hb em).mono ?_
  rintro e w' ⟨rfl, o', vals', hp', hl'⟩
  exact ⟨rfl, o', _, vals', hp', by simp, by omega, hg.set ⟨rfl, hG.1⟩⟩
end Go.Proofs.YtdmaffciijmdcaaGreatDoor

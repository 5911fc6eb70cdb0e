/-
  Package turnpike: a gateway in memory; find.
-/
import Derived.Test.YtdmaffciijmdcaaGreatDoorGateMToGate1
namespace Go.Proofs.YtdmaffciijmdcaaGreatDoor
open Go.RowKit Plain

/-- A connection in memory. -/
structure ConnRep (r : Rl) (B : Nat) (w : World) (cb : Nat) (c : ConnS) : Prop where
  role : r cb = some (.conn c.num)
  c0 : w.cell? ⟨cb, 0, none⟩ = some (.int .i64 (c.num : Int))
  c1 : w.cell? ⟨cb, 1, none⟩ = some (.int .i64 c.silent)
  c2 : w.cell? ⟨cb, 2, none⟩ = some (.int .i64 (c.stage : Int))
  c4 : w.cell? ⟨cb, 4, none⟩ = some (.bool c.noMore)
  c5 : w.cell? ⟨cb, 5, none⟩ = some (.bool c.hostEnd)
  obj : ∃ cs t, w.heap[cb]? = some (.cells cs t (0, 0))
  wt : ∃ wv, w.cell? ⟨cb, 3, none⟩ = some wv ∧ w.ownsRow B 5 1 wv c.wait.length (bvals c.wait) ∧ ∀ k, wv.ownBlock = some k → r k = some (.wait c.num)
theorem ConnRep.fz {r : Rl} {B : Nat} {w : World} {cb : Nat} {c : ConnS} (h : ConnRep r B w cb c) (o : Nat) : w.frozen? ⟨cb, o, none⟩ = false := by
  obtain ⟨cs, t, ho⟩ := h.obj
  simp [World.frozen?, ho]
def Conns (r : Rl) (B : Nat) (w : World) : List Nat → List ConnS → Prop
  | [], [] => True
  | cb :: cbs, c :: cs => ConnRep r B w cb c ∧ Conns r B w cbs cs
  | _, _ => False
/-- A gateway in memory. -/
structure GwRep (r : Rl) (B : Nat) (w : World) (gb : Nat) (g : GateS) : Prop where
  lt : ∀ b, r b ≠ none → b < w.heap.size
  low : ∀ b, r b ≠ none → B ≤ b
  role : r gb = some .gw
  pol : ∃ pb, w.cell? ⟨gb, 0, none⟩ = some (ptr pb) ∧ PolicyRep (fun b => r b = some .stat) w pb g.rules
  ten : ∃ tv, w.cell? ⟨gb, 1, none⟩ = some tv ∧ PairsAt (fun b => r b = some .stat) w tv g.tens
  min : w.cell? ⟨gb, 2, none⟩ = some (.int .i64 g.minute)
  last : w.cell? ⟨gb, 3, none⟩ = some (.int .i64 (g.last : Int))
  fz : ∀ o, w.frozen? ⟨gb, o, none⟩ = false
  con : ∃ cv cbs, w.cell? ⟨gb, 4, none⟩ = some cv ∧ w.ownsRow B 95 1 cv cbs.length (cbs.map ptr) ∧ (∀ k, cv.ownBlock = some k → r k = some .row) ∧ Conns r B w cbs g.conns

theorem ConnRep.same {r r' : Rl} {B : Nat} {w w' : World} {cb : Nat} {c : ConnS} (h : ConnRep r B w cb c) (hs : ∀ b, r b = some (.conn c.num) ∨ r b = some (.wait c.num) → r' b = r b ∧ SameAt w w' b) : ConnRep r' B w' cb c := by
  obtain ⟨h0, h1, h2, h3, hx4, hx5, h4, wv, h5, h6, h7⟩ := h
  obtain ⟨e, s⟩ := hs cb (.inl h0)
  exact ⟨by rw [e]; exact h0, by rw [s.cell]; exact h1, by rw [s.cell]; exact h2, by rw [s.cell]; exact h3, by rw [s.cell]; exact hx4, by rw [s.cell]; exact hx5, by obtain ⟨cs, t, h4⟩ := h4; exact ⟨cs, t, by rw [s]; exact h4⟩, wv, by rw [s.cell]; exact h5, owns_same h6 fun k hk => (hs k (.inr (h7 k hk))).2, fun k hk => by rw [(hs k (.inr (h7 k hk))).1]; exact h7 k hk⟩
theorem Conns.same {r r' : Rl} {B : Nat} {w w' : World} : ∀ {cbs : List Nat} {cs : List ConnS}, Conns r B w cbs cs → (∀ c ∈ cs, ∀ b, r b = some (.conn c.num) ∨ r b = some (.wait c.num) → r' b = r b ∧ SameAt w w' b) → Conns r' B w' cbs cs
  | [], [], _, _ => trivial
  | cb :: cbs, c :: cs, h, hs => ⟨h.1.same (hs c (by simp)), h.2.same fun x hx => hs x (by simp [hx])⟩
  | [], c :: cs, h, _ => h.elim
  | cb :: cbs, [], h, _ => h.elim
theorem Conns.len {r : Rl} {B : Nat} {w : World} : ∀ {cbs : List Nat} {cs : List ConnS}, Conns r B w cbs cs → cbs.length = cs.length
  | [], [], _ => rfl
  | cb :: cbs, c :: cs, h => by simp [h.2.len]
  | [], c :: cs, h => h.elim
  | cb :: cbs, [], h => h.elim
theorem Conns.get {r : Rl} {B : Nat} {w : World} : ∀ {cbs : List Nat} {cs : List ConnS}, Conns r B w cbs cs → ∀ (i : Nat) (c : ConnS), cs[i]? = some c → ∃ cb, cbs[i]? = some cb ∧ ConnRep r B w cb c
  | [], [], _, i, c, hi => by simp at hi
  | cb :: cbs, d :: cs, h, 0, c, hi => by cases hi; exact ⟨cb, rfl, h.1⟩
  | cb :: cbs, d :: cs, h, i + 1, c, hi => h.2.get i c (by simpa using hi)
  | [], c :: cs, h, _, _, _ => h.elim
  | cb :: cbs, [], h, _, _, _ => h.elim
theorem Conns.snoc {r : Rl} {B : Nat} {w : World} {cb : Nat} {c : ConnS} (hc : ConnRep r B w cb c) : ∀ {cbs : List Nat} {cs : List ConnS}, Conns r B w cbs cs → Conns r B w (cbs ++ [cb]) (cs ++ [c])
  | [], [], _ => ⟨hc, trivial⟩
  | _ :: _, _ :: _, h => ⟨h.1, Conns.snoc hc h.2⟩
  | [], _ :: _, h => h.elim
  | _ :: _, [], h => h.elim
/-- One connection is another one now. -/
theorem Conns.upd {r r' : Rl} {B : Nat} {w w' : World} {c' : ConnS} : ∀ {cbs : List Nat} {cs : List ConnS} {i cb : Nat} {c : ConnS}, Conns r B w cbs cs → cs[i]? = some c → cbs[i]? = some cb → ConnRep r' B w' cb c' → (∀ j d, j ≠ i → cs[j]? = some d → ∀ b, r b = some (.conn d.num) ∨ r b = some (.wait d.num) → r' b = r b ∧ SameAt w w' b) → Conns r' B w' cbs (cs.set i c')
  | [], [], _, _, _, _, hi, _, _, _ => by simp at hi
  | b :: cbs, d :: cs, 0, cb, c, h, hi, hb, hc, hs => by
    cases hb
    refine ⟨hc, h.2.same fun x hx => ?_⟩
    obtain ⟨j, hj⟩ := List.getElem?_of_mem hx
    exact hs (j + 1) x (by omega) (by simpa using hj)
  | b :: cbs, d :: cs, i + 1, cb, c, h, hi, hb, hc, hs => by
    refine ⟨h.1.same (hs 0 d (by omega) rfl), ?_⟩
    exact h.2.upd (by simpa using hi) (by simpa using hb) hc fun j x hj hx => hs (j + 1) x (by omega) (by simpa using hx)
  | [], c :: cs, _, _, _, h, _, _, _, _ => h.elim
  | cb :: cbs, [], _, _, _, h, _, _, _, _ => h.elim

theorem GwRep.same {r : Rl} {B : Nat} {w w' : World} {gb : Nat} {g : GateS} (h : GwRep r B w gb g) (hs : ∀ b, r b ≠ none → SameAt w w' b) (hz : w.heap.size ≤ w'.heap.size) : GwRep r B w' gb g := by
  have S : ∀ b k, r b = some k → SameAt w w' b := fun b k hb => hs b (by rw [hb]; simp)
  obtain ⟨h1, h2, h3, ⟨pb, h4, h5⟩, ⟨tv, h6, h7⟩, h8, h9, h10, cv, cbs, h11, h12, h13, h14⟩ := h
  have sg := S gb _ h3
  have ks : Keeps (fun b => r b = some .stat) (fun b => r b = some .stat) w w' := fun b hb => ⟨hb, fun o => (S b _ hb).cell o⟩
  exact ⟨fun b hb => Nat.lt_of_lt_of_le (h1 b hb) hz, h2, h3, ⟨pb, by rw [sg.cell]; exact h4, h5.keeps ks⟩, ⟨tv, by rw [sg.cell]; exact h6, h7.keeps ks⟩, by rw [sg.cell]; exact h8, by rw [sg.cell]; exact h9, fun o => by rw [sg.frozen]; exact h10 o, cv, cbs, by rw [sg.cell]; exact h11, owns_same h12 fun k hk => S k _ (h13 k hk), h13, h14.same fun c _ b hb => ⟨rfl, by rcases hb with hb | hb <;> exact S b _ hb⟩⟩
theorem GwRep.stays {r : Rl} {B : Nat} {w w' : World} {gb : Nat} {g : GateS} (h : GwRep r B w gb g) (q : Q w w') : GwRep r B w' gb g := h.same (fun b hb => q.sameAt (h.lt b hb)) q.size
theorem GwRep.read {r : Rl} {B : Nat} {w : World} {gb : Nat} {g : GateS} (h : GwRep r B w gb g) (hf : g.tens.length ≤ 1000) : GwRead w gb g.rules g.tens g.minute := by
  obtain ⟨pb, h4, h5⟩ := h.pol
  obtain ⟨tv, h6, h7⟩ := h.ten
  have ks : Keeps (fun b => r b = some .stat) (fun b => b < w.heap.size) w w := fun b hb => ⟨h.lt b (by rw [hb]; simp), fun _ => rfl⟩
  exact ⟨⟨pb, h4, h5.keeps ks⟩, ⟨tv, h6, h7.keeps ks⟩, h.min, hf⟩

structure GwStep (r : Rl) (B : Nat) (w : World) (gb : Nat) (r' : Rl) (w' : World) (g' : GateS) : Prop where
  rep : GwRep r' B w' gb g'
  fr : Fr r w w'
  gr : Grows r w r'
theorem GwStep.trans {r r1 r2 : Rl} {B : Nat} {w w1 w2 : World} {gb : Nat} {g1 g2 : GateS} (h : GwStep r B w gb r1 w1 g1) (k : GwStep r1 B w1 gb r2 w2 g2) : GwStep r B w gb r2 w2 g2 :=
  ⟨k.rep, h.fr.trans h.gr k.fr, h.gr.trans h.fr.size k.gr⟩
theorem GwStep.here {r : Rl} {B : Nat} {w w' : World} {gb : Nat} {g : GateS} (h : GwRep r B w gb g) (q : Q w w') : GwStep r B w gb r w' g := ⟨h.stays q, Fr.ofQ q, Grows.refl _ _⟩

/-- One connection is another one now, of the same number. -/
theorem GwRep.upd {r r' : Rl} {B : Nat} {w w' : World} {gb : Nat} {g : GateS} {i cb : Nat} {c c' : ConnS} {cv : Value} {cbs : List Nat} (h : GwRep r B w gb g) (ok : GOk g)
    (hcv : w.cell? ⟨gb, 4, none⟩ = some cv) (hown : w.ownsRow B 95 1 cv cbs.length (cbs.map ptr)) (hrow : ∀ k, cv.ownBlock = some k → r k = some .row) (hcs : Conns r B w cbs g.conns)
    (hi : g.conns[i]? = some c) (hb : cbs[i]? = some cb) (hc : ConnRep r' B w' cb c')
    (hs : ∀ b k, r b = some k → k ≠ .conn c.num → k ≠ .wait c.num → r' b = r b ∧ SameAt w w' b) (hlt : ∀ b, r' b ≠ none → b < w'.heap.size ∧ B ≤ b) :
    GwRep r' B w' gb { g with conns := g.conns.set i c' } := by
  obtain ⟨h1, h2, h3, ⟨pb, h4, h5⟩, ⟨tv, h6, h7⟩, h8, h9, h10, _⟩ := h
  obtain ⟨eg, sg⟩ := hs gb _ h3 (by simp) (by simp)
  have ks : Keeps (fun b => r b = some .stat) (fun b => r' b = some .stat) w w' := fun b hb => by
    obtain ⟨e1, e2⟩ := hs b _ hb (by simp) (by simp)
    exact ⟨by show r' b = _; rw [e1]; exact hb, fun o => e2.cell o⟩
  refine ⟨fun b hb => (hlt b hb).1, fun b hb => (hlt b hb).2, by rw [eg]; exact h3, ⟨pb, by rw [sg.cell]; exact h4, h5.keeps ks⟩, ⟨tv, by rw [sg.cell]; exact h6, h7.keeps ks⟩, by rw [sg.cell]; exact h8, by rw [sg.cell]; exact h9, fun o => by rw [sg.frozen]; exact h10 o, cv, cbs, by rw [sg.cell]; exact hcv, owns_same hown fun k hk => (hs k _ (hrow k hk) (by simp) (by simp)).2, fun k hk => by rw [(hs k _ (hrow k hk) (by simp) (by simp)).1]; exact hrow k hk, ?_⟩
  refine hcs.upd hi hb hc fun j d hj hd b hbr => ?_
  have hne : d.num ≠ c.num := fun e => hj (ok.nums j i d c hd hi e)
  rcases hbr with hbr | hbr
  · exact hs b _ hbr (fun e => hne (by injection e)) (by simp)
  · exact hs b _ hbr (by simp) (fun e => hne (by injection e))

def FindPost (cs : List ConnS) (cbs : List Nat) (n : Int) (w : World) (e : Ending) (w' : World) : Prop :=
  w' = w ∧ ((∃ (i : Nat) (c : ConnS) (cb : Nat), cs[i]? = some c ∧ cbs[i]? = some cb ∧ (c.num : Int) = n ∧ e = .returned (ptr cb)) ∨ ((∀ c ∈ cs, (c.num : Int) ≠ n) ∧ e = .returned (.pointer none)))

set_option maxRecDepth 100000 in
set_option maxHeartbeats 800000 in
theorem find_any (r : Rl) (B gb : Nat) (n : Int) (cv : Value) (cbs : List Nat) (cs : List ConnS) (w : World)
    (hcv : w.cell? ⟨gb, 4, none⟩ = some cv) (hown : w.ownsRow B 95 1 cv cbs.length (cbs.map ptr)) (hcs : Conns r B w cbs cs) (hl : cs.length ≤ 1000) :
    Calls Tryz.prog 50 #[ptr gb, .int .i64 n] w fun e w' => FindPost cs cbs n w e w' := by
  obtain ⟨a, cap, rfl, hread⟩ : ∃ a cap, cv = .slice a cbs.length cap ∧ ∀ (i : Nat) (b : Nat), cbs[i]? = some b → ∃ g, a = some ⟨g, 0, none⟩ ∧ w.cell? ⟨g, i, none⟩ = some (ptr b) := by
    rcases hown.2 with ⟨hv, hn⟩ | ⟨g, cap, cur, hv, hb, hg, h4, h5, h6, h7⟩
    · refine ⟨none, 0, by rw [hv, hn], fun i b hi => ?_⟩
      have := List.eq_nil_of_length_eq_zero hn
      subst this
      simp at hi
    · refine ⟨_, cap, hv, fun i b hi => ⟨g, rfl, ?_⟩⟩
      rw [cell_of_row w g i cur 95 (0, 0) hg]
      have hj : (cur.toList.take (cbs.length * 1))[i]? = some (ptr b) := by
        rw [h7, List.getElem?_map, hi]; rfl
      rw [List.getElem?_take] at hj
      split at hj
      · simpa using hj
      · cases hj
  have hlen := hcs.len
  have HR := show Hid _ from hread
  have HC := show Hid _ from hcs.get
  have hgl := Q.lt hcv
  clear hread hown hcs
  go_enter Tryz.func50, Tryz.ntmps50
  go_wp2_with fail
  go_loop [12, 6] (fun i _ => ∃ k : Nat, k ≤ cbs.length ∧ i = .int .i64 k ∧ Hid (∀ (j : Nat) (c : ConnS), j < k → cs[j]? = some c → (c.num : Int) ≠ n)) (fun i _ => cbs.length - (intOf i).toNat)
  case atStart => exact ⟨0, Nat.zero_le _, rfl, fun j c hj => absurd hj (Nat.not_lt_zero _)⟩
  case round =>
    obtain ⟨k, hk, rfl, hall⟩ := hrel
    by_cases hlt : k < cbs.length
    · have hget : cs[k]? = some cs[k] := List.getElem?_eq_getElem (by omega)
      obtain ⟨cb, hcb, hrep⟩ := HC.out k _ hget
      obtain ⟨g, rfl, hcell⟩ := HR.out k cb hcb
      have h0 := hrep.c0
      generalize cs[k] = c at *
      clear hrep
      by_cases he : (c.num : Int) = n
      · have d1 : ((c.num : Int) == n) = true := by rw [beq_iff_eq]; exact he
        have HG := show Hid _ from hget
        have HCB := show Hid _ from hcb
        have HE := show Hid _ from he
        clear hget hcb he
        go_wp2_with fail
        go_ret
        exact ⟨rfl, .inl ⟨k, c, cb, HG.out, HCB.out, HE.out, rfl⟩⟩
      · have d1 : ((c.num : Int) == n) = false := by rw [beq_eq_false_iff_ne]; exact he
        have HN : Hid (∀ (j : Nat) (d : ConnS), j < k + 1 → cs[j]? = some d → (d.num : Int) ≠ n) := fun j d hj hd => by
          by_cases hjk : j = k
          · subst hjk
            rw [hget] at hd
            cases hd
            exact he
          · exact hall.out j d (by omega) hd
        clear hget hcb he hall
        go_wp2_with fail
        exact ⟨⟨k + 1, by omega, by go_num, HN.out⟩, by simp [intOf]; omega⟩
    · have HN : Hid (∀ c ∈ cs, (c.num : Int) ≠ n) := fun c hc => by
        obtain ⟨j, hj⟩ := List.getElem?_of_mem hc
        have := (List.getElem?_eq_some_iff.1 hj).1
        exact hall.out j c (by omega) hj
      clear hall
      go_wp2_with fail
      go_ret
      exact ⟨rfl, .inr ⟨HN.out, rfl⟩⟩
end Go.Proofs.YtdmaffciijmdcaaGreatDoor

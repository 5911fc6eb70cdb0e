/-
  The document's answer: Accept.
-/
import Derived.Test.YtdmaffciijmdcaaGreatDoorRG18C
import Derived.Deep.RegionLaw
namespace Go.Proofs.YtdmaffciijmdcaaGreatDoor
open Go.RowKit Plain

/-- One connection more: the row is the old one, grown, or a new one. -/
theorem RGwRep.more {r : Rl} {B : Nat} {w w' : World} {gb : Nat} {g : GateS} (h : RGwRep r B w gb g) {cv : Value} (h12 : w.cell? ⟨gb, 3, none⟩ = some cv) {ge cap n : Nat} {cs : List ConnS} {l : Nat}
    (hs : ∀ b, b < w.heap.size → b ≠ gb → some b ≠ cv.ownBlock → SameAt w w' b) (hz : w.heap.size ≤ w'.heap.size) (hc : ∀ o, o ≠ 3 → o ≠ 4 → w'.cell? ⟨gb, o, none⟩ = w.cell? ⟨gb, o, none⟩) (hf : ∀ o, w'.frozen? ⟨gb, o, none⟩ = false)
    (h4 : w'.cell? ⟨gb, 4, none⟩ = some (.int .i64 (l : Int))) (h3 : w'.cell? ⟨gb, 3, none⟩ = some (.slice (some ⟨ge, 0, none⟩) n cap)) (hn : n = cs.length) (hown : w'.ownsRow B 129 6 (.slice (some ⟨ge, 0, none⟩) n cap) n (connVals cs))
    (hat : cv.ownBlock = some ge ∨ w.heap.size ≤ ge) (ho : w'.os = w.os ∧ w'.tape = w.tape ∧ w'.output = w.output) :
    ∃ r', RGwStep r B w gb r' w' { g with last := l, conns := cs } ∧ ∀ b, r' b ≠ none → r b ≠ none ∨ b = ge := by
  obtain ⟨rv, rows, a4, a5, a6⟩ := h.rules
  obtain ⟨uv, us, a7, a8, a9⟩ := h.users
  obtain ⟨cv', a12, _, a14⟩ := h.con
  rw [h12] at a12
  cases a12
  have hge := owns_lt hown ge rfl
  have hrole : ∀ b x, r b = some x → x ≠ .row → b ≠ ge := fun b x hb hx e => by
    subst e
    rcases hat with h1 | h1
    · rw [a14 b h1] at hb
      cases hb
      exact hx rfl
    · have := h.lt b (by rw [hb]; simp)
      omega
  have hr' : ∀ b x, r b = some x → x ≠ .row → (if b = ge then some Kd.row else r b) = some x := fun b x hb hx => by rw [if_neg (hrole b x hb hx)]; exact hb
  have sm : ∀ b x, r b = some x → x ≠ .row → x ≠ .gw → SameAt w w' b := fun b x hb hx hx2 => hs b (h.lt b (by rw [hb]; simp)) (fun e => by
    rw [e, h.role] at hb
    cases hb
    exact hx2 rfl) (fun e => by
    rw [a14 b e.symm] at hb
    cases hb
    exact hx rfl)
  have ks : Keeps (fun b => r b = some .stat) (fun b => (if b = ge then some Kd.row else r b) = some .stat) w w' := fun b hb => ⟨hr' b _ hb (by simp), fun o => (sm b _ hb (by simp) (by simp)).cell o⟩
  refine ⟨fun b => if b = ge then some .row else r b, ⟨⟨fun b hb => ?_, fun b hb => ?_, hr' gb _ h.role (by simp), ⟨rv, rows, by rw [hc 0 (by decide) (by decide)]; exact a4, a5.keeps ks, a6⟩, ⟨uv, us, by rw [hc 1 (by decide) (by decide)]; exact a7, a8.keeps ks, a9⟩, by rw [hc 2 (by decide) (by decide)]; exact h.min, h.minB, ⟨_, h3, by rw [← hn]; exact hown, fun k hk => ?_⟩, h4, hf⟩, ⟨ho.1, ho.2.1, ho.2.2, hz, fun k hk hr => hs k hk (fun e => by rw [e, h.role] at hr; cases hr) (fun e => by rw [a14 k e.symm] at hr; cases hr)⟩, fun b hb => ?_, fun b hb => ?_⟩, fun b hb => ?_⟩
  · by_cases e : b = ge
    · rw [e]; exact hge.2
    · have hb' : r b ≠ none := by simpa [e] using hb
      have := h.lt b hb'; omega
  · by_cases e : b = ge
    · rw [e]; exact hge.1
    · exact h.low b (by simpa [e] using hb)
  · have e : ge = k := by simpa [Value.ownBlock] using hk
    rw [if_pos e.symm]
  · by_cases e : b = ge
    · subst e
      rcases hat with h1 | h1
      · exact .inl (by rw [a14 b h1]; simp)
      · exact .inr h1
    · exact .inl (by simpa [e] using hb)
  · by_cases e : b = ge
    · simp [e]
    · simpa [e] using hb
  · by_cases e : b = ge
    · exact .inr e
    · exact .inl (by simpa [e] using hb)

/-- What Accept answers. -/
def RAcceptPost (r : Rl) (B : Nat) (gb : Nat) (g : GateS) (w : World) (e : Ending) (w' : World) : Prop :=
  (8 ≤ g.conns.length ∧ w' = w ∧ e = .returned (.tuple #[.int .i64 0, .int .i64 6])) ∨
  (g.conns.length < 8 ∧ e = .returned (.tuple #[.int .i64 ((g.last + 1 : Nat) : Int), .int .i64 0]) ∧ ∃ r', RGwStep r B w gb r' w' g.accept)

set_option maxRecDepth 100000 in
set_option maxHeartbeats 3200000 in
theorem raccept_any {r : Rl} {B : Nat} {w : World} {gb : Nat} {g : GateS} (h : RGwRep r B w gb g) (ok : GOk g) :
    Calls Tryz.prog 69 #[ptr gb] w fun e w' => RAcceptPost r B gb g w e w' := by
  obtain ⟨cv, h1, h2, h3⟩ := h.con
  obtain ⟨co, cc, rfl⟩ := slice_form h2
  have hf := ok.few
  have ht := ok.top
  by_cases h8 : 8 ≤ g.conns.length
  · have d8 : decide ((8 : Int) ≤ (g.conns.length : Int)) = true := decide_eq_true (by omega)
    have H8 := show Hid _ from h8
    clear h8 h2 h3 h ok
    go_enter Tryz.func69, Tryz.ntmps69
    go_wp2_with fail
    go_ret2
    exact .inl ⟨H8.out, rfl, rfl⟩
  · have d8 : decide ((8 : Int) ≤ (g.conns.length : Int)) = false := decide_eq_false (by omega)
    have H8 : Hid (g.conns.length < 8) := by show _ < _; omega
    have hl := h.last
    have hfz4 := h.fz 4
    have hgb := h.inB
    have HR : Hid (RGwRep r B w gb g) := h
    have hgne : ∀ k, (Value.slice co g.conns.length cc).ownBlock = some k → k ≠ gb := fun k hk e => by
      have := h3 k hk
      rw [e, h.role] at this
      cases this
    obtain ⟨L, hL⟩ : ∃ L : Int, L = (g.last : Int) + 1 := ⟨_, rfl⟩
    have hl4 : (w.setCell ⟨gb, 4, none⟩ (.int .i64 L)).cell? ⟨gb, 4, none⟩ = some (.int .i64 L) := set_same hl
    have hl3 : (w.setCell ⟨gb, 4, none⟩ (.int .i64 L)).cell? ⟨gb, 3, none⟩ = some (.slice co g.conns.length cc) := by rw [set_other (fun e => by injection e with _ e2; cases e2)]; exact h1
    have hown1 : (w.setCell ⟨gb, 4, none⟩ (.int .i64 L)).ownsRow B 129 6 (.slice co g.conns.length cc) g.conns.length (connVals g.conns) := owns_same h2 fun k hk => set_same_at (hgne k hk)
    have q1 : Q (w.setCell ⟨gb, 4, none⟩ (.int .i64 L)) ((w.setCell ⟨gb, 4, none⟩ (.int .i64 L)).alloc (.cells #[.int .i64 L, .string ⟨#[]⟩, .int .i64 0, .int .i64 0, .bool false, .bool false] 129)).drew := ((Q.refl _).alloc _).drew
    have HO := show Hid _ from owns_Q hown1 q1
    have hszW : ((w.setCell ⟨gb, 4, none⟩ (.int .i64 L)).alloc (.cells #[.int .i64 L, .string ⟨#[]⟩, .int .i64 0, .int .i64 0, .bool false, .bool false] 129)).drew.heap.size = w.heap.size + 1 := by simp
    have HNw : Hid (∀ j u, (connOf ⟨g.last + 1, 0, 0, [], false, false⟩)[j]? = some u → ((w.setCell ⟨gb, 4, none⟩ (.int .i64 L)).alloc (.cells #[.int .i64 L, .string ⟨#[]⟩, .int .i64 0, .int .i64 0, .bool false, .bool false] 129)).drew.cell? ((⟨w.heap.size, 0, none⟩ : Addr).add j) = some u) := by
      have hb : ((w.setCell ⟨gb, 4, none⟩ (.int .i64 L)).alloc (.cells #[.int .i64 L, .string ⟨#[]⟩, .int .i64 0, .int .i64 0, .bool false, .bool false] 129)).drew.heap[w.heap.size]? = some (.cells #[.int .i64 L, .string ⟨#[]⟩, .int .i64 0, .int .i64 0, .bool false, .bool false] 129 (0, 0)) := by
        have h0 : (w.setCell ⟨gb, 4, none⟩ (.int .i64 L)).heap.size = w.heap.size := by simp
        have := heap_alloc_new (w.setCell ⟨gb, 4, none⟩ (.int .i64 L)) (.cells #[.int .i64 L, .string ⟨#[]⟩, .int .i64 0, .int .i64 0, .bool false, .bool false] 129)
        rw [h0] at this
        exact this
      have := World.news_of_block hb
      intro j u hu
      refine this j u ?_
      rw [hL]
      exact hu
    have HFin : Hid (∀ (ge cap : Nat) (w3 : World), w3.ownsRow B 129 6 (.slice (some ⟨ge, 0, none⟩) (g.conns.length + 1) cap) (g.conns.length + 1) (connVals g.conns ++ connOf ⟨g.last + 1, 0, 0, [], false, false⟩) → ((w.setCell ⟨gb, 4, none⟩ (.int .i64 L)).alloc (.cells #[.int .i64 L, .string ⟨#[]⟩, .int .i64 0, .int .i64 0, .bool false, .bool false] 129)).drew.grownBy w3 (Value.slice co g.conns.length cc).ownBlock → ((Value.slice co g.conns.length cc).ownBlock = some ge ∨ ge = w.heap.size + 1) →
        w3.cell? ⟨gb, 4, none⟩ = some (.int .i64 L) ∧ w3.cell? ⟨gb, 3, none⟩ = some (.slice co g.conns.length cc) ∧ w3.frozen? ⟨gb, 3, none⟩ = false ∧ gb < w3.heap.size ∧ ∃ r', RGwStep r B w gb r' (w3.setCell ⟨gb, 3, none⟩ (.slice (some ⟨ge, 0, none⟩) (g.conns.length + 1) cap)) g.accept) := by
      intro ge cap w3 hown3 hgrow hat3
      have hgw : some gb ≠ (Value.slice co g.conns.length cc).ownBlock := fun e => hgne gb e.symm rfl
      have hsz3 := hgrow.size
      rw [hszW] at hsz3
      have hgW : ∀ o, w3.cell? ⟨gb, o, none⟩ = (w.setCell ⟨gb, 4, none⟩ (.int .i64 L)).cell? ⟨gb, o, none⟩ := fun o => by
        rw [hgrow.cell_far ⟨gb, o, none⟩ (by rw [hszW]; show gb < _; omega) hgw]
        exact q1.cells.1 gb o (by simpa using hgb.2)
      have hfW : ∀ o, w3.frozen? ⟨gb, o, none⟩ = false := fun o => by
        rw [hgrow.frozen_far ⟨gb, o, none⟩ (by rw [hszW]; show gb < _; omega) hgw, q1.cells.2 gb o (by simpa using hgb.2), World.frozen?_setCell]
        exact HR.out.fz o
      have hgegb : ge ≠ gb := by
        rcases hat3 with e | e
        · exact hgne ge e
        · omega
      have e4 : w3.cell? ⟨gb, 4, none⟩ = some (.int .i64 L) := by rw [hgW]; exact hl4
      have e3 : w3.cell? ⟨gb, 3, none⟩ = some (.slice co g.conns.length cc) := by rw [hgW]; exact hl3
      refine ⟨e4, e3, hfW 3, by omega, ?_⟩
      have hcs : connVals (g.conns ++ [⟨g.last + 1, 0, 0, [], false, false⟩]) = connVals g.conns ++ connOf ⟨g.last + 1, 0, 0, [], false, false⟩ := by rw [connVals_append]; simp [connVals]
      obtain ⟨r', hs', _⟩ := HR.out.more (w' := w3.setCell ⟨gb, 3, none⟩ (.slice (some ⟨ge, 0, none⟩) (g.conns.length + 1) cap)) h1 (ge := ge) (cap := cap) (n := g.conns.length + 1) (cs := g.conns ++ [⟨g.last + 1, 0, 0, [], false, false⟩]) (l := g.last + 1)
        (fun b hb hne hrow => SameAt.trans' (SameAt.trans' (set_same_at hne) (SameAt.trans' (Below.block q1 b (by simpa using hb)) (hgrow.block b (by rw [hszW]; omega) hrow))) (set_same_at hne))
        (by simp; omega) (fun o ho3 ho4 => by rw [set_other (fun e => by injection e with _ e2; exact ho3 e2.symm), hgW, set_other (fun e => by injection e with _ e2; exact ho4 e2.symm)]) (fun o => by rw [World.frozen?_setCell]; exact hfW o)
        (by rw [set_other (fun e => by injection e with _ e2; cases e2), e4, hL]; simp) (set_same e3) (by simp)
        (by rw [hcs]; exact owns_same hown3 fun k hk => set_same_at (fun e => hgegb ((show ge = k by simpa [Value.ownBlock] using hk).trans e)))
        (by rcases hat3 with e | e
            · exact .inl e
            · exact .inr (by omega)) ⟨hgrow.os, hgrow.tape, hgrow.output⟩
      exact ⟨r', hs'⟩
    have HOne : Hid (∀ u ∈ connOf ⟨g.last + 1, 0, 0, [], false, false⟩, u.oneCell' = true) := connOf_one _
    have HLe : Hid (L = ((g.last + 1 : Nat) : Int)) := by show _ = _; rw [hL]; simp
    have hLb : L ≤ 1000000000001 := by omega
    have hL0 : 0 ≤ L := by omega
    have HBB : Hid (B ≤ ((w.setCell ⟨gb, 4, none⟩ (.int .i64 L)).alloc (.cells #[.int .i64 L, .string ⟨#[]⟩, .int .i64 0, .int .i64 0, .bool false, .bool false] 129)).drew.heap.size) := by show _ ≤ _; rw [hszW]; omega
    have hL' : (g.last : Int) + 1 = L := hL.symm
    have hfz3 : (w.setCell ⟨gb, 4, none⟩ (.int .i64 L)).frozen? ⟨gb, 3, none⟩ = false := by rw [World.frozen?_setCell]; exact HR.out.fz 3
    have hcn : g.conns.length ≤ 8 := hf
    have hLen : (connOf ⟨g.last + 1, 0, 0, [], false, false⟩).length = 1 * 6 := rfl
    have HLen := show Hid _ from hLen
    generalize connOf ⟨g.last + 1, 0, 0, [], false, false⟩ = NC at *
    obtain ⟨la, hla⟩ : ∃ x : Int, x = (g.last : Int) := ⟨_, rfl⟩
    rw [← hla] at hl hL'
    clear hL hla ht h8 h2 h3 h ok hown1 q1 hgne hLen
    go_enter Tryz.func69, Tryz.ntmps69
    go_wp2_with fail
    go_region_law (refine step_append_lies _ rfl (.tmp 21) (.tmp 27) 131 rfl B 129 Tryz.t129 (.agg #[.int .i64 0, .string ⟨#[]⟩, .int .i64 0, .int .i64 0, .bool false, .bool false]) 6 48 Tryz.underlying131 (by kernel_rfl) (by kernel_rfl) (by kernel_rfl) (by kernel_rfl) rfl (by decide) (.slice co g.conns.length cc) g.conns.length (connVals g.conns) (by simp [Act.eval]) HO.out ⟨w.heap.size, 0, none⟩ 1 1 NC (by simp [Act.eval]) HLen.out HNw.out HOne.out (by decide) (by unfold maxLen; omega) (by omega) HBB.out (w.heap.size + 1) hszW ?_; intro ge cap w3 hown3 hgrow hat3 _; obtain ⟨y4, y3, yf, yl, yr⟩ := HFin.out ge cap w3 hown3 hgrow hat3; have HYR := show Hid _ from yr; clear yr hown3 hgrow hat3)
    all_goals
      go_wp2_with fail
      go_ret2
      exact .inr ⟨H8.out, by rw [← HLe.out]; rfl, HYR.out⟩
end Go.Proofs.YtdmaffciijmdcaaGreatDoor

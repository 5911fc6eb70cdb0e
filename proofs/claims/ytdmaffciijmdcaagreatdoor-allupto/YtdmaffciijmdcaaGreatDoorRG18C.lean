/-
  The document's answer: Tick.
-/
import Derived.Test.YtdmaffciijmdcaaGreatDoorRG16ToRG17
namespace Go.Proofs.YtdmaffciijmdcaaGreatDoor
open Go.RowKit Plain

/-- The minute is another one now. -/
theorem RGwRep.setMin {r : Rl} {B : Nat} {w w' : World} {gb : Nat} {g : GateS} (h : RGwRep r B w gb g) (m : Int) (hm : 0 ≤ m ∧ m < 10080) (hs : ∀ b, b ≠ gb → SameAt w w' b) (hc : ∀ o, o ≠ 2 → w'.cell? ⟨gb, o, none⟩ = w.cell? ⟨gb, o, none⟩) (h2 : w'.cell? ⟨gb, 2, none⟩ = some (.int .i64 m)) (hf : ∀ o, w'.frozen? ⟨gb, o, none⟩ = w.frozen? ⟨gb, o, none⟩) (hz : w'.heap.size = w.heap.size) (ho : w'.os = w.os ∧ w'.tape = w.tape ∧ w'.output = w.output) :
    RGwStep r B w gb r w' { g with minute := m } := by
  obtain ⟨rv, rows, h4, h5, h6⟩ := h.rules
  obtain ⟨uv, us, h7, h8, h9⟩ := h.users
  obtain ⟨cv, h12, h13, h14⟩ := h.con
  have ne : ∀ b k, r b = some k → k ≠ .gw → b ≠ gb := fun b k hb hk e => by
    rw [e, h.role] at hb
    cases hb
    exact hk rfl
  have ks : Keeps (fun b => r b = some .stat) (fun b => r b = some .stat) w w' := fun b hb => ⟨hb, fun o => (hs b (ne b _ hb (by simp))).cell o⟩
  exact ⟨⟨fun b hb => by rw [hz]; exact h.lt b hb, h.low, h.role, ⟨rv, rows, by rw [hc 0 (by decide)]; exact h4, h5.keeps ks, h6⟩, ⟨uv, us, by rw [hc 1 (by decide)]; exact h7, h8.keeps ks, h9⟩, h2, hm, ⟨cv, by rw [hc 3 (by decide)]; exact h12, owns_same h13 fun k hk => hs k (ne k _ (h14 k hk) (by simp)), h14⟩, by rw [hc 4 (by decide)]; exact h.last, fun o => by rw [hf]; exact h.fz o⟩, ⟨ho.1, ho.2.1, ho.2.2, by omega, fun k _ hr => hs k (fun e => by rw [e, h.role] at hr; cases hr)⟩, Grows.refl _ _⟩

/-- While Tick goes through the connections. -/
structure TInv (W wr : World) (ov lv : Value) (le : List EvS) (lc : List ConnS) : Prop where
  q : Q W wr
  oo : wr.ownsRow W.heap.size 48 4 ov le.length (evVals le)
  ll : wr.ownsRow W.heap.size 129 6 lv lc.length (connVals lc)
  apart : ∀ k, ov.ownBlock = some k → lv.ownBlock ≠ some k
theorem TInv.stays {W wr w' : World} {ov lv : Value} {le : List EvS} {lc : List ConnS} (h : TInv W wr ov lv le lc) (q : Q wr w') : TInv W w' ov lv le lc := ⟨h.q.trans q, owns_Q h.oo q, owns_Q h.ll q, h.apart⟩
theorem owns_farR {W w' : World} {B : Nat} {e : TypeId} {size : Nat} {v : Value} {n : Nat} {xs : List Value} {row : Option Nat} (h : W.ownsRow B e size v n xs) (hg : W.grownBy w' row) (hne : ∀ k, v.ownBlock = some k → some k ≠ row) : w'.ownsRow B e size v n xs := by
  refine ⟨h.1, ?_⟩
  rcases h.2 with hn | ⟨g, cap, cur, hv, hb, hgg, r⟩
  · exact .inl hn
  · exact .inr ⟨g, cap, cur, hv, hb, by rw [hg.block g (Array.getElem?_eq_some_iff.1 hgg).1 (hne g (by rw [hv]; rfl))]; exact hgg, r⟩
theorem TInv.evs {W wr w' : World} {ov lv : Value} {le : List EvS} {lc : List ConnS} {e : EvS} {T : TypeId} {g cap : Nat} (h : TInv W wr ov lv le lc) (ho : w'.ownsRow W.heap.size 48 4 (.slice (some ⟨g, 0, none⟩) (le.length + 1) cap) (le.length + 1) (evVals le ++ evOf e)) (hb : Below W.heap.size wr w') (hg : (wr.alloc (.cells (evOf e).toArray T)).grownBy w' ov.ownBlock) (hat : ov.ownBlock = some g ∨ g = wr.heap.size + 1) :
    TInv W w' (.slice (some ⟨g, 0, none⟩) (le.length + 1) cap) lv (le ++ [e]) lc := by
  have hl := owns_lt h.ll
  refine ⟨Below.trans h.q hb, by rw [List.length_append, evVals_append, evVals_one]; exact ho, owns_farR (owns_Q h.ll ((Q.refl _).alloc _)) hg fun k hk e => h.apart k e.symm hk, fun k hk e => ?_⟩
  have ek : g = k := by simpa [Value.ownBlock] using hk
  subst ek
  rcases hat with h1 | h1
  · exact h.apart _ h1 e
  · have := (hl _ e).2; omega
theorem TInv.con {W wr w' : World} {ov lv : Value} {le : List EvS} {lc : List ConnS} {c : ConnS} {T : TypeId} {g cap : Nat} (h : TInv W wr ov lv le lc) (ho : w'.ownsRow W.heap.size 129 6 (.slice (some ⟨g, 0, none⟩) (lc.length + 1) cap) (lc.length + 1) (connVals lc ++ connOf c)) (hb : Below W.heap.size wr w') (hg : (wr.alloc (.cells (connOf c).toArray T)).grownBy w' lv.ownBlock) (hat : lv.ownBlock = some g ∨ g = wr.heap.size + 1) :
    TInv W w' ov (.slice (some ⟨g, 0, none⟩) (lc.length + 1) cap) le (lc ++ [c]) := by
  have hl := owns_lt h.oo
  have e1 : connVals [c] = connOf c := by simp [connVals]
  refine ⟨Below.trans h.q hb, owns_farR (owns_Q h.oo ((Q.refl _).alloc _)) hg fun k hk e => h.apart k hk e.symm, by rw [List.length_append, connVals_append, e1]; exact ho, fun k hk e => ?_⟩
  have ek : g = k := by simpa [Value.ownBlock] using e
  subst ek
  rcases hat with h1 | h1
  · exact h.apart _ hk h1
  · have := (hl _ hk).2; omega
theorem evOf_oneR (e : EvS) : ∀ u ∈ evOf e, u.oneCell' = true := by
  intro u hu
  simp only [evOf, List.mem_cons, List.not_mem_nil, or_false] at hu
  rcases hu with rfl | rfl | rfl | rfl <;> rfl

/-- What Tick answers. -/
def RTickPost (r : Rl) (B : Nat) (gb : Nat) (g : GateS) (m : Int) (w : World) (e : Ending) (w' : World) : Prop :=
  ((m < 1 ∨ 10080 ≤ m) ∧ w' = w ∧ e = .returned (.tuple #[.slice none 0 0, .int .i64 5])) ∨
  ((1 ≤ m ∧ m < 10080) ∧ RGwPostE r B gb (tickS g m).1 (tickS g m).2 0 w e w')

set_option maxRecDepth 100000 in
set_option maxHeartbeats 3200000 in
theorem rtick_any {r : Rl} {B : Nat} {w : World} {gb : Nat} {g : GateS} (h : RGwRep r B w gb g) (ok : GOk g) (hsil : ∀ c ∈ g.conns, 0 ≤ c.silent ∧ c.silent < 10) (m : Int) :
    Calls Tryz.prog 75 #[ptr gb, .int .i64 m] w fun e w' => RTickPost r B gb g m w e w' := by
  by_cases hm : m < 1 ∨ 10080 ≤ m
  · have HM := show Hid _ from hm
    clear h ok hsil
    by_cases h1 : m < 1
    · have d1 : decide (m < 1) = true := decide_eq_true h1
      clear hm h1
      go_enter Tryz.func75, Tryz.ntmps75
      go_wp2_with fail
      go_ret2
      exact .inl ⟨HM.out, rfl, rfl⟩
    · have d1 : decide (m < 1) = false := decide_eq_false h1
      have d2 : decide (10080 ≤ m) = true := decide_eq_true (by omega)
      clear hm h1
      go_enter Tryz.func75, Tryz.ntmps75
      go_wp2_with fail
      go_ret2
      exact .inl ⟨HM.out, rfl, rfl⟩
  have hm1 : 1 ≤ m ∧ m < 10080 := by omega
  have d1 : decide (m < 1) = false := decide_eq_false (by omega)
  have d2 : decide (10080 ≤ m) = false := decide_eq_false (by omega)
  have HR : Hid (RGwRep r B w gb g) := h
  have HOK : Hid (GOk g) := ok
  have HSil := show Hid _ from hsil
  have hgb := h.inB.2
  have hmin := h.min
  have hmb := h.minB
  have hfz := h.fz 2
  clear h ok hsil hm
  obtain ⟨M, hM⟩ : ∃ M, M = g.minute := ⟨_, rfl⟩
  have HMM := show Hid _ from hM
  rw [← hM] at hmin hmb
  clear hM
  go_enter Tryz.func75, Tryz.ntmps75
  go_upto_if 29 with fail
  go_cut [16] (fun p wx => p = ptr gb ∧ Hid (RGwStep r B w gb r wx { g with minute := (tickS g m).1.minute }))
  case first =>
    have hset : ∀ a, (w.setCell ⟨gb, 2, none⟩ a).cell? ⟨gb, 2, none⟩ = some a := fun a => set_same hmin
    by_cases h10 : 10080 ≤ M + m
    · have d3 : decide (10080 ≤ M + m) = true := decide_eq_true h10
      have HT : Hid ((tickS g m).1.minute = M + m - 10080) := by
        show (if 10080 ≤ g.minute + m then g.minute + m - 10080 else g.minute + m) = _
        rw [← HMM.out, if_pos h10]
      go_wp2_with fail
      go_meet
      refine ⟨rfl, ?_⟩
      rw [HT.out]
      exact HR.out.setMin (M + m - 10080) ⟨by omega, by omega⟩ (fun b hb => SameAt.trans' (set_same_at hb) (set_same_at hb)) (fun o ho => by rw [set_other (fun e => by injection e with _ e2; exact ho e2.symm), set_other (fun e => by injection e with _ e2; exact ho e2.symm)]) (set_same (set_same hmin)) (fun o => by rw [World.frozen?_setCell, World.frozen?_setCell]) (by simp) ⟨rfl, rfl, rfl⟩
    · have d3 : decide (10080 ≤ M + m) = false := decide_eq_false h10
      have HT : Hid ((tickS g m).1.minute = M + m) := by
        show (if 10080 ≤ g.minute + m then g.minute + m - 10080 else g.minute + m) = _
        rw [← HMM.out, if_neg h10]
      go_wp2_with fail
      go_meet
      refine ⟨rfl, ?_⟩
      rw [HT.out]
      exact HR.out.setMin (M + m) ⟨by omega, by omega⟩ (fun b hb => set_same_at hb) (fun o ho => by rw [set_other (fun e => by injection e with _ e2; exact ho e2.symm)]) (set_same hmin) (fun o => by rw [World.frozen?_setCell]) (by simp) ⟨rfl, rfl, rfl⟩
  case rest =>
    obtain ⟨rfl, hst⟩ := hcut
    obtain ⟨W0, hW0⟩ : ∃ W, W = wc := ⟨_, rfl⟩
    subst hW0
    obtain ⟨cv, h10, h2, _⟩ := hst.out.rep.con
    obtain ⟨co, cc, rfl⟩ := slice_form h2
    have HO : Hid (W0.ownsRow B 129 6 (.slice co g.conns.length cc) g.conns.length (connVals g.conns)) := h2
    have h1 : W0.cell? ⟨gb, 3, none⟩ = some (.slice co g.conns.length cc) := h10
    have hfz3 := hst.out.rep.fz 3
    have hgb1 := hst.out.rep.inB.2
    have hf := HOK.out.few
    clear h2 h10 hmin hfz
    obtain ⟨cn, hcn⟩ : ∃ k, k = g.conns.length := ⟨_, rfl⟩
    have HCN := show Hid _ from hcn
    rw [← hcn] at h1 HO hf
    clear hcn
    have HE := fun kd num x => show Hid _ from revent_any kd num ⟨#[]⟩ x
    go_wp2_with fail
    go_loopw [6, 7, 8, 9] (fun ov lv i _ wr => ∃ k : Nat, k ≤ cn ∧ i = .int .i64 (k : Int) ∧ Hid (TInv W0 wr ov lv (overOf m (g.conns.take k)) (stayOf m (g.conns.take k)))) (fun _ _ i _ _ => cn - (intOf i).toNat)
    case atStart => exact ⟨0, Nat.zero_le _, rfl, ⟨Q.refl _, ⟨rfl, .inl ⟨rfl, rfl⟩⟩, ⟨rfl, .inl ⟨rfl, rfl⟩⟩, fun k hk => by cases hk⟩⟩
    case round =>
      obtain ⟨k, hk, rfl, hinv⟩ := hrel
      have x1 := hinv.out.q.cell h1
      by_cases hlt : k < cn
      · obtain ⟨c, hc⟩ : ∃ c, g.conns[k]? = some c := ⟨_, List.getElem?_eq_getElem (by rw [← HCN.out]; exact hlt)⟩
        obtain ⟨cg, cap, hv, _, _⟩ := owned_form HO.out (by omega)
        obtain ⟨rfl, rfl⟩ : co = some ⟨cg, 0, none⟩ ∧ cc = cap := by
          injection hv with e1 _ e3
          exact ⟨e1, e3⟩
        have cell : ∀ j u, j < 6 → (connOf c)[j]? = some u → wr.cell? ⟨cg, k * 6 + j, none⟩ = some u := fun j u hj hu => hinv.out.q.cell (owned_at HO.out (k * 6 + j) u ((connVals_get g.conns k c j hc hj).trans hu))
        have c0 : wr.cell? ⟨cg, k * 6, none⟩ = some (.int .i64 (c.num : Int)) := cell 0 _ (by decide) rfl
        have c1 := cell 1 _ (by decide) rfl
        have c2 := cell 2 _ (by decide) rfl
        have c3 := cell 3 _ (by decide) rfl
        have c4 := cell 4 _ (by decide) rfl
        have c5 := cell 5 _ (by decide) rfl
        unfold str at c1
        have hsl := HSil.out c (List.mem_of_getElem? hc)
        have HStep := show Hid _ from over_step (m := m) hc
        have hcgl : cg < wr.heap.size := Q.lt c0
        have hle : (stayOf m (g.conns.take k)).length ≤ 8 := by
          unfold stayOf
          rw [List.length_map]
          have := List.length_filter_le (fun c : ConnS => decide (c.silent + m < 10)) (g.conns.take k)
          rw [List.length_take] at this
          omega
        clear cell hv hc
        by_cases h10 : c.silent + m < 10
        · have d10 : decide (c.silent + m < 10) = true := decide_eq_true h10
          have HN := show Hid _ from HStep.out.1 h10
          have HI1 := show Hid _ from hinv.out.stays ((Q.refl wr).alloc (.cells (connOf { c with silent := c.silent + m }).toArray 129))
          have hsz := HI1.out.q.size
          have ew : wr.alloc (.cells (connOf { c with silent := c.silent + m }).toArray 129) = wr.alloc (.cells #[.int .i64 (c.num : Int), .string ⟨c.wait.toArray⟩, .int .i64 (c.stage : Int), .int .i64 (c.silent + m), .bool c.noMore, .bool c.hostEnd] 129) := rfl
          clear h10 HStep
          generalize overOf m (g.conns.take k) = Le at *
          generalize stayOf m (g.conns.take k) = Lc at *
          go_wp2_with (first | (at_builtin; refine append_el rfl (.tmp 62) (.tmp 64) 131 rfl 129 Tryz.t129 (.agg #[.int .i64 0, .string ⟨#[]⟩, .int .i64 0, .int .i64 0, .bool false, .bool false]) 6 48 Tryz.underlying131 (by kernel_rfl) (by kernel_rfl) (by kernel_rfl) (by kernel_rfl) rfl (by decide) u7 Lc.length (connVals Lc) (connOf { c with silent := c.silent + m }) rfl W0.heap.size (wr.alloc (.cells (connOf { c with silent := c.silent + m }).toArray 129)) rfl (by show Value.slice (some ⟨wr.heap.size + 1, 0, none⟩) 1 1 = _; simp) HI1.out.ll (connOf_one _) (by omega) (by decide) hsz ?_; intro g2 cap2 w2 ho2 hb2 hg2 hat2 _))
          refine ⟨⟨k + 1, by omega, by go_num, ?_⟩, by simp [intOf]; omega⟩
          show TInv _ _ _ _ _ _
          rw [HN.out.1, HN.out.2]
          exact HI1.out.con ho2 hb2 hg2 hat2
        · have d10 : decide (c.silent + m < 10) = false := decide_eq_false h10
          have HN := show Hid _ from HStep.out.2 h10
          have HI1 : Hid (TInv W0 (wr.alloc (.cells #[.int .i64 (c.num : Int), .string ⟨c.wait.toArray⟩, .int .i64 (c.stage : Int), .int .i64 (c.silent + m), .bool c.noMore, .bool c.hostEnd] 129)) u6 u7 (overOf m (g.conns.take k)) (stayOf m (g.conns.take k))) := hinv.out.stays ((Q.refl wr).alloc _)
          have hle2 : (overOf m (g.conns.take k)).length ≤ 100 := over_len m (g.conns.take k) (by rw [List.length_take]; omega)
          have HUo : Hid (∀ b, u6.ownBlock = some b → b < wr.heap.size) := fun b hb => (owns_lt hinv.out.oo b hb).2
          have e0 : (wr.alloc (.cells #[.int .i64 (c.num : Int), .string ⟨c.wait.toArray⟩, .int .i64 (c.stage : Int), .int .i64 (c.silent + m), .bool c.noMore, .bool c.hostEnd] 129)).cell? ⟨wr.heap.size, 0, none⟩ = some (.int .i64 (c.num : Int)) := by simp [go_sem]
          have e2 : (wr.alloc (.cells #[.int .i64 (c.num : Int), .string ⟨c.wait.toArray⟩, .int .i64 (c.stage : Int), .int .i64 (c.silent + m), .bool c.noMore, .bool c.hostEnd] 129)).cell? ⟨wr.heap.size, 2, none⟩ = some (.int .i64 (c.stage : Int)) := by simp [go_sem]
          have e4 : (wr.alloc (.cells #[.int .i64 (c.num : Int), .string ⟨c.wait.toArray⟩, .int .i64 (c.stage : Int), .int .i64 (c.silent + m), .bool c.noMore, .bool c.hostEnd] 129)).cell? ⟨wr.heap.size, 4, none⟩ = some (.bool c.noMore) := by simp [go_sem]
          have HE0 := show Hid _ from e0
          have HE2 := show Hid _ from e2
          have HE4 := show Hid _ from e4
          clear h10 HStep e0 e2 e4
          generalize overOf m (g.conns.take k) = Le at *
          generalize stayOf m (g.conns.take k) = Lc at *
          go_upto_if 68 with fail
          go_cut [6] (fun ov wx => ∃ le', le' = (if c.hostEnd = true then [] else [(⟨4, (c.num : Int), [], 0⟩ : EvS)]) ∧ Hid (TInv W0 wx ov u7 (Le ++ le') Lc) ∧ wx.cell? ⟨wr.heap.size, 0, none⟩ = some (.int .i64 (c.num : Int)) ∧ wx.cell? ⟨wr.heap.size, 2, none⟩ = some (.int .i64 (c.stage : Int)) ∧ wx.cell? ⟨wr.heap.size, 4, none⟩ = some (.bool c.noMore))
          case first =>
            cases hhe : c.hostEnd with
            | true =>
              rw [hhe] at HI1 HE0 HE2 HE4
              go_wp2_with fail
              go_meet
              exact ⟨[], by rw [hhe]; rfl, by show TInv _ _ _ _ _ _; rw [List.append_nil]; exact HI1.out, HE0.out, HE2.out, HE4.out⟩
            | false =>
              rw [hhe] at HI1 HE0 HE2 HE4
              go_wp2_with fail
              refine Calls.mono (Hid.out (HE 4 (c.num : Int) _)) ?_
              rintro e w2 ⟨rfl, hq2⟩
              have HI2 := show Hid _ from HI1.out.stays hq2
              have k0 := hq2.cell HE0.out
              have k2 := hq2.cell HE2.out
              have k4 := hq2.cell HE4.out
              have hsz := HI2.out.q.size
              have hnb := Q.lt k0
              clear HI1 HE0 HE2 HE4 hq2
              go_wp2_with (first | (at_builtin; refine append_el rfl (.tmp 69) (.tmp 73) 41 rfl 48 Tryz.t48 (.agg #[.int .i64 0, .int .i64 0, .string ⟨#[]⟩, .int .i64 0]) 4 40 Tryz.underlying41 (by kernel_rfl) (by kernel_rfl) (by kernel_rfl) (by kernel_rfl) rfl (by decide) u6 Le.length (evVals Le) (evOf ⟨4, (c.num : Int), [], 0⟩) rfl W0.heap.size w2 rfl rfl HI2.out.oo (evOf_oneR _) (by omega) (by decide) hsz ?_; intro g2 cap2 w4 ho4 hb4 hg4 hat4 _))
              go_meet
              have hfar : ∀ o, w4.cell? ⟨wr.heap.size, o, none⟩ = w2.cell? ⟨wr.heap.size, o, none⟩ := fun o => by
                rw [hg4.cell_far ⟨wr.heap.size, o, none⟩ (by show wr.heap.size < _; simp; omega) (fun e => by have := HUo.out wr.heap.size e.symm; omega)]
                exact World.cell?_of_block (w := w2) (Below.heap_alloc _ _ _ hnb)
              exact ⟨[⟨4, (c.num : Int), [], 0⟩], by rw [hhe]; rfl, HI2.out.evs ho4 hb4 hg4 hat4, by rw [hfar]; exact k0, by rw [hfar]; exact k2, by rw [hfar]; exact k4⟩
          case rest =>
            obtain ⟨le', hle', hi2, g0, g2, g4⟩ := hcut
            have hll : (Le ++ le').length ≤ 101 := by
              rw [List.length_append, hle']
              split <;> simp <;> omega
            have HOv : Hid (overEvs c = le' ++ if 0 < c.stage ∧ c.noMore = false then [⟨5, (c.num : Int), [], 0⟩] else []) := by
              show _ = _
              rw [hle']; rfl
            have HN1 : Hid (overOf m (g.conns.take (k + 1)) = (Le ++ le') ++ (if 0 < c.stage ∧ c.noMore = false then [⟨5, (c.num : Int), [], 0⟩] else []) ∧ stayOf m (g.conns.take (k + 1)) = Lc) := ⟨by rw [HN.out.1, HOv.out, List.append_assoc], HN.out.2⟩
            clear hle' HN HI1 HE0 HE2 HE4 HOv
            generalize Le ++ le' = Lf at *
            obtain ⟨o6, k6, h6⟩ := slice_form hi2.out.oo
            subst h6
            by_cases hst0 : 0 < c.stage ∧ c.noMore = false
            · rw [if_pos hst0] at HN1
              have dst : decide (0 < (c.stage : Int)) = true := decide_eq_true (by omega)
              rw [hst0.2] at g4
              obtain ⟨st, hst'⟩ : ∃ z : Int, z = (c.stage : Int) := ⟨_, rfl⟩
              rw [← hst'] at g2 dst
              clear hst0 hst'
              go_wp2_with fail
              refine Calls.mono (Hid.out (HE 5 (c.num : Int) _)) ?_
              rintro e w3 ⟨rfl, hq3⟩
              have HI3 := show Hid _ from hi2.out.stays hq3
              have hsz := HI3.out.q.size
              clear hi2 g0 g2 g4 hq3
              go_wp2_with (first | (at_builtin; refine append_el rfl (.tmp 83) (.tmp 87) 41 rfl 48 Tryz.t48 (.agg #[.int .i64 0, .int .i64 0, .string ⟨#[]⟩, .int .i64 0]) 4 40 Tryz.underlying41 (by kernel_rfl) (by kernel_rfl) (by kernel_rfl) (by kernel_rfl) rfl (by decide) (.slice o6 Lf.length k6) Lf.length (evVals Lf) (evOf ⟨5, (c.num : Int), [], 0⟩) rfl W0.heap.size w3 rfl rfl HI3.out.oo (evOf_oneR _) (by omega) (by decide) hsz ?_; intro g2 cap2 w4 ho4 hb4 hg4 hat4 _))
              refine ⟨⟨k + 1, by omega, by go_num, ?_⟩, by simp [intOf]; omega⟩
              show TInv _ _ _ _ _ _
              rw [HN1.out.1, HN1.out.2]
              exact HI3.out.evs ho4 hb4 hg4 hat4
            · rw [if_neg hst0, List.append_nil] at HN1
              by_cases hs0 : 0 < c.stage
              · have hno : c.noMore = true := by
                  cases hx : c.noMore with
                  | true => rfl
                  | false => exact absurd ⟨hs0, hx⟩ hst0
                have dst : decide (0 < (c.stage : Int)) = true := decide_eq_true (by omega)
                rw [hno] at g4
                obtain ⟨st, hst'⟩ : ∃ z : Int, z = (c.stage : Int) := ⟨_, rfl⟩
                rw [← hst'] at g2 dst
                clear hst0 hst' hs0 hno
                go_wp2_with fail
                refine ⟨⟨k + 1, by omega, by go_num, ?_⟩, by simp [intOf]; omega⟩
                show TInv _ _ _ _ _ _
                rw [HN1.out.1, HN1.out.2]
                exact hi2.out
              · have dst : decide (0 < (c.stage : Int)) = false := decide_eq_false (by omega)
                obtain ⟨st, hst'⟩ : ∃ z : Int, z = (c.stage : Int) := ⟨_, rfl⟩
                rw [← hst'] at g2 dst
                clear hst0 hst' hs0
                go_wp2_with fail
                refine ⟨⟨k + 1, by omega, by go_num, ?_⟩, by simp [intOf]; omega⟩
                show TInv _ _ _ _ _ _
                rw [HN1.out.1, HN1.out.2]
                exact hi2.out
      · have HD : Hid ((tickS g m).1.conns = stayOf m (g.conns.take k) ∧ (tickS g m).2 = overOf m (g.conns.take k)) := by
          rw [List.take_of_length_le (by have := HCN.out; omega)]
          exact ⟨rfl, rfl⟩
        have HFin : Hid (∃ r', RGwStep r B w gb r' (wr.setCell ⟨gb, 3, none⟩ u7) (tickS g m).1 ∧ EvsOut r' (tickS g m).2 w u6 (wr.setCell ⟨gb, 3, none⟩ u7)) := by
          have hl7 := owns_lt hinv.out.ll
          have hl6 := owns_lt hinv.out.oo
          obtain ⟨r', hs, hn⟩ := hst.out.rep.conns hinv.out.q u7 _ hinv.out.ll
          refine ⟨r', ?_, ?_⟩
          · have := hst.out.trans hs
            rw [show (tickS g m).1 = { g with minute := (tickS g m).1.minute, conns := (tickS g m).1.conns } from rfl, HD.out.1]
            exact this
          · rw [HD.out.2]
            have hgne : ∀ b, u6.ownBlock = some b → b ≠ gb := fun b hb e => by have := (hl6 b hb).1; omega
            refine ⟨owns_same ⟨hinv.out.oo.1, ?_⟩ fun b hb => set_same_at (hgne b hb), fun b hb => ?_⟩
            · rcases hinv.out.oo.2 with hz | ⟨g', cap', cur, hv, hbb, t⟩
              · exact .inl hz
              · exact .inr ⟨g', cap', cur, hv, Nat.le_trans hst.out.fr.size hbb, t⟩
            · cases hx : r' b with
              | none => rfl
              | some y =>
                exfalso
                rcases hn b (by rw [hx]; simp) with h5 | h5
                · have := hst.out.rep.lt b h5
                  have := (hl6 b hb).1
                  omega
                · exact hinv.out.apart b hb h5
        have hfz' : wr.frozen? ⟨gb, 3, none⟩ = false := by rw [hinv.out.q.cells.2 gb 3 hgb1]; exact hfz3
        obtain ⟨lo, lc, rfl⟩ := slice_form hinv.out.ll
        obtain ⟨oo, oc, rfl⟩ := slice_form hinv.out.oo
        generalize (overOf m (g.conns.take k)).length = l1 at *
        generalize (stayOf m (g.conns.take k)).length = l2 at *
        go_wp2_with fail
        go_ret2
        obtain ⟨r', hs, hv⟩ := HFin.out
        exact .inr ⟨hm1, r', _, rfl, hs, hv⟩
end Go.Proofs.YtdmaffciijmdcaaGreatDoor

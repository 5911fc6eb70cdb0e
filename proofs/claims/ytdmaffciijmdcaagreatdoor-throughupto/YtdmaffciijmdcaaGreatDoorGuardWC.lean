/-
  The law 'Guarded', walked.
-/
import Derived.Test.YtdmaffciijmdcaaGreatDoorFed2ToEnds
import Derived.Test.YtdmaffciijmdcaaGreatDoorKDecC
namespace Go.Proofs.YtdmaffciijmdcaaGreatDoor
open Go.RowKit Plain

theorem Q.fr {w wc w1 : World} {r : Rl} (q : Q w wc) (f : Fr r wc w1) (hr : ∀ b, r b ≠ none → w.heap.size ≤ b) : Q w w1 :=
  Below.trans q ⟨f.os, f.tape, f.output, f.size, fun k hk => f.block k (Nat.lt_of_lt_of_le hk q.size) (by
    cases hx : r k with
    | none => rfl
    | some x =>
      have := hr k (by rw [hx]; simp)
      omega)⟩
theorem roles_up {r r1 : Rl} {w : World} {B : Nat} (g : Grows r w r1) (hr : ∀ b, r b ≠ none → B ≤ b) (hB : B ≤ w.heap.size) : ∀ b, r1 b ≠ none → B ≤ b := fun b hb => by
  rcases g.1 b hb with h | h
  · exact hr b h
  · omega
theorem ints_low {w0 w4 : World} {rv : Value} {raw : List Int} (h : IntsAt w0 rv raw) (q : Q w0 w4) : IntsLow w0.heap.size w4 rv raw := by
  intro w' hlow
  obtain ⟨a, cap, hv, hc⟩ := h
  refine ⟨a, cap, hv, fun i c hi => ?_⟩
  obtain ⟨h1, b, off, h2, h3⟩ := hc i c hi
  refine ⟨h1, b, off, h2, ?_⟩
  rw [(hlow b (Q.lt h3)).cell]
  exact q.cell h3
/-- The statements' users in memory. -/
def UsAt (n : Int) (g : Nat) (w : World) : Prop := g < w.heap.size ∧ ∀ i u, (usersT n)[i]? = some u → w.cell? ⟨g, i * 2, none⟩ = some (str u.1) ∧ w.cell? ⟨g, i * 2 + 1, none⟩ = some (str u.2)
theorem UsAt.stays {n : Int} {g : Nat} {w w' : World} (h : UsAt n g w) (q : Q w w') : UsAt n g w' := ⟨Nat.lt_of_lt_of_le h.1 q.size, fun i u hi => ⟨q.cell (h.2 i u hi).1, q.cell (h.2 i u hi).2⟩⟩
theorem UsAt.pairs {n : Int} {g : Nat} {w : World} (h : UsAt n g w) : PairsAt (fun b => b < w.heap.size) w (.slice (some ⟨g, 0, none⟩) 3 3) (usersT n) := by
  exact ⟨some ⟨g, 0, none⟩, 3, rfl, fun i p hi => ⟨g, h.1, rfl, (h.2 i p hi).1, (h.2 i p hi).2⟩⟩

theorem keepB {a b W : World} {p0 p1 p2 p3 : Addr} {v0 v1 v2 v3 : Value} (h : a.cell? p0 = some v0 ∧ a.cell? p1 = some v1 ∧ a.cell? p2 = some v2 ∧ a.cell? p3 = some v3 ∧ Q W a) (q : Q a b) :
    b.cell? p0 = some v0 ∧ b.cell? p1 = some v1 ∧ b.cell? p2 = some v2 ∧ b.cell? p3 = some v3 ∧ Q W b := by
  obtain ⟨h0, h1, h2, h3, hq⟩ := h
  exact ⟨q.cell h0, q.cell h1, q.cell h2, q.cell h3, hq.trans q⟩
theorem lastB {a W : World} {p0 p1 p2 p3 : Addr} {v0 v1 v2 v3 : Value} (h : a.cell? p0 = some v0 ∧ a.cell? p1 = some v1 ∧ a.cell? p2 = some v2 ∧ a.cell? p3 = some v3 ∧ Q W a) : Q W a := h.2.2.2.2

theorem sec_len (n : Int) (q : AskR) (other : Bool) : (secT n q other).length ≤ 12 := by
  have hl := secretT_len n (3 + pickN n 7)
  have h7 := pickN_lt n (n := 7) (by decide)
  have hw := pickN_lt q.who (n := 3) (by decide)
  have hword : (wordT n (pickN q.who 3)).length ≤ 11 := by
    have : pickN q.who 3 = 0 ∨ pickN q.who 3 = 1 ∨ pickN q.who 3 = 2 := by omega
    rcases this with e | e | e <;> rw [e] <;> simp [wordT, usersT] <;> omega
  unfold secT
  split
  · simp; omega
  · omega
theorem word_len (n : Int) (who : Nat) (hw : who < 3) : (wordT n who).length ≤ 11 := by
  have hl := secretT_len n (3 + pickN n 7)
  have h7 := pickN_lt n (n := 7) (by decide)
  have : who = 0 ∨ who = 1 ∨ who = 2 := by omega
  rcases this with rfl | rfl | rfl <;> simp [wordT, usersT] <;> omega

theorem ev_cells {w : World} {B : Nat} {v : Value} {l : List EvS} (h : w.ownsRow B 48 4 v l.length (evVals l)) (hne : 0 < l.length) : ∃ g cap, v = .slice (some ⟨g, 0, none⟩) l.length cap ∧ ∀ j u, (evVals l)[j]? = some u → w.cell? ⟨g, j, none⟩ = some u := by
  obtain ⟨g, cap, rfl, _, _⟩ := h.form hne
  refine ⟨g, cap, rfl, fun j u hu => ?_⟩
  have := h.cells (g := g) rfl j u hu
  have hadd : (⟨g, 0, none⟩ : Addr).add j = ⟨g, j, none⟩ := by unfold Addr.add; split <;> simp_all
  rw [hadd] at this
  exact this

def MadeAt (B : Nat) (g : GateS) (w0 : World) (s13 s14 s15 : Value) (wx : World) : Prop :=
  ∃ gb r, s13 = ptr gb ∧ s14 = .int .i64 0 ∧ s15 = .int .i64 0 ∧ Q w0 wx ∧ GwRep r B wx gb g ∧ GOk g ∧ ∀ b, r b ≠ none → B ≤ b

set_option maxRecDepth 100000 in
set_option maxHeartbeats 3200000 in
theorem guarded_any (v rv : Value) (l : List RawR) (q : AskR) (n : Int) (other : Bool) (raw : List Int) (w : World) (hl : RawsAt w v l) (hq : AskOk q) (hn : I64 n) (hr : IntsAt w rv raw) (hm : ML w) :
    Calls Tryz.prog 4 #[v, askV q, .int .i64 n, .bool other, rv] w fun e w' => e = .returned (.bool true) ∧ Q w w' := by
  have HL : Hid (RawsAt w v l) := hl
  have HR : Hid (IntsAt w rv raw) := hr
  have HM : Hid (ML w) := hm
  have HO : Hid (AskOk q) := hq
  have HN : Hid (I64 n) := hn
  obtain ⟨ra, rc, rfl, _⟩ := hr
  obtain ⟨va, vn, vc, rfl⟩ : ∃ a n c, v = .slice a n c := by
    rcases hl with ⟨_, a, c, h⟩ | ⟨b, off, c, h, _⟩ <;> exact ⟨_, _, _, h⟩
  obtain ⟨m, hmr⟩ : ∃ m, m = raw.length := ⟨_, rfl⟩
  rw [← hmr] at HR ⊢
  have h3 := pickN_lt q.who (n := 3) (by decide)
  have h6 := pickN_lt q.prt (n := 65536) (by decide)
  have h10 := pickN_lt q.mnt (n := 10080) (by decide)
  have P3 : ∀ w, Hid (Calls Tryz.prog 12 #[.int .i64 q.who, .int .i64 3] w fun e w' => e = .returned (.int .i64 ((pickN q.who 3 : Nat) : Int)) ∧ w' = w) := fun w => pick_any q.who 3 w HO.out.who (by decide) (by decide)
  have PP : ∀ w, Hid (Calls Tryz.prog 12 #[.int .i64 q.prt, .int .i64 65536] w fun e w' => e = .returned (.int .i64 ((pickN q.prt 65536 : Nat) : Int)) ∧ w' = w) := fun w => pick_any q.prt 65536 w HO.out.prt (by decide) (by decide)
  have PM : ∀ w, Hid (Calls Tryz.prog 12 #[.int .i64 q.mnt, .int .i64 10080] w fun e w' => e = .returned (.int .i64 ((pickN q.mnt 10080 : Nat) : Int)) ∧ w' = w) := fun w => pick_any q.mnt 10080 w HO.out.mnt (by decide) (by decide)
  clear hmr hl hm hq hn
  unfold askV
  go_enter Tryz.func4, Tryz.ntmps4
  go_upto_region 3 with (first | (go_at_call_of 12 (Value.int IntKind.i64 3); refine Calls.mono (Hid.out (P3 _)) ?_; rintro e w' ⟨rfl, hw⟩; rw [hw]; clear hw w') | (go_at_call_of 12 (Value.int IntKind.i64 65536); refine Calls.mono (Hid.out (PP _)) ?_; rintro e w' ⟨rfl, hw⟩; rw [hw]; clear hw w'))
  obtain ⟨w0, hw0⟩ : ∃ x, x = w.alloc (.cells #[.int .i64 q.who, .int .i64 q.whr, .int .i64 q.prt, .int .i64 q.mnt] 27) := ⟨_, rfl⟩
  rw [← hw0]
  have hq0 : Q w w0 := by rw [hw0]; exact (Q.refl _).alloc _
  have hBx : w.heap.size + 1 = w0.heap.size := by rw [hw0]; simp
  have HBox : Hid (w0.cell? ⟨w.heap.size, 0, none⟩ = some (.int .i64 q.who) ∧ w0.cell? ⟨w.heap.size, 1, none⟩ = some (.int .i64 q.whr) ∧ w0.cell? ⟨w.heap.size, 2, none⟩ = some (.int .i64 q.prt) ∧ w0.cell? ⟨w.heap.size, 3, none⟩ = some (.int .i64 q.mnt) ∧ Q w0 w0) := by
    rw [hw0]
    exact ⟨by simp [go_sem], by simp [go_sem], by simp [go_sem], by simp [go_sem], Q.refl _⟩
  clear hw0
  have HQ0 : Hid (Q w w0) := hq0
  clear hq0
  go_cut [13, 14, 15] (fun s13 s14 s15 wx => MadeAt w0.heap.size (gateT l n (pickN q.mnt 10080)) w0 s13 s14 s15 wx)
  case first =>
    obtain ⟨b0, b1, b2, b3, _⟩ := HBox.out
    have hTl := rulesT_len l
    have HRu : ∀ x, Q w0 x → Hid (Calls Tryz.prog 14 #[.slice va vn vc] x fun e w' => e = .returned (.string ⟨(rulesT l).toArray⟩) ∧ Q x w') := fun x hx => rules_any _ l x (HL.out.stays (HQ0.out.trans hx))
    have HUs : ∀ x, Hid (Calls Tryz.prog 15 #[.int .i64 n] x fun e w' => ∃ g, e = .returned (.slice (some ⟨g, 0, none⟩) 3 3) ∧ Q x w' ∧ Hid (UsAt n g w')) := fun x => (users_any n x HN.out).mono (by
      rintro e w' ⟨g, rfl, h1, _, h2, h3⟩
      exact ⟨g, rfl, h1, h2, h3⟩)
    have HNw : ∀ (g : Nat) (x : World), UsAt n g x → Q w0 x → Hid (Calls Tryz.prog 13 #[.string ⟨(rulesT l).toArray⟩, .slice (some ⟨g, 0, none⟩) 3 3, .int .i64 ((pickN q.mnt 10080 : Nat) : Int)] x fun e w' => ∃ gb, e = .returned (.tuple #[ptr gb, .int .i64 0, .int .i64 0]) ∧ Q x w' ∧ Hid (∃ r, GwRep r w0.heap.size w' gb (gateT l n (pickN q.mnt 10080)) ∧ GOk (gateT l n (pickN q.mnt 10080)) ∧ ∀ b, r b ≠ none → w0.heap.size ≤ b)) := fun g x hu hx => by
      refine (new_any w0.heap.size ⟨(rulesT l).toArray⟩ (usersT n) _ _ x (by rw [mk_size]; unfold maxLen; omega) hu.pairs (by simp [usersT]) hx.size).mono ?_
      rintro e w' ⟨hqx, ⟨en, ln, hns, _⟩ | ⟨gs, gb, r, hns, rfl, hrep, hok, hrl⟩⟩
      · rw [show (⟨(rulesT l).toArray⟩ : ByteArray).data.toList = rulesT l from rfl, new_made l n _ h10] at hns
        cases hns
      · rw [show (⟨(rulesT l).toArray⟩ : ByteArray).data.toList = rulesT l from rfl, new_made l n _ h10] at hns
        cases hns
        exact ⟨gb, rfl, hqx, r, hrep, hok, fun b hb => Nat.le_trans hx.size (hrl b hb)⟩
    generalize rulesT l = T at *
    generalize gateT l n (pickN q.mnt 10080) = G at *
    clear P3 PP
    go_region_held3 (fun w' => w'.cell? ⟨w.heap.size, 0, none⟩ = some (.int .i64 q.who) ∧ w'.cell? ⟨w.heap.size, 1, none⟩ = some (.int .i64 q.whr) ∧ w'.cell? ⟨w.heap.size, 2, none⟩ = some (.int .i64 q.prt) ∧ w'.cell? ⟨w.heap.size, 3, none⟩ = some (.int .i64 q.mnt) ∧ Q w0 w')
      (first | exact ⟨b0, b1, b2, b3, (Q.refl _).drew⟩ | exact keepB (by assumption) (by assumption) | assumption)
      (first | (go_at_call 12; refine Calls.mono (Hid.out (PM _)) ?_; rintro e w' ⟨rfl, rfl⟩) | (go_at_call 14; refine Calls.mono (Hid.out (HRu _ (lastB (by assumption)))) ?_; rintro e w' ⟨rfl, hq2⟩) | (go_at_call 15; refine Calls.mono (Hid.out (HUs _)) ?_; rintro e w' ⟨g, rfl, hq2, hus⟩) | (go_at_call 13; refine Calls.mono (Hid.out (HNw _ _ (by first | exact Hid.out (by assumption) | exact UsAt.stays (Hid.out (by assumption)) (by assumption)) (lastB (by assumption)))) ?_; rintro e w' ⟨gb, rfl, hq2, hgw⟩))
    all_goals (go_wp2_with fail; go_meet; obtain ⟨r, x1, x2, x3⟩ := Hid.out hgw; exact ⟨gb, r, rfl, rfl, rfl, lastB (by assumption), x1, x2, x3⟩)
  case rest =>
    obtain ⟨gb, r, rfl, rfl, rfl, hqc, hrep, hok, hrl⟩ := hcut
    clear PM PP P3
    obtain ⟨G, hG⟩ : ∃ G, G = gateT l n (pickN q.mnt 10080) := ⟨_, rfl⟩
    rw [← hG] at hrep hok
    have hG8 : G.conns.length = 0 ∧ G.last = 0 := by rw [hG]; exact ⟨rfl, rfl⟩
    have HA := show Hid _ from accept_any hrep hok
    have HG := show Hid _ from hG
    have HQc : Hid (Q w0 wc) := hqc
    have HRl := show Hid _ from hrl
    have HG8 := show Hid _ from hG8
    clear hG hG8 hqc hrep hok hrl
    go_wp2_with fail
    refine Calls.mono (Hid.out HA) ?_
    rintro e w1 (⟨h8, _, _⟩ | ⟨_, ⟨r1, hst1⟩, rfl⟩)
    · rw [HG8.out.1] at h8
      cases h8
    rw [HG8.out.2]
    have HQ1 : Hid (Q w0 w1) := HQc.out.fr hst1.fr HRl.out
    have HRl1 := show Hid _ from roles_up hst1.gr HRl.out HQc.out.size
    have HRep1 := show Hid _ from hst1.rep
    clear hst1 HA HRl
    have HWo : ∀ x, Hid (Calls Tryz.prog 17 #[.int .i64 n, .int .i64 ((pickN q.who 3 : Nat) : Int)] x fun e w' => e = .returned (str (wordT n (pickN q.who 3))) ∧ Q x w') := fun x => word_any n _ x HN.out h3
    go_wp2_with fail
    refine Calls.mono (Hid.out (HWo _)) ?_
    rintro e w2 ⟨rfl, hq2⟩
    have HQ2 : Hid (Q w0 w2) := HQ1.out.trans hq2
    have HRep2 := show Hid _ from HRep1.out.stays hq2
    clear hq2 HWo HRep1
    obtain ⟨S, hS⟩ : ∃ S : ByteArray, S.data.toList = secT n q other := ⟨⟨(secT n q other).toArray⟩, rfl⟩
    obtain ⟨Wd, hWd⟩ : ∃ S : ByteArray, S.data.toList = wordT n (pickN q.who 3) := ⟨⟨(wordT n (pickN q.who 3)).toArray⟩, rfl⟩
    have hS12 : S.size ≤ 12 := by rw [← size_len, hS]; exact sec_len n q other
    have hW11 : Wd.size ≤ 11 := by rw [← size_len, hWd]; exact word_len n _ h3
    have HS := show Hid _ from hS
    rw [← hWd, str_data]
    have HWd := show Hid _ from hWd
    clear hS hWd
    go_upto_if 60 with fail
    go_cut [17] (fun s17 wx => s17 = .string S ∧ wx = w2)
    case first =>
      cases other
      · go_wp2_with fail
        go_meet
        refine ⟨?_, rfl⟩
        rw [← str_data, ← str_data, HS.out, HWd.out]
        rfl
      · go_wp2_with fail
        go_meet
        refine ⟨?_, rfl⟩
        rw [← str_data S, HS.out, ← str_data, app_str, HWd.out]
        rfl
    case rest =>
      obtain ⟨rfl, hw⟩ := hcut
      rw [hw]
      clear hw
      obtain ⟨b0, b1, b2, b3, _⟩ := keepB HBox.out HQ2.out
      obtain ⟨H, hH⟩ : ∃ S : ByteArray, S.data.toList = hostT q := ⟨⟨(hostT q).toArray⟩, rfl⟩
      have hH23 : H.size ≤ 23 := by rw [← size_len, hH]; exact hostT_len q
      have HHo : ∀ x, Hid (Calls Tryz.prog 18 #[.agg #[.int .i64 q.who, .int .i64 q.whr, .int .i64 q.prt, .int .i64 q.mnt]] x fun e w' => e = .returned (.string H) ∧ Q x w') := fun x => (host_any q x HO.out).mono (by
        rintro e w' ⟨rfl, h⟩
        refine ⟨?_, h⟩
        rw [← str_data, hH])
      have HHd : ∀ x, Hid (Calls Tryz.prog 20 #[.int .i64 ((pickN q.who 3 : Nat) : Int), .string S, .string H, .int .i64 ((pickN q.prt 65536 : Nat) : Int)] x fun e w' => e = .returned (str (headT (pickN q.who 3) (secT n q other) (hostT q) (pickN q.prt 65536))) ∧ Q x w') := fun x => by
        have := head_any (pickN q.who 3) S H (pickN q.prt 65536) x h3 (by omega) (by omega) (by omega)
        rw [HS.out, hH] at this
        exact this
      have HHH := show Hid _ from hH
      clear hH
      go_wp2_with fail
      refine Calls.mono (Hid.out (HHo _)) ?_
      rintro e w3 ⟨rfl, hq3⟩
      have HQ3 : Hid (Q w0 w3) := HQ2.out.trans hq3
      have HRep3 := show Hid _ from HRep2.out.stays hq3
      clear hq3 HHo HRep2 b0 b1 b2 b3
      go_wp2_with fail
      refine Calls.mono (Hid.out (HHd _)) ?_
      rintro e w4 ⟨rfl, hq4⟩
      have HQ4 : Hid (Q w0 w4) := HQ3.out.trans hq4
      have HRep4 := show Hid _ from HRep3.out.stays hq4
      clear hq4 HHd HRep3
      obtain ⟨T, hT⟩ : ∃ S : ByteArray, S.data.toList = headT (pickN q.who 3) (secT n q other) (hostT q) (pickN q.prt 65536) := ⟨⟨(headT (pickN q.who 3) (secT n q other) (hostT q) (pickN q.prt 65536)).toArray⟩, rfl⟩
      have hTz : T.size < 1000 := by rw [← size_len, hT]; exact head_short q n other
      rw [← hT, str_data]
      have HT := show Hid _ from hT
      clear hT
      have HF := show Hid _ from fed_any HRep4.out (by rw [HG.out]; exact gateT_ok l n _) (fun c hc => by
        rw [HG.out] at hc
        have : c = ⟨1, 0, 0, [], false, false⟩ := by simpa [gateT, GateS.accept] using hc
        rw [this]) 1 T (.slice ra m rc) raw (ints_low (HR.out.stays HQ0.out) HQ4.out) (fun c hc => by
        rw [HG.out] at hc
        have : c = ⟨1, 0, 0, [], false, false⟩ := by simpa [gateT, GateS.accept] using hc
        rw [this]
        show 0 + T.size ≤ _
        omega) (by omega) (HM.out.stays (HQ0.out.trans HQ4.out)) (by
          obtain ⟨y, hy⟩ := HM.out
          exact Nat.lt_of_lt_of_le (Q.lt hy) HQ0.out.size)
      go_wp2_with fail
      refine Calls.mono (Hid.out HF) ?_
      rintro e w5 ⟨k, g5, s5, out, ov, hto, hat, hend⟩
      rw [HG.out, HT.out] at hto
      have hok5 : GOk g5 := hto.ok (gateT_ok l n _)
      obtain ⟨hg1, hg2⟩ := guard_fed l q n other hto
      rcases hend with ⟨hs5, rfl⟩ | ⟨hs5, hno, _⟩
      case inr =>
        obtain ⟨c, hc, hc1⟩ := hg1 hs5
        exact absurd hc1 (hno c hc)
      have hg3 := hg2 hs5
      clear hg1 hg2 hs5 hto HF
      obtain ⟨r5, hst5, hev⟩ := hat
      have HQ5 : Hid (Q w0 w5) := HQ4.out.fr hst5.fr HRl1.out
      have HRep5 := show Hid _ from hst5.rep
      have HOk5 := show Hid _ from hok5
      have hev5 := hev.1
      clear hst5 hev HRep4 hok5
      obtain ⟨b0, b1, b2, b3, _⟩ := keepB HBox.out HQ5.out
      have HDe := show Hid _ from decided_any (.slice va vn vc) l q w5 (HL.out.stays (HQ0.out.trans HQ5.out)) HO.out
      unfold askV at HDe
      unfold guardS at hg3
      generalize (decidedK q 0 (l.take 40)).1 = yes at *
      generalize (decidedK q 0 (l.take 40)).2 = nn at *
      cases other
      · cases yes
        · have hg4 : g5.conns = [] ∧ out = [⟨2, 1, denyB, 0⟩, ⟨4, 1, [], 0⟩] := hg3
          rw [hg4.2] at hev5
          obtain ⟨eg, ec, rfl, hcells⟩ := ev_cells hev5 (by simp)
          have c0 := hcells 0 _ rfl
          have c1 := hcells 1 _ rfl
          have c2 := hcells 2 _ rfl
          have c3 := hcells 3 _ rfl
          have d0 := hcells 4 _ rfl
          have d1 := hcells 5 _ rfl
          have d2 := hcells 6 _ rfl
          have d3 := hcells 7 _ rfl
          unfold denyB str at c2
          unfold str at d2
          have HC5 := show Hid _ from hg4.1
          clear hcells hev5 hg3 hg4
          go_wp2_with fail
          refine Calls.mono (Hid.out HDe) ?_
          rintro e w6 ⟨rfl, hq6⟩
          have HQ6 : Hid (Q w0 w6) := HQ5.out.trans hq6
          have c0' := hq6.cell c0
          have c1' := hq6.cell c1
          have c2' := hq6.cell c2
          have c3' := hq6.cell c3
          have d0' := hq6.cell d0
          have d1' := hq6.cell d1
          have d2' := hq6.cell d2
          have d3' := hq6.cell d3
          have HCl := show Hid _ from client_any (HRep5.out.stays hq6) HOk5.out (fun c hc => by rw [HC5.out] at hc; cases hc) 1 ⟨#[121]⟩ (fun c hc => by rw [HC5.out] at hc; cases hc) (HM.out.stays (HQ0.out.trans HQ6.out)) (by
            obtain ⟨y, hy⟩ := HM.out
            exact Nat.lt_of_lt_of_le (Q.lt hy) HQ0.out.size)
          clear c0 c1 c2 c3 d0 d1 d2 d3 hq6 HDe b0 b1 b2 b3
          go_wp2_with fail
          refine Calls.mono (Hid.out HCl) ?_
          rintro e w7 (⟨i, c, hi, _⟩ | ⟨_, hw, rfl⟩)
          · rw [HC5.out] at hi
            cases hi
          rw [hw]
          clear hw HCl
          go_wp2_with fail
          go_ret
          exact ⟨by simp, HQ0.out.trans HQ6.out⟩
        · have hout : out = [⟨1, 1, hostT q, ((pickN q.prt 65536 : Nat) : Int)⟩] := hg3
          rw [hout] at hev5
          obtain ⟨eg, ec, rfl, hcells⟩ := ev_cells hev5 (by simp)
          rw [← HHH.out] at hcells
          have c0 := hcells 0 _ rfl
          have c1 := hcells 1 _ rfl
          have c2 := hcells 2 _ rfl
          have c3 := hcells 3 _ rfl
          rw [str_data] at c2
          clear hcells hev5 hout hg3
          go_wp2_with fail
          refine Calls.mono (Hid.out HDe) ?_
          rintro e w6 ⟨rfl, hq6⟩
          have HQ6 : Hid (Q w0 w6) := HQ5.out.trans hq6
          have c0' := hq6.cell c0
          have c1' := hq6.cell c1
          have c2' := hq6.cell c2
          have c3' := hq6.cell c3
          clear c0 c1 c2 c3 hq6 HDe b0 b1 b2 b3
          go_wp2_with fail
          go_ret
          exact ⟨by simp, HQ0.out.trans HQ6.out⟩
      · cases yes
        · have hg4 : g5.conns = [] ∧ out = [⟨2, 1, whoB, 0⟩, ⟨4, 1, [], 0⟩] := hg3
          rw [hg4.2] at hev5
          obtain ⟨eg, ec, rfl, hcells⟩ := ev_cells hev5 (by simp)
          have c0 := hcells 0 _ rfl
          have c1 := hcells 1 _ rfl
          have c2 := hcells 2 _ rfl
          have c3 := hcells 3 _ rfl
          have d0 := hcells 4 _ rfl
          have d1 := hcells 5 _ rfl
          have d2 := hcells 6 _ rfl
          have d3 := hcells 7 _ rfl
          unfold whoB str at c2
          unfold str at d2
          have HC5 := show Hid _ from hg4.1
          clear hcells hev5 hg3 hg4
          go_wp2_with fail
          refine Calls.mono (Hid.out HDe) ?_
          rintro e w6 ⟨rfl, hq6⟩
          have HQ6 : Hid (Q w0 w6) := HQ5.out.trans hq6
          have c0' := hq6.cell c0
          have c1' := hq6.cell c1
          have c2' := hq6.cell c2
          have c3' := hq6.cell c3
          have d0' := hq6.cell d0
          have d1' := hq6.cell d1
          have d2' := hq6.cell d2
          have d3' := hq6.cell d3
          have HCl := show Hid _ from client_any (HRep5.out.stays hq6) HOk5.out (fun c hc => by rw [HC5.out] at hc; cases hc) 1 ⟨#[121]⟩ (fun c hc => by rw [HC5.out] at hc; cases hc) (HM.out.stays (HQ0.out.trans HQ6.out)) (by
            obtain ⟨y, hy⟩ := HM.out
            exact Nat.lt_of_lt_of_le (Q.lt hy) HQ0.out.size)
          clear c0 c1 c2 c3 d0 d1 d2 d3 hq6 HDe b0 b1 b2 b3
          go_wp2_with fail
          refine Calls.mono (Hid.out HCl) ?_
          rintro e w7 (⟨i, c, hi, _⟩ | ⟨_, hw, rfl⟩)
          · rw [HC5.out] at hi
            cases hi
          rw [hw]
          clear hw HCl
          go_wp2_with fail
          go_ret
          exact ⟨by simp, HQ0.out.trans HQ6.out⟩
        · have hg4 : g5.conns = [] ∧ out = [⟨2, 1, whoB, 0⟩, ⟨4, 1, [], 0⟩] := hg3
          rw [hg4.2] at hev5
          obtain ⟨eg, ec, rfl, hcells⟩ := ev_cells hev5 (by simp)
          have c0 := hcells 0 _ rfl
          have c1 := hcells 1 _ rfl
          have c2 := hcells 2 _ rfl
          have c3 := hcells 3 _ rfl
          have d0 := hcells 4 _ rfl
          have d1 := hcells 5 _ rfl
          have d2 := hcells 6 _ rfl
          have d3 := hcells 7 _ rfl
          unfold whoB str at c2
          unfold str at d2
          have HC5 := show Hid _ from hg4.1
          clear hcells hev5 hg3 hg4
          go_wp2_with fail
          refine Calls.mono (Hid.out HDe) ?_
          rintro e w6 ⟨rfl, hq6⟩
          have HQ6 : Hid (Q w0 w6) := HQ5.out.trans hq6
          have c0' := hq6.cell c0
          have c1' := hq6.cell c1
          have c2' := hq6.cell c2
          have c3' := hq6.cell c3
          have d0' := hq6.cell d0
          have d1' := hq6.cell d1
          have d2' := hq6.cell d2
          have d3' := hq6.cell d3
          have HCl := show Hid _ from client_any (HRep5.out.stays hq6) HOk5.out (fun c hc => by rw [HC5.out] at hc; cases hc) 1 ⟨#[121]⟩ (fun c hc => by rw [HC5.out] at hc; cases hc) (HM.out.stays (HQ0.out.trans HQ6.out)) (by
            obtain ⟨y, hy⟩ := HM.out
            exact Nat.lt_of_lt_of_le (Q.lt hy) HQ0.out.size)
          clear c0 c1 c2 c3 d0 d1 d2 d3 hq6 HDe b0 b1 b2 b3
          go_wp2_with fail
          refine Calls.mono (Hid.out HCl) ?_
          rintro e w7 (⟨i, c, hi, _⟩ | ⟨_, hw, rfl⟩)
          · rw [HC5.out] at hi
            cases hi
          rw [hw]
          clear hw HCl
          go_wp2_with fail
          go_ret
          exact ⟨by simp, HQ0.out.trans HQ6.out⟩
end Go.Proofs.YtdmaffciijmdcaaGreatDoor

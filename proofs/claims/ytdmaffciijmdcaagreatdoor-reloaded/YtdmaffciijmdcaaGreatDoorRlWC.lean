/-
  The law 'Reloaded', walked.
-/
import Derived.Test.YtdmaffciijmdcaaGreatDoorIdPToRlP
import Derived.Test.YtdmaffciijmdcaaGreatDoorGuardWC
namespace Go.Proofs.YtdmaffciijmdcaaGreatDoor
open Go.RowKit Plain

/-- One client has asked, and its host is called. -/
def oneG (l : List RawR) (n : Int) (m : Nat) : GateS := { gateT l n m with last := 1, conns := [⟨1, 0, 1, [], false, false⟩] }
theorem one_made (q : AskR) (n : Int) (m : Nat) : judgedS (gateT l1 n m).accept 0 1 l1 q = (oneG l1 n m, [⟨1, 1, hostT q, ((pickN q.prt 65536 : Nat) : Int)⟩]) := by
  unfold judgedS
  rw [l1_guard]
  rfl
theorem oneG_ok (l : List RawR) (n : Int) (m : Nat) : GOk (oneG l n m) := by
  refine ⟨by simp [oneG], by simp [oneG, gateT, tensT, usersT], nodup_nums (by simp [oneG]), fun c hc => ?_, by simp [oneG]⟩
  simp only [oneG, List.mem_singleton] at hc
  rw [hc]
  exact Nat.le_refl _
/-- A second one has come, and has been answered. -/
def twoG (l : List RawR) (n : Int) (m : Nat) (ys : List ConnS) : GateS := { gateT l n m with last := 2, conns := ⟨1, 0, 1, [], false, false⟩ :: ys }
theorem two_judged (l : List RawR) (q : AskR) (n : Int) (m : Nat) : ∃ ys, judgedS (oneG l n m).accept 1 2 l q = (twoG l n m ys, if (decidedK q 0 (l.take 40)).1 = true then [⟨1, 2, hostT q, ((pickN q.prt 65536 : Nat) : Int)⟩] else [⟨2, 2, denyB, 0⟩, ⟨4, 2, [], 0⟩]) ∧ (ys = [] ∨ ys = [⟨2, 0, 1, [], false, false⟩]) := by
  unfold judgedS guardS
  cases (decidedK q 0 (l.take 40)).1
  · exact ⟨[], rfl, .inl rfl⟩
  · exact ⟨[⟨2, 0, 1, [], false, false⟩], rfl, .inr rfl⟩
theorem twoG_ok {l : List RawR} {n : Int} {m : Nat} {ys : List ConnS} (h : ys = [] ∨ ys = [⟨2, 0, 1, [], false, false⟩]) : GOk (twoG l n m ys) := by
  rcases h with rfl | rfl
  · refine ⟨by simp [twoG], by simp [twoG, gateT, tensT, usersT], nodup_nums (by simp [twoG]), fun c hc => ?_, by simp [twoG]⟩
    simp only [twoG, List.mem_singleton] at hc
    rw [hc]
    exact Nat.le_succ _
  · refine ⟨by simp [twoG], by simp [twoG, gateT, tensT, usersT], nodup_nums (by simp [twoG]), fun c hc => ?_, by simp [twoG]⟩
    simp only [twoG, List.mem_cons, List.not_mem_nil, or_false] at hc
    rcases hc with rfl | rfl
    · exact Nat.le_succ _
    · exact Nat.le_refl _
theorem two_waits {l : List RawR} {n : Int} {m : Nat} {ys : List ConnS} (h : ys = [] ∨ ys = [⟨2, 0, 1, [], false, false⟩]) : ∀ c ∈ (twoG l n m ys).conns, c.wait.length ≤ 4398046511104 := by
  rcases h with rfl | rfl <;> intro c hc <;> simp only [twoG, List.mem_cons, List.not_mem_nil, or_false] at hc
  · rw [hc]; simp
  · rcases hc with rfl | rfl <;> simp

set_option maxRecDepth 100000 in
set_option maxHeartbeats 3200000 in
theorem reloaded_any (v u : Value) (l m : List RawR) (q : AskR) (n : Int) (bad : Bool) (w : World) (hl : RawsAt w v l) (hm : RawsAt w u m) (hq : AskOk q) (hn : I64 n) (hml : ML w) :
    Calls Tryz.prog 7 #[v, u, askV q, .int .i64 n, .bool bad] w fun e w' => e = .returned (.bool true) ∧ Q w w' := by
  have HL : Hid (RawsAt w v l) := hl
  have HR : Hid (RawsAt w u m) := hm
  have HM : Hid (ML w) := hml
  have HO : Hid (AskOk q) := hq
  have HN : Hid (I64 n) := hn
  obtain ⟨va, vn, vc, rfl⟩ : ∃ a n c, v = .slice a n c := by
    rcases hl with ⟨_, a, c, h⟩ | ⟨b, off, c, h, _⟩ <;> exact ⟨_, _, _, h⟩
  obtain ⟨ua, un, uc, rfl⟩ : ∃ a n c, u = .slice a n c := by
    rcases hm with ⟨_, a, c, h⟩ | ⟨b, off, c, h, _⟩ <;> exact ⟨_, _, _, h⟩
  have h3 := pickN_lt q.who (n := 3) (by decide)
  have h6 := pickN_lt q.prt (n := 65536) (by decide)
  have h10 := pickN_lt q.mnt (n := 10080) (by decide)
  have P3 : ∀ w, Hid (Calls Tryz.prog 12 #[.int .i64 q.who, .int .i64 3] w fun e w' => e = .returned (.int .i64 ((pickN q.who 3 : Nat) : Int)) ∧ w' = w) := fun w => pick_any q.who 3 w HO.out.who (by decide) (by decide)
  have PP : ∀ w, Hid (Calls Tryz.prog 12 #[.int .i64 q.prt, .int .i64 65536] w fun e w' => e = .returned (.int .i64 ((pickN q.prt 65536 : Nat) : Int)) ∧ w' = w) := fun w => pick_any q.prt 65536 w HO.out.prt (by decide) (by decide)
  have PM : ∀ w, Hid (Calls Tryz.prog 12 #[.int .i64 q.mnt, .int .i64 10080] w fun e w' => e = .returned (.int .i64 ((pickN q.mnt 10080 : Nat) : Int)) ∧ w' = w) := fun w => pick_any q.mnt 10080 w HO.out.mnt (by decide) (by decide)
  clear hl hm hq hn hml
  unfold askV
  go_enter Tryz.func7, Tryz.ntmps7
  go_upto_region 3 with (first | (go_at_call_of 12 (Value.int IntKind.i64 3); refine Calls.mono (Hid.out (P3 _)) ?_; rintro e w' ⟨rfl, hw⟩; rw [hw]; clear hw w') | (go_at_call_of 12 (Value.int IntKind.i64 65536); refine Calls.mono (Hid.out (PP _)) ?_; rintro e w' ⟨rfl, hw⟩; rw [hw]; clear hw w'))
  obtain ⟨w0, hw0⟩ : ∃ x, x = w.alloc (.cells #[.int .i64 q.who, .int .i64 q.whr, .int .i64 q.prt, .int .i64 q.mnt] 27) := ⟨_, rfl⟩
  rw [← hw0]
  have hq0 : Q w w0 := by rw [hw0]; exact (Q.refl _).alloc _
  have HBox : Hid (w0.cell? ⟨w.heap.size, 0, none⟩ = some (.int .i64 q.who) ∧ w0.cell? ⟨w.heap.size, 1, none⟩ = some (.int .i64 q.whr) ∧ w0.cell? ⟨w.heap.size, 2, none⟩ = some (.int .i64 q.prt) ∧ w0.cell? ⟨w.heap.size, 3, none⟩ = some (.int .i64 q.mnt) ∧ Q w0 w0) := by
    rw [hw0]
    exact ⟨by simp [go_sem], by simp [go_sem], by simp [go_sem], by simp [go_sem], Q.refl _⟩
  clear hw0
  have HQ0 : Hid (Q w w0) := hq0
  clear hq0
  go_cut [13, 14, 15] (fun s13 s14 s15 wx => MadeAt w0.heap.size (gateT l1 n (pickN q.mnt 10080)) w0 s13 s14 s15 wx)
  case first =>
    obtain ⟨b0, b1, b2, b3, _⟩ := HBox.out
    have HUs : ∀ x, Hid (Calls Tryz.prog 15 #[.int .i64 n] x fun e w' => ∃ g, e = .returned (.slice (some ⟨g, 0, none⟩) 3 3) ∧ Q x w' ∧ Hid (UsAt n g w')) := fun x => (users_any n x HN.out).mono (by
      rintro e w' ⟨g, rfl, h1, _, h2, h3⟩
      exact ⟨g, rfl, h1, h2, h3⟩)
    have HNw : ∀ (g : Nat) (x : World), UsAt n g x → Q w0 x → Hid (Calls Tryz.prog 13 #[.string ⟨#[97, 108, 108, 111, 119, 32, 42, 32, 42, 32, 42, 32, 42, 10]⟩, .slice (some ⟨g, 0, none⟩) 3 3, .int .i64 ((pickN q.mnt 10080 : Nat) : Int)] x fun e w' => ∃ gb, e = .returned (.tuple #[ptr gb, .int .i64 0, .int .i64 0]) ∧ Q x w' ∧ Hid (∃ r, GwRep r w0.heap.size w' gb (gateT l1 n (pickN q.mnt 10080)) ∧ GOk (gateT l1 n (pickN q.mnt 10080)) ∧ ∀ b, r b ≠ none → w0.heap.size ≤ b)) := fun g x hu hx => by
      refine (new_any w0.heap.size ⟨starB.toArray⟩ (usersT n) _ _ x (by rw [mk_size]; decide) hu.pairs (by simp [usersT]) hx.size).mono ?_
      rintro e w' ⟨hqx, ⟨en, ln, hns, _⟩ | ⟨gs, gb, r, hns, rfl, hrep, hok, hrl⟩⟩
      · rw [show (⟨starB.toArray⟩ : ByteArray).data.toList = starB from rfl, l1_new n _ h10] at hns
        cases hns
      · rw [show (⟨starB.toArray⟩ : ByteArray).data.toList = starB from rfl, l1_new n _ h10] at hns
        cases hns
        exact ⟨gb, rfl, hqx, r, hrep, hok, fun b hb => Nat.le_trans hx.size (hrl b hb)⟩
    generalize gateT l1 n (pickN q.mnt 10080) = G at *
    clear P3 PP
    go_region_held3 (fun w' => w'.cell? ⟨w.heap.size, 0, none⟩ = some (.int .i64 q.who) ∧ w'.cell? ⟨w.heap.size, 1, none⟩ = some (.int .i64 q.whr) ∧ w'.cell? ⟨w.heap.size, 2, none⟩ = some (.int .i64 q.prt) ∧ w'.cell? ⟨w.heap.size, 3, none⟩ = some (.int .i64 q.mnt) ∧ Q w0 w')
      (first | exact ⟨b0, b1, b2, b3, (Q.refl _).drew⟩ | exact keepB (by assumption) (by assumption) | assumption)
      (first | (go_at_call 12; refine Calls.mono (Hid.out (PM _)) ?_; rintro e w' ⟨rfl, rfl⟩) | (go_at_call 15; refine Calls.mono (Hid.out (HUs _)) ?_; rintro e w' ⟨g, rfl, hq2, hus⟩) | (go_at_call 13; refine Calls.mono (Hid.out (HNw _ _ (by first | exact Hid.out (by assumption) | exact UsAt.stays (Hid.out (by assumption)) (by assumption)) (lastB (by assumption)))) ?_; rintro e w' ⟨gb, rfl, hq2, hgw⟩))
    all_goals (go_wp2_with fail; go_meet; obtain ⟨r, x1, x2, x3⟩ := Hid.out hgw; exact ⟨gb, r, rfl, rfl, rfl, lastB (by assumption), x1, x2, x3⟩)
  case rest =>
    obtain ⟨gb, r, rfl, rfl, rfl, hqc, hrep, hok, hrl⟩ := hcut
    clear PM PP P3
    obtain ⟨o0, hh0⟩ := (Hold.start (Q.refl w0)).more (i := 0) rfl hqc hrep hrl
    obtain ⟨M, hM⟩ : ∃ M, M = pickN q.mnt 10080 := ⟨_, rfl⟩
    rw [← hM] at hh0 hok
    have HMm := show Hid _ from hM
    have HA := show Hid _ from hh0.accept (put_at _ _ _) hok
    have HWo : ∀ x, Hid (Calls Tryz.prog 17 #[.int .i64 n, .int .i64 ((pickN q.who 3 : Nat) : Int)] x fun e w' => e = .returned (str (wordT n (pickN q.who 3))) ∧ Q x w') := fun x => word_any n _ x HN.out h3
    obtain ⟨S, hS⟩ : ∃ S : ByteArray, S.data.toList = secT n q false := ⟨⟨(secT n q false).toArray⟩, rfl⟩
    have hS12 : S.size ≤ 12 := by rw [← size_len, hS]; exact sec_len n q false
    have hSw : str (wordT n (pickN q.who 3)) = .string S := by rw [← str_data, hS]; rfl
    rw [hSw] at HWo
    obtain ⟨H, hH⟩ : ∃ S : ByteArray, S.data.toList = hostT q := ⟨⟨(hostT q).toArray⟩, rfl⟩
    have hH23 : H.size ≤ 23 := by rw [← size_len, hH]; exact hostT_len q
    have HHo : ∀ x, Hid (Calls Tryz.prog 18 #[.agg #[.int .i64 q.who, .int .i64 q.whr, .int .i64 q.prt, .int .i64 q.mnt]] x fun e w' => e = .returned (.string H) ∧ Q x w') := fun x => (host_any q x HO.out).mono (by
      rintro e w' ⟨rfl, h⟩
      refine ⟨?_, h⟩
      rw [← str_data, hH])
    obtain ⟨T, hT⟩ : ∃ S : ByteArray, S.data.toList = headT (pickN q.who 3) (secT n q false) (hostT q) (pickN q.prt 65536) := ⟨⟨(headT (pickN q.who 3) (secT n q false) (hostT q) (pickN q.prt 65536)).toArray⟩, rfl⟩
    have HHd : ∀ x, Hid (Calls Tryz.prog 20 #[.int .i64 ((pickN q.who 3 : Nat) : Int), .string S, .string H, .int .i64 ((pickN q.prt 65536 : Nat) : Int)] x fun e w' => e = .returned (.string T) ∧ Q x w') := fun x => by
      have := head_any (pickN q.who 3) S H (pickN q.prt 65536) x h3 (by omega) (by omega) (by omega)
      rw [hS, hH, ← hT, str_data] at this
      exact this
    have HT := show Hid _ from hT
    have HML0 : Hid (ML w0) := HM.out.stays HQ0.out
    have HH0 := show Hid _ from hh0
    clear hM hqc hrep hok hrl hh0 hS hSw hH hT
    go_wp2_with fail
    refine Calls.mono (Hid.out HA) ?_
    rintro e w1 (⟨h8, _, _⟩ | ⟨_, ⟨o1, hh1⟩, rfl⟩)
    · cases h8
    have e1 : ((gateT l1 n M).last : Int) + 1 = 1 := rfl
    rw [e1]
    have HH1 := show Hid _ from hh1
    have HQ1 : Hid (Q w0 w1) := hh1.q
    obtain ⟨b0, b1, b2, b3, _⟩ := keepB HBox.out hh1.q
    clear HA HH0 hh1 e1
    go_wp2_with fail
    refine Calls.mono (Hid.out (HHo _)) ?_
    rintro e w2 ⟨rfl, hq2⟩
    have HH2 := show Hid _ from HH1.out.stays hq2
    clear hq2 HH1 HHo b0 b1 b2 b3
    go_wp2_with fail
    refine Calls.mono (Hid.out (HWo _)) ?_
    rintro e w3 ⟨rfl, hq3⟩
    have HH3 := show Hid _ from HH2.out.stays hq3
    clear hq3 HH2
    go_wp2_with fail
    refine Calls.mono (Hid.out (HHd _)) ?_
    rintro e w4 ⟨rfl, hq4⟩
    have hh4 := HH3.out.stays hq4
    have HF : Hid (Calls Tryz.prog 19 #[ptr gb, .int .i64 1, .string T, .slice none 0 0] w4 fun e w' => ∃ v o', e = .returned (.tuple #[v, .bool true]) ∧ Hold w0 w' o' (put (put (put (fun _ => none) 0 (gb, gateT l1 n M)) 0 (gb, (gateT l1 n M).accept)) 0 (gb, oneG l1 n M)) (put (fun _ => none) 1 (v, [⟨1, 1, hostT q, ((pickN q.prt 65536 : Nat) : Int)⟩]))) := by
      have h := head_fed (g0 := (gateT l1 n M).accept) (i := 0) (num := 1) hh4 (put_at _ _ _) (gateT_ok l1 n M) (fun c hc => by
        have : c = ⟨1, 0, 0, [], false, false⟩ := by simpa [gateT, GateS.accept] using hc
        rw [this]) (fun c hc => by
        have : c = ⟨1, 0, 0, [], false, false⟩ := by simpa [gateT, GateS.accept] using hc
        rw [this]; rfl) l1 q n rfl rfl (by rw [← HMm.out]; rfl) rfl HML0.out T HT.out 1
      rw [one_made] at h
      exact h
    have HRu : ∀ x, Q w0 x → Hid (Calls Tryz.prog 14 #[.slice va vn vc] x fun e w' => e = .returned (.string ⟨(rulesT l).toArray⟩) ∧ Q x w') := fun x hx => rules_any _ l x (HL.out.stays (HQ0.out.trans hx))
    have HRm : ∀ x, Q w0 x → Hid (Calls Tryz.prog 14 #[.slice ua un uc] x fun e w' => e = .returned (.string ⟨(rulesT m).toArray⟩) ∧ Q x w') := fun x hx => rules_any _ m x (HR.out.stays (HQ0.out.trans hx))
    clear HH3 hh4 hq4
    go_wp2_with fail
    refine Calls.mono (Hid.out HF) ?_
    rintro e w5 ⟨v5, o5, rfl, hh5⟩
    obtain ⟨a5, c5, rfl⟩ := hh5.form (put_at _ _ _)
    have HH5 := show Hid _ from hh5
    have HRu5 := HRu w5 hh5.q
    clear HF hh5
    go_wp2_with fail
    refine Calls.mono (Hid.out HRu5) ?_
    rintro e w6 ⟨rfl, hq6⟩
    have HH6 := show Hid _ from HH5.out.stays hq6
    have hTl := rulesT_len l
    have hTm := rulesT_len m
    have HRl6 : Hid (Calls Tryz.prog 30 #[ptr gb, .string ⟨(rulesT l).toArray⟩] w6 fun e w' => e = .returned (.tuple #[.int .i64 0, .int .i64 0]) ∧ ∃ o gws rows, Hold w0 w' o gws rows ∧ gws 0 = some (gb, oneG l n M)) := by
      refine (HH6.out.reload (put_at _ _ _) ⟨(rulesT l).toArray⟩ (by rw [mk_size]; unfold maxLen; omega)).mono ?_
      rintro e w' (⟨en, ln, h1, _⟩ | ⟨rs, o', h1, rfl, hh⟩)
      · rw [show (⟨(rulesT l).toArray⟩ : ByteArray).data.toList = rulesT l from rfl, comp_right] at h1
        cases h1
      · rw [show (⟨(rulesT l).toArray⟩ : ByteArray).data.toList = rulesT l from rfl, comp_right] at h1
        cases h1
        exact ⟨rfl, o', _, _, hh, put_at _ _ _⟩
    obtain ⟨TL, hTL⟩ : ∃ t, t = rulesT l := ⟨_, rfl⟩
    rw [← hTL] at HRl6 ⊢
    clear HH5 HH6 HRu5 hq6 hTL
    go_wp2_with fail
    refine Calls.mono (Hid.out HRl6) ?_
    rintro e w7 ⟨rfl, o7, gws7, rows7, hh7, hg7⟩
    have HH7 : Hid (Hold w0 w7 o7 gws7 rows7 ∧ gws7 0 = some (gb, oneG l n M)) := ⟨hh7, hg7⟩
    clear HRl6 hh7 hg7
    go_upto_if 92 with fail
    go_cut [22, 23] (fun s22 s23 wx => ∃ (now : List RawR) (na : Option Addr) (nn nc : Nat) (en : Int), s22 = .int .i64 en ∧ s23 = .slice na nn nc ∧ ((en == 0) == bad) = false ∧ Hid (RawsAt w (.slice na nn nc) now ∧ ∃ o gws rows, Hold w0 wx o gws rows ∧ gws 0 = some (gb, oneG now n M)))
    case first =>
      have HRm7 := HRm w7 HH7.out.1.q
      cases bad
      · go_wp2_with fail
        refine Calls.mono (Hid.out HRm7) ?_
        rintro e w8 ⟨rfl, hq8⟩
        have HRl8 : Hid (Calls Tryz.prog 30 #[ptr gb, .string ⟨(rulesT m).toArray⟩] w8 fun e w' => e = .returned (.tuple #[.int .i64 0, .int .i64 0]) ∧ ∃ o gws rows, Hold w0 w' o gws rows ∧ gws 0 = some (gb, oneG m n M)) := by
          refine ((HH7.out.1.stays hq8).reload HH7.out.2 ⟨(rulesT m).toArray⟩ (by rw [mk_size]; unfold maxLen; omega)).mono ?_
          rintro e w' (⟨en, ln, h1, _⟩ | ⟨rs, o', h1, rfl, hh⟩)
          · rw [show (⟨(rulesT m).toArray⟩ : ByteArray).data.toList = rulesT m from rfl, comp_right] at h1
            cases h1
          · rw [show (⟨(rulesT m).toArray⟩ : ByteArray).data.toList = rulesT m from rfl, comp_right] at h1
            cases h1
            exact ⟨rfl, o', _, _, hh, put_at _ _ _⟩
        obtain ⟨TM, hTM⟩ : ∃ t, t = rulesT m := ⟨_, rfl⟩
        rw [← hTM] at HRl8 ⊢
        clear hTM HRm7
        go_wp2_with fail
        refine Calls.mono (Hid.out HRl8) ?_
        rintro e w9 ⟨rfl, hx9⟩
        have HX9 := show Hid _ from hx9
        clear HRl8 hx9
        go_wp2_with fail
        go_meet
        exact ⟨m, ua, un, uc, 0, rfl, rfl, rfl, HR.out, HX9.out⟩
      · go_wp2_with fail
        refine Calls.mono (Hid.out HRm7) ?_
        rintro e w8 ⟨rfl, hq8⟩
        obtain ⟨en, ln, hbad⟩ := comp_bad m
        obtain ⟨TB, hTB⟩ : ∃ S : ByteArray, S.data.toList = rulesT m ++ loneB := ⟨⟨(rulesT m ++ loneB).toArray⟩, rfl⟩
        have hTBe : (⟨(rulesT m).toArray⟩ : ByteArray) ++ ⟨#[97, 108, 108, 111, 119, 10]⟩ = TB := by
          have h1 : ((⟨(rulesT m).toArray⟩ : ByteArray) ++ ⟨#[97, 108, 108, 111, 119, 10]⟩).data.toList = TB.data.toList := (app_str ⟨(rulesT m).toArray⟩ ⟨loneB.toArray⟩).trans hTB.symm
          have h2 := str_data ((⟨(rulesT m).toArray⟩ : ByteArray) ++ ⟨#[97, 108, 108, 111, 119, 10]⟩)
          rw [h1, str_data] at h2
          injection h2 with h2
          exact h2.symm
        have hTBz : TB.size ≤ 2566 := by rw [← size_len, hTB, List.length_append]; have : loneB.length = 6 := rfl; omega
        have hen := comp_en0 hbad
        have HRl8 : Hid (Calls Tryz.prog 30 #[ptr gb, .string TB] w8 fun e w' => e = .returned (.tuple #[.int .i64 (en : Int), .int .i64 (ln : Int)]) ∧ ∃ o gws rows, Hold w0 w' o gws rows ∧ gws 0 = some (gb, oneG l n M)) := by
          refine ((HH7.out.1.stays hq8).reload HH7.out.2 TB (by unfold maxLen; omega)).mono ?_
          rintro e w' (⟨en', ln', h1, rfl, hqx⟩ | ⟨rs, o', h1, _⟩)
          · rw [hTB, hbad] at h1
            cases h1
            exact ⟨rfl, _, _, _, (HH7.out.1.stays hq8).stays hqx, HH7.out.2⟩
          · rw [hTB, hbad] at h1
            cases h1
        have d0 : (((en : Int) == 0) == true) = false := by
          have : ((en : Int) == 0) = false := by rw [beq_eq_false_iff_ne]; omega
          rw [this]; rfl
        have hszm : (⟨(rulesT m).toArray⟩ : ByteArray).size ≤ 2560 := by rw [mk_size]; exact hTm
        obtain ⟨TM, hTM⟩ : ∃ t : ByteArray, t = ⟨(rulesT m).toArray⟩ := ⟨_, rfl⟩
        rw [← hTM] at hTBe hszm ⊢
        clear hTM HRm7 hbad hTB hen
        go_wp2_with fail
        refine Calls.mono (Hid.out HRl8) ?_
        rintro e w9 ⟨rfl, hx9⟩
        have HX9 := show Hid _ from hx9
        clear HRl8 hx9 hTBe
        go_wp2_with fail
        go_meet
        exact ⟨l, va, vn, vc, (en : Int), rfl, rfl, d0, HL.out, HX9.out⟩
    case rest =>
      obtain ⟨now, na, nn, nc, en, rfl, rfl, hen, hrx⟩ := hcut
      obtain ⟨W0, hW0⟩ : ∃ W, W = wc := ⟨_, rfl⟩
      subst hW0
      obtain ⟨hraws, o8, gws8, rows8, hh8, hg8⟩ := hrx.out
      have HA8 := show Hid _ from hh8.accept hg8 (oneG_ok now n M)
      have HRaw : Hid (RawsAt w (.slice na nn nc) now) := hraws
      clear hrx hraws hh8 hg8 HRu HRm
      go_wp2_with fail
      refine Calls.mono (Hid.out HA8) ?_
      rintro e w9 (⟨h8, _, _⟩ | ⟨_, ⟨o9, hh9⟩, rfl⟩)
      · cases h8
      have e1 : ((oneG now n M).last : Int) + 1 = 2 := rfl
      rw [e1]
      have HH9 := show Hid _ from hh9
      clear HA8 hh9 e1
      go_wp2_with fail
      refine Calls.mono (Hid.out (HWo _)) ?_
      rintro e w10 ⟨rfl, hq10⟩
      have HH10 := show Hid _ from HH9.out.stays hq10
      clear hq10 HH9
      go_wp2_with fail
      refine Calls.mono (Hid.out (HHd _)) ?_
      rintro e w11 ⟨rfl, hq11⟩
      obtain ⟨ys, hjd, hys⟩ := two_judged now q n M
      have HF : Hid (Calls Tryz.prog 19 #[ptr gb, .int .i64 2, .string T, .slice none 0 0] w11 fun e w' => ∃ v o' gws rows, e = .returned (.tuple #[v, .bool true]) ∧ Hold w0 w' o' gws rows ∧ gws 0 = some (gb, twoG now n M ys) ∧ rows 1 = some (v, if (decidedK q 0 (now.take 40)).1 = true then [⟨1, 2, hostT q, ((pickN q.prt 65536 : Nat) : Int)⟩] else [⟨2, 2, denyB, 0⟩, ⟨4, 2, [], 0⟩])) := by
        have h := head_fed (g0 := (oneG now n M).accept) (i := 1) (num := 2) (HH10.out.stays hq11) (put_at _ _ _) (accept_ok (oneG_ok now n M) (by simp [oneG]) (by simp [oneG])) (fun c hc => by
          have : c = ⟨1, 0, 1, [], false, false⟩ ∨ c = ⟨2, 0, 0, [], false, false⟩ := by simpa [oneG, gateT, GateS.accept] using hc
          rcases this with rfl | rfl <;> rfl) (fun c hc => by
          have : c = ⟨1, 0, 1, [], false, false⟩ ∨ c = ⟨2, 0, 0, [], false, false⟩ := by simpa [oneG, gateT, GateS.accept] using hc
          rcases this with rfl | rfl <;> rfl) now q n rfl rfl (by rw [← HMm.out]; rfl) rfl HML0.out T HT.out 1
        rw [hjd] at h
        refine h.mono ?_
        rintro e w' ⟨v, o', rfl, hh⟩
        exact ⟨v, o', _, _, rfl, hh, put_at _ _ _, put_at _ _ _⟩
      have HYs := show Hid _ from hys
      clear HH10 hq11 hjd hys HWo HHd
      go_wp2_with fail
      refine Calls.mono (Hid.out HF) ?_
      rintro e w12 ⟨v12, o12, gws12, rows12, rfl, hh12, hg12, hr12⟩
      obtain ⟨b0, b1, b2, b3, _⟩ := keepB HBox.out hh12.q
      have HDe := show Hid _ from decided_any (.slice na nn nc) now q w12 (HRaw.out.stays (HQ0.out.trans hh12.q)) HO.out
      unfold askV at HDe
      have hrow : w12.ownsRow w0.heap.size 48 4 v12 (if (decidedK q 0 (now.take 40)).1 = true then [⟨1, 2, hostT q, ((pickN q.prt 65536 : Nat) : Int)⟩] else [⟨2, 2, denyB, 0⟩, ⟨4, 2, [], 0⟩] : List EvS).length (evVals (if (decidedK q 0 (now.take 40)).1 = true then [⟨1, 2, hostT q, ((pickN q.prt 65536 : Nat) : Int)⟩] else [⟨2, 2, denyB, 0⟩, ⟨4, 2, [], 0⟩])) := (hh12.row 1 _ hr12).1
      have HH12 : Hid (Hold w0 w12 o12 gws12 rows12 ∧ gws12 0 = some (gb, twoG now n M ys)) := ⟨hh12, hg12⟩
      clear HF hh12 hg12 hr12
      have HDi : ∀ x, Q w12 x → Hid (Calls Tryz.prog 24 #[ptr gb, .int .i64 1, .bool true] x fun e w' => ∃ (a : Option Addr) (cp : Nat) (o' : Ow) (gws : Gws) (rows : Rws) (G : GateS), e = .returned (.tuple #[.slice a 1 cp, .int .i64 0]) ∧ Hid (Hold w0 w' o' gws rows ∧ gws 0 = some (gb, G) ∧ GOk G ∧ (∃ k : Nat, G.conns[k]? = some (⟨1, 0, 2, [], false, false⟩ : ConnS)) ∧ rows 2 = some (.slice a 1 cp, [⟨2, 1, goB, 0⟩]))) := fun x hx => by
        refine ((HH12.out.1.stays hx).dialed HH12.out.2 (twoG_ok HYs.out) (two_waits HYs.out) 1 true 2).mono ?_
        rintro e w' (⟨k, c, v, o', hk, hn, hp, rfl, hh⟩ | ⟨hno, _⟩)
        · have h0 : (twoG now n M ys).conns[0]? = some ⟨1, 0, 1, [], false, false⟩ := rfl
          have hk0 := (twoG_ok (l := now) (n := n) (m := M) HYs.out).nums k 0 c _ hk h0 (by show c.num = 1; omega)
          subst hk0
          rw [h0] at hk
          cases hk
          obtain ⟨a, cp, rfl⟩ := hh.form (put_at _ _ _)
          exact ⟨a, cp, o', _, _, _, rfl, hh, put_at _ _ _, (twoG_ok HYs.out).dialed h0 true, ⟨0, upd_get h0⟩, put_at _ _ _⟩
        · exact absurd rfl (hno ⟨1, 0, 1, [], false, false⟩ (by simp [twoG]) rfl)
      have HHo2 : ∀ (x : World) (o : Ow) (gws : Gws) (rows : Rws) (G : GateS) (a : Option Addr) (cp : Nat), (Hold w0 x o gws rows ∧ gws 0 = some (gb, G) ∧ GOk G ∧ (∃ k : Nat, G.conns[k]? = some (⟨1, 0, 2, [], false, false⟩ : ConnS)) ∧ rows 2 = some (.slice a 1 cp, [⟨2, 1, goB, 0⟩])) → Hid (Calls Tryz.prog 26 #[ptr gb, .int .i64 1, .string ⟨#[97, 98, 99]⟩] x fun e w' => ∃ (dg : Nat) (hgg : Nat) (hc : Nat), e = .returned (.tuple #[.slice (some ⟨hgg, 0, none⟩) 1 hc, .int .i64 0]) ∧ a = some ⟨dg, 0, none⟩ ∧ w'.cell? ⟨dg, 2, none⟩ = some (.string ⟨goB.toArray⟩) ∧ w'.cell? ⟨hgg, 2, none⟩ = some (.string ⟨#[97, 98, 99]⟩) ∧ Q w0 w') := by
        rintro x o gws rows G a cp ⟨hh, hg, hok, ⟨k0, hk0⟩, hr⟩
        refine (hh.host hg hok 1 ⟨#[97, 98, 99]⟩ (by decide) 3).mono ?_
        rintro e w' (⟨k, c, v, o', hk, hn, hp, rfl, hh'⟩ | ⟨hno, _⟩)
        · have hkk := hok.nums k k0 c _ hk hk0 (by show c.num = 1; omega)
          subst hkk
          rw [hk0] at hk
          cases hk
          have hd : w'.ownsRow w0.heap.size 48 4 (.slice a 1 cp) ([⟨2, 1, goB, 0⟩] : List EvS).length (evVals [⟨2, 1, goB, 0⟩]) := (hh'.row 2 _ (by rw [put_ne _ _ (by decide)]; exact hr)).1
          have hv : w'.ownsRow w0.heap.size 48 4 v ([⟨2, 1, [97, 98, 99], 0⟩] : List EvS).length (evVals [⟨2, 1, [97, 98, 99], 0⟩]) := (hh'.row 3 _ (put_at _ _ _)).1
          obtain ⟨dg, dc, e1, hdc⟩ := ev_cells hd (by simp)
          obtain ⟨hgg, hc, e2, hvc⟩ := ev_cells hv (by simp)
          injection e1 with e1 _ _
          exact ⟨dg, hgg, hc, by rw [e2]; rfl, e1, hdc 2 _ rfl, hvc 2 _ rfl, hh'.q⟩
        · exact absurd ⟨rfl, rfl⟩ (hno _ (List.mem_of_getElem? hk0) rfl)
      generalize (decidedK q 0 (now.take 40)).1 = yes at *
      generalize (decidedK q 0 (now.take 40)).2 = nnn at *
      cases yes
      · rw [if_neg (by decide)] at hrow
        obtain ⟨eg, ec, rfl, hcells⟩ := ev_cells hrow (by simp)
        clear hcells hrow
        go_wp2_with fail
        refine Calls.mono (Hid.out HDe) ?_
        rintro e w13 ⟨rfl, hq13⟩
        have HD13 := HDi w13 hq13
        clear hq13 HDe HDi b0 b1 b2 b3
        go_wp2_with fail
        refine Calls.mono (Hid.out HD13) ?_
        rintro e w14 ⟨a14, c14, o14, gws14, rows14, G14, rfl, hx14⟩
        have HH14 := HHo2 w14 o14 gws14 rows14 G14 a14 c14 hx14.out
        clear HD13 hx14 HHo2
        go_wp2_with fail
        refine Calls.mono (Hid.out HH14) ?_
        rintro e w15 ⟨dg, hgg, hc, rfl, rfl, d2, h2, hq15⟩
        unfold goB at d2
        clear HH14
        go_wp2_with fail
        go_ret
        exact ⟨by simp, HQ0.out.trans hq15⟩
      · rw [if_pos rfl] at hrow
        obtain ⟨eg, ec, rfl, hcells⟩ := ev_cells hrow (by simp)
        have c0 := hcells 0 _ rfl
        clear hcells hrow
        go_wp2_with fail
        refine Calls.mono (Hid.out HDe) ?_
        rintro e w13 ⟨rfl, hq13⟩
        have HD13 := HDi w13 hq13
        have c0' := hq13.cell c0
        clear hq13 HDe HDi b0 b1 b2 b3 c0
        go_wp2_with fail
        refine Calls.mono (Hid.out HD13) ?_
        rintro e w14 ⟨a14, c14, o14, gws14, rows14, G14, rfl, hx14⟩
        have HH14 := HHo2 w14 o14 gws14 rows14 G14 a14 c14 hx14.out
        clear HD13 hx14 HHo2 c0'
        go_wp2_with fail
        refine Calls.mono (Hid.out HH14) ?_
        rintro e w15 ⟨dg, hgg, hc, rfl, rfl, d2, h2, hq15⟩
        unfold goB at d2
        clear HH14
        go_wp2_with fail
        go_ret
        exact ⟨by simp, HQ0.out.trans hq15⟩
end Go.Proofs.YtdmaffciijmdcaaGreatDoor

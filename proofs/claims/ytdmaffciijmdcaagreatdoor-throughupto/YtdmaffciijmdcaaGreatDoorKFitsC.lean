/-
  The statements' own functions: does a rule fit a question?
-/
import Derived.Test.YtdmaffciijmdcaaGreatDoorFed2ToEnds
import Derived.Deep.RegionHeld3
namespace Go.Proofs.YtdmaffciijmdcaaGreatDoor
namespace Plain
theorem fitsF1 {r : RawR} {q : AskR} (h : whoK r q = false) : fitsK r q = false := by unfold fitsK; rw [h]; rfl
theorem fitsF2 {r : RawR} {q : AskR} (h : whereK r q = false) : fitsK r q = false := by unfold fitsK; rw [h]; simp
theorem fitsF3 {r : RawR} {q : AskR} (h : portK r q = false) : fitsK r q = false := by unfold fitsK; rw [h]; simp
theorem fitsT {r : RawR} {q : AskR} (h1 : whoK r q = true) (h2 : whereK r q = true) (h3 : portK r q = true) : fitsK r q = whenK r q := by unfold fitsK; rw [h1, h2, h3]; rfl
end Plain
open Go.RowKit Plain

theorem keep1 {p : Addr} {v : Value} {W a b : World} (h : a.cell? p = some v ∧ Q W a) (q : Q a b) : b.cell? p = some v ∧ Q W b := ⟨q.cell h.1, h.2.trans q⟩

abbrev fitW (w : World) (r : RawR) (q : AskR) : World := (w.alloc (.cells #[.int .i64 r.says, .int .i64 r.who, .int .i64 r.whr, .int .i64 r.bts, .int .i64 r.frm, .int .i64 r.til, .int .i64 r.beg, .int .i64 r.fin] 94)).alloc (.cells #[.int .i64 q.who, .int .i64 q.whr, .int .i64 q.prt, .int .i64 q.mnt] 27)

/-- What the two copies hold. -/
structure FitHolds (w : World) (r : RawR) (q : AskR) (x : World) : Prop where
  qw : Q w x
  r2 : x.cell? ⟨w.heap.size, 2, none⟩ = some (.int .i64 r.whr)
  r3 : x.cell? ⟨w.heap.size, 3, none⟩ = some (.int .i64 r.bts)
  r4 : x.cell? ⟨w.heap.size, 4, none⟩ = some (.int .i64 r.frm)
  r5 : x.cell? ⟨w.heap.size, 5, none⟩ = some (.int .i64 r.til)
  r6 : x.cell? ⟨w.heap.size, 6, none⟩ = some (.int .i64 r.beg)
  r7 : x.cell? ⟨w.heap.size, 7, none⟩ = some (.int .i64 r.fin)
  q0 : x.cell? ⟨w.heap.size + 1, 0, none⟩ = some (.int .i64 q.who)
  q1 : x.cell? ⟨w.heap.size + 1, 1, none⟩ = some (.int .i64 q.whr)
  q2 : x.cell? ⟨w.heap.size + 1, 2, none⟩ = some (.int .i64 q.prt)
  q3 : x.cell? ⟨w.heap.size + 1, 3, none⟩ = some (.int .i64 q.mnt)
theorem FitHolds.start (w : World) (r : RawR) (q : AskR) : FitHolds w r q (fitW w r q) := by
  refine ⟨((Q.refl w).alloc _).alloc _, ?_, ?_, ?_, ?_, ?_, ?_, ?_, ?_, ?_, ?_⟩ <;> simp [go_sem]
theorem FitHolds.later {w : World} {r : RawR} {q : AskR} {x y : World} (h : FitHolds w r q x) (k : Q x y) : FitHolds w r q y :=
  ⟨h.qw.trans k, k.cell h.r2, k.cell h.r3, k.cell h.r4, k.cell h.r5, k.cell h.r6, k.cell h.r7, k.cell h.q0, k.cell h.q1, k.cell h.q2, k.cell h.q3⟩

set_option maxRecDepth 100000 in
set_option maxHeartbeats 1600000 in
theorem kfits_any (r : RawR) (q : AskR) (w : World) (hr : RawOk r) (hq : AskOk q) :
    Calls Tryz.prog 49 #[rawV r, askV q] w fun e w' => e = .returned (.bool (fitsK r q)) ∧ Q w w' := by
  have HR : Hid (RawOk r) := hr
  have HQ : Hid (AskOk q) := hq
  have HST := show Hid _ from FitHolds.start w r q
  have hp4 := pickN_lt r.who (n := 4) (by decide)
  have hp3 := pickN_lt q.who (n := 3) (by decide)
  have TA : ∀ w, Hid (Calls Tryz.prog 48 #[.int .i64 ((pickN q.who 3 : Nat) : Int)] w fun e w' => e = .returned (.string ⟨(tenantS (pickN q.who 3)).toArray⟩) ∧ Q w w') := fun w => tenants_any _ w (by omega) (by omega)
  clear hr hq
  unfold rawV askV
  go_enter Tryz.func49, Tryz.ntmps49
  go_upto_region 2 with (first | (go_at_call 12; refine (pick_any _ 4 _ HR.out.who (by decide) (by decide)).mono ?_; rintro e w' ⟨rfl, hw⟩; rw [hw, show ((4 : Int).toNat) = 4 from rfl]))
  go_cut [29] (fun b wx => b = .bool (!whoK r q) ∧ Q (fitW w r q) wx)
  case first =>
    have P3 : ∀ w, Hid (Calls Tryz.prog 12 #[.int .i64 q.who, .int .i64 3] w fun e w' => e = .returned (.int .i64 ((pickN q.who 3 : Nat) : Int)) ∧ w' = w) := fun w => pick_any q.who 3 w HQ.out.who (by decide) (by decide)
    by_cases h : pickN r.who 4 < 3
    · have TB : ∀ w, Hid (Calls Tryz.prog 48 #[.int .i64 ((pickN r.who 4 : Nat) : Int)] w fun e w' => e = .returned (.string ⟨(tenantS (pickN r.who 4)).toArray⟩) ∧ Q w w') := fun w => tenants_any _ w (by omega) (by omega)
      have HS : Hid (whoK r q = (tenantS (pickN r.who 4) == tenantS (pickN q.who 3))) := (if_pos h).trans (by rw [Bool.eq_iff_iff, beq_iff_eq, beq_iff_eq]; exact eq_comm)
      have hd : decide (((pickN r.who 4 : Nat) : Int) < 3) = true := decide_eq_true (by omega)
      go_region_held3 (fun w' => w'.cell? ⟨w.heap.size + 1, 0, none⟩ = some (.int .i64 q.who) ∧ Q (fitW w r q) w')
        (first | exact ⟨by simp [go_sem], (Q.refl _).drew⟩ | exact keep1 (by assumption) (by assumption) | assumption)
        (first | (go_at_call_of 48 (Value.int IntKind.i64 ((pickN r.who 4 : Nat) : Int)); refine Calls.mono (Hid.out (TB _)) ?_; rintro e w' ⟨rfl, hq2⟩) | (go_at_call_of 48 (Value.int IntKind.i64 ((pickN q.who 3 : Nat) : Int)); refine Calls.mono (Hid.out (TA _)) ?_; rintro e w' ⟨rfl, hq2⟩) | (go_at_call 12; refine Calls.mono (Hid.out (P3 _)) ?_; rintro e w' ⟨rfl, rfl⟩))
      obtain ⟨_, hqh⟩ := by assumption
      go_wp2_with fail
      go_meet
      exact ⟨by rw [HS.out], hqh⟩
    · have HS : Hid (whoK r q = true) := if_neg h
      have hd : decide (((pickN r.who 4 : Nat) : Int) < 3) = false := decide_eq_false (by omega)
      go_quiet (fail)
      go_wp2_with fail
      go_meet
      exact ⟨by rw [HS.out]; rfl, (Q.refl _).drews _⟩
  case rest =>
    clear TA
    obtain ⟨rfl, hq0⟩ := hcut
    obtain ⟨qw, r2, r3, r4, r5, r6, r7, q0, q1, q2, q3⟩ := HST.out.later hq0
    have HF0 := show Hid _ from HST.out.later hq0
    clear hq0
    cases hwho : whoK r q with
    | false =>
      go_wp2_with fail
      go_ret
      exact ⟨by rw [fitsF1 hwho]; rfl, qw⟩
    | true =>
      have HWho := show Hid _ from hwho
      clear hwho
      have hp12 := pickN_lt q.whr (n := 12) (by decide)
      have hp20 := pickN_lt r.whr (n := 20) (by decide)
      go_wp2_with fail
      refine (host_any q wc HQ.out).mono ?_
      rintro e w1 ⟨rfl, hqh⟩
      clear qw r2 r3 r4 r5 r6 r7 q0 q1 q2 q3
      obtain ⟨qw, r2, r3, r4, r5, r6, r7, q0, q1, q2, q3⟩ := HF0.out.later hqh
      have HF1 := show Hid _ from HF0.out.later hqh
      clear hqh HF0
      have hTl := hostT_len q
      have hNl := nameS_len (pickN r.whr 20)
      unfold str
      go_upto_block 0 with (first | (go_at_call_of 12 (Value.int IntKind.i64 12); refine (pick_any q.whr 12 _ HQ.out.whr (by decide) (by decide)).mono ?_; rintro e w' ⟨rfl, hw⟩; rw [hw, show ((12 : Int).toNat) = 12 from rfl]; clear hw) | (go_at_call_of 12 (Value.int IntKind.i64 20); refine (pick_any r.whr 20 _ HR.out.whr (by decide) (by decide)).mono ?_; rintro e w' ⟨rfl, hw⟩; rw [hw, show ((20 : Int).toNat) = 20 from rfl]; clear hw))
      go_cut [7, 8, 9, 39, 46, 59] (fun _ _ _ _ _ _ wx => whereK r q = true ∧ Q w1 wx)
      case first =>
        by_cases h6 : pickN r.whr 20 < 6
        · have HS : Hid (whereK r q = (hostT q == nameS (pickN r.whr 20))) := if_pos h6
          have NA : ∀ w, Hid (Calls Tryz.prog 23 #[.int .i64 ((pickN r.whr 20 : Nat) : Int)] w fun e w' => e = .returned (.string ⟨(nameS (pickN r.whr 20)).toArray⟩) ∧ Q w w') := fun w => names_any _ w (by omega) (by omega)
          generalize hostT q = ht at *
          generalize nameS (pickN r.whr 20) = nm at *
          go_wp2_with fail
          refine Calls.mono (Hid.out (NA _)) ?_
          rintro e w2 ⟨rfl, hq2⟩
          cases hb : (ht == nm) with
          | true =>
            go_wp2_with fail
            go_meet
            exact ⟨HS.out.trans hb, hq2⟩
          | false =>
            go_wp2_with fail
            go_ret
            exact ⟨by rw [fitsF2 (HS.out.trans hb)]; rfl, qw.trans hq2⟩
        by_cases h12 : pickN r.whr 20 < 12
        · have HS : Hid (whereK r q = (decide (pickN q.whr 12 < 6) && endsS (hostT q) (nameS (pickN r.whr 20)))) := (if_neg h6).trans (if_pos h12)
          have NA : ∀ w, Hid (Calls Tryz.prog 23 #[.int .i64 ((pickN r.whr 20 : Nat) : Int)] w fun e w' => e = .returned (.string ⟨(nameS (pickN r.whr 20)).toArray⟩) ∧ Q w w') := fun w => names_any _ w (by omega) (by omega)
          have EN : ∀ w, Hid (Calls Tryz.prog 90 #[.string ⟨(hostT q).toArray⟩, .string ⟨(nameS (pickN r.whr 20)).toArray⟩] w fun e w' => e = .returned (.bool (endsS (hostT q) (nameS (pickN r.whr 20)))) ∧ Q w w') := fun w => ends_any _ _ w (by omega) (by omega)
          generalize endsS (hostT q) (nameS (pickN r.whr 20)) = be at *
          generalize hostT q = ht at *
          generalize nameS (pickN r.whr 20) = nm at *
          have hd12 : decide (((pickN r.whr 20 : Nat) : Int) < 12) = true := decide_eq_true (by omega)
          go_wp2_with fail
          refine Calls.mono (Hid.out (NA _)) ?_
          rintro e w2 ⟨rfl, hq2⟩
          go_wp2_with fail
          refine Calls.mono (Hid.out (EN _)) ?_
          rintro e w3 ⟨rfl, hq3⟩
          by_cases hn : pickN q.whr 12 < 6
          · have hdn : decide (((pickN q.whr 12 : Nat) : Int) < 6) = true := decide_eq_true (by omega)
            rw [decide_eq_true hn] at HS
            cases be with
            | true =>
              go_wp2_with fail
              go_meet
              exact ⟨HS.out, hq2.trans hq3⟩
            | false =>
              go_wp2_with fail
              go_ret
              exact ⟨by rw [fitsF2 HS.out]; rfl, qw.trans (hq2.trans hq3)⟩
          · have hdn : decide (((pickN q.whr 12 : Nat) : Int) < 6) = false := decide_eq_false (by omega)
            rw [decide_eq_false hn] at HS
            go_wp2_with fail
            go_ret
            exact ⟨by rw [fitsF2 HS.out]; rfl, qw.trans (hq2.trans hq3)⟩
        by_cases h19 : pickN r.whr 20 < 19
        · have HS : Hid (whereK r q = (!decide (pickN q.whr 12 < 6) && decide (pickN q.whr 4294967296 / 2 ^ (32 - pickN r.bts 33) = pickN r.whr 4294967296 / 2 ^ (32 - pickN r.bts 33)))) := ((if_neg h6).trans (if_neg h12)).trans (if_pos h19)
          have hp33 := pickN_lt r.bts (n := 33) (by decide)
          have hA := pickN_lt r.whr (n := 4294967296) (by decide)
          have hB := pickN_lt q.whr (n := 4294967296) (by decide)
          have hV0 : 0 < 2 ^ (32 - pickN r.bts 33) := Nat.pow_pos (by decide)
          have hV1 : 2 ^ (32 - pickN r.bts 33) ≤ 2 ^ 32 := Nat.pow_le_pow_right (by decide) (by omega)
          have hW : widthS r.bts = 2 ^ (32 - pickN r.bts 33) := rfl
          generalize 2 ^ (32 - pickN r.bts 33) = V at hV0 hV1 HS hW
          have HW := show Hid _ from hW
          clear hW hp33
          have hd12 : decide (((pickN r.whr 20 : Nat) : Int) < 12) = false := decide_eq_false (by omega)
          have hd19 : decide (((pickN r.whr 20 : Nat) : Int) < 19) = true := decide_eq_true (by omega)
          by_cases hn : pickN q.whr 12 < 6
          · have hdn : decide (((pickN q.whr 12 : Nat) : Int) < 6) = true := decide_eq_true (by omega)
            rw [decide_eq_true hn] at HS
            go_wp2_with (first | (go_at_call 89; refine (width_any r.bts _ HR.out.bts).mono ?_; rintro e w' ⟨rfl, hw⟩; rw [hw, HW.out]; clear hw))
            go_quiet (fail)
            go_wp2_with fail
            go_ret
            exact ⟨by rw [fitsF2 HS.out]; rfl, qw.drews _⟩
          · have hdn : decide (((pickN q.whr 12 : Nat) : Int) < 6) = false := decide_eq_false (by omega)
            rw [decide_eq_false hn] at HS
            have DA : ∀ w, Hid (Calls Tryz.prog 45 #[.int .i64 r.whr] w fun e w' => e = .returned (.int .i64 ((pickN r.whr 4294967296 : Nat) : Int)) ∧ w' = w) := fun w => address_any r.whr w HR.out.whr
            have DB : ∀ w, Hid (Calls Tryz.prog 45 #[.int .i64 q.whr] w fun e w' => e = .returned (.int .i64 ((pickN q.whr 4294967296 : Nat) : Int)) ∧ w' = w) := fun w => address_any q.whr w HQ.out.whr
            generalize pickN r.whr 4294967296 = A at *
            generalize pickN q.whr 4294967296 = B at *
            have a1 : ((A : Int) / (V : Int)) = ((A / V : Nat) : Int) := by rw [Int.natCast_ediv]
            have b1 : ((B : Int) / (V : Int)) = ((B / V : Nat) : Int) := by rw [Int.natCast_ediv]
            have hAd : A / V ≤ A := Nat.div_le_self _ _
            have hBd : B / V ≤ B := Nat.div_le_self _ _
            have a0 : (A : Int).tdiv (V : Int) = ((A / V : Nat) : Int) := (Int.tdiv_eq_ediv_of_nonneg (by omega)).trans a1
            have b0 : (B : Int).tdiv (V : Int) = ((B / V : Nat) : Int) := (Int.tdiv_eq_ediv_of_nonneg (by omega)).trans b1
            clear a1 b1
            generalize A / V = Ad at *
            generalize B / V = Bd at *
            have a2 : IntKind.i64.wrap (Ad : Int) = (Ad : Int) := IntWalk.i64_in _ ⟨by omega, by omega⟩
            have b2 : IntKind.i64.wrap (Bd : Int) = (Bd : Int) := IntWalk.i64_in _ ⟨by omega, by omega⟩
            have hV0' : ¬ (V : Int) = 0 := by omega
            by_cases he : Bd = Ad
            · have hbq : (((Bd : Nat) : Int) != ((Ad : Nat) : Int)) = false := by rw [he]; simp
              rw [decide_eq_true he] at HS
              go_wp2_with (first | (go_at_call 89; refine (width_any r.bts _ HR.out.bts).mono ?_; rintro e w' ⟨rfl, hw⟩; rw [hw, HW.out]; clear hw))
              go_quiet ((first | (go_at_call_of 45 (Value.int IntKind.i64 r.whr); exact Calls.quiet_of_same (Hid.out (DA _))) | (go_at_call_of 45 (Value.int IntKind.i64 q.whr); exact Calls.quiet_of_same (Hid.out (DB _)))))
              go_wp2_with fail
              go_meet
              exact ⟨HS.out, (Q.refl _).drews _⟩
            · have hbq : (((Bd : Nat) : Int) != ((Ad : Nat) : Int)) = true := by rw [bne_iff_ne]; omega
              rw [decide_eq_false he] at HS
              go_wp2_with (first | (go_at_call 89; refine (width_any r.bts _ HR.out.bts).mono ?_; rintro e w' ⟨rfl, hw⟩; rw [hw, HW.out]; clear hw))
              go_quiet ((first | (go_at_call_of 45 (Value.int IntKind.i64 r.whr); exact Calls.quiet_of_same (Hid.out (DA _))) | (go_at_call_of 45 (Value.int IntKind.i64 q.whr); exact Calls.quiet_of_same (Hid.out (DB _)))))
              go_wp2_with fail
              go_ret
              exact ⟨by rw [fitsF2 HS.out]; rfl, qw.drews _⟩
        · have HS : Hid (whereK r q = true) := ((if_neg h6).trans (if_neg h12)).trans (if_neg h19)
          go_wp2_with fail
          go_meet
          exact ⟨HS.out, Q.refl _⟩
      case rest =>
        obtain ⟨hwhere, hqc⟩ := hcut
        clear qw r2 r3 r4 r5 r6 r7 q0 q1 q2 q3
        obtain ⟨qw, r2, r3, r4, r5, r6, r7, q0, q1, q2, q3⟩ := HF1.out.later hqc
        have HWh := show Hid _ from hwhere
        clear hqc hwhere HF1 q0 q1 r2 r3
        have hpf := pickN_lt r.frm (n := 65536) (by decide)
        have hpt := pickN_lt r.til (n := 65536) (by decide)
        have hpp := pickN_lt q.prt (n := 65536) (by decide)
        go_upto_region 21 with (first | (go_at_call_of 12 (Value.int IntKind.i64 r.frm); refine (pick_any _ 65536 _ HR.out.frm (by decide) (by decide)).mono ?_; rintro e w' ⟨rfl, hw⟩; rw [hw, show ((65536 : Int).toNat) = 65536 from rfl]; clear hw) | (go_at_call_of 12 (Value.int IntKind.i64 r.til); refine (pick_any _ 65536 _ HR.out.til (by decide) (by decide)).mono ?_; rintro e w' ⟨rfl, hw⟩; rw [hw, show ((65536 : Int).toNat) = 65536 from rfl]; clear hw) | (go_at_call_of 12 (Value.int IntKind.i64 q.prt); refine (pick_any _ 65536 _ HQ.out.prt (by decide) (by decide)).mono ?_; rintro e w' ⟨rfl, hw⟩; rw [hw, show ((65536 : Int).toNat) = 65536 from rfl]; clear hw))
        go_cut [95] (fun b wx => b = .bool (decide (pickN r.til 65536 < pickN r.frm 65536) && !decide (pickN q.prt 65536 = pickN r.frm 65536)) ∧ wx = wc)
        case first =>
          by_cases h : pickN r.til 65536 < pickN r.frm 65536
          · have hd1 : decide (((pickN r.til 65536 : Nat) : Int) < ((pickN r.frm 65536 : Nat) : Int)) = true := decide_eq_true (by omega)
            by_cases he : pickN q.prt 65536 = pickN r.frm 65536
            · have hb : ((((pickN q.prt 65536 : Nat) : Int)) != ((pickN r.frm 65536 : Nat) : Int)) = false := by rw [he, bne_eq_false_iff_eq]
              have HE := show Hid _ from he
              clear he
              go_wp2_with fail
              go_meet
              exact ⟨by rw [decide_eq_true h, decide_eq_true HE.out]; rfl, rfl⟩
            · have hb : ((((pickN q.prt 65536 : Nat) : Int)) != ((pickN r.frm 65536 : Nat) : Int)) = true := by rw [bne_iff_ne]; omega
              have HE := show Hid _ from he
              clear he
              go_wp2_with fail
              go_meet
              exact ⟨by rw [decide_eq_true h, decide_eq_false HE.out]; rfl, rfl⟩
          · have hd1 : decide (((pickN r.til 65536 : Nat) : Int) < ((pickN r.frm 65536 : Nat) : Int)) = false := decide_eq_false (by omega)
            go_wp2_with fail
            go_meet
            exact ⟨by rw [decide_eq_false h]; rfl, rfl⟩
        case rest =>
          obtain ⟨rfl, rfl⟩ := hcut
          by_cases hpo : pickN r.til 65536 < pickN r.frm 65536 ∧ ¬ pickN q.prt 65536 = pickN r.frm 65536
          · have HS : Hid (portK r q = false) := (if_pos hpo.1).trans (decide_eq_false hpo.2)
            rw [decide_eq_true hpo.1, decide_eq_false hpo.2]
            clear hpo
            go_wp2_with fail
            go_ret
            exact ⟨by rw [fitsF3 HS.out]; rfl, qw⟩
          rw [show (decide (pickN r.til 65536 < pickN r.frm 65536) && !decide (pickN q.prt 65536 = pickN r.frm 65536)) = false by rw [Bool.eq_false_iff]; simpa using hpo]
          have HPo := show Hid _ from hpo
          clear hpo
          go_upto_region 23 with fail
          go_cut [114] (fun b wx => b = .bool (!portK r q) ∧ wx = wc)
          case first =>
            by_cases h : pickN r.til 65536 < pickN r.frm 65536
            · have hd1 : decide (((pickN r.frm 65536 : Nat) : Int) ≤ ((pickN r.til 65536 : Nat) : Int)) = false := decide_eq_false (by omega)
              have HS : Hid (portK r q = true) := (if_pos h).trans (decide_eq_true (Decidable.of_not_not fun hx => HPo.out ⟨h, hx⟩))
              go_wp2_with fail
              go_meet
              exact ⟨by rw [HS.out]; rfl, rfl⟩
            have hd1 : decide (((pickN r.frm 65536 : Nat) : Int) ≤ ((pickN r.til 65536 : Nat) : Int)) = true := decide_eq_true (by omega)
            by_cases h3 : r.frm.tmod 3 ≠ 0
            · have b3 : (r.frm.tmod 3 != 0) = true := by rw [bne_iff_ne]; exact h3
              have HS : Hid (portK r q = (decide (pickN r.frm 65536 ≤ pickN q.prt 65536) && decide (pickN q.prt 65536 ≤ pickN r.til 65536))) := (if_neg h).trans (if_pos h3)
              clear h3
              by_cases h4 : pickN r.frm 65536 ≤ pickN q.prt 65536
              · have hd4 : decide (((pickN q.prt 65536 : Nat) : Int) < ((pickN r.frm 65536 : Nat) : Int)) = false := decide_eq_false (by omega)
                by_cases h5 : pickN q.prt 65536 ≤ pickN r.til 65536
                · have hd5 : decide (((pickN r.til 65536 : Nat) : Int) < ((pickN q.prt 65536 : Nat) : Int)) = false := decide_eq_false (by omega)
                  go_wp2_with fail
                  go_meet
                  exact ⟨congrArg Value.bool (by rw [HS.out, Bool.eq_iff_iff]; simp), rfl⟩
                · have hd5 : decide (((pickN r.til 65536 : Nat) : Int) < ((pickN q.prt 65536 : Nat) : Int)) = true := decide_eq_true (by omega)
                  go_wp2_with fail
                  go_meet
                  exact ⟨congrArg Value.bool (by rw [HS.out, Bool.eq_iff_iff]; simp), rfl⟩
              · have hd4 : decide (((pickN q.prt 65536 : Nat) : Int) < ((pickN r.frm 65536 : Nat) : Int)) = true := decide_eq_true (by omega)
                go_wp2_with fail
                go_meet
                exact ⟨by rw [HS.out, decide_eq_false h4]; rfl, rfl⟩
            · have b3 : (r.frm.tmod 3 != 0) = false := by rw [bne_eq_false_iff_eq]; exact Decidable.of_not_not h3
              have HS : Hid (portK r q = true) := (if_neg h).trans (if_neg h3)
              clear h3
              go_wp2_with fail
              go_meet
              exact ⟨by rw [HS.out]; rfl, rfl⟩
          case rest =>
            obtain ⟨rfl, rfl⟩ := hcut
            cases hport : portK r q with
            | false =>
              go_wp2_with fail
              go_ret
              exact ⟨by rw [fitsF3 hport]; rfl, qw⟩
            | true =>
              have HT := show Hid _ from fitsT HWho.out HWh.out hport
              clear hport
              by_cases h3 : r.beg.tmod 3 ≠ 0
              · have b3 : (r.beg.tmod 3 == 0) = false := by rw [beq_eq_false_iff_ne]; exact h3
                have hpb := pickN_lt r.beg (n := 10080) (by decide)
                have hpe := pickN_lt r.fin (n := 10080) (by decide)
                have hpm := pickN_lt q.mnt (n := 10080) (by decide)
                have HS : Hid (whenK r q = (if pickN r.fin 10080 < pickN r.beg 10080 then decide (pickN r.beg 10080 ≤ pickN q.mnt 10080) || decide (pickN q.mnt 10080 ≤ pickN r.fin 10080) else decide (pickN r.beg 10080 ≤ pickN q.mnt 10080) && decide (pickN q.mnt 10080 ≤ pickN r.fin 10080))) := if_pos h3
                clear h3
                go_upto_region 30 with (first | (go_at_call_of 12 (Value.int IntKind.i64 r.beg); refine (pick_any _ 10080 _ HR.out.beg (by decide) (by decide)).mono ?_; rintro e w' ⟨rfl, hw⟩; rw [hw, show ((10080 : Int).toNat) = 10080 from rfl]; clear hw) | (go_at_call_of 12 (Value.int IntKind.i64 r.fin); refine (pick_any _ 10080 _ HR.out.fin (by decide) (by decide)).mono ?_; rintro e w' ⟨rfl, hw⟩; rw [hw, show ((10080 : Int).toNat) = 10080 from rfl]; clear hw) | (go_at_call_of 12 (Value.int IntKind.i64 q.mnt); refine (pick_any _ 10080 _ HQ.out.mnt (by decide) (by decide)).mono ?_; rintro e w' ⟨rfl, hw⟩; rw [hw, show ((10080 : Int).toNat) = 10080 from rfl]; clear hw))
                by_cases h : pickN r.fin 10080 < pickN r.beg 10080
                · have hd1 : decide (((pickN r.beg 10080 : Nat) : Int) ≤ ((pickN r.fin 10080 : Nat) : Int)) = false := decide_eq_false (by omega)
                  rw [if_pos h] at HS
                  by_cases h4 : pickN r.beg 10080 ≤ pickN q.mnt 10080
                  · have hd4 : decide (((pickN r.beg 10080 : Nat) : Int) ≤ ((pickN q.mnt 10080 : Nat) : Int)) = true := decide_eq_true (by omega)
                    go_wp2_with fail
                    go_ret
                    exact ⟨by rw [HT.out, HS.out, decide_eq_true h4]; rfl, qw⟩
                  · have hd4 : decide (((pickN r.beg 10080 : Nat) : Int) ≤ ((pickN q.mnt 10080 : Nat) : Int)) = false := decide_eq_false (by omega)
                    by_cases h5 : pickN q.mnt 10080 ≤ pickN r.fin 10080
                    · have hd5 : decide (((pickN q.mnt 10080 : Nat) : Int) ≤ ((pickN r.fin 10080 : Nat) : Int)) = true := decide_eq_true (by omega)
                      go_wp2_with fail
                      go_ret
                      exact ⟨by rw [HT.out, HS.out, decide_eq_false h4, decide_eq_true h5]; rfl, qw⟩
                    · have hd5 : decide (((pickN q.mnt 10080 : Nat) : Int) ≤ ((pickN r.fin 10080 : Nat) : Int)) = false := decide_eq_false (by omega)
                      go_wp2_with fail
                      go_ret
                      exact ⟨by rw [HT.out, HS.out, decide_eq_false h4, decide_eq_false h5]; rfl, qw⟩
                · have hd1 : decide (((pickN r.beg 10080 : Nat) : Int) ≤ ((pickN r.fin 10080 : Nat) : Int)) = true := decide_eq_true (by omega)
                  rw [if_neg h] at HS
                  by_cases h4 : pickN r.beg 10080 ≤ pickN q.mnt 10080
                  · have hd4 : decide (((pickN r.beg 10080 : Nat) : Int) ≤ ((pickN q.mnt 10080 : Nat) : Int)) = true := decide_eq_true (by omega)
                    by_cases h5 : pickN q.mnt 10080 ≤ pickN r.fin 10080
                    · have hd5 : decide (((pickN q.mnt 10080 : Nat) : Int) ≤ ((pickN r.fin 10080 : Nat) : Int)) = true := decide_eq_true (by omega)
                      go_wp2_with fail
                      go_ret
                      exact ⟨by rw [HT.out, HS.out, decide_eq_true h4, decide_eq_true h5]; rfl, qw⟩
                    · have hd5 : decide (((pickN q.mnt 10080 : Nat) : Int) ≤ ((pickN r.fin 10080 : Nat) : Int)) = false := decide_eq_false (by omega)
                      go_wp2_with fail
                      go_ret
                      exact ⟨by rw [HT.out, HS.out, decide_eq_true h4, decide_eq_false h5]; rfl, qw⟩
                  · have hd4 : decide (((pickN r.beg 10080 : Nat) : Int) ≤ ((pickN q.mnt 10080 : Nat) : Int)) = false := decide_eq_false (by omega)
                    go_wp2_with fail
                    go_ret
                    exact ⟨by rw [HT.out, HS.out, decide_eq_false h4]; rfl, qw⟩
              · have b3 : (r.beg.tmod 3 == 0) = true := by rw [beq_iff_eq]; exact Decidable.of_not_not h3
                have HS : Hid (whenK r q = true) := if_neg h3
                clear h3
                go_wp2_with fail
                go_ret
                exact ⟨by rw [HT.out, HS.out]; rfl, qw⟩
end Go.Proofs.YtdmaffciijmdcaaGreatDoor

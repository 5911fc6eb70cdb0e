/-
  The document's answer: does a rule fit?
-/
import Derived.Test.YtfkggpminmonmaaDoorRWhere
namespace Go.Proofs.YtfkggpminmonmaaDoor
namespace Plain
theorem fitsR_not {f0 f1 f2 f3 f4 t h : List UInt8} {p m : Int} (h1 : (f0 == [97, 108, 108, 111, 119]) = false) (h2 : (f0 == [100, 101, 110, 121]) = false) : fitsR [f0, f1, f2, f3, f4] t h p m = (false, false) := by
  unfold fitsR
  dsimp only
  rw [if_pos ⟨beq_eq_false_iff_ne.1 h1, beq_eq_false_iff_ne.1 h2⟩]
theorem fitsR_yes {f0 f1 f2 f3 f4 t h : List UInt8} {p m : Int} (h0 : (f0 == [97, 108, 108, 111, 119]) = true ∨ (f0 == [100, 101, 110, 121]) = true) : fitsR [f0, f1, f2, f3, f4] t h p m =
    ((f1 == [42] || f1 == t) && (whereR f2 h).1 && (portR f3 p).1 && (minuteR f4 m).1, (tenantOk f1 || f1 == [42]) && (whereR f2 h).2 && (portR f3 p).2 && (minuteR f4 m).2) := by
  unfold fitsR
  dsimp only
  rw [if_neg]
  intro ⟨ha, hb⟩
  rcases h0 with h0 | h0
  · exact ha (beq_iff_eq.1 h0)
  · exact hb (beq_iff_eq.1 h0)
end Plain
open Go.RowKit Plain

set_option maxRecDepth 100000 in
set_option maxHeartbeats 3200000 in
theorem rfits_any (v : Value) (l : List (List UInt8)) (t h : List UInt8) (p m : Int) (w : World) (hv : StrsAt w v l) (hl : ∀ s ∈ l, s.length ≤ 2097152) (hn : l.length ≤ 4194304) (hh : h.length ≤ 2097152) :
    Calls Tryd.prog 22 #[v, .string ⟨t.toArray⟩, .string ⟨h.toArray⟩, .int .i64 p, .int .i64 m] w fun e w' => e = .returned (.tuple #[.bool (fitsR l t h p m).1, .bool (fitsR l t h p m).2]) ∧ Q w w' := by
  obtain ⟨g, cap, rfl, hcell⟩ := hv
  go_enter Tryd.func22, Tryd.ntmps22
  by_cases h5 : l.length = 5
  case neg =>
    have d5 : ((l.length : Int) != 5) = true := by rw [bne_iff_ne]; omega
    have HS : Hid (fitsR l t h p m = (false, false)) := fitsR_len h5
    clear hcell hl
    go_wp2_with fail
    go_ret2
    exact ⟨by rw [HS.out]; rfl, Q.refl _⟩
  obtain ⟨f0, f1, f2, f3, f4, rfl⟩ := five h5
  have c0 := hcell 0 f0 rfl
  have c1 := hcell 1 f1 rfl
  have c2 := hcell 2 f2 rfl
  have c3 := hcell 3 f3 rfl
  have c4 := hcell 4 f4 rfl
  have HT := fun w => show Hid _ from rtenant_any f1 w (by have := hl f1 (by simp); omega)
  have HW := fun w => show Hid _ from rwhere_any f2 h w (hl f2 (by simp)) hh
  have HP := fun w => show Hid _ from rport_any f3 p w (hl f3 (by simp))
  have HM := fun w => show Hid _ from rminute_any f4 m w (hl f4 (by simp))
  have HF1 : Hid ((f0 == [97, 108, 108, 111, 119]) = false → (f0 == [100, 101, 110, 121]) = false → fitsR [f0, f1, f2, f3, f4] t h p m = (false, false)) := fitsR_not
  have HF2 : Hid (((f0 == [97, 108, 108, 111, 119]) = true ∨ (f0 == [100, 101, 110, 121]) = true) → fitsR [f0, f1, f2, f3, f4] t h p m =
    ((f1 == [42] || f1 == t) && (whereR f2 h).1 && (portR f3 p).1 && (minuteR f4 m).1, (tenantOk f1 || f1 == [42]) && (whereR f2 h).2 && (portR f3 p).2 && (minuteR f4 m).2)) := fitsR_yes
  clear hcell hl hn h5
  rw [show ([f0, f1, f2, f3, f4] : List (List UInt8)).length = 5 from rfl]
  generalize fitsR [f0, f1, f2, f3, f4] t h p m = res at *
  go_upto_region 1 with fail
  go_cut [34] (fun b wx => b = .bool (!((f0 == [97, 108, 108, 111, 119]) || (f0 == [100, 101, 110, 121]))) ∧ wx = w)
  case first =>
    cases h1 : (f0 == [97, 108, 108, 111, 119]) with
    | true =>
      go_wp2_with fail
      go_meet
      exact ⟨by rw [h1]; rfl, rfl⟩
    | false =>
      go_wp2_with fail
      go_meet
      exact ⟨by rw [h1]; rfl, rfl⟩
  case rest =>
    obtain ⟨rfl, rfl⟩ := hcut
    cases h0 : ((f0 == [97, 108, 108, 111, 119]) || (f0 == [100, 101, 110, 121])) with
    | false =>
      have HS := show Hid _ from HF1.out (Bool.or_eq_false_iff.1 h0).1 (Bool.or_eq_false_iff.1 h0).2
      clear h0 HF1 HF2
      go_wp2_with fail
      go_ret2
      exact ⟨by rw [HS.out]; rfl, Q.refl _⟩
    | true =>
      have HS := show Hid _ from HF2.out ((Bool.or_eq_true _ _).mp h0)
      clear h0 HF1 HF2 c0
      go_wp2_with fail
      refine Calls.mono (Hid.out (HT _)) ?_
      rintro e w2 ⟨rfl, rfl⟩
      go_wp2_with fail
      refine Calls.mono (Hid.out (HW _)) ?_
      rintro e w3 ⟨rfl, hq3⟩
      have c1' := hq3.cell c1
      have c3' := hq3.cell c3
      have c4' := hq3.cell c4
      clear c1 c2 c3 c4
      go_wp2_with fail
      refine Calls.mono (Hid.out (HP _)) ?_
      rintro e w4 ⟨rfl, hq4⟩
      have c1 := hq4.cell c1'
      have c4 := hq4.cell c4'
      clear c1' c3' c4'
      go_wp2_with fail
      refine Calls.mono (Hid.out (HM _)) ?_
      rintro e w5 ⟨rfl, hq5⟩
      have c1' := hq5.cell c1
      have hq := hq3.trans (hq4.trans hq5)
      clear c1 c4 hq3 hq4 hq5
      generalize (whereR f2 h).1 = a1 at *
      generalize (whereR f2 h).2 = a2 at *
      generalize (portR f3 p).1 = b1 at *
      generalize (portR f3 p).2 = b2 at *
      generalize (minuteR f4 m).1 = e1 at *
      generalize (minuteR f4 m).2 = e2 at *
      generalize tenantOk f1 = tn at *
      generalize hx : (f1 == [42]) = x at *
      generalize hy : (f1 == t) = y at *
      go_upto_region 7 with fail
      go_cut [19] (fun b wx => b = .bool ((x || y) && a1 && b1 && e1) ∧ wx = w5)
      case first =>
        cases x <;> cases y <;> cases a1 <;> cases b1 <;> cases e1 <;> (go_wp2_with fail; go_meet; exact ⟨rfl, rfl⟩)
      case rest =>
        obtain ⟨rfl, rfl⟩ := hcut
        generalize ((x || y) && a1 && b1 && e1) = z at *
        cases tn <;> cases x <;> cases a2 <;> cases b2 <;> cases e2 <;> (go_wp2_with fail; go_ret2; exact ⟨by rw [HS.out]; rfl, hq⟩)
end Go.Proofs.YtfkggpminmonmaaDoor

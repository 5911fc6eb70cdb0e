/-
  The law 'Policies', walked: it answers true, whatever the texts and the questions, up to a size.
-/
import Derived.Test.YtfkggpminmonmaaDoorPol1
namespace Go.Proofs.YtfkggpminmonmaaDoor
open Go.RowKit Plain

set_option maxRecDepth 100000 in
set_option maxHeartbeats 3200000 in
theorem policies_any (v u : Value) (texts : List (List UInt8)) (asks : List Quest) (w : World) (hv : TextsAt w v texts) (hu : QuestsAt w u asks) :
    Calls Tryd.prog 3 #[v, u] w fun e w' => e = .returned (.bool true) ∧ Q w w' := by
  obtain ⟨ta, tcap, rfl, htl, htc⟩ := hv
  obtain ⟨qa, qcap, rfl, hql, hqc⟩ := hu
  have HTC := show Hid _ from htc
  have HQC := show Hid _ from hqc
  clear htc hqc
  go_enter Tryd.func3, Tryd.ntmps3
  go_wp2_with fail
  refine (known_any w).mono ?_
  rintro e w1 ⟨rfl, hq1⟩
  go_wp2_with fail
  go_loopw [6, 7, 8, 9, 10, 11, 12, 13, 14] (fun ps rs i _ _ _ _ _ _ wr => ∃ (k : Nat) (pols : List (List RuleS × List (List (List UInt8)))) (pvals rvals : List Value), k ≤ texts.length ∧ pols.length ≤ k ∧ i = .int .i64 k ∧ Hid (PInv w1 wr ps rs pols pvals rvals)) (fun _ _ i _ _ _ _ _ _ _ => texts.length - (intOf i).toNat)
  case atStart => exact ⟨0, [], [], [], Nat.zero_le _, Nat.le_refl _, rfl, PInv.start w1⟩
  case round =>
    obtain ⟨k, pols, pvals, rvals, hk, hpk, rfl, hinv⟩ := hrel
    have hqr := hinv.out.q
    have hpl := hinv.out.plen
    have hrl := hinv.out.rlen
    have hQr := hq1.trans hqr
    by_cases hlt : k < texts.length
    · have hget : texts[k]? = some texts[k] := List.getElem?_eq_getElem hlt
      obtain ⟨hsl, b, off, rfl, hc⟩ := HTC.out k _ hget
      generalize texts[k] = T at *
      clear hget
      have hck := hQr.cell hc
      clear hc
      have HSame := show Hid _ from rules_same T
      have HC := fun x => show Hid _ from compile_any ⟨T.toArray⟩ x (by unfold maxLen; show T.length ≤ _; omega)
      have HRu := fun x => show Hid _ from rrules_any T x hsl
      go_wp2_with fail
      refine Calls.mono (Hid.out (HC _)) ?_
      rintro e w2 ⟨hq2, hcase⟩
      have hck2 := hq2.cell hck
      clear hck HC
      rcases hcase with ⟨en, ln, hcs, rfl⟩ | ⟨rs, pb, hcs, rfl, hpol⟩
      · have hen := comp_en hcs
        have HCS : Hid (compileS T = .error (en, ln)) := hcs
        clear hcs
        go_wp2_with fail
        refine Calls.mono (Hid.out (HRu _)) ?_
        rintro e w3 ⟨hq3, ⟨en', ln', hrr, rfl⟩ | ⟨rows, v', hrr, rfl, _⟩⟩
        · have hs := HSame.out
          rw [hrr, HCS.out] at hs
          cases (show (en', ln') = (en, ln) from hs)
          have d0 : ((en : Int) == 0) = false := by rw [beq_eq_false_iff_ne]; omega
          clear hs hrr HSame HCS HRu hck2
          go_wp2_with (first | (go_at_call 9; refine (num_any _ _).mono ?_; rintro e w' ⟨rfl, hw⟩; rw [hw]))
          exact ⟨⟨k + 1, pols, pvals, rvals, by omega, by omega, by go_num, hinv.out.stays (hq2.trans hq3)⟩, by simp [intOf]; omega⟩
        · have hs := HSame.out
          rw [hrr, HCS.out] at hs
          exact hs.elim
      · have HCS : Hid (compileS T = .ok rs) := hcs
        have HPol : Hid (PolicyRep (New wr w2) w2 pb rs) := hpol
        clear hcs hpol
        go_wp2_with fail
        refine Calls.mono (Hid.out (HRu _)) ?_
        rintro e w3 ⟨hq3, ⟨en', ln', hrr, rfl⟩ | ⟨rows, v', hrr, rfl, hrows⟩⟩
        · have hs := HSame.out
          rw [hrr, HCS.out] at hs
          exact hs.elim
        · have hs := HSame.out
          rw [hrr, HCS.out] at hs
          have hEl : PolEl (New wr w3) w3 (.pointer (some ⟨pb, 0, none⟩)) v' (rs, rows) :=
            ⟨⟨pb, rfl, HPol.out.keeps fun b hb => ⟨⟨hb.1, Nat.lt_of_lt_of_le hb.2 hq3.size⟩, fun o => hq3.cells.1 b o hb.2⟩⟩, hrows.keeps (fun b hb => ⟨⟨Nat.le_trans hq2.size hb.1, hb.2⟩, fun _ => rfl⟩), hs, rules_short hrr⟩
          have hform : ∃ o n c, v' = .slice o n c := by
            rcases hrows with ⟨_, h⟩ | ⟨g, cap, h, _⟩ <;> exact ⟨_, _, _, h⟩
          obtain ⟨vo, vn, vc, rfl⟩ := hform
          have HEl : Hid (PolEl (New wr w3) w3 (.pointer (some ⟨pb, 0, none⟩)) (.slice vo vn vc) (rs, rows)) := hEl
          have hqW := hq2.trans hq3
          have HI : Hid (PInv w1 w3 u6 u7 pols pvals rvals) := hinv.out.stays hqW
          have hszw : w1.heap.size ≤ w3.heap.size := (hqr.trans hqW).size
          clear hs hrr HSame HCS HRu hck2 hrows hEl HPol
          go_wp2_with (first | (go_at_call 9; refine (num_any _ _).mono ?_; rintro e w' ⟨rfl, hw⟩; rw [hw]; clear hw w') | (at_builtin; refine append_one rfl (.tmp 64) (.tmp 66) 25 rfl 27 Tryd.t27 (.pointer none) 8 Tryd.underlying25 (by kernel_rfl) (by kernel_rfl) (by kernel_rfl) (by kernel_rfl) rfl u6 pvals (.pointer (some ⟨pb, 0, none⟩)) w1.heap.size w3 rfl rfl HI.out.pown rfl (by omega) (by decide) hszw ?_; intro g1 c1 W1 ho1 hb1 hg1 hat1 _) | (at_builtin; refine append_one rfl (.tmp 68) (.tmp 70) 26 rfl 31 Tryd.t31 (.slice none 0 0) 24 Tryd.underlying26 (by kernel_rfl) (by kernel_rfl) (by kernel_rfl) (by kernel_rfl) rfl u7 rvals (.slice vo vn vc) w1.heap.size W1 rfl rfl (HI.out.mid hg1) rfl (by omega) (by decide) (by have := hg1.size; simp at this; omega) ?_; intro g2 c2 W2 ho2 hb2 hg2 hat2 _))
          have hnx := PInv.more (S := New wr w3) HI.out HEl.out (fun k hk => ⟨⟨Nat.le_trans hqr.size hk.1, hk.2⟩, fun e' => by have := (owns_lt hinv.out.pown k e'.symm).2; have := hk.1; omega, fun e' => by have := (owns_lt hinv.out.rown k e'.symm).2; have := hk.1; omega⟩) ho1 hb1 hg1 hat1 ho2 hb2 hg2 hat2
          rw [hpl, hrl] at hnx
          exact ⟨⟨k + 1, pols ++ [(rs, rows)], _, _, by omega, by rw [List.length_append]; exact Nat.succ_le_succ hpk, by go_num, hnx⟩, by simp [intOf]; omega⟩
    · obtain ⟨wp, hwp⟩ : ∃ wp, wp = wr := ⟨_, rfl⟩
      subst hwp
      obtain ⟨pa, pcap, hpv, hpc⟩ := owns_read hinv.out.pown
      obtain ⟨ra, rcap, hrv, hrc⟩ := owns_read hinv.out.rown
      have HREP : Hid (∀ (i : Nat) (x : List RuleS × List (List (List UInt8))), pols[i]? = some x → ∃ a b, pvals[i]? = some a ∧ rvals[i]? = some b ∧ PolEl (fun b => b < wp.heap.size) wp a b x) := fun i x hi => by
        obtain ⟨a, b, h1, h2, h3⟩ := hinv.out.reps i x hi
        exact ⟨a, b, h1, h2, h3.keeps fun k hk => ⟨hk.1.2, fun _ => rfl⟩⟩
      have HPC : Hid (∀ (i : Nat) (u : Value), pvals[i]? = some u → ∃ g, pa = some ⟨g, 0, none⟩ ∧ wp.cell? ⟨g, i, none⟩ = some u) := hpc
      have HRC : Hid (∀ (i : Nat) (u : Value), rvals[i]? = some u → ∃ g, ra = some ⟨g, 0, none⟩ ∧ wp.cell? ⟨g, i, none⟩ = some u) := hrc
      rw [hpl] at hpv
      rw [hrl] at hrv
      clear hinv hpc hrc hpl hrl HTC
      subst hpv hrv
      go_wp2_with fail
      go_loopw [15, 16, 17] (fun i _ _ wx => ∃ j : Nat, j ≤ pols.length ∧ i = .int .i64 j ∧ Q wp wx) (fun i _ _ _ => pols.length - (intOf i).toNat)
      case atStart => exact ⟨0, Nat.zero_le _, rfl, Q.refl _⟩
      case round =>
        obtain ⟨j, hj, rfl, hqj⟩ := hrel
        by_cases hjl : j < pols.length
        · have hget : pols[j]? = some pols[j] := List.getElem?_eq_getElem hjl
          obtain ⟨a, b, ha, hb, hEl⟩ := HREP.out j _ hget
          obtain ⟨gp, rfl, hcp⟩ := HPC.out j a ha
          obtain ⟨gr, rfl, hcr⟩ := HRC.out j b hb
          obtain ⟨⟨pb, rfl, hpol⟩, hrows, hall, hshort⟩ := hEl
          have hform : ∃ o n c, b = .slice o n c := by
            rcases hrows with ⟨_, h⟩ | ⟨g, cap, h, _⟩ <;> exact ⟨_, _, _, h⟩
          obtain ⟨vo, vn, vc, rfl⟩ := hform
          generalize pols[j] = x at *
          have HP : Hid (PolicyRep (fun b => b < wp.heap.size) wp pb x.1) := hpol
          have HR : Hid (RowsAt (fun b => b < wp.heap.size) wp (.slice vo vn vc) x.2) := hrows
          have HA := show Hid _ from hall
          have HS := show Hid _ from hshort
          clear hpol hrows hall hshort ha hb hget HREP HPC HRC
          go_wp2_with fail
          go_loopw [16, 17] (fun i _ wx => ∃ j2 : Nat, j2 ≤ asks.length ∧ i = .int .i64 j2 ∧ Q wp wx) (fun i _ _ => asks.length - (intOf i).toNat)
          case atStart => exact ⟨0, Nat.zero_le _, rfl, hqj⟩
          case round =>
            obtain ⟨j2, hj2, rfl, hq2⟩ := hrel
            by_cases hal : j2 < asks.length
            · have hget2 : asks[j2]? = some asks[j2] := List.getElem?_eq_getElem hal
              obtain ⟨ht, hh, qb, qo, rfl, hqat⟩ := HQC.out j2 _ hget2
              generalize asks[j2] = q at *
              obtain ⟨c0, c1, c2, c3⟩ := hqat.stays (hQr.trans hq2)
              have e0 := hq2.cell hcp
              have e1 := hq2.cell hcr
              have HD : ∀ x', Q wp x' → Hid (Calls Tryd.prog 10 #[.pointer (some ⟨pb, 0, none⟩), .slice vo vn vc, .agg #[.string ⟨q.t.toArray⟩, .string ⟨q.h.toArray⟩, .int .i64 q.p, .int .i64 q.m]] x' fun e w' => e = .returned (.bool true) ∧ Q x' w') := fun x' hx' =>
                decides_any x.1 pb (.slice vo vn vc) x.2 q.t q.h q.p q.m x' (HP.out.stays hx') (HR.out.keeps fun b hb => ⟨Nat.lt_of_lt_of_le hb hx'.size, fun o => hx'.cells.1 b o hb⟩) HA.out HS.out ht hh
              clear hqat hget2 HQC HP HR HA HS hcp hcr
              go_wp2_with fail
              go_region_held3 (fun w' => w'.cell? ⟨gp, j, none⟩ = some (.pointer (some ⟨pb, 0, none⟩)) ∧ w'.cell? ⟨gr, j, none⟩ = some (.slice vo vn vc) ∧ w'.cell? ⟨qb, qo + j2 * 4, none⟩ = some (.string ⟨q.t.toArray⟩) ∧ w'.cell? ⟨qb, qo + j2 * 4 + 1, none⟩ = some (.string ⟨q.h.toArray⟩) ∧ w'.cell? ⟨qb, qo + j2 * 4 + 2, none⟩ = some (.int .i64 q.p) ∧ w'.cell? ⟨qb, qo + j2 * 4 + 3, none⟩ = some (.int .i64 q.m) ∧ Q wp w')
                (first | exact ⟨e0, e1, c0, c1, c2, c3, hq2.drew⟩ | exact keep6 (by assumption) (by assumption) | assumption)
                (first | (go_at_call 10; refine Calls.mono (Hid.out (HD _ (last6 (by assumption)))) ?_; rintro e w' ⟨rfl, hq3⟩))
              have hS := by first | assumption
              obtain ⟨_, _, _, _, _, _, hq4⟩ := (show _ ∧ _ from hS)
              go_wp2_with fail
              exact ⟨⟨j2 + 1, by omega, by go_num, hq4⟩, by simp [intOf]; omega⟩
            · go_wp2_with fail
              exact ⟨⟨j + 1, by omega, by go_num, hq2⟩, by simp [intOf]; omega⟩
        · go_wp2_with fail
          go_ret
          exact ⟨rfl, hQr.trans hqj⟩
end Go.Proofs.YtfkggpminmonmaaDoor

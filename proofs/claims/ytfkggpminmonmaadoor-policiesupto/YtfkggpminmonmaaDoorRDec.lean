/-
  The document's answer: the first rule that fits; what may be asked.
-/
import Derived.Test.YtfkggpminmonmaaDoorRRules
namespace Go.Proofs.YtfkggpminmonmaaDoor
open Go.RowKit Plain

theorem decRows_done {t h : List UInt8} {p m : Int} {k : Nat} {rows : List (List (List UInt8))} (hk : rows.length ≤ k) : decRows t h p m k (rows.drop k) = (false, -1) := by rw [List.drop_of_length_le hk, decRows]

set_option maxRecDepth 100000 in
set_option maxHeartbeats 1600000 in
theorem rdecide_any (S : Nat → Prop) (v : Value) (rows : List (List (List UInt8))) (t h : List UInt8) (p m : Int) (w : World) (hv : RowsAt S w v rows) (h5 : ∀ row ∈ rows, row.length = 5) (hl : ∀ row ∈ rows, ∀ s ∈ row, s.length ≤ 2097152) (hn : rows.length ≤ 4194304) (hh : h.length ≤ 2097152) :
    Calls Tryd.prog 24 #[v, .string ⟨t.toArray⟩, .string ⟨h.toArray⟩, .int .i64 p, .int .i64 m] w fun e w' => e = .returned (.tuple #[.bool (decRows t h p m 0 rows).1, .int .i64 (decRows t h p m 0 rows).2]) ∧ Q w w' := by
  rcases hv with ⟨rfl, rfl⟩ | ⟨g, cap, rfl, _, hcell⟩
  · go_enter Tryd.func24, Tryd.ntmps24
    go_wp2_with fail
    refine wp_loop_rounds 1 ?_
    rw [rounds_succ]
    go_wp2_with fail
    go_ret2
    exact ⟨rfl, Q.refl w⟩
  · have HC : Hid (∀ i row, rows[i]? = some row → ∃ u, w.cell? ⟨g, i, none⟩ = some u ∧ StrsIn S w u row) := hcell
    have H5 := show Hid _ from h5
    have HL := show Hid _ from hl
    clear hcell h5 hl
    go_enter Tryd.func24, Tryd.ntmps24
    go_wp2_with fail
    go_loopw [12, 13, 14] (fun i _ _ wr => ∃ k : Nat, k ≤ rows.length ∧ i = .int .i64 k ∧ Hid (decRows t h p m k (rows.drop k) = decRows t h p m 0 rows) ∧ Q w wr) (fun i _ _ _ => rows.length - (intOf i).toNat)
    case atStart => exact ⟨0, Nat.zero_le _, rfl, rfl, Q.refl _⟩
    case round =>
      obtain ⟨k, hk, rfl, hdec, hq⟩ := hrel
      by_cases hlt : k < rows.length
      · have hget : rows[k]? = some rows[k] := List.getElem?_eq_getElem hlt
        obtain ⟨u, hu, hin⟩ := HC.out k _ hget
        have hck := hq.cell hu
        have HN := show Hid _ from decRows_drop (t := t) (h := h) (p := p) (m := m) hget
        have hr5 := H5.out _ (List.mem_of_getElem? hget)
        have hrl := HL.out _ (List.mem_of_getElem? hget)
        have HF := show Hid _ from rfits_any u rows[k] t h p m wr (hin.at.stays hq) hrl (by omega) hh
        generalize rows[k] = row at *
        obtain ⟨f0, f1, f2, f3, f4, rfl⟩ := five hr5
        obtain ⟨gu, cu, rfl, _, hcu⟩ := hin
        have c0 := hcu 0 f0 rfl
        clear hget hu hr5 hrl hcu
        rw [show ([f0, f1, f2, f3, f4] : List (List UInt8)).length = 5 from rfl] at HF
        go_wp2_with fail
        refine Calls.mono HF.out ?_
        rintro e w2 ⟨rfl, hq2⟩
        have hck2 := hq2.cell hck
        have c0' := (hq.trans hq2).cell c0
        clear c0 hck
        cases hfit : (fitsR [f0, f1, f2, f3, f4] t h p m).1 with
        | true =>
          rw [if_pos hfit] at HN
          have HD := show Hid _ from hdec.out.symm.trans HN.out
          clear hfit HN hdec
          go_wp2_with fail
          go_ret2
          exact ⟨by rw [HD.out]; rfl, hq.trans hq2⟩
        | false =>
          rw [if_neg (by rw [hfit]; decide)] at HN
          have HD := show Hid _ from HN.out.symm.trans hdec.out
          clear hfit HN hdec
          go_wp2_with fail
          exact ⟨⟨k + 1, by omega, by go_num, HD, hq.trans hq2⟩, by simp [intOf]; omega⟩
      · have HE := show Hid _ from hdec.out.symm.trans (decRows_done (by omega))
        go_wp2_with fail
        go_ret2
        exact ⟨by rw [HE.out]; rfl, hq⟩

set_option maxRecDepth 100000 in
set_option maxHeartbeats 1600000 in
theorem rasks_any (t h : List UInt8) (p m : Int) (w : World) (ht : t.length ≤ 2097152) (hh : h.length ≤ 2097152) :
    Calls Tryd.prog 23 #[.string ⟨t.toArray⟩, .string ⟨h.toArray⟩, .int .i64 p, .int .i64 m] w fun e w' => e = .returned (.bool (asksR t h p m)) ∧ Q w w' := by
  have HT := fun w => show Hid _ from rtenant_any t w (by omega)
  have HL := fun w => show Hid _ from rlower_any h w hh
  have HH := fun w => show Hid _ from rhost_any (lower h) w (by rw [lower_len]; exact hh)
  have HA : Hid (asksR t h p m = (tenantOk t && hostR (lower h) && decide (0 ≤ p) && decide (p ≤ 65535) && decide (0 ≤ m) && decide (m < 10080))) := rfl
  go_enter Tryd.func23, Tryd.ntmps23
  go_wp2_with fail
  refine Calls.mono (Hid.out (HT _)) ?_
  rintro e w1 ⟨rfl, rfl⟩
  go_wp2_with fail
  refine Calls.mono (Hid.out (HL _)) ?_
  rintro e w2 ⟨rfl, hq2⟩
  unfold str
  go_wp2_with fail
  refine Calls.mono (Hid.out (HH _)) ?_
  rintro e w3 ⟨rfl, hq3⟩
  have hq := hq2.trans hq3
  clear HT HL HH hq2 hq3
  generalize tenantOk t = tn at *
  generalize hostR (lower h) = hr at *
  generalize d1 : decide (0 ≤ p) = b1 at *
  generalize d2 : decide (p ≤ 65535) = b2 at *
  generalize d3 : decide (0 ≤ m) = b3 at *
  generalize d4 : decide (m < 10080) = b4 at *
  cases tn <;> cases hr <;> cases b1 <;> cases b2 <;> cases b3 <;> cases b4 <;> (go_wp2_with fail; go_ret; exact ⟨by rw [HA.out]; rfl, hq⟩)
end Go.Proofs.YtfkggpminmonmaaDoor

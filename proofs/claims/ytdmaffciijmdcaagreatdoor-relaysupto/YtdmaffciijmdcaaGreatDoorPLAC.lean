/-
  The laws' script, walked.
-/
import Derived.Test.YtdmaffciijmdcaaGreatDoorRowPToPL9
namespace Go.Proofs.YtdmaffciijmdcaaGreatDoor
open Go.RowKit Plain

set_option maxRecDepth 100000 in
set_option maxHeartbeats 3200000 in
theorem plays_any (v : Value) (ops : List OpS) (most : Int) (w : World) (hv : OpsAt w v ops) (hm1 : 1 ≤ most) (hm9 : most ≤ 9) (hml : ML w) :
    Calls Tryz.prog 11 #[v, .int .i64 most] w fun e w' => e = .returned (.bool true) ∧ Q w w' := by
  obtain ⟨G, hG, ev, hev, hkd⟩ := law_new
  obtain ⟨sa, sc, rfl, hsl, hops⟩ := hv
  obtain ⟨sn, hsn⟩ : ∃ n, n = ops.length := ⟨_, rfl⟩
  have HO := show Hid _ from hops
  have HSn := show Hid _ from hsn
  have HML : Hid (ML w) := hml
  have HG := show Hid _ from hG
  have HEv := show Hid _ from And.intro hev hkd
  have HFr := show Hid _ from new_fresh hG
  rw [← hsn] at hsl ⊢
  clear hops hsn hml hG hev hkd
  obtain ⟨W1, hW1⟩ : ∃ W, W = w.alloc (.cells #[.slice none 0 0, .slice none 0 0, .slice none 0 0] 69) := ⟨_, rfl⟩
  have hp1 := Pl.start hW1
  obtain ⟨W2, hW2⟩ : ∃ W, W = W1.alloc (.cells #[.string ⟨#[97, 110, 110]⟩, .string ⟨#[115, 101, 99, 114, 101, 116]⟩] 71) := ⟨_, rfl⟩
  obtain ⟨W3, hW3⟩ : ∃ W, W = W2.alloc (.cells #[.int .i64 0, .int .i64 0, .int .i64 0, .int .i64 0, .bool false, .string ⟨#[97, 108, 108, 111, 119, 32, 42, 32, 46, 101, 120, 97, 109, 112, 108, 101, 46, 99, 111, 109, 32, 52, 52, 51, 32, 42, 10]⟩, .slice (some ⟨w.heap.size + 1, 0, none⟩) 1 1] 73) := ⟨_, rfl⟩
  have hz1 : W1.heap.size = w.heap.size + 1 := by rw [hW1]; simp
  have hz2 : W2.heap.size = w.heap.size + 1 + 1 := by rw [hW2]; simp [hz1]
  have hz3 : W3.heap.size = w.heap.size + 1 + 1 + 1 := by rw [hW3]; simp [hz2]
  have hq2 : Q W1 W2 := by rw [hW2]; exact (Q.refl _).alloc _
  have hq3 : Q W2 W3 := by rw [hW3]; exact (Q.refl _).alloc _
  have hp3 := (hp1.stays hq2).stays hq3
  have hu2 : LawUs W2 (w.heap.size + 1) := by rw [hW2, ← hz1]; exact ⟨by simp [go_sem], by simp [go_sem]⟩
  have hu3 : LawUs W3 (w.heap.size + 1) := ⟨hq3.cell hu2.1, hq3.cell hu2.2⟩
  have f0 : W3.cell? ⟨w.heap.size + 1 + 1, 0, none⟩ = some (.int .i64 0) := by rw [hW3, ← hz2]; simp [go_sem]
  have f1 : W3.cell? ⟨w.heap.size + 1 + 1, 1, none⟩ = some (.int .i64 0) := by rw [hW3, ← hz2]; simp [go_sem]
  have f2 : W3.cell? ⟨w.heap.size + 1 + 1, 2, none⟩ = some (.int .i64 0) := by rw [hW3, ← hz2]; simp [go_sem]
  have f3 : W3.cell? ⟨w.heap.size + 1 + 1, 3, none⟩ = some (.int .i64 0) := by rw [hW3, ← hz2]; simp [go_sem]
  have f4 : W3.cell? ⟨w.heap.size + 1 + 1, 4, none⟩ = some (.bool false) := by rw [hW3, ← hz2]; simp [go_sem]
  have f5 : W3.cell? ⟨w.heap.size + 1 + 1, 5, none⟩ = some (.string ⟨#[97, 108, 108, 111, 119, 32, 42, 32, 46, 101, 120, 97, 109, 112, 108, 101, 46, 99, 111, 109, 32, 52, 52, 51, 32, 42, 10]⟩) := by rw [hW3, ← hz2]; simp [go_sem]
  have f6 : W3.cell? ⟨w.heap.size + 1 + 1, 6, none⟩ = some (.slice (some ⟨w.heap.size + 1, 0, none⟩) 1 1) := by rw [hW3, ← hz2]; simp [go_sem]
  have HM1 := show Hid _ from made0 hp3 (by simp) HG.out (w.heap.size + 1) hu3
  have HU3 : Hid (LawUs W3 (w.heap.size + 1)) := hu3
  have hW : W3 = ((w.alloc (.cells #[.slice none 0 0, .slice none 0 0, .slice none 0 0] 69)).alloc (.cells #[.string ⟨#[97, 110, 110]⟩, .string ⟨#[115, 101, 99, 114, 101, 116]⟩] 71)).alloc (.cells #[.int .i64 0, .int .i64 0, .int .i64 0, .int .i64 0, .bool false, .string ⟨#[97, 108, 108, 111, 119, 32, 42, 32, 46, 101, 120, 97, 109, 112, 108, 101, 46, 99, 111, 109, 32, 52, 52, 51, 32, 42, 10]⟩, .slice (some ⟨w.heap.size + 1, 0, none⟩) 1 1] 73) := by rw [hW3, hW2, hW1]
  have HN1 : Hid ((fun b => if b = w.heap.size then some (Lb.bk 0) else none) (w.heap.size + 1) = none ∧ (fun b => if b = w.heap.size then some (Lb.bk 0) else none) (w.heap.size + 1 + 1) = none) := ⟨by simp, by simp; omega⟩
  clear hp1 hp3 hu2 hu3 hq2 hq3 hW1 hW2 hW3
  go_enter Tryz.func11, Tryz.ntmps11
  go_wp2_with fail
  rw [← hW]
  clear hW
  refine Calls.mono (Hid.out HM1) ?_
  rintro e w4 ⟨rfl, h4, hfr4⟩
  obtain ⟨hgok, o4, gb, rb, hp4⟩ := h4.out
  have s2 := hfr4.out (w.heap.size + 1 + 1) (by omega) HN1.out.2
  have e0 := (s2.cell _).trans f0
  have e1 := (s2.cell _).trans f1
  have e2 := (s2.cell _).trans f2
  have e3 := (s2.cell _).trans f3
  have e4 := (s2.cell _).trans f4
  have e5 := (s2.cell _).trans f5
  have e6 := (s2.cell _).trans f6
  have HM2 := show Hid _ from made0 hp4 (by simp) HG.out (w.heap.size + 1) (HU3.out.same (hfr4.out (w.heap.size + 1) (by omega) HN1.out.1))
  have HGk := show Hid _ from hgok
  clear HM1 h4 hfr4 hp4 s2 f0 f1 f2 f3 f4 f5 f6 hgok HU3 HN1
  go_wp2_with fail
  refine Calls.mono (Hid.out HM2) ?_
  rintro e w5 ⟨rfl, h5, _⟩
  obtain ⟨_, o5, gb', rb', hp5⟩ := h5.out
  have ht : Two w w.heap.size G G 0 w5 := ⟨o5, gb, rb, gb', rb', hp5, fresh_good HG.out HGk.out 0, fresh_good HG.out HGk.out 0⟩
  obtain ⟨g0, k0, g1, k1, gc, rc, a0, a1, a2, a3, HA⟩ := ht.acc0 (by omega) HFr.out.1
  clear HM2 h5 hp5 ht e0 e1 e2 e3 e4 e5 e6
  go_upto_region 7 with fail
  go_cut [7] (fun s7 wx => s7 = .bool true ∧ Hid (Two w w.heap.size G.accept G 1 wx))
  case first =>
    go_region_law (go_simp; refine Calls.mono (Hid.out (HA _ ((Q.refl w5).drew))) ?_; rintro e w6 ⟨rfl, h6⟩; dsimp only)
    all_goals
      go_wp2_with fail
      go_meet
      exact ⟨rfl, h6⟩
  case rest =>
    obtain ⟨rfl, h6⟩ := hcut
    obtain ⟨w6, hw6⟩ : ∃ x, x = wc := ⟨_, rfl⟩
    subst hw6
    obtain ⟨g0, k0, g1, k1, gc, rc, b0, b1, b2, b3, HB⟩ := h6.out.acc1 (by omega) HFr.out.1
    clear HA h6 a0 a1 a2 a3
    go_upto_region 8 with fail
    go_cut [8] (fun s8 wx => s8 = .bool true ∧ Hid (Two w w.heap.size G.accept G.accept 2 wx))
    case first =>
      go_region_law (go_simp; refine Calls.mono (Hid.out (HB _ ((Q.refl w6).drew))) ?_; rintro e w7 ⟨rfl, h7⟩; dsimp only)
      all_goals
        go_wp2_with fail
        go_meet
        exact ⟨rfl, h7⟩
    case rest =>
      obtain ⟨rfl, h7⟩ := hcut
      obtain ⟨w7, hw7⟩ : ∃ x, x = wc := ⟨_, rfl⟩
      subst hw7
      obtain ⟨g0, k0, gc, b4, b5, HC⟩ := h7.out.client (by omega) HFr.out HML.out HEv.out.1 HEv.out.2
      clear HB h7 b0 b1 b2 b3
      go_wp2_with fail
      refine Calls.mono (Hid.out HC) ?_
      rintro e w8 ⟨eg, ec, g1, k1, rc, rfl, b6, b7, HD⟩
      clear HC b4 b5
      go_wp2_with fail
      refine Calls.mono (Hid.out HD) ?_
      rintro e w9 ⟨bo, bn, bc, rfl, HS⟩
      clear HD b6 b7
      go_wp2_with fail
      refine Calls.mono (Hid.out HS) ?_
      rintro e wA ⟨rfl, b8, HI⟩
      clear HS
      go_wp2_with fail
      clear b8
      go_loopw [14, 15, 16, 17, 18] (fun ok i _ _ _ wr => ∃ k : Nat, k ≤ sn ∧ ok = .bool true ∧ i = .int .i64 (k : Int) ∧ Hid (PInv w w.heap.size (k + 3) wr)) (fun _ i _ _ _ _ => sn - (intOf i).toNat)
      case atStart => exact ⟨0, Nat.zero_le _, rfl, rfl, HI⟩
      case round =>
        obtain ⟨k, hk, rfl, rfl, hinv⟩ := hrel
        have HKeep : Hid (∀ x j, PInv w w.heap.size j x → Q w x) := fun x j h => by obtain ⟨o, L, vals, h1, _⟩ := h; exact h1.q
        by_cases hlt : k < sn
        · obtain ⟨p, hp⟩ : ∃ p, ops[k]? = some p := ⟨_, List.getElem?_eq_getElem (by rw [← HSn.out]; exact hlt)⟩
          obtain ⟨hat, hS, sb, so, ua, uc, rfl, hus, p0, p1, p2, p3, p4, p5, p6⟩ := HO.out k p hp
          have hqr := HKeep.out wr _ hinv.out
          replace p0 := hqr.cell p0
          replace p1 := hqr.cell p1
          replace p2 := hqr.cell p2
          replace p3 := hqr.cell p3
          replace p4 := hqr.cell p4
          replace p5 := hqr.cell p5
          replace p6 := hqr.cell p6
          obtain ⟨pk, pa, pc, pn, po, pS, pu⟩ := p
          dsimp only at hat hS hus p0 p1 p2 p3 p4 p5 p6
          obtain ⟨un, hun⟩ : ∃ n, n = pu.length := ⟨_, rfl⟩
          obtain ⟨WB, hWB⟩ : ∃ W, W = wr.alloc (.cells #[.int .i64 pk, .int .i64 pa, .int .i64 pc, .int .i64 pn, .bool po, .string ⟨pS.toArray⟩, .slice ua pu.length uc] 73) := ⟨_, rfl⟩
          have hqb : Q wr WB := by rw [hWB]; exact (Q.refl _).alloc _
          have HIB : Hid (PInv w w.heap.size (k + 3) WB) := hinv.out.stays hqb
          have HSt : ∀ x, PInv w w.heap.size (k + 4) x → Hid (Calls Tryz.prog 37 #[ptr w.heap.size] x fun e w' => e = .returned (.bool true) ∧ Hid (PInv w w.heap.size (k + 4) w')) := fun x h => h.still (by omega)
          clear hp
          by_cases hk1 : pk = 1
          · have HMd := show Hid _ from HIB.out.made (by omega) pk pa pc pn po pS hS ua uc pu ((hus.stays hqr).stays hqb)
            subst hk1
            rw [← hun] at p6 HMd hWB
            clear hun hus hqr hqb hat hS hinv HIB
            go_wp2_with fail
            rw [← hWB]
            clear hWB p0 p1 p2 p3 p4 p5 p6
            refine Calls.mono (Hid.out HMd) ?_
            rintro e wC ⟨rfl, hC⟩
            have HSt' := HSt wC hC.out
            clear HMd HSt hC
            go_wp2_with fail
            refine Calls.mono (Hid.out HSt') ?_
            rintro e wD ⟨rfl, hD⟩
            clear HSt'
            go_wp2_with fail
            exact ⟨⟨k + 1, by omega, rfl, by go_num, hD⟩, by simp [intOf]; omega⟩
          · have d1 : (pk == 1) = false := by rw [beq_eq_false_iff_ne]; exact hk1
            rw [← hun] at p6 hWB
            by_cases hdo : 1 ≤ pk ∧ pk ≤ most
            · have d2 : decide (pk < 1) = false := decide_eq_false (by omega)
              have d3 : decide (pk > most) = false := decide_eq_false (by omega)
              obtain ⟨g0, k0, g1, k1, ln, hl0, hl1, v0, v1, hvw⟩ := HIB.out.view (by omega) HML.out
              obtain ⟨pi, hpi⟩ : ∃ n, n = pickL pa ln := ⟨_, rfl⟩
              have hpl : pi < ln := by rw [hpi]; exact pickL_lt pa hl0
              obtain ⟨gb2, rb2, v2, v3, hst⟩ := hvw pi hpl
              have HSp : ∀ y, Q WB y → Hid (Calls Tryz.prog 33 #[ptr w.heap.size, ptr gb2, ptr rb2, opV pk pa pc pn po pS ua un uc] y fun e w' => e = .returned (.bool true) ∧ Hid (PInv w w.heap.size (k + 4) w')) := fun y q => hst y q pk pa pc pn po pS hS ua un uc (by omega)
              have HPk : ∀ y, Hid (Calls Tryz.prog 36 #[.int .i64 pa, .int .i64 (ln : Int)] y fun e w' => e = .returned (.int .i64 (pi : Int)) ∧ w' = y) := fun y => by
                have := lpick_any pa (ln : Int) y hat.1 hat.2 (by omega) (by omega)
                rw [Int.toNat_natCast, ← hpi] at this
                exact this
              have t0 : WB.cell? ⟨wr.heap.size, 0, none⟩ = some (.int .i64 pk) := by rw [hWB]; simp [go_sem]
              have t1 : WB.cell? ⟨wr.heap.size, 1, none⟩ = some (.int .i64 pa) := by rw [hWB]; simp [go_sem]
              have t2 : WB.cell? ⟨wr.heap.size, 2, none⟩ = some (.int .i64 pc) := by rw [hWB]; simp [go_sem]
              have t3 : WB.cell? ⟨wr.heap.size, 3, none⟩ = some (.int .i64 pn) := by rw [hWB]; simp [go_sem]
              have t4 : WB.cell? ⟨wr.heap.size, 4, none⟩ = some (.bool po) := by rw [hWB]; simp [go_sem]
              have t5 : WB.cell? ⟨wr.heap.size, 5, none⟩ = some (.string ⟨pS.toArray⟩) := by rw [hWB]; simp [go_sem]
              have t6 : WB.cell? ⟨wr.heap.size, 6, none⟩ = some (.slice ua un uc) := by rw [hWB]; simp [go_sem]
              clear hun hus hqr hqb hat hS hinv HIB hst hvw hpi hk1 hdo
              go_upto_region 17 with fail
              rw [← hWB]
              clear hWB p0 p1 p2 p3 p4 p5 p6
              go_cut [17] (fun s17 wx => s17 = .int .i64 (pi : Int) ∧ Hid (Q WB wx))
              case first =>
                go_region_law (go_simp; refine Calls.mono (Hid.out (HPk _)) ?_; rintro e wC ⟨rfl, hwC⟩; rw [hwC]; clear hwC; dsimp only)
                all_goals
                  go_wp2_with fail
                  go_meet
                  exact ⟨rfl, (Q.refl WB).drew⟩
              case rest =>
                obtain ⟨rfl, hC⟩ := hcut
                obtain ⟨wC, hwC⟩ : ∃ x, x = wc := ⟨_, rfl⟩
                subst hwC
                replace v0 := hC.out.cell v0
                replace v1 := hC.out.cell v1
                replace v2 := hC.out.cell v2
                replace v3 := hC.out.cell v3
                replace t0 := hC.out.cell t0
                replace t1 := hC.out.cell t1
                replace t2 := hC.out.cell t2
                replace t3 := hC.out.cell t3
                replace t4 := hC.out.cell t4
                replace t5 := hC.out.cell t5
                replace t6 := hC.out.cell t6
                have HSp' : ∀ y, Q wC y → Hid (Calls Tryz.prog 33 #[ptr w.heap.size, ptr gb2, ptr rb2, opV pk pa pc pn po pS ua un uc] y fun e w' => e = .returned (.bool true) ∧ Hid (PInv w w.heap.size (k + 4) w')) := fun y q => HSp y (hC.out.trans q)
                clear HSp HPk hC
                go_upto_region 18 with fail
                go_region_law (go_simp; refine Calls.mono (Hid.out (HSp' _ ((Q.refl wC).drew))) ?_; rintro e wD ⟨rfl, hD⟩; dsimp only)
                all_goals
                  have HSt' := HSt wD hD.out
                  clear HSt HSp' hD v0 v1 v2 v3 t0 t1 t2 t3 t4 t5 t6
                  go_wp2_with fail
                  refine Calls.mono (Hid.out HSt') ?_
                  rintro e wE ⟨rfl, hE⟩
                  clear HSt'
                  go_wp2_with fail
                  exact ⟨⟨k + 1, by omega, rfl, by go_num, hE⟩, by simp [intOf]; omega⟩
            · have HSt' := HSt WB HIB.out.next
              clear HSt hun hus hqr hqb hat hS hinv HIB
              by_cases h2 : pk < 1
              · have d2 : decide (pk < 1) = true := decide_eq_true h2
                go_wp2_with fail
                rw [← hWB]
                clear hWB p0 p1 p2 p3 p4 p5 p6
                refine Calls.mono (Hid.out HSt') ?_
                rintro e wE ⟨rfl, hE⟩
                clear HSt'
                go_wp2_with fail
                exact ⟨⟨k + 1, by omega, rfl, by go_num, hE⟩, by simp [intOf]; omega⟩
              · have d2 : decide (pk < 1) = false := decide_eq_false h2
                have d3 : decide (pk > most) = true := decide_eq_true (by omega)
                go_wp2_with fail
                rw [← hWB]
                clear hWB p0 p1 p2 p3 p4 p5 p6
                refine Calls.mono (Hid.out HSt') ?_
                rintro e wE ⟨rfl, hE⟩
                clear HSt'
                go_wp2_with fail
                exact ⟨⟨k + 1, by omega, rfl, by go_num, hE⟩, by simp [intOf]; omega⟩
        · have d0 : decide ((k : Int) < (sn : Int)) = false := decide_eq_false (by omega)
          have hqr := HKeep.out wr _ hinv.out
          have HQr : Hid (Q w wr) := hqr
          clear hqr
          go_wp2_with fail
          go_ret
          exact ⟨rfl, HQr.out⟩
end Go.Proofs.YtdmaffciijmdcaaGreatDoor

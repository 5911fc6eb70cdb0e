/-
  The document's answer: Client, walked.
-/
import Derived.Test.YtdmaffciijmdcaaGreatDoorRG12ToRG15
namespace Go.Proofs.YtdmaffciijmdcaaGreatDoor
open Go.RowKit Plain

theorem step_here {r : Rl} {B : Nat} {w : World} {gb : Nat} {g : GateS} (h : RGwRep r B w gb g) : RGwStep r B w gb r w g := RGwStep.here h (Q.refl w)

set_option maxRecDepth 100000 in
set_option maxHeartbeats 3200000 in
theorem rclient_any {r : Rl} {B : Nat} {w : World} {gb : Nat} {g : GateS} (h : RGwRep r B w gb g) (ok : GOk g) (n : Int) (s : List UInt8) (hl : ∀ c ∈ g.conns, c.wait.length + s.length ≤ 4398046511104) :
    Calls Tryz.prog 34 #[ptr gb, .int .i64 n, .string ⟨s.toArray⟩] w fun e w' => RCallPost r B gb g n (fun c => c.noMore = false) (fun i c => clientAt g i c s) w e w' := by
  have HF := show Hid _ from rfind_any h ok.few n
  have HR : Hid (RGwRep r B w gb g) := h
  have HOK : Hid (GOk g) := ok
  have HLs := show Hid _ from hl
  have hgb := h.inB.2
  have HS := fun x => show Hid _ from rsome_any 3 n s x
  clear h ok hl
  go_enter Tryz.func34, Tryz.ntmps34
  go_wp2_with fail
  refine Calls.mono (Hid.out HF) ?_
  rintro e w' ⟨hw, ⟨i, c, hi, hn, rfl⟩ | ⟨hno, rfl⟩⟩
  case inr =>
    have HN : Hid (∀ c ∈ g.conns, (c.num : Int) = n → ¬ (c.noMore = false)) := fun c hc e => absurd e (hno c hc)
    rw [hw]
    clear hw hno HF
    go_wp2_with fail
    go_ret2
    exact .inr ⟨HN.out, rfl, rfl⟩
  rw [hw]
  clear hw HF
  obtain ⟨cg, cap, x1, x2, x3, x4, x5⟩ := HR.out.at hi
  have c1 := x2 1 _ (by decide) rfl
  have c2 := x2 2 _ (by decide) rfl
  have c3 := x2 3 _ (by decide) rfl
  have c4 := x2 4 _ (by decide) rfl
  have f1 := x3 (i * 6 + 1)
  have f2 := x3 (i * 6 + 2)
  have f3 := x3 (i * 6 + 3)
  have hil : i < g.conns.length := (List.getElem?_eq_some_iff.1 hi).1
  have hf := HOK.out.few
  have hwl := HLs.out c (List.mem_of_getElem? hi)
  have HI : Hid (g.conns[i]? = some c ∧ (c.num : Int) = n) := ⟨hi, hn⟩
  have HX1 := show Hid _ from x1
  have d0 : decide ((i : Int) < 0) = false := decide_eq_false (by omega)
  obtain ⟨cn, hcn⟩ : ∃ k, k = g.conns.length := ⟨_, rfl⟩
  rw [← hcn] at x1 hil hf
  clear hi hn x2 x3 hcn HLs
  cases hnm : c.noMore with
  | true =>
    rw [hnm] at c4
    have HN : Hid (∀ c ∈ g.conns, (c.num : Int) = n → ¬ (c.noMore = false)) := one_conn HOK.out HI.out.1 HI.out.2 fun hp => by rw [hnm] at hp; cases hp
    clear hnm c1 c2 c3
    go_wp2_with fail
    go_ret2
    exact .inr ⟨HN.out, rfl, rfl⟩
  | false =>
    rw [hnm] at c4
    have HP : Hid (c.noMore = false) := hnm
    have s1 := HR.out.conn (c' := { c with silent := 0 }) (u := .int .i64 0) (j := 3) HX1.out HI.out.1 (by decide) rfl
    by_cases h2 : c.stage = 2
    · have HEq : Hid (clientAt g i c s = (g.upd i { c with silent := 0 }, sendS 3 n s)) := by
        show _ = _
        unfold clientAt; rw [if_pos h2, HI.out.2]
      have HSt := show Hid _ from s1.1
      have c2' : w.cell? ⟨cg, i * 6 + 2, none⟩ = some (.int .i64 2) := by rw [c2, h2]; rfl
      clear c1 c2 h2 s1 hnm
      go_wp2_with fail
      refine Calls.mono (Hid.out (HS _)) ?_
      rintro e w2 ⟨hq2, v, rfl, hown⟩
      go_wp2_with fail
      go_ret2
      exact RCallPost.yes HI.out.1 HI.out.2 HP.out HEq.out (HSt.out.more hq2) (revs_out HSt.out hq2 hown)
    have e2 : ((c.stage : Int) == 2) = false := by rw [beq_eq_false_iff_ne]; omega
    have s2 := s1.1.rep.conn (c' := { c with silent := 0, wait := c.wait ++ s }) (u := .string ⟨(c.wait ++ s).toArray⟩) (j := 1) s1.2 (upd_at HI.out.1) (by decide) rfl
    have HSt : Hid (RGwStep r B w gb r ((w.setCell ⟨cg, i * 6 + 3, none⟩ (.int .i64 0)).setCell ⟨cg, i * 6 + 1, none⟩ (.string ⟨(c.wait ++ s).toArray⟩)) (g.upd i { c with silent := 0, wait := c.wait ++ s })) := by
      have := s1.1.trans s2.1
      rw [upd_twice] at this
      exact this
    have HX2 : Hid (((w.setCell ⟨cg, i * 6 + 3, none⟩ (.int .i64 0)).setCell ⟨cg, i * 6 + 1, none⟩ (.string ⟨(c.wait ++ s).toArray⟩)).cell? ⟨gb, 3, none⟩ = some (.slice (some ⟨cg, 0, none⟩) (g.upd i { c with silent := 0, wait := c.wait ++ s }).conns.length cap)) := by
      have := s2.2
      rw [upd_twice] at this
      exact this
    have hcat : (⟨c.wait.toArray⟩ : ByteArray) ++ (⟨s.toArray⟩ : ByteArray) = ⟨(c.wait ++ s).toArray⟩ := str_app0 _ _
    have hsz1 : (⟨c.wait.toArray⟩ : ByteArray).size = c.wait.length := rfl
    have hsz2 : (⟨s.toArray⟩ : ByteArray).size = s.length := rfl
    have hll : (c.wait ++ s).length = c.wait.length + s.length := List.length_append
    unfold str at c1
    clear s1 s2 HX1
    by_cases h1 : c.stage = 1
    · have HEq : Hid (clientAt g i c s = (g.upd i { c with silent := 0, wait := c.wait ++ s }, [])) := by
        show _ = _
        unfold clientAt; rw [if_neg h2, if_pos h1]
      have c2' : w.cell? ⟨cg, i * 6 + 2, none⟩ = some (.int .i64 1) := by rw [c2, h1]; rfl
      clear c2 h1 h2 e2 hnm HX2
      generalize c.wait ++ s = L at *
      go_wp2_with fail
      go_ret2
      exact RCallPost.yes HI.out.1 HI.out.2 HP.out HEq.out HSt.out (evs_nil r w _)
    have e1 : ((c.stage : Int) == 1) = false := by rw [beq_eq_false_iff_ne]; omega
    have HCl : Hid (clientAt g i c s = match cutHead (c.wait ++ s) with
      | none => (g.upd i { c with silent := 0, wait := c.wait ++ s }, [])
      | some (h, rest) => answerS (g.upd i { c with silent := 0, wait := rest }) i { c with silent := 0, wait := rest } h) := by
      show _ = _
      unfold clientAt; rw [if_neg h2, if_neg h1]
      rcases cutHead (c.wait ++ s) with _ | ⟨h, r⟩ <;> rfl
    obtain ⟨st, hst'⟩ : ∃ m : Int, m = (c.stage : Int) := ⟨_, rfl⟩
    rw [← hst'] at c2 e1 e2
    clear h1 h2 hst' hnm
    have HHe := fun x => show Hid _ from rheadEnd_any (c.wait ++ s) x (by omega)
    have HCut := show Hid _ from cut_end (c.wait ++ s)
    have hLb : (c.wait ++ s).length ≤ 4398046511104 := by omega
    clear hll
    have HC1 : Hid (((w.setCell ⟨cg, i * 6 + 3, none⟩ (.int .i64 0)).setCell ⟨cg, i * 6 + 1, none⟩ (.string ⟨(c.wait ++ s).toArray⟩)).cell? ⟨cg, i * 6 + 1, none⟩ = some (.string ⟨(c.wait ++ s).toArray⟩)) := set_same (u := .string ⟨c.wait.toArray⟩) (by rw [set_other (fun e => by injection e with _ e2; omega)]; exact c1)
    have HC2 : Hid (((w.setCell ⟨cg, i * 6 + 3, none⟩ (.int .i64 0)).setCell ⟨cg, i * 6 + 1, none⟩ (.string ⟨(c.wait ++ s).toArray⟩)).cell? ⟨cg, i * 6 + 2, none⟩ = some (.int .i64 st)) := by
      show _ = _
      rw [set_other (fun e => by injection e with _ e2; omega), set_other (fun e => by injection e with _ e2; omega)]; exact c2
    have HF1 : Hid (∀ p, ((w.setCell ⟨cg, i * 6 + 3, none⟩ (.int .i64 0)).setCell ⟨cg, i * 6 + 1, none⟩ (.string ⟨(c.wait ++ s).toArray⟩)).frozen? ⟨cg, i * 6 + p, none⟩ = w.frozen? ⟨cg, i * 6 + p, none⟩) := fun p => by rw [World.frozen?_setCell, World.frozen?_setCell]
    generalize c.wait ++ s = L at *
    go_wp2_with fail
    generalize (w.setCell ⟨cg, i * 6 + 3, none⟩ (.int .i64 0)).setCell ⟨cg, i * 6 + 1, none⟩ (.string ⟨L.toArray⟩) = W1 at *
    have g1 := HC1.out
    have g2 := HC2.out
    have k1 : W1.frozen? ⟨cg, i * 6 + 1, none⟩ = false := by rw [HF1.out 1]; exact f1
    have k2 : W1.frozen? ⟨cg, i * 6 + 2, none⟩ = false := by rw [HF1.out 2]; exact f2
    have hcl1 : cg < W1.heap.size := Q.lt g1
    have hsL : (⟨L.toArray⟩ : ByteArray).size = L.length := rfl
    clear c1 c2 c3 c4 f1 f2 f3 x1 HC1 HC2 HF1 HS hcat hsz1 hsz2 hwl
    refine Calls.mono (Hid.out (HHe _)) ?_
    rintro e w' ⟨rfl, hw⟩
    rw [hw]
    clear hw w' HHe
    rcases HCut.out with ⟨k, a1, a2, a3, a4, a5⟩ | ⟨a1, a2, a3⟩
    case inr =>
      obtain ⟨at', hat⟩ : ∃ m : Int, m = headEndS L := ⟨_, rfl⟩
      rw [← hat] at a1 ⊢
      clear hat HCut
      go_upto_region 12 with fail
      go_cut [70] (fun b wx => b = .bool true ∧ wx = W1)
      case first =>
        by_cases hneg : at' < 0
        · have d1 : decide (at' < 0) = true := decide_eq_true hneg
          clear hneg a1 a2 a3
          go_wp2_with fail
          go_meet
          exact ⟨rfl, rfl⟩
        · have d1 : decide (at' < 0) = false := decide_eq_false hneg
          have d2 : decide (1000 < at') = true := decide_eq_true (by omega)
          clear hneg a1 a2 a3
          go_wp2_with fail
          go_meet
          exact ⟨rfl, rfl⟩
      case rest =>
        obtain ⟨rfl, hw⟩ := hcut
        rw [hw]
        clear hw a1
        by_cases hlen : 1000 ≤ L.length
        · have HEq : Hid (clientAt g i c s = (g.drop c.num, [⟨2, n, badB, 0⟩, ⟨4, n, [], 0⟩])) := by
            show _ = _
            rw [HCl.out, (a3 hlen).1, ← HI.out.2]
            exact answer_err HI.out.1 (judge_noend (a3 hlen).2)
          have HRf : Hid (Calls Tryz.prog 80 #[ptr gb, .int .i64 n, .string ⟨#[72, 84, 84, 80, 47, 49, 46, 49, 32, 52, 48, 48, 32, 66, 97, 100, 32, 82, 101, 113, 117, 101, 115, 116, 13, 10, 13, 10]⟩] W1 fun e w' => RGwPost r B gb (g.drop c.num) [⟨2, n, badB, 0⟩, ⟨4, n, [], 0⟩] W1 e w') := by
            have := rrefuse_any HSt.out.rep (upd_few HOK.out _ _) c.num ⟨badB.toArray⟩
            rw [drop_upd g i c { c with silent := 0, wait := L } HI.out.1 rfl, HI.out.2] at this
            exact this
          have dlen : decide ((1000 : Int) ≤ (L.length : Int)) = true := decide_eq_true (by omega)
          clear hlen a2 a3 HCl
          go_wp2_with fail
          refine Calls.mono (Hid.out HRf) ?_
          rintro e w2 ⟨r2, v, rfl, hst2, hev⟩
          have HS2 := show Hid _ from HSt.out.trans hst2
          have HV : Hid (EvsOut r2 [⟨2, n, badB, 0⟩, ⟨4, n, [], 0⟩] w v w2) := by
            refine ⟨⟨hev.1.1, ?_⟩, hev.2⟩
            rcases hev.1.2 with hn | ⟨g', cap', cur, hv, hb, t⟩
            · exact .inl hn
            · exact .inr ⟨g', cap', cur, hv, Nat.le_trans HSt.out.fr.size hb, t⟩
          clear HRf hst2 hev
          go_wp2_with fail
          go_ret2
          exact RCallPost.yes HI.out.1 HI.out.2 HP.out HEq.out HS2.out HV.out
        · have HEq : Hid (clientAt g i c s = (g.upd i { c with silent := 0, wait := L }, [])) := by
            show _ = _
            rw [HCl.out, a2 (by omega)]
          have dlen : decide ((1000 : Int) ≤ (L.length : Int)) = false := decide_eq_false (by omega)
          clear hlen a2 a3 HCl
          go_wp2_with fail
          go_ret2
          exact RCallPost.yes HI.out.1 HI.out.2 HP.out HEq.out HSt.out (evs_nil r w _)
    obtain ⟨m4, hm4⟩ : ∃ m, m = k + 4 := ⟨_, rfl⟩
    rw [← hm4] at a1 a2 a3 a4 a5
    rw [a1]
    have d1 : decide ((m4 : Int) < 0) = false := decide_eq_false (by omega)
    have d2 : decide (1000 < (m4 : Int)) = false := decide_eq_false (by omega)
    have hpre : (⟨L.toArray⟩ : ByteArray).extract 0 m4 = ⟨(L.take k ++ endB).toArray⟩ := by rw [pre_str, a4]
    have hsuf : (⟨L.toArray⟩ : ByteArray).extract m4 L.length = ⟨(L.drop m4).toArray⟩ := str_drop0 L m4
    have HLk := show Hid _ from rlooks_any HSt.out.rep.read (L.take k) (by rw [List.length_take]; omega)
    have HJ : Hid (∀ x, judgeS g.rules g.tens g.minute (L.take k ++ endB) = x → judgeS (g.upd i { c with silent := 0, wait := L }).rules (g.upd i { c with silent := 0, wait := L }).tens (g.upd i { c with silent := 0, wait := L }).minute (L.take k ++ endB) = x) := fun x hx => hx
    have HCl2 : Hid (clientAt g i c s = answerS (g.upd i { c with silent := 0, wait := L.drop m4 }) i { c with silent := 0, wait := L.drop m4 } (L.take k ++ endB)) := by
      show _ = _
      rw [HCl.out, a5]
    clear a1 a4 a5 hm4 HCut HCl
    go_wp2_with fail
    refine Calls.mono (Hid.out HLk) ?_
    rintro e w2 ⟨rfl, hq2⟩
    have HS2 := show Hid _ from HSt.out.more hq2
    clear HLk
    cases hj : judgeS g.rules g.tens g.minute (L.take k ++ endB) with
    | error a =>
      rw [HJ.out _ hj]
      have HEq : Hid (clientAt g i c s = (g.drop c.num, [⟨2, n, a, 0⟩, ⟨4, n, [], 0⟩])) := by
        show _ = _
        rw [HCl2.out, ← HI.out.2]
        exact answer_err HI.out.1 hj
      have hne := judge_errR hj
      have HRf : Hid (Calls Tryz.prog 80 #[ptr gb, .int .i64 n, .string ⟨a.toArray⟩] w2 fun e w' => RGwPost r B gb (g.drop c.num) [⟨2, n, a, 0⟩, ⟨4, n, [], 0⟩] w2 e w') := by
        have := rrefuse_any HS2.out.rep (upd_few HOK.out _ _) c.num ⟨a.toArray⟩
        rw [drop_upd g i c { c with silent := 0, wait := L } HI.out.1 rfl, HI.out.2] at this
        exact this
      unfold looksV str
      clear hj HJ HCl2
      go_wp2_with fail
      refine Calls.mono (Hid.out HRf) ?_
      rintro e w3 ⟨r3, v, rfl, hst3, hev⟩
      have HS3 := show Hid _ from HS2.out.trans hst3
      have HV : Hid (EvsOut r3 [⟨2, n, a, 0⟩, ⟨4, n, [], 0⟩] w v w3) := by
        refine ⟨⟨hev.1.1, ?_⟩, hev.2⟩
        rcases hev.1.2 with hn | ⟨g', cap', cur, hv, hb, t⟩
        · exact .inl hn
        · exact .inr ⟨g', cap', cur, hv, Nat.le_trans HS2.out.fr.size hb, t⟩
      clear HRf hst3 hev
      go_wp2_with fail
      go_ret2
      exact RCallPost.yes HI.out.1 HI.out.2 HP.out HEq.out HS3.out HV.out
    | ok hp =>
      obtain ⟨ho, po⟩ := hp
      rw [HJ.out _ hj]
      have HEq : Hid (clientAt g i c s = (g.upd i { c with silent := 0, wait := L.drop m4, stage := 1 }, [⟨1, n, ho, (po : Int)⟩])) := by
        show _ = _
        rw [HCl2.out, ← HI.out.2]
        exact answer_go hj
      have g1' := hq2.cell g1
      have g2' := hq2.cell g2
      have k1' : w2.frozen? ⟨cg, i * 6 + 1, none⟩ = false := by rw [hq2.cells.2 cg _ hcl1]; exact k1
      have k2' : w2.frozen? ⟨cg, i * 6 + 2, none⟩ = false := by rw [hq2.cells.2 cg _ hcl1]; exact k2
      have hcl2 : cg < w2.heap.size := Q.lt g1'
      have t1 := HS2.out.rep.conn (c' := { c with silent := 0, wait := L.drop m4 }) (u := .string ⟨(L.drop m4).toArray⟩) (j := 1) (hq2.cell HX2.out) (upd_at HI.out.1) (by decide) rfl
      have t2 := t1.1.rep.conn (c' := { c with silent := 0, wait := L.drop m4, stage := 1 }) (u := .int .i64 1) (j := 2) t1.2 (upd_at (upd_at HI.out.1)) (by decide) rfl
      have HS3 : Hid (RGwStep r B w gb r ((w2.setCell ⟨cg, i * 6 + 1, none⟩ (.string ⟨(L.drop m4).toArray⟩)).setCell ⟨cg, i * 6 + 2, none⟩ (.int .i64 1)) (g.upd i { c with silent := 0, wait := L.drop m4, stage := 1 })) := by
        have := (HS2.out.trans t1.1).trans t2.1
        rw [upd_twice, upd_twice] at this
        exact this
      unfold looksV str
      clear hj HJ HCl2 t1 t2 g1 g2 k1 k2
      generalize L.drop m4 = R at *
      go_wp2_with fail
      go_ret2
      have hW3 : ((w2.setCell ⟨cg, i * 6 + 1, none⟩ (.string ⟨R.toArray⟩)).setCell ⟨cg, i * 6 + 2, none⟩ (.int .i64 1)).heap.size = w2.heap.size := by simp
      generalize (w2.setCell ⟨cg, i * 6 + 1, none⟩ (.string ⟨R.toArray⟩)).setCell ⟨cg, i * 6 + 2, none⟩ (.int .i64 1) = W3 at *
      have q4 : Q W3 (W3.alloc (.cells (evVals [⟨1, n, ho, (po : Int)⟩]).toArray 48)) := (Q.refl _).alloc _
      exact RCallPost.yes HI.out.1 HI.out.2 HP.out HEq.out (HS3.out.more q4) (revs_out HS3.out q4 (own_newN W3 _ w2.heap.size 1 hW3 (evVals [⟨1, n, ho, (po : Int)⟩]) _ rfl (by decide) (by omega)))
end Go.Proofs.YtdmaffciijmdcaaGreatDoor
/-
  The document's answer: Reload.
-/
namespace Go.Proofs.YtdmaffciijmdcaaGreatDoor
namespace Plain
theorem rows_of_linesR : ∀ (n : Nat) (ls : List (List UInt8)) (rows : List (List (List UInt8))), rowsOf n ls = .ok rows → ∀ row ∈ rows, ∃ l ∈ ls, row = parts 32 l
  | _, [], rows, h, row, hm => by
    cases h; cases hm
  | n, [l], rows, h, row, hm => by
    unfold rowsOf at h
    split at h
    · cases h; cases hm
    · split at h <;> cases h
  | n, l :: m :: ls, rows, h, row, hm => by
    unfold rowsOf at h
    split at h
    · cases h
    · split at h
      · cases hx : rowsOf (n + 1) (m :: ls) with
        | error e => rw [hx] at h; cases h
        | ok rs =>
          rw [hx] at h
          cases h
          rcases List.mem_cons.1 hm with rfl | hm
          · exact ⟨l, List.mem_cons_self, rfl⟩
          · obtain ⟨l', hl', he⟩ := rows_of_linesR (n + 1) (m :: ls) rs hx row hm
            exact ⟨l', List.mem_cons_of_mem _ hl', he⟩
      · cases h
theorem rules_shortR {T : List UInt8} {rows : List (List (List UInt8))} (h : rulesR T = .ok rows) : ∀ row ∈ rows, ∀ s ∈ row, s.length ≤ 4000 := by
  intro row hr s hs
  unfold rulesR at h
  split at h
  · cases h
  · obtain ⟨l, hl, rfl⟩ := rows_of_linesR 1 _ rows h row hr
    have := parts_le 32 l s hs
    have := parts_le 10 T l hl
    omega
theorem rowsOf_len : ∀ (n : Nat) (ls : List (List UInt8)) (rows : List (List (List UInt8))), rowsOf n ls = .ok rows → rows.length + n ≤ 41 ∨ rows = []
  | _, [], rows, h => by cases h; exact .inr rfl
  | n, [l], rows, h => by
    unfold rowsOf at h
    split at h
    · cases h; exact .inr rfl
    · split at h <;> cases h
  | n, l :: m :: ls, rows, h => by
    unfold rowsOf at h
    split at h
    · cases h
    · rename_i h40
      split at h
      · cases hx : rowsOf (n + 1) (m :: ls) with
        | error e => rw [hx] at h; cases h
        | ok rs =>
          rw [hx] at h
          cases h
          left
          rcases rowsOf_len (n + 1) (m :: ls) rs hx with h1 | h1
          · rw [List.length_cons]; omega
          · rw [h1, List.length_cons]; simp; omega
      · cases h
theorem rules_few {T : List UInt8} {rows : List (List (List UInt8))} (h : rulesR T = .ok rows) : rows.length ≤ 40 := by
  unfold rulesR at h
  split at h
  · cases h
  · rcases rowsOf_len 1 _ rows h with h1 | h1
    · omega
    · rw [h1]; simp
theorem rulesOf_enR : ∀ (n : Nat) (ls : List (List UInt8)) (en ln : Nat), rulesOf n ls = .error (en, ln) → en ≠ 0
  | _, [], _, _, h => by cases h
  | n, [l], en, ln, h => by
    unfold rulesOf at h
    split at h
    · cases h
    · split at h <;> cases h <;> decide
  | n, l :: m :: ls, en, ln, h => by
    unfold rulesOf at h
    split at h
    · cases h; decide
    · split at h
      · cases h; decide
      · cases hx : rulesOf (n + 1) (m :: ls) with
        | error e =>
          rw [hx] at h
          obtain ⟨a, b⟩ := e
          cases h
          exact rulesOf_enR (n + 1) (m :: ls) _ _ hx
        | ok rs => rw [hx] at h; cases h
theorem rules_errR {T : List UInt8} {en ln : Nat} (h : rulesR T = .error (en, ln)) : en ≠ 0 ∧ compileS T = .error (en, ln) := by
  have hs := rules_same T
  rw [h] at hs
  cases hc : compileS T with
  | ok rs => rw [hc] at hs; exact hs.elim
  | error x =>
    rw [hc] at hs
    obtain ⟨a, b⟩ := x
    cases (show (en, ln) = (a, b) from hs)
    refine ⟨?_, rfl⟩
    unfold compileS at hc
    split at hc
    · cases hc; decide
    · exact rulesOf_enR _ _ _ _ hc
theorem rules_okR {T : List UInt8} {rows : List (List (List UInt8))} (h : rulesR T = .ok rows) : ∃ rs, compileS T = .ok rs ∧ AllRows rows rs := by
  have hs := rules_same T
  rw [h] at hs
  cases hc : compileS T with
  | ok rs => rw [hc] at hs; exact ⟨rs, rfl, hs⟩
  | error x => rw [hc] at hs; exact hs.elim
end Plain
open Go.RowKit Plain

/-- What Reload answers. -/
def RReloadPost (r : Rl) (B : Nat) (gb : Nat) (g : GateS) (T : List UInt8) (w : World) (e : Ending) (w' : World) : Prop :=
  (∃ en ln : Nat, compileS T = .error (en, ln) ∧ e = .returned (.tuple #[.int .i64 (en : Int), .int .i64 (ln : Int)]) ∧ Q w w') ∨
  ∃ rs r', compileS T = .ok rs ∧ e = .returned (.tuple #[.int .i64 0, .int .i64 0]) ∧ RGwStep r B w gb r' w' { g with rules := rs } ∧ ∀ b, r' b ≠ none → r b ≠ none ∨ (w.heap.size ≤ b ∧ b < w'.heap.size)

theorem RGwRep.setRules {r : Rl} {B : Nat} {w w1 : World} {gb : Nat} {g : GateS} (h : RGwRep r B w gb g) (q : Q w w1) {v : Value} {rows : List (List (List UInt8))} {rs : List RuleS} (hv : RowsAt (New w w1) w1 v rows) (hall : AllRows rows rs) (h40 : rs.length ≤ 40) (hsh : ∀ row ∈ rows, ∀ s ∈ row, s.length ≤ 4000) :
    ∃ r', RGwStep r B w gb r' (w1.setCell ⟨gb, 0, none⟩ v) { g with rules := rs } ∧ ∀ b, r' b ≠ none → r b ≠ none ∨ (w.heap.size ≤ b ∧ b < (w1.setCell ⟨gb, 0, none⟩ v).heap.size) := by
  have hgb := h.inB
  have hsz := q.size
  obtain ⟨rv0, rows0, h4, _⟩ := h.rules
  obtain ⟨uv, us, h7, h8, h9⟩ := h.users
  obtain ⟨cv, h12, h13, h14⟩ := h.con
  have hr' : ∀ b x, r b = some x → (if w.heap.size ≤ b ∧ b < w1.heap.size then some Kd.stat else r b) = some x := fun b x hb => by
    rw [if_neg]
    · exact hb
    · intro e
      have := h.lt b (by rw [hb]; simp)
      omega
  have sm : ∀ b, b < w.heap.size → b ≠ gb → SameAt w (w1.setCell ⟨gb, 0, none⟩ v) b := fun b hb hne => (set_same_at hne).trans (q.sameAt hb)
  have cg : ∀ o, o ≠ 0 → (w1.setCell ⟨gb, 0, none⟩ v).cell? ⟨gb, o, none⟩ = w.cell? ⟨gb, o, none⟩ := fun o ho => by
    rw [set_other (fun e => by injection e with _ e2; exact ho e2.symm)]
    exact q.cells.1 gb o hgb.2
  have ks : Keeps (fun b => r b = some .stat) (fun b => (if w.heap.size ≤ b ∧ b < w1.heap.size then some Kd.stat else r b) = some .stat) w (w1.setCell ⟨gb, 0, none⟩ v) := fun b hb =>
    ⟨hr' b _ hb, fun o => (sm b (h.lt b (by rw [hb]; simp)) (fun e => by rw [e, h.role] at hb; cases hb)).cell o⟩
  have kn : Keeps (New w w1) (fun b => (if w.heap.size ≤ b ∧ b < w1.heap.size then some Kd.stat else r b) = some .stat) w1 (w1.setCell ⟨gb, 0, none⟩ v) := fun b hb =>
    ⟨if_pos hb, fun o => (set_same_at (fun e => by have := hb.1; omega)).cell o⟩
  refine ⟨fun b => if w.heap.size ≤ b ∧ b < w1.heap.size then some .stat else r b, ⟨⟨fun b hb => ?_, fun b hb => ?_, hr' gb _ h.role, ⟨v, rows, set_same (u := rv0) (q.cell h4), hv.keeps kn, hall, h40, hsh⟩, ⟨uv, us, by rw [cg 1 (by decide)]; exact h7, h8.keeps ks, h9⟩, by rw [cg 2 (by decide)]; exact h.min, h.minB, ⟨cv, by rw [cg 3 (by decide)]; exact h12, owns_same h13 fun k hk => sm k (h.lt k (by rw [h14 k hk]; simp)) (fun e => by have := h14 k hk; rw [e, h.role] at this; cases this), fun k hk => hr' k _ (h14 k hk)⟩, by rw [cg 4 (by decide)]; exact h.last, fun o => by rw [World.frozen?_setCell, q.cells.2 gb o hgb.2]; exact h.fz o⟩, ⟨q.os, q.tape, q.output, by simp; omega, fun k hk2 hr => sm k hk2 (fun e => by rw [e, h.role] at hr; cases hr)⟩, fun b hb => ?_, fun b hb => ?_⟩, fun b hb => ?_⟩
  · by_cases e : w.heap.size ≤ b ∧ b < w1.heap.size
    · simpa using e.2
    · have hb' : r b ≠ none := by simpa [e] using hb
      have := h.lt b hb'; simp; omega
  · by_cases e : w.heap.size ≤ b ∧ b < w1.heap.size
    · omega
    · exact h.low b (by simpa [e] using hb)
  · by_cases e : w.heap.size ≤ b ∧ b < w1.heap.size
    · exact .inr e.1
    · exact .inl (by simpa [e] using hb)
  · by_cases e : w.heap.size ≤ b ∧ b < w1.heap.size
    · simp [e]
    · simpa [e] using hb
  · by_cases e : w.heap.size ≤ b ∧ b < w1.heap.size
    · exact .inr (by simpa using e)
    · exact .inl (by simpa [e] using hb)

set_option maxRecDepth 100000 in
set_option maxHeartbeats 1600000 in
theorem rreload_any {r : Rl} {B : Nat} {w : World} {gb : Nat} {g : GateS} (h : RGwRep r B w gb g) (T : List UInt8) (hT : T.length ≤ 2097152) :
    Calls Tryz.prog 76 #[ptr gb, .string ⟨T.toArray⟩] w fun e w' => RReloadPost r B gb g T w e w' := by
  have HR : Hid (RGwRep r B w gb g) := h
  have HRu := show Hid _ from rrules_any T w hT
  have hgb := h.inB.2
  have hfz := h.fz 0
  obtain ⟨rv0, rows0, h4, _⟩ := h.rules
  clear h
  go_enter Tryz.func76, Tryz.ntmps76
  go_wp2_with fail
  refine Calls.mono (Hid.out HRu) ?_
  rintro e w1 ⟨hq1, ⟨en, ln, hr, rfl⟩ | ⟨rows, v, hr, rfl, hrows⟩⟩
  · obtain ⟨hen, hc⟩ := rules_errR hr
    have HC := show Hid _ from hc
    have d0 : ((en : Int) == 0) = false := by rw [beq_eq_false_iff_ne]; omega
    have HQ : Hid (Q w w1) := hq1
    clear hr hc HRu
    go_wp2_with fail
    go_ret2
    exact .inl ⟨en, ln, HC.out, rfl, HQ.out⟩
  · obtain ⟨rs, hc, hall⟩ := rules_okR hr
    have HC := show Hid _ from hc
    have HF := show Hid _ from HR.out.setRules hq1 hrows hall (by rw [← allRows_len hall]; exact rules_few hr) (rules_shortR hr)
    obtain ⟨vo, vn, vc, rfl⟩ : ∃ o n c, v = .slice o n c := by
      rcases hrows with ⟨_, h⟩ | ⟨g', cap, h, _⟩ <;> exact ⟨_, _, _, h⟩
    have k4 := hq1.cell h4
    have f4 : w1.frozen? ⟨gb, 0, none⟩ = false := by rw [hq1.cells.2 gb 0 hgb]; exact hfz
    have hg1 : gb < w1.heap.size := Q.lt k4
    clear hr hc HRu hrows hall
    go_wp2_with fail
    go_ret2
    obtain ⟨r', hs, hn⟩ := HF.out
    exact .inr ⟨rs, r', HC.out, rfl, hs, hn⟩
end Go.Proofs.YtdmaffciijmdcaaGreatDoor

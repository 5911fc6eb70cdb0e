/-
  The document's answer: EndHost, EndClient, Dialed.
-/
import Derived.Test.YtdmaffciijmdcaaGreatDoorRG8ToRG11
namespace Go.Proofs.YtdmaffciijmdcaaGreatDoor
open Go.RowKit Plain

theorem upd_few {g : GateS} (ok : GOk g) (i : Nat) (c : ConnS) : (g.upd i c).conns.length ≤ 8 := by simp [GateS.upd]; exact ok.few

set_option maxRecDepth 100000 in
set_option maxHeartbeats 1600000 in
theorem rendHost_any {r : Rl} {B : Nat} {w : World} {gb : Nat} {g : GateS} (h : RGwRep r B w gb g) (ok : GOk g) (n : Int) :
    Calls Tryz.prog 74 #[ptr gb, .int .i64 n] w fun e w' => RCallPost r B gb g n (fun c => c.stage = 2 ∧ c.hostEnd = false) (fun i c => endHostAt g i c) w e w' := by
  have HF := show Hid _ from rfind_any h ok.few n
  have HR : Hid (RGwRep r B w gb g) := h
  have HOK : Hid (GOk g) := ok
  have hgb := h.inB.2
  have HE := fun x => show Hid _ from revent_any 4 n ⟨#[]⟩ x
  clear h ok
  go_enter Tryz.func74, Tryz.ntmps74
  go_wp2_with fail
  refine Calls.mono (Hid.out HF) ?_
  rintro e w' ⟨hw, ⟨i, c, hi, hn, rfl⟩ | ⟨hno, rfl⟩⟩
  case inr =>
    have HN : Hid (∀ c ∈ g.conns, (c.num : Int) = n → ¬ (c.stage = 2 ∧ c.hostEnd = false)) := fun c hc e => absurd e (hno c hc)
    rw [hw]
    clear hw hno HF
    go_wp2_with fail
    go_ret2
    exact .inr ⟨HN.out, rfl, rfl⟩
  rw [hw]
  clear hw HF
  obtain ⟨cg, cap, x1, x2, x3, x4, x5⟩ := HR.out.at hi
  have c2 := x2 2 _ (by decide) rfl
  have c4 := x2 4 _ (by decide) rfl
  have c5 := x2 5 _ (by decide) rfl
  have f5 := x3 (i * 6 + 5)
  have hil : i < g.conns.length := (List.getElem?_eq_some_iff.1 hi).1
  have hf := HOK.out.few
  have HI : Hid (g.conns[i]? = some c ∧ (c.num : Int) = n) := ⟨hi, hn⟩
  have HX1 := show Hid _ from x1
  have d0 : decide ((i : Int) < 0) = false := decide_eq_false (by omega)
  obtain ⟨cn, hcn⟩ : ∃ k, k = g.conns.length := ⟨_, rfl⟩
  rw [← hcn] at x1 hil hf
  clear hi hn x2 x3 hcn
  by_cases hst : c.stage = 2
  case neg =>
    have d2 : ((c.stage : Int) != 2) = true := by rw [bne_iff_ne]; omega
    have HN : Hid (∀ c ∈ g.conns, (c.num : Int) = n → ¬ (c.stage = 2 ∧ c.hostEnd = false)) := one_conn HOK.out HI.out.1 HI.out.2 fun hp => hst hp.1
    obtain ⟨st, hst'⟩ : ∃ m : Int, m = (c.stage : Int) := ⟨_, rfl⟩
    rw [← hst'] at c2 d2
    clear hst hst' c4 c5
    go_wp2_with fail
    go_ret2
    exact .inr ⟨HN.out, rfl, rfl⟩
  have c2' : w.cell? ⟨cg, i * 6 + 2, none⟩ = some (.int .i64 2) := by rw [c2, hst]; rfl
  clear c2
  cases he : c.hostEnd with
  | true =>
    rw [he] at c5
    have HN : Hid (∀ c ∈ g.conns, (c.num : Int) = n → ¬ (c.stage = 2 ∧ c.hostEnd = false)) := one_conn HOK.out HI.out.1 HI.out.2 fun hp => by rw [he] at hp; exact absurd hp.2 (by decide)
    clear hst he c4
    go_wp2_with fail
    go_ret2
    exact .inr ⟨HN.out, rfl, rfl⟩
  | false =>
    rw [he] at c5
    have HP : Hid (c.stage = 2 ∧ c.hostEnd = false) := ⟨hst, he⟩
    have HSt := show Hid _ from (HR.out.conn (c' := { c with hostEnd := true }) (u := .bool true) (j := 5) HX1.out HI.out.1 (by decide) rfl).1
    have HDr : Hid (Calls Tryz.prog 104 #[ptr gb, .int .i64 n] (w.setCell ⟨cg, i * 6 + 5, none⟩ (.bool true)) fun e w' => e = .returned (.tuple #[]) ∧ ∃ r', RGwStep r B (w.setCell ⟨cg, i * 6 + 5, none⟩ (.bool true)) gb r' w' ((g.upd i { c with hostEnd := true }).drop c.num) ∧ ∀ b, r' b ≠ none → b < w'.heap.size) := by
      rw [← HI.out.2]
      exact rdrop_any HSt.out.rep (upd_few HOK.out _ _) c.num
    cases hnm : c.noMore with
    | true =>
      rw [hnm] at c4
      have HEq : Hid (endHostAt g i c = (g.drop c.num, [⟨4, n, [], 0⟩])) := by
        show _ = _
        unfold endHostAt; rw [hnm, ← HI.out.2]; rfl
      have HDu := show Hid _ from drop_upd g i c { c with hostEnd := true } HI.out.1 rfl
      clear hst he hnm
      go_wp2_with fail
      refine Calls.mono (Hid.out HDr) ?_
      rintro e w1 ⟨rfl, r1, hst1, _⟩
      have HS1 : Hid (RGwStep r B w gb r1 w1 (g.drop c.num)) := by
        rw [HDu.out] at hst1
        exact HSt.out.trans hst1
      clear HDr hst1 HDu
      go_wp2_with fail
      refine Calls.mono (Hid.out (HE _)) ?_
      rintro e w2 ⟨rfl, hq2⟩
      go_wp2_with fail
      go_ret2
      have q3 : Q w1 (w2.alloc (.cells (evVals [⟨4, n, [], 0⟩]).toArray 48)) := hq2.alloc _
      exact RCallPost.yes HI.out.1 HI.out.2 HP.out HEq.out (HS1.out.more q3) (revs_out HS1.out q3 (own_newN w2 _ w2.heap.size 1 rfl (evVals [⟨4, n, [], 0⟩]) _ rfl (by decide) hq2.size))
    | false =>
      rw [hnm] at c4
      have HEq : Hid (endHostAt g i c = (g.upd i { c with hostEnd := true }, [⟨4, n, [], 0⟩])) := by
        show _ = _
        unfold endHostAt; rw [hnm, ← HI.out.2]; rfl
      clear hst he hnm HDr
      go_wp2_with fail
      refine Calls.mono (Hid.out (HE _)) ?_
      rintro e w2 ⟨rfl, hq2⟩
      go_wp2_with fail
      go_ret2
      have q3 : Q (w.setCell ⟨cg, i * 6 + 5, none⟩ (.bool true)) (w2.alloc (.cells (evVals [⟨4, n, [], 0⟩]).toArray 48)) := hq2.alloc _
      exact RCallPost.yes HI.out.1 HI.out.2 HP.out HEq.out (HSt.out.more q3) (revs_out HSt.out q3 (own_newN w2 _ w2.heap.size 1 rfl (evVals [⟨4, n, [], 0⟩]) _ rfl (by decide) hq2.size))
end Go.Proofs.YtdmaffciijmdcaaGreatDoor
/-
  The document's answer: EndClient, Dialed.
-/
namespace Go.Proofs.YtdmaffciijmdcaaGreatDoor
open Go.RowKit Plain

set_option maxRecDepth 100000 in
set_option maxHeartbeats 3200000 in
theorem rendClient_any {r : Rl} {B : Nat} {w : World} {gb : Nat} {g : GateS} (h : RGwRep r B w gb g) (ok : GOk g) (n : Int) :
    Calls Tryz.prog 73 #[ptr gb, .int .i64 n] w fun e w' => RCallPost r B gb g n (fun c => c.noMore = false) (fun i c => endClientAt g i c) w e w' := by
  have HF := show Hid _ from rfind_any h ok.few n
  have HR : Hid (RGwRep r B w gb g) := h
  have HOK : Hid (GOk g) := ok
  have hgb := h.inB.2
  have HE := fun k x => show Hid _ from revent_any k n ⟨#[]⟩ x
  clear h ok
  go_enter Tryz.func73, Tryz.ntmps73
  go_wp2_with fail
  refine Calls.mono (Hid.out HF) ?_
  rintro e w' ⟨hw, ⟨i, c, hi, hn, rfl⟩ | ⟨hno, rfl⟩⟩
  case inr =>
    have HN : Hid (∀ c ∈ g.conns, (c.num : Int) = n → ¬ (c.noMore = false)) := fun c hc e => absurd e (hno c hc)
    rw [hw]
    clear hw hno HF
    go_wp2_with fail
    go_ret2
    exact .inr ⟨HN.out, rfl, rfl⟩
  rw [hw]
  clear hw HF
  obtain ⟨cg, cap, x1, x2, x3, x4, x5⟩ := HR.out.at hi
  have c2 := x2 2 _ (by decide) rfl
  have c4 := x2 4 _ (by decide) rfl
  have c5 := x2 5 _ (by decide) rfl
  have f4 := x3 (i * 6 + 4)
  have hil : i < g.conns.length := (List.getElem?_eq_some_iff.1 hi).1
  have hf := HOK.out.few
  have HI : Hid (g.conns[i]? = some c ∧ (c.num : Int) = n) := ⟨hi, hn⟩
  have HX1 := show Hid _ from x1
  have d0 : decide ((i : Int) < 0) = false := decide_eq_false (by omega)
  obtain ⟨cn, hcn⟩ : ∃ k, k = g.conns.length := ⟨_, rfl⟩
  rw [← hcn] at x1 hil hf
  clear hi hn x2 x3 hcn
  cases hnm : c.noMore with
  | true =>
    rw [hnm] at c4
    have HN : Hid (∀ c ∈ g.conns, (c.num : Int) = n → ¬ (c.noMore = false)) := one_conn HOK.out HI.out.1 HI.out.2 fun hp => by rw [hnm] at hp; cases hp
    clear hnm c2 c5
    go_wp2_with fail
    go_ret2
    exact .inr ⟨HN.out, rfl, rfl⟩
  | false =>
    rw [hnm] at c4
    have HP : Hid (c.noMore = false) := hnm
    have HDr : Hid (Calls Tryz.prog 104 #[ptr gb, .int .i64 n] w fun e w' => e = .returned (.tuple #[]) ∧ ∃ r', RGwStep r B w gb r' w' (g.drop c.num) ∧ ∀ b, r' b ≠ none → b < w'.heap.size) := by
      rw [← HI.out.2]
      exact rdrop_any HR.out HOK.out.few c.num
    by_cases h0 : c.stage = 0
    · have HEq : Hid (endClientAt g i c = (g.drop c.num, [⟨4, n, [], 0⟩])) := by
        show _ = _
        unfold endClientAt; rw [if_pos h0, HI.out.2]
      have c2' : w.cell? ⟨cg, i * 6 + 2, none⟩ = some (.int .i64 0) := by rw [c2, h0]; rfl
      clear c2 h0 hnm
      go_wp2_with fail
      refine Calls.mono (Hid.out HDr) ?_
      rintro e w1 ⟨rfl, r1, hst1, _⟩
      have HS1 := show Hid _ from hst1
      clear HDr hst1
      go_wp2_with fail
      refine Calls.mono (Hid.out (HE 4 _)) ?_
      rintro e w2 ⟨rfl, hq2⟩
      go_wp2_with fail
      go_ret2
      have q3 : Q w1 (w2.alloc (.cells (evVals [⟨4, n, [], 0⟩]).toArray 48)) := hq2.alloc _
      exact RCallPost.yes HI.out.1 HI.out.2 HP.out HEq.out (HS1.out.more q3) (revs_out HS1.out q3 (own_newN w2 _ w2.heap.size 1 rfl (evVals [⟨4, n, [], 0⟩]) _ rfl (by decide) hq2.size))
    by_cases h1 : c.stage = 1
    · have HEq : Hid (endClientAt g i c = (g.drop c.num, [⟨4, n, [], 0⟩, ⟨5, n, [], 0⟩])) := by
        show _ = _
        unfold endClientAt; rw [if_neg h0, if_pos h1, HI.out.2]
      have c2' : w.cell? ⟨cg, i * 6 + 2, none⟩ = some (.int .i64 1) := by rw [c2, h1]; rfl
      clear c2 h0 h1 hnm
      go_wp2_with fail
      refine Calls.mono (Hid.out HDr) ?_
      rintro e w1 ⟨rfl, r1, hst1, _⟩
      have HS1 := show Hid _ from hst1
      clear HDr hst1
      go_wp2_with fail
      refine Calls.mono (Hid.out (HE 4 _)) ?_
      rintro e w2 ⟨rfl, hq2⟩
      go_wp2_with fail
      refine Calls.mono (Hid.out (HE 5 _)) ?_
      rintro e w3 ⟨rfl, hq3⟩
      have HQ3 : Hid (Q w1 w3) := hq2.trans hq3
      clear hq2 hq3
      go_wp2_with fail
      go_ret2
      have q3 : Q w1 (w3.alloc (.cells (evVals [⟨4, n, [], 0⟩, ⟨5, n, [], 0⟩]).toArray 48)) := HQ3.out.alloc _
      exact RCallPost.yes HI.out.1 HI.out.2 HP.out HEq.out (HS1.out.more q3) (revs_out HS1.out q3 (own_newN w3 _ w3.heap.size 2 rfl (evVals [⟨4, n, [], 0⟩, ⟨5, n, [], 0⟩]) _ rfl (by decide) HQ3.out.size))
    have e0 : ((c.stage : Int) == 0) = false := by rw [beq_eq_false_iff_ne]; omega
    have e1 : ((c.stage : Int) == 1) = false := by rw [beq_eq_false_iff_ne]; omega
    have HSt := show Hid _ from (HR.out.conn (c' := { c with noMore := true }) (u := .bool true) (j := 4) HX1.out HI.out.1 (by decide) rfl).1
    have HDu : Hid (Calls Tryz.prog 104 #[ptr gb, .int .i64 n] (w.setCell ⟨cg, i * 6 + 4, none⟩ (.bool true)) fun e w' => e = .returned (.tuple #[]) ∧ ∃ r', RGwStep r B (w.setCell ⟨cg, i * 6 + 4, none⟩ (.bool true)) gb r' w' ((g.upd i { c with noMore := true }).drop c.num) ∧ ∀ b, r' b ≠ none → b < w'.heap.size) := by
      rw [← HI.out.2]
      exact rdrop_any HSt.out.rep (upd_few HOK.out _ _) c.num
    have HEq0 : Hid (endClientAt g i c = (if c.hostEnd = true then g.drop c.num else g.upd i { c with noMore := true }, [⟨5, n, [], 0⟩])) := by
      show _ = _
      unfold endClientAt; rw [if_neg h0, if_neg h1, HI.out.2]
    obtain ⟨st, hst'⟩ : ∃ m : Int, m = (c.stage : Int) := ⟨_, rfl⟩
    rw [← hst'] at c2 e0 e1
    clear h0 h1 hnm hst' HDr
    cases hhe : c.hostEnd with
    | true =>
      rw [hhe] at c5
      have HEq : Hid (endClientAt g i c = (g.drop c.num, [⟨5, n, [], 0⟩])) := by
        show _ = _
        rw [HEq0.out, hhe]; rfl
      have HDv := show Hid _ from drop_upd g i c { c with noMore := true } HI.out.1 rfl
      clear hhe HEq0
      go_wp2_with fail
      refine Calls.mono (Hid.out HDu) ?_
      rintro e w1 ⟨rfl, r1, hst1, _⟩
      have HS1 : Hid (RGwStep r B w gb r1 w1 (g.drop c.num)) := by
        rw [HDv.out] at hst1
        exact HSt.out.trans hst1
      clear HDu hst1 HDv
      go_wp2_with fail
      refine Calls.mono (Hid.out (HE 5 _)) ?_
      rintro e w2 ⟨rfl, hq2⟩
      go_wp2_with fail
      go_ret2
      have q3 : Q w1 (w2.alloc (.cells (evVals [⟨5, n, [], 0⟩]).toArray 48)) := hq2.alloc _
      exact RCallPost.yes HI.out.1 HI.out.2 HP.out HEq.out (HS1.out.more q3) (revs_out HS1.out q3 (own_newN w2 _ w2.heap.size 1 rfl (evVals [⟨5, n, [], 0⟩]) _ rfl (by decide) hq2.size))
    | false =>
      rw [hhe] at c5
      have HEq : Hid (endClientAt g i c = (g.upd i { c with noMore := true }, [⟨5, n, [], 0⟩])) := by
        show _ = _
        rw [HEq0.out, hhe]; rfl
      clear hhe HEq0 HDu
      go_wp2_with fail
      refine Calls.mono (Hid.out (HE 5 _)) ?_
      rintro e w2 ⟨rfl, hq2⟩
      go_wp2_with fail
      go_ret2
      have q3 : Q (w.setCell ⟨cg, i * 6 + 4, none⟩ (.bool true)) (w2.alloc (.cells (evVals [⟨5, n, [], 0⟩]).toArray 48)) := hq2.alloc _
      exact RCallPost.yes HI.out.1 HI.out.2 HP.out HEq.out (HSt.out.more q3) (revs_out HSt.out q3 (own_newN w2 _ w2.heap.size 1 rfl (evVals [⟨5, n, [], 0⟩]) _ rfl (by decide) hq2.size))
end Go.Proofs.YtdmaffciijmdcaaGreatDoor
/-
  The document's answer: Dialed.
-/
namespace Go.Proofs.YtdmaffciijmdcaaGreatDoor
namespace Plain
theorem upd_twice (g : GateS) (i : Nat) (c d : ConnS) : (g.upd i c).upd i d = g.upd i d := by simp [GateS.upd, List.set_set]
theorem upd_at {g : GateS} {i : Nat} {c d : ConnS} (h : g.conns[i]? = some c) : (g.upd i d).conns[i]? = some d := by
  have := (List.getElem?_eq_some_iff.1 h).1
  simp [GateS.upd, this]
end Plain
open Go.RowKit Plain

theorem SameAt.trans' {w w1 w2 : World} {b : Nat} (h : SameAt w w1 b) (k : SameAt w1 w2 b) : SameAt w w2 b := Eq.trans k h
theorem RGwStep.grown {r r1 : Rl} {B : Nat} {w w1 w2 : World} {gb : Nat} {g1 : GateS} {row : Option Nat} (h : RGwStep r B w gb r1 w1 g1) (hg : w1.grownBy w2 row) (hrow : ∀ k, row = some k → r1 k = none ∧ w.heap.size ≤ k) : RGwStep r B w gb r1 w2 g1 := by
  have S : ∀ b, r1 b ≠ none → SameAt w1 w2 b := fun b hb => hg.block b (h.rep.lt b hb) (fun e => hb (hrow b e.symm).1)
  refine ⟨h.rep.same S hg.size, ⟨hg.os.trans h.fr.os, hg.tape.trans h.fr.tape, hg.output.trans h.fr.output, Nat.le_trans h.fr.size hg.size, fun k hk hr => ?_⟩, h.gr⟩
  have h1 := h.fr.block k hk hr
  have h2 := hg.block k (Nat.lt_of_lt_of_le hk h.fr.size) (fun e => by have := (hrow k e.symm).2; omega)
  exact SameAt.trans' h1 h2

set_option maxRecDepth 100000 in
set_option maxHeartbeats 3200000 in
theorem rdialed_any {r : Rl} {B : Nat} {w : World} {gb : Nat} {g : GateS} (h : RGwRep r B w gb g) (ok : GOk g) (n : Int) (yes : Bool) :
    Calls Tryz.prog 71 #[ptr gb, .int .i64 n, .bool yes] w fun e w' => RCallPost r B gb g n (fun c => c.stage = 1) (fun i c => dialedAt g i c yes) w e w' := by
  have HF := show Hid _ from rfind_any h ok.few n
  have HR : Hid (RGwRep r B w gb g) := h
  have HOK : Hid (GOk g) := ok
  have hgb := h.inB.2
  have HE := fun x => show Hid _ from revent_any 2 n ⟨goB.toArray⟩ x
  clear h ok
  go_enter Tryz.func71, Tryz.ntmps71
  go_wp2_with fail
  refine Calls.mono (Hid.out HF) ?_
  rintro e w' ⟨hw, ⟨i, c, hi, hn, rfl⟩ | ⟨hno, rfl⟩⟩
  case inr =>
    have HN : Hid (∀ c ∈ g.conns, (c.num : Int) = n → ¬ (c.stage = 1)) := fun c hc e => absurd e (hno c hc)
    rw [hw]
    clear hw hno HF
    go_wp2_with fail
    go_ret2
    exact .inr ⟨HN.out, rfl, rfl⟩
  rw [hw]
  clear hw HF
  obtain ⟨cg, cap, x1, x2, x3, x4, x5⟩ := HR.out.at hi
  have c1 := x2 1 _ (by decide) rfl
  have c2 := x2 2 _ (by decide) rfl
  have c3 := x2 3 _ (by decide) rfl
  have f1 := x3 (i * 6 + 1)
  have f2 := x3 (i * 6 + 2)
  have f3 := x3 (i * 6 + 3)
  have hil : i < g.conns.length := (List.getElem?_eq_some_iff.1 hi).1
  have hf := HOK.out.few
  have HI : Hid (g.conns[i]? = some c ∧ (c.num : Int) = n) := ⟨hi, hn⟩
  have HX1 := show Hid _ from x1
  have d0 : decide ((i : Int) < 0) = false := decide_eq_false (by omega)
  obtain ⟨cn, hcn⟩ : ∃ k, k = g.conns.length := ⟨_, rfl⟩
  rw [← hcn] at x1 hil hf
  clear hi hn x2 x3 hcn
  by_cases h1 : c.stage = 1
  case neg =>
    have e1 : ((c.stage : Int) != 1) = true := by rw [bne_iff_ne]; omega
    have HN : Hid (∀ c ∈ g.conns, (c.num : Int) = n → ¬ (c.stage = 1)) := one_conn HOK.out HI.out.1 HI.out.2 h1
    obtain ⟨st, hst'⟩ : ∃ m : Int, m = (c.stage : Int) := ⟨_, rfl⟩
    rw [← hst'] at c2 e1
    clear h1 hst' c1 c3
    go_wp2_with fail
    go_ret2
    exact .inr ⟨HN.out, rfl, rfl⟩
  have c2' : w.cell? ⟨cg, i * 6 + 2, none⟩ = some (.int .i64 1) := by rw [c2, h1]; rfl
  have HP : Hid (c.stage = 1) := h1
  clear c2
  cases yes with
  | false =>
    have HEq : Hid (dialedAt g i c false = (g.drop c.num, [⟨2, n, goneB, 0⟩, ⟨4, n, [], 0⟩])) := by
      show _ = _
      unfold dialedAt; rw [if_neg (by decide), HI.out.2]
    have HRf : Hid (Calls Tryz.prog 80 #[ptr gb, .int .i64 n, .string ⟨#[72, 84, 84, 80, 47, 49, 46, 49, 32, 53, 48, 50, 32, 66, 97, 100, 32, 71, 97, 116, 101, 119, 97, 121, 13, 10, 13, 10]⟩] w fun e w' => RGwPost r B gb (g.drop c.num) [⟨2, n, goneB, 0⟩, ⟨4, n, [], 0⟩] w e w') := by
      rw [← HI.out.2]
      exact rrefuse_any HR.out HOK.out.few c.num ⟨goneB.toArray⟩
    clear h1 HE c1 c3
    go_wp2_with fail
    refine Calls.mono (Hid.out HRf) ?_
    rintro e w1 ⟨r1, v, rfl, hst1, hev⟩
    have HS1 := show Hid _ from hst1
    have HV := show Hid _ from hev
    clear HRf hst1 hev
    go_wp2_with fail
    go_ret2
    exact RCallPost.yes HI.out.1 HI.out.2 HP.out HEq.out HS1.out HV.out
  | true =>
    have HEq : Hid (dialedAt g i c true = (g.upd i { c with silent := 0, stage := 2, wait := [] }, ⟨2, n, goB, 0⟩ :: sendS 3 n c.wait)) := by
      show _ = _
      unfold dialedAt; rw [if_pos rfl, HI.out.2]
    have s1 := HR.out.conn (c' := { c with silent := 0 }) (u := .int .i64 0) (j := 3) HX1.out HI.out.1 (by decide) rfl
    have s2 := s1.1.rep.conn (c' := { c with silent := 0, stage := 2 }) (u := .int .i64 2) (j := 2) s1.2 (upd_at HI.out.1) (by decide) rfl
    have HSt : Hid (RGwStep r B w gb r ((w.setCell ⟨cg, i * 6 + 3, none⟩ (.int .i64 0)).setCell ⟨cg, i * 6 + 2, none⟩ (.int .i64 2)) (g.upd i { c with silent := 0, stage := 2 })) := by
      have := s1.1.trans s2.1
      rw [upd_twice] at this
      exact this
    have HX2 : Hid (((w.setCell ⟨cg, i * 6 + 3, none⟩ (.int .i64 0)).setCell ⟨cg, i * 6 + 2, none⟩ (.int .i64 2)).cell? ⟨gb, 3, none⟩ = some (.slice (some ⟨cg, 0, none⟩) (g.upd i { c with silent := 0, stage := 2 }).conns.length cap)) := by
      have := s2.2
      rw [upd_twice] at this
      exact this
    have HSo := fun x => show Hid _ from rsome_any 3 n c.wait x
    unfold str at c1
    have C1 : ((w.setCell ⟨cg, i * 6 + 3, none⟩ (.int .i64 0)).setCell ⟨cg, i * 6 + 2, none⟩ (.int .i64 2)).cell? ⟨cg, i * 6 + 1, none⟩ = some (.string ⟨c.wait.toArray⟩) := by
      rw [set_other (fun e => by injection e with _ e2; omega), set_other (fun e => by injection e with _ e2; omega)]
      exact c1
    have F1 : ((w.setCell ⟨cg, i * 6 + 3, none⟩ (.int .i64 0)).setCell ⟨cg, i * 6 + 2, none⟩ (.int .i64 2)).frozen? ⟨cg, i * 6 + 1, none⟩ = false := by
      rw [World.frozen?_setCell, World.frozen?_setCell]; exact f1
    have HC1 := show Hid _ from C1
    have HF1 := show Hid _ from F1
    clear s1 s2 h1 C1 F1
    go_wp2_with fail
    generalize (w.setCell ⟨cg, i * 6 + 3, none⟩ (.int .i64 0)).setCell ⟨cg, i * 6 + 2, none⟩ (.int .i64 2) = W1 at *
    clear c1 c2' c3 f1 f2 f3 x1
    refine Calls.mono (Hid.out (HE _)) ?_
    rintro e w2 ⟨rfl, hq2⟩
    have HO3 : Hid ((w2.alloc (.cells #[.int .i64 2, .int .i64 n, .string ⟨goB.toArray⟩, .int .i64 0] 48)).ownsRow W1.heap.size 48 4 (.slice (some ⟨w2.heap.size, 0, none⟩) 1 1) 1 (evVals [⟨2, n, goB, 0⟩])) := own_newN w2 _ w2.heap.size 1 rfl (evVals [⟨2, n, goB, 0⟩]) _ rfl (by decide) hq2.size
    have HQ3 : Hid (Q W1 (w2.alloc (.cells #[.int .i64 2, .int .i64 n, .string ⟨goB.toArray⟩, .int .i64 0] 48))) := hq2.alloc _
    have k0 := hq2.cell HC1.out
    have hz2 := hq2.size
    have hcl2 : cg < w2.heap.size := Q.lt k0
    have hcl1 : cg < W1.heap.size := Q.lt HC1.out
    clear HE
    go_wp2_with fail
    generalize (w2.alloc (.cells #[.int .i64 2, .int .i64 n, .string ⟨goB.toArray⟩, .int .i64 0] 48)) = w3 at *
    refine Calls.mono (Hid.out (HSo _)) ?_
    rintro e w4 ⟨hq4, lv, rfl, hlv⟩
    obtain ⟨v5, w5, hrun, hown5, hgr5, hat5⟩ := append_evs w4 W1.heap.size w3.heap.size (.slice (some ⟨w2.heap.size, 0, none⟩) 1 1) lv 1 (evVals [⟨2, n, goB, 0⟩]) (sendS 3 n c.wait) (owns_Q HO3.out hq4) hlv (by unfold sendS; split <;> simp) (HQ3.out.trans hq4).size
    obtain ⟨lo, lc, rfl⟩ := slice_form hlv
    obtain ⟨vo, vc, rfl⟩ := slice_form hown5
    have HRun := show Hid _ from hrun
    have HS5 : Hid (RGwStep r B w gb r w5 (g.upd i { c with silent := 0, stage := 2 })) := (HSt.out.more (HQ3.out.trans hq4)).grown hgr5 (fun k hk => by
      have e : w2.heap.size = k := by simpa [Value.ownBlock] using hk
      have := HSt.out.fr.size
      exact ⟨rsized HSt.out.rep (by omega), by omega⟩)
    have hne5 : ∀ k, k < W1.heap.size → SameAt W1 w5 k := fun k hk => SameAt.trans' ((HQ3.out.trans hq4).sameAt hk) (hgr5.block k (Nat.lt_of_lt_of_le hk (HQ3.out.trans hq4).size) (fun e => by
      have e : k = w2.heap.size := by simpa [Value.ownBlock] using e
      omega))
    have k5 : w5.cell? ⟨cg, i * 6 + 1, none⟩ = some (.string ⟨c.wait.toArray⟩) := by rw [(hne5 cg hcl1).cell]; exact HC1.out
    have f5 : w5.frozen? ⟨cg, i * 6 + 1, none⟩ = false := by rw [(hne5 cg hcl1).frozen]; exact HF1.out
    have HK : Hid (RGwStep r B w gb r (w5.setCell ⟨cg, i * 6 + 1, none⟩ (.string ⟨#[]⟩)) (g.upd i { c with silent := 0, stage := 2, wait := [] })) := by
      have hx : w5.cell? ⟨gb, 3, none⟩ = some (.slice (some ⟨cg, 0, none⟩) (g.upd i { c with silent := 0, stage := 2 }).conns.length cap) := by
        rw [(hne5 gb (Q.lt HX2.out)).cell]; exact HX2.out
      have := (HS5.out.rep.conn (c' := { c with silent := 0, stage := 2, wait := [] }) (u := .string ⟨#[]⟩) (j := 1) hx (upd_at HI.out.1) (by decide) rfl).1
      rw [upd_twice] at this
      exact HS5.out.trans this
    have HVs : Hid (EvsOut r (⟨2, n, goB, 0⟩ :: sendS 3 n c.wait) w (.slice vo (1 + (sendS 3 n c.wait).length) vc) (w5.setCell ⟨cg, i * 6 + 1, none⟩ (.string ⟨#[]⟩))) := by
      have hlt5 := owns_lt hown5
      have h1 : w5.ownsRow w.heap.size 48 4 (.slice vo (1 + (sendS 3 n c.wait).length) vc) (⟨2, n, goB, 0⟩ :: sendS 3 n c.wait : List EvS).length (evVals (⟨2, n, goB, 0⟩ :: sendS 3 n c.wait)) := by
        have e1 : (⟨2, n, goB, 0⟩ :: sendS 3 n c.wait : List EvS).length = 1 + (sendS 3 n c.wait).length := by rw [List.length_cons]; omega
        have e2 : evVals (⟨2, n, goB, 0⟩ :: sendS 3 n c.wait) = evVals [⟨2, n, goB, 0⟩] ++ evVals (sendS 3 n c.wait) := by rw [← evVals_append]; rfl
        rw [e1, e2]
        refine ⟨hown5.1, ?_⟩
        rcases hown5.2 with hn | ⟨g', cap', cur, hv, hb, t⟩
        · exact .inl hn
        · exact .inr ⟨g', cap', cur, hv, Nat.le_trans HSt.out.fr.size hb, t⟩
      refine ⟨owns_same h1 fun k hk => set_same_at (fun e => by have := (hlt5 k hk).1; omega), fun k hk => rsized HSt.out.rep (hlt5 k hk).1⟩
    clear HSo hrun hlv hown5 hgr5 hat5 hq4 HS5 HO3
    generalize (sendS 3 n c.wait).length = sl at *
    go_wp2_with (first | (at_builtin; refine wpList_append_run rfl (.tmp 47) (.tmp 53) 41 41 rfl (.slice (some ⟨w2.heap.size, 0, none⟩) 1 1) (.slice lo sl lc) (.slice vo (1 + sl) vc) w5 rfl rfl HRun.out ?_))
    go_ret2
    exact RCallPost.yes HI.out.1 HI.out.2 HP.out HEq.out HK.out HVs.out
end Go.Proofs.YtdmaffciijmdcaaGreatDoor
/-
  The document's answer: Client.
-/
namespace Go.Proofs.YtdmaffciijmdcaaGreatDoor
namespace Plain
theorem occ_take (l : List UInt8) (m j : Nat) : Lib.occAt (l.take m) endB j = true ↔ Lib.occAt l endB j = true ∧ j + 4 ≤ m := by
  unfold Lib.occAt
  rw [List.isPrefixOf_iff_prefix, List.isPrefixOf_iff_prefix, List.drop_take, List.prefix_take_iff]
  rw [show endB.length = 4 from rfl]
  constructor <;> (rintro ⟨h1, h2⟩; exact ⟨h1, by omega⟩)
/-- Where the first head ends, and what is cut off. -/
theorem cut_end (l : List UInt8) : (∃ i : Nat, headEndS l = ((i + 4 : Nat) : Int) ∧ i + 4 ≤ 1000 ∧ i + 4 ≤ l.length ∧ l.take (i + 4) = l.take i ++ endB ∧ cutHead l = some (l.take i ++ endB, l.drop (i + 4))) ∨
    ((headEndS l < 0 ∨ 1000 < headEndS l) ∧ (l.length < 1000 → cutHead l = none) ∧ (1000 ≤ l.length → cutHead l = some (l.take 1000, []) ∧ Lib.hasSuffix (l.take 1000) endB = false)) := by
  rcases Lib.index_spec l endB with ⟨h1, h2⟩ | ⟨i, h1, h2, h3, h4⟩
  · right
    have hno : Lib.index (l.take 1000) endB = -1 := Lib.index_none fun j hj => by
      cases hx : Lib.occAt (l.take 1000) endB j with
      | false => rfl
      | true =>
        have h5 := (occ_take l 1000 j).1 hx
        have h6 : j ≤ l.length := by rw [List.length_take] at hj; omega
        rw [h2 j h6] at h5
        exact absurd h5.1 (by decide)
    refine ⟨.inl (by unfold headEndS; rw [h1, if_neg (by omega)]; omega), fun hl => ?_, fun hl => ⟨?_, ?_⟩⟩
    · unfold cutHead
      rw [hno, if_neg (by omega), if_pos hl]
    · unfold cutHead
      rw [hno, if_neg (by omega), if_neg (by omega)]
    · cases hx : Lib.hasSuffix (l.take 1000) endB with
      | false => rfl
      | true =>
        exfalso
        obtain ⟨t, ht⟩ := List.isSuffixOf_iff_suffix.1 hx
        have hlen := congrArg List.length ht
        rw [List.length_append, List.length_take, show endB.length = 4 from rfl] at hlen
        have ho : Lib.occAt (l.take 1000) endB t.length = true := by
          unfold Lib.occAt
          rw [← ht, List.drop_left]
          exact List.isPrefixOf_iff_prefix.2 (List.prefix_refl _)
        have h5 := (occ_take l 1000 t.length).1 ho
        rw [h2 t.length (by omega)] at h5
        exact absurd h5.1 (by decide)
  · have hpre : endB <+: l.drop i := List.isPrefixOf_iff_prefix.1 h3
    have hroom : i + 4 ≤ l.length := by
      have := hpre.length_le
      rw [List.length_drop, show endB.length = 4 from rfl] at this
      omega
    have htk : l.take (i + 4) = l.take i ++ endB := by
      obtain ⟨t, ht⟩ := hpre
      rw [List.take_add, ← ht]
      congr 1
    have hend : headEndS l = ((i + 4 : Nat) : Int) := by unfold headEndS; rw [h1, if_pos (by omega)]; omega
    by_cases h1000 : i + 4 ≤ 1000
    · left
      have hix : Lib.index (l.take 1000) endB = (i : Nat) := Lib.index_hit (fun j hj => by
        cases hx : Lib.occAt (l.take 1000) endB j with
        | false => rfl
        | true =>
          have h5 := (occ_take l 1000 j).1 hx
          rw [h4 j hj] at h5
          exact absurd h5.1 (by decide)) (by rw [List.length_take]; omega) ((occ_take l 1000 i).2 ⟨h3, h1000⟩)
      refine ⟨i, hend, h1000, hroom, htk, ?_⟩
      unfold cutHead
      rw [hix, if_pos (by omega), show (((i : Nat) : Int).toNat + 4) = i + 4 by omega, htk]
    · right
      have hno : Lib.index (l.take 1000) endB = -1 := Lib.index_none fun j hj => by
        cases hx : Lib.occAt (l.take 1000) endB j with
        | false => rfl
        | true =>
          have h5 := (occ_take l 1000 j).1 hx
          rw [h4 j (by omega)] at h5
          exact absurd h5.1 (by decide)
      refine ⟨.inr (by rw [hend]; omega), fun hl => by omega, fun hl => ⟨?_, ?_⟩⟩
      · unfold cutHead
        rw [hno, if_neg (by omega), if_neg (by omega)]
      · cases hx : Lib.hasSuffix (l.take 1000) endB with
        | false => rfl
        | true =>
          exfalso
          obtain ⟨t, ht⟩ := List.isSuffixOf_iff_suffix.1 hx
          have hlen := congrArg List.length ht
          rw [List.length_append, List.length_take, show endB.length = 4 from rfl] at hlen
          have ho : Lib.occAt (l.take 1000) endB t.length = true := by
            unfold Lib.occAt
            rw [← ht, List.drop_left]
            exact List.isPrefixOf_iff_prefix.2 (List.prefix_refl _)
          have h5 := (occ_take l 1000 t.length).1 ho
          rw [h4 t.length (by omega)] at h5
          exact absurd h5.1 (by decide)
theorem judge_noend {rs : List RuleS} {tens : List (List UInt8 × List UInt8)} {m : Int} {l : List UInt8} (h : Lib.hasSuffix l endB = false) : judgeS rs tens m l = .error badB := by
  unfold judgeS readHead
  rw [if_neg (by rw [h]; decide)]
theorem judge_errR {rs : List RuleS} {tens : List (List UInt8 × List UInt8)} {m : Int} {l r : List UInt8} (h : judgeS rs tens m l = .error r) : r.isEmpty = false := by
  unfold judgeS at h
  split at h
  · cases h; rfl
  · split at h
    · cases h; rfl
    · split at h
      · cases h; rfl
      · split at h
        · cases h; rfl
        · split at h
          · cases h
          · cases h; rfl
/-- What a refused head does. -/
theorem answer_err {g : GateS} {i : Nat} {c : ConnS} (hi : g.conns[i]? = some c) {rest h a : List UInt8} (hj : judgeS g.rules g.tens g.minute h = .error a) :
    answerS (g.upd i { c with silent := 0, wait := rest }) i { c with silent := 0, wait := rest } h = (g.drop c.num, [⟨2, c.num, a, 0⟩, ⟨4, c.num, [], 0⟩]) := by
  unfold answerS
  rw [show (g.upd i { c with silent := 0, wait := rest }).rules = g.rules from rfl, show (g.upd i { c with silent := 0, wait := rest }).tens = g.tens from rfl, show (g.upd i { c with silent := 0, wait := rest }).minute = g.minute from rfl, hj]
  simp only
  rw [drop_upd g i c { c with silent := 0, wait := rest } hi rfl]
  unfold sendS
  rw [judge_errR hj]
  rfl
theorem answer_go {g : GateS} {i : Nat} {c : ConnS} {rest h x : List UInt8} {p : Nat} (hj : judgeS g.rules g.tens g.minute h = .ok (x, p)) :
    answerS (g.upd i { c with silent := 0, wait := rest }) i { c with silent := 0, wait := rest } h = (g.upd i { c with silent := 0, wait := rest, stage := 1 }, [⟨1, c.num, x, (p : Int)⟩]) := by
  unfold answerS
  rw [show (g.upd i { c with silent := 0, wait := rest }).rules = g.rules from rfl, show (g.upd i { c with silent := 0, wait := rest }).tens = g.tens from rfl, show (g.upd i { c with silent := 0, wait := rest }).minute = g.minute from rfl, hj]
  simp only
  rw [upd_twice]
end Plain
end Go.Proofs.YtdmaffciijmdcaaGreatDoor

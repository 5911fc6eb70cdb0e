/-
  Package turnpike: Compile.
-/
import Derived.Test.YtdmaffciijmdcaaGreatDoorCompSC
import Derived.Deep.RegionLaw
namespace Go.Proofs.YtdmaffciijmdcaaGreatDoor
open Go.RowKit Plain

def strLen : Value → Nat
  | .string s => s.size
  | _ => 0

def CompPost (l : List UInt8) (w : World) (e : Ending) (w' : World) : Prop :=
  Q w w' ∧ ((∃ en ln, compileS l = .error (en, ln) ∧ e = .returned (.tuple #[.pointer none, .int .i64 (en : Nat), .int .i64 (ln : Nat)])) ∨
    ∃ rs pb, compileS l = .ok rs ∧ e = .returned (.tuple #[.pointer (some ⟨pb, 0, none⟩), .int .i64 0, .int .i64 0]) ∧ PolicyRep (New w w') w' pb rs)

theorem ret_tup3 {a b c d : Value} {x y : Int} (h : x = y) (hd : d = .int .i64 y) (hc : c = .int .i64 x) : Ending.returned (.tuple #[a, b, c]) = .returned (.tuple #[a, b, d]) := by rw [hc, hd, h]

theorem heap_two {w : World} {a b : Obj} : (((w.alloc a).alloc b).drew).heap[w.heap.size + 1]? = some b := by
  show ((w.heap.push a).push b)[w.heap.size + 1]? = some b
  rw [Array.getElem?_push, if_pos (by simp)]

set_option maxRecDepth 100000 in
set_option maxHeartbeats 1600000 in
theorem compile_any (s : ByteArray) (w : World) (hs : s.size ≤ maxLen) :
    Calls Tryz.prog 38 #[.string s] w fun e w' => CompPost s.data.toList w e w' := by
  have hmf : ∀ (fn : Fn) (first cap : Array Value) (w : World), (Instr.makeFunc fn first cap).run Tryz.prog w = .ok (.func fn first cap) w := fun _ _ _ _ => rfl
  unfold maxLen at hs
  by_cases h4 : 4000 < s.size
  · have HC : Hid (compileS s.data.toList = .error (1, 0)) := by
      show _ = _
      unfold compileS; rw [if_pos (by rw [size_len]; exact h4)]
    have d4 : decide ((4000 : Int) < (s.size : Int)) = true := decide_eq_true (by omega)
    go_enter Tryz.func38, Tryz.ntmps38
    go_wp2_with fail
    go_ret3
    exact ⟨Q.refl _, .inl ⟨1, 0, HC.out, rfl⟩⟩
  have HC : Hid (compileS s.data.toList = rulesOf 1 (parts 10 s.data.toList)) := by
    show _ = _
    unfold compileS; rw [if_neg (by rw [size_len]; exact h4)]
  have d4 : decide ((4000 : Int) < (s.size : Int)) = false := decide_eq_false (by omega)
  go_enter Tryz.func38, Tryz.ntmps38
  go_wp2_with fail
  go_loopw [0, 6] (fun t n wr => ∃ (rest : ByteArray) (rs : List RuleS) (sv : Value) (vals : List Value), t = .string rest ∧ rest.size ≤ 4000 ∧ n = .int .i64 ((rs.length + 1 : Nat) : Int) ∧ rs.length ≤ 40 ∧ CInv w wr w.heap.size rs sv vals ∧ Hid (compileS s.data.toList = aheadS rs (rulesOf (rs.length + 1) (parts 10 rest.data.toList)))) (fun t _ _ => strLen t)
  case atStart =>
    refine ⟨s, [], .slice none 0 0, [], rfl, by omega, rfl, by simp, ⟨(Q.refl w).alloc _, Nat.le_refl _, by simp [go_sem], by simp [go_sem], ⟨rfl, .inl ⟨rfl, rfl⟩⟩, rfl⟩, ?_⟩
    show _ = _
    rw [HC.out, aheadS_nil]; rfl
  case round =>
    obtain ⟨rest, rs, sv, vals, rfl, hrs, rfl, h40, inv, hsp⟩ := hrel
    have HI := show Hid _ from inv
    clear HC inv
    by_cases he : rest.data.toList = []
    · have hemp : rest.toList.isEmpty = true := by rw [Lib.toList_data, he]; rfl
      go_wp2_with fail
      go_ret3
      refine ⟨HI.out.q, .inr ⟨rs, w.heap.size, ?_, rfl, HI.out.done h40⟩⟩
      rw [hsp.out, he, rulesOf_nil]
      simp [aheadS]
    have hemp : rest.toList.isEmpty = false := by
      rw [Lib.toList_data]
      cases h : rest.data.toList with
      | nil => exact absurd h he
      | cons => rfl
    by_cases hm : 40 < rs.length + 1
    · have dm : decide ((40 : Int) < ((rs.length : Int) + 1)) = true := decide_eq_true (by omega)
      have hr := rulesOf_many hm he
      have HR := show Hid _ from hr
      clear hr
      go_wp2_with fail
      go_ret3
      refine ⟨HI.out.q, .inl ⟨2, rs.length + 1, ?_, rfl⟩⟩
      rw [hsp.out, HR.out]; rfl
    have dm : decide ((40 : Int) < ((rs.length : Int) + 1)) = false := decide_eq_false (by omega)
    cases hc : cutAt 10 rest.data.toList with
    | none =>
      have hr := rulesOf_miss hm he hc
      have HR := show Hid _ from hr
      have HCu := show Hid _ from hc
      clear hr hc
      go_wp2_with (first | (go_at_call 82; refine (cut_miss rest 10 _ HCu.out).mono ?_; rintro e w' ⟨rfl, rfl⟩))
      refine (caughtRule_any rest _ _ (by omega) (by simp [go_sem])).mono ?_
      rintro e w2 ⟨hq, ⟨r, vt, vh, vp, vm, _, rfl, rep⟩ | ⟨_, rfl⟩⟩
      · obtain ⟨g1, k1, rfl⟩ := rep.ten.func
        obtain ⟨g2, k2, rfl⟩ := rep.host.func
        obtain ⟨g3, k3, rfl⟩ := rep.port.func
        obtain ⟨g4, k4, rfl⟩ := rep.minute.func
        clear rep
        unfold ruleV
        go_wp2_with fail
        go_ret3
        refine ⟨(HI.out.q.alloc _).trans (hq.alloc _), .inl ⟨3, rs.length + 1, ?_, rfl⟩⟩
        rw [hsp.out, HR.out]; rfl
      · unfold zeroRule
        go_wp2_with fail
        go_ret3
        refine ⟨(HI.out.q.alloc _).trans (hq.alloc _), .inl ⟨3, rs.length + 1, ?_, rfl⟩⟩
        rw [hsp.out, HR.out]; rfl
    | some x =>
      obtain ⟨a, r⟩ := x
      have hl := cut_le hc
      rw [size_len] at hl
      obtain ⟨hl1, hl2⟩ := hl
      have hl3 : strLen (.string ⟨r.toArray⟩) < strLen (.string rest) := by
        show r.length < rest.size
        rw [← size_len rest, (cutAt_some.1 hc).1]; simp; omega
      have HCu := show Hid _ from hc
      clear hc
      go_wp2_with fail
      refine (cut_hit rest 10 a r _ (by unfold maxLen; omega) HCu.out).mono ?_
      rintro e w1 ⟨rfl, hw1⟩
      rw [hw1]
      unfold str
      go_wp2_with fail
      refine (caughtRule_any ⟨a.toArray⟩ _ _ (by rw [mk_size]; omega) (by simp [go_sem])).mono ?_
      rintro e w2 ⟨hq, ⟨x, vt, vh, vp, vm, hrx, rfl, rep⟩ | ⟨hrx, rfl⟩⟩
      case inr =>
        have HR := show Hid _ from rulesOf_bad hm HCu.out hrx
        clear hrx
        unfold zeroRule
        go_wp2_with fail
        go_ret3
        refine ⟨((HI.out.q.alloc _).drew).trans (hq.alloc _), .inl ⟨3, rs.length + 1, ?_, rfl⟩⟩
        rw [hsp.out, HR.out]; rfl
      case inl =>
        have HR := show Hid _ from rulesOf_good hm HCu.out hrx
        clear hrx
        obtain ⟨g1, k1, e1⟩ := rep.ten.func
        obtain ⟨g2, k2, e2⟩ := rep.host.func
        obtain ⟨g3, k3, e3⟩ := rep.port.func
        obtain ⟨g4, k4, e4⟩ := rep.minute.func
        have HRR := show Hid _ from rep
        clear rep
        subst e1 e2 e3 e4
        unfold ruleV
        go_wp2_with fail
        have inv := HI.out
        have qW : Q wr w2 := ((Q.refl wr).alloc _).drew.trans hq
        have hpl : w.heap.size < wr.heap.size := Q.lt inv.cell
        have hpl2 : w.heap.size < w2.heap.size := Nat.lt_of_lt_of_le hpl qW.size
        have hsv : w2.cell? ⟨w.heap.size, 0, none⟩ = some sv := qW.cell inv.cell
        have hsf : w2.frozen? ⟨w.heap.size, 0, none⟩ = false := by rw [qW.cells.2 _ _ hpl]; exact inv.fz
        have hol := owns_lt inv.own
        have hpo : some w.heap.size ≠ sv.ownBlock := fun e => by have := (hol _ e.symm).1; omega
        have HOwn := show Hid _ from (owns_Q inv.own qW)
        have HRR2 : Hid (RuleRep (New wr w2) w2 x (.func (.func g1) #[] k1) (.func (.func g2) #[] k2) (.func (.func g3) #[] k3) (.func (.func g4) #[] k4)) := HRR.out.keeps fun b hb => ⟨⟨by have := hb.1; simp at this; omega, hb.2⟩, fun _ => rfl⟩
        have HPO := show Hid _ from hpo
        clear inv hol hpo HRR hq hw1
        refine wp_region_held_drew (S := fun w' => w'.cell? ⟨w2.heap.size, 0, none⟩ = some (.bool x.allow) ∧ w'.cell? ⟨w2.heap.size, 1, none⟩ = some (.func (.func g1) #[] k1) ∧ w'.cell? ⟨w2.heap.size, 2, none⟩ = some (.func (.func g2) #[] k2) ∧ w'.cell? ⟨w2.heap.size, 3, none⟩ = some (.func (.func g3) #[] k3) ∧ w'.cell? ⟨w2.heap.size, 4, none⟩ = some (.func (.func g4) #[] k4)) (by kernel_rfl)
          ⟨by simp [go_sem], by simp [go_sem], by simp [go_sem], by simp [go_sem], by simp [go_sem]⟩ (fun hHeld => ?_)
        refine wpAnyH_take (i := 0) (v := ?_) rfl (by kernel_rfl) (by kernel_rfl) (by kernel_rfl) (fun _ _ _ h => h) (Or.inl ⟨by rfl, ?_⟩) (by assumption) ?_
        rotate_left
        · (intro w hSw; (try dsimp only at hSw); go_simp; try with_reducible rfl)
        simp only [Act.put, List.getElem_toArray, List.getElem_cons_zero, List.setIfInBounds_toArray, List.set_cons_zero, List.set_cons_succ]
        refine wpAnyH_take (i := 1) (v := ?_) rfl (by kernel_rfl) (by kernel_rfl) (by kernel_rfl) (fun _ _ _ h => h) (Or.inl ⟨by rfl, ?_⟩) (by assumption) ?_
        rotate_left
        · (intro w hSw; (try dsimp only at hSw); go_simp; try with_reducible rfl)
        simp only [Act.put, List.getElem_toArray, List.getElem_cons_zero, List.getElem_cons_succ, List.setIfInBounds_toArray, List.set_cons_zero, List.set_cons_succ]
        refine wpAnyH_take (i := 2) (v := ?_) rfl (by kernel_rfl) (by kernel_rfl) (by kernel_rfl) (fun _ _ _ h => h) (Or.inl ⟨by rfl, ?_⟩) (by assumption) ?_
        rotate_left
        · (intro w hSw; (try dsimp only at hSw); go_simp; try with_reducible rfl)
        simp only [Act.put, List.getElem_toArray, List.getElem_cons_zero, List.getElem_cons_succ, List.setIfInBounds_toArray, List.set_cons_zero, List.set_cons_succ]
        refine wpAnyH_take (i := 3) (v := ?_) rfl (by kernel_rfl) (by kernel_rfl) (by kernel_rfl) (fun _ _ _ h => h) (Or.inl ⟨by rfl, ?_⟩) (by assumption) ?_
        rotate_left
        · (intro w hSw; (try dsimp only at hSw); go_simp; try with_reducible rfl)
        simp only [Act.put, List.getElem_toArray, List.getElem_cons_zero, List.getElem_cons_succ, List.setIfInBounds_toArray, List.set_cons_zero, List.set_cons_succ]
        refine wpAnyH_take (i := 5) (v := ?_) rfl (by kernel_rfl) (by kernel_rfl) (by kernel_rfl) (fun _ _ _ h => h) (Or.inl ⟨by rfl, ?_⟩) (by assumption) ?_
        rotate_left
        · (intro w hSw; (try dsimp only at hSw); go_simp; try with_reducible rfl)
        simp only [Act.put, List.getElem_toArray, List.getElem_cons_zero, List.getElem_cons_succ, List.setIfInBounds_toArray, List.set_cons_zero, List.set_cons_succ]
        have q3 : Q w2 ((w2.alloc (.cells #[.bool x.allow, .func (.func g1) #[] k1, .func (.func g2) #[] k2, .func (.func g3) #[] k3, .func (.func g4) #[] k4] 148)).alloc (.cells #[.bool x.allow, .func (.func g1) #[] k1, .func (.func g2) #[] k2, .func (.func g3) #[] k3, .func (.func g4) #[] k4] 148)).drew := (((Q.refl _).alloc _).alloc _).drew
        have hblk : (((w2.alloc (.cells #[.bool x.allow, .func (.func g1) #[] k1, .func (.func g2) #[] k2, .func (.func g3) #[] k3, .func (.func g4) #[] k4] 148)).alloc (.cells #[.bool x.allow, .func (.func g1) #[] k1, .func (.func g2) #[] k2, .func (.func g3) #[] k3, .func (.func g4) #[] k4] 148)).drew).heap[w2.heap.size + 1]? = some (.cells #[.bool x.allow, .func (.func g1) #[] k1, .func (.func g2) #[] k2, .func (.func g3) #[] k3, .func (.func g4) #[] k4] 148) := heap_two
        have HO3 := show Hid _ from owns_Q HOwn.out q3
        have HR3 : Hid (RuleRep (New wr ((w2.alloc (.cells #[.bool x.allow, .func (.func g1) #[] k1, .func (.func g2) #[] k2, .func (.func g3) #[] k3, .func (.func g4) #[] k4] 148)).alloc (.cells #[.bool x.allow, .func (.func g1) #[] k1, .func (.func g2) #[] k2, .func (.func g3) #[] k3, .func (.func g4) #[] k4] 148)).drew) ((w2.alloc (.cells #[.bool x.allow, .func (.func g1) #[] k1, .func (.func g2) #[] k2, .func (.func g3) #[] k3, .func (.func g4) #[] k4] 148)).alloc (.cells #[.bool x.allow, .func (.func g1) #[] k1, .func (.func g2) #[] k2, .func (.func g3) #[] k3, .func (.func g4) #[] k4] 148)).drew x (.func (.func g1) #[] k1) (.func (.func g2) #[] k2) (.func (.func g3) #[] k3) (.func (.func g4) #[] k4)) := HRR2.out.keeps (new_up (Q.refl _) q3)
        have HN := show Hid _ from World.news_of_block hblk
        have HQ3 := show Hid _ from qW.trans q3
        have hz3 : (((w2.alloc (.cells #[.bool x.allow, .func (.func g1) #[] k1, .func (.func g2) #[] k2, .func (.func g3) #[] k3, .func (.func g4) #[] k4] 148)).alloc (.cells #[.bool x.allow, .func (.func g1) #[] k1, .func (.func g2) #[] k2, .func (.func g3) #[] k3, .func (.func g4) #[] k4] 148)).drew).heap.size = w2.heap.size + 1 + 1 := by simp
        have HZ3 := show Hid _ from hz3
        have hone : ∀ u ∈ ([.bool x.allow, .func (.func g1) #[] k1, .func (.func g2) #[] k2, .func (.func g3) #[] k3, .func (.func g4) #[] k4] : List Value), u.oneCell' = true := by
          intro u hu
          simp only [List.mem_cons, List.not_mem_nil, or_false] at hu
          rcases hu with rfl | rfl | rfl | rfl | rfl <;> rfl
        have HOne := show Hid _ from hone
        have HB1 : Hid (rs.length + 1 ≤ maxLen) := by show _ ≤ _; unfold maxLen; omega
        have HB2 : Hid ((rs.length + 1) * 40 ≤ 140737488355328) := by show _ ≤ _; omega
        have HB3 : Hid (w.heap.size + 1 ≤ _) := Nat.le_trans (show w.heap.size + 1 ≤ w2.heap.size + 1 + 1 by omega) (Nat.le_of_eq hz3.symm)
        clear hblk q3 hz3 hone
        refine wpAnyH_ready (rs := [4, 6]) (by kernel_rfl) (by simp) ?_
        refine AllReadyH.cons rfl (fun K hK => ?_) (AllReadyH.cons rfl (fun K hK => ?_) AllReadyH.nil)
        · go_simp
          refine hK.out _ _ hHeld (fun hHeld1 => ?_)
          clear hK K hHeld
          refine wpAnyH_ready (rs := [6]) (by kernel_rfl) (by simp) ?_
          refine AllReadyH.cons rfl (fun K hK => ?_) AllReadyH.nil
          go_simp
          refine hK.out _ _ ⟨by simp [go_sem], by simp [go_sem], by simp [go_sem], by simp [go_sem], by simp [go_sem]⟩ (fun hHeld2 => ?_)
          clear hK K hHeld1
          refine wpAnyH_ready (rs := [7]) (by kernel_rfl) (by simp) ?_
          refine AllReadyH.cons rfl (fun K hK => ?_) AllReadyH.nil
          refine step_append_lies _ rfl (.tmp 46) (.tmp 48) 139 rfl (w.heap.size + 1) 148 Tryz.t148 zeroRule 5 40 Tryz.underlying139 (by kernel_rfl) (by kernel_rfl) (by kernel_rfl) (by kernel_rfl) rfl (by decide) sv rs.length vals rfl HO3.out ⟨w2.heap.size + 1, 0, none⟩ 1 1 [.bool x.allow, .func (.func g1) #[] k1, .func (.func g2) #[] k2, .func (.func g3) #[] k3, .func (.func g4) #[] k4] rfl rfl HN.out HOne.out (by decide) HB1.out HB2.out HB3.out _ rfl ?_
          intro g cap w3 hown hgrow hat hlt
          have hz := HZ3.out
          have hob : ∀ o, w3.cell? ⟨w2.heap.size, o, none⟩ = (((w2.alloc (.cells #[.bool x.allow, .func (.func g1) #[] k1, .func (.func g2) #[] k2, .func (.func g3) #[] k3, .func (.func g4) #[] k4] 148)).alloc (.cells #[.bool x.allow, .func (.func g1) #[] k1, .func (.func g2) #[] k2, .func (.func g3) #[] k3, .func (.func g4) #[] k4] 148)).drew).cell? ⟨w2.heap.size, o, none⟩ := fun o => hgrow.cell_far ⟨w2.heap.size, o, none⟩ (by rw [hz]; show w2.heap.size < _; omega) (fun e => absurd (owns_lt HOwn.out w2.heap.size e.symm).2 (Nat.lt_irrefl _))
          have hs3 : w3.cell? ⟨w.heap.size, 0, none⟩ = some sv := by
            rw [hgrow.cell_far ⟨w.heap.size, 0, none⟩ (by rw [hz]; show w.heap.size < _; omega) HPO.out]; simp [go_sem, hsv, hpl2]
          have hf3 : w3.frozen? ⟨w.heap.size, 0, none⟩ = false := by
            rw [hgrow.frozen_far ⟨w.heap.size, 0, none⟩ (by rw [hz]; show w.heap.size < _; omega) HPO.out]; simp [go_sem, hsf, hpl2]
          have hh3 : w3.cell? ⟨w2.heap.size, 0, none⟩ = some (.bool x.allow) ∧ w3.cell? ⟨w2.heap.size, 1, none⟩ = some (.func (.func g1) #[] k1) ∧ w3.cell? ⟨w2.heap.size, 2, none⟩ = some (.func (.func g2) #[] k2) ∧ w3.cell? ⟨w2.heap.size, 3, none⟩ = some (.func (.func g3) #[] k3) ∧ w3.cell? ⟨w2.heap.size, 4, none⟩ = some (.func (.func g4) #[] k4) := by
            rw [hob, hob, hob, hob, hob]
            exact ⟨by simp [go_sem], by simp [go_sem], by simp [go_sem], by simp [go_sem], by simp [go_sem]⟩
          have HM := show Hid _ from CInv.more HI.out HQ3.out HR3.out hown hgrow hat hlt
          refine hK.out _ _ hh3 (fun hHeld3 => ?_)
          clear hK K hown hgrow hat hlt hob hh3
          simp only [Act.put, List.getElem_toArray, List.getElem_cons_zero, List.getElem_cons_succ, List.setIfInBounds_toArray, List.set_cons_zero, List.set_cons_succ]
          refine wpAnyH_take (i := 8) (v := ?_) rfl (by kernel_rfl) (by kernel_rfl) (by kernel_rfl) (fun _ _ _ h => h) (Or.inl ⟨by rfl, ?_⟩) (by assumption) ?_
          rotate_left
          · (intro w hSw; (try dsimp only at hSw); go_simp; try with_reducible rfl)
          simp only [Act.put, List.getElem_toArray, List.getElem_cons_zero, List.getElem_cons_succ, List.setIfInBounds_toArray, List.set_cons_zero, List.set_cons_succ]
          refine wpAnyH_take (i := 9) (v := ?_) rfl (by kernel_rfl) (by kernel_rfl) (by kernel_rfl) (fun _ _ _ h => h) (Or.inl ⟨by rfl, ?_⟩) (by assumption) ?_
          rotate_left
          · (intro w hSw; (try dsimp only at hSw); go_simp; try with_reducible rfl)
          simp only [Act.put, List.getElem_toArray, List.getElem_cons_zero, List.getElem_cons_succ, List.setIfInBounds_toArray, List.set_cons_zero, List.set_cons_succ]
          refine wpAnyH_ready (rs := [10]) (by kernel_rfl) (by simp) ?_
          refine AllReadyH.cons rfl (fun K hK => ?_) AllReadyH.nil
          go_simp
          refine hK.out _ _ ?_ (fun hHeld4 => ?_)
          · obtain ⟨h0, h1, h2, h3, h4⟩ := hHeld3
            have hne : ∀ o, (⟨w.heap.size, 0, none⟩ : Addr) ≠ ⟨w2.heap.size, o, none⟩ := fun o e => by injection e with e1 _; omega
            exact ⟨by rw [set_other (hne _)]; exact h0, by rw [set_other (hne _)]; exact h1, by rw [set_other (hne _)]; exact h2, by rw [set_other (hne _)]; exact h3, by rw [set_other (hne _)]; exact h4⟩
          clear hK K hHeld3 hHeld4
          refine wpAnyH_done (by kernel_rfl) ?_ _
          clear hs3 hf3
          go_wp2_with fail
          refine ⟨⟨⟨r.toArray⟩, rs ++ [x], _, _, rfl, by rw [mk_size]; omega, by rw [List.length_append, List.length_singleton]; go_num, by simp; omega, HM.out, ?_⟩, hl3⟩
          show _ = _
          rw [hsp.out, HR.out, aheadS_aheadS, List.length_append, List.length_singleton]
        · go_simp
          refine hK.out _ _ ⟨by simp [go_sem], by simp [go_sem], by simp [go_sem], by simp [go_sem], by simp [go_sem]⟩ (fun hHeld1 => ?_)
          clear hK K hHeld
          refine wpAnyH_ready (rs := [4]) (by kernel_rfl) (by simp) ?_
          refine AllReadyH.cons rfl (fun K hK => ?_) AllReadyH.nil
          go_simp
          refine hK.out _ _ hHeld1 (fun hHeld2 => ?_)
          clear hK K hHeld1
          refine wpAnyH_ready (rs := [7]) (by kernel_rfl) (by simp) ?_
          refine AllReadyH.cons rfl (fun K hK => ?_) AllReadyH.nil
          refine step_append_lies _ rfl (.tmp 46) (.tmp 48) 139 rfl (w.heap.size + 1) 148 Tryz.t148 zeroRule 5 40 Tryz.underlying139 (by kernel_rfl) (by kernel_rfl) (by kernel_rfl) (by kernel_rfl) rfl (by decide) sv rs.length vals rfl HO3.out ⟨w2.heap.size + 1, 0, none⟩ 1 1 [.bool x.allow, .func (.func g1) #[] k1, .func (.func g2) #[] k2, .func (.func g3) #[] k3, .func (.func g4) #[] k4] rfl rfl HN.out HOne.out (by decide) HB1.out HB2.out HB3.out _ rfl ?_
          intro g cap w3 hown hgrow hat hlt
          have hz := HZ3.out
          have hob : ∀ o, w3.cell? ⟨w2.heap.size, o, none⟩ = (((w2.alloc (.cells #[.bool x.allow, .func (.func g1) #[] k1, .func (.func g2) #[] k2, .func (.func g3) #[] k3, .func (.func g4) #[] k4] 148)).alloc (.cells #[.bool x.allow, .func (.func g1) #[] k1, .func (.func g2) #[] k2, .func (.func g3) #[] k3, .func (.func g4) #[] k4] 148)).drew).cell? ⟨w2.heap.size, o, none⟩ := fun o => hgrow.cell_far ⟨w2.heap.size, o, none⟩ (by rw [hz]; show w2.heap.size < _; omega) (fun e => absurd (owns_lt HOwn.out w2.heap.size e.symm).2 (Nat.lt_irrefl _))
          have hs3 : w3.cell? ⟨w.heap.size, 0, none⟩ = some sv := by
            rw [hgrow.cell_far ⟨w.heap.size, 0, none⟩ (by rw [hz]; show w.heap.size < _; omega) HPO.out]; simp [go_sem, hsv, hpl2]
          have hf3 : w3.frozen? ⟨w.heap.size, 0, none⟩ = false := by
            rw [hgrow.frozen_far ⟨w.heap.size, 0, none⟩ (by rw [hz]; show w.heap.size < _; omega) HPO.out]; simp [go_sem, hsf, hpl2]
          have hh3 : w3.cell? ⟨w2.heap.size, 0, none⟩ = some (.bool x.allow) ∧ w3.cell? ⟨w2.heap.size, 1, none⟩ = some (.func (.func g1) #[] k1) ∧ w3.cell? ⟨w2.heap.size, 2, none⟩ = some (.func (.func g2) #[] k2) ∧ w3.cell? ⟨w2.heap.size, 3, none⟩ = some (.func (.func g3) #[] k3) ∧ w3.cell? ⟨w2.heap.size, 4, none⟩ = some (.func (.func g4) #[] k4) := by
            rw [hob, hob, hob, hob, hob]
            exact ⟨by simp [go_sem], by simp [go_sem], by simp [go_sem], by simp [go_sem], by simp [go_sem]⟩
          have HM := show Hid _ from CInv.more HI.out HQ3.out HR3.out hown hgrow hat hlt
          refine hK.out _ _ hh3 (fun hHeld3 => ?_)
          clear hK K hown hgrow hat hlt hob hh3
          simp only [Act.put, List.getElem_toArray, List.getElem_cons_zero, List.getElem_cons_succ, List.setIfInBounds_toArray, List.set_cons_zero, List.set_cons_succ]
          refine wpAnyH_take (i := 8) (v := ?_) rfl (by kernel_rfl) (by kernel_rfl) (by kernel_rfl) (fun _ _ _ h => h) (Or.inl ⟨by rfl, ?_⟩) (by assumption) ?_
          rotate_left
          · (intro w hSw; (try dsimp only at hSw); go_simp; try with_reducible rfl)
          simp only [Act.put, List.getElem_toArray, List.getElem_cons_zero, List.getElem_cons_succ, List.setIfInBounds_toArray, List.set_cons_zero, List.set_cons_succ]
          refine wpAnyH_take (i := 9) (v := ?_) rfl (by kernel_rfl) (by kernel_rfl) (by kernel_rfl) (fun _ _ _ h => h) (Or.inl ⟨by rfl, ?_⟩) (by assumption) ?_
          rotate_left
          · (intro w hSw; (try dsimp only at hSw); go_simp; try with_reducible rfl)
          simp only [Act.put, List.getElem_toArray, List.getElem_cons_zero, List.getElem_cons_succ, List.setIfInBounds_toArray, List.set_cons_zero, List.set_cons_succ]
          refine wpAnyH_ready (rs := [10]) (by kernel_rfl) (by simp) ?_
          refine AllReadyH.cons rfl (fun K hK => ?_) AllReadyH.nil
          go_simp
          refine hK.out _ _ ?_ (fun hHeld4 => ?_)
          · obtain ⟨h0, h1, h2, h3, h4⟩ := hHeld3
            have hne : ∀ o, (⟨w.heap.size, 0, none⟩ : Addr) ≠ ⟨w2.heap.size, o, none⟩ := fun o e => by injection e with e1 _; omega
            exact ⟨by rw [set_other (hne _)]; exact h0, by rw [set_other (hne _)]; exact h1, by rw [set_other (hne _)]; exact h2, by rw [set_other (hne _)]; exact h3, by rw [set_other (hne _)]; exact h4⟩
          clear hK K hHeld3 hHeld4
          refine wpAnyH_done (by kernel_rfl) ?_ _
          clear hs3 hf3
          go_wp2_with fail
          refine ⟨⟨⟨r.toArray⟩, rs ++ [x], _, _, rfl, by rw [mk_size]; omega, by rw [List.length_append, List.length_singleton]; go_num, by simp; omega, HM.out, ?_⟩, hl3⟩
          show _ = _
          rw [hsp.out, HR.out, aheadS_aheadS, List.length_append, List.length_singleton]
end Go.Proofs.YtdmaffciijmdcaaGreatDoor
/-
  Package turnpike: a question is read, and caught where its reader gives up.
-/
namespace Go.Proofs.YtdmaffciijmdcaaGreatDoor
open Go.RowKit Plain

def zeroQuest : Value := .agg #[.string ⟨#[]⟩, .string ⟨#[]⟩, .int .u8 0, .int .u8 0, .int .u8 0, .int .u8 0, .int .i64 0, .int .i64 0]

theorem catchQ_panicking (p : Addr) (x : Bool) (u : TypeId) (pv : Value) (older : List PanicEntry) (w : World) (hc : w.cell? p = some (.bool x)) (hz : w.frozen? p = false) :
    CallsD Tryz.prog 212 #[.pointer (some p)] (.panicking ({ v := .iface u pv, recovered := false } :: older)) w fun e u' w' =>
      e = .returned (.tuple #[]) ∧ u' = .panicking ({ v := .iface u pv, recovered := true } :: older) ∧ w' = w.setCell p (.bool false) := by
  refine callsD_of_wpS Tryz.func212 rfl fun c₀ cs hu => ?_
  apply wpS_region
  simp [wpOpsS, go_sem, recoverD, hu, Tryz.ntmps212, hc, hz, bodyPostS, results, Tryz.results212]

theorem catchQ_idle (p : Addr) (x : Bool) (w : World) (hc : w.cell? p = some (.bool x)) (hz : w.frozen? p = false) :
    CallsD Tryz.prog 212 #[.pointer (some p)] .returning w fun e u' w' => e = .returned (.tuple #[]) ∧ u' = .returning ∧ w' = w.setCell p (.bool true) := by
  refine callsD_of_wpS Tryz.func212 rfl fun c₀ cs hu => ?_
  apply wpS_region
  simp [wpOpsS, go_sem, recoverD, hu, Tryz.ntmps212, hc, hz, bodyPostS, results, Tryz.results212]
  cases c₀
  simp_all


set_option maxRecDepth 100000 in
set_option maxHeartbeats 800000 in
theorem decide1_any (t h : ByteArray) (p m : Int) (bt bh bp bm : Nat) (w : World) (hs : h.size < 4294967281) (ct : w.cell? ⟨bt, 0, none⟩ = some (.string t)) (ch : w.cell? ⟨bh, 0, none⟩ = some (.string h)) (cp : w.cell? ⟨bp, 0, none⟩ = some (.int .i64 p)) (cm : w.cell? ⟨bm, 0, none⟩ = some (.int .i64 m)) :
    Calls Tryz.prog 179 #[.pointer (some ⟨bt, 0, none⟩), .pointer (some ⟨bh, 0, none⟩), .pointer (some ⟨bp, 0, none⟩), .pointer (some ⟨bm, 0, none⟩)] w fun e w' => AskPost t h p m w e w' := by
  have l1 := Q.lt ct
  have l2 := Q.lt ch
  have l3 := Q.lt cp
  have l4 := Q.lt cm
  go_enter Tryz.func179, Tryz.ntmps179
  go_wp2_with fail
  refine (ask_any t h p m _ hs).mono ?_
  rintro e w1 ⟨hq, ⟨nm, a, b, c, d, hr, rfl⟩ | ⟨hr, ⟨u, v, rfl⟩⟩⟩
  · have HR := show Hid _ from hr
    clear hr
    unfold questV
    obtain ⟨hcl, hfr, hz⟩ := hq.made
    have hQ : Q w w1 := ((Q.refl w).alloc _).trans hq
    go_wp2_with fail
    refine bodyPost_ret (v := questV t nm a b c d p m) (by simp [results, Tryz.results179, go_sem, hcl, questV]) rfl ⟨?_, .inl ⟨_, _, _, _, _, HR.out, rfl⟩⟩
    iterate 8 refine Q.setCell ?_ (Nat.le_refl _) _
    exact hQ
  · exact ⟨rfl, ((Q.refl w).alloc _).trans hq, .inr ⟨hr, ⟨_, _, rfl⟩⟩⟩

def CaughtQ (t h : ByteArray) (p m : Int) (w : World) (e : Ending) (w' : World) : Prop :=
  Q w w' ∧ ((∃ nm a b c d, askS t.data.toList h.data.toList p m = some (nm, [a, b, c, d]) ∧ e = .returned (.tuple #[questV t nm a b c d p m, .bool true])) ∨ (askS t.data.toList h.data.toList p m = none ∧ e = .returned (.tuple #[zeroQuest, .bool false])))

set_option maxRecDepth 100000 in
set_option maxHeartbeats 1600000 in
theorem caughtQ_any (t h : ByteArray) (p m : Int) (bt bh bp bm : Nat) (w : World) (hs : h.size < 4294967281) (ct : w.cell? ⟨bt, 0, none⟩ = some (.string t)) (ch : w.cell? ⟨bh, 0, none⟩ = some (.string h)) (cp : w.cell? ⟨bp, 0, none⟩ = some (.int .i64 p)) (cm : w.cell? ⟨bm, 0, none⟩ = some (.int .i64 m)) :
    Calls Tryz.prog 178 #[.func (.func 179) #[] #[.pointer (some ⟨bt, 0, none⟩), .pointer (some ⟨bh, 0, none⟩), .pointer (some ⟨bp, 0, none⟩), .pointer (some ⟨bm, 0, none⟩)]] w fun e w' => CaughtQ t h p m w e w' := by
  have hmf : ∀ (fn : Fn) (first cap : Array Value) (w : World), (Instr.makeFunc fn first cap).run Tryz.prog w = .ok (.func fn first cap) w := fun _ _ _ _ => rfl
  go_enter_defers Tryz.func178, Tryz.ntmps178
  go_wp2_with fail
  have hq0 : Q w ((w.alloc (.cells #[.string ⟨#[]⟩, .string ⟨#[]⟩, .int .u8 0, .int .u8 0, .int .u8 0, .int .u8 0, .int .i64 0, .int .i64 0] 227)).alloc (.cells #[.bool false] 4)) := ((Q.refl w).alloc _).alloc _
  refine (decide1_any t h p m bt bh bp bm _ hs (hq0.cell ct) (hq0.cell ch) (hq0.cell cp) (hq0.cell cm)).mono ?_
  rintro e w1 ⟨hq, ⟨nm, a, b, c, d, hr, rfl⟩ | ⟨hr, ⟨u, v, rfl⟩⟩⟩
  · have HR := show Hid _ from hr
    clear hr
    unfold questV
    obtain ⟨hcl, hcm, hz⟩ := hq.made2n
    have hf1 : ∀ i, w1.frozen? ⟨w.heap.size, i, none⟩ = false := fun i => by
      rw [hq.cells.2 _ _ (by simp; omega)]; simp [go_sem]
    have hf2 : ∀ i, w1.frozen? ⟨w.heap.size + 1, i, none⟩ = false := fun i => by
      rw [hq.cells.2 _ _ (by simp)]; simp [go_sem]
    have hQ : Q w w1 := hq0.trans hq
    go_wp2_with fail
    obtain ⟨W, hW⟩ : ∃ W, W = (((((((w1.setCell ⟨w.heap.size, 0, none⟩ (.string t)).setCell ⟨w.heap.size, 1, none⟩ (.string ⟨nm.toArray⟩)).setCell ⟨w.heap.size, 2, none⟩ (.int .u8 a)).setCell ⟨w.heap.size, 3, none⟩ (.int .u8 b)).setCell ⟨w.heap.size, 4, none⟩ (.int .u8 c)).setCell ⟨w.heap.size, 5, none⟩ (.int .u8 d)).setCell ⟨w.heap.size, 6, none⟩ (.int .i64 p)).setCell ⟨w.heap.size, 7, none⟩ (.int .i64 m) := ⟨_, rfl⟩
    have hc0 : W.cell? ⟨w.heap.size, 0, none⟩ = some (.string t) := by rw [hW]; simp [go_sem, hcl]
    have hc1 : W.cell? ⟨w.heap.size, 1, none⟩ = some (.string ⟨nm.toArray⟩) := by rw [hW]; simp [go_sem, hcl]
    have hc2 : W.cell? ⟨w.heap.size, 2, none⟩ = some (.int .u8 a) := by rw [hW]; simp [go_sem, hcl]
    have hc3 : W.cell? ⟨w.heap.size, 3, none⟩ = some (.int .u8 b) := by rw [hW]; simp [go_sem, hcl]
    have hc4 : W.cell? ⟨w.heap.size, 4, none⟩ = some (.int .u8 c) := by rw [hW]; simp [go_sem, hcl]
    have hc5 : W.cell? ⟨w.heap.size, 5, none⟩ = some (.int .u8 d) := by rw [hW]; simp [go_sem, hcl]
    have hc6 : W.cell? ⟨w.heap.size, 6, none⟩ = some (.int .i64 p) := by rw [hW]; simp [go_sem, hcl]
    have hc7 : W.cell? ⟨w.heap.size, 7, none⟩ = some (.int .i64 m) := by rw [hW]; simp [go_sem, hcl]
    have hr0 : W.cell? ⟨w.heap.size + 1, 0, none⟩ = some (.bool false) := by rw [hW]; simp [go_sem, hcm]
    have hfz : W.frozen? ⟨w.heap.size + 1, 0, none⟩ = false := by rw [hW]; simp [hf2]
    have hQW : Q w W := by
      rw [hW]
      iterate 8 refine Q.setCell ?_ (Nat.le_refl _) _
      exact hQ
    rw [← hW]
    clear hW hcl hcm hf1 hf2
    have hne : ∀ i, (⟨w.heap.size + 1, 0, none⟩ : Addr) ≠ ⟨w.heap.size, i, none⟩ := fun i e => by injection e with e1 _; omega
    have hx : ((W.setCell ⟨w.heap.size + 1, 0, none⟩ (.bool true)).setCell ⟨w.heap.size + 1, 0, none⟩ (.bool true)).cell? ⟨w.heap.size + 1, 0, none⟩ = some (.bool true) := set_same (set_same hr0)
    have hy : ∀ i, ((W.setCell ⟨w.heap.size + 1, 0, none⟩ (.bool true)).setCell ⟨w.heap.size + 1, 0, none⟩ (.bool true)).cell? ⟨w.heap.size, i, none⟩ = W.cell? ⟨w.heap.size, i, none⟩ := fun i => by
      rw [set_other (hne i), set_other (hne i)]
    refine leaves_cons (f := 212) (args := #[.pointer (some ⟨w.heap.size + 1, 0, none⟩)]) (by simp) (by simp [go_sem]) ?_
    refine (catchQ_idle ⟨w.heap.size + 1, 0, none⟩ true _ (set_same hr0) (by rw [World.frozen?_setCell]; exact hfz)).mono ?_
    rintro e u' w'' ⟨rfl, rfl, rfl⟩
    simp [Leaves, settle, results, Tryz.results178, go_sem, hx, hy, hc0, hc1, hc2, hc3, hc4, hc5, hc6, hc7]
    exact ⟨(hQW.setCell (by simp) _).setCell (by simp) _, .inl ⟨_, _, _, _, _, HR.out, rfl⟩⟩
  · obtain ⟨hcl, hcm, hz⟩ := hq.made2n
    have hf2 : ∀ i, w1.frozen? ⟨w.heap.size + 1, i, none⟩ = false := fun i => by
      rw [hq.cells.2 _ _ (by simp)]; simp [go_sem]
    have hQ : Q w w1 := hq0.trans hq
    go_wp2_with fail
    refine leaves_cons (f := 212) (args := #[.pointer (some ⟨w.heap.size + 1, 0, none⟩)]) (by simp) (by simp [go_sem]) ?_
    refine (catchQ_panicking ⟨w.heap.size + 1, 0, none⟩ false u v [] _ ?_ ?_).mono ?_
    · simp [hcm]
    · simp [hf2]
    rintro e u' w'' ⟨rfl, rfl, rfl⟩
    simp [Leaves, settle, results, Tryz.results178, go_sem, hcl, hcm]
    exact ⟨hQ.setCell (by simp) _, .inr ⟨hr, rfl⟩⟩
end Go.Proofs.YtdmaffciijmdcaaGreatDoor

/-
  Package heads: Read.
-/
import Derived.Test.YtdmaffciijmdcaaGreatDoorDecideToRowE
import Derived.Deep.AppendLies
namespace Go.Proofs.YtdmaffciijmdcaaGreatDoor
open Go.RowKit Plain

/-- While the fields are read. -/
structure HInv (w wr : World) (hb : Nat) (m t : ByteArray) (fs : List (List UInt8 × List UInt8)) (sv : Value) : Prop where
  q : Q w wr
  hhb : w.heap.size ≤ hb
  c0 : wr.cell? ⟨hb, 0, none⟩ = some (.string m)
  c1 : wr.cell? ⟨hb, 1, none⟩ = some (.string t)
  c2 : wr.cell? ⟨hb, 2, none⟩ = some sv
  fz : ∀ o, wr.frozen? ⟨hb, o, none⟩ = false
  own : wr.ownsRow (hb + 1) 222 2 sv fs.length (pairVals fs)

theorem HInv.more {w wr W w' : World} {hb : Nat} {m t : ByteArray} {fs : List (List UInt8 × List UInt8)} {sv : Value} (h : HInv w wr hb m t fs sv) (qW : Q wr W) {f : List UInt8 × List UInt8}
    {g cap : Nat} (hown : w'.ownsRow (hb + 1) 222 2 (.slice (some ⟨g, 0, none⟩) (fs.length + 1) cap) (fs.length + 1) (pairVals fs ++ [str f.1, str f.2]))
    (hg : W.grownBy w' sv.ownBlock) : HInv w (w'.setCell ⟨hb, 2, none⟩ (.slice (some ⟨g, 0, none⟩) (fs.length + 1) cap)) hb m t (fs ++ [f]) (.slice (some ⟨g, 0, none⟩) (fs.length + 1) cap) := by
  have hp := Q.lt h.c0
  have hpW : hb < W.heap.size := Nat.lt_of_lt_of_le hp qW.size
  have hol := owns_lt h.own
  have hpo : some hb ≠ sv.ownBlock := fun e => by have := (hol hb e.symm).1; omega
  have hc : ∀ o, w'.cell? ⟨hb, o, none⟩ = wr.cell? ⟨hb, o, none⟩ := fun o => by
    rw [hg.cell_far ⟨hb, o, none⟩ hpW hpo]; exact qW.cells.1 hb o hp
  have hne : ∀ o, o ≠ 2 → (⟨hb, 2, none⟩ : Addr) ≠ ⟨hb, o, none⟩ := fun o ho e => by injection e with _ e2; exact ho e2.symm
  refine ⟨?_, h.hhb, ?_, ?_, ?_, ?_, ?_⟩
  · have : Below w.heap.size w w' := Below.grown (h.q.trans qW) hg (h.q.trans qW).size (fun k hk => by have := (hol k hk).1; have := h.hhb; omega)
    exact Q.setCell this h.hhb _
  · rw [set_other (hne 0 (by decide)), hc]; exact h.c0
  · rw [set_other (hne 1 (by decide)), hc]; exact h.c1
  · exact set_same (u := sv) (by rw [hc]; exact h.c2)
  · intro o
    rw [World.frozen?_setCell, hg.frozen_far ⟨hb, o, none⟩ hpW hpo, (Q.cells qW).2 _ _ hp]; exact h.fz o
  · rw [List.length_append, List.length_singleton, pairVals_snoc]
    exact ownsRow_setCell_below hown (by show hb < hb + 1; omega) _

theorem HInv.Q {w wr W : World} {hb : Nat} {m t : ByteArray} {fs : List (List UInt8 × List UInt8)} {sv : Value} (h : HInv w wr hb m t fs sv) (q : Q wr W) : HInv w W hb m t fs sv := by
  have hp := Q.lt h.c0
  exact ⟨h.q.trans q, h.hhb, q.cell h.c0, q.cell h.c1, q.cell h.c2, fun o => by rw [q.cells.2 _ _ hp]; exact h.fz o, owns_Q h.own q⟩

def HeadPost (l : List UInt8) (w : World) (e : Ending) (w' : World) : Prop :=
  Q w w' ∧ ((∃ h sv, readHead l = some h ∧ e = .returned (headV h.method h.target sv) ∧ PairsAt (New w w') w' sv h.fields) ∨ (readHead l = none ∧ Dies e))

theorem read_of {l : List UInt8} {x : List UInt8} {xs : List (List UInt8)} (hsuf : Lib.hasSuffix l endB = true) (hl : headLines l = x :: xs) : readHead l = match firstS x with
    | none => none
    | some (m, t) => match fieldsS xs with
      | none => none
      | some fs => some ⟨m, t, fs⟩ := by
  unfold readHead
  rw [if_pos hsuf, hl]
  rfl

theorem splitK_ne (k : Nat) (s : List UInt8) : Lib.splitK [13, 10] 0 k s ≠ [] := by
  cases k with
  | zero => simp [Lib.splitK]
  | succ k => rw [Lib.splitK]; split <;> simp
theorem splitK_le : ∀ (k : Nat) (s : List UInt8), (Lib.splitK [13, 10] 0 k s).length ≤ k + 1
  | 0, s => by simp [Lib.splitK]
  | k + 1, s => by
    rw [Lib.splitK]
    split
    · simp
    · have := splitK_le k (s.drop ((Lib.index s [13, 10]).toNat + [13, 10].length))
      simp at this ⊢
      omega
theorem split_part {p : List UInt8} : ∀ (k : Nat) (s : List UInt8), p ∈ Lib.splitK [13, 10] 0 k s → p.length ≤ s.length
  | 0, s, h => by simp [Lib.splitK] at h; rw [h]; exact Nat.le_refl _
  | k + 1, s, h => by
    rw [Lib.splitK] at h
    split at h
    · simp at h; rw [h]; exact Nat.le_refl _
    · rcases List.mem_cons.1 h with h | h
      · rw [h]; simp; omega
      · have := split_part k _ h
        rw [List.length_drop] at this
        omega

set_option maxRecDepth 100000 in
set_option maxHeartbeats 1600000 in
theorem readHead_any (s : ByteArray) (w : World) (hs : s.size ≤ 1000) (hm : ML w) :
    Calls Tryz.prog 130 #[.string s] w fun e w' => HeadPost s.data.toList w e w' := by
  have HM : Hid (ML w) := hm
  clear hm
  have HC := fun x => show Hid _ from Tryz.strings_CutSuffix s ⟨#[13, 10, 13, 10]⟩ x (by omega)
  cases hsuf : Lib.hasSuffix s.data.toList endB with
  | false =>
    have HSF : Hid (Lib.hasSuffix s.data.toList (⟨#[13, 10, 13, 10]⟩ : ByteArray).data.toList = false) := hsuf
    have HN : Hid (readHead s.data.toList = none) := by
      show _ = _
      unfold readHead; rw [if_neg (by rw [hsuf]; decide)]
    clear hsuf
    go_enter Tryz.func130, Tryz.ntmps130
    go_wp2_with fail
    refine Calls.mono (Hid.out (HC _)) ?_
    rintro e w1 ⟨rfl, rfl⟩
    rw [HSF.out]
    go_wp2_with (first | (go_at_call_of 88 (Value.bool false); refine (must_no _ _).mono ?_; rintro e w' ⟨⟨u, x, rfl⟩, rfl⟩))
    exact ⟨rfl, (Q.refl _).alloc _, .inr ⟨HN.out, ⟨_, _, rfl⟩⟩⟩
  | true =>
    have HSF : Hid (Lib.hasSuffix s.data.toList (⟨#[13, 10, 13, 10]⟩ : ByteArray).data.toList = true) := hsuf
    have hbl : (Lib.trimSuffix s.data.toList endB).length ≤ s.size := by rw [← size_len]; exact Lib.trimSuffix_le _ _
    obtain ⟨B, hB⟩ : ∃ B : ByteArray, B.data.toList = Lib.trimSuffix s.data.toList endB := ⟨⟨(Lib.trimSuffix s.data.toList endB).toArray⟩, rfl⟩
    have HB : Hid ((⟨(Lib.trimSuffix s.data.toList (⟨#[13, 10, 13, 10]⟩ : ByteArray).data.toList).toArray⟩ : ByteArray) = B) := by
      show _ = B
      rw [show (⟨#[13, 10, 13, 10]⟩ : ByteArray).data.toList = endB from rfl, ← hB]
    have hBs : B.size ≤ s.size := by rw [← size_len B, hB]; exact hbl
    have hHL : headLines s.data.toList = Lib.split B.data.toList [13, 10] := by unfold headLines; rw [hB]
    have HSp := fun x hx => show Hid _ from split_crlf B x (by omega) hx
    have hparts : ∀ p ∈ Lib.split B.data.toList [13, 10], p.length ≤ B.size := fun p hp => by
      rw [← size_len]; exact split_part _ _ hp
    have hcnt : (Lib.split B.data.toList [13, 10]).length ≤ 1002 := by
      have h1 := splitK_le (Lib.count B.data.toList [13, 10]) B.data.toList
      have h2 := Lib.count_le B.data.toList [13, 10]
      rw [size_len] at h2
      unfold Lib.split
      omega
    have hne : Lib.split B.data.toList [13, 10] ≠ [] := splitK_ne _ _
    generalize Lib.split B.data.toList [13, 10] = lines at *
    obtain ⟨x, xs, rfl⟩ : ∃ x xs, lines = x :: xs := by
      cases lines with
      | nil => exact absurd rfl hne
      | cons x xs => exact ⟨x, xs, rfl⟩
    have HRd := show Hid _ from read_of hsuf hHL
    obtain ⟨X, rfl⟩ : ∃ M : ByteArray, M.data.toList = x := ⟨⟨x.toArray⟩, rfl⟩
    have hX : X.size ≤ 1000 := by have := hparts X.data.toList (by simp); rw [size_len] at this; omega
    have HXS : Hid (∀ p ∈ xs, p.length ≤ 1000) := fun p hp => by have := hparts p (by simp [hp]); omega
    have hn : xs.length ≤ 1001 := by simp at hcnt; omega
    clear hparts hB hbl hne hHL hsuf hcnt
    go_enter Tryz.func130, Tryz.ntmps130
    go_wp2_with fail
    refine Calls.mono (Hid.out (HC _)) ?_
    rintro e w1 ⟨rfl, rfl⟩
    rw [HSF.out, HB.out]
    go_wp2_with (first | (go_at_call_of 88 (Value.bool true); refine (must_yes _ _).mono ?_; rintro e w' ⟨rfl, rfl⟩))
    refine Calls.mono (Hid.out (HSp _ (HM.out.stays ((Q.refl _).alloc _)))) ?_
    rintro e w2 ⟨cs, rfl, hw2, hcs⟩
    subst hw2
    have g0 : cs[0]? = some (.string X) := hcs 0 (by simp)
    have HCS : Hid (∀ i, i < xs.length → cs[i + 1]? = some (str (nth xs i))) := fun i hi => hcs (i + 1) (by simp; omega)
    clear hcs HSp HC HB HSF
    simp only [List.length_cons]
    have HRF := fun x => show Hid _ from readFirst_any X x (by omega)
    go_wp2_with fail
    refine Calls.mono (Hid.out (HRF _)) ?_
    rintro e w3 ⟨hq3, ⟨m, t, hf, rfl⟩ | ⟨hf, ⟨u, x, rfl⟩⟩⟩
    case inr =>
      exact ⟨rfl, (((Q.refl _).alloc _).alloc _).trans hq3, .inr ⟨by rw [HRd.out, hf], ⟨_, _, rfl⟩⟩⟩
    have HF := show Hid _ from hf
    clear hf HRF
    obtain ⟨M, rfl⟩ : ∃ M : ByteArray, M.data.toList = m := ⟨⟨m.toArray⟩, rfl⟩
    obtain ⟨T, rfl⟩ : ∃ M : ByteArray, M.data.toList = t := ⟨⟨t.toArray⟩, rfl⟩
    unfold headV
    rw [str_data, str_data]
    have hQ3 : Q w w3 := (((Q.refl _).alloc _).alloc _).trans hq3
    have HCE : Hid (∀ i, i < xs.length → w3.cell? ⟨w.heap.size + 1, 1 + i, none⟩ = some (str (nth xs i))) := fun i hi => by
      rw [hq3.cells.1 _ _ (by simp), Nat.add_comm 1 i]
      simp [go_sem, HCS.out i hi]
    clear HCS g0
    have hQA : Q w (w3.alloc (.cells #[.string M, .string T, .slice none 0 0] 189)) := hQ3.alloc _
    have hb1 : w.heap.size + 1 < w3.heap.size := by have := hq3.size; simp at this; omega
    have hrc : ∀ i, w3.cell? ⟨w.heap.size, i, none⟩ = (#[.string ⟨#[]⟩, .string ⟨#[]⟩, .slice none 0 0] : Array Value)[i]? := hq3.made2n.1
    have hrf : ∀ i, w3.frozen? ⟨w.heap.size, i, none⟩ = false := fun i => by
      rw [hq3.cells.2 _ _ (by simp; omega)]; simp [go_sem]
    have hb0 : w.heap.size < w3.heap.size := by omega
    cases xs with
    | nil =>
      have HX0 : Hid (fieldsS [] = some []) := rfl
      simp only [List.length_nil, Nat.zero_add]
      go_wp2_with fail
      refine wp_loop_rounds 1 ?_
      rw [rounds_succ]
      go_wp2_with fail
      refine bodyPost_ret (v := headV M.data.toList T.data.toList (.slice none 0 0)) (by simp [results, Tryz.results130, go_sem, hrc, hb0, headV, str_data]) rfl ⟨?_, .inl ⟨⟨M.data.toList, T.data.toList, []⟩, .slice none 0 0, by rw [HRd.out, HF.out]; rfl, rfl, ?_⟩⟩
      · refine Q.alloc ?_ _
        iterate 3 refine Q.setCell ?_ (Nat.le_refl _) _
        exact hQ3
      · exact ⟨none, 0, rfl, fun i f hi => by simp at hi⟩
    | cons y ys =>
    have HRC := show Hid _ from hrc
    have HRFz := show Hid _ from hrf
    clear hrc hrf
    have d0 : ¬ ((y :: ys).length = 0) := by simp
    generalize hxs : y :: ys = xs at *
    clear hxs y ys
    go_wp2_with fail
    go_loopw [25, 8] (fun i _ wr => ∃ (k : Nat) (fs : List (List UInt8 × List UInt8)) (sv : Value), k ≤ xs.length ∧ i = .int .i64 k ∧ fs.length = k ∧ Hid (HInv w wr w3.heap.size M T fs sv) ∧ Q w3 wr ∧ Hid (fieldsS xs = aheadF fs (fieldsS (xs.drop k)))) (fun i _ _ => xs.length - (intOf i).toNat)
    case atStart =>
      refine ⟨0, [], .slice none 0 0, Nat.zero_le _, rfl, rfl, ⟨hQA, hQ3.size, by simp [go_sem], by simp [go_sem], by simp [go_sem], fun o => by simp [go_sem], ⟨rfl, .inl ⟨rfl, rfl⟩⟩⟩, (Q.refl _).alloc _, ?_⟩
      show _ = _
      rw [aheadF_nil]; rfl
    case round =>
      obtain ⟨k, fs, sv, hk, rfl, hfl, hI, hq, hsp⟩ := hrel
      by_cases hlt : k < xs.length
      · have hget : xs[k]? = some xs[k] := List.getElem?_eq_getElem hlt
        have hck := hq.cell (HCE.out k hlt)
        have hnth : nth xs k = xs[k] := by unfold nth; rw [List.getD_eq_getElem?_getD, hget]; rfl
        rw [hnth] at hck
        have hpl := HXS.out _ (List.getElem_mem hlt)
        obtain ⟨L, hL⟩ : ∃ M : ByteArray, M.data.toList = xs[k] := ⟨⟨xs[k].toArray⟩, rfl⟩
        rw [← hL, str_data] at hck
        rw [← hL, size_len] at hpl
        rw [← hL] at hget
        have HGet := show Hid _ from hget
        clear hnth hget hL
        have HRF := fun x => show Hid _ from readField_any L x (by omega)
        have HI := hI
        have HSp := hsp
        have hc2 := hI.out.c2
        have hlw : w3.heap.size < wr.heap.size := Q.lt hc2
        clear hI hsp HRC HRFz HCE HXS
        go_wp2_with fail
        refine wp_region_held_drew (S := fun _ => True) (by kernel_rfl) trivial (fun hHeld0 => ?_)
        refine wpAnyH_take (i := 0) (v := ?_) rfl (by kernel_rfl) (by kernel_rfl) (by kernel_rfl) (fun _ _ _ h => h) (Or.inl ⟨by rfl, ?_⟩) (by assumption) ?_
        rotate_left
        · (intro w hSw; (try dsimp only at hSw); go_simp; try with_reducible rfl)
        simp only [Act.put, List.getElem_toArray, List.getElem_cons_zero, List.setIfInBounds_toArray, List.set_cons_zero, List.set_cons_succ]
        refine wpAnyH_take (i := 2) (v := ?_) rfl (by kernel_rfl) (by kernel_rfl) (by kernel_rfl) (fun _ _ _ h => h) (Or.inl ⟨by rfl, ?_⟩) (by assumption) ?_
        rotate_left
        · (intro w hSw; (try dsimp only at hSw); go_simp; try with_reducible rfl)
        simp only [Act.put, List.getElem_toArray, List.getElem_cons_zero, List.getElem_cons_succ, List.setIfInBounds_toArray, List.set_cons_zero, List.set_cons_succ]
        refine wpAnyH_ready (rs := [1, 3]) (by kernel_rfl) (by simp) ?_
        refine AllReadyH.cons rfl (fun K hK => ?_) (AllReadyH.cons rfl (fun K hK => ?_) AllReadyH.nil)
        · go_simp
          refine hK.out _ _ trivial (fun _ => ?_)
          clear hK K
          refine wpAnyH_ready (rs := [3]) (by kernel_rfl) (by simp) ?_
          refine AllReadyH.cons rfl (fun K hK => ?_) AllReadyH.nil
          go_simp
          refine Calls.mono (Hid.out (HRF _)) ?_
          rintro e w5 ⟨hq5, ⟨n, v, hf, rfl⟩ | ⟨hf, ⟨u, x, rfl⟩⟩⟩
          case inr =>
            exact ⟨rfl, HI.out.q.trans (((Q.refl _).drew).trans hq5), .inr ⟨by rw [HRd.out, HF.out]; simp only [HSp.out, drop_consL HGet.out, aheadF_bad _ hf], ⟨_, _, rfl⟩⟩⟩
          obtain ⟨N, rfl⟩ : ∃ M : ByteArray, M.data.toList = n := ⟨⟨n.toArray⟩, rfl⟩
          obtain ⟨V, rfl⟩ : ∃ M : ByteArray, M.data.toList = v := ⟨⟨v.toArray⟩, rfl⟩
          have HFd := show Hid _ from hf
          have q5 : Q wr w5 := ((Q.refl _).drew).trans hq5
          have hc5 : w5.cell? ⟨w3.heap.size, 2, none⟩ = some sv := q5.cell hc2
          have hl5 : w3.heap.size < w5.heap.size := Q.lt hc5
          clear hf hq5
          rw [str_data, str_data]
          go_wp2_with fail
          refine hK.out _ _ trivial (fun _ => ?_)
          clear hK K
          refine wpAnyH_ready (rs := [4]) (by kernel_rfl) (by simp) ?_
          refine AllReadyH.cons rfl (fun K hK => ?_) AllReadyH.nil
          go_simp
          refine hK.out _ _ trivial (fun _ => ?_)
          clear hK K
          refine wpAnyH_ready (rs := [5]) (by kernel_rfl) (by simp) ?_
          refine AllReadyH.cons rfl (fun K hK => ?_) AllReadyH.nil
          have q6 : Q wr (w5.alloc (.cells #[.string N, .string V] 222)) := q5.alloc _
          have HO := show Hid _ from owns_Q HI.out.own q6
          have HNw := show Hid _ from World.news_of_block (w := (w5.alloc (.cells #[.string N, .string V] 222))) (B := w5.heap.size) (cs := #[.string N, .string V]) (t := 222) (fr := (0, 0)) (heap_alloc_new w5 _)
          have HZ : Hid (((w5.alloc (.cells #[.string N, .string V] 222))).heap.size = w5.heap.size + 1) := by show _ = _; simp
          have HOne : Hid (∀ u ∈ ([.string N, .string V] : List Value), u.oneCell' = true) := by
            intro u hu
            simp only [List.mem_cons, List.not_mem_nil, or_false] at hu
            rcases hu with rfl | rfl <;> rfl
          refine step_append_lies _ rfl (.tmp 30) (.tmp 33) 187 rfl (w3.heap.size + 1) 222 Tryz.t222 (.agg #[.string ⟨#[]⟩, .string ⟨#[]⟩]) 2 32 Tryz.underlying187 (by kernel_rfl) (by kernel_rfl) (by kernel_rfl) (by kernel_rfl) rfl (by decide) sv fs.length (pairVals fs) rfl HO.out ⟨w5.heap.size, 0, none⟩ 1 1 [.string N, .string V] rfl rfl HNw.out HOne.out (by decide) (by unfold maxLen; omega) (by omega) (by rw [HZ.out]; omega) _ rfl ?_
          intro g cap w7 hown hgrow hat hlt7
          have hm := HInv.more HI.out q6 (f := (N.data.toList, V.data.toList)) hown hgrow
          rw [hfl] at hm
          have HMo := show Hid _ from hm
          have hol := owns_lt HO.out
          have hpo : some w3.heap.size ≠ sv.ownBlock := fun e => by have := (hol _ e.symm).1; omega
          have hc7 : w7.cell? ⟨w3.heap.size, 2, none⟩ = some sv := by
            rw [hgrow.cell_far ⟨w3.heap.size, 2, none⟩ (by rw [HZ.out]; show w3.heap.size < _; omega) hpo]; exact q6.cell hc2
          have hf7 : w7.frozen? ⟨w3.heap.size, 2, none⟩ = false := by
            rw [hgrow.frozen_far ⟨w3.heap.size, 2, none⟩ (by rw [HZ.out]; show w3.heap.size < _; omega) hpo, q6.cells.2 _ _ (Q.lt hc2)]; exact HI.out.fz 2
          have hQ7 : Q w3 (w7.setCell ⟨w3.heap.size, 2, none⟩ (.slice (some ⟨g, 0, none⟩) (fs.length + 1) cap)) :=
            Q.setCell (Below.grown (hq.trans q6) hgrow (hq.trans q6).size (fun k hk => by have := (hol k hk).1; omega)) (Nat.le_refl _) _
          rw [hfl] at hQ7
          refine hK.out _ _ trivial (fun _ => ?_)
          clear hK K hm hown hgrow hat hlt7 hol hpo HO HNw HZ HOne
          simp only [Act.put, List.getElem_toArray, List.getElem_cons_zero, List.getElem_cons_succ, List.setIfInBounds_toArray, List.set_cons_zero, List.set_cons_succ]
          refine wpAnyH_take (i := 6) (v := ?_) rfl (by kernel_rfl) (by kernel_rfl) (by kernel_rfl) (fun _ _ _ h => h) (Or.inl ⟨by rfl, ?_⟩) (by assumption) ?_
          rotate_left
          · (intro w hSw; (try dsimp only at hSw); go_simp; try with_reducible rfl)
          simp only [Act.put, List.getElem_toArray, List.getElem_cons_zero, List.getElem_cons_succ, List.setIfInBounds_toArray, List.set_cons_zero, List.set_cons_succ]
          refine wpAnyH_ready (rs := [7]) (by kernel_rfl) (by simp) ?_
          refine AllReadyH.cons rfl (fun K hK => ?_) AllReadyH.nil
          go_simp
          refine hK.out _ _ trivial (fun _ => ?_)
          clear hK K
          refine wpAnyH_done (by kernel_rfl) ?_ _
          clear hc7 hf7
          go_wp2_with fail
          refine ⟨⟨k + 1, fs ++ [(N.data.toList, V.data.toList)], _, by omega, by go_num, by rw [List.length_append, hfl]; rfl, HMo.out, hQ7, ?_⟩, by simp [intOf]; omega⟩
          show _ = _
          rw [HSp.out, drop_consL HGet.out, aheadF_step _ HFd.out]
        · go_simp
          refine Calls.mono (Hid.out (HRF _)) ?_
          rintro e w5 ⟨hq5, ⟨n, v, hf, rfl⟩ | ⟨hf, ⟨u, x, rfl⟩⟩⟩
          case inr =>
            exact ⟨rfl, HI.out.q.trans (((Q.refl _).drew).trans hq5), .inr ⟨by rw [HRd.out, HF.out]; simp only [HSp.out, drop_consL HGet.out, aheadF_bad _ hf], ⟨_, _, rfl⟩⟩⟩
          obtain ⟨N, rfl⟩ : ∃ M : ByteArray, M.data.toList = n := ⟨⟨n.toArray⟩, rfl⟩
          obtain ⟨V, rfl⟩ : ∃ M : ByteArray, M.data.toList = v := ⟨⟨v.toArray⟩, rfl⟩
          have HFd := show Hid _ from hf
          have q5 : Q wr w5 := ((Q.refl _).drew).trans hq5
          have hc5 : w5.cell? ⟨w3.heap.size, 2, none⟩ = some sv := q5.cell hc2
          have hl5 : w3.heap.size < w5.heap.size := Q.lt hc5
          clear hf hq5
          rw [str_data, str_data]
          go_wp2_with fail
          refine hK.out _ _ trivial (fun _ => ?_)
          clear hK K
          refine wpAnyH_ready (rs := [1, 4]) (by kernel_rfl) (by simp) ?_
          refine AllReadyH.cons rfl (fun K hK => ?_) (AllReadyH.cons rfl (fun K hK => ?_) AllReadyH.nil)
          · go_simp
            refine hK.out _ _ trivial (fun _ => ?_)
            clear hK K
            refine wpAnyH_ready (rs := [4]) (by kernel_rfl) (by simp) ?_
            refine AllReadyH.cons rfl (fun K hK => ?_) AllReadyH.nil
            go_simp
            refine hK.out _ _ trivial (fun _ => ?_)
            clear hK K
            refine wpAnyH_ready (rs := [5]) (by kernel_rfl) (by simp) ?_
            refine AllReadyH.cons rfl (fun K hK => ?_) AllReadyH.nil
            have q6 : Q wr (w5.alloc (.cells #[.string N, .string V] 222)) := q5.alloc _
            have HO := show Hid _ from owns_Q HI.out.own q6
            have HNw := show Hid _ from World.news_of_block (w := (w5.alloc (.cells #[.string N, .string V] 222))) (B := w5.heap.size) (cs := #[.string N, .string V]) (t := 222) (fr := (0, 0)) (heap_alloc_new w5 _)
            have HZ : Hid (((w5.alloc (.cells #[.string N, .string V] 222))).heap.size = w5.heap.size + 1) := by show _ = _; simp
            have HOne : Hid (∀ u ∈ ([.string N, .string V] : List Value), u.oneCell' = true) := by
              intro u hu
              simp only [List.mem_cons, List.not_mem_nil, or_false] at hu
              rcases hu with rfl | rfl <;> rfl
            refine step_append_lies _ rfl (.tmp 30) (.tmp 33) 187 rfl (w3.heap.size + 1) 222 Tryz.t222 (.agg #[.string ⟨#[]⟩, .string ⟨#[]⟩]) 2 32 Tryz.underlying187 (by kernel_rfl) (by kernel_rfl) (by kernel_rfl) (by kernel_rfl) rfl (by decide) sv fs.length (pairVals fs) rfl HO.out ⟨w5.heap.size, 0, none⟩ 1 1 [.string N, .string V] rfl rfl HNw.out HOne.out (by decide) (by unfold maxLen; omega) (by omega) (by rw [HZ.out]; omega) _ rfl ?_
            intro g cap w7 hown hgrow hat hlt7
            have hm := HInv.more HI.out q6 (f := (N.data.toList, V.data.toList)) hown hgrow
            rw [hfl] at hm
            have HMo := show Hid _ from hm
            have hol := owns_lt HO.out
            have hpo : some w3.heap.size ≠ sv.ownBlock := fun e => by have := (hol _ e.symm).1; omega
            have hc7 : w7.cell? ⟨w3.heap.size, 2, none⟩ = some sv := by
              rw [hgrow.cell_far ⟨w3.heap.size, 2, none⟩ (by rw [HZ.out]; show w3.heap.size < _; omega) hpo]; exact q6.cell hc2
            have hf7 : w7.frozen? ⟨w3.heap.size, 2, none⟩ = false := by
              rw [hgrow.frozen_far ⟨w3.heap.size, 2, none⟩ (by rw [HZ.out]; show w3.heap.size < _; omega) hpo, q6.cells.2 _ _ (Q.lt hc2)]; exact HI.out.fz 2
            have hQ7 : Q w3 (w7.setCell ⟨w3.heap.size, 2, none⟩ (.slice (some ⟨g, 0, none⟩) (fs.length + 1) cap)) :=
              Q.setCell (Below.grown (hq.trans q6) hgrow (hq.trans q6).size (fun k hk => by have := (hol k hk).1; omega)) (Nat.le_refl _) _
            rw [hfl] at hQ7
            refine hK.out _ _ trivial (fun _ => ?_)
            clear hK K hm hown hgrow hat hlt7 hol hpo HO HNw HZ HOne
            simp only [Act.put, List.getElem_toArray, List.getElem_cons_zero, List.getElem_cons_succ, List.setIfInBounds_toArray, List.set_cons_zero, List.set_cons_succ]
            refine wpAnyH_take (i := 6) (v := ?_) rfl (by kernel_rfl) (by kernel_rfl) (by kernel_rfl) (fun _ _ _ h => h) (Or.inl ⟨by rfl, ?_⟩) (by assumption) ?_
            rotate_left
            · (intro w hSw; (try dsimp only at hSw); go_simp; try with_reducible rfl)
            simp only [Act.put, List.getElem_toArray, List.getElem_cons_zero, List.getElem_cons_succ, List.setIfInBounds_toArray, List.set_cons_zero, List.set_cons_succ]
            refine wpAnyH_ready (rs := [7]) (by kernel_rfl) (by simp) ?_
            refine AllReadyH.cons rfl (fun K hK => ?_) AllReadyH.nil
            go_simp
            refine hK.out _ _ trivial (fun _ => ?_)
            clear hK K
            refine wpAnyH_done (by kernel_rfl) ?_ _
            clear hc7 hf7
            go_wp2_with fail
            refine ⟨⟨k + 1, fs ++ [(N.data.toList, V.data.toList)], _, by omega, by go_num, by rw [List.length_append, hfl]; rfl, HMo.out, hQ7, ?_⟩, by simp [intOf]; omega⟩
            show _ = _
            rw [HSp.out, drop_consL HGet.out, aheadF_step _ HFd.out]
          · go_simp
            refine hK.out _ _ trivial (fun _ => ?_)
            clear hK K
            refine wpAnyH_ready (rs := [1]) (by kernel_rfl) (by simp) ?_
            refine AllReadyH.cons rfl (fun K hK => ?_) AllReadyH.nil
            go_simp
            refine hK.out _ _ trivial (fun _ => ?_)
            clear hK K
            refine wpAnyH_ready (rs := [5]) (by kernel_rfl) (by simp) ?_
            refine AllReadyH.cons rfl (fun K hK => ?_) AllReadyH.nil
            have q6 : Q wr (w5.alloc (.cells #[.string N, .string V] 222)) := q5.alloc _
            have HO := show Hid _ from owns_Q HI.out.own q6
            have HNw := show Hid _ from World.news_of_block (w := (w5.alloc (.cells #[.string N, .string V] 222))) (B := w5.heap.size) (cs := #[.string N, .string V]) (t := 222) (fr := (0, 0)) (heap_alloc_new w5 _)
            have HZ : Hid (((w5.alloc (.cells #[.string N, .string V] 222))).heap.size = w5.heap.size + 1) := by show _ = _; simp
            have HOne : Hid (∀ u ∈ ([.string N, .string V] : List Value), u.oneCell' = true) := by
              intro u hu
              simp only [List.mem_cons, List.not_mem_nil, or_false] at hu
              rcases hu with rfl | rfl <;> rfl
            refine step_append_lies _ rfl (.tmp 30) (.tmp 33) 187 rfl (w3.heap.size + 1) 222 Tryz.t222 (.agg #[.string ⟨#[]⟩, .string ⟨#[]⟩]) 2 32 Tryz.underlying187 (by kernel_rfl) (by kernel_rfl) (by kernel_rfl) (by kernel_rfl) rfl (by decide) sv fs.length (pairVals fs) rfl HO.out ⟨w5.heap.size, 0, none⟩ 1 1 [.string N, .string V] rfl rfl HNw.out HOne.out (by decide) (by unfold maxLen; omega) (by omega) (by rw [HZ.out]; omega) _ rfl ?_
            intro g cap w7 hown hgrow hat hlt7
            have hm := HInv.more HI.out q6 (f := (N.data.toList, V.data.toList)) hown hgrow
            rw [hfl] at hm
            have HMo := show Hid _ from hm
            have hol := owns_lt HO.out
            have hpo : some w3.heap.size ≠ sv.ownBlock := fun e => by have := (hol _ e.symm).1; omega
            have hc7 : w7.cell? ⟨w3.heap.size, 2, none⟩ = some sv := by
              rw [hgrow.cell_far ⟨w3.heap.size, 2, none⟩ (by rw [HZ.out]; show w3.heap.size < _; omega) hpo]; exact q6.cell hc2
            have hf7 : w7.frozen? ⟨w3.heap.size, 2, none⟩ = false := by
              rw [hgrow.frozen_far ⟨w3.heap.size, 2, none⟩ (by rw [HZ.out]; show w3.heap.size < _; omega) hpo, q6.cells.2 _ _ (Q.lt hc2)]; exact HI.out.fz 2
            have hQ7 : Q w3 (w7.setCell ⟨w3.heap.size, 2, none⟩ (.slice (some ⟨g, 0, none⟩) (fs.length + 1) cap)) :=
              Q.setCell (Below.grown (hq.trans q6) hgrow (hq.trans q6).size (fun k hk => by have := (hol k hk).1; omega)) (Nat.le_refl _) _
            rw [hfl] at hQ7
            refine hK.out _ _ trivial (fun _ => ?_)
            clear hK K hm hown hgrow hat hlt7 hol hpo HO HNw HZ HOne
            simp only [Act.put, List.getElem_toArray, List.getElem_cons_zero, List.getElem_cons_succ, List.setIfInBounds_toArray, List.set_cons_zero, List.set_cons_succ]
            refine wpAnyH_take (i := 6) (v := ?_) rfl (by kernel_rfl) (by kernel_rfl) (by kernel_rfl) (fun _ _ _ h => h) (Or.inl ⟨by rfl, ?_⟩) (by assumption) ?_
            rotate_left
            · (intro w hSw; (try dsimp only at hSw); go_simp; try with_reducible rfl)
            simp only [Act.put, List.getElem_toArray, List.getElem_cons_zero, List.getElem_cons_succ, List.setIfInBounds_toArray, List.set_cons_zero, List.set_cons_succ]
            refine wpAnyH_ready (rs := [7]) (by kernel_rfl) (by simp) ?_
            refine AllReadyH.cons rfl (fun K hK => ?_) AllReadyH.nil
            go_simp
            refine hK.out _ _ trivial (fun _ => ?_)
            clear hK K
            refine wpAnyH_done (by kernel_rfl) ?_ _
            clear hc7 hf7
            go_wp2_with fail
            refine ⟨⟨k + 1, fs ++ [(N.data.toList, V.data.toList)], _, by omega, by go_num, by rw [List.length_append, hfl]; rfl, HMo.out, hQ7, ?_⟩, by simp [intOf]; omega⟩
            show _ = _
            rw [HSp.out, drop_consL HGet.out, aheadF_step _ HFd.out]
      · have hcl : ∀ i, wr.cell? ⟨w.heap.size, i, none⟩ = (#[.string ⟨#[]⟩, .string ⟨#[]⟩, .slice none 0 0] : Array Value)[i]? := fun i => by
          rw [hq.cells.1 _ _ hb0]; exact HRC.out i
        have hfr : ∀ i, wr.frozen? ⟨w.heap.size, i, none⟩ = false := fun i => by
          rw [hq.cells.2 _ _ hb0]; exact HRFz.out i
        have hc0 := hI.out.c0
        have hc1 := hI.out.c1
        have hc2 := hI.out.c2
        have hPA := PairsAt.own hI.out.own
        have HPA := show Hid _ from hPA
        have hol := owns_lt hI.out.own
        have HOL := show Hid _ from hol
        have HE : Hid (fieldsS xs = some fs) := by
          show _ = _
          rw [hsp.out, List.drop_eq_nil_of_le (by omega)]
          simp [fieldsS, aheadF]
        have hQr := hI.out.q
        have hform : ∃ o n c, sv = .slice o n c := by
          obtain ⟨o, c, h, _⟩ := hPA
          exact ⟨_, _, _, h⟩
        obtain ⟨so, sn, sc, rfl⟩ := hform
        clear hPA hol hI hsp HRC HRFz HCE HXS
        go_wp2_with fail
        refine bodyPost_ret (v := headV M.data.toList T.data.toList (.slice so sn sc)) (by simp [results, Tryz.results130, go_sem, hcl, headV, str_data]) rfl ⟨?_, .inl ⟨⟨M.data.toList, T.data.toList, fs⟩, .slice so sn sc, by rw [HRd.out, HF.out]; simp only [HE.out], rfl, ?_⟩⟩
        · iterate 3 refine Q.setCell ?_ (Nat.le_refl _) _
          exact hQr
        · refine PairsAt.keeps (S := fun g => (Value.slice so sn sc).ownBlock = some g) HPA.out fun b hb => ?_
          have h1 := HOL.out b hb
          have hne : ∀ o i, (⟨w.heap.size, o, none⟩ : Addr) ≠ ⟨b, i, none⟩ := fun o i e => by injection e with e1 _; omega
          refine ⟨⟨by omega, by simp; omega⟩, fun o => ?_⟩
          rw [set_other (hne _ _), set_other (hne _ _), set_other (hne _ _)]
end Go.Proofs.YtdmaffciijmdcaaGreatDoor

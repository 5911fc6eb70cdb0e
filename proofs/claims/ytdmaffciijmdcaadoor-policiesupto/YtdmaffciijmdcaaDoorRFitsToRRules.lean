/-
  The document's answer: does a rule fit?
-/
import Derived.Test.YtdmaffciijmdcaaDoorRFieldsToRWhere
namespace Go.Proofs.YtdmaffciijmdcaaDoor
namespace Plain
theorem fitsR_not {f0 f1 f2 f3 f4 t h : List UInt8} {p m : Int} (h1 : (f0 == [97, 108, 108, 111, 119]) = false) (h2 : (f0 == [100, 101, 110, 121]) = false) : fitsR [f0, f1, f2, f3, f4] t h p m = (false, false) := by
  unfold fitsR
  dsimp only
  rw [if_pos ⟨beq_eq_false_iff_ne.1 h1, beq_eq_false_iff_ne.1 h2⟩]
theorem fitsR_yes {f0 f1 f2 f3 f4 t h : List UInt8} {p m : Int} (h0 : (f0 == [97, 108, 108, 111, 119]) = true ∨ (f0 == [100, 101, 110, 121]) = true) : fitsR [f0, f1, f2, f3, f4] t h p m =
    ((f1 == [42] || f1 == t) && (whereR f2 h).1 && (portR f3 p).1 && (minuteR f4 m).1, (tenantOk f1 || f1 == [42]) && (whereR f2 h).2 && (portR f3 p).2 && (minuteR f4 m).2) := by
  unfold fitsR
  dsimp only
  rw [if_neg]
  intro ⟨ha, hb⟩
  rcases h0 with h0 | h0
  · exact ha (beq_iff_eq.1 h0)
  · exact hb (beq_iff_eq.1 h0)
end Plain
open Go.RowKit Plain

set_option maxRecDepth 100000 in
set_option maxHeartbeats 3200000 in
theorem rfits_any (v : Value) (l : List (List UInt8)) (t h : List UInt8) (p m : Int) (w : World) (hv : StrsAt w v l) (hl : ∀ s ∈ l, s.length ≤ 2097152) (hn : l.length ≤ 4194304) (hh : h.length ≤ 2097152) :
    Calls Tryd.prog 22 #[v, .string ⟨t.toArray⟩, .string ⟨h.toArray⟩, .int .i64 p, .int .i64 m] w fun e w' => e = .returned (.tuple #[.bool (fitsR l t h p m).1, .bool (fitsR l t h p m).2]) ∧ Q w w' := by
  obtain ⟨g, cap, rfl, hcell⟩ := hv
  go_enter Tryd.func22, Tryd.ntmps22
  by_cases h5 : l.length = 5
  case neg =>
    have d5 : ((l.length : Int) != 5) = true := by rw [bne_iff_ne]; omega
    have HS : Hid (fitsR l t h p m = (false, false)) := fitsR_len h5
    clear hcell hl
    go_wp2_with fail
    go_ret2
    exact ⟨by rw [HS.out]; rfl, Q.refl _⟩
  obtain ⟨f0, f1, f2, f3, f4, rfl⟩ := five h5
  have c0 := hcell 0 f0 rfl
  have c1 := hcell 1 f1 rfl
  have c2 := hcell 2 f2 rfl
  have c3 := hcell 3 f3 rfl
  have c4 := hcell 4 f4 rfl
  have HT := fun w => show Hid _ from rtenant_any f1 w (by have := hl f1 (by simp); omega)
  have HW := fun w => show Hid _ from rwhere_any f2 h w (hl f2 (by simp)) hh
  have HP := fun w => show Hid _ from rport_any f3 p w (hl f3 (by simp))
  have HM := fun w => show Hid _ from rminute_any f4 m w (hl f4 (by simp))
  have HF1 : Hid ((f0 == [97, 108, 108, 111, 119]) = false → (f0 == [100, 101, 110, 121]) = false → fitsR [f0, f1, f2, f3, f4] t h p m = (false, false)) := fitsR_not
  have HF2 : Hid (((f0 == [97, 108, 108, 111, 119]) = true ∨ (f0 == [100, 101, 110, 121]) = true) → fitsR [f0, f1, f2, f3, f4] t h p m =
    ((f1 == [42] || f1 == t) && (whereR f2 h).1 && (portR f3 p).1 && (minuteR f4 m).1, (tenantOk f1 || f1 == [42]) && (whereR f2 h).2 && (portR f3 p).2 && (minuteR f4 m).2)) := fitsR_yes
  clear hcell hl hn h5
  rw [show ([f0, f1, f2, f3, f4] : List (List UInt8)).length = 5 from rfl]
  generalize fitsR [f0, f1, f2, f3, f4] t h p m = res at *
  go_upto_region 1 with fail
  go_cut [34] (fun b wx => b = .bool (!((f0 == [97, 108, 108, 111, 119]) || (f0 == [100, 101, 110, 121]))) ∧ wx = w)
  case first =>
    cases h1 : (f0 == [97, 108, 108, 111, 119]) with
    | true =>
      go_wp2_with fail
      go_meet
      exact ⟨by rw [h1]; rfl, rfl⟩
    | false =>
      go_wp2_with fail
      go_meet
      exact ⟨by rw [h1]; rfl, rfl⟩
  case rest =>
    obtain ⟨rfl, rfl⟩ := hcut
    cases h0 : ((f0 == [97, 108, 108, 111, 119]) || (f0 == [100, 101, 110, 121])) with
    | false =>
      have HS := show Hid _ from HF1.out (Bool.or_eq_false_iff.1 h0).1 (Bool.or_eq_false_iff.1 h0).2
      clear h0 HF1 HF2
      go_wp2_with fail
      go_ret2
      exact ⟨by rw [HS.out]; rfl, Q.refl _⟩
    | true =>
      have HS := show Hid _ from HF2.out ((Bool.or_eq_true _ _).mp h0)
      clear h0 HF1 HF2 c0
      go_wp2_with fail
      refine Calls.mono (Hid.out (HT _)) ?_
      rintro e w2 ⟨rfl, rfl⟩
      go_wp2_with fail
      refine Calls.mono (Hid.out (HW _)) ?_
      rintro e w3 ⟨rfl, hq3⟩
      have c1' := hq3.cell c1
      have c3' := hq3.cell c3
      have c4' := hq3.cell c4
      clear c1 c2 c3 c4
      go_wp2_with fail
      refine Calls.mono (Hid.out (HP _)) ?_
      rintro e w4 ⟨rfl, hq4⟩
      have c1 := hq4.cell c1'
      have c4 := hq4.cell c4'
      clear c1' c3' c4'
      go_wp2_with fail
      refine Calls.mono (Hid.out (HM _)) ?_
      rintro e w5 ⟨rfl, hq5⟩
      have c1' := hq5.cell c1
      have hq := hq3.trans (hq4.trans hq5)
      clear c1 c4 hq3 hq4 hq5
      generalize (whereR f2 h).1 = a1 at *
      generalize (whereR f2 h).2 = a2 at *
      generalize (portR f3 p).1 = b1 at *
      generalize (portR f3 p).2 = b2 at *
      generalize (minuteR f4 m).1 = e1 at *
      generalize (minuteR f4 m).2 = e2 at *
      generalize tenantOk f1 = tn at *
      generalize hx : (f1 == [42]) = x at *
      generalize hy : (f1 == t) = y at *
      go_upto_region 7 with fail
      go_cut [19] (fun b wx => b = .bool ((x || y) && a1 && b1 && e1) ∧ wx = w5)
      case first =>
        cases x <;> cases y <;> cases a1 <;> cases b1 <;> cases e1 <;> (go_wp2_with fail; go_meet; exact ⟨rfl, rfl⟩)
      case rest =>
        obtain ⟨rfl, rfl⟩ := hcut
        generalize ((x || y) && a1 && b1 && e1) = z at *
        cases tn <;> cases x <;> cases a2 <;> cases b2 <;> cases e2 <;> (go_wp2_with fail; go_ret2; exact ⟨by rw [HS.out]; rfl, hq⟩)
end Go.Proofs.YtdmaffciijmdcaaDoor
/-
  The document's answer: the rules of a text.
-/
namespace Go.Proofs.YtdmaffciijmdcaaDoor
namespace Plain
theorem rows_last_empty {n : Nat} {lines : List (List UInt8)} {k : Nat} (hk : k + 1 = lines.length) (h : lines[k]? = some []) : rowsOf n (lines.drop k) = .ok [] := by
  obtain ⟨hlt, he⟩ := List.getElem?_eq_some_iff.1 h
  rw [← List.getElem_cons_drop hlt, List.drop_of_length_le (by omega), he]; rfl
theorem rows_done {n : Nat} {lines : List (List UInt8)} {k : Nat} (hk : lines.length ≤ k) : rowsOf n (lines.drop k) = .ok [] := by rw [List.drop_of_length_le hk]; rfl
theorem rows_many {n : Nat} {lines : List (List UInt8)} {k : Nat} {l : List UInt8} (h : lines[k]? = some l) (hn : 40 < n) (hl : ¬ (k + 1 = lines.length ∧ l = [])) : rowsOf n (lines.drop k) = .error (2, n) := by
  obtain ⟨hlt, rfl⟩ := List.getElem?_eq_some_iff.1 h
  rw [← List.getElem_cons_drop hlt]
  cases hd : lines.drop (k + 1) with
  | nil =>
    have : k + 1 = lines.length := by have := List.drop_eq_nil_iff.1 hd; omega
    rw [rowsOf, if_neg (fun e => hl ⟨this, e⟩), if_pos hn]
  | cons m ls => rw [rowsOf, if_pos hn]
theorem rows_bad {n : Nat} {lines : List (List UInt8)} {k : Nat} {l : List UInt8} (h : lines[k]? = some l) (hn : ¬ 40 < n) (hl : ¬ (k + 1 = lines.length ∧ l = [])) (hb : (readRule l).isSome = false ∨ k + 1 = lines.length) : rowsOf n (lines.drop k) = .error (3, n) := by
  obtain ⟨hlt, rfl⟩ := List.getElem?_eq_some_iff.1 h
  rw [← List.getElem_cons_drop hlt]
  cases hd : lines.drop (k + 1) with
  | nil =>
    have : k + 1 = lines.length := by have := List.drop_eq_nil_iff.1 hd; omega
    rw [rowsOf, if_neg (fun e => hl ⟨this, e⟩), if_neg hn]
  | cons m ls =>
    have hne : ¬ k + 1 = lines.length := by
      intro e
      have := List.drop_eq_nil_iff.2 (show lines.length ≤ k + 1 by omega)
      rw [hd] at this; cases this
    rw [rowsOf, if_neg hn, if_neg]
    rcases hb with hb | hb
    · rw [hb]; decide
    · exact absurd hb hne
theorem rows_next {n : Nat} {lines : List (List UInt8)} {k : Nat} {l : List UInt8} (h : lines[k]? = some l) (hn : ¬ 40 < n) (hk : ¬ k + 1 = lines.length) (hr : (readRule l).isSome = true) : rowsOf n (lines.drop k) = aheadR [parts 32 l] (rowsOf (n + 1) (lines.drop (k + 1))) := by
  obtain ⟨hlt, rfl⟩ := List.getElem?_eq_some_iff.1 h
  rw [← List.getElem_cons_drop hlt]
  cases hd : lines.drop (k + 1) with
  | nil => exact absurd (by have := List.drop_eq_nil_iff.1 hd; omega) hk
  | cons m ls => exact rows_step hn hr
end Plain
open Go.RowKit Plain

/-- A list of strings in memory, its block among S. -/
def StrsIn (S : Nat → Prop) (w : World) (v : Value) (l : List (List UInt8)) : Prop :=
  ∃ g cap, v = .slice (some ⟨g, 0, none⟩) l.length cap ∧ S g ∧ ∀ i s, l[i]? = some s → w.cell? ⟨g, i, none⟩ = some (.string ⟨s.toArray⟩)
theorem StrsIn.at {S : Nat → Prop} {w : World} {v : Value} {l : List (List UInt8)} (h : StrsIn S w v l) : StrsAt w v l := by
  obtain ⟨g, cap, h1, _, h2⟩ := h
  exact ⟨g, cap, h1, h2⟩
theorem StrsIn.keeps {S S' : Nat → Prop} {w w' : World} {v : Value} {l : List (List UInt8)} (h : StrsIn S w v l) (k : Keeps S S' w w') : StrsIn S' w' v l := by
  obtain ⟨g, cap, h1, hs, h2⟩ := h
  exact ⟨g, cap, h1, (k g hs).1, fun i s hi => by rw [(k g hs).2]; exact h2 i s hi⟩
/-- Rows of strings in memory, all their blocks among S. -/
def RowsAt (S : Nat → Prop) (w : World) (v : Value) (rows : List (List (List UInt8))) : Prop :=
  (rows = [] ∧ v = .slice none 0 0) ∨
  ∃ g cap, v = .slice (some ⟨g, 0, none⟩) rows.length cap ∧ S g ∧ ∀ i row, rows[i]? = some row → ∃ u, w.cell? ⟨g, i, none⟩ = some u ∧ StrsIn S w u row
theorem RowsAt.keeps {S S' : Nat → Prop} {w w' : World} {v : Value} {rows : List (List (List UInt8))} (h : RowsAt S w v rows) (k : Keeps S S' w w') : RowsAt S' w' v rows := by
  rcases h with h | ⟨g, cap, h1, hs, h2⟩
  · exact .inl h
  · refine .inr ⟨g, cap, h1, (k g hs).1, fun i row hi => ?_⟩
    obtain ⟨u, hu, hr⟩ := h2 i row hi
    exact ⟨u, by rw [(k g hs).2]; exact hu, hr.keeps k⟩

/-- While the rows are gathered. -/
structure RInv (w wr : World) (sv : Value) (rows : List (List (List UInt8))) (vals : List Value) : Prop where
  q : Q w wr
  own : wr.ownsRow w.heap.size 22 1 sv vals.length vals
  len : vals.length = rows.length
  reps : ∀ (i : Nat) (row : List (List UInt8)), rows[i]? = some row → ∃ u, vals[i]? = some u ∧ StrsIn (fun b => New w wr b ∧ some b ≠ sv.ownBlock) wr u row
theorem RInv.start (w : World) : RInv w w (.slice none 0 0) [] [] := ⟨Q.refl _, ⟨rfl, .inl ⟨rfl, rfl⟩⟩, rfl, fun i row h => by simp at h⟩
theorem RInv.rows {w wr : World} {sv : Value} {rows : List (List (List UInt8))} {vals : List Value} (h : RInv w wr sv rows vals) : RowsAt (New w wr) wr sv rows := by
  rcases h.own.2 with ⟨hv, hn⟩ | ⟨g, cap, cur, hv, hb, hg, _⟩
  · refine .inl ⟨?_, hv⟩
    have := h.len
    exact List.eq_nil_of_length_eq_zero (by omega)
  · refine .inr ⟨g, cap, by rw [hv, h.len], ⟨hb, (Array.getElem?_eq_some_iff.1 hg).1⟩, fun i row hi => ?_⟩
    obtain ⟨u, hu, hr⟩ := h.reps i row hi
    refine ⟨u, owned_cell (by rw [← hv]; exact h.own) i u hu, hr.keeps fun b hb => ⟨hb.1, fun _ => rfl⟩⟩
theorem RInv.more {w wr W w' : World} {sv u : Value} {rows : List (List (List UInt8))} {vals : List Value} {row : List (List UInt8)} {e : TypeId} (h : RInv w wr sv rows vals) (qW : Q wr W) (hu : StrsAt W u row) (hnew : ∀ k, u.ownBlock = some k → New wr W k)
    {g cap : Nat} (hown : w'.ownsRow w.heap.size 22 1 (.slice (some ⟨g, 0, none⟩) (vals.length + 1) cap) (vals.length + 1) (vals ++ [u]))
    (hbel : Below w.heap.size W w') (hg : (W.alloc (.cells #[u] e)).grownBy w' sv.ownBlock) (hat : sv.ownBlock = some g ∨ g = W.heap.size + 1) : RInv w w' (.slice (some ⟨g, 0, none⟩) (vals.length + 1) cap) (rows ++ [row]) (vals ++ [u]) := by
  have hol := owns_lt h.own
  have hq : Q w w' := Below.trans (h.q.trans qW) hbel
  have hsz : W.heap.size + 1 ≤ w'.heap.size := by have := hg.size; simpa using this
  have K : ∀ b, b < W.heap.size → some b ≠ sv.ownBlock → (some b ≠ (Value.slice (some ⟨g, 0, none⟩) (vals.length + 1) cap).ownBlock) ∧ ∀ o, w'.cell? ⟨b, o, none⟩ = W.cell? ⟨b, o, none⟩ := by
    intro b hb hne
    refine ⟨?_, fun o => ?_⟩
    · intro e'
      have e2 : b = g := by simpa [Value.ownBlock] using e'
      rcases hat with h1 | h1
      · exact hne (by rw [e2]; exact h1.symm)
      · omega
    · rw [hg.cell_far ⟨b, o, none⟩ (by show b < _; simp; omega) hne]
      exact World.cell?_of_block (w := W) (Below.heap_alloc _ _ _ hb)
  refine ⟨hq, ?_, by simp [h.len], ?_⟩
  · rw [List.length_append]; exact hown
  · intro i r hi
    by_cases hlt : i < rows.length
    · rw [List.getElem?_append_left hlt] at hi
      obtain ⟨u', hu', hr'⟩ := h.reps i r hi
      refine ⟨u', by rw [List.getElem?_append_left (by rw [h.len]; exact hlt)]; exact hu', hr'.keeps fun b hb => ?_⟩
      have hbW : b < W.heap.size := Nat.lt_of_lt_of_le hb.1.2 qW.size
      have hk := K b hbW hb.2
      exact ⟨⟨⟨hb.1.1, by omega⟩, hk.1⟩, fun o => by rw [hk.2 o]; exact qW.cells.1 b o hb.1.2⟩
    · have hi' := (List.getElem?_eq_some_iff.1 hi).1
      rw [List.length_append, List.length_singleton] at hi'
      have hie : i = rows.length := by omega
      subst hie
      rw [List.getElem?_append_right (Nat.le_refl _), Nat.sub_self] at hi
      cases hi
      refine ⟨u, by rw [← h.len, List.getElem?_append_right (Nat.le_refl _), Nat.sub_self]; rfl, ?_⟩
      obtain ⟨gu, cu, hv, hc⟩ := hu
      have hn := hnew gu (by rw [hv]; rfl)
      have hne : some gu ≠ sv.ownBlock := fun e' => by have := (hol gu e'.symm).2; have := hn.1; omega
      have hk := K gu hn.2 hne
      refine ⟨gu, cu, hv, ⟨⟨?_, ?_⟩, hk.1⟩, fun j s hj => by rw [hk.2 j]; exact hc j s hj⟩
      · have := h.q.size; have := hn.1; omega
      · have := hn.2; omega

def RulesPost (T : List UInt8) (w : World) (e : Ending) (w' : World) : Prop :=
  Q w w' ∧ ((∃ en ln, rulesR T = .error (en, ln) ∧ e = .returned (.tuple #[.slice none 0 0, .int .i64 (en : Nat), .int .i64 (ln : Nat)])) ∨
    ∃ rows v, rulesR T = .ok rows ∧ e = .returned (.tuple #[v, .int .i64 0, .int .i64 0]) ∧ RowsAt (New w w') w' v rows)

set_option maxRecDepth 100000 in
set_option maxHeartbeats 3200000 in
theorem rrules_any (T : List UInt8) (w : World) (hT : T.length ≤ 2097152) :
    Calls Tryd.prog 8 #[.string ⟨T.toArray⟩] w fun e w' => RulesPost T w e w' := by
  have hsz : (⟨T.toArray⟩ : ByteArray).size = T.length := rfl
  go_enter Tryd.func8, Tryd.ntmps8
  by_cases h4 : 4000 < T.length
  · have HS : Hid (rulesR T = .error (1, 0)) := by show _ = _; unfold rulesR; rw [if_pos h4]
    have d4 : decide (4000 < (T.length : Int)) = true := decide_eq_true (by omega)
    go_wp2_with fail
    go_ret3
    exact ⟨Q.refl _, .inl ⟨1, 0, HS.out, rfl⟩⟩
  have d4 : decide (4000 < (T.length : Int)) = false := decide_eq_false (by omega)
  have HR : Hid (rulesR T = rowsOf 1 (parts 10 T)) := by show _ = _; unfold rulesR; rw [if_neg h4]
  have HP := show Hid _ from rparts_any T 10 w (by omega)
  have hcnt := parts_count_le 10 T
  have HL : Hid (∀ p ∈ parts 10 T, p.length ≤ 4000) := fun p h => by have := parts_le 10 T p h; omega
  go_wp2_with fail
  refine Calls.mono HP.out ?_
  rintro e w1 ⟨v, rfl, ⟨g, cap, rfl, hcell⟩, hq⟩
  have HC := show Hid _ from hcell
  clear hcell HP
  generalize parts 10 T = lines at *
  go_wp2_with fail
  go_loopw [5, 7, 8, 9, 10, 11] (fun s i _ _ _ _ wr => ∃ (k : Nat) (rows : List (List (List UInt8))) (vals : List Value), k ≤ lines.length ∧ rows.length = k ∧ k ≤ 40 ∧ i = .int .i64 k ∧ Hid (rowsOf 1 lines = aheadR rows (rowsOf (k + 1) (lines.drop k))) ∧ Hid (RInv w1 wr s rows vals)) (fun _ i _ _ _ _ _ => lines.length - (intOf i).toNat)
  case atStart => exact ⟨0, [], [], Nat.zero_le _, rfl, by omega, rfl, (aheadR_nil _).symm, RInv.start w1⟩
  case round =>
    obtain ⟨k, rows, vals, hk, hrk, hk40, rfl, hah, hinv⟩ := hrel
    have hqr := hinv.out.q
    have hvl := hinv.out.len
    have HQ : Hid (Q w wr) := hq.trans hqr
    by_cases hlt : k < lines.length
    · have hget : lines[k]? = some lines[k] := List.getElem?_eq_getElem hlt
      have hck := hqr.cell (HC.out k _ hget)
      have hll := HL.out _ (List.mem_of_getElem? hget)
      have HG := show Hid _ from hget
      generalize lines[k] = l at *
      clear hget
      have hsub : (lines.length : Int) - 1 = ((lines.length - 1 : Nat) : Int) := by omega
      by_cases hlast : k + 1 = lines.length
      · have dl : ((k : Int) == ((lines.length - 1 : Nat) : Int)) = true := by rw [beq_iff_eq]; omega
        by_cases hle : l = []
        · have hem : l.isEmpty = true := by rw [hle]; rfl
          have HE := show Hid _ from (hah.out.trans (by rw [rows_last_empty hlast (by rw [HG.out, hle])]))
          clear hle
          go_wp2_with fail
          go_ret3
          refine ⟨HQ.out, .inr ⟨rows, _, HR.out.trans (HE.out.trans (by simp [aheadR])), rfl, ?_⟩⟩
          exact hinv.out.rows.keeps fun b hb => ⟨⟨by have := hq.size; have := hb.1; omega, hb.2⟩, fun _ => rfl⟩
        have hem : l.isEmpty = false := by
          cases hx : l with
          | nil => exact absurd hx hle
          | cons => rfl
        by_cases h40 : 40 ≤ k
        · have HE := show Hid _ from (hah.out.trans (by rw [rows_many HG.out (by omega) (fun h => hle h.2)]))
          have d40 : decide (40 ≤ (k : Int)) = true := decide_eq_true (by omega)
          clear hle
          go_wp2_with fail
          go_ret3
          exact ⟨HQ.out, .inl ⟨2, k + 1, HR.out.trans HE.out, rfl⟩⟩
        have d40 : decide (40 ≤ (k : Int)) = false := decide_eq_false (by omega)
        have HE := show Hid _ from (hah.out.trans (by rw [rows_bad HG.out (by omega) (fun h => hle h.2) (.inr hlast)]))
        have HPA := show Hid _ from rparts_fresh l 32 wr (by omega)
        have HFI : ∀ v x, StrsAt x v (parts 32 l) → Hid (Calls Tryd.prog 22 #[v, .string ⟨#[]⟩, .string ⟨#[]⟩, .int .i64 0, .int .i64 0] x fun e x' => e = .returned (.tuple #[.bool (fitsR (parts 32 l) [] [] 0 0).1, .bool (readRule l).isSome]) ∧ Q x x') := fun v x hx => by
          show Calls _ _ _ _ _
          rw [← fits_ok l [] [] 0 0]
          exact rfits_any v (parts 32 l) [] [] 0 0 x hx (fun s hs => by have := parts_le 32 l s hs; omega) (by have := parts_count_le 32 l; omega) (by decide)
        clear hle
        go_wp2_with fail
        refine Calls.mono HPA.out ?_
        rintro e w2 ⟨u, rfl, hstr, hq2, hnew⟩
        have HFU := show Hid _ from HFI u w2 hstr
        clear hstr hnew HFI HPA
        go_wp2_with fail
        refine Calls.mono HFU.out ?_
        rintro e w3 ⟨rfl, hq3⟩
        cases (readRule l).isSome with
        | true =>
          go_wp2_with fail
          go_ret3
          exact ⟨HQ.out.trans (hq2.trans hq3), .inl ⟨3, k + 1, HR.out.trans HE.out, rfl⟩⟩
        | false =>
          go_wp2_with fail
          go_ret3
          exact ⟨HQ.out.trans (hq2.trans hq3), .inl ⟨3, k + 1, HR.out.trans HE.out, rfl⟩⟩
      · have dl : ((k : Int) == ((lines.length - 1 : Nat) : Int)) = false := by rw [beq_eq_false_iff_ne]; omega
        by_cases h40 : 40 ≤ k
        · have HE := show Hid _ from (hah.out.trans (by rw [rows_many HG.out (by omega) (fun h => hlast h.1)]))
          have d40 : decide (40 ≤ (k : Int)) = true := decide_eq_true (by omega)
          go_wp2_with fail
          go_ret3
          exact ⟨HQ.out, .inl ⟨2, k + 1, HR.out.trans HE.out, rfl⟩⟩
        have d40 : decide (40 ≤ (k : Int)) = false := decide_eq_false (by omega)
        have HPA := show Hid _ from rparts_fresh l 32 wr (by omega)
        have HFI : ∀ v x, StrsAt x v (parts 32 l) → Hid (Calls Tryd.prog 22 #[v, .string ⟨#[]⟩, .string ⟨#[]⟩, .int .i64 0, .int .i64 0] x fun e x' => e = .returned (.tuple #[.bool (fitsR (parts 32 l) [] [] 0 0).1, .bool (readRule l).isSome]) ∧ Q x x') := fun v x hx => by
          show Calls _ _ _ _ _
          rw [← fits_ok l [] [] 0 0]
          exact rfits_any v (parts 32 l) [] [] 0 0 x hx (fun s hs => by have := parts_le 32 l s hs; omega) (by have := parts_count_le 32 l; omega) (by decide)
        go_wp2_with fail
        refine Calls.mono HPA.out ?_
        rintro e w2 ⟨_, rfl, ⟨gu, cu, rfl, hcu⟩, hq2, hnew⟩
        have hstr : StrsAt w2 (.slice (some ⟨gu, 0, none⟩) (parts 32 l).length cu) (parts 32 l) := ⟨gu, cu, rfl, hcu⟩
        have HFU := show Hid _ from HFI _ w2 hstr
        have HSTR : Hid (StrsAt w2 (.slice (some ⟨gu, 0, none⟩) (parts 32 l).length cu) (parts 32 l)) := hstr
        have HNEW := show Hid _ from hnew
        clear hstr hnew HFI HPA hcu
        generalize hpl : (parts 32 l).length = pl at *
        have HPL := show Hid _ from hpl
        clear hpl
        go_wp2_with fail
        refine Calls.mono HFU.out ?_
        rintro e w3 ⟨rfl, hq3⟩
        cases hr : (readRule l).isSome with
        | false =>
          have HE := show Hid _ from (hah.out.trans (by rw [rows_bad HG.out (by omega) (fun h => hlast h.1) (.inl hr)]))
          clear hr
          go_wp2_with fail
          go_ret3
          exact ⟨HQ.out.trans (hq2.trans hq3), .inl ⟨3, k + 1, HR.out.trans HE.out, rfl⟩⟩
        | true =>
          have HE := show Hid _ from rows_next (n := k + 1) HG.out (by omega) hlast hr
          clear hr
          have hqW := hq2.trans hq3
          have HOW : Hid (w3.ownsRow w1.heap.size 22 1 u5 vals.length vals) := owns_Q hinv.out.own hqW
          have hszw : w1.heap.size ≤ w3.heap.size := (hqr.trans hqW).size
          go_wp2_with (first | (at_builtin; refine append_one rfl (.tmp 58) (.tmp 60) 31 rfl 22 Tryd.t22 (.slice none 0 0) 24 Tryd.underlying31 (by kernel_rfl) (by kernel_rfl) (by kernel_rfl) (by kernel_rfl) rfl u5 vals (.slice (some ⟨gu, 0, none⟩) pl cu) w1.heap.size w3 rfl rfl HOW.out rfl (by omega) (by decide) hszw ?_; intro g' cap' w' ho' hb' hg' hat' _))
          have hvk : vals.length = k := hvl.trans hrk
          have hnx : RInv w1 w' (.slice (some ⟨g', 0, none⟩) (vals.length + 1) cap') (rows ++ [parts 32 l]) (vals ++ [.slice (some ⟨gu, 0, none⟩) pl cu]) := RInv.more hinv.out hqW (HSTR.out.stays hq3) (fun b hb => ⟨(HNEW.out b hb).1, Nat.lt_of_lt_of_le (HNEW.out b hb).2 hq3.size⟩) ho' hb' hg' hat'
          rw [hvk] at hnx
          refine ⟨⟨k + 1, rows ++ [parts 32 l], _, by omega, by rw [List.length_append, hrk]; rfl, by omega, by go_num, ?_, hnx⟩, by simp [intOf]; omega⟩
          show _ = _
          rw [hah.out, HE.out, aheadR_aheadR]
    · have HE := show Hid _ from (hah.out.trans (by rw [rows_done (by omega)]))
      go_wp2_with fail
      go_ret3
      refine ⟨HQ.out, .inr ⟨rows, _, HR.out.trans (HE.out.trans (by simp [aheadR])), rfl, ?_⟩⟩
      exact hinv.out.rows.keeps fun b hb => ⟨⟨by have := hq.size; have := hb.1; omega, hb.2⟩, fun _ => rfl⟩
end Go.Proofs.YtdmaffciijmdcaaDoor

/-
  The document's answer: the rules of a text.
-/
import Derived.Test.YtdmaffciijmdcaaGreatDoorRWhereToRFits
import Derived.Test.YtdmaffciijmdcaaGreatDoorDecideToRowE
import Derived.Test.YtdmaffciijmdcaaGreatDoorRowTToLeaf
namespace Go.Proofs.YtdmaffciijmdcaaGreatDoor
namespace Plain
theorem rows_last_empty {n : Nat} {lines : List (List UInt8)} {k : Nat} (hk : k + 1 = lines.length) (h : lines[k]? = some []) : rowsOf n (lines.drop k) = .ok [] := by
  obtain ⟨hlt, he⟩ := List.getElem?_eq_some_iff.1 h
  rw [← List.getElem_cons_drop hlt, List.drop_of_length_le (by omega), he]; rfl
theorem rows_done {n : Nat} {lines : List (List UInt8)} {k : Nat} (hk : lines.length ≤ k) : rowsOf n (lines.drop k) = .ok [] := by rw [List.drop_of_length_le hk]; rfl
theorem rows_many {n : Nat} {lines : List (List UInt8)} {k : Nat} {l : List UInt8} (h : lines[k]? = some l) (hn : 40 < n) (hl : ¬ (k + 1 = lines.length ∧ l = [])) : rowsOf n (lines.drop k) = .error (2, n) := by
  obtain ⟨hlt, rfl⟩ := List.getElem?_eq_some_iff.1 h
  rw [← List.getElem_cons_drop hlt]
  cases hd : lines.drop (k + 1) with
  | nil =>
    have : k + 1 = lines.length := by have := List.drop_eq_nil_iff.1 hd; omega
    rw [rowsOf, if_neg (fun e => hl ⟨this, e⟩), if_pos hn]
  | cons m ls => rw [rowsOf, if_pos hn]
theorem rows_bad {n : Nat} {lines : List (List UInt8)} {k : Nat} {l : List UInt8} (h : lines[k]? = some l) (hn : ¬ 40 < n) (hl : ¬ (k + 1 = lines.length ∧ l = [])) (hb : (readRule l).isSome = false ∨ k + 1 = lines.length) : rowsOf n (lines.drop k) = .error (3, n) := by
  obtain ⟨hlt, rfl⟩ := List.getElem?_eq_some_iff.1 h
  rw [← List.getElem_cons_drop hlt]
  cases hd : lines.drop (k + 1) with
  | nil =>
    have : k + 1 = lines.length := by have := List.drop_eq_nil_iff.1 hd; omega
    rw [rowsOf, if_neg (fun e => hl ⟨this, e⟩), if_neg hn]
  | cons m ls =>
    have hne : ¬ k + 1 = lines.length := by
      intro e
      have := List.drop_eq_nil_iff.2 (show lines.length ≤ k + 1 by omega)
      rw [hd] at this; cases this
    rw [rowsOf, if_neg hn, if_neg]
    rcases hb with hb | hb
    · rw [hb]; decide
    · exact absurd hb hne
theorem rows_next {n : Nat} {lines : List (List UInt8)} {k : Nat} {l : List UInt8} (h : lines[k]? = some l) (hn : ¬ 40 < n) (hk : ¬ k + 1 = lines.length) (hr : (readRule l).isSome = true) : rowsOf n (lines.drop k) = aheadR [parts 32 l] (rowsOf (n + 1) (lines.drop (k + 1))) := by
  obtain ⟨hlt, rfl⟩ := List.getElem?_eq_some_iff.1 h
  rw [← List.getElem_cons_drop hlt]
  cases hd : lines.drop (k + 1) with
  | nil => exact absurd (by have := List.drop_eq_nil_iff.1 hd; omega) hk
  | cons m ls => exact rows_step hn hr
end Plain
open Go.RowKit Plain

/-- A list of strings in memory, its block among S. -/
def StrsIn (S : Nat → Prop) (w : World) (v : Value) (l : List (List UInt8)) : Prop :=
  ∃ g cap, v = .slice (some ⟨g, 0, none⟩) l.length cap ∧ S g ∧ ∀ i s, l[i]? = some s → w.cell? ⟨g, i, none⟩ = some (.string ⟨s.toArray⟩)
theorem StrsIn.at {S : Nat → Prop} {w : World} {v : Value} {l : List (List UInt8)} (h : StrsIn S w v l) : StrsAt w v l := by
  obtain ⟨g, cap, h1, _, h2⟩ := h
  exact ⟨g, cap, h1, h2⟩
theorem StrsIn.keeps {S S' : Nat → Prop} {w w' : World} {v : Value} {l : List (List UInt8)} (h : StrsIn S w v l) (k : Keeps S S' w w') : StrsIn S' w' v l := by
  obtain ⟨g, cap, h1, hs, h2⟩ := h
  exact ⟨g, cap, h1, (k g hs).1, fun i s hi => by rw [(k g hs).2]; exact h2 i s hi⟩
/-- Rows of strings in memory, all their blocks among S. -/
def RowsAt (S : Nat → Prop) (w : World) (v : Value) (rows : List (List (List UInt8))) : Prop :=
  (rows = [] ∧ v = .slice none 0 0) ∨
  ∃ g cap, v = .slice (some ⟨g, 0, none⟩) rows.length cap ∧ S g ∧ ∀ i row, rows[i]? = some row → ∃ u, w.cell? ⟨g, i, none⟩ = some u ∧ StrsIn S w u row
theorem RowsAt.keeps {S S' : Nat → Prop} {w w' : World} {v : Value} {rows : List (List (List UInt8))} (h : RowsAt S w v rows) (k : Keeps S S' w w') : RowsAt S' w' v rows := by
  rcases h with h | ⟨g, cap, h1, hs, h2⟩
  · exact .inl h
  · refine .inr ⟨g, cap, h1, (k g hs).1, fun i row hi => ?_⟩
    obtain ⟨u, hu, hr⟩ := h2 i row hi
    exact ⟨u, by rw [(k g hs).2]; exact hu, hr.keeps k⟩

/-- While the rows are gathered. -/
structure RInv (w wr : World) (sv : Value) (rows : List (List (List UInt8))) (vals : List Value) : Prop where
  q : Q w wr
  own : wr.ownsRow w.heap.size 111 1 sv vals.length vals
  len : vals.length = rows.length
  reps : ∀ (i : Nat) (row : List (List UInt8)), rows[i]? = some row → ∃ u, vals[i]? = some u ∧ StrsIn (fun b => New w wr b ∧ some b ≠ sv.ownBlock) wr u row
theorem RInv.start (w : World) : RInv w w (.slice none 0 0) [] [] := ⟨Q.refl _, ⟨rfl, .inl ⟨rfl, rfl⟩⟩, rfl, fun i row h => by simp at h⟩
theorem RInv.rows {w wr : World} {sv : Value} {rows : List (List (List UInt8))} {vals : List Value} (h : RInv w wr sv rows vals) : RowsAt (New w wr) wr sv rows := by
  rcases h.own.2 with ⟨hv, hn⟩ | ⟨g, cap, cur, hv, hb, hg, _⟩
  · refine .inl ⟨?_, hv⟩
    have := h.len
    exact List.eq_nil_of_length_eq_zero (by omega)
  · refine .inr ⟨g, cap, by rw [hv, h.len], ⟨hb, (Array.getElem?_eq_some_iff.1 hg).1⟩, fun i row hi => ?_⟩
    obtain ⟨u, hu, hr⟩ := h.reps i row hi
    refine ⟨u, owned_cell (by rw [← hv]; exact h.own) i u hu, hr.keeps fun b hb => ⟨hb.1, fun _ => rfl⟩⟩
theorem RInv.more {w wr W w' : World} {sv u : Value} {rows : List (List (List UInt8))} {vals : List Value} {row : List (List UInt8)} {e : TypeId} (h : RInv w wr sv rows vals) (qW : Q wr W) (hu : StrsAt W u row) (hnew : ∀ k, u.ownBlock = some k → New wr W k)
    {g cap : Nat} (hown : w'.ownsRow w.heap.size 111 1 (.slice (some ⟨g, 0, none⟩) (vals.length + 1) cap) (vals.length + 1) (vals ++ [u]))
    (hbel : Below w.heap.size W w') (hg : (W.alloc (.cells #[u] e)).grownBy w' sv.ownBlock) (hat : sv.ownBlock = some g ∨ g = W.heap.size + 1) : RInv w w' (.slice (some ⟨g, 0, none⟩) (vals.length + 1) cap) (rows ++ [row]) (vals ++ [u]) := by
  have hol := owns_lt h.own
  have hq : Q w w' := Below.trans (h.q.trans qW) hbel
  have hsz : W.heap.size + 1 ≤ w'.heap.size := by have := hg.size; simpa using this
  have K : ∀ b, b < W.heap.size → some b ≠ sv.ownBlock → (some b ≠ (Value.slice (some ⟨g, 0, none⟩) (vals.length + 1) cap).ownBlock) ∧ ∀ o, w'.cell? ⟨b, o, none⟩ = W.cell? ⟨b, o, none⟩ := by
    intro b hb hne
    refine ⟨?_, fun o => ?_⟩
    · intro e'
      have e2 : b = g := by simpa [Value.ownBlock] using e'
      rcases hat with h1 | h1
      · exact hne (by rw [e2]; exact h1.symm)
      · omega
    · rw [hg.cell_far ⟨b, o, none⟩ (by show b < _; simp; omega) hne]
      exact World.cell?_of_block (w := W) (Below.heap_alloc _ _ _ hb)
  refine ⟨hq, ?_, by simp [h.len], ?_⟩
  · rw [List.length_append]; exact hown
  · intro i r hi
    by_cases hlt : i < rows.length
    · rw [List.getElem?_append_left hlt] at hi
      obtain ⟨u', hu', hr'⟩ := h.reps i r hi
      refine ⟨u', by rw [List.getElem?_append_left (by rw [h.len]; exact hlt)]; exact hu', hr'.keeps fun b hb => ?_⟩
      have hbW : b < W.heap.size := Nat.lt_of_lt_of_le hb.1.2 qW.size
      have hk := K b hbW hb.2
      exact ⟨⟨⟨hb.1.1, by omega⟩, hk.1⟩, fun o => by rw [hk.2 o]; exact qW.cells.1 b o hb.1.2⟩
    · have hi' := (List.getElem?_eq_some_iff.1 hi).1
      rw [List.length_append, List.length_singleton] at hi'
      have hie : i = rows.length := by omega
      subst hie
      rw [List.getElem?_append_right (Nat.le_refl _), Nat.sub_self] at hi
      cases hi
      refine ⟨u, by rw [← h.len, List.getElem?_append_right (Nat.le_refl _), Nat.sub_self]; rfl, ?_⟩
      obtain ⟨gu, cu, hv, hc⟩ := hu
      have hn := hnew gu (by rw [hv]; rfl)
      have hne : some gu ≠ sv.ownBlock := fun e' => by have := (hol gu e'.symm).2; have := hn.1; omega
      have hk := K gu hn.2 hne
      refine ⟨gu, cu, hv, ⟨⟨?_, ?_⟩, hk.1⟩, fun j s hj => by rw [hk.2 j]; exact hc j s hj⟩
      · have := h.q.size; have := hn.1; omega
      · have := hn.2; omega

def RulesPost (T : List UInt8) (w : World) (e : Ending) (w' : World) : Prop :=
  Q w w' ∧ ((∃ en ln, rulesR T = .error (en, ln) ∧ e = .returned (.tuple #[.slice none 0 0, .int .i64 (en : Nat), .int .i64 (ln : Nat)])) ∨
    ∃ rows v, rulesR T = .ok rows ∧ e = .returned (.tuple #[v, .int .i64 0, .int .i64 0]) ∧ RowsAt (New w w') w' v rows)

set_option maxRecDepth 100000 in
set_option maxHeartbeats 3200000 in
theorem rrules_any (T : List UInt8) (w : World) (hT : T.length ≤ 2097152) :
    Calls Tryz.prog 99 #[.string ⟨T.toArray⟩] w fun e w' => RulesPost T w e w' := by
  have hsz : (⟨T.toArray⟩ : ByteArray).size = T.length := rfl
  go_enter Tryz.func99, Tryz.ntmps99
  by_cases h4 : 4000 < T.length
  · have HS : Hid (rulesR T = .error (1, 0)) := by show _ = _; unfold rulesR; rw [if_pos h4]
    have d4 : decide (4000 < (T.length : Int)) = true := decide_eq_true (by omega)
    go_wp2_with fail
    go_ret3
    exact ⟨Q.refl _, .inl ⟨1, 0, HS.out, rfl⟩⟩
  have d4 : decide (4000 < (T.length : Int)) = false := decide_eq_false (by omega)
  have HR : Hid (rulesR T = rowsOf 1 (parts 10 T)) := by show _ = _; unfold rulesR; rw [if_neg h4]
  have HP := show Hid _ from rparts_any T 10 w (by omega)
  have hcnt := parts_count_le 10 T
  have HL : Hid (∀ p ∈ parts 10 T, p.length ≤ 4000) := fun p h => by have := parts_le 10 T p h; omega
  go_wp2_with fail
  refine Calls.mono HP.out ?_
  rintro e w1 ⟨v, rfl, ⟨g, cap, rfl, hcell⟩, hq⟩
  have HC := show Hid _ from hcell
  clear hcell HP
  generalize parts 10 T = lines at *
  go_wp2_with fail
  go_loopw [5, 7, 8, 9, 10, 11] (fun s i _ _ _ _ wr => ∃ (k : Nat) (rows : List (List (List UInt8))) (vals : List Value), k ≤ lines.length ∧ rows.length = k ∧ k ≤ 40 ∧ i = .int .i64 k ∧ Hid (rowsOf 1 lines = aheadR rows (rowsOf (k + 1) (lines.drop k))) ∧ Hid (RInv w1 wr s rows vals)) (fun _ i _ _ _ _ _ => lines.length - (intOf i).toNat)
  case atStart => exact ⟨0, [], [], Nat.zero_le _, rfl, by omega, rfl, (aheadR_nil _).symm, RInv.start w1⟩
  case round =>
    obtain ⟨k, rows, vals, hk, hrk, hk40, rfl, hah, hinv⟩ := hrel
    have hqr := hinv.out.q
    have hvl := hinv.out.len
    have HQ : Hid (Q w wr) := hq.trans hqr
    by_cases hlt : k < lines.length
    · have hget : lines[k]? = some lines[k] := List.getElem?_eq_getElem hlt
      have hck := hqr.cell (HC.out k _ hget)
      have hll := HL.out _ (List.mem_of_getElem? hget)
      have HG := show Hid _ from hget
      generalize lines[k] = l at *
      clear hget
      have hsub : (lines.length : Int) - 1 = ((lines.length - 1 : Nat) : Int) := by omega
      by_cases hlast : k + 1 = lines.length
      · have dl : ((k : Int) == ((lines.length - 1 : Nat) : Int)) = true := by rw [beq_iff_eq]; omega
        by_cases hle : l = []
        · have hem : l.isEmpty = true := by rw [hle]; rfl
          have HE := show Hid _ from (hah.out.trans (by rw [rows_last_empty hlast (by rw [HG.out, hle])]))
          clear hle
          go_wp2_with fail
          go_ret3
          refine ⟨HQ.out, .inr ⟨rows, _, HR.out.trans (HE.out.trans (by simp [aheadR])), rfl, ?_⟩⟩
          exact hinv.out.rows.keeps fun b hb => ⟨⟨by have := hq.size; have := hb.1; omega, hb.2⟩, fun _ => rfl⟩
        have hem : l.isEmpty = false := by
          cases hx : l with
          | nil => exact absurd hx hle
          | cons => rfl
        by_cases h40 : 40 ≤ k
        · have HE := show Hid _ from (hah.out.trans (by rw [rows_many HG.out (by omega) (fun h => hle h.2)]))
          have d40 : decide (40 ≤ (k : Int)) = true := decide_eq_true (by omega)
          clear hle
          go_wp2_with fail
          go_ret3
          exact ⟨HQ.out, .inl ⟨2, k + 1, HR.out.trans HE.out, rfl⟩⟩
        have d40 : decide (40 ≤ (k : Int)) = false := decide_eq_false (by omega)
        have HE := show Hid _ from (hah.out.trans (by rw [rows_bad HG.out (by omega) (fun h => hle h.2) (.inr hlast)]))
        have HPA := show Hid _ from rparts_fresh l 32 wr (by omega)
        have HFI : ∀ v x, StrsAt x v (parts 32 l) → Hid (Calls Tryz.prog 139 #[v, .string ⟨#[]⟩, .string ⟨#[]⟩, .int .i64 0, .int .i64 0] x fun e x' => e = .returned (.tuple #[.bool (fitsR (parts 32 l) [] [] 0 0).1, .bool (readRule l).isSome]) ∧ Q x x') := fun v x hx => by
          show Calls _ _ _ _ _
          rw [← fits_ok l [] [] 0 0]
          exact rfits_any v (parts 32 l) [] [] 0 0 x hx (fun s hs => by have := parts_le 32 l s hs; omega) (by have := parts_count_le 32 l; omega) (by decide)
        clear hle
        go_wp2_with fail
        refine Calls.mono HPA.out ?_
        rintro e w2 ⟨u, rfl, hstr, hq2, hnew⟩
        have HFU := show Hid _ from HFI u w2 hstr
        clear hstr hnew HFI HPA
        go_wp2_with fail
        refine Calls.mono HFU.out ?_
        rintro e w3 ⟨rfl, hq3⟩
        cases (readRule l).isSome with
        | true =>
          go_wp2_with fail
          go_ret3
          exact ⟨HQ.out.trans (hq2.trans hq3), .inl ⟨3, k + 1, HR.out.trans HE.out, rfl⟩⟩
        | false =>
          go_wp2_with fail
          go_ret3
          exact ⟨HQ.out.trans (hq2.trans hq3), .inl ⟨3, k + 1, HR.out.trans HE.out, rfl⟩⟩
      · have dl : ((k : Int) == ((lines.length - 1 : Nat) : Int)) = false := by rw [beq_eq_false_iff_ne]; omega
        by_cases h40 : 40 ≤ k
        · have HE := show Hid _ from (hah.out.trans (by rw [rows_many HG.out (by omega) (fun h => hlast h.1)]))
          have d40 : decide (40 ≤ (k : Int)) = true := decide_eq_true (by omega)
          go_wp2_with fail
          go_ret3
          exact ⟨HQ.out, .inl ⟨2, k + 1, HR.out.trans HE.out, rfl⟩⟩
        have d40 : decide (40 ≤ (k : Int)) = false := decide_eq_false (by omega)
        have HPA := show Hid _ from rparts_fresh l 32 wr (by omega)
        have HFI : ∀ v x, StrsAt x v (parts 32 l) → Hid (Calls Tryz.prog 139 #[v, .string ⟨#[]⟩, .string ⟨#[]⟩, .int .i64 0, .int .i64 0] x fun e x' => e = .returned (.tuple #[.bool (fitsR (parts 32 l) [] [] 0 0).1, .bool (readRule l).isSome]) ∧ Q x x') := fun v x hx => by
          show Calls _ _ _ _ _
          rw [← fits_ok l [] [] 0 0]
          exact rfits_any v (parts 32 l) [] [] 0 0 x hx (fun s hs => by have := parts_le 32 l s hs; omega) (by have := parts_count_le 32 l; omega) (by decide)
        go_wp2_with fail
        refine Calls.mono HPA.out ?_
        rintro e w2 ⟨_, rfl, ⟨gu, cu, rfl, hcu⟩, hq2, hnew⟩
        have hstr : StrsAt w2 (.slice (some ⟨gu, 0, none⟩) (parts 32 l).length cu) (parts 32 l) := ⟨gu, cu, rfl, hcu⟩
        have HFU := show Hid _ from HFI _ w2 hstr
        have HSTR : Hid (StrsAt w2 (.slice (some ⟨gu, 0, none⟩) (parts 32 l).length cu) (parts 32 l)) := hstr
        have HNEW := show Hid _ from hnew
        clear hstr hnew HFI HPA hcu
        generalize hpl : (parts 32 l).length = pl at *
        have HPL := show Hid _ from hpl
        clear hpl
        go_wp2_with fail
        refine Calls.mono HFU.out ?_
        rintro e w3 ⟨rfl, hq3⟩
        cases hr : (readRule l).isSome with
        | false =>
          have HE := show Hid _ from (hah.out.trans (by rw [rows_bad HG.out (by omega) (fun h => hlast h.1) (.inl hr)]))
          clear hr
          go_wp2_with fail
          go_ret3
          exact ⟨HQ.out.trans (hq2.trans hq3), .inl ⟨3, k + 1, HR.out.trans HE.out, rfl⟩⟩
        | true =>
          have HE := show Hid _ from rows_next (n := k + 1) HG.out (by omega) hlast hr
          clear hr
          have hqW := hq2.trans hq3
          have HOW : Hid (w3.ownsRow w1.heap.size 111 1 u5 vals.length vals) := owns_Q hinv.out.own hqW
          have hszw : w1.heap.size ≤ w3.heap.size := (hqr.trans hqW).size
          go_wp2_with (first | (at_builtin; refine append_one rfl (.tmp 58) (.tmp 60) 130 rfl 111 Tryz.t111 (.slice none 0 0) 24 Tryz.underlying130 (by kernel_rfl) (by kernel_rfl) (by kernel_rfl) (by kernel_rfl) rfl u5 vals (.slice (some ⟨gu, 0, none⟩) pl cu) w1.heap.size w3 rfl rfl HOW.out rfl (by omega) (by decide) hszw ?_; intro g' cap' w' ho' hb' hg' hat' _))
          have hvk : vals.length = k := hvl.trans hrk
          have hnx : RInv w1 w' (.slice (some ⟨g', 0, none⟩) (vals.length + 1) cap') (rows ++ [parts 32 l]) (vals ++ [.slice (some ⟨gu, 0, none⟩) pl cu]) := RInv.more hinv.out hqW (HSTR.out.stays hq3) (fun b hb => ⟨(HNEW.out b hb).1, Nat.lt_of_lt_of_le (HNEW.out b hb).2 hq3.size⟩) ho' hb' hg' hat'
          rw [hvk] at hnx
          refine ⟨⟨k + 1, rows ++ [parts 32 l], _, by omega, by rw [List.length_append, hrk]; rfl, by omega, by go_num, ?_, hnx⟩, by simp [intOf]; omega⟩
          show _ = _
          rw [hah.out, HE.out, aheadR_aheadR]
    · have HE := show Hid _ from (hah.out.trans (by rw [rows_done (by omega)]))
      go_wp2_with fail
      go_ret3
      refine ⟨HQ.out, .inr ⟨rows, _, HR.out.trans (HE.out.trans (by simp [aheadR])), rfl, ?_⟩⟩
      exact hinv.out.rows.keeps fun b hb => ⟨⟨by have := hq.size; have := hb.1; omega, hb.2⟩, fun _ => rfl⟩
end Go.Proofs.YtdmaffciijmdcaaGreatDoor
/-
  The document's answer: the first rule that fits; what may be asked.
-/
namespace Go.Proofs.YtdmaffciijmdcaaGreatDoor
open Go.RowKit Plain

theorem decRows_done {t h : List UInt8} {p m : Int} {k : Nat} {rows : List (List (List UInt8))} (hk : rows.length ≤ k) : decRows t h p m k (rows.drop k) = (false, -1) := by rw [List.drop_of_length_le hk, decRows]

set_option maxRecDepth 100000 in
set_option maxHeartbeats 1600000 in
theorem rdecide_any (S : Nat → Prop) (v : Value) (rows : List (List (List UInt8))) (t h : List UInt8) (p m : Int) (w : World) (hv : RowsAt S w v rows) (h5 : ∀ row ∈ rows, row.length = 5) (hl : ∀ row ∈ rows, ∀ s ∈ row, s.length ≤ 2097152) (hn : rows.length ≤ 4194304) (hh : h.length ≤ 2097152) :
    Calls Tryz.prog 113 #[v, .string ⟨t.toArray⟩, .string ⟨h.toArray⟩, .int .i64 p, .int .i64 m] w fun e w' => e = .returned (.tuple #[.bool (decRows t h p m 0 rows).1, .int .i64 (decRows t h p m 0 rows).2]) ∧ Q w w' := by
  rcases hv with ⟨rfl, rfl⟩ | ⟨g, cap, rfl, _, hcell⟩
  · go_enter Tryz.func113, Tryz.ntmps113
    go_wp2_with fail
    refine wp_loop_rounds 1 ?_
    rw [rounds_succ]
    go_wp2_with fail
    go_ret2
    exact ⟨rfl, Q.refl w⟩
  · have HC : Hid (∀ i row, rows[i]? = some row → ∃ u, w.cell? ⟨g, i, none⟩ = some u ∧ StrsIn S w u row) := hcell
    have H5 := show Hid _ from h5
    have HL := show Hid _ from hl
    clear hcell h5 hl
    go_enter Tryz.func113, Tryz.ntmps113
    go_wp2_with fail
    go_loopw [12, 13, 14] (fun i _ _ wr => ∃ k : Nat, k ≤ rows.length ∧ i = .int .i64 k ∧ Hid (decRows t h p m k (rows.drop k) = decRows t h p m 0 rows) ∧ Q w wr) (fun i _ _ _ => rows.length - (intOf i).toNat)
    case atStart => exact ⟨0, Nat.zero_le _, rfl, rfl, Q.refl _⟩
    case round =>
      obtain ⟨k, hk, rfl, hdec, hq⟩ := hrel
      by_cases hlt : k < rows.length
      · have hget : rows[k]? = some rows[k] := List.getElem?_eq_getElem hlt
        obtain ⟨u, hu, hin⟩ := HC.out k _ hget
        have hck := hq.cell hu
        have HN := show Hid _ from decRows_drop (t := t) (h := h) (p := p) (m := m) hget
        have hr5 := H5.out _ (List.mem_of_getElem? hget)
        have hrl := HL.out _ (List.mem_of_getElem? hget)
        have HF := show Hid _ from rfits_any u rows[k] t h p m wr (hin.at.stays hq) hrl (by omega) hh
        generalize rows[k] = row at *
        obtain ⟨f0, f1, f2, f3, f4, rfl⟩ := five hr5
        obtain ⟨gu, cu, rfl, _, hcu⟩ := hin
        have c0 := hcu 0 f0 rfl
        clear hget hu hr5 hrl hcu
        rw [show ([f0, f1, f2, f3, f4] : List (List UInt8)).length = 5 from rfl] at HF
        go_wp2_with fail
        refine Calls.mono HF.out ?_
        rintro e w2 ⟨rfl, hq2⟩
        have hck2 := hq2.cell hck
        have c0' := (hq.trans hq2).cell c0
        clear c0 hck
        cases hfit : (fitsR [f0, f1, f2, f3, f4] t h p m).1 with
        | true =>
          rw [if_pos hfit] at HN
          have HD := show Hid _ from hdec.out.symm.trans HN.out
          clear hfit HN hdec
          go_wp2_with fail
          go_ret2
          exact ⟨by rw [HD.out]; rfl, hq.trans hq2⟩
        | false =>
          rw [if_neg (by rw [hfit]; decide)] at HN
          have HD := show Hid _ from HN.out.symm.trans hdec.out
          clear hfit HN hdec
          go_wp2_with fail
          exact ⟨⟨k + 1, by omega, by go_num, HD, hq.trans hq2⟩, by simp [intOf]; omega⟩
      · have HE := show Hid _ from hdec.out.symm.trans (decRows_done (by omega))
        go_wp2_with fail
        go_ret2
        exact ⟨by rw [HE.out]; rfl, hq⟩

end Go.Proofs.YtdmaffciijmdcaaGreatDoor
/-
  Plain functions: what a head is answered.
-/
namespace Go.Proofs.YtdmaffciijmdcaaGreatDoor
namespace Plain
def goB : List UInt8 := [72, 84, 84, 80, 47, 49, 46, 49, 32, 50, 48, 48, 32, 79, 75, 13, 10, 13, 10]
def badB : List UInt8 := [72, 84, 84, 80, 47, 49, 46, 49, 32, 52, 48, 48, 32, 66, 97, 100, 32, 82, 101, 113, 117, 101, 115, 116, 13, 10, 13, 10]
def denyB : List UInt8 := [72, 84, 84, 80, 47, 49, 46, 49, 32, 52, 48, 51, 32, 70, 111, 114, 98, 105, 100, 100, 101, 110, 13, 10, 13, 10]
def kindB : List UInt8 := [72, 84, 84, 80, 47, 49, 46, 49, 32, 52, 48, 53, 32, 77, 101, 116, 104, 111, 100, 32, 78, 111, 116, 32, 65, 108, 108, 111, 119, 101, 100, 13, 10, 13, 10]
def whoB : List UInt8 := [72, 84, 84, 80, 47, 49, 46, 49, 32, 52, 48, 55, 32, 80, 114, 111, 120, 121, 32, 65, 117, 116, 104, 101, 110, 116, 105, 99, 97, 116, 105, 111, 110, 32, 82, 101, 113, 117, 105, 114, 101, 100, 13, 10, 13, 10]
def goneB : List UInt8 := [72, 84, 84, 80, 47, 49, 46, 49, 32, 53, 48, 50, 32, 66, 97, 100, 32, 71, 97, 116, 101, 119, 97, 121, 13, 10, 13, 10]
def connectB : List UInt8 := [67, 79, 78, 78, 69, 67, 84]
def proxyB : List UInt8 := [112, 114, 111, 120, 121, 45, 97, 117, 116, 104, 111, 114, 105, 122, 97, 116, 105, 111, 110]

/-- Who a head says that it is. -/
def whoIs (tens : List (List UInt8 × List UInt8)) (fs : List (List UInt8 × List UInt8)) : Option (List UInt8) := match onlyS fs proxyB with
  | none => none
  | some c => byS tens c
/-- Where a head leads, or with what its client is refused. -/
def judgeS (rs : List RuleS) (tens : List (List UInt8 × List UInt8)) (minute : Int) (text : List UInt8) : Except (List UInt8) (List UInt8 × Nat) := match readHead text with
  | none => .error badB
  | some h => if (h.method == connectB) = false then .error kindB else match targetS h.target with
    | none => .error badB
    | some (host, port) => match whoIs tens h.fields with
      | none => .error whoB
      | some t => if (decideS rs t host (port : Int) minute).1 = true then .ok (host, port) else .error denyB

end Plain
end Go.Proofs.YtdmaffciijmdcaaGreatDoor
/-
  Plain functions: events, connections, gateways, and what each call does to them.
-/
namespace Go.Proofs.YtdmaffciijmdcaaGreatDoor
namespace Plain
structure EvS where
  kind : Int
  conn : Int
  text : List UInt8
  port : Int
/-- An event by which a text goes; none, if it is empty. -/
def sendS (kind num : Int) (s : List UInt8) : List EvS := if s.isEmpty = true then [] else [⟨kind, num, s, 0⟩]
structure ConnS where
  num : Nat
  silent : Int
  stage : Nat
  wait : List UInt8
  noMore : Bool
  hostEnd : Bool
structure GateS where
  rules : List RuleS
  tens : List (List UInt8 × List UInt8)
  minute : Int
  last : Nat
  conns : List ConnS
def GateS.upd (g : GateS) (i : Nat) (c : ConnS) : GateS := { g with conns := g.conns.set i c }
def GateS.drop (g : GateS) (n : Nat) : GateS := { g with conns := g.conns.filter fun d => d.num != n }
/-- What a head is answered. -/
def answerS (g : GateS) (i : Nat) (c : ConnS) (head : List UInt8) : GateS × List EvS := match judgeS g.rules g.tens g.minute head with
  | .error r => (g.drop c.num, sendS 2 c.num r ++ [⟨4, c.num, [], 0⟩])
  | .ok (h, n) => (g.upd i { c with stage := 1 }, [⟨1, c.num, h, (n : Int)⟩])
/-- What a client's bytes do at an open connection. -/
def clientAt (g : GateS) (i : Nat) (c : ConnS) (s : List UInt8) : GateS × List EvS :=
  if c.stage = 2 then (g.upd i { c with silent := 0 }, sendS 3 c.num s)
  else if c.stage = 1 then (g.upd i { c with silent := 0, wait := c.wait ++ s }, [])
  else match cutHead (c.wait ++ s) with
    | none => (g.upd i { c with silent := 0, wait := c.wait ++ s }, [])
    | some (h, rest) => answerS (g.upd i { c with silent := 0, wait := rest }) i { c with silent := 0, wait := rest } h
def GateS.accept (g : GateS) : GateS := { g with last := g.last + 1, conns := g.conns ++ [⟨g.last + 1, 0, 0, [], false, false⟩] }
def usersFrom : Nat → List (List UInt8 × List UInt8) → List (List UInt8 × List UInt8) → Except Nat (List (List UInt8 × List UInt8))
  | _, tens, [] => .ok tens
  | k, tens, u :: us => match withS tens u.1 u.2 with
    | none => .error k
    | some t => usersFrom (k + 1) t us
/-- What New answers: an error and its place, or a gateway. -/
def newS (text : List UInt8) (us : List (List UInt8 × List UInt8)) (minute : Int) : Except (Nat × Nat) GateS := match compileS text with
  | .error e => .error e
  | .ok rs => if 8 < us.length then .error (2, 0) else match usersFrom 0 [] us with
    | .error k => .error (4, k)
    | .ok tens => if minute < 0 ∨ 10080 ≤ minute then .error (5, 0) else .ok ⟨rs, tens, minute, 0, []⟩
/-- A host has answered, or not. -/
def dialedAt (g : GateS) (i : Nat) (c : ConnS) (ok : Bool) : GateS × List EvS :=
  if ok = true then (g.upd i { c with silent := 0, stage := 2, wait := [] }, ⟨2, c.num, goB, 0⟩ :: sendS 3 c.num c.wait)
  else (g.drop c.num, [⟨2, c.num, goneB, 0⟩, ⟨4, c.num, [], 0⟩])
/-- A host's bytes. -/
def hostAt (g : GateS) (i : Nat) (c : ConnS) (s : List UInt8) : GateS × List EvS := (g.upd i { c with silent := 0 }, sendS 2 c.num s)
/-- A client's end. -/
def endClientAt (g : GateS) (i : Nat) (c : ConnS) : GateS × List EvS :=
  if c.stage = 0 then (g.drop c.num, [⟨4, c.num, [], 0⟩])
  else if c.stage = 1 then (g.drop c.num, [⟨4, c.num, [], 0⟩, ⟨5, c.num, [], 0⟩])
  else (if c.hostEnd = true then g.drop c.num else g.upd i { c with noMore := true }, [⟨5, c.num, [], 0⟩])
/-- A host's end. -/
def endHostAt (g : GateS) (i : Nat) (c : ConnS) : GateS × List EvS :=
  (if c.noMore = true then g.drop c.num else g.upd i { c with hostEnd := true }, [⟨4, c.num, [], 0⟩])
/-- What a connection that is over by its silence gives. -/
def overEvs (c : ConnS) : List EvS := (if c.hostEnd = true then [] else [⟨4, c.num, [], 0⟩]) ++ (if 0 < c.stage ∧ c.noMore = false then [⟨5, c.num, [], 0⟩] else [])
/-- Minutes go by. -/
def tickS (g : GateS) (m : Int) : GateS × List EvS :=
  ({ g with minute := if 10080 ≤ g.minute + m then g.minute + m - 10080 else g.minute + m, conns := (g.conns.filter fun c => decide (c.silent + m < 10)).map fun c => { c with silent := c.silent + m } },
    (g.conns.filter fun c => !decide (c.silent + m < 10)).flatMap overEvs)
theorem drop_upd (g : GateS) (i : Nat) (c c' : ConnS) (hi : g.conns[i]? = some c) (hn : c'.num = c.num) : (g.upd i c').drop c.num = g.drop c.num := by
  unfold GateS.upd GateS.drop
  congr 1
  show (g.conns.set i c').filter _ = _
  obtain ⟨hlt, rfl⟩ := List.getElem?_eq_some_iff.1 hi
  have : ∀ (l : List ConnS) (i : Nat) (h : i < l.length), c'.num = (l[i]).num → (l.set i c').filter (fun d => d.num != (l[i]).num) = l.filter fun d => d.num != (l[i]).num := by
    intro l
    induction l with
    | nil => intro i h; simp at h
    | cons a l ih =>
      intro i h e
      cases i with
      | zero =>
        have e' : c'.num = a.num := e
        simp [e']
      | succ i =>
        have h' : i < l.length := by simpa using h
        have e' : c'.num = (l[i]).num := by simpa using e
        have := ih i h' e'
        simp only [List.set_cons_succ, List.getElem_cons_succ, List.filter_cons]
        rw [this]
  exact this g.conns i hlt hn
theorem filter_take {α : Type} (p : α → Bool) (l : List α) {k : Nat} {x : α} (h : l[k]? = some x) : (l.take (k + 1)).filter p = (l.take k).filter p ++ if p x = true then [x] else [] := by
  obtain ⟨hlt, rfl⟩ := List.getElem?_eq_some_iff.1 h
  rw [List.take_succ_eq_append_getElem hlt, List.filter_append]
  congr 1
  by_cases hp : p l[k] = true <;> simp [hp]
/-- What is over, and what is left, of the first connections. -/
def overOf (m : Int) (l : List ConnS) : List EvS := (l.filter fun c => !decide (c.silent + m < 10)).flatMap overEvs
def stayOf (m : Int) (l : List ConnS) : List ConnS := (l.filter fun c => decide (c.silent + m < 10)).map fun c => { c with silent := c.silent + m }
theorem over_step {m : Int} {l : List ConnS} {k : Nat} {c : ConnS} (h : l[k]? = some c) : (c.silent + m < 10 → overOf m (l.take (k + 1)) = overOf m (l.take k) ∧ stayOf m (l.take (k + 1)) = stayOf m (l.take k) ++ [{ c with silent := c.silent + m }]) ∧ (¬ c.silent + m < 10 → overOf m (l.take (k + 1)) = overOf m (l.take k) ++ overEvs c ∧ stayOf m (l.take (k + 1)) = stayOf m (l.take k)) := by
  unfold overOf stayOf
  rw [filter_take _ l h, filter_take _ l h]
  refine ⟨fun e => ?_, fun e => ?_⟩
  · rw [if_neg (by simp [e]), if_pos (by simp [e])]
    simp
  · rw [if_pos (by simp [e]), if_neg (by simp [e])]
    simp
theorem over_len (m : Int) : ∀ l : List ConnS, l.length ≤ 8 → (overOf m l).length ≤ 100 := by
  intro l hl
  have h1 : ∀ l : List ConnS, (l.flatMap overEvs).length ≤ 2 * l.length := by
    intro l
    induction l with
    | nil => simp
    | cons c l ih =>
      rw [List.flatMap_cons, List.length_append, List.length_cons]
      have : (overEvs c).length ≤ 2 := by
        unfold overEvs
        rw [List.length_append]
        split <;> split <;> simp
      omega
  have h2 := h1 (l.filter fun c => !decide (c.silent + m < 10))
  have h3 := List.length_filter_le (fun c : ConnS => !decide (c.silent + m < 10)) l
  unfold overOf
  omega
end Plain
open Plain
/-- What of a gateway is known beside its memory. -/
structure GOk (g : GateS) : Prop where
  few : g.conns.length ≤ 8
  tens : g.tens.length ≤ 1000
  nums : ∀ (i j : Nat) (c d : ConnS), g.conns[i]? = some c → g.conns[j]? = some d → c.num = d.num → i = j
  past : ∀ c ∈ g.conns, c.num ≤ g.last
  top : g.last ≤ 1000000000000
/-- What each connection keeps. -/
structure CIn (c : ConnS) : Prop where
  s0 : 0 ≤ c.silent
  s1 : c.silent < 10
  st : c.stage ≤ 2
  ends : c.stage ≠ 2 → c.noMore = false ∧ c.hostEnd = false
def GIn (g : GateS) : Prop := ∀ c ∈ g.conns, CIn c

end Go.Proofs.YtdmaffciijmdcaaGreatDoor

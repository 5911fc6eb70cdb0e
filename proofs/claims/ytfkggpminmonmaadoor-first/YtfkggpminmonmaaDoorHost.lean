/-
  Package words: ReadHost.
-/
import Derived.Test.YtfkggpminmonmaaDoorFirst
namespace Go.Proofs.YtfkggpminmonmaaDoor
open Go.RowKit Plain

theorem parts_none {c : UInt8} {l : List UInt8} (h : c ∉ l) : parts c l = [l] := by
  rw [parts_cut, cutAt_none.2 h]
theorem getLastD_cons {α : Type} {a d : α} {l : List α} (h : l ≠ []) : (a :: l).getLastD d = l.getLastD d := by
  cases l with
  | nil => exact absurd rfl h
  | cons b l => rfl
theorem parts_last (c : UInt8) (b : List UInt8) (hb : c ∉ b) : ∀ a : List UInt8, (parts c (a ++ c :: b)).getLastD [] = b ∧ 2 ≤ (parts c (a ++ c :: b)).length
  | [] => by
    rw [List.nil_append, parts, if_pos rfl, parts_none hb]
    exact ⟨rfl, by simp⟩
  | x :: a => by
    have ih := parts_last c b hb a
    rw [List.cons_append, parts]
    by_cases hx : x = c
    · rw [if_pos hx]
      exact ⟨by rw [getLastD_cons (parts_ne _ _)]; exact ih.1, by simp; omega⟩
    · rw [if_neg hx]
      cases hp : parts c (a ++ c :: b) with
      | nil => exact absurd hp (parts_ne _ _)
      | cons p ps =>
        rw [hp] at ih
        simp at ih
        have hne : ps ≠ [] := by intro e; rw [e] at ih; simp at ih
        refine ⟨?_, by simp; omega⟩
        rw [getLastD_cons hne]
        have := ih.1
        cases ps with
        | nil => exact absurd rfl hne
        | cons q qs => exact this

theorem bang_get (s : ByteArray) (j : Nat) (h : j < s.size) : s.data[j]! = s.data.toList[j]'(by rw [size_len]; exact h) := by
  rw [getElem!_pos s.data j h]; rfl

theorem last_cut (s : ByteArray) : ∃ i : Nat, i ≤ s.size ∧ Lib.lastIndexByte s 46 = (i : Int) - 1 ∧ (s.extract i s.size).data.toList = lastPart s.data.toList := by
  rcases Lib.lastIndexByte_spec s 46 with ⟨h1, h2⟩ | ⟨i, hi, h1, h2, h3⟩
  · refine ⟨0, Nat.zero_le _, by rw [h1]; rfl, ?_⟩
    have hn : (46 : UInt8) ∉ s.data.toList := by
      intro hm
      obtain ⟨j, hj, e⟩ := List.getElem_of_mem hm
      rw [size_len] at hj
      apply h2 j hj
      rw [bang_get s j hj, e]; rfl
    unfold lastPart
    rw [parts_none hn, Lib.extract_to_end]
    rfl
  · refine ⟨i + 1, hi, by rw [h1]; omega, ?_⟩
    rw [Lib.extract_to_end]
    have hl : i < s.data.toList.length := by rw [size_len]; exact hi
    have hd : s.data.toList = s.data.toList.take i ++ 46 :: s.data.toList.drop (i + 1) := by
      have e : s.data.toList[i] = 46 := by
        rw [bang_get s i hi] at h2
        apply UInt8.toNat_inj.1
        show _ = 46
        omega
      rw [← e, List.getElem_cons_drop, List.take_append_drop]
    have hb : (46 : UInt8) ∉ s.data.toList.drop (i + 1) := by
      intro hm
      obtain ⟨j, hj, e⟩ := List.getElem_of_mem hm
      rw [List.length_drop, size_len] at hj
      apply h3 (i + 1 + j) (by omega) (by omega)
      rw [bang_get s _ (by omega)]
      rw [List.getElem_drop] at e
      rw [e]; rfl
    unfold lastPart
    conv => rhs; rw [hd]
    rw [(parts_last 46 _ hb _).1]

def hostV (nm : List UInt8) (a b c d : Nat) : Value := .agg #[str nm, u8 a, u8 b, u8 c, u8 d]

theorem host_some {l : List UInt8} {r : List UInt8 × List Nat} (h : readHost l = some r) :
    (allB fig (lastPart l) = true ∧ ∃ a b c d, address l = some [a, b, c, d] ∧ r = ([], [a, b, c, d])) ∨
    (allB fig (lastPart l) = false ∧ nameOk (lower l) = true ∧ r = (lower l, [0, 0, 0, 0])) := by
  unfold readHost at h
  split at h
  · rename_i hf
    refine .inl ⟨hf, ?_⟩
    cases ha : address l with
    | none => rw [ha] at h; cases h
    | some x =>
      rw [ha] at h
      obtain ⟨_, _, _, _, a, b, c, d, _, rfl, _⟩ := address_some ha
      cases h
      exact ⟨a, b, c, d, rfl, rfl⟩
  · rename_i hf
    split at h
    · rename_i hn; cases h; exact .inr ⟨by simpa using hf, hn, rfl⟩
    · cases h
theorem host_none {l : List UInt8} (h : readHost l = none) :
    (allB fig (lastPart l) = true ∧ address l = none) ∨ (allB fig (lastPart l) = false ∧ nameOk (lower l) = false) := by
  unfold readHost at h
  split at h
  · rename_i hf
    refine .inl ⟨hf, ?_⟩
    cases ha : address l with
    | none => rfl
    | some x => rw [ha] at h; cases h
  · rename_i hf
    split at h
    · cases h
    · rename_i hn; exact .inr ⟨by simpa using hf, by simpa using hn⟩

set_option maxHeartbeats 800000 in
theorem readHost_yes (s : ByteArray) (w : World) (hs : s.size < 4294967281) (nm : List UInt8) (a b c d : Nat) (h : readHost s.data.toList = some (nm, [a, b, c, d])) :
    Calls Tryd.prog 53 #[.string s] w fun e w' => e = .returned (hostV nm a b c d) ∧ Q w w' := by
  obtain ⟨i, hi, hx, hl⟩ := last_cut s
  have HX := show Hid _ from hx
  have HL := show Hid _ from hl
  have hsl : (s.extract i s.size).size ≤ maxLen := by
    rw [ByteArray.size_extract]; unfold maxLen; omega
  have hi1 : (0 : Int) ≤ (i : Int) := by omega
  have hi2 : (i : Int) ≤ (s.size : Int) := by omega
  clear hx hl
  rcases host_some h with ⟨hf, a', b', c', d', ha, hr⟩ | ⟨hf, hn, hr⟩
  · cases hr
    have HF := show Hid _ from hf
    have HA := show Hid _ from ha
    clear hf ha h
    go_enter Tryd.func53, Tryd.ntmps53
    go_wp2_with (first | (go_at_call 81; refine (Tryd.strings_LastIndexByte s 46 (by omega) _).mono ?_; rintro e w' ⟨rfl, rfl⟩; rw [HX.out]) | (go_at_call 79; refine (all_fig _ _ hsl).mono ?_; rintro e w' ⟨rfl, rfl⟩; rw [HL.out, HF.out]) | (go_at_call 83; refine (readAddress_yes s _ hs a b c d HA.out).mono ?_; rintro e w' ⟨rfl, hq⟩; obtain ⟨hcl, hfr, hz⟩ := hq.made))
    obtain ⟨hcl, _, _⟩ := hq.made
    have hQ : Q w w' := ((Q.refl w).alloc _).trans hq
    refine bodyPost_ret (v := hostV [] a b c d) (by simp [results, Tryd.results53, go_sem, hcl, hostV, str]) rfl ⟨rfl, ?_⟩
    iterate 5 refine Q.setCell ?_ (Nat.le_refl _) _
    exact hQ
  · cases hr
    have HF := show Hid _ from hf
    have HN := show Hid _ from hn
    clear hf hn h
    have hs1 : (⟨(lower s.data.toList).toArray⟩ : ByteArray).size < 4294967281 := by rw [mk_size, lower_len, size_len]; exact hs
    go_enter Tryd.func53, Tryd.ntmps53
    go_wp2_with (first | (go_at_call 81; refine (Tryd.strings_LastIndexByte s 46 (by omega) _).mono ?_; rintro e w' ⟨rfl, rfl⟩; rw [HX.out]) | (go_at_call 79; refine (all_fig _ _ hsl).mono ?_; rintro e w' ⟨rfl, rfl⟩; rw [HL.out, HF.out]))
    refine (lower_any s _ (by omega)).mono ?_
    rintro e w1 ⟨rfl, hq1⟩
    go_wp2_with fail
    refine (name_yes ⟨(lower s.data.toList).toArray⟩ _ hs1 HN.out).mono ?_
    rintro e w2 ⟨rfl, hq2⟩
    have hq := hq1.trans hq2
    obtain ⟨hcl, hfr, hz⟩ := hq.made
    have hQ : Q w w2 := ((Q.refl w).alloc _).trans hq
    clear hq1 hq2 hq
    go_wp2_with fail
    refine bodyPost_ret (v := hostV (lower s.data.toList) 0 0 0 0) (by simp [results, Tryd.results53, go_sem, hcl, hostV, str]) rfl ⟨rfl, ?_⟩
    iterate 5 refine Q.setCell ?_ (Nat.le_refl _) _
    exact hQ

set_option maxHeartbeats 800000 in
theorem readHost_no (s : ByteArray) (w : World) (hs : s.size < 4294967281) (h : readHost s.data.toList = none) :
    Calls Tryd.prog 53 #[.string s] w fun e w' => Dies e ∧ Q w w' := by
  obtain ⟨i, hi, hx, hl⟩ := last_cut s
  have HX := show Hid _ from hx
  have HL := show Hid _ from hl
  have hsl : (s.extract i s.size).size ≤ maxLen := by
    rw [ByteArray.size_extract]; unfold maxLen; omega
  have hi1 : (0 : Int) ≤ (i : Int) := by omega
  have hi2 : (i : Int) ≤ (s.size : Int) := by omega
  clear hx hl
  rcases host_none h with ⟨hf, ha⟩ | ⟨hf, hn⟩
  · have HF := show Hid _ from hf
    have HA := show Hid _ from ha
    clear hf ha h
    go_enter Tryd.func53, Tryd.ntmps53
    go_wp2_with (first | (go_at_call 81; refine (Tryd.strings_LastIndexByte s 46 (by omega) _).mono ?_; rintro e w' ⟨rfl, rfl⟩; rw [HX.out]) | (go_at_call 79; refine (all_fig _ _ hsl).mono ?_; rintro e w' ⟨rfl, rfl⟩; rw [HL.out, HF.out]) | (go_at_call 83; refine (readAddress_no s _ hs HA.out).mono ?_; rintro e w' ⟨⟨t, v, rfl⟩, hq⟩))
    exact ⟨rfl, ⟨_, _, rfl⟩, ((Q.refl _).alloc _).trans hq⟩
  · have HF := show Hid _ from hf
    have HN := show Hid _ from hn
    clear hf hn h
    have hs1 : (⟨(lower s.data.toList).toArray⟩ : ByteArray).size < 4294967281 := by rw [mk_size, lower_len, size_len]; exact hs
    go_enter Tryd.func53, Tryd.ntmps53
    go_wp2_with (first | (go_at_call 81; refine (Tryd.strings_LastIndexByte s 46 (by omega) _).mono ?_; rintro e w' ⟨rfl, rfl⟩; rw [HX.out]) | (go_at_call 79; refine (all_fig _ _ hsl).mono ?_; rintro e w' ⟨rfl, rfl⟩; rw [HL.out, HF.out]))
    refine (lower_any s _ (by omega)).mono ?_
    rintro e w1 ⟨rfl, hq1⟩
    go_wp2_with fail
    refine (name_no ⟨(lower s.data.toList).toArray⟩ _ hs1 HN.out).mono ?_
    rintro e w2 ⟨⟨t, v, rfl⟩, hq2⟩
    exact ⟨rfl, ⟨_, _, rfl⟩, ((Q.refl _).alloc _).trans (hq1.trans hq2)⟩
end Go.Proofs.YtfkggpminmonmaaDoor

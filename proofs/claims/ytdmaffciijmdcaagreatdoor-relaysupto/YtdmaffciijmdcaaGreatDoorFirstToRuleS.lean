/-
  Package words: (Address).First.
-/
import Derived.Test.YtdmaffciijmdcaaGreatDoorNamesToAddr
import Derived.Test.YtdmaffciijmdcaaGreatDoorRowTToLeaf
namespace Go.Proofs.YtdmaffciijmdcaaGreatDoor
open Go.RowKit Plain

theorem and_keep (a : Nat) (ha : a ≤ 255) (x : Int) (k : Nat) (hk : k ≤ 8) (hx : x.toNat = 8 - k) : bits .and .u8 (a : Int) (255 * 2 ^ x.toNat % 256) = (keep k a : Int) := by
  rw [hx]
  have e : ((255 : Int) * 2 ^ (8 - k) % 256) = ((255 * 2 ^ (8 - k) % 256 : Nat) : Int) := by
    rw [Int.natCast_emod, Int.natCast_mul, Int.natCast_pow]; rfl
  rw [e, u8_and_nat a _ (by omega) (Nat.mod_lt _ (by decide))]
  exact congrArg _ (keep_and ⟨k, by omega⟩ ⟨a, by omega⟩)

/-- The first n bits of four bytes. -/
def firstBits (n a b c d : Nat) : Value := .agg #[u8 (keep (min 8 n) a), u8 (keep (min 8 (n - 8)) b), u8 (keep (min 8 (n - 16)) c), u8 (keep (min 8 (n - 24)) d)]

set_option maxHeartbeats 800000 in
theorem first_any (a b c d : Nat) (n : Nat) (hn : n ≤ 32) (ha : a ≤ 255) (hb : b ≤ 255) (hc : c ≤ 255) (hd : d ≤ 255) (w : World) :
    Calls Tryz.prog 195 #[.agg #[u8 a, u8 b, u8 c, u8 d], .int .i64 n] w fun e w' => e = .returned (firstBits n a b c d) ∧ Q w w' := by
  have HA := show Hid _ from and_keep a ha (8 - min (n : Int) 8) (min 8 n) (by omega) (by omega)
  have HB := show Hid _ from and_keep b hb (8 - min (max ((n : Int) - 8) 0) 8) (min 8 (n - 8)) (by omega) (by omega)
  have HC := show Hid _ from and_keep c hc (8 - min (max ((n : Int) - 16) 0) 8) (min 8 (n - 16)) (by omega) (by omega)
  have HD := show Hid _ from and_keep d hd (8 - min (max ((n : Int) - 24) 0) 8) (min 8 (n - 24)) (by omega) (by omega)
  unfold u8
  go_enter Tryz.func195, Tryz.ntmps195
  go_wp2_with fail
  refine wp_loop_rounds 5 ?_
  rw [rounds_succ]
  go_wp2_with fail
  go_region
  go_wp2_with fail
  rw [rounds_succ]
  go_wp2_with fail
  go_region
  go_wp2_with fail
  rw [rounds_succ]
  go_wp2_with fail
  go_region
  go_wp2_with fail
  rw [rounds_succ]
  go_wp2_with fail
  go_region
  go_wp2_with fail
  rw [rounds_succ]
  go_wp2_with fail
  go_returns
  rw [HA.out, HB.out, HC.out, HD.out]
  exact ⟨rfl, by unfold Q; go_grown⟩
end Go.Proofs.YtdmaffciijmdcaaGreatDoor
/-
  Package words: ReadHost.
-/
namespace Go.Proofs.YtdmaffciijmdcaaGreatDoor
open Go.RowKit Plain

theorem parts_none {c : UInt8} {l : List UInt8} (h : c ∉ l) : parts c l = [l] := by
  rw [parts_cut, cutAt_none.2 h]
theorem getLastD_cons {α : Type} {a d : α} {l : List α} (h : l ≠ []) : (a :: l).getLastD d = l.getLastD d := by
  cases l with
  | nil => exact absurd rfl h
  | cons b l => rfl
theorem parts_last (c : UInt8) (b : List UInt8) (hb : c ∉ b) : ∀ a : List UInt8, (parts c (a ++ c :: b)).getLastD [] = b ∧ 2 ≤ (parts c (a ++ c :: b)).length
  | [] => by
    rw [List.nil_append, parts, if_pos rfl, parts_none hb]
    exact ⟨rfl, by simp⟩
  | x :: a => by
    have ih := parts_last c b hb a
    rw [List.cons_append, parts]
    by_cases hx : x = c
    · rw [if_pos hx]
      exact ⟨by rw [getLastD_cons (parts_ne _ _)]; exact ih.1, by simp; omega⟩
    · rw [if_neg hx]
      cases hp : parts c (a ++ c :: b) with
      | nil => exact absurd hp (parts_ne _ _)
      | cons p ps =>
        rw [hp] at ih
        simp at ih
        have hne : ps ≠ [] := by intro e; rw [e] at ih; simp at ih
        refine ⟨?_, by simp; omega⟩
        rw [getLastD_cons hne]
        have := ih.1
        cases ps with
        | nil => exact absurd rfl hne
        | cons q qs => exact this

theorem bang_get (s : ByteArray) (j : Nat) (h : j < s.size) : s.data[j]! = s.data.toList[j]'(by rw [size_len]; exact h) := by
  rw [getElem!_pos s.data j h]; rfl

theorem last_cut (s : ByteArray) : ∃ i : Nat, i ≤ s.size ∧ Lib.lastIndexByte s 46 = (i : Int) - 1 ∧ (s.extract i s.size).data.toList = lastPart s.data.toList := by
  rcases Lib.lastIndexByte_spec s 46 with ⟨h1, h2⟩ | ⟨i, hi, h1, h2, h3⟩
  · refine ⟨0, Nat.zero_le _, by rw [h1]; rfl, ?_⟩
    have hn : (46 : UInt8) ∉ s.data.toList := by
      intro hm
      obtain ⟨j, hj, e⟩ := List.getElem_of_mem hm
      rw [size_len] at hj
      apply h2 j hj
      rw [bang_get s j hj, e]; rfl
    unfold lastPart
    rw [parts_none hn, Lib.extract_to_end]
    rfl
  · refine ⟨i + 1, hi, by rw [h1]; omega, ?_⟩
    rw [Lib.extract_to_end]
    have hl : i < s.data.toList.length := by rw [size_len]; exact hi
    have hd : s.data.toList = s.data.toList.take i ++ 46 :: s.data.toList.drop (i + 1) := by
      have e : s.data.toList[i] = 46 := by
        rw [bang_get s i hi] at h2
        apply UInt8.toNat_inj.1
        show _ = 46
        omega
      rw [← e, List.getElem_cons_drop, List.take_append_drop]
    have hb : (46 : UInt8) ∉ s.data.toList.drop (i + 1) := by
      intro hm
      obtain ⟨j, hj, e⟩ := List.getElem_of_mem hm
      rw [List.length_drop, size_len] at hj
      apply h3 (i + 1 + j) (by omega) (by omega)
      rw [bang_get s _ (by omega)]
      rw [List.getElem_drop] at e
      rw [e]; rfl
    unfold lastPart
    conv => rhs; rw [hd]
    rw [(parts_last 46 _ hb _).1]

def hostV (nm : List UInt8) (a b c d : Nat) : Value := .agg #[str nm, u8 a, u8 b, u8 c, u8 d]

theorem host_some {l : List UInt8} {r : List UInt8 × List Nat} (h : readHost l = some r) :
    (allB fig (lastPart l) = true ∧ ∃ a b c d, address l = some [a, b, c, d] ∧ r = ([], [a, b, c, d])) ∨
    (allB fig (lastPart l) = false ∧ nameOk (lower l) = true ∧ r = (lower l, [0, 0, 0, 0])) := by
  unfold readHost at h
  split at h
  · rename_i hf
    refine .inl ⟨hf, ?_⟩
    cases ha : address l with
    | none => rw [ha] at h; cases h
    | some x =>
      rw [ha] at h
      obtain ⟨_, _, _, _, a, b, c, d, _, rfl, _⟩ := address_some ha
      cases h
      exact ⟨a, b, c, d, rfl, rfl⟩
  · rename_i hf
    split at h
    · rename_i hn; cases h; exact .inr ⟨by simpa using hf, hn, rfl⟩
    · cases h
theorem host_none {l : List UInt8} (h : readHost l = none) :
    (allB fig (lastPart l) = true ∧ address l = none) ∨ (allB fig (lastPart l) = false ∧ nameOk (lower l) = false) := by
  unfold readHost at h
  split at h
  · rename_i hf
    refine .inl ⟨hf, ?_⟩
    cases ha : address l with
    | none => rfl
    | some x => rw [ha] at h; cases h
  · rename_i hf
    split at h
    · cases h
    · rename_i hn; exact .inr ⟨by simpa using hf, by simpa using hn⟩

set_option maxHeartbeats 800000 in
theorem readHost_yes (s : ByteArray) (w : World) (hs : s.size < 4294967281) (nm : List UInt8) (a b c d : Nat) (h : readHost s.data.toList = some (nm, [a, b, c, d])) :
    Calls Tryz.prog 174 #[.string s] w fun e w' => e = .returned (hostV nm a b c d) ∧ Q w w' := by
  obtain ⟨i, hi, hx, hl⟩ := last_cut s
  have HX := show Hid _ from hx
  have HL := show Hid _ from hl
  have hsl : (s.extract i s.size).size ≤ maxLen := by
    rw [ByteArray.size_extract]; unfold maxLen; omega
  have hi1 : (0 : Int) ≤ (i : Int) := by omega
  have hi2 : (i : Int) ≤ (s.size : Int) := by omega
  clear hx hl
  rcases host_some h with ⟨hf, a', b', c', d', ha, hr⟩ | ⟨hf, hn, hr⟩
  · cases hr
    have HF := show Hid _ from hf
    have HA := show Hid _ from ha
    clear hf ha h
    go_enter Tryz.func174, Tryz.ntmps174
    go_wp2_with (first | (go_at_call 211; refine (Tryz.strings_LastIndexByte s 46 (by omega) _).mono ?_; rintro e w' ⟨rfl, rfl⟩; rw [HX.out]) | (go_at_call 123; refine (all_fig _ _ hsl).mono ?_; rintro e w' ⟨rfl, rfl⟩; rw [HL.out, HF.out]) | (go_at_call 193; refine (readAddress_yes s _ hs a b c d HA.out).mono ?_; rintro e w' ⟨rfl, hq⟩; obtain ⟨hcl, hfr, hz⟩ := hq.made))
    obtain ⟨hcl, _, _⟩ := hq.made
    have hQ : Q w w' := ((Q.refl w).alloc _).trans hq
    refine bodyPost_ret (v := hostV [] a b c d) (by simp [results, Tryz.results174, go_sem, hcl, hostV, str]) rfl ⟨rfl, ?_⟩
    iterate 5 refine Q.setCell ?_ (Nat.le_refl _) _
    exact hQ
  · cases hr
    have HF := show Hid _ from hf
    have HN := show Hid _ from hn
    clear hf hn h
    have hs1 : (⟨(lower s.data.toList).toArray⟩ : ByteArray).size < 4294967281 := by rw [mk_size, lower_len, size_len]; exact hs
    go_enter Tryz.func174, Tryz.ntmps174
    go_wp2_with (first | (go_at_call 211; refine (Tryz.strings_LastIndexByte s 46 (by omega) _).mono ?_; rintro e w' ⟨rfl, rfl⟩; rw [HX.out]) | (go_at_call 123; refine (all_fig _ _ hsl).mono ?_; rintro e w' ⟨rfl, rfl⟩; rw [HL.out, HF.out]))
    refine (lower_any s _ (by omega)).mono ?_
    rintro e w1 ⟨rfl, hq1⟩
    go_wp2_with fail
    refine (name_yes ⟨(lower s.data.toList).toArray⟩ _ hs1 HN.out).mono ?_
    rintro e w2 ⟨rfl, hq2⟩
    have hq := hq1.trans hq2
    obtain ⟨hcl, hfr, hz⟩ := hq.made
    have hQ : Q w w2 := ((Q.refl w).alloc _).trans hq
    clear hq1 hq2 hq
    go_wp2_with fail
    refine bodyPost_ret (v := hostV (lower s.data.toList) 0 0 0 0) (by simp [results, Tryz.results174, go_sem, hcl, hostV, str]) rfl ⟨rfl, ?_⟩
    iterate 5 refine Q.setCell ?_ (Nat.le_refl _) _
    exact hQ

set_option maxHeartbeats 800000 in
theorem readHost_no (s : ByteArray) (w : World) (hs : s.size < 4294967281) (h : readHost s.data.toList = none) :
    Calls Tryz.prog 174 #[.string s] w fun e w' => Dies e ∧ Q w w' := by
  obtain ⟨i, hi, hx, hl⟩ := last_cut s
  have HX := show Hid _ from hx
  have HL := show Hid _ from hl
  have hsl : (s.extract i s.size).size ≤ maxLen := by
    rw [ByteArray.size_extract]; unfold maxLen; omega
  have hi1 : (0 : Int) ≤ (i : Int) := by omega
  have hi2 : (i : Int) ≤ (s.size : Int) := by omega
  clear hx hl
  rcases host_none h with ⟨hf, ha⟩ | ⟨hf, hn⟩
  · have HF := show Hid _ from hf
    have HA := show Hid _ from ha
    clear hf ha h
    go_enter Tryz.func174, Tryz.ntmps174
    go_wp2_with (first | (go_at_call 211; refine (Tryz.strings_LastIndexByte s 46 (by omega) _).mono ?_; rintro e w' ⟨rfl, rfl⟩; rw [HX.out]) | (go_at_call 123; refine (all_fig _ _ hsl).mono ?_; rintro e w' ⟨rfl, rfl⟩; rw [HL.out, HF.out]) | (go_at_call 193; refine (readAddress_no s _ hs HA.out).mono ?_; rintro e w' ⟨⟨t, v, rfl⟩, hq⟩))
    exact ⟨rfl, ⟨_, _, rfl⟩, ((Q.refl _).alloc _).trans hq⟩
  · have HF := show Hid _ from hf
    have HN := show Hid _ from hn
    clear hf hn h
    have hs1 : (⟨(lower s.data.toList).toArray⟩ : ByteArray).size < 4294967281 := by rw [mk_size, lower_len, size_len]; exact hs
    go_enter Tryz.func174, Tryz.ntmps174
    go_wp2_with (first | (go_at_call 211; refine (Tryz.strings_LastIndexByte s 46 (by omega) _).mono ?_; rintro e w' ⟨rfl, rfl⟩; rw [HX.out]) | (go_at_call 123; refine (all_fig _ _ hsl).mono ?_; rintro e w' ⟨rfl, rfl⟩; rw [HL.out, HF.out]))
    refine (lower_any s _ (by omega)).mono ?_
    rintro e w1 ⟨rfl, hq1⟩
    go_wp2_with fail
    refine (name_no ⟨(lower s.data.toList).toArray⟩ _ hs1 HN.out).mono ?_
    rintro e w2 ⟨⟨t, v, rfl⟩, hq2⟩
    exact ⟨rfl, ⟨_, _, rfl⟩, ((Q.refl _).alloc _).trans (hq1.trans hq2)⟩
end Go.Proofs.YtdmaffciijmdcaaGreatDoor
/-
  Package heads: which bytes are of a name and of a value; the first line, a field.
-/
namespace Go.Proofs.YtdmaffciijmdcaaGreatDoor
open Go.RowKit Plain

set_option maxHeartbeats 400000 in
theorem isOfName_any (c : UInt8) (w : World) :
    Calls Tryz.prog 208 #[.int .u8 (c.toNat : Int)] w fun e w' => e = .returned (.bool (ofName c)) ∧ w' = w := by
  unfold ofName
  cases h1 : small c <;> cases h4 : great c <;> cases h2 : fig c <;> cases h3 : ((c.toNat : Int) == 45)
  all_goals
    go_enter Tryz.func208, Tryz.ntmps208
    go_wp2_with (first | (go_at_call 162; refine (isSmall_any c _).mono ?_; rintro e w' ⟨rfl, rfl⟩; rw [h1]) | (go_at_call 207; refine (isGreat_any c _).mono ?_; rintro e w' ⟨rfl, rfl⟩; rw [h4]) | (go_at_call 203; refine (isFigure_any c _).mono ?_; rintro e w' ⟨rfl, rfl⟩; rw [h2]))
    go_ret
    exact ⟨by simp, rfl⟩

set_option maxHeartbeats 400000 in
theorem isOfValue_any (c : UInt8) (w : World) :
    Calls Tryz.prog 209 #[.int .u8 (c.toNat : Int)] w fun e w' => e = .returned (.bool (ofValue c)) ∧ w' = w := by
  unfold ofValue
  cases h1 : seenB c <;> cases h3 : ((c.toNat : Int) == 32)
  all_goals
    go_enter Tryz.func209, Tryz.ntmps209
    go_wp2_with (first | (go_at_call 124; refine (isSeen_any c _).mono ?_; rintro e w' ⟨rfl, rfl⟩; rw [h1]))
    go_ret
    exact ⟨by simp, rfl⟩

set_option maxHeartbeats 400000 in
theorem all_name (s : ByteArray) (w : World) (hs : s.size ≤ maxLen) :
    Calls Tryz.prog 123 #[.string s, .func (.func 208) #[] #[]] w fun e w' => e = .returned (.bool (allB ofName s.data.toList)) ∧ w' = w := by
  unfold maxLen at hs
  go_enter Tryz.func123, Tryz.ntmps123
  go_wp2
  go_loop [8, 5] (fun i _ => ∃ k : Nat, k ≤ s.size ∧ i = .int .i64 k ∧ Hid (allB ofName (s.data.toList.take k) = true)) (fun i _ => s.size - (intOf i).toNat)
  case atStart => exact ⟨0, Nat.zero_le _, rfl, rfl⟩
  case round =>
    obtain ⟨k, hk, rfl, hall⟩ := hrel
    by_cases hlt : k < s.size
    · cases hb : ofName s[k]
      · have hfin := (all_stop (p := ofName) s k hlt hb)
        go_wp2_with (go_at_call 208; refine (isOfName_any _ _).mono ?_; rintro e w' ⟨rfl, rfl⟩; rw [hb])
        go_ret
        exact ⟨ret_bool hfin.symm, rfl⟩
      · go_wp2_with (go_at_call 208; refine (isOfName_any _ _).mono ?_; rintro e w' ⟨rfl, rfl⟩; rw [hb])
        exact ⟨⟨k + 1, by omega, by go_num, all_step s k hlt hall hb⟩, by simp [intOf]; omega⟩
    · go_wp2
      go_ret
      exact ⟨ret_bool (all_full s k (by omega) hall).symm, rfl⟩

set_option maxHeartbeats 400000 in
theorem all_value (s : ByteArray) (w : World) (hs : s.size ≤ maxLen) :
    Calls Tryz.prog 123 #[.string s, .func (.func 209) #[] #[]] w fun e w' => e = .returned (.bool (allB ofValue s.data.toList)) ∧ w' = w := by
  unfold maxLen at hs
  go_enter Tryz.func123, Tryz.ntmps123
  go_wp2
  go_loop [8, 5] (fun i _ => ∃ k : Nat, k ≤ s.size ∧ i = .int .i64 k ∧ Hid (allB ofValue (s.data.toList.take k) = true)) (fun i _ => s.size - (intOf i).toNat)
  case atStart => exact ⟨0, Nat.zero_le _, rfl, rfl⟩
  case round =>
    obtain ⟨k, hk, rfl, hall⟩ := hrel
    by_cases hlt : k < s.size
    · cases hb : ofValue s[k]
      · have hfin := (all_stop (p := ofValue) s k hlt hb)
        go_wp2_with (go_at_call 209; refine (isOfValue_any _ _).mono ?_; rintro e w' ⟨rfl, rfl⟩; rw [hb])
        go_ret
        exact ⟨ret_bool hfin.symm, rfl⟩
      · go_wp2_with (go_at_call 209; refine (isOfValue_any _ _).mono ?_; rintro e w' ⟨rfl, rfl⟩; rw [hb])
        exact ⟨⟨k + 1, by omega, by go_num, all_step s k hlt hall hb⟩, by simp [intOf]; omega⟩
    · go_wp2
      go_ret
      exact ⟨ret_bool (all_full s k (by omega) hall).symm, rfl⟩


theorem eq_list (s : ByteArray) (l : List UInt8) : (s.toList == l) = (s.data.toList == l) := by rw [Lib.toList_data]

/-- A method and a target, no fields. -/
def headV (m t : List UInt8) (fs : Value) : Value := .agg #[str m, str t, fs]

theorem first_cases (l : List UInt8) : (∃ m t v, parts 32 l = [m, t, v]) ∨ ((parts 32 l).length ≠ 3 ∧ firstS l = none) := by
  unfold firstS
  rcases h : parts 32 l with _ | ⟨a, _ | ⟨b, _ | ⟨c, _ | ⟨d, r⟩⟩⟩⟩
  · exact .inr ⟨by simp, rfl⟩
  · exact .inr ⟨by simp, rfl⟩
  · exact .inr ⟨by simp, rfl⟩
  · exact .inl ⟨a, b, c, rfl⟩
  · exact .inr ⟨by simp, rfl⟩

def FirstPost (l : List UInt8) (w : World) (e : Ending) (w' : World) : Prop :=
  Q w w' ∧ ((∃ m t, firstS l = some (m, t) ∧ e = .returned (headV m t (.slice none 0 0))) ∨ (firstS l = none ∧ Dies e))

theorem isEmpty_ba (l : List UInt8) : (⟨l.toArray⟩ : ByteArray).toList.isEmpty = l.isEmpty := by rw [Lib.toList_data]
theorem part_len {c : UInt8} {l p : List UInt8} (h : p ∈ parts c l) : p.length ≤ l.length := parts_le c l p h

set_option maxRecDepth 100000 in
set_option maxHeartbeats 1600000 in
theorem readFirst_any (s : ByteArray) (w : World) (hs : s.size < 4294967281) :
    Calls Tryz.prog 171 #[.string s] w fun e w' => FirstPost s.data.toList w e w' := by
  rcases first_cases s.data.toList with ⟨m, t, v, hp⟩ | ⟨hlen, hnone⟩
  · obtain ⟨M, rfl⟩ : ∃ M : ByteArray, M.data.toList = m := ⟨⟨m.toArray⟩, rfl⟩
    obtain ⟨T, rfl⟩ : ∃ M : ByteArray, M.data.toList = t := ⟨⟨t.toArray⟩, rfl⟩
    obtain ⟨V, rfl⟩ : ∃ M : ByteArray, M.data.toList = v := ⟨⟨v.toArray⟩, rfl⟩
    have hF : firstS s.data.toList = if firstOk M.data.toList T.data.toList V.data.toList = true then some (M.data.toList, T.data.toList) else none := by unfold firstS; rw [hp]
    have hm : M.size ≤ s.size := by rw [← size_len s, ← size_len M]; exact part_len (c := 32) (by rw [hp]; simp)
    have ht : T.size ≤ s.size := by rw [← size_len s, ← size_len T]; exact part_len (c := 32) (by rw [hp]; simp)
    have HF := show Hid _ from hF
    clear hF
    have hSp := fun x => split_one s 32 x hs
    rw [hp] at hSp
    have HSp := fun x => show Hid _ from hSp x
    clear hSp hp
    have HG := fun x => show Hid _ from all_great M x (by unfold maxLen; omega)
    have HS := fun x => show Hid _ from all_seen T x (by unfold maxLen; omega)
    obtain ⟨b1, hb1⟩ : ∃ b, b = M.data.toList.isEmpty := ⟨_, rfl⟩
    obtain ⟨b2, hb2⟩ : ∃ b, b = allB great M.data.toList := ⟨_, rfl⟩
    obtain ⟨b3, hb3⟩ : ∃ b, b = T.data.toList.isEmpty := ⟨_, rfl⟩
    obtain ⟨b4, hb4⟩ : ∃ b, b = allB seenB T.data.toList := ⟨_, rfl⟩
    obtain ⟨b5, hb5⟩ : ∃ b, b = (V.data.toList == http11) := ⟨_, rfl⟩
    obtain ⟨b6, hb6⟩ : ∃ b, b = (V.data.toList == http10) := ⟨_, rfl⟩
    have hok : firstOk M.data.toList T.data.toList V.data.toList = ((!b1 && b2) && (!b3 && b4) && (b5 || b6)) := by unfold firstOk; rw [hb1, hb2, hb3, hb4, hb5, hb6]
    have e1 : M.toList.isEmpty = b1 := by rw [hb1, Lib.toList_data]
    have e3 : T.toList.isEmpty = b3 := by rw [hb3, Lib.toList_data]
    have e5 : (V.toList == [72, 84, 84, 80, 47, 49, 46, 49]) = b5 := by rw [hb5, eq_list]; rfl
    have e6 : (V.toList == [72, 84, 84, 80, 47, 49, 46, 48]) = b6 := by rw [hb6, eq_list]; rfl
    have HE2 : Hid (allB great M.data.toList = b2) := hb2.symm
    have HE4 : Hid (allB seenB T.data.toList = b4) := hb4.symm
    have HOK := show Hid _ from hok
    clear hb1 hb2 hb3 hb4 hb5 hb6 hok
    go_enter Tryz.func171, Tryz.ntmps171
    go_wp2_with fail
    refine Calls.mono (Hid.out (HSp _)) ?_
    rintro e w1 ⟨cs, rfl, hw1, hcs⟩
    have g0 : cs[0]? = some (.string M) := hcs 0 (by simp)
    have g1 : cs[1]? = some (.string T) := hcs 1 (by simp)
    have g2 : cs[2]? = some (.string V) := hcs 2 (by simp)
    clear hcs HSp
    subst hw1
    simp only [List.length_cons, List.length_nil]
    go_wp2_with (first | (go_at_call_of 88 (Value.bool true); refine (must_yes _ _).mono ?_; rintro e w' ⟨rfl, rfl⟩))
    go_region
    cases b1
    case true =>
      go_wp2_with (first | (go_at_call_of 88 (Value.bool true); refine (must_yes _ _).mono ?_; rintro e w' ⟨rfl, rfl⟩) | (go_at_call_of 88 (Value.bool false); refine (must_no _ _).mono ?_; rintro e w' ⟨⟨u, x, rfl⟩, rfl⟩) | (go_at_call_of 123 (Value.string M); refine Calls.mono (Hid.out (HG _)) ?_; rintro e w' ⟨rfl, rfl⟩; rw [HE2.out]) | (go_at_call_of 123 (Value.string T); refine Calls.mono (Hid.out (HS _)) ?_; rintro e w' ⟨rfl, rfl⟩; rw [HE4.out]))
      exact ⟨rfl, ((Q.refl _).alloc _).alloc _ |>.drew, .inr ⟨by rw [HF.out, HOK.out]; simp, ⟨_, _, rfl⟩⟩⟩
    cases b2
    case false =>
      go_wp2_with (first | (go_at_call_of 88 (Value.bool true); refine (must_yes _ _).mono ?_; rintro e w' ⟨rfl, rfl⟩) | (go_at_call_of 88 (Value.bool false); refine (must_no _ _).mono ?_; rintro e w' ⟨⟨u, x, rfl⟩, rfl⟩) | (go_at_call_of 123 (Value.string M); refine Calls.mono (Hid.out (HG _)) ?_; rintro e w' ⟨rfl, rfl⟩; rw [HE2.out]) | (go_at_call_of 123 (Value.string T); refine Calls.mono (Hid.out (HS _)) ?_; rintro e w' ⟨rfl, rfl⟩; rw [HE4.out]))
      exact ⟨rfl, ((Q.refl _).alloc _).alloc _ |>.drew, .inr ⟨by rw [HF.out, HOK.out]; simp, ⟨_, _, rfl⟩⟩⟩
    cases b3
    case true =>
      go_wp2_with (first | (go_at_call_of 88 (Value.bool true); refine (must_yes _ _).mono ?_; rintro e w' ⟨rfl, rfl⟩) | (go_at_call_of 88 (Value.bool false); refine (must_no _ _).mono ?_; rintro e w' ⟨⟨u, x, rfl⟩, rfl⟩) | (go_at_call_of 123 (Value.string M); refine Calls.mono (Hid.out (HG _)) ?_; rintro e w' ⟨rfl, rfl⟩; rw [HE2.out]) | (go_at_call_of 123 (Value.string T); refine Calls.mono (Hid.out (HS _)) ?_; rintro e w' ⟨rfl, rfl⟩; rw [HE4.out]))
      exact ⟨rfl, ((Q.refl _).alloc _).alloc _ |>.drew, .inr ⟨by rw [HF.out, HOK.out]; simp, ⟨_, _, rfl⟩⟩⟩
    cases b4
    case false =>
      go_wp2_with (first | (go_at_call_of 88 (Value.bool true); refine (must_yes _ _).mono ?_; rintro e w' ⟨rfl, rfl⟩) | (go_at_call_of 88 (Value.bool false); refine (must_no _ _).mono ?_; rintro e w' ⟨⟨u, x, rfl⟩, rfl⟩) | (go_at_call_of 123 (Value.string M); refine Calls.mono (Hid.out (HG _)) ?_; rintro e w' ⟨rfl, rfl⟩; rw [HE2.out]) | (go_at_call_of 123 (Value.string T); refine Calls.mono (Hid.out (HS _)) ?_; rintro e w' ⟨rfl, rfl⟩; rw [HE4.out]))
      exact ⟨rfl, ((Q.refl _).alloc _).alloc _ |>.drew, .inr ⟨by rw [HF.out, HOK.out]; simp, ⟨_, _, rfl⟩⟩⟩
    cases b5
    case true =>
      go_wp2_with (first | (go_at_call_of 88 (Value.bool true); refine (must_yes _ _).mono ?_; rintro e w' ⟨rfl, rfl⟩) | (go_at_call_of 88 (Value.bool false); refine (must_no _ _).mono ?_; rintro e w' ⟨⟨u, x, rfl⟩, rfl⟩) | (go_at_call_of 123 (Value.string M); refine Calls.mono (Hid.out (HG _)) ?_; rintro e w' ⟨rfl, rfl⟩; rw [HE2.out]) | (go_at_call_of 123 (Value.string T); refine Calls.mono (Hid.out (HS _)) ?_; rintro e w' ⟨rfl, rfl⟩; rw [HE4.out]))
      refine bodyPost_ret (v := headV M.data.toList T.data.toList (.slice none 0 0)) (by simp [results, Tryz.results171, go_sem, headV, str]) rfl ⟨((Q.refl _).alloc _).alloc _ |>.drew, .inl ⟨_, _, by rw [HF.out, HOK.out]; rfl, rfl⟩⟩
    cases b6
    case false =>
      go_wp2_with (first | (go_at_call_of 88 (Value.bool true); refine (must_yes _ _).mono ?_; rintro e w' ⟨rfl, rfl⟩) | (go_at_call_of 88 (Value.bool false); refine (must_no _ _).mono ?_; rintro e w' ⟨⟨u, x, rfl⟩, rfl⟩) | (go_at_call_of 123 (Value.string M); refine Calls.mono (Hid.out (HG _)) ?_; rintro e w' ⟨rfl, rfl⟩; rw [HE2.out]) | (go_at_call_of 123 (Value.string T); refine Calls.mono (Hid.out (HS _)) ?_; rintro e w' ⟨rfl, rfl⟩; rw [HE4.out]))
      exact ⟨rfl, ((Q.refl _).alloc _).alloc _ |>.drew, .inr ⟨by rw [HF.out, HOK.out]; simp, ⟨_, _, rfl⟩⟩⟩
    go_wp2_with (first | (go_at_call_of 88 (Value.bool true); refine (must_yes _ _).mono ?_; rintro e w' ⟨rfl, rfl⟩) | (go_at_call_of 88 (Value.bool false); refine (must_no _ _).mono ?_; rintro e w' ⟨⟨u, x, rfl⟩, rfl⟩) | (go_at_call_of 123 (Value.string M); refine Calls.mono (Hid.out (HG _)) ?_; rintro e w' ⟨rfl, rfl⟩; rw [HE2.out]) | (go_at_call_of 123 (Value.string T); refine Calls.mono (Hid.out (HS _)) ?_; rintro e w' ⟨rfl, rfl⟩; rw [HE4.out]))
    refine bodyPost_ret (v := headV M.data.toList T.data.toList (.slice none 0 0)) (by simp [results, Tryz.results171, go_sem, headV, str]) rfl ⟨((Q.refl _).alloc _).alloc _ |>.drew, .inl ⟨_, _, by rw [HF.out, HOK.out]; rfl, rfl⟩⟩
  · have hl : decide (((parts 32 s.data.toList).length : Int) = 3) = false := decide_eq_false (by omega)
    have hl2 : (((parts 32 s.data.toList).length : Int) == 3) = false := by rw [beq_eq_false_iff_ne]; omega
    have HN := show Hid _ from hnone
    have HSp := fun x => show Hid _ from split_one s 32 x hs
    clear hnone hlen
    generalize (parts 32 s.data.toList).length = n at *
    go_enter Tryz.func171, Tryz.ntmps171
    go_wp2_with fail
    refine Calls.mono (Hid.out (HSp _)) ?_
    rintro e w1 ⟨cs, rfl, hw1, _⟩
    subst hw1
    go_wp2_with (first | (go_at_call_of 88 (Value.bool false); refine (must_no _ _).mono ?_; rintro e w' ⟨⟨t, v, rfl⟩, rfl⟩))
    exact ⟨rfl, ((Q.refl _).alloc _).alloc _, .inr ⟨HN.out, ⟨_, _, rfl⟩⟩⟩
end Go.Proofs.YtdmaffciijmdcaaGreatDoor
/-
  Rules as plain data: how a line is read, and what fits.
-/
namespace Go.Proofs.YtdmaffciijmdcaaGreatDoor.Plain

def firstN (n : Nat) : List Nat → List Nat
  | [a, b, c, d] => [keep (min 8 n) a, keep (min 8 (n - 8)) b, keep (min 8 (n - 16)) c, keep (min 8 (n - 24)) d]
  | l => l

/-- A field on hosts: 0: all; 1: a name; 2: a name and all below it; 3: addresses by their first bits. -/
structure HostP where
  kind : Nat
  nm : List UInt8
  ad : List Nat
  bits : Nat

structure RuleS where
  allow : Bool
  ten : Option (List UInt8)
  host : HostP
  port : Option (Nat × Nat)
  minute : Option (Nat × Nat)

def readVerd (l : List UInt8) : Option Bool := if l = [97, 108, 108, 111, 119] then some true else if l = [100, 101, 110, 121] then some false else none
def readTen (l : List UInt8) : Option (Option (List UInt8)) := if l = [42] then some none else if tenantOk l = true then some (some l) else none
def readNetP (a r : List UInt8) : Option HostP := match address a with
  | none => none
  | some ad => match number r 32 with
    | none => none
    | some n => if firstN n ad = ad then some ⟨3, [], ad, n⟩ else none
def readHostP (l : List UInt8) : Option HostP :=
  if l = [42] then some ⟨0, [], [], 0⟩ else match cutAt 47 l with
    | some (a, r) => readNetP a r
    | none => if l.head? = some 46 then (if nameOk l.tail = true then some ⟨2, l.tail, [], 0⟩ else none)
      else if nameOk l = true then some ⟨1, l, [], 0⟩ else none
def span (l : List UInt8) (hi : Nat) : Option (Nat × Nat) := match cutAt 45 l with
  | none => none
  | some (a, r) => match number a hi with
    | none => none
    | some x => match number r hi with
      | none => none
      | some y => some (x, y)
def readPortP (l : List UInt8) : Option (Option (Nat × Nat)) :=
  if l = [42] then some none else match cutAt 45 l with
    | none => match number l 65535 with
      | none => none
      | some n => some (some (n, n))
    | some _ => match span l 65535 with
      | none => none
      | some (x, y) => if x ≤ y then some (some (x, y)) else none
def readMinP (l : List UInt8) : Option (Option (Nat × Nat)) :=
  if l = [42] then some none else match span l 10079 with
    | none => none
    | some (x, y) => some (some (x, y))

def readRule (l : List UInt8) : Option RuleS := match parts 32 l with
  | [f0, f1, f2, f3, f4] => match readVerd f0 with
    | none => none
    | some v => match readTen f1 with
      | none => none
      | some t => match readHostP f2 with
        | none => none
        | some h => match readPortP f3 with
          | none => none
          | some p => match readMinP f4 with
            | none => none
            | some m => some ⟨v, t, h, p, m⟩
  | _ => none

def tenFits (t : Option (List UInt8)) (q : List UInt8) : Bool := match t with
  | none => true
  | some o => q == o
def hostFits (p : HostP) (nm : List UInt8) (ad : List Nat) : Bool :=
  if p.kind = 0 then true else if p.kind = 1 then nm == p.nm else if p.kind = 2 then (nm == p.nm || Lib.hasSuffix nm (46 :: p.nm)) else (nm.isEmpty && firstN p.bits ad == p.ad)
def portFits (p : Option (Nat × Nat)) (n : Int) : Bool := match p with
  | none => true
  | some (a, b) => decide ((a : Int) ≤ n) && decide (n ≤ (b : Int))
def minFits (p : Option (Nat × Nat)) (n : Int) : Bool := match p with
  | none => true
  | some (a, b) => if b < a then (decide ((a : Int) ≤ n) || decide (n ≤ (b : Int))) else (decide ((a : Int) ≤ n) && decide (n ≤ (b : Int)))
def ruleFits (r : RuleS) (t nm : List UInt8) (ad : List Nat) (p m : Int) : Bool := tenFits r.ten t && hostFits r.host nm ad && portFits r.port p && minFits r.minute m
end Go.Proofs.YtdmaffciijmdcaaGreatDoor.Plain

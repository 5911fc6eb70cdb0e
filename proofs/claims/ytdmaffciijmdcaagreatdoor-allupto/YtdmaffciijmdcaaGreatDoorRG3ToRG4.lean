/-
  The document's answer: a field.
-/
import Derived.Test.YtdmaffciijmdcaaGreatDoorRMoreToRG2
import Derived.Lib.Split
namespace Go.Proofs.YtdmaffciijmdcaaGreatDoor
namespace Plain
theorem trimRight_cons (a : UInt8) (t : List UInt8) (c : UInt8) : Lib.trimRightB (a :: t) c = if Lib.trimRightB t c = [] then (if (a == c) = true then [] else [a]) else a :: Lib.trimRightB t c := by
  unfold Lib.trimRightB
  rw [List.reverse_cons, List.dropWhile_append]
  cases h : List.dropWhile (fun x => x == c) t.reverse with
  | nil =>
    simp only [List.isEmpty_nil, if_true, List.reverse_nil]
    by_cases ha : (a == c) = true
    · simp [ha]
    · simp [ha]
  | cons b l => simp
theorem trim_same (c : UInt8) : ∀ l : List UInt8, Lib.trimRightB (Lib.trimLeftB l c) c = Lib.trimB l c
  | [] => rfl
  | a :: t => by
    have ih := trim_same c t
    unfold Lib.trimB at ih ⊢
    rw [trimRight_cons]
    by_cases ha : (a == c) = true
    · have e : Lib.trimLeftB (a :: t) c = Lib.trimLeftB t c := by unfold Lib.trimLeftB; rw [List.dropWhile_cons, if_pos ha]
      rw [e, ih, if_pos ha]
      by_cases h : Lib.trimRightB t c = []
      · rw [if_pos h, h]
      · rw [if_neg h]
        unfold Lib.trimLeftB
        rw [List.dropWhile_cons, if_pos ha]
    · have e : Lib.trimLeftB (a :: t) c = a :: t := by unfold Lib.trimLeftB; rw [List.dropWhile_cons, if_neg ha]
      rw [e, trimRight_cons, if_neg ha]
      by_cases h : Lib.trimRightB t c = []
      · rw [if_pos h]
        unfold Lib.trimLeftB
        rw [List.dropWhile_cons, if_neg ha]
      · rw [if_neg h]
        unfold Lib.trimLeftB
        rw [List.dropWhile_cons, if_neg ha]
/-- What the document's answer makes of a line: a name, a value, whether it is a field. -/
def fieldR (l : List UInt8) : List UInt8 × List UInt8 × Bool := match cutAt 58 l with
  | none => ([], [], false)
  | some (n, v) => (n, Lib.trimRightB (Lib.trimLeftB v 32) 32, fnameS n && (v.isEmpty || spanS 32 126 v))
theorem field_same (l : List UInt8) : fieldS l = if (fieldR l).2.2 = true then some (lower (fieldR l).1, (fieldR l).2.1) else none := by
  unfold fieldS fieldR
  cases cutAt 58 l with
  | none => rfl
  | some x =>
    obtain ⟨n, v⟩ := x
    simp only
    rw [trim_same]
    have h1 : (v.isEmpty || spanS 32 126 v) = allB ofValue v := by
      unfold spanS
      rw [inB_value]
      cases v with
      | nil => rfl
      | cons a b => simp
    have h2 : fnameS n = (!n.isEmpty && allB ofName n) := by
      unfold fnameS
      cases n with
      | nil => rfl
      | cons a b => simp
    rw [h1, h2]
theorem field_hit {T : List UInt8} {k : Nat} (hk : T[k]? = some 58) (hno : (58 : UInt8) ∉ T.take k) : cutAt 58 T = some (T.take k, T.drop (k + 1)) := by
  obtain ⟨hlt, hc⟩ := List.getElem?_eq_some_iff.1 hk
  refine cutAt_some.2 ⟨?_, hno⟩
  rw [← hc, List.getElem_cons_drop hlt, List.take_append_drop]
theorem field_more {T : List UInt8} {k : Nat} {b : UInt8} (hk : T[k]? = some b) (hb : b ≠ 58) (hno : (58 : UInt8) ∉ T.take k) : (58 : UInt8) ∉ T.take (k + 1) := by
  obtain ⟨hlt, rfl⟩ := List.getElem?_eq_some_iff.1 hk
  rw [List.take_succ_eq_append_getElem hlt, List.mem_append]
  rintro (h | h)
  · exact hno h
  · exact hb (List.mem_singleton.1 h).symm
theorem field_miss {T : List UInt8} (hno : (58 : UInt8) ∉ T.take T.length) : cutAt 58 T = none := by
  rw [List.take_of_length_le (Nat.le_refl _)] at hno
  exact cutAt_none.2 hno
theorem pre_str (T : List UInt8) (k : Nat) : (⟨T.toArray⟩ : ByteArray).extract 0 k = ⟨(T.take k).toArray⟩ := by
  rw [mid_str]; simp
theorem left_cons (l : List UInt8) : Lib.trimLeftB (32 :: l) 32 = Lib.trimLeftB l 32 := by unfold Lib.trimLeftB; rw [List.dropWhile_cons, if_pos (by rfl)]
theorem left_stop {a : UInt8} {l : List UInt8} (h : a ≠ 32) : Lib.trimLeftB (a :: l) 32 = a :: l := by unfold Lib.trimLeftB; rw [List.dropWhile_cons, if_neg (by simpa using h)]
theorem right_snoc (l : List UInt8) : Lib.trimRightB (l ++ [32]) 32 = Lib.trimRightB l 32 := by unfold Lib.trimRightB; rw [List.reverse_append, List.reverse_singleton, List.singleton_append, List.dropWhile_cons, if_pos (by rfl)]
theorem right_stop {a : UInt8} {l : List UInt8} (h : a ≠ 32) : Lib.trimRightB (l ++ [a]) 32 = l ++ [a] := by unfold Lib.trimRightB; rw [List.reverse_append, List.reverse_singleton, List.singleton_append, List.dropWhile_cons, if_neg (by simpa using h), List.reverse_cons, List.reverse_reverse]
def startsB : List UInt8 → Bool
  | [] => false
  | a :: _ => a == 32
def endsB (l : List UInt8) : Bool := match l.getLast? with
  | none => false
  | some a => a == 32
theorem starts_yes {l : List UInt8} (h : startsB l = true) : ∃ t, l = 32 :: t := by
  cases l with
  | nil => cases h
  | cons a t => exact ⟨t, by rw [show a = 32 from beq_iff_eq.1 h]⟩
theorem starts_no {l : List UInt8} (h : startsB l = false) : Lib.trimLeftB l 32 = l := by
  cases l with
  | nil => rfl
  | cons a t => exact left_stop (by simpa [startsB] using h)
theorem ends_yes {l : List UInt8} (h : endsB l = true) : ∃ t, l = t ++ [32] := by
  rcases List.eq_nil_or_concat l with rfl | ⟨t, a, rfl⟩
  · cases h
  · refine ⟨t, ?_⟩
    rw [List.concat_eq_append] at h ⊢
    unfold endsB at h
    rw [List.getLast?_append] at h
    simp at h
    rw [h]
theorem ends_no {l : List UInt8} (h : endsB l = false) : Lib.trimRightB l 32 = l := by
  rcases List.eq_nil_or_concat l with rfl | ⟨t, a, rfl⟩
  · rfl
  · rw [List.concat_eq_append] at h ⊢
    unfold endsB at h
    rw [List.getLast?_append] at h
    simp at h
    exact right_stop h
theorem ends_at {l : List UInt8} {n : Nat} (hn : n + 1 = l.length) (h : n < l.length) : endsB l = (l[n] == 32) := by
  unfold endsB
  rw [List.getLast?_eq_getElem?, show l.length - 1 = n by omega, List.getElem?_eq_getElem h]
end Plain
open Go.RowKit Plain

theorem str_one_drop (a : UInt8) (l : List UInt8) : (⟨(a :: l).toArray⟩ : ByteArray).extract 1 (l.length + 1) = ⟨l.toArray⟩ := by
  have := str_drop0 (a :: l) 1
  simpa using this
theorem str_last_off (a : UInt8) (l : List UInt8) : (⟨(l ++ [a]).toArray⟩ : ByteArray).extract 0 l.length = ⟨l.toArray⟩ := by
  have := pre_str (l ++ [a]) l.length
  simpa using this

set_option maxRecDepth 100000 in
set_option maxHeartbeats 1600000 in
theorem rfield_any (T : List UInt8) (w : World) (hT : T.length ≤ 2097152) :
    Calls Tryz.prog 108 #[.string ⟨T.toArray⟩] w fun e w' => e = .returned (.tuple #[str (fieldR T).1, str (fieldR T).2.1, .bool (fieldR T).2.2]) ∧ Q w w' := by
  have hsz : (⟨T.toArray⟩ : ByteArray).size = T.length := rfl
  go_enter Tryz.func108, Tryz.ntmps108
  go_wp2_with fail
  go_loopw [5, 6, 7, 8] (fun i _ _ _ wr => ∃ k : Nat, k ≤ T.length ∧ i = .int .i64 k ∧ Hid ((58 : UInt8) ∉ T.take k) ∧ wr = w) (fun i _ _ _ _ => T.length - (intOf i).toNat)
  case atStart => exact ⟨0, Nat.zero_le _, rfl, (by simp : (58 : UInt8) ∉ T.take 0), rfl⟩
  case round =>
    obtain ⟨k, hk, rfl, hno, hwr⟩ := hrel
    rw [hwr]
    clear hwr
    by_cases hlt : k < T.length
    · have hget : T[k]? = some T[k] := List.getElem?_eq_getElem hlt
      by_cases hb : T[k] = 58
      · have hbt : (((⟨T.toArray⟩ : ByteArray)[k].toNat : Int) == 58) = true := by
          show (((T[k]).toNat : Int) == 58) = true
          rw [hb]; rfl
        have HC := show Hid _ from field_hit (hget.trans (by rw [hb])) hno.out
        have hx1 := pre_str T k
        have hx2 := str_drop0 T (k + 1)
        have hl1 : (T.take k).length ≤ 2097152 := by rw [List.length_take]; omega
        have hl2 : (T.drop (k + 1)).length ≤ 2097152 := by rw [List.length_drop]; omega
        clear hget hb hno
        generalize T.take k = N at *
        generalize T.drop (k + 1) = V at *
        have HR : Hid (fieldR T = (N, Lib.trimRightB (Lib.trimLeftB V 32) 32, fnameS N && (V.isEmpty || spanS 32 126 V))) := by
          show _ = _
          unfold fieldR; rw [HC.out]
        clear HC
        have HF := fun x => show Hid _ from rfieldName_any N x hl1
        have HS := fun x => show Hid _ from rspan_any V 32 126 x (by omega)
        go_wp2_with fail
        refine Calls.mono (Hid.out (HF _)) ?_
        rintro e w1 ⟨rfl, hq1⟩
        have HQ1 : Hid (Q w w1) := hq1
        clear HF hq1
        go_upto_region 7 with fail
        go_cut [8] (fun b wx => b = .bool (V.isEmpty || spanS 32 126 V) ∧ wx = w1)
        case first =>
          cases hV : V.isEmpty with
          | true =>
            go_wp2_with fail
            go_meet
            exact ⟨by rw [hV]; rfl, rfl⟩
          | false =>
            go_wp2_with fail
            refine Calls.mono (Hid.out (HS _)) ?_
            rintro e w2 ⟨rfl, hw⟩
            rw [hw]
            go_wp2_with fail
            go_meet
            exact ⟨by rw [hV]; rfl, rfl⟩
        case rest =>
          obtain ⟨rfl, hw⟩ := hcut
          rw [hw]
          clear HS hw
          generalize (V.isEmpty || spanS 32 126 V) = fine at *
          generalize fnameS N = named at *
          go_wp2_with fail
          go_loopw [6] (fun v wr => ∃ l : List UInt8, v = .string ⟨l.toArray⟩ ∧ l.length ≤ 2097152 ∧ Hid (Lib.trimLeftB l 32 = Lib.trimLeftB V 32) ∧ wr = w1) (fun v _ => strLen v)
          case atStart => exact ⟨V, rfl, hl2, rfl, rfl⟩
          case round =>
            obtain ⟨l, rfl, hl3, htr, hwr⟩ := hrel
            rw [hwr]
            clear hwr
            have hsl : (⟨l.toArray⟩ : ByteArray).size = l.length := rfl
            go_upto_region 8 with fail
            go_cut [40] (fun b wx => b = .bool (startsB l) ∧ wx = w1)
            case first =>
              cases l with
              | nil =>
                go_wp2_with fail
                go_meet
                exact ⟨rfl, rfl⟩
              | cons a t =>
                have hz : 0 < (⟨(a :: t).toArray⟩ : ByteArray).size := Nat.succ_pos _
                have h32 : (((⟨(a :: t).toArray⟩ : ByteArray)[0].toNat : Int) == 32) = startsB (a :: t) := by
                  show ((a.toNat : Int) == 32) = (a == 32)
                  rw [Bool.eq_iff_iff, beq_iff_eq, beq_iff_eq, ← UInt8.toNat_inj]
                  show _ ↔ a.toNat = 32
                  omega
                generalize startsB (a :: t) = sb at *
                have h0 : 0 < (a :: t).length := by simp
                clear htr
                generalize (a :: t) = l at *
                go_wp2_with fail
                go_meet
                exact ⟨rfl, rfl⟩
            case rest =>
              obtain ⟨rfl, hw⟩ := hcut
              rw [hw]
              clear hw
              cases hs : startsB l with
              | true =>
                obtain ⟨t, rfl⟩ := starts_yes hs
                have hex := str_one_drop 32 t
                have HT2 : Hid (Lib.trimLeftB t 32 = Lib.trimLeftB V 32) := (left_cons t).symm.trans htr.out
                have hlc : (32 :: t : List UInt8).length = t.length + 1 := rfl
                rw [hlc] at hsl hl3
                have HLt : Hid (strLen (.string ⟨t.toArray⟩) < strLen (.string ⟨(32 :: t).toArray⟩)) := Nat.lt_succ_self t.length
                clear hs htr hlc
                generalize (32 :: t : List UInt8) = l at hex hsl ⊢
                go_wp2_with fail
                exact ⟨⟨t, rfl, by omega, HT2, by trivial⟩, HLt.out⟩
              | false =>
                have HL3 : Hid (l = Lib.trimLeftB V 32) := (starts_no hs).symm.trans htr.out
                clear hs htr
                go_wp2_with fail
                go_loopw [6] (fun v wr => ∃ m : List UInt8, v = .string ⟨m.toArray⟩ ∧ m.length ≤ 2097152 ∧ Hid (Lib.trimRightB m 32 = Lib.trimRightB (Lib.trimLeftB V 32) 32) ∧ wr = w1) (fun v _ => strLen v)
                case atStart => exact ⟨l, rfl, hl3, by show _ = _; rw [HL3.out], rfl⟩
                case round =>
                  obtain ⟨m, rfl, hm3, htr, hwr⟩ := hrel
                  rw [hwr]
                  clear hwr hsl hl3 HL3
                  have hsm : (⟨m.toArray⟩ : ByteArray).size = m.length := rfl
                  go_upto_region 10 with fail
                  go_cut [53] (fun b wx => b = .bool (endsB m) ∧ wx = w1)
                  case first =>
                    by_cases h0 : m.length = 0
                    · have hm0 := List.eq_nil_of_length_eq_zero h0
                      subst hm0
                      go_wp2_with fail
                      go_meet
                      exact ⟨rfl, rfl⟩
                    · obtain ⟨n, hn⟩ : ∃ n, n + 1 = m.length := ⟨m.length - 1, by omega⟩
                      have hnl : n < m.length := by omega
                      have hz : n < (⟨m.toArray⟩ : ByteArray).size := hnl
                      have h32 : (((⟨m.toArray⟩ : ByteArray)[n].toNat : Int) == 32) = endsB m := by
                        rw [ends_at hn hnl]
                        show (((m[n]).toNat : Int) == 32) = (m[n] == 32)
                        rw [Bool.eq_iff_iff, beq_iff_eq, beq_iff_eq, ← UInt8.toNat_inj]
                        show _ ↔ (m[n]).toNat = 32
                        omega
                      have hsub : ((m.length : Nat) : Int) - 1 = (n : Int) := by omega
                      have hpos : 0 < m.length := by omega
                      generalize endsB m = eb at *
                      clear htr hn
                      go_wp2_with fail
                      go_meet
                      exact ⟨rfl, rfl⟩
                  case rest =>
                    obtain ⟨rfl, hw⟩ := hcut
                    rw [hw]
                    clear hw
                    cases hs : endsB m with
                    | true =>
                      obtain ⟨t, rfl⟩ := ends_yes hs
                      have hex := str_last_off 32 t
                      have HT2 : Hid (Lib.trimRightB t 32 = Lib.trimRightB (Lib.trimLeftB V 32) 32) := (right_snoc t).symm.trans htr.out
                      have hlc : (t ++ [32] : List UInt8).length = t.length + 1 := by simp
                      rw [hlc] at hsm hm3
                      have HLt : Hid (strLen (.string ⟨t.toArray⟩) < strLen (.string ⟨(t ++ [32]).toArray⟩)) := by
                        show t.length < (t ++ [32]).length
                        rw [hlc]; exact Nat.lt_succ_self _
                      clear hs htr hlc
                      generalize (t ++ [32] : List UInt8) = m at hex hsm ⊢
                      have hsub : ((t.length + 1 : Nat) : Int) - 1 = ((t.length : Nat) : Int) := by omega
                      go_wp2_with fail
                      exact ⟨⟨t, rfl, by omega, HT2, by trivial⟩, HLt.out⟩
                    | false =>
                      have HM : Hid (m = Lib.trimRightB (Lib.trimLeftB V 32) 32) := (ends_no hs).symm.trans htr.out
                      clear hs htr
                      cases named
                      all_goals
                        go_wp2_with fail
                        go_ret3
                        rw [HR.out, ← HM.out]
                        exact ⟨rfl, HQ1.out⟩
      · have hbt : (((⟨T.toArray⟩ : ByteArray)[k].toNat : Int) == 58) = false := by
          show (((T[k]).toNat : Int) == 58) = false
          rw [beq_eq_false_iff_ne]
          exact fun h => hb (UInt8.toNat_inj.1 (by show (T[k]).toNat = 58; omega))
        have HN := show Hid _ from field_more hget hb hno.out
        clear hget hb
        go_wp2_with fail
        exact ⟨⟨k + 1, by omega, by go_num, HN, by trivial⟩, by simp [intOf]; omega⟩
    · have hkT : k = T.length := by omega
      subst hkT
      have HC := show Hid _ from field_miss hno.out
      have HR : Hid (fieldR T = ([], [], false)) := by
        show _ = _
        unfold fieldR; rw [HC.out]
      clear HC hno
      go_wp2_with fail
      go_ret3
      rw [HR.out]
      exact ⟨rfl, Q.refl w⟩
end Go.Proofs.YtdmaffciijmdcaaGreatDoor
/-
  The document's answer: the lines of a head.
-/
namespace Go.Proofs.YtdmaffciijmdcaaGreatDoor
namespace Plain
def consHead (a : UInt8) : List (List UInt8) → List (List UInt8)
  | [] => [[a]]
  | p :: ps => (a :: p) :: ps
/-- A text cut at each CR LF. -/
def splitCR : List UInt8 → List (List UInt8)
  | [] => [[]]
  | [a] => [[a]]
  | a :: b :: t => if a = 13 ∧ b = 10 then [] :: splitCR t else consHead a (splitCR (b :: t))
def crAt (l : List UInt8) (j : Nat) : Prop := l[j]? = some 13 ∧ l[j + 1]? = some 10
theorem splitCR_ne : ∀ l, splitCR l ≠ []
  | [] => by simp [splitCR]
  | [a] => by simp [splitCR]
  | a :: b :: t => by
    unfold splitCR
    split
    · simp
    · cases splitCR (b :: t) <;> simp [consHead]
theorem splitCR_first (r : List UInt8) : ∀ p : List UInt8, (∀ j, j < p.length → ¬ crAt (p ++ 13 :: 10 :: r) j) → splitCR (p ++ 13 :: 10 :: r) = p :: splitCR r
  | [], _ => by simp [splitCR]
  | [a], h => by
    have h0 := h 0 (by simp)
    have ih := splitCR_first r [] (by simp)
    rw [List.nil_append] at ih
    rw [List.singleton_append, splitCR, if_neg (by rintro ⟨_, h2⟩; cases h2), ih]
    rfl
  | a :: b :: p, h => by
    have h0 := h 0 (by simp)
    have ih := splitCR_first r (b :: p) (fun j hj hc => h (j + 1) (by simp at hj ⊢; omega) (by simpa [crAt] using hc))
    rw [List.cons_append, List.cons_append, splitCR, if_neg (by
      rintro ⟨h1, h2⟩
      exact h0 (by simp [crAt, h1, h2]))]
    rw [← List.cons_append, ih]
    rfl
theorem splitCR_alone : ∀ p : List UInt8, (∀ j, ¬ crAt p j) → splitCR p = [p]
  | [], _ => rfl
  | [a], _ => rfl
  | a :: b :: t, h => by
    have ih := splitCR_alone (b :: t) (fun j hc => h (j + 1) (by simpa [crAt] using hc))
    rw [splitCR, if_neg (by
      rintro ⟨h1, h2⟩
      exact h 0 (by simp [crAt, h1, h2])), ih]
    rfl
theorem splitCR_snoc : ∀ X : List UInt8, splitCR (X ++ [13, 10]) = splitCR X ++ [[]]
  | [] => rfl
  | [a] => by
    show splitCR [a, 13, 10] = _
    unfold splitCR
    rw [if_neg (by rintro ⟨_, h2⟩; cases h2)]
    rfl
  | a :: b :: t => by
    have i1 := splitCR_snoc t
    have i2 := splitCR_snoc (b :: t)
    rw [List.cons_append, List.cons_append, splitCR, splitCR]
    by_cases h : a = 13 ∧ b = 10
    · rw [if_pos h, if_pos h, i1]; rfl
    · rw [if_neg h, if_neg h, ← List.cons_append, i2]
      cases hs : splitCR (b :: t) with
      | nil => exact absurd hs (splitCR_ne _)
      | cons p ps => rfl
theorem occ_cr (l : List UInt8) (j : Nat) : Lib.occAt l [13, 10] j = true ↔ crAt l j := by
  unfold Lib.occAt crAt
  have e0 : l[j]? = (l.drop j)[0]? := by simp
  have e1 : l[j + 1]? = (l.drop j)[1]? := by simp
  rw [e0, e1]
  cases l.drop j with
  | nil => simp [List.isPrefixOf]
  | cons a t =>
    cases t with
    | nil => simp [List.isPrefixOf]
    | cons b t =>
      simp [List.isPrefixOf]
      constructor <;> (rintro ⟨h1, h2⟩; exact ⟨h1.symm, h2.symm⟩)
theorem split_same (l : List UInt8) : Lib.split l [13, 10] = splitCR l := by
  rcases Lib.index_spec l [13, 10] with ⟨h1, h2⟩ | ⟨i, h1, h2, h3, h4⟩
  · have e : Lib.split l [13, 10] = [l] := by
      unfold Lib.split
      rw [Lib.count_miss h1]
      rfl
    rw [e, splitCR_alone]
    intro j hc
    have hj : j ≤ l.length := by
      have := (List.getElem?_eq_some_iff.1 hc.1).1
      omega
    have := h2 j hj
    rw [(occ_cr l j).2 hc] at this
    cases this
  · have hc := (occ_cr l i).1 h3
    obtain ⟨hi, e1⟩ := List.getElem?_eq_some_iff.1 hc.1
    obtain ⟨hi2, e2⟩ := List.getElem?_eq_some_iff.1 hc.2
    have hl : l = l.take i ++ 13 :: 10 :: l.drop (i + 2) := by
      conv => lhs; rw [← List.take_append_drop i l]
      rw [← List.getElem_cons_drop hi, e1, ← List.getElem_cons_drop hi2, e2]
    have ih := split_same (l.drop (i + 2))
    have e : Lib.split l [13, 10] = l.take i :: Lib.split (l.drop (i + 2)) [13, 10] := by
      unfold Lib.split
      rw [Lib.count_hit (by simp) h1, Nat.add_comm, Lib.splitK, h1]
      have hne : ((i : Nat) : Int) ≠ -1 := by omega
      simp [hne]
    rw [e, ih]
    have hlt : (l.take i).length = i := by rw [List.length_take]; omega
    have := splitCR_first (l.drop (i + 2)) (l.take i) (fun j hj hcr => by
      rw [hlt] at hj
      rw [← hl] at hcr
      have := h4 j hj
      rw [(occ_cr l j).2 hcr] at this
      cases this)
    rw [← hl] at this
    exact this.symm
  termination_by l.length
  decreasing_by
  have := (List.getElem?_eq_some_iff.1 ((occ_cr l i).1 h3).1).1
  simp
  omega
/-- One more line. -/
theorem lines_piece {T : List UInt8} {pre : List (List UInt8)} {a k : Nat} (hak : a ≤ k) (hc : crAt T k) (hno : ∀ j, a ≤ j → j < k → ¬ crAt T j) (h : splitCR T = pre ++ splitCR (T.drop a)) :
    splitCR T = (pre ++ [(T.take k).drop a]) ++ splitCR (T.drop (k + 2)) := by
  obtain ⟨hi, e1⟩ := List.getElem?_eq_some_iff.1 hc.1
  obtain ⟨hi2, e2⟩ := List.getElem?_eq_some_iff.1 hc.2
  have e : T.drop a = (T.take k).drop a ++ 13 :: 10 :: T.drop (k + 2) := by
    conv => lhs; rw [← List.take_append_drop k T]
    rw [List.drop_append_of_le_length (by simp; omega), ← List.getElem_cons_drop hi, e1, ← List.getElem_cons_drop hi2, e2]
  have hl : ((T.take k).drop a).length = k - a := by simp; omega
  have := splitCR_first (T.drop (k + 2)) ((T.take k).drop a) (fun j hj hcr => by
    rw [← e] at hcr
    refine hno (a + j) (by omega) (by omega) ?_
    simpa [crAt, Nat.add_assoc] using hcr)
  rw [h, e, this]
  simp
theorem lines_end {T : List UInt8} {pre : List (List UInt8)} {a k : Nat} (hk : T.length ≤ k + 1) (hno : ∀ j, a ≤ j → j < k → ¬ crAt T j) (h : splitCR T = pre ++ splitCR (T.drop a)) : (splitCR T).dropLast = pre := by
  rw [h, splitCR_alone (T.drop a)]
  · simp
  · intro j hc
    have hc' : crAt T (a + j) := by simpa [crAt, Nat.add_assoc] using hc
    have := (List.getElem?_eq_some_iff.1 hc'.2).1
    exact hno (a + j) (by omega) (by omega) hc'
end Plain
open Go.RowKit Plain

set_option maxRecDepth 100000 in
set_option maxHeartbeats 1600000 in
theorem rlines_any (T : List UInt8) (w : World) (hT : T.length ≤ 2097152) :
    Calls Tryz.prog 105 #[.string ⟨T.toArray⟩] w fun e w' => ∃ v, e = .returned v ∧ w'.ownsRow w.heap.size 9 1 v (splitCR T).dropLast.length (strVs (splitCR T).dropLast) ∧ Q w w' := by
  have hsz : (⟨T.toArray⟩ : ByteArray).size = T.length := rfl
  go_enter Tryz.func105, Tryz.ntmps105
  go_wp2_with fail
  go_loopw [3, 4, 5] (fun s f i wr => ∃ (k a : Nat) (pre : List (List UInt8)), (a ≤ k ∨ a = k + 1 ∧ Hid (¬ T[k]? = some 13)) ∧ k ≤ T.length ∧ a ≤ T.length ∧ pre.length ≤ a ∧ f = .int .i64 a ∧ i = .int .i64 k ∧ Hid (∀ j, a ≤ j → j < k → ¬ crAt T j) ∧ Hid (splitCR T = pre ++ splitCR (T.drop a)) ∧ Hid (wr.ownsRow w.heap.size 9 1 s pre.length (strVs pre)) ∧ Hid (Q w wr)) (fun _ _ i _ => T.length - (intOf i).toNat)
  case atStart => exact ⟨0, 0, [], .inl (Nat.le_refl _), Nat.zero_le _, Nat.zero_le _, Nat.le_refl _, rfl, rfl, fun j _ h => absurd h (Nat.not_lt_zero _), rfl, ⟨rfl, .inl ⟨rfl, rfl⟩⟩, Q.refl _⟩
  case round =>
    obtain ⟨k, a, pre, hak, hk, haT, hpl, rfl, rfl, hno, hpa, hown, hq⟩ := hrel
    by_cases hlt : k + 1 < T.length
    · have hlt0 : k < T.length := by omega
      have hget : T[k]? = some T[k] := List.getElem?_eq_getElem hlt0
      have hget1 : T[k + 1]? = some T[k + 1] := List.getElem?_eq_getElem hlt
      by_cases hc : crAt T k
      · have hak' : a ≤ k := by
          rcases hak with h | ⟨_, h⟩
          · exact h
          · exact absurd hc.1 h.out
        have hbt : (((⟨T.toArray⟩ : ByteArray)[k].toNat : Int) == 13) = true := by
          show (((T[k]).toNat : Int) == 13) = true
          have := hc.1
          rw [hget] at this
          injection this with this
          rw [this]; rfl
        have hbt1 : (((⟨T.toArray⟩ : ByteArray)[k + 1].toNat : Int) == 10) = true := by
          show (((T[k + 1]).toNat : Int) == 10) = true
          have := hc.2
          rw [hget1] at this
          injection this with this
          rw [this]; rfl
        have HP := show Hid _ from lines_piece hak' hc hno.out hpa.out
        have HN : Hid (¬ T[k + 1]? = some 13) := by
          show ¬ _
          rw [hc.2]; decide
        clear hget hget1 hc hak
        have hms := mid_str T a k
        generalize (T.take k).drop a = mid at *
        go_wp2_with (first | (at_builtin; refine append_one rfl (.tmp 29) (.tmp 34) 111 rfl 9 Tryz.t9 (.string ⟨#[]⟩) 16 Tryz.underlying111 (by kernel_rfl) (by kernel_rfl) (by kernel_rfl) (by kernel_rfl) rfl u3 (strVs pre) (.string ⟨mid.toArray⟩) w.heap.size wr rfl rfl (by rw [strVs_len]; exact hown.out) rfl (by rw [strVs_len]; omega) (by decide) hq.out.size ?_; intro g cap w' ho' hb' _ _ _))
        rw [strVs_snoc, strVs_len] at ho'
        rw [strVs_len]
        exact ⟨⟨k + 1, k + 2, pre ++ [mid], .inr ⟨rfl, HN⟩, by omega, by omega, by simp; omega, by go_num, by go_num, fun j h1 h2 => absurd h2 (by omega), HP, (by rw [List.length_append]; exact ho' : w'.ownsRow w.heap.size 9 1 _ (pre ++ [mid]).length (strVs (pre ++ [mid]))), (Below.trans hq.out hb' : Below w.heap.size w w')⟩, by simp [intOf]; omega⟩
      · have HN : Hid (∀ j, a ≤ j → j < k + 1 → ¬ crAt T j) := fun j h1 h2 => by
          by_cases e : j = k
          · rw [e]; exact hc
          · exact hno.out j h1 (by omega)
        have hak2 : a ≤ k + 1 := by
          rcases hak with h | ⟨h, _⟩ <;> omega
        by_cases h13 : T[k] = 13
        · have hbt : (((⟨T.toArray⟩ : ByteArray)[k].toNat : Int) == 13) = true := by
            show (((T[k]).toNat : Int) == 13) = true
            rw [h13]; rfl
          have hbt1 : (((⟨T.toArray⟩ : ByteArray)[k + 1].toNat : Int) == 10) = false := by
            show (((T[k + 1]).toNat : Int) == 10) = false
            rw [beq_eq_false_iff_ne]
            exact fun h => hc ⟨hget.trans (by rw [h13]), hget1.trans (by rw [show T[k + 1] = 10 from UInt8.toNat_inj.1 (by show (T[k + 1]).toNat = 10; omega)])⟩
          clear hget hget1 hc hak h13
          go_wp2_with fail
          exact ⟨⟨k + 1, a, pre, .inl hak2, by omega, haT, hpl, rfl, by go_num, HN, hpa, hown, hq⟩, by simp [intOf]; omega⟩
        · have hbt : (((⟨T.toArray⟩ : ByteArray)[k].toNat : Int) == 13) = false := by
            show (((T[k]).toNat : Int) == 13) = false
            rw [beq_eq_false_iff_ne]
            exact fun h => h13 (UInt8.toNat_inj.1 (by show (T[k]).toNat = 13; omega))
          clear hget hget1 hc hak h13
          go_wp2_with fail
          exact ⟨⟨k + 1, a, pre, .inl hak2, by omega, haT, hpl, rfl, by go_num, HN, hpa, hown, hq⟩, by simp [intOf]; omega⟩
    · have HP := show Hid _ from lines_end (by omega) hno.out hpa.out
      go_wp2_with fail
      go_ret
      exact ⟨_, rfl, by rw [HP.out]; exact hown.out, hq.out⟩
end Go.Proofs.YtdmaffciijmdcaaGreatDoor

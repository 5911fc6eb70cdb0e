/-
  The document's answer: labels, numbers.
-/
import Derived.Test.YtdmaffciijmdcaaGreatDoorRPartsToRG1
namespace Go.Proofs.YtdmaffciijmdcaaGreatDoor
namespace Plain
theorem lab_len {l : List UInt8} (h : ¬ (1 ≤ l.length ∧ l.length ≤ 20)) : labelOk l = false := by unfold labelOk; rw [decide_eq_false h]; rfl
theorem lab_head {l : List UInt8} (h : l[0]? = some 45) : labelOk l = false := by unfold labelOk; rw [List.head?_eq_getElem?, h]; simp
theorem lab_last {l : List UInt8} (h : l[l.length - 1]? = some 45) : labelOk l = false := by unfold labelOk; rw [List.getLast?_eq_getElem?, h]; simp
theorem lab_bad {l : List UInt8} (h : allB ofLabel l = false) : labelOk l = false := by unfold labelOk; rw [h]; simp
theorem lab_ok {l : List UInt8} {a b : UInt8} (h : 1 ≤ l.length ∧ l.length ≤ 20) (h0 : l[0]? = some a) (ha : a ≠ 45) (h1 : l[l.length - 1]? = some b) (hb : b ≠ 45) (hall : allB ofLabel l = true) : labelOk l = true := by
  unfold labelOk
  rw [decide_eq_true h, hall, List.head?_eq_getElem?, h0, List.getLast?_eq_getElem?, h1]
  simp [ha, hb]
theorem ofl_small {b : UInt8} (h1 : 97 ≤ b.toNat) (h2 : b.toNat ≤ 122) : ofLabel b = true := by unfold ofLabel small; simp; omega
theorem ofl_fig {b : UInt8} (h1 : 48 ≤ b.toNat) (h2 : b.toNat ≤ 57) : ofLabel b = true := by unfold ofLabel fig; simp; omega
theorem ofl_dash {b : UInt8} (h : b.toNat = 45) : ofLabel b = true := by unfold ofLabel; simp; omega
theorem ofl_no {b : UInt8} (h1 : ¬ (97 ≤ b.toNat ∧ b.toNat ≤ 122)) (h2 : ¬ (48 ≤ b.toNat ∧ b.toNat ≤ 57)) (h3 : ¬ b.toNat = 45) : ofLabel b = false := by
  unfold ofLabel small fig
  rw [Bool.eq_false_iff]
  simp; omega

def numR (l : List UInt8) (most : Nat) : Int := match number l most with
  | some n => (n : Int)
  | none => -1
theorem numR_none {l : List UInt8} {most : Nat} (h : numForm l = false) : numR l most = -1 := by unfold numR number; rw [if_neg (fun hx => by rw [h] at hx; cases hx.1)]
theorem numR_great {l : List UInt8} {most : Nat} (h : most < numVal l) : numR l most = -1 := by unfold numR number; rw [if_neg (fun hx => by omega)]
theorem numR_some {l : List UInt8} {most : Nat} (h : numForm l = true) (h2 : numVal l ≤ most) : numR l most = (numVal l : Int) := by unfold numR number; rw [if_pos ⟨h, h2⟩]
theorem form_figs {l : List UInt8} (h : figsS l = false) : numForm l = false := by
  unfold figsS at h
  unfold numForm
  cases l with
  | nil => rfl
  | cons b l => rw [decide_eq_true (by simp)] at h; rw [show allB fig (b :: l) = false by simpa using h]; simp
theorem form_zero {l : List UInt8} (h1 : 1 < l.length) (h : l[0]? = some 48) : numForm l = false := by
  unfold numForm
  rw [List.head?_eq_getElem?, h]
  have : (l == [48]) = false := by rw [beq_eq_false_iff_ne]; intro e; rw [e] at h1; simp at h1
  rw [this]; simp
theorem form_yes {l : List UInt8} (hf : figsS l = true) (h : ¬ (1 < l.length ∧ l[0]? = some 48)) : numForm l = true := by
  unfold figsS at hf
  rw [Bool.and_eq_true, decide_eq_true_eq] at hf
  unfold numForm
  rw [hf.2]
  cases l with
  | nil => simp at hf
  | cons b l =>
    by_cases hb : b = 48
    · subst hb
      cases l with
      | nil => rfl
      | cons => exact absurd ⟨by simp, rfl⟩ h
    · simp [hb]
theorem foldl_pow (l : List UInt8) : ∀ n : Nat, n * 10 ^ l.length ≤ l.foldl (fun n c => n * 10 + digit c) n := by
  induction l with
  | nil => intro n; simp
  | cons b l ih =>
    intro n
    refine Nat.le_trans ?_ (ih _)
    rw [List.length_cons, Nat.pow_succ, Nat.mul_comm (10 ^ l.length) 10, ← Nat.mul_assoc]
    exact Nat.mul_le_mul_right _ (by show n * 10 ≤ n * 10 + digit b; omega)
theorem num_big {l : List UInt8} (hf : figsS l = true) (h : ¬ (1 < l.length ∧ l[0]? = some 48)) (h6 : 6 < l.length) : 1000000 ≤ numVal l := by
  unfold figsS at hf
  rw [Bool.and_eq_true, decide_eq_true_eq] at hf
  cases l with
  | nil => simp at h6
  | cons b l =>
    have hb : b ≠ 48 := fun e => h ⟨by omega, by rw [e]; rfl⟩
    have hfb := fig_bounds (List.all_eq_true.1 hf.2 b (by simp))
    have hd : 1 ≤ digit b := by
      unfold digit
      have : b.toNat ≠ 48 := fun e => hb (UInt8.toNat_inj.1 e)
      omega
    have h1 := foldl_pow l (digit b)
    have h2 : 10 ^ 6 ≤ 10 ^ l.length := Nat.pow_le_pow_right (by decide) (by simp at h6; omega)
    have h3 : 1 * 10 ^ l.length ≤ digit b * 10 ^ l.length := Nat.mul_le_mul_right _ hd
    have h4 : numVal (b :: l) = l.foldl (fun n c => n * 10 + digit c) (digit b) := by unfold numVal; simp
    rw [h4]
    omega
theorem foldl_lt {l : List UInt8} (hf : allB fig l = true) : ∀ n m : Nat, n < m → l.foldl (fun n c => n * 10 + digit c) n < m * 10 ^ l.length := by
  induction l with
  | nil => intro n m h; simpa using h
  | cons b l ih =>
    intro n m h
    have hb := fig_bounds (List.all_eq_true.1 hf b (by simp))
    have hl : allB fig l = true := List.all_eq_true.2 fun c hc => List.all_eq_true.1 hf c (by simp [hc])
    have := ih hl (n * 10 + digit b) (m * 10) (by unfold digit; omega)
    rw [List.foldl_cons, List.length_cons, Nat.pow_succ, Nat.mul_comm (10 ^ l.length) 10, ← Nat.mul_assoc]
    exact this
theorem num_small {l : List UInt8} (hf : allB fig l = true) (h6 : l.length ≤ 6) : numVal l < 1000000 := by
  have h1 := foldl_lt hf 0 1 (by decide)
  have h2 : 10 ^ l.length ≤ 10 ^ 6 := Nat.pow_le_pow_right (by decide) h6
  unfold numVal
  omega
theorem num_step {l : List UInt8} {k : Nat} {b : UInt8} (hk : l[k]? = some b) : numVal (l.take (k + 1)) = numVal (l.take k) * 10 + digit b := by
  obtain ⟨hlt, rfl⟩ := List.getElem?_eq_some_iff.1 hk
  rw [List.take_succ_eq_append_getElem hlt, numVal_snoc]
end Plain
open Go.RowKit Plain

theorem byte_eq {T : List UInt8} {k : Nat} (_hk : k < T.length) (hk' : k < (⟨T.toArray⟩ : ByteArray).size) {n : Nat} (c : UInt8) (hc : c.toNat = n) (h : T[k] = c) : (((⟨T.toArray⟩ : ByteArray)[k].toNat : Int) == (n : Int)) = true := by
  show (((T[k]).toNat : Int) == (n : Int)) = true
  rw [h, hc]; simp
theorem byte_ne {T : List UInt8} {k : Nat} (_hk : k < T.length) (hk' : k < (⟨T.toArray⟩ : ByteArray).size) {n : Nat} (c : UInt8) (hc : c.toNat = n) (h : ¬ T[k] = c) : (((⟨T.toArray⟩ : ByteArray)[k].toNat : Int) == (n : Int)) = false := by
  show (((T[k]).toNat : Int) == (n : Int)) = false
  rw [beq_eq_false_iff_ne]
  exact fun e => h (UInt8.toNat_inj.1 (by omega))

set_option maxRecDepth 100000 in
set_option maxHeartbeats 1600000 in
theorem rlabel_any (T : List UInt8) (w : World) (hT : T.length ≤ 4194304) :
    Calls Tryz.prog 186 #[.string ⟨T.toArray⟩] w fun e w' => e = .returned (.bool (labelOk T)) ∧ w' = w := by
  have hsz : (⟨T.toArray⟩ : ByteArray).size = T.length := rfl
  by_cases h0 : T.length = 0
  · have HS : Hid (labelOk T = false) := lab_len (by omega)
    have d0 : ((T.length : Int) == 0) = true := by rw [beq_iff_eq]; omega
    go_enter Tryz.func186, Tryz.ntmps186
    go_wp2_with fail
    go_ret
    exact ⟨by rw [HS.out]; rfl, rfl⟩
  have d0 : ((T.length : Int) == 0) = false := by rw [beq_eq_false_iff_ne]; omega
  by_cases h20 : 20 < T.length
  · have HS : Hid (labelOk T = false) := lab_len (by omega)
    have d20 : decide (20 < (T.length : Int)) = true := decide_eq_true (by omega)
    go_enter Tryz.func186, Tryz.ntmps186
    go_wp2_with fail
    go_ret
    exact ⟨by rw [HS.out]; rfl, rfl⟩
  have d20 : decide (20 < (T.length : Int)) = false := decide_eq_false (by omega)
  have hp : 0 < T.length := by omega
  have hpl : T.length - 1 < T.length := by omega
  have hg0 : T[0]? = some T[0] := List.getElem?_eq_getElem hp
  have hg1 : T[T.length - 1]? = some T[T.length - 1] := List.getElem?_eq_getElem hpl
  by_cases hb0 : T[0] = 45
  · have HS : Hid (labelOk T = false) := lab_head (by rw [hg0, hb0])
    have e0 : (((⟨T.toArray⟩ : ByteArray)[0].toNat : Int) == 45) = true := byte_eq hp hp 45 rfl hb0
    clear hb0 hg0 hg1
    go_enter Tryz.func186, Tryz.ntmps186
    go_wp2_with fail
    go_ret
    exact ⟨by rw [HS.out]; rfl, rfl⟩
  have e0 : (((⟨T.toArray⟩ : ByteArray)[0].toNat : Int) == 45) = false := byte_ne hp hp 45 rfl hb0
  by_cases hb1 : T[T.length - 1] = 45
  · have HS : Hid (labelOk T = false) := lab_last (by rw [hg1, hb1])
    have e1 : (((⟨T.toArray⟩ : ByteArray)[T.length - 1].toNat : Int) == 45) = true := byte_eq hpl hpl 45 rfl hb1
    clear hb0 hb1 hg0 hg1
    go_enter Tryz.func186, Tryz.ntmps186
    go_wp2_with fail
    go_ret
    exact ⟨by rw [HS.out]; rfl, rfl⟩
  have e1 : (((⟨T.toArray⟩ : ByteArray)[T.length - 1].toNat : Int) == 45) = false := byte_ne hpl hpl 45 rfl hb1
  have HY : Hid (allB ofLabel T = true → labelOk T = true) := fun h => lab_ok (by omega) hg0 hb0 hg1 hb1 h
  clear hg0 hg1 hb0 hb1
  go_enter Tryz.func186, Tryz.ntmps186
  go_wp2_with fail
  go_loopw [4, 5, 6] (fun i _ _ wr => ∃ k : Nat, k ≤ T.length ∧ i = .int .i64 k ∧ Hid (allB ofLabel (T.take k) = true) ∧ wr = w) (fun i _ _ _ => T.length - (intOf i).toNat)
  case atStart => exact ⟨0, Nat.zero_le _, rfl, rfl, rfl⟩
  case round =>
    clear e0 e1
    obtain ⟨k, hk, rfl, hall, rfl⟩ := hrel
    by_cases hlt : k < T.length
    · have hget : T[k]? = some T[k] := List.getElem?_eq_getElem hlt
      by_cases h97 : 97 ≤ (T[k]).toNat
      · have d97 : decide (97 ≤ ((⟨T.toArray⟩ : ByteArray)[k].toNat : Int)) = true := decide_eq_true (by show 97 ≤ ((T[k]).toNat : Int); omega)
        have d48 : decide (48 ≤ ((⟨T.toArray⟩ : ByteArray)[k].toNat : Int)) = true := decide_eq_true (by show 48 ≤ ((T[k]).toNat : Int); omega)
        have d57 : decide (((⟨T.toArray⟩ : ByteArray)[k].toNat : Int) ≤ 57) = false := decide_eq_false (by show ¬ ((T[k]).toNat : Int) ≤ 57; omega)
        by_cases h122 : (T[k]).toNat ≤ 122
        · have d122 : decide (((⟨T.toArray⟩ : ByteArray)[k].toNat : Int) ≤ 122) = true := decide_eq_true (by show ((T[k]).toNat : Int) ≤ 122; omega)
          have HN := show Hid _ from allp_step hget hall.out (ofl_small h97 h122)
          clear hget h97 h122
          go_wp2_with fail
          exact ⟨⟨k + 1, by omega, by go_num, HN, by trivial⟩, by simp [intOf]; omega⟩
        · have d122 : decide (((⟨T.toArray⟩ : ByteArray)[k].toNat : Int) ≤ 122) = false := decide_eq_false (by show ¬ ((T[k]).toNat : Int) ≤ 122; omega)
          have d45 : (((⟨T.toArray⟩ : ByteArray)[k].toNat : Int) != 45) = true := by show (((T[k]).toNat : Int) != 45) = true; rw [bne_iff_ne]; omega
          have HS : Hid (labelOk T = false) := lab_bad (allp_stop hget (ofl_no (by omega) (by omega) (by omega)))
          clear hget h97 h122
          go_wp2_with fail
          go_ret
          exact ⟨by rw [HS.out]; rfl, rfl⟩
      have d97 : decide (97 ≤ ((⟨T.toArray⟩ : ByteArray)[k].toNat : Int)) = false := decide_eq_false (by show ¬ 97 ≤ ((T[k]).toNat : Int); omega)
      by_cases h48 : 48 ≤ (T[k]).toNat
      · have d48 : decide (48 ≤ ((⟨T.toArray⟩ : ByteArray)[k].toNat : Int)) = true := decide_eq_true (by show 48 ≤ ((T[k]).toNat : Int); omega)
        by_cases h57 : (T[k]).toNat ≤ 57
        · have d57 : decide (((⟨T.toArray⟩ : ByteArray)[k].toNat : Int) ≤ 57) = true := decide_eq_true (by show ((T[k]).toNat : Int) ≤ 57; omega)
          have HN := show Hid _ from allp_step hget hall.out (ofl_fig h48 h57)
          clear hget h97 h48 h57
          go_wp2_with fail
          exact ⟨⟨k + 1, by omega, by go_num, HN, by trivial⟩, by simp [intOf]; omega⟩
        · have d57 : decide (((⟨T.toArray⟩ : ByteArray)[k].toNat : Int) ≤ 57) = false := decide_eq_false (by show ¬ ((T[k]).toNat : Int) ≤ 57; omega)
          have d45 : (((⟨T.toArray⟩ : ByteArray)[k].toNat : Int) != 45) = true := by show (((T[k]).toNat : Int) != 45) = true; rw [bne_iff_ne]; omega
          have HS : Hid (labelOk T = false) := lab_bad (allp_stop hget (ofl_no (by omega) (by omega) (by omega)))
          clear hget h97 h48 h57
          go_wp2_with fail
          go_ret
          exact ⟨by rw [HS.out]; rfl, rfl⟩
      · have d48 : decide (48 ≤ ((⟨T.toArray⟩ : ByteArray)[k].toNat : Int)) = false := decide_eq_false (by show ¬ 48 ≤ ((T[k]).toNat : Int); omega)
        by_cases h45 : (T[k]).toNat = 45
        · have d45 : (((⟨T.toArray⟩ : ByteArray)[k].toNat : Int) != 45) = false := by show (((T[k]).toNat : Int) != 45) = false; rw [bne_eq_false_iff_eq]; omega
          have HN := show Hid _ from allp_step hget hall.out (ofl_dash h45)
          clear hget h97 h48 h45
          go_wp2_with fail
          exact ⟨⟨k + 1, by omega, by go_num, HN, by trivial⟩, by simp [intOf]; omega⟩
        · have d45 : (((⟨T.toArray⟩ : ByteArray)[k].toNat : Int) != 45) = true := by show (((T[k]).toNat : Int) != 45) = true; rw [bne_iff_ne]; omega
          have HS : Hid (labelOk T = false) := lab_bad (allp_stop hget (ofl_no (by omega) (by omega) (by omega)))
          clear hget h97 h48 h45
          go_wp2_with fail
          go_ret
          exact ⟨by rw [HS.out]; rfl, rfl⟩
    · have hkT : k = T.length := by omega
      subst hkT
      have HS := show Hid _ from HY.out (allp_done hall.out)
      clear hall HY
      go_wp2_with fail
      go_ret
      exact ⟨by rw [HS.out]; rfl, rfl⟩

set_option maxRecDepth 100000 in
set_option maxHeartbeats 1600000 in
theorem rnumber_any (T : List UInt8) (most : Nat) (w : World) (hT : T.length ≤ 4194304) (hm : most ≤ 65535) :
    Calls Tryz.prog 110 #[.string ⟨T.toArray⟩, .int .i64 (most : Int)] w fun e w' => e = .returned (.int .i64 (numR T most)) ∧ w' = w := by
  have hsz : (⟨T.toArray⟩ : ByteArray).size = T.length := rfl
  go_enter Tryz.func110, Tryz.ntmps110
  go_wp2_with fail
  refine (rfigures_any T _ hT).mono ?_
  rintro e w1 ⟨rfl, rfl⟩
  cases hf : figsS T with
  | false =>
    have HS : Hid (numR T most = -1) := numR_none (form_figs hf)
    clear hf
    go_wp2_with fail
    go_ret
    exact ⟨by rw [HS.out]; rfl, rfl⟩
  | true =>
    have hp : 0 < T.length := by
      unfold figsS at hf
      rw [Bool.and_eq_true, decide_eq_true_eq] at hf
      exact hf.1
    have hg0 : T[0]? = some T[0] := List.getElem?_eq_getElem hp
    by_cases hz : 1 < T.length ∧ T[0] = 48
    · have HS : Hid (numR T most = -1) := numR_none (form_zero hz.1 (by rw [hg0, hz.2]))
      have e0 : (((⟨T.toArray⟩ : ByteArray)[0].toNat : Int) == 48) = true := byte_eq hp hp 48 rfl hz.2
      have d1 : decide (1 < (T.length : Int)) = true := decide_eq_true (by omega)
      clear hf hg0 hz
      go_wp2_with fail
      go_ret
      exact ⟨by rw [HS.out]; rfl, rfl⟩
    have hzz : ¬ (1 < T.length ∧ T[0]? = some 48) := fun h => hz ⟨h.1, by have := h.2; rw [hg0] at this; exact Option.some.inj this⟩
    by_cases h6 : 6 < T.length
    · have HS : Hid (numR T most = -1) := numR_great (by have := num_big hf hzz h6; omega)
      have d6 : decide (6 < (T.length : Int)) = true := decide_eq_true (by omega)
      have d1 : decide (1 < (T.length : Int)) = true := decide_eq_true (by omega)
      have e0 : (((⟨T.toArray⟩ : ByteArray)[0].toNat : Int) == 48) = false := byte_ne hp hp 48 rfl (fun h => hz ⟨by omega, h⟩)
      clear hf hg0 hz hzz
      go_wp2_with fail
      go_ret
      exact ⟨by rw [HS.out]; rfl, rfl⟩
    have d6 : decide (6 < (T.length : Int)) = false := decide_eq_false (by omega)
    have hform := form_yes hf hzz
    have hall : allB fig T = true := by
      unfold figsS at hf
      rw [Bool.and_eq_true] at hf
      exact hf.2
    have hsm : ∀ k, numVal (T.take k) < 1000000 := fun k => Nat.lt_of_le_of_lt (numVal_take T k) (num_small hall (by omega))
    have HS1 : Hid (most < numVal T → numR T most = -1) := numR_great
    have HS2 : Hid (numVal T ≤ most → numR T most = (numVal T : Int)) := numR_some hform
    have HA := show Hid _ from hall
    have HSM := show Hid _ from hsm
    have HB : Hid (decide (1 < (T.length : Int)) = true → (((⟨T.toArray⟩ : ByteArray)[0].toNat : Int) == 48) = false) := fun h => byte_ne hp hp 48 rfl (fun h' => hz ⟨by have := of_decide_eq_true h; omega, h'⟩)
    clear hf hg0 hz hzz hform hall hsm
    have fin : ∀ (hb : decide (1 < (T.length : Int)) = true ∧ (((⟨T.toArray⟩ : ByteArray)[0].toNat : Int) == 48) = false ∨ decide (1 < (T.length : Int)) = false), True := fun _ => trivial
    clear fin
    go_upto_region 2 with fail
    go_cut [26] (fun b wx => b = .bool false ∧ wx = w1)
    case first =>
      cases d1 : decide (1 < (T.length : Int)) with
      | true =>
        have e0 := HB.out d1
        go_wp2_with fail
        go_meet
        exact ⟨rfl, rfl⟩
      | false =>
        go_wp2_with fail
        go_meet
        exact ⟨rfl, rfl⟩
    case rest =>
      obtain ⟨rfl, rfl⟩ := hcut
      clear HB
      go_wp2_with fail
      go_loopw [6, 7] (fun n i wr => ∃ k : Nat, k ≤ T.length ∧ i = .int .i64 k ∧ n = .int .i64 ((numVal (T.take k) : Nat) : Int) ∧ wr = wc) (fun _ i _ => T.length - (intOf i).toNat)
      case atStart => exact ⟨0, Nat.zero_le _, rfl, rfl, rfl⟩
      case round =>
        obtain ⟨k, hk, rfl, rfl, rfl⟩ := hrel
        have hsk := HSM.out k
        by_cases hlt : k < T.length
        · have hget : T[k]? = some T[k] := List.getElem?_eq_getElem hlt
          have HN := show Hid _ from num_step hget
          have hfb := fig_bounds (List.all_eq_true.1 HA.out T[k] (List.mem_of_getElem? hget))
          have hb1 : 48 ≤ (⟨T.toArray⟩ : ByteArray)[k].toNat := hfb.1
          have hb2 : (⟨T.toArray⟩ : ByteArray)[k].toNat ≤ 57 := hfb.2
          clear hget hfb
          go_wp2_with fail
          refine ⟨⟨k + 1, by omega, by go_num, ?_, by trivial⟩, by simp [intOf]; omega⟩
          rw [HN.out]
          unfold digit
          have hx : (⟨T.toArray⟩ : ByteArray)[k].toNat = (T[k]).toNat := rfl
          congr 1
          omega
        · have hkT : k = T.length := by omega
          subst hkT
          rw [List.take_of_length_le (Nat.le_refl _)] at hsk ⊢
          by_cases hg : most < numVal T
          · have HS := show Hid _ from HS1.out hg
            go_wp2_with fail
            go_ret
            exact ⟨by rw [HS.out]; rfl, rfl⟩
          · have HS := show Hid _ from HS2.out (by omega)
            go_wp2_with fail
            go_ret
            exact ⟨by rw [HS.out]; rfl, rfl⟩
end Go.Proofs.YtdmaffciijmdcaaGreatDoor
/-
  The document's answer: names, addresses, hosts.
-/
namespace Go.Proofs.YtdmaffciijmdcaaGreatDoor
namespace Plain
theorem parts_count_le (c : UInt8) (l : List UInt8) : (parts c l).length ≤ l.length + 1 := by
  rw [parts_length]
  have : l.count c ≤ l.length := List.count_le_length
  omega
theorem name_bad {T p : List UInt8} (h : p ∈ parts 46 T) (hp : labelOk p = false) : nameOk T = false := by
  unfold nameOk
  have : (parts 46 T).all labelOk = false := by
    cases hh : (parts 46 T).all labelOk with
    | false => rfl
    | true => rw [List.all_eq_true.1 hh p h] at hp; cases hp
  rw [this]; simp
theorem name_good {T last : List UInt8} (hall : ∀ p ∈ parts 46 T, labelOk p = true) (hl : (parts 46 T)[(parts 46 T).length - 1]? = some last) : nameOk T = (decide ((parts 46 T).length ≤ 5) && !figsS last) := by
  have h1 : (parts 46 T).getLastD [] = last := by rw [List.getLastD_eq_getLast?, List.getLast?_eq_getElem?, hl]; rfl
  have h2 : (parts 46 T).all labelOk = true := List.all_eq_true.2 hall
  have h3 := hall last (List.mem_of_getElem? hl)
  have h4 : 0 < last.length := by
    cases hz : last with
    | nil => rw [hz] at h3; cases h3
    | cons => simp
  unfold nameOk figsS
  rw [h1, h2, decide_eq_true h4]
  simp
def octVal (ns : List Nat) : Nat := ns.foldl (fun a n => a * 256 + n) 0
theorem octVal_snoc (ns : List Nat) (n : Nat) : octVal (ns ++ [n]) = octVal ns * 256 + n := by simp [octVal]
def addrR (l : List UInt8) : Int := match address l with
  | some ns => (octVal ns : Int)
  | none => -1
theorem octets_snoc {ps : List (List UInt8)} {p : List UInt8} {ns : List Nat} {n : Nat} (h : octets ps = some ns) (hn : number p 255 = some n) : octets (ps ++ [p]) = some (ns ++ [n]) := by
  induction ps generalizing ns with
  | nil => cases h; simp [octets, hn]
  | cons q ps ih =>
    rw [octets] at h
    rw [List.cons_append, octets]
    cases h1 : number q 255 with
    | none => rw [h1] at h; cases h
    | some m =>
      rw [h1] at h
      cases h2 : octets ps with
      | none => rw [h2] at h; cases h
      | some ms => rw [h2] at h; cases h; rw [ih h2]; rfl
theorem octets_bad {ps : List (List UInt8)} {p : List UInt8} (hp : p ∈ ps) (hn : number p 255 = none) : octets ps = none := by
  induction ps with
  | nil => cases hp
  | cons q ps ih =>
    rw [octets]
    rcases List.mem_cons.1 hp with rfl | hp
    · rw [hn]
    · cases number q 255 with
      | none => rfl
      | some n => rw [ih hp]
theorem addr_len {T : List UInt8} (h : ¬ (parts 46 T).length = 4) : addrR T = -1 := by unfold addrR address; rw [if_neg h]
theorem addr_bad {T p : List UInt8} (hp : p ∈ parts 46 T) (hn : number p 255 = none) : addrR T = -1 := by
  unfold addrR address
  by_cases h : (parts 46 T).length = 4
  · rw [if_pos h, octets_bad hp hn]
  · rw [if_neg h]
theorem addr_good {T : List UInt8} {ns : List Nat} (h : (parts 46 T).length = 4) (ho : octets (parts 46 T) = some ns) : addrR T = (octVal ns : Int) := by unfold addrR address; rw [if_pos h, ho]
theorem numR_cases (p : List UInt8) (most : Nat) : (number p most = none ∧ numR p most = -1) ∨ ∃ n, number p most = some n ∧ numR p most = (n : Int) ∧ n ≤ most := by
  unfold numR
  cases h : number p most with
  | none => exact .inl ⟨rfl, rfl⟩
  | some n => exact .inr ⟨n, rfl, rfl, number_le h⟩
end Plain
open Go.RowKit Plain

set_option maxRecDepth 100000 in
set_option maxHeartbeats 1600000 in
theorem rname_any (T : List UInt8) (w : World) (hT : T.length ≤ 2097152) :
    Calls Tryz.prog 142 #[.string ⟨T.toArray⟩] w fun e w' => e = .returned (.bool (nameOk T)) ∧ Q w w' := by
  have HB : Hid (∀ p ∈ parts 46 T, labelOk p = false → nameOk T = false) := fun p h hp => name_bad h hp
  have HG : Hid (∀ last, (∀ p ∈ parts 46 T, labelOk p = true) → (parts 46 T)[(parts 46 T).length - 1]? = some last → nameOk T = (decide ((parts 46 T).length ≤ 5) && !figsS last)) := fun last h1 h2 => name_good h1 h2
  have HL : Hid (∀ p ∈ parts 46 T, p.length ≤ 4194304) := fun p h => by have := parts_le 46 T p h; omega
  have hcnt := parts_count_le 46 T
  have HNE := show Hid _ from parts_ne 46 T
  have HP := show Hid _ from rparts_any T 46 w (by omega)
  go_enter Tryz.func142, Tryz.ntmps142
  go_wp2_with fail
  refine Calls.mono HP.out ?_
  rintro e w1 ⟨v, rfl, ⟨g, cap, rfl, hcell⟩, hq⟩
  have HC := show Hid _ from hcell
  clear hcell HP
  generalize parts 46 T = l at *
  go_wp2_with fail
  go_loopw [4, 5] (fun i _ wr => ∃ k : Nat, k ≤ l.length ∧ i = .int .i64 k ∧ Hid (∀ j p, j < k → l[j]? = some p → labelOk p = true) ∧ wr = w1) (fun i _ _ => l.length - (intOf i).toNat)
  case atStart => exact ⟨0, Nat.zero_le _, rfl, (fun j p hj => by omega), rfl⟩
  case round =>
    obtain ⟨k, hk, rfl, hall, rfl⟩ := hrel
    by_cases hlt : k < l.length
    · have hget : l[k]? = some l[k] := List.getElem?_eq_getElem hlt
      have hck := HC.out k _ hget
      have HLA := fun w => show Hid _ from rlabel_any l[k] w (HL.out _ (List.mem_of_getElem? hget))
      have HB1 := show Hid _ from HB.out _ (List.mem_of_getElem? hget)
      have HGT := show Hid _ from hget
      generalize l[k] = p at *
      clear hget
      go_wp2_with fail
      refine Calls.mono (Hid.out (HLA _)) ?_
      rintro e w2 ⟨rfl, rfl⟩
      cases hlab : labelOk p with
      | false =>
        have HS := show Hid _ from HB1.out hlab
        clear hlab
        go_wp2_with fail
        go_ret
        exact ⟨by rw [HS.out]; rfl, hq⟩
      | true =>
        have HLB := show Hid _ from hlab
        clear hlab
        go_wp2_with fail
        refine ⟨⟨k + 1, by omega, by go_num, ?_, by trivial⟩, by simp [intOf]; omega⟩
        intro j p' hj hp'
        by_cases hjk : j = k
        · subst hjk
          rw [HGT.out] at hp'
          cases hp'
          exact HLB.out
        · exact hall.out j p' (by omega) hp'
    · have hkl : k = l.length := by omega
      subst hkl
      have hpos : 0 < l.length := List.length_pos_iff.2 HNE.out
      have hgl : l[l.length - 1]? = some l[l.length - 1] := List.getElem?_eq_getElem (by omega)
      have hck := HC.out _ _ hgl
      have HFI := fun w => show Hid _ from rfigures_any l[l.length - 1] w (HL.out _ (List.mem_of_getElem? hgl))
      have HS := show Hid _ from HG.out _ (fun p hp => by
        obtain ⟨j, hj, rfl⟩ := List.getElem_of_mem hp
        exact hall.out j _ hj (List.getElem?_eq_getElem hj)) hgl
      generalize l[l.length - 1] = last at *
      clear hgl
      have hsub : (l.length : Int) - 1 = ((l.length - 1 : Nat) : Int) := by omega
      go_wp2_with fail
      refine Calls.mono (Hid.out (HFI _)) ?_
      rintro e w2 ⟨rfl, rfl⟩
      by_cases h5 : l.length ≤ 5
      · have d5 : decide ((l.length : Int) ≤ 5) = true := decide_eq_true (by omega)
        rw [decide_eq_true h5] at HS
        go_wp2_with fail
        go_ret
        exact ⟨by rw [HS.out]; rfl, hq⟩
      · have d5 : decide ((l.length : Int) ≤ 5) = false := decide_eq_false (by omega)
        rw [decide_eq_false h5] at HS
        go_wp2_with fail
        go_ret
        exact ⟨by rw [HS.out]; rfl, hq⟩

set_option maxRecDepth 100000 in
set_option maxHeartbeats 1600000 in
theorem raddr_any (T : List UInt8) (w : World) (hT : T.length ≤ 2097152) :
    Calls Tryz.prog 143 #[.string ⟨T.toArray⟩] w fun e w' => e = .returned (.int .i64 (addrR T)) ∧ Q w w' := by
  have HA0 : Hid (¬ (parts 46 T).length = 4 → addrR T = -1) := addr_len
  have HA1 : Hid (∀ p ∈ parts 46 T, number p 255 = none → addrR T = -1) := fun p h hn => addr_bad h hn
  have HA2 : Hid (∀ ns, (parts 46 T).length = 4 → octets (parts 46 T) = some ns → addrR T = (octVal ns : Int)) := fun ns h ho => addr_good h ho
  have HL : Hid (∀ p ∈ parts 46 T, p.length ≤ 4194304) := fun p h => by have := parts_le 46 T p h; omega
  have hcnt := parts_count_le 46 T
  have HP := show Hid _ from rparts_any T 46 w (by omega)
  go_enter Tryz.func143, Tryz.ntmps143
  go_wp2_with fail
  refine Calls.mono HP.out ?_
  rintro e w1 ⟨v, rfl, ⟨g, cap, rfl, hcell⟩, hq⟩
  have HC := show Hid _ from hcell
  clear hcell HP
  generalize parts 46 T = l at *
  by_cases h4 : l.length = 4
  case neg =>
    have d4 : ((l.length : Int) != 4) = true := by rw [bne_iff_ne]; omega
    have HS := show Hid _ from HA0.out h4
    go_wp2_with fail
    go_ret
    exact ⟨by rw [HS.out]; rfl, hq⟩
  have d4 : ((l.length : Int) != 4) = false := by rw [bne_eq_false_iff_eq]; omega
  go_wp2_with fail
  go_loopw [4, 5, 6] (fun a i _ wr => ∃ (k : Nat) (ns : List Nat), k ≤ 4 ∧ i = .int .i64 k ∧ a = .int .i64 ((octVal ns : Nat) : Int) ∧ octVal ns < 256 ^ k ∧ Hid (octets (l.take k) = some ns) ∧ wr = w1) (fun _ i _ _ => 4 - (intOf i).toNat)
  case atStart => exact ⟨0, [], by omega, rfl, rfl, by simp [octVal], rfl, rfl⟩
  case round =>
    obtain ⟨k, ns, hk, rfl, rfl, hov, hoc, rfl⟩ := hrel
    by_cases hlt : k < 4
    · have hpw : 256 ^ k ≤ 256 ^ 3 := Nat.pow_le_pow_right (by decide) (by omega)
      have hget : l[k]? = some l[k] := List.getElem?_eq_getElem (by omega)
      have hck := HC.out k _ hget
      have HNU := fun w => show Hid _ from rnumber_any l[k] 255 w (HL.out _ (List.mem_of_getElem? hget)) (by decide)
      have HB1 := show Hid _ from HA1.out _ (List.mem_of_getElem? hget)
      have HT := show Hid (l.take (k + 1) = l.take k ++ [l[k]]) from List.take_succ_eq_append_getElem (by omega)
      generalize l[k] = p at *
      clear hget
      have dk : decide ((k : Int) < 4) = true := decide_eq_true (by omega)
      go_wp2_with fail
      refine Calls.mono (Hid.out (HNU _)) ?_
      rintro e w2 ⟨rfl, rfl⟩
      rcases numR_cases p 255 with ⟨hn, hr⟩ | ⟨n, hn, hr, hle⟩
      · rw [hr]
        have HS := show Hid _ from HB1.out hn
        clear hr hn
        go_wp2_with fail
        go_ret
        exact ⟨by rw [HS.out]; rfl, hq⟩
      · rw [hr]
        have HO := show Hid _ from octets_snoc hoc.out hn
        have hstep := octVal_snoc ns n
        have hpp : 256 ^ (k + 1) = 256 ^ k * 256 := Nat.pow_succ 256 k
        have HST := show Hid _ from hstep
        have HPP := show Hid _ from hpp
        clear hr hn hstep hpp
        generalize octVal ns = ov at *
        generalize 256 ^ k = pw at *
        have d0 : decide ((n : Int) < 0) = false := decide_eq_false (by omega)
        go_wp2_with fail
        refine ⟨⟨k + 1, ns ++ [n], by omega, by go_num, ?_, ?_, ?_, by trivial⟩, by simp [intOf]; omega⟩
        · rw [HST.out]; go_num
        · rw [HST.out, HPP.out]; omega
        · show octets _ = _
          rw [HT.out]; exact HO.out
    · have hk4 : k = 4 := by omega
      subst hk4
      have hoc' : octets l = some ns := by have := hoc.out; rwa [List.take_of_length_le (by omega)] at this
      have HS := show Hid _ from HA2.out ns h4 hoc'
      clear hoc' hoc
      have hb4 : octVal ns < 4294967296 := Nat.lt_of_lt_of_le hov (by decide)
      clear hov
      go_wp2_with fail
      go_ret
      exact ⟨by rw [HS.out]; rfl, hq⟩

def hostR (T : List UInt8) : Bool := nameOk T || decide (0 ≤ addrR T)

set_option maxRecDepth 100000 in
set_option maxHeartbeats 800000 in
theorem rhost_any (T : List UInt8) (w : World) (hT : T.length ≤ 2097152) :
    Calls Tryz.prog 111 #[.string ⟨T.toArray⟩] w fun e w' => e = .returned (.bool (hostR T)) ∧ Q w w' := by
  have HN := fun w => show Hid _ from rname_any T w hT
  have HA := fun w => show Hid _ from raddr_any T w hT
  have HH : Hid (hostR T = (nameOk T || decide (0 ≤ addrR T))) := rfl
  generalize hostR T = hr at *
  generalize addrR T = ad at *
  go_enter Tryz.func111, Tryz.ntmps111
  go_wp2_with fail
  refine Calls.mono (Hid.out (HN _)) ?_
  rintro e w1 ⟨rfl, hq1⟩
  cases hn : nameOk T with
  | true =>
    rw [hn] at HH
    go_wp2_with fail
    go_ret
    exact ⟨by rw [HH.out]; rfl, hq1⟩
  | false =>
    rw [hn] at HH
    go_wp2_with fail
    refine Calls.mono (Hid.out (HA _)) ?_
    rintro e w2 ⟨rfl, hq2⟩
    go_wp2_with fail
    go_ret
    exact ⟨by rw [HH.out]; rfl, hq1.trans hq2⟩
end Go.Proofs.YtdmaffciijmdcaaGreatDoor

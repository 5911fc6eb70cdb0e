/-
  The document's answer: small letters, pairs of numbers, how many addresses.
-/
import Derived.Test.YtdmaffciijmdcaaGreatDoorRLabelToRNames
import Derived.Test.YtdmaffciijmdcaaGreatDoorRPartsToRG1
namespace Go.Proofs.YtdmaffciijmdcaaGreatDoor
namespace Plain
theorem lower_step {T : List UInt8} {k : Nat} {b : UInt8} (hk : T[k]? = some b) : lower (T.take (k + 1)) = lower (T.take k) ++ [lowB b] := by
  obtain ⟨hlt, rfl⟩ := List.getElem?_eq_some_iff.1 hk
  unfold lower
  rw [List.take_succ_eq_append_getElem hlt, List.map_append]; rfl
theorem lowB_up {b : UInt8} (h1 : 65 ≤ b.toNat) (h2 : b.toNat ≤ 90) : (lowB b).toNat = b.toNat + 32 := by
  unfold lowB
  rw [if_pos ⟨h1, h2⟩, UInt8.toNat_add]
  show (b.toNat + 32) % 256 = _
  omega
theorem lowB_same {b : UInt8} (h : ¬ (65 ≤ b.toNat ∧ b.toNat ≤ 90)) : lowB b = b := by unfold lowB; rw [if_neg h]

def sizeR (n : Nat) : Nat := 2 ^ (32 - n)
def pairR (l : List UInt8) (most : Nat) : Int × Int := match span l most with
  | some (x, y) => ((x : Int), (y : Int))
  | none => (-1, -1)
theorem num_no45 {l : List UInt8} {most n : Nat} (h : number l most = some n) : (45 : UInt8) ∉ l := by
  unfold number at h
  split at h
  · rename_i hx
    have hf := hx.1
    unfold numForm at hf
    simp only [Bool.and_eq_true] at hf
    intro hm
    have := List.all_eq_true.1 hf.1.2 45 hm
    cases this
  · cases h
theorem pair_two {T a b : List UInt8} {most : Nat} (h : parts 45 T = [a, b]) : pairR T most = match number a most, number b most with
    | some x, some y => ((x : Int), (y : Int))
    | _, _ => (-1, -1) := by
  rw [parts_cut] at h
  unfold pairR span
  cases hc : cutAt 45 T with
  | none => rw [hc] at h; cases h
  | some x =>
    obtain ⟨a', r⟩ := x
    rw [hc] at h
    injection h with h1 h2
    subst h1
    have hr : r = b := by
      rw [parts_cut] at h2
      cases hc2 : cutAt 45 r with
      | none => rw [hc2] at h2; injection h2
      | some y => rw [hc2] at h2; injection h2 with _ h3; exact absurd h3 (parts_ne _ _)
    subst hr
    dsimp only
    cases number a' most with
    | none => rfl
    | some x => cases number r most <;> rfl
theorem pair_not {T : List UInt8} {most : Nat} (h : ¬ (parts 45 T).length = 2) : pairR T most = (-1, -1) := by
  rw [parts_cut] at h
  unfold pairR span
  cases hc : cutAt 45 T with
  | none => rfl
  | some x =>
    obtain ⟨a, r⟩ := x
    rw [hc] at h
    dsimp only
    cases number a most with
    | none => rfl
    | some x =>
      cases hr : number r most with
      | none => rfl
      | some y =>
        exfalso
        apply h
        show (a :: parts 45 r).length = 2
        rw [parts_alone0 (num_no45 hr)]; rfl
end Plain
open Go.RowKit Plain

theorem pair_form (v : Int × Int) (x y : Int) (h : v = (x, y)) : v.1 = x ∧ v.2 = y := by rw [h]; exact ⟨rfl, rfl⟩

set_option maxRecDepth 100000 in
set_option maxHeartbeats 1600000 in
theorem rlower_any (T : List UInt8) (w : World) (hT : T.length ≤ 2097152) :
    Calls Tryz.prog 109 #[.string ⟨T.toArray⟩] w fun e w' => e = .returned (str (lower T)) ∧ Q w w' := by
  have hsz : (⟨T.toArray⟩ : ByteArray).size = T.length := rfl
  have HBK : Hid (∀ (x : World) (c : UInt8), (convert 99 9 (.slice (some ⟨x.heap.size, 0, none⟩) 1 1)).run Tryz.prog (x.alloc (.cells #[.int .u8 (c.toNat : Int)] 5)) = .ok (.string ⟨[c].toArray⟩) (x.alloc (.cells #[.int .u8 (c.toNat : Int)] 5))) := fun x c =>
    run_convert_bytes_back _ 99 9 5 ⟨x.heap.size, 0, none⟩ 1 [c] Tryz.underlying99 Tryz.underlying5 Tryz.underlying9 (fun i hi => by
      have : i = 0 := by simp at hi; exact hi
      subst this
      simp [go_sem, Addr.add])
  go_enter Tryz.func109, Tryz.ntmps109
  go_wp2_with fail
  go_loopw [3, 4, 5] (fun s i _ wr => ∃ k : Nat, k ≤ T.length ∧ i = .int .i64 k ∧ s = .string ⟨(lower (T.take k)).toArray⟩ ∧ Q w wr) (fun _ i _ _ => T.length - (intOf i).toNat)
  case atStart => exact ⟨0, Nat.zero_le _, rfl, rfl, Q.refl _⟩
  case round =>
    obtain ⟨k, hk, rfl, rfl, hq⟩ := hrel
    have hll : (lower (T.take k)).length ≤ 2097152 := by rw [lower_len, List.length_take]; omega
    by_cases hlt : k < T.length
    · have hget : T[k]? = some T[k] := List.getElem?_eq_getElem hlt
      have HS := show Hid _ from lower_step hget
      generalize lower (T.take k) = pre at *
      have hsp : (⟨pre.toArray⟩ : ByteArray).size = pre.length := rfl
      have hback := HBK.out wr (lowB T[k])
      clear hget
      by_cases h : 65 ≤ (T[k]).toNat ∧ (T[k]).toNat ≤ 90
      · have d1 : decide (65 ≤ ((⟨T.toArray⟩ : ByteArray)[k].toNat : Int)) = true := decide_eq_true (by show 65 ≤ ((T[k]).toNat : Int); omega)
        have d2 : decide (((⟨T.toArray⟩ : ByteArray)[k].toNat : Int) ≤ 90) = true := decide_eq_true (by show ((T[k]).toNat : Int) ≤ 90; omega)
        have hv : (((lowB T[k]).toNat : Nat) : Int) = ((⟨T.toArray⟩ : ByteArray)[k].toNat : Int) + 32 := by
          rw [lowB_up h.1 h.2]; show (((T[k]).toNat + 32 : Nat) : Int) = ((T[k]).toNat : Int) + 32; omega
        have hbb : (⟨T.toArray⟩ : ByteArray)[k].toNat ≤ 90 := h.2
        rw [hv] at hback
        generalize lowB T[k] = c at *
        clear h hv
        go_wp2_with fail
        refine ⟨⟨k + 1, by omega, by go_num, ?_, hq.alloc _⟩, by simp [intOf]; omega⟩
        rw [HS.out, ← str_app0]
      · have hv : lowB T[k] = (⟨T.toArray⟩ : ByteArray)[k] := lowB_same h
        have hbb : (⟨T.toArray⟩ : ByteArray)[k].toNat < 256 := UInt8.toNat_lt _
        rw [hv] at hback HS
        by_cases h1 : 65 ≤ (T[k]).toNat
        · have d1 : decide (65 ≤ ((⟨T.toArray⟩ : ByteArray)[k].toNat : Int)) = true := decide_eq_true (by show 65 ≤ ((T[k]).toNat : Int); omega)
          have d2 : decide (((⟨T.toArray⟩ : ByteArray)[k].toNat : Int) ≤ 90) = false := decide_eq_false (by show ¬ ((T[k]).toNat : Int) ≤ 90; omega)
          clear h hv h1
          go_wp2_with fail
          refine ⟨⟨k + 1, by omega, by go_num, ?_, hq.alloc _⟩, by simp [intOf]; omega⟩
          rw [HS.out, ← str_app0]
        · have d1 : decide (65 ≤ ((⟨T.toArray⟩ : ByteArray)[k].toNat : Int)) = false := decide_eq_false (by show ¬ 65 ≤ ((T[k]).toNat : Int); omega)
          clear h hv h1
          go_wp2_with fail
          refine ⟨⟨k + 1, by omega, by go_num, ?_, hq.alloc _⟩, by simp [intOf]; omega⟩
          rw [HS.out, ← str_app0]
    · have hkT : k = T.length := by omega
      subst hkT
      rw [List.take_of_length_le (Nat.le_refl _)]
      go_wp2_with fail
      go_ret
      exact ⟨rfl, hq⟩

set_option maxRecDepth 100000 in
set_option maxHeartbeats 800000 in
theorem rsize_any (n : Nat) (w : World) (hn : n ≤ 32) :
    Calls Tryz.prog 213 #[.int .i64 (n : Int)] w fun e w' => e = .returned (.int .i64 (sizeR n : Nat)) ∧ w' = w := by
  have HW : Hid (sizeR n = 2 ^ (32 - n)) := rfl
  go_enter Tryz.func213, Tryz.ntmps213
  go_wp2_with fail
  go_loop [3, 4] (fun v i => ∃ k : Nat, n ≤ k ∧ k ≤ 32 ∧ i = .int .i64 k ∧ v = .int .i64 ((2 ^ (k - n) : Nat) : Int)) (fun _ i => 32 - (intOf i).toNat)
  case atStart => exact ⟨n, Nat.le_refl _, by omega, rfl, by simp⟩
  case round =>
    obtain ⟨k, hk1, hk2, rfl, rfl⟩ := hrel
    have hpow : 2 ^ (k - n) ≤ 2 ^ 32 := Nat.pow_le_pow_right (by decide) (by omega)
    by_cases hlt : k < 32
    · have hs : (2 : Nat) ^ (k + 1 - n) = 2 * 2 ^ (k - n) := by rw [show k + 1 - n = (k - n) + 1 by omega, Nat.pow_succ]; omega
      have HS := show Hid _ from hs
      clear hs
      generalize (2 : Nat) ^ (k - n) = v at *
      go_wp2_with fail
      exact ⟨⟨k + 1, by omega, by omega, by go_num, by rw [HS.out]; go_num⟩, by simp [intOf]; omega⟩
    · have hk : k = 32 := by omega
      subst hk
      generalize (2 : Nat) ^ (32 - n) = v at *
      go_wp2_with fail
      go_ret
      exact ⟨ret_int (by rw [HW.out]), rfl⟩

set_option maxRecDepth 100000 in
set_option maxHeartbeats 1600000 in
theorem rpair_any (T : List UInt8) (most : Nat) (w : World) (hT : T.length ≤ 2097152) (hm : most ≤ 65535) :
    Calls Tryz.prog 214 #[.string ⟨T.toArray⟩, .int .i64 (most : Int)] w fun e w' => e = .returned (.tuple #[.int .i64 (pairR T most).1, .int .i64 (pairR T most).2]) ∧ Q w w' := by
  have H0 : Hid (¬ (parts 45 T).length = 2 → pairR T most = (-1, -1)) := pair_not
  have H2 : Hid (∀ a b, parts 45 T = [a, b] → pairR T most = match number a most, number b most with
    | some x, some y => ((x : Int), (y : Int))
    | _, _ => (-1, -1)) := fun a b h => pair_two h
  have HL : Hid (∀ p ∈ parts 45 T, p.length ≤ 4194304) := fun p h => by have := parts_le 45 T p h; omega
  have hcnt := parts_count_le 45 T
  have HP := show Hid _ from rparts_any T 45 w (by omega)
  go_enter Tryz.func214, Tryz.ntmps214
  go_wp2_with fail
  refine Calls.mono HP.out ?_
  rintro e w1 ⟨v, rfl, ⟨g, cap, rfl, hcell⟩, hq⟩
  have HC := show Hid _ from hcell
  clear hcell HP
  generalize parts 45 T = l at *
  by_cases h2 : l.length = 2
  case neg =>
    have d2 : ((l.length : Int) != 2) = true := by rw [bne_iff_ne]; omega
    have HS := show Hid _ from H0.out h2
    go_wp2_with fail
    go_ret2
    exact ⟨by rw [HS.out]; rfl, hq⟩
  obtain ⟨a, b, rfl⟩ : ∃ a b, l = [a, b] := by
    match l, h2 with
    | [a, b], _ => exact ⟨a, b, rfl⟩
  have HS := show Hid _ from H2.out a b rfl
  have c0 := HC.out 0 a rfl
  have c1 := HC.out 1 b rfl
  have HNA := fun w => show Hid _ from rnumber_any a most w (HL.out a (by simp)) hm
  have HNB := fun w => show Hid _ from rnumber_any b most w (HL.out b (by simp)) hm
  clear H0 H2 HL HC hcnt h2
  rw [show ([a, b] : List (List UInt8)).length = 2 from rfl]
  go_wp2_with fail
  refine Calls.mono (Hid.out (HNA _)) ?_
  rintro e w2 ⟨rfl, rfl⟩
  go_wp2_with fail
  refine Calls.mono (Hid.out (HNB _)) ?_
  rintro e w3 ⟨rfl, rfl⟩
  rcases numR_cases a most with ⟨hn, hr⟩ | ⟨x, hn, hr, hle⟩
  · rw [hr]
    rw [hn] at HS
    clear hr hn
    go_wp2_with fail
    go_ret2
    exact ⟨by rw [HS.out]; rfl, hq⟩
  · rw [hr]
    rw [hn] at HS
    clear hr hn
    have dx : decide ((x : Int) < 0) = false := decide_eq_false (by omega)
    rcases numR_cases b most with ⟨hn, hr⟩ | ⟨y, hn, hr, hle2⟩
    · rw [hr]
      rw [hn] at HS
      clear hr hn
      go_wp2_with fail
      go_ret2
      exact ⟨by rw [HS.out]; rfl, hq⟩
    · rw [hr]
      rw [hn] at HS
      clear hr hn
      have dy : decide ((y : Int) < 0) = false := decide_eq_false (by omega)
      go_wp2_with fail
      go_ret2
      exact ⟨by rw [HS.out]; rfl, hq⟩
end Go.Proofs.YtdmaffciijmdcaaGreatDoor
/-
  The document's answer: names of fields, fields, lines.
-/
namespace Go.Proofs.YtdmaffciijmdcaaGreatDoor
namespace Plain
def fnameS (l : List UInt8) : Bool := decide (0 < l.length) && allB ofName l
theorem u8_lt (x : UInt8) (n : Nat) (h : n < 256) : decide (x < UInt8.ofNat n) = decide (x.toNat < n) := by
  apply decide_eq_decide.2
  rw [UInt8.lt_iff_toNat_lt, UInt8.toNat_ofNat']
  rw [Nat.mod_eq_of_lt h]
theorem u8_eq (x : UInt8) (n : Nat) (h : n < 256) : (x == UInt8.ofNat n) = decide (x.toNat = n) := by
  rw [Bool.eq_iff_iff]
  simp only [beq_iff_eq, decide_eq_true_eq]
  rw [← UInt8.toNat_inj, UInt8.toNat_ofNat', Nat.mod_eq_of_lt h]
/-- A byte of a field's name, once it is a small one. -/
def smallName (x : UInt8) : Bool := small x || fig x || (x == 45)
theorem smallName_low (c : UInt8) : smallName (lowB c) = ofName c := by
  unfold smallName ofName
  by_cases h : 65 ≤ c.toNat ∧ c.toNat ≤ 90
  · have h1 := lowB_up h.1 h.2
    have h2 : great c = true := by unfold great; simp; omega
    have h3 : small (lowB c) = true := by unfold small; rw [h1]; simp; omega
    rw [h2, h3]; simp
  · have h1 : lowB c = c := lowB_same h
    have h2 : great c = false := by
      cases hg : great c with
      | false => rfl
      | true =>
        unfold great at hg
        simp at hg
        exact absurd (by omega) h
    rw [h1, h2]
    congr 1
    · simp
    · rw [show (c == 45) = decide (c.toNat = 45) from u8_eq c 45 (by decide), Bool.eq_iff_iff]; simp; omega
theorem less_one (x n : UInt8) : Op.bytesLess [x] [n] = decide (x < n) := by simp [Op.bytesLess]
theorem smallName_cases (x : UInt8) : (Op.bytesLess [x] [97] = false ∧ Op.bytesLess [x] [122] = true ∧ smallName x = true) ∨ (Op.bytesLess [x] [97] = false ∧ Op.bytesLess [x] [122] = false ∧ x = 122 ∧ smallName x = true) ∨
    (Op.bytesLess [x] [97] = false ∧ Op.bytesLess [x] [122] = false ∧ (¬ x = 122) ∧ Op.bytesLess [x] [48] = false ∧ Op.bytesLess [x] [57] = false ∧ (¬ x = 57) ∧ (¬ x = 45) ∧ smallName x = false) ∨
    (Op.bytesLess [x] [97] = true ∧ Op.bytesLess [x] [48] = true ∧ x = 45 ∧ smallName x = true) ∨ (Op.bytesLess [x] [97] = true ∧ Op.bytesLess [x] [48] = true ∧ (¬ x = 45) ∧ smallName x = false) ∨
    (Op.bytesLess [x] [97] = true ∧ Op.bytesLess [x] [48] = false ∧ Op.bytesLess [x] [57] = true ∧ smallName x = true) ∨ (Op.bytesLess [x] [97] = true ∧ Op.bytesLess [x] [48] = false ∧ Op.bytesLess [x] [57] = false ∧ x = 57 ∧ smallName x = true) ∨
    (Op.bytesLess [x] [97] = true ∧ Op.bytesLess [x] [48] = false ∧ Op.bytesLess [x] [57] = false ∧ (¬ x = 57) ∧ (¬ x = 45) ∧ smallName x = false) := by
  have a1 := u8_lt x 97 (by decide)
  have a2 := u8_lt x 122 (by decide)
  have a4 := u8_lt x 48 (by decide)
  have a5 := u8_lt x 57 (by decide)
  have a7 := u8_eq x 45 (by decide)
  have b : smallName x = decide ((97 ≤ x.toNat ∧ x.toNat ≤ 122) ∨ (48 ≤ x.toNat ∧ x.toNat ≤ 57) ∨ x.toNat = 45) := by
    unfold smallName small fig
    rw [show (x == 45) = decide (x.toNat = 45) from a7, Bool.eq_iff_iff]
    simp
    omega
  have e1 : x = 122 ↔ x.toNat = 122 := by rw [← UInt8.toNat_inj]; rfl
  have e2 : x = 57 ↔ x.toNat = 57 := by rw [← UInt8.toNat_inj]; rfl
  have e3 : x = 45 ↔ x.toNat = 45 := by rw [← UInt8.toNat_inj]; rfl
  simp only [less_one]
  rw [show decide (x < 97) = decide (x.toNat < 97) from a1, show decide (x < 122) = decide (x.toNat < 122) from a2, show decide (x < 48) = decide (x.toNat < 48) from a4, show decide (x < 57) = decide (x.toNat < 57) from a5, b, e1, e2, e3]
  simp only [decide_eq_true_eq, decide_eq_false_iff_not]
  omega
end Plain
open Go.RowKit Plain

theorem one_str (T : List UInt8) (k : Nat) (h : k < T.length) : (⟨T.toArray⟩ : ByteArray).extract k (k + 1) = ⟨[T[k]].toArray⟩ := by
  rw [mid_str]
  congr 2
  rw [List.drop_take, Nat.add_sub_cancel_left, ← List.getElem_cons_drop h]
  rfl

set_option maxRecDepth 100000 in
set_option maxHeartbeats 800000 in
theorem rfieldName_any (T : List UInt8) (w : World) (hT : T.length ≤ 2097152) :
    Calls Tryz.prog 140 #[.string ⟨T.toArray⟩] w fun e w' => e = .returned (.bool (fnameS T)) ∧ Q w w' := by
  have hsz : (⟨T.toArray⟩ : ByteArray).size = T.length := rfl
  go_enter Tryz.func140, Tryz.ntmps140
  go_wp2_with fail
  go_loopw [3, 4] (fun i _ wr => ∃ k : Nat, k ≤ T.length ∧ i = .int .i64 k ∧ Hid (allB ofName (T.take k) = true) ∧ Q w wr) (fun i _ _ => T.length - (intOf i).toNat)
  case atStart => exact ⟨0, Nat.zero_le _, rfl, rfl, Q.refl _⟩
  case round =>
    obtain ⟨k, hk, rfl, hall, hq⟩ := hrel
    by_cases hlt : k < T.length
    · have hget : T[k]? = some T[k] := List.getElem?_eq_getElem hlt
      have hex := one_str T k hlt
      have HL := fun x => show Hid _ from rlower_any [T[k]] x (by simp)
      generalize T[k] = c at *
      go_wp2_with fail
      refine Calls.mono (Hid.out (HL _)) ?_
      rintro e w1 ⟨rfl, hq1⟩
      unfold str
      have hl1 : lower [c] = [lowB c] := rfl
      rw [hl1]
      have HN : Hid (smallName (lowB c) = true → Hid (allB ofName (T.take (k + 1)) = true)) := fun h => allp_step hget hall.out (by rw [← smallName_low]; exact h)
      have HS : Hid (smallName (lowB c) = false → allB ofName T = false) := fun h => allp_stop hget (by rw [← smallName_low]; exact h)
      clear hget HL hl1
      generalize lowB c = x at *
      rcases smallName_cases x with ⟨d1, d2, hof⟩ | ⟨d1, d2, d3, hof⟩ | ⟨d1, d2, d3, d4, d5, d6, d7, hof⟩ | ⟨d1, d2, d3, hof⟩ | ⟨d1, d2, d3, hof⟩ | ⟨d1, d2, d3, hof⟩ | ⟨d1, d2, d3, d4, hof⟩ | ⟨d1, d2, d3, d4, d5, hof⟩
      · go_wp2_with fail
        exact ⟨⟨k + 1, by omega, by go_num, HN.out hof, hq.trans hq1⟩, by simp [intOf]; omega⟩
      · subst d3
        go_wp2_with fail
        exact ⟨⟨k + 1, by omega, by go_num, HN.out hof, hq.trans hq1⟩, by simp [intOf]; omega⟩
      · have ed3 := beq_eq_false_iff_ne.2 d3
        have ed6 := beq_eq_false_iff_ne.2 d6
        have ed7 := beq_eq_false_iff_ne.2 d7
        go_wp2_with fail
        go_ret
        exact ⟨by unfold fnameS; rw [HS.out hof]; simp, hq.trans hq1⟩
      · subst d3
        go_wp2_with fail
        exact ⟨⟨k + 1, by omega, by go_num, HN.out hof, hq.trans hq1⟩, by simp [intOf]; omega⟩
      · have ed3 := beq_eq_false_iff_ne.2 d3
        go_wp2_with fail
        go_ret
        exact ⟨by unfold fnameS; rw [HS.out hof]; simp, hq.trans hq1⟩
      · go_wp2_with fail
        exact ⟨⟨k + 1, by omega, by go_num, HN.out hof, hq.trans hq1⟩, by simp [intOf]; omega⟩
      · subst d4
        go_wp2_with fail
        exact ⟨⟨k + 1, by omega, by go_num, HN.out hof, hq.trans hq1⟩, by simp [intOf]; omega⟩
      · have ed4 := beq_eq_false_iff_ne.2 d4
        have ed5 := beq_eq_false_iff_ne.2 d5
        go_wp2_with fail
        go_ret
        exact ⟨by unfold fnameS; rw [HS.out hof]; simp, hq.trans hq1⟩
    · have hkT : k = T.length := by omega
      subst hkT
      have HS := show Hid _ from allp_done hall.out
      clear hall
      go_wp2_with fail
      go_ret
      exact ⟨by unfold fnameS; rw [HS.out]; simp, hq⟩
end Go.Proofs.YtdmaffciijmdcaaGreatDoor

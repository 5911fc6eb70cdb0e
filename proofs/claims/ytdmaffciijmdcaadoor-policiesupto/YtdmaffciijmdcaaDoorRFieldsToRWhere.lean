/-
  The document's answer: a rule's fields.
-/
import Derived.Test.YtdmaffciijmdcaaDoorRPlain2ToRPlain3
namespace Go.Proofs.YtdmaffciijmdcaaDoor
namespace Plain
theorem portR_star (n : Int) : portR [42] n = (true, true) := rfl
theorem portR_one {s : List UInt8} {n : Int} (h0 : ¬ s = [42]) (h : 0 ≤ numR s 65535) : portR s n = (n == numR s 65535, true) := by unfold portR; rw [if_neg h0, if_pos h]
theorem portR_two {s : List UInt8} {n : Int} (h0 : ¬ s = [42]) (h : ¬ 0 ≤ numR s 65535) : portR s n = (decide ((pairR s 65535).1 ≤ n) && decide (n ≤ (pairR s 65535).2), decide (0 ≤ (pairR s 65535).1) && decide ((pairR s 65535).1 ≤ (pairR s 65535).2)) := by unfold portR; rw [if_neg h0, if_neg h]
theorem minuteR_star (n : Int) : minuteR [42] n = (true, true) := rfl
theorem minuteR_up {s : List UInt8} {n : Int} (h0 : ¬ s = [42]) (h : (pairR s 10079).1 ≤ (pairR s 10079).2) : minuteR s n = (decide ((pairR s 10079).1 ≤ n) && decide (n ≤ (pairR s 10079).2), decide (0 ≤ (pairR s 10079).1)) := by unfold minuteR; rw [if_neg h0, if_pos h]
theorem minuteR_down {s : List UInt8} {n : Int} (h0 : ¬ s = [42]) (h : ¬ (pairR s 10079).1 ≤ (pairR s 10079).2) : minuteR s n = (decide ((pairR s 10079).1 ≤ n) || decide (n ≤ (pairR s 10079).2), true) := by unfold minuteR; rw [if_neg h0, if_neg h]
theorem numR_range (s : List UInt8) (most : Nat) : -1 ≤ numR s most ∧ numR s most ≤ most := by
  rcases numR_cases s most with ⟨_, h⟩ | ⟨n, _, h, hn⟩ <;> rw [h] <;> omega
theorem span_le {s : List UInt8} {most x y : Nat} (h : span s most = some (x, y)) : x ≤ most ∧ y ≤ most := by
  unfold span at h
  cases hc : cutAt 45 s with
  | none => rw [hc] at h; cases h
  | some v =>
    obtain ⟨a, r⟩ := v
    rw [hc] at h
    dsimp only at h
    cases h1 : number a most with
    | none => rw [h1] at h; cases h
    | some x' =>
      rw [h1] at h
      cases h2 : number r most with
      | none => rw [h2] at h; cases h
      | some y' => rw [h2] at h; cases h; exact ⟨number_le h1, number_le h2⟩
theorem pairR_range (s : List UInt8) (most : Nat) : (-1 ≤ (pairR s most).1 ∧ (pairR s most).1 ≤ most) ∧ (-1 ≤ (pairR s most).2 ∧ (pairR s most).2 ≤ most) := by
  rcases pairR_span s most with ⟨_, h⟩ | ⟨x, y, h1, h⟩
  · rw [h]; dsimp only; omega
  · have := span_le h1
    rw [h]; dsimp only; omega
end Plain
open Go.RowKit Plain

theorem tup2 {a b c d : Bool} (h : (a, b) = (c, d)) : Ending.returned (.tuple #[.bool a, .bool b]) = .returned (.tuple #[.bool c, .bool d]) := by cases h; rfl

set_option maxRecDepth 100000 in
set_option maxHeartbeats 1600000 in
theorem rport_any (s : List UInt8) (n : Int) (w : World) (hs : s.length ≤ 2097152) :
    Calls Tryd.prog 46 #[.string ⟨s.toArray⟩, .int .i64 n] w fun e w' => e = .returned (.tuple #[.bool (portR s n).1, .bool (portR s n).2]) ∧ Q w w' := by
  have HN := fun w => show Hid _ from rnumber_any s 65535 w (by omega) (by decide)
  have HP := fun w => show Hid _ from rpair_any s 65535 w hs (by decide)
  go_enter Tryd.func46, Tryd.ntmps46
  by_cases h0 : s = [42]
  · have hb : (s == [42]) = true := by rw [h0]; rfl
    have HS : Hid (portR s n = (true, true)) := by rw [h0]; exact portR_star n
    clear h0
    go_wp2_with fail
    go_ret2
    exact ⟨by rw [HS.out]; rfl, Q.refl _⟩
  have hb : (s == [42]) = false := beq_eq_false_iff_ne.2 h0
  obtain ⟨r1, r2⟩ := numR_range s 65535
  by_cases h1 : 0 ≤ numR s 65535
  · have HS : Hid _ := show portR s n = (n == numR s 65535, true) from portR_one h0 h1
    clear h0
    go_wp2_with fail
    refine Calls.mono (Hid.out (HN _)) ?_
    rintro e w1 ⟨rfl, rfl⟩
    go_wp2_with fail
    go_ret2
    exact ⟨by rw [HS.out]; rfl, Q.refl _⟩
  · have HS : Hid _ := show portR s n = (decide ((pairR s 65535).1 ≤ n) && decide (n ≤ (pairR s 65535).2), decide (0 ≤ (pairR s 65535).1) && decide ((pairR s 65535).1 ≤ (pairR s 65535).2)) from portR_two h0 h1
    clear h0
    obtain ⟨⟨p1, p2⟩, p3, p4⟩ := pairR_range s 65535
    go_wp2_with fail
    refine Calls.mono (Hid.out (HN _)) ?_
    rintro e w1 ⟨rfl, rfl⟩
    have d0 : decide (0 ≤ numR s 65535) = false := decide_eq_false (by omega)
    clear h1
    go_wp2_with fail
    refine Calls.mono (Hid.out (HP _)) ?_
    rintro e w2 ⟨rfl, hq⟩
    generalize (pairR s 65535).1 = a at *
    generalize (pairR s 65535).2 = b at *
    by_cases ha : a ≤ n
    · have da : decide (a ≤ n) = true := decide_eq_true ha
      by_cases hz : 0 ≤ a
      · have dz : decide (0 ≤ a) = true := decide_eq_true hz
        clear ha hz
        go_wp2_with fail
        go_ret2
        exact ⟨by rw [HS.out, da, dz]; rfl, hq⟩
      · have dz : decide (0 ≤ a) = false := decide_eq_false hz
        clear ha hz
        go_wp2_with fail
        go_ret2
        exact ⟨by rw [HS.out, da, dz]; rfl, hq⟩
    · have da : decide (a ≤ n) = false := decide_eq_false ha
      by_cases hz : 0 ≤ a
      · have dz : decide (0 ≤ a) = true := decide_eq_true hz
        clear ha hz
        go_wp2_with fail
        go_ret2
        exact ⟨by rw [HS.out, da, dz]; rfl, hq⟩
      · have dz : decide (0 ≤ a) = false := decide_eq_false hz
        clear ha hz
        go_wp2_with fail
        go_ret2
        exact ⟨by rw [HS.out, da, dz]; rfl, hq⟩

set_option maxRecDepth 100000 in
set_option maxHeartbeats 1600000 in
theorem rminute_any (s : List UInt8) (n : Int) (w : World) (hs : s.length ≤ 2097152) :
    Calls Tryd.prog 47 #[.string ⟨s.toArray⟩, .int .i64 n] w fun e w' => e = .returned (.tuple #[.bool (minuteR s n).1, .bool (minuteR s n).2]) ∧ Q w w' := by
  have HP := fun w => show Hid _ from rpair_any s 10079 w hs (by decide)
  go_enter Tryd.func47, Tryd.ntmps47
  by_cases h0 : s = [42]
  · have hb : (s == [42]) = true := by rw [h0]; rfl
    have HS : Hid (minuteR s n = (true, true)) := by rw [h0]; exact minuteR_star n
    clear h0
    go_wp2_with fail
    go_ret2
    exact ⟨by rw [HS.out]; rfl, Q.refl _⟩
  have hb : (s == [42]) = false := beq_eq_false_iff_ne.2 h0
  have HU : Hid ((pairR s 10079).1 ≤ (pairR s 10079).2 → minuteR s n = (decide ((pairR s 10079).1 ≤ n) && decide (n ≤ (pairR s 10079).2), decide (0 ≤ (pairR s 10079).1))) := minuteR_up h0
  have HD : Hid (¬ (pairR s 10079).1 ≤ (pairR s 10079).2 → minuteR s n = (decide ((pairR s 10079).1 ≤ n) || decide (n ≤ (pairR s 10079).2), true)) := minuteR_down h0
  clear h0
  go_wp2_with fail
  refine Calls.mono (Hid.out (HP _)) ?_
  rintro e w2 ⟨rfl, hq⟩
  generalize (pairR s 10079).1 = a at *
  generalize (pairR s 10079).2 = b at *
  by_cases hab : a ≤ b
  · have HS := show Hid _ from HU.out hab
    have dab : decide (a ≤ b) = true := decide_eq_true hab
    clear hab HU HD
    by_cases ha : a ≤ n
    · have da : decide (a ≤ n) = true := decide_eq_true ha
      clear ha
      go_wp2_with fail
      go_ret2
      exact ⟨by rw [HS.out, da]; rfl, hq⟩
    · have da : decide (a ≤ n) = false := decide_eq_false ha
      clear ha
      go_wp2_with fail
      go_ret2
      exact ⟨by rw [HS.out, da]; rfl, hq⟩
  · have HS := show Hid _ from HD.out (by omega)
    have dab : decide (a ≤ b) = false := decide_eq_false hab
    clear hab HU HD
    by_cases ha : a ≤ n
    · have da : decide (a ≤ n) = true := decide_eq_true ha
      clear ha
      go_wp2_with fail
      go_ret2
      exact ⟨by rw [HS.out, da]; rfl, hq⟩
    · have da : decide (a ≤ n) = false := decide_eq_false ha
      clear ha
      go_wp2_with fail
      go_ret2
      exact ⟨by rw [HS.out, da]; rfl, hq⟩
end Go.Proofs.YtdmaffciijmdcaaDoor
/-
  The document's answer: a rule's third field.
-/
namespace Go.Proofs.YtdmaffciijmdcaaDoor
open Go.RowKit Plain

namespace Plain
theorem addrR_range (l : List UInt8) : -1 ≤ addrR l ∧ addrR l < 4294967296 := by
  cases h : address l with
  | none => rw [address_none h]; omega
  | some ns => obtain ⟨q, hq, _, hr⟩ := address_four h; rw [hr]; omega
theorem whereR_bad {s host a n : List UInt8} (h0 : ¬ s = [42]) (h : parts 47 s = [a, n]) (hx : addrR a < 0 ∨ numR n 32 < 0 ∨ ¬ addrR a % (sizeR (numR n 32).toNat : Nat) = 0) : whereR s host = (false, false) := by rw [whereR_two h0 h, if_pos hx]
theorem whereR_good {s host a n : List UInt8} (h0 : ¬ s = [42]) (h : parts 47 s = [a, n]) (hx : ¬ (addrR a < 0 ∨ numR n 32 < 0 ∨ ¬ addrR a % (sizeR (numR n 32).toNat : Nat) = 0)) :
    whereR s host = (decide (addrR a ≤ addrR host) && decide (addrR host < addrR a + (sizeR (numR n 32).toNat : Nat)), true) := by rw [whereR_two h0 h, if_neg hx]
theorem whereR_dot {s host : List UInt8} (h0 : ¬ s = [42]) (h : ¬ (parts 47 s).length = 2) (hd : s[0]? = some 46) : whereR s host = (nameOk host && (host == s.drop 1 || (decide (s.length ≤ host.length) && host.drop (host.length - s.length) == s)), nameOk (s.drop 1)) := by rw [whereR_other h0 h, if_pos hd]
theorem whereR_name {s host : List UInt8} (h0 : ¬ s = [42]) (h : ¬ (parts 47 s).length = 2) (hd : ¬ s[0]? = some 46) : whereR s host = (host == s, nameOk s) := by rw [whereR_other h0 h, if_neg hd]
end Plain

set_option maxRecDepth 100000 in
set_option maxHeartbeats 3200000 in
theorem rwhere_any (s host : List UInt8) (w : World) (hs : s.length ≤ 2097152) (hh : host.length ≤ 2097152) :
    Calls Tryd.prog 45 #[.string ⟨s.toArray⟩, .string ⟨host.toArray⟩] w fun e w' => e = .returned (.tuple #[.bool (whereR s host).1, .bool (whereR s host).2]) ∧ Q w w' := by
  have hsz : (⟨s.toArray⟩ : ByteArray).size = s.length := rfl
  have hhz : (⟨host.toArray⟩ : ByteArray).size = host.length := rfl
  go_enter Tryd.func45, Tryd.ntmps45
  by_cases h0 : s = [42]
  · have hb : (s == [42]) = true := by rw [h0]; rfl
    have HS : Hid (whereR s host = (true, true)) := by rw [h0]; exact whereR_star host
    clear h0
    go_wp2_with fail
    go_ret2
    exact ⟨by rw [HS.out]; rfl, Q.refl _⟩
  have hb : (s == [42]) = false := beq_eq_false_iff_ne.2 h0
  have HL : Hid (∀ p ∈ parts 47 s, p.length ≤ 2097152) := fun p h => by have := parts_le 47 s p h; omega
  have hcnt := parts_count_le 47 s
  have HP := show Hid _ from rparts_any s 47 w (by omega)
  have HAH := fun w => show Hid _ from raddr_any host w hh
  have HNH := fun w => show Hid _ from rname_any host w hh
  have HW1 : Hid (∀ a n, parts 47 s = [a, n] → (addrR a < 0 ∨ numR n 32 < 0 ∨ ¬ addrR a % (sizeR (numR n 32).toNat : Nat) = 0) → whereR s host = (false, false)) := fun a n h hx => whereR_bad h0 h hx
  have HW2 : Hid (∀ a n, parts 47 s = [a, n] → ¬ (addrR a < 0 ∨ numR n 32 < 0 ∨ ¬ addrR a % (sizeR (numR n 32).toNat : Nat) = 0) → whereR s host = (decide (addrR a ≤ addrR host) && decide (addrR host < addrR a + (sizeR (numR n 32).toNat : Nat)), true)) := fun a n h hx => whereR_good h0 h hx
  have HW3 : Hid (¬ (parts 47 s).length = 2 → s[0]? = some 46 → whereR s host = (nameOk host && (host == s.drop 1 || (decide (s.length ≤ host.length) && host.drop (host.length - s.length) == s)), nameOk (s.drop 1))) := fun h hd => whereR_dot h0 h hd
  have HW4 : Hid (¬ (parts 47 s).length = 2 → ¬ s[0]? = some 46 → whereR s host = (host == s, nameOk s)) := fun h hd => whereR_name h0 h hd
  have HH0 := show Hid _ from h0
  clear h0
  go_wp2_with fail
  refine Calls.mono HP.out ?_
  rintro e w1 ⟨v, rfl, ⟨g, cap, rfl, hcell⟩, hq⟩
  have HC := show Hid _ from hcell
  clear hcell HP
  generalize parts 47 s = l at *
  by_cases h2 : l.length = 2
  · obtain ⟨a, n, rfl⟩ : ∃ a n, l = [a, n] := by
      match l, h2 with
      | [a, n], _ => exact ⟨a, n, rfl⟩
    have c0 := HC.out 0 a rfl
    have c1 := HC.out 1 n rfl
    have HAA := fun w => show Hid _ from raddr_any a w (HL.out a (by simp))
    have HNN := fun w => show Hid _ from rnumber_any n 32 w (by have := HL.out n (by simp); omega) (by decide)
    have HX1 := show Hid _ from HW1.out a n rfl
    have HX2 := show Hid _ from HW2.out a n rfl
    clear HW1 HW2 HW3 HW4 HL HC hcnt h2
    rw [show ([a, n] : List (List UInt8)).length = 2 from rfl]
    obtain ⟨ra, rb⟩ := addrR_range a
    obtain ⟨rc, rd⟩ := numR_range n 32
    obtain ⟨re, rf⟩ := addrR_range host
    go_wp2_with fail
    refine Calls.mono (Hid.out (HAA _)) ?_
    rintro e w2 ⟨rfl, hq2⟩
    have c1' := hq2.cell c1
    go_wp2_with fail
    refine Calls.mono (Hid.out (HNN _)) ?_
    rintro e w3 ⟨rfl, rfl⟩
    generalize addrR a = A at *
    generalize numR n 32 = N at *
    generalize addrR host = HH at *
    have hqq := hq.trans hq2
    clear hq hq2 c0 c1 c1'
    by_cases hA : A < 0
    · have HS := show Hid _ from HX1.out (.inl hA)
      have dA : decide (A < 0) = true := decide_eq_true hA
      clear HX1 HX2
      go_wp2_with fail
      go_ret2
      exact ⟨by rw [HS.out]; rfl, hqq⟩
    have dA : decide (A < 0) = false := decide_eq_false hA
    by_cases hN : N < 0
    · have HS := show Hid _ from HX1.out (.inr (.inl hN))
      have dN : decide (N < 0) = true := decide_eq_true hN
      clear HX1 HX2
      go_wp2_with fail
      go_ret2
      exact ⟨by rw [HS.out]; rfl, hqq⟩
    have dN : decide (N < 0) = false := decide_eq_false hN
    obtain ⟨k, rfl⟩ := Int.eq_ofNat_of_zero_le (show 0 ≤ N by omega)
    obtain ⟨B, rfl⟩ := Int.eq_ofNat_of_zero_le (show 0 ≤ A by omega)
    have HSZ := fun w => show Hid _ from rsize_any k w (by omega)
    have hv0 : 0 < sizeR k := Nat.pow_pos (by decide)
    have hv1 : sizeR k ≤ 2 ^ 32 := Nat.pow_le_pow_right (by decide) (by omega)
    rw [Int.toNat_natCast] at HX1 HX2
    generalize sizeR k = V at *
    have hV0 : ¬ (V : Int) = 0 := by omega
    have ht : (B : Int).tmod (V : Int) = ((B % V : Nat) : Int) := by rw [Int.tmod_eq_emod_of_nonneg (by omega), Int.natCast_emod]
    have he : (B : Int) % (V : Int) = ((B % V : Nat) : Int) := by rw [Int.natCast_emod]
    rw [he] at HX1 HX2
    have hmlt : B % V < V := Nat.mod_lt _ hv0
    have hml2 : B % V ≤ B := Nat.mod_le _ _
    clear he
    generalize B % V = M at *
    by_cases hM : M = 0
    · have HS := show Hid _ from HX2.out (by omega)
      have dM : ((M : Int) != 0) = false := by rw [bne_eq_false_iff_eq]; omega
      clear HX1 HX2 hM
      go_wp2_with (first | (go_at_call 76; refine Calls.mono (Hid.out (HSZ _)) ?_; rintro e w' ⟨rfl, hw⟩; rw [hw]; clear hw))
      refine Calls.mono (Hid.out (HAH _)) ?_
      rintro e w4 ⟨rfl, hq4⟩
      have hq5 := hqq.trans hq4
      by_cases hge : (B : Int) ≤ HH
      · have dge : decide ((B : Int) ≤ HH) = true := decide_eq_true hge
        go_wp2_with (first | (go_at_call 76; refine Calls.mono (Hid.out (HSZ _)) ?_; rintro e w' ⟨rfl, hw⟩; rw [hw]; clear hw))
        go_ret2
        exact ⟨by rw [HS.out, dge]; rfl, hq5⟩
      · have dge : decide ((B : Int) ≤ HH) = false := decide_eq_false hge
        go_wp2_with (first | (go_at_call 76; refine Calls.mono (Hid.out (HSZ _)) ?_; rintro e w' ⟨rfl, hw⟩; rw [hw]; clear hw))
        go_ret2
        exact ⟨by rw [HS.out, dge]; rfl, hq5⟩
    · have HS := show Hid _ from HX1.out (by omega)
      have dM : ((M : Int) != 0) = true := by rw [bne_iff_ne]; omega
      clear HX1 HX2 hM
      go_wp2_with (first | (go_at_call 76; refine Calls.mono (Hid.out (HSZ _)) ?_; rintro e w' ⟨rfl, hw⟩; rw [hw]; clear hw))
      go_ret2
      exact ⟨by rw [HS.out]; rfl, hqq⟩
  · have d2 : ((l.length : Int) == 2) = false := by rw [beq_eq_false_iff_ne]; omega
    have HX3 := show Hid _ from HW3.out h2
    have HX4 := show Hid _ from HW4.out h2
    clear HW1 HW2 HW3 HW4 HL HC hcnt h2
    by_cases hd : s[0]? = some 46
    · have HS := show Hid _ from HX3.out hd
      obtain ⟨hp, hd0⟩ := List.getElem?_eq_some_iff.1 hd
      have e0 : (((⟨s.toArray⟩ : ByteArray)[0].toNat : Int) == 46) = true := byte_eq hp hp 46 rfl hd0
      have hms1 := str_drop0 s 1
      have hms2 := str_drop0 host (host.length - s.length)
      have HN1 := fun w => show Hid _ from rname_any (s.drop 1) w (by rw [List.length_drop]; omega)
      clear HX3 HX4 hd hd0
      have hl1 : (s.drop 1).length = s.length - 1 := List.length_drop
      generalize s.drop 1 = t at *
      generalize host.drop (host.length - s.length) = mid at *
      go_wp2_with fail
      refine Calls.mono (Hid.out (HN1 _)) ?_
      rintro e w2 ⟨rfl, hq2⟩
      go_wp2_with fail
      refine Calls.mono (Hid.out (HNH _)) ?_
      rintro e w3 ⟨rfl, hq3⟩
      have hqq := hq.trans (hq2.trans hq3)
      clear hq hq2 hq3 HN1 HNH HAH
      generalize nameOk t = n1 at *
      generalize nameOk host = n2 at *
      by_cases hl : s.length ≤ host.length
      · have dl : decide ((s.length : Int) ≤ (host.length : Int)) = true := decide_eq_true (by omega)
        rw [decide_eq_true hl, Bool.true_and] at HS
        cases n2 with
        | false =>
          go_wp2_with fail
          all_goals go_ret2
          all_goals exact ⟨by rw [HS.out]; rfl, hqq⟩
        | true =>
          cases he : (host == t) with
          | true =>
            rw [he] at HS
            go_wp2_with fail
            all_goals go_ret2
            all_goals exact ⟨by rw [HS.out]; rfl, hqq⟩
          | false =>
            rw [he] at HS
            go_wp2_with fail
            all_goals go_ret2
            all_goals exact ⟨by rw [HS.out]; rfl, hqq⟩
      · have dl : decide ((s.length : Int) ≤ (host.length : Int)) = false := decide_eq_false (by omega)
        rw [decide_eq_false hl, Bool.false_and] at HS
        cases n2 with
        | false =>
          go_wp2_with fail
          all_goals go_ret2
          all_goals exact ⟨by rw [HS.out]; rfl, hqq⟩
        | true =>
          cases he : (host == t) with
          | true =>
            rw [he] at HS
            go_wp2_with fail
            all_goals go_ret2
            all_goals exact ⟨by rw [HS.out]; rfl, hqq⟩
          | false =>
            rw [he] at HS
            go_wp2_with fail
            all_goals go_ret2
            all_goals exact ⟨by rw [HS.out]; rfl, hqq⟩
    · have HS := show Hid _ from HX4.out hd
      clear HX3 HX4
      have HN1 := fun w => show Hid _ from rname_any s w hs
      by_cases hp : 0 < s.length
      · have e0 : (((⟨s.toArray⟩ : ByteArray)[0].toNat : Int) == 46) = false := byte_ne hp hp 46 rfl (fun h => hd (by rw [List.getElem?_eq_getElem hp, h]))
        clear hd
        go_wp2_with fail
        refine Calls.mono (Hid.out (HN1 _)) ?_
        rintro e w2 ⟨rfl, hq2⟩
        go_wp2_with fail
        go_ret2
        exact ⟨by rw [HS.out]; rfl, hq.trans hq2⟩
      · clear hd
        go_wp2_with fail
        refine Calls.mono (Hid.out (HN1 _)) ?_
        rintro e w2 ⟨rfl, hq2⟩
        go_wp2_with fail
        go_ret2
        exact ⟨by rw [HS.out]; rfl, hq.trans hq2⟩
end Go.Proofs.YtdmaffciijmdcaaDoor

/-
  The document's answer: a rule's third field.
-/
import Derived.Test.YtdmaffciijmdcaaGreatDoorRPlain2ToRFields
namespace Go.Proofs.YtdmaffciijmdcaaGreatDoor
open Go.RowKit Plain

namespace Plain
theorem addrR_range (l : List UInt8) : -1 ≤ addrR l ∧ addrR l < 4294967296 := by
  cases h : address l with
  | none => rw [address_none h]; omega
  | some ns => obtain ⟨q, hq, _, hr⟩ := address_four h; rw [hr]; omega
theorem whereR_bad {s host a n : List UInt8} (h0 : ¬ s = [42]) (h : parts 47 s = [a, n]) (hx : addrR a < 0 ∨ numR n 32 < 0 ∨ ¬ addrR a % (sizeR (numR n 32).toNat : Nat) = 0) : whereR s host = (false, false) := by rw [whereR_two h0 h, if_pos hx]
theorem whereR_good {s host a n : List UInt8} (h0 : ¬ s = [42]) (h : parts 47 s = [a, n]) (hx : ¬ (addrR a < 0 ∨ numR n 32 < 0 ∨ ¬ addrR a % (sizeR (numR n 32).toNat : Nat) = 0)) :
    whereR s host = (decide (addrR a ≤ addrR host) && decide (addrR host < addrR a + (sizeR (numR n 32).toNat : Nat)), true) := by rw [whereR_two h0 h, if_neg hx]
theorem whereR_dot {s host : List UInt8} (h0 : ¬ s = [42]) (h : ¬ (parts 47 s).length = 2) (hd : s[0]? = some 46) : whereR s host = (nameOk host && (host == s.drop 1 || (decide (s.length ≤ host.length) && host.drop (host.length - s.length) == s)), nameOk (s.drop 1)) := by rw [whereR_other h0 h, if_pos hd]
theorem whereR_name {s host : List UInt8} (h0 : ¬ s = [42]) (h : ¬ (parts 47 s).length = 2) (hd : ¬ s[0]? = some 46) : whereR s host = (host == s, nameOk s) := by rw [whereR_other h0 h, if_neg hd]
end Plain

set_option maxRecDepth 100000 in
set_option maxHeartbeats 3200000 in
theorem rwhere_any (s host : List UInt8) (w : World) (hs : s.length ≤ 2097152) (hh : host.length ≤ 2097152) :
    Calls Tryz.prog 183 #[.string ⟨s.toArray⟩, .string ⟨host.toArray⟩] w fun e w' => e = .returned (.tuple #[.bool (whereR s host).1, .bool (whereR s host).2]) ∧ Q w w' := by
  have hsz : (⟨s.toArray⟩ : ByteArray).size = s.length := rfl
  have hhz : (⟨host.toArray⟩ : ByteArray).size = host.length := rfl
  go_enter Tryz.func183, Tryz.ntmps183
  by_cases h0 : s = [42]
  · have hb : (s == [42]) = true := by rw [h0]; rfl
    have HS : Hid (whereR s host = (true, true)) := by rw [h0]; exact whereR_star host
    clear h0
    go_wp2_with fail
    go_ret2
    exact ⟨by rw [HS.out]; rfl, Q.refl _⟩
  have hb : (s == [42]) = false := beq_eq_false_iff_ne.2 h0
  have HL : Hid (∀ p ∈ parts 47 s, p.length ≤ 2097152) := fun p h => by have := parts_le 47 s p h; omega
  have hcnt := parts_count_le 47 s
  have HP := show Hid _ from rparts_any s 47 w (by omega)
  have HAH := fun w => show Hid _ from raddr_any host w hh
  have HNH := fun w => show Hid _ from rname_any host w hh
  have HW1 : Hid (∀ a n, parts 47 s = [a, n] → (addrR a < 0 ∨ numR n 32 < 0 ∨ ¬ addrR a % (sizeR (numR n 32).toNat : Nat) = 0) → whereR s host = (false, false)) := fun a n h hx => whereR_bad h0 h hx
  have HW2 : Hid (∀ a n, parts 47 s = [a, n] → ¬ (addrR a < 0 ∨ numR n 32 < 0 ∨ ¬ addrR a % (sizeR (numR n 32).toNat : Nat) = 0) → whereR s host = (decide (addrR a ≤ addrR host) && decide (addrR host < addrR a + (sizeR (numR n 32).toNat : Nat)), true)) := fun a n h hx => whereR_good h0 h hx
  have HW3 : Hid (¬ (parts 47 s).length = 2 → s[0]? = some 46 → whereR s host = (nameOk host && (host == s.drop 1 || (decide (s.length ≤ host.length) && host.drop (host.length - s.length) == s)), nameOk (s.drop 1))) := fun h hd => whereR_dot h0 h hd
  have HW4 : Hid (¬ (parts 47 s).length = 2 → ¬ s[0]? = some 46 → whereR s host = (host == s, nameOk s)) := fun h hd => whereR_name h0 h hd
  have HH0 := show Hid _ from h0
  clear h0
  go_wp2_with fail
  refine Calls.mono HP.out ?_
  rintro e w1 ⟨v, rfl, ⟨g, cap, rfl, hcell⟩, hq⟩
  have HC := show Hid _ from hcell
  clear hcell HP
  generalize parts 47 s = l at *
  by_cases h2 : l.length = 2
  · obtain ⟨a, n, rfl⟩ : ∃ a n, l = [a, n] := by
      match l, h2 with
      | [a, n], _ => exact ⟨a, n, rfl⟩
    have c0 := HC.out 0 a rfl
    have c1 := HC.out 1 n rfl
    have HAA := fun w => show Hid _ from raddr_any a w (HL.out a (by simp))
    have HNN := fun w => show Hid _ from rnumber_any n 32 w (by have := HL.out n (by simp); omega) (by decide)
    have HX1 := show Hid _ from HW1.out a n rfl
    have HX2 := show Hid _ from HW2.out a n rfl
    clear HW1 HW2 HW3 HW4 HL HC hcnt h2
    rw [show ([a, n] : List (List UInt8)).length = 2 from rfl]
    obtain ⟨ra, rb⟩ := addrR_range a
    obtain ⟨rc, rd⟩ := numR_range n 32
    obtain ⟨re, rf⟩ := addrR_range host
    go_wp2_with fail
    refine Calls.mono (Hid.out (HAA _)) ?_
    rintro e w2 ⟨rfl, hq2⟩
    have c1' := hq2.cell c1
    go_wp2_with fail
    refine Calls.mono (Hid.out (HNN _)) ?_
    rintro e w3 ⟨rfl, rfl⟩
    generalize addrR a = A at *
    generalize numR n 32 = N at *
    generalize addrR host = HH at *
    have hqq := hq.trans hq2
    clear hq hq2 c0 c1 c1'
    by_cases hA : A < 0
    · have HS := show Hid _ from HX1.out (.inl hA)
      have dA : decide (A < 0) = true := decide_eq_true hA
      clear HX1 HX2
      go_wp2_with fail
      go_ret2
      exact ⟨by rw [HS.out]; rfl, hqq⟩
    have dA : decide (A < 0) = false := decide_eq_false hA
    by_cases hN : N < 0
    · have HS := show Hid _ from HX1.out (.inr (.inl hN))
      have dN : decide (N < 0) = true := decide_eq_true hN
      clear HX1 HX2
      go_wp2_with fail
      go_ret2
      exact ⟨by rw [HS.out]; rfl, hqq⟩
    have dN : decide (N < 0) = false := decide_eq_false hN
    obtain ⟨k, rfl⟩ := Int.eq_ofNat_of_zero_le (show 0 ≤ N by omega)
    obtain ⟨B, rfl⟩ := Int.eq_ofNat_of_zero_le (show 0 ≤ A by omega)
    have HSZ := fun w => show Hid _ from rsize_any k w (by omega)
    have hv0 : 0 < sizeR k := Nat.pow_pos (by decide)
    have hv1 : sizeR k ≤ 2 ^ 32 := Nat.pow_le_pow_right (by decide) (by omega)
    rw [Int.toNat_natCast] at HX1 HX2
    generalize sizeR k = V at *
    have hV0 : ¬ (V : Int) = 0 := by omega
    have ht : (B : Int).tmod (V : Int) = ((B % V : Nat) : Int) := by rw [Int.tmod_eq_emod_of_nonneg (by omega), Int.natCast_emod]
    have he : (B : Int) % (V : Int) = ((B % V : Nat) : Int) := by rw [Int.natCast_emod]
    rw [he] at HX1 HX2
    have hmlt : B % V < V := Nat.mod_lt _ hv0
    have hml2 : B % V ≤ B := Nat.mod_le _ _
    clear he
    generalize B % V = M at *
    by_cases hM : M = 0
    · have HS := show Hid _ from HX2.out (by omega)
      have dM : ((M : Int) != 0) = false := by rw [bne_eq_false_iff_eq]; omega
      clear HX1 HX2 hM
      go_wp2_with (first | (go_at_call 213; refine Calls.mono (Hid.out (HSZ _)) ?_; rintro e w' ⟨rfl, hw⟩; rw [hw]; clear hw))
      refine Calls.mono (Hid.out (HAH _)) ?_
      rintro e w4 ⟨rfl, hq4⟩
      have hq5 := hqq.trans hq4
      by_cases hge : (B : Int) ≤ HH
      · have dge : decide ((B : Int) ≤ HH) = true := decide_eq_true hge
        go_wp2_with (first | (go_at_call 213; refine Calls.mono (Hid.out (HSZ _)) ?_; rintro e w' ⟨rfl, hw⟩; rw [hw]; clear hw))
        go_ret2
        exact ⟨by rw [HS.out, dge]; rfl, hq5⟩
      · have dge : decide ((B : Int) ≤ HH) = false := decide_eq_false hge
        go_wp2_with (first | (go_at_call 213; refine Calls.mono (Hid.out (HSZ _)) ?_; rintro e w' ⟨rfl, hw⟩; rw [hw]; clear hw))
        go_ret2
        exact ⟨by rw [HS.out, dge]; rfl, hq5⟩
    · have HS := show Hid _ from HX1.out (by omega)
      have dM : ((M : Int) != 0) = true := by rw [bne_iff_ne]; omega
      clear HX1 HX2 hM
      go_wp2_with (first | (go_at_call 213; refine Calls.mono (Hid.out (HSZ _)) ?_; rintro e w' ⟨rfl, hw⟩; rw [hw]; clear hw))
      go_ret2
      exact ⟨by rw [HS.out]; rfl, hqq⟩
  · have d2 : ((l.length : Int) == 2) = false := by rw [beq_eq_false_iff_ne]; omega
    have HX3 := show Hid _ from HW3.out h2
    have HX4 := show Hid _ from HW4.out h2
    clear HW1 HW2 HW3 HW4 HL HC hcnt h2
    by_cases hd : s[0]? = some 46
    · have HS := show Hid _ from HX3.out hd
      obtain ⟨hp, hd0⟩ := List.getElem?_eq_some_iff.1 hd
      have e0 : (((⟨s.toArray⟩ : ByteArray)[0].toNat : Int) == 46) = true := byte_eq hp hp 46 rfl hd0
      have hms1 := str_drop0 s 1
      have hms2 := str_drop0 host (host.length - s.length)
      have HN1 := fun w => show Hid _ from rname_any (s.drop 1) w (by rw [List.length_drop]; omega)
      clear HX3 HX4 hd hd0
      have hl1 : (s.drop 1).length = s.length - 1 := List.length_drop
      generalize s.drop 1 = t at *
      generalize host.drop (host.length - s.length) = mid at *
      go_wp2_with fail
      refine Calls.mono (Hid.out (HN1 _)) ?_
      rintro e w2 ⟨rfl, hq2⟩
      go_wp2_with fail
      refine Calls.mono (Hid.out (HNH _)) ?_
      rintro e w3 ⟨rfl, hq3⟩
      have hqq := hq.trans (hq2.trans hq3)
      clear hq hq2 hq3 HN1 HNH HAH
      generalize nameOk t = n1 at *
      generalize nameOk host = n2 at *
      by_cases hl : s.length ≤ host.length
      · have dl : decide ((s.length : Int) ≤ (host.length : Int)) = true := decide_eq_true (by omega)
        rw [decide_eq_true hl, Bool.true_and] at HS
        cases n2 with
        | false =>
          go_wp2_with fail
          all_goals go_ret2
          all_goals exact ⟨by rw [HS.out]; rfl, hqq⟩
        | true =>
          cases he : (host == t) with
          | true =>
            rw [he] at HS
            go_wp2_with fail
            all_goals go_ret2
            all_goals exact ⟨by rw [HS.out]; rfl, hqq⟩
          | false =>
            rw [he] at HS
            go_wp2_with fail
            all_goals go_ret2
            all_goals exact ⟨by rw [HS.out]; rfl, hqq⟩
      · have dl : decide ((s.length : Int) ≤ (host.length : Int)) = false := decide_eq_false (by omega)
        rw [decide_eq_false hl, Bool.false_and] at HS
        cases n2 with
        | false =>
          go_wp2_with fail
          all_goals go_ret2
          all_goals exact ⟨by rw [HS.out]; rfl, hqq⟩
        | true =>
          cases he : (host == t) with
          | true =>
            rw [he] at HS
            go_wp2_with fail
            all_goals go_ret2
            all_goals exact ⟨by rw [HS.out]; rfl, hqq⟩
          | false =>
            rw [he] at HS
            go_wp2_with fail
            all_goals go_ret2
            all_goals exact ⟨by rw [HS.out]; rfl, hqq⟩
    · have HS := show Hid _ from HX4.out hd
      clear HX3 HX4
      have HN1 := fun w => show Hid _ from rname_any s w hs
      by_cases hp : 0 < s.length
      · have e0 : (((⟨s.toArray⟩ : ByteArray)[0].toNat : Int) == 46) = false := byte_ne hp hp 46 rfl (fun h => hd (by rw [List.getElem?_eq_getElem hp, h]))
        clear hd
        go_wp2_with fail
        refine Calls.mono (Hid.out (HN1 _)) ?_
        rintro e w2 ⟨rfl, hq2⟩
        go_wp2_with fail
        go_ret2
        exact ⟨by rw [HS.out]; rfl, hq.trans hq2⟩
      · clear hd
        go_wp2_with fail
        refine Calls.mono (Hid.out (HN1 _)) ?_
        rintro e w2 ⟨rfl, hq2⟩
        go_wp2_with fail
        go_ret2
        exact ⟨by rw [HS.out]; rfl, hq.trans hq2⟩
end Go.Proofs.YtdmaffciijmdcaaGreatDoor
/-
  The document's answer: does a rule fit?
-/
namespace Go.Proofs.YtdmaffciijmdcaaGreatDoor
namespace Plain
theorem fitsR_not {f0 f1 f2 f3 f4 t h : List UInt8} {p m : Int} (h1 : (f0 == [97, 108, 108, 111, 119]) = false) (h2 : (f0 == [100, 101, 110, 121]) = false) : fitsR [f0, f1, f2, f3, f4] t h p m = (false, false) := by
  unfold fitsR
  dsimp only
  rw [if_pos ⟨beq_eq_false_iff_ne.1 h1, beq_eq_false_iff_ne.1 h2⟩]
theorem fitsR_yes {f0 f1 f2 f3 f4 t h : List UInt8} {p m : Int} (h0 : (f0 == [97, 108, 108, 111, 119]) = true ∨ (f0 == [100, 101, 110, 121]) = true) : fitsR [f0, f1, f2, f3, f4] t h p m =
    ((f1 == [42] || f1 == t) && (whereR f2 h).1 && (portR f3 p).1 && (minuteR f4 m).1, (tenantOk f1 || f1 == [42]) && (whereR f2 h).2 && (portR f3 p).2 && (minuteR f4 m).2) := by
  unfold fitsR
  dsimp only
  rw [if_neg]
  intro ⟨ha, hb⟩
  rcases h0 with h0 | h0
  · exact ha (beq_iff_eq.1 h0)
  · exact hb (beq_iff_eq.1 h0)
end Plain
open Go.RowKit Plain

set_option maxRecDepth 100000 in
set_option maxHeartbeats 3200000 in
theorem rfits_any (v : Value) (l : List (List UInt8)) (t h : List UInt8) (p m : Int) (w : World) (hv : StrsAt w v l) (hl : ∀ s ∈ l, s.length ≤ 2097152) (hn : l.length ≤ 4194304) (hh : h.length ≤ 2097152) :
    Calls Tryz.prog 139 #[v, .string ⟨t.toArray⟩, .string ⟨h.toArray⟩, .int .i64 p, .int .i64 m] w fun e w' => e = .returned (.tuple #[.bool (fitsR l t h p m).1, .bool (fitsR l t h p m).2]) ∧ Q w w' := by
  obtain ⟨g, cap, rfl, hcell⟩ := hv
  go_enter Tryz.func139, Tryz.ntmps139
  by_cases h5 : l.length = 5
  case neg =>
    have d5 : ((l.length : Int) != 5) = true := by rw [bne_iff_ne]; omega
    have HS : Hid (fitsR l t h p m = (false, false)) := fitsR_len h5
    clear hcell hl
    go_wp2_with fail
    go_ret2
    exact ⟨by rw [HS.out]; rfl, Q.refl _⟩
  obtain ⟨f0, f1, f2, f3, f4, rfl⟩ := five h5
  have c0 := hcell 0 f0 rfl
  have c1 := hcell 1 f1 rfl
  have c2 := hcell 2 f2 rfl
  have c3 := hcell 3 f3 rfl
  have c4 := hcell 4 f4 rfl
  have HT := fun w => show Hid _ from rtenant_any f1 w (by have := hl f1 (by simp); omega)
  have HW := fun w => show Hid _ from rwhere_any f2 h w (hl f2 (by simp)) hh
  have HP := fun w => show Hid _ from rport_any f3 p w (hl f3 (by simp))
  have HM := fun w => show Hid _ from rminute_any f4 m w (hl f4 (by simp))
  have HF1 : Hid ((f0 == [97, 108, 108, 111, 119]) = false → (f0 == [100, 101, 110, 121]) = false → fitsR [f0, f1, f2, f3, f4] t h p m = (false, false)) := fitsR_not
  have HF2 : Hid (((f0 == [97, 108, 108, 111, 119]) = true ∨ (f0 == [100, 101, 110, 121]) = true) → fitsR [f0, f1, f2, f3, f4] t h p m =
    ((f1 == [42] || f1 == t) && (whereR f2 h).1 && (portR f3 p).1 && (minuteR f4 m).1, (tenantOk f1 || f1 == [42]) && (whereR f2 h).2 && (portR f3 p).2 && (minuteR f4 m).2)) := fitsR_yes
  clear hcell hl hn h5
  rw [show ([f0, f1, f2, f3, f4] : List (List UInt8)).length = 5 from rfl]
  generalize fitsR [f0, f1, f2, f3, f4] t h p m = res at *
  go_upto_region 1 with fail
  go_cut [34] (fun b wx => b = .bool (!((f0 == [97, 108, 108, 111, 119]) || (f0 == [100, 101, 110, 121]))) ∧ wx = w)
  case first =>
    cases h1 : (f0 == [97, 108, 108, 111, 119]) with
    | true =>
      go_wp2_with fail
      go_meet
      exact ⟨by rw [h1]; rfl, rfl⟩
    | false =>
      go_wp2_with fail
      go_meet
      exact ⟨by rw [h1]; rfl, rfl⟩
  case rest =>
    obtain ⟨rfl, rfl⟩ := hcut
    cases h0 : ((f0 == [97, 108, 108, 111, 119]) || (f0 == [100, 101, 110, 121])) with
    | false =>
      have HS := show Hid _ from HF1.out (Bool.or_eq_false_iff.1 h0).1 (Bool.or_eq_false_iff.1 h0).2
      clear h0 HF1 HF2
      go_wp2_with fail
      go_ret2
      exact ⟨by rw [HS.out]; rfl, Q.refl _⟩
    | true =>
      have HS := show Hid _ from HF2.out ((Bool.or_eq_true _ _).mp h0)
      clear h0 HF1 HF2 c0
      go_wp2_with fail
      refine Calls.mono (Hid.out (HT _)) ?_
      rintro e w2 ⟨rfl, rfl⟩
      go_wp2_with fail
      refine Calls.mono (Hid.out (HW _)) ?_
      rintro e w3 ⟨rfl, hq3⟩
      have c1' := hq3.cell c1
      have c3' := hq3.cell c3
      have c4' := hq3.cell c4
      clear c1 c2 c3 c4
      go_wp2_with fail
      refine Calls.mono (Hid.out (HP _)) ?_
      rintro e w4 ⟨rfl, hq4⟩
      have c1 := hq4.cell c1'
      have c4 := hq4.cell c4'
      clear c1' c3' c4'
      go_wp2_with fail
      refine Calls.mono (Hid.out (HM _)) ?_
      rintro e w5 ⟨rfl, hq5⟩
      have c1' := hq5.cell c1
      have hq := hq3.trans (hq4.trans hq5)
      clear c1 c4 hq3 hq4 hq5
      generalize (whereR f2 h).1 = a1 at *
      generalize (whereR f2 h).2 = a2 at *
      generalize (portR f3 p).1 = b1 at *
      generalize (portR f3 p).2 = b2 at *
      generalize (minuteR f4 m).1 = e1 at *
      generalize (minuteR f4 m).2 = e2 at *
      generalize tenantOk f1 = tn at *
      generalize hx : (f1 == [42]) = x at *
      generalize hy : (f1 == t) = y at *
      go_upto_region 7 with fail
      go_cut [19] (fun b wx => b = .bool ((x || y) && a1 && b1 && e1) ∧ wx = w5)
      case first =>
        cases x <;> cases y <;> cases a1 <;> cases b1 <;> cases e1 <;> (go_wp2_with fail; go_meet; exact ⟨rfl, rfl⟩)
      case rest =>
        obtain ⟨rfl, rfl⟩ := hcut
        generalize ((x || y) && a1 && b1 && e1) = z at *
        cases tn <;> cases x <;> cases a2 <;> cases b2 <;> cases e2 <;> (go_wp2_with fail; go_ret2; exact ⟨by rw [HS.out]; rfl, hq⟩)
end Go.Proofs.YtdmaffciijmdcaaGreatDoor

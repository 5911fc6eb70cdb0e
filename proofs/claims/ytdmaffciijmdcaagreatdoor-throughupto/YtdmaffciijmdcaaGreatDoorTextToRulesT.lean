/-
  The statements' own functions: a rule's text.
-/
import Derived.Test.YtdmaffciijmdcaaGreatDoorKeep1ToKeep2
import Derived.Deep.DeepCutAuto
import Derived.Deep.CutBlock
namespace Go.Proofs.YtdmaffciijmdcaaGreatDoor
namespace Plain
/-- A rule by raw numbers. -/
structure RawR where
  says : Int
  who : Int
  whr : Int
  bts : Int
  frm : Int
  til : Int
  beg : Int
  fin : Int
def saysT (r : RawR) : List UInt8 := if pickN r.says 2 = 0 then [97, 108, 108, 111, 119] else [100, 101, 110, 121]
def whoT (r : RawR) : List UInt8 := if pickN r.who 4 < 3 then tenantS (pickN r.who 4) else [42]
/-- The block's first address. -/
def netA (r : RawR) : Nat := pickN r.whr 4294967296 / 2 ^ (32 - pickN r.bts 33) * 2 ^ (32 - pickN r.bts 33)
def whereT (r : RawR) : List UInt8 :=
  if pickN r.whr 20 < 6 then nameS (pickN r.whr 20) else if pickN r.whr 20 < 12 then [46] ++ nameS (pickN r.whr 20)
  else if pickN r.whr 20 < 19 then dotted (netA r) ++ [47] ++ digits (pickN r.bts 33) else [42]
def portT (r : RawR) : List UInt8 :=
  if pickN r.til 65536 < pickN r.frm 65536 then digits (pickN r.frm 65536) else if r.frm.tmod 3 ≠ 0 then digits (pickN r.frm 65536) ++ [45] ++ digits (pickN r.til 65536) else [42]
def whenT (r : RawR) : List UInt8 := if r.beg.tmod 3 ≠ 0 then digits (pickN r.beg 10080) ++ [45] ++ digits (pickN r.fin 10080) else [42]
def ruleT (r : RawR) : List UInt8 := saysT r ++ [32] ++ whoT r ++ [32] ++ whereT r ++ [32] ++ portT r ++ [32] ++ whenT r ++ [10]
end Plain
open Go.RowKit Plain

structure RawOk (r : RawR) : Prop where
  says : I64 r.says
  who : I64 r.who
  whr : I64 r.whr
  bts : I64 r.bts
  frm : I64 r.frm
  til : I64 r.til
  beg : I64 r.beg
  fin : I64 r.fin

def rawV (r : RawR) : Value := .agg #[.int .i64 r.says, .int .i64 r.who, .int .i64 r.whr, .int .i64 r.bts, .int .i64 r.frm, .int .i64 r.til, .int .i64 r.beg, .int .i64 r.fin]

theorem tenantS_len (n : Nat) : (tenantS n).length ≤ 3 := by unfold tenantS; split <;> simp
theorem nameS_len (n : Nat) : (nameS n).length ≤ 15 := by unfold nameS; split <;> simp
theorem saysT_len (r : RawR) : (saysT r).length ≤ 5 := by unfold saysT; split <;> simp
theorem whoT_len (r : RawR) : (whoT r).length ≤ 3 := by
  unfold whoT; split
  · exact tenantS_len _
  · simp
theorem dotted_len (a : Nat) (h : a < 4294967296) : (dotted a).length ≤ 23 := by
  have l1 := digits_len6 (a / 16777216) (by omega)
  have l2 := digits_len6 (a / 65536 % 256) (by omega)
  have l3 := digits_len6 (a / 256 % 256) (by omega)
  have l4 := digits_len6 (a % 256) (by omega)
  unfold dotted
  simp; omega
theorem netA_lt (r : RawR) : netA r < 4294967296 := by
  have h := pickN_lt r.whr (n := 4294967296) (by decide)
  unfold netA
  exact Nat.lt_of_le_of_lt (Nat.div_mul_le_self _ _) h
theorem whereT_len (r : RawR) : (whereT r).length ≤ 29 := by
  have h1 := nameS_len (pickN r.whr 20)
  have h2 := dotted_len _ (netA_lt r)
  have h3 := digits_len6 (pickN r.bts 33) (by have := pickN_lt r.bts (n := 33) (by decide); omega)
  unfold whereT
  split
  · omega
  split
  · simp; omega
  split
  · simp; omega
  · simp
theorem portT_len (r : RawR) : (portT r).length ≤ 11 := by
  have h1 := digits_len6 (pickN r.frm 65536) (by have := pickN_lt r.frm (n := 65536) (by decide); omega)
  have h2 := digits_len6 (pickN r.til 65536) (by have := pickN_lt r.til (n := 65536) (by decide); omega)
  unfold portT
  split
  · omega
  split
  · simp; omega
  · simp
theorem whenT_len (r : RawR) : (whenT r).length ≤ 11 := by
  have h1 := digits_len6 (pickN r.beg 10080) (by have := pickN_lt r.beg (n := 10080) (by decide); omega)
  have h2 := digits_len6 (pickN r.fin 10080) (by have := pickN_lt r.fin (n := 10080) (by decide); omega)
  unfold whenT
  split
  · simp; omega
  · simp

set_option maxRecDepth 100000 in
set_option maxHeartbeats 1600000 in
theorem text_any (r : RawR) (w : World) (hr : RawOk r) :
    Calls Tryz.prog 42 #[rawV r] w fun e w' => e = .returned (str (ruleT r)) ∧ Q w w' := by
  have HR : Hid (RawOk r) := hr
  clear hr
  unfold rawV
  go_enter Tryz.func42, Tryz.ntmps42
  go_upto_if 16 with (first | (go_at_call 12; refine (pick_any _ 2 _ HR.out.says (by decide) (by decide)).mono ?_; rintro e w' ⟨rfl, hw⟩; rw [hw]))
  go_cut [3] (fun s3 wx => s3 = .string ⟨(saysT r).toArray⟩ ∧ wx = (w.alloc (.cells #[.int .i64 r.says, .int .i64 r.who, .int .i64 r.whr, .int .i64 r.bts, .int .i64 r.frm, .int .i64 r.til, .int .i64 r.beg, .int .i64 r.fin] 94)))
  case first =>
    by_cases h : pickN r.says 2 = 0
    · have hb : (((pickN r.says 2 : Nat) : Int) == 0) = true := by rw [beq_iff_eq]; omega
      have HS : Hid (saysT r = [97, 108, 108, 111, 119]) := if_pos h
      clear h
      go_wp2_with fail
      go_meet
      exact ⟨by rw [HS.out], rfl⟩
    · have hb : (((pickN r.says 2 : Nat) : Int) == 0) = false := by rw [beq_eq_false_iff_ne]; omega
      have HS : Hid (saysT r = [100, 101, 110, 121]) := if_neg h
      clear h
      go_wp2_with fail
      go_meet
      exact ⟨by rw [HS.out], rfl⟩
  case rest =>
    obtain ⟨rfl, rfl⟩ := hcut
    go_upto_if 21 with (first | (go_at_call 12; refine (pick_any _ 4 _ HR.out.who (by decide) (by decide)).mono ?_; rintro e w' ⟨rfl, hw⟩; rw [hw]))
    go_cut [4] (fun s4 wx => s4 = .string ⟨(whoT r).toArray⟩ ∧ Q (w.alloc (.cells #[.int .i64 r.says, .int .i64 r.who, .int .i64 r.whr, .int .i64 r.bts, .int .i64 r.frm, .int .i64 r.til, .int .i64 r.beg, .int .i64 r.fin] 94)) wx)
    case first =>
      by_cases h : pickN r.who 4 < 3
      · have HS : Hid (whoT r = tenantS (pickN r.who 4)) := if_pos h
        go_wp2_with fail
        refine (tenants_any _ _ (by omega) (by omega)).mono ?_
        rintro e w1 ⟨rfl, hq⟩
        go_wp2_with fail
        go_meet
        exact ⟨by rw [HS.out]; rfl, hq⟩
      · have HS : Hid (whoT r = [42]) := if_neg h
        go_wp2_with fail
        go_meet
        exact ⟨by rw [HS.out], Q.refl _⟩
    case rest =>
      obtain ⟨rfl, hqc⟩ := hcut
      obtain ⟨hcl, hfr, hz⟩ := hqc.made
      go_upto_block 0 with (first | (go_at_call 12; refine (pick_any _ 20 _ HR.out.whr (by decide) (by decide)).mono ?_; rintro e w' ⟨rfl, hw⟩; rw [hw]))
      go_cut [6, 8, 32, 38] (fun s6 _ _ _ wx => s6 = .string ⟨(whereT r).toArray⟩ ∧ Q (w.alloc (.cells #[.int .i64 r.says, .int .i64 r.who, .int .i64 r.whr, .int .i64 r.bts, .int .i64 r.frm, .int .i64 r.til, .int .i64 r.beg, .int .i64 r.fin] 94)) wx)
      case first =>
        by_cases h6 : pickN r.whr 20 < 6
        · have HS : Hid (whereT r = nameS (pickN r.whr 20)) := if_pos h6
          go_wp2_with fail
          refine (names_any _ _ (by omega) (by omega)).mono ?_
          rintro e w1 ⟨rfl, hq⟩
          go_wp2_with fail
          go_meet
          exact ⟨by rw [HS.out]; rfl, hqc.trans hq⟩
        by_cases h12 : pickN r.whr 20 < 12
        · have HS : Hid (whereT r = [46] ++ nameS (pickN r.whr 20)) := (if_neg h6).trans (if_pos h12)
          have hl := nameS_len (pickN r.whr 20)
          generalize hg : nameS (pickN r.whr 20) = nm at *
          have G := show Hid _ from hg
          clear hg
          go_wp2_with fail
          refine (names_any _ _ (by omega) (by omega)).mono ?_
          rintro e w1 ⟨rfl, hq⟩
          rw [Int.toNat_natCast, G.out]
          unfold str
          go_wp2_with fail
          go_meet
          exact ⟨by rw [HS.out, ← str_app], hqc.trans hq⟩
        by_cases h19 : pickN r.whr 20 < 19
        · have HS : Hid (whereT r = dotted (netA r) ++ [47] ++ digits (pickN r.bts 33)) := ((if_neg h6).trans (if_neg h12)).trans (if_pos h19)
          have hl1 := dotted_len _ (netA_lt r)
          have hl2 := digits_len6 (pickN r.bts 33) (by have := pickN_lt r.bts (n := 33) (by decide); omega)
          have hp33 := pickN_lt r.bts (n := 33) (by decide)
          have hA := pickN_lt r.whr (n := 4294967296) (by decide)
          have hV0 : 0 < 2 ^ (32 - pickN r.bts 33) := Nat.pow_pos (by decide)
          have hV1 : 2 ^ (32 - pickN r.bts 33) ≤ 2 ^ 32 := Nat.pow_le_pow_right (by decide) (by omega)
          have hN : netA r = pickN r.whr 4294967296 / 2 ^ (32 - pickN r.bts 33) * 2 ^ (32 - pickN r.bts 33) := rfl
          have hW : widthS r.bts = 2 ^ (32 - pickN r.bts 33) := rfl
          generalize 2 ^ (32 - pickN r.bts 33) = V at hV0 hV1 hN hW
          generalize hgA : pickN r.whr 4294967296 = A at hA hN
          have hAV : A / V * V ≤ A := Nat.div_mul_le_self _ _
          have hAd : A / V ≤ A := Nat.div_le_self _ _
          have c1 : ((A : Int) / (V : Int)) = ((A / V : Nat) : Int) := by rw [Int.natCast_ediv]
          have c2 : ((A : Int) / (V : Int) * (V : Int)) = ((A / V * V : Nat) : Int) := by rw [Int.natCast_mul, Int.natCast_ediv]
          have t0 : (A : Int).tdiv (V : Int) = (A : Int) / (V : Int) := Int.tdiv_eq_ediv_of_nonneg (by omega)
          have t2 : IntKind.i64.wrap ((A : Int) / (V : Int)) = (A : Int) / (V : Int) := by
            rw [c1]
            generalize A / V = D at *
            exact IntWalk.i64_in _ ⟨by omega, by omega⟩
          have t3 : IntKind.i64.wrap ((A : Int) / (V : Int) * (V : Int)) = (A : Int) / (V : Int) * (V : Int) := by
            rw [c2]
            generalize A / V * V = D at *
            exact IntWalk.i64_in _ ⟨by omega, by omega⟩
          have hV0' : ¬ (V : Int) = 0 := by omega
          have DD : ∀ w, Hid (Calls Tryz.prog 44 #[.int .i64 ((A : Int) / (V : Int) * (V : Int))] w fun e w' => e = .returned (.string ⟨(dotted (netA r)).toArray⟩) ∧ ∃ m, w' = w.drewN m) := fun w => by
            show Calls _ _ _ _ _
            rw [c2, hN]
            exact dotted_any (A / V * V) w (Nat.lt_of_le_of_lt hAV hA)
          have DG : ∀ w, Hid (Calls Tryz.prog 46 #[.int .i64 ((pickN r.bts 33 : Nat) : Int)] w fun e w' => e = .returned (.string ⟨(digits (pickN r.bts 33)).toArray⟩) ∧ ∃ m, w' = w.drewN m) := fun w => digits_any _ w (by omega) (by omega)
          have DA : ∀ w, Hid (Calls Tryz.prog 45 #[.int .i64 r.whr] w fun e w' => e = .returned (.int .i64 (A : Int)) ∧ w' = w) := fun w => by
            have := address_any r.whr w HR.out.whr
            rw [hgA] at this
            exact this
          have DP : ∀ w, Hid (Calls Tryz.prog 12 #[.int .i64 r.bts, .int .i64 33] w fun e w' => e = .returned (.int .i64 ((pickN r.bts 33 : Nat) : Int)) ∧ w' = w) := fun w => pick_any r.bts 33 w HR.out.bts (by decide) (by decide)
          have HW := show Hid _ from hW
          generalize dotted (netA r) = dn at *
          generalize digits (pickN r.bts 33) = dg at *
          clear hW hN hgA c1 c2
          go_wp2_with (first | (go_at_call 89; refine (width_any r.bts _ HR.out.bts).mono ?_; rintro e w' ⟨rfl, hw⟩; rw [hw, HW.out]))
          go_quiet ((first | (go_at_call 45; exact Calls.quiet_of_same (Hid.out (DA _))) | (go_at_call 44; exact Calls.quiet_of (Hid.out (DD _))) | (go_at_call 12; exact Calls.quiet_of_same (Hid.out (DP _))) | (go_at_call 46; exact Calls.quiet_of (Hid.out (DG _)))))
          go_wp2_with fail
          go_meet
          exact ⟨by rw [HS.out, ← str_app, ← str_app], hqc.drews _⟩
        · have HS : Hid (whereT r = [42]) := ((if_neg h6).trans (if_neg h12)).trans (if_neg h19)
          go_wp2_with fail
          go_meet
          exact ⟨by rw [HS.out], hqc⟩
      case rest =>
        clear hcl hfr hz hqc
        obtain ⟨rfl, hqc⟩ := hcut
        obtain ⟨hcl, hfr, hz⟩ := hqc.made
        have hpf := pickN_lt r.frm (n := 65536) (by decide)
        have hpt := pickN_lt r.til (n := 65536) (by decide)
        go_upto_if 66 with (first | (go_at_call_of 12 (Value.int IntKind.i64 r.frm); refine (pick_any _ 65536 _ HR.out.frm (by decide) (by decide)).mono ?_; rintro e w' ⟨rfl, hw⟩; rw [hw]) | (go_at_call_of 12 (Value.int IntKind.i64 r.til); refine (pick_any _ 65536 _ HR.out.til (by decide) (by decide)).mono ?_; rintro e w' ⟨rfl, hw⟩; rw [hw]))
        go_cut [9] (fun s9 wx => s9 = .string ⟨(portT r).toArray⟩ ∧ Q (w.alloc (.cells #[.int .i64 r.says, .int .i64 r.who, .int .i64 r.whr, .int .i64 r.bts, .int .i64 r.frm, .int .i64 r.til, .int .i64 r.beg, .int .i64 r.fin] 94)) wx)
        case first =>
          have D1 : ∀ w, Hid (Calls Tryz.prog 46 #[.int .i64 ((pickN r.frm 65536 : Nat) : Int)] w fun e w' => e = .returned (.string ⟨(digits (pickN r.frm 65536)).toArray⟩) ∧ ∃ m, w' = w.drewN m) := fun w => digits_any _ w (by omega) (by omega)
          have D2 : ∀ w, Hid (Calls Tryz.prog 46 #[.int .i64 ((pickN r.til 65536 : Nat) : Int)] w fun e w' => e = .returned (.string ⟨(digits (pickN r.til 65536)).toArray⟩) ∧ ∃ m, w' = w.drewN m) := fun w => digits_any _ w (by omega) (by omega)
          have l1 := digits_len6 (pickN r.frm 65536) (by omega)
          have l2 := digits_len6 (pickN r.til 65536) (by omega)
          by_cases h : pickN r.til 65536 < pickN r.frm 65536
          · have HS : Hid (portT r = digits (pickN r.frm 65536)) := if_pos h
            go_wp2_with fail
            refine Calls.mono (Hid.out (D1 _)) ?_
            rintro e w1 ⟨rfl, m, rfl⟩
            go_wp2_with fail
            go_meet
            exact ⟨by rw [HS.out], hqc.drews _⟩
          by_cases h3 : r.frm.tmod 3 ≠ 0
          · have HS : Hid (portT r = digits (pickN r.frm 65536) ++ [45] ++ digits (pickN r.til 65536)) := (if_neg h).trans (if_pos h3)
            have b3 : (r.frm.tmod 3 != 0) = true := by rw [bne_iff_ne]; exact h3
            clear h3
            generalize digits (pickN r.frm 65536) = d1 at *
            generalize digits (pickN r.til 65536) = d2 at *
            go_wp2_with fail
            refine Calls.mono (Hid.out (D1 _)) ?_
            rintro e w1 ⟨rfl, m1, rfl⟩
            go_wp2_with fail
            refine Calls.mono (Hid.out (D2 _)) ?_
            rintro e w1 ⟨rfl, m2, rfl⟩
            go_wp2_with fail
            go_meet
            exact ⟨by rw [HS.out, ← str_app, ← str_app], hqc.drews _⟩
          · have HS : Hid (portT r = [42]) := (if_neg h).trans (if_neg h3)
            have b3 : (r.frm.tmod 3 != 0) = false := by rw [bne_eq_false_iff_eq]; exact Decidable.of_not_not h3
            clear h3
            go_wp2_with fail
            go_meet
            exact ⟨by rw [HS.out], hqc⟩
        case rest =>
          clear hcl hfr hz hqc
          obtain ⟨rfl, hqc⟩ := hcut
          obtain ⟨hcl, hfr, hz⟩ := hqc.made
          have hpb := pickN_lt r.beg (n := 10080) (by decide)
          have hpe := pickN_lt r.fin (n := 10080) (by decide)
          go_upto_if 82 with fail
          go_cut [12] (fun s12 wx => s12 = .string ⟨(whenT r).toArray⟩ ∧ Q (w.alloc (.cells #[.int .i64 r.says, .int .i64 r.who, .int .i64 r.whr, .int .i64 r.bts, .int .i64 r.frm, .int .i64 r.til, .int .i64 r.beg, .int .i64 r.fin] 94)) wx)
          case first =>
            have D1 : ∀ w, Hid (Calls Tryz.prog 46 #[.int .i64 ((pickN r.beg 10080 : Nat) : Int)] w fun e w' => e = .returned (.string ⟨(digits (pickN r.beg 10080)).toArray⟩) ∧ ∃ m, w' = w.drewN m) := fun w => digits_any _ w (by omega) (by omega)
            have D2 : ∀ w, Hid (Calls Tryz.prog 46 #[.int .i64 ((pickN r.fin 10080 : Nat) : Int)] w fun e w' => e = .returned (.string ⟨(digits (pickN r.fin 10080)).toArray⟩) ∧ ∃ m, w' = w.drewN m) := fun w => digits_any _ w (by omega) (by omega)
            have P1 : ∀ w, Hid (Calls Tryz.prog 12 #[.int .i64 r.beg, .int .i64 10080] w fun e w' => e = .returned (.int .i64 ((pickN r.beg 10080 : Nat) : Int)) ∧ w' = w) := fun w => pick_any r.beg 10080 w HR.out.beg (by decide) (by decide)
            have P2 : ∀ w, Hid (Calls Tryz.prog 12 #[.int .i64 r.fin, .int .i64 10080] w fun e w' => e = .returned (.int .i64 ((pickN r.fin 10080 : Nat) : Int)) ∧ w' = w) := fun w => pick_any r.fin 10080 w HR.out.fin (by decide) (by decide)
            have l1 := digits_len6 (pickN r.beg 10080) (by omega)
            have l2 := digits_len6 (pickN r.fin 10080) (by omega)
            by_cases h3 : r.beg.tmod 3 ≠ 0
            · have HS : Hid (whenT r = digits (pickN r.beg 10080) ++ [45] ++ digits (pickN r.fin 10080)) := if_pos h3
              have b3 : (r.beg.tmod 3 != 0) = true := by rw [bne_iff_ne]; exact h3
              clear h3
              generalize digits (pickN r.beg 10080) = d1 at *
              generalize digits (pickN r.fin 10080) = d2 at *
              go_wp2_with fail
              go_quiet ((first | (go_at_call_of 12 (Value.int IntKind.i64 r.beg); exact Calls.quiet_of_same (Hid.out (P1 _))) | (go_at_call_of 12 (Value.int IntKind.i64 r.fin); exact Calls.quiet_of_same (Hid.out (P2 _))) | (go_at_call_of 46 (Value.int IntKind.i64 ((pickN r.beg 10080 : Nat) : Int)); exact Calls.quiet_of (Hid.out (D1 _))) | (go_at_call_of 46 (Value.int IntKind.i64 ((pickN r.fin 10080 : Nat) : Int)); exact Calls.quiet_of (Hid.out (D2 _)))))
              go_wp2_with fail
              go_meet
              exact ⟨by rw [HS.out, ← str_app, ← str_app], hqc.drews _⟩
            · have HS : Hid (whenT r = [42]) := if_neg h3
              have b3 : (r.beg.tmod 3 != 0) = false := by rw [bne_eq_false_iff_eq]; exact Decidable.of_not_not h3
              clear h3
              go_wp2_with fail
              go_meet
              exact ⟨by rw [HS.out], hqc⟩
          case rest =>
            clear hcl hfr hz hqc
            obtain ⟨rfl, hqc⟩ := hcut
            have HT : Hid (ruleT r = saysT r ++ [32] ++ whoT r ++ [32] ++ whereT r ++ [32] ++ portT r ++ [32] ++ whenT r ++ [10]) := rfl
            have l1 := saysT_len r
            have l2 := whoT_len r
            have l3 := whereT_len r
            have l4 := portT_len r
            have l5 := whenT_len r
            generalize saysT r = t1 at *
            generalize whoT r = t2 at *
            generalize whereT r = t3 at *
            generalize portT r = t4 at *
            generalize whenT r = t5 at *
            go_wp2_with fail
            go_ret
            refine ⟨?_, ((Q.refl w).alloc _).trans hqc⟩
            unfold str
            rw [HT.out, ← str_app, ← str_app, ← str_app, ← str_app, ← str_app, ← str_app, ← str_app, ← str_app, ← str_app]
            rfl
end Go.Proofs.YtdmaffciijmdcaaGreatDoor
/-
  The statements' own functions: a text of rules.
-/
namespace Go.Proofs.YtdmaffciijmdcaaGreatDoor
namespace Plain
def rulesT (l : List RawR) : List UInt8 := (l.take 40).flatMap ruleT
end Plain
open Go.RowKit Plain

def RawAt (w : World) (b o : Nat) (r : RawR) : Prop :=
  w.cell? ⟨b, o, none⟩ = some (.int .i64 r.says) ∧ w.cell? ⟨b, o + 1, none⟩ = some (.int .i64 r.who) ∧ w.cell? ⟨b, o + 2, none⟩ = some (.int .i64 r.whr) ∧ w.cell? ⟨b, o + 3, none⟩ = some (.int .i64 r.bts) ∧
  w.cell? ⟨b, o + 4, none⟩ = some (.int .i64 r.frm) ∧ w.cell? ⟨b, o + 5, none⟩ = some (.int .i64 r.til) ∧ w.cell? ⟨b, o + 6, none⟩ = some (.int .i64 r.beg) ∧ w.cell? ⟨b, o + 7, none⟩ = some (.int .i64 r.fin)

/-- A list of rules that came in. -/
def RawsAt (w : World) (v : Value) (l : List RawR) : Prop :=
  (l = [] ∧ ∃ a cap, v = .slice a 0 cap) ∨
  ∃ b off cap, v = .slice (some ⟨b, off, none⟩) l.length cap ∧ l.length ≤ 9223372036854775807 ∧ ∀ i r, l[i]? = some r → RawAt w b (off + i * 8) r ∧ RawOk r

theorem RawAt.stays {w w' : World} {b o : Nat} {r : RawR} (h : RawAt w b o r) (q : Q w w') : RawAt w' b o r := by
  obtain ⟨h0, h1, h2, h3, h4, h5, h6, h7⟩ := h
  exact ⟨q.cell h0, q.cell h1, q.cell h2, q.cell h3, q.cell h4, q.cell h5, q.cell h6, q.cell h7⟩
theorem RawsAt.stays {w w' : World} {v : Value} {l : List RawR} (h : RawsAt w v l) (q : Q w w') : RawsAt w' v l := by
  rcases h with h | ⟨b, off, cap, h1, h2, h3⟩
  · exact .inl h
  · exact .inr ⟨b, off, cap, h1, h2, fun i r hi => ⟨(h3 i r hi).1.stays q, (h3 i r hi).2⟩⟩

theorem ruleT_len (r : RawR) : (ruleT r).length ≤ 64 := by
  have l1 := saysT_len r
  have l2 := whoT_len r
  have l3 := whereT_len r
  have l4 := portT_len r
  have l5 := whenT_len r
  unfold ruleT
  simp; omega
theorem flat_len (l : List RawR) : (l.flatMap ruleT).length ≤ 64 * l.length := by
  induction l with
  | nil => simp
  | cons r l ih => have := ruleT_len r; simp at ih ⊢; omega
theorem rulesT_len (l : List RawR) : (rulesT l).length ≤ 2560 := by
  have := flat_len (l.take 40)
  have h : (l.take 40).length ≤ 40 := by simp; omega
  unfold rulesT; omega

theorem take_next {l : List RawR} {k : Nat} {r : RawR} (h : l[k]? = some r) : (l.take (k + 1)).flatMap ruleT = (l.take k).flatMap ruleT ++ ruleT r := by
  obtain ⟨hk, rfl⟩ := List.getElem?_eq_some_iff.1 h
  rw [List.take_succ_eq_append_getElem hk, List.flatMap_append]; simp

set_option maxRecDepth 100000 in
set_option maxHeartbeats 800000 in
theorem rules_any (v : Value) (l : List RawR) (w : World) (hl : RawsAt w v l) :
    Calls Tryz.prog 14 #[v] w fun e w' => e = .returned (str (rulesT l)) ∧ Q w w' := by
  rcases hl with ⟨rfl, a, cap, rfl⟩ | ⟨b, off, cap, rfl, hlen, hat⟩
  · go_enter Tryz.func14, Tryz.ntmps14
    go_wp2_with fail
    refine wp_loop_rounds 1 ?_
    rw [rounds_succ]
    go_wp2_with fail
    go_ret
    exact ⟨rfl, Q.refl _⟩
  · have HAt : Hid (∀ i r, l[i]? = some r → RawAt w b (off + i * 8) r ∧ RawOk r) := hat
    clear hat
    go_enter Tryz.func14, Tryz.ntmps14
    go_wp2_with fail
    go_loopw [3, 4] (fun s i wr => ∃ k : Nat, k ≤ l.length ∧ k ≤ 40 ∧ i = .int .i64 k ∧ s = .string ⟨((l.take k).flatMap ruleT).toArray⟩ ∧ Q w wr) (fun _ i _ => l.length - (intOf i).toNat)
    case atStart => exact ⟨0, Nat.zero_le _, by omega, rfl, rfl, Q.refl _⟩
    case round =>
      obtain ⟨k, hk1, hk2, rfl, rfl, hq⟩ := hrel
      have hfl : ((l.take k).flatMap ruleT).length ≤ 2560 := by
        have h1 := flat_len (l.take k)
        have h2 : (l.take k).length ≤ 40 := by simp; omega
        omega
      by_cases hlt : k < l.length ∧ k < 40
      · obtain ⟨hlt1, hlt2⟩ := hlt
        have hget : l[k]? = some l[k] := List.getElem?_eq_getElem hlt1
        obtain ⟨hra, hok⟩ := HAt.out k _ hget
        have hra' := hra.stays hq
        have HT := show Hid _ from take_next hget
        generalize l[k] = r at *
        obtain ⟨d0, d1, d2, d3, d4, d5, d6, d7⟩ := hra'
        have HO : Hid (RawOk r) := hok
        have hrl := ruleT_len r
        clear hra hok hget
        generalize hg : (l.take k).flatMap ruleT = pre at *
        have G := show Hid _ from hg
        clear hg
        have TX : ∀ w, Hid (Calls Tryz.prog 42 #[.agg #[.int .i64 r.says, .int .i64 r.who, .int .i64 r.whr, .int .i64 r.bts, .int .i64 r.frm, .int .i64 r.til, .int .i64 r.beg, .int .i64 r.fin]] w fun e w' => e = .returned (.string ⟨(ruleT r).toArray⟩) ∧ Q w w') := fun w => text_any r w HO.out
        generalize ruleT r = tx at *
        have dk : decide ((k : Int) < 40) = true := decide_eq_true (by omega)
        go_wp2_with fail
        refine Calls.mono (Hid.out (TX _)) ?_
        rintro e w1 ⟨rfl, hq1⟩
        go_wp2_with fail
        exact ⟨⟨k + 1, by omega, by omega, by go_num, by rw [HT.out, ← str_app], hq.trans hq1⟩, by simp [intOf]; omega⟩
      · have HE : Hid ((l.take k).flatMap ruleT = rulesT l) := by
          show _ = _
          unfold rulesT
          by_cases h : k = 40
          · rw [h]
          · rw [show k = l.length by omega, List.take_of_length_le (Nat.le_refl _), List.take_of_length_le (by omega)]
        by_cases h1 : k < l.length
        · have dk : decide ((k : Int) < 40) = false := decide_eq_false (by omega)
          go_wp2_with fail
          go_ret
          exact ⟨by unfold str; rw [← HE.out]; rfl, hq⟩
        · go_wp2_with fail
          go_ret
          exact ⟨by unfold str; rw [← HE.out]; rfl, hq⟩
end Go.Proofs.YtdmaffciijmdcaaGreatDoor

/-
  The statements' own functions: ends, a question's host.
-/
import Derived.Test.YtdmaffciijmdcaaDoorMath3ToMath4
import Derived.Test.YtdmaffciijmdcaaDoorSpoilC
namespace Go.Proofs.YtdmaffciijmdcaaDoor
open Go.RowKit Plain

def askV (q : AskR) : Value := .agg #[.int .i64 q.who, .int .i64 q.whr, .int .i64 q.prt, .int .i64 q.mnt]
structure AskOk (q : AskR) : Prop where
  who : I64 q.who
  whr : I64 q.whr
  prt : I64 q.prt
  mnt : I64 q.mnt

theorem hostT_len (q : AskR) : (hostT q).length ≤ 23 := by
  have h1 := nameS_len (pickN q.whr 12)
  have h2 := dotted_len _ (pickN_lt q.whr (n := 4294967296) (by decide))
  unfold hostT
  split <;> omega

set_option maxRecDepth 100000 in
set_option maxHeartbeats 800000 in
theorem host_any (q : AskR) (w : World) (hq : AskOk q) :
    Calls Tryd.prog 15 #[askV q] w fun e w' => e = .returned (str (hostT q)) ∧ Q w w' := by
  have HQ : Hid (AskOk q) := hq
  clear hq
  unfold askV
  have h12 := pickN_lt q.whr (n := 12) (by decide)
  have h32 := pickN_lt q.whr (n := 4294967296) (by decide)
  go_enter Tryd.func15, Tryd.ntmps15
  go_wp2_with fail
  refine (pick_any _ 12 _ HQ.out.whr (by decide) (by decide)).mono ?_
  rintro e w1 ⟨rfl, hw⟩
  rw [hw, show ((12 : Int).toNat) = 12 from rfl]
  clear hw
  by_cases h : pickN q.whr 12 < 6
  · have HS : Hid (hostT q = nameS (pickN q.whr 12)) := if_pos h
    go_wp2_with fail
    refine (names_any _ _ (by omega) (by omega)).mono ?_
    rintro e w1 ⟨rfl, hq⟩
    go_wp2_with fail
    go_ret
    exact ⟨by rw [HS.out]; rfl, ((Q.refl w).alloc _).trans hq⟩
  · have HS : Hid (hostT q = dotted (pickN q.whr 4294967296)) := if_neg h
    go_wp2_with fail
    refine (address_any q.whr _ HQ.out.whr).mono ?_
    rintro e w1 ⟨rfl, rfl⟩
    go_wp2_with fail
    refine (dotted_any _ _ h32).mono ?_
    rintro e w1 ⟨rfl, m, rfl⟩
    go_wp2_with fail
    go_ret
    exact ⟨by rw [HS.out]; rfl, ((Q.refl w).alloc _).drews _⟩

theorem ends1 {s l : List UInt8} (h : (s == l) = true) : endsS s l = true := by unfold endsS; rw [h]; rfl
theorem ends2 {s l : List UInt8} (h0 : (s == l) = false) (h : ¬ l.length < s.length) : endsS s l = false := by unfold endsS; rw [h0, decide_eq_false h]; rfl
theorem ends_drop {s l : List UInt8} : ((⟨s.toArray⟩ : ByteArray).extract (s.length - l.length) s.length).toList = s.drop (s.length - l.length) := by rw [str_drop, Lib.toList_data]
theorem ends3 {s l : List UInt8} (h0 : (s == l) = false) (h : ¬ ((⟨s.toArray⟩ : ByteArray).extract (s.length - l.length) s.length).toList = l) : endsS s l = false := by
  rw [ends_drop] at h
  unfold endsS; rw [h0, beq_eq_false_iff_ne.2 h]; simp
theorem ends4 {s l : List UInt8} (h0 : (s == l) = false) (hlt : l.length < s.length) (h : ((⟨s.toArray⟩ : ByteArray).extract (s.length - l.length) s.length).toList = l) (hi : s.length - l.length - 1 < (⟨s.toArray⟩ : ByteArray).size) :
    endsS s l = ((((⟨s.toArray⟩ : ByteArray)[s.length - l.length - 1]).toNat : Int) == 46) := by
  rw [ends_drop] at h
  have hi' : s.length - l.length - 1 < s.length := by omega
  unfold endsS
  rw [h0, h, decide_eq_true hlt, List.getD_eq_getElem?_getD, List.getElem?_eq_getElem hi']
  show (false || (true && ((l == l) && (s[s.length - l.length - 1] == 46)))) = (((s[s.length - l.length - 1]).toNat : Int) == 46)
  rw [Bool.eq_iff_iff]
  simp
  exact ⟨fun h => by rw [h]; rfl, fun h => UInt8.toNat_inj.1 (by show (s[s.length - l.length - 1]).toNat = 46; omega)⟩

set_option maxRecDepth 100000 in
set_option maxHeartbeats 800000 in
theorem ends_any (s l : List UInt8) (w : World) (hs : s.length ≤ 4096) (hl : l.length ≤ 4096) :
    Calls Tryd.prog 54 #[.string ⟨s.toArray⟩, .string ⟨l.toArray⟩] w fun e w' => e = .returned (.bool (endsS s l)) ∧ Q w w' := by
  have h1 : (⟨s.toArray⟩ : ByteArray).size = s.length := rfl
  have h2 : (⟨l.toArray⟩ : ByteArray).size = l.length := rfl
  go_enter Tryd.func54, Tryd.ntmps54
  go_wp2_with fail
  · rename_i e1
    go_ret
    exact ⟨by rw [ends1 e1]; rfl, Q.refl _⟩
  · rename_i e1 e2 e3 e4
    go_ret
    exact ⟨by rw [ends4 e1 e2 e3 (by rw [h1]; omega)]; rfl, Q.refl _⟩
  · rename_i e1 e2 e3
    go_ret
    exact ⟨by rw [ends3 e1 e3]; rfl, Q.refl _⟩
  · rename_i e1 e2
    go_ret
    exact ⟨by rw [ends2 e1 e2]; rfl, Q.refl _⟩
end Go.Proofs.YtdmaffciijmdcaaDoor

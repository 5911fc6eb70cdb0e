/-
  Plain: a head that goes in piece by piece is answered once, when it is whole.
-/
import Derived.Test.YtdmaffciijmdcaaGreatDoorFed0ToFed1
import Derived.Test.YtdmaffciijmdcaaGreatDoorMath4ToHMath
import Derived.Test.YtdmaffciijmdcaaGreatDoorSpoilToKHead
namespace Go.Proofs.YtdmaffciijmdcaaGreatDoor
open Go.RowKit Plain

theorem upd_same {g : GateS} {i : Nat} {c : ConnS} (hi : g.conns[i]? = some c) : g.upd i c = g := by
  obtain ⟨hl, he⟩ := List.getElem?_eq_some_iff.1 hi
  unfold GateS.upd
  rw [← he, List.set_getElem_self]

theorem fed_head {g0 : GateS} (ok : GOk g0) {i : Nat} {num : Nat} (hi : g0.conns[i]? = some ⟨num, 0, 0, [], false, false⟩) {T : List UInt8} (hT : T ≠ []) (hcut : ∀ m, m < T.length → cutHead (T.take m) = none) (hcutT : cutHead T = some (T, [])) {raw : List Int} {k : Nat} {g : GateS} {s : List UInt8} {out : List EvS} (h : FedTo (num : Int) raw g0 T k g s out) :
    (s ≠ [] → ∃ m, m < T.length ∧ s = T.drop m ∧ g = g0.upd i ⟨num, 0, 0, T.take m, false, false⟩ ∧ out = []) ∧ (s = [] → (g, out) = answerS g0 i ⟨num, 0, 0, [], false, false⟩ T) := by
  induction h with
  | start => exact ⟨fun _ => ⟨0, List.length_pos_iff.2 hT, rfl, by rw [List.take_zero, upd_same hi], rfl⟩, fun e => absurd e hT⟩
  | @step k g s out i' c hto hne hi' hn ih =>
    obtain ⟨m, hm, rfl, hg, rfl⟩ := ih.1 hne
    obtain ⟨hp1, hp2⟩ := pieceN_le (T.drop m).length raw[k]?
    have hp := hp2 (List.length_pos_iff.2 hne)
    generalize pieceN (T.drop m).length raw[k]? = p at *
    rw [List.length_drop] at hp1
    have hok : GOk g := hto.ok ok
    have hgi : g.conns[i]? = some ⟨num, 0, 0, T.take m, false, false⟩ := by rw [hg]; exact upd_get hi
    have hii : i' = i := hok.nums i' i _ _ hi' hgi (by show c.num = num; omega)
    subst hii
    rw [hgi] at hi'
    cases hi'
    have htake : T.take m ++ (T.drop m).take p = T.take (m + p) := List.take_add.symm
    have hcl : clientAt g i' ⟨num, 0, 0, T.take m, false, false⟩ ((T.drop m).take p) = match cutHead (T.take (m + p)) with
        | none => (g.upd i' ⟨num, 0, 0, T.take (m + p), false, false⟩, [])
        | some (h, rest) => answerS (g.upd i' ⟨num, 0, 0, rest, false, false⟩) i' ⟨num, 0, 0, rest, false, false⟩ h := by
      unfold clientAt
      simp only [htake]
      rcases cutHead (T.take (m + p)) with _ | ⟨h, r⟩ <;> rfl
    rw [hcl, List.drop_drop]
    by_cases hmp : m + p < T.length
    · rw [hcut _ hmp]
      refine ⟨fun _ => ⟨m + p, hmp, rfl, by rw [hg, upd_upd], rfl⟩, fun e => ?_⟩
      have := congrArg List.length e
      rw [List.length_drop] at this
      simp at this
      omega
    · have he : m + p = T.length := by omega
      rw [he, List.take_length, hcutT]
      refine ⟨fun e => absurd (List.drop_length) e, fun _ => ?_⟩
      have h2 : (g0.upd i' ⟨num, 0, 0, T.take m, false, false⟩).upd i' ⟨num, 0, 0, [], false, false⟩ = g0 := by rw [upd_upd, upd_same hi]
      rw [hg]
      show ((answerS ((g0.upd i' ⟨num, 0, 0, T.take m, false, false⟩).upd i' ⟨num, 0, 0, [], false, false⟩) i' ⟨num, 0, 0, [], false, false⟩ T).1, [] ++ (answerS ((g0.upd i' ⟨num, 0, 0, T.take m, false, false⟩).upd i' ⟨num, 0, 0, [], false, false⟩) i' ⟨num, 0, 0, [], false, false⟩ T).2) = _
      rw [h2]
      rfl

/-- The gateway that the statements make, and its first client. -/
def gateT (l : List RawR) (n : Int) (m : Nat) : GateS := ⟨(l.take 40).map ruleOf, tensT n, (m : Int), 0, []⟩
theorem gateT_ok (l : List RawR) (n : Int) (m : Nat) : GOk (gateT l n m).accept := by
  refine accept_ok ⟨by simp [gateT], by simp [gateT, tensT, usersT], fun i j c d hi => by simp [gateT] at hi, fun c hc => by simp [gateT] at hc, by simp [gateT]⟩ (by simp [gateT]) (by simp [gateT])

theorem guard_fed (l : List RawR) (q : AskR) (n : Int) (other : Bool) {raw : List Int} {k : Nat} {g : GateS} {s : List UInt8} {out : List EvS}
    (h : FedTo 1 raw (gateT l n (pickN q.mnt 10080)).accept (headT (pickN q.who 3) (secT n q other) (hostT q) (pickN q.prt 65536)) k g s out) :
    (s ≠ [] → ∃ c ∈ g.conns, (c.num : Int) = 1) ∧ (s = [] → match guardS l q other with
      | .error x => g.conns = [] ∧ out = sendS 2 1 x ++ [⟨4, 1, [], 0⟩]
      | .ok (h, p) => out = [⟨1, 1, h, (p : Int)⟩]) := by
  obtain ⟨T, hT⟩ : ∃ T, T = headT (pickN q.who 3) (secT n q other) (hostT q) (pickN q.prt 65536) := ⟨_, rfl⟩
  have hi : (gateT l n (pickN q.mnt 10080)).accept.conns[0]? = some ⟨1, 0, 0, [], false, false⟩ := rfl
  have hbody := headT_body (pickN q.who 3) (secT n q other) (hostT q) (pickN q.prt 65536)
  have hc := cut_made (hostT_ok q) (pickN q.prt 65536) (b64_bytes (tenantS (pickN q.who 3) ++ [58] ++ secT n q other)) (by rw [← hbody]; exact head_short q n other)
  have hj := guard_made l q n other
  rw [← hbody, ← hT] at hc
  rw [← hT] at hj h
  have hne : T ≠ [] := by
    rw [hT, hbody]
    intro e
    have := congrArg List.length e
    simp [endB] at this
  obtain ⟨h1, h2⟩ := fed_head (gateT_ok l n (pickN q.mnt 10080)) hi hne hc.2 hc.1 h
  refine ⟨fun hs => ?_, fun hs => ?_⟩
  · obtain ⟨m, _, _, hg, _⟩ := h1 hs
    exact ⟨⟨1, 0, 0, T.take m, false, false⟩, by rw [hg]; exact List.mem_of_getElem? (upd_get hi), rfl⟩
  · have h3 := h2 hs
    have h4 : answerS (gateT l n (pickN q.mnt 10080)).accept 0 ⟨1, 0, 0, [], false, false⟩ T = match guardS l q other with
      | .error r => ((gateT l n (pickN q.mnt 10080)).accept.drop 1, sendS 2 1 r ++ [⟨4, 1, [], 0⟩])
      | .ok (h, n') => ((gateT l n (pickN q.mnt 10080)).accept.upd 0 ⟨1, 0, 1, [], false, false⟩, [⟨1, 1, h, (n' : Int)⟩]) := by
      unfold answerS
      show (match judgeS ((l.take 40).map ruleOf) (tensT n) ((pickN q.mnt 10080 : Nat) : Int) T with
        | .error r => _
        | .ok (h, n) => _) = _
      rw [hj]
      rfl
    rw [h4] at h3
    cases hg : guardS l q other with
    | error x =>
      rw [hg] at h3
      cases h3
      exact ⟨rfl, rfl⟩
    | ok p =>
      rw [hg] at h3
      cases h3
      rfl
end Go.Proofs.YtdmaffciijmdcaaGreatDoor
/-
  The statements' own functions: ends, a question's host.
-/
namespace Go.Proofs.YtdmaffciijmdcaaGreatDoor
open Go.RowKit Plain

def askV (q : AskR) : Value := .agg #[.int .i64 q.who, .int .i64 q.whr, .int .i64 q.prt, .int .i64 q.mnt]
structure AskOk (q : AskR) : Prop where
  who : I64 q.who
  whr : I64 q.whr
  prt : I64 q.prt
  mnt : I64 q.mnt

theorem hostT_len (q : AskR) : (hostT q).length ≤ 23 := by
  have h1 := nameS_len (pickN q.whr 12)
  have h2 := dotted_len _ (pickN_lt q.whr (n := 4294967296) (by decide))
  unfold hostT
  split <;> omega

set_option maxRecDepth 100000 in
set_option maxHeartbeats 800000 in
theorem host_any (q : AskR) (w : World) (hq : AskOk q) :
    Calls Tryz.prog 18 #[askV q] w fun e w' => e = .returned (str (hostT q)) ∧ Q w w' := by
  have HQ : Hid (AskOk q) := hq
  clear hq
  unfold askV
  have h12 := pickN_lt q.whr (n := 12) (by decide)
  have h32 := pickN_lt q.whr (n := 4294967296) (by decide)
  go_enter Tryz.func18, Tryz.ntmps18
  go_wp2_with fail
  refine (pick_any _ 12 _ HQ.out.whr (by decide) (by decide)).mono ?_
  rintro e w1 ⟨rfl, hw⟩
  rw [hw, show ((12 : Int).toNat) = 12 from rfl]
  clear hw
  by_cases h : pickN q.whr 12 < 6
  · have HS : Hid (hostT q = nameS (pickN q.whr 12)) := if_pos h
    go_wp2_with fail
    refine (names_any _ _ (by omega) (by omega)).mono ?_
    rintro e w1 ⟨rfl, hq⟩
    go_wp2_with fail
    go_ret
    exact ⟨by rw [HS.out]; rfl, ((Q.refl w).alloc _).trans hq⟩
  · have HS : Hid (hostT q = dotted (pickN q.whr 4294967296)) := if_neg h
    go_wp2_with fail
    refine (address_any q.whr _ HQ.out.whr).mono ?_
    rintro e w1 ⟨rfl, rfl⟩
    go_wp2_with fail
    refine (dotted_any _ _ h32).mono ?_
    rintro e w1 ⟨rfl, m, rfl⟩
    go_wp2_with fail
    go_ret
    exact ⟨by rw [HS.out]; rfl, ((Q.refl w).alloc _).drews _⟩

theorem ends1 {s l : List UInt8} (h : (s == l) = true) : endsS s l = true := by unfold endsS; rw [h]; rfl
theorem ends2 {s l : List UInt8} (h0 : (s == l) = false) (h : ¬ l.length < s.length) : endsS s l = false := by unfold endsS; rw [h0, decide_eq_false h]; rfl
theorem ends_drop {s l : List UInt8} : ((⟨s.toArray⟩ : ByteArray).extract (s.length - l.length) s.length).toList = s.drop (s.length - l.length) := by rw [str_drop, Lib.toList_data]
theorem ends3 {s l : List UInt8} (h0 : (s == l) = false) (h : ¬ ((⟨s.toArray⟩ : ByteArray).extract (s.length - l.length) s.length).toList = l) : endsS s l = false := by
  rw [ends_drop] at h
  unfold endsS; rw [h0, beq_eq_false_iff_ne.2 h]; simp
theorem ends4 {s l : List UInt8} (h0 : (s == l) = false) (hlt : l.length < s.length) (h : ((⟨s.toArray⟩ : ByteArray).extract (s.length - l.length) s.length).toList = l) (hi : s.length - l.length - 1 < (⟨s.toArray⟩ : ByteArray).size) :
    endsS s l = ((((⟨s.toArray⟩ : ByteArray)[s.length - l.length - 1]).toNat : Int) == 46) := by
  rw [ends_drop] at h
  have hi' : s.length - l.length - 1 < s.length := by omega
  unfold endsS
  rw [h0, h, decide_eq_true hlt, List.getD_eq_getElem?_getD, List.getElem?_eq_getElem hi']
  show (false || (true && ((l == l) && (s[s.length - l.length - 1] == 46)))) = (((s[s.length - l.length - 1]).toNat : Int) == 46)
  rw [Bool.eq_iff_iff]
  simp
  exact ⟨fun h => by rw [h]; rfl, fun h => UInt8.toNat_inj.1 (by show (s[s.length - l.length - 1]).toNat = 46; omega)⟩

set_option maxRecDepth 100000 in
set_option maxHeartbeats 800000 in
theorem ends_any (s l : List UInt8) (w : World) (hs : s.length ≤ 4096) (hl : l.length ≤ 4096) :
    Calls Tryz.prog 90 #[.string ⟨s.toArray⟩, .string ⟨l.toArray⟩] w fun e w' => e = .returned (.bool (endsS s l)) ∧ Q w w' := by
  have h1 : (⟨s.toArray⟩ : ByteArray).size = s.length := rfl
  have h2 : (⟨l.toArray⟩ : ByteArray).size = l.length := rfl
  go_enter Tryz.func90, Tryz.ntmps90
  go_wp2_with fail
  · rename_i e1
    go_ret
    exact ⟨by rw [ends1 e1]; rfl, Q.refl _⟩
  · rename_i e1 e2 e3 e4
    go_ret
    exact ⟨by rw [ends4 e1 e2 e3 (by rw [h1]; omega)]; rfl, Q.refl _⟩
  · rename_i e1 e2 e3
    go_ret
    exact ⟨by rw [ends3 e1 e3]; rfl, Q.refl _⟩
  · rename_i e1 e2
    go_ret
    exact ⟨by rw [ends2 e1 e2]; rfl, Q.refl _⟩
end Go.Proofs.YtdmaffciijmdcaaGreatDoor

/-
  Package turnpike: Decide.
-/
import Derived.Test.YtdmaffciijmdcaaGreatDoorCompileToCaughtQ
import Derived.Test.YtdmaffciijmdcaaGreatDoorFirstToRuleS
import Derived.Test.YtdmaffciijmdcaaGreatDoorRowTToLeaf
import Derived.ChangeSlices
namespace Go.Proofs.YtdmaffciijmdcaaGreatDoor
namespace Plain
/-- The first that fits, from number k on. -/
def decideFrom (f : RuleS → Bool) : Nat → List RuleS → Bool × Int
  | _, [] => (false, -1)
  | k, r :: rs => if f r = true then (r.allow, (k : Int)) else decideFrom f (k + 1) rs
/-- What Decide answers. -/
def decideS (rs : List RuleS) (t h : List UInt8) (p m : Int) : Bool × Int × Nat := match askS t h p m with
  | none => (false, 0, 5)
  | some (nm, ad) => ((decideFrom (fun r => ruleFits r t nm ad p m) 0 rs).1, (decideFrom (fun r => ruleFits r t nm ad p m) 0 rs).2, 0)
theorem drop_cons {rs : List RuleS} {k : Nat} {r : RuleS} (h : rs[k]? = some r) : rs.drop k = r :: rs.drop (k + 1) := by
  obtain ⟨hk, rfl⟩ := List.getElem?_eq_some_iff.1 h
  rw [List.getElem_cons_drop]
end Plain
open Go.RowKit Plain

theorem PolicyRep.stays {w w' : World} {pb : Nat} {rs : List RuleS} (h : PolicyRep (fun b => b < w.heap.size) w pb rs) (q : Q w w') : PolicyRep (fun b => b < w'.heap.size) w' pb rs :=
  h.keeps fun b hb => ⟨Nat.lt_of_lt_of_le hb q.size, fun o => q.cells.1 b o hb⟩

theorem ask_bounds {t h nm : List UInt8} {p m : Int} {a b c d : Nat} (hr : askS t h p m = some (nm, [a, b, c, d])) : nm.length ≤ h.length ∧ a ≤ 255 ∧ b ≤ 255 ∧ c ≤ 255 ∧ d ≤ 255 := by
  unfold askS at hr
  split at hr
  · obtain ⟨nm', a', b', c', d', he, ha, hb, hc, hd, hn⟩ := host_four hr
    cases he
    exact ⟨hn, ha, hb, hc, hd⟩
  · cases hr

def DecPost (rs : List RuleS) (t h : ByteArray) (p m : Int) (w : World) (e : Ending) (w' : World) : Prop :=
  Q w w' ∧ e = .returned (.tuple #[.bool (decideS rs t.data.toList h.data.toList p m).1, .int .i64 (decideS rs t.data.toList h.data.toList p m).2.1, .int .i64 ((decideS rs t.data.toList h.data.toList p m).2.2 : Nat)])

set_option maxRecDepth 100000 in
set_option maxHeartbeats 1600000 in
theorem decide_any (rs : List RuleS) (pb : Nat) (t h : ByteArray) (p m : Int) (w : World) (hs : h.size < 4294967281) (hp : PolicyRep (fun b => b < w.heap.size) w pb rs) :
    Calls Tryz.prog 135 #[.pointer (some ⟨pb, 0, none⟩), .string t, .string h, .int .i64 p, .int .i64 m] w fun e w' => DecPost rs t h p m w e w' := by
  have hmf : ∀ (fn : Fn) (first cap : Array Value) (w : World), (Instr.makeFunc fn first cap).run Tryz.prog w = .ok (.func fn first cap) w := fun _ _ _ _ => rfl
  have HP : Hid (PolicyRep (fun b => b < w.heap.size) w pb rs) := hp
  clear hp
  go_enter Tryz.func135, Tryz.ntmps135
  go_wp2_with fail
  refine (caughtQ_any t h p m _ _ _ _ _ hs (by simp [go_sem]) (by simp [go_sem]) (by simp [go_sem]) (by simp [go_sem])).mono ?_
  rintro e w5 ⟨hq, ⟨nm, a, b, c, d, hr, rfl⟩ | ⟨hr, rfl⟩⟩
  case inr =>
    have HR := show Hid _ from hr
    clear hr
    unfold zeroQuest
    go_wp2_with fail
    go_ret3
    refine ⟨((((Q.refl _).alloc _).alloc _).alloc _).alloc _ |>.trans (hq.alloc _), ?_⟩
    unfold decideS
    rw [HR.out]
    rfl
  case inl =>
    have HR := show Hid _ from hr
    have hQ5 : Q w w5 := (((((Q.refl _).alloc _).alloc _).alloc _).alloc _).trans hq
    have HP5 : Hid (PolicyRep (fun b => b < w5.heap.size) w5 pb rs) := PolicyRep.stays HP.out hQ5
    clear hr
    obtain ⟨hpl, h40, hcase⟩ := HP5.out
    unfold questV
    rcases hcase with ⟨rfl, hcell⟩ | ⟨g, cap, hcell, hcap, hgl, hat⟩
    · go_wp2_with fail
      refine wp_loop_rounds 1 ?_
      rw [rounds_succ]
      go_wp2_with fail
      go_ret3
      refine ⟨hQ5.alloc _, ?_⟩
      unfold decideS
      rw [HR.out]
      rfl
    · have HAt : Hid (∀ i r, rs[i]? = some r → RuleAt (fun b => b < w5.heap.size) w5 g i r) := hat
      have HB := show Hid _ from ask_bounds HR.out
      clear hat
      go_wp2_with fail
      go_loopw [29, 15, 16] (fun i _ _ wr => ∃ k : Nat, k ≤ rs.length ∧ i = .int .i64 k ∧ Q (w5.alloc (.cells #[.string t, .string ⟨nm.toArray⟩, .int .u8 a, .int .u8 b, .int .u8 c, .int .u8 d, .int .i64 p, .int .i64 m] 227)) wr ∧ Hid (decideFrom (fun r => ruleFits r t.data.toList nm [a, b, c, d] p m) 0 rs = decideFrom (fun r => ruleFits r t.data.toList nm [a, b, c, d] p m) k (rs.drop k))) (fun i _ _ _ => rs.length - (intOf i).toNat)
      case atStart => exact ⟨0, Nat.zero_le _, rfl, Q.refl _, rfl⟩
      case round =>
        obtain ⟨k, hk, rfl, hqr, hsp⟩ := hrel
        have hQr : Q w5 wr := ((Q.refl _).alloc _).trans hqr
        by_cases hlt : k < rs.length
        · have hget : rs[k]? = some rs[k] := List.getElem?_eq_getElem hlt
          obtain ⟨vt, vh, vp, vm, c0, c1, c2, c3, c4, rep⟩ := HAt.out k _ hget
          have HR6 : Hid (RuleRep (fun b => b < wr.heap.size) wr rs[k] vt vh vp vm) := rep.keeps fun b hb => ⟨Nat.lt_of_lt_of_le hb hQr.size, fun o => hQr.cells.1 b o hb⟩
          obtain ⟨g1, k1, e1⟩ := rep.ten.func
          obtain ⟨g2, k2, e2⟩ := rep.host.func
          obtain ⟨g3, k3, e3⟩ := rep.port.func
          obtain ⟨g4, k4, e4⟩ := rep.minute.func
          subst e1 e2 e3 e4
          have d0 := hQr.cell c0
          have d1 := hQr.cell c1
          have d2 := hQr.cell c2
          have d3 := hQr.cell c3
          have d4 := hQr.cell c4
          obtain ⟨hcl, hfr, hz⟩ := hqr.made
          have HG := show Hid _ from hget
          clear c0 c1 c2 c3 c4 rep hget
          generalize rs[k] = r at *
          rw [Nat.mul_comm] at d0 d1 d2 d3 d4
          obtain ⟨hb0, hb1, hb2, hb3, hb4⟩ := HB.out
          rw [size_len] at hb0
          have hqq : Q wr (wr.alloc (.cells #[.bool r.allow, .func (.func g1) #[] k1, .func (.func g2) #[] k2, .func (.func g3) #[] k3, .func (.func g4) #[] k4] 148)) := (Q.refl _).alloc _
          have HR7 : Hid (RuleRep (fun b => b < (wr.alloc (.cells #[.bool r.allow, .func (.func g1) #[] k1, .func (.func g2) #[] k2, .func (.func g3) #[] k3, .func (.func g4) #[] k4] 148)).heap.size) (wr.alloc (.cells #[.bool r.allow, .func (.func g1) #[] k1, .func (.func g2) #[] k2, .func (.func g3) #[] k3, .func (.func g4) #[] k4] 148)) r (.func (.func g1) #[] k1) (.func (.func g2) #[] k2) (.func (.func g3) #[] k3) (.func (.func g4) #[] k4)) := RuleRep.keeps HR6.out fun b hb => ⟨Nat.lt_of_lt_of_le hb hqq.size, fun o => hqq.cells.1 b o hb⟩
          go_wp2_with fail
          refine (fits_any r _ _ _ _ t nm a b c d p m _ HR7.out (by omega) hb1 hb2 hb3 hb4).mono ?_
          rintro e w7 ⟨rfl, hq7⟩
          obtain ⟨hcl7, hfr7, hz7⟩ := hq7.made
          cases hf : ruleFits r t.data.toList nm [a, b, c, d] p m
          · have HS : Hid (decideFrom (fun r => ruleFits r t.data.toList nm [a, b, c, d] p m) 0 rs = decideFrom (fun r => ruleFits r t.data.toList nm [a, b, c, d] p m) (k + 1) (rs.drop (k + 1))) := by
              show _ = _
              rw [hsp.out, drop_cons HG.out, decideFrom, if_neg (by rw [hf]; decide)]
            clear hcl hfr hcl7 hfr7 d0 d1 d2 d3 d4
            go_wp2_with fail
            exact ⟨⟨k + 1, by omega, by go_num, hqr.trans (hqq.trans hq7), HS⟩, by simp [intOf]; omega⟩
          · have HS : Hid (decideFrom (fun r => ruleFits r t.data.toList nm [a, b, c, d] p m) 0 rs = (r.allow, (k : Int))) := by
              show _ = _
              rw [hsp.out, drop_cons HG.out, decideFrom, if_pos hf]
            clear hcl hfr d0 d1 d2 d3 d4
            go_wp2_with fail
            go_ret3
            refine ⟨hQ5.trans (hQr.trans (hqq.trans hq7)), ?_⟩
            unfold decideS
            rw [HR.out]
            simp only [HS.out]
            rfl
        · have HS : Hid (decideFrom (fun r => ruleFits r t.data.toList nm [a, b, c, d] p m) 0 rs = (false, -1)) := by
            show _ = _
            rw [hsp.out, List.drop_eq_nil_of_le (by omega)]; rfl
          go_wp2_with fail
          go_ret3
          refine ⟨hQ5.trans hQr, ?_⟩
          unfold decideS
          rw [HR.out]
          simp only [HS.out]
          rfl
end Go.Proofs.YtdmaffciijmdcaaGreatDoor
/-
  Package heads: a field, a target.
-/
namespace Go.Proofs.YtdmaffciijmdcaaGreatDoor
open Go.RowKit Plain

def FieldPost (l : List UInt8) (w : World) (e : Ending) (w' : World) : Prop :=
  Q w w' ∧ ((∃ n v, fieldS l = some (n, v) ∧ e = .returned (.agg #[str n, str v])) ∨ (fieldS l = none ∧ Dies e))

set_option maxRecDepth 100000 in
set_option maxHeartbeats 1600000 in
theorem readField_any (s : ByteArray) (w : World) (hs : s.size < 4294967281) :
    Calls Tryz.prog 172 #[.string s] w fun e w' => FieldPost s.data.toList w e w' := by
  cases hc : cutAt 58 s.data.toList with
  | none =>
    have HN : Hid (fieldS s.data.toList = none) := by
      show _ = _
      unfold fieldS; rw [hc]
    have HC := show Hid _ from hc
    clear hc
    go_enter Tryz.func172, Tryz.ntmps172
    go_wp2_with (first | (go_at_call 82; refine (cut_miss s 58 _ HC.out).mono ?_; rintro e w' ⟨rfl, rfl⟩) | (go_at_call 88; refine (must_no _ _).mono ?_; rintro e w' ⟨⟨u, x, rfl⟩, rfl⟩))
    exact ⟨rfl, (Q.refl _).alloc _, .inr ⟨HN.out, ⟨_, _, rfl⟩⟩⟩
  | some p =>
    obtain ⟨n, v⟩ := p
    obtain ⟨N, rfl⟩ : ∃ M : ByteArray, M.data.toList = n := ⟨⟨n.toArray⟩, rfl⟩
    obtain ⟨V, rfl⟩ : ∃ M : ByteArray, M.data.toList = v := ⟨⟨v.toArray⟩, rfl⟩
    have hl := cut_le hc
    rw [size_len, size_len, size_len] at hl
    obtain ⟨hl1, hl2⟩ := hl
    have hF : fieldS s.data.toList = if (!N.data.toList.isEmpty && allB ofName N.data.toList && allB ofValue V.data.toList) = true then some (lower N.data.toList, Lib.trimB V.data.toList 32) else none := by unfold fieldS; rw [hc]
    have HF := show Hid _ from hF
    have HC := fun x => show Hid _ from cut_hit s 58 _ _ x (by unfold maxLen; omega) hc
    clear hF hc
    have HA := fun x => show Hid _ from all_name N x (by unfold maxLen; omega)
    have HB := fun x => show Hid _ from all_value V x (by unfold maxLen; omega)
    have HL := fun x => show Hid _ from lower_any N x (by omega)
    have HT := fun x => show Hid _ from Tryz.strings_Trim_one V 32 (by decide) x (by omega)
    obtain ⟨b1, hb1⟩ : ∃ b, b = N.data.toList.isEmpty := ⟨_, rfl⟩
    obtain ⟨b2, hb2⟩ : ∃ b, b = allB ofName N.data.toList := ⟨_, rfl⟩
    obtain ⟨b3, hb3⟩ : ∃ b, b = allB ofValue V.data.toList := ⟨_, rfl⟩
    have e1 : N.toList.isEmpty = b1 := by rw [hb1, Lib.toList_data]
    have HE2 : Hid (allB ofName N.data.toList = b2) := hb2.symm
    have HE3 : Hid (allB ofValue V.data.toList = b3) := hb3.symm
    have HOK : Hid ((!N.data.toList.isEmpty && allB ofName N.data.toList && allB ofValue V.data.toList) = (!b1 && b2 && b3)) := by
      show _ = _
      rw [hb1, hb2, hb3]
    clear hb1 hb2 hb3
    go_enter Tryz.func172, Tryz.ntmps172
    go_wp2_with fail
    refine Calls.mono (Hid.out (HC _)) ?_
    rintro e w1 ⟨rfl, rfl⟩
    rw [str_data, str_data]
    cases b1
    case true =>
      go_wp2_with (first | (go_at_call_of 88 (Value.bool true); refine (must_yes _ _).mono ?_; rintro e w' ⟨rfl, rfl⟩) | (go_at_call_of 88 (Value.bool false); refine (must_no _ _).mono ?_; rintro e w' ⟨⟨u, x, rfl⟩, rfl⟩) | (go_at_call_of 123 (Value.string N); refine Calls.mono (Hid.out (HA _)) ?_; rintro e w' ⟨rfl, rfl⟩; rw [HE2.out]) | (go_at_call_of 123 (Value.string V); refine Calls.mono (Hid.out (HB _)) ?_; rintro e w' ⟨rfl, rfl⟩; rw [HE3.out]))
      exact ⟨rfl, ((Q.refl _).alloc _).drew, .inr ⟨by rw [HF.out, HOK.out]; simp, ⟨_, _, rfl⟩⟩⟩
    cases b2
    case false =>
      go_wp2_with (first | (go_at_call_of 88 (Value.bool true); refine (must_yes _ _).mono ?_; rintro e w' ⟨rfl, rfl⟩) | (go_at_call_of 88 (Value.bool false); refine (must_no _ _).mono ?_; rintro e w' ⟨⟨u, x, rfl⟩, rfl⟩) | (go_at_call_of 123 (Value.string N); refine Calls.mono (Hid.out (HA _)) ?_; rintro e w' ⟨rfl, rfl⟩; rw [HE2.out]) | (go_at_call_of 123 (Value.string V); refine Calls.mono (Hid.out (HB _)) ?_; rintro e w' ⟨rfl, rfl⟩; rw [HE3.out]))
      exact ⟨rfl, ((Q.refl _).alloc _).drew, .inr ⟨by rw [HF.out, HOK.out]; simp, ⟨_, _, rfl⟩⟩⟩
    cases b3
    case false =>
      go_wp2_with (first | (go_at_call_of 88 (Value.bool true); refine (must_yes _ _).mono ?_; rintro e w' ⟨rfl, rfl⟩) | (go_at_call_of 88 (Value.bool false); refine (must_no _ _).mono ?_; rintro e w' ⟨⟨u, x, rfl⟩, rfl⟩) | (go_at_call_of 123 (Value.string N); refine Calls.mono (Hid.out (HA _)) ?_; rintro e w' ⟨rfl, rfl⟩; rw [HE2.out]) | (go_at_call_of 123 (Value.string V); refine Calls.mono (Hid.out (HB _)) ?_; rintro e w' ⟨rfl, rfl⟩; rw [HE3.out]))
      exact ⟨rfl, ((Q.refl _).alloc _).drew, .inr ⟨by rw [HF.out, HOK.out]; simp, ⟨_, _, rfl⟩⟩⟩
    go_wp2_with (first | (go_at_call_of 88 (Value.bool true); refine (must_yes _ _).mono ?_; rintro e w' ⟨rfl, rfl⟩) | (go_at_call_of 88 (Value.bool false); refine (must_no _ _).mono ?_; rintro e w' ⟨⟨u, x, rfl⟩, rfl⟩) | (go_at_call_of 123 (Value.string N); refine Calls.mono (Hid.out (HA _)) ?_; rintro e w' ⟨rfl, rfl⟩; rw [HE2.out]) | (go_at_call_of 123 (Value.string V); refine Calls.mono (Hid.out (HB _)) ?_; rintro e w' ⟨rfl, rfl⟩; rw [HE3.out]))
    refine Calls.mono (Hid.out (HL _)) ?_
    rintro e w2 ⟨rfl, hq2⟩
    unfold str
    go_wp2_with fail
    refine Calls.mono (Hid.out (HT _)) ?_
    rintro e w3 ⟨rfl, hw3⟩
    have hq3 : Q w2 w3 := by rcases hw3 with rfl | rfl; exact Q.refl _; exact (Q.refl _).drew
    clear hw3
    have hq : Q (w.alloc (.cells #[.string ⟨#[]⟩, .string ⟨#[]⟩] 222)) w3 := (((Q.refl _).drew).trans hq2).trans hq3
    obtain ⟨hcl, hfr, hz⟩ := hq.made
    have hQ : Q w w3 := ((Q.refl w).alloc _).trans hq
    clear hq2 hq3 hq HC HA HB HL HT
    go_wp2_with fail
    refine bodyPost_ret (v := .agg #[str (lower N.data.toList), str (Lib.trimB V.data.toList 32)]) (by simp [results, Tryz.results172, go_sem, hcl, str]) rfl ⟨?_, .inl ⟨_, _, by rw [HF.out, HOK.out]; rfl, rfl⟩⟩
    iterate 2 refine Q.setCell ?_ (Nat.le_refl _) _
    exact hQ

def TargetPost (l : List UInt8) (w : World) (e : Ending) (w' : World) : Prop :=
  Q w w' ∧ ((∃ (h : List UInt8) (n : Nat), targetS l = some (h, n) ∧ e = .returned (.agg #[str h, .int .i64 (n : Int)])) ∨ (targetS l = none ∧ Dies e))

set_option maxRecDepth 100000 in
set_option maxHeartbeats 1600000 in
theorem readTarget_any (s : ByteArray) (w : World) (hs : s.size < 4294967281) :
    Calls Tryz.prog 133 #[.string s] w fun e w' => TargetPost s.data.toList w e w' := by
  cases hc : cutAt 58 s.data.toList with
  | none =>
    have HN : Hid (targetS s.data.toList = none) := by
      show _ = _
      unfold targetS; rw [hc]
    have HC := show Hid _ from hc
    clear hc
    go_enter Tryz.func133, Tryz.ntmps133
    go_wp2_with (first | (go_at_call 82; refine (cut_miss s 58 _ HC.out).mono ?_; rintro e w' ⟨rfl, rfl⟩) | (go_at_call 88; refine (must_no _ _).mono ?_; rintro e w' ⟨⟨u, x, rfl⟩, rfl⟩))
    exact ⟨rfl, (Q.refl _).alloc _, .inr ⟨HN.out, ⟨_, _, rfl⟩⟩⟩
  | some p =>
    obtain ⟨n, v⟩ := p
    obtain ⟨N, rfl⟩ : ∃ M : ByteArray, M.data.toList = n := ⟨⟨n.toArray⟩, rfl⟩
    obtain ⟨V, rfl⟩ : ∃ M : ByteArray, M.data.toList = v := ⟨⟨v.toArray⟩, rfl⟩
    have hl := cut_le hc
    rw [size_len, size_len, size_len] at hl
    obtain ⟨hl1, hl2⟩ := hl
    have HC := fun x => show Hid _ from cut_hit s 58 _ _ x (by unfold maxLen; omega) hc
    have HL := fun x => show Hid _ from lower_any N x (by omega)
    cases hr : readHost N.data.toList with
    | none =>
      have HN : Hid (targetS s.data.toList = none) := by
        show _ = _
        unfold targetS; rw [hc]; simp only [hr]
      have HR := fun x => show Hid _ from readHost_no N x (by omega) hr
      clear hc hr
      go_enter Tryz.func133, Tryz.ntmps133
      go_wp2_with fail
      refine Calls.mono (Hid.out (HC _)) ?_
      rintro e w1 ⟨rfl, rfl⟩
      rw [str_data, str_data]
      go_wp2_with (first | (go_at_call 88; refine (must_yes _ _).mono ?_; rintro e w' ⟨rfl, rfl⟩))
      refine Calls.mono (Hid.out (HR _)) ?_
      rintro e w2 ⟨⟨u, x, rfl⟩, hq2⟩
      exact ⟨rfl, ((Q.refl _).alloc _).drew.trans hq2, .inr ⟨HN.out, ⟨_, _, rfl⟩⟩⟩
    | some r =>
      obtain ⟨nm, a, b, c, d, hre, _, _, _, _, _⟩ := host_four hr
      have HR := fun x => show Hid _ from readHost_yes N x (by omega) nm a b c d (by rw [hr, hre])
      have HTg : Hid (targetS s.data.toList = match number V.data.toList 65535 with | none => none | some n => some (lower N.data.toList, n)) := by
        show _ = _
        unfold targetS; rw [hc]; simp only [hr]; rfl
      clear hc hr hre
      go_enter Tryz.func133, Tryz.ntmps133
      go_wp2_with fail
      refine Calls.mono (Hid.out (HC _)) ?_
      rintro e w1 ⟨rfl, rfl⟩
      rw [str_data, str_data]
      go_wp2_with (first | (go_at_call 88; refine (must_yes _ _).mono ?_; rintro e w' ⟨rfl, rfl⟩))
      refine Calls.mono (Hid.out (HR _)) ?_
      rintro e w2 ⟨rfl, hq2⟩
      unfold hostV
      go_wp2_with fail
      refine Calls.mono (Hid.out (HL _)) ?_
      rintro e w3 ⟨rfl, hq3⟩
      unfold str
      go_wp2_with fail
      have hq : Q (w.alloc (.cells #[.string ⟨#[]⟩, .int .i64 0] 165)) w3 := (((Q.refl _).drew).trans hq2).trans hq3
      obtain ⟨hcl, hfr, hz⟩ := hq.made
      have hQ : Q w w3 := ((Q.refl w).alloc _).trans hq
      clear hq2 hq3 hq
      cases hn : number V.data.toList 65535 with
      | none =>
        refine (port_no V _ (by unfold maxLen; omega) hn).mono ?_
        rintro e w4 ⟨⟨u, x, rfl⟩, rfl⟩
        exact ⟨rfl, hQ, .inr ⟨by rw [HTg.out, hn], ⟨_, _, rfl⟩⟩⟩
      | some n =>
        refine (port_yes V _ (by unfold maxLen; omega) n hn).mono ?_
        rintro e w4 ⟨rfl, rfl⟩
        have HN := show Hid _ from hn
        clear hn HC HL HR
        go_wp2_with fail
        refine bodyPost_ret (v := .agg #[str (lower N.data.toList), .int .i64 (n : Int)]) (by simp [results, Tryz.results133, go_sem, hcl, str]) rfl ⟨?_, .inl ⟨_, _, by rw [HTg.out, HN.out], rfl⟩⟩
        iterate 2 refine Q.setCell ?_ (Nat.le_refl _) _
        exact hQ
end Go.Proofs.YtdmaffciijmdcaaGreatDoor
/-
  Rows of pairs of texts in memory (a head's fields, tenants), and the split at CR LF.
-/
namespace Go.Proofs.YtdmaffciijmdcaaGreatDoor
namespace Plain
def aheadF (fs : List (List UInt8 × List UInt8)) : Option (List (List UInt8 × List UInt8)) → Option (List (List UInt8 × List UInt8))
  | none => none
  | some l => some (fs ++ l)
theorem aheadF_nil (o : Option (List (List UInt8 × List UInt8))) : aheadF [] o = o := by cases o <;> rfl
theorem aheadF_step {l : List UInt8} {ls : List (List UInt8)} {f : List UInt8 × List UInt8} (fs : List (List UInt8 × List UInt8)) (h : fieldS l = some f) : aheadF fs (fieldsS (l :: ls)) = aheadF (fs ++ [f]) (fieldsS ls) := by
  rw [fieldsS, h]
  cases fieldsS ls with
  | none => rfl
  | some r => simp [aheadF]
theorem aheadF_bad {l : List UInt8} {ls : List (List UInt8)} (fs : List (List UInt8 × List UInt8)) (h : fieldS l = none) : aheadF fs (fieldsS (l :: ls)) = none := by
  rw [fieldsS, h]; rfl
theorem drop_consL {α : Type} {ls : List α} {k : Nat} {r : α} (h : ls[k]? = some r) : ls.drop k = r :: ls.drop (k + 1) := by
  obtain ⟨hk, rfl⟩ := List.getElem?_eq_some_iff.1 h
  rw [List.getElem_cons_drop]
end Plain
open Go.RowKit Plain

/-- The library's own variable holds some number. -/
def ML (w : World) : Prop := ∃ m, w.cell? ⟨0, 0, none⟩ = some (.int .i64 m)
theorem ML.stays {w w' : World} (h : ML w) (q : Q w w') : ML w' := by
  obtain ⟨m, hm⟩ := h
  exact ⟨m, q.cell hm⟩

def pairVals (fs : List (List UInt8 × List UInt8)) : List Value := fs.flatMap fun f => [str f.1, str f.2]
theorem pairVals_snoc (fs : List (List UInt8 × List UInt8)) (f : List UInt8 × List UInt8) : pairVals (fs ++ [f]) = pairVals fs ++ [str f.1, str f.2] := by simp [pairVals]
theorem pairVals_get : ∀ (fs : List (List UInt8 × List UInt8)) (i : Nat) (f : List UInt8 × List UInt8), fs[i]? = some f → (pairVals fs)[i * 2]? = some (str f.1) ∧ (pairVals fs)[i * 2 + 1]? = some (str f.2)
  | [], i, f, h => by simp at h
  | g :: fs, 0, f, h => by
    cases h
    exact ⟨rfl, rfl⟩
  | g :: fs, i + 1, f, h => by
    have ih := pairVals_get fs i f (by simpa using h)
    have e : pairVals (g :: fs) = str g.1 :: str g.2 :: pairVals fs := rfl
    rw [e, show (i + 1) * 2 = i * 2 + 1 + 1 by omega]
    exact ih

/-- Pairs of texts in a row, in blocks of S. -/
def PairsAt (S : Nat → Prop) (w : World) (v : Value) (l : List (List UInt8 × List UInt8)) : Prop :=
  ∃ a cap, v = .slice a l.length cap ∧ ∀ i f, l[i]? = some f → ∃ g, S g ∧ a = some ⟨g, 0, none⟩ ∧ w.cell? ⟨g, i * 2, none⟩ = some (str f.1) ∧ w.cell? ⟨g, i * 2 + 1, none⟩ = some (str f.2)
theorem PairsAt.keeps {S S' : Nat → Prop} {w w' : World} {v : Value} {l : List (List UInt8 × List UInt8)} (h : PairsAt S w v l) (k : Keeps S S' w w') : PairsAt S' w' v l := by
  obtain ⟨a, cap, hv, h⟩ := h
  refine ⟨a, cap, hv, fun i f hi => ?_⟩
  obtain ⟨g, hg, ha, h1, h2⟩ := h i f hi
  exact ⟨g, (k g hg).1, ha, by rw [(k g hg).2]; exact h1, by rw [(k g hg).2]; exact h2⟩
theorem PairsAt.own {w : World} {B : Nat} {e : TypeId} {v : Value} {l : List (List UInt8 × List UInt8)} (h : w.ownsRow B e 2 v l.length (pairVals l)) : PairsAt (fun g => v.ownBlock = some g) w v l := by
  rcases h.2 with ⟨hv, hn⟩ | ⟨g, cap, cur, hv, hb, hg, h4, h5, h6, h7⟩
  · refine ⟨none, 0, by rw [hv, hn], fun i f hi => ?_⟩
    have := List.eq_nil_of_length_eq_zero hn
    subst this
    simp at hi
  · refine ⟨_, cap, hv, fun i f hi => ⟨g, by rw [hv]; rfl, rfl, ?_⟩⟩
    obtain ⟨h1, h2⟩ := pairVals_get l i f hi
    have C : ∀ j u, (pairVals l)[j]? = some u → w.cell? ⟨g, j, none⟩ = some u := fun j u hj => by
      rw [cell_of_row w g j cur e (0, 0) hg]
      rw [← h7, List.getElem?_take] at hj
      split at hj
      · simpa using hj
      · cases hj
    exact ⟨C _ _ h1, C _ _ h2⟩

theorem splitB_list (sep : ByteArray) (k : Nat) (s : ByteArray) : (Lib.splitB sep 0 k s).map Value.string = (Lib.splitK sep.data.toList 0 k s.data.toList).map str := by
  have h := Lib.splitB_data sep 0 k s
  rw [← h, List.map_map]
  rfl

/-- strings.Split at CR LF. -/
theorem split_crlf (s : ByteArray) (w : World) (hs : s.size < 4294967281) (hm : ML w) :
    Calls Tryz.prog 116 #[.string s, .string ⟨#[13, 10]⟩] w fun e w' => ∃ cs : Array Value,
      e = .returned (.slice (some ⟨w.heap.size, 0, none⟩) (Lib.split s.data.toList [13, 10]).length (Lib.split s.data.toList [13, 10]).length) ∧ w' = w.alloc (.cells cs 9) ∧
      ∀ i, i < (Lib.split s.data.toList [13, 10]).length → cs[i]? = some (str (nth (Lib.split s.data.toList [13, 10]) i)) := by
  obtain ⟨m, hm⟩ := hm
  refine (Tryz.strings_Split s ⟨#[13, 10]⟩ m w hs hm (by decide)).mono ?_
  rintro e w' ⟨he, hw⟩
  have h1 := splitB_list ⟨#[13, 10]⟩ (Lib.countB s ⟨#[13, 10]⟩) s
  have h2 : Lib.splitK [13, 10] 0 (Lib.countB s ⟨#[13, 10]⟩) s.data.toList = Lib.split s.data.toList [13, 10] := rfl
  have h1' : (Lib.splitB ⟨#[13, 10]⟩ 0 (Lib.countB s ⟨#[13, 10]⟩) s).map Value.string = (Lib.split s.data.toList [13, 10]).map str := h1.trans (by rw [← h2])
  have h3 := Lib.splitB_all ⟨#[13, 10]⟩ (by decide) 0 _ s rfl
  have h4 : (Lib.split s.data.toList [13, 10]).length = Lib.countB s ⟨#[13, 10]⟩ + 1 := by
    rw [← h3]
    have := congrArg List.length h1'
    simpa using this.symm
  refine ⟨_, by rw [h4]; exact he, hw, fun i hi => ?_⟩
  rw [h1', List.getElem?_toArray, List.getElem?_map, List.getElem?_eq_getElem hi]
  unfold nth
  rw [List.getD_eq_getElem?_getD, List.getElem?_eq_getElem hi]
  rfl
end Go.Proofs.YtdmaffciijmdcaaGreatDoor
/-
  What the rows share: a cell's address, and a variable of the library's.
-/
namespace Go.Proofs.YtdmaffciijmdcaaGreatDoor.Script
open Go.ChangeShapes Go.WideShapes Go.ChangeAt Go.RowKit Plain

theorem spot_none {w : World} {a : Addr} {k : IntKind} {z : Int} (h : w.cell? a = some (.int k z)) : a.spot = none := by
  unfold World.cell? at h
  split at h
  · split at h
    · cases h
    · rename_i hn; simpa using hn
  · cases h
theorem ml_open {w : World} (h : w.ShapedOpen Tryz.prog) : ML w :=
  Go.Proofs.cell_of_shapedOpen_int (zero := #[.int .i64 0]) (t := 3) h (of_decide_eq_true (by kernel_rfl)) (by kernel_rfl) rfl (by kernel_rfl) (by kernel_rfl) Tryz.underlying3
end Go.Proofs.YtdmaffciijmdcaaGreatDoor.Script

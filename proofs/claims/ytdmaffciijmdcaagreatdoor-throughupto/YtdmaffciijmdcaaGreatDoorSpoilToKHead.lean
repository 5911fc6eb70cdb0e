/-
  The law 'Spoiled', walked: it answers true, whatever the rules and the numbers.
-/
import Derived.Test.YtdmaffciijmdcaaGreatDoorMath2ToMath3
import Derived.Deep.RegionWith
import Derived.Test.YtdmaffciijmdcaaGreatDoorKSecToKCode
namespace Go.Proofs.YtdmaffciijmdcaaGreatDoor
namespace Plain
theorem take40 (l : List RawR) : (l.take 40).length ≤ 40 := by simp; omega
theorem comp_right (l : List RawR) : compileS (rulesT l) = .ok ((l.take 40).map ruleOf) := by
  have h := rulesT_len l
  unfold compileS
  rw [if_neg (by omega)]
  exact rules_right _ 1 (by have := take40 l; omega)
theorem comp_spoiled (l : List RawR) (c b : UInt8) (hc : spoils c = true) (k : Nat) (hk : (rulesT l)[k]? = some b) (hb : b ≠ 10) :
    compileS ((rulesT l).take k ++ c :: (rulesT l).drop (k + 1)) = .error (3, 1 + ((rulesT l).take k).count 10) := by
  have h := rulesT_len l
  have hk' : k < (rulesT l).length := (List.getElem?_eq_some_iff.1 hk).1
  unfold compileS
  rw [if_neg (by simp; omega)]
  exact rules_spoiled c hc _ 1 k b (by have := take40 l; omega) hk hb
theorem comp_cut (l : List RawR) (h0 : rulesT l ≠ []) : compileS ((rulesT l).take ((rulesT l).length - 1)) = .error (3, (rulesT l).count 10) := by
  have h := rulesT_len l
  unfold compileS
  rw [if_neg (by simp; omega)]
  have h40 := take40 l
  unfold rulesT at *
  generalize l.take 40 = t at *
  cases t with
  | nil => simp at h0
  | cons q t =>
    rw [rules_cut t q 1 (by simp at h40; omega), count_lines]
    simp; omega
theorem count_step {T : List UInt8} {i : Nat} {b : UInt8} (h : T[i]? = some b) : (T.take (i + 1)).count 10 = (T.take i).count 10 + if b = 10 then 1 else 0 := by
  obtain ⟨hi, rfl⟩ := List.getElem?_eq_some_iff.1 h
  rw [List.take_succ_eq_append_getElem hi, List.count_append]
  by_cases e : T[i] = 10
  · rw [if_pos e, e]; rfl
  · rw [if_neg e, List.count_eq_zero_of_not_mem (fun hm => e (List.mem_singleton.1 hm).symm)]
end Plain
open Go.RowKit Plain

theorem str_take (T : List UInt8) (k : Nat) : (⟨T.toArray⟩ : ByteArray).extract 0 k = ⟨(T.take k).toArray⟩ := by
  apply ByteArray.ext; rw [ByteArray.data_extract]; simp
theorem str_drop (T : List UInt8) (k : Nat) : (⟨T.toArray⟩ : ByteArray).extract k T.length = ⟨(T.drop k).toArray⟩ := by
  apply ByteArray.ext; rw [ByteArray.data_extract]; simp
  rw [List.take_of_length_le (by simp)]

theorem comp_ok {l : List UInt8} {w w' : World} {e : Ending} {rs : List RuleS} (h : CompPost l w e w') (hc : compileS l = .ok rs) : Q w w' ∧ ∃ pb, e = .returned (.tuple #[.pointer (some ⟨pb, 0, none⟩), .int .i64 0, .int .i64 0]) ∧ PolicyRep (New w w') w' pb rs := by
  obtain ⟨hq, ⟨en, ln, h1, _⟩ | ⟨rs', pb, h1, h2, h3⟩⟩ := h
  · rw [hc] at h1; cases h1
  · rw [hc] at h1; cases h1; exact ⟨hq, pb, h2, h3⟩
theorem comp_err {l : List UInt8} {w w' : World} {e : Ending} {en ln : Nat} (h : CompPost l w e w') (hc : compileS l = .error (en, ln)) : Q w w' ∧ e = .returned (.tuple #[.pointer none, .int .i64 (en : Nat), .int .i64 (ln : Nat)]) := by
  obtain ⟨hq, ⟨en', ln', h1, h2⟩ | ⟨rs', pb, h1, _⟩⟩ := h
  · rw [hc] at h1; cases h1; exact ⟨hq, h2⟩
  · rw [hc] at h1; cases h1

end Go.Proofs.YtdmaffciijmdcaaGreatDoor
/-
  The statements' own heads, and pieces.
-/
namespace Go.Proofs.YtdmaffciijmdcaaGreatDoor
namespace Plain
def h1B : List UInt8 := [67, 79, 78, 78, 69, 67, 84, 32]
def h2B : List UInt8 := [32, 72, 84, 84, 80, 47, 49, 46, 49, 13, 10, 72, 111, 115, 116, 58, 32]
def h3B : List UInt8 := [13, 10, 80, 114, 111, 120, 121, 45, 65, 117, 116, 104, 111, 114, 105, 122, 97, 116, 105, 111, 110, 58, 32, 66, 97, 115, 105, 99, 32]
/-- The head with which a tenant asks. -/
def headT (who : Nat) (word host : List UInt8) (port : Nat) : List UInt8 := h1B ++ host ++ [58] ++ digits port ++ h2B ++ host ++ h3B ++ b64 (tenantS who ++ [58] ++ word) ++ endB
theorem b64_len2 (l : List UInt8) : (b64 l).length ≤ 4 * l.length := b64_len l
end Plain
open Go.RowKit Plain

theorem app_str (a b : ByteArray) : (a ++ b).data.toList = a.data.toList ++ b.data.toList := by simp

set_option maxRecDepth 100000 in
set_option maxHeartbeats 1600000 in
theorem head_any (who : Nat) (word host : ByteArray) (port : Nat) (w : World) (hw : who < 3) (h1 : word.size ≤ 20) (h2 : host.size ≤ 100) (h3 : port ≤ 65536) :
    Calls Tryz.prog 20 #[.int .i64 (who : Int), .string word, .string host, .int .i64 (port : Int)] w fun e w' => e = .returned (str (headT who word.data.toList host.data.toList port)) ∧ Q w w' := by
  have HDg : ∀ x, Hid (Calls Tryz.prog 46 #[.int .i64 (port : Int)] x fun e w' => e = .returned (str (digits port)) ∧ ∃ m, w' = x.drewN m) := fun x => digits_any port x (by omega) (by omega)
  have HTe : ∀ x, Hid (Calls Tryz.prog 48 #[.int .i64 (who : Int)] x fun e w' => e = .returned (str (tenantS who)) ∧ Q x w') := fun x => tenants_any who x (by omega) (by omega)
  have HCo := fun (s : ByteArray) (hs : s.size ≤ 100) x => show Hid _ from coded_any s x hs
  have hdl := digits_len6 port (by omega)
  have htl : (tenantS who).length ≤ 3 := by unfold tenantS; split <;> simp
  obtain ⟨G, hG⟩ : ∃ G : ByteArray, G.data.toList = digits port := ⟨⟨(digits port).toArray⟩, rfl⟩
  obtain ⟨T, hT⟩ : ∃ G : ByteArray, G.data.toList = tenantS who := ⟨⟨(tenantS who).toArray⟩, rfl⟩
  obtain ⟨C, hC⟩ : ∃ G : ByteArray, G.data.toList = b64 (tenantS who ++ [58] ++ word.data.toList) := ⟨⟨(b64 (tenantS who ++ [58] ++ word.data.toList)).toArray⟩, rfl⟩
  have g1 : G.size ≤ 5 := by rw [← size_len, hG]; exact hdl
  have g2 : T.size ≤ 3 := by rw [← size_len, hT]; exact htl
  have g3 : C.size ≤ 100 := by
    rw [← size_len, hC]
    have := b64_len2 (tenantS who ++ [58] ++ word.data.toList)
    simp at this ⊢
    omega
  have HHe : Hid (headT who word.data.toList host.data.toList port = h1B ++ host.data.toList ++ [58] ++ G.data.toList ++ h2B ++ host.data.toList ++ h3B ++ C.data.toList ++ endB) := by
    show _ = _
    unfold headT; rw [hG, hC]
  have HCt : Hid ((T ++ (⟨#[58]⟩ : ByteArray) ++ word).data.toList = tenantS who ++ [58] ++ word.data.toList) := by
    show _ = _
    rw [app_str, app_str, hT]
  have HCs : Hid (str (b64 (T ++ (⟨#[58]⟩ : ByteArray) ++ word).data.toList) = .string C) := by
    show _ = _
    rw [HCt.out, ← hC, str_data]
  rw [← hG] at HDg
  rw [← hT] at HTe
  clear hG hT hC hdl htl
  go_enter Tryz.func20, Tryz.ntmps20
  go_wp2_with fail
  refine Calls.mono (Hid.out (HDg _)) ?_
  rintro e w1 ⟨rfl, m, hw1⟩
  have hq1 : Q w w1 := by rw [hw1]; exact (Q.refl _).drews _
  rw [str_data]
  clear hw1 HDg
  go_wp2_with fail
  refine Calls.mono (Hid.out (HTe _)) ?_
  rintro e w2 ⟨rfl, hq2⟩
  rw [str_data]
  have hsz : (T ++ (⟨#[58]⟩ : ByteArray) ++ word).size ≤ 100 := by
    rw [ByteArray.size_append, ByteArray.size_append]
    have : (⟨#[58]⟩ : ByteArray).size = 1 := rfl
    omega
  go_wp2_with fail
  refine Calls.mono (Hid.out (HCo _ hsz _)) ?_
  rintro e w3 ⟨rfl, hq3⟩
  rw [HCs.out]
  have hQ := (hq1.trans hq2).trans hq3
  clear hq1 hq2 hq3 HCo HTe
  go_wp2_with fail
  go_ret
  refine ⟨?_, hQ⟩
  rw [HHe.out]
  refine congrArg Ending.returned ?_
  show Value.string _ = Value.string _
  congr 1

/-- How much of a text goes next. -/
def pieceN (len : Nat) (raw : Option Int) : Nat := match raw with
  | none => len
  | some c => if 0 < len then 1 + pickN c len else len
theorem pieceN_le (len : Nat) (raw : Option Int) : pieceN len raw ≤ len ∧ (0 < len → 0 < pieceN len raw) := by
  unfold pieceN
  split
  · exact ⟨Nat.le_refl _, fun h => h⟩
  · split
    · rename_i c h
      have := pickN_lt c h
      omega
    · omega

/-- Numbers that came in. -/
def IntsAt (w : World) (v : Value) (l : List Int) : Prop :=
  ∃ a cap, v = .slice a l.length cap ∧ ∀ i c, l[i]? = some c → I64 c ∧ ∃ b off, a = some ⟨b, off, none⟩ ∧ w.cell? ⟨b, off + i, none⟩ = some (.int .i64 c)
theorem IntsAt.stays {w w' : World} {v : Value} {l : List Int} (h : IntsAt w v l) (q : Q w w') : IntsAt w' v l := by
  obtain ⟨a, cap, hv, h⟩ := h
  refine ⟨a, cap, hv, fun i c hi => ?_⟩
  obtain ⟨h1, b, off, h2, h3⟩ := h i c hi
  exact ⟨h1, b, off, h2, q.cell h3⟩

set_option maxRecDepth 100000 in
set_option maxHeartbeats 1600000 in
theorem piece_any (s : ByteArray) (v : Value) (l : List Int) (i : Nat) (w : World) (hv : IntsAt w v l) (hs : s.size ≤ 4294967296) :
    Calls Tryz.prog 25 #[.string s, v, .int .i64 (i : Int)] w fun e w' => e = .returned (.tuple #[str (s.data.toList.take (pieceN s.size l[i]?)), str (s.data.toList.drop (pieceN s.size l[i]?))]) ∧ Q w w' := by
  obtain ⟨a, cap, rfl, hat⟩ := hv
  obtain ⟨hle, _⟩ := pieceN_le s.size l[i]?
  obtain ⟨k, hk⟩ : ∃ k, k = pieceN s.size l[i]? := ⟨_, rfl⟩
  have HK := show Hid _ from hk
  rw [← hk] at hle ⊢
  have HT : Hid (s.extract 0 k = ⟨(s.data.toList.take k).toArray⟩) := by
    show _ = _
    rw [← Lib.mk_data (s.extract 0 k), Lib.extract_from_zero]
  have HDr : Hid (s.extract k s.size = ⟨(s.data.toList.drop k).toArray⟩) := by
    show _ = _
    rw [← Lib.mk_data (s.extract k s.size), Lib.extract_to_end]
  by_cases hi : i < l.length
  · obtain ⟨hc, b, off, rfl, hcell⟩ := hat i _ (List.getElem?_eq_getElem hi)
    rw [List.getElem?_eq_getElem hi] at hk
    generalize l[i] = c at *
    have d1 : decide ((i : Int) < (l.length : Int)) = true := decide_eq_true (by omega)
    by_cases h0 : 0 < s.size
    · have d2 : decide ((0 : Int) < (s.size : Int)) = true := decide_eq_true (by omega)
      have hkp : k = 1 + pickN c s.size := by rw [hk]; show (if 0 < s.size then 1 + pickN c s.size else s.size) = _; rw [if_pos h0]
      have PP : ∀ w, Hid (Calls Tryz.prog 12 #[.int .i64 c, .int .i64 (s.size : Int)] w fun e w' => e = .returned (.int .i64 ((pickN c s.size : Nat) : Int)) ∧ w' = w) := fun w => pick_any c s.size w hc (by omega) (by omega)
      have hpl := pickN_lt c h0
      generalize pickN c s.size = p at *
      clear hat hk hc
      have c1 : (1 : Int) + (p : Int) = (k : Int) := by omega
      have c2 : (k : Int) ≤ (s.size : Int) := by omega
      clear hkp hpl
      go_enter Tryz.func25, Tryz.ntmps25
      go_wp2_with (first | (go_at_call 12; refine Calls.mono (Hid.out (PP _)) ?_; rintro e w' ⟨rfl, hw⟩; rw [hw]; clear hw))
      go_region
      go_wp2_with fail
      go_ret2
      exact ⟨by unfold str; rw [← HT.out, ← HDr.out]; rfl, (Q.refl _).drew⟩
    · have d2 : decide ((0 : Int) < (s.size : Int)) = false := decide_eq_false (by omega)
      have hkp : k = s.size := by rw [hk]; show (if 0 < s.size then 1 + pickN c s.size else s.size) = _; rw [if_neg h0]
      clear hat hk hc
      subst hkp
      go_enter Tryz.func25, Tryz.ntmps25
      go_wp2_with fail
      go_region
      go_wp2_with fail
      go_ret2
      exact ⟨by rw [List.take_of_length_le (by rw [size_len]; exact Nat.le_refl _), List.drop_eq_nil_of_le (by rw [size_len]; exact Nat.le_refl _)]; rfl, (Q.refl _).drew⟩
  · have d1 : decide ((i : Int) < (l.length : Int)) = false := decide_eq_false (by omega)
    rw [List.getElem?_eq_none (by omega)] at hk
    have hkp : k = s.size := hk
    clear hat hk
    subst hkp
    go_enter Tryz.func25, Tryz.ntmps25
    go_wp2_with fail
    go_region
    go_wp2_with fail
    go_ret2
    exact ⟨by rw [List.take_of_length_le (by rw [size_len]; exact Nat.le_refl _), List.drop_eq_nil_of_le (by rw [size_len]; exact Nat.le_refl _)]; rfl, (Q.refl _).drew⟩
end Go.Proofs.YtdmaffciijmdcaaGreatDoor

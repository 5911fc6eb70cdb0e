/-
  The document's answer: figures, tenants, labels, numbers.
-/
import Derived.Test.YtfkggpminmonmaaDoorRParts
namespace Go.Proofs.YtfkggpminmonmaaDoor
namespace Plain
def figsS (l : List UInt8) : Bool := decide (0 < l.length) && allB fig l
theorem allp_step {p : UInt8 → Bool} {l : List UInt8} {k : Nat} {b : UInt8} (hk : l[k]? = some b) (h : allB p (l.take k) = true) (hb : p b = true) : allB p (l.take (k + 1)) = true := by
  obtain ⟨hlt, rfl⟩ := List.getElem?_eq_some_iff.1 hk
  unfold allB at *
  rw [List.take_succ_eq_append_getElem hlt, List.all_append, h]
  simp [hb]
theorem allp_stop {p : UInt8 → Bool} {l : List UInt8} {k : Nat} {b : UInt8} (hk : l[k]? = some b) (hb : p b = false) : allB p l = false := by
  cases h : allB p l with
  | false => rfl
  | true => rw [List.all_eq_true.1 h b (List.mem_of_getElem? hk)] at hb; cases hb
theorem allp_done {p : UInt8 → Bool} {l : List UInt8} (h : allB p (l.take l.length) = true) : allB p l = true := by rwa [List.take_of_length_le (Nat.le_refl _)] at h
theorem fig_low {b : UInt8} (h : b.toNat < 48) : fig b = false := by unfold fig; simp; omega
theorem fig_high {b : UInt8} (h : 57 < b.toNat) : fig b = false := by unfold fig; simp; omega
theorem fig_yes {b : UInt8} (h1 : ¬ b.toNat < 48) (h2 : ¬ 57 < b.toNat) : fig b = true := by unfold fig; simp; omega
theorem small_low {b : UInt8} (h : b.toNat < 97) : small b = false := by unfold small; simp; omega
theorem small_high {b : UInt8} (h : 122 < b.toNat) : small b = false := by unfold small; simp; omega
theorem small_yes {b : UInt8} (h1 : ¬ b.toNat < 97) (h2 : ¬ 122 < b.toNat) : small b = true := by unfold small; simp; omega
end Plain
open Go.RowKit Plain

set_option maxRecDepth 100000 in
set_option maxHeartbeats 800000 in
theorem rfigures_any (T : List UInt8) (w : World) (hT : T.length ≤ 4194304) :
    Calls Tryd.prog 102 #[.string ⟨T.toArray⟩] w fun e w' => e = .returned (.bool (figsS T)) ∧ w' = w := by
  have hsz : (⟨T.toArray⟩ : ByteArray).size = T.length := rfl
  go_enter Tryd.func102, Tryd.ntmps102
  go_wp2_with fail
  go_loopw [3] (fun i wr => ∃ k : Nat, k ≤ T.length ∧ i = .int .i64 k ∧ Hid (allB fig (T.take k) = true) ∧ wr = w) (fun i _ => T.length - (intOf i).toNat)
  case atStart => exact ⟨0, Nat.zero_le _, rfl, rfl, rfl⟩
  case round =>
    obtain ⟨k, hk, rfl, hall, rfl⟩ := hrel
    by_cases hlt : k < T.length
    · have hget : T[k]? = some T[k] := List.getElem?_eq_getElem hlt
      by_cases h1 : (T[k]).toNat < 48
      · have d1 : decide (((⟨T.toArray⟩ : ByteArray)[k].toNat : Int) < 48) = true := decide_eq_true (by show ((T[k]).toNat : Int) < 48; omega)
        have HS : Hid (allB fig T = false) := allp_stop hget (fig_low h1)
        clear hget h1
        go_wp2_with fail
        go_ret
        exact ⟨by unfold figsS; rw [HS.out]; simp, rfl⟩
      have d1 : decide (((⟨T.toArray⟩ : ByteArray)[k].toNat : Int) < 48) = false := decide_eq_false (by show ¬ ((T[k]).toNat : Int) < 48; omega)
      by_cases h2 : 57 < (T[k]).toNat
      · have d2 : decide (57 < ((⟨T.toArray⟩ : ByteArray)[k].toNat : Int)) = true := decide_eq_true (by show 57 < ((T[k]).toNat : Int); omega)
        have HS : Hid (allB fig T = false) := allp_stop hget (fig_high h2)
        clear hget h1 h2
        go_wp2_with fail
        go_ret
        exact ⟨by unfold figsS; rw [HS.out]; simp, rfl⟩
      have d2 : decide (57 < ((⟨T.toArray⟩ : ByteArray)[k].toNat : Int)) = false := decide_eq_false (by show ¬ 57 < ((T[k]).toNat : Int); omega)
      have HN := show Hid _ from allp_step hget hall.out (fig_yes h1 h2)
      clear hget h1 h2
      go_wp2_with fail
      exact ⟨⟨k + 1, by omega, by go_num, HN, by trivial⟩, by simp [intOf]; omega⟩
    · have hkT : k = T.length := by omega
      subst hkT
      have HS := show Hid _ from allp_done hall.out
      clear hall
      go_wp2_with fail
      go_ret
      exact ⟨by unfold figsS; rw [HS.out]; simp, rfl⟩

set_option maxRecDepth 100000 in
set_option maxHeartbeats 800000 in
theorem rtenant_any (T : List UInt8) (w : World) (hT : T.length ≤ 4194304) :
    Calls Tryd.prog 44 #[.string ⟨T.toArray⟩] w fun e w' => e = .returned (.bool (tenantOk T)) ∧ w' = w := by
  have hsz : (⟨T.toArray⟩ : ByteArray).size = T.length := rfl
  go_enter Tryd.func44, Tryd.ntmps44
  go_wp2_with fail
  go_loopw [3] (fun i wr => ∃ k : Nat, k ≤ T.length ∧ i = .int .i64 k ∧ Hid (allB small (T.take k) = true) ∧ wr = w) (fun i _ => T.length - (intOf i).toNat)
  case atStart => exact ⟨0, Nat.zero_le _, rfl, rfl, rfl⟩
  case round =>
    obtain ⟨k, hk, rfl, hall, rfl⟩ := hrel
    by_cases hlt : k < T.length
    · have hget : T[k]? = some T[k] := List.getElem?_eq_getElem hlt
      by_cases h1 : (T[k]).toNat < 97
      · have d1 : decide (((⟨T.toArray⟩ : ByteArray)[k].toNat : Int) < 97) = true := decide_eq_true (by show ((T[k]).toNat : Int) < 97; omega)
        have HS : Hid (allB small T = false) := allp_stop hget (small_low h1)
        clear hget h1
        go_wp2_with fail
        go_ret
        exact ⟨by unfold tenantOk; rw [HS.out]; simp, rfl⟩
      have d1 : decide (((⟨T.toArray⟩ : ByteArray)[k].toNat : Int) < 97) = false := decide_eq_false (by show ¬ ((T[k]).toNat : Int) < 97; omega)
      by_cases h2 : 122 < (T[k]).toNat
      · have d2 : decide (122 < ((⟨T.toArray⟩ : ByteArray)[k].toNat : Int)) = true := decide_eq_true (by show 122 < ((T[k]).toNat : Int); omega)
        have HS : Hid (allB small T = false) := allp_stop hget (small_high h2)
        clear hget h1 h2
        go_wp2_with fail
        go_ret
        exact ⟨by unfold tenantOk; rw [HS.out]; simp, rfl⟩
      have d2 : decide (122 < ((⟨T.toArray⟩ : ByteArray)[k].toNat : Int)) = false := decide_eq_false (by show ¬ 122 < ((T[k]).toNat : Int); omega)
      have HN := show Hid _ from allp_step hget hall.out (small_yes h1 h2)
      clear hget h1 h2
      go_wp2_with fail
      exact ⟨⟨k + 1, by omega, by go_num, HN, by trivial⟩, by simp [intOf]; omega⟩
    · have hkT : k = T.length := by omega
      subst hkT
      have HS := show Hid _ from allp_done hall.out
      clear hall
      by_cases h0 : 0 < T.length
      · by_cases h8 : T.length ≤ 8
        · have d8 : decide ((T.length : Int) ≤ 8) = true := decide_eq_true (by omega)
          go_wp2_with fail
          go_ret
          exact ⟨by unfold tenantOk; rw [HS.out, decide_eq_true ⟨by omega, h8⟩]; rfl, rfl⟩
        · have d8 : decide ((T.length : Int) ≤ 8) = false := decide_eq_false (by omega)
          go_wp2_with fail
          go_ret
          exact ⟨by unfold tenantOk; rw [decide_eq_false (fun h => h8 h.2)]; rfl, rfl⟩
      · go_wp2_with fail
        go_ret
        exact ⟨by unfold tenantOk; rw [decide_eq_false (fun h => h0 h.1)]; rfl, rfl⟩
end Go.Proofs.YtfkggpminmonmaaDoor

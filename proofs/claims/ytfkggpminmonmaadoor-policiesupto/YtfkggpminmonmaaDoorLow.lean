/-
  Package words: Lower.
-/
import Derived.Test.YtfkggpminmonmaaDoorName
import Derived.Laws.IdiomStrings
namespace Go.Proofs.YtfkggpminmonmaaDoor
open Go.RowKit Plain

/-- The byte at j behind k rounds. -/
def lowAt (s : ByteArray) (k j : Nat) : UInt8 := if j < k then lowB (s.data.toList.getD j 0) else s.data.toList.getD j 0

theorem lower_len (l : List UInt8) : (lower l).length = l.length := by simp [lower]
theorem lowAt_full (s : ByteArray) (k j : Nat) (hk : s.size ≤ k) (hj : j < (lower s.data.toList).length) : lowAt s k j = (lower s.data.toList)[j] := by
  have hj' : j < s.data.toList.length := by rw [lower_len] at hj; exact hj
  unfold lowAt
  rw [if_pos (by rw [size_len] at hj'; omega)]
  simp [lower, List.getElem?_eq_getElem hj']
theorem lowAt_next (s : ByteArray) (k j : Nat) (hj : j ≠ k) : lowAt s (k + 1) j = lowAt s k j := by
  unfold lowAt
  by_cases h : j < k
  · rw [if_pos h, if_pos (by omega)]
  · rw [if_neg h, if_neg (by omega)]
theorem lowAt_self (s : ByteArray) (k : Nat) : lowAt s k k = s.data.toList.getD k 0 := by unfold lowAt; rw [if_neg (by omega)]
theorem lowAt_done (s : ByteArray) (k : Nat) : lowAt s (k + 1) k = lowB (lowAt s k k) := by
  rw [lowAt_self]; unfold lowAt; rw [if_pos (by omega)]
theorem lowB_upper {c : UInt8} (h1 : 65 ≤ (c.toNat : Int)) (h2 : (c.toNat : Int) ≤ 90) : ((lowB c).toNat : Int) = (c.toNat : Int) + 32 := by
  unfold lowB
  rw [if_pos (by omega), UInt8.toNat_add]
  have : (32 : UInt8).toNat = 32 := rfl
  omega
theorem lowB_other {c : UInt8} (h : ¬ (65 ≤ (c.toNat : Int) ∧ (c.toNat : Int) ≤ 90)) : lowB c = c := by
  unfold lowB; rw [if_neg (by omega)]

theorem set_same {w : World} {a : Addr} {u v : Value} (h : w.cell? a = some u) : (w.setCell a v).cell? a = some v := World.cell?_setCell_same' w a v (by simp [h])
theorem set_other {w : World} {a b : Addr} {v : Value} (h : a ≠ b) : (w.setCell a v).cell? b = w.cell? b := by
  apply World.cell?_setCell_other; exact h
theorem off_ne {b i j : Nat} (h : ¬ j = i) : (⟨b, i, none⟩ : Addr) ≠ ⟨b, j, none⟩ := by
  intro e; injection e with _ e2; exact h e2.symm

theorem lower_conv (s : ByteArray) (w : World) : ∃ cap w1, (convert 9 52 (.string s)).run Tryd.prog w = .ok (.slice (some ⟨w.heap.size, 0, none⟩) s.size cap) w1 ∧ Q w w1 ∧
    (∀ j, j < s.size → w1.cell? ⟨w.heap.size, j, none⟩ = some (.int .u8 ((lowAt s 0 j).toNat : Int))) ∧ (∀ j, j < s.size → w1.frozen? ⟨w.heap.size, j, none⟩ = false) := by
  refine ⟨_, _, run_bytes_of_string w 9 52 5 s Tryd.underlying9 Tryd.underlying52 Tryd.underlying5, (Q.refl w).drew.alloc _, fun j hj => ?_, fun j hj => ?_⟩
  · rw [show w.heap.size = w.drew.heap.size from rfl, World.cell?_alloc_mark]
    rw [bytesRow_at s _ j hj]
    unfold lowAt
    rw [if_neg (by omega), List.getD_eq_getElem?_getD, List.getElem?_eq_getElem (by rw [size_len]; exact hj)]
    rfl
  · rw [show w.heap.size = w.drew.heap.size from rfl, World.frozen?_alloc_mark]
    simp [bytesRow]
    intro h
    have : s.data.size = s.size := rfl
    omega

set_option maxHeartbeats 400000 in
theorem lower_any (s : ByteArray) (w : World) (hs : s.size ≤ 281474976710656) :
    Calls Tryd.prog 84 #[.string s] w fun e w' => e = .returned (str (lower s.data.toList)) ∧ Q w w' := by
  obtain ⟨cap, w1, hconv, hQ, hcell, hfz⟩ := lower_conv s w
  go_enter Tryd.func84, Tryd.ntmps84
  go_wp2_with fail
  go_loopw [10, 4, 5] (fun i _ _ wr => ∃ k : Nat, k ≤ s.size ∧ i = .int .i64 k ∧ Q w wr ∧ (∀ j, j < s.size → wr.cell? ⟨w.heap.size, j, none⟩ = some (.int .u8 ((lowAt s k j).toNat : Int))) ∧ (∀ j, j < s.size → wr.frozen? ⟨w.heap.size, j, none⟩ = false)) (fun i _ _ _ => s.size - (intOf i).toNat)
  case atStart => exact ⟨0, Nat.zero_le _, rfl, hQ, hcell, hfz⟩
  case round =>
    clear hconv hcell hfz hQ
    obtain ⟨k, hk, rfl, hq, hcell, hfz⟩ := hrel
    by_cases hlt : k < s.size
    · have hck := hcell k hlt
      have hfk := hfz k hlt
      have Hcell := show Hid _ from hcell
      have Hfz := show Hid _ from hfz
      clear hcell hfz
      cases hu : great (lowAt s k k)
      · have hnu : ¬ (65 ≤ ((lowAt s k k).toNat : Int) ∧ ((lowAt s k k).toNat : Int) ≤ 90) := fun h => by
          unfold great at hu
          rw [decide_eq_true h.1, decide_eq_true h.2] at hu
          cases hu
        have hnext : ∀ j, j < s.size → wr.cell? ⟨w.heap.size, j, none⟩ = some (.int .u8 ((lowAt s (k + 1) j).toNat : Int)) := by
          intro j hj
          by_cases hjk : j = k
          · subst hjk
            rw [hck, lowAt_done, lowB_other hnu]
          · rw [Hcell.out j hj, lowAt_next s k j hjk]
        have Hnext := show Hid _ from hnext
        clear hnext hnu
        go_wp2_with (go_at_call 105; refine (isGreat_any (lowAt s k k) _).mono ?_; rintro e w' ⟨rfl, rfl⟩; rw [hu])
        exact ⟨⟨k + 1, by omega, by go_num, hq, Hnext.out, Hfz.out⟩, by simp [intOf]; omega⟩
      · obtain ⟨hu1, hu2⟩ : 65 ≤ ((lowAt s k k).toNat : Int) ∧ ((lowAt s k k).toNat : Int) ≤ 90 := by
          unfold great at hu
          simpa using hu
        go_wp2_with (go_at_call 105; refine (isGreat_any (lowAt s k k) _).mono ?_; rintro e w' ⟨rfl, rfl⟩; rw [hu])
        refine ⟨⟨k + 1, by omega, by go_num, hq.setCell (Nat.le_refl _) _, fun j hj => ?_, fun j hj => ?_⟩, by simp [intOf]; omega⟩
        · by_cases hjk : j = k
          · subst hjk
            rw [set_same hck, lowAt_done, lowB_upper hu1 hu2]
            congr 2; omega
          · rw [set_other (off_ne hjk), Hcell.out j hj, lowAt_next s k j hjk]
        · rw [World.frozen?_setCell]; exact Hfz.out j hj
    · have hback := run_convert_bytes_back (P := Tryd.prog) wr 52 9 5 ⟨w.heap.size, 0, none⟩ cap (lower s.data.toList) Tryd.underlying52 Tryd.underlying5 Tryd.underlying9
        (fun j hj => by
          have hj' : j < s.size := by rw [lower_len, size_len] at hj; exact hj
          rw [show (⟨w.heap.size, 0, none⟩ : Addr).add j = ⟨w.heap.size, j, none⟩ from by unfold Addr.add; simp; exact fun h => h.symm]
          rw [hcell j hj', lowAt_full s k j (by omega) hj])
      rw [lower_len, size_len] at hback
      clear hcell hfz
      go_wp2_with fail
      go_ret
      exact ⟨rfl, hq⟩
end Go.Proofs.YtfkggpminmonmaaDoor

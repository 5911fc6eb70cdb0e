/-
  Package rules: readNet, readDomain, readHost, and what the functions that they hand back answer.
-/
import Derived.Test.YtdmaffciijmdcaaGreatDoorFieldsToArr
import Derived.Deep.RegionHeld3
import Derived.Deep.RegionHeld2
import Derived.Deep.RegionWith
namespace Go.Proofs.YtdmaffciijmdcaaGreatDoor
open Go.RowKit Plain

def HostRep (S : Nat → Prop) (w : World) (v : Value) (p : HostP) : Prop :=
  (p.kind = 0 ∧ v = .func (.func 148) #[] #[]) ∨
  (∃ b, p.kind = 1 ∧ v = .func (.func 153) #[] #[.pointer (some ⟨b, 0, none⟩)] ∧ w.cell? ⟨b, 0, none⟩ = some (str p.nm) ∧ S b) ∨
  (∃ b, p.kind = 2 ∧ v = .func (.func 199) #[] #[.pointer (some ⟨b, 0, none⟩)] ∧ w.cell? ⟨b, 0, none⟩ = some (str p.nm) ∧ p.nm.length ≤ 4294967281 ∧ S b) ∨
  (∃ n b x0 x1 x2 x3, p.kind = 3 ∧ v = .func (.func 196) #[] #[.pointer (some ⟨n, 0, none⟩), .pointer (some ⟨b, 0, none⟩)] ∧ p.ad = [x0, x1, x2, x3] ∧ p.bits ≤ 32 ∧
    w.cell? ⟨n, 0, none⟩ = some (i64 p.bits) ∧ w.cell? ⟨b, 0, none⟩ = some (u8 x0) ∧ w.cell? ⟨b, 1, none⟩ = some (u8 x1) ∧ w.cell? ⟨b, 2, none⟩ = some (u8 x2) ∧ w.cell? ⟨b, 3, none⟩ = some (u8 x3) ∧ S n ∧ S b)

theorem HostRep.keeps {S S' : Nat → Prop} {w w' : World} {v : Value} {p : HostP} (h : HostRep S w v p) (k : Keeps S S' w w') : HostRep S' w' v p := by
  rcases h with h | ⟨b, h1, h2, h3, h4⟩ | ⟨b, h1, h2, h3, h5, h4⟩ | ⟨n, b, x0, x1, x2, x3, h1, h2, h3, h4, h5, h6, h7, h8, h9, h10, h11⟩
  · exact .inl h
  · exact .inr (.inl ⟨b, h1, h2, by rw [(k b h4).2]; exact h3, (k b h4).1⟩)
  · exact .inr (.inr (.inl ⟨b, h1, h2, by rw [(k b h4).2]; exact h3, h5, (k b h4).1⟩))
  · exact .inr (.inr (.inr ⟨n, b, x0, x1, x2, x3, h1, h2, h3, h4, by rw [(k n h10).2]; exact h5, by rw [(k b h11).2]; exact h6, by rw [(k b h11).2]; exact h7, by rw [(k b h11).2]; exact h8, by rw [(k b h11).2]; exact h9, (k n h10).1, (k b h11).1⟩))

theorem Q.made2 {w w' : World} {cs ds : Array Value} {t u : TypeId} (h : Q ((w.alloc (.cells cs t)).alloc (.cells ds u)).drew w') :
    (∀ i, w'.cell? ⟨w.heap.size, i, none⟩ = cs[i]?) ∧ (∀ i, w'.cell? ⟨w.heap.size + 1, i, none⟩ = ds[i]?) ∧ w.heap.size + 1 < w'.heap.size := by
  have hz := Q.size h
  simp at hz
  refine ⟨fun i => ?_, fun i => ?_, by omega⟩
  · rw [(Q.cells h).1 _ _ (by simp; omega)]; simp [go_sem]
  · rw [(Q.cells h).1 _ _ (by simp)]; simp [go_sem]

theorem num32_yes (s : ByteArray) (w : World) (hs : s.size ≤ 4294967281) (n : Nat) (h : number s.data.toList 32 = some n) :
    Calls Tryz.prog 194 #[.string s, .int .i64 32] w fun e w' => e = .returned (i64 n) ∧ w' = w :=
  number_yes s 32 w (by unfold maxLen; omega) (by decide) n h
theorem num32_no (s : ByteArray) (w : World) (hs : s.size ≤ 4294967281) (h : number s.data.toList 32 = none) :
    Calls Tryz.prog 194 #[.string s, .int .i64 32] w fun e w' => Dies e ∧ w' = w :=
  number_no s 32 w (by unfold maxLen; omega) (by decide) h

theorem net_some {a r : List UInt8} {p : HostP} (h : readNetP a r = some p) : ∃ x0 x1 x2 x3 n, address a = some [x0, x1, x2, x3] ∧ number r 32 = some n ∧ firstN n [x0, x1, x2, x3] = [x0, x1, x2, x3] ∧ p = ⟨3, [], [x0, x1, x2, x3], n⟩ ∧
    x0 ≤ 255 ∧ x1 ≤ 255 ∧ x2 ≤ 255 ∧ x3 ≤ 255 ∧ n ≤ 32 := by
  unfold readNetP at h
  cases ha : address a with
  | none => rw [ha] at h; cases h
  | some ad =>
    obtain ⟨_, _, _, _, x0, x1, x2, x3, _, rfl, h0, h1, h2, h3⟩ := address_some ha
    rw [ha] at h
    simp only at h
    cases hn : number r 32 with
    | none => rw [hn] at h; cases h
    | some n =>
      rw [hn] at h
      simp only at h
      split at h
      case isFalse => cases h
      rename_i hf
      cases h
      exact ⟨x0, x1, x2, x3, n, rfl, rfl, hf, rfl, number_le h0, number_le h1, number_le h2, number_le h3, number_le hn⟩

theorem firstBits_eq {n a b c d : Nat} (h : firstN n [a, b, c, d] = [a, b, c, d]) : firstBits n a b c d = .agg #[u8 a, u8 b, u8 c, u8 d] := by
  unfold firstN at h
  simp only [List.cons.injEq, and_true] at h
  obtain ⟨h1, h2, h3, h4⟩ := h
  unfold firstBits
  rw [h1, h2, h3, h4]

theorem net_keep {W w w' : World} {b m : Nat} {v0 v1 v2 v3 v4 : Value}
    (h : w.cell? ⟨b, 0, none⟩ = some v0 ∧ w.cell? ⟨b, 1, none⟩ = some v1 ∧ w.cell? ⟨b, 2, none⟩ = some v2 ∧ w.cell? ⟨b, 3, none⟩ = some v3 ∧ w.cell? ⟨m, 0, none⟩ = some v4 ∧ Q W w) (q : Q w w') :
    w'.cell? ⟨b, 0, none⟩ = some v0 ∧ w'.cell? ⟨b, 1, none⟩ = some v1 ∧ w'.cell? ⟨b, 2, none⟩ = some v2 ∧ w'.cell? ⟨b, 3, none⟩ = some v3 ∧ w'.cell? ⟨m, 0, none⟩ = some v4 ∧ Q W w' := by
  obtain ⟨h0, h1, h2, h3, h4, h5⟩ := h
  exact ⟨q.cell h0, q.cell h1, q.cell h2, q.cell h3, q.cell h4, h5.trans q⟩

attribute [local go_sem] eq4

set_option maxRecDepth 100000 in
set_option maxHeartbeats 800000 in
theorem readNet_yes (a r : ByteArray) (w : World) (hs : a.size < 4294967281) (hs2 : r.size ≤ 4294967281) (p : HostP) (h : readNetP a.data.toList r.data.toList = some p) :
    Calls Tryz.prog 149 #[.string a, .string r] w fun e w' => ∃ v, e = .returned v ∧ Q w w' ∧ HostRep (New w w') w' v p := by
  have hmf : ∀ (fn : Fn) (first cap : Array Value) (w : World), (Instr.makeFunc fn first cap).run Tryz.prog w = .ok (.func fn first cap) w := fun _ _ _ _ => rfl
  obtain ⟨x0, x1, x2, x3, n, ha, hn, hf, rfl, b0, b1, b2, b3, bn⟩ := net_some h
  have HA := show Hid _ from ha
  have HN := show Hid _ from hn
  have HF := show Hid _ from hf
  clear h ha hn hf
  go_enter Tryz.func149, Tryz.ntmps149
  go_wp2_with fail
  refine (readAddress_yes a _ hs x0 x1 x2 x3 HA.out).mono ?_
  rintro e w1 ⟨rfl, hq1⟩
  go_wp2_with (first | (go_at_call 194; refine (num32_yes r _ hs2 n HN.out).mono ?_; rintro e w' ⟨rfl, rfl⟩))
  go_region_held3 (fun w' => w'.cell? ⟨w1.heap.size, 0, none⟩ = some (.int .u8 x0) ∧ w'.cell? ⟨w1.heap.size, 1, none⟩ = some (.int .u8 x1) ∧ w'.cell? ⟨w1.heap.size, 2, none⟩ = some (.int .u8 x2) ∧ w'.cell? ⟨w1.heap.size, 3, none⟩ = some (.int .u8 x3) ∧ w'.cell? ⟨w1.heap.size + 1, 0, none⟩ = some (.int .i64 n) ∧ Q ((w1.alloc (.cells #[.int .u8 x0, .int .u8 x1, .int .u8 x2, .int .u8 x3] 209)).alloc (.cells #[.int .i64 n] 3)) w')
    (first | exact ⟨by simp [go_sem], by simp [go_sem], by simp [go_sem], by simp [go_sem], by simp [go_sem], (Q.refl _).drew⟩ | exact net_keep (by assumption) (by assumption) | assumption)
    (first | (go_at_call 195; refine (first_any x0 x1 x2 x3 n bn b0 b1 b2 b3 _).mono ?_; rintro e w' ⟨rfl, hq2⟩; rw [firstBits_eq HF.out]) | (go_at_call_of 88 (Value.bool true); refine (must_yes _ _).mono ?_; rintro e w' ⟨rfl, rfl⟩))
  obtain ⟨c0, c1, c2, c3, c4, hq3⟩ := by assumption
  have hz := hq3.size
  simp at hz
  have hz1 := hq1.size
  go_wp2_with fail
  go_ret
  refine ⟨_, rfl, ((hq1.alloc _).alloc _).trans hq3, .inr (.inr (.inr ⟨_, _, x0, x1, x2, x3, rfl, rfl, rfl, bn, c4, c0, c1, c2, c3, ⟨?_, ?_⟩, ⟨?_, ?_⟩⟩))⟩ <;> omega

theorem net_none {a r : List UInt8} (h : readNetP a r = none) : address a = none ∨ ∃ x0 x1 x2 x3, address a = some [x0, x1, x2, x3] ∧ (number r 32 = none ∨ ∃ n, number r 32 = some n ∧ firstN n [x0, x1, x2, x3] ≠ [x0, x1, x2, x3] ∧ 
    x0 ≤ 255 ∧ x1 ≤ 255 ∧ x2 ≤ 255 ∧ x3 ≤ 255 ∧ n ≤ 32) := by
  unfold readNetP at h
  cases ha : address a with
  | none => exact .inl rfl
  | some ad =>
    obtain ⟨_, _, _, _, x0, x1, x2, x3, _, rfl, h0, h1, h2, h3⟩ := address_some ha
    rw [ha] at h
    simp only at h
    refine .inr ⟨x0, x1, x2, x3, rfl, ?_⟩
    cases hn : number r 32 with
    | none => exact .inl rfl
    | some n =>
      rw [hn] at h
      simp only at h
      split at h
      case isTrue => cases h
      rename_i hf
      exact .inr ⟨n, rfl, hf, number_le h0, number_le h1, number_le h2, number_le h3, number_le hn⟩

theorem firstN_ne {n a b c d : Nat} : (((keep (min 8 n) a : Nat) : Int) == (a : Int) && ((keep (min 8 (n - 8)) b : Nat) : Int) == (b : Int) && ((keep (min 8 (n - 16)) c : Nat) : Int) == (c : Int) && ((keep (min 8 (n - 24)) d : Nat) : Int) == (d : Int)) = decide (firstN n [a, b, c, d] = [a, b, c, d]) := by
  rw [Bool.eq_iff_iff]
  unfold firstN
  simp
  omega

set_option maxRecDepth 100000 in
set_option maxHeartbeats 800000 in
theorem readNet_no (a r : ByteArray) (w : World) (hs : a.size < 4294967281) (hs2 : r.size ≤ 4294967281) (h : readNetP a.data.toList r.data.toList = none) :
    Calls Tryz.prog 149 #[.string a, .string r] w fun e w' => Dies e ∧ Q w w' := by
  rcases net_none h with ha | ⟨x0, x1, x2, x3, ha, hx⟩
  · have HA := show Hid _ from ha
    clear h ha
    go_enter Tryz.func149, Tryz.ntmps149
    go_wp2_with fail
    refine (readAddress_no a _ hs HA.out).mono ?_
    rintro e w1 ⟨⟨t, v, rfl⟩, hq1⟩
    exact ⟨rfl, ⟨_, _, rfl⟩, hq1⟩
  · have HA := show Hid _ from ha
    clear h ha
    rcases hx with hn | ⟨n, hn, hf, b0, b1, b2, b3, bn⟩
    · have HN := show Hid _ from hn
      clear hn
      go_enter Tryz.func149, Tryz.ntmps149
      go_wp2_with fail
      refine (readAddress_yes a _ hs x0 x1 x2 x3 HA.out).mono ?_
      rintro e w1 ⟨rfl, hq1⟩
      go_wp2_with (first | (go_at_call 194; refine (num32_no r _ hs2 HN.out).mono ?_; rintro e w' ⟨⟨t, v, rfl⟩, rfl⟩))
      exact ⟨rfl, ⟨_, _, rfl⟩, hq1.alloc _⟩
    · have HN := show Hid _ from hn
      have hne : (((keep (min 8 n) x0 : Nat) : Int) == (x0 : Int) && ((keep (min 8 (n - 8)) x1 : Nat) : Int) == (x1 : Int) && ((keep (min 8 (n - 16)) x2 : Nat) : Int) == (x2 : Int) && ((keep (min 8 (n - 24)) x3 : Nat) : Int) == (x3 : Int)) = false := by
        rw [firstN_ne]; exact decide_eq_false hf
      generalize hk0 : keep (min 8 n) x0 = k0 at hne
      generalize hk1 : keep (min 8 (n - 8)) x1 = k1 at hne
      generalize hk2 : keep (min 8 (n - 16)) x2 = k2 at hne
      generalize hk3 : keep (min 8 (n - 24)) x3 = k3 at hne
      have HB : Hid (firstBits n x0 x1 x2 x3 = .agg #[u8 k0, u8 k1, u8 k2, u8 k3]) := by
        show _ = _
        unfold firstBits; rw [hk0, hk1, hk2, hk3]
      clear hn hf hk0 hk1 hk2 hk3
      go_enter Tryz.func149, Tryz.ntmps149
      go_wp2_with fail
      refine (readAddress_yes a _ hs x0 x1 x2 x3 HA.out).mono ?_
      rintro e w1 ⟨rfl, hq1⟩
      go_wp2_with (first | (go_at_call 194; refine (num32_yes r _ hs2 n HN.out).mono ?_; rintro e w' ⟨rfl, rfl⟩))
      refine wp_region_held_drew (S := fun w' => w'.cell? ⟨w1.heap.size, 0, none⟩ = some (.int .u8 x0) ∧ w'.cell? ⟨w1.heap.size, 1, none⟩ = some (.int .u8 x1) ∧ w'.cell? ⟨w1.heap.size, 2, none⟩ = some (.int .u8 x2) ∧ w'.cell? ⟨w1.heap.size, 3, none⟩ = some (.int .u8 x3) ∧ w'.cell? ⟨w1.heap.size + 1, 0, none⟩ = some (.int .i64 n) ∧ Q ((w1.alloc (.cells #[.int .u8 x0, .int .u8 x1, .int .u8 x2, .int .u8 x3] 209)).alloc (.cells #[.int .i64 n] 3)) w') (by kernel_rfl) ⟨by simp [go_sem], by simp [go_sem], by simp [go_sem], by simp [go_sem], by simp [go_sem], (Q.refl _).drew⟩ (fun hHeld => ?_)
      refine wpAnyH_take (i := 0) (v := ?_) rfl (by kernel_rfl) (by kernel_rfl) (by kernel_rfl) (fun _ _ _ h => h) (Or.inl ⟨by rfl, ?_⟩) (by assumption) ?_
      rotate_left
      · (intro w hSw; (try dsimp only at hSw); go_simp; try with_reducible rfl)
      simp only [Act.put, List.getElem_toArray, List.getElem_cons_zero, List.setIfInBounds_toArray, List.set_cons_zero, List.set_cons_succ]
      refine wpAnyH_take (i := 1) (v := ?_) rfl (by kernel_rfl) (by kernel_rfl) (by kernel_rfl) (fun _ _ _ h => h) (Or.inl ⟨by rfl, ?_⟩) (by assumption) ?_
      rotate_left
      · (intro w hSw; (try dsimp only at hSw); go_simp; try with_reducible rfl)
      simp only [Act.put, List.getElem_toArray, List.getElem_cons_zero, List.getElem_cons_succ, List.setIfInBounds_toArray, List.set_cons_zero, List.set_cons_succ]
      refine wpAnyH_take (i := 3) (v := ?_) rfl (by kernel_rfl) (by kernel_rfl) (by kernel_rfl) (fun _ _ _ h => h) (Or.inl ⟨by rfl, ?_⟩) (by assumption) ?_
      rotate_left
      · (intro w hSw; (try dsimp only at hSw); go_simp; try with_reducible rfl)
      simp only [Act.put, List.getElem_toArray, List.getElem_cons_zero, List.getElem_cons_succ, List.setIfInBounds_toArray, List.set_cons_zero, List.set_cons_succ]
      refine wpAnyH_ready (rs := [2]) (by kernel_rfl) (by simp) ?_
      refine AllReadyH.cons rfl (fun K hK => ?_) AllReadyH.nil
      go_simp
      refine (first_any x0 x1 x2 x3 n bn b0 b1 b2 b3 _).mono ?_
      rintro e w2 ⟨rfl, hq2⟩
      rw [HB.out]
      go_wp2_with fail
      refine hK.out _ _ (net_keep hHeld hq2) (fun hHeld2 => ?_)
      clear hK K hHeld
      refine wpAnyH_take (i := 4) (v := ?_) rfl (by kernel_rfl) (by kernel_rfl) (by kernel_rfl) (fun _ _ _ h => h) (Or.inl ⟨by rfl, ?_⟩) (by assumption) ?_
      rotate_left
      · (intro w hSw; (try dsimp only at hSw); go_simp; try with_reducible rfl)
      simp only [Act.put, List.getElem_toArray, List.getElem_cons_zero, List.getElem_cons_succ, List.setIfInBounds_toArray, List.set_cons_zero, List.set_cons_succ]
      refine wpAnyH_ready (rs := [5]) (by kernel_rfl) (by simp) ?_
      refine AllReadyH.cons rfl (fun K hK => ?_) AllReadyH.nil
      go_simp
      refine (must_no _ _).mono ?_
      rintro e w3 ⟨⟨t, v, rfl⟩, hw3⟩
      rw [hw3]
      exact ⟨rfl, ⟨_, _, rfl⟩, ((hq1.alloc _).alloc _).trans hHeld2.2.2.2.2.2⟩
end Go.Proofs.YtdmaffciijmdcaaGreatDoor
/-
  Package rules: readDomain, readHost, and what the functions on hosts answer.
-/
namespace Go.Proofs.YtdmaffciijmdcaaGreatDoor
open Go.RowKit Plain

set_option maxHeartbeats 400000 in
theorem readDomain_yes (s : ByteArray) (w : World) (hs : s.size < 4294967281) (h : nameOk s.data.toList = true) :
    Calls Tryz.prog 151 #[.string s] w fun e w' => ∃ v, e = .returned v ∧ Q w w' ∧ HostRep (New w w') w' v ⟨2, s.data.toList, [], 0⟩ := by
  have hmf : ∀ (fn : Fn) (first cap : Array Value) (w : World), (Instr.makeFunc fn first cap).run Tryz.prog w = .ok (.func fn first cap) w := fun _ _ _ _ => rfl
  have HO := show Hid _ from h
  clear h
  go_enter Tryz.func151, Tryz.ntmps151
  go_wp2_with fail
  refine (name_yes s _ hs HO.out).mono ?_
  rintro e w1 ⟨rfl, hq1⟩
  go_wp2_with fail
  refine (clone_any s _ (by omega)).mono ?_
  rintro e w2 ⟨rfl, hq2⟩
  have hq := hq1.trans hq2
  go_wp2_with fail
  go_ret
  refine ⟨_, rfl, hq.alloc _, .inr (.inr (.inl ⟨_, rfl, rfl, ?_, ?_, ?_⟩))⟩
  · simp [go_sem, str]
  · show s.data.toList.length ≤ _
    rw [size_len]; omega
  · exact ⟨hq.size, by simp⟩

set_option maxHeartbeats 400000 in
theorem readDomain_no (s : ByteArray) (w : World) (hs : s.size < 4294967281) (h : nameOk s.data.toList = false) :
    Calls Tryz.prog 151 #[.string s] w fun e w' => Dies e ∧ Q w w' := by
  have HO := show Hid _ from h
  clear h
  go_enter Tryz.func151, Tryz.ntmps151
  go_wp2_with fail
  refine (name_no s _ hs HO.out).mono ?_
  rintro e w1 ⟨⟨t, v, rfl⟩, hq1⟩
  exact ⟨rfl, ⟨_, _, rfl⟩, hq1⟩

theorem prefix_dot (l : List UInt8) : Lib.hasPrefix l [46] = decide (l.head? = some 46) := by
  unfold Lib.hasPrefix
  cases l with
  | nil => rfl
  | cons a l =>
    rw [Bool.eq_iff_iff]
    simp [List.isPrefixOf]
    constructor <;> exact fun h => h.symm
theorem trim_dot {l : List UInt8} (h : l.head? = some 46) : Lib.trimPrefix l [46] = l.tail := by
  unfold Lib.trimPrefix
  rw [prefix_dot, decide_eq_true h]
  cases l with
  | nil => rfl
  | cons a l => rfl

theorem cutPrefix_yes (s : ByteArray) (w : World) (h : s.data.toList.head? = some 46) :
    Calls Tryz.prog 150 #[.string s, .string ⟨#[46]⟩] w fun e w' => e = .returned (.tuple #[str s.data.toList.tail, .bool true]) ∧ w' = w := by
  refine (Tryz.strings_CutPrefix s ⟨#[46]⟩ w).mono fun e w' ⟨he, hw⟩ => ⟨?_, hw⟩
  rw [he]
  have e1 : (⟨#[46]⟩ : ByteArray).data.toList = [46] := rfl
  rw [e1, trim_dot h, prefix_dot, decide_eq_true h]
  rfl
theorem cutPrefix_no (s : ByteArray) (w : World) (h : ¬ s.data.toList.head? = some 46) :
    Calls Tryz.prog 150 #[.string s, .string ⟨#[46]⟩] w fun e w' => (∃ v, e = .returned (.tuple #[v, .bool false])) ∧ w' = w := by
  refine (Tryz.strings_CutPrefix s ⟨#[46]⟩ w).mono fun e w' ⟨he, hw⟩ => ⟨?_, hw⟩
  rw [he]
  have e1 : (⟨#[46]⟩ : ByteArray).data.toList = [46] := rfl
  rw [e1, prefix_dot, decide_eq_false h]
  exact ⟨_, rfl⟩

set_option maxHeartbeats 400000 in
theorem readHostF_yes (s : ByteArray) (w : World) (hs : s.size < 4294967281) (p : HostP) (h : readHostP s.data.toList = some p) :
    Calls Tryz.prog 119 #[.string s] w fun e w' => ∃ v, e = .returned v ∧ Q w w' ∧ HostRep (New w w') w' v p := by
  have hmf : ∀ (fn : Fn) (first cap : Array Value) (w : World), (Instr.makeFunc fn first cap).run Tryz.prog w = .ok (.func fn first cap) w := fun _ _ _ _ => rfl
  unfold readHostP at h
  split at h
  · rename_i hst
    cases h
    have h42 : (s.toList == [42]) = true := by rw [eq_star]; exact decide_eq_true hst
    clear hst
    go_enter Tryz.func119, Tryz.ntmps119
    go_wp2
    go_ret
    exact ⟨_, rfl, Q.refl _, .inl ⟨rfl, rfl⟩⟩
  · rename_i hst
    have h42 : (s.toList == [42]) = false := by rw [eq_star]; exact decide_eq_false hst
    clear hst
    cases hc : cutAt 47 s.data.toList with
    | some x =>
      obtain ⟨a, r⟩ := x
      rw [hc] at h
      simp only at h
      have hl := cut_le hc
      rw [size_len] at hl
      obtain ⟨hl1, hl2⟩ := hl
      have HC := show Hid _ from hc
      have HN := show Hid _ from h
      clear hc h
      go_enter Tryz.func119, Tryz.ntmps119
      go_wp2_with fail
      refine (cut_hit s 47 a r _ (by unfold maxLen; omega) HC.out).mono ?_
      rintro e w1 ⟨rfl, hw1⟩
      rw [hw1]
      go_wp2_with fail
      refine (readNet_yes ⟨a.toArray⟩ ⟨r.toArray⟩ _ (by rw [mk_size]; omega) (by rw [mk_size]; omega) p HN.out).mono ?_
      rintro e w2 ⟨v, rfl, hq, hr⟩
      go_wp2_with fail
      go_ret
      exact ⟨_, rfl, ((Q.refl _).drew).trans hq, hr⟩
    | none =>
      rw [hc] at h
      simp only at h
      have HC := show Hid _ from hc
      clear hc
      split at h
      · rename_i hd
        split at h
        case isFalse => cases h
        rename_i hn
        cases h
        have HD := show Hid _ from hd
        have HN := show Hid _ from hn
        have hlt : s.data.toList.tail.length ≤ s.size := by rw [← size_len s, List.length_tail]; omega
        clear hd hn
        go_enter Tryz.func119, Tryz.ntmps119
        go_wp2_with (first | (go_at_call 82; refine (cut_miss s 47 _ HC.out).mono ?_; rintro e w' ⟨rfl, rfl⟩) | (go_at_call 150; refine (cutPrefix_yes s _ HD.out).mono ?_; rintro e w' ⟨rfl, rfl⟩))
        refine (readDomain_yes ⟨s.data.toList.tail.toArray⟩ _ (by rw [mk_size]; omega) HN.out).mono ?_
        rintro e w2 ⟨v, rfl, hq, hr⟩
        go_wp2_with fail
        go_ret
        exact ⟨_, rfl, hq, hr⟩
      · rename_i hd
        split at h
        case isFalse => cases h
        rename_i hn
        cases h
        have HD := show Hid _ from hd
        have HN := show Hid _ from hn
        clear hd hn
        go_enter Tryz.func119, Tryz.ntmps119
        go_wp2_with (first | (go_at_call 82; refine (cut_miss s 47 _ HC.out).mono ?_; rintro e w' ⟨rfl, rfl⟩) | (go_at_call 150; refine (cutPrefix_no s _ HD.out).mono ?_; rintro e w' ⟨⟨v, rfl⟩, rfl⟩))
        refine (name_yes s _ hs HN.out).mono ?_
        rintro e w1 ⟨rfl, hq1⟩
        go_wp2_with fail
        refine (clone_any s _ (by omega)).mono ?_
        rintro e w2 ⟨rfl, hq2⟩
        have hq := hq1.trans hq2
        go_wp2_with fail
        go_ret
        refine ⟨_, rfl, hq.alloc _, .inr (.inl ⟨_, rfl, rfl, ?_, ?_⟩)⟩
        · simp [go_sem, str]
        · exact ⟨hq.size, by simp⟩

set_option maxHeartbeats 400000 in
theorem readHostF_no (s : ByteArray) (w : World) (hs : s.size < 4294967281) (h : readHostP s.data.toList = none) :
    Calls Tryz.prog 119 #[.string s] w fun e w' => Dies e ∧ Q w w' := by
  unfold readHostP at h
  split at h
  · cases h
  · rename_i hst
    have h42 : (s.toList == [42]) = false := by rw [eq_star]; exact decide_eq_false hst
    clear hst
    cases hc : cutAt 47 s.data.toList with
    | some x =>
      obtain ⟨a, r⟩ := x
      rw [hc] at h
      simp only at h
      have hl := cut_le hc
      rw [size_len] at hl
      obtain ⟨hl1, hl2⟩ := hl
      have HC := show Hid _ from hc
      have HN := show Hid _ from h
      clear hc h
      go_enter Tryz.func119, Tryz.ntmps119
      go_wp2_with fail
      refine (cut_hit s 47 a r _ (by unfold maxLen; omega) HC.out).mono ?_
      rintro e w1 ⟨rfl, hw1⟩
      rw [hw1]
      go_wp2_with fail
      refine (readNet_no ⟨a.toArray⟩ ⟨r.toArray⟩ _ (by rw [mk_size]; omega) (by rw [mk_size]; omega) HN.out).mono ?_
      rintro e w2 ⟨⟨t, v, rfl⟩, hq⟩
      exact ⟨rfl, ⟨_, _, rfl⟩, ((Q.refl _).drew).trans hq⟩
    | none =>
      rw [hc] at h
      simp only at h
      have HC := show Hid _ from hc
      clear hc
      split at h
      · rename_i hd
        split at h
        case isTrue => cases h
        rename_i hn
        have HD := show Hid _ from hd
        have HN : Hid (nameOk s.data.toList.tail = false) := by show _ = false; simpa using hn
        have hlt : s.data.toList.tail.length ≤ s.size := by rw [← size_len s, List.length_tail]; omega
        clear hd hn h
        go_enter Tryz.func119, Tryz.ntmps119
        go_wp2_with (first | (go_at_call 82; refine (cut_miss s 47 _ HC.out).mono ?_; rintro e w' ⟨rfl, rfl⟩) | (go_at_call 150; refine (cutPrefix_yes s _ HD.out).mono ?_; rintro e w' ⟨rfl, rfl⟩))
        refine (readDomain_no ⟨s.data.toList.tail.toArray⟩ _ (by rw [mk_size]; omega) HN.out).mono ?_
        rintro e w2 ⟨⟨t, v, rfl⟩, hq⟩
        exact ⟨rfl, ⟨_, _, rfl⟩, hq⟩
      · rename_i hd
        split at h
        case isTrue => cases h
        rename_i hn
        have HD := show Hid _ from hd
        have HN : Hid (nameOk s.data.toList = false) := by show _ = false; simpa using hn
        clear hd hn h
        go_enter Tryz.func119, Tryz.ntmps119
        go_wp2_with (first | (go_at_call 82; refine (cut_miss s 47 _ HC.out).mono ?_; rintro e w' ⟨rfl, rfl⟩) | (go_at_call 150; refine (cutPrefix_no s _ HD.out).mono ?_; rintro e w' ⟨⟨v, rfl⟩, rfl⟩))
        refine (name_no s _ hs HN.out).mono ?_
        rintro e w2 ⟨⟨t, v, rfl⟩, hq⟩
        exact ⟨rfl, ⟨_, _, rfl⟩, hq⟩

set_option maxHeartbeats 400000 in
theorem fitsAllH (nm : List UInt8) (a b c d : Nat) (w : World) : Calls Tryz.prog 148 #[hostV nm a b c d] w fun e w' => e = .returned (.bool true) ∧ Q w w' := by
  unfold hostV str
  go_enter Tryz.func148, Tryz.ntmps148
  go_wp2
  go_ret
  exact ⟨rfl, by unfold Q; go_grown⟩

theorem str_eq (a b : List UInt8) : ((⟨a.toArray⟩ : ByteArray).toList == (⟨b.toArray⟩ : ByteArray).toList) = (a == b) := by
  rw [Lib.toList_data, Lib.toList_data]

set_option maxHeartbeats 400000 in
theorem host1 (nm o : List UInt8) (a b c d g : Nat) (w : World) (h : w.cell? ⟨g, 0, none⟩ = some (str o)) :
    Calls Tryz.prog 153 #[hostV nm a b c d, .pointer (some ⟨g, 0, none⟩)] w fun e w' => e = .returned (.bool (nm == o)) ∧ Q w w' := by
  have hg := Q.lt h
  unfold hostV
  unfold str at *
  go_enter Tryz.func153, Tryz.ntmps153
  go_wp2
  go_ret
  exact ⟨rfl, by unfold Q; go_grown⟩

theorem dot_str (o : List UInt8) : ((⟨#[46]⟩ : ByteArray) ++ (⟨o.toArray⟩ : ByteArray)).data.toList = 46 :: o := by
  rw [ByteArray.data_append, Array.toList_append]; rfl

set_option maxHeartbeats 400000 in
theorem domain1 (nm o : List UInt8) (a b c d g : Nat) (w : World) (hn : nm.length ≤ 4294967281) (ho : o.length ≤ 4294967281) (h : w.cell? ⟨g, 0, none⟩ = some (str o)) :
    Calls Tryz.prog 199 #[hostV nm a b c d, .pointer (some ⟨g, 0, none⟩)] w fun e w' => e = .returned (.bool (nm == o || Lib.hasSuffix nm (46 :: o))) ∧ Q w w' := by
  have hg := Q.lt h
  unfold hostV
  unfold str at *
  have hsz : (⟨nm.toArray⟩ : ByteArray).size ≤ 9223372036854775807 := by rw [mk_size]; omega
  cases he : (nm == o)
  · have he' : ((⟨nm.toArray⟩ : ByteArray).toList == (⟨o.toArray⟩ : ByteArray).toList) = false := by rw [str_eq]; exact he
    go_enter Tryz.func199, Tryz.ntmps199
    go_wp2_with fail
    refine (Tryz.strings_HasSuffix _ _ _ hsz).mono ?_
    rintro e w1 ⟨rfl, hw1⟩
    rw [hw1, dot_str]
    go_wp2_with fail
    go_ret
    exact ⟨by rw [Bool.false_or]; rfl, by unfold Q; go_grown⟩
  · have he' : ((⟨nm.toArray⟩ : ByteArray).toList == (⟨o.toArray⟩ : ByteArray).toList) = true := by rw [str_eq]; exact he
    go_enter Tryz.func199, Tryz.ntmps199
    go_wp2_with fail
    go_ret
    exact ⟨rfl, by unfold Q; go_grown⟩

set_option maxHeartbeats 400000 in
theorem isAddress_any (nm : List UInt8) (a b c d : Nat) (w : World) : Calls Tryz.prog 197 #[hostV nm a b c d] w fun e w' => e = .returned (.bool nm.isEmpty) ∧ Q w w' := by
  unfold hostV str
  go_enter Tryz.func197, Tryz.ntmps197
  go_wp2
  go_ret
  exact ⟨rfl, by unfold Q; go_grown⟩
end Go.Proofs.YtdmaffciijmdcaaGreatDoor

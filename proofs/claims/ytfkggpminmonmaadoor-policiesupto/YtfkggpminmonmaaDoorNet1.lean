/-
  Package rules: what the function on addresses answers.
-/
import Derived.Test.YtfkggpminmonmaaDoorHosts
namespace Go.Proofs.YtfkggpminmonmaaDoor
open Go.RowKit Plain

attribute [local go_sem] eq4

/-- The cells that the test reads: the host's, the rule's. -/
theorem net1_keep {W w w' : World} {h n b : Nat} {v0 v1 v2 v3 v4 u0 u1 u2 u3 k : Value}
    (hh : w.cell? ⟨h, 0, none⟩ = some v0 ∧ w.cell? ⟨h, 1, none⟩ = some v1 ∧ w.cell? ⟨h, 2, none⟩ = some v2 ∧ w.cell? ⟨h, 3, none⟩ = some v3 ∧ w.cell? ⟨h, 4, none⟩ = some v4 ∧
      w.cell? ⟨b, 0, none⟩ = some u0 ∧ w.cell? ⟨b, 1, none⟩ = some u1 ∧ w.cell? ⟨b, 2, none⟩ = some u2 ∧ w.cell? ⟨b, 3, none⟩ = some u3 ∧ w.cell? ⟨n, 0, none⟩ = some k ∧ Q W w) (q : Q w w') :
    w'.cell? ⟨h, 0, none⟩ = some v0 ∧ w'.cell? ⟨h, 1, none⟩ = some v1 ∧ w'.cell? ⟨h, 2, none⟩ = some v2 ∧ w'.cell? ⟨h, 3, none⟩ = some v3 ∧ w'.cell? ⟨h, 4, none⟩ = some v4 ∧
      w'.cell? ⟨b, 0, none⟩ = some u0 ∧ w'.cell? ⟨b, 1, none⟩ = some u1 ∧ w'.cell? ⟨b, 2, none⟩ = some u2 ∧ w'.cell? ⟨b, 3, none⟩ = some u3 ∧ w'.cell? ⟨n, 0, none⟩ = some k ∧ Q W w' := by
  obtain ⟨h0, h1, h2, h3, h4, h5, h6, h7, h8, h9, h10⟩ := hh
  exact ⟨q.cell h0, q.cell h1, q.cell h2, q.cell h3, q.cell h4, q.cell h5, q.cell h6, q.cell h7, q.cell h8, q.cell h9, h10.trans q⟩

theorem firstBits_eqb {n a b c d x0 x1 x2 x3 : Nat} : (((keep (min 8 n) a : Nat) : Int) == (x0 : Int) && ((keep (min 8 (n - 8)) b : Nat) : Int) == (x1 : Int) && ((keep (min 8 (n - 16)) c : Nat) : Int) == (x2 : Int) && ((keep (min 8 (n - 24)) d : Nat) : Int) == (x3 : Int)) = (firstN n [a, b, c, d] == [x0, x1, x2, x3]) := by
  rw [Bool.eq_iff_iff]
  unfold firstN
  simp
  omega

theorem isAddress_none (a b c d : Nat) (w : World) : Calls Tryd.prog 96 #[.agg #[.string ⟨#[]⟩, .int .u8 a, .int .u8 b, .int .u8 c, .int .u8 d]] w fun e w' => e = .returned (.bool true) ∧ Q w w' := isAddress_any [] a b c d w

set_option maxRecDepth 100000 in
set_option maxHeartbeats 800000 in
theorem net1_yes (a b c d n g x0 x1 x2 x3 m : Nat) (w : World) (ha : a ≤ 255) (hb : b ≤ 255) (hc : c ≤ 255) (hd : d ≤ 255) (hm : m ≤ 32)
    (cn : w.cell? ⟨n, 0, none⟩ = some (i64 m)) (c0 : w.cell? ⟨g, 0, none⟩ = some (u8 x0)) (c1 : w.cell? ⟨g, 1, none⟩ = some (u8 x1)) (c2 : w.cell? ⟨g, 2, none⟩ = some (u8 x2)) (c3 : w.cell? ⟨g, 3, none⟩ = some (u8 x3)) :
    Calls Tryd.prog 95 #[hostV [] a b c d, .pointer (some ⟨n, 0, none⟩), .pointer (some ⟨g, 0, none⟩)] w fun e w' => e = .returned (.bool (firstN m [a, b, c, d] == [x0, x1, x2, x3])) ∧ Q w w' := by
  have hn := Q.lt cn
  have hg := Q.lt c0
  have HE := show Hid _ from @firstBits_eqb m a b c d x0 x1 x2 x3
  generalize hk0 : keep (min 8 m) a = k0 at HE
  generalize hk1 : keep (min 8 (m - 8)) b = k1 at HE
  generalize hk2 : keep (min 8 (m - 16)) c = k2 at HE
  generalize hk3 : keep (min 8 (m - 24)) d = k3 at HE
  have HB : Hid (firstBits m a b c d = .agg #[u8 k0, u8 k1, u8 k2, u8 k3]) := by
    show _ = _
    unfold firstBits; rw [hk0, hk1, hk2, hk3]
  clear hk0 hk1 hk2 hk3
  unfold hostV str at *
  have hq0 : Q w (w.alloc (.cells #[.string ⟨#[]⟩, u8 a, u8 b, u8 c, u8 d] 79)) := (Q.refl w).alloc _
  go_enter Tryd.func95, Tryd.ntmps95
  go_wp2_with fail
  go_region_held3 (fun w' => w'.cell? ⟨w.heap.size, 0, none⟩ = some (.string ⟨#[]⟩) ∧ w'.cell? ⟨w.heap.size, 1, none⟩ = some (.int .u8 a) ∧ w'.cell? ⟨w.heap.size, 2, none⟩ = some (.int .u8 b) ∧ w'.cell? ⟨w.heap.size, 3, none⟩ = some (.int .u8 c) ∧ w'.cell? ⟨w.heap.size, 4, none⟩ = some (.int .u8 d) ∧
      w'.cell? ⟨g, 0, none⟩ = some (.int .u8 x0) ∧ w'.cell? ⟨g, 1, none⟩ = some (.int .u8 x1) ∧ w'.cell? ⟨g, 2, none⟩ = some (.int .u8 x2) ∧ w'.cell? ⟨g, 3, none⟩ = some (.int .u8 x3) ∧ w'.cell? ⟨n, 0, none⟩ = some (.int .i64 m) ∧ Q w w')
    (first | exact ⟨by simp [go_sem], by simp [go_sem], by simp [go_sem], by simp [go_sem], by simp [go_sem], hq0.cell c0, hq0.cell c1, hq0.cell c2, hq0.cell c3, hq0.cell cn, hq0.drew⟩ | exact net1_keep (by assumption) (by assumption) | assumption)
    (first | (go_at_call 96; refine (isAddress_none a b c d _).mono ?_; rintro e w' ⟨rfl, hq2⟩) | (go_at_call 94; refine (first_any a b c d m hm ha hb hc hd _).mono ?_; rintro e w' ⟨rfl, hq2⟩; rw [HB.out]))
  obtain ⟨_, _, _, _, _, _, _, _, _, _, hq⟩ := by assumption
  go_wp2_with fail
  go_ret
  exact ⟨ret_bool HE.out, hq⟩

theorem isAddress_some (nm : List UInt8) (a b c d : Nat) (w : World) (h : nm.isEmpty = false) : Calls Tryd.prog 96 #[.agg #[.string ⟨nm.toArray⟩, .int .u8 a, .int .u8 b, .int .u8 c, .int .u8 d]] w fun e w' => e = .returned (.bool false) ∧ Q w w' :=
  (isAddress_any nm a b c d w).mono fun _ _ ⟨he, hw⟩ => ⟨by rw [he, h], hw⟩

set_option maxRecDepth 100000 in
set_option maxHeartbeats 800000 in
theorem net1_no (nm : List UInt8) (a b c d n g : Nat) (w : World) (hnm : nm.isEmpty = false) :
    Calls Tryd.prog 95 #[hostV nm a b c d, .pointer (some ⟨n, 0, none⟩), .pointer (some ⟨g, 0, none⟩)] w fun e w' => e = .returned (.bool false) ∧ Q w w' := by
  have HN := show Hid _ from hnm
  clear hnm
  unfold hostV str at *
  go_enter Tryd.func95, Tryd.ntmps95
  go_wp2_with fail
  refine wp_region_held_drew (S := fun w' => w'.cell? ⟨w.heap.size, 0, none⟩ = some (.string ⟨nm.toArray⟩) ∧ w'.cell? ⟨w.heap.size, 1, none⟩ = some (.int .u8 a) ∧ w'.cell? ⟨w.heap.size, 2, none⟩ = some (.int .u8 b) ∧ w'.cell? ⟨w.heap.size, 3, none⟩ = some (.int .u8 c) ∧ w'.cell? ⟨w.heap.size, 4, none⟩ = some (.int .u8 d) ∧ Q w w') (by kernel_rfl)
    ⟨by simp [go_sem], by simp [go_sem], by simp [go_sem], by simp [go_sem], by simp [go_sem], ((Q.refl w).alloc _).drew⟩ (fun hHeld => ?_)
  refine wpAnyH_take (i := 0) (v := ?_) rfl (by kernel_rfl) (by kernel_rfl) (by kernel_rfl) (fun _ _ _ h => h) (Or.inl ⟨by rfl, ?_⟩) (by assumption) ?_
  rotate_left
  · (intro w hSw; (try dsimp only at hSw); go_simp; try with_reducible rfl)
  simp only [Act.put, List.getElem_toArray, List.getElem_cons_zero, List.setIfInBounds_toArray, List.set_cons_zero, List.set_cons_succ]
  refine wpAnyH_ready (rs := [1]) (by kernel_rfl) (by simp) ?_
  refine AllReadyH.cons rfl (fun K hK => ?_) AllReadyH.nil
  go_simp
  refine (isAddress_some nm a b c d _ HN.out).mono ?_
  rintro e w1 ⟨rfl, hq1⟩
  go_wp2_with fail
  refine hK.out _ _ (by obtain ⟨c0, c1, c2, c3, c4, q⟩ := hHeld; exact ⟨hq1.cell c0, hq1.cell c1, hq1.cell c2, hq1.cell c3, hq1.cell c4, q.trans hq1⟩) (fun hHeld2 => ?_)
  clear hK K hHeld
  refine wpAnyH_take (i := 2) (v := ?_) rfl (by kernel_rfl) (by kernel_rfl) (by kernel_rfl) (fun _ _ _ h => h) (Or.inl ⟨by rfl, ?_⟩) (by assumption) ?_
  rotate_left
  · (intro w hSw; (try dsimp only at hSw); go_simp; try with_reducible rfl)
  simp only [Act.put, List.getElem_toArray, List.getElem_cons_zero, List.getElem_cons_succ, List.setIfInBounds_toArray, List.set_cons_zero, List.set_cons_succ]
  refine wpAnyH_take (i := 3) (v := undef) rfl (by kernel_rfl) (by kernel_rfl) (by kernel_rfl) (fun _ _ _ h => h) (Or.inr ⟨by rfl, rfl⟩) (by assumption) ?_
  simp only [Act.put, List.getElem_toArray, List.getElem_cons_zero, List.getElem_cons_succ, List.setIfInBounds_toArray, List.set_cons_zero, List.set_cons_succ]
  refine wpAnyH_take (i := 4) (v := undef) rfl (by kernel_rfl) (by kernel_rfl) (by kernel_rfl) (fun _ _ _ h => h) (Or.inr ⟨by rfl, rfl⟩) (by assumption) ?_
  simp only [Act.put, List.getElem_toArray, List.getElem_cons_zero, List.getElem_cons_succ, List.setIfInBounds_toArray, List.set_cons_zero, List.set_cons_succ]
  refine wpAnyH_take (i := 5) (v := undef) rfl (by kernel_rfl) (by kernel_rfl) (by kernel_rfl) (fun _ _ _ h => h) (Or.inr ⟨by rfl, rfl⟩) (by assumption) ?_
  simp only [Act.put, List.getElem_toArray, List.getElem_cons_zero, List.getElem_cons_succ, List.setIfInBounds_toArray, List.set_cons_zero, List.set_cons_succ]
  refine wpAnyH_take (i := 6) (v := undef) rfl (by kernel_rfl) (by kernel_rfl) (by kernel_rfl) (fun _ _ _ h => h) (Or.inr ⟨by rfl, rfl⟩) (by assumption) ?_
  simp only [Act.put, List.getElem_toArray, List.getElem_cons_zero, List.getElem_cons_succ, List.setIfInBounds_toArray, List.set_cons_zero, List.set_cons_succ]
  refine wpAnyH_take (i := 7) (v := undef) rfl (by kernel_rfl) (by kernel_rfl) (by kernel_rfl) (fun _ _ _ h => h) (Or.inr ⟨by rfl, rfl⟩) (by assumption) ?_
  simp only [Act.put, List.getElem_toArray, List.getElem_cons_zero, List.getElem_cons_succ, List.setIfInBounds_toArray, List.set_cons_zero, List.set_cons_succ]
  refine wpAnyH_take (i := 8) (v := undef) rfl (by kernel_rfl) (by kernel_rfl) (by kernel_rfl) (fun _ _ _ h => h) (Or.inr ⟨by rfl, rfl⟩) (by assumption) ?_
  simp only [Act.put, List.getElem_toArray, List.getElem_cons_zero, List.getElem_cons_succ, List.setIfInBounds_toArray, List.set_cons_zero, List.set_cons_succ]
  refine wpAnyH_take (i := 9) (v := ?_) rfl (by kernel_rfl) (by kernel_rfl) (by kernel_rfl) (fun _ _ _ h => h) (Or.inl ⟨by rfl, ?_⟩) (by assumption) ?_
  rotate_left
  · (intro w hSw; (try dsimp only at hSw); go_simp; try with_reducible rfl)
  simp only [Act.put, List.getElem_toArray, List.getElem_cons_zero, List.getElem_cons_succ, List.setIfInBounds_toArray, List.set_cons_zero, List.set_cons_succ]
  refine wpAnyH_take (i := 10) (v := ?_) rfl (by kernel_rfl) (by kernel_rfl) (by kernel_rfl) (fun _ _ _ h => h) (Or.inl ⟨by rfl, ?_⟩) (by assumption) ?_
  rotate_left
  · (intro w hSw; (try dsimp only at hSw); go_simp; try with_reducible rfl)
  simp only [Act.put, List.getElem_toArray, List.getElem_cons_zero, List.getElem_cons_succ, List.setIfInBounds_toArray, List.set_cons_zero, List.set_cons_succ]
  refine wpAnyH_done (by kernel_rfl) ?_ _
  go_wp2_with fail
  go_ret
  exact ⟨rfl, hHeld2.2.2.2.2.2⟩
end Go.Proofs.YtfkggpminmonmaaDoor

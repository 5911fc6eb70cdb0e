/-
  Package tenants: read, With, By.
-/
import Derived.Test.YtdmaffciijmdcaaGreatDoorB64C
namespace Go.Proofs.YtdmaffciijmdcaaGreatDoor
open Go.RowKit Plain

def UserPost (n s : List UInt8) (w : World) (e : Ending) (w' : World) : Prop :=
  Q w w' ∧ ((∃ u, userS n s = some u ∧ e = .returned (.agg #[str u.1, str u.2])) ∨ (userS n s = none ∧ Dies e))

theorem cat3 (n s : ByteArray) : (n ++ (⟨#[58]⟩ : ByteArray) ++ s).data.toList = n.data.toList ++ [58] ++ s.data.toList := by
  simp

theorem b64_len : ∀ l : List UInt8, (b64 l).length ≤ 4 * l.length
  | [] => by simp [b64]
  | [a] => by simp [b64]
  | [a, b] => by simp [b64]
  | a :: b :: c :: l => by
    have := b64_len l
    simp [b64]
    omega

set_option maxRecDepth 100000 in
set_option maxHeartbeats 1600000 in
theorem user_any (n s : ByteArray) (w : World) :
    Calls Tryz.prog 87 #[.agg #[.string n, .string s]] w fun e w' => UserPost n.data.toList s.data.toList w e w' := by
  go_enter Tryz.func87, Tryz.ntmps87
  go_wp2_with fail
  refine wp_region_held_drew (S := fun w' => w'.cell? ⟨w.heap.size, 0, none⟩ = some (.string n) ∧ w'.cell? ⟨w.heap.size, 1, none⟩ = some (.string s)) (by kernel_rfl) ⟨by simp [go_sem], by simp [go_sem]⟩ (fun hHeld0 => ?_)
  refine wpAnyH_take (i := 0) (v := ?_) rfl (by kernel_rfl) (by kernel_rfl) (by kernel_rfl) (fun _ _ _ h => h) (Or.inl ⟨by rfl, ?_⟩) (by assumption) ?_
  rotate_left
  · (intro w hSw; (try dsimp only at hSw); go_simp; try with_reducible rfl)
  simp only [Act.put, List.getElem_toArray, List.getElem_cons_zero, List.setIfInBounds_toArray, List.set_cons_zero, List.set_cons_succ]
  refine wpAnyH_take (i := 1) (v := ?_) rfl (by kernel_rfl) (by kernel_rfl) (by kernel_rfl) (fun _ _ _ h => h) (Or.inl ⟨by rfl, ?_⟩) (by assumption) ?_
  rotate_left
  · (intro w hSw; (try dsimp only at hSw); go_simp; try with_reducible rfl)
  simp only [Act.put, List.getElem_toArray, List.getElem_cons_zero, List.getElem_cons_succ, List.setIfInBounds_toArray, List.set_cons_zero, List.set_cons_succ]
  refine wpAnyH_take (i := 3) (v := ?_) rfl (by kernel_rfl) (by kernel_rfl) (by kernel_rfl) (fun _ _ _ h => h) (Or.inl ⟨by rfl, ?_⟩) (by assumption) ?_
  rotate_left
  · (intro w hSw; (try dsimp only at hSw); go_simp; try with_reducible rfl)
  simp only [Act.put, List.getElem_toArray, List.getElem_cons_zero, List.getElem_cons_succ, List.setIfInBounds_toArray, List.set_cons_zero, List.set_cons_succ]
  refine wpAnyH_take (i := 4) (v := ?_) rfl (by kernel_rfl) (by kernel_rfl) (by kernel_rfl) (fun _ _ _ h => h) (Or.inl ⟨by rfl, ?_⟩) (by assumption) ?_
  rotate_left
  · (intro w hSw; (try dsimp only at hSw); go_simp; try with_reducible rfl)
  simp only [Act.put, List.getElem_toArray, List.getElem_cons_zero, List.getElem_cons_succ, List.setIfInBounds_toArray, List.set_cons_zero, List.set_cons_succ]
  refine wpAnyH_ready (rs := [2]) (by kernel_rfl) (by simp) ?_
  refine AllReadyH.cons rfl (fun K hK => ?_) AllReadyH.nil
  go_simp
  cases hn : tenantOk n.data.toList with
  | false =>
    refine (tenant_no n _ hn).mono ?_
    rintro e w1 ⟨⟨u, x, rfl⟩, rfl⟩
    exact ⟨rfl, (((Q.refl _).alloc _).alloc _).drew, .inr ⟨by unfold userS; rw [if_neg (by rw [hn]; simp)], ⟨_, _, rfl⟩⟩⟩
  | true =>
  refine (tenant_yes n _ hn).mono ?_
  rintro e w1 ⟨rfl, hw1⟩
  rw [hw1]
  go_wp2_with fail
  refine hK.out _ _ hHeld0 (fun hHeld1 => ?_)
  clear hK K hHeld0 hw1 w1
  refine wpAnyH_take (i := 5) (v := ?_) rfl (by kernel_rfl) (by kernel_rfl) (by kernel_rfl) (fun _ _ _ h => h) (Or.inl ⟨by rfl, ?_⟩) (by assumption) ?_
  rotate_left
  · (intro w hSw; (try dsimp only at hSw); go_simp; try with_reducible rfl)
  simp only [Act.put, List.getElem_toArray, List.getElem_cons_zero, List.getElem_cons_succ, List.setIfInBounds_toArray, List.set_cons_zero, List.set_cons_succ]
  refine wpAnyH_take (i := 6) (v := ?_) rfl (by kernel_rfl) (by kernel_rfl) (by kernel_rfl) (fun _ _ _ h => h) (Or.inl ⟨by rfl, ?_⟩) (by assumption) ?_
  rotate_left
  · (intro w hSw; (try dsimp only at hSw); go_simp; try with_reducible rfl)
  simp only [Act.put, List.getElem_toArray, List.getElem_cons_zero, List.getElem_cons_succ, List.setIfInBounds_toArray, List.set_cons_zero, List.set_cons_succ]
  refine wpAnyH_done (by kernel_rfl) ?_ _
  clear hHeld1
  have hnl : n.size ≤ 8 := by
    unfold tenantOk at hn
    rw [Bool.and_eq_true, decide_eq_true_eq, size_len] at hn
    exact hn.1.2
  have HN := show Hid _ from hn
  clear hn
  by_cases h1 : 1 ≤ s.size
  case neg =>
    have d1 : decide ((1 : Int) ≤ (s.size : Int)) = false := decide_eq_false (by omega)
    have HU : Hid (userS n.data.toList s.data.toList = none) := by
      show _ = _
      unfold userS secretOk
      rw [if_neg]
      rintro ⟨_, h⟩
      rw [Bool.and_eq_true, decide_eq_true_eq, size_len] at h
      omega
    go_wp2_with (first | (go_at_call_of 88 (Value.bool false); refine (must_no _ _).mono ?_; rintro e w' ⟨⟨u, x, rfl⟩, rfl⟩))
    exact ⟨rfl, (((Q.refl _).alloc _).alloc _).drew, .inr ⟨HU.out, ⟨_, _, rfl⟩⟩⟩
  have d1 : decide ((1 : Int) ≤ (s.size : Int)) = true := decide_eq_true (by omega)
  by_cases h2 : s.size ≤ 12
  case neg =>
    have d2 : decide ((s.size : Int) ≤ 12) = false := decide_eq_false (by omega)
    have HU : Hid (userS n.data.toList s.data.toList = none) := by
      show _ = _
      unfold userS secretOk
      rw [if_neg]
      rintro ⟨_, h⟩
      rw [Bool.and_eq_true, decide_eq_true_eq, size_len] at h
      omega
    go_wp2_with (first | (go_at_call_of 88 (Value.bool false); refine (must_no _ _).mono ?_; rintro e w' ⟨⟨u, x, rfl⟩, rfl⟩))
    exact ⟨rfl, (((Q.refl _).alloc _).alloc _).drew, .inr ⟨HU.out, ⟨_, _, rfl⟩⟩⟩
  have d2 : decide ((s.size : Int) ≤ 12) = true := decide_eq_true (by omega)
  cases hb : allB seenB s.data.toList with
  | false =>
    have HU : Hid (userS n.data.toList s.data.toList = none) := by
      show _ = _
      unfold userS secretOk
      rw [if_neg (by rw [hb]; simp)]
    have HB := show Hid _ from hb
    clear hb
    go_wp2_with (first | (go_at_call_of 88 (Value.bool true); refine (must_yes _ _).mono ?_; rintro e w' ⟨rfl, rfl⟩) | (go_at_call_of 88 (Value.bool false); refine (must_no _ _).mono ?_; rintro e w' ⟨⟨u, x, rfl⟩, rfl⟩) | (go_at_call 123; refine (all_seen s _ (by unfold maxLen; omega)).mono ?_; rintro e w' ⟨rfl, rfl⟩; rw [HB.out]))
    exact ⟨rfl, (((Q.refl _).alloc _).alloc _).drew, .inr ⟨HU.out, ⟨_, _, rfl⟩⟩⟩
  | true =>
    have HU : Hid (userS n.data.toList s.data.toList = some (n.data.toList, credS n.data.toList s.data.toList)) := by
      show _ = _
      unfold userS secretOk
      rw [if_pos]
      refine ⟨HN.out, ?_⟩
      rw [Bool.and_eq_true, decide_eq_true_eq, size_len]
      exact ⟨⟨h1, h2⟩, hb⟩
    have HB := show Hid _ from hb
    have HCl := fun x => show Hid _ from clone_any n x (by omega)
    have HB6 := fun (t : ByteArray) (ht : t.size ≤ 1000) x => show Hid _ from base64_any t x ht
    clear hb
    go_wp2_with (first | (go_at_call_of 88 (Value.bool true); refine (must_yes _ _).mono ?_; rintro e w' ⟨rfl, rfl⟩) | (go_at_call 123; refine (all_seen s _ (by unfold maxLen; omega)).mono ?_; rintro e w' ⟨rfl, rfl⟩; rw [HB.out]))
    refine Calls.mono (Hid.out (HCl _)) ?_
    rintro e w2 ⟨rfl, hq2⟩
    have hsz3 : (n ++ (⟨#[58]⟩ : ByteArray) ++ s).size ≤ 1000 := by
      rw [ByteArray.size_append, ByteArray.size_append]
      have : (⟨#[58]⟩ : ByteArray).size = 1 := rfl
      omega
    obtain ⟨E, hE⟩ : ∃ E : ByteArray, E.data.toList = b64 (n.data.toList ++ [58] ++ s.data.toList) := ⟨⟨(b64 (n.data.toList ++ [58] ++ s.data.toList)).toArray⟩, rfl⟩
    have hEs : E.size ≤ 200 := by
      rw [← size_len, hE]
      have := b64_len (n.data.toList ++ [58] ++ s.data.toList)
      simp at this ⊢
      omega
    have HE : Hid (str (b64 (n.data.toList ++ [58] ++ s.data.toList)) = .string E) := by
      show _ = _
      rw [← hE, str_data]
    have HCr : Hid ((⟨#[66, 97, 115, 105, 99, 32]⟩ : ByteArray) ++ E = ⟨(credS n.data.toList s.data.toList).toArray⟩) := by
      show _ = _
      unfold credS basic
      rw [← Lib.mk_data ((⟨#[66, 97, 115, 105, 99, 32]⟩ : ByteArray) ++ E), ← hE]
      simp
    clear hE
    go_wp2_with fail
    refine Calls.mono (Hid.out (HB6 _ hsz3 _)) ?_
    rintro e w3 ⟨rfl, hq3⟩
    rw [cat3, HE.out]
    have hq : Q ((w.alloc (.cells #[.string n, .string s] 71)).alloc (.cells #[.string ⟨#[]⟩, .string ⟨#[]⟩] 154)) w3 := ((Q.refl _).drew.trans hq2).trans hq3
    have hQ : Q w w3 := (((Q.refl _).alloc _).alloc _).trans hq
    have hcl : ∀ i, w3.cell? ⟨w.heap.size + 1, i, none⟩ = (#[.string ⟨#[]⟩, .string ⟨#[]⟩] : Array Value)[i]? := hq.made2n.2.1
    have hfr : ∀ i, w3.frozen? ⟨w.heap.size + 1, i, none⟩ = false := fun i => by
      rw [hq.cells.2 _ _ (by simp)]; simp [go_sem]
    clear hq2 hq3 hq HB6 HCl
    go_wp2_with fail
    rw [HCr.out]
    refine bodyPost_ret (v := .agg #[str n.data.toList, str (credS n.data.toList s.data.toList)]) (by simp [results, Tryz.results87, go_sem, hcl, str]) rfl ⟨?_, .inl ⟨_, HU.out, rfl⟩⟩
    iterate 2 refine Q.setCell ?_ (Nat.le_succ _) _
    exact hQ
end Go.Proofs.YtdmaffciijmdcaaGreatDoor
/-
  Package tenants: With, By.
-/
namespace Go.Proofs.YtdmaffciijmdcaaGreatDoor
namespace Plain
theorem with_none {l : List (List UInt8 × List UInt8)} {n s : List UInt8} (h : userS n s = none) : withS l n s = none := by unfold withS; rw [h]
theorem with_some {l : List (List UInt8 × List UInt8)} {n s : List UInt8} {t : List UInt8 × List UInt8} (h : userS n s = some t) : withS l n s = if l.all (fun o => o.1 != t.1) = true then some (l ++ [t]) else none := by unfold withS; rw [h]
theorem all_take {l : List (List UInt8 × List UInt8)} {p : List UInt8 × List UInt8 → Bool} {k : Nat} {x : List UInt8 × List UInt8} (h : l[k]? = some x) (ha : (l.take k).all p = true) (hx : p x = true) : (l.take (k + 1)).all p = true := by
  rw [take_snocL h, List.all_append, ha]; simp [hx]
theorem all_bad {l : List (List UInt8 × List UInt8)} {p : List UInt8 × List UInt8 → Bool} {k : Nat} {x : List UInt8 × List UInt8} (h : l[k]? = some x) (hx : p x = false) : l.all p = false := by
  rw [List.all_eq_false]
  exact ⟨x, List.mem_of_getElem? h, by rw [hx]; decide⟩
theorem find_take {l : List (List UInt8 × List UInt8)} {p : List UInt8 × List UInt8 → Bool} {k : Nat} {x : List UInt8 × List UInt8} (h : l[k]? = some x) (ha : (l.take k).find? p = none) (hx : p x = false) : (l.take (k + 1)).find? p = none := by
  rw [take_snocL h, List.find?_append, ha]; simp [hx]
theorem find_hit {l : List (List UInt8 × List UInt8)} {p : List UInt8 × List UInt8 → Bool} {k : Nat} {x : List UInt8 × List UInt8} (h : l[k]? = some x) (ha : (l.take k).find? p = none) (hx : p x = true) : l.find? p = some x := by
  have e : l = l.take k ++ x :: l.drop (k + 1) := by rw [← drop_consL h, List.take_append_drop]
  rw [e, List.find?_append, ha]; simp [hx]
end Plain
open Go.RowKit Plain

theorem Q_grown {a b c : World} {row : Option Nat} (q : Q a b) (g : b.grownBy c row) : a.grownBy c row :=
  ⟨g.os.trans q.os, g.tape.trans q.tape, g.output.trans q.output, Nat.le_trans q.size g.size, fun k hk hne => (g.block k (Nat.lt_of_lt_of_le hk q.size) hne).trans (Below.block q k hk)⟩
theorem Q.grow {a b : World} (q : Q a b) (row : Option Nat) : a.grownBy b row :=
  ⟨q.os, q.tape, q.output, q.size, fun k hk _ => Below.block q k hk⟩

def WithPost (B : Nat) (l : List (List UInt8 × List UInt8)) (lv : Value) (n s : List UInt8) (w : World) (e : Ending) (w' : World) : Prop :=
  (∃ l' g cap, withS l n s = some l' ∧ e = .returned (.slice (some ⟨g, 0, none⟩) l'.length cap) ∧ w'.ownsRow B 154 2 (.slice (some ⟨g, 0, none⟩) l'.length cap) l'.length (pairVals l') ∧ w.grownBy w' lv.ownBlock ∧ (lv.ownBlock = some g ∨ w.heap.size ≤ g)) ∨
  (withS l n s = none ∧ Dies e ∧ Q w w')

set_option maxRecDepth 100000 in
set_option maxHeartbeats 1600000 in
theorem with_any (B : Nat) (l : List (List UInt8 × List UInt8)) (lv : Value) (n s : ByteArray) (w : World) (hown : w.ownsRow B 154 2 lv l.length (pairVals l)) (hB : B ≤ w.heap.size) (hl : l.length ≤ 1000) :
    Calls Tryz.prog 41 #[lv, .agg #[.string n, .string s]] w fun e w' => WithPost B l lv n.data.toList s.data.toList w e w' := by
  have HOwn := show Hid _ from hown
  obtain ⟨a, cap, hv, hat⟩ := PairsAt.own hown
  have HOL := show Hid _ from owns_lt hown
  subst hv
  have HAt := show Hid _ from hat
  clear hat hown
  go_enter Tryz.func41, Tryz.ntmps41
  go_wp2_with fail
  refine (user_any n s _).mono ?_
  rintro e w2 ⟨hq2, ⟨u, hu, rfl⟩ | ⟨hu, ⟨t, v, rfl⟩⟩⟩
  case inr => exact ⟨rfl, .inr ⟨with_none hu, ⟨_, _, rfl⟩, ((Q.refl _).alloc _).trans hq2⟩⟩
  have HU := show Hid _ from with_some (l := l) hu
  clear hu
  obtain ⟨u1, u2⟩ := u
  obtain ⟨N, rfl⟩ : ∃ M : ByteArray, M.data.toList = u1 := ⟨⟨u1.toArray⟩, rfl⟩
  obtain ⟨C, rfl⟩ : ∃ M : ByteArray, M.data.toList = u2 := ⟨⟨u2.toArray⟩, rfl⟩
  rw [str_data, str_data]
  have hQ2 : Q w w2 := ((Q.refl _).alloc _).trans hq2
  clear hq2
  go_wp2_with fail
  go_loopw [12, 7] (fun i _ wr => ∃ k : Nat, k ≤ l.length ∧ i = .int .i64 k ∧ Q (w2.alloc (.cells #[.string N, .string C] 154)) wr ∧ Hid ((l.take k).all (fun o => o.1 != N.data.toList) = true)) (fun i _ _ => l.length - (intOf i).toNat)
  case atStart => exact ⟨0, Nat.zero_le _, rfl, Q.refl _, rfl⟩
  case round =>
    obtain ⟨k, hk, rfl, hq, hall⟩ := hrel
    have hqr : Q w wr := (hQ2.alloc _).trans hq
    obtain ⟨hcl, hfr, hz⟩ := hq.made
    by_cases hlt : k < l.length
    · have hget : l[k]? = some l[k] := List.getElem?_eq_getElem hlt
      obtain ⟨g, hg, rfl, h1, h2⟩ := HAt.out k _ hget
      generalize l[k] = f at *
      obtain ⟨f1, f2⟩ := f
      obtain ⟨F, rfl⟩ : ∃ M : ByteArray, M.data.toList = f1 := ⟨⟨f1.toArray⟩, rfl⟩
      obtain ⟨G, rfl⟩ : ∃ M : ByteArray, M.data.toList = f2 := ⟨⟨f2.toArray⟩, rfl⟩
      have c1 : wr.cell? ⟨g, k * 2, none⟩ = some (.string F) := hqr.cell h1
      have c2 : wr.cell? ⟨g, k * 2 + 1, none⟩ = some (.string G) := hqr.cell h2
      have c3 : wr.cell? ⟨w2.heap.size, 0, none⟩ = some (.string N) := by rw [hcl]; rfl
      have hlg : g < wr.heap.size := Q.lt c1
      have HGet := show Hid _ from hget
      cases hb : (F.data.toList == N.data.toList)
      · have hbb : (F.toList == N.toList) = false := by rw [Lib.toList_data, Lib.toList_data]; exact hb
        have HAll : Hid ((l.take (k + 1)).all (fun o => o.1 != N.data.toList) = true) := all_take hget hall.out (by simp only [bne, hb]; rfl)
        clear h1 h2 hget hb hcl hfr HAt HOwn hall
        go_wp2_with (first | (go_at_call_of 88 (Value.bool true); refine (must_yes _ _).mono ?_; rintro e w' ⟨rfl, rfl⟩))
        exact ⟨⟨k + 1, by omega, by go_num, hq.alloc _, HAll.out⟩, by simp [intOf]; omega⟩
      · have hbb : (F.toList == N.toList) = true := by rw [Lib.toList_data, Lib.toList_data]; exact hb
        have HAll : Hid (l.all (fun o => o.1 != N.data.toList) = false) := all_bad hget (by simp only [bne, hb]; rfl)
        clear h1 h2 hget hb hcl hfr HAt HOwn hall
        go_wp2_with (first | (go_at_call_of 88 (Value.bool false); refine (must_no _ _).mono ?_; rintro e w' ⟨⟨u, x, rfl⟩, rfl⟩))
        exact ⟨rfl, .inr ⟨by rw [HU.out, if_neg (by rw [HAll.out]; decide)], ⟨_, _, rfl⟩, hqr.alloc _⟩⟩
    · have HAll : Hid (l.all (fun o => o.1 != N.data.toList) = true) := by
        have := hall.out
        rwa [List.take_of_length_le (by omega)] at this
      have c3 : wr.cell? ⟨w2.heap.size, 0, none⟩ = some (.string N) := by rw [hcl]; rfl
      have c4 : wr.cell? ⟨w2.heap.size, 1, none⟩ = some (.string C) := by rw [hcl]; rfl
      have q6 : Q w (wr.alloc (.cells #[.string N, .string C] 154)) := hqr.alloc _
      have HO := show Hid _ from owns_Q HOwn.out q6
      have HNw := show Hid _ from World.news_of_block (w := wr.alloc (.cells #[.string N, .string C] 154)) (B := wr.heap.size) (cs := #[.string N, .string C]) (t := 154) (fr := (0, 0)) (heap_alloc_new wr _)
      have HOne : Hid (∀ u ∈ ([.string N, .string C] : List Value), u.oneCell' = true) := by
        intro u hu
        simp only [List.mem_cons, List.not_mem_nil, or_false] at hu
        rcases hu with rfl | rfl <;> rfl
      have hsz := hqr.size
      clear hcl hfr hall HOwn HAt
      go_wp2_with (first | (at_builtin; refine wpList_append_lies _ rfl (.tmp 23) (.tmp 25) 85 rfl B 154 Tryz.t154 (.agg #[.string ⟨#[]⟩, .string ⟨#[]⟩]) 2 32 Tryz.underlying85 (by kernel_rfl) (by kernel_rfl) (by kernel_rfl) (by kernel_rfl) rfl (by decide) (.slice a l.length cap) l.length (pairVals l) rfl HO.out ⟨wr.heap.size, 0, none⟩ 1 1 [.string N, .string C] rfl rfl HNw.out HOne.out (by decide) (by unfold maxLen; omega) (by omega) (by simp; omega) (wr.heap.size + 1) (by simp) ?_; intro g cap' w7 hown7 hgrow hat7 hlt7))
      go_ret
      refine .inl ⟨l ++ [(N.data.toList, C.data.toList)], g, cap', by rw [HU.out, if_pos HAll.out], by rw [List.length_append]; rfl, ?_, Q_grown q6 hgrow, ?_⟩
      · rw [List.length_append, pairVals_snoc]
        exact hown7
      · rcases hat7 with h | h
        · exact .inl h
        · exact .inr (by omega)

set_option maxRecDepth 100000 in
set_option maxHeartbeats 1600000 in
theorem by_any (l : List (List UInt8 × List UInt8)) (v : Value) (c : ByteArray) (w : World) (hv : PairsAt (fun b => b < w.heap.size) w v l) (hl : l.length ≤ 1000) :
    Calls Tryz.prog 177 #[v, .string c] w fun e w' => e = .returned (.tuple #[str ((byS l c.data.toList).getD []), .bool (byS l c.data.toList).isSome]) ∧ Q w w' := by
  obtain ⟨a, cap, rfl, hat⟩ := hv
  have HAt := show Hid _ from hat
  clear hat
  go_enter Tryz.func177, Tryz.ntmps177
  go_wp2_with fail
  go_loopw [10, 7] (fun i _ wr => ∃ k : Nat, k ≤ l.length ∧ i = .int .i64 k ∧ Q w wr ∧ Hid ((l.take k).find? (fun t => t.2 == c.data.toList) = none)) (fun i _ _ => l.length - (intOf i).toNat)
  case atStart => exact ⟨0, Nat.zero_le _, rfl, Q.refl _, rfl⟩
  case round =>
    obtain ⟨k, hk, rfl, hq, hall⟩ := hrel
    by_cases hlt : k < l.length
    · have hget : l[k]? = some l[k] := List.getElem?_eq_getElem hlt
      obtain ⟨g, hg, rfl, h1, h2⟩ := HAt.out k _ hget
      generalize l[k] = f at *
      obtain ⟨f1, f2⟩ := f
      obtain ⟨F, rfl⟩ : ∃ M : ByteArray, M.data.toList = f1 := ⟨⟨f1.toArray⟩, rfl⟩
      obtain ⟨G, rfl⟩ : ∃ M : ByteArray, M.data.toList = f2 := ⟨⟨f2.toArray⟩, rfl⟩
      have c1 : wr.cell? ⟨g, k * 2, none⟩ = some (.string F) := hq.cell h1
      have c2 : wr.cell? ⟨g, k * 2 + 1, none⟩ = some (.string G) := hq.cell h2
      cases hb : (G.data.toList == c.data.toList)
      · have hbb : (G.toList == c.toList) = false := by rw [Lib.toList_data, Lib.toList_data]; exact hb
        have HAll : Hid ((l.take (k + 1)).find? (fun t => t.2 == c.data.toList) = none) := find_take hget hall.out hb
        clear h1 h2 hget hb HAt hall
        go_wp2_with fail
        exact ⟨⟨k + 1, by omega, by go_num, hq.alloc _, HAll.out⟩, by simp [intOf]; omega⟩
      · have hbb : (G.toList == c.toList) = true := by rw [Lib.toList_data, Lib.toList_data]; exact hb
        have HAll : Hid (byS l c.data.toList = some F.data.toList) := by
          show _ = _
          unfold byS
          rw [find_hit hget hall.out hb]
        clear h1 h2 hget hb HAt hall
        go_wp2_with fail
        go_ret2
        exact ⟨ret_strb (by rw [HAll.out]; rfl) (by rw [HAll.out]; rfl), hq.alloc _⟩
    · have HAll : Hid (byS l c.data.toList = none) := by
        have := hall.out
        rw [List.take_of_length_le (by omega)] at this
        show _ = _
        unfold byS
        rw [this]
      go_wp2_with fail
      go_ret2
      exact ⟨ret_strb (by rw [HAll.out]; rfl) (by rw [HAll.out]; rfl), hq⟩
end Go.Proofs.YtdmaffciijmdcaaGreatDoor

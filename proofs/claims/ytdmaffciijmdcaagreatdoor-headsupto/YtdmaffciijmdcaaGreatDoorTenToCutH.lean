/-
  Package tenants: read, With, By.
-/
import Derived.Test.YtdmaffciijmdcaaGreatDoorHeads4ToB64
import Derived.Lib.SlBytesConst
namespace Go.Proofs.YtdmaffciijmdcaaGreatDoor
open Go.RowKit Plain

def UserPost (n s : List UInt8) (w : World) (e : Ending) (w' : World) : Prop :=
  Q w w' ∧ ((∃ u, userS n s = some u ∧ e = .returned (.agg #[str u.1, str u.2])) ∨ (userS n s = none ∧ Dies e))

theorem cat3 (n s : ByteArray) : (n ++ (⟨#[58]⟩ : ByteArray) ++ s).data.toList = n.data.toList ++ [58] ++ s.data.toList := by
  simp

theorem b64_len : ∀ l : List UInt8, (b64 l).length ≤ 4 * l.length
  | [] => by simp [b64]
  | [a] => by simp [b64]
  | [a, b] => by simp [b64]
  | a :: b :: c :: l => by
    have := b64_len l
    simp [b64]
    omega

set_option maxRecDepth 100000 in
set_option maxHeartbeats 1600000 in
theorem user_any (n s : ByteArray) (w : World) :
    Calls Tryz.prog 87 #[.agg #[.string n, .string s]] w fun e w' => UserPost n.data.toList s.data.toList w e w' := by
  go_enter Tryz.func87, Tryz.ntmps87
  go_wp2_with fail
  refine wp_region_held_drew (S := fun w' => w'.cell? ⟨w.heap.size, 0, none⟩ = some (.string n) ∧ w'.cell? ⟨w.heap.size, 1, none⟩ = some (.string s)) (by kernel_rfl) ⟨by simp [go_sem], by simp [go_sem]⟩ (fun hHeld0 => ?_)
  refine wpAnyH_take (i := 0) (v := ?_) rfl (by kernel_rfl) (by kernel_rfl) (by kernel_rfl) (fun _ _ _ h => h) (Or.inl ⟨by rfl, ?_⟩) (by assumption) ?_
  rotate_left
  · (intro w hSw; (try dsimp only at hSw); go_simp; try with_reducible rfl)
  simp only [Act.put, List.getElem_toArray, List.getElem_cons_zero, List.setIfInBounds_toArray, List.set_cons_zero, List.set_cons_succ]
  refine wpAnyH_take (i := 1) (v := ?_) rfl (by kernel_rfl) (by kernel_rfl) (by kernel_rfl) (fun _ _ _ h => h) (Or.inl ⟨by rfl, ?_⟩) (by assumption) ?_
  rotate_left
  · (intro w hSw; (try dsimp only at hSw); go_simp; try with_reducible rfl)
  simp only [Act.put, List.getElem_toArray, List.getElem_cons_zero, List.getElem_cons_succ, List.setIfInBounds_toArray, List.set_cons_zero, List.set_cons_succ]
  refine wpAnyH_take (i := 3) (v := ?_) rfl (by kernel_rfl) (by kernel_rfl) (by kernel_rfl) (fun _ _ _ h => h) (Or.inl ⟨by rfl, ?_⟩) (by assumption) ?_
  rotate_left
  · (intro w hSw; (try dsimp only at hSw); go_simp; try with_reducible rfl)
  simp only [Act.put, List.getElem_toArray, List.getElem_cons_zero, List.getElem_cons_succ, List.setIfInBounds_toArray, List.set_cons_zero, List.set_cons_succ]
  refine wpAnyH_take (i := 4) (v := ?_) rfl (by kernel_rfl) (by kernel_rfl) (by kernel_rfl) (fun _ _ _ h => h) (Or.inl ⟨by rfl, ?_⟩) (by assumption) ?_
  rotate_left
  · (intro w hSw; (try dsimp only at hSw); go_simp; try with_reducible rfl)
  simp only [Act.put, List.getElem_toArray, List.getElem_cons_zero, List.getElem_cons_succ, List.setIfInBounds_toArray, List.set_cons_zero, List.set_cons_succ]
  refine wpAnyH_ready (rs := [2]) (by kernel_rfl) (by simp) ?_
  refine AllReadyH.cons rfl (fun K hK => ?_) AllReadyH.nil
  go_simp
  cases hn : tenantOk n.data.toList with
  | false =>
    refine (tenant_no n _ hn).mono ?_
    rintro e w1 ⟨⟨u, x, rfl⟩, rfl⟩
    exact ⟨rfl, (((Q.refl _).alloc _).alloc _).drew, .inr ⟨by unfold userS; rw [if_neg (by rw [hn]; simp)], ⟨_, _, rfl⟩⟩⟩
  | true =>
  refine (tenant_yes n _ hn).mono ?_
  rintro e w1 ⟨rfl, hw1⟩
  rw [hw1]
  go_wp2_with fail
  refine hK.out _ _ hHeld0 (fun hHeld1 => ?_)
  clear hK K hHeld0 hw1 w1
  refine wpAnyH_take (i := 5) (v := ?_) rfl (by kernel_rfl) (by kernel_rfl) (by kernel_rfl) (fun _ _ _ h => h) (Or.inl ⟨by rfl, ?_⟩) (by assumption) ?_
  rotate_left
  · (intro w hSw; (try dsimp only at hSw); go_simp; try with_reducible rfl)
  simp only [Act.put, List.getElem_toArray, List.getElem_cons_zero, List.getElem_cons_succ, List.setIfInBounds_toArray, List.set_cons_zero, List.set_cons_succ]
  refine wpAnyH_take (i := 6) (v := ?_) rfl (by kernel_rfl) (by kernel_rfl) (by kernel_rfl) (fun _ _ _ h => h) (Or.inl ⟨by rfl, ?_⟩) (by assumption) ?_
  rotate_left
  · (intro w hSw; (try dsimp only at hSw); go_simp; try with_reducible rfl)
  simp only [Act.put, List.getElem_toArray, List.getElem_cons_zero, List.getElem_cons_succ, List.setIfInBounds_toArray, List.set_cons_zero, List.set_cons_succ]
  refine wpAnyH_done (by kernel_rfl) ?_ _
  clear hHeld1
  have hnl : n.size ≤ 8 := by
    unfold tenantOk at hn
    rw [Bool.and_eq_true, decide_eq_true_eq, size_len] at hn
    exact hn.1.2
  have HN := show Hid _ from hn
  clear hn
  by_cases h1 : 1 ≤ s.size
  case neg =>
    have d1 : decide ((1 : Int) ≤ (s.size : Int)) = false := decide_eq_false (by omega)
    have HU : Hid (userS n.data.toList s.data.toList = none) := by
      show _ = _
      unfold userS secretOk
      rw [if_neg]
      rintro ⟨_, h⟩
      rw [Bool.and_eq_true, decide_eq_true_eq, size_len] at h
      omega
    go_wp2_with (first | (go_at_call_of 88 (Value.bool false); refine (must_no _ _).mono ?_; rintro e w' ⟨⟨u, x, rfl⟩, rfl⟩))
    exact ⟨rfl, (((Q.refl _).alloc _).alloc _).drew, .inr ⟨HU.out, ⟨_, _, rfl⟩⟩⟩
  have d1 : decide ((1 : Int) ≤ (s.size : Int)) = true := decide_eq_true (by omega)
  by_cases h2 : s.size ≤ 12
  case neg =>
    have d2 : decide ((s.size : Int) ≤ 12) = false := decide_eq_false (by omega)
    have HU : Hid (userS n.data.toList s.data.toList = none) := by
      show _ = _
      unfold userS secretOk
      rw [if_neg]
      rintro ⟨_, h⟩
      rw [Bool.and_eq_true, decide_eq_true_eq, size_len] at h
      omega
    go_wp2_with (first | (go_at_call_of 88 (Value.bool false); refine (must_no _ _).mono ?_; rintro e w' ⟨⟨u, x, rfl⟩, rfl⟩))
    exact ⟨rfl, (((Q.refl _).alloc _).alloc _).drew, .inr ⟨HU.out, ⟨_, _, rfl⟩⟩⟩
  have d2 : decide ((s.size : Int) ≤ 12) = true := decide_eq_true (by omega)
  cases hb : allB seenB s.data.toList with
  | false =>
    have HU : Hid (userS n.data.toList s.data.toList = none) := by
      show _ = _
      unfold userS secretOk
      rw [if_neg (by rw [hb]; simp)]
    have HB := show Hid _ from hb
    clear hb
    go_wp2_with (first | (go_at_call_of 88 (Value.bool true); refine (must_yes _ _).mono ?_; rintro e w' ⟨rfl, rfl⟩) | (go_at_call_of 88 (Value.bool false); refine (must_no _ _).mono ?_; rintro e w' ⟨⟨u, x, rfl⟩, rfl⟩) | (go_at_call 123; refine (all_seen s _ (by unfold maxLen; omega)).mono ?_; rintro e w' ⟨rfl, rfl⟩; rw [HB.out]))
    exact ⟨rfl, (((Q.refl _).alloc _).alloc _).drew, .inr ⟨HU.out, ⟨_, _, rfl⟩⟩⟩
  | true =>
    have HU : Hid (userS n.data.toList s.data.toList = some (n.data.toList, credS n.data.toList s.data.toList)) := by
      show _ = _
      unfold userS secretOk
      rw [if_pos]
      refine ⟨HN.out, ?_⟩
      rw [Bool.and_eq_true, decide_eq_true_eq, size_len]
      exact ⟨⟨h1, h2⟩, hb⟩
    have HB := show Hid _ from hb
    have HCl := fun x => show Hid _ from clone_any n x (by omega)
    have HB6 := fun (t : ByteArray) (ht : t.size ≤ 1000) x => show Hid _ from base64_any t x ht
    clear hb
    go_wp2_with (first | (go_at_call_of 88 (Value.bool true); refine (must_yes _ _).mono ?_; rintro e w' ⟨rfl, rfl⟩) | (go_at_call 123; refine (all_seen s _ (by unfold maxLen; omega)).mono ?_; rintro e w' ⟨rfl, rfl⟩; rw [HB.out]))
    refine Calls.mono (Hid.out (HCl _)) ?_
    rintro e w2 ⟨rfl, hq2⟩
    have hsz3 : (n ++ (⟨#[58]⟩ : ByteArray) ++ s).size ≤ 1000 := by
      rw [ByteArray.size_append, ByteArray.size_append]
      have : (⟨#[58]⟩ : ByteArray).size = 1 := rfl
      omega
    obtain ⟨E, hE⟩ : ∃ E : ByteArray, E.data.toList = b64 (n.data.toList ++ [58] ++ s.data.toList) := ⟨⟨(b64 (n.data.toList ++ [58] ++ s.data.toList)).toArray⟩, rfl⟩
    have hEs : E.size ≤ 200 := by
      rw [← size_len, hE]
      have := b64_len (n.data.toList ++ [58] ++ s.data.toList)
      simp at this ⊢
      omega
    have HE : Hid (str (b64 (n.data.toList ++ [58] ++ s.data.toList)) = .string E) := by
      show _ = _
      rw [← hE, str_data]
    have HCr : Hid ((⟨#[66, 97, 115, 105, 99, 32]⟩ : ByteArray) ++ E = ⟨(credS n.data.toList s.data.toList).toArray⟩) := by
      show _ = _
      unfold credS basic
      rw [← Lib.mk_data ((⟨#[66, 97, 115, 105, 99, 32]⟩ : ByteArray) ++ E), ← hE]
      simp
    clear hE
    go_wp2_with fail
    refine Calls.mono (Hid.out (HB6 _ hsz3 _)) ?_
    rintro e w3 ⟨rfl, hq3⟩
    rw [cat3, HE.out]
    have hq : Q ((w.alloc (.cells #[.string n, .string s] 71)).alloc (.cells #[.string ⟨#[]⟩, .string ⟨#[]⟩] 154)) w3 := ((Q.refl _).drew.trans hq2).trans hq3
    have hQ : Q w w3 := (((Q.refl _).alloc _).alloc _).trans hq
    have hcl : ∀ i, w3.cell? ⟨w.heap.size + 1, i, none⟩ = (#[.string ⟨#[]⟩, .string ⟨#[]⟩] : Array Value)[i]? := hq.made2n.2.1
    have hfr : ∀ i, w3.frozen? ⟨w.heap.size + 1, i, none⟩ = false := fun i => by
      rw [hq.cells.2 _ _ (by simp)]; simp [go_sem]
    clear hq2 hq3 hq HB6 HCl
    go_wp2_with fail
    rw [HCr.out]
    refine bodyPost_ret (v := .agg #[str n.data.toList, str (credS n.data.toList s.data.toList)]) (by simp [results, Tryz.results87, go_sem, hcl, str]) rfl ⟨?_, .inl ⟨_, HU.out, rfl⟩⟩
    iterate 2 refine Q.setCell ?_ (Nat.le_succ _) _
    exact hQ
end Go.Proofs.YtdmaffciijmdcaaGreatDoor
/-
  Package tenants: With, By.
-/
namespace Go.Proofs.YtdmaffciijmdcaaGreatDoor
namespace Plain
theorem with_none {l : List (List UInt8 × List UInt8)} {n s : List UInt8} (h : userS n s = none) : withS l n s = none := by unfold withS; rw [h]
theorem with_some {l : List (List UInt8 × List UInt8)} {n s : List UInt8} {t : List UInt8 × List UInt8} (h : userS n s = some t) : withS l n s = if l.all (fun o => o.1 != t.1) = true then some (l ++ [t]) else none := by unfold withS; rw [h]
theorem all_take {l : List (List UInt8 × List UInt8)} {p : List UInt8 × List UInt8 → Bool} {k : Nat} {x : List UInt8 × List UInt8} (h : l[k]? = some x) (ha : (l.take k).all p = true) (hx : p x = true) : (l.take (k + 1)).all p = true := by
  rw [take_snocL h, List.all_append, ha]; simp [hx]
theorem all_bad {l : List (List UInt8 × List UInt8)} {p : List UInt8 × List UInt8 → Bool} {k : Nat} {x : List UInt8 × List UInt8} (h : l[k]? = some x) (hx : p x = false) : l.all p = false := by
  rw [List.all_eq_false]
  exact ⟨x, List.mem_of_getElem? h, by rw [hx]; decide⟩
theorem find_take {l : List (List UInt8 × List UInt8)} {p : List UInt8 × List UInt8 → Bool} {k : Nat} {x : List UInt8 × List UInt8} (h : l[k]? = some x) (ha : (l.take k).find? p = none) (hx : p x = false) : (l.take (k + 1)).find? p = none := by
  rw [take_snocL h, List.find?_append, ha]; simp [hx]
theorem find_hit {l : List (List UInt8 × List UInt8)} {p : List UInt8 × List UInt8 → Bool} {k : Nat} {x : List UInt8 × List UInt8} (h : l[k]? = some x) (ha : (l.take k).find? p = none) (hx : p x = true) : l.find? p = some x := by
  have e : l = l.take k ++ x :: l.drop (k + 1) := by rw [← drop_consL h, List.take_append_drop]
  rw [e, List.find?_append, ha]; simp [hx]
end Plain
open Go.RowKit Plain

theorem Q_grown {a b c : World} {row : Option Nat} (q : Q a b) (g : b.grownBy c row) : a.grownBy c row :=
  ⟨g.os.trans q.os, g.tape.trans q.tape, g.output.trans q.output, Nat.le_trans q.size g.size, fun k hk hne => (g.block k (Nat.lt_of_lt_of_le hk q.size) hne).trans (Below.block q k hk)⟩
theorem Q.grow {a b : World} (q : Q a b) (row : Option Nat) : a.grownBy b row :=
  ⟨q.os, q.tape, q.output, q.size, fun k hk _ => Below.block q k hk⟩

def WithPost (B : Nat) (l : List (List UInt8 × List UInt8)) (lv : Value) (n s : List UInt8) (w : World) (e : Ending) (w' : World) : Prop :=
  (∃ l' g cap, withS l n s = some l' ∧ e = .returned (.slice (some ⟨g, 0, none⟩) l'.length cap) ∧ w'.ownsRow B 154 2 (.slice (some ⟨g, 0, none⟩) l'.length cap) l'.length (pairVals l') ∧ w.grownBy w' lv.ownBlock ∧ (lv.ownBlock = some g ∨ w.heap.size ≤ g)) ∨
  (withS l n s = none ∧ Dies e ∧ Q w w')

set_option maxRecDepth 100000 in
set_option maxHeartbeats 1600000 in
theorem with_any (B : Nat) (l : List (List UInt8 × List UInt8)) (lv : Value) (n s : ByteArray) (w : World) (hown : w.ownsRow B 154 2 lv l.length (pairVals l)) (hB : B ≤ w.heap.size) (hl : l.length ≤ 1000) :
    Calls Tryz.prog 41 #[lv, .agg #[.string n, .string s]] w fun e w' => WithPost B l lv n.data.toList s.data.toList w e w' := by
  have HOwn := show Hid _ from hown
  obtain ⟨a, cap, hv, hat⟩ := PairsAt.own hown
  have HOL := show Hid _ from owns_lt hown
  subst hv
  have HAt := show Hid _ from hat
  clear hat hown
  go_enter Tryz.func41, Tryz.ntmps41
  go_wp2_with fail
  refine (user_any n s _).mono ?_
  rintro e w2 ⟨hq2, ⟨u, hu, rfl⟩ | ⟨hu, ⟨t, v, rfl⟩⟩⟩
  case inr => exact ⟨rfl, .inr ⟨with_none hu, ⟨_, _, rfl⟩, ((Q.refl _).alloc _).trans hq2⟩⟩
  have HU := show Hid _ from with_some (l := l) hu
  clear hu
  obtain ⟨u1, u2⟩ := u
  obtain ⟨N, rfl⟩ : ∃ M : ByteArray, M.data.toList = u1 := ⟨⟨u1.toArray⟩, rfl⟩
  obtain ⟨C, rfl⟩ : ∃ M : ByteArray, M.data.toList = u2 := ⟨⟨u2.toArray⟩, rfl⟩
  rw [str_data, str_data]
  have hQ2 : Q w w2 := ((Q.refl _).alloc _).trans hq2
  clear hq2
  go_wp2_with fail
  go_loopw [12, 7] (fun i _ wr => ∃ k : Nat, k ≤ l.length ∧ i = .int .i64 k ∧ Q (w2.alloc (.cells #[.string N, .string C] 154)) wr ∧ Hid ((l.take k).all (fun o => o.1 != N.data.toList) = true)) (fun i _ _ => l.length - (intOf i).toNat)
  case atStart => exact ⟨0, Nat.zero_le _, rfl, Q.refl _, rfl⟩
  case round =>
    obtain ⟨k, hk, rfl, hq, hall⟩ := hrel
    have hqr : Q w wr := (hQ2.alloc _).trans hq
    obtain ⟨hcl, hfr, hz⟩ := hq.made
    by_cases hlt : k < l.length
    · have hget : l[k]? = some l[k] := List.getElem?_eq_getElem hlt
      obtain ⟨g, hg, rfl, h1, h2⟩ := HAt.out k _ hget
      generalize l[k] = f at *
      obtain ⟨f1, f2⟩ := f
      obtain ⟨F, rfl⟩ : ∃ M : ByteArray, M.data.toList = f1 := ⟨⟨f1.toArray⟩, rfl⟩
      obtain ⟨G, rfl⟩ : ∃ M : ByteArray, M.data.toList = f2 := ⟨⟨f2.toArray⟩, rfl⟩
      have c1 : wr.cell? ⟨g, k * 2, none⟩ = some (.string F) := hqr.cell h1
      have c2 : wr.cell? ⟨g, k * 2 + 1, none⟩ = some (.string G) := hqr.cell h2
      have c3 : wr.cell? ⟨w2.heap.size, 0, none⟩ = some (.string N) := by rw [hcl]; rfl
      have hlg : g < wr.heap.size := Q.lt c1
      have HGet := show Hid _ from hget
      cases hb : (F.data.toList == N.data.toList)
      · have hbb : (F.toList == N.toList) = false := by rw [Lib.toList_data, Lib.toList_data]; exact hb
        have HAll : Hid ((l.take (k + 1)).all (fun o => o.1 != N.data.toList) = true) := all_take hget hall.out (by simp only [bne, hb]; rfl)
        clear h1 h2 hget hb hcl hfr HAt HOwn hall
        go_wp2_with (first | (go_at_call_of 88 (Value.bool true); refine (must_yes _ _).mono ?_; rintro e w' ⟨rfl, rfl⟩))
        exact ⟨⟨k + 1, by omega, by go_num, hq.alloc _, HAll.out⟩, by simp [intOf]; omega⟩
      · have hbb : (F.toList == N.toList) = true := by rw [Lib.toList_data, Lib.toList_data]; exact hb
        have HAll : Hid (l.all (fun o => o.1 != N.data.toList) = false) := all_bad hget (by simp only [bne, hb]; rfl)
        clear h1 h2 hget hb hcl hfr HAt HOwn hall
        go_wp2_with (first | (go_at_call_of 88 (Value.bool false); refine (must_no _ _).mono ?_; rintro e w' ⟨⟨u, x, rfl⟩, rfl⟩))
        exact ⟨rfl, .inr ⟨by rw [HU.out, if_neg (by rw [HAll.out]; decide)], ⟨_, _, rfl⟩, hqr.alloc _⟩⟩
    · have HAll : Hid (l.all (fun o => o.1 != N.data.toList) = true) := by
        have := hall.out
        rwa [List.take_of_length_le (by omega)] at this
      have c3 : wr.cell? ⟨w2.heap.size, 0, none⟩ = some (.string N) := by rw [hcl]; rfl
      have c4 : wr.cell? ⟨w2.heap.size, 1, none⟩ = some (.string C) := by rw [hcl]; rfl
      have q6 : Q w (wr.alloc (.cells #[.string N, .string C] 154)) := hqr.alloc _
      have HO := show Hid _ from owns_Q HOwn.out q6
      have HNw := show Hid _ from World.news_of_block (w := wr.alloc (.cells #[.string N, .string C] 154)) (B := wr.heap.size) (cs := #[.string N, .string C]) (t := 154) (fr := (0, 0)) (heap_alloc_new wr _)
      have HOne : Hid (∀ u ∈ ([.string N, .string C] : List Value), u.oneCell' = true) := by
        intro u hu
        simp only [List.mem_cons, List.not_mem_nil, or_false] at hu
        rcases hu with rfl | rfl <;> rfl
      have hsz := hqr.size
      clear hcl hfr hall HOwn HAt
      go_wp2_with (first | (at_builtin; refine wpList_append_lies _ rfl (.tmp 23) (.tmp 25) 85 rfl B 154 Tryz.t154 (.agg #[.string ⟨#[]⟩, .string ⟨#[]⟩]) 2 32 Tryz.underlying85 (by kernel_rfl) (by kernel_rfl) (by kernel_rfl) (by kernel_rfl) rfl (by decide) (.slice a l.length cap) l.length (pairVals l) rfl HO.out ⟨wr.heap.size, 0, none⟩ 1 1 [.string N, .string C] rfl rfl HNw.out HOne.out (by decide) (by unfold maxLen; omega) (by omega) (by simp; omega) (wr.heap.size + 1) (by simp) ?_; intro g cap' w7 hown7 hgrow hat7 hlt7))
      go_ret
      refine .inl ⟨l ++ [(N.data.toList, C.data.toList)], g, cap', by rw [HU.out, if_pos HAll.out], by rw [List.length_append]; rfl, ?_, Q_grown q6 hgrow, ?_⟩
      · rw [List.length_append, pairVals_snoc]
        exact hown7
      · rcases hat7 with h | h
        · exact .inl h
        · exact .inr (by omega)

set_option maxRecDepth 100000 in
set_option maxHeartbeats 1600000 in
theorem by_any (l : List (List UInt8 × List UInt8)) (v : Value) (c : ByteArray) (w : World) (hv : PairsAt (fun b => b < w.heap.size) w v l) (hl : l.length ≤ 1000) :
    Calls Tryz.prog 177 #[v, .string c] w fun e w' => e = .returned (.tuple #[str ((byS l c.data.toList).getD []), .bool (byS l c.data.toList).isSome]) ∧ Q w w' := by
  obtain ⟨a, cap, rfl, hat⟩ := hv
  have HAt := show Hid _ from hat
  clear hat
  go_enter Tryz.func177, Tryz.ntmps177
  go_wp2_with fail
  go_loopw [10, 7] (fun i _ wr => ∃ k : Nat, k ≤ l.length ∧ i = .int .i64 k ∧ Q w wr ∧ Hid ((l.take k).find? (fun t => t.2 == c.data.toList) = none)) (fun i _ _ => l.length - (intOf i).toNat)
  case atStart => exact ⟨0, Nat.zero_le _, rfl, Q.refl _, rfl⟩
  case round =>
    obtain ⟨k, hk, rfl, hq, hall⟩ := hrel
    by_cases hlt : k < l.length
    · have hget : l[k]? = some l[k] := List.getElem?_eq_getElem hlt
      obtain ⟨g, hg, rfl, h1, h2⟩ := HAt.out k _ hget
      generalize l[k] = f at *
      obtain ⟨f1, f2⟩ := f
      obtain ⟨F, rfl⟩ : ∃ M : ByteArray, M.data.toList = f1 := ⟨⟨f1.toArray⟩, rfl⟩
      obtain ⟨G, rfl⟩ : ∃ M : ByteArray, M.data.toList = f2 := ⟨⟨f2.toArray⟩, rfl⟩
      have c1 : wr.cell? ⟨g, k * 2, none⟩ = some (.string F) := hq.cell h1
      have c2 : wr.cell? ⟨g, k * 2 + 1, none⟩ = some (.string G) := hq.cell h2
      cases hb : (G.data.toList == c.data.toList)
      · have hbb : (G.toList == c.toList) = false := by rw [Lib.toList_data, Lib.toList_data]; exact hb
        have HAll : Hid ((l.take (k + 1)).find? (fun t => t.2 == c.data.toList) = none) := find_take hget hall.out hb
        clear h1 h2 hget hb HAt hall
        go_wp2_with fail
        exact ⟨⟨k + 1, by omega, by go_num, hq.alloc _, HAll.out⟩, by simp [intOf]; omega⟩
      · have hbb : (G.toList == c.toList) = true := by rw [Lib.toList_data, Lib.toList_data]; exact hb
        have HAll : Hid (byS l c.data.toList = some F.data.toList) := by
          show _ = _
          unfold byS
          rw [find_hit hget hall.out hb]
        clear h1 h2 hget hb HAt hall
        go_wp2_with fail
        go_ret2
        exact ⟨ret_strb (by rw [HAll.out]; rfl) (by rw [HAll.out]; rfl), hq.alloc _⟩
    · have HAll : Hid (byS l c.data.toList = none) := by
        have := hall.out
        rw [List.take_of_length_le (by omega)] at this
        show _ = _
        unfold byS
        rw [this]
      go_wp2_with fail
      go_ret2
      exact ⟨ret_strb (by rw [HAll.out]; rfl) (by rw [HAll.out]; rfl), hq⟩
end Go.Proofs.YtdmaffciijmdcaaGreatDoor
/-
  Package heads: Cut.
-/
namespace Go.Proofs.YtdmaffciijmdcaaGreatDoor
open Go.RowKit Plain

def nums (l : List UInt8) : List Int := l.map fun c => (c.toNat : Int)
theorem nums_len (l : List UInt8) : (nums l).length = l.length := by simp [nums]
theorem nums_bytes (l : List UInt8) : Lib.bytesOf (nums l) = l := by
  unfold nums Lib.bytesOf
  rw [List.map_map]
  have : ((fun n : Int => UInt8.ofNat n.toNat) ∘ fun c : UInt8 => (c.toNat : Int)) = id := by
    funext c
    simp
  rw [this, List.map_id]
theorem nums_range (l : List UInt8) : ∀ x ∈ nums l, 0 ≤ x ∧ x < 256 := by
  intro x hx
  unfold nums at hx
  obtain ⟨c, _, rfl⟩ := List.mem_map.1 hx
  have := c.toNat_lt
  omega
theorem nums_get (l : List UInt8) (i : Nat) : (nums l).getD i 0 = ((l.getD i 0).toNat : Int) := by
  unfold nums
  rw [List.getD_eq_getElem?_getD, List.getD_eq_getElem?_getD, List.getElem?_map]
  cases l[i]? <;> rfl

/-- Bytes that a slice speaks of. -/
def BytesIn (S : Nat → Prop) (w : World) (v : Value) (l : List UInt8) : Prop :=
  (v = .slice none 0 0 ∧ l = []) ∨ ∃ g o c, v = .slice (some ⟨g, o, none⟩) l.length c ∧ S g ∧ l.length ≤ c ∧ ∀ i, i < l.length → w.cell? ⟨g, o + i, none⟩ = some (.int .u8 ((l.getD i 0).toNat : Int))
theorem BytesIn.own {w : World} {B : Nat} {v : Value} {l : List UInt8} (h : w.ownsRow B 5 1 v l.length (bvals l)) : BytesIn (fun g => v.ownBlock = some g) w v l := by
  rcases h.2 with ⟨rfl, hn⟩ | ⟨g, cap, cur, rfl, hb, hg, h4, h5, h6, h7⟩
  · exact .inl ⟨rfl, List.eq_nil_of_length_eq_zero hn⟩
  · refine .inr ⟨g, 0, cap, rfl, rfl, h4, fun i hi => ?_⟩
    rw [Nat.zero_add, cell_of_row w g i cur 5 (0, 0) hg]
    have hj2 : (cur.toList.take (l.length * 1))[i]? = some (.int .u8 ((l.getD i 0).toNat : Int)) := by
      rw [h7, bvals, List.getElem?_map, List.getD_eq_getElem?_getD, List.getElem?_eq_getElem hi]; rfl
    rw [List.getElem?_take, if_pos (by omega)] at hj2
    simpa using hj2

def CutPost (S : Nat → Prop) (l : List UInt8) (w : World) (e : Ending) (w' : World) : Prop :=
  Q w w' ∧ ((cutHead l = none ∧ e = .returned (.tuple #[str [], .slice none 0 0, .bool false])) ∨ ∃ h r rv, cutHead l = some (h, r) ∧ e = .returned (.tuple #[str h, rv, .bool true]) ∧ BytesIn S w' rv r)

theorem cells_to_str {w : World} {g o c : Nat} {l : List UInt8} (h : ∀ i, i < l.length → w.cell? ⟨g, o + i, none⟩ = some (.int .u8 ((l.getD i 0).toNat : Int))) : (convert 99 9 (.slice (some ⟨g, o, none⟩) l.length c)).run Tryz.prog w = .ok (.string ⟨l.toArray⟩) w := by
  refine run_convert_bytes_back (P := Tryz.prog) w 99 9 5 ⟨g, o, none⟩ c l Tryz.underlying99 Tryz.underlying5 Tryz.underlying9 (fun j hj => ?_)
  have e : (⟨g, o, none⟩ : Addr).add j = ⟨g, o + j, none⟩ := by unfold Addr.add; split <;> simp_all
  rw [e, h j hj, List.getD_eq_getElem?_getD, List.getElem?_eq_getElem hj]; rfl

set_option maxRecDepth 100000 in
set_option maxHeartbeats 1600000 in
theorem cut_any (S : Nat → Prop) (l : List UInt8) (v : Value) (w : World) (hv : BytesIn S w v l) (hm : ML w) (hl : l.length ≤ 4398046511104) :
    Calls Tryz.prog 93 #[v] w fun e w' => CutPost S l w e w' := by
  rcases hv with ⟨rfl, rfl⟩ | ⟨g, o, c, rfl, hS, hc, hcells⟩
  · have HN : Hid (cutHead [] = none) := by
      show _ = _
      decide
    have hcv := Lib.run_convert_bytes_const (P := Tryz.prog) w 99 5 #[.int .u8 13, .int .u8 10, .int .u8 13, .int .u8 10] 4 4 Tryz.underlying99 Tryz.underlying5
    simp only [List.size_toArray, List.length_cons, List.length_nil, Nat.zero_add, Nat.reduceAdd] at hcv
    go_enter Tryz.func93, Tryz.ntmps93
    go_wp2_with (first | (go_at_call 127; refine (Tryz.bytes_Index_nil _ 4 4 _ (by decide) (by intro h; cases h)).mono ?_; rintro e w' ⟨rfl, rfl⟩))
    go_ret3
    exact ⟨(Q.refl _).alloc _, .inl ⟨HN.out, rfl⟩⟩
  · obtain ⟨k, hk⟩ : ∃ k : Nat, k = min l.length 1000 := ⟨_, rfl⟩
    have hmin : min (l.length : Int) 1000 = (k : Int) := by omega
    have hkl : k ≤ l.length := by omega
    have hkc : (k : Int) ≤ (c : Int) := by omega
    have htk : l.take 1000 = l.take k := by
      rw [hk]
      rcases Nat.le_total l.length 1000 with h | h
      · rw [Nat.min_eq_left h, List.take_of_length_le h, List.take_of_length_le (Nat.le_refl _)]
      · rw [Nat.min_eq_right h]
    have hHd : cutHead l = if 0 ≤ Lib.index (l.take k) endB then some (l.take ((Lib.index (l.take k) endB).toNat + 4), l.drop ((Lib.index (l.take k) endB).toNat + 4)) else if l.length < 1000 then none else some (l.take k, []) := by
      unfold cutHead; rw [htk]
    have HHd := show Hid _ from hHd
    have HCE := show Hid _ from hcells
    have htl : (l.take k).length = k := by rw [List.length_take]; omega
    have HIx : ∀ x, (∀ i, i < l.length → x.cell? ⟨g, o + i, none⟩ = some (.int .u8 ((l.getD i 0).toNat : Int))) → ML x → Hid (Calls Tryz.prog 127 #[.slice (some ⟨g, o, none⟩) k c, .slice (some ⟨x.heap.size, 0, none⟩) 4 4] (x.alloc (.cells #[.int .u8 13, .int .u8 10, .int .u8 13, .int .u8 10] 5 (4, 5))) fun e w' => e = .returned (.int .i64 (Lib.index (l.take k) endB)) ∧ ∃ q, w' = (x.alloc (.cells #[.int .u8 13, .int .u8 10, .int .u8 13, .int .u8 10] 5 (4, 5))).drewN q) := by
      intro x hx ⟨m, hm⟩
      have hq : Q x (x.alloc (.cells #[.int .u8 13, .int .u8 10, .int .u8 13, .int .u8 10] 5 (4, 5))) := (Q.refl _).alloc _
      have h := Tryz.bytes_Index_at ⟨g, o, none⟩ ⟨x.heap.size, 0, none⟩ k c 4 4 (nums (l.take k)) (nums endB) m (x.alloc (.cells #[.int .u8 13, .int .u8 10, .int .u8 13, .int .u8 10] 5 (4, 5))) (by rw [nums_len, htl]) rfl (nums_range _) (nums_range _)
        (fun i hi => by
          have e : (⟨g, o, none⟩ : Addr).add i = ⟨g, o + i, none⟩ := by unfold Addr.add; split <;> simp_all
          rw [e, nums_get, hq.cell (hx i (by omega))]
          rw [List.getD_eq_getElem?_getD, List.getD_eq_getElem?_getD, List.getElem?_take, if_pos hi])
        (fun i hi => by
          have e : (⟨x.heap.size, 0, none⟩ : Addr).add i = ⟨x.heap.size, i, none⟩ := by unfold Addr.add; split <;> simp_all
          rw [e]
          rcases i with _ | _ | _ | _ | i
          · rw [World.cell?_alloc_mark]; rfl
          · rw [World.cell?_alloc_mark]; rfl
          · rw [World.cell?_alloc_mark]; rfl
          · rw [World.cell?_alloc_mark]; rfl
          · omega)
        (by omega) (by omega) (by decide) (hq.cell hm)
      rw [nums_bytes, nums_bytes] at h
      exact h
    have HML : Hid (ML w) := hm
    have hro := Lib.index_room (l.take k) endB
    rw [htl, show endB.length = 4 from rfl] at hro
    have HRO := show Hid _ from hro
    have hge := Lib.index_ge (l.take k) endB
    generalize Lib.index (l.take k) endB = ix at *
    clear hHd hcells htk hm hro htl
    have HK : Hid (k = min l.length 1000) := hk
    clear hk
    have hcv := Lib.run_convert_bytes_const (P := Tryz.prog) w 99 5 #[.int .u8 13, .int .u8 10, .int .u8 13, .int .u8 10] 4 4 Tryz.underlying99 Tryz.underlying5
    simp only [List.size_toArray, List.length_cons, List.length_nil, Nat.zero_add, Nat.reduceAdd] at hcv
    go_enter Tryz.func93, Tryz.ntmps93
    go_wp2_with fail
    refine Calls.mono (Hid.out (HIx _ HCE.out HML.out)) ?_
    rintro e w1 ⟨rfl, q, hw1⟩
    have hQ1 : Q w w1 := by rw [hw1]; exact ((Q.refl _).alloc _).drews _
    have HCE1 : Hid (∀ i, i < l.length → w1.cell? ⟨g, o + i, none⟩ = some (.int .u8 ((l.getD i 0).toNat : Int))) := fun i hi => hQ1.cell (HCE.out i hi)
    clear hw1 HIx HCE hcv
    by_cases hix : 0 ≤ ix
    · obtain ⟨i, rfl⟩ := Int.eq_ofNat_of_zero_le hix
      have hi4 : i + 4 ≤ k := by have := HRO.out hix; omega
      have HD : Hid (cutHead l = some (l.take (i + 4), l.drop (i + 4))) := by
        show _ = _
        rw [HHd.out, if_pos hix]; rfl
      have b1 : ((i : Int) + 4) ≤ (c : Int) := by omega
      have b2 : ((i : Int) + 4) ≤ (l.length : Int) := by omega
      clear hix HHd HRO
      have htl : (l.take (i + 4)).length = i + 4 := by rw [List.length_take]; omega
      have hcv : ∀ x, (∀ b o', x.cell? ⟨b, o', none⟩ = w1.cell? ⟨b, o', none⟩) → (convert 99 9 (.slice (some ⟨g, o, none⟩) (i + 4) c)).run Tryz.prog x = .ok (.string ⟨(l.take (i + 4)).toArray⟩) x := fun x hx => by
        have := cells_to_str (w := x) (g := g) (o := o) (c := c) (l := l.take (i + 4)) (fun j hj => by
          rw [hx, HCE1.out j (by rw [htl] at hj; omega), List.getD_eq_getElem?_getD, List.getD_eq_getElem?_getD, List.getElem?_take, if_pos (by rw [htl] at hj; exact hj)])
        rwa [htl] at this
      have hcv1 := hcv w1 (fun _ _ => rfl)
      have hcv2 := hcv w1.drew (fun _ _ => rfl)
      go_wp2_with fail
      go_region
      go_wp2_with fail
      · go_ret3
        refine ⟨hQ1.drew, .inr ⟨_, _, _, HD.out, rfl, .inr ⟨g, o, 0, by rw [List.length_drop]; rfl, hS, by rw [List.length_drop]; omega, fun j hj => ?_⟩⟩⟩
        rw [List.length_drop] at hj
        omega
      · go_ret3
        refine ⟨hQ1.drew, .inr ⟨_, _, _, HD.out, rfl, .inr ⟨g, o + (i + 4), c - (i + 4), by rw [List.length_drop]; rfl, hS, by rw [List.length_drop]; omega, fun j hj => ?_⟩⟩⟩
        rw [List.length_drop] at hj
        show w1.cell? _ = _
        rw [Nat.add_assoc, HCE1.out _ (by omega), List.getD_eq_getElem?_getD, List.getD_eq_getElem?_getD, List.getElem?_drop]
    · have hneg : ix = -1 := by omega
      subst hneg
      have HD : Hid (cutHead l = if l.length < 1000 then none else some (l.take k, [])) := by
        show _ = _
        rw [HHd.out, if_neg (by decide)]
      have htl : (l.take k).length = k := by rw [List.length_take]; omega
      clear hix HHd HRO hge
      by_cases h1 : l.length < 1000
      · have hk0 : k = l.length := by have := HK.out; omega
        have d1 : decide ((k : Int) < 1000) = true := decide_eq_true (by omega)
        clear hk0
        go_wp2_with fail
        go_ret3
        exact ⟨hQ1, .inl ⟨by rw [HD.out, if_pos h1], rfl⟩⟩
      · have hk0 : k = 1000 := by have := HK.out; omega
        have hcv := cells_to_str (w := w1) (g := g) (o := o) (c := c) (l := l.take k) (fun j hj => by
          rw [HCE1.out j (by rw [htl] at hj; omega), List.getD_eq_getElem?_getD, List.getD_eq_getElem?_getD, List.getElem?_take, if_pos (by rw [htl] at hj; exact hj)])
        rw [htl] at hcv
        have d1 : decide ((k : Int) < 1000) = false := decide_eq_false (by omega)
        clear hk0
        go_wp2_with fail
        go_ret3
        exact ⟨hQ1, .inr ⟨l.take k, [], .slice none 0 0, by rw [HD.out, if_neg h1], rfl, .inl ⟨rfl, rfl⟩⟩⟩
end Go.Proofs.YtdmaffciijmdcaaGreatDoor

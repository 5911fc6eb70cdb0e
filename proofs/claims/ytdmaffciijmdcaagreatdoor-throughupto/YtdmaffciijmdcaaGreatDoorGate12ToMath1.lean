/-
  Package turnpike: New.
-/
import Derived.Test.YtdmaffciijmdcaaGreatDoorGate11C
import Derived.Test.YtdmaffciijmdcaaGreatDoorTextToRulesT
namespace Go.Proofs.YtdmaffciijmdcaaGreatDoor
namespace Plain
theorem rulesOf_en0 : ∀ (n : Nat) (ls : List (List UInt8)) (en ln : Nat), rulesOf n ls = .error (en, ln) → en ≠ 0
  | _, [], _, _, h => by cases h
  | n, [l], en, ln, h => by
    unfold rulesOf at h
    split at h
    · cases h
    · split at h <;> cases h <;> decide
  | n, l :: m :: ls, en, ln, h => by
    unfold rulesOf at h
    split at h
    · cases h; decide
    · split at h
      · cases h; decide
      · cases hx : rulesOf (n + 1) (m :: ls) with
        | error e =>
          rw [hx] at h
          obtain ⟨a, b⟩ := e
          cases h
          exact rulesOf_en0 (n + 1) (m :: ls) _ _ hx
        | ok rs => rw [hx] at h; cases h
theorem comp_en0 {T : List UInt8} {en ln : Nat} (h : compileS T = .error (en, ln)) : en ≠ 0 := by
  unfold compileS at h
  split at h
  · cases h; decide
  · exact rulesOf_en0 _ _ _ _ h
theorem with_len {l : List (List UInt8 × List UInt8)} {n s : List UInt8} {l' : List (List UInt8 × List UInt8)} (h : withS l n s = some l') : l'.length = l.length + 1 := by
  unfold withS at h
  split at h
  · cases h
  · split at h
    · cases h; simp
    · cases h
end Plain
open Go.RowKit Plain

def NewPost (B : Nat) (text : List UInt8) (us : List (List UInt8 × List UInt8)) (minute : Int) (w : World) (e : Ending) (w' : World) : Prop :=
  Q w w' ∧ ((∃ en ln : Nat, newS text us minute = .error (en, ln) ∧ e = .returned (.tuple #[.pointer none, .int .i64 (en : Int), .int .i64 (ln : Int)])) ∨
    ∃ g gb r, newS text us minute = .ok g ∧ e = .returned (.tuple #[ptr gb, .int .i64 0, .int .i64 0]) ∧ GwRep r B w' gb g ∧ GOk g ∧ ∀ b, r b ≠ none → w.heap.size ≤ b)

theorem new_rep {w w1 wr : World} {pb kb : Nat} {rs : List RuleS} {tens : List (List UInt8 × List UInt8)} {lv : Value} {minute : Int} {B : Nat} (hq1 : Q w w1) (hpol : PolicyRep (New w w1) w1 pb rs) (hq : Q w1 wr) (hkb : w1.heap.size ≤ kb) (hown : wr.ownsRow (kb + 1) 154 2 lv tens.length (pairVals tens)) (hB : B ≤ w.heap.size) :
    ∃ r, GwRep r B (wr.alloc (.cells #[ptr pb, lv, .int .i64 minute, .int .i64 0, .slice none 0 0] 92)) wr.heap.size ⟨rs, tens, minute, 0, []⟩ ∧ ∀ b, r b ≠ none → w.heap.size ≤ b := by
  have hz1 := hq1.size
  have hz2 := hq.size
  have qa : Q wr (wr.alloc (.cells #[ptr pb, lv, .int .i64 minute, .int .i64 0, .slice none 0 0] 92)) := (Q.refl _).alloc _
  have C : ∀ o, (wr.alloc (.cells #[ptr pb, lv, .int .i64 minute, .int .i64 0, .slice none 0 0] 92)).cell? ⟨wr.heap.size, o, none⟩ = (#[ptr pb, lv, .int .i64 minute, .int .i64 0, .slice none 0 0] : Array Value)[o]? := fun o => by
    rw [World.cell?_alloc_at (hn := rfl)]
  refine ⟨fun b => if b = wr.heap.size then some .gw else if w.heap.size ≤ b ∧ b < wr.heap.size then some .stat else none, ?_, fun b hb => ?_⟩
  · refine ⟨fun b hb => ?_, fun b hb => ?_, if_pos rfl, ⟨pb, by rw [C]; rfl, ?_⟩, ⟨lv, by rw [C]; rfl, ?_⟩, by rw [C]; rfl, by rw [C]; rfl, fun o => ?_, .slice none 0 0, [], by rw [C]; rfl, ⟨rfl, .inl ⟨rfl, rfl⟩⟩, (fun k hk => by cases hk), trivial⟩
    · by_cases e1 : b = wr.heap.size
      · simp; omega
      · by_cases e2 : w.heap.size ≤ b ∧ b < wr.heap.size
        · simp; omega
        · simp [e1, e2] at hb
    · by_cases e1 : b = wr.heap.size
      · omega
      · by_cases e2 : w.heap.size ≤ b ∧ b < wr.heap.size
        · omega
        · simp [e1, e2] at hb
    · refine hpol.keeps fun b hb => ?_
      obtain ⟨h1, h2⟩ := hb
      refine ⟨?_, fun o => ?_⟩
      · show (if b = wr.heap.size then some Kd.gw else if w.heap.size ≤ b ∧ b < wr.heap.size then some .stat else none) = some .stat
        rw [if_neg (by omega), if_pos ⟨h1, by omega⟩]
      · exact (hq.trans qa).cells.1 b o h2
    · refine (PairsAt.own hown).keeps fun b hb => ?_
      have h1 := owns_lt hown b hb
      refine ⟨?_, fun o => qa.cells.1 b o h1.2⟩
      show (if b = wr.heap.size then some Kd.gw else if w.heap.size ≤ b ∧ b < wr.heap.size then some .stat else none) = some .stat
      rw [if_neg (by omega), if_pos ⟨by omega, h1.2⟩]
    · rw [World.frozen?_alloc_at (hn := rfl)]
  · by_cases e1 : b = wr.heap.size
    · omega
    · by_cases e2 : w.heap.size ≤ b ∧ b < wr.heap.size
      · exact e2.1
      · simp [e1, e2] at hb

set_option maxRecDepth 100000 in
set_option maxHeartbeats 3200000 in
theorem new_any (B : Nat) (s : ByteArray) (us : List (List UInt8 × List UInt8)) (v : Value) (minute : Int) (w : World) (hs : s.size ≤ maxLen) (hv : PairsAt (fun b => b < w.heap.size) w v us) (hul : us.length ≤ 2097152) (hB : B ≤ w.heap.size) :
    Calls Tryz.prog 13 #[.string s, v, .int .i64 minute] w fun e w' => NewPost B s.data.toList us minute w e w' := by
  have hmf : ∀ (fn : Fn) (first cap : Array Value) (w : World), (Instr.makeFunc fn first cap).run Tryz.prog w = .ok (.func fn first cap) w := fun _ _ _ _ => rfl
  obtain ⟨ua, ucap, rfl, hua⟩ := hv
  have HU := show Hid _ from hua
  have HC := show Hid _ from compile_any s w hs
  clear hua hs
  go_enter Tryz.func13, Tryz.ntmps13
  go_wp2_with fail
  refine Calls.mono (Hid.out HC) ?_
  rintro e w1 ⟨hq1, ⟨en, ln, hcs, rfl⟩ | ⟨rs, pb, hcs, rfl, hpol⟩⟩
  · have hen := comp_en0 hcs
    have d0 : ((en : Int) != 0) = true := by rw [bne_iff_ne]; omega
    have HN : Hid (newS s.data.toList us minute = .error (en, ln)) := by
      show _ = _
      unfold newS; rw [hcs]
    clear hcs HC hen
    go_wp2_with fail
    go_ret3
    exact ⟨hq1, .inl ⟨en, ln, HN.out, rfl⟩⟩
  have HN : Hid (newS s.data.toList us minute = if 8 < us.length then .error (2, 0) else match usersFrom 0 [] us with
    | .error k => .error (4, k)
    | .ok tens => if minute < 0 ∨ 10080 ≤ minute then .error (5, 0) else .ok ⟨rs, tens, minute, 0, []⟩) := by
    show _ = _
    unfold newS; rw [hcs]
    dsimp only
    cases usersFrom 0 [] us <;> rfl
  have HP := show Hid _ from hpol
  clear hcs hpol HC
  by_cases h8 : 8 < us.length
  · have d8 : decide ((8 : Int) < (us.length : Int)) = true := decide_eq_true (by omega)
    have HN2 : Hid (newS s.data.toList us minute = .error (2, 0)) := by
      show _ = _
      rw [HN.out, if_pos h8]
    clear HN h8
    go_wp2_with fail
    go_ret3
    exact ⟨hq1, .inl ⟨2, 0, HN2.out, rfl⟩⟩
  have d8 : decide ((8 : Int) < (us.length : Int)) = false := decide_eq_false (by omega)
  have HN3 : Hid (newS s.data.toList us minute = match usersFrom 0 [] us with
    | .error k => .error (4, k)
    | .ok tens => if minute < 0 ∨ 10080 ≤ minute then .error (5, 0) else .ok ⟨rs, tens, minute, 0, []⟩) := by
    show _ = _
    rw [HN.out, if_neg h8]
  clear HN
  go_wp2_with fail
  go_loopw [32, 13, 14, 15, 16] (fun i _ _ _ _ wr => ∃ (k : Nat) (tens : List (List UInt8 × List UInt8)) (lv : Value), k ≤ us.length ∧ tens.length = k ∧ i = .int .i64 k ∧ Q w1 wr ∧ wr.cell? ⟨w1.heap.size, 0, none⟩ = some lv ∧ wr.frozen? ⟨w1.heap.size, 0, none⟩ = false ∧ Hid (wr.ownsRow (w1.heap.size + 1) 154 2 lv tens.length (pairVals tens)) ∧ Hid (usersFrom 0 [] us = usersFrom k tens (us.drop k))) (fun i _ _ _ _ _ => us.length - (intOf i).toNat)
  case atStart => exact ⟨0, [], .slice none 0 0, Nat.zero_le _, rfl, rfl, (Q.refl _).alloc _, by simp [go_sem], by simp [go_sem], ⟨rfl, .inl ⟨rfl, rfl⟩⟩, rfl⟩
  case round =>
    obtain ⟨k, tens, lv, hk, htl, rfl, hq, hkc, hkf, hown, hsp⟩ := hrel
    obtain ⟨lo, lc, rfl⟩ := slice_form hown.out
    have hkl : w1.heap.size < wr.heap.size := Q.lt hkc
    have HTL := show Hid _ from htl
    by_cases hlt : k < us.length
    · have hget : us[k]? = some us[k] := List.getElem?_eq_getElem hlt
      obtain ⟨ug, hug, rfl, g1, g2⟩ := HU.out k _ hget
      have HGet := show Hid _ from hget
      generalize us[k] = u at *
      obtain ⟨un, uss⟩ := u
      obtain ⟨N, rfl⟩ : ∃ M : ByteArray, M.data.toList = un := ⟨⟨un.toArray⟩, rfl⟩
      obtain ⟨S, rfl⟩ : ∃ M : ByteArray, M.data.toList = uss := ⟨⟨uss.toArray⟩, rfl⟩
      have c1 : wr.cell? ⟨ug, k * 2, none⟩ = some (.string N) := (hq1.trans hq).cell g1
      have c2 : wr.cell? ⟨ug, k * 2 + 1, none⟩ = some (.string S) := (hq1.trans hq).cell g2
      have qa : Q wr (wr.alloc (.cells #[.string N, .string S] 71)) := (Q.refl _).alloc _
      have HL := show Hid _ from caughtL_any (w1.heap.size + 1) tens (.slice lo tens.length lc) N S w1.heap.size wr.heap.size (wr.alloc (.cells #[.string N, .string S] 71)) (qa.cell hkc) (by simp [go_sem]) (by simp [go_sem]) (owns_Q hown.out qa) (by simp; omega) (by omega)
      have HOL := show Hid _ from owns_lt hown.out
      clear hget g1 g2 htl
      go_wp2_with fail
      refine Calls.mono (Hid.out HL) ?_
      rintro e w2 (⟨l', gg, cap', hw, rfl, hown2, hgr, hat⟩ | ⟨hw, rfl, hq2⟩)
      · have hne : some w1.heap.size ≠ (Value.slice lo tens.length lc).ownBlock := fun e => by have := (HOL.out _ e.symm).1; omega
        have hkc2 : w2.cell? ⟨w1.heap.size, 0, none⟩ = some (.slice lo tens.length lc) := by
          rw [hgr.cell_far ⟨w1.heap.size, 0, none⟩ (by simp; omega) hne]; exact qa.cell hkc
        have hkf2 : w2.frozen? ⟨w1.heap.size, 0, none⟩ = false := by
          rw [hgr.frozen_far ⟨w1.heap.size, 0, none⟩ (by simp; omega) hne, qa.cells.2 _ _ hkl]; exact hkf
        have hQ2 : Q w1 w2 := Below.grown (hq.trans qa) hgr (hq.trans qa).size (fun b hb => by have := (HOL.out b hb).1; omega)
        have HW := show Hid _ from hw
        have HO2 := show Hid _ from hown2
        have HLL := show Hid _ from with_len hw
        have hgk : gg ≠ w1.heap.size := fun e => by have := (owns_lt hown2 gg rfl).1; omega
        clear hw hown2 hgr hat HL
        go_wp2_with fail
        refine ⟨⟨k + 1, l', _, by omega, by have := HTL.out; have := HLL.out; omega, by go_num, hQ2.setCell (Nat.le_refl _) _, set_same hkc2, by rw [World.frozen?_setCell]; exact hkf2, ?_, ?_⟩, by simp [intOf]; omega⟩
        · exact owns_same HO2.out fun b hb => set_same_at (by
            have : gg = b := by simpa [Value.ownBlock] using hb
            rw [← this]; exact hgk)
        · show _ = _
          rw [hsp.out, drop_consL HGet.out, usersFrom]
          simp only [HW.out]
      · have HN4 : Hid (newS s.data.toList us minute = .error (4, k)) := by
          show _ = _
          rw [HN3.out, hsp.out, drop_consL HGet.out, usersFrom]
          simp only [hw]
        have hQ2 : Q w w2 := (hq1.trans (hq.trans qa)).trans hq2
        clear hw HL
        go_wp2_with fail
        go_ret3
        exact ⟨hQ2, .inl ⟨4, k, HN4.out, rfl⟩⟩
    · have HE : Hid (usersFrom 0 [] us = .ok tens) := by
        show _ = _
        rw [hsp.out, List.drop_eq_nil_of_le (by omega)]; rfl
      have hq1r : Q w wr := hq1.trans hq
      by_cases hm0 : minute < 0
      · have b0 : decide (minute < 0) = true := decide_eq_true hm0
        have HN4 : Hid (newS s.data.toList us minute = .error (5, 0)) := by
          show _ = _
          rw [HN3.out, HE.out]
          simp only [hm0, true_or, if_true]
        clear hm0
        go_wp2_with fail
        go_ret3
        exact ⟨hq1r, .inl ⟨5, 0, HN4.out, rfl⟩⟩
      · have b0 : decide (minute < 0) = false := decide_eq_false hm0
        by_cases hm1 : 10080 ≤ minute
        · have b1 : decide (10080 ≤ minute) = true := decide_eq_true hm1
          have HN4 : Hid (newS s.data.toList us minute = .error (5, 0)) := by
            show _ = _
            rw [HN3.out, HE.out]
            simp only [hm1, or_true, if_true]
          clear hm0 hm1
          go_wp2_with fail
          go_ret3
          exact ⟨hq1r, .inl ⟨5, 0, HN4.out, rfl⟩⟩
        · have b1 : decide (10080 ≤ minute) = false := decide_eq_false hm1
          have HN4 : Hid (newS s.data.toList us minute = .ok ⟨rs, tens, minute, 0, []⟩) := by
            show _ = _
            rw [HN3.out, HE.out]
            simp only [hm0, hm1, or_self, if_false]
          have HNR := show Hid _ from new_rep (minute := minute) (B := B) hq1 HP.out hq (Nat.le_refl _) hown.out hB
          have htens : tens.length ≤ 1000 := by omega
          clear hm0 hm1 htl
          go_wp2_with fail
          go_ret3
          obtain ⟨r, h1, h2⟩ := HNR.out
          exact ⟨hq1r.alloc _, .inr ⟨⟨rs, tens, minute, 0, []⟩, wr.heap.size, r, HN4.out, rfl, h1, ⟨by simp, htens, fun i j c d hi => by simp at hi, fun c hc => by simp at hc, by simp⟩, h2⟩⟩
end Go.Proofs.YtdmaffciijmdcaaGreatDoor
/-
  What is made out of raw numbers reads back: figures, addresses, rules.
-/
namespace Go.Proofs.YtdmaffciijmdcaaGreatDoor.Plain

theorem figOf_nat {n : Nat} (h : n < 10) : (figOf n).toNat = 48 + n := by
  unfold figOf
  match n, h with
  | 0, _ => rfl
  | 1, _ => rfl
  | 2, _ => rfl
  | 3, _ => rfl
  | 4, _ => rfl
  | 5, _ => rfl
  | 6, _ => rfl
  | 7, _ => rfl
  | 8, _ => rfl
  | 9, _ => rfl
theorem fig_figOf {n : Nat} (h : n < 10) : fig (figOf n) = true := by
  unfold fig
  rw [figOf_nat h]
  simp; omega

/-- What figures are. -/
theorem digits_facts : ∀ (f n : Nat), n < f → (∀ c ∈ digits n, fig c = true) ∧ numVal (digits n) = n ∧ digits n ≠ [] ∧ ((digits n).head? = some 48 → n = 0)
  | f + 1, n, h => by
    rw [digits_eq]
    by_cases hn : n < 10
    · rw [if_pos hn]
      refine ⟨fun c hc => ?_, ?_, by simp, fun hh => ?_⟩
      · simp at hc; rw [hc]; exact fig_figOf hn
      · unfold numVal digit; simp [figOf_nat hn]
      · have e : figOf n = 48 := by simpa using hh
        have := figOf_nat hn
        rw [e] at this
        have e2 : (48 : UInt8).toNat = 48 := rfl
        omega
    · rw [if_neg hn]
      obtain ⟨h1, h2, h3, h4⟩ := digits_facts f (n / 10) (by omega)
      have hm : n % 10 < 10 := Nat.mod_lt _ (by decide)
      refine ⟨fun c hc => ?_, ?_, by simp, fun hh => ?_⟩
      · rcases List.mem_append.1 hc with hc | hc
        · exact h1 c hc
        · simp at hc; rw [hc]; exact fig_figOf hm
      · rw [numVal_snoc, h2]
        unfold digit
        rw [figOf_nat hm]; omega
      · have e : (digits (n / 10) ++ [figOf (n % 10)]).head? = (digits (n / 10)).head? := by
          cases hd : digits (n / 10) with
          | nil => exact absurd hd h3
          | cons a l => rfl
        rw [e] at hh
        have := h4 hh
        omega

theorem number_digits (n hi : Nat) (h : n ≤ hi) : number (digits n) hi = some n := by
  obtain ⟨h1, h2, h3, h4⟩ := digits_facts (n + 1) n (by omega)
  unfold number
  rw [if_pos, h2]
  refine ⟨?_, by rw [h2]; exact h⟩
  unfold numForm
  have e1 : (digits n).isEmpty = false := by
    cases hd : digits n with
    | nil => exact absurd hd h3
    | cons => rfl
  have e2 : allB fig (digits n) = true := by unfold allB; rw [List.all_eq_true]; exact h1
  rw [e1, e2]
  by_cases hh : (digits n).head? = some 48
  · have h0 := h4 hh
    subst h0
    rfl
  · have e3 : ((digits n).head? != some 48) = true := by rw [bne_iff_ne]; exact hh
    rw [e3]; simp

/-- A byte that a rule's field may hold. -/
def fieldB (c : UInt8) : Bool := small c || fig c || c == 45 || c == 46 || c == 47 || c == 42
theorem fieldB_fig {c : UInt8} (h : fig c = true) : fieldB c = true := by unfold fieldB; rw [h]; simp
theorem digits_mem {n : Nat} {c : UInt8} (h : c ∈ digits n) : fig c = true := (digits_facts (n + 1) n (by omega)).1 c h
theorem fig_not {c : UInt8} (h : fig c = true) (x : UInt8) (hx : fig x = false) : c ≠ x := fun e => by rw [e, hx] at h; cases h
theorem not_digits {n : Nat} (x : UInt8) (hx : fig x = false) : x ∉ digits n := fun hm => by rw [digits_mem hm] at hx; cases hx

theorem parts_first {c : UInt8} {a b : List UInt8} (h : c ∉ a) : parts c (a ++ c :: b) = a :: parts c b := by
  rw [parts_cut, cutAt_some.2 ⟨rfl, h⟩]
theorem parts_alone {c : UInt8} {a : List UInt8} (h : c ∉ a) : parts c a = [a] := by
  rw [parts_cut, cutAt_none.2 h]

/-- The four numbers of an address. -/
def oct (a : Nat) : List Nat := [a / 16777216, a / 65536 % 256, a / 256 % 256, a % 256]
theorem address_dotted (a : Nat) (h : a < 4294967296) : address (dotted a) = some (oct a) := by
  have hd : ∀ n, (46 : UInt8) ∉ digits n := fun n => not_digits 46 (by decide)
  have hp : parts 46 (dotted a) = [digits (a / 16777216), digits (a / 65536 % 256), digits (a / 256 % 256), digits (a % 256)] := by
    unfold dotted
    rw [show digits (a / 16777216) ++ [46] ++ digits (a / 65536 % 256) ++ [46] ++ digits (a / 256 % 256) ++ [46] ++ digits (a % 256) = digits (a / 16777216) ++ 46 :: (digits (a / 65536 % 256) ++ 46 :: (digits (a / 256 % 256) ++ 46 :: digits (a % 256))) by simp]
    rw [parts_first (hd _), parts_first (hd _), parts_first (hd _), parts_alone (hd _)]
  unfold address
  rw [hp, if_pos (by rfl)]
  have h1 := number_digits (a / 16777216) 255 (by omega)
  have h2 := number_digits (a / 65536 % 256) 255 (by omega)
  have h3 := number_digits (a / 256 % 256) 255 (by omega)
  have h4 := number_digits (a % 256) 255 (by omega)
  simp [octets, h1, h2, h3, h4, oct]

theorem upto32 {b : Nat} (h : b < 33) : b = 0 ∨ b = 1 ∨ b = 2 ∨ b = 3 ∨ b = 4 ∨ b = 5 ∨ b = 6 ∨ b = 7 ∨ b = 8 ∨ b = 9 ∨ b = 10 ∨ b = 11 ∨ b = 12 ∨ b = 13 ∨ b = 14 ∨ b = 15 ∨ b = 16 ∨ b = 17 ∨ b = 18 ∨ b = 19 ∨ b = 20 ∨ b = 21 ∨ b = 22 ∨ b = 23 ∨ b = 24 ∨ b = 25 ∨ b = 26 ∨ b = 27 ∨ b = 28 ∨ b = 29 ∨ b = 30 ∨ b = 31 ∨ b = 32 := by omega

/-- The first bits of q are those of the block of A: in numbers. -/
theorem firstN_block (b q A : Nat) (hb : b < 33) (hq : q < 4294967296) (hA : A < 4294967296) :
    (firstN b (oct q) = oct (A / 2 ^ (32 - b) * 2 ^ (32 - b))) ↔ q / 2 ^ (32 - b) = A / 2 ^ (32 - b) := by
  unfold oct firstN keep
  rcases upto32 hb with h | h | h | h | h | h | h | h | h | h | h | h | h | h | h | h | h | h | h | h | h | h | h | h | h | h | h | h | h | h | h | h | h <;> subst h <;> simp <;> omega
theorem firstN_self (b A : Nat) (hb : b < 33) (hA : A < 4294967296) : firstN b (oct (A / 2 ^ (32 - b) * 2 ^ (32 - b))) = oct (A / 2 ^ (32 - b) * 2 ^ (32 - b)) := by
  have hv : 0 < 2 ^ (32 - b) := Nat.pow_pos (by decide)
  have hle : A / 2 ^ (32 - b) * 2 ^ (32 - b) ≤ A := Nat.div_mul_le_self _ _
  refine (firstN_block b _ A hb (by omega) hA).2 ?_
  rw [Nat.mul_div_cancel _ hv]
end Go.Proofs.YtdmaffciijmdcaaGreatDoor.Plain

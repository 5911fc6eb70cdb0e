/-
  The document's answer: base 64.
-/
import Derived.Test.YtdmaffciijmdcaaGreatDoorRG3ToRG4
import Derived.Test.YtdmaffciijmdcaaGreatDoorHeads4ToB64
import Derived.Test.YtdmaffciijmdcaaGreatDoorRMoreToRG2
namespace Go.Proofs.YtdmaffciijmdcaaGreatDoor
namespace Plain
/-- The number of the first j of three bytes from place i on (0 where there is none). -/
def numK (T : List UInt8) (i : Nat) : Nat → Nat
  | 0 => 0
  | j + 1 => numK T i j * 256 + (T.getD (i + j) 0).toNat
theorem numK_lt (T : List UInt8) (i : Nat) : ∀ j, numK T i j < 256 ^ j
  | 0 => by simp [numK]
  | j + 1 => by
    have h := numK_lt T i j
    have := (T.getD (i + j) 0).toNat_lt
    rw [numK, Nat.pow_succ]
    omega
theorem numK_three (T : List UInt8) (i : Nat) : numK T i 3 = bits3 (T.getD i 0) (T.getD (i + 1) 0) (T.getD (i + 2) 0) := by
  simp only [numK, bits3, Nat.add_zero]
  omega
/-- The last j of the four letters. -/
def fourK (N : Nat) : Nat → List UInt8
  | 0 => []
  | j + 1 => six (N / 64 ^ j) :: fourK N j
theorem fourK_len (N : Nat) : ∀ j, (fourK N j).length = j
  | 0 => rfl
  | j + 1 => by simp [fourK, fourK_len N j]
theorem fourK_four (N : Nat) : fourK N 4 = [six (N / 262144), six (N / 4096), six (N / 64), six N] := by simp [fourK]
/-- What a round puts down. -/
theorem quad_at (T : List UInt8) (i : Nat) : (i + 3 ≤ T.length → quad (T.drop i) = fourK (numK T i 3) 4) ∧ (i + 2 = T.length → quad (T.drop i) = (fourK (numK T i 3) 4).take 3 ++ [61]) ∧ (i + 1 = T.length → quad (T.drop i) = (fourK (numK T i 3) 4).take 2 ++ [61, 61]) := by
  rw [numK_three, fourK_four]
  have e0 : T.getD i 0 = (T.drop i).getD 0 0 := by simp
  have e1 : T.getD (i + 1) 0 = (T.drop i).getD 1 0 := by simp
  have e2 : T.getD (i + 2) 0 = (T.drop i).getD 2 0 := by simp
  rw [e0, e1, e2]
  have hl : (T.drop i).length = T.length - i := List.length_drop
  rcases hd : T.drop i with _ | ⟨a, _ | ⟨b, _ | ⟨c, r⟩⟩⟩ <;> rw [hd] at hl <;> simp at hl
  · exact ⟨fun h => by omega, fun h => by omega, fun h => by omega⟩
  · refine ⟨fun h => by omega, fun h => by omega, fun h => ?_⟩
    simp [quad]
  · refine ⟨fun h => by omega, fun h => ?_, fun h => by omega⟩
    simp [quad]
  · refine ⟨fun h => ?_, fun h => by omega, fun h => by omega⟩
    simp [quad]
theorem quad_len (l : List UInt8) : (quad l).length ≤ 4 := by
  rcases l with _ | ⟨a, _ | ⟨b, _ | ⟨c, r⟩⟩⟩ <;> simp [quad]
end Plain
open Go.RowKit Plain

theorem six_slice0 (x : Nat) (h : x < 64) : LA.extract x (x + 1) = ⟨[six x].toArray⟩ := by
  have hs : LA.size = 64 := rfl
  rw [← Lib.mk_data (LA.extract x (x + 1))]
  congr 1
  apply congrArg
  apply List.ext_getElem
  · simp
    have : LA.data.size = 64 := rfl
    omega
  · intro j h1 h2
    have : j = 0 := by simpa using h2
    subst this
    have hx : LA[x]'(by rw [hs]; exact h) = six x := la_get x x (Nat.mod_eq_of_lt h).symm (by rw [hs]; exact h)
    simp only [List.getElem_singleton, ← hx]
    simp
    rfl
theorem six_mod (n : Nat) : six (n % 64) = six n := by unfold six; rw [Nat.mod_mod]

set_option maxRecDepth 100000 in
set_option maxHeartbeats 3200000 in
theorem rbase64_any (T : List UInt8) (w : World) (hT : T.length ≤ 1000) :
    Calls Tryz.prog 112 #[.string ⟨T.toArray⟩] w fun e w' => e = .returned (str (b64 T)) ∧ Q w w' := by
  have hsz : (⟨T.toArray⟩ : ByteArray).size = T.length := rfl
  go_enter Tryz.func112, Tryz.ntmps112
  go_wp2_with fail
  go_loopw [3, 4, 5, 6, 7, 8] (fun o i _ _ _ _ wr => ∃ (k : Nat) (done : List UInt8), k ≤ 1003 ∧ i = .int .i64 (k : Int) ∧ o = .string ⟨done.toArray⟩ ∧ done.length ≤ 4 * k ∧ wr = w ∧ Hid (b64 T = done ++ b64 (T.drop k))) (fun _ i _ _ _ _ _ => T.length + 3 - (intOf i).toNat)
  case atStart => exact ⟨0, [], by omega, rfl, rfl, by simp, rfl, rfl⟩
  case round =>
    obtain ⟨k, done, hk, rfl, rfl, hdl, hwr, hsp⟩ := hrel
    rw [hwr]
    clear hwr
    by_cases hlt : k < T.length
    · have d0 : decide ((k : Int) < (T.length : Int)) = true := decide_eq_true (by omega)
      go_wp2_with fail
      go_loopw [5, 6] (fun n j wr => ∃ m : Nat, m ≤ 3 ∧ j = .int .i64 (m : Int) ∧ n = .int .i64 (numK T k m : Nat) ∧ wr = w) (fun _ j _ => 3 - (intOf j).toNat)
      case atStart => exact ⟨0, by omega, rfl, rfl, rfl⟩
      case round =>
        obtain ⟨m, hm, rfl, rfl, hwr⟩ := hrel
        rw [hwr]
        clear hwr
        by_cases hm3 : m < 3
        · have hN := numK_lt T k m
          have hN2 : 256 ^ m ≤ 256 ^ 2 := Nat.pow_le_pow_right (by decide) (by omega)
          have hS : numK T k (m + 1) = numK T k m * 256 + (T.getD (k + m) 0).toNat := rfl
          have HS := show Hid _ from hS
          clear hS
          by_cases hin : k + m < T.length
          · have hg : T.getD (k + m) 0 = (⟨T.toArray⟩ : ByteArray)[k + m] := by
              rw [List.getD_eq_getElem?_getD, List.getElem?_eq_getElem hin]; rfl
            rw [hg] at HS
            have hb := (⟨T.toArray⟩ : ByteArray)[k + m].toNat_lt
            have d1 : decide ((k : Int) + (m : Int) < (T.length : Int)) = true := decide_eq_true (by omega)
            clear hg
            generalize numK T k m = N at *
            have hNb : N < 65536 := by omega
            clear hN hN2
            go_wp2_with fail
            exact ⟨⟨m + 1, by omega, by go_num, by rw [HS.out]; go_num, by trivial⟩, by simp [intOf]; omega⟩
          · have hg : T.getD (k + m) 0 = 0 := by
              rw [List.getD_eq_getElem?_getD, List.getElem?_eq_none (by omega)]; rfl
            rw [hg] at HS
            have d1 : decide ((k : Int) + (m : Int) < (T.length : Int)) = false := decide_eq_false (by omega)
            clear hg
            generalize numK T k m = N at *
            have hNb : N < 65536 := by omega
            clear hN hN2
            go_wp2_with fail
            exact ⟨⟨m + 1, by omega, by go_num, by rw [HS.out]; go_num, by trivial⟩, by simp [intOf]; omega⟩
        · have hm3' : m = 3 := by omega
          subst hm3'
          have hN : numK T k 3 < 16777216 := numK_lt T k 3
          have HQ4 := show Hid _ from quad_at T k
          generalize numK T k 3 = N at *
          go_wp2_with fail
          go_loopw [5, 7, 8] (fun n f j wr => ∃ m : Nat, m ≤ 4 ∧ j = .int .i64 (m : Int) ∧ n = .int .i64 ((N / 64 ^ m : Nat) : Int) ∧ f = .string ⟨(fourK N m).toArray⟩ ∧ wr = w) (fun _ _ j _ => 4 - (intOf j).toNat)
          case atStart => exact ⟨0, by omega, rfl, by simp, rfl, rfl⟩
          case round =>
            obtain ⟨m, hm, rfl, rfl, rfl, hwr⟩ := hrel
            rw [hwr]
            clear hwr
            by_cases hm4 : m < 4
            · obtain ⟨M, hM⟩ : ∃ M, M = N / 64 ^ m := ⟨_, rfl⟩
              have hMl : M ≤ N := by rw [hM]; exact Nat.div_le_self _ _
              have HM1 : Hid (N / 64 ^ (m + 1) = M / 64) := by
                show _ = _
                rw [hM, Nat.pow_succ, Nat.div_div_eq_div_mul]
              have HF : Hid (fourK N (m + 1) = six (M % 64) :: fourK N m) := by
                show six (N / 64 ^ m) :: fourK N m = _
                rw [six_mod, hM]
              have hfl := fourK_len N m
              rw [← hM]
              clear hM
              obtain ⟨x, hx⟩ : ∃ x, x = M % 64 := ⟨_, rfl⟩
              obtain ⟨y, hy⟩ : ∃ y, y = M / 64 := ⟨_, rfl⟩
              have hx64 : x < 64 := by omega
              have hyM : y ≤ M := by omega
              have e1 : (M : Int).tmod 64 = (x : Int) := by rw [Int.tmod_eq_emod_of_nonneg (by omega)]; omega
              have e2 : (M : Int) % 64 = (x : Int) := by omega
              have e3 : (M : Int).tdiv 64 = (y : Int) := by rw [Int.tdiv_eq_ediv_of_nonneg (by omega)]; omega
              have e4 : (M : Int) / 64 = (y : Int) := by omega
              have hex := six_slice0 x hx64
              rw [← hx] at HF
              rw [← hy] at HM1
              clear hx hy
              obtain ⟨X, hX⟩ : ∃ X : ByteArray, X = ⟨[six x].toArray⟩ := ⟨_, rfl⟩
              have hXs : X.size = 1 := by rw [hX]; rfl
              rw [← hX] at hex
              have HX := show Hid _ from hX
              clear hX
              obtain ⟨F, hF⟩ : ∃ F : ByteArray, F = ⟨(fourK N m).toArray⟩ := ⟨_, rfl⟩
              have hFs : F.size = m := by rw [hF]; exact hfl
              rw [← hF]
              have HFe := show Hid _ from hF
              clear hF hfl
              go_wp2_with fail
              refine ⟨⟨m + 1, by omega, by go_num, by rw [HM1.out], ?_, by trivial⟩, by simp [intOf]; omega⟩
              rw [HX.out, HFe.out, HF.out, str_app0]
              rfl
            · have hm4' : m = 4 := by omega
              subst hm4'
              have hfl := fourK_len N 4
              generalize fourK N 4 = F4 at *
              have hF4 : (⟨F4.toArray⟩ : ByteArray).size = 4 := hfl
              have hx3 := pre_str F4 3
              have hx2 := pre_str F4 2
              have HNE : Hid (T.drop k ≠ []) := by
                intro e
                have := congrArg List.length e
                simp at this
                omega
              have HNx : ∀ q : List UInt8, quad (T.drop k) = q → Hid (b64 T = (done ++ q) ++ b64 (T.drop (k + 3))) := fun q hq => by
                show _ = _
                rw [hsp.out, b64_quad _ HNE.out, List.drop_drop, hq, List.append_assoc]
              have hDs : (⟨done.toArray⟩ : ByteArray).size = done.length := rfl
              by_cases h3 : k + 3 ≤ T.length
              · have d1 : decide ((T.length : Int) ≤ (k : Int) + 2) = false := decide_eq_false (by omega)
                have d2 : decide ((T.length : Int) ≤ (k : Int) + 1) = false := decide_eq_false (by omega)
                have HN := HNx _ (HQ4.out.1 h3)
                clear HNx HQ4 HNE hx3 hx2
                go_wp2_with fail
                exact ⟨⟨k + 3, done ++ F4, by omega, by go_num, by rw [str_app0], by rw [List.length_append]; omega, by trivial, HN⟩, by simp [intOf]; omega⟩
              by_cases h2 : k + 2 = T.length
              · have d1 : decide ((T.length : Int) ≤ (k : Int) + 2) = true := decide_eq_true (by omega)
                have d2 : decide ((T.length : Int) ≤ (k : Int) + 1) = false := decide_eq_false (by omega)
                have HN := HNx _ (HQ4.out.2.1 h2)
                have hl3 : (F4.take 3).length = 3 := by rw [List.length_take]; omega
                clear HNx HQ4 HNE hx2
                generalize F4.take 3 = F3 at *
                have hF3 : (⟨F3.toArray⟩ : ByteArray).size = 3 := hl3
                go_wp2_with fail
                exact ⟨⟨k + 3, done ++ (F3 ++ [61]), by omega, by go_num, by rw [← str_app0, ← str_app0], by rw [List.length_append, List.length_append]; simp; omega, by trivial, HN⟩, by simp [intOf]; omega⟩
              · have h1 : k + 1 = T.length := by omega
                have d1 : decide ((T.length : Int) ≤ (k : Int) + 2) = true := decide_eq_true (by omega)
                have d2 : decide ((T.length : Int) ≤ (k : Int) + 1) = true := decide_eq_true (by omega)
                have HN := HNx _ (HQ4.out.2.2 h1)
                have hl3 : (F4.take 3).length = 3 := by rw [List.length_take]; omega
                have hl2 : (F4.take 2).length = 2 := by rw [List.length_take]; omega
                have h32 : ((⟨(F4.take 3).toArray⟩ : ByteArray) ++ (⟨#[61]⟩ : ByteArray)).extract 0 2 = ⟨(F4.take 2).toArray⟩ := by
                  rw [show (⟨#[61]⟩ : ByteArray) = ⟨[61].toArray⟩ from rfl, str_app0, pre_str, List.take_append_of_le_length (by omega), List.take_take, show min 2 3 = 2 from rfl]
                clear HNx HQ4 HNE hx2
                generalize F4.take 3 = F3 at *
                generalize F4.take 2 = F2 at *
                have hF3 : (⟨F3.toArray⟩ : ByteArray).size = 3 := hl3
                have hF2 : (⟨F2.toArray⟩ : ByteArray).size = 2 := hl2
                go_wp2_with fail
                exact ⟨⟨k + 3, done ++ (F2 ++ [61, 61]), by omega, by go_num, by rw [← str_app0, ← str_app0], by rw [List.length_append, List.length_append]; simp; omega, by trivial, HN⟩, by simp [intOf]; omega⟩
    · have d0 : decide ((k : Int) < (T.length : Int)) = false := decide_eq_false (by omega)
      have HE : Hid (b64 T = done) := by
        show _ = _
        rw [hsp.out, List.drop_eq_nil_of_le (by omega)]
        simp [b64]
      go_wp2_with fail
      go_ret
      exact ⟨by rw [HE.out]; rfl, Q.refl w⟩
end Go.Proofs.YtdmaffciijmdcaaGreatDoor
/-
  The document's answer, as plain functions; what it says of rules and questions is what the program's plain functions say.
-/
namespace Go.Proofs.YtdmaffciijmdcaaGreatDoor.Plain

def whereR (s host : List UInt8) : Bool × Bool :=
  if s = [42] then (true, true) else match parts 47 s with
    | [a, n] => if addrR a < 0 ∨ numR n 32 < 0 ∨ ¬ addrR a % (sizeR (numR n 32).toNat : Nat) = 0 then (false, false)
      else (decide (addrR a ≤ addrR host) && decide (addrR host < addrR a + (sizeR (numR n 32).toNat : Nat)), true)
    | _ => if s[0]? = some 46 then (nameOk host && (host == s.drop 1 || (decide (s.length ≤ host.length) && host.drop (host.length - s.length) == s)), nameOk (s.drop 1))
      else (host == s, nameOk s)
def portR (s : List UInt8) (n : Int) : Bool × Bool :=
  if s = [42] then (true, true) else if 0 ≤ numR s 65535 then (n == numR s 65535, true)
  else (decide ((pairR s 65535).1 ≤ n) && decide (n ≤ (pairR s 65535).2), decide (0 ≤ (pairR s 65535).1) && decide ((pairR s 65535).1 ≤ (pairR s 65535).2))
def minuteR (s : List UInt8) (n : Int) : Bool × Bool :=
  if s = [42] then (true, true) else if (pairR s 10079).1 ≤ (pairR s 10079).2 then (decide ((pairR s 10079).1 ≤ n) && decide (n ≤ (pairR s 10079).2), decide (0 ≤ (pairR s 10079).1))
  else (decide ((pairR s 10079).1 ≤ n) || decide (n ≤ (pairR s 10079).2), true)
def allowB : List UInt8 := [97, 108, 108, 111, 119]
def denyW : List UInt8 := [100, 101, 110, 121]
def fitsR (l : List (List UInt8)) (t h : List UInt8) (p m : Int) : Bool × Bool := match l with
  | [f0, f1, f2, f3, f4] => if f0 ≠ allowB ∧ f0 ≠ denyW then (false, false)
    else ((f1 == [42] || f1 == t) && (whereR f2 h).1 && (portR f3 p).1 && (minuteR f4 m).1, (tenantOk f1 || f1 == [42]) && (whereR f2 h).2 && (portR f3 p).2 && (minuteR f4 m).2)
  | _ => (false, false)

/-! ### ports, minutes -/
theorem cut45_number {s : List UInt8} {most n : Nat} (h : number s most = some n) : cutAt 45 s = none := cutAt_none.2 (num_no45 h)
theorem pairR_cut {s : List UInt8} {most : Nat} (h : cutAt 45 s = none) : pairR s most = (-1, -1) := by unfold pairR span; rw [h]
theorem pairR_span (s : List UInt8) (most : Nat) : (span s most = none ∧ pairR s most = (-1, -1)) ∨ ∃ x y : Nat, span s most = some (x, y) ∧ pairR s most = ((x : Int), (y : Int)) := by
  unfold pairR
  cases h : span s most with
  | none => exact .inl ⟨rfl, rfl⟩
  | some v => obtain ⟨x, y⟩ := v; exact .inr ⟨x, y, rfl, rfl⟩

theorem port_ok (s : List UInt8) (n : Int) : (portR s n).2 = (readPortP s).isSome := by
  unfold portR readPortP
  by_cases h : s = [42]
  · rw [if_pos h, if_pos h]; rfl
  · rw [if_neg h, if_neg h]
    rcases numR_cases s 65535 with ⟨hn, hr⟩ | ⟨x, hn, hr, _⟩
    · rw [hr, if_neg (by decide)]
      cases hc : cutAt 45 s with
      | none => rw [pairR_cut hc, hn]; rfl
      | some v =>
        rcases pairR_span s 65535 with ⟨h1, h2⟩ | ⟨x, y, h1, h2⟩
        · rw [h1, h2]; rfl
        · rw [h1, h2]
          dsimp only
          by_cases hxy : x ≤ y
          · rw [if_pos hxy, decide_eq_true (by omega), decide_eq_true (by omega)]; rfl
          · rw [if_neg hxy, decide_eq_true (by omega), decide_eq_false (by omega)]; rfl
    · rw [hr, if_pos (by omega), cut45_number hn, hn]; rfl
theorem port_fit {s : List UInt8} {n : Int} {p : Option (Nat × Nat)} (h : readPortP s = some p) : (portR s n).1 = portFits p n := by
  unfold readPortP at h
  unfold portR
  by_cases h0 : s = [42]
  · rw [if_pos h0] at h ⊢; cases h; rfl
  · rw [if_neg h0] at h ⊢
    rcases numR_cases s 65535 with ⟨hn, hr⟩ | ⟨x, hn, hr, _⟩
    · rw [hr, if_neg (by decide)]
      cases hc : cutAt 45 s with
      | none => rw [hc, hn] at h; cases h
      | some v =>
        rw [hc] at h
        rcases pairR_span s 65535 with ⟨h1, h2⟩ | ⟨x, y, h1, h2⟩
        · rw [h1] at h; cases h
        · rw [h1] at h
          dsimp only at h
          split at h
          · cases h; rw [h2]; rfl
          · cases h
    · rw [hr, if_pos (by omega)]
      rw [cut45_number hn, hn] at h
      cases h
      show (n == (x : Int)) = (decide ((x : Int) ≤ n) && decide (n ≤ (x : Int)))
      rw [Bool.eq_iff_iff]; simp; omega
theorem minute_ok (s : List UInt8) (n : Int) : (minuteR s n).2 = (readMinP s).isSome := by
  unfold minuteR readMinP
  by_cases h : s = [42]
  · rw [if_pos h, if_pos h]; rfl
  · rw [if_neg h, if_neg h]
    rcases pairR_span s 10079 with ⟨h1, h2⟩ | ⟨x, y, h1, h2⟩
    · rw [h1, h2]; rfl
    · rw [h1, h2]
      dsimp only
      split
      · show decide (0 ≤ (x : Int)) = true
        exact decide_eq_true (by omega)
      · rfl
theorem minute_fit {s : List UInt8} {n : Int} {p : Option (Nat × Nat)} (h : readMinP s = some p) : (minuteR s n).1 = minFits p n := by
  unfold readMinP at h
  unfold minuteR
  by_cases h0 : s = [42]
  · rw [if_pos h0] at h ⊢; cases h; rfl
  · rw [if_neg h0] at h ⊢
    rcases pairR_span s 10079 with ⟨h1, h2⟩ | ⟨x, y, h1, h2⟩
    · rw [h1] at h; cases h
    · rw [h1] at h
      cases h
      rw [h2]
      unfold minFits
      dsimp only
      by_cases hxy : y < x
      · rw [if_neg (by omega), if_pos hxy]
      · rw [if_pos (by omega), if_neg hxy]

/-! ### hosts -/
theorem name_no47 {l : List UInt8} (h : nameOk l = true) : (47 : UInt8) ∉ l := by
  intro hm
  unfold nameOk at h
  simp only [Bool.and_eq_true] at h
  rcases mem_parts0 (s := 46) hm with h1 | ⟨p, hp, hc⟩
  · cases h1
  · have h2 := List.all_eq_true.1 h.1.2 p hp
    unfold labelOk at h2
    simp only [Bool.and_eq_true] at h2
    have h3 := List.all_eq_true.1 h2.1.2 47 hc
    cases h3
theorem name_ne {l : List UInt8} (h : nameOk l = true) : l ≠ [] := by intro e; rw [e] at h; cases h
theorem name_last {l : List UInt8} (h : nameOk l = true) : allB fig (lastPart l) = false := by
  unfold nameOk at h
  simp only [Bool.and_eq_true] at h
  have := h.2
  unfold lastPart
  simpa using this
theorem num_no47 {l : List UInt8} {most n : Nat} (h : number l most = some n) : (47 : UInt8) ∉ l := by
  unfold number at h
  split at h
  · rename_i hx
    have hf := hx.1
    unfold numForm at hf
    simp only [Bool.and_eq_true] at hf
    intro hm
    have := List.all_eq_true.1 hf.1.2 47 hm
    cases this
  · cases h
theorem octVal_four (a b c d : Nat) : octVal [a, b, c, d] = ((a * 256 + b) * 256 + c) * 256 + d := by simp [octVal]
theorem oct_octVal {a b c d : Nat} (_ha : a ≤ 255) (hb : b ≤ 255) (hc : c ≤ 255) (hd : d ≤ 255) : oct0 (octVal [a, b, c, d]) = [a, b, c, d] := by
  rw [octVal_four]
  unfold oct0
  simp only [List.cons.injEq, and_true]
  omega
theorem octVal_oct {q : Nat} (h : q < 4294967296) : octVal (oct0 q) = q := by
  unfold oct0
  rw [octVal_four]; omega
theorem octVal_lt {a b c d : Nat} (ha : a ≤ 255) (hb : b ≤ 255) (hc : c ≤ 255) (hd : d ≤ 255) : octVal [a, b, c, d] < 4294967296 := by rw [octVal_four]; omega
/-- An address: four numbers. -/
theorem address_four {l : List UInt8} {ns : List Nat} (h : address l = some ns) : ∃ q, q < 4294967296 ∧ ns = oct0 q ∧ addrR l = (q : Int) := by
  obtain ⟨_, _, _, _, a, b, c, d, _, he, h0, h1, h2, h3⟩ := address_some h
  have e : ns = [a, b, c, d] := he
  refine ⟨octVal ns, ?_, ?_, ?_⟩
  · rw [e]; exact octVal_lt (number_le h0) (number_le h1) (number_le h2) (number_le h3)
  · rw [e]; exact (oct_octVal (number_le h0) (number_le h1) (number_le h2) (number_le h3)).symm
  · unfold addrR; rw [h]
theorem address_none {l : List UInt8} (h : address l = none) : addrR l = -1 := by unfold addrR; rw [h]
theorem first_self_iff (k q : Nat) (hk : k < 33) (hq : q < 4294967296) : firstN k (oct0 q) = oct0 q ↔ q % 2 ^ (32 - k) = 0 := by
  have h := (firstN_block0 k q q hk hq hq).2 rfl
  rw [h]
  have hv : 0 < 2 ^ (32 - k) := Nat.pow_pos (by decide)
  generalize 2 ^ (32 - k) = V at *
  have hle : q / V * V ≤ q := Nat.div_mul_le_self _ _
  have hdm := Nat.div_add_mod q V
  rw [Nat.mul_comm] at hdm
  constructor
  · intro e
    have := congrArg octVal e
    rw [octVal_oct (by omega), octVal_oct hq] at this
    omega
  · intro e
    rw [show q / V * V = q by omega]
theorem block_iff {q A V : Nat} (hV : 0 < V) (hA : A % V = 0) : q / V = A / V ↔ A ≤ q ∧ q < A + V := by
  have h1 := Nat.div_add_mod q V
  have h2 := Nat.div_add_mod A V
  have h3 := Nat.mod_lt q hV
  rw [hA, Nat.add_zero] at h2
  constructor
  · intro e; rw [e, h2] at h1; omega
  · intro ⟨ha, hb⟩
    have hd : A / V ≤ q / V := Nat.div_le_div_right ha
    have hu : q / V < A / V + 1 := by
      rw [Nat.div_lt_iff_lt_mul hV, Nat.add_mul, Nat.one_mul, Nat.mul_comm (A / V) V, h2]
      exact hb
    omega

theorem whereR_star (host : List UInt8) : whereR [42] host = (true, true) := rfl
theorem whereR_two {s host a n : List UInt8} (h0 : ¬ s = [42]) (h : parts 47 s = [a, n]) : whereR s host = if addrR a < 0 ∨ numR n 32 < 0 ∨ ¬ addrR a % (sizeR (numR n 32).toNat : Nat) = 0 then (false, false)
      else (decide (addrR a ≤ addrR host) && decide (addrR host < addrR a + (sizeR (numR n 32).toNat : Nat)), true) := by
  unfold whereR
  rw [if_neg h0, h]
theorem whereR_other {s host : List UInt8} (h0 : ¬ s = [42]) (h : ¬ (parts 47 s).length = 2) : whereR s host = if s[0]? = some 46 then (nameOk host && (host == s.drop 1 || (decide (s.length ≤ host.length) && host.drop (host.length - s.length) == s)), nameOk (s.drop 1))
      else (host == s, nameOk s) := by
  unfold whereR
  rw [if_neg h0]
  split
  · rename_i he; rw [he] at h; exact absurd rfl h
  · rfl
theorem cut_two {c : UInt8} {s a r : List UInt8} (hc : cutAt c s = some (a, r)) (hr : c ∉ r) : parts c s = [a, r] := by
  rw [parts_cut, hc]
  show a :: parts c r = [a, r]
  rw [parts_alone0 hr]
theorem cut_moreR {c : UInt8} {s a r : List UInt8} (hc : cutAt c s = some (a, r)) (hr : c ∈ r) : ¬ (parts c s).length = 2 := by
  rw [parts_cut, hc]
  have : 2 ≤ (parts c r).length := by
    rw [parts_length]
    have := List.count_pos_iff.2 hr
    omega
  show ¬ (a :: parts c r).length = 2
  rw [List.length_cons]; omega
theorem cut_one {c : UInt8} {s : List UInt8} (hc : cutAt c s = none) : ¬ (parts c s).length = 2 := by rw [parts_cut, hc]; simp
theorem cut_mem {c : UInt8} {s a r : List UInt8} (hc : cutAt c s = some (a, r)) : c ∈ s := by
  cases h : decide (c ∈ s) with
  | true => exact of_decide_eq_true h
  | false => rw [cutAt_none.2 (of_decide_eq_false h)] at hc; cases hc

theorem readHostP_name {s : List UInt8} (h0 : ¬ s = [42]) (hc : cutAt 47 s = none) : readHostP s = if s[0]? = some 46 then (if nameOk (s.drop 1) = true then some ⟨2, s.drop 1, [], 0⟩ else none) else if nameOk s = true then some ⟨1, s, [], 0⟩ else none := by
  unfold readHostP
  rw [if_neg h0, hc]
  dsimp only
  rw [List.head?_eq_getElem?, List.drop_one]
theorem readHostP_net {s a r : List UInt8} (h0 : ¬ s = [42]) (hc : cutAt 47 s = some (a, r)) : readHostP s = readNetP a r := by
  unfold readHostP
  rw [if_neg h0, hc]

/-- What readNetP says, in numbers. -/
theorem net_cases (a r : List UInt8) : (readNetP a r = none ∧ (addrR a < 0 ∨ numR r 32 < 0 ∨ ¬ addrR a % (sizeR (numR r 32).toNat : Nat) = 0)) ∨
    ∃ A k : Nat, A < 4294967296 ∧ k ≤ 32 ∧ addrR a = (A : Int) ∧ numR r 32 = (k : Int) ∧ A % 2 ^ (32 - k) = 0 ∧ readNetP a r = some ⟨3, [], oct0 A, k⟩ := by
  unfold readNetP
  cases ha : address a with
  | none => exact .inl ⟨rfl, .inl (by rw [address_none ha]; decide)⟩
  | some ad =>
    obtain ⟨A, hA, rfl, hR⟩ := address_four ha
    rcases numR_cases r 32 with ⟨hn, hr⟩ | ⟨k, hn, hr, hk⟩
    · exact .inl ⟨by rw [hn], .inr (.inl (by rw [hr]; decide))⟩
    · rw [hn]
      dsimp only
      have hiff := first_self_iff k A (by omega) hA
      by_cases hm : A % 2 ^ (32 - k) = 0
      · rw [if_pos (hiff.2 hm)]
        exact .inr ⟨A, k, hA, hk, hR, hr, hm, rfl⟩
      · rw [if_neg (fun e => hm (hiff.1 e))]
        refine .inl ⟨rfl, .inr (.inr ?_)⟩
        rw [hR, hr]
        unfold sizeR
        rw [Int.toNat_natCast, ← Int.natCast_emod]
        omega

theorem where_ok (s host : List UInt8) : (whereR s host).2 = (readHostP s).isSome := by
  by_cases h0 : s = [42]
  · rw [h0]; rfl
  · cases hc : cutAt 47 s with
    | none =>
      rw [whereR_other h0 (cut_one hc), readHostP_name h0 hc]
      by_cases hd : s[0]? = some 46
      · rw [if_pos hd, if_pos hd]; cases nameOk (s.drop 1) <;> rfl
      · rw [if_neg hd, if_neg hd]; cases nameOk s <;> rfl
    | some x =>
      obtain ⟨a, r⟩ := x
      rw [readHostP_net h0 hc]
      by_cases hr : (47 : UInt8) ∈ r
      · rw [whereR_other h0 (cut_moreR hc hr)]
        have hn : readNetP a r = none := by
          unfold readNetP
          cases address a with
          | none => rfl
          | some ad =>
            cases hk : number r 32 with
            | none => rfl
            | some k => exact absurd hr (num_no47 hk)
        rw [hn]
        have hm := cut_mem hc
        have hns : nameOk s = false := by
          cases h : nameOk s with
          | false => rfl
          | true => exact absurd hm (name_no47 h)
        by_cases hd : s[0]? = some 46
        · rw [if_pos hd]
          show nameOk (s.drop 1) = false
          cases h : nameOk (s.drop 1) with
          | false => rfl
          | true =>
            exfalso
            apply name_no47 h
            cases s with
            | nil => cases hm
            | cons b l =>
              simp at hd
              subst hd
              simp at hm
              simpa using hm
        · rw [if_neg hd]; exact hns
      · rw [whereR_two h0 (cut_two hc hr)]
        rcases net_cases a r with ⟨h1, h2⟩ | ⟨A, k, hA, hk, hR, hN, hm, h1⟩
        · rw [if_pos h2, h1]; rfl
        · rw [if_neg, h1]; · rfl
          rw [hR, hN]
          unfold sizeR
          rw [Int.toNat_natCast, ← Int.natCast_emod, hm]
          omega
end Go.Proofs.YtdmaffciijmdcaaGreatDoor.Plain

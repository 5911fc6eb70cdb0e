/-
  The statements' own base 64, and heads.
-/
import Derived.Test.YtfkggpminmonmaaGreatDoorMath3ToKSec
import Derived.Deep.RegionWith
namespace Go.Proofs.YtfkggpminmonmaaGreatDoor
open Go.RowKit Plain

theorem six_slice (x : Nat) (h : x < 64) : LA.extract x (x + 1) = ⟨[six x].toArray⟩ := by
  have hs : LA.size = 64 := rfl
  rw [← Lib.mk_data (LA.extract x (x + 1))]
  congr 1
  apply congrArg
  apply List.ext_getElem
  · simp
    have : LA.data.size = 64 := rfl
    omega
  · intro j h1 h2
    have : j = 0 := by simpa using h2
    subst this
    have hx : LA[x]'(by rw [hs]; exact h) = six x := la_get x x (Nat.mod_eq_of_lt h).symm (by rw [hs]; exact h)
    simp only [List.getElem_singleton, ← hx]
    simp
    rfl

theorem drop_byte (s : ByteArray) (i : Nat) (h : i < s.size) : s.data.toList.drop i = s[i] :: s.data.toList.drop (i + 1) := by
  rw [List.drop_eq_getElem_cons (by rw [size_len]; exact h)]; rfl

/-- What the walk asks of one number below 2 to the 24. -/
theorem six_facts (N : Nat) (hN : N < 16777216) : ∃ (x1 y2 x2 y3 x3 x4 : Nat) (X1 X2 X3 X4 : ByteArray), ((N : Int).tdiv 262144 = (x1 : Int) ∧ (N : Int) / 262144 = (x1 : Int)) ∧ ((N : Int).tdiv 4096 = (y2 : Int) ∧ (N : Int) / 4096 = (y2 : Int)) ∧ ((y2 : Int).tmod 64 = (x2 : Int) ∧ (y2 : Int) % 64 = (x2 : Int)) ∧ ((N : Int).tdiv 64 = (y3 : Int) ∧ (N : Int) / 64 = (y3 : Int)) ∧ ((y3 : Int).tmod 64 = (x3 : Int) ∧ (y3 : Int) % 64 = (x3 : Int)) ∧ ((N : Int).tmod 64 = (x4 : Int) ∧ (N : Int) % 64 = (x4 : Int)) ∧
    (x1 < 64 ∧ y2 < 4096 ∧ x2 < 64 ∧ y3 < 262144 ∧ x3 < 64 ∧ x4 < 64) ∧ (LA.extract x1 (x1 + 1) = X1 ∧ LA.extract x2 (x2 + 1) = X2 ∧ LA.extract x3 (x3 + 1) = X3 ∧ LA.extract x4 (x4 + 1) = X4) ∧ (X1.size = 1 ∧ X2.size = 1 ∧ X3.size = 1 ∧ X4.size = 1) ∧ Hid (X1 = ⟨[six (N / 262144)].toArray⟩ ∧ X2 = ⟨[six (N / 4096)].toArray⟩ ∧ X3 = ⟨[six (N / 64)].toArray⟩ ∧ X4 = ⟨[six N].toArray⟩) := by
  have hs : ∀ n : Nat, six (n % 64) = six n := fun n => by unfold six; rw [Nat.mod_mod]
  refine ⟨N / 262144, N / 4096, N / 4096 % 64, N / 64, N / 64 % 64, N % 64, _, _, _, _, ⟨?_, ?_⟩, ⟨?_, ?_⟩, ⟨?_, ?_⟩, ⟨?_, ?_⟩, ⟨?_, ?_⟩, ⟨?_, ?_⟩, ⟨by omega, by omega, by omega, by omega, by omega, by omega⟩, ⟨six_slice _ (by omega), six_slice _ (by omega), six_slice _ (by omega), six_slice _ (by omega)⟩, ⟨rfl, rfl, rfl, rfl⟩, rfl, by rw [hs], by rw [hs], by rw [hs]⟩
  all_goals first | omega | (rw [Int.tmod_eq_emod_of_nonneg (by omega)]; omega) | (rw [Int.tdiv_eq_ediv_of_nonneg (by omega)]; omega)

set_option maxRecDepth 100000 in
set_option maxHeartbeats 3200000 in
theorem coded_any (s : ByteArray) (w : World) (hs : s.size ≤ 100) :
    Calls Tryz.prog 35 #[.string s] w fun e w' => e = .returned (str (b64 s.data.toList)) ∧ Q w w' := by
  go_enter Tryz.func35, Tryz.ntmps35
  go_wp2_with fail
  go_loopw [3, 4, 5, 6] (fun o i _ _ wr => ∃ (r : Nat) (done : List UInt8), r ≤ 40 ∧ i = .int .i64 ((3 * r : Nat) : Int) ∧ o = .string ⟨done.toArray⟩ ∧ done.length ≤ 4 * r ∧ Q w wr ∧ Hid (b64 s.data.toList = done ++ b64 (s.data.toList.drop (3 * r)))) (fun _ i _ _ _ => s.size + 3 - (intOf i).toNat)
  case atStart => exact ⟨0, [], by omega, rfl, rfl, by simp, Q.refl _, rfl⟩
  case round =>
    obtain ⟨r, done, hr, rfl, rfl, hdl, hq, hsp⟩ := hrel
    have hcast : ((3 * r : Nat) : Int) = 3 * (r : Int) := by omega
    obtain ⟨D, hD⟩ : ∃ T : ByteArray, T = ⟨done.toArray⟩ := ⟨_, rfl⟩
    have hDs : D.size ≤ 4 * r := by rw [hD]; exact hdl
    have HD := show Hid _ from hD
    rw [← hD]
    clear hD hdl
    obtain ⟨i, hi⟩ : ∃ i, i = 3 * r := ⟨_, rfl⟩
    have HI := show Hid _ from hi
    have hi160 : i ≤ 120 := by omega
    rw [← hi] at hsp ⊢
    clear hcast hi
    by_cases h3 : i + 3 ≤ s.size
    · have h0 : i < s.size := by omega
      have h1 : i + 1 < s.size := by omega
      have h2 : i + 2 < s.size := by omega
      have a0 := s[i].toNat_lt
      have a1 := s[i + 1].toNat_lt
      have a2 := s[i + 2].toNat_lt
      have d0 : decide ((i : Int) < (s.size : Int)) = true := decide_eq_true (by omega)
      have d1 : decide ((i : Int) + 1 < (s.size : Int)) = true := decide_eq_true (by omega)
      have d2 : decide ((i : Int) + 2 < (s.size : Int)) = true := decide_eq_true (by omega)
      have HR : Hid (s.data.toList.drop i = s[i] :: s[i + 1] :: s[i + 2] :: s.data.toList.drop (i + 3)) := by
        show _ = _
        rw [drop_byte s i (by omega), drop_byte s (i + 1) (by omega), drop_byte s (i + 2) (by omega)]
      have HNE : Hid (s.data.toList.drop i ≠ []) := by
        show _ ≠ _
        rw [HR.out]; simp
      have HQE : Hid (quad (s.data.toList.drop i) = quad (s[i] :: s[i + 1] :: s[i + 2] :: s.data.toList.drop (i + 3))) := by
        show _ = _
        rw [HR.out]
      go_wp2_with fail
      refine wp_loop_rounds 4 ?_
      rw [rounds_succ]
      go_wp2_with fail
      rw [rounds_succ]
      go_wp2_with fail
      rw [rounds_succ]
      go_wp2_with fail
      rw [rounds_succ]
      go_wp2_with fail
      have hNe : (((s[i].toNat : Int) * 256 + (s[i + 1].toNat : Int)) * 256 + (s[i + 2].toNat : Int)) = ((bits3 s[i] s[i + 1] s[i + 2] : Nat) : Int) := by unfold bits3; omega
      have hNb : bits3 s[i] s[i + 1] s[i + 2] < 16777216 := by unfold bits3; omega
      obtain ⟨x1, y2, x2, y3, x3, x4, X1, X2, X3, X4, ⟨e1, f1⟩, ⟨e2, f2⟩, ⟨e3, f3⟩, ⟨e4, f4⟩, ⟨e5, f5⟩, ⟨e6, f6⟩, ⟨b1, b2, b3, b4, b5, b6⟩, ⟨l1, l2, l3, l4⟩, ⟨z1, z2, z3, z4⟩, HX⟩ := six_facts _ hNb
      have w1 : IntKind.i64.wrap (x1 : Int) = (x1 : Int) := by simp (disch := omega) only [IntWalk.i64_in]
      have w2 : IntKind.i64.wrap ((x1 : Int) + 1) = ((x1 : Int) + 1) := by simp (disch := omega) only [IntWalk.i64_in]
      have w3 : IntKind.i64.wrap (y2 : Int) = (y2 : Int) := by simp (disch := omega) only [IntWalk.i64_in]
      have w4 : IntKind.i64.wrap ((x2 : Int) + 1) = ((x2 : Int) + 1) := by simp (disch := omega) only [IntWalk.i64_in]
      have w5 : IntKind.i64.wrap (x2 : Int) = (x2 : Int) := by simp (disch := omega) only [IntWalk.i64_in]
      rw [hNe]
      have HQF : Hid (quad (s[i] :: s[i + 1] :: s[i + 2] :: s.data.toList.drop (i + 3)) = [six ((bits3 s[i] s[i + 1] s[i + 2]) / 262144), six ((bits3 s[i] s[i + 1] s[i + 2]) / 4096), six ((bits3 s[i] s[i + 1] s[i + 2]) / 64), six (bits3 s[i] s[i + 1] s[i + 2])]) := rfl
      generalize bits3 s[i] s[i + 1] s[i + 2] = N at *
      clear hNe hNb
      go_wp2_with fail
      go_region
      go_wp2_with fail
      have HS : Hid (D ++ X1 ++ X2 ++ X3 ++ X4 = ⟨(done ++ quad (s.data.toList.drop i)).toArray⟩) := by
        show _ = _
        obtain ⟨k1, k2, k3, k4⟩ := HX.out
        rw [HQE.out, HQF.out, HD.out, k1, k2, k3, k4]
        rw [← Lib.mk_data (_ ++ _)]
        simp
      have hri := HI.out
      refine ⟨⟨r + 1, done ++ quad (s.data.toList.drop i), by omega, congrArg (Value.int IntKind.i64) (by omega), by rw [HS.out], ?_, hq.drew, ?_⟩, by simp [intOf]; omega⟩
      · have h1 : D.size = done.length := by rw [HD.out]; rfl
        rw [List.length_append, HQE.out, HQF.out]
        show done.length + 4 ≤ _
        omega
      · show _ = _
        rw [hsp.out, b64_quad _ HNE.out, List.drop_drop, List.append_assoc, show i + 3 = 3 * (r + 1) by omega]
    by_cases h2' : i + 2 = s.size
    · have h0 : i < s.size := by omega
      have h1 : i + 1 < s.size := by omega
      have a0 := s[i].toNat_lt
      have a1 := s[i + 1].toNat_lt
      have d0 : decide ((i : Int) < (s.size : Int)) = true := decide_eq_true (by omega)
      have d1 : decide ((i : Int) + 1 < (s.size : Int)) = true := decide_eq_true (by omega)
      have d2 : decide ((i : Int) + 2 < (s.size : Int)) = false := decide_eq_false (by omega)
      have HR : Hid (s.data.toList.drop i = [s[i], s[i + 1]]) := by
        show _ = _
        rw [drop_byte s i (by omega), drop_byte s (i + 1) (by omega), List.drop_eq_nil_of_le (by rw [size_len]; omega)]
      have HNE : Hid (s.data.toList.drop i ≠ []) := by
        show _ ≠ _
        rw [HR.out]; simp
      have HQE : Hid (quad (s.data.toList.drop i) = quad ([s[i], s[i + 1]])) := by
        show _ = _
        rw [HR.out]
      go_wp2_with fail
      refine wp_loop_rounds 4 ?_
      rw [rounds_succ]
      go_wp2_with fail
      rw [rounds_succ]
      go_wp2_with fail
      rw [rounds_succ]
      go_wp2_with fail
      rw [rounds_succ]
      go_wp2_with fail
      have hNe : (((s[i].toNat : Int) * 256 + (s[i + 1].toNat : Int)) * 256) = ((bits3 s[i] s[i + 1] 0 : Nat) : Int) := by unfold bits3; have z : (0 : UInt8).toNat = 0 := rfl; rw [z]; omega
      have hNb : bits3 s[i] s[i + 1] 0 < 16777216 := by unfold bits3; have z : (0 : UInt8).toNat = 0 := rfl; rw [z]; omega
      obtain ⟨x1, y2, x2, y3, x3, x4, X1, X2, X3, X4, ⟨e1, f1⟩, ⟨e2, f2⟩, ⟨e3, f3⟩, ⟨e4, f4⟩, ⟨e5, f5⟩, ⟨e6, f6⟩, ⟨b1, b2, b3, b4, b5, b6⟩, ⟨l1, l2, l3, l4⟩, ⟨z1, z2, z3, z4⟩, HX⟩ := six_facts _ hNb
      have w1 : IntKind.i64.wrap (x1 : Int) = (x1 : Int) := by simp (disch := omega) only [IntWalk.i64_in]
      have w2 : IntKind.i64.wrap ((x1 : Int) + 1) = ((x1 : Int) + 1) := by simp (disch := omega) only [IntWalk.i64_in]
      have w3 : IntKind.i64.wrap (y2 : Int) = (y2 : Int) := by simp (disch := omega) only [IntWalk.i64_in]
      have w4 : IntKind.i64.wrap ((x2 : Int) + 1) = ((x2 : Int) + 1) := by simp (disch := omega) only [IntWalk.i64_in]
      have w5 : IntKind.i64.wrap (x2 : Int) = (x2 : Int) := by simp (disch := omega) only [IntWalk.i64_in]
      rw [hNe]
      have HQF : Hid (quad ([s[i], s[i + 1]]) = [six ((bits3 s[i] s[i + 1] 0) / 262144), six ((bits3 s[i] s[i + 1] 0) / 4096), six ((bits3 s[i] s[i + 1] 0) / 64), 61]) := rfl
      generalize bits3 s[i] s[i + 1] 0 = N at *
      clear hNe hNb
      go_wp2_with fail
      go_region
      go_wp2_with fail
      have HS : Hid (D ++ X1 ++ X2 ++ X3 ++ ⟨#[61]⟩ = ⟨(done ++ quad (s.data.toList.drop i)).toArray⟩) := by
        show _ = _
        obtain ⟨k1, k2, k3, k4⟩ := HX.out
        rw [HQE.out, HQF.out, HD.out, k1, k2, k3]
        rw [← Lib.mk_data (_ ++ _)]
        simp
      have hri := HI.out
      refine ⟨⟨r + 1, done ++ quad (s.data.toList.drop i), by omega, congrArg (Value.int IntKind.i64) (by omega), by rw [HS.out], ?_, hq.drew, ?_⟩, by simp [intOf]; omega⟩
      · have h1 : D.size = done.length := by rw [HD.out]; rfl
        rw [List.length_append, HQE.out, HQF.out]
        show done.length + 4 ≤ _
        omega
      · show _ = _
        rw [hsp.out, b64_quad _ HNE.out, List.drop_drop, List.append_assoc, show i + 3 = 3 * (r + 1) by omega]
    by_cases h1' : i + 1 = s.size
    · have h0 : i < s.size := by omega
      have a0 := s[i].toNat_lt
      have d0 : decide ((i : Int) < (s.size : Int)) = true := decide_eq_true (by omega)
      have d1 : decide ((i : Int) + 1 < (s.size : Int)) = false := decide_eq_false (by omega)
      have d2 : decide ((i : Int) + 2 < (s.size : Int)) = false := decide_eq_false (by omega)
      have HR : Hid (s.data.toList.drop i = [s[i]]) := by
        show _ = _
        rw [drop_byte s i (by omega), List.drop_eq_nil_of_le (by rw [size_len]; omega)]
      have HNE : Hid (s.data.toList.drop i ≠ []) := by
        show _ ≠ _
        rw [HR.out]; simp
      have HQE : Hid (quad (s.data.toList.drop i) = quad ([s[i]])) := by
        show _ = _
        rw [HR.out]
      go_wp2_with fail
      refine wp_loop_rounds 4 ?_
      rw [rounds_succ]
      go_wp2_with fail
      rw [rounds_succ]
      go_wp2_with fail
      rw [rounds_succ]
      go_wp2_with fail
      rw [rounds_succ]
      go_wp2_with fail
      have hNe : ((s[i].toNat : Int) * 256 * 256) = ((bits3 s[i] 0 0 : Nat) : Int) := by unfold bits3; have z : (0 : UInt8).toNat = 0 := rfl; rw [z]; omega
      have hNb : bits3 s[i] 0 0 < 16777216 := by unfold bits3; have z : (0 : UInt8).toNat = 0 := rfl; rw [z]; omega
      obtain ⟨x1, y2, x2, y3, x3, x4, X1, X2, X3, X4, ⟨e1, f1⟩, ⟨e2, f2⟩, ⟨e3, f3⟩, ⟨e4, f4⟩, ⟨e5, f5⟩, ⟨e6, f6⟩, ⟨b1, b2, b3, b4, b5, b6⟩, ⟨l1, l2, l3, l4⟩, ⟨z1, z2, z3, z4⟩, HX⟩ := six_facts _ hNb
      have w1 : IntKind.i64.wrap (x1 : Int) = (x1 : Int) := by simp (disch := omega) only [IntWalk.i64_in]
      have w2 : IntKind.i64.wrap ((x1 : Int) + 1) = ((x1 : Int) + 1) := by simp (disch := omega) only [IntWalk.i64_in]
      have w3 : IntKind.i64.wrap (y2 : Int) = (y2 : Int) := by simp (disch := omega) only [IntWalk.i64_in]
      have w4 : IntKind.i64.wrap ((x2 : Int) + 1) = ((x2 : Int) + 1) := by simp (disch := omega) only [IntWalk.i64_in]
      have w5 : IntKind.i64.wrap (x2 : Int) = (x2 : Int) := by simp (disch := omega) only [IntWalk.i64_in]
      rw [hNe]
      have HQF : Hid (quad ([s[i]]) = [six ((bits3 s[i] 0 0) / 262144), six ((bits3 s[i] 0 0) / 4096), 61, 61]) := rfl
      generalize bits3 s[i] 0 0 = N at *
      clear hNe hNb
      go_wp2_with fail
      go_region
      go_wp2_with fail
      have HS : Hid (D ++ X1 ++ X2 ++ ⟨#[61]⟩ ++ ⟨#[61]⟩ = ⟨(done ++ quad (s.data.toList.drop i)).toArray⟩) := by
        show _ = _
        obtain ⟨k1, k2, k3, k4⟩ := HX.out
        rw [HQE.out, HQF.out, HD.out, k1, k2]
        rw [← Lib.mk_data (_ ++ _)]
        simp
      have hri := HI.out
      refine ⟨⟨r + 1, done ++ quad (s.data.toList.drop i), by omega, congrArg (Value.int IntKind.i64) (by omega), by rw [HS.out], ?_, hq.drew, ?_⟩, by simp [intOf]; omega⟩
      · have h1 : D.size = done.length := by rw [HD.out]; rfl
        rw [List.length_append, HQE.out, HQF.out]
        show done.length + 4 ≤ _
        omega
      · show _ = _
        rw [hsp.out, b64_quad _ HNE.out, List.drop_drop, List.append_assoc, show i + 3 = 3 * (r + 1) by omega]
    have d0 : decide ((i : Int) < (s.size : Int)) = false := decide_eq_false (by omega)
    have HE : Hid (b64 s.data.toList = done) := by
      show _ = _
      rw [hsp.out, List.drop_eq_nil_of_le (by rw [size_len]; omega)]
      simp [b64]
    go_wp2_with fail
    go_ret
    exact ⟨by rw [HE.out, HD.out]; rfl, hq⟩
end Go.Proofs.YtfkggpminmonmaaGreatDoor
/-
  The law 'Spoiled', walked: it answers true, whatever the rules and the numbers.
-/
namespace Go.Proofs.YtfkggpminmonmaaGreatDoor
namespace Plain
theorem take40 (l : List RawR) : (l.take 40).length ≤ 40 := by simp; omega
theorem comp_right (l : List RawR) : compileS (rulesT l) = .ok ((l.take 40).map ruleOf) := by
  have h := rulesT_len l
  unfold compileS
  rw [if_neg (by omega)]
  exact rules_right _ 1 (by have := take40 l; omega)
theorem comp_spoiled (l : List RawR) (c b : UInt8) (hc : spoils c = true) (k : Nat) (hk : (rulesT l)[k]? = some b) (hb : b ≠ 10) :
    compileS ((rulesT l).take k ++ c :: (rulesT l).drop (k + 1)) = .error (3, 1 + ((rulesT l).take k).count 10) := by
  have h := rulesT_len l
  have hk' : k < (rulesT l).length := (List.getElem?_eq_some_iff.1 hk).1
  unfold compileS
  rw [if_neg (by simp; omega)]
  exact rules_spoiled c hc _ 1 k b (by have := take40 l; omega) hk hb
theorem comp_cut (l : List RawR) (h0 : rulesT l ≠ []) : compileS ((rulesT l).take ((rulesT l).length - 1)) = .error (3, (rulesT l).count 10) := by
  have h := rulesT_len l
  unfold compileS
  rw [if_neg (by simp; omega)]
  have h40 := take40 l
  unfold rulesT at *
  generalize l.take 40 = t at *
  cases t with
  | nil => simp at h0
  | cons q t =>
    rw [rules_cut t q 1 (by simp at h40; omega), count_lines]
    simp; omega
theorem count_step {T : List UInt8} {i : Nat} {b : UInt8} (h : T[i]? = some b) : (T.take (i + 1)).count 10 = (T.take i).count 10 + if b = 10 then 1 else 0 := by
  obtain ⟨hi, rfl⟩ := List.getElem?_eq_some_iff.1 h
  rw [List.take_succ_eq_append_getElem hi, List.count_append]
  by_cases e : T[i] = 10
  · rw [if_pos e, e]; rfl
  · rw [if_neg e, List.count_eq_zero_of_not_mem (fun hm => e (List.mem_singleton.1 hm).symm)]
end Plain
open Go.RowKit Plain

theorem str_take (T : List UInt8) (k : Nat) : (⟨T.toArray⟩ : ByteArray).extract 0 k = ⟨(T.take k).toArray⟩ := by
  apply ByteArray.ext; rw [ByteArray.data_extract]; simp
theorem str_drop (T : List UInt8) (k : Nat) : (⟨T.toArray⟩ : ByteArray).extract k T.length = ⟨(T.drop k).toArray⟩ := by
  apply ByteArray.ext; rw [ByteArray.data_extract]; simp
  rw [List.take_of_length_le (by simp)]

theorem comp_ok {l : List UInt8} {w w' : World} {e : Ending} {rs : List RuleS} (h : CompPost l w e w') (hc : compileS l = .ok rs) : Q w w' ∧ ∃ pb, e = .returned (.tuple #[.pointer (some ⟨pb, 0, none⟩), .int .i64 0, .int .i64 0]) ∧ PolicyRep (New w w') w' pb rs := by
  obtain ⟨hq, ⟨en, ln, h1, _⟩ | ⟨rs', pb, h1, h2, h3⟩⟩ := h
  · rw [hc] at h1; cases h1
  · rw [hc] at h1; cases h1; exact ⟨hq, pb, h2, h3⟩
theorem comp_err {l : List UInt8} {w w' : World} {e : Ending} {en ln : Nat} (h : CompPost l w e w') (hc : compileS l = .error (en, ln)) : Q w w' ∧ e = .returned (.tuple #[.pointer none, .int .i64 (en : Nat), .int .i64 (ln : Nat)]) := by
  obtain ⟨hq, ⟨en', ln', h1, h2⟩ | ⟨rs', pb, h1, _⟩⟩ := h
  · rw [hc] at h1; cases h1; exact ⟨hq, h2⟩
  · rw [hc] at h1; cases h1

end Go.Proofs.YtfkggpminmonmaaGreatDoor
/-
  The statements' own heads, and pieces.
-/
namespace Go.Proofs.YtfkggpminmonmaaGreatDoor
namespace Plain
def h1B : List UInt8 := [67, 79, 78, 78, 69, 67, 84, 32]
def h2B : List UInt8 := [32, 72, 84, 84, 80, 47, 49, 46, 49, 13, 10, 72, 111, 115, 116, 58, 32]
def h3B : List UInt8 := [13, 10, 80, 114, 111, 120, 121, 45, 65, 117, 116, 104, 111, 114, 105, 122, 97, 116, 105, 111, 110, 58, 32, 66, 97, 115, 105, 99, 32]
/-- The head with which a tenant asks. -/
def headT (who : Nat) (word host : List UInt8) (port : Nat) : List UInt8 := h1B ++ host ++ [58] ++ digits port ++ h2B ++ host ++ h3B ++ b64 (tenantS who ++ [58] ++ word) ++ endB
theorem b64_len2 (l : List UInt8) : (b64 l).length ≤ 4 * l.length := b64_len l
end Plain
open Go.RowKit Plain

theorem app_str (a b : ByteArray) : (a ++ b).data.toList = a.data.toList ++ b.data.toList := by simp

set_option maxRecDepth 100000 in
set_option maxHeartbeats 1600000 in
theorem head_any (who : Nat) (word host : ByteArray) (port : Nat) (w : World) (hw : who < 3) (h1 : word.size ≤ 20) (h2 : host.size ≤ 100) (h3 : port ≤ 65536) :
    Calls Tryz.prog 15 #[.int .i64 (who : Int), .string word, .string host, .int .i64 (port : Int)] w fun e w' => e = .returned (str (headT who word.data.toList host.data.toList port)) ∧ Q w w' := by
  have HDg : ∀ x, Hid (Calls Tryz.prog 34 #[.int .i64 (port : Int)] x fun e w' => e = .returned (str (digits port)) ∧ ∃ m, w' = x.drewN m) := fun x => digits_any port x (by omega) (by omega)
  have HTe : ∀ x, Hid (Calls Tryz.prog 36 #[.int .i64 (who : Int)] x fun e w' => e = .returned (str (tenantS who)) ∧ Q x w') := fun x => tenants_any who x (by omega) (by omega)
  have HCo := fun (s : ByteArray) (hs : s.size ≤ 100) x => show Hid _ from coded_any s x hs
  have hdl := digits_len6 port (by omega)
  have htl : (tenantS who).length ≤ 3 := by unfold tenantS; split <;> simp
  obtain ⟨G, hG⟩ : ∃ G : ByteArray, G.data.toList = digits port := ⟨⟨(digits port).toArray⟩, rfl⟩
  obtain ⟨T, hT⟩ : ∃ G : ByteArray, G.data.toList = tenantS who := ⟨⟨(tenantS who).toArray⟩, rfl⟩
  obtain ⟨C, hC⟩ : ∃ G : ByteArray, G.data.toList = b64 (tenantS who ++ [58] ++ word.data.toList) := ⟨⟨(b64 (tenantS who ++ [58] ++ word.data.toList)).toArray⟩, rfl⟩
  have g1 : G.size ≤ 5 := by rw [← size_len, hG]; exact hdl
  have g2 : T.size ≤ 3 := by rw [← size_len, hT]; exact htl
  have g3 : C.size ≤ 100 := by
    rw [← size_len, hC]
    have := b64_len2 (tenantS who ++ [58] ++ word.data.toList)
    simp at this ⊢
    omega
  have HHe : Hid (headT who word.data.toList host.data.toList port = h1B ++ host.data.toList ++ [58] ++ G.data.toList ++ h2B ++ host.data.toList ++ h3B ++ C.data.toList ++ endB) := by
    show _ = _
    unfold headT; rw [hG, hC]
  have HCt : Hid ((T ++ (⟨#[58]⟩ : ByteArray) ++ word).data.toList = tenantS who ++ [58] ++ word.data.toList) := by
    show _ = _
    rw [app_str, app_str, hT]
  have HCs : Hid (str (b64 (T ++ (⟨#[58]⟩ : ByteArray) ++ word).data.toList) = .string C) := by
    show _ = _
    rw [HCt.out, ← hC, str_data]
  rw [← hG] at HDg
  rw [← hT] at HTe
  clear hG hT hC hdl htl
  go_enter Tryz.func15, Tryz.ntmps15
  go_wp2_with fail
  refine Calls.mono (Hid.out (HDg _)) ?_
  rintro e w1 ⟨rfl, m, hw1⟩
  have hq1 : Q w w1 := by rw [hw1]; exact (Q.refl _).drews _
  rw [str_data]
  clear hw1 HDg
  go_wp2_with fail
  refine Calls.mono (Hid.out (HTe _)) ?_
  rintro e w2 ⟨rfl, hq2⟩
  rw [str_data]
  have hsz : (T ++ (⟨#[58]⟩ : ByteArray) ++ word).size ≤ 100 := by
    rw [ByteArray.size_append, ByteArray.size_append]
    have : (⟨#[58]⟩ : ByteArray).size = 1 := rfl
    omega
  go_wp2_with fail
  refine Calls.mono (Hid.out (HCo _ hsz _)) ?_
  rintro e w3 ⟨rfl, hq3⟩
  rw [HCs.out]
  have hQ := (hq1.trans hq2).trans hq3
  clear hq1 hq2 hq3 HCo HTe
  go_wp2_with fail
  go_ret
  refine ⟨?_, hQ⟩
  rw [HHe.out]
  refine congrArg Ending.returned ?_
  show Value.string _ = Value.string _
  congr 1

/-- How much of a text goes next. -/
def pieceN (len : Nat) (raw : Option Int) : Nat := match raw with
  | none => len
  | some c => if 0 < len then 1 + pickN c len else len
theorem pieceN_le (len : Nat) (raw : Option Int) : pieceN len raw ≤ len ∧ (0 < len → 0 < pieceN len raw) := by
  unfold pieceN
  split
  · exact ⟨Nat.le_refl _, fun h => h⟩
  · split
    · rename_i c h
      have := pickN_lt c h
      omega
    · omega

/-- Numbers that came in. -/
def IntsAt (w : World) (v : Value) (l : List Int) : Prop :=
  ∃ a cap, v = .slice a l.length cap ∧ ∀ i c, l[i]? = some c → I64 c ∧ ∃ b off, a = some ⟨b, off, none⟩ ∧ w.cell? ⟨b, off + i, none⟩ = some (.int .i64 c)
theorem IntsAt.stays {w w' : World} {v : Value} {l : List Int} (h : IntsAt w v l) (q : Q w w') : IntsAt w' v l := by
  obtain ⟨a, cap, hv, h⟩ := h
  refine ⟨a, cap, hv, fun i c hi => ?_⟩
  obtain ⟨h1, b, off, h2, h3⟩ := h i c hi
  exact ⟨h1, b, off, h2, q.cell h3⟩

set_option maxRecDepth 100000 in
set_option maxHeartbeats 1600000 in
theorem piece_any (s : ByteArray) (v : Value) (l : List Int) (i : Nat) (w : World) (hv : IntsAt w v l) (hs : s.size ≤ 4294967296) :
    Calls Tryz.prog 18 #[.string s, v, .int .i64 (i : Int)] w fun e w' => e = .returned (.tuple #[str (s.data.toList.take (pieceN s.size l[i]?)), str (s.data.toList.drop (pieceN s.size l[i]?))]) ∧ Q w w' := by
  obtain ⟨a, cap, rfl, hat⟩ := hv
  obtain ⟨hle, _⟩ := pieceN_le s.size l[i]?
  obtain ⟨k, hk⟩ : ∃ k, k = pieceN s.size l[i]? := ⟨_, rfl⟩
  have HK := show Hid _ from hk
  rw [← hk] at hle ⊢
  have HT : Hid (s.extract 0 k = ⟨(s.data.toList.take k).toArray⟩) := by
    show _ = _
    rw [← Lib.mk_data (s.extract 0 k), Lib.extract_from_zero]
  have HDr : Hid (s.extract k s.size = ⟨(s.data.toList.drop k).toArray⟩) := by
    show _ = _
    rw [← Lib.mk_data (s.extract k s.size), Lib.extract_to_end]
  by_cases hi : i < l.length
  · obtain ⟨hc, b, off, rfl, hcell⟩ := hat i _ (List.getElem?_eq_getElem hi)
    rw [List.getElem?_eq_getElem hi] at hk
    generalize l[i] = c at *
    have d1 : decide ((i : Int) < (l.length : Int)) = true := decide_eq_true (by omega)
    by_cases h0 : 0 < s.size
    · have d2 : decide ((0 : Int) < (s.size : Int)) = true := decide_eq_true (by omega)
      have hkp : k = 1 + pickN c s.size := by rw [hk]; show (if 0 < s.size then 1 + pickN c s.size else s.size) = _; rw [if_pos h0]
      have PP : ∀ w, Hid (Calls Tryz.prog 7 #[.int .i64 c, .int .i64 (s.size : Int)] w fun e w' => e = .returned (.int .i64 ((pickN c s.size : Nat) : Int)) ∧ w' = w) := fun w => pick_any c s.size w hc (by omega) (by omega)
      have hpl := pickN_lt c h0
      generalize pickN c s.size = p at *
      clear hat hk hc
      have c1 : (1 : Int) + (p : Int) = (k : Int) := by omega
      have c2 : (k : Int) ≤ (s.size : Int) := by omega
      clear hkp hpl
      go_enter Tryz.func18, Tryz.ntmps18
      go_wp2_with (first | (go_at_call 7; refine Calls.mono (Hid.out (PP _)) ?_; rintro e w' ⟨rfl, hw⟩; rw [hw]; clear hw))
      go_region
      go_wp2_with fail
      go_ret2
      exact ⟨by unfold str; rw [← HT.out, ← HDr.out]; rfl, (Q.refl _).drew⟩
    · have d2 : decide ((0 : Int) < (s.size : Int)) = false := decide_eq_false (by omega)
      have hkp : k = s.size := by rw [hk]; show (if 0 < s.size then 1 + pickN c s.size else s.size) = _; rw [if_neg h0]
      clear hat hk hc
      subst hkp
      go_enter Tryz.func18, Tryz.ntmps18
      go_wp2_with fail
      go_region
      go_wp2_with fail
      go_ret2
      exact ⟨by rw [List.take_of_length_le (by rw [size_len]; exact Nat.le_refl _), List.drop_eq_nil_of_le (by rw [size_len]; exact Nat.le_refl _)]; rfl, (Q.refl _).drew⟩
  · have d1 : decide ((i : Int) < (l.length : Int)) = false := decide_eq_false (by omega)
    rw [List.getElem?_eq_none (by omega)] at hk
    have hkp : k = s.size := hk
    clear hat hk
    subst hkp
    go_enter Tryz.func18, Tryz.ntmps18
    go_wp2_with fail
    go_region
    go_wp2_with fail
    go_ret2
    exact ⟨by rw [List.take_of_length_le (by rw [size_len]; exact Nat.le_refl _), List.drop_eq_nil_of_le (by rw [size_len]; exact Nat.le_refl _)]; rfl, (Q.refl _).drew⟩
end Go.Proofs.YtfkggpminmonmaaGreatDoor
/-
  Plain: a head that was made reads back.
-/
namespace Go.Proofs.YtfkggpminmonmaaGreatDoor.Plain

theorem byte_all (p : UInt8 → Bool) (h : ∀ n : Fin 256, p (UInt8.ofNat n.val) = true) (c : UInt8) : p c = true := by
  have := h ⟨c.toNat, c.toNat_lt⟩
  simpa using this
theorem field_facts (c : UInt8) (h : fieldB c = true) : seenB c = true ∧ ofValue c = true ∧ lowB c = c ∧ c ≠ 58 ∧ c ≠ 32 ∧ c ≠ 13 := by
  have := byte_all (fun c => !fieldB c || (seenB c && ofValue c && (lowB c == c) && (c != 58) && (c != 32) && (c != 13))) (by decide +kernel) c
  simp only [h, Bool.not_true, Bool.false_or, Bool.and_eq_true, beq_iff_eq, bne_iff_ne] at this
  obtain ⟨⟨⟨⟨⟨h1, h2⟩, h3⟩, h4⟩, h5⟩, h6⟩ := this
  exact ⟨h1, h2, h3, h4, h5, h6⟩
theorem seen_facts (c : UInt8) (h : seenB c = true) : ofValue c = true ∧ c ≠ 32 ∧ c ≠ 13 := by
  have := byte_all (fun c => !seenB c || (ofValue c && (c != 32) && (c != 13))) (by decide +kernel) c
  simp only [h, Bool.not_true, Bool.false_or, Bool.and_eq_true, bne_iff_ne] at this
  exact ⟨this.1.1, this.1.2, this.2⟩

theorem split_line {l : List UInt8} (t : List UInt8) (h : (13 : UInt8) ∉ l) : Lib.split (l ++ 13 :: 10 :: t) [13, 10] = l :: Lib.split t [13, 10] := by
  have hi : Lib.index (l ++ 13 :: 10 :: t) [13, 10] = (l.length : Nat) := by
    have h0 : Lib.index (13 :: 10 :: t) [13, 10] = 0 := by
      rw [Lib.index]
      simp [List.isPrefixOf]
    have := index_skip [10] (13 :: 10 :: t) l h
    rw [h0] at this
    simpa using this
  have hd : (l ++ 13 :: 10 :: t).drop (l.length + ([13, 10] : List UInt8).length) = t := by simp
  unfold Lib.split
  rw [Lib.count_hit (by simp) hi, hd, Nat.add_comm, Lib.splitK, hi]
  have hne : ((l.length : Nat) : Int) ≠ -1 := by omega
  simp [hne]
theorem split_last {l : List UInt8} (h : (13 : UInt8) ∉ l) : Lib.split l [13, 10] = [l] := by
  have hi : Lib.index l [13, 10] = -1 := by
    have := index_skip [10] [] l h
    have h0 : Lib.index [] [13, 10] = -1 := by decide
    rw [h0] at this
    simpa using this
  unfold Lib.split
  rw [Lib.count_miss hi]
  rfl

/-- A head's lines. -/
def line1 (host : List UInt8) (port : Nat) : List UInt8 := connectB ++ 32 :: (host ++ 58 :: digits port ++ 32 :: http11)
def hostB : List UInt8 := [72, 111, 115, 116]
def authB : List UInt8 := [80, 114, 111, 120, 121, 45, 65, 117, 116, 104, 111, 114, 105, 122, 97, 116, 105, 111, 110]
def line2 (host : List UInt8) : List UInt8 := hostB ++ 58 :: (32 :: host)
def line3 (code : List UInt8) : List UInt8 := authB ++ 58 :: (32 :: (basic ++ code))
def bodyOf (host : List UInt8) (port : Nat) (code : List UInt8) : List UInt8 := line1 host port ++ 13 :: 10 :: (line2 host ++ 13 :: 10 :: line3 code)
theorem headT_body (who : Nat) (word host : List UInt8) (port : Nat) : headT who word host port = bodyOf host port (b64 (tenantS who ++ [58] ++ word)) ++ endB := by
  simp [headT, bodyOf, line1, line2, line3, h1B, h2B, h3B, connectB, http11, hostB, authB, basic]

structure HostOk (host : List UInt8) : Prop where
  bytes : ∀ c ∈ host, fieldB c = true
  ne : host ≠ []
theorem HostOk.not {host : List UInt8} (h : HostOk host) (x : UInt8) (hx : fieldB x = false) : x ∉ host := fun hm => by rw [h.bytes x hm] at hx; cases hx
theorem line1_no {host : List UInt8} (h : HostOk host) (port : Nat) (x : UInt8) (hx : x = 13) : x ∉ line1 host port := by
  subst hx
  unfold line1
  intro hm
  simp only [List.mem_append, List.mem_cons] at hm
  rcases hm with hm | hm | ((hm | hm | hm) | hm | hm)
  · revert hm; decide
  · exact absurd hm (by decide)
  · exact h.not 13 (by decide) hm
  · exact absurd hm (by decide)
  · exact not_digits 13 (by decide) hm
  · exact absurd hm (by decide)
  · revert hm; decide
theorem line2_no {host : List UInt8} (h : HostOk host) : (13 : UInt8) ∉ line2 host := by
  unfold line2
  intro hm
  simp only [List.mem_append, List.mem_cons] at hm
  rcases hm with hm | hm | hm | hm
  · revert hm; decide
  · exact absurd hm (by decide)
  · exact absurd hm (by decide)
  · exact h.not 13 (by decide) hm
theorem line3_no {code : List UInt8} (h : ∀ c ∈ code, seenB c = true) : (13 : UInt8) ∉ line3 code := by
  unfold line3
  intro hm
  simp only [List.mem_append, List.mem_cons] at hm
  rcases hm with hm | hm | hm | hm | hm
  · revert hm; decide
  · exact absurd hm (by decide)
  · exact absurd hm (by decide)
  · revert hm; decide
  · exact (seen_facts 13 (h 13 hm)).2.2 rfl

theorem first_made {host : List UInt8} (h : HostOk host) (port : Nat) : firstS (line1 host port) = some (connectB, host ++ 58 :: digits port) := by
  have hp : parts 32 (line1 host port) = [connectB, host ++ 58 :: digits port, http11] := by
    unfold line1
    rw [parts_first (by decide), parts_first, parts_alone (by decide)]
    intro hm
    simp only [List.mem_append, List.mem_cons] at hm
    rcases hm with hm | hm | hm
    · exact h.not 32 (by decide) hm
    · exact absurd hm (by decide)
    · exact not_digits 32 (by decide) hm
  unfold firstS
  rw [hp]
  have hok : firstOk connectB (host ++ 58 :: digits port) http11 = true := by
    have h1 : allB seenB (host ++ 58 :: digits port) = true := by
      unfold allB
      rw [List.all_eq_true]
      intro c hc
      simp only [List.mem_append, List.mem_cons] at hc
      rcases hc with hc | rfl | hc
      · exact (field_facts c (h.bytes c hc)).1
      · decide
      · exact (field_facts c (fieldB_fig (digits_mem hc))).1
    have h2 : (host ++ 58 :: digits port).isEmpty = false := by simp
    unfold firstOk
    rw [h1, h2]
    rfl
  simp only [hok, if_true]

theorem trim_one {l : List UInt8} {x y : UInt8} (h1 : l.head? = some x) (hx : x ≠ 32) (h2 : l.getLast? = some y) (hy : y ≠ 32) : Lib.trimB (32 :: l) 32 = l := by
  have e1 : Lib.trimRightB (32 :: l) 32 = 32 :: l := by
    unfold Lib.trimRightB
    rw [List.reverse_cons]
    have : l.reverse.head? = some y := by rw [List.head?_reverse]; exact h2
    cases hr : l.reverse with
    | nil => rw [hr] at this; cases this
    | cons a t =>
      rw [hr] at this
      cases this
      have hl : l = t.reverse ++ [y] := by
        have := congrArg List.reverse hr
        simpa using this
      rw [List.cons_append, List.dropWhile_cons, if_neg (by simpa using hy)]
      simp [hl]
  unfold Lib.trimB
  rw [e1]
  unfold Lib.trimLeftB
  rw [List.dropWhile_cons, if_pos (by simp)]
  cases l with
  | nil => rfl
  | cons a t =>
    cases h1
    rw [List.dropWhile_cons, if_neg (by simpa using hx)]
theorem field_made {name v : List UInt8} {x y : UInt8} (hn : (58 : UInt8) ∉ name) (hn1 : name.isEmpty = false) (hn2 : allB ofName name = true) (hv : ∀ c ∈ v, ofValue c = true) (h1 : v.head? = some x) (hx : x ≠ 32) (h2 : v.getLast? = some y) (hy : y ≠ 32) : fieldS (name ++ 58 :: (32 :: v)) = some (lower name, v) := by
  have hc : cutAt 58 (name ++ 58 :: (32 :: v)) = some (name, 32 :: v) := cutAt_some.2 ⟨rfl, hn⟩
  unfold fieldS
  rw [hc]
  have hall : allB ofValue (32 :: v) = true := by
    unfold allB
    rw [List.all_cons, List.all_eq_true.2 hv]
    decide
  simp only [hn1, hn2, hall, Bool.not_false, Bool.and_self, if_true, trim_one h1 hx h2 hy]
theorem lower_same {l : List UInt8} (h : ∀ c ∈ l, fieldB c = true) : lower l = l := by
  unfold lower
  conv => rhs; rw [← List.map_id l]
  apply List.map_congr_left
  intro c hc
  exact (field_facts c (h c hc)).2.2.1
theorem ends_of {l : List UInt8} (h : l ≠ []) (p : UInt8 → Prop) (hp : ∀ c ∈ l, p c) : (∃ x, l.head? = some x ∧ p x) ∧ ∃ y, l.getLast? = some y ∧ p y := by
  constructor
  · cases l with
    | nil => exact absurd rfl h
    | cons a t => exact ⟨a, rfl, hp a (by simp)⟩
  · refine ⟨l.getLast h, List.getLast?_eq_some_getLast h, hp _ (List.getLast_mem h)⟩

theorem head_made {host code : List UInt8} (hh : HostOk host) (port : Nat) (hc : ∀ c ∈ code, seenB c = true) (hne : code ≠ []) : readHead (bodyOf host port code ++ endB) = some ⟨connectB, host ++ 58 :: digits port, [([104, 111, 115, 116], host), (proxyB, basic ++ code)]⟩ := by
  have hsuf : Lib.hasSuffix (bodyOf host port code ++ endB) endB = true := by
    unfold Lib.hasSuffix
    rw [List.isSuffixOf_iff_suffix]
    exact List.suffix_append _ _
  have hbody : Lib.trimSuffix (bodyOf host port code ++ endB) endB = bodyOf host port code := by
    unfold Lib.trimSuffix
    rw [if_pos hsuf]
    have : (bodyOf host port code ++ endB).length - endB.length = (bodyOf host port code).length := by rw [List.length_append]; omega
    rw [this, List.take_left]
  have hlines : headLines (bodyOf host port code ++ endB) = [line1 host port, line2 host, line3 code] := by
    unfold headLines
    rw [hbody]
    unfold bodyOf
    rw [split_line _ (line1_no hh port 13 rfl), split_line _ (line2_no hh), split_last (line3_no hc)]
  have f2 : fieldS (line2 host) = some ([104, 111, 115, 116], host) := by
    obtain ⟨⟨x, hx1, hx2⟩, y, hy1, hy2⟩ := ends_of hh.ne (fun c => c ≠ 32) (fun c hm => (field_facts c (hh.bytes c hm)).2.2.2.2.1)
    exact field_made (by decide) (by decide) (by decide) (fun c hm => (field_facts c (hh.bytes c hm)).2.1) hx1 hx2 hy1 hy2
  have f3 : fieldS (line3 code) = some (proxyB, basic ++ code) := by
    obtain ⟨_, y, hy1, hy2⟩ := ends_of hne (fun c => c ≠ 32) (fun c hm => (seen_facts c (hc c hm)).2.1)
    have hl : (basic ++ code).getLast? = some y := by rw [List.getLast?_append, hy1]; rfl
    exact field_made (x := 66) (by decide) (by decide) (by decide) (fun c hm => by
      simp only [List.mem_append] at hm
      rcases hm with hm | hm
      · revert c; decide
      · exact (seen_facts c (hc c hm)).1) rfl (by decide) hl hy2
  unfold readHead
  rw [if_pos hsuf, hlines]
  simp only [first_made hh port, fieldsS, f2, f3]
theorem target_made {host : List UInt8} (hh : HostOk host) {port : Nat} (hp : port ≤ 65535) {x : List UInt8 × List Nat} (hr : readHost host = some x) : targetS (host ++ 58 :: digits port) = some (host, port) := by
  have hc : cutAt 58 (host ++ 58 :: digits port) = some (host, digits port) := cutAt_some.2 ⟨rfl, hh.not 58 (by decide)⟩
  unfold targetS
  rw [hc]
  simp only [hr, number_digits port 65535 hp, lower_same hh.bytes]

/-- The end is found when all is there, and not ahead. -/
theorem cut_made {host code : List UInt8} (hh : HostOk host) (port : Nat) (hc : ∀ c ∈ code, seenB c = true) (hl : (bodyOf host port code ++ endB).length < 1000) :
    cutHead (bodyOf host port code ++ endB) = some (bodyOf host port code ++ endB, []) ∧ ∀ m, m < (bodyOf host port code ++ endB).length → cutHead ((bodyOf host port code ++ endB).take m) = none := by
  have hix : Lib.index (bodyOf host port code ++ endB) endB = ((bodyOf host port code).length : Nat) := by
    have h2 : line2 host = 72 :: ([111, 115, 116] ++ 58 :: (32 :: host)) := rfl
    have h3 : line3 code = 80 :: (authB.tail ++ 58 :: (32 :: (basic ++ code))) := rfl
    have := index_three (a := line1 host port) (b := [111, 115, 116] ++ 58 :: (32 :: host)) (c := authB.tail ++ 58 :: (32 :: (basic ++ code))) (y := 72) (z := 80) (line1_no hh port 13 rfl) (by rw [← h2]; exact line2_no hh) (by rw [← h3]; exact line3_no hc)
    rw [← h2, ← h3] at this
    unfold bodyOf
    simpa using this
  have he : endB.length = 4 := rfl
  constructor
  · unfold cutHead
    rw [List.take_of_length_le (by omega), hix, if_pos (by omega)]
    rw [List.length_append, he] at hl
    have h1 : ((bodyOf host port code).length : Int).toNat + 4 = (bodyOf host port code ++ endB).length := by rw [List.length_append, he]; omega
    rw [h1, List.take_of_length_le (Nat.le_refl _), List.drop_eq_nil_of_le (Nat.le_refl _)]
  · intro m hm
    have hno : Lib.index ((bodyOf host port code ++ endB).take m) endB = -1 := by
      rcases Lib.index_spec ((bodyOf host port code ++ endB).take m) endB with ⟨h1, _⟩ | ⟨i, h1, h2, h3, _⟩
      · exact h1
      · exfalso
        have hr := Lib.index_room ((bodyOf host port code ++ endB).take m) endB (by omega)
        rw [h1, List.length_take, he] at hr
        rcases Lib.index_spec (bodyOf host port code ++ endB) endB with ⟨h4, _⟩ | ⟨j, h4, h5, h6, h7⟩
        · rw [hix] at h4; omega
        · rw [hix] at h4
          have hj : i < j := by rw [List.length_append, he] at hm; omega
          have := h7 i hj
          have hocc : Lib.occAt (bodyOf host port code ++ endB) endB i = true := by
            unfold Lib.occAt at h3 ⊢
            rw [List.isPrefixOf_iff_prefix] at h3 ⊢
            rw [List.drop_take] at h3
            exact h3.trans (List.take_prefix _ _)
          rw [hocc] at this
          cases this
    unfold cutHead
    have hlt : ((bodyOf host port code ++ endB).take m).length < 1000 := by rw [List.length_take]; omega
    rw [List.take_of_length_le (by omega), hno, if_neg (by decide), if_pos hlt]
end Go.Proofs.YtfkggpminmonmaaGreatDoor.Plain

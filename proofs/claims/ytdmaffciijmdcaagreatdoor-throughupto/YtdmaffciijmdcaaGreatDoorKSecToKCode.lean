/-
  The statements' own secrets, users, credentials and heads.
-/
import Derived.Test.YtdmaffciijmdcaaGreatDoorKeep1ToKeep2
import Derived.Test.YtdmaffciijmdcaaGreatDoorGate12ToMath1
namespace Go.Proofs.YtdmaffciijmdcaaGreatDoor
namespace Plain
def secB (n : Int) (k : Nat) : UInt8 := (33 + (pickN n 1048576 + k * 31) % 94).toUInt8
def secretT (n : Int) (k : Nat) : List UInt8 := (List.range k).map (secB n)
theorem secretT_len (n : Int) (k : Nat) : (secretT n k).length = k := by simp [secretT]
theorem secretT_next (n : Int) (k : Nat) : secretT n (k + 1) = secretT n k ++ [secB n k] := by simp [secretT, List.range_succ]
theorem secB_nat (n : Int) (k : Nat) : ((secB n k).toNat : Int) = 33 + ((pickN n 1048576 + k * 31) % 94 : Nat) := by
  unfold secB
  have : (pickN n 1048576 + k * 31) % 94 < 94 := Nat.mod_lt _ (by decide)
  rw [Nat.toUInt8, UInt8.toNat_ofNat']
  omega
end Plain
open Go.RowKit Plain

theorem one_conv (W : World) (c : Int) (b : UInt8) (h : (b.toNat : Int) = c) : (convert 99 9 (.slice (some ⟨W.heap.size, 0, none⟩) 1 1)).run Tryz.prog (W.alloc (.cells #[.int .u8 c] 5)) = .ok (.string ⟨#[b]⟩) (W.alloc (.cells #[.int .u8 c] 5)) :=
  cells_to_str (w := W.alloc (.cells #[.int .u8 c] 5)) (g := W.heap.size) (o := 0) (c := 1) (l := [b]) (fun i hi => by
    have : i = 0 := by simpa using hi
    subst this
    rw [World.cell?_alloc_at (hn := rfl)]
    simp [h])

set_option maxRecDepth 100000 in
set_option maxHeartbeats 1600000 in
theorem secret_any (n : Int) (w : World) (hn : I64 n) :
    Calls Tryz.prog 43 #[.int .i64 n] w fun e w' => e = .returned (str (secretT n (3 + pickN n 7))) ∧ Q w w' := by
  have h7 := pickN_lt n (n := 7) (by decide)
  have hM := pickN_lt n (n := 1048576) (by decide)
  have P7 : ∀ w, Hid (Calls Tryz.prog 12 #[.int .i64 n, .int .i64 7] w fun e w' => e = .returned (.int .i64 ((pickN n 7 : Nat) : Int)) ∧ w' = w) := fun w => pick_any n 7 w hn (by decide) (by decide)
  have PM : ∀ w, Hid (Calls Tryz.prog 12 #[.int .i64 n, .int .i64 1048576] w fun e w' => e = .returned (.int .i64 ((pickN n 1048576 : Nat) : Int)) ∧ w' = w) := fun w => pick_any n 1048576 w hn (by decide) (by decide)
  have HB := fun k => show Hid _ from secB_nat n k
  obtain ⟨p, hp⟩ : ∃ p, p = pickN n 7 := ⟨_, rfl⟩
  obtain ⟨q, hq0⟩ : ∃ q, q = pickN n 1048576 := ⟨_, rfl⟩
  rw [← hp] at P7 h7
  rw [← hq0] at PM hM HB
  have HPE := show Hid _ from hp
  clear hp hq0
  go_enter Tryz.func43, Tryz.ntmps43
  go_wp2_with fail
  go_loopw [3, 4] (fun t i wr => ∃ k : Nat, k ≤ 3 + p ∧ i = .int .i64 k ∧ t = .string ⟨(secretT n k).toArray⟩ ∧ Q w wr) (fun _ i _ => 3 + p - (intOf i).toNat)
  case atStart => exact ⟨0, Nat.zero_le _, rfl, rfl, Q.refl _⟩
  case round =>
    obtain ⟨k, hk, rfl, rfl, hq⟩ := hrel
    by_cases hlt : k < 3 + p
    · have hb := (HB k).out
      have d1 : decide ((k : Int) < 3 + (p : Int)) = true := decide_eq_true (by omega)
      have hcv := fun W => one_conv W (33 + ((q + k * 31) % 94 : Nat)) (secB n k) hb
      have hrem : Int.tmod ((q : Int) + (k : Int) * 31) 94 = ((q + k * 31) % 94 : Nat) := by
        rw [Int.tmod_eq_emod_of_nonneg (by omega)]; omega
      have hm94 : (q + k * 31) % 94 < 94 := Nat.mod_lt _ (by decide)
      generalize (q + k * 31) % 94 = m at *
      have hw8 : ((33 : Int) + (m : Int)) % 256 = 33 + (m : Int) := by omega
      have hsl := secretT_len n k
      obtain ⟨T, hT⟩ : ∃ T : ByteArray, T = ⟨(secretT n k).toArray⟩ := ⟨_, rfl⟩
      have hTs : T.size = k := by rw [hT]; exact hsl
      have HT := show Hid _ from hT
      rw [← hT]
      clear hT hsl hb
      go_wp2_with (first | (go_at_call_of 12 (Value.int IntKind.i64 7); refine Calls.mono (Hid.out (P7 _)) ?_; rintro e w' ⟨rfl, hw⟩; rw [hw]; clear hw) | (go_at_call_of 12 (Value.int IntKind.i64 1048576); refine Calls.mono (Hid.out (PM _)) ?_; rintro e w' ⟨rfl, hw⟩; rw [hw]; clear hw))
      exact ⟨⟨k + 1, by omega, by go_num, by rw [HT.out, secretT_next, ← str_app], hq.alloc _⟩, by simp [intOf]; omega⟩
    · have d1 : decide ((k : Int) < 3 + (p : Int)) = false := decide_eq_false (by omega)
      have hkp : k = 3 + p := by omega
      have HK := show Hid _ from hkp
      clear hkp
      go_wp2_with (first | (go_at_call_of 12 (Value.int IntKind.i64 7); refine Calls.mono (Hid.out (P7 _)) ?_; rintro e w' ⟨rfl, hw⟩; rw [hw]; clear hw) | (go_at_call_of 12 (Value.int IntKind.i64 1048576); refine Calls.mono (Hid.out (PM _)) ?_; rintro e w' ⟨rfl, hw⟩; rw [hw]; clear hw))
      go_ret
      exact ⟨by rw [← HPE.out, ← HK.out]; rfl, hq⟩

namespace Plain
def usersT (n : Int) : List (List UInt8 × List UInt8) := [([97, 110, 110], secretT n (3 + pickN n 7)), ([98, 111, 98], secretT n (3 + pickN n 7) ++ [98]), ([99, 121], [99] ++ secretT n (3 + pickN n 7))]
def wordT (n : Int) (who : Nat) : List UInt8 := ((usersT n).getD who ([], [])).2
theorem secret_len10 (n : Int) : (secretT n (3 + pickN n 7)).length ≤ 9 := by
  rw [secretT_len]
  have := pickN_lt n (n := 7) (by decide)
  omega
end Plain

set_option maxRecDepth 100000 in
set_option maxHeartbeats 1600000 in
theorem users_any (n : Int) (w : World) (hn : I64 n) :
    Calls Tryz.prog 15 #[.int .i64 n] w fun e w' => ∃ g, e = .returned (.slice (some ⟨g, 0, none⟩) 3 3) ∧ Q w w' ∧ w.heap.size ≤ g ∧ g < w'.heap.size ∧ ∀ i u, (usersT n)[i]? = some u → w'.cell? ⟨g, i * 2, none⟩ = some (str u.1) ∧ w'.cell? ⟨g, i * 2 + 1, none⟩ = some (str u.2) := by
  have HS := fun x => show Hid _ from secret_any n x hn
  have hl := secret_len10 n
  obtain ⟨S, hS⟩ : ∃ S : ByteArray, S.data.toList = secretT n (3 + pickN n 7) := ⟨⟨(secretT n (3 + pickN n 7)).toArray⟩, rfl⟩
  have hSz : S.size ≤ 9 := by rw [← size_len, hS]; exact hl
  have HUs : Hid (usersT n = [([97, 110, 110], S.data.toList), ([98, 111, 98], S.data.toList ++ [98]), ([99, 121], [99] ++ S.data.toList)]) := by
    show _ = _
    unfold usersT; rw [hS]
  rw [← hS] at HS
  clear hl hS
  go_enter Tryz.func15, Tryz.ntmps15
  go_wp2_with fail
  refine Calls.mono (Hid.out (HS _)) ?_
  rintro e w1 ⟨rfl, hq1⟩
  rw [str_data]
  go_wp2_with fail
  refine Calls.mono (Hid.out (HS _)) ?_
  rintro e w2 ⟨rfl, hq2⟩
  rw [str_data]
  go_wp2_with fail
  refine Calls.mono (Hid.out (HS _)) ?_
  rintro e w3 ⟨rfl, hq3⟩
  rw [str_data]
  have hQ := (hq1.trans hq2).trans hq3
  clear hq1 hq2 hq3 HS
  go_wp2_with fail
  go_ret
  refine ⟨w3.heap.size, rfl, hQ.alloc _, hQ.size, by simp, fun i u hi => ?_⟩
  rw [HUs.out] at hi
  have sb : (.string (S ++ ⟨#[98]⟩) : Value) = str (S.data.toList ++ [98]) := by
    unfold str
    rw [← Lib.mk_data (S ++ ⟨#[98]⟩)]
    simp
  have sc : (.string (⟨#[99]⟩ ++ S) : Value) = str ([99] ++ S.data.toList) := by
    unfold str
    rw [← Lib.mk_data (⟨#[99]⟩ ++ S)]
    simp
  rw [World.cell?_alloc_at (hn := rfl), World.cell?_alloc_at (hn := rfl)]
  rcases i with _ | _ | _ | i
  · cases hi; exact ⟨rfl, rfl⟩
  · cases hi; exact ⟨rfl, by rw [← sb]; rfl⟩
  · cases hi; exact ⟨rfl, by rw [← sc]; rfl⟩
  · simp at hi

set_option maxRecDepth 100000 in
set_option maxHeartbeats 1600000 in
theorem word_any (n : Int) (who : Nat) (w : World) (hn : I64 n) (hw : who < 3) :
    Calls Tryz.prog 17 #[.int .i64 n, .int .i64 (who : Int)] w fun e w' => e = .returned (str (wordT n who)) ∧ Q w w' := by
  have HU := show Hid _ from users_any n w hn
  have hget : (usersT n)[who]? = some ((usersT n).getD who ([], [])) := by
    rw [List.getD_eq_getElem?_getD, List.getElem?_eq_getElem (show who < (usersT n).length from hw)]; rfl
  have HG := show Hid _ from hget
  clear hget
  go_enter Tryz.func17, Tryz.ntmps17
  go_wp2_with fail
  refine Calls.mono (Hid.out HU) ?_
  rintro e w1 ⟨g, rfl, hq, _, _, hc⟩
  have hc1 := (hc who _ HG.out).2
  have hc2 : w1.cell? ⟨g, who * 2 + 1, none⟩ = some (str (wordT n who)) := hc1
  unfold str at hc2
  clear hc hc1 HU
  go_wp2_with fail
  go_ret
  exact ⟨rfl, hq⟩
end Go.Proofs.YtdmaffciijmdcaaGreatDoor
/-
  The statements' own base 64, and heads.
-/
namespace Go.Proofs.YtdmaffciijmdcaaGreatDoor
open Go.RowKit Plain

theorem six_slice (x : Nat) (h : x < 64) : LA.extract x (x + 1) = ⟨[six x].toArray⟩ := by
  have hs : LA.size = 64 := rfl
  rw [← Lib.mk_data (LA.extract x (x + 1))]
  congr 1
  apply congrArg
  apply List.ext_getElem
  · simp
    have : LA.data.size = 64 := rfl
    omega
  · intro j h1 h2
    have : j = 0 := by simpa using h2
    subst this
    have hx : LA[x]'(by rw [hs]; exact h) = six x := la_get x x (Nat.mod_eq_of_lt h).symm (by rw [hs]; exact h)
    simp only [List.getElem_singleton, ← hx]
    simp
    rfl

theorem drop_byte (s : ByteArray) (i : Nat) (h : i < s.size) : s.data.toList.drop i = s[i] :: s.data.toList.drop (i + 1) := by
  rw [List.drop_eq_getElem_cons (by rw [size_len]; exact h)]; rfl

/-- What the walk asks of one number below 2 to the 24. -/
theorem six_facts (N : Nat) (hN : N < 16777216) : ∃ (x1 y2 x2 y3 x3 x4 : Nat) (X1 X2 X3 X4 : ByteArray), ((N : Int).tdiv 262144 = (x1 : Int) ∧ (N : Int) / 262144 = (x1 : Int)) ∧ ((N : Int).tdiv 4096 = (y2 : Int) ∧ (N : Int) / 4096 = (y2 : Int)) ∧ ((y2 : Int).tmod 64 = (x2 : Int) ∧ (y2 : Int) % 64 = (x2 : Int)) ∧ ((N : Int).tdiv 64 = (y3 : Int) ∧ (N : Int) / 64 = (y3 : Int)) ∧ ((y3 : Int).tmod 64 = (x3 : Int) ∧ (y3 : Int) % 64 = (x3 : Int)) ∧ ((N : Int).tmod 64 = (x4 : Int) ∧ (N : Int) % 64 = (x4 : Int)) ∧
    (x1 < 64 ∧ y2 < 4096 ∧ x2 < 64 ∧ y3 < 262144 ∧ x3 < 64 ∧ x4 < 64) ∧ (LA.extract x1 (x1 + 1) = X1 ∧ LA.extract x2 (x2 + 1) = X2 ∧ LA.extract x3 (x3 + 1) = X3 ∧ LA.extract x4 (x4 + 1) = X4) ∧ (X1.size = 1 ∧ X2.size = 1 ∧ X3.size = 1 ∧ X4.size = 1) ∧ Hid (X1 = ⟨[six (N / 262144)].toArray⟩ ∧ X2 = ⟨[six (N / 4096)].toArray⟩ ∧ X3 = ⟨[six (N / 64)].toArray⟩ ∧ X4 = ⟨[six N].toArray⟩) := by
  have hs : ∀ n : Nat, six (n % 64) = six n := fun n => by unfold six; rw [Nat.mod_mod]
  refine ⟨N / 262144, N / 4096, N / 4096 % 64, N / 64, N / 64 % 64, N % 64, _, _, _, _, ⟨?_, ?_⟩, ⟨?_, ?_⟩, ⟨?_, ?_⟩, ⟨?_, ?_⟩, ⟨?_, ?_⟩, ⟨?_, ?_⟩, ⟨by omega, by omega, by omega, by omega, by omega, by omega⟩, ⟨six_slice _ (by omega), six_slice _ (by omega), six_slice _ (by omega), six_slice _ (by omega)⟩, ⟨rfl, rfl, rfl, rfl⟩, rfl, by rw [hs], by rw [hs], by rw [hs]⟩
  all_goals first | omega | (rw [Int.tmod_eq_emod_of_nonneg (by omega)]; omega) | (rw [Int.tdiv_eq_ediv_of_nonneg (by omega)]; omega)

set_option maxRecDepth 100000 in
set_option maxHeartbeats 3200000 in
theorem coded_any (s : ByteArray) (w : World) (hs : s.size ≤ 100) :
    Calls Tryz.prog 47 #[.string s] w fun e w' => e = .returned (str (b64 s.data.toList)) ∧ Q w w' := by
  go_enter Tryz.func47, Tryz.ntmps47
  go_wp2_with fail
  go_loopw [3, 4, 5, 6] (fun o i _ _ wr => ∃ (r : Nat) (done : List UInt8), r ≤ 40 ∧ i = .int .i64 ((3 * r : Nat) : Int) ∧ o = .string ⟨done.toArray⟩ ∧ done.length ≤ 4 * r ∧ Q w wr ∧ Hid (b64 s.data.toList = done ++ b64 (s.data.toList.drop (3 * r)))) (fun _ i _ _ _ => s.size + 3 - (intOf i).toNat)
  case atStart => exact ⟨0, [], by omega, rfl, rfl, by simp, Q.refl _, rfl⟩
  case round =>
    obtain ⟨r, done, hr, rfl, rfl, hdl, hq, hsp⟩ := hrel
    have hcast : ((3 * r : Nat) : Int) = 3 * (r : Int) := by omega
    obtain ⟨D, hD⟩ : ∃ T : ByteArray, T = ⟨done.toArray⟩ := ⟨_, rfl⟩
    have hDs : D.size ≤ 4 * r := by rw [hD]; exact hdl
    have HD := show Hid _ from hD
    rw [← hD]
    clear hD hdl
    obtain ⟨i, hi⟩ : ∃ i, i = 3 * r := ⟨_, rfl⟩
    have HI := show Hid _ from hi
    have hi160 : i ≤ 120 := by omega
    rw [← hi] at hsp ⊢
    clear hcast hi
    by_cases h3 : i + 3 ≤ s.size
    · have h0 : i < s.size := by omega
      have h1 : i + 1 < s.size := by omega
      have h2 : i + 2 < s.size := by omega
      have a0 := s[i].toNat_lt
      have a1 := s[i + 1].toNat_lt
      have a2 := s[i + 2].toNat_lt
      have d0 : decide ((i : Int) < (s.size : Int)) = true := decide_eq_true (by omega)
      have d1 : decide ((i : Int) + 1 < (s.size : Int)) = true := decide_eq_true (by omega)
      have d2 : decide ((i : Int) + 2 < (s.size : Int)) = true := decide_eq_true (by omega)
      have HR : Hid (s.data.toList.drop i = s[i] :: s[i + 1] :: s[i + 2] :: s.data.toList.drop (i + 3)) := by
        show _ = _
        rw [drop_byte s i (by omega), drop_byte s (i + 1) (by omega), drop_byte s (i + 2) (by omega)]
      have HNE : Hid (s.data.toList.drop i ≠ []) := by
        show _ ≠ _
        rw [HR.out]; simp
      have HQE : Hid (quad (s.data.toList.drop i) = quad (s[i] :: s[i + 1] :: s[i + 2] :: s.data.toList.drop (i + 3))) := by
        show _ = _
        rw [HR.out]
      go_wp2_with fail
      refine wp_loop_rounds 4 ?_
      rw [rounds_succ]
      go_wp2_with fail
      rw [rounds_succ]
      go_wp2_with fail
      rw [rounds_succ]
      go_wp2_with fail
      rw [rounds_succ]
      go_wp2_with fail
      have hNe : (((s[i].toNat : Int) * 256 + (s[i + 1].toNat : Int)) * 256 + (s[i + 2].toNat : Int)) = ((bits3 s[i] s[i + 1] s[i + 2] : Nat) : Int) := by unfold bits3; omega
      have hNb : bits3 s[i] s[i + 1] s[i + 2] < 16777216 := by unfold bits3; omega
      obtain ⟨x1, y2, x2, y3, x3, x4, X1, X2, X3, X4, ⟨e1, f1⟩, ⟨e2, f2⟩, ⟨e3, f3⟩, ⟨e4, f4⟩, ⟨e5, f5⟩, ⟨e6, f6⟩, ⟨b1, b2, b3, b4, b5, b6⟩, ⟨l1, l2, l3, l4⟩, ⟨z1, z2, z3, z4⟩, HX⟩ := six_facts _ hNb
      have w1 : IntKind.i64.wrap (x1 : Int) = (x1 : Int) := by simp (disch := omega) only [IntWalk.i64_in]
      have w2 : IntKind.i64.wrap ((x1 : Int) + 1) = ((x1 : Int) + 1) := by simp (disch := omega) only [IntWalk.i64_in]
      have w3 : IntKind.i64.wrap (y2 : Int) = (y2 : Int) := by simp (disch := omega) only [IntWalk.i64_in]
      have w4 : IntKind.i64.wrap ((x2 : Int) + 1) = ((x2 : Int) + 1) := by simp (disch := omega) only [IntWalk.i64_in]
      have w5 : IntKind.i64.wrap (x2 : Int) = (x2 : Int) := by simp (disch := omega) only [IntWalk.i64_in]
      rw [hNe]
      have HQF : Hid (quad (s[i] :: s[i + 1] :: s[i + 2] :: s.data.toList.drop (i + 3)) = [six ((bits3 s[i] s[i + 1] s[i + 2]) / 262144), six ((bits3 s[i] s[i + 1] s[i + 2]) / 4096), six ((bits3 s[i] s[i + 1] s[i + 2]) / 64), six (bits3 s[i] s[i + 1] s[i + 2])]) := rfl
      generalize bits3 s[i] s[i + 1] s[i + 2] = N at *
      clear hNe hNb
      go_wp2_with fail
      go_region
      go_wp2_with fail
      have HS : Hid (D ++ X1 ++ X2 ++ X3 ++ X4 = ⟨(done ++ quad (s.data.toList.drop i)).toArray⟩) := by
        show _ = _
        obtain ⟨k1, k2, k3, k4⟩ := HX.out
        rw [HQE.out, HQF.out, HD.out, k1, k2, k3, k4]
        rw [← Lib.mk_data (_ ++ _)]
        simp
      have hri := HI.out
      refine ⟨⟨r + 1, done ++ quad (s.data.toList.drop i), by omega, congrArg (Value.int IntKind.i64) (by omega), by rw [HS.out], ?_, hq.drew, ?_⟩, by simp [intOf]; omega⟩
      · have h1 : D.size = done.length := by rw [HD.out]; rfl
        rw [List.length_append, HQE.out, HQF.out]
        show done.length + 4 ≤ _
        omega
      · show _ = _
        rw [hsp.out, b64_quad _ HNE.out, List.drop_drop, List.append_assoc, show i + 3 = 3 * (r + 1) by omega]
    by_cases h2' : i + 2 = s.size
    · have h0 : i < s.size := by omega
      have h1 : i + 1 < s.size := by omega
      have a0 := s[i].toNat_lt
      have a1 := s[i + 1].toNat_lt
      have d0 : decide ((i : Int) < (s.size : Int)) = true := decide_eq_true (by omega)
      have d1 : decide ((i : Int) + 1 < (s.size : Int)) = true := decide_eq_true (by omega)
      have d2 : decide ((i : Int) + 2 < (s.size : Int)) = false := decide_eq_false (by omega)
      have HR : Hid (s.data.toList.drop i = [s[i], s[i + 1]]) := by
        show _ = _
        rw [drop_byte s i (by omega), drop_byte s (i + 1) (by omega), List.drop_eq_nil_of_le (by rw [size_len]; omega)]
      have HNE : Hid (s.data.toList.drop i ≠ []) := by
        show _ ≠ _
        rw [HR.out]; simp
      have HQE : Hid (quad (s.data.toList.drop i) = quad ([s[i], s[i + 1]])) := by
        show _ = _
        rw [HR.out]
      go_wp2_with fail
      refine wp_loop_rounds 4 ?_
      rw [rounds_succ]
      go_wp2_with fail
      rw [rounds_succ]
      go_wp2_with fail
      rw [rounds_succ]
      go_wp2_with fail
      rw [rounds_succ]
      go_wp2_with fail
      have hNe : (((s[i].toNat : Int) * 256 + (s[i + 1].toNat : Int)) * 256) = ((bits3 s[i] s[i + 1] 0 : Nat) : Int) := by unfold bits3; have z : (0 : UInt8).toNat = 0 := rfl; rw [z]; omega
      have hNb : bits3 s[i] s[i + 1] 0 < 16777216 := by unfold bits3; have z : (0 : UInt8).toNat = 0 := rfl; rw [z]; omega
      obtain ⟨x1, y2, x2, y3, x3, x4, X1, X2, X3, X4, ⟨e1, f1⟩, ⟨e2, f2⟩, ⟨e3, f3⟩, ⟨e4, f4⟩, ⟨e5, f5⟩, ⟨e6, f6⟩, ⟨b1, b2, b3, b4, b5, b6⟩, ⟨l1, l2, l3, l4⟩, ⟨z1, z2, z3, z4⟩, HX⟩ := six_facts _ hNb
      have w1 : IntKind.i64.wrap (x1 : Int) = (x1 : Int) := by simp (disch := omega) only [IntWalk.i64_in]
      have w2 : IntKind.i64.wrap ((x1 : Int) + 1) = ((x1 : Int) + 1) := by simp (disch := omega) only [IntWalk.i64_in]
      have w3 : IntKind.i64.wrap (y2 : Int) = (y2 : Int) := by simp (disch := omega) only [IntWalk.i64_in]
      have w4 : IntKind.i64.wrap ((x2 : Int) + 1) = ((x2 : Int) + 1) := by simp (disch := omega) only [IntWalk.i64_in]
      have w5 : IntKind.i64.wrap (x2 : Int) = (x2 : Int) := by simp (disch := omega) only [IntWalk.i64_in]
      rw [hNe]
      have HQF : Hid (quad ([s[i], s[i + 1]]) = [six ((bits3 s[i] s[i + 1] 0) / 262144), six ((bits3 s[i] s[i + 1] 0) / 4096), six ((bits3 s[i] s[i + 1] 0) / 64), 61]) := rfl
      generalize bits3 s[i] s[i + 1] 0 = N at *
      clear hNe hNb
      go_wp2_with fail
      go_region
      go_wp2_with fail
      have HS : Hid (D ++ X1 ++ X2 ++ X3 ++ ⟨#[61]⟩ = ⟨(done ++ quad (s.data.toList.drop i)).toArray⟩) := by
        show _ = _
        obtain ⟨k1, k2, k3, k4⟩ := HX.out
        rw [HQE.out, HQF.out, HD.out, k1, k2, k3]
        rw [← Lib.mk_data (_ ++ _)]
        simp
      have hri := HI.out
      refine ⟨⟨r + 1, done ++ quad (s.data.toList.drop i), by omega, congrArg (Value.int IntKind.i64) (by omega), by rw [HS.out], ?_, hq.drew, ?_⟩, by simp [intOf]; omega⟩
      · have h1 : D.size = done.length := by rw [HD.out]; rfl
        rw [List.length_append, HQE.out, HQF.out]
        show done.length + 4 ≤ _
        omega
      · show _ = _
        rw [hsp.out, b64_quad _ HNE.out, List.drop_drop, List.append_assoc, show i + 3 = 3 * (r + 1) by omega]
    by_cases h1' : i + 1 = s.size
    · have h0 : i < s.size := by omega
      have a0 := s[i].toNat_lt
      have d0 : decide ((i : Int) < (s.size : Int)) = true := decide_eq_true (by omega)
      have d1 : decide ((i : Int) + 1 < (s.size : Int)) = false := decide_eq_false (by omega)
      have d2 : decide ((i : Int) + 2 < (s.size : Int)) = false := decide_eq_false (by omega)
      have HR : Hid (s.data.toList.drop i = [s[i]]) := by
        show _ = _
        rw [drop_byte s i (by omega), List.drop_eq_nil_of_le (by rw [size_len]; omega)]
      have HNE : Hid (s.data.toList.drop i ≠ []) := by
        show _ ≠ _
        rw [HR.out]; simp
      have HQE : Hid (quad (s.data.toList.drop i) = quad ([s[i]])) := by
        show _ = _
        rw [HR.out]
      go_wp2_with fail
      refine wp_loop_rounds 4 ?_
      rw [rounds_succ]
      go_wp2_with fail
      rw [rounds_succ]
      go_wp2_with fail
      rw [rounds_succ]
      go_wp2_with fail
      rw [rounds_succ]
      go_wp2_with fail
      have hNe : ((s[i].toNat : Int) * 256 * 256) = ((bits3 s[i] 0 0 : Nat) : Int) := by unfold bits3; have z : (0 : UInt8).toNat = 0 := rfl; rw [z]; omega
      have hNb : bits3 s[i] 0 0 < 16777216 := by unfold bits3; have z : (0 : UInt8).toNat = 0 := rfl; rw [z]; omega
      obtain ⟨x1, y2, x2, y3, x3, x4, X1, X2, X3, X4, ⟨e1, f1⟩, ⟨e2, f2⟩, ⟨e3, f3⟩, ⟨e4, f4⟩, ⟨e5, f5⟩, ⟨e6, f6⟩, ⟨b1, b2, b3, b4, b5, b6⟩, ⟨l1, l2, l3, l4⟩, ⟨z1, z2, z3, z4⟩, HX⟩ := six_facts _ hNb
      have w1 : IntKind.i64.wrap (x1 : Int) = (x1 : Int) := by simp (disch := omega) only [IntWalk.i64_in]
      have w2 : IntKind.i64.wrap ((x1 : Int) + 1) = ((x1 : Int) + 1) := by simp (disch := omega) only [IntWalk.i64_in]
      have w3 : IntKind.i64.wrap (y2 : Int) = (y2 : Int) := by simp (disch := omega) only [IntWalk.i64_in]
      have w4 : IntKind.i64.wrap ((x2 : Int) + 1) = ((x2 : Int) + 1) := by simp (disch := omega) only [IntWalk.i64_in]
      have w5 : IntKind.i64.wrap (x2 : Int) = (x2 : Int) := by simp (disch := omega) only [IntWalk.i64_in]
      rw [hNe]
      have HQF : Hid (quad ([s[i]]) = [six ((bits3 s[i] 0 0) / 262144), six ((bits3 s[i] 0 0) / 4096), 61, 61]) := rfl
      generalize bits3 s[i] 0 0 = N at *
      clear hNe hNb
      go_wp2_with fail
      go_region
      go_wp2_with fail
      have HS : Hid (D ++ X1 ++ X2 ++ ⟨#[61]⟩ ++ ⟨#[61]⟩ = ⟨(done ++ quad (s.data.toList.drop i)).toArray⟩) := by
        show _ = _
        obtain ⟨k1, k2, k3, k4⟩ := HX.out
        rw [HQE.out, HQF.out, HD.out, k1, k2]
        rw [← Lib.mk_data (_ ++ _)]
        simp
      have hri := HI.out
      refine ⟨⟨r + 1, done ++ quad (s.data.toList.drop i), by omega, congrArg (Value.int IntKind.i64) (by omega), by rw [HS.out], ?_, hq.drew, ?_⟩, by simp [intOf]; omega⟩
      · have h1 : D.size = done.length := by rw [HD.out]; rfl
        rw [List.length_append, HQE.out, HQF.out]
        show done.length + 4 ≤ _
        omega
      · show _ = _
        rw [hsp.out, b64_quad _ HNE.out, List.drop_drop, List.append_assoc, show i + 3 = 3 * (r + 1) by omega]
    have d0 : decide ((i : Int) < (s.size : Int)) = false := decide_eq_false (by omega)
    have HE : Hid (b64 s.data.toList = done) := by
      show _ = _
      rw [hsp.out, List.drop_eq_nil_of_le (by rw [size_len]; omega)]
      simp [b64]
    go_wp2_with fail
    go_ret
    exact ⟨by rw [HE.out, HD.out]; rfl, hq⟩
end Go.Proofs.YtdmaffciijmdcaaGreatDoor

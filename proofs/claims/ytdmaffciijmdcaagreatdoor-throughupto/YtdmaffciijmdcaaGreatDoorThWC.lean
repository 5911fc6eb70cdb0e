/-
  The law 'Through', walked.
-/
import Derived.Test.YtdmaffciijmdcaaGreatDoorThPC
namespace Go.Proofs.YtdmaffciijmdcaaGreatDoor
open Go.RowKit Plain

theorem extract_left (U : List UInt8) (k : Nat) : (⟨U.toArray⟩ : ByteArray).extract 0 k = ⟨(U.take k).toArray⟩ := str_take U k

set_option maxRecDepth 100000 in
set_option maxHeartbeats 3200000 in
theorem through_any (n who whr prt : Int) (U Dn : List UInt8) (rv : Value) (raw : List Int) (when_ : Int) (w : World) (hn : I64 n) (hwho : I64 who) (hwhr : I64 whr) (hprt : I64 prt) (hwn : I64 when_) (hu : U.length ≤ 1048576) (hd : Dn.length ≤ 1048576) (hr : IntsAt w rv raw) (hm : ML w) :
    Calls Tryz.prog 6 #[.int .i64 n, .int .i64 who, .int .i64 whr, .int .i64 prt, .string ⟨U.toArray⟩, .string ⟨Dn.toArray⟩, rv, .int .i64 when_] w fun e w' => e = .returned (.bool true) ∧ Q w w' := by
  have HR : Hid (IntsAt w rv raw) := hr
  have HM : Hid (ML w) := hm
  have HN : Hid (I64 n) := hn
  obtain ⟨ra, rc, rfl, hrx⟩ := hr
  clear hrx
  obtain ⟨rl, hrl⟩ : ∃ m, m = raw.length := ⟨_, rfl⟩
  rw [← hrl] at HR ⊢
  have h3 := pickN_lt who (n := 3) (by decide)
  have h6 := pickN_lt whr (n := 6) (by decide)
  have hp6 := pickN_lt prt (n := 65536) (by decide)
  have hpe := pickN_lt when_ (n := U.length + 1) (by omega)
  have P3 : ∀ w, Hid (Calls Tryz.prog 12 #[.int .i64 who, .int .i64 3] w fun e w' => e = .returned (.int .i64 ((pickN who 3 : Nat) : Int)) ∧ w' = w) := fun w => pick_any who 3 w hwho (by decide) (by decide)
  have P6 : ∀ w, Hid (Calls Tryz.prog 12 #[.int .i64 whr, .int .i64 6] w fun e w' => e = .returned (.int .i64 ((pickN whr 6 : Nat) : Int)) ∧ w' = w) := fun w => pick_any whr 6 w hwhr (by decide) (by decide)
  have PP : ∀ w, Hid (Calls Tryz.prog 12 #[.int .i64 prt, .int .i64 65536] w fun e w' => e = .returned (.int .i64 ((pickN prt 65536 : Nat) : Int)) ∧ w' = w) := fun w => pick_any prt 65536 w hprt (by decide) (by decide)
  have PE : ∀ w, Hid (Calls Tryz.prog 12 #[.int .i64 when_, .int .i64 ((U.length : Int) + 1)] w fun e w' => e = .returned (.int .i64 ((pickN when_ (U.length + 1) : Nat) : Int)) ∧ w' = w) := fun w => by
    have := pick_any when_ ((U.length : Int) + 1) w hwn (by omega) (by omega)
    rw [show ((U.length : Int) + 1).toNat = U.length + 1 by omega] at this
    exact this
  obtain ⟨H, hH⟩ : ∃ S : ByteArray, S.data.toList = nameS (pickN whr 6) := ⟨⟨(nameS (pickN whr 6)).toArray⟩, rfl⟩
  have hH23 : H.size ≤ 23 := by rw [← size_len, hH, ← qT_host who whr prt]; exact hostT_len _
  have HNa : ∀ x, Hid (Calls Tryz.prog 23 #[.int .i64 ((pickN whr 6 : Nat) : Int)] x fun e w' => e = .returned (.string H) ∧ Q x w') := fun x => (names_any _ x (by omega) (by omega)).mono (by
    rintro e w' ⟨rfl, h⟩
    refine ⟨?_, h⟩
    rw [Int.toNat_natCast, ← hH, str_data])
  have HUs : ∀ x, Hid (Calls Tryz.prog 15 #[.int .i64 n] x fun e w' => ∃ g, e = .returned (.slice (some ⟨g, 0, none⟩) 3 3) ∧ Q x w' ∧ Hid (UsAt n g w')) := fun x => (users_any n x HN.out).mono (by
    rintro e w' ⟨g, rfl, h1, _, h2, h3⟩
    exact ⟨g, rfl, h1, h2, h3⟩)
  obtain ⟨Wd, hWd⟩ : ∃ S : ByteArray, S.data.toList = wordT n (pickN who 3) := ⟨⟨(wordT n (pickN who 3)).toArray⟩, rfl⟩
  have hW11 : Wd.size ≤ 11 := by rw [← size_len, hWd]; exact word_len n _ h3
  have HWo : ∀ x, Hid (Calls Tryz.prog 17 #[.int .i64 n, .int .i64 ((pickN who 3 : Nat) : Int)] x fun e w' => e = .returned (.string Wd) ∧ Q x w') := fun x => (word_any n _ x HN.out h3).mono (by
    rintro e w' ⟨rfl, h⟩
    refine ⟨?_, h⟩
    rw [← hWd, str_data])
  obtain ⟨T, hT⟩ : ∃ S : ByteArray, S.data.toList = headU n who whr prt := ⟨⟨(headU n who whr prt).toArray⟩, rfl⟩
  have hTz : T.size < 1000 := by rw [← size_len, hT]; exact headU_short n who whr prt
  have HHd : ∀ x, Hid (Calls Tryz.prog 20 #[.int .i64 ((pickN who 3 : Nat) : Int), .string Wd, .string H, .int .i64 ((pickN prt 65536 : Nat) : Int)] x fun e w' => e = .returned (.string T) ∧ Q x w') := fun x => by
    have := head_any (pickN who 3) Wd H (pickN prt 65536) x h3 (by omega) (by omega) (by omega)
    rw [hWd, hH] at this
    rw [← str_data T, hT]
    exact this
  have HT := show Hid _ from hT
  have HHn := show Hid _ from hH
  obtain ⟨E, hE⟩ : ∃ E, E = pickN when_ (U.length + 1) := ⟨_, rfl⟩
  rw [← hE] at PE hpe
  have hEl : E ≤ U.length := by omega
  have hUz : (⟨U.toArray⟩ : ByteArray).size = U.length := mk_size U
  have hDz : (⟨Dn.toArray⟩ : ByteArray).size = Dn.length := mk_size Dn
  clear hrl hn hwho hwhr hprt hwn hm hH hWd hT hE hpe
  go_enter Tryz.func6, Tryz.ntmps6
  go_wp2_with fail
  refine Calls.mono (Hid.out (P3 _)) ?_
  rintro e w' ⟨rfl, hw⟩
  rw [hw]
  clear hw w' P3
  go_wp2_with fail
  refine Calls.mono (Hid.out (P6 _)) ?_
  rintro e w' ⟨rfl, hw⟩
  rw [hw]
  clear hw w' P6
  go_wp2_with fail
  refine Calls.mono (Hid.out (HNa _)) ?_
  rintro e w1 ⟨rfl, hq1⟩
  clear HNa
  go_wp2_with fail
  refine Calls.mono (Hid.out (PP _)) ?_
  rintro e w' ⟨rfl, hw⟩
  rw [hw]
  clear hw w' PP
  go_wp2_with fail
  refine Calls.mono (Hid.out (HUs _)) ?_
  rintro e w2 ⟨ug, rfl, hq2, hus⟩
  have HNw := show Hid _ from th_new hus.out (hq1.trans hq2)
  clear HUs hus hq1 hq2
  go_wp2_with fail
  refine Calls.mono (Hid.out HNw) ?_
  rintro e w3 ⟨gb, rfl, o3, gws3, rows3, hh3, hg3, hok3⟩
  have HA := show Hid _ from hh3.accept hg3 hok3
  clear HNw hh3 hg3 hok3
  go_wp2_with fail
  refine Calls.mono (Hid.out HA) ?_
  rintro e w4 (⟨h8, _, _⟩ | ⟨h8, ⟨o4, hh4⟩, rfl⟩)
  · cases h8
  clear h8
  have e1 : ((gateT l1 n 0).last : Int) + 1 = 1 := rfl
  rw [e1]
  have HH4 := show Hid _ from hh4
  clear HA hh4 e1
  go_wp2_with fail
  refine Calls.mono (Hid.out (HWo _)) ?_
  rintro e w5 ⟨rfl, hq5⟩
  clear HWo
  go_wp2_with fail
  refine Calls.mono (Hid.out (HHd _)) ?_
  rintro e w6 ⟨rfl, hq6⟩
  have HH6 := show Hid _ from (HH4.out.stays hq5).stays hq6
  clear HHd HH4 hq5 hq6
  have hUi : ((⟨U.toArray⟩ : ByteArray).size : Int) = (U.length : Int) := by rw [hUz]
  go_wp2_with fail
  refine Calls.mono (Hid.out (PE _)) ?_
  rintro e w' ⟨rfl, hw⟩
  rw [hw]
  clear hw w' PE
  go_wp2_with fail
  obtain ⟨S1, hS1⟩ : ∃ S : ByteArray, S = T ++ (⟨U.toArray⟩ : ByteArray).extract 0 E := ⟨_, rfl⟩
  have hS1d : S1.data.toList = headU n who whr prt ++ U.take E := by rw [hS1, app_str, HT.out, extract_left]
  rw [← hS1]
  have HF := show Hid _ from th_first (who := who) (whr := whr) (prt := prt) HH6.out (put_at _ _ _) HM.out S1 (U.take E) hS1d (by rw [List.length_take]; omega) (.slice ra rl rc) raw HR.out
  clear hS1 hS1d HH6
  refine Calls.mono (Hid.out HF) ?_
  rintro e w7 ⟨v7, o7, gws7, rows7, rfl, hh7, hg7, hrow7⟩
  obtain ⟨lg, lc, rfl, hlc⟩ := ev_cells (l := [⟨1, 1, nameS (pickN whr 6), ((pickN prt 65536 : Nat) : Int)⟩]) hrow7 (by simp)
  rw [← HHn.out] at hlc
  have c0 := hlc 0 _ rfl
  have c1 := hlc 1 _ rfl
  have c2 := hlc 2 _ rfl
  have c3 := hlc 3 _ rfl
  rw [str_data] at c2
  have HD := show Hid _ from th_dialed hh7 hg7 (by rw [List.length_take]; omega)
  clear HF hh7 hg7 hrow7 hlc
  go_wp2_with fail
  refine Calls.mono (Hid.out HD) ?_
  rintro e w8 ⟨da, dc, o8, gws8, rows8, rfl, hh8, hg8, hr8⟩
  obtain ⟨DD, hDD⟩ : ∃ l, l = (⟨2, 1, goB, 0⟩ :: sendS 3 1 (U.take E) : List EvS) := ⟨_, rfl⟩
  have HDD := show Hid _ from hDD
  obtain ⟨S2, hS2⟩ : ∃ S : ByteArray, S = (⟨U.toArray⟩ : ByteArray).extract E U.length := ⟨_, rfl⟩
  have hS2d : S2.data.toList = U.drop E := by rw [hS2, str_drop]
  have hS2z : S2.size = U.length - E := by rw [← size_len, hS2d, List.length_drop]
  have HF2 := show Hid _ from th_second hh8 hg8 hr8 HM.out S2 (by rw [List.length_take, hS2z]; omega) (.slice ra rl rc) raw HR.out
  rw [hS2d, List.take_append_drop, ← hDD] at HF2
  rw [← hDD]
  clear HD hh8 hg8 hr8 hDD hS2d c0 c1 c2 c3
  generalize DD.length = dl at *
  go_wp2_with fail
  rw [← hS2]
  clear hS2 hS2z
  refine Calls.mono (Hid.out HF2) ?_
  rintro e w9 ⟨ma, mk, mc, v4, w10, v5, w11, rfl, hrun4, hrun5, ⟨va4, vk4, vc4, rfl⟩, hta⟩
  obtain ⟨va5, vk5, vc5, rfl⟩ := hta.form
  have HRun4 := show Hid _ from hrun4
  have HRun5 := show Hid _ from hrun5
  have HTa := show Hid _ from hta
  clear HF2 hrun4 hrun5 hta
  go_wp2_with (first | (at_builtin; refine wpList_append_run rfl (.tmp 134) (.tmp 135) 41 41 rfl (.slice none 0 0) (.slice da dl dc) (.slice va4 vk4 vc4) w10 rfl rfl HRun4.out ?_) | (at_builtin; refine wpList_append_run rfl (.tmp 137) (.tmp 138) 41 41 rfl (.slice va4 vk4 vc4) (.slice ma mk mc) (.slice va5 vk5 vc5) w11 rfl rfl HRun5.out ?_))
  clear HRun4 HRun5
  go_loopw [5, 31, 30, 32, 33, 34, 35, 36] (fun dn i av _ _ _ _ _ wr => ∃ (k L : Nat) (R : ByteArray), dn = .string R ∧ i = .int .i64 (k : Int) ∧ (∃ a j c, av = .slice a j c) ∧ k + R.size ≤ 1048576 ∧ L + R.size ≤ 2097176 ∧ Hid (ThAt w gb n (.slice da dl dc) DD U L av wr)) (fun dn _ _ _ _ _ _ _ _ => strLen dn)
  case atStart => exact ⟨0, 1048600, ⟨Dn.toArray⟩, rfl, rfl, ⟨_, _, _, rfl⟩, by omega, by omega, HTa.out⟩
  case round =>
    obtain ⟨k, L, R, rfl, rfl, ⟨aa, aj, ac, rfl⟩, hkR, hLR, hat⟩ := hrel
    clear HTa
    by_cases hR0 : R.size = 0
    · have hnil : R.data.toList = [] := List.eq_nil_of_length_eq_zero (by rw [size_len]; exact hR0)
      have hemp : R.toList.isEmpty = true := by rw [Lib.toList_data, hnil]; rfl
      have HE1 := show Hid _ from th_ends1 hat.out
      clear hnil hR0 hat
      go_wp2_with fail
      refine Calls.mono (Hid.out HE1) ?_
      rintro e w12 ⟨ea, ec, o12, gws12, rows12, A, rfl, hh12, hg12, hr1, hr3, htA, hr5⟩
      have HE2 := show Hid _ from th_ends2 hh12 hg12
      have HX12 : Hid (rows12 1 = some (.slice da dl dc, DD) ∧ rows12 3 = some (.slice aa aj ac, A) ∧ (textS 3 A = U ∧ bulkS A ≤ L ∧ A.length ≤ L) ∧ rows12 5 = some (.slice ea 1 ec, [⟨5, 1, [], 0⟩])) := ⟨hr1, hr3, htA, hr5⟩
      clear HE1 hh12 hg12 hr1 hr3 htA hr5
      go_wp2_with fail
      refine Calls.mono (Hid.out HE2) ?_
      rintro e w13 ⟨ba, bc, o13, rfl, hh13⟩
      have HO := show Hid _ from th_over hh13 (put_at _ _ _)
      have HH13 := show Hid _ from hh13
      clear HE2 hh13
      go_wp2_with fail
      refine Calls.mono (Hid.out HO) ?_
      rintro e w14 ⟨hw14, rfl⟩
      rw [hw14]
      clear hw14 HO
      have ha5 : w13.ownsRow w.heap.size 48 4 (.slice ea 1 ec) ([⟨5, 1, [], 0⟩] : List EvS).length (evVals [⟨5, 1, [], 0⟩]) := (HH13.out.row 5 _ (by rw [put_ne _ _ (by decide)]; exact HX12.out.2.2.2)).1
      have hb6 : w13.ownsRow w.heap.size 48 4 (.slice ba 1 bc) ([⟨4, 1, [], 0⟩] : List EvS).length (evVals [⟨4, 1, [], 0⟩]) := (HH13.out.row 6 _ (put_at _ _ _)).1
      have hA3 := (HH13.out.row 3 _ (by rw [put_ne _ _ (by decide)]; exact HX12.out.2.1)).1
      have hD1 := (HH13.out.row 1 _ (by rw [put_ne _ _ (by decide)]; exact HX12.out.1)).1
      obtain ⟨eg, ec', e5, hec⟩ := ev_cells ha5 (by simp)
      obtain ⟨bg, bc', e6, hbc⟩ := ev_cells hb6 (by simp)
      injection e5 with e5 e5b e5c
      injection e6 with e6 e6b e6c
      clear e5b e5c e6b e6c
      subst e5
      subst e6
      have a0 : w13.cell? ⟨eg, 0, none⟩ = some (.int .i64 5) := hec 0 _ rfl
      have b0 : w13.cell? ⟨bg, 0, none⟩ = some (.int .i64 4) := hbc 0 _ rfl
      have HTx := show Hid _ from texts_any (.slice aa aj ac) A 3 _ w13 hA3 (by have := HX12.out.2.2.1.2.1; omega) (by have := HX12.out.2.2.1.2.2; omega)
      rw [HX12.out.2.2.1.1] at HTx
      have hDl : DD.length ≤ 2 ∧ bulkS DD ≤ 1048595 ∧ textS 2 DD = goB := by
        rw [HDD.out]
        have h1 : (sendS 3 1 (U.take E)).length ≤ 1 := by unfold sendS; split <;> simp
        have h2 : bulkS (sendS 3 1 (U.take E)) ≤ (U.take E).length := by unfold sendS; split <;> simp [bulkS]
        rw [List.length_take] at h2
        refine ⟨by simp only [List.length_cons]; omega, ?_, ?_⟩
        · show goB.length + bulkS (sendS 3 1 (U.take E)) ≤ _
          have : goB.length = 19 := rfl
          omega
        · show goB ++ textS 2 (sendS 3 1 (U.take E)) = goB
          rw [textS_send, if_neg (by decide), List.append_nil]
      have HTd := show Hid _ from texts_any (.slice da dl dc) DD 2 _ w13 hD1 (by omega) (by omega)
      rw [hDl.2.2] at HTd
      have HQ : Hid (Q w w13) := HH13.out.q
      clear ha5 hb6 hA3 hD1 hec hbc HX12 HH13 hDl hemp hkR hLR hUi hUz hDz hW11 hTz hH23 hu hd h3 h6 hp6 hEl HT HHn HDD
      go_wp2_with fail
      refine Calls.mono (Hid.out HTx) ?_
      rintro e w15 ⟨rfl, hw15⟩
      rw [hw15]
      clear hw15 HTx
      unfold str
      go_wp2_with fail
      refine Calls.mono (Hid.out HTd) ?_
      rintro e w15 ⟨rfl, hw15⟩
      rw [hw15]
      clear hw15 HTd
      unfold goB str
      go_wp2_with fail
      go_ret
      exact ⟨by simp, HQ.out⟩
    · have hne : R.data.toList ≠ [] := fun e => hR0 (by rw [← size_len, e]; rfl)
      have hemp : R.toList.isEmpty = false := by rw [Lib.toList_data]; cases hx : R.data.toList with
        | nil => exact absurd hx hne
        | cons a b => rfl
      have HPc := show Hid _ from piece_any R (.slice ra rl rc) raw k wr (HR.out.stays hat.out.q) (by omega)
      obtain ⟨hp1, hp2⟩ := pieceN_le R.size raw[k]?
      generalize pieceN R.size raw[k]? = pn at *
      have hpp : 0 < pn := hp2 (by omega)
      obtain ⟨P, hP⟩ : ∃ M : ByteArray, M.data.toList = R.data.toList.take pn := ⟨⟨(R.data.toList.take pn).toArray⟩, rfl⟩
      obtain ⟨R2, hR2⟩ : ∃ M : ByteArray, M.data.toList = R.data.toList.drop pn := ⟨⟨(R.data.toList.drop pn).toArray⟩, rfl⟩
      have hPz : P.size = pn := by rw [← size_len, hP, List.length_take, size_len]; omega
      have hR2z : R2.size + pn = R.size := by rw [← size_len, hR2, List.length_drop, size_len]; omega
      rw [← hP, ← hR2, str_data, str_data] at HPc
      have HPne : Hid (P.data.toList ≠ []) := fun e => by
        have := congrArg List.length e
        rw [size_len, List.length_nil] at this
        omega
      clear hP hR2 hne hR0 hp2
      go_wp2_with fail
      refine Calls.mono (Hid.out HPc) ?_
      rintro e w12 ⟨rfl, hq12⟩
      have HHs := show Hid _ from th_host (hat.out.stays hq12) P HPne.out (by omega)
      clear HPc hq12
      go_wp2_with fail
      refine Calls.mono (Hid.out HHs) ?_
      rintro e w13 ⟨ha, hc, vo, vn, vc, w14, rfl, hrun, hrow, hta⟩
      have HRun := show Hid _ from hrun
      have HTa2 := show Hid _ from hta
      have HTx := show Hid _ from texts_any (.slice ha 1 hc) [⟨2, 1, P.data.toList, 0⟩] 2 _ w14 hrow (by
        have : bulkS [(⟨2, 1, P.data.toList, 0⟩ : EvS)] = P.size := by rw [← size_len]; simp [bulkS]
        omega) (by simp)
      have htx : str (textS 2 [(⟨2, 1, P.data.toList, 0⟩ : EvS)]) = .string P := by
        rw [show textS 2 [(⟨2, 1, P.data.toList, 0⟩ : EvS)] = P.data.toList by simp [textS], str_data]
      rw [htx] at HTx
      clear HHs hrun hrow hta htx hat
      go_wp2_with (first | (at_builtin; refine wpList_append_run rfl (.tmp 160) (.tmp 161) 41 41 rfl (.slice aa aj ac) (.slice ha 1 hc) (.slice vo vn vc) w14 rfl rfl HRun.out ?_))
      refine Calls.mono (Hid.out HTx) ?_
      rintro e w15 ⟨rfl, hw15⟩
      rw [hw15]
      clear hw15 HTx
      go_wp2_with fail
      refine ⟨⟨k + 1, L + P.size, R2, rfl, by go_num, ⟨_, _, _, rfl⟩, by omega, by omega, HTa2⟩, ?_⟩
      show R2.size < R.size
      omega
end Go.Proofs.YtdmaffciijmdcaaGreatDoor

/-
  The law 'Apart', walked.
-/
import Derived.Test.YtdmaffciijmdcaaGreatDoorAp2C
namespace Go.Proofs.YtdmaffciijmdcaaGreatDoor
open Go.RowKit Plain

set_option maxRecDepth 100000 in
set_option maxHeartbeats 3200000 in
theorem apart_any (n : Int) (a b : ByteArray) (rv : Value) (raw : List Int) (w : World) (hn : I64 n) (ha : a.size ≤ 1048576) (hb : b.size ≤ 1048576) (hr : IntsAt w rv raw) (hm : ML w) :
    Calls Tryz.prog 9 #[.int .i64 n, .string a, .string b, rv] w fun e w' => e = .returned (.bool true) ∧ Q w w' := by
  have HR : Hid (IntsAt w rv raw) := hr
  have HM : Hid (ML w) := hm
  have HN : Hid (I64 n) := hn
  obtain ⟨ra, rc, rfl, _⟩ := hr
  obtain ⟨rl, hrl⟩ : ∃ m, m = raw.length := ⟨_, rfl⟩
  rw [← hrl] at HR ⊢
  clear hrl hm hn
  have HUs : ∀ x, Hid (Calls Tryz.prog 15 #[.int .i64 n] x fun e w' => ∃ g, e = .returned (.slice (some ⟨g, 0, none⟩) 3 3) ∧ Q x w' ∧ Hid (UsAt n g w')) := fun x => (users_any n x HN.out).mono (by
    rintro e w' ⟨g, rfl, h1, _, h2, h3⟩
    exact ⟨g, rfl, h1, h2, h3⟩)
  have hAn : (⟨#[97, 108, 108, 111, 119, 32, 97, 110, 110, 32, 42, 32, 42, 32, 42, 10]⟩ : ByteArray).data.toList = annB := rfl
  have HNw : ∀ (g : Nat) (x : World) (o : Ow) (gws : Gws) (rows : Rws) (i : Nat), Hold w x o gws rows → gws i = none → UsAt n g x → Hid (Calls Tryz.prog 13 #[.string ⟨#[97, 108, 108, 111, 119, 32, 97, 110, 110, 32, 42, 32, 42, 32, 42, 10]⟩, .slice (some ⟨g, 0, none⟩) 3 3, .int .i64 0] x fun e w' => ∃ gb o', e = .returned (.tuple #[ptr gb, .int .i64 0, .int .i64 0]) ∧ Hid (Hold w w' o' (put gws i (gb, gateT l0 n 0)) rows ∧ GOk (gateT l0 n 0))) := fun g x o gws rows i hh hi hu => by
    refine (hh.new hi _ (usersT n) _ 0 (by decide) hu.pairs (by simp [usersT])).mono ?_
    rintro e w' (⟨en, ln, hns, _⟩ | ⟨G, gb, o', hns, rfl, hh', hok, _⟩)
    · rw [hAn, l0_new] at hns; cases hns
    · rw [hAn, l0_new] at hns
      cases hns
      exact ⟨gb, o', rfl, hh', hok⟩
  clear hAn
  go_enter Tryz.func9, Tryz.ntmps9
  go_wp2_with fail
  refine Calls.mono (Hid.out (HUs _)) ?_
  rintro e w1 ⟨u1, rfl, hq1, hu1⟩
  have HH1 := show Hid _ from Hold.start (w0 := w) hq1
  clear hq1
  go_wp2_with fail
  refine Calls.mono (Hid.out (HNw u1 w1 _ _ _ 0 HH1.out rfl hu1.out)) ?_
  rintro e w2 ⟨gb, o2, rfl, hh2⟩
  clear HH1 hu1
  go_wp2_with fail
  refine Calls.mono (Hid.out (HUs _)) ?_
  rintro e w3 ⟨u3, rfl, hq3, hu3⟩
  have HH3 := show Hid _ from hh2.out.1.stays hq3
  clear hq3
  go_wp2_with fail
  refine Calls.mono (Hid.out (HNw u3 w3 _ _ _ 1 HH3.out rfl hu3.out)) ?_
  rintro e w4 ⟨hb', o4, rfl, hh4⟩
  have HOk := show Hid _ from hh2.out.2
  have HH4 := show Hid _ from hh4.out.1
  clear hh2 hh4 HH3 hu3 HUs HNw
  have HA1 := show Hid _ from HH4.out.accept (i := 0) rfl HOk.out
  have HOk1 : Hid (GOk (gateT l0 n 0).accept) := gateT_ok l0 n 0
  have HL0 : Hid ((gateT l0 n 0).conns.length = 0 ∧ (gateT l0 n 0).last = 0 ∧ (gateT l0 n 0).accept.conns.length = 1 ∧ (gateT l0 n 0).accept.last = 1) := ⟨rfl, rfl, rfl, rfl⟩
  obtain ⟨G0, hG0⟩ : ∃ g, g = gateT l0 n 0 := ⟨_, rfl⟩
  have HG0 := show Hid _ from hG0
  rw [← hG0] at HA1 HOk HOk1 HL0 HH4
  clear hG0
  go_wp2_with fail
  refine Calls.mono (Hid.out HA1) ?_
  rintro e w5 (⟨h8, _, _⟩ | ⟨_, ⟨o5, hh5⟩, rfl⟩)
  · rw [HL0.out.1] at h8; cases h8
  rw [HL0.out.2.1]
  have HH5 := show Hid _ from hh5
  have HA2 := show Hid _ from hh5.accept (i := 0) (put_at _ _ _) HOk1.out
  clear hh5 HA1 HH4
  go_wp2_with fail
  refine Calls.mono (Hid.out HA2) ?_
  rintro e w6 (⟨h8, _, _⟩ | ⟨_, ⟨o6, hh6⟩, rfl⟩)
  · rw [HL0.out.2.2.1] at h8; cases h8
  rw [HL0.out.2.2.2]
  have HH6 := show Hid _ from hh6
  have HA3 := show Hid _ from hh6.accept (i := 1) (gb := hb') (G := G0) rfl HOk.out
  clear hh6 HA2 HH5
  go_wp2_with fail
  refine Calls.mono (Hid.out HA3) ?_
  rintro e w7 (⟨h8, _, _⟩ | ⟨_, ⟨o7, hh7⟩, rfl⟩)
  · rw [HL0.out.1] at h8; cases h8
  rw [HL0.out.2.1]
  have HI7 : Hid (∀ two, AInv w gb hb' n a.data.toList two 0 0 false (.slice none 0 0) (.slice none 0 0) w7) := fun two => ainv_start hh7 (by rw [← HG0.out]; rfl) (by rw [← HG0.out]; rfl)
  clear hh7 HA3 HH6
  have hexs : (⟨#[101, 120, 97, 109, 112, 108, 101, 46, 99, 111, 109]⟩ : ByteArray).size = 11 := rfl
  have HWo : ∀ (k : Nat) x, k < 3 → Hid (Calls Tryz.prog 17 #[.int .i64 n, .int .i64 (k : Int)] x fun e w' => ∃ W : ByteArray, e = .returned (.string W) ∧ W.size ≤ 11 ∧ Hid (W.data.toList = wordT n k) ∧ Q x w') := fun k x hk => (word_any n k x HN.out hk).mono (by
    rintro e w' ⟨rfl, hq⟩
    exact ⟨⟨(wordT n k).toArray⟩, rfl, by rw [← size_len]; exact word_len n k hk, rfl, hq⟩)
  have HHd : ∀ (k : Nat) (W : ByteArray) x, k < 3 → W.size ≤ 11 → Hid (Calls Tryz.prog 20 #[.int .i64 (k : Int), .string W, .string ⟨#[101, 120, 97, 109, 112, 108, 101, 46, 99, 111, 109]⟩, .int .i64 443] x fun e w' => ∃ T : ByteArray, e = .returned (.string T) ∧ Hid (T.data.toList = headT k W.data.toList exB 443) ∧ T.size ≤ 1000 ∧ Q x w') := fun k W x hk hW => (head_any k W ⟨#[101, 120, 97, 109, 112, 108, 101, 46, 99, 111, 109]⟩ 443 x hk (by omega) (by decide) (by decide)).mono (by
    rintro e w' ⟨rfl, hq⟩
    exact ⟨⟨(headT k W.data.toList exB 443).toArray⟩, rfl, rfl, by rw [← size_len]; exact head_len3 k _ (by rw [size_len]; exact hW), hq⟩)
  go_wp2_with fail
  refine Calls.mono (Hid.out (HWo 0 _ (by decide))) ?_
  rintro e w8 ⟨W8, rfl, hW8, hw8, hq8⟩
  go_wp2_with fail
  refine Calls.mono (Hid.out (HHd 0 W8 _ (by decide) hW8)) ?_
  rintro e w9 ⟨T9, rfl, ht9, hT9, hq9⟩
  have HT9 : Hid (T9.data.toList = headA n) := by
    show _ = _
    rw [ht9.out, hw8.out]; rfl
  have HQ9 : Hid (Q w7 w9) := hq8.trans hq9
  clear ht9 hw8 hq8 hq9 hexs
  go_upto_region 11 with fail
  obtain ⟨one, hone⟩ : ∃ x, x = T9 ++ a := ⟨_, rfl⟩
  have hones : one.size ≤ 1049576 := by rw [hone, ByteArray.size_append]; omega
  have HOne : Hid (one.data.toList = headA n ++ a.data.toList) := by
    show _ = _
    rw [hone, app_str, HT9.out]
  rw [← hone]
  clear hone HT9 hT9
  have P2 := fun w => show Hid _ from pick_any n 2 w HN.out (by decide) (by decide)
  go_wp2_with fail
  refine Calls.mono (Hid.out (HWo 1 _ (by decide))) ?_
  rintro e w10 ⟨W10, rfl, hW10, hw10, hq10⟩
  go_wp2_with fail
  refine Calls.mono (Hid.out (HHd 1 W10 _ (by decide) hW10)) ?_
  rintro e w11 ⟨T11, rfl, ht11, hT11, hq11⟩
  have HQ11 : Hid (Q w7 w11) := (HQ9.out.trans hq10).trans hq11
  clear hq10 hq11 HWo HHd ht11 hw10
  go_wp2_with fail
  refine Calls.mono (Hid.out (P2 _)) ?_
  rintro e w12 ⟨rfl, hw⟩
  rw [hw]
  clear hw P2
  rw [show ((2 : Int).toNat) = 2 from rfl]
  go_upto_if 112 with fail
  go_cut [20] (fun s wx => ∃ two : ByteArray, s = .string two ∧ two.size ≤ 1049576 ∧ wx = w11)
  case first =>
    by_cases h2 : pickN n 2 = 0
    · rw [h2]
      go_wp2_with fail
      go_meet
      exact ⟨b, rfl, by omega, rfl⟩
    · have d2 : (((pickN n 2 : Nat) : Int) == 0) = false := by rw [beq_eq_false_iff_ne]; omega
      go_wp2_with fail
      go_meet
      exact ⟨T11 ++ b, rfl, by rw [ByteArray.size_append]; omega, rfl⟩
  case rest =>
    obtain ⟨two, rfl, htwos, hw⟩ := hcut
    rw [hw]
    clear HQ9 hw
    have HI : Hid (AInv w gb hb' n a.data.toList two.data.toList 0 0 false (.slice none 0 0) (.slice none 0 0) w11) := (HI7.out _).stays HQ11.out
    clear HI7 HQ11
    go_wp2_with fail
    go_loopw [19, 20, 21, 22, 23, 24, 25, 26, 27, 28, 29, 30, 31, 32, 33, 34, 35] (fun t1 t2 ov pv qv i _ _ _ _ _ _ _ _ _ _ _ wr => ∃ (k m m2 : Nat) (s1 s2 : ByteArray) (o : Bool), t1 = .string s1 ∧ t2 = .string s2 ∧ ov = .bool o ∧ i = .int .i64 k ∧ k + s1.size ≤ 1049576 ∧ s2.size ≤ 1049576 ∧ Hid (s1.data.toList = (headA n ++ a.data.toList).drop m) ∧ Hid (s2.data.toList = two.data.toList.drop m2) ∧ Hid (AInv w gb hb' n a.data.toList two.data.toList m m2 o pv qv wr)) (fun t1 _ _ _ _ _ _ _ _ _ _ _ _ _ _ _ _ _ => strLen t1)
    case atStart => exact ⟨0, 0, 0, one, two, false, rfl, rfl, rfl, rfl, by omega, by omega, HOne.out, rfl, HI.out⟩
    case round =>
      obtain ⟨k, m, m2, s1, s2, ov, rfl, rfl, rfl, rfl, hk1, hs2, hd1, hd2, hinv⟩ := hrel
      by_cases hs0 : s1.size = 0
      · have hnil : s1.data.toList = [] := List.eq_nil_of_length_eq_zero (by rw [size_len]; exact hs0)
        have hemp : s1.toList.isEmpty = true := by rw [Lib.toList_data, hnil]; rfl
        rw [hd1.out] at hnil
        obtain ⟨hqr, pg, pc, qg, qc, rfl, rfl, hpc, hqc⟩ := hinv.out.last hnil
        have c0 := hpc 0 _ rfl
        have c1 := hpc 1 _ rfl
        have c2 := hpc 2 _ rfl
        have c3 := hpc 3 _ rfl
        have d0 := hqc 0 _ rfl
        have d1 := hqc 1 _ rfl
        have d2 := hqc 2 _ rfl
        have d3 := hqc 3 _ rfl
        have HQr : Hid (Q w wr) := hqr
        unfold str exB at c2 d2
        clear hpc hqc hinv hd1 hd2 hnil hs0 hqr HI HOne HR
        go_wp2_with fail
        refine wp_loop_rounds 2 ?_
        rw [rounds_succ]
        go_wp2_with fail
        go_quiet (fail)
        go_wp2_with fail
        rw [rounds_succ]
        go_wp2_with fail
        go_ret
        exact ⟨by simp, HQr.out.drews _⟩
      · obtain ⟨⟨o, gws, rows, G, H, P, hh, hg0, hg1, hr0, hr1, hap⟩, hle, hle2⟩ := hinv.out
        obtain ⟨po, pc, rfl⟩ := hh.form hr0
        obtain ⟨qo, qc, rfl⟩ := hh.form hr1
        obtain ⟨pl, hpl⟩ : ∃ x, x = P.length := ⟨_, rfl⟩
        rw [← hpl] at hr0 hr1 ⊢
        have hpl1 : pl ≤ 1 := by rw [hpl]; exact hap.lenP
        clear hpl
        have hne : s1.data.toList ≠ [] := fun e => hs0 (by rw [← size_len, e]; rfl)
        have hemp : s1.toList.isEmpty = false := by rw [Lib.toList_data]; cases hx : s1.data.toList with
          | nil => exact absurd hx hne
          | cons a b => rfl
        have hsz1 : s1.size = (headA n ++ a.data.toList).length - m := by rw [← size_len, hd1.out, List.length_drop]
        have hsz2 : s2.size = two.data.toList.length - m2 := by rw [← size_len, hd2.out, List.length_drop]
        have hlen1 : (headA n ++ a.data.toList).length ≤ 1049576 := by rw [← HOne.out, size_len]; exact hones
        have hlen2 : two.data.toList.length ≤ 1049576 := by rw [size_len]; exact htwos
        obtain ⟨pn, hpn⟩ : ∃ p, p = pieceN s1.size raw[k]? := ⟨_, rfl⟩
        obtain ⟨hp1, hp2⟩ := pieceN_le s1.size raw[k]?
        obtain ⟨qn, hqn⟩ : ∃ p, p = pieceN s2.size raw[k]? := ⟨_, rfl⟩
        obtain ⟨hq1, _⟩ := pieceN_le s2.size raw[k]?
        have HPc := show Hid _ from piece_any s1 (.slice ra rl rc) raw k wr (HR.out.stays hh.q) (by omega)
        have HPd := fun x hx => show Hid _ from piece_any s2 (.slice ra rl rc) raw k x hx (by omega)
        rw [← hpn] at HPc hp1 hp2
        rw [← hqn] at HPd hq1
        obtain ⟨p, hP⟩ : ∃ M : ByteArray, M.data.toList = s1.data.toList.take pn := ⟨⟨(s1.data.toList.take pn).toArray⟩, rfl⟩
        obtain ⟨r, hRr⟩ : ∃ M : ByteArray, M.data.toList = s1.data.toList.drop pn := ⟨⟨(s1.data.toList.drop pn).toArray⟩, rfl⟩
        obtain ⟨p2, hP2⟩ : ∃ M : ByteArray, M.data.toList = s2.data.toList.take qn := ⟨⟨(s2.data.toList.take qn).toArray⟩, rfl⟩
        obtain ⟨r2, hR2⟩ : ∃ M : ByteArray, M.data.toList = s2.data.toList.drop qn := ⟨⟨(s2.data.toList.drop qn).toArray⟩, rfl⟩
        have HPz : Hid (p.size = pn) := by show _ = _; rw [← size_len, hP, List.length_take, size_len]; omega
        have HRz : Hid (r.size = s1.size - pn) := by show _ = _; rw [← size_len, hRr, List.length_drop, size_len]
        have HPz2 : Hid (p2.size = qn) := by show _ = _; rw [← size_len, hP2, List.length_take, size_len]; omega
        have HRz2 : Hid (r2.size = s2.size - qn) := by show _ = _; rw [← size_len, hR2, List.length_drop, size_len]
        have hpp : 0 < pn := hp2 (by omega)
        rw [← hP, ← hRr, str_data, str_data] at HPc
        rw [← hP2, ← hR2, str_data, str_data] at HPd
        have HPx : Hid (p.data.toList = ((headA n ++ a.data.toList).drop m).take pn) := by
          show _ = _
          rw [hP, hd1.out]
        have HRx : Hid (r.data.toList = (headA n ++ a.data.toList).drop (m + pn)) := by
          show _ = _
          rw [hRr, hd1.out, List.drop_drop]
        have HRy : Hid (r2.data.toList = two.data.toList.drop (m2 + qn)) := by
          show _ = _
          rw [hR2, hd2.out, List.drop_drop]
        have HSz : Hid (m + pn ≤ (headA n ++ a.data.toList).length ∧ m2 + qn ≤ two.data.toList.length ∧ m + pn ≤ 1049576 ∧ m2 + qn ≤ 1049576) := ⟨by omega, by omega, by omega, by omega⟩
        have HLs : Hid (m2 ≤ two.data.toList.length) := hle2
        have HHh : Hid (Hold w wr o gws rows) := hh
        have HAp : Hid (Ap n a.data.toList m m2 ov G H P) := hap
        have HG : Hid (gws 0 = some (gb, G) ∧ gws 1 = some (hb', H) ∧ rows 0 = some (.slice po pl pc, P) ∧ rows 1 = some (.slice qo pl qc, P)) := ⟨hg0, hg1, hr0, hr1⟩
        clear hP hRr hP2 hR2 hne hs0 hpn hqn hp2 hq1 hsz1 hsz2 hlen1 hlen2 hle hle2 hh hg0 hg1 hr0 hr1 hap hinv hd1 hd2 HI HOne
        go_wp2_with fail
        refine Calls.mono (Hid.out HPc) ?_
        rintro e w1 ⟨rfl, hq1⟩
        have HH1 := show Hid _ from HHh.out.stays hq1
        have HC1 := show Hid _ from ap_client1 HH1.out HG.out.1 HAp.out p HPx.out (by have := HSz.out; have := HPz.out; omega) HM.out
        clear HHh HPc hq1
        go_wp2_with fail
        refine Calls.mono (Hid.out HC1) ?_
        rintro e w2 ⟨lv, o2, rfl, hh2⟩
        obtain ⟨lo, lc, rfl⟩ := hh2.out.form (put_at _ _ _)
        have HC2 := show Hid _ from ap_client2 hh2.out (hb := hb') (H := H) (by rw [put_ne _ _ (by decide)]; exact HG.out.2.1) HAp.out p HPx.out (by have := HSz.out; have := HPz.out; omega) HM.out
        clear HC1 HH1
        obtain ⟨ll, hll⟩ : ∃ x, x = (evX n m pn).length := ⟨_, rfl⟩
        rw [← hll] at hh2 ⊢
        have HLl := show Hid _ from hll
        clear hll
        go_wp2_with fail
        refine Calls.mono (Hid.out HC2) ?_
        rintro e w3 ⟨mv, o3, rfl, hh3⟩
        obtain ⟨mo, mc, rfl⟩ := hh3.out.form (put_at _ _ _)
        rw [← HLl.out] at hh3 ⊢
        obtain ⟨v4, w4, v5, w5, hr4, hr5, hi5⟩ := ap_grown (gb := gb) (hb := hb') (two := two.data.toList) (pv := .slice po pl pc) (qv := .slice qo pl qc) (lv := .slice lo ll lc) (mv := .slice mo ll mc) hh3.out HAp.out (by rw [put_ne _ _ (by decide), put_at]) (by rw [put_at]) (by rw [put_ne _ _ (by decide), put_ne _ _ (by decide)]; exact HG.out.2.2.1) (by rw [put_ne _ _ (by decide), put_ne _ _ (by decide)]; exact HG.out.2.2.2) (by rw [put_ne _ _ (by decide), put_at, HLl.out]) (by rw [put_at]) HSz.out.1 HLs.out HAp.out.lenP
        obtain ⟨hq5, ⟨po', pl', pc', rfl⟩, qo', ql', qc', rfl⟩ := hi5.forms
        have HR4 := show Hid _ from hr4
        have HR5 := show Hid _ from hr5
        have HI5 := show Hid _ from hi5
        have HPd5 := HPd w5 (HR.out.stays hq5)
        clear HPd hr4 hr5 hi5 hh2 hh3 HC2 HAp HG HLl HLs HPx hq5
        go_wp2_with (first | (at_builtin; refine wpList_append_run rfl (.tmp 145) (.tmp 146) 41 41 rfl (.slice po pl pc) (.slice lo ll lc) (.slice po' pl' pc') w4 rfl rfl HR4.out ?_) | (at_builtin; refine wpList_append_run rfl (.tmp 148) (.tmp 149) 41 41 rfl (.slice qo pl qc) (.slice mo ll mc) (.slice qo' ql' qc') w5 rfl rfl HR5.out ?_))
        refine Calls.mono (Hid.out HPd5) ?_
        rintro e w6 ⟨rfl, hq6⟩
        have HI6 := show Hid _ from HI5.out.stays hq6
        clear HI5 HPd5 HR4 HR5 hq6
        cases ov
        case true =>
          go_wp2_with fail
          exact ⟨⟨k + 1, m + pn, m2 + qn, r, r2, true, rfl, rfl, rfl, by simp, by have := HRz.out; omega, by have := HRz2.out; omega, HRx.out, HRy.out, HI6.out.more (Nat.le_add_right _ _) HSz.out.2.1⟩, by show r.size < s1.size; have := HRz.out; omega⟩
        by_cases hp0 : p2.size = 0
        · have hemp2 : p2.toList.isEmpty = true := by
            rw [Lib.toList_data, List.eq_nil_of_length_eq_zero (show p2.data.toList.length = 0 by rw [size_len]; exact hp0)]; rfl
          clear hp0
          go_wp2_with fail
          exact ⟨⟨k + 1, m + pn, m2 + qn, r, r2, false, rfl, rfl, rfl, by simp, by have := HRz.out; omega, by have := HRz2.out; omega, HRx.out, HRy.out, HI6.out.more (Nat.le_add_right _ _) HSz.out.2.1⟩, by show r.size < s1.size; have := HRz.out; omega⟩
        · have hemp2 : p2.toList.isEmpty = false := by
            rw [Lib.toList_data]
            cases hx : p2.data.toList with
            | nil => exact absurd (by rw [← size_len, hx]; rfl) hp0
            | cons a b => rfl
          have HC3 := show Hid _ from ap_client3 HI6.out p2 (by have := HSz.out; have := HPz2.out; omega) (by have := HSz.out; have := HPz2.out; omega) HM.out
          rw [HPz2.out] at HC3
          clear hp0 HI6
          go_wp2_with fail
          refine Calls.mono (Hid.out HC3) ?_
          rintro e w7 ⟨lv7, evs, rfl, hl7, he7, hi7⟩
          clear HC3
          rcases evs with _ | ⟨x1, _ | ⟨x2, _ | ⟨x3, t⟩⟩⟩
          · obtain ⟨vo, vc, rfl⟩ := slice_form he7.out.2
            rw [show ([] : List EvS).length = 0 from rfl] at *
            go_wp2_with fail
            refine wp_loop_rounds 1 ?_
            rw [rounds_succ]
            go_wp2_with fail
            exact ⟨⟨k + 1, m + pn, m2 + qn, r, r2, false, rfl, rfl, rfl, by simp, by have := HRz.out; omega, by have := HRz2.out; omega, HRx.out, HRy.out, hi7.out⟩, by show r.size < s1.size; have := HRz.out; omega⟩
          · obtain ⟨eg, ec, rfl, hcells⟩ := ev_cells he7.out.2 (by simp)
            have hx1 : w7.cell? ⟨eg, 1, none⟩ = some (.int .i64 2) := by
              have := hcells 1 _ rfl
              rw [this, he7.out.1 x1 (by simp)]
            rw [show ([x1] : List EvS).length = 1 from rfl] at *
            clear hcells he7
            go_wp2_with fail
            refine wp_loop_rounds 2 ?_
            rw [rounds_succ]
            go_wp2_with fail
            rw [rounds_succ]
            go_wp2_with fail
            exact ⟨⟨k + 1, m + pn, m2 + qn, r, r2, false, rfl, rfl, rfl, by simp, by have := HRz.out; omega, by have := HRz2.out; omega, HRx.out, HRy.out, hi7.out⟩, by show r.size < s1.size; have := HRz.out; omega⟩
          · obtain ⟨eg, ec, rfl, hcells⟩ := ev_cells he7.out.2 (by simp)
            have hx1 : w7.cell? ⟨eg, 1, none⟩ = some (.int .i64 2) := by
              have := hcells 1 _ rfl
              rw [this, he7.out.1 x1 (by simp)]
            have hx2 : w7.cell? ⟨eg, 5, none⟩ = some (.int .i64 2) := by
              have := hcells 5 _ rfl
              rw [this, he7.out.1 x2 (by simp)]
            rw [show ([x1, x2] : List EvS).length = 2 from rfl] at *
            clear hcells he7
            go_wp2_with fail
            refine wp_loop_rounds 3 ?_
            rw [rounds_succ]
            go_wp2_with fail
            rw [rounds_succ]
            go_wp2_with fail
            rw [rounds_succ]
            go_wp2_with fail
            exact ⟨⟨k + 1, m + pn, m2 + qn, r, r2, true, rfl, rfl, rfl, by simp, by have := HRz.out; omega, by have := HRz2.out; omega, HRx.out, HRy.out, hi7.out⟩, by show r.size < s1.size; have := HRz.out; omega⟩
          · simp at hl7
end Go.Proofs.YtdmaffciijmdcaaGreatDoor

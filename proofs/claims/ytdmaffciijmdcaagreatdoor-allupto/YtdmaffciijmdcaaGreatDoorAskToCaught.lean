/-
  Package rules: Ask.
-/
import Derived.Test.YtdmaffciijmdcaaGreatDoorNet1ToRead
import Derived.Defers
import Derived.Recover
namespace Go.Proofs.YtdmaffciijmdcaaGreatDoor
open Go.RowKit Plain

def questV (t : ByteArray) (nm : List UInt8) (a b c d : Nat) (p m : Int) : Value := .agg #[.string t, .string ⟨nm.toArray⟩, u8 a, u8 b, u8 c, u8 d, .int .i64 p, .int .i64 m]

def askS (t h : List UInt8) (p m : Int) : Option (List UInt8 × List Nat) :=
  if 0 ≤ p ∧ p ≤ 65535 ∧ 0 ≤ m ∧ m < 10080 ∧ tenantOk t = true then readHost h else none

theorem host_four {l : List UInt8} {r : List UInt8 × List Nat} (h : readHost l = some r) : ∃ nm a b c d, r = (nm, [a, b, c, d]) ∧ a ≤ 255 ∧ b ≤ 255 ∧ c ≤ 255 ∧ d ≤ 255 ∧ nm.length ≤ l.length := by
  rcases host_some h with ⟨_, a, b, c, d, ha, rfl⟩ | ⟨_, _, rfl⟩
  · obtain ⟨_, _, _, _, a', b', c', d', _, he, h0, h1, h2, h3⟩ := address_some ha
    cases he
    exact ⟨_, _, _, _, _, rfl, number_le h0, number_le h1, number_le h2, number_le h3, by simp⟩
  · exact ⟨_, _, _, _, _, rfl, by decide, by decide, by decide, by decide, by rw [lower_len]; omega⟩

def AskPost (t h : ByteArray) (p m : Int) (w : World) (e : Ending) (w' : World) : Prop :=
  Q w w' ∧ ((∃ nm a b c d, askS t.data.toList h.data.toList p m = some (nm, [a, b, c, d]) ∧ e = .returned (questV t nm a b c d p m)) ∨ (askS t.data.toList h.data.toList p m = none ∧ Dies e))

set_option maxRecDepth 100000 in
set_option maxHeartbeats 1600000 in
theorem ask_any (t h : ByteArray) (p m : Int) (w : World) (hs : h.size < 4294967281) :
    Calls Tryz.prog 180 #[.string t, .string h, .int .i64 p, .int .i64 m] w fun e w' => AskPost t h p m w e w' := by
  by_cases hp : 0 ≤ p ∧ p ≤ 65535
  case neg =>
    have HN : Hid (askS t.data.toList h.data.toList p m = none) := by
      show _ = _
      unfold askS; rw [if_neg]; intro hx; exact hp ⟨hx.1, hx.2.1⟩
    by_cases h1 : 0 ≤ p
    · have h2 : decide (p ≤ 65535) = false := decide_eq_false (fun h2 => hp ⟨h1, h2⟩)
      clear hp
      go_enter Tryz.func180, Tryz.ntmps180
      go_wp2_with (first | (go_at_call 88; refine (must_no _ _).mono ?_; rintro e w' ⟨⟨t, v, rfl⟩, rfl⟩))
      exact ⟨rfl, by unfold Q; go_grown, .inr ⟨HN.out, ⟨_, _, rfl⟩⟩⟩
    · have h2 : decide (0 ≤ p) = false := decide_eq_false h1
      clear hp
      go_enter Tryz.func180, Tryz.ntmps180
      go_wp2_with (first | (go_at_call 88; refine (must_no _ _).mono ?_; rintro e w' ⟨⟨t, v, rfl⟩, rfl⟩))
      exact ⟨rfl, by unfold Q; go_grown, .inr ⟨HN.out, ⟨_, _, rfl⟩⟩⟩
  obtain ⟨hp1, hp2⟩ := hp
  have dp1 : decide (0 ≤ p) = true := decide_eq_true hp1
  have dp2 : decide (p ≤ 65535) = true := decide_eq_true hp2
  by_cases hm : 0 ≤ m ∧ m < 10080
  case neg =>
    have HN : Hid (askS t.data.toList h.data.toList p m = none) := by
      show _ = _
      unfold askS; rw [if_neg]; intro hx; exact hm ⟨hx.2.2.1, hx.2.2.2.1⟩
    by_cases h1 : 0 ≤ m
    · have h2 : decide (m < 10080) = false := decide_eq_false (fun h2 => hm ⟨h1, h2⟩)
      clear hm
      go_enter Tryz.func180, Tryz.ntmps180
      go_wp2_with (first | (go_at_call_of 88 (Value.bool true); refine (must_yes _ _).mono ?_; rintro e w' ⟨rfl, rfl⟩) | (go_at_call_of 88 (Value.bool false); refine (must_no _ _).mono ?_; rintro e w' ⟨⟨t, v, rfl⟩, rfl⟩))
      exact ⟨rfl, by unfold Q; go_grown, .inr ⟨HN.out, ⟨_, _, rfl⟩⟩⟩
    · have h2 : decide (0 ≤ m) = false := decide_eq_false h1
      clear hm
      go_enter Tryz.func180, Tryz.ntmps180
      go_wp2_with (first | (go_at_call_of 88 (Value.bool true); refine (must_yes _ _).mono ?_; rintro e w' ⟨rfl, rfl⟩) | (go_at_call_of 88 (Value.bool false); refine (must_no _ _).mono ?_; rintro e w' ⟨⟨t, v, rfl⟩, rfl⟩))
      exact ⟨rfl, by unfold Q; go_grown, .inr ⟨HN.out, ⟨_, _, rfl⟩⟩⟩
  obtain ⟨hm1, hm2⟩ := hm
  have dm1 : decide (0 ≤ m) = true := decide_eq_true hm1
  have dm2 : decide (m < 10080) = true := decide_eq_true hm2
  cases ht : tenantOk t.data.toList
  · have HN : Hid (askS t.data.toList h.data.toList p m = none) := by
      show _ = _
      unfold askS; rw [if_neg]; intro hx; rw [ht] at hx; exact absurd hx.2.2.2.2 (by decide)
    have HT := show Hid _ from ht
    clear ht
    go_enter Tryz.func180, Tryz.ntmps180
    go_wp2_with (first | (go_at_call_of 88 (Value.bool true); refine (must_yes _ _).mono ?_; rintro e w' ⟨rfl, rfl⟩) | (go_at_call 122; refine (tenant_no _ _ HT.out).mono ?_; rintro e w' ⟨⟨t, v, rfl⟩, rfl⟩))
    exact ⟨rfl, by unfold Q; go_grown, .inr ⟨HN.out, ⟨_, _, rfl⟩⟩⟩
  have HA : Hid (askS t.data.toList h.data.toList p m = readHost h.data.toList) := by
    show _ = _
    unfold askS; rw [if_pos ⟨hp1, hp2, hm1, hm2, ht⟩]
  have HT := show Hid _ from ht
  clear ht
  cases hh : readHost h.data.toList with
  | none =>
    have HH := show Hid _ from hh
    clear hh
    go_enter Tryz.func180, Tryz.ntmps180
    go_wp2_with (first | (go_at_call_of 88 (Value.bool true); refine (must_yes _ _).mono ?_; rintro e w' ⟨rfl, rfl⟩) | (go_at_call 122; refine (tenant_yes _ _ HT.out).mono ?_; rintro e w' ⟨rfl, rfl⟩))
    refine (readHost_no h _ hs HH.out).mono ?_
    rintro e w1 ⟨⟨t', v', rfl⟩, hq⟩
    exact ⟨rfl, ((Q.refl _).alloc _).trans hq, .inr ⟨by rw [HA.out, HH.out], ⟨_, _, rfl⟩⟩⟩
  | some r =>
    obtain ⟨nm, a, b, c, d, rfl, _⟩ := host_four hh
    have HH := show Hid _ from hh
    clear hh
    go_enter Tryz.func180, Tryz.ntmps180
    go_wp2_with (first | (go_at_call_of 88 (Value.bool true); refine (must_yes _ _).mono ?_; rintro e w' ⟨rfl, rfl⟩) | (go_at_call 122; refine (tenant_yes _ _ HT.out).mono ?_; rintro e w' ⟨rfl, rfl⟩))
    refine (readHost_yes h _ hs nm a b c d HH.out).mono ?_
    rintro e w1 ⟨rfl, hq⟩
    unfold hostV str
    obtain ⟨hcl, hfr, hz⟩ := hq.made
    go_wp2_with fail
    refine bodyPost_ret (v := questV t nm a b c d p m) (by simp [results, Tryz.results180, go_sem, hcl, questV]) rfl ⟨?_, .inl ⟨nm, a, b, c, d, by rw [HA.out, HH.out], rfl⟩⟩
    have hQ := ((Q.refl _).alloc _).trans hq
    iterate 8 refine Q.setCell ?_ (Nat.le_refl _) _
    exact hQ
end Go.Proofs.YtdmaffciijmdcaaGreatDoor
/-
  Package rules: (Rule).Fits: each of its functions is asked by what is known of it.
-/
namespace Go.Proofs.YtdmaffciijmdcaaGreatDoor
open Go.RowKit Plain

/-- A function value answers b to arg, in every world that w becomes. -/
def Answers (w : World) (v arg : Value) (b : Bool) : Prop := ∃ f cp, v = .func (.func f) #[] cp ∧ (∀ args w, (callFunc f args).run Tryz.prog w = .ok (.enter f args) w) ∧
  ∀ w1, Q w w1 → Calls Tryz.prog f (#[arg] ++ cp) w1 fun e w2 => e = .returned (.bool b) ∧ Q w1 w2

theorem TenRep.answers {S : Nat → Prop} {w : World} {v : Value} {t : Option (List UInt8)} (h : TenRep S w v t) (s : ByteArray) : Answers w v (.string s) (tenFits t s.data.toList) := by
  rcases h with ⟨rfl, rfl⟩ | ⟨b, o, rfl, rfl, hc, _⟩
  · exact ⟨_, _, rfl, enters_of Tryz.func146 (by kernel_rfl) rfl, fun w1 _ => (fitsAllS s w1).mono fun _ _ ⟨he, hw⟩ => ⟨he, hw ▸ Q.refl _⟩⟩
  · refine ⟨_, _, rfl, enters_of Tryz.func147 (by kernel_rfl) rfl, fun w1 hq => (ten1 s ⟨o.toArray⟩ b w1 (hq.cell hc)).mono fun _ _ ⟨he, hw⟩ => ⟨?_, hw ▸ Q.refl _⟩⟩
    rw [he]
    refine ret_bool ?_
    unfold tenFits
    rw [Lib.toList_data, Lib.toList_data]

theorem PortRep.answers {S : Nat → Prop} {w : World} {v : Value} {t : Option (Nat × Nat)} (h : PortRep S w v t) (n : Int) : Answers w v (.int .i64 n) (portFits t n) := by
  rcases h with ⟨rfl, rfl⟩ | ⟨b, x, rfl, rfl, hc, _⟩ | ⟨b, c, x, y, rfl, rfl, hb, hc, _⟩
  · exact ⟨_, _, rfl, enters_of Tryz.func154 (by kernel_rfl) rfl, fun w1 _ => (fitsAllI n w1).mono fun _ _ ⟨he, hw⟩ => ⟨he, hw ▸ Q.refl _⟩⟩
  · exact ⟨_, _, rfl, enters_of Tryz.func157 (by kernel_rfl) rfl, fun w1 hq => (port1 n x b w1 (hq.cell hc)).mono fun _ _ ⟨he, hw⟩ => ⟨he, hw ▸ Q.refl _⟩⟩
  · exact ⟨_, _, rfl, enters_of Tryz.func159 (by kernel_rfl) rfl, fun w1 hq => (port2 n x y b c w1 (hq.cell hb) (hq.cell hc)).mono fun _ _ ⟨he, hw⟩ => ⟨he, hw ▸ Q.refl _⟩⟩

theorem MinRep.answers {S : Nat → Prop} {w : World} {v : Value} {t : Option (Nat × Nat)} (h : MinRep S w v t) (n : Int) : Answers w v (.int .i64 n) (minFits t n) := by
  rcases h with ⟨rfl, rfl⟩ | ⟨b, c, x, y, rfl, hxy, rfl, hb, hc, _⟩ | ⟨b, c, x, y, rfl, hxy, rfl, hb, hc, _⟩
  · exact ⟨_, _, rfl, enters_of Tryz.func154 (by kernel_rfl) rfl, fun w1 _ => (fitsAllI n w1).mono fun _ _ ⟨he, hw⟩ => ⟨he, hw ▸ Q.refl _⟩⟩
  · exact ⟨_, _, rfl, enters_of Tryz.func160 (by kernel_rfl) rfl, fun w1 hq => (min1 n x y b c hxy w1 (hq.cell hb) (hq.cell hc)).mono fun _ _ ⟨he, hw⟩ => ⟨he, hw ▸ Q.refl _⟩⟩
  · exact ⟨_, _, rfl, enters_of Tryz.func161 (by kernel_rfl) rfl, fun w1 hq => (min2 n x y b c hxy w1 (hq.cell hb) (hq.cell hc)).mono fun _ _ ⟨he, hw⟩ => ⟨he, hw ▸ Q.refl _⟩⟩

theorem HostRep.answers {S : Nat → Prop} {w : World} {v : Value} {p : HostP} (h : HostRep S w v p) (nm : List UInt8) (a b c d : Nat) (hn : nm.length ≤ 4294967281) (ha : a ≤ 255) (hb : b ≤ 255) (hc : c ≤ 255) (hd : d ≤ 255) :
    Answers w v (hostV nm a b c d) (hostFits p nm [a, b, c, d]) := by
  rcases h with ⟨hk, rfl⟩ | ⟨g, hk, rfl, hg, _⟩ | ⟨g, hk, rfl, hg, hl, _⟩ | ⟨n, g, x0, x1, x2, x3, hk, rfl, had, hbits, hcn, h0, h1, h2, h3, _⟩
  · exact ⟨_, _, rfl, enters_of Tryz.func148 (by kernel_rfl) rfl, fun w1 _ => (fitsAllH nm a b c d w1).mono fun _ _ ⟨he, hw⟩ => ⟨by rw [he]; unfold hostFits; rw [if_pos hk], hw⟩⟩
  · exact ⟨_, _, rfl, enters_of Tryz.func153 (by kernel_rfl) rfl, fun w1 hq => (host1 nm p.nm a b c d g w1 (hq.cell hg)).mono fun _ _ ⟨he, hw⟩ => ⟨by rw [he]; unfold hostFits; rw [if_neg (by omega), if_pos hk], hw⟩⟩
  · exact ⟨_, _, rfl, enters_of Tryz.func199 (by kernel_rfl) rfl, fun w1 hq => (domain1 nm p.nm a b c d g w1 hn hl (hq.cell hg)).mono fun _ _ ⟨he, hw⟩ => ⟨by rw [he]; unfold hostFits; rw [if_neg (by omega), if_neg (by omega), if_pos hk], hw⟩⟩
  · refine ⟨_, _, rfl, enters_of Tryz.func196 (by kernel_rfl) rfl, fun w1 hq => ?_⟩
    cases nm with
    | nil => exact (net1_yes a b c d n g x0 x1 x2 x3 p.bits w1 ha hb hc hd hbits (hq.cell hcn) (hq.cell h0) (hq.cell h1) (hq.cell h2) (hq.cell h3)).mono fun _ _ ⟨he, hw⟩ => ⟨by rw [he]; unfold hostFits; rw [if_neg (by omega), if_neg (by omega), if_neg (by omega), had]; rfl, hw⟩
    | cons x xs => exact (net1_no (x :: xs) a b c d n g w1 rfl).mono fun _ _ ⟨he, hw⟩ => ⟨by rw [he]; unfold hostFits; rw [if_neg (by omega), if_neg (by omega), if_neg (by omega)]; rfl, hw⟩

theorem Q.made2n {w w' : World} {cs ds : Array Value} {t u : TypeId} (h : Q ((w.alloc (.cells cs t)).alloc (.cells ds u)) w') :
    (∀ i, w'.cell? ⟨w.heap.size, i, none⟩ = cs[i]?) ∧ (∀ i, w'.cell? ⟨w.heap.size + 1, i, none⟩ = ds[i]?) ∧ w.heap.size + 1 < w'.heap.size := by
  have hz := Q.size h
  simp at hz
  refine ⟨fun i => ?_, fun i => ?_, by omega⟩
  · rw [(Q.cells h).1 _ _ (by simp; omega)]; simp [go_sem]
  · rw [(Q.cells h).1 _ _ (by simp)]; simp [go_sem]

set_option maxRecDepth 100000 in
set_option maxHeartbeats 1600000 in
theorem fits_core (al : Bool) (vt vh vp vm : Value) (t : ByteArray) (nm : List UInt8) (a b c d : Nat) (p m : Int) (bt bh bp bm : Bool) (w : World)
    (At : Answers w vt (.string t) bt) (Ah : Answers w vh (hostV nm a b c d) bh) (Ap : Answers w vp (.int .i64 p) bp) (Am : Answers w vm (.int .i64 m) bm) :
    Calls Tryz.prog 181 #[ruleV al vt vh vp vm, questV t nm a b c d p m] w fun e w' => e = .returned (.bool (bt && bh && bp && bm)) ∧ Q w w' := by
  obtain ⟨ft, ct, rfl, et, kt⟩ := At
  obtain ⟨fh, ch, rfl, eh, kh⟩ := Ah
  obtain ⟨fp, cp, rfl, ep, kp⟩ := Ap
  obtain ⟨fm, cm, rfl, em, km⟩ := Am
  have KT := show Hid _ from kt
  have KH := show Hid _ from kh
  have KP := show Hid _ from kp
  have KM := show Hid _ from km
  clear kt kh kp km
  unfold ruleV questV
  go_enter Tryz.func181, Tryz.ntmps181
  go_wp2_with fail
  refine (KT.out _ (((Q.refl _).alloc _).alloc _)).mono ?_
  rintro e w1 ⟨rfl, hq1⟩
  have hx1 := hq1
  obtain ⟨hcl1, hcm1, hz1⟩ := hx1.made2n
  cases bt
  · go_wp2_with fail
    go_ret
    exact ⟨rfl, ((((Q.refl _).alloc _).alloc _).trans hq1)⟩
  go_wp2_with fail
  refine (KH.out _ ((((Q.refl _).alloc _).alloc _).trans hq1)).mono ?_
  rintro e w2 ⟨rfl, hq2⟩
  have hx2 := hx1.trans hq2
  obtain ⟨hcl2, hcm2, hz2⟩ := hx2.made2n
  cases bh
  · go_wp2_with fail
    go_ret
    exact ⟨rfl, (((((Q.refl _).alloc _).alloc _).trans hq1).trans hq2)⟩
  go_wp2_with fail
  refine (KP.out _ (((((Q.refl _).alloc _).alloc _).trans hq1).trans hq2)).mono ?_
  rintro e w3 ⟨rfl, hq3⟩
  have hx3 := hx2.trans hq3
  obtain ⟨hcl3, hcm3, hz3⟩ := hx3.made2n
  cases bp
  · go_wp2_with fail
    go_ret
    exact ⟨rfl, ((((((Q.refl _).alloc _).alloc _).trans hq1).trans hq2).trans hq3)⟩
  go_wp2_with fail
  refine (KM.out _ ((((((Q.refl _).alloc _).alloc _).trans hq1).trans hq2).trans hq3)).mono ?_
  rintro e w4 ⟨rfl, hq4⟩
  have hx4 := hx3.trans hq4
  go_wp2_with fail
  go_ret
  exact ⟨rfl, (((((((Q.refl _).alloc _).alloc _).trans hq1).trans hq2).trans hq3).trans hq4)⟩

/-- Does the rule fit? -/
theorem fits_any {S : Nat → Prop} (r : RuleS) (vt vh vp vm : Value) (t : ByteArray) (nm : List UInt8) (a b c d : Nat) (p m : Int) (w : World) (h : RuleRep S w r vt vh vp vm)
    (hn : nm.length ≤ 4294967281) (ha : a ≤ 255) (hb : b ≤ 255) (hc : c ≤ 255) (hd : d ≤ 255) :
    Calls Tryz.prog 181 #[ruleV r.allow vt vh vp vm, questV t nm a b c d p m] w fun e w' => e = .returned (.bool (ruleFits r t.data.toList nm [a, b, c, d] p m)) ∧ Q w w' :=
  fits_core r.allow vt vh vp vm t nm a b c d p m _ _ _ _ w (h.ten.answers t) (h.host.answers nm a b c d hn ha hb hc hd) (h.port.answers p) (h.minute.answers m)
end Go.Proofs.YtdmaffciijmdcaaGreatDoor
/-
  Package turnpike: a reader is called, and caught where it gives up.
-/
namespace Go.Proofs.YtdmaffciijmdcaaGreatDoor
open Go.RowKit Plain

def zeroRule : Value := .agg #[.bool false, .nilFunc, .nilFunc, .nilFunc, .nilFunc]

set_option maxRecDepth 100000 in
set_option maxHeartbeats 800000 in
theorem compile1_any (s : ByteArray) (b : Nat) (w : World) (hs : s.size < 4294967281) (hb : w.cell? ⟨b, 0, none⟩ = some (.string s)) :
    Calls Tryz.prog 84 #[.pointer (some ⟨b, 0, none⟩)] w fun e w' => ReadPost s.data.toList w e w' := by
  have hlt := Q.lt hb
  go_enter Tryz.func84, Tryz.ntmps84
  go_wp2_with fail
  refine (read_any s _ hs).mono ?_
  rintro e w1 ⟨hq, ⟨r, vt, vh, vp, vm, hr, rfl, rep⟩ | ⟨hr, ⟨t, v, rfl⟩⟩⟩
  · obtain ⟨g1, k1, e1⟩ := rep.ten.func
    obtain ⟨g2, k2, e2⟩ := rep.host.func
    obtain ⟨g3, k3, e3⟩ := rep.port.func
    obtain ⟨g4, k4, e4⟩ := rep.minute.func
    have HR := show Hid _ from hr
    have HRR := show Hid _ from rep
    clear hr rep
    subst e1 e2 e3 e4
    unfold ruleV
    obtain ⟨hcl, hfr, hz⟩ := hq.made
    have hQ : Q w w1 := ((Q.refl w).alloc _).trans hq
    go_wp2_with fail
    refine bodyPost_ret (v := ruleV r.allow (.func (.func g1) #[] k1) (.func (.func g2) #[] k2) (.func (.func g3) #[] k3) (.func (.func g4) #[] k4)) (by simp [results, Tryz.results84, go_sem, hcl, ruleV]) rfl ⟨?_, .inl ⟨_, _, _, _, _, HR.out, rfl, ?_⟩⟩
    · iterate 5 refine Q.setCell ?_ (Nat.le_refl _) _
      exact hQ
    · refine HRR.out.keeps fun x hx => ⟨⟨?_, ?_⟩, fun o => set5_other ?_ o⟩
      · have := hx.1; simp at this; omega
      · rw [set5_size]; exact hx.2
      · have := hx.1; simp at this; omega
  · exact ⟨rfl, ((Q.refl w).alloc _).trans hq, .inr ⟨hr, ⟨_, _, rfl⟩⟩⟩

theorem catchRule_panicking (p : Addr) (x : Bool) (u : TypeId) (pv : Value) (older : List PanicEntry) (w : World) (hc : w.cell? p = some (.bool x)) (hz : w.frozen? p = false) :
    CallsD Tryz.prog 115 #[.pointer (some p)] (.panicking ({ v := .iface u pv, recovered := false } :: older)) w fun e u' w' =>
      e = .returned (.tuple #[]) ∧ u' = .panicking ({ v := .iface u pv, recovered := true } :: older) ∧ w' = w.setCell p (.bool false) := by
  refine callsD_of_wpS Tryz.func115 rfl fun c₀ cs hu => ?_
  apply wpS_region
  simp [wpOpsS, go_sem, recoverD, hu, Tryz.ntmps115, hc, hz, bodyPostS, results, Tryz.results115]

theorem catchRule_idle (p : Addr) (x : Bool) (w : World) (hc : w.cell? p = some (.bool x)) (hz : w.frozen? p = false) :
    CallsD Tryz.prog 115 #[.pointer (some p)] .returning w fun e u' w' => e = .returned (.tuple #[]) ∧ u' = .returning ∧ w' = w.setCell p (.bool true) := by
  refine callsD_of_wpS Tryz.func115 rfl fun c₀ cs hu => ?_
  apply wpS_region
  simp [wpOpsS, go_sem, recoverD, hu, Tryz.ntmps115, hc, hz, bodyPostS, results, Tryz.results115]
  cases c₀
  simp_all

def CaughtPost (l : List UInt8) (w : World) (e : Ending) (w' : World) : Prop :=
  Q w w' ∧ ((∃ r vt vh vp vm, readRule l = some r ∧ e = .returned (.tuple #[ruleV r.allow vt vh vp vm, .bool true]) ∧ RuleRep (New w w') w' r vt vh vp vm) ∨ (readRule l = none ∧ e = .returned (.tuple #[zeroRule, .bool false])))

set_option maxRecDepth 100000 in
set_option maxHeartbeats 1600000 in
theorem caughtRule_any (s : ByteArray) (b : Nat) (w : World) (hs : s.size < 4294967281) (hb : w.cell? ⟨b, 0, none⟩ = some (.string s)) :
    Calls Tryz.prog 83 #[.func (.func 84) #[] #[.pointer (some ⟨b, 0, none⟩)]] w fun e w' => CaughtPost s.data.toList w e w' := by
  have hmf : ∀ (fn : Fn) (first cap : Array Value) (w : World), (Instr.makeFunc fn first cap).run Tryz.prog w = .ok (.func fn first cap) w := fun _ _ _ _ => rfl
  have hlt := Q.lt hb
  go_enter_defers Tryz.func83, Tryz.ntmps83
  go_wp2_with fail
  have hq0 : Q w ((w.alloc (.cells #[.bool false, .nilFunc, .nilFunc, .nilFunc, .nilFunc] 148)).alloc (.cells #[.bool false] 4)) := ((Q.refl w).alloc _).alloc _
  refine (compile1_any s b _ hs (hq0.cell hb)).mono ?_
  rintro e w1 ⟨hq, ⟨r, vt, vh, vp, vm, hr, rfl, rep⟩ | ⟨hr, ⟨t, v, rfl⟩⟩⟩
  · obtain ⟨g1, k1, e1⟩ := rep.ten.func
    obtain ⟨g2, k2, e2⟩ := rep.host.func
    obtain ⟨g3, k3, e3⟩ := rep.port.func
    obtain ⟨g4, k4, e4⟩ := rep.minute.func
    have HR := show Hid _ from hr
    have HRR := show Hid _ from rep
    clear hr rep
    subst e1 e2 e3 e4
    unfold ruleV
    obtain ⟨hcl, hcm, hz⟩ := hq.made2n
    have hf1 : ∀ i, w1.frozen? ⟨w.heap.size, i, none⟩ = false := fun i => by
      rw [hq.cells.2 _ _ (by simp; omega)]; simp [go_sem]
    have hf2 : ∀ i, w1.frozen? ⟨w.heap.size + 1, i, none⟩ = false := fun i => by
      rw [hq.cells.2 _ _ (by simp)]; simp [go_sem]
    have hQ : Q w w1 := hq0.trans hq
    go_wp2_with fail
    obtain ⟨W, hW⟩ : ∃ W, W = ((((w1.setCell ⟨w.heap.size, 0, none⟩ (.bool r.allow)).setCell ⟨w.heap.size, 1, none⟩ (.func (.func g1) #[] k1)).setCell ⟨w.heap.size, 2, none⟩ (.func (.func g2) #[] k2)).setCell ⟨w.heap.size, 3, none⟩ (.func (.func g3) #[] k3)).setCell ⟨w.heap.size, 4, none⟩ (.func (.func g4) #[] k4) := ⟨_, rfl⟩
    have hc0 : W.cell? ⟨w.heap.size, 0, none⟩ = some (.bool r.allow) := by rw [hW]; simp [go_sem, hcl]
    have hc1 : W.cell? ⟨w.heap.size, 1, none⟩ = some (.func (.func g1) #[] k1) := by rw [hW]; simp [go_sem, hcl]
    have hc2 : W.cell? ⟨w.heap.size, 2, none⟩ = some (.func (.func g2) #[] k2) := by rw [hW]; simp [go_sem, hcl]
    have hc3 : W.cell? ⟨w.heap.size, 3, none⟩ = some (.func (.func g3) #[] k3) := by rw [hW]; simp [go_sem, hcl]
    have hc4 : W.cell? ⟨w.heap.size, 4, none⟩ = some (.func (.func g4) #[] k4) := by rw [hW]; simp [go_sem, hcl]
    have hr0 : W.cell? ⟨w.heap.size + 1, 0, none⟩ = some (.bool false) := by rw [hW, set5_other (by omega), hcm]; rfl
    have hfz : W.frozen? ⟨w.heap.size + 1, 0, none⟩ = false := by rw [hW]; simp [hf2]
    have hQW : Q w W := by
      rw [hW]
      iterate 5 refine Q.setCell ?_ (Nat.le_refl _) _
      exact hQ
    have hzW : W.heap.size = w1.heap.size := by rw [hW, set5_size]
    have hoW : ∀ x o, ¬ w.heap.size = x → W.cell? ⟨x, o, none⟩ = w1.cell? ⟨x, o, none⟩ := fun x o h => by rw [hW]; exact set5_other h o
    rw [← hW]
    clear hW hcl hcm hf1 hf2
    have hne : ∀ i, (⟨w.heap.size + 1, 0, none⟩ : Addr) ≠ ⟨w.heap.size, i, none⟩ := fun i e => by injection e with e1 _; omega
    have hx : ((W.setCell ⟨w.heap.size + 1, 0, none⟩ (.bool true)).setCell ⟨w.heap.size + 1, 0, none⟩ (.bool true)).cell? ⟨w.heap.size + 1, 0, none⟩ = some (.bool true) := set_same (set_same hr0)
    have hy : ∀ i, ((W.setCell ⟨w.heap.size + 1, 0, none⟩ (.bool true)).setCell ⟨w.heap.size + 1, 0, none⟩ (.bool true)).cell? ⟨w.heap.size, i, none⟩ = W.cell? ⟨w.heap.size, i, none⟩ := fun i => by
      rw [set_other (hne i), set_other (hne i)]
    refine leaves_cons (f := 115) (args := #[.pointer (some ⟨w.heap.size + 1, 0, none⟩)]) (by simp) (by simp [go_sem]) ?_
    refine (catchRule_idle ⟨w.heap.size + 1, 0, none⟩ true _ (set_same hr0) (by rw [World.frozen?_setCell]; exact hfz)).mono ?_
    rintro e u' w'' ⟨rfl, rfl, rfl⟩
    simp [Leaves, settle, results, Tryz.results83, go_sem, hx, hy, hc0, hc1, hc2, hc3, hc4]
    refine ⟨(hQW.setCell (by simp) _).setCell (by simp) _, .inl ⟨_, _, _, _, _, HR.out, rfl, ?_⟩⟩
    refine HRR.out.keeps fun x hx => ⟨⟨?_, ?_⟩, fun o => ?_⟩
    · have := hx.1; simp at this; omega
    · simp [hzW]; exact hx.2
    · have h1 := hx.1
      simp at h1
      have hnx : (⟨w.heap.size + 1, 0, none⟩ : Addr) ≠ ⟨x, o, none⟩ := fun e => by injection e with e1 _; omega
      rw [set_other hnx, set_other hnx, hoW x o (by omega)]
  · obtain ⟨hcl, hcm, hz⟩ := hq.made2n
    have hf2 : ∀ i, w1.frozen? ⟨w.heap.size + 1, i, none⟩ = false := fun i => by
      rw [hq.cells.2 _ _ (by simp)]; simp [go_sem]
    have hQ : Q w w1 := hq0.trans hq
    go_wp2_with fail
    refine leaves_cons (f := 115) (args := #[.pointer (some ⟨w.heap.size + 1, 0, none⟩)]) (by simp) (by simp [go_sem]) ?_
    refine (catchRule_panicking ⟨w.heap.size + 1, 0, none⟩ false t v [] _ ?_ ?_).mono ?_
    · simp [hcm]
    · simp [hf2]
    rintro e u' w'' ⟨rfl, rfl, rfl⟩
    simp [Leaves, settle, results, Tryz.results83, go_sem, hcl, hcm]
    exact ⟨hQ.setCell (by simp) _, .inr ⟨hr, rfl⟩⟩
end Go.Proofs.YtdmaffciijmdcaaGreatDoor

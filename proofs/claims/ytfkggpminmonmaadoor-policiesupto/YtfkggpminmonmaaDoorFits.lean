/-
  Package rules: (Rule).Fits: each of its functions is asked by what is known of it.
-/
import Derived.Test.YtfkggpminmonmaaDoorAsk
namespace Go.Proofs.YtfkggpminmonmaaDoor
open Go.RowKit Plain

/-- A function value answers b to arg, in every world that w becomes. -/
def Answers (w : World) (v arg : Value) (b : Bool) : Prop := ∃ f cp, v = .func (.func f) #[] cp ∧ (∀ args w, (callFunc f args).run Tryd.prog w = .ok (.enter f args) w) ∧
  ∀ w1, Q w w1 → Calls Tryd.prog f (#[arg] ++ cp) w1 fun e w2 => e = .returned (.bool b) ∧ Q w1 w2

theorem TenRep.answers {S : Nat → Prop} {w : World} {v : Value} {t : Option (List UInt8)} (h : TenRep S w v t) (s : ByteArray) : Answers w v (.string s) (tenFits t s.data.toList) := by
  rcases h with ⟨rfl, rfl⟩ | ⟨b, o, rfl, rfl, hc, _⟩
  · exact ⟨_, _, rfl, enters_of Tryd.func57 (by kernel_rfl) rfl, fun w1 _ => (fitsAllS s w1).mono fun _ _ ⟨he, hw⟩ => ⟨he, hw ▸ Q.refl _⟩⟩
  · refine ⟨_, _, rfl, enters_of Tryd.func59 (by kernel_rfl) rfl, fun w1 hq => (ten1 s ⟨o.toArray⟩ b w1 (hq.cell hc)).mono fun _ _ ⟨he, hw⟩ => ⟨?_, hw ▸ Q.refl _⟩⟩
    rw [he]
    refine ret_bool ?_
    unfold tenFits
    rw [Lib.toList_data, Lib.toList_data]

theorem PortRep.answers {S : Nat → Prop} {w : World} {v : Value} {t : Option (Nat × Nat)} (h : PortRep S w v t) (n : Int) : Answers w v (.int .i64 n) (portFits t n) := by
  rcases h with ⟨rfl, rfl⟩ | ⟨b, x, rfl, rfl, hc, _⟩ | ⟨b, c, x, y, rfl, rfl, hb, hc, _⟩
  · exact ⟨_, _, rfl, enters_of Tryd.func66 (by kernel_rfl) rfl, fun w1 _ => (fitsAllI n w1).mono fun _ _ ⟨he, hw⟩ => ⟨he, hw ▸ Q.refl _⟩⟩
  · exact ⟨_, _, rfl, enters_of Tryd.func69 (by kernel_rfl) rfl, fun w1 hq => (port1 n x b w1 (hq.cell hc)).mono fun _ _ ⟨he, hw⟩ => ⟨he, hw ▸ Q.refl _⟩⟩
  · exact ⟨_, _, rfl, enters_of Tryd.func71 (by kernel_rfl) rfl, fun w1 hq => (port2 n x y b c w1 (hq.cell hb) (hq.cell hc)).mono fun _ _ ⟨he, hw⟩ => ⟨he, hw ▸ Q.refl _⟩⟩

theorem MinRep.answers {S : Nat → Prop} {w : World} {v : Value} {t : Option (Nat × Nat)} (h : MinRep S w v t) (n : Int) : Answers w v (.int .i64 n) (minFits t n) := by
  rcases h with ⟨rfl, rfl⟩ | ⟨b, c, x, y, rfl, hxy, rfl, hb, hc, _⟩ | ⟨b, c, x, y, rfl, hxy, rfl, hb, hc, _⟩
  · exact ⟨_, _, rfl, enters_of Tryd.func66 (by kernel_rfl) rfl, fun w1 _ => (fitsAllI n w1).mono fun _ _ ⟨he, hw⟩ => ⟨he, hw ▸ Q.refl _⟩⟩
  · exact ⟨_, _, rfl, enters_of Tryd.func72 (by kernel_rfl) rfl, fun w1 hq => (min1 n x y b c hxy w1 (hq.cell hb) (hq.cell hc)).mono fun _ _ ⟨he, hw⟩ => ⟨he, hw ▸ Q.refl _⟩⟩
  · exact ⟨_, _, rfl, enters_of Tryd.func73 (by kernel_rfl) rfl, fun w1 hq => (min2 n x y b c hxy w1 (hq.cell hb) (hq.cell hc)).mono fun _ _ ⟨he, hw⟩ => ⟨he, hw ▸ Q.refl _⟩⟩

theorem HostRep.answers {S : Nat → Prop} {w : World} {v : Value} {p : HostP} (h : HostRep S w v p) (nm : List UInt8) (a b c d : Nat) (hn : nm.length ≤ 4294967281) (ha : a ≤ 255) (hb : b ≤ 255) (hc : c ≤ 255) (hd : d ≤ 255) :
    Answers w v (hostV nm a b c d) (hostFits p nm [a, b, c, d]) := by
  rcases h with ⟨hk, rfl⟩ | ⟨g, hk, rfl, hg, _⟩ | ⟨g, hk, rfl, hg, hl, _⟩ | ⟨n, g, x0, x1, x2, x3, hk, rfl, had, hbits, hcn, h0, h1, h2, h3, _⟩
  · exact ⟨_, _, rfl, enters_of Tryd.func60 (by kernel_rfl) rfl, fun w1 _ => (fitsAllH nm a b c d w1).mono fun _ _ ⟨he, hw⟩ => ⟨by rw [he]; unfold hostFits; rw [if_pos hk], hw⟩⟩
  · exact ⟨_, _, rfl, enters_of Tryd.func65 (by kernel_rfl) rfl, fun w1 hq => (host1 nm p.nm a b c d g w1 (hq.cell hg)).mono fun _ _ ⟨he, hw⟩ => ⟨by rw [he]; unfold hostFits; rw [if_neg (by omega), if_pos hk], hw⟩⟩
  · exact ⟨_, _, rfl, enters_of Tryd.func98 (by kernel_rfl) rfl, fun w1 hq => (domain1 nm p.nm a b c d g w1 hn hl (hq.cell hg)).mono fun _ _ ⟨he, hw⟩ => ⟨by rw [he]; unfold hostFits; rw [if_neg (by omega), if_neg (by omega), if_pos hk], hw⟩⟩
  · refine ⟨_, _, rfl, enters_of Tryd.func95 (by kernel_rfl) rfl, fun w1 hq => ?_⟩
    cases nm with
    | nil => exact (net1_yes a b c d n g x0 x1 x2 x3 p.bits w1 ha hb hc hd hbits (hq.cell hcn) (hq.cell h0) (hq.cell h1) (hq.cell h2) (hq.cell h3)).mono fun _ _ ⟨he, hw⟩ => ⟨by rw [he]; unfold hostFits; rw [if_neg (by omega), if_neg (by omega), if_neg (by omega), had]; rfl, hw⟩
    | cons x xs => exact (net1_no (x :: xs) a b c d n g w1 rfl).mono fun _ _ ⟨he, hw⟩ => ⟨by rw [he]; unfold hostFits; rw [if_neg (by omega), if_neg (by omega), if_neg (by omega)]; rfl, hw⟩

theorem Q.made2n {w w' : World} {cs ds : Array Value} {t u : TypeId} (h : Q ((w.alloc (.cells cs t)).alloc (.cells ds u)) w') :
    (∀ i, w'.cell? ⟨w.heap.size, i, none⟩ = cs[i]?) ∧ (∀ i, w'.cell? ⟨w.heap.size + 1, i, none⟩ = ds[i]?) ∧ w.heap.size + 1 < w'.heap.size := by
  have hz := Q.size h
  simp at hz
  refine ⟨fun i => ?_, fun i => ?_, by omega⟩
  · rw [(Q.cells h).1 _ _ (by simp; omega)]; simp [go_sem]
  · rw [(Q.cells h).1 _ _ (by simp)]; simp [go_sem]

set_option maxRecDepth 100000 in
set_option maxHeartbeats 1600000 in
theorem fits_core (al : Bool) (vt vh vp vm : Value) (t : ByteArray) (nm : List UInt8) (a b c d : Nat) (p m : Int) (bt bh bp bm : Bool) (w : World)
    (At : Answers w vt (.string t) bt) (Ah : Answers w vh (hostV nm a b c d) bh) (Ap : Answers w vp (.int .i64 p) bp) (Am : Answers w vm (.int .i64 m) bm) :
    Calls Tryd.prog 30 #[ruleV al vt vh vp vm, questV t nm a b c d p m] w fun e w' => e = .returned (.bool (bt && bh && bp && bm)) ∧ Q w w' := by
  obtain ⟨ft, ct, rfl, et, kt⟩ := At
  obtain ⟨fh, ch, rfl, eh, kh⟩ := Ah
  obtain ⟨fp, cp, rfl, ep, kp⟩ := Ap
  obtain ⟨fm, cm, rfl, em, km⟩ := Am
  have KT := show Hid _ from kt
  have KH := show Hid _ from kh
  have KP := show Hid _ from kp
  have KM := show Hid _ from km
  clear kt kh kp km
  unfold ruleV questV
  go_enter Tryd.func30, Tryd.ntmps30
  go_wp2_with fail
  refine (KT.out _ (((Q.refl _).alloc _).alloc _)).mono ?_
  rintro e w1 ⟨rfl, hq1⟩
  have hx1 := hq1
  obtain ⟨hcl1, hcm1, hz1⟩ := hx1.made2n
  cases bt
  · go_wp2_with fail
    go_ret
    exact ⟨rfl, ((((Q.refl _).alloc _).alloc _).trans hq1)⟩
  go_wp2_with fail
  refine (KH.out _ ((((Q.refl _).alloc _).alloc _).trans hq1)).mono ?_
  rintro e w2 ⟨rfl, hq2⟩
  have hx2 := hx1.trans hq2
  obtain ⟨hcl2, hcm2, hz2⟩ := hx2.made2n
  cases bh
  · go_wp2_with fail
    go_ret
    exact ⟨rfl, (((((Q.refl _).alloc _).alloc _).trans hq1).trans hq2)⟩
  go_wp2_with fail
  refine (KP.out _ (((((Q.refl _).alloc _).alloc _).trans hq1).trans hq2)).mono ?_
  rintro e w3 ⟨rfl, hq3⟩
  have hx3 := hx2.trans hq3
  obtain ⟨hcl3, hcm3, hz3⟩ := hx3.made2n
  cases bp
  · go_wp2_with fail
    go_ret
    exact ⟨rfl, ((((((Q.refl _).alloc _).alloc _).trans hq1).trans hq2).trans hq3)⟩
  go_wp2_with fail
  refine (KM.out _ ((((((Q.refl _).alloc _).alloc _).trans hq1).trans hq2).trans hq3)).mono ?_
  rintro e w4 ⟨rfl, hq4⟩
  have hx4 := hx3.trans hq4
  go_wp2_with fail
  go_ret
  exact ⟨rfl, (((((((Q.refl _).alloc _).alloc _).trans hq1).trans hq2).trans hq3).trans hq4)⟩

/-- Does the rule fit? -/
theorem fits_any {S : Nat → Prop} (r : RuleS) (vt vh vp vm : Value) (t : ByteArray) (nm : List UInt8) (a b c d : Nat) (p m : Int) (w : World) (h : RuleRep S w r vt vh vp vm)
    (hn : nm.length ≤ 4294967281) (ha : a ≤ 255) (hb : b ≤ 255) (hc : c ≤ 255) (hd : d ≤ 255) :
    Calls Tryd.prog 30 #[ruleV r.allow vt vh vp vm, questV t nm a b c d p m] w fun e w' => e = .returned (.bool (ruleFits r t.data.toList nm [a, b, c, d] p m)) ∧ Q w w' :=
  fits_core r.allow vt vh vp vm t nm a b c d p m _ _ _ _ w (h.ten.answers t) (h.host.answers nm a b c d hn ha hb hc hd) (h.port.answers p) (h.minute.answers m)
end Go.Proofs.YtfkggpminmonmaaDoor

/-
  Package turnpike: a reader is called, and caught where it gives up.
-/
import Derived.Test.YtfkggpminmonmaaDoorFits
import Derived.Defers
import Derived.Recover
namespace Go.Proofs.YtfkggpminmonmaaDoor
open Go.RowKit Plain

def zeroRule : Value := .agg #[.bool false, .nilFunc, .nilFunc, .nilFunc, .nilFunc]

set_option maxRecDepth 100000 in
set_option maxHeartbeats 800000 in
theorem compile1_any (s : ByteArray) (b : Nat) (w : World) (hs : s.size < 4294967281) (hb : w.cell? ⟨b, 0, none⟩ = some (.string s)) :
    Calls Tryd.prog 19 #[.pointer (some ⟨b, 0, none⟩)] w fun e w' => ReadPost s.data.toList w e w' := by
  have hlt := Q.lt hb
  go_enter Tryd.func19, Tryd.ntmps19
  go_wp2_with fail
  refine (read_any s _ hs).mono ?_
  rintro e w1 ⟨hq, ⟨r, vt, vh, vp, vm, hr, rfl, rep⟩ | ⟨hr, ⟨t, v, rfl⟩⟩⟩
  · obtain ⟨g1, k1, e1⟩ := rep.ten.func
    obtain ⟨g2, k2, e2⟩ := rep.host.func
    obtain ⟨g3, k3, e3⟩ := rep.port.func
    obtain ⟨g4, k4, e4⟩ := rep.minute.func
    have HR := show Hid _ from hr
    have HRR := show Hid _ from rep
    clear hr rep
    subst e1 e2 e3 e4
    unfold ruleV
    obtain ⟨hcl, hfr, hz⟩ := hq.made
    have hQ : Q w w1 := ((Q.refl w).alloc _).trans hq
    go_wp2_with fail
    refine bodyPost_ret (v := ruleV r.allow (.func (.func g1) #[] k1) (.func (.func g2) #[] k2) (.func (.func g3) #[] k3) (.func (.func g4) #[] k4)) (by simp [results, Tryd.results19, go_sem, hcl, ruleV]) rfl ⟨?_, .inl ⟨_, _, _, _, _, HR.out, rfl, ?_⟩⟩
    · iterate 5 refine Q.setCell ?_ (Nat.le_refl _) _
      exact hQ
    · refine HRR.out.keeps fun x hx => ⟨⟨?_, ?_⟩, fun o => set5_other ?_ o⟩
      · have := hx.1; simp at this; omega
      · rw [set5_size]; exact hx.2
      · have := hx.1; simp at this; omega
  · exact ⟨rfl, ((Q.refl w).alloc _).trans hq, .inr ⟨hr, ⟨_, _, rfl⟩⟩⟩

theorem catchRule_panicking (p : Addr) (x : Bool) (u : TypeId) (pv : Value) (older : List PanicEntry) (w : World) (hc : w.cell? p = some (.bool x)) (hz : w.frozen? p = false) :
    CallsD Tryd.prog 36 #[.pointer (some p)] (.panicking ({ v := .iface u pv, recovered := false } :: older)) w fun e u' w' =>
      e = .returned (.tuple #[]) ∧ u' = .panicking ({ v := .iface u pv, recovered := true } :: older) ∧ w' = w.setCell p (.bool false) := by
  refine callsD_of_wpS Tryd.func36 rfl fun c₀ cs hu => ?_
  apply wpS_region
  simp [wpOpsS, go_sem, recoverD, hu, Tryd.ntmps36, hc, hz, bodyPostS, results, Tryd.results36]

theorem catchRule_idle (p : Addr) (x : Bool) (w : World) (hc : w.cell? p = some (.bool x)) (hz : w.frozen? p = false) :
    CallsD Tryd.prog 36 #[.pointer (some p)] .returning w fun e u' w' => e = .returned (.tuple #[]) ∧ u' = .returning ∧ w' = w.setCell p (.bool true) := by
  refine callsD_of_wpS Tryd.func36 rfl fun c₀ cs hu => ?_
  apply wpS_region
  simp [wpOpsS, go_sem, recoverD, hu, Tryd.ntmps36, hc, hz, bodyPostS, results, Tryd.results36]
  cases c₀
  simp_all

def CaughtPost (l : List UInt8) (w : World) (e : Ending) (w' : World) : Prop :=
  Q w w' ∧ ((∃ r vt vh vp vm, readRule l = some r ∧ e = .returned (.tuple #[ruleV r.allow vt vh vp vm, .bool true]) ∧ RuleRep (New w w') w' r vt vh vp vm) ∨ (readRule l = none ∧ e = .returned (.tuple #[zeroRule, .bool false])))

set_option maxRecDepth 100000 in
set_option maxHeartbeats 1600000 in
theorem caughtRule_any (s : ByteArray) (b : Nat) (w : World) (hs : s.size < 4294967281) (hb : w.cell? ⟨b, 0, none⟩ = some (.string s)) :
    Calls Tryd.prog 18 #[.func (.func 19) #[] #[.pointer (some ⟨b, 0, none⟩)]] w fun e w' => CaughtPost s.data.toList w e w' := by
  have hmf : ∀ (fn : Fn) (first cap : Array Value) (w : World), (Instr.makeFunc fn first cap).run Tryd.prog w = .ok (.func fn first cap) w := fun _ _ _ _ => rfl
  have hlt := Q.lt hb
  go_enter_defers Tryd.func18, Tryd.ntmps18
  go_wp2_with fail
  have hq0 : Q w ((w.alloc (.cells #[.bool false, .nilFunc, .nilFunc, .nilFunc, .nilFunc] 63)).alloc (.cells #[.bool false] 4)) := ((Q.refl w).alloc _).alloc _
  refine (compile1_any s b _ hs (hq0.cell hb)).mono ?_
  rintro e w1 ⟨hq, ⟨r, vt, vh, vp, vm, hr, rfl, rep⟩ | ⟨hr, ⟨t, v, rfl⟩⟩⟩
  · obtain ⟨g1, k1, e1⟩ := rep.ten.func
    obtain ⟨g2, k2, e2⟩ := rep.host.func
    obtain ⟨g3, k3, e3⟩ := rep.port.func
    obtain ⟨g4, k4, e4⟩ := rep.minute.func
    have HR := show Hid _ from hr
    have HRR := show Hid _ from rep
    clear hr rep
    subst e1 e2 e3 e4
    unfold ruleV
    obtain ⟨hcl, hcm, hz⟩ := hq.made2n
    have hf1 : ∀ i, w1.frozen? ⟨w.heap.size, i, none⟩ = false := fun i => by
      rw [hq.cells.2 _ _ (by simp; omega)]; simp [go_sem]
    have hf2 : ∀ i, w1.frozen? ⟨w.heap.size + 1, i, none⟩ = false := fun i => by
      rw [hq.cells.2 _ _ (by simp)]; simp [go_sem]
    have hQ : Q w w1 := hq0.trans hq
    go_wp2_with fail
    obtain ⟨W, hW⟩ : ∃ W, W = ((((w1.setCell ⟨w.heap.size, 0, none⟩ (.bool r.allow)).setCell ⟨w.heap.size, 1, none⟩ (.func (.func g1) #[] k1)).setCell ⟨w.heap.size, 2, none⟩ (.func (.func g2) #[] k2)).setCell ⟨w.heap.size, 3, none⟩ (.func (.func g3) #[] k3)).setCell ⟨w.heap.size, 4, none⟩ (.func (.func g4) #[] k4) := ⟨_, rfl⟩
    have hc0 : W.cell? ⟨w.heap.size, 0, none⟩ = some (.bool r.allow) := by rw [hW]; simp [go_sem, hcl]
    have hc1 : W.cell? ⟨w.heap.size, 1, none⟩ = some (.func (.func g1) #[] k1) := by rw [hW]; simp [go_sem, hcl]
    have hc2 : W.cell? ⟨w.heap.size, 2, none⟩ = some (.func (.func g2) #[] k2) := by rw [hW]; simp [go_sem, hcl]
    have hc3 : W.cell? ⟨w.heap.size, 3, none⟩ = some (.func (.func g3) #[] k3) := by rw [hW]; simp [go_sem, hcl]
    have hc4 : W.cell? ⟨w.heap.size, 4, none⟩ = some (.func (.func g4) #[] k4) := by rw [hW]; simp [go_sem, hcl]
    have hr0 : W.cell? ⟨w.heap.size + 1, 0, none⟩ = some (.bool false) := by rw [hW, set5_other (by omega), hcm]; rfl
    have hfz : W.frozen? ⟨w.heap.size + 1, 0, none⟩ = false := by rw [hW]; simp [hf2]
    have hQW : Q w W := by
      rw [hW]
      iterate 5 refine Q.setCell ?_ (Nat.le_refl _) _
      exact hQ
    have hzW : W.heap.size = w1.heap.size := by rw [hW, set5_size]
    have hoW : ∀ x o, ¬ w.heap.size = x → W.cell? ⟨x, o, none⟩ = w1.cell? ⟨x, o, none⟩ := fun x o h => by rw [hW]; exact set5_other h o
    rw [← hW]
    clear hW hcl hcm hf1 hf2
    have hne : ∀ i, (⟨w.heap.size + 1, 0, none⟩ : Addr) ≠ ⟨w.heap.size, i, none⟩ := fun i e => by injection e with e1 _; omega
    have hx : ((W.setCell ⟨w.heap.size + 1, 0, none⟩ (.bool true)).setCell ⟨w.heap.size + 1, 0, none⟩ (.bool true)).cell? ⟨w.heap.size + 1, 0, none⟩ = some (.bool true) := set_same (set_same hr0)
    have hy : ∀ i, ((W.setCell ⟨w.heap.size + 1, 0, none⟩ (.bool true)).setCell ⟨w.heap.size + 1, 0, none⟩ (.bool true)).cell? ⟨w.heap.size, i, none⟩ = W.cell? ⟨w.heap.size, i, none⟩ := fun i => by
      rw [set_other (hne i), set_other (hne i)]
    refine leaves_cons (f := 36) (args := #[.pointer (some ⟨w.heap.size + 1, 0, none⟩)]) (by simp) (by simp [go_sem]) ?_
    refine (catchRule_idle ⟨w.heap.size + 1, 0, none⟩ true _ (set_same hr0) (by rw [World.frozen?_setCell]; exact hfz)).mono ?_
    rintro e u' w'' ⟨rfl, rfl, rfl⟩
    simp [Leaves, settle, results, Tryd.results18, go_sem, hx, hy, hc0, hc1, hc2, hc3, hc4]
    refine ⟨(hQW.setCell (by simp) _).setCell (by simp) _, .inl ⟨_, _, _, _, _, HR.out, rfl, ?_⟩⟩
    refine HRR.out.keeps fun x hx => ⟨⟨?_, ?_⟩, fun o => ?_⟩
    · have := hx.1; simp at this; omega
    · simp [hzW]; exact hx.2
    · have h1 := hx.1
      simp at h1
      have hnx : (⟨w.heap.size + 1, 0, none⟩ : Addr) ≠ ⟨x, o, none⟩ := fun e => by injection e with e1 _; omega
      rw [set_other hnx, set_other hnx, hoW x o (by omega)]
  · obtain ⟨hcl, hcm, hz⟩ := hq.made2n
    have hf2 : ∀ i, w1.frozen? ⟨w.heap.size + 1, i, none⟩ = false := fun i => by
      rw [hq.cells.2 _ _ (by simp)]; simp [go_sem]
    have hQ : Q w w1 := hq0.trans hq
    go_wp2_with fail
    refine leaves_cons (f := 36) (args := #[.pointer (some ⟨w.heap.size + 1, 0, none⟩)]) (by simp) (by simp [go_sem]) ?_
    refine (catchRule_panicking ⟨w.heap.size + 1, 0, none⟩ false t v [] _ ?_ ?_).mono ?_
    · simp [hcm]
    · simp [hf2]
    rintro e u' w'' ⟨rfl, rfl, rfl⟩
    simp [Leaves, settle, results, Tryd.results18, go_sem, hcl, hcm]
    exact ⟨hQ.setCell (by simp) _, .inr ⟨hr, rfl⟩⟩
end Go.Proofs.YtfkggpminmonmaaDoor

/-
  Package turnpike: a question is read, and caught where its reader gives up.
-/
import Derived.Test.YtfkggpminmonmaaDoorCompile
namespace Go.Proofs.YtfkggpminmonmaaDoor
open Go.RowKit Plain

def zeroQuest : Value := .agg #[.string ⟨#[]⟩, .string ⟨#[]⟩, .int .u8 0, .int .u8 0, .int .u8 0, .int .u8 0, .int .i64 0, .int .i64 0]

theorem catchQ_panicking (p : Addr) (x : Bool) (u : TypeId) (pv : Value) (older : List PanicEntry) (w : World) (hc : w.cell? p = some (.bool x)) (hz : w.frozen? p = false) :
    CallsD Tryd.prog 51 #[.pointer (some p)] (.panicking ({ v := .iface u pv, recovered := false } :: older)) w fun e u' w' =>
      e = .returned (.tuple #[]) ∧ u' = .panicking ({ v := .iface u pv, recovered := true } :: older) ∧ w' = w.setCell p (.bool false) := by
  refine callsD_of_wpS Tryd.func51 rfl fun c₀ cs hu => ?_
  apply wpS_region
  simp [wpOpsS, go_sem, recoverD, hu, Tryd.ntmps51, hc, hz, bodyPostS, results, Tryd.results51]

theorem catchQ_idle (p : Addr) (x : Bool) (w : World) (hc : w.cell? p = some (.bool x)) (hz : w.frozen? p = false) :
    CallsD Tryd.prog 51 #[.pointer (some p)] .returning w fun e u' w' => e = .returned (.tuple #[]) ∧ u' = .returning ∧ w' = w.setCell p (.bool true) := by
  refine callsD_of_wpS Tryd.func51 rfl fun c₀ cs hu => ?_
  apply wpS_region
  simp [wpOpsS, go_sem, recoverD, hu, Tryd.ntmps51, hc, hz, bodyPostS, results, Tryd.results51]
  cases c₀
  simp_all


set_option maxRecDepth 100000 in
set_option maxHeartbeats 800000 in
theorem decide1_any (t h : ByteArray) (p m : Int) (bt bh bp bm : Nat) (w : World) (hs : h.size < 4294967281) (ct : w.cell? ⟨bt, 0, none⟩ = some (.string t)) (ch : w.cell? ⟨bh, 0, none⟩ = some (.string h)) (cp : w.cell? ⟨bp, 0, none⟩ = some (.int .i64 p)) (cm : w.cell? ⟨bm, 0, none⟩ = some (.int .i64 m)) :
    Calls Tryd.prog 28 #[.pointer (some ⟨bt, 0, none⟩), .pointer (some ⟨bh, 0, none⟩), .pointer (some ⟨bp, 0, none⟩), .pointer (some ⟨bm, 0, none⟩)] w fun e w' => AskPost t h p m w e w' := by
  have l1 := Q.lt ct
  have l2 := Q.lt ch
  have l3 := Q.lt cp
  have l4 := Q.lt cm
  go_enter Tryd.func28, Tryd.ntmps28
  go_wp2_with fail
  refine (ask_any t h p m _ hs).mono ?_
  rintro e w1 ⟨hq, ⟨nm, a, b, c, d, hr, rfl⟩ | ⟨hr, ⟨u, v, rfl⟩⟩⟩
  · have HR := show Hid _ from hr
    clear hr
    unfold questV
    obtain ⟨hcl, hfr, hz⟩ := hq.made
    have hQ : Q w w1 := ((Q.refl w).alloc _).trans hq
    go_wp2_with fail
    refine bodyPost_ret (v := questV t nm a b c d p m) (by simp [results, Tryd.results28, go_sem, hcl, questV]) rfl ⟨?_, .inl ⟨_, _, _, _, _, HR.out, rfl⟩⟩
    iterate 8 refine Q.setCell ?_ (Nat.le_refl _) _
    exact hQ
  · exact ⟨rfl, ((Q.refl w).alloc _).trans hq, .inr ⟨hr, ⟨_, _, rfl⟩⟩⟩

def CaughtQ (t h : ByteArray) (p m : Int) (w : World) (e : Ending) (w' : World) : Prop :=
  Q w w' ∧ ((∃ nm a b c d, askS t.data.toList h.data.toList p m = some (nm, [a, b, c, d]) ∧ e = .returned (.tuple #[questV t nm a b c d p m, .bool true])) ∨ (askS t.data.toList h.data.toList p m = none ∧ e = .returned (.tuple #[zeroQuest, .bool false])))

set_option maxRecDepth 100000 in
set_option maxHeartbeats 1600000 in
theorem caughtQ_any (t h : ByteArray) (p m : Int) (bt bh bp bm : Nat) (w : World) (hs : h.size < 4294967281) (ct : w.cell? ⟨bt, 0, none⟩ = some (.string t)) (ch : w.cell? ⟨bh, 0, none⟩ = some (.string h)) (cp : w.cell? ⟨bp, 0, none⟩ = some (.int .i64 p)) (cm : w.cell? ⟨bm, 0, none⟩ = some (.int .i64 m)) :
    Calls Tryd.prog 27 #[.func (.func 28) #[] #[.pointer (some ⟨bt, 0, none⟩), .pointer (some ⟨bh, 0, none⟩), .pointer (some ⟨bp, 0, none⟩), .pointer (some ⟨bm, 0, none⟩)]] w fun e w' => CaughtQ t h p m w e w' := by
  have hmf : ∀ (fn : Fn) (first cap : Array Value) (w : World), (Instr.makeFunc fn first cap).run Tryd.prog w = .ok (.func fn first cap) w := fun _ _ _ _ => rfl
  go_enter_defers Tryd.func27, Tryd.ntmps27
  go_wp2_with fail
  have hq0 : Q w ((w.alloc (.cells #[.string ⟨#[]⟩, .string ⟨#[]⟩, .int .u8 0, .int .u8 0, .int .u8 0, .int .u8 0, .int .i64 0, .int .i64 0] 81)).alloc (.cells #[.bool false] 4)) := ((Q.refl w).alloc _).alloc _
  refine (decide1_any t h p m bt bh bp bm _ hs (hq0.cell ct) (hq0.cell ch) (hq0.cell cp) (hq0.cell cm)).mono ?_
  rintro e w1 ⟨hq, ⟨nm, a, b, c, d, hr, rfl⟩ | ⟨hr, ⟨u, v, rfl⟩⟩⟩
  · have HR := show Hid _ from hr
    clear hr
    unfold questV
    obtain ⟨hcl, hcm, hz⟩ := hq.made2n
    have hf1 : ∀ i, w1.frozen? ⟨w.heap.size, i, none⟩ = false := fun i => by
      rw [hq.cells.2 _ _ (by simp; omega)]; simp [go_sem]
    have hf2 : ∀ i, w1.frozen? ⟨w.heap.size + 1, i, none⟩ = false := fun i => by
      rw [hq.cells.2 _ _ (by simp)]; simp [go_sem]
    have hQ : Q w w1 := hq0.trans hq
    go_wp2_with fail
    obtain ⟨W, hW⟩ : ∃ W, W = (((((((w1.setCell ⟨w.heap.size, 0, none⟩ (.string t)).setCell ⟨w.heap.size, 1, none⟩ (.string ⟨nm.toArray⟩)).setCell ⟨w.heap.size, 2, none⟩ (.int .u8 a)).setCell ⟨w.heap.size, 3, none⟩ (.int .u8 b)).setCell ⟨w.heap.size, 4, none⟩ (.int .u8 c)).setCell ⟨w.heap.size, 5, none⟩ (.int .u8 d)).setCell ⟨w.heap.size, 6, none⟩ (.int .i64 p)).setCell ⟨w.heap.size, 7, none⟩ (.int .i64 m) := ⟨_, rfl⟩
    have hc0 : W.cell? ⟨w.heap.size, 0, none⟩ = some (.string t) := by rw [hW]; simp [go_sem, hcl]
    have hc1 : W.cell? ⟨w.heap.size, 1, none⟩ = some (.string ⟨nm.toArray⟩) := by rw [hW]; simp [go_sem, hcl]
    have hc2 : W.cell? ⟨w.heap.size, 2, none⟩ = some (.int .u8 a) := by rw [hW]; simp [go_sem, hcl]
    have hc3 : W.cell? ⟨w.heap.size, 3, none⟩ = some (.int .u8 b) := by rw [hW]; simp [go_sem, hcl]
    have hc4 : W.cell? ⟨w.heap.size, 4, none⟩ = some (.int .u8 c) := by rw [hW]; simp [go_sem, hcl]
    have hc5 : W.cell? ⟨w.heap.size, 5, none⟩ = some (.int .u8 d) := by rw [hW]; simp [go_sem, hcl]
    have hc6 : W.cell? ⟨w.heap.size, 6, none⟩ = some (.int .i64 p) := by rw [hW]; simp [go_sem, hcl]
    have hc7 : W.cell? ⟨w.heap.size, 7, none⟩ = some (.int .i64 m) := by rw [hW]; simp [go_sem, hcl]
    have hr0 : W.cell? ⟨w.heap.size + 1, 0, none⟩ = some (.bool false) := by rw [hW]; simp [go_sem, hcm]
    have hfz : W.frozen? ⟨w.heap.size + 1, 0, none⟩ = false := by rw [hW]; simp [hf2]
    have hQW : Q w W := by
      rw [hW]
      iterate 8 refine Q.setCell ?_ (Nat.le_refl _) _
      exact hQ
    rw [← hW]
    clear hW hcl hcm hf1 hf2
    have hne : ∀ i, (⟨w.heap.size + 1, 0, none⟩ : Addr) ≠ ⟨w.heap.size, i, none⟩ := fun i e => by injection e with e1 _; omega
    have hx : ((W.setCell ⟨w.heap.size + 1, 0, none⟩ (.bool true)).setCell ⟨w.heap.size + 1, 0, none⟩ (.bool true)).cell? ⟨w.heap.size + 1, 0, none⟩ = some (.bool true) := set_same (set_same hr0)
    have hy : ∀ i, ((W.setCell ⟨w.heap.size + 1, 0, none⟩ (.bool true)).setCell ⟨w.heap.size + 1, 0, none⟩ (.bool true)).cell? ⟨w.heap.size, i, none⟩ = W.cell? ⟨w.heap.size, i, none⟩ := fun i => by
      rw [set_other (hne i), set_other (hne i)]
    refine leaves_cons (f := 51) (args := #[.pointer (some ⟨w.heap.size + 1, 0, none⟩)]) (by simp) (by simp [go_sem]) ?_
    refine (catchQ_idle ⟨w.heap.size + 1, 0, none⟩ true _ (set_same hr0) (by rw [World.frozen?_setCell]; exact hfz)).mono ?_
    rintro e u' w'' ⟨rfl, rfl, rfl⟩
    simp [Leaves, settle, results, Tryd.results27, go_sem, hx, hy, hc0, hc1, hc2, hc3, hc4, hc5, hc6, hc7]
    exact ⟨(hQW.setCell (by simp) _).setCell (by simp) _, .inl ⟨_, _, _, _, _, HR.out, rfl⟩⟩
  · obtain ⟨hcl, hcm, hz⟩ := hq.made2n
    have hf2 : ∀ i, w1.frozen? ⟨w.heap.size + 1, i, none⟩ = false := fun i => by
      rw [hq.cells.2 _ _ (by simp)]; simp [go_sem]
    have hQ : Q w w1 := hq0.trans hq
    go_wp2_with fail
    refine leaves_cons (f := 51) (args := #[.pointer (some ⟨w.heap.size + 1, 0, none⟩)]) (by simp) (by simp [go_sem]) ?_
    refine (catchQ_panicking ⟨w.heap.size + 1, 0, none⟩ false u v [] _ ?_ ?_).mono ?_
    · simp [hcm]
    · simp [hf2]
    rintro e u' w'' ⟨rfl, rfl, rfl⟩
    simp [Leaves, settle, results, Tryd.results27, go_sem, hcl, hcm]
    exact ⟨hQ.setCell (by simp) _, .inr ⟨hr, rfl⟩⟩
end Go.Proofs.YtfkggpminmonmaaDoor

/-
  What the rows share: numbers, a question, and a variable of the library's, opened.
-/
import Derived.Test.YtdmaffciijmdcaaGreatDoorRowCToHeads1
import Derived.Test.YtdmaffciijmdcaaGreatDoorGuardWC
import Derived.Lib.SmallJoins
import Derived.ChangeSlices
namespace Go.Proofs.YtdmaffciijmdcaaGreatDoor
open Go.ChangeShapes Go.WideShapes Go.ChangeAt Go.RowKit Plain

theorem spot_none {w : World} {a : Addr} {k : IntKind} {z : Int} (h : w.cell? a = some (.int k z)) : a.spot = none := by
  unfold World.cell? at h
  split at h
  · split at h
    · cases h
    · rename_i hn; simpa using hn
  · cases h

/-- The numbers that came in. -/
theorem ints_open {H : Type} {enc : TypeId × Value → H} {w : World} {v : Value} {d : DataW H} {ps : List MemPlace} (h : DataW.Trod enc Tryz.prog w 0 (fun _ => true) true 28 v d ps)
    (hv : ∃ a len cap, v = .slice a len cap) : ∃ l, IntsAt w v l := by
  obtain ⟨a0, len0, cap0, rfl⟩ := hv
  obtain ⟨fuel, hf⟩ := h
  have hf' : DataW.trod enc Tryz.prog w 0 (fun _ => true) true fuel 28 [.slice a0 len0 cap0] = some (d, ps) := hf
  rcases Go.ChangeShapes.open_ints Tryz.underlying28 Tryz.underlying3 (by kernel_rfl) hf' with ⟨hcs, _⟩ | ⟨a, len, cap, zs, hcs, _, hl, _, hz, _, hcell, hwf⟩
  · cases List.singleton_inj.1 hcs
    exact ⟨[], none, 0, rfl, fun i c hi => by simp at hi⟩
  · cases List.singleton_inj.1 hcs
    have hz' : zs.length = cap0 := by rw [hz]; simp
    refine ⟨zs.take len0, some a, cap0, ?_, fun i c hi => ?_⟩
    · rw [List.length_take, Nat.min_eq_left (by omega)]
    · rw [List.getElem?_take] at hi
      split at hi
      case isFalse => cases hi
      rename_i hil
      have hlt : i < zs.length := (List.getElem?_eq_some_iff.1 hi).1
      have hc := hcell i hlt
      rw [List.getD_eq_getElem?_getD, hi] at hc
      have hsp : a.spot = none := by
        have h0 := hcell 0 (by omega)
        exact spot_none (a := a) h0
      refine ⟨bounds_i64 (hwf c (List.mem_of_getElem? hi)), a.block, a.off, ?_, ?_⟩
      · obtain ⟨b, o, s⟩ := a
        simp only at hsp
        subst hsp
        rfl
      · have := add_add hsp 0 i
        rw [show a.add 0 = a from by unfold Addr.add; simp] at this
        rw [this] at hc
        simpa using hc

set_option maxRecDepth 100000 in
/-- The question that came in. -/
theorem ask_open {H : Type} {enc : TypeId × Value → H} {w : World} {r : Reach} {b0 : Nat} {v : Value} {d : DataW H} {ps : List MemPlace} (hv : Value.okWide Tryz.prog w r b0 27 v) (h : DataW.Trod enc Tryz.prog w 0 (fun _ => true) true 27 v d ps) :
    ∃ q, v = askV q ∧ AskOk q := by
  obtain ⟨v0, v1, v2, v3, y0, y1, y2, y3, n, rfl, _, _, h0, h1, h2, h3⟩ := Go.Joins.open_agg4 Tryz.underlying27 (by kernel_rfl) (by kernel_rfl) hv h
  obtain ⟨z0, e0, _, w0⟩ := DataW.trod_int Tryz.underlying3 h0
  obtain ⟨z1, e1, _, w1⟩ := DataW.trod_int Tryz.underlying3 h1
  obtain ⟨z2, e2, _, w2⟩ := DataW.trod_int Tryz.underlying3 h2
  obtain ⟨z3, e3, _, w3⟩ := DataW.trod_int Tryz.underlying3 h3
  cases List.singleton_inj.1 e0
  cases List.singleton_inj.1 e1
  cases List.singleton_inj.1 e2
  cases List.singleton_inj.1 e3
  exact ⟨⟨z0, z1, z2, z3⟩, rfl, bounds_i64 w0, bounds_i64 w1, bounds_i64 w2, bounds_i64 w3⟩

theorem ml_open {w : World} (h : w.ShapedOpen Tryz.prog) : ML w :=
  Go.Proofs.cell_of_shapedOpen_int (zero := #[.int .i64 0]) (t := 3) h (of_decide_eq_true (by kernel_rfl)) (by kernel_rfl) rfl (by kernel_rfl) (by kernel_rfl) Tryz.underlying3
end Go.Proofs.YtdmaffciijmdcaaGreatDoor

/-
  What the rows share: a slice of structs of integers, opened.
-/
import Derived.Test.YtfkggpminmonmaaDoorRowT
import Derived.Test.YtfkggpminmonmaaDoorRulesT
namespace Go.Proofs.YtfkggpminmonmaaDoor
open Go.ChangeShapes Go.WideShapes Go.ChangeAt Go.RowKit Plain

/-- A slice of structs of k integers each, opened. -/
theorem open_rows {H : Type} {enc : TypeId × Value → H} {P : Program} {w : World} {fuel : Nat} {t e : TypeId} {k : Nat} {v : Value} {x : DataW H × List MemPlace} (fs : Array Field)
    (ht : P.underlying t = some (.slice e)) (he : P.underlying e = some (.struct fs)) (hs : fs.size = k) (hce : P.cellsOf e = k) (hk : 0 < k)
    (hf : ∀ j, j < k → ∃ f : Field, fs[j]? = some f ∧ P.underlying f.type = some (.int .i64) ∧ P.cellsOf f.type = 1 ∧ f.offset = j)
    (h : DataW.trod enc P w 0 (fun _ => true) true fuel t [v] = some x) :
    v = .slice none 0 0 ∨ ∃ a len cap, v = .slice (some a) len cap ∧ len ≤ maxLen ∧ ∀ i, i < len → a.spot = none ∧ ∀ j, j < k →
      w.cell? ⟨a.block, a.off + i * k + j, none⟩ = some (.int .i64 (cellInt w a.block (a.off + i * k + j))) ∧ I64 (cellInt w a.block (a.off + i * k + j)) := by
  rcases Go.Deep.open_slice ht h with ⟨hcs, _⟩ | ⟨a, len, cap, m, n, D, Pl, hcs, _, hl, hm, hmm, _, hx⟩
  · exact .inl (List.singleton_inj.1 hcs)
  · refine .inr ⟨a, len, cap, List.singleton_inj.1 hcs, by omega, ?_⟩
    have hlm : len ≤ m := by rw [hmm, if_pos rfl]; exact hl
    have hcell : ∀ i, i < len → ∀ j, j < k → ∃ z, w.cell? ((a.add (i * k)).add j) = some (.int .i64 z) ∧ I64 z := by
      intro i hi j hj
      obtain ⟨cs, h1, h2⟩ := hx i (by omega)
      rw [hce] at h1
      obtain ⟨_, hcl, hc⟩ := World.cells?_some h1
      obtain ⟨xs, n', _, _, _, hxl, hfld⟩ := DataW.trod_struct he h2
      obtain ⟨f, hf1, hf2, hf3, hf4⟩ := hf j hj
      have h3 := hfld j f hf1
      rw [hf3, hf4, List.getElem?_eq_getElem (by rw [hxl, hs]; exact hj)] at h3
      obtain ⟨z, e1, _, hw⟩ := DataW.trod_int hf2 h3
      refine ⟨z, ?_, bounds_i64 hw⟩
      rw [hc j hj]
      have h0 : ((cs.drop j).take 1)[0]? = some (.int .i64 z) := by rw [e1]; rfl
      simpa using h0
    intro i hi
    have hsp : a.spot = none := by
      obtain ⟨z, hz, _⟩ := hcell 0 (by omega) 0 hk
      rw [Nat.zero_mul] at hz
      have : w.cell? a = some (.int .i64 z) := hz
      unfold World.cell? at this
      split at this
      · split at this
        · cases this
        · rename_i hn; simpa using hn
      · cases this
    refine ⟨hsp, fun j hj => ?_⟩
    obtain ⟨z, hz, hz2⟩ := hcell i hi j hj
    rw [add_add hsp] at hz
    have : cellInt w a.block (a.off + i * k + j) = z := by unfold cellInt; rw [hz]
    rw [this]
    exact ⟨hz, hz2⟩

def rawOf (w : World) (b o : Nat) : RawR := ⟨cellInt w b o, cellInt w b (o + 1), cellInt w b (o + 2), cellInt w b (o + 3), cellInt w b (o + 4), cellInt w b (o + 5), cellInt w b (o + 6), cellInt w b (o + 7)⟩

/-- The rules that came in. -/
theorem raws_open {H : Type} {enc : TypeId × Value → H} {w : World} {v : Value} {d : DataW H} {ps : List MemPlace} (h : DataW.Trod enc Tryd.prog w 0 (fun _ => true) true 39 v d ps)
    (hv : ∃ a len cap, v = .slice a len cap) : ∃ l, RawsAt w v l := by
  obtain ⟨a0, len0, cap0, rfl⟩ := hv
  obtain ⟨fuel, hf⟩ := h
  have hf' : DataW.trod enc Tryd.prog w 0 (fun _ => true) true fuel 39 [.slice a0 len0 cap0] = some (d, ps) := hf
  rcases open_rows (k := 8) _ Tryd.underlying39 Tryd.underlying75 rfl (by kernel_rfl) (by decide)
    (fun j hj => by
      match j, hj with
      | 0, _ => exact ⟨_, rfl, Tryd.underlying3, by kernel_rfl, rfl⟩
      | 1, _ => exact ⟨_, rfl, Tryd.underlying3, by kernel_rfl, rfl⟩
      | 2, _ => exact ⟨_, rfl, Tryd.underlying3, by kernel_rfl, rfl⟩
      | 3, _ => exact ⟨_, rfl, Tryd.underlying3, by kernel_rfl, rfl⟩
      | 4, _ => exact ⟨_, rfl, Tryd.underlying3, by kernel_rfl, rfl⟩
      | 5, _ => exact ⟨_, rfl, Tryd.underlying3, by kernel_rfl, rfl⟩
      | 6, _ => exact ⟨_, rfl, Tryd.underlying3, by kernel_rfl, rfl⟩
      | 7, _ => exact ⟨_, rfl, Tryd.underlying3, by kernel_rfl, rfl⟩) hf' with hn | ⟨a, len, cap, hs, hmax, hc⟩
  · cases hn
    exact ⟨[], .inl ⟨rfl, _, _, rfl⟩⟩
  · cases hs
    by_cases h0 : len0 = 0
    · subst h0
      exact ⟨[], .inl ⟨rfl, _, _, rfl⟩⟩
    · have hsp := (hc 0 (by omega)).1
      refine ⟨(List.range len0).map fun i => rawOf w a.block (a.off + i * 8), .inr ⟨a.block, a.off, cap0, ?_, ?_, ?_⟩⟩
      · rw [List.length_map, List.length_range, ← hsp]
      · rw [List.length_map, List.length_range]; unfold maxLen at hmax; omega
      · intro i r hr
        rw [List.getElem?_map] at hr
        obtain ⟨i', hi', rfl⟩ := Option.map_eq_some_iff.1 hr
        obtain ⟨hi, rfl⟩ := List.getElem?_eq_some_iff.1 hi'
        rw [List.getElem_range]
        rw [List.length_range] at hi
        have hh := (hc i hi).2
        have c0 := hh 0 (by decide)
        have c1 := hh 1 (by decide)
        have c2 := hh 2 (by decide)
        have c3 := hh 3 (by decide)
        have c4 := hh 4 (by decide)
        have c5 := hh 5 (by decide)
        have c6 := hh 6 (by decide)
        have c7 := hh 7 (by decide)
        exact ⟨⟨c0.1, c1.1, c2.1, c3.1, c4.1, c5.1, c6.1, c7.1⟩, ⟨c0.2, c1.2, c2.2, c3.2, c4.2, c5.2, c6.2, c7.2⟩⟩
end Go.Proofs.YtfkggpminmonmaaDoor

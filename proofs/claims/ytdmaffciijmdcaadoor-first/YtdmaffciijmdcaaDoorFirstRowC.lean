/-
  Whatever the rules and the questions, the law 'First' answers true at this commit, and its arguments read behind the call as they read before. Condition: the row's own (two tables of the library hold what the program's text lays; the card ties them).
-/
import Derived.Test.YtdmaffciijmdcaaDoorRowCToMath2
import Derived.Test.YtdmaffciijmdcaaDoorKDecToFirstW
namespace Go.Proofs.YtdmaffciijmdcaaDoor.FirstLaw
open Go.ChangeShapes Go.WideShapes Go.ChangeAt Go.RowKit Plain

def askOf (w : World) (b o : Nat) : AskR := ⟨cellInt w b o, cellInt w b (o + 1), cellInt w b (o + 2), cellInt w b (o + 3)⟩

/-- The questions that came in. -/
theorem asks_open {H : Type} {enc : TypeId × Value → H} {w : World} {v : Value} {d : DataW H} {ps : List MemPlace} (h : DataW.Trod enc Tryd.prog w 0 (fun _ => true) true 40 v d ps)
    (hv : ∃ a len cap, v = .slice a len cap) : ∃ l, AsksAt w v l := by
  obtain ⟨a0, len0, cap0, rfl⟩ := hv
  obtain ⟨fuel, hf⟩ := h
  have hf' : DataW.trod enc Tryd.prog w 0 (fun _ => true) true fuel 40 [.slice a0 len0 cap0] = some (d, ps) := hf
  rcases open_rows (k := 4) _ Tryd.underlying40 Tryd.underlying43 rfl (by kernel_rfl) (by decide)
    (fun j hj => by
      match j, hj with
      | 0, _ => exact ⟨_, rfl, Tryd.underlying3, by kernel_rfl, rfl⟩
      | 1, _ => exact ⟨_, rfl, Tryd.underlying3, by kernel_rfl, rfl⟩
      | 2, _ => exact ⟨_, rfl, Tryd.underlying3, by kernel_rfl, rfl⟩
      | 3, _ => exact ⟨_, rfl, Tryd.underlying3, by kernel_rfl, rfl⟩) hf' with hn | ⟨a, len, cap, hs, hmax, hc⟩
  · cases hn
    exact ⟨[], .inl ⟨rfl, _, _, rfl⟩⟩
  · cases hs
    by_cases h0 : len0 = 0
    · subst h0
      exact ⟨[], .inl ⟨rfl, _, _, rfl⟩⟩
    · have hsp := (hc 0 (by omega)).1
      refine ⟨(List.range len0).map fun i => askOf w a.block (a.off + i * 4), .inr ⟨a.block, a.off, cap0, ?_, ?_, ?_⟩⟩
      · rw [List.length_map, List.length_range, ← hsp]
      · rw [List.length_map, List.length_range]; unfold maxLen at hmax; omega
      · intro i r hr
        rw [List.getElem?_map] at hr
        obtain ⟨i', hi', rfl⟩ := Option.map_eq_some_iff.1 hr
        obtain ⟨hi, rfl⟩ := List.getElem?_eq_some_iff.1 hi'
        rw [List.getElem_range]
        rw [List.length_range] at hi
        have hh := (hc i hi).2
        have c0 := hh 0 (by decide)
        have c1 := hh 1 (by decide)
        have c2 := hh 2 (by decide)
        have c3 := hh 3 (by decide)
        exact ⟨⟨c0.1, c1.1, c2.1, c3.1⟩, ⟨c0.2, c1.2, c2.2, c3.2⟩⟩

set_option maxRecDepth 100000 in
theorem contract (H : Type) (enc : TypeId × Value → H) (W : World) (base : Nat) (args : Array Value) (ds gs : List (DataW H)) (before : List MemPlace)
    (hval : ∀ (j : Nat) t v, Tryd.f4.params[j]? = some t → args[j]? = some v → Value.okWide Tryd.prog W .any base t v)
    (hW : DataW.Whole enc Tryd.prog Tryd.f4.params.toList Rows.firstSpec.vars false W args.toList ds gs before) :
    Calls Tryd.prog 4 args W fun e W' => ∃ v, e = .returned v ∧ Rows.firstSpec.post enc Tryd.prog Tryd.f4 false true false false W args v W' := by
  have hW' := hW
  obtain ⟨p, q, hA0, hV, rfl, _, _⟩ := hW
  have hA : DataW.TrodAll enc Tryd.prog W 0 (fun _ => true) true Tryd.f4.params.toList args.toList ds p := hA0
  rw [Tryd.params4] at hA hval
  obtain ⟨v0, v1, d0, d1, p0, p1, rfl, rfl, rfl, h0, h1⟩ := trodAll_two hA
  obtain ⟨rfl, rfl⟩ := trodVars_none hV
  clear hA0
  have hlt0 : ∀ x ∈ p0, x.block < W.heap.size := fun x hx => by simpa using hW'.lt x (by simp [hx])
  have hlt1 : ∀ x ∈ p1, x.block < W.heap.size := fun x hx => by simpa using hW'.lt x (by simp [hx])
  obtain ⟨l, hl⟩ := raws_open h0 (okWide_slice Tryd.underlying39 (hval 0 39 v0 rfl rfl))
  obtain ⟨qs, hqs⟩ := asks_open h1 (okWide_slice Tryd.underlying40 (hval 1 40 v1 rfl rfl))
  refine (firstlaw_any v0 v1 l qs W hl hqs).mono ?_
  rintro e W' ⟨rfl, hbelow⟩
  refine ⟨_, rfl, _, _, _, [], p0 ++ p1, [], hW', ?_, ?_, rfl, hbelow.frame _, fun h => by cases h⟩
  · exact trodAll_mk1 (shut_bool Tryd.underlying4 true)
  · exact trodAll_mk2 (Below.trod laidOut (by kernel_rfl) (of_decide_eq_true (by kernel_rfl)) h0 hbelow hlt0) (Below.trod laidOut (by kernel_rfl) (of_decide_eq_true (by kernel_rfl)) h1 hbelow hlt1)

theorem reads (os : Os) {H : Type} (enc : TypeId × Value → H) : ∃ places, DataW.whole enc Tryd.prog ((World.laidAll Tryd.prog os tables).forCall (fun _ _ => 0) ⟨#[], #[.slice none 0 0, .slice none 0 0], []⟩).memory Tryd.f4.params.toList Rows.firstSpec.vars false #[Value.slice none 0 0, .slice none 0 0].toList 8 = some ([.nil, .nil], [], places) :=
  ⟨[], by kernel_rfl⟩

set_option maxRecDepth 100000 in
theorem lifted (os : Os) (started : os.Started) (H : Type) (enc : TypeId × Value → H) (F : Stop.Interp) :
    ReturnsInHanded {} Tryd.checked os 4 .any ((OpenSpec.ofChange Rows.firstSpec).preRow enc Tryd.prog Tryd.f4 Rows.firstRow.domain false Rows.firstRow.laid) (((OpenSpec.ofChange Rows.firstSpec).at F).post enc Tryd.prog Tryd.f4 false true false false) := by
  obtain ⟨places, hx⟩ := reads os enc
  refine returnsInHanded_of_row (C := Tryd.checked) (s := OpenSpec.ofChange Rows.firstSpec) own started (by kernel_rfl) Tryd.func4
    (witness_row_at (enc := enc) (C := Tryd.checked) false (World.laidAll Tryd.prog os tables) #[.slice none 0 0, .slice none 0 0] (World.laidAll_os _ _ _) (by kernel_rfl) (by kernel_rfl) (by kernel_rfl)
      (OpenSpec.preRow_of_cond 8 hx (by kernel_rfl) (fun k hk => by cases hk) (by kernel_rfl) (tables_met os _))) ?_
  intro W base args ds gs before hval hW _ _ _ _ _ _
  exact contract H enc W base args ds gs before hval hW

theorem said : Rows.FirstSaid :=
  OpenClaim.holds_of_cond 4 Tryd.f4 rfl rfl rfl rfl rfl rfl rfl ⟨rfl, rfl, rfl, rfl, rfl⟩ rfl rfl rfl rfl rfl (by kernel_rfl) Tryd.func4 (by kernel_rfl)
    (of_decide_eq_true (by kernel_rfl)) (by unfold Func.isWrapper; first | (rw [if_pos (by decide +kernel)]; kernel_rfl) | (rw [if_neg (by decide +kernel)]; exact ⟨rfl, rfl⟩))
    (fun os started H enc _ F => by rw [OpenClaim.pre_eq_preRow]; exact lifted os started H enc F)

theorem plain (f : FuncId) (fn : Func) (hf : Tryd.pinned.checked.prog.funcNamed "turnpike/turnpikekeep.First" = some f) (hfn : Tryd.pinned.checked.prog.funcs[f]? = some fn) :
    false = Tryd.pinned.checked.prog.looks [] ∧ ∀ (j : Nat) t, fn.params[j]? = some t → Tryd.pinned.checked.prog.wantsStandIn t = false := by
  obtain rfl : f = 4 := Option.some.inj ((show Tryd.prog.funcNamed "turnpike/turnpikekeep.First" = some 4 by kernel_rfl).symm.trans hf) |>.symm
  obtain rfl : fn = Tryd.f4 := (Option.some.inj (Tryd.func4.symm.trans hfn)).symm
  refine ⟨by kernel_rfl, fun j t ht => ?_⟩
  rw [Tryd.params4] at ht
  have hm : t ∈ [39, 40] := by simpa using Array.mem_of_getElem? ht
  have hall : ([39, 40].all fun u => !Tryd.prog.wantsStandIn u) = true := by kernel_rfl
  exact (show Tryd.prog.wantsStandIn t = false by simpa using List.all_eq_true.1 hall t hm)

theorem card : Rows.FirstCardSaid :=
  Claim7.holds_tied_plain_at .later [] _ _ _ _ said (fun _ h => by cases h) (by kernel_rfl) (fun _ h => by cases h) first_row_tie rfl ⟨rfl, rfl⟩ (by kernel_rfl) rfl plain (by kernel_rfl)
end Go.Proofs.YtdmaffciijmdcaaDoor.FirstLaw
namespace Go.Proofs.YtdmaffciijmdcaaDoor
theorem first_holds : Rows.FirstCardSaid := FirstLaw.card
#print axioms first_holds
end Go.Proofs.YtdmaffciijmdcaaDoor

/-
  Whatever the texts and the questions, up to a bulk of 1048576 together, the law 'Policies' answers true at this commit, and its arguments read behind the call as they read before. Conditions: the bound on what comes in, and the row's own (two tables of the library hold what the program's text lays; the card ties them).
-/
import Derived.Test.YtdmaffciijmdcaaDoorRowTToLeaf
import Derived.Test.YtdmaffciijmdcaaDoorPol1ToPolW
import Derived.SliceStrings
namespace Go.Proofs.YtdmaffciijmdcaaDoor.PoliciesLaw
open Go.ChangeShapes Go.WideShapes Go.ChangeAt Go.RowKit Plain

theorem bulk_in {H : Type} {d : DataW H} : ∀ {l : List (DataW H)}, d ∈ l → Rows.uptoBulk d ≤ Rows.uptoBulkAll l
  | x :: l, h => by
    rw [Rows.uptoBulkAll]
    rcases List.mem_cons.1 h with rfl | h
    · omega
    · have := bulk_in h; omega
theorem bulk_pos {H : Type} (d : DataW H) : 1 ≤ Rows.uptoBulk d := by
  cases d with
  | lit x => cases x <;> simp [Rows.uptoBulk]
  | _ => simp [Rows.uptoBulk]
theorem bulk_many {H : Type} : ∀ (l : List (DataW H)), l.length ≤ Rows.uptoBulkAll l
  | [] => Nat.zero_le _
  | x :: l => by
    have := bulk_many l
    have := bulk_pos x
    rw [Rows.uptoBulkAll, List.length_cons]; omega
theorem bulk_slice {H : Type} (e r : List (DataW H)) : Rows.uptoBulkAll e + 1 ≤ Rows.uptoBulk (.slice e r) := by
  rw [Rows.uptoBulk]; omega
theorem ba_list (s : ByteArray) : (⟨s.data.toList.toArray⟩ : ByteArray) = s := by cases s; simp

theorem spot_of_string {w : World} {a : Addr} {s : ByteArray} (h : w.cell? a = some (.string s)) : a.spot = none := by
  unfold World.cell? at h
  split at h
  · split at h
    · cases h
    · rename_i hn; simpa using hn
  · cases h

/-- The texts that came in. -/
theorem texts_open {H : Type} {enc : TypeId × Value → H} {w : World} {v : Value} {d : DataW H} {ps : List MemPlace} (h : DataW.Trod enc Tryd.prog w 0 (fun _ => true) true 22 v d ps)
    (hk : Rows.uptoBulk d ≤ 1048576) (hv : ∃ a len cap, v = .slice a len cap) : ∃ l, TextsAt w v l := by
  obtain ⟨a0, len0, cap0, rfl⟩ := hv
  obtain ⟨fuel, hf⟩ := h
  have hf' : DataW.trod enc Tryd.prog w 0 (fun _ => true) true fuel 22 [.slice a0 len0 cap0] = some (d, ps) := hf
  rcases open_strings Tryd.underlying22 Tryd.underlying9 (by kernel_rfl) hf' with ⟨hcs, _⟩ | ⟨a, len, cap, ss, hcs, _, hl, _, hz, hx, hcell, _⟩
  · cases hcs
    exact ⟨[], none, 0, rfl, by decide, fun i s hi => by simp at hi⟩
  · cases hcs
    cases hx
    rw [if_pos rfl] at hz
    have h1 := bulk_slice (strs (H := H) (ss.take len0)) (strs (ss.drop len0))
    have h2 := bulk_many (strs (H := H) (ss.take len0))
    have hln : (ss.take len0).length = len0 := by rw [List.length_take]; omega
    have h3 : (strs (H := H) (ss.take len0)).length = len0 := by rw [strs, List.length_map, hln]
    refine ⟨(ss.take len0).map fun s => s.data.toList, some a, cap0, ?_, ?_, ?_⟩
    · rw [List.length_map, hln]
    · rw [List.length_map, hln]; omega
    · intro i s hi
      rw [List.getElem?_map] at hi
      obtain ⟨b, hb, rfl⟩ := Option.map_eq_some_iff.1 hi
      have hil : i < len0 := by have := (List.getElem?_eq_some_iff.1 hb).1; omega
      have hm : (DataW.lit (.string b.data.toList) : DataW H) ∈ strs (H := H) (ss.take len0) := List.mem_map.2 ⟨b, List.mem_of_getElem? hb, rfl⟩
      have h4 := bulk_in hm
      rw [Rows.uptoBulk] at h4
      rw [List.getElem?_take_of_lt hil] at hb
      have hc := hcell i (by omega)
      rw [List.getD_eq_getElem?_getD, hb] at hc
      have h0 := hcell 0 (by omega)
      have hsp : a.spot = none := spot_of_string h0
      refine ⟨by omega, a.block, a.off, ?_, ?_⟩
      · cases a; simp only at hsp; rw [hsp]
      · have := add_add hsp i 0
        rw [ba_list]
        rw [show (a.add i) = ⟨a.block, a.off + i, none⟩ from by simpa [Addr.add] using this] at hc
        exact hc

/-- One question, opened. -/
theorem quest_open {H : Type} {enc : TypeId × Value → H} {P : Program} {w : World} {fuel : Nat} {e : TypeId} {cs : List Value} {x : DataW H × List MemPlace} {fs : Array Field}
    (he : P.underlying e = some (.struct fs)) (hs : fs.size = 4) (hce : P.cellsOf e = 4)
    (f0 : ∃ f : Field, fs[0]? = some f ∧ P.underlying f.type = some .string ∧ P.cellsOf f.type = 1 ∧ f.offset = 0)
    (f1 : ∃ f : Field, fs[1]? = some f ∧ P.underlying f.type = some .string ∧ P.cellsOf f.type = 1 ∧ f.offset = 1)
    (f2 : ∃ f : Field, fs[2]? = some f ∧ P.underlying f.type = some (.int .i64) ∧ P.cellsOf f.type = 1 ∧ f.offset = 2)
    (f3 : ∃ f : Field, fs[3]? = some f ∧ P.underlying f.type = some (.int .i64) ∧ P.cellsOf f.type = 1 ∧ f.offset = 3)
    (h : DataW.trod enc P w 0 (fun _ => true) true fuel e cs = some x) :
    ∃ (s0 s1 : ByteArray) (z2 z3 : Int), cs = [.string s0, .string s1, .int .i64 z2, .int .i64 z3] ∧ s0.size ≤ Rows.uptoBulk x.1 ∧ s1.size ≤ Rows.uptoBulk x.1 := by
  obtain ⟨xs, n, _, rfl, hcl, hxl, hfld⟩ := DataW.trod_struct he h
  rw [hce] at hcl
  rw [hs] at hxl
  match cs, hcl with
  | [c0, c1, c2, c3], _ =>
    match xs, hxl with
    | [x0, x1, x2, x3], _ =>
      obtain ⟨f, a1, a2, a3, a4⟩ := f0
      have h0 := hfld 0 f a1
      rw [a3, a4] at h0
      obtain ⟨s0, e0, g0, _⟩ := DataW.trod_string a2 (show _ = some x0 from h0)
      obtain ⟨f, a1, a2, a3, a4⟩ := f1
      have h1 := hfld 1 f a1
      rw [a3, a4] at h1
      obtain ⟨s1, e1, g1, _⟩ := DataW.trod_string a2 (show _ = some x1 from h1)
      obtain ⟨f, a1, a2, a3, a4⟩ := f2
      have h2 := hfld 2 f a1
      rw [a3, a4] at h2
      obtain ⟨z2, e2, g2, _⟩ := DataW.trod_int a2 (show _ = some x2 from h2)
      obtain ⟨f, a1, a2, a3, a4⟩ := f3
      have h3 := hfld 3 f a1
      rw [a3, a4] at h3
      obtain ⟨z3, e3, g3, _⟩ := DataW.trod_int a2 (show _ = some x3 from h3)
      subst g0 g1 g2 g3
      cases (show [c0] = _ from e0)
      cases (show [c1] = _ from e1)
      cases (show [c2] = _ from e2)
      cases (show [c3] = _ from e3)
      have l0 : s0.data.toList.length = s0.size := by rw [Array.length_toList]; rfl
      have l1 : s1.data.toList.length = s1.size := by rw [Array.length_toList]; rfl
      refine ⟨s0, s1, z2, z3, rfl, ?_, ?_⟩
      · simp only [List.map_cons, List.map_nil, Rows.uptoBulk, Rows.uptoBulkAll]; omega
      · simp only [List.map_cons, List.map_nil, Rows.uptoBulk, Rows.uptoBulkAll]; omega

def cellStr (w : World) (b o : Nat) : List UInt8 := match w.cell? ⟨b, o, none⟩ with
  | some (.string s) => s.data.toList
  | _ => []
def questOf (w : World) (b o : Nat) : Quest := ⟨cellStr w b o, cellStr w b (o + 1), cellInt w b (o + 2), cellInt w b (o + 3)⟩

/-- The questions that came in. -/
theorem quests_open {H : Type} {enc : TypeId × Value → H} {w : World} {v : Value} {d : DataW H} {ps : List MemPlace} (h : DataW.Trod enc Tryd.prog w 0 (fun _ => true) true 23 v d ps)
    (hk : Rows.uptoBulk d ≤ 1048576) (hv : ∃ a len cap, v = .slice a len cap) : ∃ l, QuestsAt w v l := by
  obtain ⟨a0, len0, cap0, rfl⟩ := hv
  obtain ⟨fuel, hf⟩ := h
  have hf' : DataW.trod enc Tryd.prog w 0 (fun _ => true) true fuel 23 [.slice a0 len0 cap0] = some (d, ps) := hf
  rcases Go.Deep.open_slice Tryd.underlying23 hf' with ⟨hcs, _⟩ | ⟨a, len, cap, m, n, D, Pl, hcs, _, hl, hm, hmm, hx, hc⟩
  · cases hcs
    exact ⟨[], none, 0, rfl, by decide, fun i s hi => by simp at hi⟩
  · cases hcs
    cases hx
    rw [if_pos rfl] at hmm
    have hce : Tryd.prog.cellsOf 37 = 4 := by kernel_rfl
    have h1 := bulk_slice ((List.range len0).map D) ((List.range (m - len0)).map fun j => D (len0 + j))
    have h2 := bulk_many ((List.range len0).map D)
    rw [List.length_map, List.length_range] at h2
    have hq : ∀ i, i < len0 → ∃ (s0 s1 : ByteArray) (z2 z3 : Int), (w.cell? ((a.add (i * 4)).add 0) = some (.string s0) ∧ w.cell? ((a.add (i * 4)).add 1) = some (.string s1) ∧ w.cell? ((a.add (i * 4)).add 2) = some (.int .i64 z2) ∧ w.cell? ((a.add (i * 4)).add 3) = some (.int .i64 z3)) ∧ s0.size ≤ 1048576 ∧ s1.size ≤ 1048576 := by
      intro i hi
      obtain ⟨cs, g1, g2⟩ := hc i (by omega)
      rw [hce] at g1
      obtain ⟨_, hcl, hcc⟩ := World.cells?_some g1
      obtain ⟨s0, s1, z2, z3, rfl, b0, b1⟩ := quest_open Tryd.underlying37 rfl hce ⟨_, rfl, Tryd.underlying9, by kernel_rfl, rfl⟩ ⟨_, rfl, Tryd.underlying9, by kernel_rfl, rfl⟩ ⟨_, rfl, Tryd.underlying3, by kernel_rfl, rfl⟩ ⟨_, rfl, Tryd.underlying3, by kernel_rfl, rfl⟩ g2
      have hb := bulk_in (show D i ∈ (List.range len0).map D from List.mem_map.2 ⟨i, List.mem_range.2 hi, rfl⟩)
      simp only at b0 b1
      refine ⟨s0, s1, z2, z3, ⟨?_, ?_, ?_, ?_⟩, by omega, by omega⟩
      · rw [hcc 0 (by decide)]; rfl
      · rw [hcc 1 (by decide)]; rfl
      · rw [hcc 2 (by decide)]; rfl
      · rw [hcc 3 (by decide)]; rfl
    by_cases h0 : len0 = 0
    · subst h0
      exact ⟨[], some a, cap0, rfl, by decide, fun i s hi => by simp at hi⟩
    · have hsp : a.spot = none := by
        obtain ⟨s0, _, _, _, ⟨hz, _⟩, _⟩ := hq 0 (by omega)
        rw [Nat.zero_mul] at hz
        exact spot_of_string (show w.cell? a = some (.string s0) from hz)
      refine ⟨(List.range len0).map fun i => questOf w a.block (a.off + i * 4), some a, cap0, ?_, ?_, ?_⟩
      · rw [List.length_map, List.length_range]
      · rw [List.length_map, List.length_range]; omega
      · intro i q hi
        rw [List.getElem?_map] at hi
        obtain ⟨i', hi', rfl⟩ := Option.map_eq_some_iff.1 hi
        obtain ⟨hi2, rfl⟩ := List.getElem?_eq_some_iff.1 hi'
        rw [List.getElem_range]
        rw [List.length_range] at hi2
        obtain ⟨s0, s1, z2, z3, ⟨c0, c1, c2, c3⟩, b0, b1⟩ := hq i hi2
        rw [add_add hsp] at c0 c1 c2 c3
        rw [Nat.add_zero] at c0
        have l0 : s0.data.toList.length = s0.size := by rw [Array.length_toList]; rfl
        have l1 : s1.data.toList.length = s1.size := by rw [Array.length_toList]; rfl
        have hQ : questOf w a.block (a.off + i * 4) = ⟨s0.data.toList, s1.data.toList, z2, z3⟩ := by
          unfold questOf cellStr cellInt
          rw [c0, c1, c2, c3]
        rw [hQ]
        refine ⟨by show s0.data.toList.length ≤ _; omega, by show s1.data.toList.length ≤ _; omega, a.block, a.off, ?_, ?_⟩
        · cases a; simp only at hsp; rw [hsp]
        · refine ⟨?_, ?_, c2, c3⟩
          · rw [ba_list]; exact c0
          · rw [ba_list]; exact c1

set_option maxRecDepth 100000 in
theorem contract (H : Type) (enc : TypeId × Value → H) (W : World) (base : Nat) (args : Array Value) (ds gs : List (DataW H)) (before : List MemPlace)
    (hval : ∀ (j : Nat) t v, Tryd.f3.params[j]? = some t → args[j]? = some v → Value.okWide Tryd.prog W .any base t v)
    (hW : DataW.Whole enc Tryd.prog Tryd.f3.params.toList Rows.policiesSpec.vars false W args.toList ds gs before) (hk : Rows.uptoSmall H (ds ++ gs) = true) :
    Calls Tryd.prog 3 args W fun e W' => ∃ v, e = .returned v ∧ Rows.policiesSpec.post enc Tryd.prog Tryd.f3 false true false false W args v W' := by
  have hW' := hW
  obtain ⟨p, q, hA0, hV, rfl, _, _⟩ := hW
  have hA : DataW.TrodAll enc Tryd.prog W 0 (fun _ => true) true Tryd.f3.params.toList args.toList ds p := hA0
  rw [Tryd.params3] at hA hval
  obtain ⟨v0, v1, d0, d1, p0, p1, rfl, rfl, rfl, h0, h1⟩ := trodAll_two hA
  obtain ⟨rfl, rfl⟩ := trodVars_none hV
  clear hA0
  have hb : Rows.uptoBulkAll ([d0, d1] ++ ([] : List (DataW H))) ≤ 1048576 := of_decide_eq_true hk
  have hb0 : Rows.uptoBulk d0 ≤ 1048576 := Nat.le_trans (bulk_in (by simp)) hb
  have hb1 : Rows.uptoBulk d1 ≤ 1048576 := Nat.le_trans (bulk_in (by simp)) hb
  have hlt0 : ∀ x ∈ p0, x.block < W.heap.size := fun x hx => by simpa using hW'.lt x (by simp [hx])
  have hlt1 : ∀ x ∈ p1, x.block < W.heap.size := fun x hx => by simpa using hW'.lt x (by simp [hx])
  obtain ⟨l, hl⟩ := texts_open h0 hb0 (okWide_slice Tryd.underlying22 (hval 0 22 v0 rfl rfl))
  obtain ⟨qs, hqs⟩ := quests_open h1 hb1 (okWide_slice Tryd.underlying23 (hval 1 23 v1 rfl rfl))
  refine (policies_any v0 v1 l qs W hl hqs).mono ?_
  rintro e W' ⟨rfl, hbelow⟩
  refine ⟨_, rfl, _, _, _, [], p0 ++ p1, [], hW', ?_, ?_, rfl, hbelow.frame _, fun h => by cases h⟩
  · exact trodAll_mk1 (shut_bool Tryd.underlying4 true)
  · exact trodAll_mk2 (Below.trod laidOut (by kernel_rfl) (of_decide_eq_true (by kernel_rfl)) h0 hbelow hlt0) (Below.trod laidOut (by kernel_rfl) (of_decide_eq_true (by kernel_rfl)) h1 hbelow hlt1)

theorem reads (os : Os) {H : Type} (enc : TypeId × Value → H) : ∃ places, DataW.whole enc Tryd.prog ((World.laidAll Tryd.prog os tables).forCall (fun _ _ => 0) ⟨#[], #[.slice none 0 0, .slice none 0 0], []⟩).memory Tryd.f3.params.toList Rows.policiesSpec.vars false #[Value.slice none 0 0, .slice none 0 0].toList 8 = some ([.nil, .nil], [], places) :=
  ⟨[], by kernel_rfl⟩

set_option maxRecDepth 100000 in
theorem lifted (os : Os) (started : os.Started) (H : Type) (enc : TypeId × Value → H) (F : Stop.Interp) :
    ReturnsInHanded {} Tryd.checked os 3 .any ((Rows.OpenSpec.upto Rows.policiesSpec).preRow enc Tryd.prog Tryd.f3 Rows.policiesUptoRow.domain false Rows.policiesUptoRow.laid) (((Rows.OpenSpec.upto Rows.policiesSpec).at F).post enc Tryd.prog Tryd.f3 false true false false) := by
  obtain ⟨places, hx⟩ := reads os enc
  refine returnsInHanded_of_row (C := Tryd.checked) (s := Rows.OpenSpec.upto Rows.policiesSpec) own started (by kernel_rfl) Tryd.func3
    (witness_row_at (enc := enc) (C := Tryd.checked) false (World.laidAll Tryd.prog os tables) #[.slice none 0 0, .slice none 0 0] (World.laidAll_os _ _ _) (by kernel_rfl) (by kernel_rfl) (by kernel_rfl)
      (OpenSpec.preRow_of_cond 8 hx (by kernel_rfl) (fun k hk => by cases hk; kernel_rfl) (by kernel_rfl) (tables_met os _))) ?_
  intro W base args ds gs before hval hW _ hcond _ _ _ _
  exact contract H enc W base args ds gs before hval hW (hcond _ rfl)

theorem said : Rows.PoliciesUptoSaid :=
  OpenClaim.holds_of_cond 3 Tryd.f3 rfl rfl rfl rfl rfl rfl rfl ⟨rfl, rfl, rfl, rfl, rfl⟩ rfl rfl rfl rfl rfl (by kernel_rfl) Tryd.func3 (by kernel_rfl)
    (of_decide_eq_true (by kernel_rfl)) (by unfold Func.isWrapper; first | (rw [if_pos (by decide +kernel)]; kernel_rfl) | (rw [if_neg (by decide +kernel)]; exact ⟨rfl, rfl⟩))
    (fun os started H enc _ F => by rw [OpenClaim.pre_eq_preRow]; exact lifted os started H enc F)

theorem plain (f : FuncId) (fn : Func) (hf : Tryd.pinned.checked.prog.funcNamed "turnpike/turnpikelaw.Policies" = some f) (hfn : Tryd.pinned.checked.prog.funcs[f]? = some fn) :
    false = Tryd.pinned.checked.prog.looks [] ∧ ∀ (j : Nat) t, fn.params[j]? = some t → Tryd.pinned.checked.prog.wantsStandIn t = false := by
  obtain rfl : f = 3 := Option.some.inj ((show Tryd.prog.funcNamed "turnpike/turnpikelaw.Policies" = some 3 by kernel_rfl).symm.trans hf) |>.symm
  obtain rfl : fn = Tryd.f3 := (Option.some.inj (Tryd.func3.symm.trans hfn)).symm
  refine ⟨by kernel_rfl, fun j t ht => ?_⟩
  rw [Tryd.params3] at ht
  have hm : t ∈ [22, 23] := by simpa using Array.mem_of_getElem? ht
  have hall : ([22, 23].all fun u => !Tryd.prog.wantsStandIn u) = true := by kernel_rfl
  exact (show Tryd.prog.wantsStandIn t = false by simpa using List.all_eq_true.1 hall t hm)

theorem card : Rows.PoliciesUptoCardSaid :=
  Claim7.holds_tied_plain_at .later [] _ _ _ _ said (fun _ h => by cases h) (by kernel_rfl) (fun _ h => by cases h) policiesUpto_row_tie rfl ⟨rfl, rfl⟩ (by kernel_rfl) rfl plain (by kernel_rfl)
end Go.Proofs.YtdmaffciijmdcaaDoor.PoliciesLaw
namespace Go.Proofs.YtdmaffciijmdcaaDoor
theorem policies_holds : Rows.PoliciesUptoCardSaid := PoliciesLaw.card
#print axioms policies_holds
end Go.Proofs.YtdmaffciijmdcaaDoor

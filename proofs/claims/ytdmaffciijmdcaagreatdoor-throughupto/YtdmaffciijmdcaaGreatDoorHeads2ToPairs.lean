/-
  Package heads: a field, a target.
-/
import Derived.Test.YtdmaffciijmdcaaGreatDoorRowCToHeads1
import Derived.Test.YtdmaffciijmdcaaGreatDoorCaughtQToKeepS
namespace Go.Proofs.YtdmaffciijmdcaaGreatDoor
open Go.RowKit Plain

def FieldPost (l : List UInt8) (w : World) (e : Ending) (w' : World) : Prop :=
  Q w w' ∧ ((∃ n v, fieldS l = some (n, v) ∧ e = .returned (.agg #[str n, str v])) ∨ (fieldS l = none ∧ Dies e))

set_option maxRecDepth 100000 in
set_option maxHeartbeats 1600000 in
theorem readField_any (s : ByteArray) (w : World) (hs : s.size < 4294967281) :
    Calls Tryz.prog 172 #[.string s] w fun e w' => FieldPost s.data.toList w e w' := by
  cases hc : cutAt 58 s.data.toList with
  | none =>
    have HN : Hid (fieldS s.data.toList = none) := by
      show _ = _
      unfold fieldS; rw [hc]
    have HC := show Hid _ from hc
    clear hc
    go_enter Tryz.func172, Tryz.ntmps172
    go_wp2_with (first | (go_at_call 82; refine (cut_miss s 58 _ HC.out).mono ?_; rintro e w' ⟨rfl, rfl⟩) | (go_at_call 88; refine (must_no _ _).mono ?_; rintro e w' ⟨⟨u, x, rfl⟩, rfl⟩))
    exact ⟨rfl, (Q.refl _).alloc _, .inr ⟨HN.out, ⟨_, _, rfl⟩⟩⟩
  | some p =>
    obtain ⟨n, v⟩ := p
    obtain ⟨N, rfl⟩ : ∃ M : ByteArray, M.data.toList = n := ⟨⟨n.toArray⟩, rfl⟩
    obtain ⟨V, rfl⟩ : ∃ M : ByteArray, M.data.toList = v := ⟨⟨v.toArray⟩, rfl⟩
    have hl := cut_le hc
    rw [size_len, size_len, size_len] at hl
    obtain ⟨hl1, hl2⟩ := hl
    have hF : fieldS s.data.toList = if (!N.data.toList.isEmpty && allB ofName N.data.toList && allB ofValue V.data.toList) = true then some (lower N.data.toList, Lib.trimB V.data.toList 32) else none := by unfold fieldS; rw [hc]
    have HF := show Hid _ from hF
    have HC := fun x => show Hid _ from cut_hit s 58 _ _ x (by unfold maxLen; omega) hc
    clear hF hc
    have HA := fun x => show Hid _ from all_name N x (by unfold maxLen; omega)
    have HB := fun x => show Hid _ from all_value V x (by unfold maxLen; omega)
    have HL := fun x => show Hid _ from lower_any N x (by omega)
    have HT := fun x => show Hid _ from Tryz.strings_Trim_one V 32 (by decide) x (by omega)
    obtain ⟨b1, hb1⟩ : ∃ b, b = N.data.toList.isEmpty := ⟨_, rfl⟩
    obtain ⟨b2, hb2⟩ : ∃ b, b = allB ofName N.data.toList := ⟨_, rfl⟩
    obtain ⟨b3, hb3⟩ : ∃ b, b = allB ofValue V.data.toList := ⟨_, rfl⟩
    have e1 : N.toList.isEmpty = b1 := by rw [hb1, Lib.toList_data]
    have HE2 : Hid (allB ofName N.data.toList = b2) := hb2.symm
    have HE3 : Hid (allB ofValue V.data.toList = b3) := hb3.symm
    have HOK : Hid ((!N.data.toList.isEmpty && allB ofName N.data.toList && allB ofValue V.data.toList) = (!b1 && b2 && b3)) := by
      show _ = _
      rw [hb1, hb2, hb3]
    clear hb1 hb2 hb3
    go_enter Tryz.func172, Tryz.ntmps172
    go_wp2_with fail
    refine Calls.mono (Hid.out (HC _)) ?_
    rintro e w1 ⟨rfl, rfl⟩
    rw [str_data, str_data]
    cases b1
    case true =>
      go_wp2_with (first | (go_at_call_of 88 (Value.bool true); refine (must_yes _ _).mono ?_; rintro e w' ⟨rfl, rfl⟩) | (go_at_call_of 88 (Value.bool false); refine (must_no _ _).mono ?_; rintro e w' ⟨⟨u, x, rfl⟩, rfl⟩) | (go_at_call_of 123 (Value.string N); refine Calls.mono (Hid.out (HA _)) ?_; rintro e w' ⟨rfl, rfl⟩; rw [HE2.out]) | (go_at_call_of 123 (Value.string V); refine Calls.mono (Hid.out (HB _)) ?_; rintro e w' ⟨rfl, rfl⟩; rw [HE3.out]))
      exact ⟨rfl, ((Q.refl _).alloc _).drew, .inr ⟨by rw [HF.out, HOK.out]; simp, ⟨_, _, rfl⟩⟩⟩
    cases b2
    case false =>
      go_wp2_with (first | (go_at_call_of 88 (Value.bool true); refine (must_yes _ _).mono ?_; rintro e w' ⟨rfl, rfl⟩) | (go_at_call_of 88 (Value.bool false); refine (must_no _ _).mono ?_; rintro e w' ⟨⟨u, x, rfl⟩, rfl⟩) | (go_at_call_of 123 (Value.string N); refine Calls.mono (Hid.out (HA _)) ?_; rintro e w' ⟨rfl, rfl⟩; rw [HE2.out]) | (go_at_call_of 123 (Value.string V); refine Calls.mono (Hid.out (HB _)) ?_; rintro e w' ⟨rfl, rfl⟩; rw [HE3.out]))
      exact ⟨rfl, ((Q.refl _).alloc _).drew, .inr ⟨by rw [HF.out, HOK.out]; simp, ⟨_, _, rfl⟩⟩⟩
    cases b3
    case false =>
      go_wp2_with (first | (go_at_call_of 88 (Value.bool true); refine (must_yes _ _).mono ?_; rintro e w' ⟨rfl, rfl⟩) | (go_at_call_of 88 (Value.bool false); refine (must_no _ _).mono ?_; rintro e w' ⟨⟨u, x, rfl⟩, rfl⟩) | (go_at_call_of 123 (Value.string N); refine Calls.mono (Hid.out (HA _)) ?_; rintro e w' ⟨rfl, rfl⟩; rw [HE2.out]) | (go_at_call_of 123 (Value.string V); refine Calls.mono (Hid.out (HB _)) ?_; rintro e w' ⟨rfl, rfl⟩; rw [HE3.out]))
      exact ⟨rfl, ((Q.refl _).alloc _).drew, .inr ⟨by rw [HF.out, HOK.out]; simp, ⟨_, _, rfl⟩⟩⟩
    go_wp2_with (first | (go_at_call_of 88 (Value.bool true); refine (must_yes _ _).mono ?_; rintro e w' ⟨rfl, rfl⟩) | (go_at_call_of 88 (Value.bool false); refine (must_no _ _).mono ?_; rintro e w' ⟨⟨u, x, rfl⟩, rfl⟩) | (go_at_call_of 123 (Value.string N); refine Calls.mono (Hid.out (HA _)) ?_; rintro e w' ⟨rfl, rfl⟩; rw [HE2.out]) | (go_at_call_of 123 (Value.string V); refine Calls.mono (Hid.out (HB _)) ?_; rintro e w' ⟨rfl, rfl⟩; rw [HE3.out]))
    refine Calls.mono (Hid.out (HL _)) ?_
    rintro e w2 ⟨rfl, hq2⟩
    unfold str
    go_wp2_with fail
    refine Calls.mono (Hid.out (HT _)) ?_
    rintro e w3 ⟨rfl, hw3⟩
    have hq3 : Q w2 w3 := by rcases hw3 with rfl | rfl; exact Q.refl _; exact (Q.refl _).drew
    clear hw3
    have hq : Q (w.alloc (.cells #[.string ⟨#[]⟩, .string ⟨#[]⟩] 222)) w3 := (((Q.refl _).drew).trans hq2).trans hq3
    obtain ⟨hcl, hfr, hz⟩ := hq.made
    have hQ : Q w w3 := ((Q.refl w).alloc _).trans hq
    clear hq2 hq3 hq HC HA HB HL HT
    go_wp2_with fail
    refine bodyPost_ret (v := .agg #[str (lower N.data.toList), str (Lib.trimB V.data.toList 32)]) (by simp [results, Tryz.results172, go_sem, hcl, str]) rfl ⟨?_, .inl ⟨_, _, by rw [HF.out, HOK.out]; rfl, rfl⟩⟩
    iterate 2 refine Q.setCell ?_ (Nat.le_refl _) _
    exact hQ

def TargetPost (l : List UInt8) (w : World) (e : Ending) (w' : World) : Prop :=
  Q w w' ∧ ((∃ (h : List UInt8) (n : Nat), targetS l = some (h, n) ∧ e = .returned (.agg #[str h, .int .i64 (n : Int)])) ∨ (targetS l = none ∧ Dies e))

set_option maxRecDepth 100000 in
set_option maxHeartbeats 1600000 in
theorem readTarget_any (s : ByteArray) (w : World) (hs : s.size < 4294967281) :
    Calls Tryz.prog 133 #[.string s] w fun e w' => TargetPost s.data.toList w e w' := by
  cases hc : cutAt 58 s.data.toList with
  | none =>
    have HN : Hid (targetS s.data.toList = none) := by
      show _ = _
      unfold targetS; rw [hc]
    have HC := show Hid _ from hc
    clear hc
    go_enter Tryz.func133, Tryz.ntmps133
    go_wp2_with (first | (go_at_call 82; refine (cut_miss s 58 _ HC.out).mono ?_; rintro e w' ⟨rfl, rfl⟩) | (go_at_call 88; refine (must_no _ _).mono ?_; rintro e w' ⟨⟨u, x, rfl⟩, rfl⟩))
    exact ⟨rfl, (Q.refl _).alloc _, .inr ⟨HN.out, ⟨_, _, rfl⟩⟩⟩
  | some p =>
    obtain ⟨n, v⟩ := p
    obtain ⟨N, rfl⟩ : ∃ M : ByteArray, M.data.toList = n := ⟨⟨n.toArray⟩, rfl⟩
    obtain ⟨V, rfl⟩ : ∃ M : ByteArray, M.data.toList = v := ⟨⟨v.toArray⟩, rfl⟩
    have hl := cut_le hc
    rw [size_len, size_len, size_len] at hl
    obtain ⟨hl1, hl2⟩ := hl
    have HC := fun x => show Hid _ from cut_hit s 58 _ _ x (by unfold maxLen; omega) hc
    have HL := fun x => show Hid _ from lower_any N x (by omega)
    cases hr : readHost N.data.toList with
    | none =>
      have HN : Hid (targetS s.data.toList = none) := by
        show _ = _
        unfold targetS; rw [hc]; simp only [hr]
      have HR := fun x => show Hid _ from readHost_no N x (by omega) hr
      clear hc hr
      go_enter Tryz.func133, Tryz.ntmps133
      go_wp2_with fail
      refine Calls.mono (Hid.out (HC _)) ?_
      rintro e w1 ⟨rfl, rfl⟩
      rw [str_data, str_data]
      go_wp2_with (first | (go_at_call 88; refine (must_yes _ _).mono ?_; rintro e w' ⟨rfl, rfl⟩))
      refine Calls.mono (Hid.out (HR _)) ?_
      rintro e w2 ⟨⟨u, x, rfl⟩, hq2⟩
      exact ⟨rfl, ((Q.refl _).alloc _).drew.trans hq2, .inr ⟨HN.out, ⟨_, _, rfl⟩⟩⟩
    | some r =>
      obtain ⟨nm, a, b, c, d, hre, _, _, _, _, _⟩ := host_four hr
      have HR := fun x => show Hid _ from readHost_yes N x (by omega) nm a b c d (by rw [hr, hre])
      have HTg : Hid (targetS s.data.toList = match number V.data.toList 65535 with | none => none | some n => some (lower N.data.toList, n)) := by
        show _ = _
        unfold targetS; rw [hc]; simp only [hr]; rfl
      clear hc hr hre
      go_enter Tryz.func133, Tryz.ntmps133
      go_wp2_with fail
      refine Calls.mono (Hid.out (HC _)) ?_
      rintro e w1 ⟨rfl, rfl⟩
      rw [str_data, str_data]
      go_wp2_with (first | (go_at_call 88; refine (must_yes _ _).mono ?_; rintro e w' ⟨rfl, rfl⟩))
      refine Calls.mono (Hid.out (HR _)) ?_
      rintro e w2 ⟨rfl, hq2⟩
      unfold hostV
      go_wp2_with fail
      refine Calls.mono (Hid.out (HL _)) ?_
      rintro e w3 ⟨rfl, hq3⟩
      unfold str
      go_wp2_with fail
      have hq : Q (w.alloc (.cells #[.string ⟨#[]⟩, .int .i64 0] 165)) w3 := (((Q.refl _).drew).trans hq2).trans hq3
      obtain ⟨hcl, hfr, hz⟩ := hq.made
      have hQ : Q w w3 := ((Q.refl w).alloc _).trans hq
      clear hq2 hq3 hq
      cases hn : number V.data.toList 65535 with
      | none =>
        refine (port_no V _ (by unfold maxLen; omega) hn).mono ?_
        rintro e w4 ⟨⟨u, x, rfl⟩, rfl⟩
        exact ⟨rfl, hQ, .inr ⟨by rw [HTg.out, hn], ⟨_, _, rfl⟩⟩⟩
      | some n =>
        refine (port_yes V _ (by unfold maxLen; omega) n hn).mono ?_
        rintro e w4 ⟨rfl, rfl⟩
        have HN := show Hid _ from hn
        clear hn HC HL HR
        go_wp2_with fail
        refine bodyPost_ret (v := .agg #[str (lower N.data.toList), .int .i64 (n : Int)]) (by simp [results, Tryz.results133, go_sem, hcl, str]) rfl ⟨?_, .inl ⟨_, _, by rw [HTg.out, HN.out], rfl⟩⟩
        iterate 2 refine Q.setCell ?_ (Nat.le_refl _) _
        exact hQ
end Go.Proofs.YtdmaffciijmdcaaGreatDoor
/-
  Rows of pairs of texts in memory (a head's fields, tenants), and the split at CR LF.
-/
namespace Go.Proofs.YtdmaffciijmdcaaGreatDoor
namespace Plain
def aheadF (fs : List (List UInt8 × List UInt8)) : Option (List (List UInt8 × List UInt8)) → Option (List (List UInt8 × List UInt8))
  | none => none
  | some l => some (fs ++ l)
theorem aheadF_nil (o : Option (List (List UInt8 × List UInt8))) : aheadF [] o = o := by cases o <;> rfl
theorem aheadF_step {l : List UInt8} {ls : List (List UInt8)} {f : List UInt8 × List UInt8} (fs : List (List UInt8 × List UInt8)) (h : fieldS l = some f) : aheadF fs (fieldsS (l :: ls)) = aheadF (fs ++ [f]) (fieldsS ls) := by
  rw [fieldsS, h]
  cases fieldsS ls with
  | none => rfl
  | some r => simp [aheadF]
theorem aheadF_bad {l : List UInt8} {ls : List (List UInt8)} (fs : List (List UInt8 × List UInt8)) (h : fieldS l = none) : aheadF fs (fieldsS (l :: ls)) = none := by
  rw [fieldsS, h]; rfl
theorem drop_consL {α : Type} {ls : List α} {k : Nat} {r : α} (h : ls[k]? = some r) : ls.drop k = r :: ls.drop (k + 1) := by
  obtain ⟨hk, rfl⟩ := List.getElem?_eq_some_iff.1 h
  rw [List.getElem_cons_drop]
end Plain
open Go.RowKit Plain

/-- The library's own variable holds some number. -/
def ML (w : World) : Prop := ∃ m, w.cell? ⟨0, 0, none⟩ = some (.int .i64 m)
theorem ML.stays {w w' : World} (h : ML w) (q : Q w w') : ML w' := by
  obtain ⟨m, hm⟩ := h
  exact ⟨m, q.cell hm⟩

def pairVals (fs : List (List UInt8 × List UInt8)) : List Value := fs.flatMap fun f => [str f.1, str f.2]
theorem pairVals_snoc (fs : List (List UInt8 × List UInt8)) (f : List UInt8 × List UInt8) : pairVals (fs ++ [f]) = pairVals fs ++ [str f.1, str f.2] := by simp [pairVals]
theorem pairVals_get : ∀ (fs : List (List UInt8 × List UInt8)) (i : Nat) (f : List UInt8 × List UInt8), fs[i]? = some f → (pairVals fs)[i * 2]? = some (str f.1) ∧ (pairVals fs)[i * 2 + 1]? = some (str f.2)
  | [], i, f, h => by simp at h
  | g :: fs, 0, f, h => by
    cases h
    exact ⟨rfl, rfl⟩
  | g :: fs, i + 1, f, h => by
    have ih := pairVals_get fs i f (by simpa using h)
    have e : pairVals (g :: fs) = str g.1 :: str g.2 :: pairVals fs := rfl
    rw [e, show (i + 1) * 2 = i * 2 + 1 + 1 by omega]
    exact ih

/-- Pairs of texts in a row, in blocks of S. -/
def PairsAt (S : Nat → Prop) (w : World) (v : Value) (l : List (List UInt8 × List UInt8)) : Prop :=
  ∃ a cap, v = .slice a l.length cap ∧ ∀ i f, l[i]? = some f → ∃ g, S g ∧ a = some ⟨g, 0, none⟩ ∧ w.cell? ⟨g, i * 2, none⟩ = some (str f.1) ∧ w.cell? ⟨g, i * 2 + 1, none⟩ = some (str f.2)
theorem PairsAt.keeps {S S' : Nat → Prop} {w w' : World} {v : Value} {l : List (List UInt8 × List UInt8)} (h : PairsAt S w v l) (k : Keeps S S' w w') : PairsAt S' w' v l := by
  obtain ⟨a, cap, hv, h⟩ := h
  refine ⟨a, cap, hv, fun i f hi => ?_⟩
  obtain ⟨g, hg, ha, h1, h2⟩ := h i f hi
  exact ⟨g, (k g hg).1, ha, by rw [(k g hg).2]; exact h1, by rw [(k g hg).2]; exact h2⟩
theorem PairsAt.own {w : World} {B : Nat} {e : TypeId} {v : Value} {l : List (List UInt8 × List UInt8)} (h : w.ownsRow B e 2 v l.length (pairVals l)) : PairsAt (fun g => v.ownBlock = some g) w v l := by
  rcases h.2 with ⟨hv, hn⟩ | ⟨g, cap, cur, hv, hb, hg, h4, h5, h6, h7⟩
  · refine ⟨none, 0, by rw [hv, hn], fun i f hi => ?_⟩
    have := List.eq_nil_of_length_eq_zero hn
    subst this
    simp at hi
  · refine ⟨_, cap, hv, fun i f hi => ⟨g, by rw [hv]; rfl, rfl, ?_⟩⟩
    obtain ⟨h1, h2⟩ := pairVals_get l i f hi
    have C : ∀ j u, (pairVals l)[j]? = some u → w.cell? ⟨g, j, none⟩ = some u := fun j u hj => by
      rw [cell_of_row w g j cur e (0, 0) hg]
      rw [← h7, List.getElem?_take] at hj
      split at hj
      · simpa using hj
      · cases hj
    exact ⟨C _ _ h1, C _ _ h2⟩

theorem splitB_list (sep : ByteArray) (k : Nat) (s : ByteArray) : (Lib.splitB sep 0 k s).map Value.string = (Lib.splitK sep.data.toList 0 k s.data.toList).map str := by
  have h := Lib.splitB_data sep 0 k s
  rw [← h, List.map_map]
  rfl

/-- strings.Split at CR LF. -/
theorem split_crlf (s : ByteArray) (w : World) (hs : s.size < 4294967281) (hm : ML w) :
    Calls Tryz.prog 116 #[.string s, .string ⟨#[13, 10]⟩] w fun e w' => ∃ cs : Array Value,
      e = .returned (.slice (some ⟨w.heap.size, 0, none⟩) (Lib.split s.data.toList [13, 10]).length (Lib.split s.data.toList [13, 10]).length) ∧ w' = w.alloc (.cells cs 9) ∧
      ∀ i, i < (Lib.split s.data.toList [13, 10]).length → cs[i]? = some (str (nth (Lib.split s.data.toList [13, 10]) i)) := by
  obtain ⟨m, hm⟩ := hm
  refine (Tryz.strings_Split s ⟨#[13, 10]⟩ m w hs hm (by decide)).mono ?_
  rintro e w' ⟨he, hw⟩
  have h1 := splitB_list ⟨#[13, 10]⟩ (Lib.countB s ⟨#[13, 10]⟩) s
  have h2 : Lib.splitK [13, 10] 0 (Lib.countB s ⟨#[13, 10]⟩) s.data.toList = Lib.split s.data.toList [13, 10] := rfl
  have h1' : (Lib.splitB ⟨#[13, 10]⟩ 0 (Lib.countB s ⟨#[13, 10]⟩) s).map Value.string = (Lib.split s.data.toList [13, 10]).map str := h1.trans (by rw [← h2])
  have h3 := Lib.splitB_all ⟨#[13, 10]⟩ (by decide) 0 _ s rfl
  have h4 : (Lib.split s.data.toList [13, 10]).length = Lib.countB s ⟨#[13, 10]⟩ + 1 := by
    rw [← h3]
    have := congrArg List.length h1'
    simpa using this.symm
  refine ⟨_, by rw [h4]; exact he, hw, fun i hi => ?_⟩
  rw [h1', List.getElem?_toArray, List.getElem?_map, List.getElem?_eq_getElem hi]
  unfold nth
  rw [List.getD_eq_getElem?_getD, List.getElem?_eq_getElem hi]
  rfl
end Go.Proofs.YtdmaffciijmdcaaGreatDoor

/-
  What the rows share: a slice of structs of integers, opened.
-/
import Derived.Test.YtdmaffciijmdcaaGreatDoorRowTToLeaf
import Derived.Test.YtdmaffciijmdcaaGreatDoorTextToRulesT
import Derived.Test.YtdmaffciijmdcaaGreatDoorCutsToSpec
import Derived.Lib.TrimByte
import Derived.Test.YtdmaffciijmdcaaGreatDoorFirstToFields
namespace Go.Proofs.YtdmaffciijmdcaaGreatDoor
open Go.ChangeShapes Go.WideShapes Go.ChangeAt Go.RowKit Plain

/-- A slice of structs of k integers each, opened. -/
theorem open_rows {H : Type} {enc : TypeId × Value → H} {P : Program} {w : World} {fuel : Nat} {t e : TypeId} {k : Nat} {v : Value} {x : DataW H × List MemPlace} (fs : Array Field)
    (ht : P.underlying t = some (.slice e)) (he : P.underlying e = some (.struct fs)) (hs : fs.size = k) (hce : P.cellsOf e = k) (hk : 0 < k)
    (hf : ∀ j, j < k → ∃ f : Field, fs[j]? = some f ∧ P.underlying f.type = some (.int .i64) ∧ P.cellsOf f.type = 1 ∧ f.offset = j)
    (h : DataW.trod enc P w 0 (fun _ => true) true fuel t [v] = some x) :
    v = .slice none 0 0 ∨ ∃ a len cap, v = .slice (some a) len cap ∧ len ≤ maxLen ∧ ∀ i, i < len → a.spot = none ∧ ∀ j, j < k →
      w.cell? ⟨a.block, a.off + i * k + j, none⟩ = some (.int .i64 (cellInt w a.block (a.off + i * k + j))) ∧ I64 (cellInt w a.block (a.off + i * k + j)) := by
  rcases Go.Deep.open_slice ht h with ⟨hcs, _⟩ | ⟨a, len, cap, m, n, D, Pl, hcs, _, hl, hm, hmm, _, hx⟩
  · exact .inl (List.singleton_inj.1 hcs)
  · refine .inr ⟨a, len, cap, List.singleton_inj.1 hcs, by omega, ?_⟩
    have hlm : len ≤ m := by rw [hmm, if_pos rfl]; exact hl
    have hcell : ∀ i, i < len → ∀ j, j < k → ∃ z, w.cell? ((a.add (i * k)).add j) = some (.int .i64 z) ∧ I64 z := by
      intro i hi j hj
      obtain ⟨cs, h1, h2⟩ := hx i (by omega)
      rw [hce] at h1
      obtain ⟨_, hcl, hc⟩ := World.cells?_some h1
      obtain ⟨xs, n', _, _, _, hxl, hfld⟩ := DataW.trod_struct he h2
      obtain ⟨f, hf1, hf2, hf3, hf4⟩ := hf j hj
      have h3 := hfld j f hf1
      rw [hf3, hf4, List.getElem?_eq_getElem (by rw [hxl, hs]; exact hj)] at h3
      obtain ⟨z, e1, _, hw⟩ := DataW.trod_int hf2 h3
      refine ⟨z, ?_, bounds_i64 hw⟩
      rw [hc j hj]
      have h0 : ((cs.drop j).take 1)[0]? = some (.int .i64 z) := by rw [e1]; rfl
      simpa using h0
    intro i hi
    have hsp : a.spot = none := by
      obtain ⟨z, hz, _⟩ := hcell 0 (by omega) 0 hk
      rw [Nat.zero_mul] at hz
      have : w.cell? a = some (.int .i64 z) := hz
      unfold World.cell? at this
      split at this
      · split at this
        · cases this
        · rename_i hn; simpa using hn
      · cases this
    refine ⟨hsp, fun j hj => ?_⟩
    obtain ⟨z, hz, hz2⟩ := hcell i hi j hj
    rw [add_add hsp] at hz
    have : cellInt w a.block (a.off + i * k + j) = z := by unfold cellInt; rw [hz]
    rw [this]
    exact ⟨hz, hz2⟩

def rawOf (w : World) (b o : Nat) : RawR := ⟨cellInt w b o, cellInt w b (o + 1), cellInt w b (o + 2), cellInt w b (o + 3), cellInt w b (o + 4), cellInt w b (o + 5), cellInt w b (o + 6), cellInt w b (o + 7)⟩

/-- The rules that came in. -/
theorem raws_open {H : Type} {enc : TypeId × Value → H} {w : World} {v : Value} {d : DataW H} {ps : List MemPlace} (h : DataW.Trod enc Tryz.prog w 0 (fun _ => true) true 25 v d ps)
    (hv : ∃ a len cap, v = .slice a len cap) : ∃ l, RawsAt w v l := by
  obtain ⟨a0, len0, cap0, rfl⟩ := hv
  obtain ⟨fuel, hf⟩ := h
  have hf' : DataW.trod enc Tryz.prog w 0 (fun _ => true) true fuel 25 [.slice a0 len0 cap0] = some (d, ps) := hf
  rcases open_rows (k := 8) _ Tryz.underlying25 Tryz.underlying94 rfl (by kernel_rfl) (by decide)
    (fun j hj => by
      match j, hj with
      | 0, _ => exact ⟨_, rfl, Tryz.underlying3, by kernel_rfl, rfl⟩
      | 1, _ => exact ⟨_, rfl, Tryz.underlying3, by kernel_rfl, rfl⟩
      | 2, _ => exact ⟨_, rfl, Tryz.underlying3, by kernel_rfl, rfl⟩
      | 3, _ => exact ⟨_, rfl, Tryz.underlying3, by kernel_rfl, rfl⟩
      | 4, _ => exact ⟨_, rfl, Tryz.underlying3, by kernel_rfl, rfl⟩
      | 5, _ => exact ⟨_, rfl, Tryz.underlying3, by kernel_rfl, rfl⟩
      | 6, _ => exact ⟨_, rfl, Tryz.underlying3, by kernel_rfl, rfl⟩
      | 7, _ => exact ⟨_, rfl, Tryz.underlying3, by kernel_rfl, rfl⟩) hf' with hn | ⟨a, len, cap, hs, hmax, hc⟩
  · cases hn
    exact ⟨[], .inl ⟨rfl, _, _, rfl⟩⟩
  · cases hs
    by_cases h0 : len0 = 0
    · subst h0
      exact ⟨[], .inl ⟨rfl, _, _, rfl⟩⟩
    · have hsp := (hc 0 (by omega)).1
      refine ⟨(List.range len0).map fun i => rawOf w a.block (a.off + i * 8), .inr ⟨a.block, a.off, cap0, ?_, ?_, ?_⟩⟩
      · rw [List.length_map, List.length_range, ← hsp]
      · rw [List.length_map, List.length_range]; unfold maxLen at hmax; omega
      · intro i r hr
        rw [List.getElem?_map] at hr
        obtain ⟨i', hi', rfl⟩ := Option.map_eq_some_iff.1 hr
        obtain ⟨hi, rfl⟩ := List.getElem?_eq_some_iff.1 hi'
        rw [List.getElem_range]
        rw [List.length_range] at hi
        have hh := (hc i hi).2
        have c0 := hh 0 (by decide)
        have c1 := hh 1 (by decide)
        have c2 := hh 2 (by decide)
        have c3 := hh 3 (by decide)
        have c4 := hh 4 (by decide)
        have c5 := hh 5 (by decide)
        have c6 := hh 6 (by decide)
        have c7 := hh 7 (by decide)
        exact ⟨⟨c0.1, c1.1, c2.1, c3.1, c4.1, c5.1, c6.1, c7.1⟩, ⟨c0.2, c1.2, c2.2, c3.2, c4.2, c5.2, c6.2, c7.2⟩⟩
end Go.Proofs.YtdmaffciijmdcaaGreatDoor
/-
  Plain functions on lists of bytes: heads, their fields, their targets; users and their credentials.
-/
namespace Go.Proofs.YtdmaffciijmdcaaGreatDoor.Plain

def ofName (c : UInt8) : Bool := small c || great c || fig c || ((c.toNat : Int) == 45)
def ofValue (c : UInt8) : Bool := ((c.toNat : Int) == 32) || seenB c
def endB : List UInt8 := [13, 10, 13, 10]
def http11 : List UInt8 := [72, 84, 84, 80, 47, 49, 46, 49]
def http10 : List UInt8 := [72, 84, 84, 80, 47, 49, 46, 48]

/-- The head that bytes begin with, and what stands behind it; none: there are too few bytes yet. -/
def cutHead (l : List UInt8) : Option (List UInt8 × List UInt8) :=
  if 0 ≤ Lib.index (l.take 1000) endB then some (l.take ((Lib.index (l.take 1000) endB).toNat + 4), l.drop ((Lib.index (l.take 1000) endB).toNat + 4))
  else if l.length < 1000 then none else some (l.take 1000, [])

/-- A head's first line: its method and its target. -/
def firstOk (m t v : List UInt8) : Bool := (!m.isEmpty && allB great m) && (!t.isEmpty && allB seenB t) && (v == http11 || v == http10)
def firstS (l : List UInt8) : Option (List UInt8 × List UInt8) := match parts 32 l with
  | [m, t, v] => if firstOk m t v = true then some (m, t) else none
  | _ => none
/-- A field: its name in small letters, and its value. -/
def fieldS (l : List UInt8) : Option (List UInt8 × List UInt8) := match cutAt 58 l with
  | none => none
  | some (n, v) => if (!n.isEmpty && allB ofName n && allB ofValue v) = true then some (lower n, Lib.trimB v 32) else none
def fieldsS : List (List UInt8) → Option (List (List UInt8 × List UInt8))
  | [] => some []
  | l :: ls => match fieldS l with
    | none => none
    | some f => match fieldsS ls with
      | none => none
      | some fs => some (f :: fs)

structure HeadS where
  method : List UInt8
  target : List UInt8
  fields : List (List UInt8 × List UInt8)

def headLines (l : List UInt8) : List (List UInt8) := Lib.split (Lib.trimSuffix l endB) [13, 10]
/-- A head that is right. -/
def readHead (l : List UInt8) : Option HeadS := if Lib.hasSuffix l endB = true then match headLines l with
    | [] => none
    | x :: xs => match firstS x with
      | none => none
      | some (m, t) => match fieldsS xs with
        | none => none
        | some fs => some ⟨m, t, fs⟩
  else none
/-- The value of the one field of that name. -/
def onlyS (fs : List (List UInt8 × List UInt8)) (n : List UInt8) : Option (List UInt8) := match fs.filter (fun f => f.1 == n) with
  | [f] => some f.2
  | _ => none
/-- A host (in small letters), and a port. -/
def targetS (l : List UInt8) : Option (List UInt8 × Nat) := match cutAt 58 l with
  | none => none
  | some (h, p) => match readHost h with
    | none => none
    | some _ => match number p 65535 with
      | none => none
      | some n => some (lower h, n)

def letters : List UInt8 := [65, 66, 67, 68, 69, 70, 71, 72, 73, 74, 75, 76, 77, 78, 79, 80, 81, 82, 83, 84, 85, 86, 87, 88, 89, 90, 97, 98, 99, 100, 101, 102, 103, 104, 105, 106, 107, 108, 109, 110, 111, 112, 113, 114, 115, 116, 117, 118, 119, 120, 121, 122, 48, 49, 50, 51, 52, 53, 54, 55, 56, 57, 43, 47]
def six (n : Nat) : UInt8 := letters.getD (n % 64) 0
/-- The number that three bytes are. -/
def bits3 (a b c : UInt8) : Nat := a.toNat * 65536 + b.toNat * 256 + c.toNat
def b64 : List UInt8 → List UInt8
  | [] => []
  | [a] => [six (bits3 a 0 0 / 262144), six (bits3 a 0 0 / 4096), 61, 61]
  | [a, b] => [six (bits3 a b 0 / 262144), six (bits3 a b 0 / 4096), six (bits3 a b 0 / 64), 61]
  | a :: b :: c :: l => six (bits3 a b c / 262144) :: six (bits3 a b c / 4096) :: six (bits3 a b c / 64) :: six (bits3 a b c) :: b64 l

def secretOk (s : List UInt8) : Bool := decide (1 ≤ s.length ∧ s.length ≤ 12) && allB seenB s
def basic : List UInt8 := [66, 97, 115, 105, 99, 32]
def credS (n s : List UInt8) : List UInt8 := basic ++ b64 (n ++ [58] ++ s)
/-- A user that may be: its tenant and its credentials. -/
def userS (n s : List UInt8) : Option (List UInt8 × List UInt8) := if tenantOk n = true ∧ secretOk s = true then some (n, credS n s) else none
/-- One user more. -/
def withS (l : List (List UInt8 × List UInt8)) (n s : List UInt8) : Option (List (List UInt8 × List UInt8)) := match userS n s with
  | none => none
  | some t => if l.all (fun o => o.1 != t.1) = true then some (l ++ [t]) else none
/-- Whose credentials these are. -/
def byS (l : List (List UInt8 × List UInt8)) (c : List UInt8) : Option (List UInt8) := match l.find? (fun t => t.2 == c) with
  | none => none
  | some t => some t.1
end Go.Proofs.YtdmaffciijmdcaaGreatDoor.Plain
/-
  Package heads: which bytes are of a name and of a value; the first line, a field.
-/
namespace Go.Proofs.YtdmaffciijmdcaaGreatDoor
open Go.RowKit Plain

set_option maxHeartbeats 400000 in
theorem isOfName_any (c : UInt8) (w : World) :
    Calls Tryz.prog 208 #[.int .u8 (c.toNat : Int)] w fun e w' => e = .returned (.bool (ofName c)) ∧ w' = w := by
  unfold ofName
  cases h1 : small c <;> cases h4 : great c <;> cases h2 : fig c <;> cases h3 : ((c.toNat : Int) == 45)
  all_goals
    go_enter Tryz.func208, Tryz.ntmps208
    go_wp2_with (first | (go_at_call 162; refine (isSmall_any c _).mono ?_; rintro e w' ⟨rfl, rfl⟩; rw [h1]) | (go_at_call 207; refine (isGreat_any c _).mono ?_; rintro e w' ⟨rfl, rfl⟩; rw [h4]) | (go_at_call 203; refine (isFigure_any c _).mono ?_; rintro e w' ⟨rfl, rfl⟩; rw [h2]))
    go_ret
    exact ⟨by simp, rfl⟩

set_option maxHeartbeats 400000 in
theorem isOfValue_any (c : UInt8) (w : World) :
    Calls Tryz.prog 209 #[.int .u8 (c.toNat : Int)] w fun e w' => e = .returned (.bool (ofValue c)) ∧ w' = w := by
  unfold ofValue
  cases h1 : seenB c <;> cases h3 : ((c.toNat : Int) == 32)
  all_goals
    go_enter Tryz.func209, Tryz.ntmps209
    go_wp2_with (first | (go_at_call 124; refine (isSeen_any c _).mono ?_; rintro e w' ⟨rfl, rfl⟩; rw [h1]))
    go_ret
    exact ⟨by simp, rfl⟩

set_option maxHeartbeats 400000 in
theorem all_name (s : ByteArray) (w : World) (hs : s.size ≤ maxLen) :
    Calls Tryz.prog 123 #[.string s, .func (.func 208) #[] #[]] w fun e w' => e = .returned (.bool (allB ofName s.data.toList)) ∧ w' = w := by
  unfold maxLen at hs
  go_enter Tryz.func123, Tryz.ntmps123
  go_wp2
  go_loop [8, 5] (fun i _ => ∃ k : Nat, k ≤ s.size ∧ i = .int .i64 k ∧ Hid (allB ofName (s.data.toList.take k) = true)) (fun i _ => s.size - (intOf i).toNat)
  case atStart => exact ⟨0, Nat.zero_le _, rfl, rfl⟩
  case round =>
    obtain ⟨k, hk, rfl, hall⟩ := hrel
    by_cases hlt : k < s.size
    · cases hb : ofName s[k]
      · have hfin := (all_stop (p := ofName) s k hlt hb)
        go_wp2_with (go_at_call 208; refine (isOfName_any _ _).mono ?_; rintro e w' ⟨rfl, rfl⟩; rw [hb])
        go_ret
        exact ⟨ret_bool hfin.symm, rfl⟩
      · go_wp2_with (go_at_call 208; refine (isOfName_any _ _).mono ?_; rintro e w' ⟨rfl, rfl⟩; rw [hb])
        exact ⟨⟨k + 1, by omega, by go_num, all_step s k hlt hall hb⟩, by simp [intOf]; omega⟩
    · go_wp2
      go_ret
      exact ⟨ret_bool (all_full s k (by omega) hall).symm, rfl⟩

set_option maxHeartbeats 400000 in
theorem all_value (s : ByteArray) (w : World) (hs : s.size ≤ maxLen) :
    Calls Tryz.prog 123 #[.string s, .func (.func 209) #[] #[]] w fun e w' => e = .returned (.bool (allB ofValue s.data.toList)) ∧ w' = w := by
  unfold maxLen at hs
  go_enter Tryz.func123, Tryz.ntmps123
  go_wp2
  go_loop [8, 5] (fun i _ => ∃ k : Nat, k ≤ s.size ∧ i = .int .i64 k ∧ Hid (allB ofValue (s.data.toList.take k) = true)) (fun i _ => s.size - (intOf i).toNat)
  case atStart => exact ⟨0, Nat.zero_le _, rfl, rfl⟩
  case round =>
    obtain ⟨k, hk, rfl, hall⟩ := hrel
    by_cases hlt : k < s.size
    · cases hb : ofValue s[k]
      · have hfin := (all_stop (p := ofValue) s k hlt hb)
        go_wp2_with (go_at_call 209; refine (isOfValue_any _ _).mono ?_; rintro e w' ⟨rfl, rfl⟩; rw [hb])
        go_ret
        exact ⟨ret_bool hfin.symm, rfl⟩
      · go_wp2_with (go_at_call 209; refine (isOfValue_any _ _).mono ?_; rintro e w' ⟨rfl, rfl⟩; rw [hb])
        exact ⟨⟨k + 1, by omega, by go_num, all_step s k hlt hall hb⟩, by simp [intOf]; omega⟩
    · go_wp2
      go_ret
      exact ⟨ret_bool (all_full s k (by omega) hall).symm, rfl⟩


theorem eq_list (s : ByteArray) (l : List UInt8) : (s.toList == l) = (s.data.toList == l) := by rw [Lib.toList_data]

/-- A method and a target, no fields. -/
def headV (m t : List UInt8) (fs : Value) : Value := .agg #[str m, str t, fs]

theorem first_cases (l : List UInt8) : (∃ m t v, parts 32 l = [m, t, v]) ∨ ((parts 32 l).length ≠ 3 ∧ firstS l = none) := by
  unfold firstS
  rcases h : parts 32 l with _ | ⟨a, _ | ⟨b, _ | ⟨c, _ | ⟨d, r⟩⟩⟩⟩
  · exact .inr ⟨by simp, rfl⟩
  · exact .inr ⟨by simp, rfl⟩
  · exact .inr ⟨by simp, rfl⟩
  · exact .inl ⟨a, b, c, rfl⟩
  · exact .inr ⟨by simp, rfl⟩

def FirstPost (l : List UInt8) (w : World) (e : Ending) (w' : World) : Prop :=
  Q w w' ∧ ((∃ m t, firstS l = some (m, t) ∧ e = .returned (headV m t (.slice none 0 0))) ∨ (firstS l = none ∧ Dies e))

theorem isEmpty_ba (l : List UInt8) : (⟨l.toArray⟩ : ByteArray).toList.isEmpty = l.isEmpty := by rw [Lib.toList_data]
theorem part_len {c : UInt8} {l p : List UInt8} (h : p ∈ parts c l) : p.length ≤ l.length := parts_le c l p h

set_option maxRecDepth 100000 in
set_option maxHeartbeats 1600000 in
theorem readFirst_any (s : ByteArray) (w : World) (hs : s.size < 4294967281) :
    Calls Tryz.prog 171 #[.string s] w fun e w' => FirstPost s.data.toList w e w' := by
  rcases first_cases s.data.toList with ⟨m, t, v, hp⟩ | ⟨hlen, hnone⟩
  · obtain ⟨M, rfl⟩ : ∃ M : ByteArray, M.data.toList = m := ⟨⟨m.toArray⟩, rfl⟩
    obtain ⟨T, rfl⟩ : ∃ M : ByteArray, M.data.toList = t := ⟨⟨t.toArray⟩, rfl⟩
    obtain ⟨V, rfl⟩ : ∃ M : ByteArray, M.data.toList = v := ⟨⟨v.toArray⟩, rfl⟩
    have hF : firstS s.data.toList = if firstOk M.data.toList T.data.toList V.data.toList = true then some (M.data.toList, T.data.toList) else none := by unfold firstS; rw [hp]
    have hm : M.size ≤ s.size := by rw [← size_len s, ← size_len M]; exact part_len (c := 32) (by rw [hp]; simp)
    have ht : T.size ≤ s.size := by rw [← size_len s, ← size_len T]; exact part_len (c := 32) (by rw [hp]; simp)
    have HF := show Hid _ from hF
    clear hF
    have hSp := fun x => split_one s 32 x hs
    rw [hp] at hSp
    have HSp := fun x => show Hid _ from hSp x
    clear hSp hp
    have HG := fun x => show Hid _ from all_great M x (by unfold maxLen; omega)
    have HS := fun x => show Hid _ from all_seen T x (by unfold maxLen; omega)
    obtain ⟨b1, hb1⟩ : ∃ b, b = M.data.toList.isEmpty := ⟨_, rfl⟩
    obtain ⟨b2, hb2⟩ : ∃ b, b = allB great M.data.toList := ⟨_, rfl⟩
    obtain ⟨b3, hb3⟩ : ∃ b, b = T.data.toList.isEmpty := ⟨_, rfl⟩
    obtain ⟨b4, hb4⟩ : ∃ b, b = allB seenB T.data.toList := ⟨_, rfl⟩
    obtain ⟨b5, hb5⟩ : ∃ b, b = (V.data.toList == http11) := ⟨_, rfl⟩
    obtain ⟨b6, hb6⟩ : ∃ b, b = (V.data.toList == http10) := ⟨_, rfl⟩
    have hok : firstOk M.data.toList T.data.toList V.data.toList = ((!b1 && b2) && (!b3 && b4) && (b5 || b6)) := by unfold firstOk; rw [hb1, hb2, hb3, hb4, hb5, hb6]
    have e1 : M.toList.isEmpty = b1 := by rw [hb1, Lib.toList_data]
    have e3 : T.toList.isEmpty = b3 := by rw [hb3, Lib.toList_data]
    have e5 : (V.toList == [72, 84, 84, 80, 47, 49, 46, 49]) = b5 := by rw [hb5, eq_list]; rfl
    have e6 : (V.toList == [72, 84, 84, 80, 47, 49, 46, 48]) = b6 := by rw [hb6, eq_list]; rfl
    have HE2 : Hid (allB great M.data.toList = b2) := hb2.symm
    have HE4 : Hid (allB seenB T.data.toList = b4) := hb4.symm
    have HOK := show Hid _ from hok
    clear hb1 hb2 hb3 hb4 hb5 hb6 hok
    go_enter Tryz.func171, Tryz.ntmps171
    go_wp2_with fail
    refine Calls.mono (Hid.out (HSp _)) ?_
    rintro e w1 ⟨cs, rfl, hw1, hcs⟩
    have g0 : cs[0]? = some (.string M) := hcs 0 (by simp)
    have g1 : cs[1]? = some (.string T) := hcs 1 (by simp)
    have g2 : cs[2]? = some (.string V) := hcs 2 (by simp)
    clear hcs HSp
    subst hw1
    simp only [List.length_cons, List.length_nil]
    go_wp2_with (first | (go_at_call_of 88 (Value.bool true); refine (must_yes _ _).mono ?_; rintro e w' ⟨rfl, rfl⟩))
    go_region
    cases b1
    case true =>
      go_wp2_with (first | (go_at_call_of 88 (Value.bool true); refine (must_yes _ _).mono ?_; rintro e w' ⟨rfl, rfl⟩) | (go_at_call_of 88 (Value.bool false); refine (must_no _ _).mono ?_; rintro e w' ⟨⟨u, x, rfl⟩, rfl⟩) | (go_at_call_of 123 (Value.string M); refine Calls.mono (Hid.out (HG _)) ?_; rintro e w' ⟨rfl, rfl⟩; rw [HE2.out]) | (go_at_call_of 123 (Value.string T); refine Calls.mono (Hid.out (HS _)) ?_; rintro e w' ⟨rfl, rfl⟩; rw [HE4.out]))
      exact ⟨rfl, ((Q.refl _).alloc _).alloc _ |>.drew, .inr ⟨by rw [HF.out, HOK.out]; simp, ⟨_, _, rfl⟩⟩⟩
    cases b2
    case false =>
      go_wp2_with (first | (go_at_call_of 88 (Value.bool true); refine (must_yes _ _).mono ?_; rintro e w' ⟨rfl, rfl⟩) | (go_at_call_of 88 (Value.bool false); refine (must_no _ _).mono ?_; rintro e w' ⟨⟨u, x, rfl⟩, rfl⟩) | (go_at_call_of 123 (Value.string M); refine Calls.mono (Hid.out (HG _)) ?_; rintro e w' ⟨rfl, rfl⟩; rw [HE2.out]) | (go_at_call_of 123 (Value.string T); refine Calls.mono (Hid.out (HS _)) ?_; rintro e w' ⟨rfl, rfl⟩; rw [HE4.out]))
      exact ⟨rfl, ((Q.refl _).alloc _).alloc _ |>.drew, .inr ⟨by rw [HF.out, HOK.out]; simp, ⟨_, _, rfl⟩⟩⟩
    cases b3
    case true =>
      go_wp2_with (first | (go_at_call_of 88 (Value.bool true); refine (must_yes _ _).mono ?_; rintro e w' ⟨rfl, rfl⟩) | (go_at_call_of 88 (Value.bool false); refine (must_no _ _).mono ?_; rintro e w' ⟨⟨u, x, rfl⟩, rfl⟩) | (go_at_call_of 123 (Value.string M); refine Calls.mono (Hid.out (HG _)) ?_; rintro e w' ⟨rfl, rfl⟩; rw [HE2.out]) | (go_at_call_of 123 (Value.string T); refine Calls.mono (Hid.out (HS _)) ?_; rintro e w' ⟨rfl, rfl⟩; rw [HE4.out]))
      exact ⟨rfl, ((Q.refl _).alloc _).alloc _ |>.drew, .inr ⟨by rw [HF.out, HOK.out]; simp, ⟨_, _, rfl⟩⟩⟩
    cases b4
    case false =>
      go_wp2_with (first | (go_at_call_of 88 (Value.bool true); refine (must_yes _ _).mono ?_; rintro e w' ⟨rfl, rfl⟩) | (go_at_call_of 88 (Value.bool false); refine (must_no _ _).mono ?_; rintro e w' ⟨⟨u, x, rfl⟩, rfl⟩) | (go_at_call_of 123 (Value.string M); refine Calls.mono (Hid.out (HG _)) ?_; rintro e w' ⟨rfl, rfl⟩; rw [HE2.out]) | (go_at_call_of 123 (Value.string T); refine Calls.mono (Hid.out (HS _)) ?_; rintro e w' ⟨rfl, rfl⟩; rw [HE4.out]))
      exact ⟨rfl, ((Q.refl _).alloc _).alloc _ |>.drew, .inr ⟨by rw [HF.out, HOK.out]; simp, ⟨_, _, rfl⟩⟩⟩
    cases b5
    case true =>
      go_wp2_with (first | (go_at_call_of 88 (Value.bool true); refine (must_yes _ _).mono ?_; rintro e w' ⟨rfl, rfl⟩) | (go_at_call_of 88 (Value.bool false); refine (must_no _ _).mono ?_; rintro e w' ⟨⟨u, x, rfl⟩, rfl⟩) | (go_at_call_of 123 (Value.string M); refine Calls.mono (Hid.out (HG _)) ?_; rintro e w' ⟨rfl, rfl⟩; rw [HE2.out]) | (go_at_call_of 123 (Value.string T); refine Calls.mono (Hid.out (HS _)) ?_; rintro e w' ⟨rfl, rfl⟩; rw [HE4.out]))
      refine bodyPost_ret (v := headV M.data.toList T.data.toList (.slice none 0 0)) (by simp [results, Tryz.results171, go_sem, headV, str]) rfl ⟨((Q.refl _).alloc _).alloc _ |>.drew, .inl ⟨_, _, by rw [HF.out, HOK.out]; rfl, rfl⟩⟩
    cases b6
    case false =>
      go_wp2_with (first | (go_at_call_of 88 (Value.bool true); refine (must_yes _ _).mono ?_; rintro e w' ⟨rfl, rfl⟩) | (go_at_call_of 88 (Value.bool false); refine (must_no _ _).mono ?_; rintro e w' ⟨⟨u, x, rfl⟩, rfl⟩) | (go_at_call_of 123 (Value.string M); refine Calls.mono (Hid.out (HG _)) ?_; rintro e w' ⟨rfl, rfl⟩; rw [HE2.out]) | (go_at_call_of 123 (Value.string T); refine Calls.mono (Hid.out (HS _)) ?_; rintro e w' ⟨rfl, rfl⟩; rw [HE4.out]))
      exact ⟨rfl, ((Q.refl _).alloc _).alloc _ |>.drew, .inr ⟨by rw [HF.out, HOK.out]; simp, ⟨_, _, rfl⟩⟩⟩
    go_wp2_with (first | (go_at_call_of 88 (Value.bool true); refine (must_yes _ _).mono ?_; rintro e w' ⟨rfl, rfl⟩) | (go_at_call_of 88 (Value.bool false); refine (must_no _ _).mono ?_; rintro e w' ⟨⟨u, x, rfl⟩, rfl⟩) | (go_at_call_of 123 (Value.string M); refine Calls.mono (Hid.out (HG _)) ?_; rintro e w' ⟨rfl, rfl⟩; rw [HE2.out]) | (go_at_call_of 123 (Value.string T); refine Calls.mono (Hid.out (HS _)) ?_; rintro e w' ⟨rfl, rfl⟩; rw [HE4.out]))
    refine bodyPost_ret (v := headV M.data.toList T.data.toList (.slice none 0 0)) (by simp [results, Tryz.results171, go_sem, headV, str]) rfl ⟨((Q.refl _).alloc _).alloc _ |>.drew, .inl ⟨_, _, by rw [HF.out, HOK.out]; rfl, rfl⟩⟩
  · have hl : decide (((parts 32 s.data.toList).length : Int) = 3) = false := decide_eq_false (by omega)
    have hl2 : (((parts 32 s.data.toList).length : Int) == 3) = false := by rw [beq_eq_false_iff_ne]; omega
    have HN := show Hid _ from hnone
    have HSp := fun x => show Hid _ from split_one s 32 x hs
    clear hnone hlen
    generalize (parts 32 s.data.toList).length = n at *
    go_enter Tryz.func171, Tryz.ntmps171
    go_wp2_with fail
    refine Calls.mono (Hid.out (HSp _)) ?_
    rintro e w1 ⟨cs, rfl, hw1, _⟩
    subst hw1
    go_wp2_with (first | (go_at_call_of 88 (Value.bool false); refine (must_no _ _).mono ?_; rintro e w' ⟨⟨t, v, rfl⟩, rfl⟩))
    exact ⟨rfl, ((Q.refl _).alloc _).alloc _, .inr ⟨HN.out, ⟨_, _, rfl⟩⟩⟩
end Go.Proofs.YtdmaffciijmdcaaGreatDoor

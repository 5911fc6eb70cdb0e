/-
  The library's cuts at one byte, as the plain functions say them: strings.Cut, Split, SplitN, Contains, Clone; and what a call leaves as it was.
-/
import Derived.Test.YtdmaffciijmdcaaGreatDoorRowTToLeaf
import Derived.Test.YtdmaffciijmdcaaGreatDoorShelfC
import Derived.Shelf.Strings.SplitCore
namespace Go.Proofs.YtdmaffciijmdcaaGreatDoor
open Go.RowKit Plain

/-- Nothing that was there has turned. -/
def Q (w w' : World) : Prop := Below w.heap.size w w'

theorem Q.refl (w : World) : Q w w := Below.refl _ _
theorem Q.size {a b : World} (h : Q a b) : a.heap.size ≤ b.heap.size := Below.size h
theorem Q.trans {a b c : World} (h : Q a b) (k : Q b c) : Q a c := Below.trans h (Below.mono k (Q.size h))
theorem Q.drewN (w : World) (n : Nat) : Q w (w.drewN n) := ⟨rfl, rfl, rfl, Nat.le_refl _, fun _ _ => rfl⟩
theorem Q.drew {a b : World} (h : Q a b) : Q a b.drew := Below.drew h
theorem Q.drews {a b : World} (h : Q a b) (n : Nat) : Q a (b.drewN n) := h.trans (Q.drewN _ _)
theorem Q.alloc {a b : World} (h : Q a b) (o : Obj) : Q a (b.alloc o) := Below.alloc h (Q.size h) o
theorem Q.setCell {a b : World} (h : Q a b) {p : Addr} (hp : a.heap.size ≤ p.block) (u : Value) : Q a (b.setCell p u) := Below.setCell h hp u
theorem Q.lt {w : World} {b o : Nat} {p : Option Nat} {v : Value} (h : w.cell? ⟨b, o, p⟩ = some v) : b < w.heap.size := World.block_lt_of_cell? _ _ h
theorem Q.cell {w w' : World} (h : Q w w') {a : Addr} {v : Value} (hc : w.cell? a = some v) : w'.cell? a = some v := by
  rw [Below.cell h (World.block_lt_of_cell? _ _ hc)]; exact hc
theorem Q.cells {w w' : World} (h : Q w w') : (∀ b o, b < w.heap.size → w'.cell? ⟨b, o, none⟩ = w.cell? ⟨b, o, none⟩) ∧ (∀ b o, b < w.heap.size → w'.frozen? ⟨b, o, none⟩ = w.frozen? ⟨b, o, none⟩) :=
  ⟨fun b o k => Below.cell (p := ⟨b, o, none⟩) h k, fun b o k => Below.frozen (p := ⟨b, o, none⟩) h k⟩

/-- A block that was made just ahead of a call. -/
theorem Q.made {w w' : World} {cs : Array Value} {t : TypeId} (h : Q (w.alloc (.cells cs t)) w') : (∀ i, w'.cell? ⟨w.heap.size, i, none⟩ = cs[i]?) ∧ (∀ i, w'.frozen? ⟨w.heap.size, i, none⟩ = false) ∧ w.heap.size < w'.heap.size := by
  have hz := Q.size h
  simp at hz
  refine ⟨fun i => ?_, fun i => ?_, hz⟩
  · rw [(Q.cells h).1 _ _ (by simp), World.cell?_alloc_at (hn := rfl)]
  · rw [(Q.cells h).2 _ _ (by simp), World.frozen?_alloc_at (hn := rfl)]
/-- The i-th piece. -/
def nth (ps : List (List UInt8)) (i : Nat) : List UInt8 := ps.getD i []
/-- A string by its bytes. -/
def str (l : List UInt8) : Value := .string ⟨l.toArray⟩
theorem str_data (s : ByteArray) : str s.data.toList = .string s := rfl
theorem mk_toList (l : List UInt8) : (⟨l.toArray⟩ : ByteArray).data.toList = l := rfl
theorem mk_size (l : List UInt8) : (⟨l.toArray⟩ : ByteArray).size = l.length := rfl

theorem cut_data (c : UInt8) (s : ByteArray) : Lib.cut s.data.toList (⟨#[c]⟩ : ByteArray).data.toList = match cutAt c s.data.toList with
    | none => (s.data.toList, [], false)
    | some (a, r) => (a, r, true) := lib_cut c _

theorem index_data (c : UInt8) (s : ByteArray) : Lib.indexB s ⟨#[c]⟩ = Lib.indexByte s.data.toList c := Lib.index_one _ _

theorem cut_shape (c : UInt8) (s : ByteArray) : (Lib.indexByte s.data.toList c = -1 ∧ cutAt c s.data.toList = none) ∨
    ∃ (i : Nat) (a r : List UInt8), Lib.indexByte s.data.toList c = i ∧ cutAt c s.data.toList = some (a, r) ∧ i + 1 ≤ s.size ∧ s.extract 0 i = ⟨a.toArray⟩ ∧ s.extract (i + 1) s.size = ⟨r.toArray⟩ := by
  have h := index_cut c s.data.toList
  rw [Lib.index_one] at h
  cases hc : cutAt c s.data.toList with
  | none => rw [hc] at h; exact .inl ⟨h, rfl⟩
  | some x =>
    obtain ⟨a, r⟩ := x
    rw [hc] at h
    have hd := (cutAt_some.1 hc).1
    refine .inr ⟨a.length, a, r, h, rfl, ?_, ?_, ?_⟩
    · rw [← size_len s, hd]; simp
    · rw [← Lib.mk_data (s.extract 0 a.length), Lib.extract_from_zero, hd]; simp
    · rw [← Lib.mk_data (s.extract (a.length + 1) s.size), Lib.extract_to_end, hd]; simp

set_option maxHeartbeats 1000000 in
set_option maxRecDepth 100000 in
theorem sliteCut_miss (s : ByteArray) (c : UInt8) (w : World) (h : cutAt c s.data.toList = none) :
    Calls Tryz.prog 114 #[.string s, .string ⟨#[c]⟩] w fun e w' => e = .returned (.tuple #[.string s, .string ⟨#[]⟩, .bool false]) ∧ w' = w := by
  have hi : Lib.indexByte s.data.toList c = -1 := by
    rcases cut_shape c s with ⟨h1, _⟩ | ⟨i, a, r, _, h2, _⟩
    · exact h1
    · rw [h] at h2; cases h2
  have Hi : Hid (Lib.indexByte s.data.toList c = -1) := hi
  clear hi
  go_enter Tryz.func114, Tryz.ntmps114
  go_wp2_with (go_at_call 144; refine (Tryz.stringslite_Index_one _ c _).mono ?_; rintro e w' ⟨rfl, rfl⟩; rw [Hi.out])
  go_ret3
  exact ⟨rfl, rfl⟩

set_option maxHeartbeats 1000000 in
set_option maxRecDepth 100000 in
theorem sliteCut_hit (s : ByteArray) (c : UInt8) (a r : List UInt8) (w : World) (hs : s.size ≤ maxLen) (h : cutAt c s.data.toList = some (a, r)) :
    Calls Tryz.prog 114 #[.string s, .string ⟨#[c]⟩] w fun e w' => e = .returned (.tuple #[str a, str r, .bool true]) ∧ w' = w.drew := by
  obtain ⟨i, hi, hroom, ea, er⟩ : ∃ i : Nat, Lib.indexByte s.data.toList c = i ∧ i + 1 ≤ s.size ∧ s.extract 0 i = ⟨a.toArray⟩ ∧ s.extract (i + 1) s.size = ⟨r.toArray⟩ := by
    rcases cut_shape c s with ⟨_, h1⟩ | ⟨i, a', r', h1, h2, h3, h4, h5⟩
    · rw [h] at h1; cases h1
    · rw [h] at h2; cases h2; exact ⟨i, h1, h3, h4, h5⟩
  unfold maxLen at hs
  have Hi : Hid (Lib.indexByte s.data.toList c = (i : Int)) := hi
  have Ea : Hid (s.extract 0 i = ⟨a.toArray⟩) := ea
  have Er : Hid (s.extract (i + 1) s.size = ⟨r.toArray⟩) := er
  clear hi ea er h
  have c1 : (0 : Int) ≤ ↑i := by omega
  have c2 : (↑i : Int) ≤ ↑s.size := by omega
  have c3 : (0 : Int) ≤ ↑i + 1 := by omega
  have c4 : (↑i + 1 : Int) ≤ ↑s.size := by omega
  go_enter Tryz.func114, Tryz.ntmps114
  go_wp2_with (go_at_call 144; refine (Tryz.stringslite_Index_one _ c _).mono ?_; rintro e w' ⟨rfl, rfl⟩; rw [Hi.out])
  go_region
  go_wp2
  go_ret3
  exact ⟨by unfold str; rw [← Ea.out, ← Er.out]; rfl, rfl⟩

set_option maxHeartbeats 1000000 in
theorem cut_miss (s : ByteArray) (c : UInt8) (w : World) (h : cutAt c s.data.toList = none) :
    Calls Tryz.prog 82 #[.string s, .string ⟨#[c]⟩] w fun e w' => e = .returned (.tuple #[.string s, .string ⟨#[]⟩, .bool false]) ∧ w' = w := by
  have H : Hid (cutAt c s.data.toList = none) := h
  clear h
  go_enter Tryz.func82, Tryz.ntmps82
  go_wp2_with (go_at_call 114; refine (sliteCut_miss _ c _ H.out).mono ?_; rintro e w' ⟨rfl, rfl⟩)
  go_ret3
  exact ⟨rfl, rfl⟩

set_option maxHeartbeats 1000000 in
theorem cut_hit (s : ByteArray) (c : UInt8) (a r : List UInt8) (w : World) (hs : s.size ≤ maxLen) (h : cutAt c s.data.toList = some (a, r)) :
    Calls Tryz.prog 82 #[.string s, .string ⟨#[c]⟩] w fun e w' => e = .returned (.tuple #[str a, str r, .bool true]) ∧ w' = w.drew := by
  have H : Hid (cutAt c s.data.toList = some (a, r)) := h
  clear h
  go_enter Tryz.func82, Tryz.ntmps82
  go_wp2_with (go_at_call 114; refine (sliteCut_hit _ c a r _ hs H.out).mono ?_; rintro e w' ⟨rfl, rfl⟩)
  go_ret3
  exact ⟨rfl, rfl⟩

theorem contains_one (s : ByteArray) (c : UInt8) (w : World) :
    Calls Tryz.prog 155 #[.string s, .string ⟨#[c]⟩] w fun e w' => e = .returned (.bool (cutAt c s.data.toList).isSome) ∧ w' = w := by
  refine (Tryz.strings_Contains_one s c w).mono fun e w' ⟨he, hw⟩ => ⟨?_, hw⟩
  rw [he]
  refine ret_bool ?_
  rw [← lib_contains, Lib.contains, Lib.index_one]

theorem splitB_str (c : UInt8) (k : Nat) (s : ByteArray) : (Lib.splitB ⟨#[c]⟩ 0 k s).map Value.string = (Lib.splitK [c] 0 k s.data.toList).map str := by
  have h := Lib.splitB_data ⟨#[c]⟩ 0 k s
  have e : (⟨#[c]⟩ : ByteArray).data.toList = [c] := rfl
  rw [e] at h
  rw [← h, List.map_map]
  rfl

theorem countB_parts (c : UInt8) (s : ByteArray) : Lib.countB s ⟨#[c]⟩ + 1 = (parts c s.data.toList).length := count_parts c _

theorem genSplit_one (s : ByteArray) (c : UInt8) (n : Int) (N : Nat) (w : World) (hs : s.size < 4294967281)
    (hn0 : n ≠ 0) (hn63 : n ≤ 9223372036854775807) (hN : (N : Int) = min (if n < 0 then (Lib.countB s ⟨#[c]⟩ : Int) + 1 else n) ((s.size : Int) + 1)) :
    Calls Tryz.prog 145 #[.string s, .string ⟨#[c]⟩, .int .i64 0, .int .i64 n] w fun e w' =>
      e = .returned (.slice (some ⟨w.heap.size, 0, none⟩) (Lib.splitB ⟨#[c]⟩ 0 (N - 1) s).length N) ∧ w' = w.alloc (.cells (Lib.cellsOf (Lib.splitB ⟨#[c]⟩ 0 (N - 1) s) N) 9) :=
  Any.strings_genSplit_core Tryz.lays221 (by kernel_rfl) s ⟨#[c]⟩ 0 n N w hs (Nat.le_refl 1) (Nat.zero_le _)
    (fun x _ _ => (Tryz.strings_Index_one x c _).mono fun _ _ ⟨he, hw⟩ => ⟨by rw [he, index_data], hw⟩)
    ((Tryz.strings_Count_one s c w).mono fun _ _ ⟨he, hw⟩ => ⟨by rw [he]; show _ = Ending.returned (Value.int .i64 ((Lib.count s.data.toList [c] : Nat) : Int)); rw [Lib.count_one]; rfl, hw⟩)
    hn0 hn63 hN

theorem countB_le (c : UInt8) (s : ByteArray) : Lib.countB s ⟨#[c]⟩ ≤ s.size := by
  have h := countB_parts c s
  rw [parts_length] at h
  have := List.count_le_length (a := c) (l := s.data.toList)
  rw [size_len] at this
  omega

theorem cells_get (ps : List (List UInt8)) (done : List ByteArray) (N i : Nat) (h : done.map Value.string = ps.map str) (hi : i < ps.length) : (Lib.cellsOf done N)[i]? = some (str (nth ps i)) := by
  unfold Lib.cellsOf
  unfold nth
  rw [h, List.getElem?_toArray, List.getElem?_append_left (by simpa using hi), List.getElem?_map, List.getD_eq_getElem?_getD, List.getElem?_eq_getElem hi]
  rfl

set_option maxHeartbeats 1000000 in
/-- strings.Split at one byte: the pieces lie in a new array. -/
theorem split_one (s : ByteArray) (c : UInt8) (w : World) (hs : s.size < 4294967281) :
    Calls Tryz.prog 116 #[.string s, .string ⟨#[c]⟩] w fun e w' => ∃ cs : Array Value,
      e = .returned (.slice (some ⟨w.heap.size, 0, none⟩) (parts c s.data.toList).length (parts c s.data.toList).length) ∧ w' = w.alloc (.cells cs 9) ∧
      ∀ i, i < (parts c s.data.toList).length → cs[i]? = some (str (nth (parts c s.data.toList) i)) := by
  have hle := countB_le c s
  have hcp := countB_parts c s
  have k := genSplit_one s c (-1) (Lib.countB s ⟨#[c]⟩ + 1) w hs (by decide) (by decide) (by rw [if_pos (by decide)]; omega)
  have hm : (Lib.splitB ⟨#[c]⟩ 0 (Lib.countB s ⟨#[c]⟩ + 1 - 1) s).map Value.string = (parts c s.data.toList).map str := by
    rw [splitB_str, splitK_parts]; omega
  have hl : (Lib.splitB ⟨#[c]⟩ 0 (Lib.countB s ⟨#[c]⟩ + 1 - 1) s).length = (parts c s.data.toList).length := by
    have := congrArg List.length hm; simpa using this
  rw [hl, hcp] at k
  rw [hcp] at hm
  have hg := fun i hi => cells_get (parts c s.data.toList) _ (parts c s.data.toList).length i hm hi
  generalize Lib.cellsOf (Lib.splitB ⟨#[c]⟩ 0 ((parts c s.data.toList).length - 1) s) (parts c s.data.toList).length = cs at k hg
  have Hg : Hid (∀ i, i < (parts c s.data.toList).length → cs[i]? = some (str (nth (parts c s.data.toList) i))) := hg
  clear hg hm hl hle hcp
  generalize (parts c s.data.toList).length = n at k Hg
  go_enter Tryz.func116, Tryz.ntmps116
  go_wp2_with (go_at_call 145; refine k.mono ?_; rintro e w' ⟨rfl, hw⟩; rw [hw])
  go_ret
  exact ⟨cs, rfl, rfl, Hg.out⟩

set_option maxHeartbeats 1000000 in
/-- strings.SplitN at one byte, n of them at most. -/
theorem splitN_one (s : ByteArray) (c : UInt8) (n : Nat) (w : World) (hs : s.size < 4294967281) (hn : 1 ≤ n) (hn63 : n ≤ 1000) :
    Calls Tryz.prog 201 #[.string s, .string ⟨#[c]⟩, .int .i64 n] w fun e w' => ∃ (cs : Array Value) (len N : Nat),
      e = .returned (.slice (some ⟨w.heap.size, 0, none⟩) len N) ∧ w' = w.alloc (.cells cs 9) ∧ len ≤ N ∧ N ≤ n ∧
      (((parts c s.data.toList).length ≤ n ∧ len = (parts c s.data.toList).length ∧ ∀ i, i < len → cs[i]? = some (str (nth (parts c s.data.toList) i))) ∨
       (n < (parts c s.data.toList).length ∧ len = n)) := by
  have hle := countB_le c s
  have hcp := countB_parts c s
  have k := genSplit_one s c n (min n (s.size + 1)) w hs (by omega) (by omega) (by rw [if_neg (by omega)]; omega)
  have hle2 := Lib.splitB_length_le ⟨#[c]⟩ 0 (min n (s.size + 1) - 1) s
  have hfin : ∃ (cs : Array Value) (len : Nat), (Lib.splitB ⟨#[c]⟩ 0 (min n (s.size + 1) - 1) s).length = len ∧ Lib.cellsOf (Lib.splitB ⟨#[c]⟩ 0 (min n (s.size + 1) - 1) s) (min n (s.size + 1)) = cs ∧
      (((parts c s.data.toList).length ≤ n ∧ len = (parts c s.data.toList).length ∧ ∀ i, i < len → cs[i]? = some (str (nth (parts c s.data.toList) i))) ∨
       (n < (parts c s.data.toList).length ∧ len = n)) := by
    refine ⟨_, _, rfl, rfl, ?_⟩
    by_cases h : (parts c s.data.toList).length ≤ n
    · have hm : (Lib.splitB ⟨#[c]⟩ 0 (min n (s.size + 1) - 1) s).map Value.string = (parts c s.data.toList).map str := by
        rw [splitB_str, splitK_parts]; omega
      have hl : (Lib.splitB ⟨#[c]⟩ 0 (min n (s.size + 1) - 1) s).length = (parts c s.data.toList).length := by
        have := congrArg List.length hm; simpa using this
      exact .inl ⟨h, hl, fun i hi => cells_get _ _ _ i hm (by omega)⟩
    · refine .inr ⟨by omega, ?_⟩
      have hl : (Lib.splitB ⟨#[c]⟩ 0 (min n (s.size + 1) - 1) s).length = (Lib.splitK [c] 0 (min n (s.size + 1) - 1) s.data.toList).length := by
        have := congrArg List.length (splitB_str c (min n (s.size + 1) - 1) s); simpa using this
      rw [hl, splitK_more _ _ _ (by omega)]; omega
  obtain ⟨cs, len, h1, h2, h3⟩ := hfin
  rw [h1, h2] at k
  have hN : len ≤ min n (s.size + 1) ∧ min n (s.size + 1) ≤ n := by omega
  generalize min n (s.size + 1) = N at k hN
  have H3 := show Hid _ from h3
  have HN : Hid _ := hN
  clear h1 h2 h3 hN hle hcp hle2
  go_enter Tryz.func201, Tryz.ntmps201
  go_wp2_with (go_at_call 145; refine k.mono ?_; rintro e w' ⟨rfl, hw⟩; rw [hw])
  go_ret
  exact ⟨cs, len, N, rfl, rfl, HN.out.1, HN.out.2, H3.out⟩

set_option maxHeartbeats 400000 in
theorem clone_any (s : ByteArray) (w : World) (hs : s.size ≤ 281474976710656) :
    Calls Tryz.prog 92 #[.string s] w fun e w' => e = .returned (.string s) ∧ Q w w' := by
  go_enter Tryz.func92, Tryz.ntmps92
  go_wp2_with (go_at_call 126; refine (Tryz.stringslite_Clone _ _ hs).mono ?_; rintro e w' ⟨rfl, hw⟩)
  go_ret
  exact ⟨rfl, by assumption⟩
end Go.Proofs.YtdmaffciijmdcaaGreatDoor
/-
  Package words, by its contracts: each reader returns what the plain function says, or dies where there is nothing.
-/
namespace Go.Proofs.YtdmaffciijmdcaaGreatDoor
open Go.RowKit Plain

theorem ret_int {k : IntKind} {a b : Int} (h : a = b) : Ending.returned (.int k a) = .returned (.int k b) := by rw [h]

theorem numForm_parts {s : ByteArray} (h : numForm s.data.toList = true) :
    s.toList.isEmpty = false ∧ allB fig s.data.toList = true ∧ (∃ b, (s.toList == [48]) = b ∧ (b = false → ∃ h0 : 0 < s.size, ((s[0].toNat : Int) != 48) = true)) := by
  unfold numForm at h
  simp only [Bool.and_eq_true, Bool.or_eq_true, Bool.not_eq_true', bne_iff_ne, beq_iff_eq] at h
  obtain ⟨⟨h1, h2⟩, h3⟩ := h
  rw [Lib.toList_data]
  refine ⟨h1, h2, _, rfl, fun hb => ?_⟩
  have hne : s.data.toList ≠ [] := by intro e; rw [e] at h1; simp at h1
  have h0 : 0 < s.size := by rw [← size_len]; exact List.length_pos_iff.2 hne
  refine ⟨h0, ?_⟩
  rcases h3 with h3 | h3
  · rw [h3] at hb; simp at hb
  · have e : s.data.toList.head? = some s[0] := by
      rw [List.head?_eq_getElem?, List.getElem?_eq_getElem (by rw [size_len]; exact h0)]; rfl
    rw [e] at h3
    rw [bne_iff_ne]
    intro h4
    apply h3
    have : s[0].toNat = 48 := by omega
    rw [show s[0] = 48 from UInt8.toNat_inj.1 this]

theorem numVal_step (s : ByteArray) (k : Nat) (h : k < s.size) (ha : allB fig s.data.toList = true) :
    (numVal (s.data.toList.take (k + 1)) : Int) = (numVal (s.data.toList.take k) : Int) * 10 + ((s[k].toNat : Int) - 48) ∧ 48 ≤ (s[k].toNat : Int) ∧ (s[k].toNat : Int) ≤ 57 := by
  have hf : fig s[k] = true := by
    unfold allB at ha
    rw [List.all_eq_true] at ha
    apply ha
    have : s[k] = s.data.toList[k]'(by rw [size_len]; exact h) := rfl
    rw [this]; exact List.getElem_mem _
  have hb := fig_bounds hf
  rw [take_snoc s k h, numVal_snoc]
  unfold digit
  omega

set_option maxHeartbeats 400000 in
theorem number_yes (s : ByteArray) (hi : Nat) (w : World) (hs : s.size ≤ maxLen) (hhi : hi ≤ 65535) (n : Nat) (h : number s.data.toList hi = some n) :
    Calls Tryz.prog 194 #[.string s, .int .i64 hi] w fun e w' => e = .returned (.int .i64 n) ∧ w' = w := by
  have hs' := hs
  unfold maxLen at hs
  unfold number at h
  split at h
  case isFalse => cases h
  rename_i hc
  obtain ⟨hf, hle⟩ := hc
  cases h
  obtain ⟨he, hall, b, hb, h0⟩ := numForm_parts hf
  have Hall : Hid (allB fig s.data.toList = true) := hall
  have Hle : Hid (numVal s.data.toList ≤ hi) := hle
  have Hst := fun k hk => show Hid _ from numVal_step s k hk hall
  clear hall hle hf
  cases b
  case' false => obtain ⟨h00, h01⟩ := h0 rfl
  all_goals
    clear h0
    go_enter Tryz.func194, Tryz.ntmps194
    go_wp2_with (first | (go_at_call 123; refine (all_fig _ _ hs').mono ?_; rintro e w' ⟨rfl, rfl⟩; rw [Hall.out]) | (go_at_call 88; refine (must_yes _ _).mono ?_; rintro e w' ⟨rfl, rfl⟩))
    go_loop [24, 5, 6] (fun i v _ => ∃ k : Nat, k ≤ s.size ∧ i = .int .i64 k ∧ v = .int .i64 (numVal (s.data.toList.take k))) (fun i _ _ => s.size - (intOf i).toNat)
    case atStart => exact ⟨0, Nat.zero_le _, rfl, rfl⟩
    case round =>
      obtain ⟨k, hk, rfl, rfl⟩ := hrel
      by_cases hlt : k < s.size
      · have hst := Hst k hlt
        have hq : numVal (s.data.toList.take (k + 1)) ≤ hi := Nat.le_trans (numVal_take _ _) Hle.out
        have Hq := show Hid _ from hst.out.1
        have hb1 := hst.out.2.1
        have hb2 := hst.out.2.2
        have hr : (numVal (s.data.toList.take k) : Int) * 10 + ((s[k].toNat : Int) - 48) ≤ hi := by have := Hq.out; omega
        have hr0 : (0 : Int) ≤ (numVal (s.data.toList.take k) : Int) := by omega
        have hr1 : (numVal (s.data.toList.take k) : Int) ≤ 65535 := by omega
        clear hst hq
        go_wp2_with (first | (go_at_call 88; refine (must_yes _ _).mono ?_; rintro e w' ⟨rfl, rfl⟩))
        exact ⟨⟨k + 1, by omega, by go_num, by rw [Hq.out]⟩, by simp [intOf]; omega⟩
      · have he := List.take_of_length_le (i := k) (l := s.data.toList) (by rw [size_len]; omega)
        have He := show Hid _ from he
        clear he
        go_wp2_with fail
        go_ret
        exact ⟨ret_int (by rw [He.out]), rfl⟩

theorem numForm_false {s : ByteArray} (h : numForm s.data.toList = false) :
    s.toList.isEmpty = true ∨ (s.toList.isEmpty = false ∧ allB fig s.data.toList = false) ∨
    (s.toList.isEmpty = false ∧ allB fig s.data.toList = true ∧ (s.toList == [48]) = false ∧ ∃ h0 : 0 < s.size, ((s[0].toNat : Int) != 48) = false) := by
  unfold numForm at h
  rw [Lib.toList_data]
  cases h1 : s.data.toList.isEmpty
  · rw [h1] at h
    cases h2 : allB fig s.data.toList
    · exact .inr (.inl ⟨rfl, rfl⟩)
    · rw [h2] at h
      simp only [Bool.not_false, Bool.and_self, Bool.true_and, Bool.or_eq_false_iff, bne_eq_false_iff_eq] at h
      have h0 : 0 < s.size := by rw [← size_len]; exact List.length_pos_iff.2 (by intro e; rw [e] at h1; simp at h1)
      refine .inr (.inr ⟨rfl, rfl, h.1, h0, ?_⟩)
      have e : s.data.toList.head? = some s[0] := by
        rw [List.head?_eq_getElem?, List.getElem?_eq_getElem (by rw [size_len]; exact h0)]; rfl
      rw [e] at h
      have h5 : s[0] = 48 := Option.some.inj h.2
      rw [h5]; rfl
  · exact .inl rfl

set_option maxHeartbeats 400000 in
theorem number_form (s : ByteArray) (hi : Nat) (w : World) (hs : s.size ≤ maxLen) (h : numForm s.data.toList = false) :
    Calls Tryz.prog 194 #[.string s, .int .i64 hi] w fun e w' => Dies e ∧ w' = w := by
  have hs' := hs
  unfold maxLen at hs
  rcases numForm_false h with he | ⟨he, hall⟩ | ⟨he, hall, hb, h0, h01⟩
  · clear h
    go_enter Tryz.func194, Tryz.ntmps194
    go_wp2_with (first | (go_at_call 88; refine (must_no _ _).mono ?_; rintro e w' ⟨⟨t, v, rfl⟩, rfl⟩))
    exact ⟨rfl, ⟨_, _, rfl⟩, rfl⟩
  · have Hall := show Hid _ from hall
    clear h hall
    go_enter Tryz.func194, Tryz.ntmps194
    go_wp2_with (first | (go_at_call 123; refine (all_fig _ _ hs').mono ?_; rintro e w' ⟨rfl, rfl⟩; rw [Hall.out]) | (go_at_call 88; refine (must_no _ _).mono ?_; rintro e w' ⟨⟨t, v, rfl⟩, rfl⟩))
    exact ⟨rfl, ⟨_, _, rfl⟩, rfl⟩
  · have Hall := show Hid _ from hall
    clear h hall
    go_enter Tryz.func194, Tryz.ntmps194
    go_wp2_with (first | (go_at_call 123; refine (all_fig _ _ hs').mono ?_; rintro e w' ⟨rfl, rfl⟩; rw [Hall.out]) | (go_at_call_of 88 (Value.bool true); refine (must_yes _ _).mono ?_; rintro e w' ⟨rfl, rfl⟩) | (go_at_call_of 88 (Value.bool false); refine (must_no _ _).mono ?_; rintro e w' ⟨⟨t, v, rfl⟩, rfl⟩))
    exact ⟨rfl, ⟨_, _, rfl⟩, rfl⟩

set_option maxHeartbeats 400000 in
theorem number_great (s : ByteArray) (hi : Nat) (w : World) (hs : s.size ≤ maxLen) (hhi : hi ≤ 65535) (hf : numForm s.data.toList = true) (hgt : hi < numVal s.data.toList) :
    Calls Tryz.prog 194 #[.string s, .int .i64 hi] w fun e w' => Dies e ∧ w' = w := by
  have hs' := hs
  unfold maxLen at hs
  obtain ⟨he, hall, b, hb, h0⟩ := numForm_parts hf
  have Hall : Hid (allB fig s.data.toList = true) := hall
  have Hgt : Hid (hi < numVal s.data.toList) := hgt
  have Hst := fun k hk => show Hid _ from numVal_step s k hk hall
  clear hall hgt hf
  cases b
  case' false => obtain ⟨h00, h01⟩ := h0 rfl
  all_goals
    clear h0
    go_enter Tryz.func194, Tryz.ntmps194
    go_wp2_with (first | (go_at_call 123; refine (all_fig _ _ hs').mono ?_; rintro e w' ⟨rfl, rfl⟩; rw [Hall.out]) | (go_at_call 88; refine (must_yes _ _).mono ?_; rintro e w' ⟨rfl, rfl⟩))
    go_loop [24, 5, 6] (fun i v _ => ∃ k : Nat, k ≤ s.size ∧ i = .int .i64 k ∧ v = .int .i64 (numVal (s.data.toList.take k)) ∧ numVal (s.data.toList.take k) ≤ hi) (fun i _ _ => s.size - (intOf i).toNat)
    case atStart => exact ⟨0, Nat.zero_le _, rfl, rfl, Nat.zero_le _⟩
    case round =>
      obtain ⟨k, hk, rfl, rfl, hle⟩ := hrel
      by_cases hlt : k < s.size
      · have hst := Hst k hlt
        have Hq := show Hid _ from hst.out.1
        have hb1 := hst.out.2.1
        have hb2 := hst.out.2.2
        have hr0 : (0 : Int) ≤ (numVal (s.data.toList.take k) : Int) := by omega
        have hr1 : (numVal (s.data.toList.take k) : Int) ≤ 65535 := by omega
        clear hst
        by_cases hr : (numVal (s.data.toList.take k) : Int) * 10 + ((s[k].toNat : Int) - 48) ≤ hi
        · go_wp2_with (first | (go_at_call 88; refine (must_yes _ _).mono ?_; rintro e w' ⟨rfl, rfl⟩))
          exact ⟨⟨k + 1, by omega, by go_num, by rw [Hq.out], by have := Hq.out; omega⟩, by simp [intOf]; omega⟩
        · have hr' : decide ((numVal (s.data.toList.take k) : Int) * 10 + ((s[k].toNat : Int) - 48) ≤ hi) = false := decide_eq_false hr
          go_wp2_with (first | (go_at_call 88; refine (must_no _ _).mono ?_; rintro e w' ⟨⟨t, v, rfl⟩, rfl⟩))
          exact ⟨rfl, ⟨_, _, rfl⟩, rfl⟩
      · exfalso
        rw [List.take_of_length_le (by rw [size_len]; omega)] at hle
        have := Hgt.out
        omega

theorem number_no (s : ByteArray) (hi : Nat) (w : World) (hs : s.size ≤ maxLen) (hhi : hi ≤ 65535) (h : number s.data.toList hi = none) :
    Calls Tryz.prog 194 #[.string s, .int .i64 hi] w fun e w' => Dies e ∧ w' = w := by
  cases hf : numForm s.data.toList
  · exact number_form s hi w hs hf
  · refine number_great s hi w hs hhi hf ?_
    unfold number at h
    rw [hf] at h
    simp at h
    exact h

set_option maxHeartbeats 400000 in
theorem port_yes (s : ByteArray) (w : World) (hs : s.size ≤ maxLen) (n : Nat) (h : number s.data.toList 65535 = some n) :
    Calls Tryz.prog 156 #[.string s] w fun e w' => e = .returned (.int .i64 n) ∧ w' = w := by
  have H := fun x => show Hid _ from number_yes s 65535 x hs (by decide) n h
  clear h
  go_enter Tryz.func156, Tryz.ntmps156
  go_wp2_with fail
  refine Calls.mono (Hid.out (H _)) ?_
  rintro e w' ⟨rfl, rfl⟩
  go_wp2_with fail
  go_ret
  exact ⟨rfl, rfl⟩
set_option maxHeartbeats 400000 in
theorem port_no (s : ByteArray) (w : World) (hs : s.size ≤ maxLen) (h : number s.data.toList 65535 = none) :
    Calls Tryz.prog 156 #[.string s] w fun e w' => Dies e ∧ w' = w := by
  have H := fun x => show Hid _ from number_no s 65535 x hs (by decide) h
  clear h
  go_enter Tryz.func156, Tryz.ntmps156
  go_wp2_with fail
  refine Calls.mono (Hid.out (H _)) ?_
  rintro e w' ⟨⟨t, v, rfl⟩, rfl⟩
  exact ⟨rfl, ⟨_, _, rfl⟩, rfl⟩
end Go.Proofs.YtdmaffciijmdcaaGreatDoor

/-
  Package heads: Only.
-/
import Derived.Test.YtdmaffciijmdcaaGreatDoorHeads3C
import Derived.Lib.LazyBuf
import Derived.Laws.BytesArg
namespace Go.Proofs.YtdmaffciijmdcaaGreatDoor
namespace Plain
/-- Among the first k: how many of that name, and the last one's value. -/
def lastOf (fs : List (List UInt8 × List UInt8)) (n : List UInt8) : List UInt8 := match (fs.filter (fun f => f.1 == n)).getLast? with
  | none => []
  | some f => f.2
def manyOf (fs : List (List UInt8 × List UInt8)) (n : List UInt8) : Nat := (fs.filter (fun f => f.1 == n)).length
theorem many_snoc (fs : List (List UInt8 × List UInt8)) (f : List UInt8 × List UInt8) (n : List UInt8) : (f.1 == n) = true → manyOf (fs ++ [f]) n = manyOf fs n + 1 ∧ lastOf (fs ++ [f]) n = f.2 := by
  intro h
  unfold manyOf lastOf
  rw [List.filter_append]
  simp [h]
theorem many_skip (fs : List (List UInt8 × List UInt8)) (f : List UInt8 × List UInt8) (n : List UInt8) : (f.1 == n) = false → manyOf (fs ++ [f]) n = manyOf fs n ∧ lastOf (fs ++ [f]) n = lastOf fs n := by
  intro h
  unfold manyOf lastOf
  rw [List.filter_append]
  simp [h]
theorem many_le (fs : List (List UInt8 × List UInt8)) (n : List UInt8) : manyOf fs n ≤ fs.length := List.length_filter_le _ _
theorem only_one {fs : List (List UInt8 × List UInt8)} {n : List UInt8} : onlyS fs n = if manyOf fs n = 1 then some (lastOf fs n) else none := by
  unfold onlyS manyOf lastOf
  generalize fs.filter (fun f => f.1 == n) = l
  rcases l with _ | ⟨a, _ | ⟨b, r⟩⟩ <;> simp
theorem take_snocL {α : Type} {l : List α} {k : Nat} {x : α} (h : l[k]? = some x) : l.take (k + 1) = l.take k ++ [x] := by
  obtain ⟨hk, rfl⟩ := List.getElem?_eq_some_iff.1 h
  rw [List.take_succ_eq_append_getElem hk]
end Plain
open Go.RowKit Plain

theorem ret_strb {a b : ByteArray} {x y : Bool} (h : a = b) (h2 : x = y) : Ending.returned (.tuple #[.string a, .bool x]) = .returned (.tuple #[.string b, .bool y]) := by rw [h, h2]

set_option maxRecDepth 100000 in
set_option maxHeartbeats 1600000 in
theorem only_any (m t : ByteArray) (v : Value) (fs : List (List UInt8 × List UInt8)) (n : ByteArray) (w : World) (hv : PairsAt (fun b => b < w.heap.size) w v fs) (hl : fs.length ≤ 2000) :
    Calls Tryz.prog 176 #[.agg #[.string m, .string t, v], .string n] w fun e w' => e = .returned (.tuple #[str (lastOf fs n.data.toList), .bool (decide (manyOf fs n.data.toList = 1))]) ∧ Q w w' := by
  obtain ⟨a, cap, rfl, hat⟩ := hv
  have HAt := show Hid _ from hat
  clear hat
  go_enter Tryz.func176, Tryz.ntmps176
  go_wp2_with fail
  go_loopw [12, 4, 6, 8] (fun i v c _ wr => ∃ (k : Nat) (V : ByteArray), k ≤ fs.length ∧ i = .int .i64 k ∧ v = .string V ∧ c = .int .i64 (manyOf (fs.take k) n.data.toList : Nat) ∧ Hid (V.data.toList = lastOf (fs.take k) n.data.toList) ∧ Q w wr) (fun i _ _ _ _ => fs.length - (intOf i).toNat)
  case atStart => exact ⟨0, ⟨#[]⟩, Nat.zero_le _, rfl, rfl, rfl, rfl, (Q.refl _).alloc _⟩
  case round =>
    obtain ⟨k, V, hk, rfl, rfl, rfl, hV, hq⟩ := hrel
    by_cases hlt : k < fs.length
    · have hget : fs[k]? = some fs[k] := List.getElem?_eq_getElem hlt
      obtain ⟨g, hg, rfl, h1, h2⟩ := HAt.out k _ hget
      generalize fs[k] = f at *
      obtain ⟨f1, f2⟩ := f
      obtain ⟨F, rfl⟩ : ∃ M : ByteArray, M.data.toList = f1 := ⟨⟨f1.toArray⟩, rfl⟩
      obtain ⟨G, rfl⟩ : ∃ M : ByteArray, M.data.toList = f2 := ⟨⟨f2.toArray⟩, rfl⟩
      have c1 : wr.cell? ⟨g, k * 2, none⟩ = some (.string F) := hq.cell h1
      have c2 : wr.cell? ⟨g, k * 2 + 1, none⟩ = some (.string G) := hq.cell h2
      have htk := take_snocL hget
      have hm1 := many_le (fs.take k) n.data.toList
      rw [List.length_take] at hm1
      have hm2 : manyOf (fs.take k) n.data.toList ≤ 2000 := by omega
      cases hb : (F.data.toList == n.data.toList)
      · obtain ⟨k1, k2⟩ := many_skip (fs.take k) (F.data.toList, G.data.toList) n.data.toList hb
        rw [← htk] at k1 k2
        have hbb : (F.toList == n.toList) = false := by rw [Lib.toList_data, Lib.toList_data]; exact hb
        have K1 := show Hid _ from k1
        have K2 := show Hid _ from k2
        clear k1 k2 htk hb h1 h2 hm1 hget HAt
        generalize manyOf (fs.take k) n.data.toList = q at *
        go_wp2_with fail
        refine ⟨⟨k + 1, V, by omega, by go_num, rfl, by rw [K1.out], ?_, hq.alloc _⟩, by simp [intOf]; omega⟩
        show _ = _
        rw [K2.out]; exact hV.out
      · obtain ⟨k1, k2⟩ := many_snoc (fs.take k) (F.data.toList, G.data.toList) n.data.toList hb
        rw [← htk] at k1 k2
        have hbb : (F.toList == n.toList) = true := by rw [Lib.toList_data, Lib.toList_data]; exact hb
        have K1 := show Hid _ from k1
        have K2 := show Hid _ from k2
        clear k1 k2 htk hb h1 h2 hm1 hget HAt
        generalize manyOf (fs.take k) n.data.toList = q at *
        go_wp2_with fail
        refine ⟨⟨k + 1, G, by omega, by go_num, rfl, by rw [K1.out]; go_num, ?_, hq.alloc _⟩, by simp [intOf]; omega⟩
        show _ = _
        rw [K2.out]
    · have hT : fs.take k = fs := List.take_of_length_le (by omega)
      have HV : Hid (V.data.toList = lastOf fs n.data.toList) := by
        have := hV.out
        rwa [hT] at this
      rw [hT]
      have hm2 : manyOf fs n.data.toList ≤ 2000 := Nat.le_trans (many_le _ _) hl
      obtain ⟨q, hq0⟩ : ∃ q, q = manyOf fs n.data.toList := ⟨_, rfl⟩
      have HQ0 := show Hid _ from hq0
      rw [← hq0] at hm2 ⊢
      clear hV hT hq0 HAt
      cases h1 : ((q : Int) == 1)
      · have h2 : ¬ q = 1 := fun e => by rw [e] at h1; cases h1
        have H2 := show Hid _ from h2
        clear h2
        go_wp2_with fail
        go_ret2
        exact ⟨ret_strb (by rw [← HV.out]) (by rw [← HQ0.out, decide_eq_false H2.out]), hq⟩
      · have h2 : q = 1 := by have := beq_iff_eq.1 h1; omega
        have H2 := show Hid _ from h2
        clear h2
        go_wp2_with fail
        go_ret2
        exact ⟨ret_strb (by rw [← HV.out]) (by rw [← HQ0.out, decide_eq_true H2.out]), hq⟩
end Go.Proofs.YtdmaffciijmdcaaGreatDoor
namespace Go.Proofs.YtdmaffciijmdcaaGreatDoor
open Go.RowKit Plain

theorem copy_run (w : World) (b o dLen dCap : Nat) (t : ByteArray)
    (hc : ∀ j, j < min t.size dLen → (w.cell? ⟨b, o + j, none⟩).isSome = true) (hf : ∀ j, j < min t.size dLen → w.frozen? ⟨b, o + j, none⟩ = false) :
    (Builtin.copy_ #[99, 9] 3 #[.slice (some ⟨b, o, none⟩) dLen dCap, .string t]).run Tryz.prog w = .ok (.int .i64 (min t.size dLen : Nat)) (w.setCells b o ((t.data.toList.take (min t.size dLen)).map fun x => Value.int .u8 (x.toNat : Int))) := by
  have hl : ((t.data.toList.take (min t.size dLen)).map fun x => Value.int .u8 (x.toNat : Int)).length = min t.size dLen := by rw [List.length_map, List.length_take, size_len]; omega
  have hst := run_storeCells_cells (P := Tryz.prog) b o ((t.data.toList.take (min t.size dLen)).map fun x => Value.int .u8 (x.toNat : Int)) 0 w (by rw [hl]; simpa using hc) (by rw [hl]; simpa using hf) (by
    intro v hv
    obtain ⟨x, _, rfl⟩ := List.mem_map.1 hv
    rfl)
  simp [Builtin.copy_, run_underlying Tryz.underlying99, Builtin.lenOf, Builtin.firstCells, Tryz.sizeOf5]
  rw [← List.map_take, show Nat.min t.size dLen = min t.size dLen from rfl, hst]
  rfl

/-- The first three bytes, 0 where there is none. -/
def byteAt (l : List UInt8) (i : Nat) : UInt8 := l.getD i 0

theorem copy_three (wr : World) (T : TypeId) (s : ByteArray) (h : s.data.toList ≠ []) :
    (Builtin.copy_ #[99, 9] 3 #[.slice (some ⟨wr.heap.size, 0, none⟩) 3 3, .string s]).run Tryz.prog (wr.alloc (.cells #[.int .u8 0, .int .u8 0, .int .u8 0] T)) =
      .ok (.int .i64 (min s.size 3 : Nat)) (wr.alloc (.cells #[.int .u8 ((byteAt s.data.toList 0).toNat : Int), .int .u8 ((byteAt s.data.toList 1).toNat : Int), .int .u8 ((byteAt s.data.toList 2).toNat : Int)] T)) := by
  rw [copy_run]
  · congr 1
    have hs := size_len s
    rcases hd : s.data.toList with _ | ⟨a, _ | ⟨b, _ | ⟨c, r⟩⟩⟩
    · exact absurd hd h
    · rw [hd] at hs
      simp at hs
      rw [← hs]
      simp [byteAt, World.setCells, go_sem]
    · rw [hd] at hs
      simp at hs
      rw [← hs]
      simp [byteAt, World.setCells, go_sem]
    · rw [hd] at hs
      simp at hs
      rw [← hs, show min (r.length + 1 + 1 + 1) 3 = 3 by omega]
      simp [byteAt, World.setCells, go_sem]
  · intro j hj
    have : j < 3 := by omega
    rcases j with _ | _ | _ | j <;> simp [go_sem] <;> omega
  · intro j hj
    simp [go_sem]
end Go.Proofs.YtdmaffciijmdcaaGreatDoor

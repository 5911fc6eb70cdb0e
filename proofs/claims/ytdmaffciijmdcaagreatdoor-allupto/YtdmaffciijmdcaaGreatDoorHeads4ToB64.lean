/-
  Package heads: Only.
-/
import Derived.Test.YtdmaffciijmdcaaGreatDoorHeads3C
import Derived.Lib.LazyBuf
import Derived.Laws.BytesArg
import Derived.Laws.BitsAllLaws
namespace Go.Proofs.YtdmaffciijmdcaaGreatDoor
namespace Plain
/-- Among the first k: how many of that name, and the last one's value. -/
def lastOf (fs : List (List UInt8 × List UInt8)) (n : List UInt8) : List UInt8 := match (fs.filter (fun f => f.1 == n)).getLast? with
  | none => []
  | some f => f.2
def manyOf (fs : List (List UInt8 × List UInt8)) (n : List UInt8) : Nat := (fs.filter (fun f => f.1 == n)).length
theorem many_snoc (fs : List (List UInt8 × List UInt8)) (f : List UInt8 × List UInt8) (n : List UInt8) : (f.1 == n) = true → manyOf (fs ++ [f]) n = manyOf fs n + 1 ∧ lastOf (fs ++ [f]) n = f.2 := by
  intro h
  unfold manyOf lastOf
  rw [List.filter_append]
  simp [h]
theorem many_skip (fs : List (List UInt8 × List UInt8)) (f : List UInt8 × List UInt8) (n : List UInt8) : (f.1 == n) = false → manyOf (fs ++ [f]) n = manyOf fs n ∧ lastOf (fs ++ [f]) n = lastOf fs n := by
  intro h
  unfold manyOf lastOf
  rw [List.filter_append]
  simp [h]
theorem many_le (fs : List (List UInt8 × List UInt8)) (n : List UInt8) : manyOf fs n ≤ fs.length := List.length_filter_le _ _
theorem only_one {fs : List (List UInt8 × List UInt8)} {n : List UInt8} : onlyS fs n = if manyOf fs n = 1 then some (lastOf fs n) else none := by
  unfold onlyS manyOf lastOf
  generalize fs.filter (fun f => f.1 == n) = l
  rcases l with _ | ⟨a, _ | ⟨b, r⟩⟩ <;> simp
theorem take_snocL {α : Type} {l : List α} {k : Nat} {x : α} (h : l[k]? = some x) : l.take (k + 1) = l.take k ++ [x] := by
  obtain ⟨hk, rfl⟩ := List.getElem?_eq_some_iff.1 h
  rw [List.take_succ_eq_append_getElem hk]
end Plain
open Go.RowKit Plain

theorem ret_strb {a b : ByteArray} {x y : Bool} (h : a = b) (h2 : x = y) : Ending.returned (.tuple #[.string a, .bool x]) = .returned (.tuple #[.string b, .bool y]) := by rw [h, h2]

set_option maxRecDepth 100000 in
set_option maxHeartbeats 1600000 in
theorem only_any (m t : ByteArray) (v : Value) (fs : List (List UInt8 × List UInt8)) (n : ByteArray) (w : World) (hv : PairsAt (fun b => b < w.heap.size) w v fs) (hl : fs.length ≤ 2000) :
    Calls Tryz.prog 176 #[.agg #[.string m, .string t, v], .string n] w fun e w' => e = .returned (.tuple #[str (lastOf fs n.data.toList), .bool (decide (manyOf fs n.data.toList = 1))]) ∧ Q w w' := by
  obtain ⟨a, cap, rfl, hat⟩ := hv
  have HAt := show Hid _ from hat
  clear hat
  go_enter Tryz.func176, Tryz.ntmps176
  go_wp2_with fail
  go_loopw [12, 4, 6, 8] (fun i v c _ wr => ∃ (k : Nat) (V : ByteArray), k ≤ fs.length ∧ i = .int .i64 k ∧ v = .string V ∧ c = .int .i64 (manyOf (fs.take k) n.data.toList : Nat) ∧ Hid (V.data.toList = lastOf (fs.take k) n.data.toList) ∧ Q w wr) (fun i _ _ _ _ => fs.length - (intOf i).toNat)
  case atStart => exact ⟨0, ⟨#[]⟩, Nat.zero_le _, rfl, rfl, rfl, rfl, (Q.refl _).alloc _⟩
  case round =>
    obtain ⟨k, V, hk, rfl, rfl, rfl, hV, hq⟩ := hrel
    by_cases hlt : k < fs.length
    · have hget : fs[k]? = some fs[k] := List.getElem?_eq_getElem hlt
      obtain ⟨g, hg, rfl, h1, h2⟩ := HAt.out k _ hget
      generalize fs[k] = f at *
      obtain ⟨f1, f2⟩ := f
      obtain ⟨F, rfl⟩ : ∃ M : ByteArray, M.data.toList = f1 := ⟨⟨f1.toArray⟩, rfl⟩
      obtain ⟨G, rfl⟩ : ∃ M : ByteArray, M.data.toList = f2 := ⟨⟨f2.toArray⟩, rfl⟩
      have c1 : wr.cell? ⟨g, k * 2, none⟩ = some (.string F) := hq.cell h1
      have c2 : wr.cell? ⟨g, k * 2 + 1, none⟩ = some (.string G) := hq.cell h2
      have htk := take_snocL hget
      have hm1 := many_le (fs.take k) n.data.toList
      rw [List.length_take] at hm1
      have hm2 : manyOf (fs.take k) n.data.toList ≤ 2000 := by omega
      cases hb : (F.data.toList == n.data.toList)
      · obtain ⟨k1, k2⟩ := many_skip (fs.take k) (F.data.toList, G.data.toList) n.data.toList hb
        rw [← htk] at k1 k2
        have hbb : (F.toList == n.toList) = false := by rw [Lib.toList_data, Lib.toList_data]; exact hb
        have K1 := show Hid _ from k1
        have K2 := show Hid _ from k2
        clear k1 k2 htk hb h1 h2 hm1 hget HAt
        generalize manyOf (fs.take k) n.data.toList = q at *
        go_wp2_with fail
        refine ⟨⟨k + 1, V, by omega, by go_num, rfl, by rw [K1.out], ?_, hq.alloc _⟩, by simp [intOf]; omega⟩
        show _ = _
        rw [K2.out]; exact hV.out
      · obtain ⟨k1, k2⟩ := many_snoc (fs.take k) (F.data.toList, G.data.toList) n.data.toList hb
        rw [← htk] at k1 k2
        have hbb : (F.toList == n.toList) = true := by rw [Lib.toList_data, Lib.toList_data]; exact hb
        have K1 := show Hid _ from k1
        have K2 := show Hid _ from k2
        clear k1 k2 htk hb h1 h2 hm1 hget HAt
        generalize manyOf (fs.take k) n.data.toList = q at *
        go_wp2_with fail
        refine ⟨⟨k + 1, G, by omega, by go_num, rfl, by rw [K1.out]; go_num, ?_, hq.alloc _⟩, by simp [intOf]; omega⟩
        show _ = _
        rw [K2.out]
    · have hT : fs.take k = fs := List.take_of_length_le (by omega)
      have HV : Hid (V.data.toList = lastOf fs n.data.toList) := by
        have := hV.out
        rwa [hT] at this
      rw [hT]
      have hm2 : manyOf fs n.data.toList ≤ 2000 := Nat.le_trans (many_le _ _) hl
      obtain ⟨q, hq0⟩ : ∃ q, q = manyOf fs n.data.toList := ⟨_, rfl⟩
      have HQ0 := show Hid _ from hq0
      rw [← hq0] at hm2 ⊢
      clear hV hT hq0 HAt
      cases h1 : ((q : Int) == 1)
      · have h2 : ¬ q = 1 := fun e => by rw [e] at h1; cases h1
        have H2 := show Hid _ from h2
        clear h2
        go_wp2_with fail
        go_ret2
        exact ⟨ret_strb (by rw [← HV.out]) (by rw [← HQ0.out, decide_eq_false H2.out]), hq⟩
      · have h2 : q = 1 := by have := beq_iff_eq.1 h1; omega
        have H2 := show Hid _ from h2
        clear h2
        go_wp2_with fail
        go_ret2
        exact ⟨ret_strb (by rw [← HV.out]) (by rw [← HQ0.out, decide_eq_true H2.out]), hq⟩
end Go.Proofs.YtdmaffciijmdcaaGreatDoor
namespace Go.Proofs.YtdmaffciijmdcaaGreatDoor
open Go.RowKit Plain

theorem copy_run (w : World) (b o dLen dCap : Nat) (t : ByteArray)
    (hc : ∀ j, j < min t.size dLen → (w.cell? ⟨b, o + j, none⟩).isSome = true) (hf : ∀ j, j < min t.size dLen → w.frozen? ⟨b, o + j, none⟩ = false) :
    (Builtin.copy_ #[99, 9] 3 #[.slice (some ⟨b, o, none⟩) dLen dCap, .string t]).run Tryz.prog w = .ok (.int .i64 (min t.size dLen : Nat)) (w.setCells b o ((t.data.toList.take (min t.size dLen)).map fun x => Value.int .u8 (x.toNat : Int))) := by
  have hl : ((t.data.toList.take (min t.size dLen)).map fun x => Value.int .u8 (x.toNat : Int)).length = min t.size dLen := by rw [List.length_map, List.length_take, size_len]; omega
  have hst := run_storeCells_cells (P := Tryz.prog) b o ((t.data.toList.take (min t.size dLen)).map fun x => Value.int .u8 (x.toNat : Int)) 0 w (by rw [hl]; simpa using hc) (by rw [hl]; simpa using hf) (by
    intro v hv
    obtain ⟨x, _, rfl⟩ := List.mem_map.1 hv
    rfl)
  simp [Builtin.copy_, run_underlying Tryz.underlying99, Builtin.lenOf, Builtin.firstCells, Tryz.sizeOf5]
  rw [← List.map_take, show Nat.min t.size dLen = min t.size dLen from rfl, hst]
  rfl

/-- The first three bytes, 0 where there is none. -/
def byteAt (l : List UInt8) (i : Nat) : UInt8 := l.getD i 0

theorem copy_three (wr : World) (T : TypeId) (s : ByteArray) (h : s.data.toList ≠ []) :
    (Builtin.copy_ #[99, 9] 3 #[.slice (some ⟨wr.heap.size, 0, none⟩) 3 3, .string s]).run Tryz.prog (wr.alloc (.cells #[.int .u8 0, .int .u8 0, .int .u8 0] T)) =
      .ok (.int .i64 (min s.size 3 : Nat)) (wr.alloc (.cells #[.int .u8 ((byteAt s.data.toList 0).toNat : Int), .int .u8 ((byteAt s.data.toList 1).toNat : Int), .int .u8 ((byteAt s.data.toList 2).toNat : Int)] T)) := by
  rw [copy_run]
  · congr 1
    have hs := size_len s
    rcases hd : s.data.toList with _ | ⟨a, _ | ⟨b, _ | ⟨c, r⟩⟩⟩
    · exact absurd hd h
    · rw [hd] at hs
      simp at hs
      rw [← hs]
      simp [byteAt, World.setCells, go_sem]
    · rw [hd] at hs
      simp at hs
      rw [← hs]
      simp [byteAt, World.setCells, go_sem]
    · rw [hd] at hs
      simp at hs
      rw [← hs, show min (r.length + 1 + 1 + 1) 3 = 3 by omega]
      simp [byteAt, World.setCells, go_sem]
  · intro j hj
    have : j < 3 := by omega
    rcases j with _ | _ | _ | j <;> simp [go_sem] <;> omega
  · intro j hj
    simp [go_sem]
end Go.Proofs.YtdmaffciijmdcaaGreatDoor
/-
  Package tenants: base 64.
-/
namespace Go.Proofs.YtdmaffciijmdcaaGreatDoor
open Go.RowKit Plain

theorem or_mulN (a b i m : Nat) (hm : m = 2 ^ i) (h : a < m) : b * m ||| a = b * m + a := by
  subst hm
  rw [← Nat.shiftLeft_eq, Nat.shiftLeft_add_eq_or_of_lt h]
theorem and63 (n : Nat) : n &&& 63 = n % 64 := Nat.and_two_pow_sub_one_eq_mod n 6

theorem bits_facts (a b c : UInt8) : ∃ P N i1 i2 i3 i4 : Nat, bits .or .u32 ((a.toNat : Int) * 65536) ((b.toNat : Int) * 256) = (P : Int) ∧ bits .or .u32 (P : Int) (c.toNat : Int) = (N : Int) ∧
    bits .and .u32 ((N : Int) / 262144) 63 = (i1 : Int) ∧ bits .and .u32 ((N : Int) / 4096) 63 = (i2 : Int) ∧ bits .and .u32 ((N : Int) / 64) 63 = (i3 : Int) ∧ bits .and .u32 (N : Int) 63 = (i4 : Int) ∧
    i1 < 64 ∧ i2 < 64 ∧ i3 < 64 ∧ i4 < 64 ∧ Hid (i1 = bits3 a b c / 262144 % 64 ∧ i2 = bits3 a b c / 4096 % 64 ∧ i3 = bits3 a b c / 64 % 64 ∧ i4 = bits3 a b c % 64) := by
  have ha := a.toNat_lt
  have hb := b.toNat_lt
  have hc := c.toNat_lt
  have hN : bits3 a b c = a.toNat * 65536 + b.toNat * 256 + c.toNat := rfl
  have hlt : bits3 a b c < 16777216 := by omega
  refine ⟨a.toNat * 65536 + b.toNat * 256, bits3 a b c, bits3 a b c / 262144 % 64, bits3 a b c / 4096 % 64, bits3 a b c / 64 % 64, bits3 a b c % 64, ?_, ?_, ?_, ?_, ?_, ?_, Nat.mod_lt _ (by decide), Nat.mod_lt _ (by decide), Nat.mod_lt _ (by decide), Nat.mod_lt _ (by decide), rfl, rfl, rfl, rfl⟩
  · rw [show ((a.toNat : Int) * 65536) = ((a.toNat * 65536 : Nat) : Int) by omega, show ((b.toNat : Int) * 256) = ((b.toNat * 256 : Nat) : Int) by omega, u32_or_nat _ _ (by omega) (by omega), or_mulN (b.toNat * 256) a.toNat 16 65536 (by decide) (by omega)]
  · rw [u32_or_nat _ _ (by omega) (by omega), show a.toNat * 65536 + b.toNat * 256 = (a.toNat * 256 + b.toNat) * 256 by omega, or_mulN c.toNat _ 8 256 (by decide) (by omega), hN]
    omega
  · rw [show ((bits3 a b c : Int) / 262144) = ((bits3 a b c / 262144 : Nat) : Int) by omega, show (63 : Int) = ((63 : Nat) : Int) from rfl, u32_and_nat _ _ (by omega) (by decide), and63]
  · rw [show ((bits3 a b c : Int) / 4096) = ((bits3 a b c / 4096 : Nat) : Int) by omega, show (63 : Int) = ((63 : Nat) : Int) from rfl, u32_and_nat _ _ (by omega) (by decide), and63]
  · rw [show ((bits3 a b c : Int) / 64) = ((bits3 a b c / 64 : Nat) : Int) by omega, show (63 : Int) = ((63 : Nat) : Int) from rfl, u32_and_nat _ _ (by omega) (by decide), and63]
  · rw [show (63 : Int) = ((63 : Nat) : Int) from rfl, u32_and_nat _ _ (by omega) (by decide), and63]

abbrev LA : ByteArray := ⟨#[65, 66, 67, 68, 69, 70, 71, 72, 73, 74, 75, 76, 77, 78, 79, 80, 81, 82, 83, 84, 85, 86, 87, 88, 89, 90, 97, 98, 99, 100, 101, 102, 103, 104, 105, 106, 107, 108, 109, 110, 111, 112, 113, 114, 115, 116, 117, 118, 119, 120, 121, 122, 48, 49, 50, 51, 52, 53, 54, 55, 56, 57, 43, 47]⟩
theorem la_get (i n : Nat) (e : i = n % 64) (p : i < LA.size) : LA[i]'p = six n := by
  subst e
  unfold six
  rw [List.getD_eq_getElem?_getD, List.getElem?_eq_getElem (show n % 64 < letters.length from Nat.mod_lt _ (by decide))]
  rfl
theorem four_eq {i1 i2 i3 i4 n1 n2 n3 n4 : Nat} (h1 : i1 = n1 % 64) (h2 : i2 = n2 % 64) (h3 : i3 = n3 % 64) (h4 : i4 = n4 % 64) (p1 : i1 < LA.size) (p2 : i2 < LA.size) (p3 : i3 < LA.size) (p4 : i4 < LA.size) :
    Ending.returned (.agg #[.int .u8 ((LA[i1]'p1).toNat : Int), .int .u8 ((LA[i2]'p2).toNat : Int), .int .u8 ((LA[i3]'p3).toNat : Int), .int .u8 ((LA[i4]'p4).toNat : Int)]) = .returned (.agg #[.int .u8 ((six n1).toNat : Int), .int .u8 ((six n2).toNat : Int), .int .u8 ((six n3).toNat : Int), .int .u8 ((six n4).toNat : Int)]) := by
  rw [la_get i1 n1 h1, la_get i2 n2 h2, la_get i3 n3 h3, la_get i4 n4 h4]

set_option maxRecDepth 100000 in
set_option maxHeartbeats 1600000 in
theorem fourOf_any (a b c : UInt8) (w : World) :
    Calls Tryz.prog 163 #[.agg #[u8 a.toNat, u8 b.toNat, u8 c.toNat]] w fun e w' => e = .returned (.agg #[u8 (six (bits3 a b c / 262144)).toNat, u8 (six (bits3 a b c / 4096)).toNat, u8 (six (bits3 a b c / 64)).toNat, u8 (six (bits3 a b c)).toNat]) ∧ Q w w' := by
  obtain ⟨P, N, i1, i2, i3, i4, hP, hN, h1, h2, h3, h4, l1, l2, l3, l4, HI⟩ := bits_facts a b c
  have ha := a.toNat_lt
  have hb := b.toNat_lt
  have hc := c.toNat_lt
  have ea : ((a.toNat : Int) % 4294967296) = a.toNat := by omega
  have eb : ((b.toNat : Int) % 4294967296) = b.toNat := by omega
  have ec : ((c.toNat : Int) % 4294967296) = c.toNat := by omega
  have ea2 : ((a.toNat : Int) * 65536 % 4294967296) = (a.toNat : Int) * 65536 := by omega
  have eb2 : ((b.toNat : Int) * 256 % 4294967296) = (b.toNat : Int) * 256 := by omega
  clear ha hb hc
  unfold u8
  go_enter Tryz.func163, Tryz.ntmps163
  go_wp2_with fail
  refine wp_loop_rounds 5 ?_
  rw [rounds_succ]
  go_wp2_with fail
  rw [rounds_succ]
  go_wp2_with fail
  rw [rounds_succ]
  go_wp2_with fail
  rw [rounds_succ]
  go_wp2_with fail
  rw [rounds_succ]
  go_wp2_with fail
  go_returns
  obtain ⟨H1, H2, H3, H4⟩ := HI.out
  exact ⟨four_eq H1 H2 H3 H4 l1 l2 l3 l4, by unfold Q; go_grown⟩

/-- Bytes as a row's cells. -/
def bvals (l : List UInt8) : List Value := l.map fun c => .int .u8 (c.toNat : Int)
theorem bvals_append (a b : List UInt8) : bvals (a ++ b) = bvals a ++ bvals b := by simp [bvals]
theorem bvals_len (a : List UInt8) : (bvals a).length = a.length := by simp [bvals]

/-- What a round lays. -/
def quad : List UInt8 → List UInt8
  | [] => []
  | [a] => [six (bits3 a 0 0 / 262144), six (bits3 a 0 0 / 4096), 61, 61]
  | [a, b] => [six (bits3 a b 0 / 262144), six (bits3 a b 0 / 4096), six (bits3 a b 0 / 64), 61]
  | a :: b :: c :: _ => [six (bits3 a b c / 262144), six (bits3 a b c / 4096), six (bits3 a b c / 64), six (bits3 a b c)]
theorem b64_quad (l : List UInt8) (h : l ≠ []) : b64 l = quad l ++ b64 (l.drop 3) := by
  rcases l with _ | ⟨a, _ | ⟨b, _ | ⟨c, r⟩⟩⟩
  · exact absurd rfl h
  · simp [b64, quad]
  · simp [b64, quad]
  · simp [b64, quad]

set_option maxRecDepth 100000 in
set_option maxHeartbeats 1600000 in
theorem base64_any (s : ByteArray) (w : World) (hs : s.size ≤ 1000) :
    Calls Tryz.prog 125 #[.string s] w fun e w' => e = .returned (str (b64 s.data.toList)) ∧ Q w w' := by
  go_enter Tryz.func125, Tryz.ntmps125
  go_wp2_with fail
  go_loopw [0, 3, 4, 5, 6, 7] (fun t o _ _ _ _ wr => ∃ (rest : ByteArray) (done : List UInt8), t = .string rest ∧ rest.size ≤ 1000 ∧ Q w wr ∧ Hid (wr.ownsRow w.heap.size 5 1 o done.length (bvals done)) ∧ Hid (b64 s.data.toList = done ++ b64 rest.data.toList ∧ done.length + 4 * rest.size ≤ 4000)) (fun t _ _ _ _ _ _ => strLen t)
  case atStart => exact ⟨s, [], rfl, hs, Q.refl _, ⟨rfl, .inl ⟨rfl, rfl⟩⟩, rfl, by simp; omega⟩
  case round =>
    obtain ⟨rest, done, rfl, hrs, hq, hown, hsp⟩ := hrel
    rcases hd : rest.data.toList with _ | ⟨a, _ | ⟨b, _ | ⟨c, r⟩⟩⟩
    · have hemp : rest.toList.isEmpty = true := by rw [Lib.toList_data, hd]; rfl
      have HE : Hid (b64 s.data.toList = done) := by
        show _ = _
        rw [hsp.out.1, hd]; simp [b64]
      have hcv : (convert 99 9 u3).run Tryz.prog wr = .ok (.string ⟨done.toArray⟩) wr := by
        rcases hown.out.2 with ⟨rfl, hn⟩ | ⟨g, cap, cur, rfl, hb, hg, h4, h5, h6, h7⟩
        · have := List.eq_nil_of_length_eq_zero hn
          subst this
          exact run_convert_bytes_nil wr 99 5 Tryz.underlying99 Tryz.underlying5 0 0 9 Tryz.underlying9
        · refine run_convert_bytes_back (P := Tryz.prog) wr 99 9 5 ⟨g, 0, none⟩ cap done Tryz.underlying99 Tryz.underlying5 Tryz.underlying9 (fun j hj => ?_)
          rw [show (⟨g, 0, none⟩ : Addr).add j = ⟨g, j, none⟩ from by unfold Addr.add; simp; exact fun h => h.symm, cell_of_row wr g j cur 5 (0, 0) hg]
          have hj2 : (cur.toList.take (done.length * 1))[j]? = some (.int .u8 ((done[j]).toNat : Int)) := by
            rw [h7, bvals, List.getElem?_map, List.getElem?_eq_getElem hj]; rfl
          rw [List.getElem?_take, if_pos (by omega)] at hj2
          simpa using hj2
      clear hown hsp hd
      go_wp2_with fail
      go_ret
      exact ⟨by unfold str; rw [HE.out]; rfl, hq⟩
    all_goals have hemp : rest.toList.isEmpty = false := by rw [Lib.toList_data, hd]; rfl
    · have hsz : min rest.size 3 = 1 := by rw [← size_len, hd]; rfl
      have hle : 1 ≤ rest.size := by omega
      have hcp := copy_three wr 215 rest (by rw [hd]; simp)
      rw [hsz, hd] at hcp
      simp only [byteAt, List.getD_cons_zero, List.getD_cons_succ, List.getD_nil] at hcp
      have HF4 := fun x => show Hid _ from fourOf_any a 0 0 x
      have HQd : Hid (quad rest.data.toList = [six (bits3 a 0 0 / 262144), six (bits3 a 0 0 / 4096), 61, 61]) := by
        show _ = _
        rw [hd]; rfl
      have hdr : (rest.extract 1 rest.size).data.toList = rest.data.toList.drop 1 := by rw [Lib.extract_to_end]
      have HDr : Hid ((rest.extract 1 rest.size).data.toList = rest.data.toList.drop 3) := by
        show _ = _
        rw [hdr, hd]; rfl
      have hlen : (rest.extract 1 rest.size).size + 1 = rest.size := by rw [ByteArray.size_extract]; omega
      have HNE : Hid (rest.data.toList ≠ []) := by
        show _ ≠ _
        rw [hd]; simp
      clear hd hdr hsz
      go_wp2_with fail
      refine Calls.mono (Hid.out (HF4 _)) ?_
      rintro e w4 ⟨rfl, hq4⟩
      have q4 : Q wr w4 := ((Q.refl _).alloc _).trans hq4
      clear hq4 hcp HF4
      go_wp2_with fail
      have q6 : Q wr (w4.alloc (.cells #[.int .u8 ((six (bits3 a 0 0 / 262144)).toNat : Int), .int .u8 ((six (bits3 a 0 0 / 4096)).toNat : Int), .int .u8 61, .int .u8 61] 208)) := q4.alloc _
      have HO := show Hid _ from owns_Q hown.out q6
      have HNw := show Hid _ from World.news_of_block (w := w4.alloc (.cells #[.int .u8 ((six (bits3 a 0 0 / 262144)).toNat : Int), .int .u8 ((six (bits3 a 0 0 / 4096)).toNat : Int), .int .u8 61, .int .u8 61] 208)) (B := w4.heap.size) (cs := #[.int .u8 ((six (bits3 a 0 0 / 262144)).toNat : Int), .int .u8 ((six (bits3 a 0 0 / 4096)).toNat : Int), .int .u8 61, .int .u8 61]) (t := 208) (fr := (0, 0)) (heap_alloc_new w4 _)
      have HOne : Hid (∀ u ∈ ([.int .u8 ((six (bits3 a 0 0 / 262144)).toNat : Int), .int .u8 ((six (bits3 a 0 0 / 4096)).toNat : Int), .int .u8 61, .int .u8 61] : List Value), u.oneCell' = true) := by
        intro u hu
        simp only [List.mem_cons, List.not_mem_nil, or_false] at hu
        rcases hu with rfl | rfl | rfl | rfl <;> rfl
      have hsz6 : w.heap.size ≤ w4.heap.size := (hq.trans q4).size
      have hb4 := hsp.out.2
      refine wp_loop_rounds 4 ?_
      rw [rounds_succ]
      go_wp2_with fail
      rw [rounds_succ]
      go_wp2_with fail
      rw [rounds_succ]
      go_wp2_with (first | (at_builtin; refine wpList_append_lies _ rfl (.tmp 23) (.tmp 24) 99 rfl w.heap.size 5 Tryz.t5 (.int .u8 0) 1 1 Tryz.underlying99 (by kernel_rfl) (by kernel_rfl) (by kernel_rfl) (by kernel_rfl) rfl (by decide) u3 done.length (bvals done) rfl HO.out ⟨w4.heap.size, 0, none⟩ 4 4 [.int .u8 ((six (bits3 a 0 0 / 262144)).toNat : Int), .int .u8 ((six (bits3 a 0 0 / 4096)).toNat : Int), .int .u8 61, .int .u8 61] rfl rfl HNw.out HOne.out (by decide) (by unfold maxLen; omega) (by omega) (by simp; omega) (w4.heap.size + 1) (by simp) ?_; intro g cap w7 hown7 hgrow hat hlt7))
      refine ⟨⟨rest.extract 1 rest.size, done ++ quad rest.data.toList, rfl, by omega, ?_, ?_, ?_⟩, ?_⟩
      · exact Below.grown (hq.trans q6) hgrow (hq.trans q6).size (fun k hk => (owns_lt HO.out k hk).1)
      · show World.ownsRow _ _ _ _ _ _ _
        rw [HQd.out, List.length_append, bvals_append]
        exact hown7
      · refine ⟨?_, ?_⟩
        · rw [hsp.out.1, b64_quad _ HNE.out, HDr.out, List.append_assoc]
        · rw [HQd.out, List.length_append]
          show done.length + 4 + _ ≤ 4000
          omega
      · show (rest.extract 1 rest.size).size < rest.size
        omega
    · have hsz : min rest.size 3 = 2 := by rw [← size_len, hd]; rfl
      have hle : 2 ≤ rest.size := by omega
      have hcp := copy_three wr 215 rest (by rw [hd]; simp)
      rw [hsz, hd] at hcp
      simp only [byteAt, List.getD_cons_zero, List.getD_cons_succ, List.getD_nil] at hcp
      have HF4 := fun x => show Hid _ from fourOf_any a b 0 x
      have HQd : Hid (quad rest.data.toList = [six (bits3 a b 0 / 262144), six (bits3 a b 0 / 4096), six (bits3 a b 0 / 64), 61]) := by
        show _ = _
        rw [hd]; rfl
      have hdr : (rest.extract 2 rest.size).data.toList = rest.data.toList.drop 2 := by rw [Lib.extract_to_end]
      have HDr : Hid ((rest.extract 2 rest.size).data.toList = rest.data.toList.drop 3) := by
        show _ = _
        rw [hdr, hd]; rfl
      have hlen : (rest.extract 2 rest.size).size + 2 = rest.size := by rw [ByteArray.size_extract]; omega
      have HNE : Hid (rest.data.toList ≠ []) := by
        show _ ≠ _
        rw [hd]; simp
      clear hd hdr hsz
      go_wp2_with fail
      refine Calls.mono (Hid.out (HF4 _)) ?_
      rintro e w4 ⟨rfl, hq4⟩
      have q4 : Q wr w4 := ((Q.refl _).alloc _).trans hq4
      clear hq4 hcp HF4
      go_wp2_with fail
      have q6 : Q wr (w4.alloc (.cells #[.int .u8 ((six (bits3 a b 0 / 262144)).toNat : Int), .int .u8 ((six (bits3 a b 0 / 4096)).toNat : Int), .int .u8 ((six (bits3 a b 0 / 64)).toNat : Int), .int .u8 61] 208)) := q4.alloc _
      have HO := show Hid _ from owns_Q hown.out q6
      have HNw := show Hid _ from World.news_of_block (w := w4.alloc (.cells #[.int .u8 ((six (bits3 a b 0 / 262144)).toNat : Int), .int .u8 ((six (bits3 a b 0 / 4096)).toNat : Int), .int .u8 ((six (bits3 a b 0 / 64)).toNat : Int), .int .u8 61] 208)) (B := w4.heap.size) (cs := #[.int .u8 ((six (bits3 a b 0 / 262144)).toNat : Int), .int .u8 ((six (bits3 a b 0 / 4096)).toNat : Int), .int .u8 ((six (bits3 a b 0 / 64)).toNat : Int), .int .u8 61]) (t := 208) (fr := (0, 0)) (heap_alloc_new w4 _)
      have HOne : Hid (∀ u ∈ ([.int .u8 ((six (bits3 a b 0 / 262144)).toNat : Int), .int .u8 ((six (bits3 a b 0 / 4096)).toNat : Int), .int .u8 ((six (bits3 a b 0 / 64)).toNat : Int), .int .u8 61] : List Value), u.oneCell' = true) := by
        intro u hu
        simp only [List.mem_cons, List.not_mem_nil, or_false] at hu
        rcases hu with rfl | rfl | rfl | rfl <;> rfl
      have hsz6 : w.heap.size ≤ w4.heap.size := (hq.trans q4).size
      have hb4 := hsp.out.2
      refine wp_loop_rounds 4 ?_
      rw [rounds_succ]
      go_wp2_with fail
      rw [rounds_succ]
      go_wp2_with (first | (at_builtin; refine wpList_append_lies _ rfl (.tmp 23) (.tmp 24) 99 rfl w.heap.size 5 Tryz.t5 (.int .u8 0) 1 1 Tryz.underlying99 (by kernel_rfl) (by kernel_rfl) (by kernel_rfl) (by kernel_rfl) rfl (by decide) u3 done.length (bvals done) rfl HO.out ⟨w4.heap.size, 0, none⟩ 4 4 [.int .u8 ((six (bits3 a b 0 / 262144)).toNat : Int), .int .u8 ((six (bits3 a b 0 / 4096)).toNat : Int), .int .u8 ((six (bits3 a b 0 / 64)).toNat : Int), .int .u8 61] rfl rfl HNw.out HOne.out (by decide) (by unfold maxLen; omega) (by omega) (by simp; omega) (w4.heap.size + 1) (by simp) ?_; intro g cap w7 hown7 hgrow hat hlt7))
      refine ⟨⟨rest.extract 2 rest.size, done ++ quad rest.data.toList, rfl, by omega, ?_, ?_, ?_⟩, ?_⟩
      · exact Below.grown (hq.trans q6) hgrow (hq.trans q6).size (fun k hk => (owns_lt HO.out k hk).1)
      · show World.ownsRow _ _ _ _ _ _ _
        rw [HQd.out, List.length_append, bvals_append]
        exact hown7
      · refine ⟨?_, ?_⟩
        · rw [hsp.out.1, b64_quad _ HNE.out, HDr.out, List.append_assoc]
        · rw [HQd.out, List.length_append]
          show done.length + 4 + _ ≤ 4000
          omega
      · show (rest.extract 2 rest.size).size < rest.size
        omega
    · have hsz : min rest.size 3 = 3 := by rw [← size_len, hd]; simp
      have hle : 3 ≤ rest.size := by omega
      have hcp := copy_three wr 215 rest (by rw [hd]; simp)
      rw [hsz, hd] at hcp
      simp only [byteAt, List.getD_cons_zero, List.getD_cons_succ] at hcp
      have HF4 := fun x => show Hid _ from fourOf_any a b c x
      have HQd : Hid (quad rest.data.toList = [six (bits3 a b c / 262144), six (bits3 a b c / 4096), six (bits3 a b c / 64), six (bits3 a b c)]) := by
        show _ = _
        rw [hd]; rfl
      have hdr : (rest.extract 3 rest.size).data.toList = rest.data.toList.drop 3 := by rw [Lib.extract_to_end]
      have HDr : Hid ((rest.extract 3 rest.size).data.toList = rest.data.toList.drop 3) := by
        show _ = _
        rw [hdr, hd]
      have hlen : (rest.extract 3 rest.size).size + 3 = rest.size := by rw [ByteArray.size_extract]; omega
      have HNE : Hid (rest.data.toList ≠ []) := by
        show _ ≠ _
        rw [hd]; simp
      clear hd hdr hsz
      go_wp2_with fail
      refine Calls.mono (Hid.out (HF4 _)) ?_
      rintro e w4 ⟨rfl, hq4⟩
      have q4 : Q wr w4 := ((Q.refl _).alloc _).trans hq4
      clear hq4 hcp HF4
      go_wp2_with fail
      have q6 : Q wr (w4.alloc (.cells #[.int .u8 ((six (bits3 a b c / 262144)).toNat : Int), .int .u8 ((six (bits3 a b c / 4096)).toNat : Int), .int .u8 ((six (bits3 a b c / 64)).toNat : Int), .int .u8 ((six (bits3 a b c)).toNat : Int)] 208)) := q4.alloc _
      have HO := show Hid _ from owns_Q hown.out q6
      have HNw := show Hid _ from World.news_of_block (w := w4.alloc (.cells #[.int .u8 ((six (bits3 a b c / 262144)).toNat : Int), .int .u8 ((six (bits3 a b c / 4096)).toNat : Int), .int .u8 ((six (bits3 a b c / 64)).toNat : Int), .int .u8 ((six (bits3 a b c)).toNat : Int)] 208)) (B := w4.heap.size) (cs := #[.int .u8 ((six (bits3 a b c / 262144)).toNat : Int), .int .u8 ((six (bits3 a b c / 4096)).toNat : Int), .int .u8 ((six (bits3 a b c / 64)).toNat : Int), .int .u8 ((six (bits3 a b c)).toNat : Int)]) (t := 208) (fr := (0, 0)) (heap_alloc_new w4 _)
      have HOne : Hid (∀ u ∈ ([.int .u8 ((six (bits3 a b c / 262144)).toNat : Int), .int .u8 ((six (bits3 a b c / 4096)).toNat : Int), .int .u8 ((six (bits3 a b c / 64)).toNat : Int), .int .u8 ((six (bits3 a b c)).toNat : Int)] : List Value), u.oneCell' = true) := by
        intro u hu
        simp only [List.mem_cons, List.not_mem_nil, or_false] at hu
        rcases hu with rfl | rfl | rfl | rfl <;> rfl
      have hsz6 : w.heap.size ≤ w4.heap.size := (hq.trans q4).size
      have hb4 := hsp.out.2
      refine wp_loop_rounds 4 ?_
      rw [rounds_succ]
      go_wp2_with (first | (at_builtin; refine wpList_append_lies _ rfl (.tmp 23) (.tmp 24) 99 rfl w.heap.size 5 Tryz.t5 (.int .u8 0) 1 1 Tryz.underlying99 (by kernel_rfl) (by kernel_rfl) (by kernel_rfl) (by kernel_rfl) rfl (by decide) u3 done.length (bvals done) rfl HO.out ⟨w4.heap.size, 0, none⟩ 4 4 [.int .u8 ((six (bits3 a b c / 262144)).toNat : Int), .int .u8 ((six (bits3 a b c / 4096)).toNat : Int), .int .u8 ((six (bits3 a b c / 64)).toNat : Int), .int .u8 ((six (bits3 a b c)).toNat : Int)] rfl rfl HNw.out HOne.out (by decide) (by unfold maxLen; omega) (by omega) (by simp; omega) (w4.heap.size + 1) (by simp) ?_; intro g cap w7 hown7 hgrow hat hlt7))
      refine ⟨⟨rest.extract 3 rest.size, done ++ quad rest.data.toList, rfl, by omega, ?_, ?_, ?_⟩, ?_⟩
      · exact Below.grown (hq.trans q6) hgrow (hq.trans q6).size (fun k hk => (owns_lt HO.out k hk).1)
      · show World.ownsRow _ _ _ _ _ _ _
        rw [HQd.out, List.length_append, bvals_append]
        exact hown7
      · refine ⟨?_, ?_⟩
        · rw [hsp.out.1, b64_quad _ HNE.out, HDr.out, List.append_assoc]
        · rw [HQd.out, List.length_append]
          show done.length + 4 + _ ≤ 4000
          omega
      · show (rest.extract 3 rest.size).size < rest.size
        omega
end Go.Proofs.YtdmaffciijmdcaaGreatDoor

/-
  Package tenants: base 64.
-/
import Derived.Test.YtfkggpminmonmaaGreatDoorHeads3ToCp
import Derived.Laws.BitsAllLaws
namespace Go.Proofs.YtfkggpminmonmaaGreatDoor
open Go.RowKit Plain

theorem or_mulN (a b i m : Nat) (hm : m = 2 ^ i) (h : a < m) : b * m ||| a = b * m + a := by
  subst hm
  rw [← Nat.shiftLeft_eq, Nat.shiftLeft_add_eq_or_of_lt h]
theorem and63 (n : Nat) : n &&& 63 = n % 64 := Nat.and_two_pow_sub_one_eq_mod n 6

theorem bits_facts (a b c : UInt8) : ∃ P N i1 i2 i3 i4 : Nat, bits .or .u32 ((a.toNat : Int) * 65536) ((b.toNat : Int) * 256) = (P : Int) ∧ bits .or .u32 (P : Int) (c.toNat : Int) = (N : Int) ∧
    bits .and .u32 ((N : Int) / 262144) 63 = (i1 : Int) ∧ bits .and .u32 ((N : Int) / 4096) 63 = (i2 : Int) ∧ bits .and .u32 ((N : Int) / 64) 63 = (i3 : Int) ∧ bits .and .u32 (N : Int) 63 = (i4 : Int) ∧
    i1 < 64 ∧ i2 < 64 ∧ i3 < 64 ∧ i4 < 64 ∧ Hid (i1 = bits3 a b c / 262144 % 64 ∧ i2 = bits3 a b c / 4096 % 64 ∧ i3 = bits3 a b c / 64 % 64 ∧ i4 = bits3 a b c % 64) := by
  have ha := a.toNat_lt
  have hb := b.toNat_lt
  have hc := c.toNat_lt
  have hN : bits3 a b c = a.toNat * 65536 + b.toNat * 256 + c.toNat := rfl
  have hlt : bits3 a b c < 16777216 := by omega
  refine ⟨a.toNat * 65536 + b.toNat * 256, bits3 a b c, bits3 a b c / 262144 % 64, bits3 a b c / 4096 % 64, bits3 a b c / 64 % 64, bits3 a b c % 64, ?_, ?_, ?_, ?_, ?_, ?_, Nat.mod_lt _ (by decide), Nat.mod_lt _ (by decide), Nat.mod_lt _ (by decide), Nat.mod_lt _ (by decide), rfl, rfl, rfl, rfl⟩
  · rw [show ((a.toNat : Int) * 65536) = ((a.toNat * 65536 : Nat) : Int) by omega, show ((b.toNat : Int) * 256) = ((b.toNat * 256 : Nat) : Int) by omega, u32_or_nat _ _ (by omega) (by omega), or_mulN (b.toNat * 256) a.toNat 16 65536 (by decide) (by omega)]
  · rw [u32_or_nat _ _ (by omega) (by omega), show a.toNat * 65536 + b.toNat * 256 = (a.toNat * 256 + b.toNat) * 256 by omega, or_mulN c.toNat _ 8 256 (by decide) (by omega), hN]
    omega
  · rw [show ((bits3 a b c : Int) / 262144) = ((bits3 a b c / 262144 : Nat) : Int) by omega, show (63 : Int) = ((63 : Nat) : Int) from rfl, u32_and_nat _ _ (by omega) (by decide), and63]
  · rw [show ((bits3 a b c : Int) / 4096) = ((bits3 a b c / 4096 : Nat) : Int) by omega, show (63 : Int) = ((63 : Nat) : Int) from rfl, u32_and_nat _ _ (by omega) (by decide), and63]
  · rw [show ((bits3 a b c : Int) / 64) = ((bits3 a b c / 64 : Nat) : Int) by omega, show (63 : Int) = ((63 : Nat) : Int) from rfl, u32_and_nat _ _ (by omega) (by decide), and63]
  · rw [show (63 : Int) = ((63 : Nat) : Int) from rfl, u32_and_nat _ _ (by omega) (by decide), and63]

abbrev LA : ByteArray := ⟨#[65, 66, 67, 68, 69, 70, 71, 72, 73, 74, 75, 76, 77, 78, 79, 80, 81, 82, 83, 84, 85, 86, 87, 88, 89, 90, 97, 98, 99, 100, 101, 102, 103, 104, 105, 106, 107, 108, 109, 110, 111, 112, 113, 114, 115, 116, 117, 118, 119, 120, 121, 122, 48, 49, 50, 51, 52, 53, 54, 55, 56, 57, 43, 47]⟩
theorem la_get (i n : Nat) (e : i = n % 64) (p : i < LA.size) : LA[i]'p = six n := by
  subst e
  unfold six
  rw [List.getD_eq_getElem?_getD, List.getElem?_eq_getElem (show n % 64 < letters.length from Nat.mod_lt _ (by decide))]
  rfl
theorem four_eq {i1 i2 i3 i4 n1 n2 n3 n4 : Nat} (h1 : i1 = n1 % 64) (h2 : i2 = n2 % 64) (h3 : i3 = n3 % 64) (h4 : i4 = n4 % 64) (p1 : i1 < LA.size) (p2 : i2 < LA.size) (p3 : i3 < LA.size) (p4 : i4 < LA.size) :
    Ending.returned (.agg #[.int .u8 ((LA[i1]'p1).toNat : Int), .int .u8 ((LA[i2]'p2).toNat : Int), .int .u8 ((LA[i3]'p3).toNat : Int), .int .u8 ((LA[i4]'p4).toNat : Int)]) = .returned (.agg #[.int .u8 ((six n1).toNat : Int), .int .u8 ((six n2).toNat : Int), .int .u8 ((six n3).toNat : Int), .int .u8 ((six n4).toNat : Int)]) := by
  rw [la_get i1 n1 h1, la_get i2 n2 h2, la_get i3 n3 h3, la_get i4 n4 h4]

set_option maxRecDepth 100000 in
set_option maxHeartbeats 1600000 in
theorem fourOf_any (a b c : UInt8) (w : World) :
    Calls Tryz.prog 146 #[.agg #[u8 a.toNat, u8 b.toNat, u8 c.toNat]] w fun e w' => e = .returned (.agg #[u8 (six (bits3 a b c / 262144)).toNat, u8 (six (bits3 a b c / 4096)).toNat, u8 (six (bits3 a b c / 64)).toNat, u8 (six (bits3 a b c)).toNat]) ∧ Q w w' := by
  obtain ⟨P, N, i1, i2, i3, i4, hP, hN, h1, h2, h3, h4, l1, l2, l3, l4, HI⟩ := bits_facts a b c
  have ha := a.toNat_lt
  have hb := b.toNat_lt
  have hc := c.toNat_lt
  have ea : ((a.toNat : Int) % 4294967296) = a.toNat := by omega
  have eb : ((b.toNat : Int) % 4294967296) = b.toNat := by omega
  have ec : ((c.toNat : Int) % 4294967296) = c.toNat := by omega
  have ea2 : ((a.toNat : Int) * 65536 % 4294967296) = (a.toNat : Int) * 65536 := by omega
  have eb2 : ((b.toNat : Int) * 256 % 4294967296) = (b.toNat : Int) * 256 := by omega
  clear ha hb hc
  unfold u8
  go_enter Tryz.func146, Tryz.ntmps146
  go_wp2_with fail
  refine wp_loop_rounds 5 ?_
  rw [rounds_succ]
  go_wp2_with fail
  rw [rounds_succ]
  go_wp2_with fail
  rw [rounds_succ]
  go_wp2_with fail
  rw [rounds_succ]
  go_wp2_with fail
  rw [rounds_succ]
  go_wp2_with fail
  go_returns
  obtain ⟨H1, H2, H3, H4⟩ := HI.out
  exact ⟨four_eq H1 H2 H3 H4 l1 l2 l3 l4, by unfold Q; go_grown⟩

/-- Bytes as a row's cells. -/
def bvals (l : List UInt8) : List Value := l.map fun c => .int .u8 (c.toNat : Int)
theorem bvals_append (a b : List UInt8) : bvals (a ++ b) = bvals a ++ bvals b := by simp [bvals]
theorem bvals_len (a : List UInt8) : (bvals a).length = a.length := by simp [bvals]

/-- What a round lays. -/
def quad : List UInt8 → List UInt8
  | [] => []
  | [a] => [six (bits3 a 0 0 / 262144), six (bits3 a 0 0 / 4096), 61, 61]
  | [a, b] => [six (bits3 a b 0 / 262144), six (bits3 a b 0 / 4096), six (bits3 a b 0 / 64), 61]
  | a :: b :: c :: _ => [six (bits3 a b c / 262144), six (bits3 a b c / 4096), six (bits3 a b c / 64), six (bits3 a b c)]
theorem b64_quad (l : List UInt8) (h : l ≠ []) : b64 l = quad l ++ b64 (l.drop 3) := by
  rcases l with _ | ⟨a, _ | ⟨b, _ | ⟨c, r⟩⟩⟩
  · exact absurd rfl h
  · simp [b64, quad]
  · simp [b64, quad]
  · simp [b64, quad]

set_option maxRecDepth 100000 in
set_option maxHeartbeats 1600000 in
theorem base64_any (s : ByteArray) (w : World) (hs : s.size ≤ 1000) :
    Calls Tryz.prog 110 #[.string s] w fun e w' => e = .returned (str (b64 s.data.toList)) ∧ Q w w' := by
  go_enter Tryz.func110, Tryz.ntmps110
  go_wp2_with fail
  go_loopw [0, 3, 4, 5, 6, 7] (fun t o _ _ _ _ wr => ∃ (rest : ByteArray) (done : List UInt8), t = .string rest ∧ rest.size ≤ 1000 ∧ Q w wr ∧ Hid (wr.ownsRow w.heap.size 5 1 o done.length (bvals done)) ∧ Hid (b64 s.data.toList = done ++ b64 rest.data.toList ∧ done.length + 4 * rest.size ≤ 4000)) (fun t _ _ _ _ _ _ => strLen t)
  case atStart => exact ⟨s, [], rfl, hs, Q.refl _, ⟨rfl, .inl ⟨rfl, rfl⟩⟩, rfl, by simp; omega⟩
  case round =>
    obtain ⟨rest, done, rfl, hrs, hq, hown, hsp⟩ := hrel
    rcases hd : rest.data.toList with _ | ⟨a, _ | ⟨b, _ | ⟨c, r⟩⟩⟩
    · have hemp : rest.toList.isEmpty = true := by rw [Lib.toList_data, hd]; rfl
      have HE : Hid (b64 s.data.toList = done) := by
        show _ = _
        rw [hsp.out.1, hd]; simp [b64]
      have hcv : (convert 91 9 u3).run Tryz.prog wr = .ok (.string ⟨done.toArray⟩) wr := by
        rcases hown.out.2 with ⟨rfl, hn⟩ | ⟨g, cap, cur, rfl, hb, hg, h4, h5, h6, h7⟩
        · have := List.eq_nil_of_length_eq_zero hn
          subst this
          exact run_convert_bytes_nil wr 91 5 Tryz.underlying91 Tryz.underlying5 0 0 9 Tryz.underlying9
        · refine run_convert_bytes_back (P := Tryz.prog) wr 91 9 5 ⟨g, 0, none⟩ cap done Tryz.underlying91 Tryz.underlying5 Tryz.underlying9 (fun j hj => ?_)
          rw [show (⟨g, 0, none⟩ : Addr).add j = ⟨g, j, none⟩ from by unfold Addr.add; simp; exact fun h => h.symm, cell_of_row wr g j cur 5 (0, 0) hg]
          have hj2 : (cur.toList.take (done.length * 1))[j]? = some (.int .u8 ((done[j]).toNat : Int)) := by
            rw [h7, bvals, List.getElem?_map, List.getElem?_eq_getElem hj]; rfl
          rw [List.getElem?_take, if_pos (by omega)] at hj2
          simpa using hj2
      clear hown hsp hd
      go_wp2_with fail
      go_ret
      exact ⟨by unfold str; rw [HE.out]; rfl, hq⟩
    all_goals have hemp : rest.toList.isEmpty = false := by rw [Lib.toList_data, hd]; rfl
    · have hsz : min rest.size 3 = 1 := by rw [← size_len, hd]; rfl
      have hle : 1 ≤ rest.size := by omega
      have hcp := copy_three wr 204 rest (by rw [hd]; simp)
      rw [hsz, hd] at hcp
      simp only [byteAt, List.getD_cons_zero, List.getD_cons_succ, List.getD_nil] at hcp
      have HF4 := fun x => show Hid _ from fourOf_any a 0 0 x
      have HQd : Hid (quad rest.data.toList = [six (bits3 a 0 0 / 262144), six (bits3 a 0 0 / 4096), 61, 61]) := by
        show _ = _
        rw [hd]; rfl
      have hdr : (rest.extract 1 rest.size).data.toList = rest.data.toList.drop 1 := by rw [Lib.extract_to_end]
      have HDr : Hid ((rest.extract 1 rest.size).data.toList = rest.data.toList.drop 3) := by
        show _ = _
        rw [hdr, hd]; rfl
      have hlen : (rest.extract 1 rest.size).size + 1 = rest.size := by rw [ByteArray.size_extract]; omega
      have HNE : Hid (rest.data.toList ≠ []) := by
        show _ ≠ _
        rw [hd]; simp
      clear hd hdr hsz
      go_wp2_with fail
      refine Calls.mono (Hid.out (HF4 _)) ?_
      rintro e w4 ⟨rfl, hq4⟩
      have q4 : Q wr w4 := ((Q.refl _).alloc _).trans hq4
      clear hq4 hcp HF4
      go_wp2_with fail
      have q6 : Q wr (w4.alloc (.cells #[.int .u8 ((six (bits3 a 0 0 / 262144)).toNat : Int), .int .u8 ((six (bits3 a 0 0 / 4096)).toNat : Int), .int .u8 61, .int .u8 61] 197)) := q4.alloc _
      have HO := show Hid _ from owns_Q hown.out q6
      have HNw := show Hid _ from World.news_of_block (w := w4.alloc (.cells #[.int .u8 ((six (bits3 a 0 0 / 262144)).toNat : Int), .int .u8 ((six (bits3 a 0 0 / 4096)).toNat : Int), .int .u8 61, .int .u8 61] 197)) (B := w4.heap.size) (cs := #[.int .u8 ((six (bits3 a 0 0 / 262144)).toNat : Int), .int .u8 ((six (bits3 a 0 0 / 4096)).toNat : Int), .int .u8 61, .int .u8 61]) (t := 197) (fr := (0, 0)) (heap_alloc_new w4 _)
      have HOne : Hid (∀ u ∈ ([.int .u8 ((six (bits3 a 0 0 / 262144)).toNat : Int), .int .u8 ((six (bits3 a 0 0 / 4096)).toNat : Int), .int .u8 61, .int .u8 61] : List Value), u.oneCell' = true) := by
        intro u hu
        simp only [List.mem_cons, List.not_mem_nil, or_false] at hu
        rcases hu with rfl | rfl | rfl | rfl <;> rfl
      have hsz6 : w.heap.size ≤ w4.heap.size := (hq.trans q4).size
      have hb4 := hsp.out.2
      refine wp_loop_rounds 4 ?_
      rw [rounds_succ]
      go_wp2_with fail
      rw [rounds_succ]
      go_wp2_with fail
      rw [rounds_succ]
      go_wp2_with (first | (at_builtin; refine wpList_append_lies _ rfl (.tmp 23) (.tmp 24) 91 rfl w.heap.size 5 Tryz.t5 (.int .u8 0) 1 1 Tryz.underlying91 (by kernel_rfl) (by kernel_rfl) (by kernel_rfl) (by kernel_rfl) rfl (by decide) u3 done.length (bvals done) rfl HO.out ⟨w4.heap.size, 0, none⟩ 4 4 [.int .u8 ((six (bits3 a 0 0 / 262144)).toNat : Int), .int .u8 ((six (bits3 a 0 0 / 4096)).toNat : Int), .int .u8 61, .int .u8 61] rfl rfl HNw.out HOne.out (by decide) (by unfold maxLen; omega) (by omega) (by simp; omega) (w4.heap.size + 1) (by simp) ?_; intro g cap w7 hown7 hgrow hat hlt7))
      refine ⟨⟨rest.extract 1 rest.size, done ++ quad rest.data.toList, rfl, by omega, ?_, ?_, ?_⟩, ?_⟩
      · exact Below.grown (hq.trans q6) hgrow (hq.trans q6).size (fun k hk => (owns_lt HO.out k hk).1)
      · show World.ownsRow _ _ _ _ _ _ _
        rw [HQd.out, List.length_append, bvals_append]
        exact hown7
      · refine ⟨?_, ?_⟩
        · rw [hsp.out.1, b64_quad _ HNE.out, HDr.out, List.append_assoc]
        · rw [HQd.out, List.length_append]
          show done.length + 4 + _ ≤ 4000
          omega
      · show (rest.extract 1 rest.size).size < rest.size
        omega
    · have hsz : min rest.size 3 = 2 := by rw [← size_len, hd]; rfl
      have hle : 2 ≤ rest.size := by omega
      have hcp := copy_three wr 204 rest (by rw [hd]; simp)
      rw [hsz, hd] at hcp
      simp only [byteAt, List.getD_cons_zero, List.getD_cons_succ, List.getD_nil] at hcp
      have HF4 := fun x => show Hid _ from fourOf_any a b 0 x
      have HQd : Hid (quad rest.data.toList = [six (bits3 a b 0 / 262144), six (bits3 a b 0 / 4096), six (bits3 a b 0 / 64), 61]) := by
        show _ = _
        rw [hd]; rfl
      have hdr : (rest.extract 2 rest.size).data.toList = rest.data.toList.drop 2 := by rw [Lib.extract_to_end]
      have HDr : Hid ((rest.extract 2 rest.size).data.toList = rest.data.toList.drop 3) := by
        show _ = _
        rw [hdr, hd]; rfl
      have hlen : (rest.extract 2 rest.size).size + 2 = rest.size := by rw [ByteArray.size_extract]; omega
      have HNE : Hid (rest.data.toList ≠ []) := by
        show _ ≠ _
        rw [hd]; simp
      clear hd hdr hsz
      go_wp2_with fail
      refine Calls.mono (Hid.out (HF4 _)) ?_
      rintro e w4 ⟨rfl, hq4⟩
      have q4 : Q wr w4 := ((Q.refl _).alloc _).trans hq4
      clear hq4 hcp HF4
      go_wp2_with fail
      have q6 : Q wr (w4.alloc (.cells #[.int .u8 ((six (bits3 a b 0 / 262144)).toNat : Int), .int .u8 ((six (bits3 a b 0 / 4096)).toNat : Int), .int .u8 ((six (bits3 a b 0 / 64)).toNat : Int), .int .u8 61] 197)) := q4.alloc _
      have HO := show Hid _ from owns_Q hown.out q6
      have HNw := show Hid _ from World.news_of_block (w := w4.alloc (.cells #[.int .u8 ((six (bits3 a b 0 / 262144)).toNat : Int), .int .u8 ((six (bits3 a b 0 / 4096)).toNat : Int), .int .u8 ((six (bits3 a b 0 / 64)).toNat : Int), .int .u8 61] 197)) (B := w4.heap.size) (cs := #[.int .u8 ((six (bits3 a b 0 / 262144)).toNat : Int), .int .u8 ((six (bits3 a b 0 / 4096)).toNat : Int), .int .u8 ((six (bits3 a b 0 / 64)).toNat : Int), .int .u8 61]) (t := 197) (fr := (0, 0)) (heap_alloc_new w4 _)
      have HOne : Hid (∀ u ∈ ([.int .u8 ((six (bits3 a b 0 / 262144)).toNat : Int), .int .u8 ((six (bits3 a b 0 / 4096)).toNat : Int), .int .u8 ((six (bits3 a b 0 / 64)).toNat : Int), .int .u8 61] : List Value), u.oneCell' = true) := by
        intro u hu
        simp only [List.mem_cons, List.not_mem_nil, or_false] at hu
        rcases hu with rfl | rfl | rfl | rfl <;> rfl
      have hsz6 : w.heap.size ≤ w4.heap.size := (hq.trans q4).size
      have hb4 := hsp.out.2
      refine wp_loop_rounds 4 ?_
      rw [rounds_succ]
      go_wp2_with fail
      rw [rounds_succ]
      go_wp2_with (first | (at_builtin; refine wpList_append_lies _ rfl (.tmp 23) (.tmp 24) 91 rfl w.heap.size 5 Tryz.t5 (.int .u8 0) 1 1 Tryz.underlying91 (by kernel_rfl) (by kernel_rfl) (by kernel_rfl) (by kernel_rfl) rfl (by decide) u3 done.length (bvals done) rfl HO.out ⟨w4.heap.size, 0, none⟩ 4 4 [.int .u8 ((six (bits3 a b 0 / 262144)).toNat : Int), .int .u8 ((six (bits3 a b 0 / 4096)).toNat : Int), .int .u8 ((six (bits3 a b 0 / 64)).toNat : Int), .int .u8 61] rfl rfl HNw.out HOne.out (by decide) (by unfold maxLen; omega) (by omega) (by simp; omega) (w4.heap.size + 1) (by simp) ?_; intro g cap w7 hown7 hgrow hat hlt7))
      refine ⟨⟨rest.extract 2 rest.size, done ++ quad rest.data.toList, rfl, by omega, ?_, ?_, ?_⟩, ?_⟩
      · exact Below.grown (hq.trans q6) hgrow (hq.trans q6).size (fun k hk => (owns_lt HO.out k hk).1)
      · show World.ownsRow _ _ _ _ _ _ _
        rw [HQd.out, List.length_append, bvals_append]
        exact hown7
      · refine ⟨?_, ?_⟩
        · rw [hsp.out.1, b64_quad _ HNE.out, HDr.out, List.append_assoc]
        · rw [HQd.out, List.length_append]
          show done.length + 4 + _ ≤ 4000
          omega
      · show (rest.extract 2 rest.size).size < rest.size
        omega
    · have hsz : min rest.size 3 = 3 := by rw [← size_len, hd]; simp
      have hle : 3 ≤ rest.size := by omega
      have hcp := copy_three wr 204 rest (by rw [hd]; simp)
      rw [hsz, hd] at hcp
      simp only [byteAt, List.getD_cons_zero, List.getD_cons_succ] at hcp
      have HF4 := fun x => show Hid _ from fourOf_any a b c x
      have HQd : Hid (quad rest.data.toList = [six (bits3 a b c / 262144), six (bits3 a b c / 4096), six (bits3 a b c / 64), six (bits3 a b c)]) := by
        show _ = _
        rw [hd]; rfl
      have hdr : (rest.extract 3 rest.size).data.toList = rest.data.toList.drop 3 := by rw [Lib.extract_to_end]
      have HDr : Hid ((rest.extract 3 rest.size).data.toList = rest.data.toList.drop 3) := by
        show _ = _
        rw [hdr, hd]
      have hlen : (rest.extract 3 rest.size).size + 3 = rest.size := by rw [ByteArray.size_extract]; omega
      have HNE : Hid (rest.data.toList ≠ []) := by
        show _ ≠ _
        rw [hd]; simp
      clear hd hdr hsz
      go_wp2_with fail
      refine Calls.mono (Hid.out (HF4 _)) ?_
      rintro e w4 ⟨rfl, hq4⟩
      have q4 : Q wr w4 := ((Q.refl _).alloc _).trans hq4
      clear hq4 hcp HF4
      go_wp2_with fail
      have q6 : Q wr (w4.alloc (.cells #[.int .u8 ((six (bits3 a b c / 262144)).toNat : Int), .int .u8 ((six (bits3 a b c / 4096)).toNat : Int), .int .u8 ((six (bits3 a b c / 64)).toNat : Int), .int .u8 ((six (bits3 a b c)).toNat : Int)] 197)) := q4.alloc _
      have HO := show Hid _ from owns_Q hown.out q6
      have HNw := show Hid _ from World.news_of_block (w := w4.alloc (.cells #[.int .u8 ((six (bits3 a b c / 262144)).toNat : Int), .int .u8 ((six (bits3 a b c / 4096)).toNat : Int), .int .u8 ((six (bits3 a b c / 64)).toNat : Int), .int .u8 ((six (bits3 a b c)).toNat : Int)] 197)) (B := w4.heap.size) (cs := #[.int .u8 ((six (bits3 a b c / 262144)).toNat : Int), .int .u8 ((six (bits3 a b c / 4096)).toNat : Int), .int .u8 ((six (bits3 a b c / 64)).toNat : Int), .int .u8 ((six (bits3 a b c)).toNat : Int)]) (t := 197) (fr := (0, 0)) (heap_alloc_new w4 _)
      have HOne : Hid (∀ u ∈ ([.int .u8 ((six (bits3 a b c / 262144)).toNat : Int), .int .u8 ((six (bits3 a b c / 4096)).toNat : Int), .int .u8 ((six (bits3 a b c / 64)).toNat : Int), .int .u8 ((six (bits3 a b c)).toNat : Int)] : List Value), u.oneCell' = true) := by
        intro u hu
        simp only [List.mem_cons, List.not_mem_nil, or_false] at hu
        rcases hu with rfl | rfl | rfl | rfl <;> rfl
      have hsz6 : w.heap.size ≤ w4.heap.size := (hq.trans q4).size
      have hb4 := hsp.out.2
      refine wp_loop_rounds 4 ?_
      rw [rounds_succ]
      go_wp2_with (first | (at_builtin; refine wpList_append_lies _ rfl (.tmp 23) (.tmp 24) 91 rfl w.heap.size 5 Tryz.t5 (.int .u8 0) 1 1 Tryz.underlying91 (by kernel_rfl) (by kernel_rfl) (by kernel_rfl) (by kernel_rfl) rfl (by decide) u3 done.length (bvals done) rfl HO.out ⟨w4.heap.size, 0, none⟩ 4 4 [.int .u8 ((six (bits3 a b c / 262144)).toNat : Int), .int .u8 ((six (bits3 a b c / 4096)).toNat : Int), .int .u8 ((six (bits3 a b c / 64)).toNat : Int), .int .u8 ((six (bits3 a b c)).toNat : Int)] rfl rfl HNw.out HOne.out (by decide) (by unfold maxLen; omega) (by omega) (by simp; omega) (w4.heap.size + 1) (by simp) ?_; intro g cap w7 hown7 hgrow hat hlt7))
      refine ⟨⟨rest.extract 3 rest.size, done ++ quad rest.data.toList, rfl, by omega, ?_, ?_, ?_⟩, ?_⟩
      · exact Below.grown (hq.trans q6) hgrow (hq.trans q6).size (fun k hk => (owns_lt HO.out k hk).1)
      · show World.ownsRow _ _ _ _ _ _ _
        rw [HQd.out, List.length_append, bvals_append]
        exact hown7
      · refine ⟨?_, ?_⟩
        · rw [hsp.out.1, b64_quad _ HNE.out, HDr.out, List.append_assoc]
        · rw [HQd.out, List.length_append]
          show done.length + 4 + _ ≤ 4000
          omega
      · show (rest.extract 3 rest.size).size < rest.size
        omega
end Go.Proofs.YtfkggpminmonmaaGreatDoor
/-
  Package tenants: read, With, By.
-/
namespace Go.Proofs.YtfkggpminmonmaaGreatDoor
open Go.RowKit Plain

def UserPost (n s : List UInt8) (w : World) (e : Ending) (w' : World) : Prop :=
  Q w w' ∧ ((∃ u, userS n s = some u ∧ e = .returned (.agg #[str u.1, str u.2])) ∨ (userS n s = none ∧ Dies e))

theorem cat3 (n s : ByteArray) : (n ++ (⟨#[58]⟩ : ByteArray) ++ s).data.toList = n.data.toList ++ [58] ++ s.data.toList := by
  simp

theorem b64_len : ∀ l : List UInt8, (b64 l).length ≤ 4 * l.length
  | [] => by simp [b64]
  | [a] => by simp [b64]
  | [a, b] => by simp [b64]
  | a :: b :: c :: l => by
    have := b64_len l
    simp [b64]
    omega

set_option maxRecDepth 100000 in
set_option maxHeartbeats 1600000 in
theorem user_any (n s : ByteArray) (w : World) :
    Calls Tryz.prog 72 #[.agg #[.string n, .string s]] w fun e w' => UserPost n.data.toList s.data.toList w e w' := by
  go_enter Tryz.func72, Tryz.ntmps72
  go_wp2_with fail
  refine wp_region_held_drew (S := fun w' => w'.cell? ⟨w.heap.size, 0, none⟩ = some (.string n) ∧ w'.cell? ⟨w.heap.size, 1, none⟩ = some (.string s)) (by kernel_rfl) ⟨by simp [go_sem], by simp [go_sem]⟩ (fun hHeld0 => ?_)
  refine wpAnyH_take (i := 0) (v := ?_) rfl (by kernel_rfl) (by kernel_rfl) (by kernel_rfl) (fun _ _ _ h => h) (Or.inl ⟨by rfl, ?_⟩) (by assumption) ?_
  rotate_left
  · (intro w hSw; (try dsimp only at hSw); go_simp; try with_reducible rfl)
  simp only [Act.put, List.getElem_toArray, List.getElem_cons_zero, List.setIfInBounds_toArray, List.set_cons_zero, List.set_cons_succ]
  refine wpAnyH_take (i := 1) (v := ?_) rfl (by kernel_rfl) (by kernel_rfl) (by kernel_rfl) (fun _ _ _ h => h) (Or.inl ⟨by rfl, ?_⟩) (by assumption) ?_
  rotate_left
  · (intro w hSw; (try dsimp only at hSw); go_simp; try with_reducible rfl)
  simp only [Act.put, List.getElem_toArray, List.getElem_cons_zero, List.getElem_cons_succ, List.setIfInBounds_toArray, List.set_cons_zero, List.set_cons_succ]
  refine wpAnyH_take (i := 3) (v := ?_) rfl (by kernel_rfl) (by kernel_rfl) (by kernel_rfl) (fun _ _ _ h => h) (Or.inl ⟨by rfl, ?_⟩) (by assumption) ?_
  rotate_left
  · (intro w hSw; (try dsimp only at hSw); go_simp; try with_reducible rfl)
  simp only [Act.put, List.getElem_toArray, List.getElem_cons_zero, List.getElem_cons_succ, List.setIfInBounds_toArray, List.set_cons_zero, List.set_cons_succ]
  refine wpAnyH_take (i := 4) (v := ?_) rfl (by kernel_rfl) (by kernel_rfl) (by kernel_rfl) (fun _ _ _ h => h) (Or.inl ⟨by rfl, ?_⟩) (by assumption) ?_
  rotate_left
  · (intro w hSw; (try dsimp only at hSw); go_simp; try with_reducible rfl)
  simp only [Act.put, List.getElem_toArray, List.getElem_cons_zero, List.getElem_cons_succ, List.setIfInBounds_toArray, List.set_cons_zero, List.set_cons_succ]
  refine wpAnyH_ready (rs := [2]) (by kernel_rfl) (by simp) ?_
  refine AllReadyH.cons rfl (fun K hK => ?_) AllReadyH.nil
  go_simp
  cases hn : tenantOk n.data.toList with
  | false =>
    refine (tenant_no n _ hn).mono ?_
    rintro e w1 ⟨⟨u, x, rfl⟩, rfl⟩
    exact ⟨rfl, (((Q.refl _).alloc _).alloc _).drew, .inr ⟨by unfold userS; rw [if_neg (by rw [hn]; simp)], ⟨_, _, rfl⟩⟩⟩
  | true =>
  refine (tenant_yes n _ hn).mono ?_
  rintro e w1 ⟨rfl, hw1⟩
  rw [hw1]
  go_wp2_with fail
  refine hK.out _ _ hHeld0 (fun hHeld1 => ?_)
  clear hK K hHeld0 hw1 w1
  refine wpAnyH_take (i := 5) (v := ?_) rfl (by kernel_rfl) (by kernel_rfl) (by kernel_rfl) (fun _ _ _ h => h) (Or.inl ⟨by rfl, ?_⟩) (by assumption) ?_
  rotate_left
  · (intro w hSw; (try dsimp only at hSw); go_simp; try with_reducible rfl)
  simp only [Act.put, List.getElem_toArray, List.getElem_cons_zero, List.getElem_cons_succ, List.setIfInBounds_toArray, List.set_cons_zero, List.set_cons_succ]
  refine wpAnyH_take (i := 6) (v := ?_) rfl (by kernel_rfl) (by kernel_rfl) (by kernel_rfl) (fun _ _ _ h => h) (Or.inl ⟨by rfl, ?_⟩) (by assumption) ?_
  rotate_left
  · (intro w hSw; (try dsimp only at hSw); go_simp; try with_reducible rfl)
  simp only [Act.put, List.getElem_toArray, List.getElem_cons_zero, List.getElem_cons_succ, List.setIfInBounds_toArray, List.set_cons_zero, List.set_cons_succ]
  refine wpAnyH_done (by kernel_rfl) ?_ _
  clear hHeld1
  have hnl : n.size ≤ 8 := by
    unfold tenantOk at hn
    rw [Bool.and_eq_true, decide_eq_true_eq, size_len] at hn
    exact hn.1.2
  have HN := show Hid _ from hn
  clear hn
  by_cases h1 : 1 ≤ s.size
  case neg =>
    have d1 : decide ((1 : Int) ≤ (s.size : Int)) = false := decide_eq_false (by omega)
    have HU : Hid (userS n.data.toList s.data.toList = none) := by
      show _ = _
      unfold userS secretOk
      rw [if_neg]
      rintro ⟨_, h⟩
      rw [Bool.and_eq_true, decide_eq_true_eq, size_len] at h
      omega
    go_wp2_with (first | (go_at_call_of 73 (Value.bool false); refine (must_no _ _).mono ?_; rintro e w' ⟨⟨u, x, rfl⟩, rfl⟩))
    exact ⟨rfl, (((Q.refl _).alloc _).alloc _).drew, .inr ⟨HU.out, ⟨_, _, rfl⟩⟩⟩
  have d1 : decide ((1 : Int) ≤ (s.size : Int)) = true := decide_eq_true (by omega)
  by_cases h2 : s.size ≤ 12
  case neg =>
    have d2 : decide ((s.size : Int) ≤ 12) = false := decide_eq_false (by omega)
    have HU : Hid (userS n.data.toList s.data.toList = none) := by
      show _ = _
      unfold userS secretOk
      rw [if_neg]
      rintro ⟨_, h⟩
      rw [Bool.and_eq_true, decide_eq_true_eq, size_len] at h
      omega
    go_wp2_with (first | (go_at_call_of 73 (Value.bool false); refine (must_no _ _).mono ?_; rintro e w' ⟨⟨u, x, rfl⟩, rfl⟩))
    exact ⟨rfl, (((Q.refl _).alloc _).alloc _).drew, .inr ⟨HU.out, ⟨_, _, rfl⟩⟩⟩
  have d2 : decide ((s.size : Int) ≤ 12) = true := decide_eq_true (by omega)
  cases hb : allB seenB s.data.toList with
  | false =>
    have HU : Hid (userS n.data.toList s.data.toList = none) := by
      show _ = _
      unfold userS secretOk
      rw [if_neg (by rw [hb]; simp)]
    have HB := show Hid _ from hb
    clear hb
    go_wp2_with (first | (go_at_call_of 73 (Value.bool true); refine (must_yes _ _).mono ?_; rintro e w' ⟨rfl, rfl⟩) | (go_at_call_of 73 (Value.bool false); refine (must_no _ _).mono ?_; rintro e w' ⟨⟨u, x, rfl⟩, rfl⟩) | (go_at_call 108; refine (all_seen s _ (by unfold maxLen; omega)).mono ?_; rintro e w' ⟨rfl, rfl⟩; rw [HB.out]))
    exact ⟨rfl, (((Q.refl _).alloc _).alloc _).drew, .inr ⟨HU.out, ⟨_, _, rfl⟩⟩⟩
  | true =>
    have HU : Hid (userS n.data.toList s.data.toList = some (n.data.toList, credS n.data.toList s.data.toList)) := by
      show _ = _
      unfold userS secretOk
      rw [if_pos]
      refine ⟨HN.out, ?_⟩
      rw [Bool.and_eq_true, decide_eq_true_eq, size_len]
      exact ⟨⟨h1, h2⟩, hb⟩
    have HB := show Hid _ from hb
    have HCl := fun x => show Hid _ from clone_any n x (by omega)
    have HB6 := fun (t : ByteArray) (ht : t.size ≤ 1000) x => show Hid _ from base64_any t x ht
    clear hb
    go_wp2_with (first | (go_at_call_of 73 (Value.bool true); refine (must_yes _ _).mono ?_; rintro e w' ⟨rfl, rfl⟩) | (go_at_call 108; refine (all_seen s _ (by unfold maxLen; omega)).mono ?_; rintro e w' ⟨rfl, rfl⟩; rw [HB.out]))
    refine Calls.mono (Hid.out (HCl _)) ?_
    rintro e w2 ⟨rfl, hq2⟩
    have hsz3 : (n ++ (⟨#[58]⟩ : ByteArray) ++ s).size ≤ 1000 := by
      rw [ByteArray.size_append, ByteArray.size_append]
      have : (⟨#[58]⟩ : ByteArray).size = 1 := rfl
      omega
    obtain ⟨E, hE⟩ : ∃ E : ByteArray, E.data.toList = b64 (n.data.toList ++ [58] ++ s.data.toList) := ⟨⟨(b64 (n.data.toList ++ [58] ++ s.data.toList)).toArray⟩, rfl⟩
    have hEs : E.size ≤ 200 := by
      rw [← size_len, hE]
      have := b64_len (n.data.toList ++ [58] ++ s.data.toList)
      simp at this ⊢
      omega
    have HE : Hid (str (b64 (n.data.toList ++ [58] ++ s.data.toList)) = .string E) := by
      show _ = _
      rw [← hE, str_data]
    have HCr : Hid ((⟨#[66, 97, 115, 105, 99, 32]⟩ : ByteArray) ++ E = ⟨(credS n.data.toList s.data.toList).toArray⟩) := by
      show _ = _
      unfold credS basic
      rw [← Lib.mk_data ((⟨#[66, 97, 115, 105, 99, 32]⟩ : ByteArray) ++ E), ← hE]
      simp
    clear hE
    go_wp2_with fail
    refine Calls.mono (Hid.out (HB6 _ hsz3 _)) ?_
    rintro e w3 ⟨rfl, hq3⟩
    rw [cat3, HE.out]
    have hq : Q ((w.alloc (.cells #[.string n, .string s] 62)).alloc (.cells #[.string ⟨#[]⟩, .string ⟨#[]⟩] 144)) w3 := ((Q.refl _).drew.trans hq2).trans hq3
    have hQ : Q w w3 := (((Q.refl _).alloc _).alloc _).trans hq
    have hcl : ∀ i, w3.cell? ⟨w.heap.size + 1, i, none⟩ = (#[.string ⟨#[]⟩, .string ⟨#[]⟩] : Array Value)[i]? := hq.made2n.2.1
    have hfr : ∀ i, w3.frozen? ⟨w.heap.size + 1, i, none⟩ = false := fun i => by
      rw [hq.cells.2 _ _ (by simp)]; simp [go_sem]
    clear hq2 hq3 hq HB6 HCl
    go_wp2_with fail
    rw [HCr.out]
    refine bodyPost_ret (v := .agg #[str n.data.toList, str (credS n.data.toList s.data.toList)]) (by simp [results, Tryz.results72, go_sem, hcl, str]) rfl ⟨?_, .inl ⟨_, HU.out, rfl⟩⟩
    iterate 2 refine Q.setCell ?_ (Nat.le_succ _) _
    exact hQ
end Go.Proofs.YtfkggpminmonmaaGreatDoor
/-
  Package tenants: With, By.
-/
namespace Go.Proofs.YtfkggpminmonmaaGreatDoor
namespace Plain
theorem with_none {l : List (List UInt8 × List UInt8)} {n s : List UInt8} (h : userS n s = none) : withS l n s = none := by unfold withS; rw [h]
theorem with_some {l : List (List UInt8 × List UInt8)} {n s : List UInt8} {t : List UInt8 × List UInt8} (h : userS n s = some t) : withS l n s = if l.all (fun o => o.1 != t.1) = true then some (l ++ [t]) else none := by unfold withS; rw [h]
theorem all_take {l : List (List UInt8 × List UInt8)} {p : List UInt8 × List UInt8 → Bool} {k : Nat} {x : List UInt8 × List UInt8} (h : l[k]? = some x) (ha : (l.take k).all p = true) (hx : p x = true) : (l.take (k + 1)).all p = true := by
  rw [take_snocL h, List.all_append, ha]; simp [hx]
theorem all_bad {l : List (List UInt8 × List UInt8)} {p : List UInt8 × List UInt8 → Bool} {k : Nat} {x : List UInt8 × List UInt8} (h : l[k]? = some x) (hx : p x = false) : l.all p = false := by
  rw [List.all_eq_false]
  exact ⟨x, List.mem_of_getElem? h, by rw [hx]; decide⟩
theorem find_take {l : List (List UInt8 × List UInt8)} {p : List UInt8 × List UInt8 → Bool} {k : Nat} {x : List UInt8 × List UInt8} (h : l[k]? = some x) (ha : (l.take k).find? p = none) (hx : p x = false) : (l.take (k + 1)).find? p = none := by
  rw [take_snocL h, List.find?_append, ha]; simp [hx]
theorem find_hit {l : List (List UInt8 × List UInt8)} {p : List UInt8 × List UInt8 → Bool} {k : Nat} {x : List UInt8 × List UInt8} (h : l[k]? = some x) (ha : (l.take k).find? p = none) (hx : p x = true) : l.find? p = some x := by
  have e : l = l.take k ++ x :: l.drop (k + 1) := by rw [← drop_consL h, List.take_append_drop]
  rw [e, List.find?_append, ha]; simp [hx]
end Plain
open Go.RowKit Plain

theorem Q_grown {a b c : World} {row : Option Nat} (q : Q a b) (g : b.grownBy c row) : a.grownBy c row :=
  ⟨g.os.trans q.os, g.tape.trans q.tape, g.output.trans q.output, Nat.le_trans q.size g.size, fun k hk hne => (g.block k (Nat.lt_of_lt_of_le hk q.size) hne).trans (Below.block q k hk)⟩
theorem Q.grow {a b : World} (q : Q a b) (row : Option Nat) : a.grownBy b row :=
  ⟨q.os, q.tape, q.output, q.size, fun k hk _ => Below.block q k hk⟩

def WithPost (B : Nat) (l : List (List UInt8 × List UInt8)) (lv : Value) (n s : List UInt8) (w : World) (e : Ending) (w' : World) : Prop :=
  (∃ l' g cap, withS l n s = some l' ∧ e = .returned (.slice (some ⟨g, 0, none⟩) l'.length cap) ∧ w'.ownsRow B 144 2 (.slice (some ⟨g, 0, none⟩) l'.length cap) l'.length (pairVals l') ∧ w.grownBy w' lv.ownBlock ∧ (lv.ownBlock = some g ∨ w.heap.size ≤ g)) ∨
  (withS l n s = none ∧ Dies e ∧ Q w w')

set_option maxRecDepth 100000 in
set_option maxHeartbeats 1600000 in
theorem with_any (B : Nat) (l : List (List UInt8 × List UInt8)) (lv : Value) (n s : ByteArray) (w : World) (hown : w.ownsRow B 144 2 lv l.length (pairVals l)) (hB : B ≤ w.heap.size) (hl : l.length ≤ 1000) :
    Calls Tryz.prog 28 #[lv, .agg #[.string n, .string s]] w fun e w' => WithPost B l lv n.data.toList s.data.toList w e w' := by
  have HOwn := show Hid _ from hown
  obtain ⟨a, cap, hv, hat⟩ := PairsAt.own hown
  have HOL := show Hid _ from owns_lt hown
  subst hv
  have HAt := show Hid _ from hat
  clear hat hown
  go_enter Tryz.func28, Tryz.ntmps28
  go_wp2_with fail
  refine (user_any n s _).mono ?_
  rintro e w2 ⟨hq2, ⟨u, hu, rfl⟩ | ⟨hu, ⟨t, v, rfl⟩⟩⟩
  case inr => exact ⟨rfl, .inr ⟨with_none hu, ⟨_, _, rfl⟩, ((Q.refl _).alloc _).trans hq2⟩⟩
  have HU := show Hid _ from with_some (l := l) hu
  clear hu
  obtain ⟨u1, u2⟩ := u
  obtain ⟨N, rfl⟩ : ∃ M : ByteArray, M.data.toList = u1 := ⟨⟨u1.toArray⟩, rfl⟩
  obtain ⟨C, rfl⟩ : ∃ M : ByteArray, M.data.toList = u2 := ⟨⟨u2.toArray⟩, rfl⟩
  rw [str_data, str_data]
  have hQ2 : Q w w2 := ((Q.refl _).alloc _).trans hq2
  clear hq2
  go_wp2_with fail
  go_loopw [12, 7] (fun i _ wr => ∃ k : Nat, k ≤ l.length ∧ i = .int .i64 k ∧ Q (w2.alloc (.cells #[.string N, .string C] 144)) wr ∧ Hid ((l.take k).all (fun o => o.1 != N.data.toList) = true)) (fun i _ _ => l.length - (intOf i).toNat)
  case atStart => exact ⟨0, Nat.zero_le _, rfl, Q.refl _, rfl⟩
  case round =>
    obtain ⟨k, hk, rfl, hq, hall⟩ := hrel
    have hqr : Q w wr := (hQ2.alloc _).trans hq
    obtain ⟨hcl, hfr, hz⟩ := hq.made
    by_cases hlt : k < l.length
    · have hget : l[k]? = some l[k] := List.getElem?_eq_getElem hlt
      obtain ⟨g, hg, rfl, h1, h2⟩ := HAt.out k _ hget
      generalize l[k] = f at *
      obtain ⟨f1, f2⟩ := f
      obtain ⟨F, rfl⟩ : ∃ M : ByteArray, M.data.toList = f1 := ⟨⟨f1.toArray⟩, rfl⟩
      obtain ⟨G, rfl⟩ : ∃ M : ByteArray, M.data.toList = f2 := ⟨⟨f2.toArray⟩, rfl⟩
      have c1 : wr.cell? ⟨g, k * 2, none⟩ = some (.string F) := hqr.cell h1
      have c2 : wr.cell? ⟨g, k * 2 + 1, none⟩ = some (.string G) := hqr.cell h2
      have c3 : wr.cell? ⟨w2.heap.size, 0, none⟩ = some (.string N) := by rw [hcl]; rfl
      have hlg : g < wr.heap.size := Q.lt c1
      have HGet := show Hid _ from hget
      cases hb : (F.data.toList == N.data.toList)
      · have hbb : (F.toList == N.toList) = false := by rw [Lib.toList_data, Lib.toList_data]; exact hb
        have HAll : Hid ((l.take (k + 1)).all (fun o => o.1 != N.data.toList) = true) := all_take hget hall.out (by simp only [bne, hb]; rfl)
        clear h1 h2 hget hb hcl hfr HAt HOwn hall
        go_wp2_with (first | (go_at_call_of 73 (Value.bool true); refine (must_yes _ _).mono ?_; rintro e w' ⟨rfl, rfl⟩))
        exact ⟨⟨k + 1, by omega, by go_num, hq.alloc _, HAll.out⟩, by simp [intOf]; omega⟩
      · have hbb : (F.toList == N.toList) = true := by rw [Lib.toList_data, Lib.toList_data]; exact hb
        have HAll : Hid (l.all (fun o => o.1 != N.data.toList) = false) := all_bad hget (by simp only [bne, hb]; rfl)
        clear h1 h2 hget hb hcl hfr HAt HOwn hall
        go_wp2_with (first | (go_at_call_of 73 (Value.bool false); refine (must_no _ _).mono ?_; rintro e w' ⟨⟨u, x, rfl⟩, rfl⟩))
        exact ⟨rfl, .inr ⟨by rw [HU.out, if_neg (by rw [HAll.out]; decide)], ⟨_, _, rfl⟩, hqr.alloc _⟩⟩
    · have HAll : Hid (l.all (fun o => o.1 != N.data.toList) = true) := by
        have := hall.out
        rwa [List.take_of_length_le (by omega)] at this
      have c3 : wr.cell? ⟨w2.heap.size, 0, none⟩ = some (.string N) := by rw [hcl]; rfl
      have c4 : wr.cell? ⟨w2.heap.size, 1, none⟩ = some (.string C) := by rw [hcl]; rfl
      have q6 : Q w (wr.alloc (.cells #[.string N, .string C] 144)) := hqr.alloc _
      have HO := show Hid _ from owns_Q HOwn.out q6
      have HNw := show Hid _ from World.news_of_block (w := wr.alloc (.cells #[.string N, .string C] 144)) (B := wr.heap.size) (cs := #[.string N, .string C]) (t := 144) (fr := (0, 0)) (heap_alloc_new wr _)
      have HOne : Hid (∀ u ∈ ([.string N, .string C] : List Value), u.oneCell' = true) := by
        intro u hu
        simp only [List.mem_cons, List.not_mem_nil, or_false] at hu
        rcases hu with rfl | rfl <;> rfl
      have hsz := hqr.size
      clear hcl hfr hall HOwn HAt
      go_wp2_with (first | (at_builtin; refine wpList_append_lies _ rfl (.tmp 23) (.tmp 25) 76 rfl B 144 Tryz.t144 (.agg #[.string ⟨#[]⟩, .string ⟨#[]⟩]) 2 32 Tryz.underlying76 (by kernel_rfl) (by kernel_rfl) (by kernel_rfl) (by kernel_rfl) rfl (by decide) (.slice a l.length cap) l.length (pairVals l) rfl HO.out ⟨wr.heap.size, 0, none⟩ 1 1 [.string N, .string C] rfl rfl HNw.out HOne.out (by decide) (by unfold maxLen; omega) (by omega) (by simp; omega) (wr.heap.size + 1) (by simp) ?_; intro g cap' w7 hown7 hgrow hat7 hlt7))
      go_ret
      refine .inl ⟨l ++ [(N.data.toList, C.data.toList)], g, cap', by rw [HU.out, if_pos HAll.out], by rw [List.length_append]; rfl, ?_, Q_grown q6 hgrow, ?_⟩
      · rw [List.length_append, pairVals_snoc]
        exact hown7
      · rcases hat7 with h | h
        · exact .inl h
        · exact .inr (by omega)

set_option maxRecDepth 100000 in
set_option maxHeartbeats 1600000 in
theorem by_any (l : List (List UInt8 × List UInt8)) (v : Value) (c : ByteArray) (w : World) (hv : PairsAt (fun b => b < w.heap.size) w v l) (hl : l.length ≤ 1000) :
    Calls Tryz.prog 160 #[v, .string c] w fun e w' => e = .returned (.tuple #[str ((byS l c.data.toList).getD []), .bool (byS l c.data.toList).isSome]) ∧ Q w w' := by
  obtain ⟨a, cap, rfl, hat⟩ := hv
  have HAt := show Hid _ from hat
  clear hat
  go_enter Tryz.func160, Tryz.ntmps160
  go_wp2_with fail
  go_loopw [10, 7] (fun i _ wr => ∃ k : Nat, k ≤ l.length ∧ i = .int .i64 k ∧ Q w wr ∧ Hid ((l.take k).find? (fun t => t.2 == c.data.toList) = none)) (fun i _ _ => l.length - (intOf i).toNat)
  case atStart => exact ⟨0, Nat.zero_le _, rfl, Q.refl _, rfl⟩
  case round =>
    obtain ⟨k, hk, rfl, hq, hall⟩ := hrel
    by_cases hlt : k < l.length
    · have hget : l[k]? = some l[k] := List.getElem?_eq_getElem hlt
      obtain ⟨g, hg, rfl, h1, h2⟩ := HAt.out k _ hget
      generalize l[k] = f at *
      obtain ⟨f1, f2⟩ := f
      obtain ⟨F, rfl⟩ : ∃ M : ByteArray, M.data.toList = f1 := ⟨⟨f1.toArray⟩, rfl⟩
      obtain ⟨G, rfl⟩ : ∃ M : ByteArray, M.data.toList = f2 := ⟨⟨f2.toArray⟩, rfl⟩
      have c1 : wr.cell? ⟨g, k * 2, none⟩ = some (.string F) := hq.cell h1
      have c2 : wr.cell? ⟨g, k * 2 + 1, none⟩ = some (.string G) := hq.cell h2
      cases hb : (G.data.toList == c.data.toList)
      · have hbb : (G.toList == c.toList) = false := by rw [Lib.toList_data, Lib.toList_data]; exact hb
        have HAll : Hid ((l.take (k + 1)).find? (fun t => t.2 == c.data.toList) = none) := find_take hget hall.out hb
        clear h1 h2 hget hb HAt hall
        go_wp2_with fail
        exact ⟨⟨k + 1, by omega, by go_num, hq.alloc _, HAll.out⟩, by simp [intOf]; omega⟩
      · have hbb : (G.toList == c.toList) = true := by rw [Lib.toList_data, Lib.toList_data]; exact hb
        have HAll : Hid (byS l c.data.toList = some F.data.toList) := by
          show _ = _
          unfold byS
          rw [find_hit hget hall.out hb]
        clear h1 h2 hget hb HAt hall
        go_wp2_with fail
        go_ret2
        exact ⟨ret_strb (by rw [HAll.out]; rfl) (by rw [HAll.out]; rfl), hq.alloc _⟩
    · have HAll : Hid (byS l c.data.toList = none) := by
        have := hall.out
        rw [List.take_of_length_le (by omega)] at this
        show _ = _
        unfold byS
        rw [this]
      go_wp2_with fail
      go_ret2
      exact ⟨ret_strb (by rw [HAll.out]; rfl) (by rw [HAll.out]; rfl), hq⟩
end Go.Proofs.YtfkggpminmonmaaGreatDoor

/-
  Package heads: Cut.
-/
import Derived.Test.YtdmaffciijmdcaaGreatDoorTenToTen2
import Derived.Lib.SlBytesConst
namespace Go.Proofs.YtdmaffciijmdcaaGreatDoor
open Go.RowKit Plain

def nums (l : List UInt8) : List Int := l.map fun c => (c.toNat : Int)
theorem nums_len (l : List UInt8) : (nums l).length = l.length := by simp [nums]
theorem nums_bytes (l : List UInt8) : Lib.bytesOf (nums l) = l := by
  unfold nums Lib.bytesOf
  rw [List.map_map]
  have : ((fun n : Int => UInt8.ofNat n.toNat) ∘ fun c : UInt8 => (c.toNat : Int)) = id := by
    funext c
    simp
  rw [this, List.map_id]
theorem nums_range (l : List UInt8) : ∀ x ∈ nums l, 0 ≤ x ∧ x < 256 := by
  intro x hx
  unfold nums at hx
  obtain ⟨c, _, rfl⟩ := List.mem_map.1 hx
  have := c.toNat_lt
  omega
theorem nums_get (l : List UInt8) (i : Nat) : (nums l).getD i 0 = ((l.getD i 0).toNat : Int) := by
  unfold nums
  rw [List.getD_eq_getElem?_getD, List.getD_eq_getElem?_getD, List.getElem?_map]
  cases l[i]? <;> rfl

/-- Bytes that a slice speaks of. -/
def BytesIn (S : Nat → Prop) (w : World) (v : Value) (l : List UInt8) : Prop :=
  (v = .slice none 0 0 ∧ l = []) ∨ ∃ g o c, v = .slice (some ⟨g, o, none⟩) l.length c ∧ S g ∧ l.length ≤ c ∧ ∀ i, i < l.length → w.cell? ⟨g, o + i, none⟩ = some (.int .u8 ((l.getD i 0).toNat : Int))
theorem BytesIn.own {w : World} {B : Nat} {v : Value} {l : List UInt8} (h : w.ownsRow B 5 1 v l.length (bvals l)) : BytesIn (fun g => v.ownBlock = some g) w v l := by
  rcases h.2 with ⟨rfl, hn⟩ | ⟨g, cap, cur, rfl, hb, hg, h4, h5, h6, h7⟩
  · exact .inl ⟨rfl, List.eq_nil_of_length_eq_zero hn⟩
  · refine .inr ⟨g, 0, cap, rfl, rfl, h4, fun i hi => ?_⟩
    rw [Nat.zero_add, cell_of_row w g i cur 5 (0, 0) hg]
    have hj2 : (cur.toList.take (l.length * 1))[i]? = some (.int .u8 ((l.getD i 0).toNat : Int)) := by
      rw [h7, bvals, List.getElem?_map, List.getD_eq_getElem?_getD, List.getElem?_eq_getElem hi]; rfl
    rw [List.getElem?_take, if_pos (by omega)] at hj2
    simpa using hj2

def CutPost (S : Nat → Prop) (l : List UInt8) (w : World) (e : Ending) (w' : World) : Prop :=
  Q w w' ∧ ((cutHead l = none ∧ e = .returned (.tuple #[str [], .slice none 0 0, .bool false])) ∨ ∃ h r rv, cutHead l = some (h, r) ∧ e = .returned (.tuple #[str h, rv, .bool true]) ∧ BytesIn S w' rv r)

theorem cells_to_str {w : World} {g o c : Nat} {l : List UInt8} (h : ∀ i, i < l.length → w.cell? ⟨g, o + i, none⟩ = some (.int .u8 ((l.getD i 0).toNat : Int))) : (convert 99 9 (.slice (some ⟨g, o, none⟩) l.length c)).run Tryz.prog w = .ok (.string ⟨l.toArray⟩) w := by
  refine run_convert_bytes_back (P := Tryz.prog) w 99 9 5 ⟨g, o, none⟩ c l Tryz.underlying99 Tryz.underlying5 Tryz.underlying9 (fun j hj => ?_)
  have e : (⟨g, o, none⟩ : Addr).add j = ⟨g, o + j, none⟩ := by unfold Addr.add; split <;> simp_all
  rw [e, h j hj, List.getD_eq_getElem?_getD, List.getElem?_eq_getElem hj]; rfl

set_option maxRecDepth 100000 in
set_option maxHeartbeats 1600000 in
theorem cut_any (S : Nat → Prop) (l : List UInt8) (v : Value) (w : World) (hv : BytesIn S w v l) (hm : ML w) (hl : l.length ≤ 4398046511104) :
    Calls Tryz.prog 93 #[v] w fun e w' => CutPost S l w e w' := by
  rcases hv with ⟨rfl, rfl⟩ | ⟨g, o, c, rfl, hS, hc, hcells⟩
  · have HN : Hid (cutHead [] = none) := by
      show _ = _
      decide
    have hcv := Lib.run_convert_bytes_const (P := Tryz.prog) w 99 5 #[.int .u8 13, .int .u8 10, .int .u8 13, .int .u8 10] 4 4 Tryz.underlying99 Tryz.underlying5
    simp only [List.size_toArray, List.length_cons, List.length_nil, Nat.zero_add, Nat.reduceAdd] at hcv
    go_enter Tryz.func93, Tryz.ntmps93
    go_wp2_with (first | (go_at_call 127; refine (Tryz.bytes_Index_nil _ 4 4 _ (by decide) (by intro h; cases h)).mono ?_; rintro e w' ⟨rfl, rfl⟩))
    go_ret3
    exact ⟨(Q.refl _).alloc _, .inl ⟨HN.out, rfl⟩⟩
  · obtain ⟨k, hk⟩ : ∃ k : Nat, k = min l.length 1000 := ⟨_, rfl⟩
    have hmin : min (l.length : Int) 1000 = (k : Int) := by omega
    have hkl : k ≤ l.length := by omega
    have hkc : (k : Int) ≤ (c : Int) := by omega
    have htk : l.take 1000 = l.take k := by
      rw [hk]
      rcases Nat.le_total l.length 1000 with h | h
      · rw [Nat.min_eq_left h, List.take_of_length_le h, List.take_of_length_le (Nat.le_refl _)]
      · rw [Nat.min_eq_right h]
    have hHd : cutHead l = if 0 ≤ Lib.index (l.take k) endB then some (l.take ((Lib.index (l.take k) endB).toNat + 4), l.drop ((Lib.index (l.take k) endB).toNat + 4)) else if l.length < 1000 then none else some (l.take k, []) := by
      unfold cutHead; rw [htk]
    have HHd := show Hid _ from hHd
    have HCE := show Hid _ from hcells
    have htl : (l.take k).length = k := by rw [List.length_take]; omega
    have HIx : ∀ x, (∀ i, i < l.length → x.cell? ⟨g, o + i, none⟩ = some (.int .u8 ((l.getD i 0).toNat : Int))) → ML x → Hid (Calls Tryz.prog 127 #[.slice (some ⟨g, o, none⟩) k c, .slice (some ⟨x.heap.size, 0, none⟩) 4 4] (x.alloc (.cells #[.int .u8 13, .int .u8 10, .int .u8 13, .int .u8 10] 5 (4, 5))) fun e w' => e = .returned (.int .i64 (Lib.index (l.take k) endB)) ∧ ∃ q, w' = (x.alloc (.cells #[.int .u8 13, .int .u8 10, .int .u8 13, .int .u8 10] 5 (4, 5))).drewN q) := by
      intro x hx ⟨m, hm⟩
      have hq : Q x (x.alloc (.cells #[.int .u8 13, .int .u8 10, .int .u8 13, .int .u8 10] 5 (4, 5))) := (Q.refl _).alloc _
      have h := Tryz.bytes_Index_at ⟨g, o, none⟩ ⟨x.heap.size, 0, none⟩ k c 4 4 (nums (l.take k)) (nums endB) m (x.alloc (.cells #[.int .u8 13, .int .u8 10, .int .u8 13, .int .u8 10] 5 (4, 5))) (by rw [nums_len, htl]) rfl (nums_range _) (nums_range _)
        (fun i hi => by
          have e : (⟨g, o, none⟩ : Addr).add i = ⟨g, o + i, none⟩ := by unfold Addr.add; split <;> simp_all
          rw [e, nums_get, hq.cell (hx i (by omega))]
          rw [List.getD_eq_getElem?_getD, List.getD_eq_getElem?_getD, List.getElem?_take, if_pos hi])
        (fun i hi => by
          have e : (⟨x.heap.size, 0, none⟩ : Addr).add i = ⟨x.heap.size, i, none⟩ := by unfold Addr.add; split <;> simp_all
          rw [e]
          rcases i with _ | _ | _ | _ | i
          · rw [World.cell?_alloc_mark]; rfl
          · rw [World.cell?_alloc_mark]; rfl
          · rw [World.cell?_alloc_mark]; rfl
          · rw [World.cell?_alloc_mark]; rfl
          · omega)
        (by omega) (by omega) (by decide) (hq.cell hm)
      rw [nums_bytes, nums_bytes] at h
      exact h
    have HML : Hid (ML w) := hm
    have hro := Lib.index_room (l.take k) endB
    rw [htl, show endB.length = 4 from rfl] at hro
    have HRO := show Hid _ from hro
    have hge := Lib.index_ge (l.take k) endB
    generalize Lib.index (l.take k) endB = ix at *
    clear hHd hcells htk hm hro htl
    have HK : Hid (k = min l.length 1000) := hk
    clear hk
    have hcv := Lib.run_convert_bytes_const (P := Tryz.prog) w 99 5 #[.int .u8 13, .int .u8 10, .int .u8 13, .int .u8 10] 4 4 Tryz.underlying99 Tryz.underlying5
    simp only [List.size_toArray, List.length_cons, List.length_nil, Nat.zero_add, Nat.reduceAdd] at hcv
    go_enter Tryz.func93, Tryz.ntmps93
    go_wp2_with fail
    refine Calls.mono (Hid.out (HIx _ HCE.out HML.out)) ?_
    rintro e w1 ⟨rfl, q, hw1⟩
    have hQ1 : Q w w1 := by rw [hw1]; exact ((Q.refl _).alloc _).drews _
    have HCE1 : Hid (∀ i, i < l.length → w1.cell? ⟨g, o + i, none⟩ = some (.int .u8 ((l.getD i 0).toNat : Int))) := fun i hi => hQ1.cell (HCE.out i hi)
    clear hw1 HIx HCE hcv
    by_cases hix : 0 ≤ ix
    · obtain ⟨i, rfl⟩ := Int.eq_ofNat_of_zero_le hix
      have hi4 : i + 4 ≤ k := by have := HRO.out hix; omega
      have HD : Hid (cutHead l = some (l.take (i + 4), l.drop (i + 4))) := by
        show _ = _
        rw [HHd.out, if_pos hix]; rfl
      have b1 : ((i : Int) + 4) ≤ (c : Int) := by omega
      have b2 : ((i : Int) + 4) ≤ (l.length : Int) := by omega
      clear hix HHd HRO
      have htl : (l.take (i + 4)).length = i + 4 := by rw [List.length_take]; omega
      have hcv : ∀ x, (∀ b o', x.cell? ⟨b, o', none⟩ = w1.cell? ⟨b, o', none⟩) → (convert 99 9 (.slice (some ⟨g, o, none⟩) (i + 4) c)).run Tryz.prog x = .ok (.string ⟨(l.take (i + 4)).toArray⟩) x := fun x hx => by
        have := cells_to_str (w := x) (g := g) (o := o) (c := c) (l := l.take (i + 4)) (fun j hj => by
          rw [hx, HCE1.out j (by rw [htl] at hj; omega), List.getD_eq_getElem?_getD, List.getD_eq_getElem?_getD, List.getElem?_take, if_pos (by rw [htl] at hj; exact hj)])
        rwa [htl] at this
      have hcv1 := hcv w1 (fun _ _ => rfl)
      have hcv2 := hcv w1.drew (fun _ _ => rfl)
      go_wp2_with fail
      go_region
      go_wp2_with fail
      · go_ret3
        refine ⟨hQ1.drew, .inr ⟨_, _, _, HD.out, rfl, .inr ⟨g, o, 0, by rw [List.length_drop]; rfl, hS, by rw [List.length_drop]; omega, fun j hj => ?_⟩⟩⟩
        rw [List.length_drop] at hj
        omega
      · go_ret3
        refine ⟨hQ1.drew, .inr ⟨_, _, _, HD.out, rfl, .inr ⟨g, o + (i + 4), c - (i + 4), by rw [List.length_drop]; rfl, hS, by rw [List.length_drop]; omega, fun j hj => ?_⟩⟩⟩
        rw [List.length_drop] at hj
        show w1.cell? _ = _
        rw [Nat.add_assoc, HCE1.out _ (by omega), List.getD_eq_getElem?_getD, List.getD_eq_getElem?_getD, List.getElem?_drop]
    · have hneg : ix = -1 := by omega
      subst hneg
      have HD : Hid (cutHead l = if l.length < 1000 then none else some (l.take k, [])) := by
        show _ = _
        rw [HHd.out, if_neg (by decide)]
      have htl : (l.take k).length = k := by rw [List.length_take]; omega
      clear hix HHd HRO hge
      by_cases h1 : l.length < 1000
      · have hk0 : k = l.length := by have := HK.out; omega
        have d1 : decide ((k : Int) < 1000) = true := decide_eq_true (by omega)
        clear hk0
        go_wp2_with fail
        go_ret3
        exact ⟨hQ1, .inl ⟨by rw [HD.out, if_pos h1], rfl⟩⟩
      · have hk0 : k = 1000 := by have := HK.out; omega
        have hcv := cells_to_str (w := w1) (g := g) (o := o) (c := c) (l := l.take k) (fun j hj => by
          rw [HCE1.out j (by rw [htl] at hj; omega), List.getD_eq_getElem?_getD, List.getD_eq_getElem?_getD, List.getElem?_take, if_pos (by rw [htl] at hj; exact hj)])
        rw [htl] at hcv
        have d1 : decide ((k : Int) < 1000) = false := decide_eq_false (by omega)
        clear hk0
        go_wp2_with fail
        go_ret3
        exact ⟨hQ1, .inr ⟨l.take k, [], .slice none 0 0, by rw [HD.out, if_neg h1], rfl, .inl ⟨rfl, rfl⟩⟩⟩
end Go.Proofs.YtdmaffciijmdcaaGreatDoor
/-
  Package turnpike: users, heads and targets are read, and caught where their reader gives up.
-/
namespace Go.Proofs.YtdmaffciijmdcaaGreatDoor
open Go.RowKit Plain

theorem catchL_panicking (p : Addr) (x : Bool) (u : TypeId) (pv : Value) (older : List PanicEntry) (w : World) (hc : w.cell? p = some (.bool x)) (hz : w.frozen? p = false) :
    CallsD Tryz.prog 86 #[.pointer (some p)] (.panicking ({ v := .iface u pv, recovered := false } :: older)) w fun e u' w' =>
      e = .returned (.tuple #[]) ∧ u' = .panicking ({ v := .iface u pv, recovered := true } :: older) ∧ w' = w.setCell p (.bool false) := by
  refine callsD_of_wpS Tryz.func86 rfl fun c₀ cs hu => ?_
  apply wpS_region
  simp [wpOpsS, go_sem, recoverD, hu, Tryz.ntmps86, hc, hz, bodyPostS, results, Tryz.results86]

theorem catchL_idle (p : Addr) (x : Bool) (w : World) (hc : w.cell? p = some (.bool x)) (hz : w.frozen? p = false) :
    CallsD Tryz.prog 86 #[.pointer (some p)] .returning w fun e u' w' => e = .returned (.tuple #[]) ∧ u' = .returning ∧ w' = w.setCell p (.bool true) := by
  refine callsD_of_wpS Tryz.func86 rfl fun c₀ cs hu => ?_
  apply wpS_region
  simp [wpOpsS, go_sem, recoverD, hu, Tryz.ntmps86, hc, hz, bodyPostS, results, Tryz.results86]
  cases c₀
  simp_all

theorem catchH_panicking (p : Addr) (x : Bool) (u : TypeId) (pv : Value) (older : List PanicEntry) (w : World) (hc : w.cell? p = some (.bool x)) (hz : w.frozen? p = false) :
    CallsD Tryz.prog 169 #[.pointer (some p)] (.panicking ({ v := .iface u pv, recovered := false } :: older)) w fun e u' w' =>
      e = .returned (.tuple #[]) ∧ u' = .panicking ({ v := .iface u pv, recovered := true } :: older) ∧ w' = w.setCell p (.bool false) := by
  refine callsD_of_wpS Tryz.func169 rfl fun c₀ cs hu => ?_
  apply wpS_region
  simp [wpOpsS, go_sem, recoverD, hu, Tryz.ntmps169, hc, hz, bodyPostS, results, Tryz.results169]

theorem catchH_idle (p : Addr) (x : Bool) (w : World) (hc : w.cell? p = some (.bool x)) (hz : w.frozen? p = false) :
    CallsD Tryz.prog 169 #[.pointer (some p)] .returning w fun e u' w' => e = .returned (.tuple #[]) ∧ u' = .returning ∧ w' = w.setCell p (.bool true) := by
  refine callsD_of_wpS Tryz.func169 rfl fun c₀ cs hu => ?_
  apply wpS_region
  simp [wpOpsS, go_sem, recoverD, hu, Tryz.ntmps169, hc, hz, bodyPostS, results, Tryz.results169]
  cases c₀
  simp_all

theorem catchT_panicking (p : Addr) (x : Bool) (u : TypeId) (pv : Value) (older : List PanicEntry) (w : World) (hc : w.cell? p = some (.bool x)) (hz : w.frozen? p = false) :
    CallsD Tryz.prog 173 #[.pointer (some p)] (.panicking ({ v := .iface u pv, recovered := false } :: older)) w fun e u' w' =>
      e = .returned (.tuple #[]) ∧ u' = .panicking ({ v := .iface u pv, recovered := true } :: older) ∧ w' = w.setCell p (.bool false) := by
  refine callsD_of_wpS Tryz.func173 rfl fun c₀ cs hu => ?_
  apply wpS_region
  simp [wpOpsS, go_sem, recoverD, hu, Tryz.ntmps173, hc, hz, bodyPostS, results, Tryz.results173]

theorem catchT_idle (p : Addr) (x : Bool) (w : World) (hc : w.cell? p = some (.bool x)) (hz : w.frozen? p = false) :
    CallsD Tryz.prog 173 #[.pointer (some p)] .returning w fun e u' w' => e = .returned (.tuple #[]) ∧ u' = .returning ∧ w' = w.setCell p (.bool true) := by
  refine callsD_of_wpS Tryz.func173 rfl fun c₀ cs hu => ?_
  apply wpS_region
  simp [wpOpsS, go_sem, recoverD, hu, Tryz.ntmps173, hc, hz, bodyPostS, results, Tryz.results173]
  cases c₀
  simp_all

theorem grow_set (W : World) (p : Addr) (u : Value) : W.grownBy (W.setCell p u) (some p.block) :=
  ⟨rfl, rfl, rfl, by simp, fun k _ hk => Below.heap_setCell _ _ _ _ (fun e => hk (by rw [e]))⟩
theorem owns_set {W : World} {B : Nat} {e : TypeId} {size : Nat} {v : Value} {n : Nat} {xs : List Value} {p : Addr} {u : Value} (h : W.ownsRow B e size v n xs) (hne : v.ownBlock ≠ some p.block) : (W.setCell p u).ownsRow B e size v n xs :=
  h.kept (grow_set W p u) (.inr hne)
theorem grow_trans {a b c : World} {row : Option Nat} (g : a.grownBy b row) (h : ∀ k, k < a.heap.size → some k ≠ row → c.heap[k]? = b.heap[k]?) (ho : c.os = b.os) (ht : c.tape = b.tape) (hp : c.output = b.output) (hs : b.heap.size ≤ c.heap.size) : a.grownBy c row :=
  ⟨ho.trans g.os, ht.trans g.tape, hp.trans g.output, Nat.le_trans g.size hs, fun k hk hne => (h k hk hne).trans (g.block k hk hne)⟩

set_option maxRecDepth 100000 in
set_option maxHeartbeats 800000 in
theorem new1_any (B : Nat) (l : List (List UInt8 × List UInt8)) (lv : Value) (n s : ByteArray) (kb ub : Nat) (w : World) (hk : w.cell? ⟨kb, 0, none⟩ = some lv) (h0 : w.cell? ⟨ub, 0, none⟩ = some (.string n)) (h1 : w.cell? ⟨ub, 1, none⟩ = some (.string s)) (hown : w.ownsRow B 154 2 lv l.length (pairVals l)) (hB : B ≤ w.heap.size) (hl : l.length ≤ 1000) :
    Calls Tryz.prog 40 #[.pointer (some ⟨kb, 0, none⟩), .pointer (some ⟨ub, 0, none⟩)] w fun e w' => WithPost B l lv n.data.toList s.data.toList w e w' := by
  have HW := show Hid _ from with_any B l lv n s w hown hB hl
  obtain ⟨a, cap, hv, _⟩ := PairsAt.own hown
  subst hv
  clear hown
  go_enter Tryz.func40, Tryz.ntmps40
  go_wp2_with fail
  refine Calls.mono (Hid.out HW) ?_
  rintro e w1 (⟨l', g, cap', hw, rfl, h2, h3, h4⟩ | ⟨hw, ⟨t, v, rfl⟩, hq⟩)
  · have H : Hid (WithPost B l (.slice a l.length cap) n.data.toList s.data.toList w (.returned (.slice (some ⟨g, 0, none⟩) l'.length cap')) w1) := .inl ⟨l', g, cap', hw, rfl, h2, h3, h4⟩
    clear hw h2 h3 h4 HW
    go_wp2_with fail
    go_ret
    exact H.out
  · exact ⟨rfl, .inr ⟨hw, ⟨_, _, rfl⟩, hq⟩⟩

def CaughtL (B : Nat) (l : List (List UInt8 × List UInt8)) (lv : Value) (n s : List UInt8) (w : World) (e : Ending) (w' : World) : Prop :=
  (∃ l' g cap, withS l n s = some l' ∧ e = .returned (.tuple #[.slice (some ⟨g, 0, none⟩) l'.length cap, .bool true]) ∧ w'.ownsRow B 154 2 (.slice (some ⟨g, 0, none⟩) l'.length cap) l'.length (pairVals l') ∧ w.grownBy w' lv.ownBlock ∧ (lv.ownBlock = some g ∨ w.heap.size ≤ g)) ∨
  (withS l n s = none ∧ e = .returned (.tuple #[.slice none 0 0, .bool false]) ∧ Q w w')

set_option maxRecDepth 100000 in
set_option maxHeartbeats 1600000 in
theorem caughtL_any (B : Nat) (l : List (List UInt8 × List UInt8)) (lv : Value) (n s : ByteArray) (kb ub : Nat) (w : World) (hk : w.cell? ⟨kb, 0, none⟩ = some lv) (h0 : w.cell? ⟨ub, 0, none⟩ = some (.string n)) (h1 : w.cell? ⟨ub, 1, none⟩ = some (.string s)) (hown : w.ownsRow B 154 2 lv l.length (pairVals l)) (hB : B ≤ w.heap.size) (hl : l.length ≤ 1000) :
    Calls Tryz.prog 39 #[.func (.func 40) #[] #[.pointer (some ⟨kb, 0, none⟩), .pointer (some ⟨ub, 0, none⟩)]] w fun e w' => CaughtL B l lv n.data.toList s.data.toList w e w' := by
  have hmf : ∀ (fn : Fn) (first cap : Array Value) (w : World), (Instr.makeFunc fn first cap).run Tryz.prog w = .ok (.func fn first cap) w := fun _ _ _ _ => rfl
  have hq0 : Q w (w.alloc (.cells #[.bool false] 4)) := (Q.refl w).alloc _
  have HN := show Hid _ from new1_any B l lv n s kb ub _ (hq0.cell hk) (hq0.cell h0) (hq0.cell h1) (owns_Q hown hq0) (Nat.le_trans hB hq0.size) hl
  have HOL := show Hid _ from owns_lt hown
  clear hk h0 h1 hown
  go_enter_defers Tryz.func39, Tryz.ntmps39
  go_wp2_with fail
  refine Calls.mono (Hid.out HN) ?_
  rintro e w1 (⟨l', g, cap, hw, rfl, hown1, hg, hat⟩ | ⟨hw, ⟨t, v, rfl⟩, hq⟩)
  · have hnb : lv.ownBlock ≠ some w.heap.size := fun e => by have := (HOL.out _ e).2; omega
    have hc1 : w1.cell? ⟨w.heap.size, 0, none⟩ = some (.bool false) := by
      rw [hg.cell_far ⟨w.heap.size, 0, none⟩ (by simp) (fun e => hnb e.symm)]; simp [go_sem]
    have hf1 : w1.frozen? ⟨w.heap.size, 0, none⟩ = false := by
      rw [hg.frozen_far ⟨w.heap.size, 0, none⟩ (by simp) (fun e => hnb e.symm)]; simp [go_sem]
    have hgne : g ≠ w.heap.size := fun e => by
      rcases hat with h | h
      · exact hnb (by rw [h, e])
      · simp at h; omega
    have HO := show Hid _ from hown1
    have HG := show Hid _ from hg
    have HA := show Hid _ from hat
    clear hown1 hg hat HN
    go_wp2_with fail
    have hx : ((w1.setCell ⟨w.heap.size, 0, none⟩ (.bool true)).setCell ⟨w.heap.size, 0, none⟩ (.bool true)).cell? ⟨w.heap.size, 0, none⟩ = some (.bool true) := set_same (set_same hc1)
    refine leaves_cons (f := 86) (args := #[.pointer (some ⟨w.heap.size, 0, none⟩)]) (by simp) (by simp [go_sem]) ?_
    refine (catchL_idle ⟨w.heap.size, 0, none⟩ true _ (set_same hc1) (by rw [World.frozen?_setCell]; exact hf1)).mono ?_
    rintro e u' w'' ⟨rfl, rfl, rfl⟩
    simp [Leaves, settle, results, Tryz.results39, go_sem, hx]
    refine .inl ⟨l', g, cap, hw, rfl, ?_, ?_, ?_⟩
    · refine owns_set (owns_set HO.out ?_) ?_ <;> (simp [Value.ownBlock]; exact hgne)
    · have h1 := Q_grown hq0 HG.out
      refine grow_trans h1 (fun k hk _ => ?_) rfl rfl rfl (by simp)
      rw [Below.heap_setCell _ _ _ _ (by show k ≠ w.heap.size; omega), Below.heap_setCell _ _ _ _ (by show k ≠ w.heap.size; omega)]
    · rcases HA.out with h | h
      · exact .inl h
      · exact .inr (Nat.le_trans hq0.size h)
  · obtain ⟨hcl, hfr, hz⟩ := hq.made
    have hQ : Q w w1 := hq0.trans hq
    clear HN
    go_wp2_with fail
    refine leaves_cons (f := 86) (args := #[.pointer (some ⟨w.heap.size, 0, none⟩)]) (by simp) (by simp [go_sem]) ?_
    refine (catchL_panicking ⟨w.heap.size, 0, none⟩ false t v [] _ ?_ ?_).mono ?_
    · simp [hcl]
    · simp [hfr]
    rintro e u' w'' ⟨rfl, rfl, rfl⟩
    simp [Leaves, settle, results, Tryz.results39, go_sem, hcl]
    exact .inr ⟨hw, rfl, hQ.setCell (by simp) _⟩
end Go.Proofs.YtdmaffciijmdcaaGreatDoor

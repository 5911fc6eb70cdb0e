/-
  The laws' world: step: Accept, Tick, Reload.
-/
import Derived.Test.YtdmaffciijmdcaaGreatDoorPL4C
namespace Go.Proofs.YtdmaffciijmdcaaGreatDoor
open Go.RowKit Plain

theorem set_both {L : List GG} {i : Nat} {x : GG} (G1 G2 : GateS) : (L.set i { x with G := G1 }).set i { x with G := G1, R := G2 } = L.set i ⟨x.gb, x.rb, G1, G2⟩ := by rw [List.set_set]

/-- What Accept leaves. -/
def AccPost (w0 : World) (wb : Nat) (L : List GG) (vals : List Value) (k i : Nat) (x : GG) (e : Ending) (w' : World) : Prop :=
  e = .returned (.bool true) ∧ ∃ o' L', Pl w0 w' o' wb L' vals ∧ L'.length = L.length ∧ Goods (k + 1) L' ∧ (x.G.conns.length < 8 → L' = L.set i ⟨x.gb, x.rb, x.G.accept, x.R.accept⟩)

set_option maxRecDepth 100000 in
set_option maxHeartbeats 1600000 in
theorem step2a {w0 w : World} {o : Lbl} {wb : Nat} {L : List GG} {vals : List Value} (h : Pl w0 w o wb L vals) {i : Nat} {x : GG} (hi : L[i]? = some x) {k : Nat} (hg : Goods k L) (hk : k ≤ 1048700) (_hvl : vals.length ≤ 4194800) (at_ conn nn : Int) (ok : Bool) (S : List UInt8) (_hS : S.length ≤ 1048576) (ua : Option Addr) (un uc : Nat) :
    Calls Tryz.prog 33 #[ptr wb, ptr x.gb, ptr x.rb, opV 2 at_ conn nn ok S ua un uc] w fun e w' => AccPost w0 wb L vals k i x e w' := by
  have hx := hg x (List.mem_of_getElem? hi)
  have hil : i < L.length := (List.getElem?_eq_some_iff.1 hi).1
  have hSz : (⟨S.toArray⟩ : ByteArray).size = S.length := mk_size S
  obtain ⟨W, hW⟩ : ∃ W, W = w.alloc (.cells #[.int .i64 2, .int .i64 at_, .int .i64 conn, .int .i64 nn, .bool ok, .string ⟨S.toArray⟩, .slice ua un uc] 73) := ⟨_, rfl⟩
  have hp0 : Pl w0 W o wb L vals := by rw [hW]; exact h.stays ((Q.refl w).alloc _)
  have hnb : o w.heap.size = none := by
    cases hn : o w.heap.size with
    | none => rfl
    | some y => have := (h.lt w.heap.size (by rw [hn]; simp)).1; omega
  have hWz : w.heap.size < W.heap.size := by rw [hW]; simp
  have b0 : W.cell? ⟨w.heap.size, 0, none⟩ = some (.int .i64 2) := by rw [hW]; simp [go_sem]
  have b3 : W.cell? ⟨w.heap.size, 3, none⟩ = some (.int .i64 nn) := by rw [hW]; simp [go_sem]
  have b5 : W.cell? ⟨w.heap.size, 5, none⟩ = some (.string ⟨S.toArray⟩) := by rw [hW]; simp [go_sem]
  have hgw := hp0.gw i x hi
  have HA := show Hid _ from accept_any hgw hx.2.ok
  have HG : Hid (Goods k L) := hg
  have HP0 := show Hid _ from hp0
  have HX := show Hid _ from hx
  clear h hg hgw hp0 hx
  unfold opV
  go_enter Tryz.func33, Tryz.ntmps33
  go_wp2_with fail
  rw [← hW]
  refine Calls.mono (Hid.out HA) ?_
  rintro e w1 (⟨h8, hw1, rfl⟩ | ⟨h8, ⟨r1, hst1⟩, rfl⟩)
  · rw [hw1]
    have HRA := show Hid _ from raccept_any (HP0.out.rg i x hi) (by rw [HX.out.1]; exact HX.out.2.ok)
    clear hw1 HA b0 b3 b5 hW
    go_wp2_with fail
    refine Calls.mono (Hid.out HRA) ?_
    rintro e w2 (⟨_, hw2, rfl⟩ | ⟨h9, _, _⟩)
    rotate_left
    · rw [HX.out.1] at h9
      omega
    rw [hw2]
    have HN := show Hid _ from num_any 6 W
    clear hw2 HRA
    go_wp2_with fail
    refine Calls.mono (Hid.out HN) ?_
    rintro e w3 ⟨rfl, hw3⟩
    rw [hw3]
    clear hw3 HN
    go_wp2_with fail
    go_ret
    exact ⟨by simp, o, L, HP0.out, rfl, HG.out.next, fun h => absurd h (by omega)⟩
  · obtain ⟨hp1, _⟩ := HP0.out.gstep hi hst1
    have hi1 : (L.set i { x with G := x.G.accept })[i]? = some { x with G := x.G.accept } := List.getElem?_set_self hil
    have HP1 := show Hid _ from hp1
    have HRA := show Hid _ from raccept_any (hp1.rg i _ hi1) (by show GOk x.R; rw [HX.out.1]; exact HX.out.2.ok)
    have hla : (x.G.last : Int) + 1 = ((x.G.last + 1 : Nat) : Int) := by omega
    have H8 := show Hid _ from h8
    clear HA b0 b3 b5 hW hst1 hp1
    rw [hla]
    obtain ⟨la, hla2⟩ : ∃ z : Int, z = ((x.G.last + 1 : Nat) : Int) := ⟨_, rfl⟩
    rw [← hla2]
    have HLa := show Hid _ from hla2
    clear hla hla2
    go_wp2_with fail
    refine Calls.mono (Hid.out HRA) ?_
    rintro e w2 (⟨h9, _, _⟩ | ⟨_, rfl, r2, hst2⟩)
    · have h9' : 8 ≤ x.R.conns.length := h9
      rw [HX.out.1] at h9'
      have := HX.out.2.ok.few
      omega
    have e2 : ((({ x with G := x.G.accept } : GG).R.last + 1 : Nat) : Int) = la := by
      show ((x.R.last + 1 : Nat) : Int) = la
      rw [HX.out.1, HLa.out]
    rw [e2]
    have HFin : Hid (∃ o' L', Pl w0 w2 o' wb L' vals ∧ L'.length = L.length ∧ Goods (k + 1) L' ∧ (x.G.conns.length < 8 → L' = L.set i ⟨x.gb, x.rb, x.G.accept, x.R.accept⟩)) := by
      obtain ⟨hp2, _⟩ := HP1.out.rstep hi1 hst2
      have hp3 := hp2
      have e3 : (L.set i { x with G := x.G.accept }).set i { ({ x with G := x.G.accept } : GG) with R := x.R.accept } = L.set i ⟨x.gb, x.rb, x.G.accept, x.R.accept⟩ := set_both _ _
      refine ⟨_, _, hp3, by simp, ?_, fun _ => e3⟩
      show Goods (k + 1) ((L.set i { x with G := x.G.accept }).set i { ({ x with G := x.G.accept } : GG) with R := x.R.accept })
      rw [e3]
      refine HG.out.set ⟨by show x.R.accept = x.G.accept; rw [HX.out.1], accept_ok HX.out.2.ok H8.out (by have := HX.out.2.last; omega), HX.out.2.inn.accept, HX.out.2.wt.accept.mono (by omega), ?_⟩
      show x.G.last + 1 ≤ k + 1
      have := HX.out.2.last
      omega
    have HN := show Hid _ from num_any 0 w2
    clear HRA hst2 HP1 e2
    go_wp2_with fail
    refine Calls.mono (Hid.out HN) ?_
    rintro e w3 ⟨rfl, hw3⟩
    rw [hw3]
    clear hw3 HN
    go_wp2_with fail
    go_ret
    exact ⟨by simp, HFin.out⟩

theorem step2 {w0 w : World} {o : Lbl} {wb : Nat} {L : List GG} {vals : List Value} (h : Pl w0 w o wb L vals) {i : Nat} {x : GG} (hi : L[i]? = some x) {k : Nat} (hg : Goods k L) (hk : k ≤ 1048700) (hvl : vals.length ≤ 4194800) (at_ conn nn : Int) (ok : Bool) (S : List UInt8) (hS : S.length ≤ 1048576) (ua : Option Addr) (un uc : Nat) :
    Calls Tryz.prog 33 #[ptr wb, ptr x.gb, ptr x.rb, opV 2 at_ conn nn ok S ua un uc] w fun e w' => StepPost w0 wb L vals k e w' := by
  refine (step2a h hi hg hk hvl at_ conn nn ok S hS ua un uc).mono ?_
  rintro e w' ⟨h1, o', L', h2, h3, h4, _⟩
  exact ⟨h1, o', L', vals, h2, h3, by omega, h4⟩

set_option maxRecDepth 100000 in
set_option maxHeartbeats 1600000 in
theorem step8 {w0 w : World} {o : Lbl} {wb : Nat} {L : List GG} {vals : List Value} (h : Pl w0 w o wb L vals) {i : Nat} {x : GG} (hi : L[i]? = some x) {k : Nat} (hg : Goods k L) (_hk : k ≤ 1048700) (hvl : vals.length ≤ 4194800) (at_ conn nn : Int) (ok : Bool) (S : List UInt8) (_hS : S.length ≤ 1048576) (ua : Option Addr) (un uc : Nat) :
    Calls Tryz.prog 33 #[ptr wb, ptr x.gb, ptr x.rb, opV 8 at_ conn nn ok S ua un uc] w fun e w' => StepPost w0 wb L vals k e w' := by
  have hx := hg x (List.mem_of_getElem? hi)
  have hil : i < L.length := (List.getElem?_eq_some_iff.1 hi).1
  have hSz : (⟨S.toArray⟩ : ByteArray).size = S.length := mk_size S
  obtain ⟨W, hW⟩ : ∃ W, W = w.alloc (.cells #[.int .i64 8, .int .i64 at_, .int .i64 conn, .int .i64 nn, .bool ok, .string ⟨S.toArray⟩, .slice ua un uc] 73) := ⟨_, rfl⟩
  have hp0 : Pl w0 W o wb L vals := by rw [hW]; exact h.stays ((Q.refl w).alloc _)
  have hnb : o w.heap.size = none := by
    cases hn : o w.heap.size with
    | none => rfl
    | some y => have := (h.lt w.heap.size (by rw [hn]; simp)).1; omega
  have hWz : w.heap.size < W.heap.size := by rw [hW]; simp
  have b0 : W.cell? ⟨w.heap.size, 0, none⟩ = some (.int .i64 8) := by rw [hW]; simp [go_sem]
  have b3 : W.cell? ⟨w.heap.size, 3, none⟩ = some (.int .i64 nn) := by rw [hW]; simp [go_sem]
  have b5 : W.cell? ⟨w.heap.size, 5, none⟩ = some (.string ⟨S.toArray⟩) := by rw [hW]; simp [go_sem]
  have hgw := hp0.gw i x hi
  have hrg := hp0.rg i x hi
  have hmb := hrg.minB
  rw [hx.1] at hmb
  have HA := show Hid _ from tick_any hgw hx.2.ok hx.2.inn hmb nn
  have HEv : ∀ (w2 : World) (o2 : Lbl) (L2 : List GG) (a b : Value) (l : List EvS) (n : Int), Pl w0 w2 o2 wb L2 vals → l.length ≤ 900 → FreeRow w0 w2 o2 a l → EvAt w2 b l → L2.length = L.length → Goods (k + 1) L2 → Hid (Calls Tryz.prog 70 #[ptr wb, a, .int .i64 n, b, .int .i64 n] w2 fun e w' => StepPost w0 wb L vals k e w') := fun w2 o2 L2 a b l n hp hl ha hb hl2 hgd => by
    refine (events_any hp hvl a b l hl ha hb n).mono ?_
    rintro e w' ⟨rfl, o', vals', hp', hl'⟩
    exact ⟨rfl, o', L2, vals', hp', hl2, by omega, hgd⟩
  have HG : Hid (Goods k L) := hg
  have HP0 := show Hid _ from hp0
  have HX := show Hid _ from hx
  clear h hg hgw hrg hp0 hx hmb
  unfold opV
  go_enter Tryz.func33, Tryz.ntmps33
  go_wp2_with fail
  rw [← hW]
  refine Calls.mono (Hid.out HA) ?_
  rintro e w1 (⟨hno, hw1, rfl⟩ | ⟨hyes, r1, v1, rfl, hst1, hev1⟩)
  · rw [hw1]
    have HRA := show Hid _ from rtick_any (HP0.out.rg i x hi) (by rw [HX.out.1]; exact HX.out.2.ok) (by rw [HX.out.1]; exact fun c hc => ⟨(HX.out.2.inn c hc).s0, (HX.out.2.inn c hc).s1⟩) nn
    have HNo := show Hid _ from hno
    clear hw1 HA b0 b5 hW hno
    go_wp2_with fail
    refine Calls.mono (Hid.out HRA) ?_
    rintro e w2 (⟨_, hw2, rfl⟩ | ⟨hyes, _⟩)
    rotate_left
    · have := HNo.out
      omega
    rw [hw2]
    have HE := HEv W o L (.slice none 0 0) (.slice none 0 0) [] 5 HP0.out (by simp) (FreeRow.nil _ _ _) ⟨none, 0, rfl, fun i e hi => by simp at hi⟩ rfl HG.out.next
    clear hw2 HRA HEv
    go_wp2_with fail
    refine Calls.mono (Hid.out HE) ?_
    rintro e w3 ⟨rfl, hst⟩
    have HSt := show Hid _ from hst
    clear HE hst
    go_wp2_with fail
    go_ret
    exact ⟨rfl, HSt.out⟩
  · obtain ⟨hp1, ht1⟩ := HP0.out.gstep hi hst1
    have hfr1 := FreeRow.made HP0.out (c := false) (i := i) hev1
    have hi1 : (L.set i { x with G := (tickS x.G nn).1 })[i]? = some { x with G := (tickS x.G nn).1 } := List.getElem?_set_self hil
    have snb := (ht1.free w.heap.size hWz hnb).2
    have c3 : w1.cell? ⟨w.heap.size, 3, none⟩ = some (.int .i64 nn) := by rw [snb.cell]; exact b3
    have HRA := show Hid _ from rtick_any (hp1.rg i _ hi1) (by show GOk x.R; rw [HX.out.1]; exact HX.out.2.ok) (by show ∀ c ∈ x.R.conns, _; rw [HX.out.1]; exact fun c hc => ⟨(HX.out.2.inn c hc).s0, (HX.out.2.inn c hc).s1⟩) nn
    have HYes := show Hid _ from hyes
    have hlv : (tickS x.G nn).2.length ≤ 900 := by
      have := over_len nn x.G.conns HX.out.2.ok.few
      have e : (tickS x.G nn).2 = overOf nn x.G.conns := rfl
      rw [e]; omega
    have HFin : ∀ (w2 : World) (r2 : Rl) (v2 : Value), RGwStep ((o.put false i r1).pj true i) w0.heap.size w1 x.rb r2 w2 (tickS x.G nn).1 → EvsOut r2 (tickS x.G nn).2 w1 v2 w2 → Hid (Calls Tryz.prog 70 #[ptr wb, v1, .int .i64 0, v2, .int .i64 0] w2 fun e w' => StepPost w0 wb L vals k e w') := fun w2 r2 v2 hst2 hev2 => by
      obtain ⟨hp2, ht2⟩ := hp1.rstep hi1 hst2
      refine HEv w2 _ _ v1 v2 (tickS x.G nn).2 0 hp2 hlv (hfr1.turned ht2) (EvAt.own hev2.1) (by simp) ?_
      have e3 : (L.set i { x with G := (tickS x.G nn).1 }).set i { ({ x with G := (tickS x.G nn).1 } : GG) with R := (tickS x.G nn).1 } = L.set i ⟨x.gb, x.rb, (tickS x.G nn).1, (tickS x.G nn).1⟩ := set_both _ _
      rw [e3]
      exact HG.out.set ⟨rfl, HX.out.2.ok.tick nn, HX.out.2.inn.tick HYes.out.1, (HX.out.2.wt.tick nn).mono (by omega), by show x.G.last ≤ k + 1; have := HX.out.2.last; omega⟩
    obtain ⟨vo, vc, rfl⟩ := slice_form hev1.1
    clear HA b0 b3 b5 hW hst1 hp1 ht1 hfr1 hev1 HEv hyes
    generalize (tickS x.G nn).2.length = ln at *
    go_wp2_with fail
    refine Calls.mono (Hid.out HRA) ?_
    rintro e w2 (⟨hno, _, _⟩ | ⟨_, r2, v2, rfl, hst2, hev2⟩)
    · have := HYes.out
      omega
    have eR : (tickS ({ x with G := (tickS x.G nn).1 } : GG).R nn) = tickS x.G nn := by
      show tickS x.R nn = tickS x.G nn
      rw [HX.out.1]
    rw [eR] at hst2 hev2
    have HE := HFin w2 r2 v2 hst2 hev2
    obtain ⟨uo, uc2, rfl⟩ := slice_form hev2.1
    clear HRA HFin hst2 hev2 eR
    go_wp2_with fail
    refine Calls.mono (Hid.out HE) ?_
    rintro e w3 ⟨rfl, hst⟩
    have HSt := show Hid _ from hst
    clear HE hst
    go_wp2_with fail
    go_ret
    exact ⟨rfl, HSt.out⟩

set_option maxRecDepth 100000 in
set_option maxHeartbeats 1600000 in
theorem step9 {w0 w : World} {o : Lbl} {wb : Nat} {L : List GG} {vals : List Value} (h : Pl w0 w o wb L vals) {i : Nat} {x : GG} (hi : L[i]? = some x) {k : Nat} (hg : Goods k L) (at_ conn nn : Int) (ok : Bool) (S : List UInt8) (hS : S.length ≤ 1048576) (ua : Option Addr) (un uc : Nat) :
    Calls Tryz.prog 33 #[ptr wb, ptr x.gb, ptr x.rb, opV 9 at_ conn nn ok S ua un uc] w fun e w' => StepPost w0 wb L vals k e w' := by
  have hx := hg x (List.mem_of_getElem? hi)
  have hil : i < L.length := (List.getElem?_eq_some_iff.1 hi).1
  have hSz : (⟨S.toArray⟩ : ByteArray).size = S.length := mk_size S
  obtain ⟨W, hW⟩ : ∃ W, W = w.alloc (.cells #[.int .i64 9, .int .i64 at_, .int .i64 conn, .int .i64 nn, .bool ok, .string ⟨S.toArray⟩, .slice ua un uc] 73) := ⟨_, rfl⟩
  have hp0 : Pl w0 W o wb L vals := by rw [hW]; exact h.stays ((Q.refl w).alloc _)
  have hnb : o w.heap.size = none := by
    cases hn : o w.heap.size with
    | none => rfl
    | some y => have := (h.lt w.heap.size (by rw [hn]; simp)).1; omega
  have hWz : w.heap.size < W.heap.size := by rw [hW]; simp
  have b0 : W.cell? ⟨w.heap.size, 0, none⟩ = some (.int .i64 9) := by rw [hW]; simp [go_sem]
  have b5 : W.cell? ⟨w.heap.size, 5, none⟩ = some (.string ⟨S.toArray⟩) := by rw [hW]; simp [go_sem]
  have HA := show Hid _ from reload_any (hp0.gw i x hi) ⟨S.toArray⟩ (by rw [hSz]; unfold maxLen; omega)
  have HG : Hid (Goods k L) := hg
  have HP0 := show Hid _ from hp0
  have HX := show Hid _ from hx
  clear h hg hp0 hx
  unfold opV
  go_enter Tryz.func33, Tryz.ntmps33
  go_wp2_with fail
  rw [← hW]
  refine Calls.mono (Hid.out HA) ?_
  rintro e w1 (⟨en, ln, hcs, rfl, hq1⟩ | ⟨rs, r1, hcs, rfl, hst1⟩)
  · have HC : Hid (compileS S = .error (en, ln)) := hcs
    have c5 := hq1.cell b5
    have hp1 := HP0.out.stays hq1
    have HP1 := show Hid _ from hp1
    have HRA := show Hid _ from rreload_any (hp1.rg i x hi) S (by omega)
    clear HA b0 b5 hW hcs hp1 hq1
    obtain ⟨en', hen⟩ : ∃ z : Int, z = (en : Int) := ⟨_, rfl⟩
    obtain ⟨ln', hln⟩ : ∃ z : Int, z = (ln : Int) := ⟨_, rfl⟩
    rw [← hen, ← hln]
    have HEn := show Hid _ from hen
    have HLn := show Hid _ from hln
    clear hen hln
    go_wp2_with fail
    refine Calls.mono (Hid.out HRA) ?_
    rintro e w2 (⟨en2, ln2, hcs2, rfl, hq2⟩ | ⟨rs, r2, hcs2, _⟩)
    rotate_left
    · rw [HC.out] at hcs2
      cases hcs2
    rw [HC.out] at hcs2
    injection hcs2 with hcs2
    injection hcs2 with he1 he2
    rw [← he1, ← he2, ← HEn.out, ← HLn.out]
    have HFin : Hid (∃ o' L' vals', Pl w0 w2 o' wb L' vals' ∧ L'.length = L.length ∧ vals'.length ≤ vals.length + 4 ∧ Goods (k + 1) L') := ⟨o, L, vals, HP1.out.stays hq2, rfl, by omega, HG.out.next⟩
    have HN := show Hid _ from num_any en' w2
    clear HRA he1 he2 hq2
    go_wp2_with fail
    refine Calls.mono (Hid.out HN) ?_
    rintro e w3 ⟨rfl, hw3⟩
    rw [hw3]
    clear hw3 HN
    go_wp2_with fail
    go_ret
    exact ⟨by simp, HFin.out⟩
  · have HC : Hid (compileS S = .ok rs) := hcs
    obtain ⟨hp1, ht1⟩ := HP0.out.gstep hi hst1
    have hi1 : (L.set i { x with G := { x.G with rules := rs } })[i]? = some { x with G := { x.G with rules := rs } } := List.getElem?_set_self hil
    have snb := (ht1.free w.heap.size hWz hnb).2
    have c5 : w1.cell? ⟨w.heap.size, 5, none⟩ = some (.string ⟨S.toArray⟩) := by rw [snb.cell]; exact b5
    have HP1 := show Hid _ from hp1
    have HRA := show Hid _ from rreload_any (hp1.rg i _ hi1) S (by omega)
    clear HA b0 b5 hW hcs hp1 hst1 ht1 snb
    go_wp2_with fail
    refine Calls.mono (Hid.out HRA) ?_
    rintro e w2 (⟨en2, ln2, hcs2, _⟩ | ⟨rs2, r2, hcs2, rfl, hst2, _⟩)
    · rw [HC.out] at hcs2
      cases hcs2
    rw [HC.out] at hcs2
    injection hcs2 with hcs2
    subst hcs2
    have HFin : Hid (∃ o' L' vals', Pl w0 w2 o' wb L' vals' ∧ L'.length = L.length ∧ vals'.length ≤ vals.length + 4 ∧ Goods (k + 1) L') := by
      obtain ⟨hp2, _⟩ := HP1.out.rstep hi1 hst2
      refine ⟨_, _, vals, hp2, by simp, by omega, ?_⟩
      have e3 : (L.set i { x with G := { x.G with rules := rs } }).set i { ({ x with G := { x.G with rules := rs } } : GG) with R := { x.R with rules := rs } } = L.set i ⟨x.gb, x.rb, { x.G with rules := rs }, { x.R with rules := rs }⟩ := set_both _ _
      show Goods (k + 1) ((L.set i { x with G := { x.G with rules := rs } }).set i { ({ x with G := { x.G with rules := rs } } : GG) with R := { x.R with rules := rs } })
      rw [e3]
      exact HG.out.set ⟨by show ({ x.R with rules := rs } : GateS) = { x.G with rules := rs }; rw [HX.out.1], HX.out.2.ok.rules rs, HX.out.2.inn, HX.out.2.wt.mono (by omega), by show x.G.last ≤ k + 1; have := HX.out.2.last; omega⟩
    have HN := show Hid _ from num_any 0 w2
    clear HRA hst2 HP1
    go_wp2_with fail
    refine Calls.mono (Hid.out HN) ?_
    rintro e w3 ⟨rfl, hw3⟩
    rw [hw3]
    clear hw3 HN
    go_wp2_with fail
    go_ret
    exact ⟨by simp, HFin.out⟩

theorem step_any {w0 w : World} {o : Lbl} {wb : Nat} {L : List GG} {vals : List Value} (h : Pl w0 w o wb L vals) {i : Nat} {x : GG} (hi : L[i]? = some x) {k : Nat} (hg : Goods k L) (hk : k ≤ 1048700) (hvl : vals.length ≤ 4194800) (hml : ML w0) (kind at_ conn nn : Int) (ok : Bool) (S : List UInt8) (hS : S.length ≤ 1048576) (ua : Option Addr) (un uc : Nat) (hkd : 2 ≤ kind ∧ kind ≤ 9) :
    Calls Tryz.prog 33 #[ptr wb, ptr x.gb, ptr x.rb, opV kind at_ conn nn ok S ua un uc] w fun e w' => StepPost w0 wb L vals k e w' := by
  have : kind = 2 ∨ kind = 3 ∨ kind = 4 ∨ kind = 5 ∨ kind = 6 ∨ kind = 7 ∨ kind = 8 ∨ kind = 9 := by omega
  rcases this with rfl | rfl | rfl | rfl | rfl | rfl | rfl | rfl
  · exact step2 h hi hg hk hvl at_ conn nn ok S hS ua un uc
  · exact step3 h hi hg hk hvl hml at_ conn nn ok S hS ua un uc
  · exact step4 h hi hg hk hvl hml at_ conn nn ok S hS ua un uc
  · exact step5 h hi hg hk hvl hml at_ conn nn ok S hS ua un uc
  · exact step6 h hi hg hk hvl hml at_ conn nn ok S hS ua un uc
  · exact step7 h hi hg hk hvl hml at_ conn nn ok S hS ua un uc
  · exact step8 h hi hg hk hvl at_ conn nn ok S hS ua un uc
  · exact step9 h hi hg at_ conn nn ok S hS ua un uc
end Go.Proofs.YtdmaffciijmdcaaGreatDoor

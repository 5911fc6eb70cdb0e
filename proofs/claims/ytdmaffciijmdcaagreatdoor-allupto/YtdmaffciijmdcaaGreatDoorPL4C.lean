/-
  The laws' world: step.
-/
import Derived.Test.YtdmaffciijmdcaaGreatDoorGateIToPL3
namespace Go.Proofs.YtdmaffciijmdcaaGreatDoor
open Go.RowKit Plain

theorem ml_lowP {w : World} (hm : ML w) : 0 < w.heap.size := by
  obtain ⟨y, hy⟩ := hm
  exact Q.lt hy
theorem dialed_last (g : GateS) (i : Nat) (c : ConnS) (b : Bool) : (dialedAt g i c b).1.last = g.last ∧ (dialedAt g i c b).2.length ≤ 900 := by
  unfold dialedAt
  split
  · refine ⟨rfl, ?_⟩
    have := sendS_len 3 c.num c.wait
    simp only [List.length_cons]
    omega
  · exact ⟨rfl, by simp⟩
theorem endC_last (g : GateS) (i : Nat) (c : ConnS) : (endClientAt g i c).1.last = g.last ∧ (endClientAt g i c).2.length ≤ 900 := by
  unfold endClientAt
  split
  · exact ⟨rfl, by simp⟩
  · split
    · exact ⟨rfl, by simp⟩
    · dsimp only
      split <;> exact ⟨rfl, by simp⟩
theorem endH_last (g : GateS) (i : Nat) (c : ConnS) : (endHostAt g i c).1.last = g.last ∧ (endHostAt g i c).2.length ≤ 900 := by
  unfold endHostAt
  dsimp only
  split <;> exact ⟨rfl, by simp⟩

/-- The first of two calls. -/
theorem first_call {w0 w : World} {o : Lbl} {wb : Nat} {L : List GG} {vals : List Value} (h : Pl w0 w o wb L vals) {i : Nat} {x : GG} (hi : L[i]? = some x) {n : Int} {P : ConnS → Prop} {f : Nat → ConnS → GateS × List EvS} {F : FuncId} {args : Array Value} (hc : Calls Tryz.prog F args w fun e w1 => CallPost (o.pj false i) w0.heap.size x.gb x.G n P f w e w1) :
    Calls Tryz.prog F args w fun e w1 => ∃ (ao : Option Addr) (an ac : Nat) (en : Int) (l : List EvS) (o1 : Lbl) (G1 : GateS), e = .returned (.tuple #[.slice ao an ac, .int .i64 en]) ∧ Hid (Pl w0 w1 o1 wb (L.set i { x with G := G1 }) vals ∧ FreeRow w0 w1 o1 (.slice ao an ac) l ∧ Outcome x.G n P f G1 l en) ∧ Hid (∀ b, b < w.heap.size → o b = none → SameAt w w1 b) := by
  refine hc.mono ?_
  intro e w1 hp
  obtain ⟨av, en, l, o1, G1, rfl, h1, h2, h3, h4⟩ := h.called hi hp
  obtain ⟨ao, ac, rfl⟩ := slice_form h2.1
  exact ⟨ao, _, ac, en, l, o1, G1, rfl, ⟨h1, h2, h3⟩, h4⟩
/-- The second one, and events. -/
theorem second_call {w0 w1 : World} {o1 : Lbl} {wb : Nat} {L : List GG} {vals : List Value} {i : Nat} {x : GG} {n : Int} {P : ConnS → Prop} {f : Nat → ConnS → GateS × List EvS} {F : FuncId} {args : Array Value} {av : Value} {en : Int} {l : List EvS} {G1 : GateS} {k : Nat} (hi : L[i]? = some x) (hg : Goods k L) (hvl : vals.length ≤ 4194800) (h : Pl w0 w1 o1 wb (L.set i { x with G := G1 }) vals ∧ FreeRow w0 w1 o1 av l ∧ Outcome x.G n P f G1 l en)
    (hf : ∀ q c, x.G.conns[q]? = some c → (c.num : Int) = n → P c → GoodG (k + 1) (f q c).1 ∧ (f q c).2.length ≤ 900) (hc : Calls Tryz.prog F args w1 fun e w2 => RCallPost (o1.pj true i) w0.heap.size x.rb x.R n P f w1 e w2) :
    Calls Tryz.prog F args w1 fun e w2 => ∃ (bo : Option Addr) (bn bc : Nat), e = .returned (.tuple #[.slice bo bn bc, .int .i64 en]) ∧ Hid (Calls Tryz.prog 70 #[ptr wb, av, .int .i64 en, .slice bo bn bc, .int .i64 en] w2 fun e w' => StepPost w0 wb L vals k e w') := by
  have hil : i < L.length := (List.getElem?_eq_some_iff.1 hi).1
  have hi1 : (L.set i { x with G := G1 })[i]? = some { x with G := G1 } := List.getElem?_set_self hil
  refine hc.mono ?_
  intro e w2 hp
  obtain ⟨bv, em, m, o2, G2, rfl, h1, h2, h3, h4⟩ := h.1.rcalled hi1 hp
  obtain ⟨rfl, he⟩ := events_both (k := k) hi hg hvl h.2.2 h3 h1 (h4 _ _ h.2.1) h2 hf
  obtain ⟨bo, bc, rfl, _⟩ := h2
  exact ⟨bo, _, bc, rfl, he⟩

/-- A step of a script. -/
abbrev opV (kind at_ conn nn : Int) (ok : Bool) (S : List UInt8) (ua : Option Addr) (un uc : Nat) : Value := .agg #[.int .i64 kind, .int .i64 at_, .int .i64 conn, .int .i64 nn, .bool ok, .string ⟨S.toArray⟩, .slice ua un uc]

set_option maxRecDepth 100000 in
set_option maxHeartbeats 1600000 in
theorem step3 {w0 w : World} {o : Lbl} {wb : Nat} {L : List GG} {vals : List Value} (h : Pl w0 w o wb L vals) {i : Nat} {x : GG} (hi : L[i]? = some x) {k : Nat} (hg : Goods k L) (hk : k ≤ 1048700) (hvl : vals.length ≤ 4194800) (hml : ML w0) (at_ conn nn : Int) (ok : Bool) (S : List UInt8) (hS : S.length ≤ 1048576) (ua : Option Addr) (un uc : Nat) :
    Calls Tryz.prog 33 #[ptr wb, ptr x.gb, ptr x.rb, opV 3 at_ conn nn ok S ua un uc] w fun e w' => StepPost w0 wb L vals k e w' := by
  have hx := hg x (List.mem_of_getElem? hi)
  have hil : i < L.length := (List.getElem?_eq_some_iff.1 hi).1
  have hSz : (⟨S.toArray⟩ : ByteArray).size = S.length := mk_size S
  have hwt : ∀ c ∈ x.G.conns, c.wait.length + S.length ≤ 4398046511104 := fun c hc => by have := hx.2.wt c hc; omega
  obtain ⟨W, hW⟩ : ∃ W, W = w.alloc (.cells #[.int .i64 3, .int .i64 at_, .int .i64 conn, .int .i64 nn, .bool ok, .string ⟨S.toArray⟩, .slice ua un uc] 73) := ⟨_, rfl⟩
  have hp0 : Pl w0 W o wb L vals := by rw [hW]; exact h.stays ((Q.refl w).alloc _)
  have hnb : o w.heap.size = none := by
    cases hn : o w.heap.size with
    | none => rfl
    | some y => have := (h.lt w.heap.size (by rw [hn]; simp)).1; omega
  have hWz : w.heap.size < W.heap.size := by rw [hW]; simp
  have b0 : W.cell? ⟨w.heap.size, 0, none⟩ = some (.int .i64 3) := by rw [hW]; simp [go_sem]
  have b2 : W.cell? ⟨w.heap.size, 2, none⟩ = some (.int .i64 conn) := by rw [hW]; simp [go_sem]
  have b4 : W.cell? ⟨w.heap.size, 4, none⟩ = some (.bool ok) := by rw [hW]; simp [go_sem]
  have b5 : W.cell? ⟨w.heap.size, 5, none⟩ = some (.string ⟨S.toArray⟩) := by rw [hW]; simp [go_sem]
  have HP := show Hid _ from first_call hp0 hi (clientC_any (hp0.gw i x hi) hx.2.ok conn ⟨S.toArray⟩ (fun c hc => by rw [hSz]; exact hwt c hc) (hml.stays hp0.q) (ml_lowP hml))
  have HR : ∀ (w1 : World) (o1 : Lbl) (G1 : GateS) (av : Value) (l : List EvS) (en : Int), (Pl w0 w1 o1 wb (L.set i { x with G := G1 }) vals ∧ FreeRow w0 w1 o1 av l ∧ Outcome x.G conn (fun c => c.noMore = false) (fun q c => clientAt x.G q c S) G1 l en) → Hid (Calls Tryz.prog 34 #[ptr x.rb, .int .i64 conn, .string ⟨S.toArray⟩] w1 fun e w2 => ∃ (bo : Option Addr) (bn bc : Nat), e = .returned (.tuple #[.slice bo bn bc, .int .i64 en]) ∧ Hid (Calls Tryz.prog 70 #[ptr wb, av, .int .i64 en, .slice bo bn bc, .int .i64 en] w2 fun e w' => StepPost w0 wb L vals k e w')) := fun w1 o1 G1 av l en h1 => by
    have hrg := h1.1.rg i _ (List.getElem?_set_self hil)
    have hxR : x.R = x.G := hx.1
    refine second_call hi hg hvl h1 (fun q c hq hn hp => ?_) ?_
    · exact ⟨⟨clientAt_ok hx.2.ok hq S, hx.2.inn.client hq S, (hx.2.wt.client hq S).mono (by omega), by rw [(clientAt_last x.G q c S).2.2.2]; have := hx.2.last; omega⟩, by have := clientAt_len x.G q c S; omega⟩
    · rw [hxR] at hrg ⊢
      exact rclient_any hrg hx.2.ok conn S hwt
  clear h hp0 hg
  unfold opV
  go_enter Tryz.func33, Tryz.ntmps33
  go_wp2_with fail
  rw [← hW]
  refine Calls.mono (Hid.out HP) ?_
  rintro e w1 ⟨ao, an, ac, en, l, o1, G1, rfl, h1, hfr⟩
  have HR1 := HR w1 o1 G1 _ l en h1.out
  have snb := hfr.out w.heap.size hWz hnb
  have c0 : w1.cell? ⟨w.heap.size, 0, none⟩ = some (.int .i64 3) := by rw [snb.cell]; exact b0
  have c2 : w1.cell? ⟨w.heap.size, 2, none⟩ = some (.int .i64 conn) := by rw [snb.cell]; exact b2
  have c4 : w1.cell? ⟨w.heap.size, 4, none⟩ = some (.bool ok) := by rw [snb.cell]; exact b4
  have c5 : w1.cell? ⟨w.heap.size, 5, none⟩ = some (.string ⟨S.toArray⟩) := by rw [snb.cell]; exact b5
  clear HP HR h1 hfr snb b0 b2 b4 b5 hW
  go_wp2_with fail
  refine Calls.mono (Hid.out HR1) ?_
  rintro e w2 ⟨bo, bn, bc, rfl, hev⟩
  clear HR1
  go_wp2_with fail
  refine Calls.mono (Hid.out hev) ?_
  rintro e w3 ⟨rfl, hst⟩
  have HSt := show Hid _ from hst
  clear hev hst
  go_wp2_with fail
  go_ret
  exact ⟨rfl, HSt.out⟩

set_option maxRecDepth 100000 in
set_option maxHeartbeats 1600000 in
theorem step4 {w0 w : World} {o : Lbl} {wb : Nat} {L : List GG} {vals : List Value} (h : Pl w0 w o wb L vals) {i : Nat} {x : GG} (hi : L[i]? = some x) {k : Nat} (hg : Goods k L) (hk : k ≤ 1048700) (hvl : vals.length ≤ 4194800) (_hml : ML w0) (at_ conn nn : Int) (ok : Bool) (S : List UInt8) (hS : S.length ≤ 1048576) (ua : Option Addr) (un uc : Nat) :
    Calls Tryz.prog 33 #[ptr wb, ptr x.gb, ptr x.rb, opV 4 at_ conn nn ok S ua un uc] w fun e w' => StepPost w0 wb L vals k e w' := by
  have hx := hg x (List.mem_of_getElem? hi)
  have hil : i < L.length := (List.getElem?_eq_some_iff.1 hi).1
  have hSz : (⟨S.toArray⟩ : ByteArray).size = S.length := mk_size S
  have hwt : ∀ c ∈ x.G.conns, c.wait.length + S.length ≤ 4398046511104 := fun c hc => by have := hx.2.wt c hc; omega
  obtain ⟨W, hW⟩ : ∃ W, W = w.alloc (.cells #[.int .i64 4, .int .i64 at_, .int .i64 conn, .int .i64 nn, .bool ok, .string ⟨S.toArray⟩, .slice ua un uc] 73) := ⟨_, rfl⟩
  have hp0 : Pl w0 W o wb L vals := by rw [hW]; exact h.stays ((Q.refl w).alloc _)
  have hnb : o w.heap.size = none := by
    cases hn : o w.heap.size with
    | none => rfl
    | some y => have := (h.lt w.heap.size (by rw [hn]; simp)).1; omega
  have hWz : w.heap.size < W.heap.size := by rw [hW]; simp
  have b0 : W.cell? ⟨w.heap.size, 0, none⟩ = some (.int .i64 4) := by rw [hW]; simp [go_sem]
  have b2 : W.cell? ⟨w.heap.size, 2, none⟩ = some (.int .i64 conn) := by rw [hW]; simp [go_sem]
  have b4 : W.cell? ⟨w.heap.size, 4, none⟩ = some (.bool ok) := by rw [hW]; simp [go_sem]
  have b5 : W.cell? ⟨w.heap.size, 5, none⟩ = some (.string ⟨S.toArray⟩) := by rw [hW]; simp [go_sem]
  have HP := show Hid _ from first_call hp0 hi (dialed_any (hp0.gw i x hi) hx.2.ok (fun c hc => by have := hwt c hc; omega) conn ok)
  have HR : ∀ (w1 : World) (o1 : Lbl) (G1 : GateS) (av : Value) (l : List EvS) (en : Int), (Pl w0 w1 o1 wb (L.set i { x with G := G1 }) vals ∧ FreeRow w0 w1 o1 av l ∧ Outcome x.G conn (fun c => c.stage = 1) (fun q c => dialedAt x.G q c ok) G1 l en) → Hid (Calls Tryz.prog 71 #[ptr x.rb, .int .i64 conn, .bool ok] w1 fun e w2 => ∃ (bo : Option Addr) (bn bc : Nat), e = .returned (.tuple #[.slice bo bn bc, .int .i64 en]) ∧ Hid (Calls Tryz.prog 70 #[ptr wb, av, .int .i64 en, .slice bo bn bc, .int .i64 en] w2 fun e w' => StepPost w0 wb L vals k e w')) := fun w1 o1 G1 av l en h1 => by
    have hrg := h1.1.rg i _ (List.getElem?_set_self hil)
    have hxR : x.R = x.G := hx.1
    refine second_call hi hg hvl h1 (fun q c hq hn hp => ?_) ?_
    · exact ⟨⟨hx.2.ok.dialed hq ok, hx.2.inn.dialed ok, (hx.2.wt.dialed ok).mono (by omega), by rw [(dialed_last x.G q c ok).1]; have := hx.2.last; omega⟩, (dialed_last x.G q c ok).2⟩
    · rw [hxR] at hrg ⊢
      exact rdialed_any hrg hx.2.ok conn ok
  clear h hp0 hg
  unfold opV
  go_enter Tryz.func33, Tryz.ntmps33
  go_wp2_with fail
  rw [← hW]
  refine Calls.mono (Hid.out HP) ?_
  rintro e w1 ⟨ao, an, ac, en, l, o1, G1, rfl, h1, hfr⟩
  have HR1 := HR w1 o1 G1 _ l en h1.out
  have snb := hfr.out w.heap.size hWz hnb
  have c0 : w1.cell? ⟨w.heap.size, 0, none⟩ = some (.int .i64 4) := by rw [snb.cell]; exact b0
  have c2 : w1.cell? ⟨w.heap.size, 2, none⟩ = some (.int .i64 conn) := by rw [snb.cell]; exact b2
  have c4 : w1.cell? ⟨w.heap.size, 4, none⟩ = some (.bool ok) := by rw [snb.cell]; exact b4
  have c5 : w1.cell? ⟨w.heap.size, 5, none⟩ = some (.string ⟨S.toArray⟩) := by rw [snb.cell]; exact b5
  clear HP HR h1 hfr snb b0 b2 b4 b5 hW
  go_wp2_with fail
  refine Calls.mono (Hid.out HR1) ?_
  rintro e w2 ⟨bo, bn, bc, rfl, hev⟩
  clear HR1
  go_wp2_with fail
  refine Calls.mono (Hid.out hev) ?_
  rintro e w3 ⟨rfl, hst⟩
  have HSt := show Hid _ from hst
  clear hev hst
  go_wp2_with fail
  go_ret
  exact ⟨rfl, HSt.out⟩

set_option maxRecDepth 100000 in
set_option maxHeartbeats 1600000 in
theorem step5 {w0 w : World} {o : Lbl} {wb : Nat} {L : List GG} {vals : List Value} (h : Pl w0 w o wb L vals) {i : Nat} {x : GG} (hi : L[i]? = some x) {k : Nat} (hg : Goods k L) (hk : k ≤ 1048700) (hvl : vals.length ≤ 4194800) (_hml : ML w0) (at_ conn nn : Int) (ok : Bool) (S : List UInt8) (hS : S.length ≤ 1048576) (ua : Option Addr) (un uc : Nat) :
    Calls Tryz.prog 33 #[ptr wb, ptr x.gb, ptr x.rb, opV 5 at_ conn nn ok S ua un uc] w fun e w' => StepPost w0 wb L vals k e w' := by
  have hx := hg x (List.mem_of_getElem? hi)
  have hil : i < L.length := (List.getElem?_eq_some_iff.1 hi).1
  have hSz : (⟨S.toArray⟩ : ByteArray).size = S.length := mk_size S
  have hwt : ∀ c ∈ x.G.conns, c.wait.length + S.length ≤ 4398046511104 := fun c hc => by have := hx.2.wt c hc; omega
  obtain ⟨W, hW⟩ : ∃ W, W = w.alloc (.cells #[.int .i64 5, .int .i64 at_, .int .i64 conn, .int .i64 nn, .bool ok, .string ⟨S.toArray⟩, .slice ua un uc] 73) := ⟨_, rfl⟩
  have hp0 : Pl w0 W o wb L vals := by rw [hW]; exact h.stays ((Q.refl w).alloc _)
  have hnb : o w.heap.size = none := by
    cases hn : o w.heap.size with
    | none => rfl
    | some y => have := (h.lt w.heap.size (by rw [hn]; simp)).1; omega
  have hWz : w.heap.size < W.heap.size := by rw [hW]; simp
  have b0 : W.cell? ⟨w.heap.size, 0, none⟩ = some (.int .i64 5) := by rw [hW]; simp [go_sem]
  have b2 : W.cell? ⟨w.heap.size, 2, none⟩ = some (.int .i64 conn) := by rw [hW]; simp [go_sem]
  have b4 : W.cell? ⟨w.heap.size, 4, none⟩ = some (.bool ok) := by rw [hW]; simp [go_sem]
  have b5 : W.cell? ⟨w.heap.size, 5, none⟩ = some (.string ⟨S.toArray⟩) := by rw [hW]; simp [go_sem]
  have HP := show Hid _ from first_call hp0 hi (host2_any (hp0.gw i x hi) hx.2.ok conn ⟨S.toArray⟩ (by omega))
  have HR : ∀ (w1 : World) (o1 : Lbl) (G1 : GateS) (av : Value) (l : List EvS) (en : Int), (Pl w0 w1 o1 wb (L.set i { x with G := G1 }) vals ∧ FreeRow w0 w1 o1 av l ∧ Outcome x.G conn (fun c => c.stage = 2 ∧ c.hostEnd = false) (fun q c => hostAt x.G q c S) G1 l en) → Hid (Calls Tryz.prog 72 #[ptr x.rb, .int .i64 conn, .string ⟨S.toArray⟩] w1 fun e w2 => ∃ (bo : Option Addr) (bn bc : Nat), e = .returned (.tuple #[.slice bo bn bc, .int .i64 en]) ∧ Hid (Calls Tryz.prog 70 #[ptr wb, av, .int .i64 en, .slice bo bn bc, .int .i64 en] w2 fun e w' => StepPost w0 wb L vals k e w')) := fun w1 o1 G1 av l en h1 => by
    have hrg := h1.1.rg i _ (List.getElem?_set_self hil)
    have hxR : x.R = x.G := hx.1
    refine second_call hi hg hvl h1 (fun q c hq hn hp => ?_) ?_
    · exact ⟨⟨hx.2.ok.host hq S, hx.2.inn.host hq S, (hx.2.wt.host hq S).mono (by omega), by show x.G.last ≤ k + 1; have := hx.2.last; omega⟩, by have := sendS_len 2 c.num S; show (sendS 2 c.num S).length ≤ 900; omega⟩
    · rw [hxR] at hrg ⊢
      exact rhost2_any hrg hx.2.ok conn S
  clear h hp0 hg
  unfold opV
  go_enter Tryz.func33, Tryz.ntmps33
  go_wp2_with fail
  rw [← hW]
  refine Calls.mono (Hid.out HP) ?_
  rintro e w1 ⟨ao, an, ac, en, l, o1, G1, rfl, h1, hfr⟩
  have HR1 := HR w1 o1 G1 _ l en h1.out
  have snb := hfr.out w.heap.size hWz hnb
  have c0 : w1.cell? ⟨w.heap.size, 0, none⟩ = some (.int .i64 5) := by rw [snb.cell]; exact b0
  have c2 : w1.cell? ⟨w.heap.size, 2, none⟩ = some (.int .i64 conn) := by rw [snb.cell]; exact b2
  have c4 : w1.cell? ⟨w.heap.size, 4, none⟩ = some (.bool ok) := by rw [snb.cell]; exact b4
  have c5 : w1.cell? ⟨w.heap.size, 5, none⟩ = some (.string ⟨S.toArray⟩) := by rw [snb.cell]; exact b5
  clear HP HR h1 hfr snb b0 b2 b4 b5 hW
  go_wp2_with fail
  refine Calls.mono (Hid.out HR1) ?_
  rintro e w2 ⟨bo, bn, bc, rfl, hev⟩
  clear HR1
  go_wp2_with fail
  refine Calls.mono (Hid.out hev) ?_
  rintro e w3 ⟨rfl, hst⟩
  have HSt := show Hid _ from hst
  clear hev hst
  go_wp2_with fail
  go_ret
  exact ⟨rfl, HSt.out⟩

set_option maxRecDepth 100000 in
set_option maxHeartbeats 1600000 in
theorem step6 {w0 w : World} {o : Lbl} {wb : Nat} {L : List GG} {vals : List Value} (h : Pl w0 w o wb L vals) {i : Nat} {x : GG} (hi : L[i]? = some x) {k : Nat} (hg : Goods k L) (hk : k ≤ 1048700) (hvl : vals.length ≤ 4194800) (_hml : ML w0) (at_ conn nn : Int) (ok : Bool) (S : List UInt8) (hS : S.length ≤ 1048576) (ua : Option Addr) (un uc : Nat) :
    Calls Tryz.prog 33 #[ptr wb, ptr x.gb, ptr x.rb, opV 6 at_ conn nn ok S ua un uc] w fun e w' => StepPost w0 wb L vals k e w' := by
  have hx := hg x (List.mem_of_getElem? hi)
  have hil : i < L.length := (List.getElem?_eq_some_iff.1 hi).1
  have hSz : (⟨S.toArray⟩ : ByteArray).size = S.length := mk_size S
  have hwt : ∀ c ∈ x.G.conns, c.wait.length + S.length ≤ 4398046511104 := fun c hc => by have := hx.2.wt c hc; omega
  obtain ⟨W, hW⟩ : ∃ W, W = w.alloc (.cells #[.int .i64 6, .int .i64 at_, .int .i64 conn, .int .i64 nn, .bool ok, .string ⟨S.toArray⟩, .slice ua un uc] 73) := ⟨_, rfl⟩
  have hp0 : Pl w0 W o wb L vals := by rw [hW]; exact h.stays ((Q.refl w).alloc _)
  have hnb : o w.heap.size = none := by
    cases hn : o w.heap.size with
    | none => rfl
    | some y => have := (h.lt w.heap.size (by rw [hn]; simp)).1; omega
  have hWz : w.heap.size < W.heap.size := by rw [hW]; simp
  have b0 : W.cell? ⟨w.heap.size, 0, none⟩ = some (.int .i64 6) := by rw [hW]; simp [go_sem]
  have b2 : W.cell? ⟨w.heap.size, 2, none⟩ = some (.int .i64 conn) := by rw [hW]; simp [go_sem]
  have b4 : W.cell? ⟨w.heap.size, 4, none⟩ = some (.bool ok) := by rw [hW]; simp [go_sem]
  have b5 : W.cell? ⟨w.heap.size, 5, none⟩ = some (.string ⟨S.toArray⟩) := by rw [hW]; simp [go_sem]
  have HP := show Hid _ from first_call hp0 hi (endClient_any (hp0.gw i x hi) hx.2.ok hx.2.inn conn)
  have HR : ∀ (w1 : World) (o1 : Lbl) (G1 : GateS) (av : Value) (l : List EvS) (en : Int), (Pl w0 w1 o1 wb (L.set i { x with G := G1 }) vals ∧ FreeRow w0 w1 o1 av l ∧ Outcome x.G conn (fun c => c.noMore = false) (fun q c => endClientAt x.G q c) G1 l en) → Hid (Calls Tryz.prog 73 #[ptr x.rb, .int .i64 conn] w1 fun e w2 => ∃ (bo : Option Addr) (bn bc : Nat), e = .returned (.tuple #[.slice bo bn bc, .int .i64 en]) ∧ Hid (Calls Tryz.prog 70 #[ptr wb, av, .int .i64 en, .slice bo bn bc, .int .i64 en] w2 fun e w' => StepPost w0 wb L vals k e w')) := fun w1 o1 G1 av l en h1 => by
    have hrg := h1.1.rg i _ (List.getElem?_set_self hil)
    have hxR : x.R = x.G := hx.1
    refine second_call hi hg hvl h1 (fun q c hq hn hp => ?_) ?_
    · exact ⟨⟨hx.2.ok.endClient hq, hx.2.inn.endClient hq, (hx.2.wt.endClient hq).mono (by omega), by rw [(endC_last x.G q c).1]; have := hx.2.last; omega⟩, (endC_last x.G q c).2⟩
    · rw [hxR] at hrg ⊢
      exact rendClient_any hrg hx.2.ok conn
  clear h hp0 hg
  unfold opV
  go_enter Tryz.func33, Tryz.ntmps33
  go_wp2_with fail
  rw [← hW]
  refine Calls.mono (Hid.out HP) ?_
  rintro e w1 ⟨ao, an, ac, en, l, o1, G1, rfl, h1, hfr⟩
  have HR1 := HR w1 o1 G1 _ l en h1.out
  have snb := hfr.out w.heap.size hWz hnb
  have c0 : w1.cell? ⟨w.heap.size, 0, none⟩ = some (.int .i64 6) := by rw [snb.cell]; exact b0
  have c2 : w1.cell? ⟨w.heap.size, 2, none⟩ = some (.int .i64 conn) := by rw [snb.cell]; exact b2
  have c4 : w1.cell? ⟨w.heap.size, 4, none⟩ = some (.bool ok) := by rw [snb.cell]; exact b4
  have c5 : w1.cell? ⟨w.heap.size, 5, none⟩ = some (.string ⟨S.toArray⟩) := by rw [snb.cell]; exact b5
  clear HP HR h1 hfr snb b0 b2 b4 b5 hW
  go_wp2_with fail
  refine Calls.mono (Hid.out HR1) ?_
  rintro e w2 ⟨bo, bn, bc, rfl, hev⟩
  clear HR1
  go_wp2_with fail
  refine Calls.mono (Hid.out hev) ?_
  rintro e w3 ⟨rfl, hst⟩
  have HSt := show Hid _ from hst
  clear hev hst
  go_wp2_with fail
  go_ret
  exact ⟨rfl, HSt.out⟩

set_option maxRecDepth 100000 in
set_option maxHeartbeats 1600000 in
theorem step7 {w0 w : World} {o : Lbl} {wb : Nat} {L : List GG} {vals : List Value} (h : Pl w0 w o wb L vals) {i : Nat} {x : GG} (hi : L[i]? = some x) {k : Nat} (hg : Goods k L) (hk : k ≤ 1048700) (hvl : vals.length ≤ 4194800) (_hml : ML w0) (at_ conn nn : Int) (ok : Bool) (S : List UInt8) (hS : S.length ≤ 1048576) (ua : Option Addr) (un uc : Nat) :
    Calls Tryz.prog 33 #[ptr wb, ptr x.gb, ptr x.rb, opV 7 at_ conn nn ok S ua un uc] w fun e w' => StepPost w0 wb L vals k e w' := by
  have hx := hg x (List.mem_of_getElem? hi)
  have hil : i < L.length := (List.getElem?_eq_some_iff.1 hi).1
  have hSz : (⟨S.toArray⟩ : ByteArray).size = S.length := mk_size S
  have hwt : ∀ c ∈ x.G.conns, c.wait.length + S.length ≤ 4398046511104 := fun c hc => by have := hx.2.wt c hc; omega
  obtain ⟨W, hW⟩ : ∃ W, W = w.alloc (.cells #[.int .i64 7, .int .i64 at_, .int .i64 conn, .int .i64 nn, .bool ok, .string ⟨S.toArray⟩, .slice ua un uc] 73) := ⟨_, rfl⟩
  have hp0 : Pl w0 W o wb L vals := by rw [hW]; exact h.stays ((Q.refl w).alloc _)
  have hnb : o w.heap.size = none := by
    cases hn : o w.heap.size with
    | none => rfl
    | some y => have := (h.lt w.heap.size (by rw [hn]; simp)).1; omega
  have hWz : w.heap.size < W.heap.size := by rw [hW]; simp
  have b0 : W.cell? ⟨w.heap.size, 0, none⟩ = some (.int .i64 7) := by rw [hW]; simp [go_sem]
  have b2 : W.cell? ⟨w.heap.size, 2, none⟩ = some (.int .i64 conn) := by rw [hW]; simp [go_sem]
  have b4 : W.cell? ⟨w.heap.size, 4, none⟩ = some (.bool ok) := by rw [hW]; simp [go_sem]
  have b5 : W.cell? ⟨w.heap.size, 5, none⟩ = some (.string ⟨S.toArray⟩) := by rw [hW]; simp [go_sem]
  have HP := show Hid _ from first_call hp0 hi (endHost_any (hp0.gw i x hi) hx.2.ok conn)
  have HR : ∀ (w1 : World) (o1 : Lbl) (G1 : GateS) (av : Value) (l : List EvS) (en : Int), (Pl w0 w1 o1 wb (L.set i { x with G := G1 }) vals ∧ FreeRow w0 w1 o1 av l ∧ Outcome x.G conn (fun c => c.stage = 2 ∧ c.hostEnd = false) (fun q c => endHostAt x.G q c) G1 l en) → Hid (Calls Tryz.prog 74 #[ptr x.rb, .int .i64 conn] w1 fun e w2 => ∃ (bo : Option Addr) (bn bc : Nat), e = .returned (.tuple #[.slice bo bn bc, .int .i64 en]) ∧ Hid (Calls Tryz.prog 70 #[ptr wb, av, .int .i64 en, .slice bo bn bc, .int .i64 en] w2 fun e w' => StepPost w0 wb L vals k e w')) := fun w1 o1 G1 av l en h1 => by
    have hrg := h1.1.rg i _ (List.getElem?_set_self hil)
    have hxR : x.R = x.G := hx.1
    refine second_call hi hg hvl h1 (fun q c hq hn hp => ?_) ?_
    · exact ⟨⟨hx.2.ok.endHost hq, hx.2.inn.endHost hq hp.1, (hx.2.wt.endHost hq).mono (by omega), by rw [(endH_last x.G q c).1]; have := hx.2.last; omega⟩, (endH_last x.G q c).2⟩
    · rw [hxR] at hrg ⊢
      exact rendHost_any hrg hx.2.ok conn
  clear h hp0 hg
  unfold opV
  go_enter Tryz.func33, Tryz.ntmps33
  go_wp2_with fail
  rw [← hW]
  refine Calls.mono (Hid.out HP) ?_
  rintro e w1 ⟨ao, an, ac, en, l, o1, G1, rfl, h1, hfr⟩
  have HR1 := HR w1 o1 G1 _ l en h1.out
  have snb := hfr.out w.heap.size hWz hnb
  have c0 : w1.cell? ⟨w.heap.size, 0, none⟩ = some (.int .i64 7) := by rw [snb.cell]; exact b0
  have c2 : w1.cell? ⟨w.heap.size, 2, none⟩ = some (.int .i64 conn) := by rw [snb.cell]; exact b2
  have c4 : w1.cell? ⟨w.heap.size, 4, none⟩ = some (.bool ok) := by rw [snb.cell]; exact b4
  have c5 : w1.cell? ⟨w.heap.size, 5, none⟩ = some (.string ⟨S.toArray⟩) := by rw [snb.cell]; exact b5
  clear HP HR h1 hfr snb b0 b2 b4 b5 hW
  go_wp2_with fail
  refine Calls.mono (Hid.out HR1) ?_
  rintro e w2 ⟨bo, bn, bc, rfl, hev⟩
  clear HR1
  go_wp2_with fail
  refine Calls.mono (Hid.out hev) ?_
  rintro e w3 ⟨rfl, hst⟩
  have HSt := show Hid _ from hst
  clear hev hst
  go_wp2_with fail
  go_ret
  exact ⟨rfl, HSt.out⟩
end Go.Proofs.YtdmaffciijmdcaaGreatDoor

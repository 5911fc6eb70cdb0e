/-
  The laws' world: made.
-/
import Derived.Test.YtdmaffciijmdcaaGreatDoorPL6C
namespace Go.Proofs.YtdmaffciijmdcaaGreatDoor
open Go.RowKit Plain

theorem new_fresh {T : List UInt8} {us : List (List UInt8 × List UInt8)} {m : Int} {G : GateS} (h : newS T us m = .ok G) : G.conns = [] ∧ G.last = 0 := by
  unfold newS at h
  split at h
  · cases h
  · split at h
    · cases h
    · split at h
      · cases h
      · split at h
        · cases h
        · cases h
          exact ⟨rfl, rfl⟩
theorem new_bad {T : List UInt8} {us : List (List UInt8 × List UInt8)} {m : Int} {en ln : Nat} (h : newS T us m = .error (en, ln)) : en ≠ 0 := by
  unfold newS at h
  split at h
  · rename_i e he
    cases h
    exact comp_en0 he
  · split at h
    · cases h; decide
    · split at h
      · cases h; decide
      · split at h
        · cases h; decide
        · cases h
theorem pairs_in {w : World} {B g n cap : Nat} {us : List (List UInt8 × List UInt8)} (h : w.ownsRow B 71 2 (.slice (some ⟨g, 0, none⟩) n n) n (pairVals (lentS us))) : PairsAt (fun b => b < w.heap.size) w (.slice (some ⟨g, 0, none⟩) us.length cap) us := by
  refine ⟨_, cap, rfl, fun i f hi => ⟨g, (owns_lt h g rfl).2, rfl, ?_, ?_⟩⟩
  · obtain ⟨p1, _⟩ := pairVals_get (lentS us) i f (by unfold lentS; rw [List.getElem?_append_left (List.getElem?_eq_some_iff.1 hi).1]; exact hi)
    exact owned_at h _ _ p1
  · obtain ⟨_, p2⟩ := pairVals_get (lentS us) i f (by unfold lentS; rw [List.getElem?_append_left (List.getElem?_eq_some_iff.1 hi).1]; exact hi)
    exact owned_at h _ _ p2
set_option maxRecDepth 100000 in
theorem nilU (w : World) (a : Option Addr) (n c : Nat) : (binOp .eql 35 (.slice a n c) (.slice none 0 0)).run Tryz.prog w = .ok (.bool a.isNone) w := by
  have hn : ∀ d : Nat, (Op.equalIn (d + 1) 35 (.slice a n c) (.slice none 0 0)).run Tryz.prog w = .ok a.isNone w := fun d => by
    cases a <;> simp [Op.equalIn, run_underlying Tryz.underlying35]
  simp only [binOp]
  simp [Op.equal, Op.maxDepth, hn 9999]
theorem ptr_one (b : Nat) : ∀ u ∈ ([.pointer (some ⟨b, 0, none⟩)] : List Value), u.oneCell' = true := by
  intro u hu
  rw [List.mem_singleton.1 hu]; rfl

/-- What made leaves. -/
def MadePost (w0 : World) (o : Lbl) (wb : Nat) (L : List GG) (vals : List Value) (S : List UInt8) (us : List (List UInt8 × List UInt8)) (nn : Int) (w : World) (e : Ending) (w' : World) : Prop :=
  e = .returned (.bool true) ∧ ∃ o' L', Pl w0 w' o' wb L' vals ∧ (∀ b, b < w.heap.size → o b = none → SameAt w w' b) ∧ ((∃ en ln, newS S us nn = .error (en, ln) ∧ L' = L) ∨ ∃ G gb rb, newS S us nn = .ok G ∧ GOk G ∧ L' = L ++ [⟨gb, rb, G, G⟩])

/-- Behind kept. -/
theorem Pl.other {w0 w w' : World} {o : Lbl} {wb : Nat} {L : List GG} {vals : List Value} (h : Pl w0 w o wb L vals) {g : Nat} (hg : w.grownBy w' (some g)) (hn : o g = none) (hl : w0.heap.size ≤ g) : Pl w0 w' o wb L vals :=
  h.same (Below.grown h.q hg h.q.size (fun k hk => by cases hk; exact hl)) hg.size fun b hb => hg.block b (h.lt b hb).1 (fun e => by injection e with e; rw [e] at hb; exact hb hn)

set_option maxRecDepth 100000 in
set_option maxHeartbeats 3200000 in
theorem made_any {w0 w : World} {o : Lbl} {wb : Nat} {L : List GG} {vals : List Value} (h : Pl w0 w o wb L vals) (hL : L.length ≤ 2000000) (kind at_ conn nn : Int) (ok : Bool) (S : List UInt8) (hS : S.length ≤ 1048576) (ua : Option Addr) (uc : Nat) (us : List (List UInt8 × List UInt8)) (hu : UsersAt w (.slice ua us.length uc) us) :
    Calls Tryz.prog 32 #[ptr wb, opV kind at_ conn nn ok S ua us.length uc] w fun e w' => MadePost w0 o wb L vals S us nn w e w' := by
  have hSz : (⟨S.toArray⟩ : ByteArray).size = S.length := mk_size S
  obtain ⟨W, hW⟩ : ∃ W, W = w.alloc (.cells #[.int .i64 kind, .int .i64 at_, .int .i64 conn, .int .i64 nn, .bool ok, .string ⟨S.toArray⟩, .slice ua us.length uc] 73) := ⟨_, rfl⟩
  have hq0 : Q w W := by rw [hW]; exact (Q.refl w).alloc _
  have hWz : W.heap.size = w.heap.size + 1 := by rw [hW]; simp
  have b3 : W.cell? ⟨w.heap.size, 3, none⟩ = some (.int .i64 nn) := by rw [hW]; simp [go_sem]
  have b5 : W.cell? ⟨w.heap.size, 5, none⟩ = some (.string ⟨S.toArray⟩) := by rw [hW]; simp [go_sem]
  have b6 : W.cell? ⟨w.heap.size, 6, none⟩ = some (.slice ua us.length uc) := by rw [hW]; simp [go_sem]
  have hul : us.length ≤ 2097152 := by obtain ⟨_, _, _, h2, _⟩ := hu; exact h2
  have huN : ua = none → us = [] := fun e => by
    obtain ⟨a, cap, hv, _, hc⟩ := hu
    injection hv with hv _ _
    cases us with
    | nil => rfl
    | cons u us =>
      obtain ⟨_, _, b, off, e2, _⟩ := hc 0 u rfl
      rw [← hv, e] at e2
      cases e2
  have HL := show Hid _ from lent_any (.slice ua us.length uc) us W (hu.stays hq0)
  have HU : Hid (UsersAt W (.slice ua us.length uc) us) := hu.stays hq0
  have HP : Hid (Pl w0 W o wb L vals) := h.stays hq0
  have HFr : Hid (∀ b, w.heap.size ≤ b → o b = none) := fun b hb => by
    cases hx : o b with
    | none => rfl
    | some y => have := (h.lt b (by rw [hx]; simp)).1; omega
  have HQ0 : Hid (Q w W) := hq0
  have hw0 : w0.heap.size ≤ w.heap.size := h.q.size
  have HUN := show Hid _ from huN
  clear h hu huN hq0
  unfold opV
  go_enter Tryz.func32, Tryz.ntmps32
  go_wp2_with fail
  rw [← hW]
  clear hW
  refine Calls.mono (Hid.out HL) ?_
  rintro e w1 ⟨g, rfl, hown, hq1⟩
  have c3 := hq1.cell b3
  have c5 := hq1.cell b5
  have c6 := hq1.cell b6
  have hgl := owns_lt hown g rfl
  have HO1 := show Hid _ from hown
  have hz1 := hq1.size
  have HQ1 : Hid (Q W w1) := hq1
  have HIn : Hid (PairsAt (fun b => b < w1.heap.size) w1 (if ua.isNone = true then .slice none 0 0 else .slice (some ⟨g, 0, none⟩) us.length (us.length + 3)) us) := by
    cases hx : ua with
    | none =>
      rw [HUN.out hx]
      exact ⟨none, 0, rfl, fun i f hi => by simp at hi⟩
    | some a =>
      exact pairs_in hown
  have hnil := nilU w1 ua us.length uc
  clear HL hown hq1 b3 b5 b6
  obtain ⟨un, hun⟩ : ∃ n, n = us.length := ⟨_, rfl⟩
  have HUn := show Hid _ from hun
  rw [← hun] at c6 HIn HO1 hul hnil ⊢
  clear hun
  go_upto_if 24 with fail
  go_cut [6] (fun s6 wx => (∃ a n c, s6 = .slice a n c ∧ Hid (PairsAt (fun b => b < w1.heap.size) w1 (.slice a n c) us)) ∧ wx = w1)
  case first =>
    cases ua with
    | none =>
      simp only [Option.isNone_none] at hnil
      go_wp2_with fail
      go_meet
      exact ⟨⟨none, 0, 0, rfl, HIn.out⟩, rfl⟩
    | some aa =>
      simp only [Option.isNone_some] at hnil
      go_wp2_with fail
      go_meet
      exact ⟨⟨some ⟨g, 0, none⟩, un, un + 3, rfl, HIn.out⟩, rfl⟩
  case rest =>
    obtain ⟨⟨ia, inn, ic, rfl, hin⟩, hwc⟩ := hcut
    rw [hwc]
    clear hwc HIn hnil
    have hB1 : w0.heap.size ≤ w1.heap.size := by omega
    have HN := show Hid _ from new_any w0.heap.size ⟨S.toArray⟩ us (.slice ia inn ic) nn w1 (by rw [hSz]; unfold maxLen; omega) hin.out (by have := HUn.out; omega) hB1
    have hu1 : UsersAt w1 (.slice ua us.length uc) us := HU.out.stays HQ1.out
    have HU1 : Hid (UsersAt w1 (.slice ua us.length uc) us) := hu1
    have HP1 := show Hid _ from HP.out.stays HQ1.out
    have HKp : ∀ (x : World), Q w1 x → Hid (Calls Tryz.prog 67 #[.slice (some ⟨g, 0, none⟩) (un + 3) (un + 3), .slice ua un uc] x fun e w' => e = .returned (.bool true) ∧ x.grownBy w' (some g)) := fun x q => by
      have h1 := owns_Q HO1.out q
      have h2 := hu1.stays q
      rw [HUn.out] at h1 ⊢
      exact kept_any W.heap.size g us (.slice ua us.length uc) x h2 h1
    clear hin hu1 HP HU
    go_wp2_with fail
    refine Calls.mono (Hid.out HN) ?_
    rintro e w2 ⟨hq2, hcase⟩
    have d3 := hq2.cell c3
    have d5 := hq2.cell c5
    have d6 := hq2.cell c6
    have HR := show Hid _ from rnew_any w0.heap.size S (.slice ua us.length uc) us nn w2 (by omega) (HU1.out.stays hq2) (by have := hq2.size; omega)
    rw [← HUn.out] at HR
    have HQ2 : Hid (Q w1 w2) := hq2
    rcases hcase with ⟨en, ln, hns, rfl⟩ | ⟨G, gb, r, hns, rfl, hrep, hok, hrl⟩
    · have hen := new_bad hns
      have HNs := show Hid _ from hns
      obtain ⟨en', hen'⟩ : ∃ z : Int, z = (en : Int) := ⟨_, rfl⟩
      obtain ⟨ln', hln'⟩ : ∃ z : Int, z = (ln : Int) := ⟨_, rfl⟩
      have d0 : (en' != 0) = true := by rw [bne_iff_ne, hen']; omega
      rw [← hen', ← hln']
      have HEn := show Hid _ from hen'
      have HLn := show Hid _ from hln'
      clear HN hns hq2 c3 c5 c6 hen hen' hln'
      go_wp2_with fail
      refine Calls.mono (Hid.out HR) ?_
      rintro e w3 ⟨hq3, ⟨en2, ln2, hns2, rfl⟩ | ⟨G, gb, r, hns2, _⟩⟩
      rotate_left
      · rw [HNs.out] at hns2
        cases hns2
      rw [HNs.out] at hns2
      injection hns2 with hns2
      injection hns2 with he1 he2
      rw [← he1, ← he2, ← HEn.out, ← HLn.out]
      have HK3 := HKp w3 (HQ2.out.trans hq3)
      have f6 := hq3.cell d6
      have HQ3 : Hid (Q w1 w3) := HQ2.out.trans hq3
      clear HR he1 he2 hq3 HKp d3 d5 d6
      go_wp2_with fail
      refine Calls.mono (Hid.out HK3) ?_
      rintro e w4 ⟨rfl, hg4⟩
      have HN4 := show Hid _ from num_any en' w4
      have HFin : Hid (∃ o' L', Pl w0 w4 o' wb L' vals ∧ (∀ b, b < w.heap.size → o b = none → SameAt w w4 b) ∧ ((∃ en ln, newS S us nn = .error (en, ln) ∧ L' = L) ∨ ∃ G gb rb, newS S us nn = .ok G ∧ GOk G ∧ L' = L ++ [⟨gb, rb, G, G⟩])) :=
        ⟨o, L, (HP1.out.stays HQ3.out).other hg4 (HFr.out g (by omega)) (by omega), fun b hb _ => SameAt.trans' (HQ0.out.sameAt hb) (SameAt.trans' (HQ1.out.sameAt (by omega)) (SameAt.trans' (HQ3.out.sameAt (by omega)) (hg4.block b (by have := HQ3.out.size; omega) (fun e => by injection e with e; omega)))), .inl ⟨en, ln, HNs.out, rfl⟩⟩
      clear HK3 f6 hg4
      go_wp2_with fail
      refine Calls.mono (Hid.out HN4) ?_
      rintro e w5 ⟨rfl, hw5⟩
      rw [hw5]
      clear hw5 HN4
      go_wp2_with fail
      go_ret
      exact ⟨by simp, HFin.out⟩
    · have HNs := show Hid _ from hns
      have HRep := show Hid _ from hrep
      have HRl := show Hid _ from hrl
      have HRoleLt := show Hid _ from hrep.lt
      have HOk := show Hid _ from hok
      clear HN hns hq2 c3 c5 c6 hrep hrl hok
      go_wp2_with fail
      refine Calls.mono (Hid.out HR) ?_
      rintro e w3 ⟨hq3, ⟨en2, ln2, hns2, _⟩ | ⟨G2, rb, r2, hns2, rfl, hrep2, _, hrl2⟩⟩
      · rw [HNs.out] at hns2
        cases hns2
      rw [HNs.out] at hns2
      injection hns2 with hns2
      subst hns2
      have HK3 := HKp w3 (HQ2.out.trans hq3)
      have f6 := hq3.cell d6
      have HQ3 : Hid (Q w1 w3) := HQ2.out.trans hq3
      have HRep3 := show Hid _ from HRep.out.stays hq3
      have HRepR := show Hid _ from hrep2
      have HRl2 := show Hid _ from hrl2
      have hz2 := HQ2.out.size
      have hz3 := hq3.size
      clear HR hq3 HKp d3 d5 d6 hrep2 hrl2
      go_wp2_with fail
      refine Calls.mono (Hid.out HK3) ?_
      rintro e w4 ⟨rfl, hg4⟩
      have HN4 := show Hid _ from num_any 0 w4
      have hp4 := (HP1.out.stays HQ3.out).other hg4 (HFr.out g (by omega)) (by omega)
      have HG4 : Hid (GwRep r w0.heap.size w4 gb G) := HRep3.out.same (fun b hb => hg4.block b (HRep3.out.lt b hb) (fun e => by injection e with e; have := HRl.out b hb; omega)) hg4.size
      have HR4 : Hid (RGwRep r2 w0.heap.size w4 rb G) := HRepR.out.same (fun b hb => hg4.block b (HRepR.out.lt b hb) (fun e => by injection e with e; have := HRl2.out b hb; omega)) hg4.size
      have HS4 : Hid (∀ b, b < w.heap.size → SameAt w w4 b) := fun b hb => SameAt.trans' (HQ0.out.sameAt hb) (SameAt.trans' (HQ1.out.sameAt (by omega)) (SameAt.trans' (HQ3.out.sameAt (by omega)) (hg4.block b (by omega) (fun e => by injection e with e; omega))))
      have hz4 := hg4.size
      obtain ⟨v0, x1, x2, x3⟩ := hp4.bk.c0
      obtain ⟨v1, y1, y2, y3⟩ := hp4.bk.c1
      obtain ⟨a0, k0, rfl⟩ := slice_form x2
      obtain ⟨a1, k1, rfl⟩ := slice_form y2
      have m0 : (L.map (·.gb)).map ptr = L.map fun y => ptr y.gb := by rw [List.map_map]; rfl
      have m1 : (L.map (·.rb)).map ptr = L.map fun y => ptr y.rb := by rw [List.map_map]; rfl
      have hwb4 : wb < w4.heap.size := (hp4.lt wb (by rw [hp4.bk.wbl]; simp)).1
      have BI0 : Hid (BInv w4 w4 w0.heap.size wb (.slice a0 (L.map (·.gb)).length k0) (.slice a1 (L.map (·.rb)).length k1) (.slice a0 (L.map (·.gb)).length k0) (.slice a1 (L.map (·.rb)).length k1) (L.map fun y => ptr y.gb) (L.map fun y => ptr y.rb)) := ⟨x1, y1, rfl, by rw [← m0, List.length_map (f := ptr)]; exact x2, by rw [← m1, List.length_map (f := ptr)]; exact y2, fun k hk => ⟨.inl hk, ⟨fun e => (by have := x3 k hk; rw [e, hp4.bk.wbl] at this; cases this), fun e => (by have := x3 k hk; rw [y3 k e] at this; cases this)⟩⟩, fun k hk => ⟨.inl hk, fun e => (by have := y3 k hk; rw [e, hp4.bk.wbl] at this; cases this)⟩, hwb4, fun _ => rfl, rfl, rfl, rfl, Nat.le_refl _, fun _ _ _ _ _ => rfl⟩
      have HX3 := show Hid _ from x3
      have HY3 := show Hid _ from y3
      have HFz := show Hid _ from hp4.bk.fz
      have hf0 := hp4.bk.fz 0
      have HP4 := show Hid _ from hp4
      have hB4 : w0.heap.size ≤ w4.heap.size := by omega
      obtain ⟨Ln, hLn⟩ : ∃ n, n = L.length := ⟨_, rfl⟩
      have HLn1 : Hid ((L.map fun y => ptr y.gb).length = Ln) := by show _ = _; rw [List.length_map, hLn]
      have HLn2 : Hid ((L.map fun y => ptr y.rb).length = Ln) := by show _ = _; rw [List.length_map, hLn]
      rw [List.length_map, List.length_map, ← hLn] at BI0
      rw [List.length_map, ← hLn] at x1 y1 HX3 HY3
      have HL2 : Hid (Ln = L.length) := hLn
      rw [← hLn] at hL
      clear HK3 f6 hg4 hp4 x2 x3 y2 y3 m0 m1 HRep HRep3 HRepR hLn
      go_wp2_with fail
      refine Calls.mono (Hid.out HN4) ?_
      rintro e w5 ⟨rfl, hw5⟩
      rw [hw5]
      clear hw5 HN4 w5
      go_wp2_with (first | (at_builtin; refine append_el rfl (.tmp 71) (.tmp 73) 65 rfl 30 Tryz.t30 (.pointer none) 1 8 Tryz.underlying65 (by kernel_rfl) (by kernel_rfl) (by kernel_rfl) (by kernel_rfl) rfl (by decide) (.slice a0 Ln k0) Ln (L.map fun y => ptr y.gb) [ptr gb] rfl w0.heap.size w4 rfl (by first | rfl | simp [Act.eval]) (BI0.out.own0 HLn1.out) (ptr_one _) (by omega) (by decide) hB4 ?_; intro g5 cap5 w5 ho5 hb5 hg5 hat5 hlt5; obtain ⟨kc5, kf5, bi5⟩ := BI0.out.app0 HLn1.out 30 ho5 hg5 hat5; have kf5' := kf5 0; rw [HFz.out 0] at kf5'; have BI1 := show Hid _ from bi5; have q1 := bi5.c1; have qf := bi5.fz 1; rw [HFz.out 1] at qf; clear ho5 hb5 hg5 hat5 bi5 kf5) | (at_builtin; refine append_el rfl (.tmp 81) (.tmp 83) 66 rfl 76 Tryz.t76 (.pointer none) 1 8 Tryz.underlying66 (by kernel_rfl) (by kernel_rfl) (by kernel_rfl) (by kernel_rfl) rfl (by decide) (.slice a1 Ln k1) Ln (L.map fun y => ptr y.rb) [ptr rb] rfl w0.heap.size (w5.setCell ⟨wb, 0, none⟩ (.slice (some ⟨g5, 0, none⟩) (Ln + 1) cap5)) rfl (by first | rfl | simp [Act.eval]) (BI1.out.own1 HLn2.out) (ptr_one _) (by omega) (by decide) (Nat.le_trans hB4 BI1.out.size) ?_; intro g6 cap6 w6 ho6 hb6 hg6 hat6 hlt6; obtain ⟨kc6, kf6, bi6⟩ := BI1.out.app1 HLn2.out 76 ho6 hg6 hat6; have kf6' := kf6 1; rw [HFz.out 1] at kf6'; have BI2 := show Hid _ from bi6; clear ho6 hb6 hg6 hat6 bi6 kf6))
      go_ret
      refine ⟨by simp, ?_⟩
      obtain ⟨o', hp', hsm⟩ := HP4.out.add HX3.out HY3.out BI2.out HG4.out HR4.out (fun b hb => HFr.out b (by have := HRl.out b hb; omega)) (fun b hb => by
        have h1 := HRl2.out b hb
        refine ⟨HFr.out b (by omega), ?_⟩
        cases hx : r b with
        | none => rfl
        | some y =>
          exfalso
          have h2 := HRoleLt.out b (by rw [hx]; simp)
          omega)
      exact ⟨o', _, hp', fun b hb hn => SameAt.trans' (HS4.out b hb) (hsm b (by omega) hn), .inr ⟨G, gb, rb, HNs.out, HOk.out, rfl⟩⟩
end Go.Proofs.YtdmaffciijmdcaaGreatDoor
/-
  Plain: the laws' first gateway, and the document's third example.
-/
namespace Go.Proofs.YtdmaffciijmdcaaGreatDoor
open Go.RowKit Plain

def lawB : List UInt8 := [97, 108, 108, 111, 119, 32, 42, 32, 46, 101, 120, 97, 109, 112, 108, 101, 46, 99, 111, 109, 32, 52, 52, 51, 32, 42, 10]
def lawU : List (List UInt8 × List UInt8) := [([97, 110, 110], [115, 101, 99, 114, 101, 116])]
def lawH : List UInt8 := [67, 79, 78, 78, 69, 67, 84, 32, 119, 119, 119, 46, 101, 120, 97, 109, 112, 108, 101, 46, 99, 111, 109, 58, 52, 52, 51, 32, 72, 84, 84, 80, 47, 49, 46, 49, 13, 10, 80, 114, 111, 120, 121, 45, 65, 117, 116, 104, 111, 114, 105, 122, 97, 116, 105, 111, 110, 58, 32, 66, 97, 115, 105, 99, 32, 89, 87, 53, 117, 79, 110, 78, 108, 89, 51, 74, 108, 100, 65, 61, 61, 13, 10, 13, 10]
def newConn : ConnS := ⟨1, 0, 0, [], false, false⟩
def isDial (p : GateS × List EvS) : Bool := match p.2 with
  | [e] => e.kind == 1
  | _ => false
def lawOk : Bool := match newS lawB lawU 0 with
  | .ok G => isDial (clientAt G.accept 0 newConn lawH)
  | .error _ => false
set_option maxRecDepth 100000 in
theorem law_ok : lawOk = true := by decide +kernel
theorem law_new : ∃ G, newS lawB lawU 0 = .ok G ∧ ∃ e, (clientAt G.accept 0 newConn lawH).2 = [e] ∧ e.kind = 1 := by
  have h := law_ok
  unfold lawOk at h
  cases hn : newS lawB lawU 0 with
  | error e => rw [hn] at h; cases h
  | ok G =>
    rw [hn] at h
    refine ⟨G, rfl, ?_⟩
    have h' : isDial (clientAt G.accept 0 newConn lawH) = true := h
    unfold isDial at h'
    split at h'
    · rename_i e he
      exact ⟨e, he, by simpa using h'⟩
    · cases h'
end Go.Proofs.YtdmaffciijmdcaaGreatDoor
/-
  The laws' world: its start, its book, and what the script's rounds keep.
-/
namespace Go.Proofs.YtdmaffciijmdcaaGreatDoor
open Go.RowKit Plain

theorem Pl.start {w W : World} (hW : W = w.alloc (.cells #[.slice none 0 0, .slice none 0 0, .slice none 0 0] 69)) :
    Pl w W (fun b => if b = w.heap.size then some (.bk 0) else none) w.heap.size [] [] := by
  have hq : Q w W := by rw [hW]; exact (Q.refl w).alloc _
  have hz : W.heap.size = w.heap.size + 1 := by rw [hW]; simp
  refine ⟨hq, fun b hb => ?_, fun i x hx => by simp at hx, fun i x hx => by simp at hx, fun b c i k hb => ?_, ⟨by simp, fun p => ?_, ⟨.slice none 0 0, ?_, ⟨rfl, .inl ⟨rfl, rfl⟩⟩, fun k hk => by cases hk⟩, ⟨.slice none 0 0, ?_, ⟨rfl, .inl ⟨rfl, rfl⟩⟩, fun k hk => by cases hk⟩, ⟨.slice none 0 0, ?_, ⟨rfl, .inl ⟨rfl, rfl⟩⟩, fun k hk => by cases hk⟩, ⟨0, rfl⟩, fun i v hv => by simp at hv⟩⟩
  · have : b = w.heap.size := by
      by_cases e : b = w.heap.size
      · exact e
      · simp [e] at hb
    omega
  · split at hb
    · cases hb
    · cases hb
  · rw [hW]; simp [go_sem]
  · rw [hW]; simp [go_sem]
  · rw [hW]; simp [go_sem]
  · rw [hW]; simp [go_sem]
theorem Pl.book {w0 w : World} {o : Lbl} {wb : Nat} {L : List GG} {vals : List Value} (h : Pl w0 w o wb L vals) (hv : vals.length ≤ 8000000) : BookAt w wb vals := by
  obtain ⟨v, h1, h2, _⟩ := h.bk.c2
  rcases h2.2 with ⟨h3, h4⟩ | ⟨g, cap, cur, h3, _⟩
  · refine ⟨none, 0, by rw [h1, h3, h4], hv, fun i x hx => ?_⟩
    have := (List.getElem?_eq_some_iff.1 hx).1
    omega
  · rw [h3] at h2 h1
    exact ⟨_, cap, h1, hv, fun i x hx => ⟨(h.bk.held i x hx).1, g, rfl, owned_at h2 i x hx⟩⟩
theorem Pl.view {w0 w : World} {o : Lbl} {wb : Nat} {L : List GG} {vals : List Value} (h : Pl w0 w o wb L vals) (hl : 0 < L.length) : ∃ g0 k0 g1 k1, w.cell? ⟨wb, 0, none⟩ = some (.slice (some ⟨g0, 0, none⟩) L.length k0) ∧ w.cell? ⟨wb, 1, none⟩ = some (.slice (some ⟨g1, 0, none⟩) L.length k1) ∧ ∀ i x, L[i]? = some x → w.cell? ⟨g0, i, none⟩ = some (ptr x.gb) ∧ w.cell? ⟨g1, i, none⟩ = some (ptr x.rb) := by
  obtain ⟨v, h1, h2, _⟩ := h.bk.c0
  obtain ⟨u, k1, k2, _⟩ := h.bk.c1
  rw [List.length_map] at h2 k2
  rcases h2.2 with ⟨_, h4⟩ | ⟨g, cap, cur, h3, _⟩
  · omega
  rcases k2.2 with ⟨_, h4⟩ | ⟨g', cap', cur', h3', _⟩
  · omega
  rw [h3] at h2 h1
  rw [h3'] at k2 k1
  refine ⟨g, cap, g', cap', h1, k1, fun i x hx => ⟨owned_at h2 i _ ?_, owned_at k2 i _ ?_⟩⟩
  · rw [List.getElem?_map, List.getElem?_map, hx]; rfl
  · rw [List.getElem?_map, List.getElem?_map, hx]; rfl
theorem fresh_good {T : List UInt8} {us : List (List UInt8 × List UInt8)} {m : Int} {G : GateS} (h : newS T us m = .ok G) (ok : GOk G) (k : Nat) : GoodG k G := by
  obtain ⟨h1, h2⟩ := new_fresh h
  refine ⟨ok, fun c hc => ?_, fun c hc => ?_, by omega⟩
  · rw [h1] at hc; cases hc
  · rw [h1] at hc; cases hc
theorem Goods.app {k : Nat} {L : List GG} (h : Goods k L) {gb rb : Nat} {G : GateS} (hG : GoodG k G) : Goods k (L ++ [⟨gb, rb, G, G⟩]) := fun x hx => by
  rcases List.mem_append.1 hx with h1 | h1
  · exact h x h1
  · rw [List.mem_singleton.1 h1]; exact ⟨rfl, hG⟩

/-- What the script's rounds keep. -/
def PInv (w0 : World) (wb k : Nat) (w : World) : Prop := ∃ o L vals, Pl w0 w o wb L vals ∧ Goods k L ∧ vals.length ≤ 4 * k ∧ 2 ≤ L.length ∧ L.length ≤ k + 2
theorem PInv.stays {w0 w w' : World} {wb k : Nat} (h : PInv w0 wb k w) (q : Q w w') : PInv w0 wb k w' := by
  obtain ⟨o, L, vals, h1, h2⟩ := h
  exact ⟨o, L, vals, h1.stays q, h2⟩
theorem PInv.next {w0 w : World} {wb k : Nat} (h : PInv w0 wb k w) : PInv w0 wb (k + 1) w := by
  obtain ⟨o, L, vals, h1, h2, h3, h4, h5⟩ := h
  exact ⟨o, L, vals, h1, h2.next, by omega, h4, by omega⟩
theorem PInv.still {w0 w : World} {wb k : Nat} (h : PInv w0 wb k w) (hk : k ≤ 1048700) : Calls Tryz.prog 37 #[ptr wb] w fun e w' => e = .returned (.bool true) ∧ Hid (PInv w0 wb k w') := by
  have h' := h
  obtain ⟨o, L, vals, h1, h2, h3, h4, h5⟩ := h
  refine (still_any wb vals w (h1.book (by omega))).mono ?_
  rintro e w' ⟨he, q⟩
  exact ⟨he, h'.stays q⟩
theorem PInv.made {w0 w : World} {wb k : Nat} (h : PInv w0 wb k w) (hk : k ≤ 1048690) (kind at_ conn nn : Int) (ok : Bool) (S : List UInt8) (hS : S.length ≤ 1048576) (ua : Option Addr) (uc : Nat) (us : List (List UInt8 × List UInt8)) (hu : UsersAt w (.slice ua us.length uc) us) :
    Calls Tryz.prog 32 #[ptr wb, opV kind at_ conn nn ok S ua us.length uc] w fun e w' => e = .returned (.bool true) ∧ Hid (PInv w0 wb (k + 1) w') := by
  obtain ⟨o, L, vals, h1, h2, h3, h4, h5⟩ := h
  refine (made_any h1 (by omega) kind at_ conn nn ok S hS ua uc us hu).mono ?_
  rintro e w' ⟨he, o', L', hp, _, ⟨_, _, _, rfl⟩ | ⟨G, gb, rb, hn, hok, rfl⟩⟩
  · exact ⟨he, (show PInv w0 wb (k + 1) w' from ⟨o', L', vals, hp, h2.next, by omega, h4, by omega⟩)⟩
  · refine ⟨he, (show PInv w0 wb (k + 1) w' from ⟨o', _, vals, hp, (h2.app (fresh_good hn hok k)).next, by omega, ?_, ?_⟩)⟩ <;> rw [List.length_append, List.length_singleton] <;> omega
/-- What a round reads of the book. -/
theorem PInv.view {w0 w : World} {wb k : Nat} (h : PInv w0 wb k w) (hk : k ≤ 1048690) (hml : ML w0) : ∃ g0 k0 g1 k1 ln, 0 < ln ∧ ln ≤ 2000000 ∧ w.cell? ⟨wb, 0, none⟩ = some (.slice (some ⟨g0, 0, none⟩) ln k0) ∧ w.cell? ⟨wb, 1, none⟩ = some (.slice (some ⟨g1, 0, none⟩) ln k1) ∧
    ∀ i, i < ln → ∃ gb rb, w.cell? ⟨g0, i, none⟩ = some (ptr gb) ∧ w.cell? ⟨g1, i, none⟩ = some (ptr rb) ∧
      ∀ (y : World) (_ : Q w y) (kind at_ conn nn : Int) (ok : Bool) (S : List UInt8) (_ : S.length ≤ 1048576) (ua : Option Addr) (un uc : Nat) (_ : 2 ≤ kind ∧ kind ≤ 9), Hid (Calls Tryz.prog 33 #[ptr wb, ptr gb, ptr rb, opV kind at_ conn nn ok S ua un uc] y fun e w' => e = .returned (.bool true) ∧ Hid (PInv w0 wb (k + 1) w')) := by
  obtain ⟨o, L, vals, h1, h2, h3, h4, h5⟩ := h
  obtain ⟨g0, k0, g1, k1, c0, c1, hc⟩ := h1.view (by omega)
  refine ⟨g0, k0, g1, k1, L.length, by omega, by omega, c0, c1, fun i hi => ?_⟩
  have hx : L[i]? = some L[i] := List.getElem?_eq_getElem hi
  refine ⟨_, _, (hc i _ hx).1, (hc i _ hx).2, fun y q kind at_ conn nn ok S hS ua un uc hkd => ?_⟩
  refine (step_any (h1.stays q) hx h2 (by omega) (by omega) hml kind at_ conn nn ok S hS ua un uc hkd).mono ?_
  rintro e w' ⟨he, o', L', vals', hp, hl, hv, hg⟩
  exact ⟨he, (show PInv w0 wb (k + 1) w' from ⟨o', L', vals', hp, hg, by omega, by omega, by omega⟩)⟩

/-- One call of the script. -/
structure OpS where
  kind : Int
  at_ : Int
  conn : Int
  nn : Int
  ok : Bool
  S : List UInt8
  us : List (List UInt8 × List UInt8)
/-- The script in memory. -/
def OpsAt (w : World) (v : Value) (l : List OpS) : Prop :=
  ∃ a cap, v = .slice a l.length cap ∧ l.length ≤ 1048576 ∧ ∀ i p, l[i]? = some p → (-9223372036854775808 ≤ p.at_ ∧ p.at_ ≤ 9223372036854775807) ∧ p.S.length ≤ 1048576 ∧ ∃ b off ua uc, a = some ⟨b, off, none⟩ ∧ UsersAt w (.slice ua p.us.length uc) p.us ∧
    w.cell? ⟨b, off + i * 7, none⟩ = some (.int .i64 p.kind) ∧ w.cell? ⟨b, off + i * 7 + 1, none⟩ = some (.int .i64 p.at_) ∧ w.cell? ⟨b, off + i * 7 + 2, none⟩ = some (.int .i64 p.conn) ∧ w.cell? ⟨b, off + i * 7 + 3, none⟩ = some (.int .i64 p.nn) ∧ w.cell? ⟨b, off + i * 7 + 4, none⟩ = some (.bool p.ok) ∧ w.cell? ⟨b, off + i * 7 + 5, none⟩ = some (.string ⟨p.S.toArray⟩) ∧ w.cell? ⟨b, off + i * 7 + 6, none⟩ = some (.slice ua p.us.length uc)
end Go.Proofs.YtdmaffciijmdcaaGreatDoor

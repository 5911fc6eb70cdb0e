/-
  What a round of 'Apart' does in memory.
-/
import Derived.Test.YtfkggpminmonmaaGreatDoorHoldToAp1
namespace Go.Proofs.YtfkggpminmonmaaGreatDoor
open Go.RowKit Plain

/-- Memory and what it means, at the start of a round. -/
structure AInv (w : World) (gb hb : Nat) (n : Int) (a two : List UInt8) (m m2 : Nat) (ov : Bool) (pv qv : Value) (wr : World) : Prop where
  intro ::
  ex : ∃ (o : Ow) (gws : Gws) (rows : Rws) (G H : GateS) (P : List EvS), Hold w wr o gws rows ∧ gws 0 = some (gb, G) ∧ gws 1 = some (hb, H) ∧ rows 0 = some (pv, P) ∧ rows 1 = some (qv, P) ∧ Ap n a m m2 ov G H P
  le : m ≤ (headA n ++ a).length
  le2 : m2 ≤ two.length

theorem head_len3 (k : Nat) (W : List UInt8) (hW : W.length ≤ 11) : (headT k W exB 443).length ≤ 1000 := by
  have h4 : (tenantS k).length ≤ 3 := tenantS_len _
  have h5 := b64_len2 (tenantS k ++ [58] ++ W)
  have h6 := digits_len6 443 (by decide)
  unfold headT
  simp [h1B, h2B, h3B, endB, exB] at h5 ⊢
  omega
theorem headA_pos (n : Int) : 0 < (headA n).length := by
  rw [headA_body]
  simp [endB]
theorem ap_start (n : Int) (a : List UInt8) : Ap n a 0 0 false (gateT l0 n 0).accept.accept (gateT l0 n 0).accept [] := by
  have hx : xAt (headA n) a 0 = ⟨1, 0, 0, []⟩ := by
    unfold xAt
    rw [if_pos (headA_pos n), List.take_zero]
  refine ⟨by rw [hx]; rfl, ⟨[⟨2, 0, 0, []⟩], by rw [hx]; rfl, .inr ⟨rfl, _, rfl, rfl, by simp⟩⟩, by rw [if_pos (headA_pos n)]⟩
theorem ainv_start {w wr : World} {gb hb : Nat} {n : Int} {a two : List UInt8} {o : Ow} {gws : Gws} {rows : Rws} (h : Hold w wr o gws rows) (h0 : gws 0 = some (gb, (gateT l0 n 0).accept.accept)) (h1 : gws 1 = some (hb, (gateT l0 n 0).accept)) : AInv w gb hb n a two 0 0 false (.slice none 0 0) (.slice none 0 0) wr := by
  obtain ⟨o1, ho1⟩ := h.addRow 0 (v := .slice none 0 0) (l := []) ⟨rfl, .inl ⟨rfl, rfl⟩⟩ (fun k hk => by cases hk)
  obtain ⟨o2, ho2⟩ := ho1.addRow 1 (v := .slice none 0 0) (l := []) ⟨rfl, .inl ⟨rfl, rfl⟩⟩ (fun k hk => by cases hk)
  exact ⟨⟨o2, gws, _, _, _, _, ho2, h0, h1, by rw [put_ne _ _ (by decide), put_at], put_at _ _ _, ap_start n a⟩, Nat.zero_le _, Nat.zero_le _⟩
theorem AInv.stays {w : World} {gb hb : Nat} {n : Int} {a two : List UInt8} {m m2 : Nat} {ov : Bool} {pv qv : Value} {wr w' : World} (h : AInv w gb hb n a two m m2 ov pv qv wr) (q : Q wr w') : AInv w gb hb n a two m m2 ov pv qv w' := by
  obtain ⟨⟨o, gws, rows, G, H, P, h1, h2⟩, h3, h4⟩ := h
  exact ⟨⟨o, gws, rows, G, H, P, h1.stays q, h2⟩, h3, h4⟩

theorem Plain.Ap.waits {n : Int} {a : List UInt8} {m L : Nat} {ov : Bool} {G H : GateS} {P : List EvS} (h : Ap n a m L ov G H P) : (∀ c ∈ G.conns, c.wait.length ≤ m + L) ∧ ∀ c ∈ H.conns, c.wait.length ≤ m := by
  have hx := xAt_wait (headA n) a m
  constructor
  · obtain ⟨ys, hG, hy⟩ := h.two
    intro c hc
    rw [hG] at hc
    simp only [List.mem_cons] at hc
    rcases hc with rfl | hc
    · omega
    · rcases hy with ⟨_, rfl⟩ | ⟨_, y, rfl, _, hl⟩
      · cases hc
      · simp only [List.mem_singleton] at hc
        rw [hc]; omega
  · intro c hc
    rw [h.one] at hc
    simp only [List.mem_singleton] at hc
    rw [hc]; exact hx
theorem Plain.Ap.more {n : Int} {a : List UInt8} {m L L' : Nat} {ov : Bool} {G H : GateS} {P : List EvS} (h : Ap n a m L ov G H P) (hl : L ≤ L') : Ap n a m L' ov G H P := by
  obtain ⟨ys, hG, hy⟩ := h.two
  refine ⟨h.one, ⟨ys, hG, ?_⟩, h.evs⟩
  rcases hy with hy | ⟨h1, y, h2, h3, h4⟩
  · exact .inl hy
  · exact .inr ⟨h1, y, h2, h3, by omega⟩

theorem ap_client1 {w w1 : World} {o : Ow} {gws : Gws} {rows : Rws} {gb : Nat} {n : Int} {a : List UInt8} {m L : Nat} {ov : Bool} {G H : GateS} {P : List EvS} (hh : Hold w w1 o gws rows) (hg : gws 0 = some (gb, G)) (hap : Ap n a m L ov G H P) (p : ByteArray) {pn : Nat} (hp : p.data.toList = ((headA n ++ a).drop m).take pn) (hs : m + L + p.size ≤ 4294967280) (hm : ML w) :
    Calls Tryz.prog 17 #[ptr gb, .int .i64 1, .string p] w1 fun e w2 => ∃ lv o2, e = .returned (.tuple #[lv, .int .i64 0]) ∧ Hid (Hold w w2 o2 (put gws 0 (gb, (clientAt G 0 (xAt (headA n) a m) (((headA n ++ a).drop m).take pn)).1)) (put rows 2 (lv, evX n m pn))) := by
  refine (hh.client hg hap.okG 1 p (fun c hc => by have := hap.waits.1 c hc; omega) hm 2).mono ?_
  rintro e w2 (⟨k, c, v, o', hk, hn, rfl, hh'⟩ | ⟨hno, _, _⟩)
  · obtain ⟨rfl, rfl⟩ := hap.getG hk hn
    rw [hp, (hap.stepX pn).1] at hh'
    exact ⟨v, o', rfl, hh'⟩
  · obtain ⟨ys, hG, _⟩ := hap.two
    exact absurd (by rw [xAt_num]; rfl) (hno (xAt (headA n) a m) (by rw [hG]; simp))
theorem ap_client2 {w w1 : World} {o : Ow} {gws : Gws} {rows : Rws} {hb : Nat} {n : Int} {a : List UInt8} {m L : Nat} {ov : Bool} {G H : GateS} {P : List EvS} (hh : Hold w w1 o gws rows) (hg : gws 1 = some (hb, H)) (hap : Ap n a m L ov G H P) (p : ByteArray) {pn : Nat} (hp : p.data.toList = ((headA n ++ a).drop m).take pn) (hs : m + L + p.size ≤ 4294967280) (hm : ML w) :
    Calls Tryz.prog 17 #[ptr hb, .int .i64 1, .string p] w1 fun e w2 => ∃ lv o2, e = .returned (.tuple #[lv, .int .i64 0]) ∧ Hid (Hold w w2 o2 (put gws 1 (hb, (clientAt H 0 (xAt (headA n) a m) (((headA n ++ a).drop m).take pn)).1)) (put rows 3 (lv, evX n m pn))) := by
  refine (hh.client hg hap.okH 1 p (fun c hc => by have := hap.waits.2 c hc; omega) hm 3).mono ?_
  rintro e w2 (⟨k, c, v, o', hk, hn, rfl, hh'⟩ | ⟨hno, _, _⟩)
  · obtain ⟨rfl, rfl⟩ := hap.getH hk hn
    rw [hp, (hap.stepX pn).2.1] at hh'
    exact ⟨v, o', rfl, hh'⟩
  · exact absurd (by rw [xAt_num]; rfl) (hno (xAt (headA n) a m) (by rw [hap.one]; simp))
/-- Both lists have grown. -/
theorem ap_grown {w w3 : World} {o : Ow} {gws : Gws} {rows : Rws} {gb hb : Nat} {n : Int} {a two : List UInt8} {m L : Nat} {ov : Bool} {G H : GateS} {P : List EvS} {pv qv lv mv : Value} {pn : Nat} (hh : Hold w w3 o gws rows) (hap : Ap n a m L ov G H P)
    (hg0 : gws 0 = some (gb, (clientAt G 0 (xAt (headA n) a m) (((headA n ++ a).drop m).take pn)).1)) (hg1 : gws 1 = some (hb, (clientAt H 0 (xAt (headA n) a m) (((headA n ++ a).drop m).take pn)).1)) (h0 : rows 0 = some (pv, P)) (h1 : rows 1 = some (qv, P)) (h2 : rows 2 = some (lv, evX n m pn)) (h3 : rows 3 = some (mv, evX n m pn)) (hl : m + pn ≤ (headA n ++ a).length) (hl2 : L ≤ two.length) (hP : P.length ≤ 1) :
    ∃ v4 w4 v5 w5, (Builtin.append_ #[41, 41] 41 #[pv, lv]).run Tryz.prog w3 = .ok v4 w4 ∧ (Builtin.append_ #[41, 41] 41 #[qv, mv]).run Tryz.prog w4 = .ok v5 w5 ∧ AInv w gb hb n a two (m + pn) L ov v4 v5 w5 := by
  have he := evX_len n m pn
  obtain ⟨v4, w4, o4, r4, hh4⟩ := hh.append h0 h2 (by omega)
  obtain ⟨v5, w5, o5, r5, hh5⟩ := hh4.append (j := 1) (j2 := 3) (pv := qv) (lv := mv) (P := P) (L := evX n m pn) (by rw [put_ne _ _ (by decide)]; exact h1) (by rw [put_ne _ _ (by decide)]; exact h3) (by omega)
  refine ⟨v4, w4, v5, w5, r4, r5, ⟨o5, gws, _, _, _, P ++ evX n m pn, hh5, hg0, hg1, ?_, put_at _ _ _, (hap.stepX pn).2.2⟩, hl, hl2⟩
  rw [put_ne _ _ (by decide), put_at]
theorem Plain.Ap.lenP {n : Int} {a : List UInt8} {m L : Nat} {ov : Bool} {G H : GateS} {P : List EvS} (h : Ap n a m L ov G H P) : P.length ≤ 1 := by
  rw [h.evs]; split <;> simp

/-- The second client speaks. -/
theorem ap_client3 {w w1 : World} {gb hb : Nat} {n : Int} {a two : List UInt8} {m L : Nat} {pv qv : Value} (hi : AInv w gb hb n a two m L false pv qv w1) (p : ByteArray) (hs : m + L + p.size ≤ 4294967280) (hl2 : L + p.size ≤ two.length) (hm : ML w) :
    Calls Tryz.prog 17 #[ptr gb, .int .i64 2, .string p] w1 fun e w2 => ∃ (lv : Value) (evs : List EvS), e = .returned (.tuple #[lv, .int .i64 0]) ∧ evs.length ≤ 2 ∧ Hid ((∀ e ∈ evs, e.conn = 2) ∧ w2.ownsRow w.heap.size 48 4 lv evs.length (evVals evs)) ∧ Hid (AInv w gb hb n a two m (L + p.size) (decide (evs.length = 2)) pv qv w2) := by
  obtain ⟨⟨o, gws, rows, G, H, P, hh, hg0, hg1, hr0, hr1, hap⟩, hle, hle2⟩ := hi
  refine (hh.client hg0 hap.okG 2 p (fun c hc => by have := hap.waits.1 c hc; omega) hm 4).mono ?_
  rintro e w2 (⟨k, c, v, o', hk, hn, rfl, hh'⟩ | ⟨hno, _, _⟩)
  · obtain ⟨h1, h2, h3⟩ := hap.stepY hk hn p.data.toList
    rw [size_len] at h3
    refine ⟨v, _, rfl, h2, ⟨h1, (hh'.row 4 _ (put_at _ _ _)).1⟩, ⟨o', _, _, _, H, P, hh', put_at _ _ _, ?_, ?_, ?_, h3⟩, hle, hl2⟩
    · rw [put_ne _ _ (by decide)]; exact hg1
    · rw [put_ne _ _ (by decide)]; exact hr0
    · rw [put_ne _ _ (by decide)]; exact hr1
  · obtain ⟨ys, hG, hy⟩ := hap.two
    rcases hy with ⟨h1, _⟩ | ⟨_, y, rfl, hy2, _⟩
    · cases h1
    · exact absurd (by rw [hy2]; rfl) (hno y (by rw [hG]; simp))
theorem AInv.more {w : World} {gb hb : Nat} {n : Int} {a two : List UInt8} {m m2 m3 : Nat} {ov : Bool} {pv qv : Value} {wr : World} (h : AInv w gb hb n a two m m2 ov pv qv wr) (h1 : m2 ≤ m3) (h2 : m3 ≤ two.length) : AInv w gb hb n a two m m3 ov pv qv wr := by
  obtain ⟨⟨o, gws, rows, G, H, P, h3, h4, h5, h6, h7, h8⟩, h9, _⟩ := h
  exact ⟨⟨o, gws, rows, G, H, P, h3, h4, h5, h6, h7, h8.more h1⟩, h9, h2⟩
theorem AInv.forms {w : World} {gb hb : Nat} {n : Int} {a two : List UInt8} {m m2 : Nat} {ov : Bool} {pv qv : Value} {wr : World} (h : AInv w gb hb n a two m m2 ov pv qv wr) : Q w wr ∧ (∃ a k c, pv = .slice a k c) ∧ ∃ a k c, qv = .slice a k c := by
  obtain ⟨⟨o, gws, rows, G, H, P, hh, _, _, hr0, hr1, _⟩, _, _⟩ := h
  obtain ⟨x, y, h1⟩ := hh.form hr0
  obtain ⟨x2, y2, h2⟩ := hh.form hr1
  exact ⟨hh.q, ⟨_, _, _, h1⟩, _, _, _, h2⟩
/-- All has come: what the two lists hold. -/
theorem AInv.last {w : World} {gb hb : Nat} {n : Int} {a two : List UInt8} {m m2 : Nat} {ov : Bool} {pv qv : Value} {wr : World} (h : AInv w gb hb n a two m m2 ov pv qv wr) (hd : (headA n ++ a).drop m = []) :
    Q w wr ∧ ∃ pg pc qg qc, pv = .slice (some ⟨pg, 0, none⟩) 1 pc ∧ qv = .slice (some ⟨qg, 0, none⟩) 1 qc ∧ (∀ j u, (evOf ⟨1, 1, exB, 443⟩)[j]? = some u → wr.cell? ⟨pg, j, none⟩ = some u) ∧ ∀ j u, (evOf ⟨1, 1, exB, 443⟩)[j]? = some u → wr.cell? ⟨qg, j, none⟩ = some u := by
  obtain ⟨⟨o, gws, rows, G, H, P, hh, _, _, hr0, hr1, hap⟩, hle, _⟩ := h
  have hlen := congrArg List.length hd
  rw [List.length_drop, List.length_append] at hlen
  simp at hlen
  have hP : P = [⟨1, 1, exB, 443⟩] := by rw [hap.evs, if_neg (by omega)]
  rw [hP] at hr0 hr1
  obtain ⟨pg, pc, h1, h2⟩ := ev_cells (hh.row 0 _ hr0).1 (by simp)
  obtain ⟨qg, qc, h3, h4⟩ := ev_cells (hh.row 1 _ hr1).1 (by simp)
  exact ⟨hh.q, pg, pc, qg, qc, h1, h3, fun j u hu => h2 j u (by rw [evVals_one]; exact hu), fun j u hu => h4 j u (by rw [evVals_one]; exact hu)⟩
end Go.Proofs.YtfkggpminmonmaaGreatDoor
/-
  The law 'Apart', walked.
-/
namespace Go.Proofs.YtfkggpminmonmaaGreatDoor
open Go.RowKit Plain

set_option maxRecDepth 100000 in
set_option maxHeartbeats 3200000 in
theorem apart_any (n : Int) (a b : ByteArray) (rv : Value) (raw : List Int) (w : World) (hn : I64 n) (ha : a.size ≤ 1048576) (hb : b.size ≤ 1048576) (hr : IntsAt w rv raw) (hm : ML w) :
    Calls Tryz.prog 5 #[.int .i64 n, .string a, .string b, rv] w fun e w' => e = .returned (.bool true) ∧ Q w w' := by
  have HR : Hid (IntsAt w rv raw) := hr
  have HM : Hid (ML w) := hm
  have HN : Hid (I64 n) := hn
  obtain ⟨ra, rc, rfl, _⟩ := hr
  obtain ⟨rl, hrl⟩ : ∃ m, m = raw.length := ⟨_, rfl⟩
  rw [← hrl] at HR ⊢
  clear hrl hm hn
  have HUs : ∀ x, Hid (Calls Tryz.prog 10 #[.int .i64 n] x fun e w' => ∃ g, e = .returned (.slice (some ⟨g, 0, none⟩) 3 3) ∧ Q x w' ∧ Hid (UsAt n g w')) := fun x => (users_any n x HN.out).mono (by
    rintro e w' ⟨g, rfl, h1, _, h2, h3⟩
    exact ⟨g, rfl, h1, h2, h3⟩)
  have hAn : (⟨#[97, 108, 108, 111, 119, 32, 97, 110, 110, 32, 42, 32, 42, 32, 42, 10]⟩ : ByteArray).data.toList = annB := rfl
  have HNw : ∀ (g : Nat) (x : World) (o : Ow) (gws : Gws) (rows : Rws) (i : Nat), Hold w x o gws rows → gws i = none → UsAt n g x → Hid (Calls Tryz.prog 8 #[.string ⟨#[97, 108, 108, 111, 119, 32, 97, 110, 110, 32, 42, 32, 42, 32, 42, 10]⟩, .slice (some ⟨g, 0, none⟩) 3 3, .int .i64 0] x fun e w' => ∃ gb o', e = .returned (.tuple #[ptr gb, .int .i64 0, .int .i64 0]) ∧ Hid (Hold w w' o' (put gws i (gb, gateT l0 n 0)) rows ∧ GOk (gateT l0 n 0))) := fun g x o gws rows i hh hi hu => by
    refine (hh.new hi _ (usersT n) _ 0 (by decide) hu.pairs (by simp [usersT])).mono ?_
    rintro e w' (⟨en, ln, hns, _⟩ | ⟨G, gb, o', hns, rfl, hh', hok, _⟩)
    · rw [hAn, l0_new] at hns; cases hns
    · rw [hAn, l0_new] at hns
      cases hns
      exact ⟨gb, o', rfl, hh', hok⟩
  clear hAn
  go_enter Tryz.func5, Tryz.ntmps5
  go_wp2_with fail
  refine Calls.mono (Hid.out (HUs _)) ?_
  rintro e w1 ⟨u1, rfl, hq1, hu1⟩
  have HH1 := show Hid _ from Hold.start (w0 := w) hq1
  clear hq1
  go_wp2_with fail
  refine Calls.mono (Hid.out (HNw u1 w1 _ _ _ 0 HH1.out rfl hu1.out)) ?_
  rintro e w2 ⟨gb, o2, rfl, hh2⟩
  clear HH1 hu1
  go_wp2_with fail
  refine Calls.mono (Hid.out (HUs _)) ?_
  rintro e w3 ⟨u3, rfl, hq3, hu3⟩
  have HH3 := show Hid _ from hh2.out.1.stays hq3
  clear hq3
  go_wp2_with fail
  refine Calls.mono (Hid.out (HNw u3 w3 _ _ _ 1 HH3.out rfl hu3.out)) ?_
  rintro e w4 ⟨hb', o4, rfl, hh4⟩
  have HOk := show Hid _ from hh2.out.2
  have HH4 := show Hid _ from hh4.out.1
  clear hh2 hh4 HH3 hu3 HUs HNw
  have HA1 := show Hid _ from HH4.out.accept (i := 0) rfl HOk.out
  have HOk1 : Hid (GOk (gateT l0 n 0).accept) := gateT_ok l0 n 0
  have HL0 : Hid ((gateT l0 n 0).conns.length = 0 ∧ (gateT l0 n 0).last = 0 ∧ (gateT l0 n 0).accept.conns.length = 1 ∧ (gateT l0 n 0).accept.last = 1) := ⟨rfl, rfl, rfl, rfl⟩
  obtain ⟨G0, hG0⟩ : ∃ g, g = gateT l0 n 0 := ⟨_, rfl⟩
  have HG0 := show Hid _ from hG0
  rw [← hG0] at HA1 HOk HOk1 HL0 HH4
  clear hG0
  go_wp2_with fail
  refine Calls.mono (Hid.out HA1) ?_
  rintro e w5 (⟨h8, _, _⟩ | ⟨_, ⟨o5, hh5⟩, rfl⟩)
  · rw [HL0.out.1] at h8; cases h8
  rw [HL0.out.2.1]
  have HH5 := show Hid _ from hh5
  have HA2 := show Hid _ from hh5.accept (i := 0) (put_at _ _ _) HOk1.out
  clear hh5 HA1 HH4
  go_wp2_with fail
  refine Calls.mono (Hid.out HA2) ?_
  rintro e w6 (⟨h8, _, _⟩ | ⟨_, ⟨o6, hh6⟩, rfl⟩)
  · rw [HL0.out.2.2.1] at h8; cases h8
  rw [HL0.out.2.2.2]
  have HH6 := show Hid _ from hh6
  have HA3 := show Hid _ from hh6.accept (i := 1) (gb := hb') (G := G0) rfl HOk.out
  clear hh6 HA2 HH5
  go_wp2_with fail
  refine Calls.mono (Hid.out HA3) ?_
  rintro e w7 (⟨h8, _, _⟩ | ⟨_, ⟨o7, hh7⟩, rfl⟩)
  · rw [HL0.out.1] at h8; cases h8
  rw [HL0.out.2.1]
  have HI7 : Hid (∀ two, AInv w gb hb' n a.data.toList two 0 0 false (.slice none 0 0) (.slice none 0 0) w7) := fun two => ainv_start hh7 (by rw [← HG0.out]; rfl) (by rw [← HG0.out]; rfl)
  clear hh7 HA3 HH6
  have hexs : (⟨#[101, 120, 97, 109, 112, 108, 101, 46, 99, 111, 109]⟩ : ByteArray).size = 11 := rfl
  have HWo : ∀ (k : Nat) x, k < 3 → Hid (Calls Tryz.prog 12 #[.int .i64 n, .int .i64 (k : Int)] x fun e w' => ∃ W : ByteArray, e = .returned (.string W) ∧ W.size ≤ 11 ∧ Hid (W.data.toList = wordT n k) ∧ Q x w') := fun k x hk => (word_any n k x HN.out hk).mono (by
    rintro e w' ⟨rfl, hq⟩
    exact ⟨⟨(wordT n k).toArray⟩, rfl, by rw [← size_len]; exact word_len n k hk, rfl, hq⟩)
  have HHd : ∀ (k : Nat) (W : ByteArray) x, k < 3 → W.size ≤ 11 → Hid (Calls Tryz.prog 15 #[.int .i64 (k : Int), .string W, .string ⟨#[101, 120, 97, 109, 112, 108, 101, 46, 99, 111, 109]⟩, .int .i64 443] x fun e w' => ∃ T : ByteArray, e = .returned (.string T) ∧ Hid (T.data.toList = headT k W.data.toList exB 443) ∧ T.size ≤ 1000 ∧ Q x w') := fun k W x hk hW => (head_any k W ⟨#[101, 120, 97, 109, 112, 108, 101, 46, 99, 111, 109]⟩ 443 x hk (by omega) (by decide) (by decide)).mono (by
    rintro e w' ⟨rfl, hq⟩
    exact ⟨⟨(headT k W.data.toList exB 443).toArray⟩, rfl, rfl, by rw [← size_len]; exact head_len3 k _ (by rw [size_len]; exact hW), hq⟩)
  go_wp2_with fail
  refine Calls.mono (Hid.out (HWo 0 _ (by decide))) ?_
  rintro e w8 ⟨W8, rfl, hW8, hw8, hq8⟩
  go_wp2_with fail
  refine Calls.mono (Hid.out (HHd 0 W8 _ (by decide) hW8)) ?_
  rintro e w9 ⟨T9, rfl, ht9, hT9, hq9⟩
  have HT9 : Hid (T9.data.toList = headA n) := by
    show _ = _
    rw [ht9.out, hw8.out]; rfl
  have HQ9 : Hid (Q w7 w9) := hq8.trans hq9
  clear ht9 hw8 hq8 hq9 hexs
  go_upto_region 11 with fail
  obtain ⟨one, hone⟩ : ∃ x, x = T9 ++ a := ⟨_, rfl⟩
  have hones : one.size ≤ 1049576 := by rw [hone, ByteArray.size_append]; omega
  have HOne : Hid (one.data.toList = headA n ++ a.data.toList) := by
    show _ = _
    rw [hone, app_str, HT9.out]
  rw [← hone]
  clear hone HT9 hT9
  have P2 := fun w => show Hid _ from pick_any n 2 w HN.out (by decide) (by decide)
  go_wp2_with fail
  refine Calls.mono (Hid.out (HWo 1 _ (by decide))) ?_
  rintro e w10 ⟨W10, rfl, hW10, hw10, hq10⟩
  go_wp2_with fail
  refine Calls.mono (Hid.out (HHd 1 W10 _ (by decide) hW10)) ?_
  rintro e w11 ⟨T11, rfl, ht11, hT11, hq11⟩
  have HQ11 : Hid (Q w7 w11) := (HQ9.out.trans hq10).trans hq11
  clear hq10 hq11 HWo HHd ht11 hw10
  go_wp2_with fail
  refine Calls.mono (Hid.out (P2 _)) ?_
  rintro e w12 ⟨rfl, hw⟩
  rw [hw]
  clear hw P2
  rw [show ((2 : Int).toNat) = 2 from rfl]
  go_upto_if 112 with fail
  go_cut [20] (fun s wx => ∃ two : ByteArray, s = .string two ∧ two.size ≤ 1049576 ∧ wx = w11)
  case first =>
    by_cases h2 : pickN n 2 = 0
    · rw [h2]
      go_wp2_with fail
      go_meet
      exact ⟨b, rfl, by omega, rfl⟩
    · have d2 : (((pickN n 2 : Nat) : Int) == 0) = false := by rw [beq_eq_false_iff_ne]; omega
      go_wp2_with fail
      go_meet
      exact ⟨T11 ++ b, rfl, by rw [ByteArray.size_append]; omega, rfl⟩
  case rest =>
    obtain ⟨two, rfl, htwos, hw⟩ := hcut
    rw [hw]
    clear HQ9 hw
    have HI : Hid (AInv w gb hb' n a.data.toList two.data.toList 0 0 false (.slice none 0 0) (.slice none 0 0) w11) := (HI7.out _).stays HQ11.out
    clear HI7 HQ11
    go_wp2_with fail
    go_loopw [19, 20, 21, 22, 23, 24, 25, 26, 27, 28, 29, 30, 31, 32, 33, 34, 35] (fun t1 t2 ov pv qv i _ _ _ _ _ _ _ _ _ _ _ wr => ∃ (k m m2 : Nat) (s1 s2 : ByteArray) (o : Bool), t1 = .string s1 ∧ t2 = .string s2 ∧ ov = .bool o ∧ i = .int .i64 k ∧ k + s1.size ≤ 1049576 ∧ s2.size ≤ 1049576 ∧ Hid (s1.data.toList = (headA n ++ a.data.toList).drop m) ∧ Hid (s2.data.toList = two.data.toList.drop m2) ∧ Hid (AInv w gb hb' n a.data.toList two.data.toList m m2 o pv qv wr)) (fun t1 _ _ _ _ _ _ _ _ _ _ _ _ _ _ _ _ _ => strLen t1)
    case atStart => exact ⟨0, 0, 0, one, two, false, rfl, rfl, rfl, rfl, by omega, by omega, HOne.out, rfl, HI.out⟩
    case round =>
      obtain ⟨k, m, m2, s1, s2, ov, rfl, rfl, rfl, rfl, hk1, hs2, hd1, hd2, hinv⟩ := hrel
      by_cases hs0 : s1.size = 0
      · have hnil : s1.data.toList = [] := List.eq_nil_of_length_eq_zero (by rw [size_len]; exact hs0)
        have hemp : s1.toList.isEmpty = true := by rw [Lib.toList_data, hnil]; rfl
        rw [hd1.out] at hnil
        obtain ⟨hqr, pg, pc, qg, qc, rfl, rfl, hpc, hqc⟩ := hinv.out.last hnil
        have c0 := hpc 0 _ rfl
        have c1 := hpc 1 _ rfl
        have c2 := hpc 2 _ rfl
        have c3 := hpc 3 _ rfl
        have d0 := hqc 0 _ rfl
        have d1 := hqc 1 _ rfl
        have d2 := hqc 2 _ rfl
        have d3 := hqc 3 _ rfl
        have HQr : Hid (Q w wr) := hqr
        unfold str exB at c2 d2
        clear hpc hqc hinv hd1 hd2 hnil hs0 hqr HI HOne HR
        go_wp2_with fail
        refine wp_loop_rounds 2 ?_
        rw [rounds_succ]
        go_wp2_with fail
        go_quiet (fail)
        go_wp2_with fail
        rw [rounds_succ]
        go_wp2_with fail
        go_ret
        exact ⟨by simp, HQr.out.drews _⟩
      · obtain ⟨⟨o, gws, rows, G, H, P, hh, hg0, hg1, hr0, hr1, hap⟩, hle, hle2⟩ := hinv.out
        obtain ⟨po, pc, rfl⟩ := hh.form hr0
        obtain ⟨qo, qc, rfl⟩ := hh.form hr1
        obtain ⟨pl, hpl⟩ : ∃ x, x = P.length := ⟨_, rfl⟩
        rw [← hpl] at hr0 hr1 ⊢
        have hpl1 : pl ≤ 1 := by rw [hpl]; exact hap.lenP
        clear hpl
        have hne : s1.data.toList ≠ [] := fun e => hs0 (by rw [← size_len, e]; rfl)
        have hemp : s1.toList.isEmpty = false := by rw [Lib.toList_data]; cases hx : s1.data.toList with
          | nil => exact absurd hx hne
          | cons a b => rfl
        have hsz1 : s1.size = (headA n ++ a.data.toList).length - m := by rw [← size_len, hd1.out, List.length_drop]
        have hsz2 : s2.size = two.data.toList.length - m2 := by rw [← size_len, hd2.out, List.length_drop]
        have hlen1 : (headA n ++ a.data.toList).length ≤ 1049576 := by rw [← HOne.out, size_len]; exact hones
        have hlen2 : two.data.toList.length ≤ 1049576 := by rw [size_len]; exact htwos
        obtain ⟨pn, hpn⟩ : ∃ p, p = pieceN s1.size raw[k]? := ⟨_, rfl⟩
        obtain ⟨hp1, hp2⟩ := pieceN_le s1.size raw[k]?
        obtain ⟨qn, hqn⟩ : ∃ p, p = pieceN s2.size raw[k]? := ⟨_, rfl⟩
        obtain ⟨hq1, _⟩ := pieceN_le s2.size raw[k]?
        have HPc := show Hid _ from piece_any s1 (.slice ra rl rc) raw k wr (HR.out.stays hh.q) (by omega)
        have HPd := fun x hx => show Hid _ from piece_any s2 (.slice ra rl rc) raw k x hx (by omega)
        rw [← hpn] at HPc hp1 hp2
        rw [← hqn] at HPd hq1
        obtain ⟨p, hP⟩ : ∃ M : ByteArray, M.data.toList = s1.data.toList.take pn := ⟨⟨(s1.data.toList.take pn).toArray⟩, rfl⟩
        obtain ⟨r, hRr⟩ : ∃ M : ByteArray, M.data.toList = s1.data.toList.drop pn := ⟨⟨(s1.data.toList.drop pn).toArray⟩, rfl⟩
        obtain ⟨p2, hP2⟩ : ∃ M : ByteArray, M.data.toList = s2.data.toList.take qn := ⟨⟨(s2.data.toList.take qn).toArray⟩, rfl⟩
        obtain ⟨r2, hR2⟩ : ∃ M : ByteArray, M.data.toList = s2.data.toList.drop qn := ⟨⟨(s2.data.toList.drop qn).toArray⟩, rfl⟩
        have HPz : Hid (p.size = pn) := by show _ = _; rw [← size_len, hP, List.length_take, size_len]; omega
        have HRz : Hid (r.size = s1.size - pn) := by show _ = _; rw [← size_len, hRr, List.length_drop, size_len]
        have HPz2 : Hid (p2.size = qn) := by show _ = _; rw [← size_len, hP2, List.length_take, size_len]; omega
        have HRz2 : Hid (r2.size = s2.size - qn) := by show _ = _; rw [← size_len, hR2, List.length_drop, size_len]
        have hpp : 0 < pn := hp2 (by omega)
        rw [← hP, ← hRr, str_data, str_data] at HPc
        rw [← hP2, ← hR2, str_data, str_data] at HPd
        have HPx : Hid (p.data.toList = ((headA n ++ a.data.toList).drop m).take pn) := by
          show _ = _
          rw [hP, hd1.out]
        have HRx : Hid (r.data.toList = (headA n ++ a.data.toList).drop (m + pn)) := by
          show _ = _
          rw [hRr, hd1.out, List.drop_drop]
        have HRy : Hid (r2.data.toList = two.data.toList.drop (m2 + qn)) := by
          show _ = _
          rw [hR2, hd2.out, List.drop_drop]
        have HSz : Hid (m + pn ≤ (headA n ++ a.data.toList).length ∧ m2 + qn ≤ two.data.toList.length ∧ m + pn ≤ 1049576 ∧ m2 + qn ≤ 1049576) := ⟨by omega, by omega, by omega, by omega⟩
        have HLs : Hid (m2 ≤ two.data.toList.length) := hle2
        have HHh : Hid (Hold w wr o gws rows) := hh
        have HAp : Hid (Ap n a.data.toList m m2 ov G H P) := hap
        have HG : Hid (gws 0 = some (gb, G) ∧ gws 1 = some (hb', H) ∧ rows 0 = some (.slice po pl pc, P) ∧ rows 1 = some (.slice qo pl qc, P)) := ⟨hg0, hg1, hr0, hr1⟩
        clear hP hRr hP2 hR2 hne hs0 hpn hqn hp2 hq1 hsz1 hsz2 hlen1 hlen2 hle hle2 hh hg0 hg1 hr0 hr1 hap hinv hd1 hd2 HI HOne
        go_wp2_with fail
        refine Calls.mono (Hid.out HPc) ?_
        rintro e w1 ⟨rfl, hq1⟩
        have HH1 := show Hid _ from HHh.out.stays hq1
        have HC1 := show Hid _ from ap_client1 HH1.out HG.out.1 HAp.out p HPx.out (by have := HSz.out; have := HPz.out; omega) HM.out
        clear HHh HPc hq1
        go_wp2_with fail
        refine Calls.mono (Hid.out HC1) ?_
        rintro e w2 ⟨lv, o2, rfl, hh2⟩
        obtain ⟨lo, lc, rfl⟩ := hh2.out.form (put_at _ _ _)
        have HC2 := show Hid _ from ap_client2 hh2.out (hb := hb') (H := H) (by rw [put_ne _ _ (by decide)]; exact HG.out.2.1) HAp.out p HPx.out (by have := HSz.out; have := HPz.out; omega) HM.out
        clear HC1 HH1
        obtain ⟨ll, hll⟩ : ∃ x, x = (evX n m pn).length := ⟨_, rfl⟩
        rw [← hll] at hh2 ⊢
        have HLl := show Hid _ from hll
        clear hll
        go_wp2_with fail
        refine Calls.mono (Hid.out HC2) ?_
        rintro e w3 ⟨mv, o3, rfl, hh3⟩
        obtain ⟨mo, mc, rfl⟩ := hh3.out.form (put_at _ _ _)
        rw [← HLl.out] at hh3 ⊢
        obtain ⟨v4, w4, v5, w5, hr4, hr5, hi5⟩ := ap_grown (gb := gb) (hb := hb') (two := two.data.toList) (pv := .slice po pl pc) (qv := .slice qo pl qc) (lv := .slice lo ll lc) (mv := .slice mo ll mc) hh3.out HAp.out (by rw [put_ne _ _ (by decide), put_at]) (by rw [put_at]) (by rw [put_ne _ _ (by decide), put_ne _ _ (by decide)]; exact HG.out.2.2.1) (by rw [put_ne _ _ (by decide), put_ne _ _ (by decide)]; exact HG.out.2.2.2) (by rw [put_ne _ _ (by decide), put_at, HLl.out]) (by rw [put_at]) HSz.out.1 HLs.out HAp.out.lenP
        obtain ⟨hq5, ⟨po', pl', pc', rfl⟩, qo', ql', qc', rfl⟩ := hi5.forms
        have HR4 := show Hid _ from hr4
        have HR5 := show Hid _ from hr5
        have HI5 := show Hid _ from hi5
        have HPd5 := HPd w5 (HR.out.stays hq5)
        clear HPd hr4 hr5 hi5 hh2 hh3 HC2 HAp HG HLl HLs HPx hq5
        go_wp2_with (first | (at_builtin; refine wpList_append_run rfl (.tmp 145) (.tmp 146) 41 41 rfl (.slice po pl pc) (.slice lo ll lc) (.slice po' pl' pc') w4 rfl rfl HR4.out ?_) | (at_builtin; refine wpList_append_run rfl (.tmp 148) (.tmp 149) 41 41 rfl (.slice qo pl qc) (.slice mo ll mc) (.slice qo' ql' qc') w5 rfl rfl HR5.out ?_))
        refine Calls.mono (Hid.out HPd5) ?_
        rintro e w6 ⟨rfl, hq6⟩
        have HI6 := show Hid _ from HI5.out.stays hq6
        clear HI5 HPd5 HR4 HR5 hq6
        cases ov
        case true =>
          go_wp2_with fail
          exact ⟨⟨k + 1, m + pn, m2 + qn, r, r2, true, rfl, rfl, rfl, by simp, by have := HRz.out; omega, by have := HRz2.out; omega, HRx.out, HRy.out, HI6.out.more (Nat.le_add_right _ _) HSz.out.2.1⟩, by show r.size < s1.size; have := HRz.out; omega⟩
        by_cases hp0 : p2.size = 0
        · have hemp2 : p2.toList.isEmpty = true := by
            rw [Lib.toList_data, List.eq_nil_of_length_eq_zero (show p2.data.toList.length = 0 by rw [size_len]; exact hp0)]; rfl
          clear hp0
          go_wp2_with fail
          exact ⟨⟨k + 1, m + pn, m2 + qn, r, r2, false, rfl, rfl, rfl, by simp, by have := HRz.out; omega, by have := HRz2.out; omega, HRx.out, HRy.out, HI6.out.more (Nat.le_add_right _ _) HSz.out.2.1⟩, by show r.size < s1.size; have := HRz.out; omega⟩
        · have hemp2 : p2.toList.isEmpty = false := by
            rw [Lib.toList_data]
            cases hx : p2.data.toList with
            | nil => exact absurd (by rw [← size_len, hx]; rfl) hp0
            | cons a b => rfl
          have HC3 := show Hid _ from ap_client3 HI6.out p2 (by have := HSz.out; have := HPz2.out; omega) (by have := HSz.out; have := HPz2.out; omega) HM.out
          rw [HPz2.out] at HC3
          clear hp0 HI6
          go_wp2_with fail
          refine Calls.mono (Hid.out HC3) ?_
          rintro e w7 ⟨lv7, evs, rfl, hl7, he7, hi7⟩
          clear HC3
          rcases evs with _ | ⟨x1, _ | ⟨x2, _ | ⟨x3, t⟩⟩⟩
          · obtain ⟨vo, vc, rfl⟩ := slice_form he7.out.2
            rw [show ([] : List EvS).length = 0 from rfl] at *
            go_wp2_with fail
            refine wp_loop_rounds 1 ?_
            rw [rounds_succ]
            go_wp2_with fail
            exact ⟨⟨k + 1, m + pn, m2 + qn, r, r2, false, rfl, rfl, rfl, by simp, by have := HRz.out; omega, by have := HRz2.out; omega, HRx.out, HRy.out, hi7.out⟩, by show r.size < s1.size; have := HRz.out; omega⟩
          · obtain ⟨eg, ec, rfl, hcells⟩ := ev_cells he7.out.2 (by simp)
            have hx1 : w7.cell? ⟨eg, 1, none⟩ = some (.int .i64 2) := by
              have := hcells 1 _ rfl
              rw [this, he7.out.1 x1 (by simp)]
            rw [show ([x1] : List EvS).length = 1 from rfl] at *
            clear hcells he7
            go_wp2_with fail
            refine wp_loop_rounds 2 ?_
            rw [rounds_succ]
            go_wp2_with fail
            rw [rounds_succ]
            go_wp2_with fail
            exact ⟨⟨k + 1, m + pn, m2 + qn, r, r2, false, rfl, rfl, rfl, by simp, by have := HRz.out; omega, by have := HRz2.out; omega, HRx.out, HRy.out, hi7.out⟩, by show r.size < s1.size; have := HRz.out; omega⟩
          · obtain ⟨eg, ec, rfl, hcells⟩ := ev_cells he7.out.2 (by simp)
            have hx1 : w7.cell? ⟨eg, 1, none⟩ = some (.int .i64 2) := by
              have := hcells 1 _ rfl
              rw [this, he7.out.1 x1 (by simp)]
            have hx2 : w7.cell? ⟨eg, 5, none⟩ = some (.int .i64 2) := by
              have := hcells 5 _ rfl
              rw [this, he7.out.1 x2 (by simp)]
            rw [show ([x1, x2] : List EvS).length = 2 from rfl] at *
            clear hcells he7
            go_wp2_with fail
            refine wp_loop_rounds 3 ?_
            rw [rounds_succ]
            go_wp2_with fail
            rw [rounds_succ]
            go_wp2_with fail
            rw [rounds_succ]
            go_wp2_with fail
            exact ⟨⟨k + 1, m + pn, m2 + qn, r, r2, true, rfl, rfl, rfl, by simp, by have := HRz.out; omega, by have := HRz2.out; omega, HRx.out, HRy.out, hi7.out⟩, by show r.size < s1.size; have := HRz.out; omega⟩
          · simp at hl7
end Go.Proofs.YtfkggpminmonmaaGreatDoor

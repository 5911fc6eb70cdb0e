/-
  What a round of 'Apart' does in memory.
-/
import Derived.Test.YtdmaffciijmdcaaGreatDoorAp0ToAp1
namespace Go.Proofs.YtdmaffciijmdcaaGreatDoor
open Go.RowKit Plain

/-- Memory and what it means, at the start of a round. -/
structure AInv (w : World) (gb hb : Nat) (n : Int) (a two : List UInt8) (m m2 : Nat) (ov : Bool) (pv qv : Value) (wr : World) : Prop where
  intro ::
  ex : ∃ (o : Ow) (gws : Gws) (rows : Rws) (G H : GateS) (P : List EvS), Hold w wr o gws rows ∧ gws 0 = some (gb, G) ∧ gws 1 = some (hb, H) ∧ rows 0 = some (pv, P) ∧ rows 1 = some (qv, P) ∧ Ap n a m m2 ov G H P
  le : m ≤ (headA n ++ a).length
  le2 : m2 ≤ two.length

theorem head_len3 (k : Nat) (W : List UInt8) (hW : W.length ≤ 11) : (headT k W exB 443).length ≤ 1000 := by
  have h4 : (tenantS k).length ≤ 3 := tenantS_len _
  have h5 := b64_len2 (tenantS k ++ [58] ++ W)
  have h6 := digits_len6 443 (by decide)
  unfold headT
  simp [h1B, h2B, h3B, endB, exB] at h5 ⊢
  omega
theorem headA_pos (n : Int) : 0 < (headA n).length := by
  rw [headA_body]
  simp [endB]
theorem ap_start (n : Int) (a : List UInt8) : Ap n a 0 0 false (gateT l0 n 0).accept.accept (gateT l0 n 0).accept [] := by
  have hx : xAt (headA n) a 0 = ⟨1, 0, 0, [], false, false⟩ := by
    unfold xAt
    rw [if_pos (headA_pos n), List.take_zero]
  refine ⟨by rw [hx]; rfl, ⟨[⟨2, 0, 0, [], false, false⟩], by rw [hx]; rfl, .inr ⟨rfl, _, rfl, rfl, by simp⟩⟩, by rw [if_pos (headA_pos n)], fun c hc => ?_, fun c hc => ?_⟩
  · have : c = ⟨1, 0, 0, [], false, false⟩ ∨ c = ⟨2, 0, 0, [], false, false⟩ := by simpa [gateT, GateS.accept] using hc
    rcases this with rfl | rfl <;> rfl
  · have : c = ⟨1, 0, 0, [], false, false⟩ := by simpa [gateT, GateS.accept] using hc
    rw [this]
theorem ainv_start {w wr : World} {gb hb : Nat} {n : Int} {a two : List UInt8} {o : Ow} {gws : Gws} {rows : Rws} (h : Hold w wr o gws rows) (h0 : gws 0 = some (gb, (gateT l0 n 0).accept.accept)) (h1 : gws 1 = some (hb, (gateT l0 n 0).accept)) : AInv w gb hb n a two 0 0 false (.slice none 0 0) (.slice none 0 0) wr := by
  obtain ⟨o1, ho1⟩ := h.addRow 0 (v := .slice none 0 0) (l := []) ⟨rfl, .inl ⟨rfl, rfl⟩⟩ (fun k hk => by cases hk)
  obtain ⟨o2, ho2⟩ := ho1.addRow 1 (v := .slice none 0 0) (l := []) ⟨rfl, .inl ⟨rfl, rfl⟩⟩ (fun k hk => by cases hk)
  exact ⟨⟨o2, gws, _, _, _, _, ho2, h0, h1, by rw [put_ne _ _ (by decide), put_at], put_at _ _ _, ap_start n a⟩, Nat.zero_le _, Nat.zero_le _⟩
theorem AInv.stays {w : World} {gb hb : Nat} {n : Int} {a two : List UInt8} {m m2 : Nat} {ov : Bool} {pv qv : Value} {wr w' : World} (h : AInv w gb hb n a two m m2 ov pv qv wr) (q : Q wr w') : AInv w gb hb n a two m m2 ov pv qv w' := by
  obtain ⟨⟨o, gws, rows, G, H, P, h1, h2⟩, h3, h4⟩ := h
  exact ⟨⟨o, gws, rows, G, H, P, h1.stays q, h2⟩, h3, h4⟩

theorem Plain.Ap.waits {n : Int} {a : List UInt8} {m L : Nat} {ov : Bool} {G H : GateS} {P : List EvS} (h : Ap n a m L ov G H P) : (∀ c ∈ G.conns, c.wait.length ≤ m + L) ∧ ∀ c ∈ H.conns, c.wait.length ≤ m := by
  have hx := xAt_wait (headA n) a m
  constructor
  · obtain ⟨ys, hG, hy⟩ := h.two
    intro c hc
    rw [hG] at hc
    simp only [List.mem_cons] at hc
    rcases hc with rfl | hc
    · omega
    · rcases hy with ⟨_, rfl⟩ | ⟨_, y, rfl, _, hl⟩
      · cases hc
      · simp only [List.mem_singleton] at hc
        rw [hc]; omega
  · intro c hc
    rw [h.one] at hc
    simp only [List.mem_singleton] at hc
    rw [hc]; exact hx
theorem Plain.Ap.more {n : Int} {a : List UInt8} {m L L' : Nat} {ov : Bool} {G H : GateS} {P : List EvS} (h : Ap n a m L ov G H P) (hl : L ≤ L') : Ap n a m L' ov G H P := by
  obtain ⟨ys, hG, hy⟩ := h.two
  refine ⟨h.one, ⟨ys, hG, ?_⟩, h.evs, h.opG, h.opH⟩
  rcases hy with hy | ⟨h1, y, h2, h3, h4⟩
  · exact .inl hy
  · exact .inr ⟨h1, y, h2, h3, by omega⟩

theorem ap_client1 {w w1 : World} {o : Ow} {gws : Gws} {rows : Rws} {gb : Nat} {n : Int} {a : List UInt8} {m L : Nat} {ov : Bool} {G H : GateS} {P : List EvS} (hh : Hold w w1 o gws rows) (hg : gws 0 = some (gb, G)) (hap : Ap n a m L ov G H P) (p : ByteArray) {pn : Nat} (hp : p.data.toList = ((headA n ++ a).drop m).take pn) (hs : m + L + p.size ≤ 4294967280) (hm : ML w) :
    Calls Tryz.prog 22 #[ptr gb, .int .i64 1, .string p] w1 fun e w2 => ∃ lv o2, e = .returned (.tuple #[lv, .int .i64 0]) ∧ Hid (Hold w w2 o2 (put gws 0 (gb, (clientAt G 0 (xAt (headA n) a m) (((headA n ++ a).drop m).take pn)).1)) (put rows 2 (lv, evX n m pn))) := by
  refine (hh.client hg hap.okG hap.opG 1 p (fun c hc => by have := hap.waits.1 c hc; omega) hm 2).mono ?_
  rintro e w2 (⟨k, c, v, o', hk, hn, rfl, hh'⟩ | ⟨hno, _, _⟩)
  · obtain ⟨rfl, rfl⟩ := hap.getG hk hn
    rw [hp, (hap.stepX pn).1] at hh'
    exact ⟨v, o', rfl, hh'⟩
  · obtain ⟨ys, hG, _⟩ := hap.two
    exact absurd (by rw [xAt_num]; rfl) (hno (xAt (headA n) a m) (by rw [hG]; simp))
theorem ap_client2 {w w1 : World} {o : Ow} {gws : Gws} {rows : Rws} {hb : Nat} {n : Int} {a : List UInt8} {m L : Nat} {ov : Bool} {G H : GateS} {P : List EvS} (hh : Hold w w1 o gws rows) (hg : gws 1 = some (hb, H)) (hap : Ap n a m L ov G H P) (p : ByteArray) {pn : Nat} (hp : p.data.toList = ((headA n ++ a).drop m).take pn) (hs : m + L + p.size ≤ 4294967280) (hm : ML w) :
    Calls Tryz.prog 22 #[ptr hb, .int .i64 1, .string p] w1 fun e w2 => ∃ lv o2, e = .returned (.tuple #[lv, .int .i64 0]) ∧ Hid (Hold w w2 o2 (put gws 1 (hb, (clientAt H 0 (xAt (headA n) a m) (((headA n ++ a).drop m).take pn)).1)) (put rows 3 (lv, evX n m pn))) := by
  refine (hh.client hg hap.okH hap.opH 1 p (fun c hc => by have := hap.waits.2 c hc; omega) hm 3).mono ?_
  rintro e w2 (⟨k, c, v, o', hk, hn, rfl, hh'⟩ | ⟨hno, _, _⟩)
  · obtain ⟨rfl, rfl⟩ := hap.getH hk hn
    rw [hp, (hap.stepX pn).2.1] at hh'
    exact ⟨v, o', rfl, hh'⟩
  · exact absurd (by rw [xAt_num]; rfl) (hno (xAt (headA n) a m) (by rw [hap.one]; simp))
/-- Both lists have grown. -/
theorem ap_grown {w w3 : World} {o : Ow} {gws : Gws} {rows : Rws} {gb hb : Nat} {n : Int} {a two : List UInt8} {m L : Nat} {ov : Bool} {G H : GateS} {P : List EvS} {pv qv lv mv : Value} {pn : Nat} (hh : Hold w w3 o gws rows) (hap : Ap n a m L ov G H P)
    (hg0 : gws 0 = some (gb, (clientAt G 0 (xAt (headA n) a m) (((headA n ++ a).drop m).take pn)).1)) (hg1 : gws 1 = some (hb, (clientAt H 0 (xAt (headA n) a m) (((headA n ++ a).drop m).take pn)).1)) (h0 : rows 0 = some (pv, P)) (h1 : rows 1 = some (qv, P)) (h2 : rows 2 = some (lv, evX n m pn)) (h3 : rows 3 = some (mv, evX n m pn)) (hl : m + pn ≤ (headA n ++ a).length) (hl2 : L ≤ two.length) (hP : P.length ≤ 1) :
    ∃ v4 w4 v5 w5, (Builtin.append_ #[41, 41] 41 #[pv, lv]).run Tryz.prog w3 = .ok v4 w4 ∧ (Builtin.append_ #[41, 41] 41 #[qv, mv]).run Tryz.prog w4 = .ok v5 w5 ∧ AInv w gb hb n a two (m + pn) L ov v4 v5 w5 := by
  have he := evX_len n m pn
  obtain ⟨v4, w4, o4, r4, hh4⟩ := hh.append h0 h2 (by omega)
  obtain ⟨v5, w5, o5, r5, hh5⟩ := hh4.append (j := 1) (j2 := 3) (pv := qv) (lv := mv) (P := P) (L := evX n m pn) (by rw [put_ne _ _ (by decide)]; exact h1) (by rw [put_ne _ _ (by decide)]; exact h3) (by omega)
  refine ⟨v4, w4, v5, w5, r4, r5, ⟨o5, gws, _, _, _, P ++ evX n m pn, hh5, hg0, hg1, ?_, put_at _ _ _, (hap.stepX pn).2.2⟩, hl, hl2⟩
  rw [put_ne _ _ (by decide), put_at]
theorem Plain.Ap.lenP {n : Int} {a : List UInt8} {m L : Nat} {ov : Bool} {G H : GateS} {P : List EvS} (h : Ap n a m L ov G H P) : P.length ≤ 1 := by
  rw [h.evs]; split <;> simp

/-- The second client speaks. -/
theorem ap_client3 {w w1 : World} {gb hb : Nat} {n : Int} {a two : List UInt8} {m L : Nat} {pv qv : Value} (hi : AInv w gb hb n a two m L false pv qv w1) (p : ByteArray) (hs : m + L + p.size ≤ 4294967280) (hl2 : L + p.size ≤ two.length) (hm : ML w) :
    Calls Tryz.prog 22 #[ptr gb, .int .i64 2, .string p] w1 fun e w2 => ∃ (lv : Value) (evs : List EvS), e = .returned (.tuple #[lv, .int .i64 0]) ∧ evs.length ≤ 2 ∧ Hid ((∀ e ∈ evs, e.conn = 2) ∧ w2.ownsRow w.heap.size 48 4 lv evs.length (evVals evs)) ∧ Hid (AInv w gb hb n a two m (L + p.size) (decide (evs.length = 2)) pv qv w2) := by
  obtain ⟨⟨o, gws, rows, G, H, P, hh, hg0, hg1, hr0, hr1, hap⟩, hle, hle2⟩ := hi
  refine (hh.client hg0 hap.okG hap.opG 2 p (fun c hc => by have := hap.waits.1 c hc; omega) hm 4).mono ?_
  rintro e w2 (⟨k, c, v, o', hk, hn, rfl, hh'⟩ | ⟨hno, _, _⟩)
  · obtain ⟨h1, h2, h3⟩ := hap.stepY hk hn p.data.toList
    rw [size_len] at h3
    refine ⟨v, _, rfl, h2, ⟨h1, (hh'.row 4 _ (put_at _ _ _)).1⟩, ⟨o', _, _, _, H, P, hh', put_at _ _ _, ?_, ?_, ?_, h3⟩, hle, hl2⟩
    · rw [put_ne _ _ (by decide)]; exact hg1
    · rw [put_ne _ _ (by decide)]; exact hr0
    · rw [put_ne _ _ (by decide)]; exact hr1
  · obtain ⟨ys, hG, hy⟩ := hap.two
    rcases hy with ⟨h1, _⟩ | ⟨_, y, rfl, hy2, _⟩
    · cases h1
    · exact absurd (by rw [hy2]; rfl) (hno y (by rw [hG]; simp))
theorem AInv.more {w : World} {gb hb : Nat} {n : Int} {a two : List UInt8} {m m2 m3 : Nat} {ov : Bool} {pv qv : Value} {wr : World} (h : AInv w gb hb n a two m m2 ov pv qv wr) (h1 : m2 ≤ m3) (h2 : m3 ≤ two.length) : AInv w gb hb n a two m m3 ov pv qv wr := by
  obtain ⟨⟨o, gws, rows, G, H, P, h3, h4, h5, h6, h7, h8⟩, h9, _⟩ := h
  exact ⟨⟨o, gws, rows, G, H, P, h3, h4, h5, h6, h7, h8.more h1⟩, h9, h2⟩
theorem AInv.forms {w : World} {gb hb : Nat} {n : Int} {a two : List UInt8} {m m2 : Nat} {ov : Bool} {pv qv : Value} {wr : World} (h : AInv w gb hb n a two m m2 ov pv qv wr) : Q w wr ∧ (∃ a k c, pv = .slice a k c) ∧ ∃ a k c, qv = .slice a k c := by
  obtain ⟨⟨o, gws, rows, G, H, P, hh, _, _, hr0, hr1, _⟩, _, _⟩ := h
  obtain ⟨x, y, h1⟩ := hh.form hr0
  obtain ⟨x2, y2, h2⟩ := hh.form hr1
  exact ⟨hh.q, ⟨_, _, _, h1⟩, _, _, _, h2⟩
/-- All has come: what the two lists hold. -/
theorem AInv.last {w : World} {gb hb : Nat} {n : Int} {a two : List UInt8} {m m2 : Nat} {ov : Bool} {pv qv : Value} {wr : World} (h : AInv w gb hb n a two m m2 ov pv qv wr) (hd : (headA n ++ a).drop m = []) :
    Q w wr ∧ ∃ pg pc qg qc, pv = .slice (some ⟨pg, 0, none⟩) 1 pc ∧ qv = .slice (some ⟨qg, 0, none⟩) 1 qc ∧ (∀ j u, (evOf ⟨1, 1, exB, 443⟩)[j]? = some u → wr.cell? ⟨pg, j, none⟩ = some u) ∧ ∀ j u, (evOf ⟨1, 1, exB, 443⟩)[j]? = some u → wr.cell? ⟨qg, j, none⟩ = some u := by
  obtain ⟨⟨o, gws, rows, G, H, P, hh, _, _, hr0, hr1, hap⟩, hle, _⟩ := h
  have hlen := congrArg List.length hd
  rw [List.length_drop, List.length_append] at hlen
  simp at hlen
  have hP : P = [⟨1, 1, exB, 443⟩] := by rw [hap.evs, if_neg (by omega)]
  rw [hP] at hr0 hr1
  obtain ⟨pg, pc, h1, h2⟩ := ev_cells (hh.row 0 _ hr0).1 (by simp)
  obtain ⟨qg, qc, h3, h4⟩ := ev_cells (hh.row 1 _ hr1).1 (by simp)
  exact ⟨hh.q, pg, pc, qg, qc, h1, h3, fun j u hu => h2 j u (by rw [evVals_one]; exact hu), fun j u hu => h4 j u (by rw [evVals_one]; exact hu)⟩
end Go.Proofs.YtdmaffciijmdcaaGreatDoor

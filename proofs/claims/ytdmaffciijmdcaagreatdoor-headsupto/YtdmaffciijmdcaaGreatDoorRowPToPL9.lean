/-
  What the rows share: a script of calls, opened.
-/
import Derived.Test.YtdmaffciijmdcaaGreatDoorDecideToRowE
import Derived.Test.YtdmaffciijmdcaaGreatDoorPL7ToPL8
import Derived.SliceStrings
namespace Go.Proofs.YtdmaffciijmdcaaGreatDoor.Script
open Go.ChangeShapes Go.WideShapes Go.ChangeAt Go.RowKit Plain

theorem bulk_in {H : Type} {d : DataW H} : ∀ {l : List (DataW H)}, d ∈ l → Rows.uptoBulk d ≤ Rows.uptoBulkAll l
  | x :: l, h => by
    rw [Rows.uptoBulkAll]
    rcases List.mem_cons.1 h with rfl | h
    · omega
    · have := bulk_in h; omega
theorem bulk_pos {H : Type} (d : DataW H) : 1 ≤ Rows.uptoBulk d := by
  cases d with
  | lit x => cases x <;> simp [Rows.uptoBulk]
  | _ => simp [Rows.uptoBulk]
theorem bulk_many {H : Type} : ∀ (l : List (DataW H)), l.length ≤ Rows.uptoBulkAll l
  | [] => Nat.zero_le _
  | x :: l => by
    have := bulk_many l
    have := bulk_pos x
    rw [Rows.uptoBulkAll, List.length_cons]; omega
theorem bulk_slice {H : Type} (e r : List (DataW H)) : Rows.uptoBulkAll e + 1 ≤ Rows.uptoBulk (.slice e r) := by
  rw [Rows.uptoBulk]; omega
theorem ba_list (s : ByteArray) : (⟨s.data.toList.toArray⟩ : ByteArray) = s := by cases s; simp
theorem ba_len (s : ByteArray) : s.data.toList.length = s.size := by rw [Array.length_toList]; rfl
theorem spot_of_string {w : World} {a : Addr} {s : ByteArray} (h : w.cell? a = some (.string s)) : a.spot = none := by
  unfold World.cell? at h
  split at h
  · split at h
    · cases h
    · rename_i hn; simpa using hn
  · cases h
theorem list_of {α : Type} {R : Nat → α → Prop} : ∀ n, (∀ i, i < n → ∃ p, R i p) → ∃ l : List α, l.length = n ∧ ∀ i p, l[i]? = some p → R i p
  | 0, _ => ⟨[], rfl, fun i p h => by simp at h⟩
  | n + 1, h => by
    obtain ⟨l, h1, h2⟩ := list_of n (fun i hi => h i (by omega))
    obtain ⟨p, hp⟩ := h n (by omega)
    refine ⟨l ++ [p], by simp [h1], fun i q hq => ?_⟩
    by_cases hi : i < l.length
    · rw [List.getElem?_append_left hi] at hq
      exact h2 i q hq
    · have hl := (List.getElem?_eq_some_iff.1 hq).1
      rw [List.length_append, List.length_singleton] at hl
      have e : i = n := by omega
      subst e
      rw [List.getElem?_append_right (by omega), h1, Nat.sub_self] at hq
      cases hq
      exact hp
theorem addr_none {a : Addr} (h : a.spot = none) : a = ⟨a.block, a.off, none⟩ := by cases a; simp only at h; rw [h]

set_option maxRecDepth 100000 in
/-- The users of one call. -/
theorem users_open {H : Type} {enc : TypeId × Value → H} {w : World} {fuel : Nat} {cs : List Value} {x : DataW H × List MemPlace} (h : DataW.trod enc Tryz.prog w 0 (fun _ => true) true fuel 35 cs = some x) (hk : Rows.uptoBulk x.1 ≤ 1048576) :
    ∃ ua uc us, cs = [.slice ua us.length uc] ∧ UsersAt w (.slice ua us.length uc) us := by
  rcases Go.Deep.open_slice Tryz.underlying35 h with ⟨hcs, _⟩ | ⟨a, len, cap, m, n, D, Pl, hcs, _, hl, hm, hmm, hx, hc⟩
  · exact ⟨none, 0, [], hcs, none, 0, rfl, by decide, fun i u hi => by simp at hi⟩
  · cases hx
    dsimp only at hk
    rw [if_pos rfl] at hmm
    have hce : Tryz.prog.cellsOf 71 = 2 := by kernel_rfl
    have h1 := bulk_slice ((List.range len).map D) ((List.range (m - len)).map fun j => D (len + j))
    have h2 := bulk_many ((List.range len).map D)
    rw [List.length_map, List.length_range] at h2
    have hq : ∀ i, i < len → ∃ p : List UInt8 × List UInt8, (w.cell? ((a.add (i * 2)).add 0) = some (str p.1) ∧ w.cell? ((a.add (i * 2)).add 1) = some (str p.2)) ∧ p.1.length ≤ 1048576 ∧ p.2.length ≤ 1048576 := by
      intro i hi
      obtain ⟨cs', g1, g2⟩ := hc i (by omega)
      rw [hce] at g1
      obtain ⟨_, hcl, hcc⟩ := World.cells?_some g1
      obtain ⟨xs, n', _, hxe, _, hxl, hfld⟩ := DataW.trod_struct Tryz.underlying71 g2
      have hxl' : xs.length = 2 := hxl
      have hb := bulk_in (show D i ∈ (List.range len).map D from List.mem_map.2 ⟨i, List.mem_range.2 hi, rfl⟩)
      match cs', hcl, hcc, hfld with
      | [c0, c1], _, hcc, hfld =>
        match xs, hxl', hxe, hfld with
        | [x0, x1], _, hxe, hfld =>
          obtain ⟨s0, e0, y0, _⟩ := DataW.trod_string Tryz.underlying9 (show DataW.trod enc Tryz.prog w 0 (fun _ => true) true n' 9 [c0] = some x0 from hfld 0 _ rfl)
          obtain ⟨s1, e1, y1, _⟩ := DataW.trod_string Tryz.underlying9 (show DataW.trod enc Tryz.prog w 0 (fun _ => true) true n' 9 [c1] = some x1 from hfld 1 _ rfl)
          cases e0
          cases e1
          subst y0 y1
          have hD := congrArg Prod.fst hxe
          simp only at hD
          rw [hD] at hb
          simp only [List.map_cons, List.map_nil, Rows.uptoBulk, Rows.uptoBulkAll] at hb
          have l0 := ba_len s0
          have l1 := ba_len s1
          refine ⟨(s0.data.toList, s1.data.toList), ⟨?_, ?_⟩, ?_, ?_⟩
          · rw [hcc 0 (by decide)]; unfold str; rw [ba_list]; rfl
          · rw [hcc 1 (by decide)]; unfold str; rw [ba_list]; rfl
          · show s0.data.toList.length ≤ _; omega
          · show s1.data.toList.length ≤ _; omega
    obtain ⟨us, hul, hus⟩ := list_of len hq
    refine ⟨some a, cap, us, by rw [hul]; exact hcs, some a, cap, rfl, by omega, fun i u hi => ?_⟩
    obtain ⟨⟨c0, c1⟩, b0, b1⟩ := hus i u hi
    have hsp : a.spot = none := by
      have hi' := (List.getElem?_eq_some_iff.1 hi).1
      obtain ⟨p, ⟨hz, _⟩, _⟩ := hq 0 (by omega)
      rw [Nat.zero_mul] at hz
      exact spot_of_string (show w.cell? a = some (.string _) from hz)
    rw [add_add hsp] at c0 c1
    exact ⟨by omega, by omega, a.block, a.off, by rw [← addr_none hsp], c0, c1⟩

set_option maxRecDepth 100000 in
/-- One call, opened. -/
theorem op_open {H : Type} {enc : TypeId × Value → H} {w : World} {fuel : Nat} {cs : List Value} {x : DataW H × List MemPlace} (h : DataW.trod enc Tryz.prog w 0 (fun _ => true) true fuel 73 cs = some x) (hcl : cs.length = 7) (hk : Rows.uptoBulk x.1 ≤ 1048576) :
    ∃ (p : OpS) (ua : Option Addr) (uc : Nat), cs = [.int .i64 p.kind, .int .i64 p.at_, .int .i64 p.conn, .int .i64 p.nn, .bool p.ok, .string ⟨p.S.toArray⟩, .slice ua p.us.length uc] ∧ (-9223372036854775808 ≤ p.at_ ∧ p.at_ ≤ 9223372036854775807) ∧ p.S.length ≤ 1048576 ∧ UsersAt w (.slice ua p.us.length uc) p.us := by
  obtain ⟨xs, n', _, hxe, _, hxl, hfld⟩ := DataW.trod_struct Tryz.underlying73 h
  have hxl' : xs.length = 7 := hxl
  match cs, hcl, hfld with
  | [c0, c1, c2, c3, c4, c5, c6], _, hfld =>
    match xs, hxl', hxe, hfld with
    | [x0, x1, x2, x3, x4, x5, x6], _, hxe, hfld =>
      obtain ⟨z0, e0, y0, _⟩ := DataW.trod_int Tryz.underlying3 (show DataW.trod enc Tryz.prog w 0 (fun _ => true) true n' 3 [c0] = some x0 from hfld 0 _ rfl)
      obtain ⟨z1, e1, y1, w1⟩ := DataW.trod_int Tryz.underlying3 (show DataW.trod enc Tryz.prog w 0 (fun _ => true) true n' 3 [c1] = some x1 from hfld 1 _ rfl)
      obtain ⟨z2, e2, y2, _⟩ := DataW.trod_int Tryz.underlying3 (show DataW.trod enc Tryz.prog w 0 (fun _ => true) true n' 3 [c2] = some x2 from hfld 2 _ rfl)
      obtain ⟨z3, e3, y3, _⟩ := DataW.trod_int Tryz.underlying3 (show DataW.trod enc Tryz.prog w 0 (fun _ => true) true n' 3 [c3] = some x3 from hfld 3 _ rfl)
      obtain ⟨b4, e4, y4⟩ := DataW.trod_bool Tryz.underlying4 (show DataW.trod enc Tryz.prog w 0 (fun _ => true) true n' 4 [c4] = some x4 from hfld 4 _ rfl)
      obtain ⟨s5, e5, y5, _⟩ := DataW.trod_string Tryz.underlying9 (show DataW.trod enc Tryz.prog w 0 (fun _ => true) true n' 9 [c5] = some x5 from hfld 5 _ rfl)
      have h6 : DataW.trod enc Tryz.prog w 0 (fun _ => true) true n' 35 [c6] = some x6 := hfld 6 _ rfl
      cases e0
      cases e1
      cases e2
      cases e3
      cases e4
      cases e5
      subst y0 y1 y2 y3 y4 y5
      rw [hxe] at hk
      simp only [List.map_cons, List.map_nil, Rows.uptoBulk, Rows.uptoBulkAll] at hk
      have l5 := ba_len s5
      obtain ⟨ua, uc, us, hcs, hu⟩ := users_open h6 (by omega)
      cases hcs
      refine ⟨⟨z0, z1, z2, z3, b4, s5.data.toList, us⟩, ua, uc, by rw [ba_list], bounds_i64 w1, ?_, hu⟩
      show s5.data.toList.length ≤ _
      omega

set_option maxRecDepth 100000 in
/-- The script that came in. -/
theorem ops_open {H : Type} {enc : TypeId × Value → H} {w : World} {v : Value} {d : DataW H} {ps : List MemPlace} (h : DataW.Trod enc Tryz.prog w 0 (fun _ => true) true 22 v d ps)
    (hk : Rows.uptoBulk d ≤ 1048576) (hv : ∃ a len cap, v = .slice a len cap) : ∃ l, OpsAt w v l := by
  obtain ⟨a0, len0, cap0, rfl⟩ := hv
  obtain ⟨fuel, hf⟩ := h
  have hf' : DataW.trod enc Tryz.prog w 0 (fun _ => true) true fuel 22 [.slice a0 len0 cap0] = some (d, ps) := hf
  rcases Go.Deep.open_slice Tryz.underlying22 hf' with ⟨hcs, _⟩ | ⟨a, len, cap, m, n, D, Pl, hcs, _, hl, hm, hmm, hx, hc⟩
  · cases hcs
    exact ⟨[], none, 0, rfl, by decide, fun i s hi => by simp at hi⟩
  · cases hcs
    cases hx
    rw [if_pos rfl] at hmm
    have hce : Tryz.prog.cellsOf 73 = 7 := by kernel_rfl
    have h1 := bulk_slice ((List.range len0).map D) ((List.range (m - len0)).map fun j => D (len0 + j))
    have h2 := bulk_many ((List.range len0).map D)
    rw [List.length_map, List.length_range] at h2
    have hq : ∀ i, i < len0 → ∃ p : OpS, (-9223372036854775808 ≤ p.at_ ∧ p.at_ ≤ 9223372036854775807) ∧ p.S.length ≤ 1048576 ∧ ∃ ua uc, UsersAt w (.slice ua p.us.length uc) p.us ∧
        w.cell? ((a.add (i * 7)).add 0) = some (.int .i64 p.kind) ∧ w.cell? ((a.add (i * 7)).add 1) = some (.int .i64 p.at_) ∧ w.cell? ((a.add (i * 7)).add 2) = some (.int .i64 p.conn) ∧ w.cell? ((a.add (i * 7)).add 3) = some (.int .i64 p.nn) ∧ w.cell? ((a.add (i * 7)).add 4) = some (.bool p.ok) ∧ w.cell? ((a.add (i * 7)).add 5) = some (.string ⟨p.S.toArray⟩) ∧ w.cell? ((a.add (i * 7)).add 6) = some (.slice ua p.us.length uc) := by
      intro i hi
      obtain ⟨cs', g1, g2⟩ := hc i (by omega)
      rw [hce] at g1
      obtain ⟨_, hcl, hcc⟩ := World.cells?_some g1
      have hb := bulk_in (show D i ∈ (List.range len0).map D from List.mem_map.2 ⟨i, List.mem_range.2 hi, rfl⟩)
      obtain ⟨p, ua, uc, rfl, q1, q2, q3⟩ := op_open g2 hcl (by show Rows.uptoBulk (D i) ≤ _; omega)
      exact ⟨p, q1, q2, ua, uc, q3, by rw [hcc 0 (by decide)]; rfl, by rw [hcc 1 (by decide)]; rfl, by rw [hcc 2 (by decide)]; rfl, by rw [hcc 3 (by decide)]; rfl, by rw [hcc 4 (by decide)]; rfl, by rw [hcc 5 (by decide)]; rfl, by rw [hcc 6 (by decide)]; rfl⟩
    obtain ⟨l, hll, hls⟩ := list_of len0 hq
    subst hll
    refine ⟨l, some a, cap0, rfl, by omega, fun i p hi => ?_⟩
    obtain ⟨q1, q2, ua, uc, q3, c0, c1, c2, c3, c4, c5, c6⟩ := hls i p hi
    have hsp : a.spot = none := by
      have hi' := (List.getElem?_eq_some_iff.1 hi).1
      obtain ⟨p', _, _, _, _, _, hz, _⟩ := hq 0 (by omega)
      rw [Nat.zero_mul] at hz
      exact spot_none (show w.cell? a = some (.int _ _) from hz)
    rw [add_add hsp] at c0 c1 c2 c3 c4 c5 c6
    exact ⟨q1, q2, a.block, a.off, ua, uc, by rw [← addr_none hsp], q3, c0, c1, c2, c3, c4, c5, c6⟩
end Go.Proofs.YtdmaffciijmdcaaGreatDoor.Script
/-
  The laws' script: how it begins.
-/
namespace Go.Proofs.YtdmaffciijmdcaaGreatDoor
open Go.RowKit Plain

def LawUs (w : World) (ub : Nat) : Prop := w.cell? ⟨ub, 0, none⟩ = some (.string ⟨#[97, 110, 110]⟩) ∧ w.cell? ⟨ub, 1, none⟩ = some (.string ⟨#[115, 101, 99, 114, 101, 116]⟩)
theorem LawUs.users {w : World} {ub : Nat} (h : LawUs w ub) : UsersAt w (.slice (some ⟨ub, 0, none⟩) lawU.length 1) lawU := by
  refine ⟨_, _, rfl, by decide, fun i u hi => ?_⟩
  match i, hi with
  | 0, hi =>
    cases hi
    exact ⟨by decide, by decide, ub, 0, rfl, h.1, h.2⟩
  | i + 1, hi => simp [lawU] at hi
theorem LawUs.same {w w' : World} {ub : Nat} (h : LawUs w ub) (s : SameAt w w' ub) : LawUs w' ub := ⟨by rw [s.cell]; exact h.1, by rw [s.cell]; exact h.2⟩

theorem made0 {w W : World} {o : Lbl} {wb : Nat} {L : List GG} (h : Pl w W o wb L []) (hL : L.length ≤ 1) {G : GateS} (hG : newS lawB lawU 0 = .ok G) (ub : Nat) (hu : LawUs W ub) :
    Calls Tryz.prog 32 #[ptr wb, opV 0 0 0 0 false lawB (some ⟨ub, 0, none⟩) 1 1] W fun e w' => e = .returned (.bool true) ∧ Hid (GOk G ∧ ∃ o' gb rb, Pl w w' o' wb (L ++ [⟨gb, rb, G, G⟩]) []) ∧ Hid (∀ b, b < W.heap.size → o b = none → SameAt W w' b) := by
  refine (made_any h (by omega) 0 0 0 0 false lawB (by decide) (some ⟨ub, 0, none⟩) 1 lawU hu.users).mono ?_
  rintro e w' ⟨he, o', L', hp, hfr, ⟨_, _, hn, _⟩ | ⟨G', gb, rb, hn, hok, rfl⟩⟩
  · rw [hG] at hn; cases hn
  · rw [hG] at hn
    cases hn
    exact ⟨he, ⟨hok, o', gb, rb, hp⟩, hfr⟩

/-- Both gateways stand. -/
def Two (w : World) (wb : Nat) (G1 G2 : GateS) (k : Nat) (x : World) : Prop := ∃ o gb rb gb2 rb2, Pl w x o wb [⟨gb, rb, G1, G1⟩, ⟨gb2, rb2, G2, G2⟩] [] ∧ GoodG k G1 ∧ GoodG k G2
theorem Two.goods {k gb rb gb2 rb2 : Nat} {G1 G2 : GateS} (h1 : GoodG k G1) (h2 : GoodG k G2) : Goods k [⟨gb, rb, G1, G1⟩, ⟨gb2, rb2, G2, G2⟩] := fun y hy => by
  rcases List.mem_cons.1 hy with rfl | hy
  · exact ⟨rfl, h1⟩
  · rw [List.mem_singleton.1 hy]; exact ⟨rfl, h2⟩
theorem Two.acc0 {w x : World} {wb k : Nat} {G1 G2 : GateS} (h : Two w wb G1 G2 k x) (hk : k ≤ 10) (hG : G1.conns = []) : ∃ g0 k0 g1 k1 gb rb, x.cell? ⟨wb, 0, none⟩ = some (.slice (some ⟨g0, 0, none⟩) 2 k0) ∧ x.cell? ⟨wb, 1, none⟩ = some (.slice (some ⟨g1, 0, none⟩) 2 k1) ∧ x.cell? ⟨g0, 0, none⟩ = some (ptr gb) ∧ x.cell? ⟨g1, 0, none⟩ = some (ptr rb) ∧
    ∀ y, Q x y → Hid (Calls Tryz.prog 33 #[ptr wb, ptr gb, ptr rb, opV 2 0 0 0 false [] none 0 0] y fun e w' => e = .returned (.bool true) ∧ Hid (Two w wb G1.accept G2 (k + 1) w')) := by
  obtain ⟨o, gb, rb, gb2, rb2, hp, h1, h2⟩ := h
  obtain ⟨g0, k0, g1, k1, c0, c1, hc⟩ := hp.view (by simp)
  refine ⟨g0, k0, g1, k1, gb, rb, c0, c1, (hc 0 _ rfl).1, (hc 0 _ rfl).2, fun y q => ?_⟩
  refine (step2a (hp.stays q) (i := 0) rfl (Two.goods h1 h2) (by omega) (by simp) 0 0 0 false [] (by simp) none 0 0).mono ?_
  rintro e w' ⟨he, o', L', hp', hl, hg, hL⟩
  have e1 := hL (by show G1.conns.length < 8; rw [hG]; decide)
  subst e1
  have g1' := hg ⟨gb, rb, G1.accept, G1.accept⟩ (List.mem_cons_self)
  exact ⟨he, (show Two w wb G1.accept G2 (k + 1) w' from ⟨o', gb, rb, gb2, rb2, hp', g1'.2, h2.next⟩)⟩
theorem Two.acc1 {w x : World} {wb k : Nat} {G1 G2 : GateS} (h : Two w wb G1 G2 k x) (hk : k ≤ 10) (hG : G2.conns = []) : ∃ g0 k0 g1 k1 gb rb, x.cell? ⟨wb, 0, none⟩ = some (.slice (some ⟨g0, 0, none⟩) 2 k0) ∧ x.cell? ⟨wb, 1, none⟩ = some (.slice (some ⟨g1, 0, none⟩) 2 k1) ∧ x.cell? ⟨g0, 1, none⟩ = some (ptr gb) ∧ x.cell? ⟨g1, 1, none⟩ = some (ptr rb) ∧
    ∀ y, Q x y → Hid (Calls Tryz.prog 33 #[ptr wb, ptr gb, ptr rb, opV 2 0 0 0 false [] none 0 0] y fun e w' => e = .returned (.bool true) ∧ Hid (Two w wb G1 G2.accept (k + 1) w')) := by
  obtain ⟨o, gb, rb, gb2, rb2, hp, h1, h2⟩ := h
  obtain ⟨g0, k0, g1, k1, c0, c1, hc⟩ := hp.view (by simp)
  refine ⟨g0, k0, g1, k1, gb2, rb2, c0, c1, (hc 1 _ rfl).1, (hc 1 _ rfl).2, fun y q => ?_⟩
  refine (step2a (hp.stays q) (i := 1) rfl (Two.goods h1 h2) (by omega) (by simp) 0 0 0 false [] (by simp) none 0 0).mono ?_
  rintro e w' ⟨he, o', L', hp', hl, hg, hL⟩
  have e1 := hL (by show G2.conns.length < 8; rw [hG]; decide)
  subst e1
  have g1' := hg ⟨gb2, rb2, G2.accept, G2.accept⟩ (List.mem_cons_of_mem _ (List.mem_cons_self))
  exact ⟨he, (show Two w wb G1 G2.accept (k + 1) w' from ⟨o', gb, rb, gb2, rb2, hp', h1.next, g1'.2⟩)⟩

/-- The first client's head. -/
theorem Two.client {w x : World} {wb k : Nat} {G G2 : GateS} (h : Two w wb G.accept G2 k x) (hk : k ≤ 10) (hG : G.conns = [] ∧ G.last = 0) (hml : ML w) {ev : EvS} (hev : (clientAt G.accept 0 newConn lawH).2 = [ev]) (hkd : ev.kind = 1) : ∃ g0 k0 gb, x.cell? ⟨wb, 0, none⟩ = some (.slice (some ⟨g0, 0, none⟩) 2 k0) ∧ x.cell? ⟨g0, 0, none⟩ = some (ptr gb) ∧
    Hid (Calls Tryz.prog 22 #[ptr gb, .int .i64 1, .string ⟨lawH.toArray⟩] x fun e x1 => ∃ g c g1 k1 rb, e = .returned (.tuple #[.slice (some ⟨g, 0, none⟩) 1 c, .int .i64 0]) ∧ x1.cell? ⟨wb, 1, none⟩ = some (.slice (some ⟨g1, 0, none⟩) 2 k1) ∧ x1.cell? ⟨g1, 0, none⟩ = some (ptr rb) ∧
      Hid (Calls Tryz.prog 34 #[ptr rb, .int .i64 1, .string ⟨lawH.toArray⟩] x1 fun e x2 => ∃ bo bn bc, e = .returned (.tuple #[.slice bo bn bc, .int .i64 0]) ∧
        Hid (Calls Tryz.prog 35 #[.slice (some ⟨g, 0, none⟩) 1 c, .slice bo bn bc] x2 fun e x3 => e = .returned (.bool true) ∧ x3.cell? ⟨g, 0, none⟩ = some (.int .i64 1) ∧ Hid (PInv w wb (k + 1) x3)))) := by
  obtain ⟨o, gb, rb, gb2, rb2, hp, h1, h2⟩ := h
  obtain ⟨g0, k0, g1, k1, c0, c1, hc⟩ := hp.view (by simp)
  have hlen : lawH.length ≤ 200 := by decide
  have hwt : ∀ c ∈ G.accept.conns, c.wait.length + lawH.length ≤ 4398046511104 := fun c hc => by have := h1.wt c hc; omega
  have hcn : G.accept.conns = [newConn] := by
    unfold GateS.accept newConn
    rw [hG.1, hG.2]
    rfl
  have hsz : (⟨lawH.toArray⟩ : ByteArray).size = lawH.length := mk_size lawH
  have hL : Goods k [⟨gb, rb, G.accept, G.accept⟩, ⟨gb2, rb2, G2, G2⟩] := Two.goods h1 h2
  refine ⟨g0, k0, gb, c0, (hc 0 _ rfl).1, ?_⟩
  refine (first_call hp (i := 0) (x := ⟨gb, rb, G.accept, G.accept⟩) rfl (clientC_any (hp.gw 0 ⟨gb, rb, G.accept, G.accept⟩ rfl) h1.ok 1 ⟨lawH.toArray⟩ (fun c hc => by rw [hsz]; exact hwt c hc) (hml.stays hp.q) (ml_lowP hml))).mono ?_
  rintro e x1 ⟨ao, an, ac, en, l, o1, G1, rfl, hh, _⟩
  obtain ⟨hp1, hf1, hout⟩ := hh.out
  have hout' : Outcome G.accept 1 (fun c => c.noMore = false) (fun q c => clientAt G.accept q c lawH) G1 l en := hout
  have ho2 := hout'
  have hl : l = [ev] ∧ en = 0 ∧ GoodG (k + 1) G1 := by
    rcases hout' with ⟨q, c, h3, h4, h5, h6, h7⟩ | ⟨h3, _⟩
    · rw [hcn] at h3
      have hq : q = 0 := by
        have := (List.getElem?_eq_some_iff.1 h3).1
        simpa using this
      subst hq
      cases h3
      have h6' : clientAt G.accept 0 newConn lawH = (G1, l) := h6
      have hq0 : G.accept.conns[0]? = some newConn := by rw [hcn]; rfl
      refine ⟨by rw [← hev, h6'], h7, ?_⟩
      have e1 : G1 = (clientAt G.accept 0 newConn lawH).1 := by rw [h6']
      rw [e1]
      exact ⟨clientAt_ok h1.ok hq0 lawH, h1.inn.client hq0 lawH, (h1.wt.client hq0 lawH).mono (by omega), by rw [(clientAt_last G.accept 0 newConn lawH).2.2.2]; have := h1.last; omega⟩
    · exact absurd rfl (h3 newConn (by rw [hcn]; simp) rfl)
  obtain ⟨rfl, rfl, hgg⟩ := hl
  have hrow := hf1.1
  rcases hrow.2 with ⟨_, hbad⟩ | ⟨g, cap, cur, hv, _⟩
  · cases hbad
  injection hv with hv1 hv2 hv3
  subst hv1
  have hv2' : an = 1 := hv2
  subst hv2'
  obtain ⟨g0', k0', g1', k1', _, c1', hc'⟩ := hp1.view (by simp)
  refine ⟨g, ac, g1', k1', rb, rfl, c1', (hc' 0 _ rfl).2, ?_⟩
  refine (rclient_any (hp1.rg 0 _ rfl) (by exact h1.ok) 1 lawH hwt).mono ?_
  intro e x2 hp2
  obtain ⟨bv, em, m, o2, G2', rfl, q1, q2, q3, q4⟩ := hp1.rcalled (i := 0) rfl hp2
  have hf2 := q4 _ _ hf1
  obtain ⟨rfl, rfl, rfl⟩ := ho2.one h1.ok q3
  have hcell : x2.cell? ⟨g, 0, none⟩ = some (.int .i64 1) := by
    have := owned_at hf2.1 0 (.int .i64 ev.kind) rfl
    rw [hkd] at this
    exact this
  have hs := same_any (.slice (some ⟨g, 0, none⟩) 1 ac) bv [ev] x2 (EvAt.own hf2.1) q2 (by simp)
  have hpi : PInv w wb (k + 1) x2 := ⟨o2, _, [], q1, (fun y hy => by
    rcases List.mem_cons.1 hy with rfl | hy
    · exact ⟨rfl, hgg⟩
    · rw [List.mem_singleton.1 hy]; exact ⟨rfl, h2.next⟩), by simp, by simp, by simp⟩
  obtain ⟨bo, bc, rfl, _⟩ := q2
  refine ⟨bo, _, bc, rfl, hs.mono ?_⟩
  rintro e x3 ⟨he, q⟩
  exact ⟨he, q.cell hcell, hpi.stays q⟩
end Go.Proofs.YtdmaffciijmdcaaGreatDoor

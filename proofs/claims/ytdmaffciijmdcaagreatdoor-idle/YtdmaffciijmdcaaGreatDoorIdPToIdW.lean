/-
  Plain: eight clients, of which one speaks: what the statement 'Idle' does with them.
-/
import Derived.Test.YtdmaffciijmdcaaGreatDoorGateLToHold3
import Derived.Test.YtdmaffciijmdcaaGreatDoorAp0ToAp1
import Derived.Test.YtdmaffciijmdcaaGreatDoorGuardWC
namespace Go.Proofs.YtdmaffciijmdcaaGreatDoor
namespace Plain
def l1 : List RawR := [⟨0, 3, 19, 0, 0, 0, 0, 0⟩]
def starB : List UInt8 := [97, 108, 108, 111, 119, 32, 42, 32, 42, 32, 42, 32, 42, 10]
set_option maxRecDepth 100000 in
theorem l1_text : rulesT l1 = starB := by decide
theorem l1_new (n : Int) (m : Nat) (hm : m < 10080) : newS starB (usersT n) (m : Int) = .ok (gateT l1 n m) := by
  have := new_made l1 n m hm
  rw [l1_text] at this
  exact this
def nil8 (b : Nat) (x s : Int) (wt : List UInt8) : List ConnS := [1, 2, 3, 4, 5, 6, 7, 8].map fun j => if j = b then ⟨b, s, 0, wt, false, false⟩ else ⟨j, x, 0, [], false, false⟩
/-- Eight clients: all have been silent for x minutes, but the b-th for s minutes alone. -/
def idG (m0 : Int) (b : Nat) (x s : Int) (wt : List UInt8) : GateS := { gateT l1 0 5 with minute := m0, last := 8, conns := nil8 b x s wt }
def accK (k : Nat) : GateS := { gateT l1 0 5 with last := k, conns := (List.range k).map fun j => ⟨j + 1, 0, 0, [], false, false⟩ }
theorem accK_next (k : Nat) : (accK k).accept = accK (k + 1) := by
  unfold accK GateS.accept
  simp [List.range_succ]
theorem accK_zero : accK 0 = gateT l1 0 5 := rfl
theorem eight {b : Nat} (h1 : 1 ≤ b) (h8 : b ≤ 8) : b = 1 ∨ b = 2 ∨ b = 3 ∨ b = 4 ∨ b = 5 ∨ b = 6 ∨ b = 7 ∨ b = 8 := by omega
theorem accK_full {b : Nat} (h1 : 1 ≤ b) (h8 : b ≤ 8) : accK 8 = idG 5 b 0 0 [] := by
  rcases eight h1 h8 with rfl | rfl | rfl | rfl | rfl | rfl | rfl | rfl <;> rfl
theorem accK_ok (k : Nat) (hk : k ≤ 8) : GOk (accK k) := by
  refine ⟨by simpa [accK] using hk, by simp [accK, gateT, tensT, usersT], nodup_nums ?_, fun c hc => ?_, by simp [accK]; omega⟩
  · have : (accK k).conns.map (·.num) = (List.range k).map (· + 1) := by simp [accK]
    rw [this]
    exact List.Pairwise.map _ (fun a b h e => h (by omega)) (List.nodup_range)
  · simp only [accK, List.mem_map, List.mem_range] at hc
    obtain ⟨j, hj, rfl⟩ := hc
    show j + 1 ≤ k
    omega
theorem nil8_nums {b : Nat} (h1 : 1 ≤ b) (h8 : b ≤ 8) (x s : Int) (wt : List UInt8) : (nil8 b x s wt).map (·.num) = [1, 2, 3, 4, 5, 6, 7, 8] := by
  rcases eight h1 h8 with rfl | rfl | rfl | rfl | rfl | rfl | rfl | rfl <;> rfl
theorem idG_ok {b : Nat} (h1 : 1 ≤ b) (h8 : b ≤ 8) (m0 x s : Int) (wt : List UInt8) : GOk (idG m0 b x s wt) := by
  refine ⟨by simp [idG, nil8], by simp [idG, gateT, tensT, usersT], nodup_nums ?_, fun c hc => ?_, by simp [idG]⟩
  · show ((nil8 b x s wt).map _).Nodup
    rw [nil8_nums h1 h8]
    decide
  · have hm : c.num ∈ (nil8 b x s wt).map (·.num) := List.mem_map.2 ⟨c, hc, rfl⟩
    rw [nil8_nums h1 h8] at hm
    show c.num ≤ 8
    simp only [List.mem_cons, List.not_mem_nil, or_false] at hm
    omega
theorem nil8_mem {b : Nat} {x s : Int} {wt : List UInt8} {c : ConnS} (hc : c ∈ nil8 b x s wt) : (c.silent = x ∧ c.wait = [] ∨ c.silent = s ∧ c.wait = wt) ∧ c.stage = 0 ∧ c.noMore = false ∧ c.hostEnd = false := by
  unfold nil8 at hc
  obtain ⟨j, _, rfl⟩ := List.mem_map.1 hc
  split <;> simp
theorem idG_in {m0 : Int} {b : Nat} {x s : Int} {wt : List UInt8} (hx : 0 ≤ x ∧ x < 10) (hs : 0 ≤ s ∧ s < 10) : GIn (idG m0 b x s wt) := fun c hc => by
  obtain ⟨h1, h2, h3, h4⟩ := nil8_mem hc
  refine ⟨?_, ?_, by omega, fun _ => ⟨h3, h4⟩⟩ <;> rcases h1 with ⟨h1, _⟩ | ⟨h1, _⟩ <;> omega
theorem id_get {m0 : Int} {b : Nat} {x s : Int} {wt : List UInt8} (h1 : 1 ≤ b) (h8 : b ≤ 8) : (idG m0 b x s wt).conns[b - 1]? = some ⟨b, s, 0, wt, false, false⟩ := by
  rcases eight h1 h8 with rfl | rfl | rfl | rfl | rfl | rfl | rfl | rfl <;> rfl
set_option maxRecDepth 100000 in
theorem cut_C : ∀ k, k ≤ 12 → cutHead (List.replicate k 67) = none := by decide
theorem id_client {m0 : Int} {b : Nat} {x s : Int} {k : Nat} (h1 : 1 ≤ b) (h8 : b ≤ 8) (hk : k ≤ 11) {i : Nat} {c : ConnS} (hi : (idG m0 b x s (List.replicate k 67)).conns[i]? = some c) (hn : c.num = b) :
    clientAt (idG m0 b x s (List.replicate k 67)) i c [67] = (idG m0 b x 0 (List.replicate (k + 1) 67), []) := by
  have hg := id_get (m0 := m0) (x := x) (s := s) (wt := List.replicate k 67) h1 h8
  have hii := (idG_ok h1 h8 m0 x s (List.replicate k 67)).nums i (b - 1) c _ hi hg hn
  subst hii
  rw [hg] at hi
  cases hi
  have hw : List.replicate k (67 : UInt8) ++ [67] = List.replicate (k + 1) 67 := by rw [List.replicate_succ']
  unfold clientAt
  simp only [hw, cut_C (k + 1) (by omega)]
  rcases eight h1 h8 with rfl | rfl | rfl | rfl | rfl | rfl | rfl | rfl <;> rfl
def L7 (b : Nat) : List EvS := (List.range 7).map fun j => ⟨4, ((if j + 1 < b then j + 1 else j + 2 : Nat) : Int), [], 0⟩
theorem L7_len (b : Nat) : (L7 b).length = 7 := by simp [L7]
theorem L7_get (b j : Nat) (hj : j < 7) : (L7 b)[j]? = some ⟨4, ((if j + 1 < b then j + 1 else j + 2 : Nat) : Int), [], 0⟩ := by
  unfold L7
  rw [List.getElem?_map, List.getElem?_range hj]
  rfl
theorem id_tick {m0 : Int} {b : Nat} {x m : Int} {wt : List UInt8} (h1 : 1 ≤ b) (h8 : b ≤ 8) (hm : m < 10) (h10 : x + m < 10) : ∃ m1, tickS (idG m0 b x 0 wt) m = (idG m1 b (x + m) m wt, []) ∧ (0 ≤ m0 ∧ m0 < 10080 ∧ 0 ≤ m ∧ m < 10080 → 0 ≤ m1 ∧ m1 < 10080) := by
  refine ⟨if 10080 ≤ m0 + m then m0 + m - 10080 else m0 + m, ?_, fun h => by split <;> omega⟩
  rcases eight h1 h8 with rfl | rfl | rfl | rfl | rfl | rfl | rfl | rfl <;> simp [tickS, idG, nil8, h10, hm]
theorem id_over {m0 : Int} {b : Nat} {x m : Int} {wt : List UInt8} (h1 : 1 ≤ b) (h8 : b ≤ 8) (hm : m < 10) (h10 : ¬ x + m < 10) : (tickS (idG m0 b x 0 wt) m).2 = L7 b ∧ (tickS (idG m0 b x 0 wt) m).1.conns = [⟨b, m, 0, wt, false, false⟩] ∧ (tickS (idG m0 b x 0 wt) m).1.last = 8 ∧ (tickS (idG m0 b x 0 wt) m).1.tens = (gateT l1 0 5).tens := by
  refine ⟨?_, ?_, rfl, rfl⟩
  · rcases eight h1 h8 with rfl | rfl | rfl | rfl | rfl | rfl | rfl | rfl <;> simp [tickS, idG, nil8, h10, hm, overEvs, L7, List.range_succ]
  · rcases eight h1 h8 with rfl | rfl | rfl | rfl | rfl | rfl | rfl | rfl <;> simp [tickS, idG, nil8, h10, hm]
end Plain
open Go.RowKit Plain
theorem ev_get : ∀ (l : List EvS) (j : Nat) (e : EvS) (i : Nat), l[j]? = some e → i < 4 → (evVals l)[j * 4 + i]? = (evOf e)[i]?
  | [], j, e, i, h, _ => by simp at h
  | d :: l, 0, e, i, h, hi => by
    cases h
    show (evOf d ++ evVals l)[0 * 4 + i]? = _
    rw [List.getElem?_append_left (by show _ < 4; omega)]
    simp
  | d :: l, j + 1, e, i, h, hi => by
    show (evOf d ++ evVals l)[(j + 1) * 4 + i]? = _
    rw [List.getElem?_append_right (by show 4 ≤ _; omega)]
    rw [show (j + 1) * 4 + i - (evOf d).length = j * 4 + i by show _ - 4 = _; omega]
    exact ev_get l j e i (by simpa using h) hi
/-- One in the midst of the statement 'Idle'. -/
def IdInv (w : World) (gb b k : Nat) (x : Int) (s : Int) (wr : World) : Prop :=
  ∃ (o : Ow) (gws : Gws) (rows : Rws) (m0 : Int), Hold w wr o gws rows ∧ gws 0 = some (gb, idG m0 b x s (List.replicate k 67)) ∧ (0 ≤ m0 ∧ m0 < 10080)
theorem IdInv.q {w : World} {gb b k : Nat} {x s : Int} {wr : World} (h : IdInv w gb b k x s wr) : Q w wr := by
  obtain ⟨o, gws, rows, m0, hh, _⟩ := h
  exact hh.q
theorem idle_client {w : World} {gb b k : Nat} {x s : Int} {wr : World} (h : IdInv w gb b k x s wr) (hm : ML w) (h1 : 1 ≤ b) (h8 : b ≤ 8) (hk : k ≤ 11) :
    Calls Tryz.prog 22 #[ptr gb, .int .i64 (b : Int), .string ⟨#[67]⟩] wr fun e w' => ∃ va vc, e = .returned (.tuple #[.slice va 0 vc, .int .i64 0]) ∧ IdInv w gb b (k + 1) x 0 w' := by
  obtain ⟨o, gws, rows, m0, hh, hg, hmm⟩ := h
  refine (hh.clientC hg (idG_ok h1 h8 _ _ _ _) (b : Int) ⟨#[67]⟩ (fun c hc => ?_) hm 0).mono ?_
  · obtain ⟨h2, _⟩ := nil8_mem hc
    have hz : (⟨#[67]⟩ : ByteArray).size = 1 := rfl
    rw [hz]
    rcases h2 with ⟨_, h2⟩ | ⟨_, h2⟩ <;> rw [h2] <;> simp <;> omega
  · rintro e w' (⟨i, c, v, o', hi, hn, _, rfl, hh'⟩ | ⟨hno, _⟩)
    · have hc := id_client h1 h8 hk hi (by omega)
      change Hold w w' o' (put gws 0 (gb, (clientAt (idG m0 b x s (List.replicate k 67)) i c [67]).1)) (put rows 0 (v, (clientAt (idG m0 b x s (List.replicate k 67)) i c [67]).2)) at hh'
      rw [hc] at hh'
      obtain ⟨va, vc, hv⟩ := hh'.form (put_at _ _ _)
      refine ⟨va, vc, by rw [hv]; rfl, o', _, _, m0, hh', put_at _ _ _, hmm⟩
    · exact absurd rfl (hno _ (List.mem_of_getElem? (id_get h1 h8)) rfl)
/-- What Tick does there. -/
theorem idle_tick {w : World} {gb b k : Nat} {x m : Int} {wr : World} (h : IdInv w gb b k x 0 wr) (h1 : 1 ≤ b) (h8 : b ≤ 8) (hx : 0 ≤ x ∧ x < 10) (hm : 1 ≤ m ∧ m < 10) :
    Calls Tryz.prog 31 #[ptr gb, .int .i64 m] wr fun e w' => ∃ va n vc, e = .returned (.tuple #[.slice va n vc, .int .i64 0]) ∧
      ((x + m < 10 ∧ n = 0 ∧ IdInv w gb b k (x + m) m w') ∨ (¬ x + m < 10 ∧ n = 7 ∧ w'.ownsRow w.heap.size 48 4 (.slice va 7 vc) 7 (evVals (L7 b)) ∧ Q w w' ∧ ∃ r G, GwRep r w.heap.size w' gb G ∧ GOk G ∧ G.conns.length = 1 ∧ G.last = 8)) := by
  obtain ⟨o, gws, rows, m0, hh, hg, hmm⟩ := h
  refine (hh.tick hg (idG_ok h1 h8 _ _ _ _) (idG_in hx (by omega)) hmm m (by omega) 0).mono ?_
  rintro e w' ⟨v, o', rfl, hh'⟩
  by_cases h10 : x + m < 10
  · obtain ⟨m1, ht, hr⟩ := id_tick (m0 := m0) (wt := List.replicate k 67) h1 h8 hm.2 h10
    rw [ht] at hh'
    obtain ⟨va, vc, hv⟩ := hh'.form (put_at _ _ _)
    exact ⟨va, 0, vc, by rw [hv]; rfl, .inl ⟨h10, rfl, o', _, _, m1, hh', put_at _ _ _, hr (by omega)⟩⟩
  · obtain ⟨e1, e2, e3, e4⟩ := id_over (m0 := m0) (wt := List.replicate k 67) h1 h8 hm.2 h10
    rw [e1] at hh'
    obtain ⟨va, vc, hv⟩ := hh'.form (put_at _ _ _)
    rw [L7_len] at hv
    have hrow := (hh'.row 0 _ (put_at _ _ _)).1
    rw [hv, L7_len] at hrow
    refine ⟨va, 7, vc, by rw [hv], .inr ⟨h10, rfl, hrow, hh'.q, _, _, hh'.gw 0 _ (put_at _ _ _), ?_, ?_, ?_⟩⟩
    · exact (idG_ok h1 h8 m0 x 0 _).tick m
    · show (tickS (idG m0 b x 0 (List.replicate k 67)) m).1.conns.length = 1
      rw [e2]; rfl
    · exact e3
end Go.Proofs.YtdmaffciijmdcaaGreatDoor
/-
  The law 'Idle', walked.
-/
namespace Go.Proofs.YtdmaffciijmdcaaGreatDoor
open Go.RowKit Plain

set_option maxRecDepth 100000 in
set_option maxHeartbeats 3200000 in
theorem idle_any (v : Value) (ms : List Int) (busy : Int) (w : World) (hv : IntsAt w v ms) (hb : I64 busy) (hm : ML w) :
    Calls Tryz.prog 8 #[v, .int .i64 busy] w fun e w' => e = .returned (.bool true) ∧ Q w w' := by
  have HV : Hid (IntsAt w v ms) := hv
  obtain ⟨ma, mc, rfl, _⟩ := hv
  have HM : Hid (ML w) := hm
  have HB : Hid (I64 busy) := hb
  have HUs : ∀ x, Hid (Calls Tryz.prog 15 #[.int .i64 0] x fun e w' => ∃ g, e = .returned (.slice (some ⟨g, 0, none⟩) 3 3) ∧ Q x w' ∧ Hid (UsAt 0 g w')) := fun x => (users_any 0 x (by unfold I64; omega)).mono (by
    rintro e w' ⟨g, rfl, h1, _, h2, h3⟩
    exact ⟨g, rfl, h1, h2, h3⟩)
  have HNw : ∀ (g : Nat) (x : World), UsAt 0 g x → Q w x → Hid (Calls Tryz.prog 13 #[.string ⟨#[97, 108, 108, 111, 119, 32, 42, 32, 42, 32, 42, 32, 42, 10]⟩, .slice (some ⟨g, 0, none⟩) 3 3, .int .i64 5] x fun e w' => ∃ gb, e = .returned (.tuple #[ptr gb, .int .i64 0, .int .i64 0]) ∧ Q x w' ∧ Hid (∃ o gws rows, Hold w w' o gws rows ∧ gws 0 = some (gb, accK 0))) := fun g x hu hx => by
    refine ((Hold.start hx).new (i := 0) rfl ⟨starB.toArray⟩ (usersT 0) _ _ (by rw [mk_size]; decide) hu.pairs (by simp [usersT])).mono ?_
    rintro e w' (⟨en, ln, h1, _⟩ | ⟨G, gb, o', h1, rfl, hh, _, hq⟩)
    · have := l1_new 0 5 (by decide)
      rw [show (⟨starB.toArray⟩ : ByteArray).data.toList = starB from rfl] at h1
      rw [show ((5 : Nat) : Int) = 5 from rfl, h1] at this
      cases this
    · have := l1_new 0 5 (by decide)
      rw [show (⟨starB.toArray⟩ : ByteArray).data.toList = starB from rfl] at h1
      rw [show ((5 : Nat) : Int) = 5 from rfl, h1] at this
      cases this
      exact ⟨gb, rfl, hq, o', _, _, hh, put_at _ _ _⟩
  obtain ⟨mn, hmn⟩ : ∃ k, k = ms.length := ⟨_, rfl⟩
  rw [← hmn] at HV ⊢
  have HMn := show Hid _ from hmn
  clear hmn hm hb
  go_enter Tryz.func8, Tryz.ntmps8
  go_wp2_with fail
  refine Calls.mono (Hid.out (HUs _)) ?_
  rintro e w1 ⟨ug, rfl, hq1, hus⟩
  have HN1 := HNw ug w1 hus.out hq1
  clear HUs HNw
  go_wp2_with fail
  refine Calls.mono (Hid.out HN1) ?_
  rintro e w2 ⟨gb, rfl, _, hh0⟩
  clear HN1 hq1 hus
  go_wp2_with fail
  go_loopw [8, 9, 10] (fun i _ _ wr => ∃ k : Nat, k ≤ 8 ∧ i = .int .i64 ((k : Int) + 1) ∧ Hid (∃ o gws rows, Hold w wr o gws rows ∧ gws 0 = some (gb, accK k))) (fun i _ _ _ => 9 - (intOf i).toNat)
  case atStart => exact ⟨0, by omega, rfl, hh0⟩
  case round =>
    obtain ⟨k, hk, rfl, hh⟩ := hrel
    obtain ⟨o, gws, rows, hhk, hg⟩ := hh.out
    have HA := show Hid _ from hhk.accept hg (accK_ok k hk)
    have HH := show Hid _ from hhk
    have HG := show Hid _ from hg
    clear hhk hg hh0
    by_cases hlt : k < 8
    · have d8 : decide ((k : Int) + 1 ≤ 8) = true := decide_eq_true (by omega)
      go_wp2_with fail
      refine Calls.mono (Hid.out HA) ?_
      rintro e w3 (⟨h8, _, _⟩ | ⟨_, ⟨o', ho'⟩, rfl⟩)
      · exfalso
        simp [accK] at h8
        omega
      have hl : ((accK k).last : Int) = (k : Int) := rfl
      rw [hl]
      rw [accK_next] at ho'
      have HO' : Hid (∃ o gws rows, Hold w w3 o gws rows ∧ gws 0 = some (gb, accK (k + 1))) := ⟨o', _, _, ho', put_at _ _ _⟩
      have b1 : ((k : Int) + 1 != (k : Int) + 1) = false := by simp
      clear ho' HA hl
      go_wp2_with fail
      exact ⟨⟨k + 1, by omega, by go_num, HO'⟩, by simp [intOf]; omega⟩
    have d8 : decide ((k : Int) + 1 ≤ 8) = false := decide_eq_false (by omega)
    obtain rfl : k = 8 := by omega
    have P8 : ∀ x, Hid (Calls Tryz.prog 12 #[.int .i64 busy, .int .i64 8] x fun e w' => e = .returned (.int .i64 ((pickN busy 8 : Nat) : Int)) ∧ w' = x) := fun x => pick_any busy 8 x HB.out (by decide) (by decide)
    have hp8 := pickN_lt busy (n := 8) (by decide)
    obtain ⟨wp, hwp⟩ : ∃ wp, wp = wr := ⟨_, rfl⟩
    subst hwp
    go_wp2_with fail
    refine Calls.mono (Hid.out HA) ?_
    rintro e w3 (⟨_, hw3, rfl⟩ | ⟨h8, _, _⟩)
    rotate_left
    · exact absurd rfl h8
    rw [hw3]
    clear hw3 HA hh w3
    go_wp2_with fail
    refine Calls.mono (Hid.out (P8 _)) ?_
    rintro e w3 ⟨rfl, hw3⟩
    rw [hw3]
    clear hw3 w3 P8
    obtain ⟨b, hb⟩ : ∃ b : Nat, b = pickN busy 8 + 1 := ⟨_, rfl⟩
    have hbi : 1 + ((pickN busy 8 : Nat) : Int) = (b : Int) := by omega
    have hb1 : 1 ≤ b := by omega
    have hb8 : b ≤ 8 := by omega
    have HI0 : Hid (IdInv w gb b 0 0 0 wp) := by
      have h0 := HG.out
      rw [accK_full hb1 hb8] at h0
      exact ⟨o, gws, rows, 5, HH.out, h0, by omega⟩
    clear HH HG hb
    go_wp2_with fail
    go_loopw [13, 12, 14, 15, 16, 17, 18, 19] (fun i d _ _ _ _ _ _ wr => ∃ (k : Nat) (x s : Int), i = .int .i64 (k : Int) ∧ d = .int .i64 x ∧ (k : Int) ≤ x ∧ x < 10 ∧ k ≤ mn ∧ Hid ((0 ≤ s ∧ s < 10) ∧ IdInv w gb b k x s wr)) (fun i _ _ _ _ _ _ _ _ => mn - (intOf i).toNat)
    case atStart => exact ⟨0, 0, 0, rfl, rfl, by omega, by omega, by omega, by omega, HI0.out⟩
    case round =>
      obtain ⟨k, x, s, rfl, rfl, hkx, hx10, hkm, hinv⟩ := hrel
      clear HI0
      by_cases hlt : k < mn
      · have dl : decide ((k : Int) < (mn : Int)) = true := decide_eq_true (by omega)
        obtain ⟨c, hc⟩ : ∃ c, ms[k]? = some c := ⟨_, List.getElem?_eq_getElem (by rw [← HMn.out]; exact hlt)⟩
        obtain ⟨ma', mc', hv', hcs⟩ := HV.out
        obtain ⟨hc64, cb, coff, hma, hcell⟩ := hcs k c hc
        obtain rfl : ma = some ⟨cb, coff, none⟩ := by
          injection hv' with e1 _ _
          rw [e1]; exact hma
        have hcell' : wr.cell? ⟨cb, coff + k, none⟩ = some (.int .i64 c) := hinv.out.2.q.cell hcell
        have P9 : ∀ x, Hid (Calls Tryz.prog 12 #[.int .i64 c, .int .i64 9] x fun e w' => e = .returned (.int .i64 ((pickN c 9 : Nat) : Int)) ∧ w' = x) := fun x => pick_any c 9 x hc64 (by decide) (by decide)
        have hp9 := pickN_lt c (n := 9) (by decide)
        have HC := show Hid _ from idle_client hinv.out.2 HM.out hb1 hb8 (by omega)
        clear hcs hv' hma hcell hc hc64
        go_wp2_with fail
        refine Calls.mono (Hid.out (P9 _)) ?_
        rintro e w3 ⟨rfl, hw3⟩
        rw [hw3]
        clear hw3 w3 P9 hcell'
        obtain ⟨m, hm⟩ : ∃ m : Int, m = 1 + ((pickN c 9 : Nat) : Int) := ⟨_, rfl⟩
        have hm1 : 1 ≤ m ∧ m < 10 := by omega
        generalize pickN c 9 = pn at *
        go_wp2_with fail
        refine Calls.mono (Hid.out HC) ?_
        rintro e w4 ⟨va, vc, rfl, hi4⟩
        have HT := show Hid _ from idle_tick hi4 hb1 hb8 ⟨by omega, hx10⟩ hm1
        rw [hm] at HT
        clear HC hi4
        go_wp2_with fail
        refine Calls.mono (Hid.out HT) ?_
        rintro e w5 ⟨la, ln, lc, rfl, ⟨h10, rfl, hi5⟩ | ⟨h10, rfl, hrow, hq5, r5, G5, hrep5, hok5, hcl5, hla5⟩⟩
        · have d900 : decide ((k : Int) < 900) = true := decide_eq_true (by omega)
          have e900 : decide ((900 : Int) ≤ (k : Int)) = false := decide_eq_false (by omega)
          have d10 : decide (x + (1 + (pn : Int)) < 10) = true := decide_eq_true h10
          have HI5 := show Hid _ from hi5
          clear HT hi5
          go_wp2_with fail
          refine ⟨⟨k + 1, x + (1 + (pn : Int)), 1 + (pn : Int), by go_num, rfl, by omega, by omega, by omega, by omega, HI5.out⟩, by simp [intOf]; omega⟩
        · have d900 : decide ((k : Int) < 900) = true := decide_eq_true (by omega)
          have e900 : decide ((900 : Int) ≤ (k : Int)) = false := decide_eq_false (by omega)
          have d10 : decide (x + (1 + (pn : Int)) < 10) = false := decide_eq_false (by omega)
          have dx : decide ((10 : Int) ≤ x) = false := decide_eq_false (by omega)
          obtain ⟨lg, lcap, hlv, hlc⟩ := ev_cells (l := L7 b) (by rw [L7_len]; exact hrow) (by rw [L7_len]; omega)
          rw [L7_len] at hlv
          injection hlv with e1 _ e3
          subst e1
          subst e3
          have HLc := show Hid _ from hlc
          have HA5 := show Hid _ from accept_any hrep5 hok5
          have HQ5 : Hid (Q w w5) := hq5
          have HR5 := show Hid _ from hrep5.low
          have H5 : Hid (G5.conns.length = 1 ∧ G5.last = 8) := ⟨hcl5, hla5⟩
          clear HT hrow hlc hrep5 hok5 hcl5 hla5 hq5 h10
          obtain ⟨wq, hwq⟩ : ∃ wq, wq = wr := ⟨_, rfl⟩
          subst hwq
          go_wp2_with fail
          go_loopw [21, 20] (fun c kk wx => ∃ j : Nat, 1 ≤ j ∧ j ≤ 9 ∧ c = .int .i64 (j : Int) ∧ kk = .int .i64 ((if j ≤ b then j - 1 else j - 2 : Nat) : Int) ∧ wx = w5) (fun c _ _ => 9 - (intOf c).toNat)
          case atStart => exact ⟨1, by omega, by omega, rfl, by rw [if_pos hb1]; rfl, rfl⟩
          case round =>
            obtain ⟨j, hj1, hj9, rfl, rfl, hwx⟩ := hrel
            rw [hwx]
            clear hwx
            by_cases hj : j ≤ 8
            · have dj : decide ((j : Int) ≤ 8) = true := decide_eq_true (by omega)
              by_cases hjb : j = b
              · have db : ((j : Int) == (b : Int)) = true := by rw [hjb]; simp
                have HK : Hid ((if j ≤ b then j - 1 else j - 2 : Nat) = (if j + 1 ≤ b then j + 1 - 1 else j + 1 - 2 : Nat)) := by
                  show _ = _
                  rw [if_pos (by omega), if_neg (by omega)]; omega
                generalize (if j ≤ b then j - 1 else j - 2 : Nat) = kk at *
                clear hjb
                go_wp2_with fail
                exact ⟨⟨j + 1, by omega, by omega, by go_num, by rw [← HK.out], trivial⟩, by simp [intOf]; omega⟩
              · have db : ((j : Int) == (b : Int)) = false := by rw [beq_eq_false_iff_ne]; omega
                obtain ⟨kk, hkk⟩ : ∃ kk : Nat, kk = if j ≤ b then j - 1 else j - 2 := ⟨_, rfl⟩
                have HK : Hid (kk + 1 = (if j + 1 ≤ b then j + 1 - 1 else j + 1 - 2 : Nat)) := by
                  show _ = _
                  rw [hkk]
                  split <;> split <;> omega
                have hk7 : kk < 7 := by rw [hkk]; split <;> omega
                have hge : decide ((7 : Int) ≤ (kk : Int)) = false := decide_eq_false (by omega)
                have hL := L7_get b kk hk7
                rw [show (if kk + 1 < b then kk + 1 else kk + 2 : Nat) = j by rw [hkk]; split <;> split <;> omega] at hL
                have c0 : w5.cell? ⟨lg, kk * 4, none⟩ = some (.int .i64 4) := HLc.out _ _ ((ev_get _ _ _ 0 hL (by decide)).trans rfl)
                have c1 : w5.cell? ⟨lg, kk * 4 + 1, none⟩ = some (.int .i64 (j : Int)) := HLc.out _ _ ((ev_get _ _ _ 1 hL (by decide)).trans rfl)
                have c2 : w5.cell? ⟨lg, kk * 4 + 2, none⟩ = some (.string ⟨#[]⟩) := HLc.out _ _ ((ev_get _ _ _ 2 hL (by decide)).trans rfl)
                have c3 : w5.cell? ⟨lg, kk * 4 + 3, none⟩ = some (.int .i64 0) := HLc.out _ _ ((ev_get _ _ _ 3 hL (by decide)).trans rfl)
                rw [← hkk]
                clear hjb hkk hL
                go_wp2_with fail
                exact ⟨⟨j + 1, by omega, by omega, by go_num, by rw [← HK.out]; go_num, trivial⟩, by simp [intOf]; omega⟩
            · have dj : decide ((j : Int) ≤ 8) = false := decide_eq_false (by omega)
              have hk7 : (if j ≤ b then j - 1 else j - 2 : Nat) = 7 := by rw [if_neg (by omega)]; omega
              rw [hk7]
              clear hk7
              go_wp2_with fail
              refine Calls.mono (Hid.out HA5) ?_
              rintro e w6 (⟨h8, _, _⟩ | ⟨_, ⟨r6, hst6⟩, rfl⟩)
              · rw [H5.out.1] at h8
                cases h8
              rw [H5.out.2]
              have HQ6 : Hid (Q w w6) := HQ5.out.fr hst6.fr HR5.out
              clear hst6 HA5
              go_wp2_with fail
              go_ret
              exact ⟨by simp, HQ6.out⟩
      · have dl : decide ((k : Int) < (mn : Int)) = false := decide_eq_false (by omega)
        go_wp2_with fail
        go_ret
        exact ⟨rfl, hinv.out.2.q⟩
end Go.Proofs.YtdmaffciijmdcaaGreatDoor

/-
  Plain: eight clients, of which one speaks: what the statement 'Idle' does with them.
-/
import Derived.Test.YtdmaffciijmdcaaGreatDoorGateLToHold3
import Derived.Test.YtdmaffciijmdcaaGreatDoorAp0ToAp1
import Derived.Test.YtdmaffciijmdcaaGreatDoorSpoilToKHead
namespace Go.Proofs.YtdmaffciijmdcaaGreatDoor
namespace Plain
def l1 : List RawR := [⟨0, 3, 19, 0, 0, 0, 0, 0⟩]
def starB : List UInt8 := [97, 108, 108, 111, 119, 32, 42, 32, 42, 32, 42, 32, 42, 10]
set_option maxRecDepth 100000 in
theorem l1_text : rulesT l1 = starB := by decide
theorem l1_new (n : Int) (m : Nat) (hm : m < 10080) : newS starB (usersT n) (m : Int) = .ok (gateT l1 n m) := by
  have := new_made l1 n m hm
  rw [l1_text] at this
  exact this
def nil8 (b : Nat) (x s : Int) (wt : List UInt8) : List ConnS := [1, 2, 3, 4, 5, 6, 7, 8].map fun j => if j = b then ⟨b, s, 0, wt, false, false⟩ else ⟨j, x, 0, [], false, false⟩
/-- Eight clients: all have been silent for x minutes, but the b-th for s minutes alone. -/
def idG (m0 : Int) (b : Nat) (x s : Int) (wt : List UInt8) : GateS := { gateT l1 0 5 with minute := m0, last := 8, conns := nil8 b x s wt }
def accK (k : Nat) : GateS := { gateT l1 0 5 with last := k, conns := (List.range k).map fun j => ⟨j + 1, 0, 0, [], false, false⟩ }
theorem accK_next (k : Nat) : (accK k).accept = accK (k + 1) := by
  unfold accK GateS.accept
  simp [List.range_succ]
theorem accK_zero : accK 0 = gateT l1 0 5 := rfl
theorem eight {b : Nat} (h1 : 1 ≤ b) (h8 : b ≤ 8) : b = 1 ∨ b = 2 ∨ b = 3 ∨ b = 4 ∨ b = 5 ∨ b = 6 ∨ b = 7 ∨ b = 8 := by omega
theorem accK_full {b : Nat} (h1 : 1 ≤ b) (h8 : b ≤ 8) : accK 8 = idG 5 b 0 0 [] := by
  rcases eight h1 h8 with rfl | rfl | rfl | rfl | rfl | rfl | rfl | rfl <;> rfl
theorem accK_ok (k : Nat) (hk : k ≤ 8) : GOk (accK k) := by
  refine ⟨by simpa [accK] using hk, by simp [accK, gateT, tensT, usersT], nodup_nums ?_, fun c hc => ?_, by simp [accK]; omega⟩
  · have : (accK k).conns.map (·.num) = (List.range k).map (· + 1) := by simp [accK]
    rw [this]
    exact List.Pairwise.map _ (fun a b h e => h (by omega)) (List.nodup_range)
  · simp only [accK, List.mem_map, List.mem_range] at hc
    obtain ⟨j, hj, rfl⟩ := hc
    show j + 1 ≤ k
    omega
theorem nil8_nums {b : Nat} (h1 : 1 ≤ b) (h8 : b ≤ 8) (x s : Int) (wt : List UInt8) : (nil8 b x s wt).map (·.num) = [1, 2, 3, 4, 5, 6, 7, 8] := by
  rcases eight h1 h8 with rfl | rfl | rfl | rfl | rfl | rfl | rfl | rfl <;> rfl
theorem idG_ok {b : Nat} (h1 : 1 ≤ b) (h8 : b ≤ 8) (m0 x s : Int) (wt : List UInt8) : GOk (idG m0 b x s wt) := by
  refine ⟨by simp [idG, nil8], by simp [idG, gateT, tensT, usersT], nodup_nums ?_, fun c hc => ?_, by simp [idG]⟩
  · show ((nil8 b x s wt).map _).Nodup
    rw [nil8_nums h1 h8]
    decide
  · have hm : c.num ∈ (nil8 b x s wt).map (·.num) := List.mem_map.2 ⟨c, hc, rfl⟩
    rw [nil8_nums h1 h8] at hm
    show c.num ≤ 8
    simp only [List.mem_cons, List.not_mem_nil, or_false] at hm
    omega
theorem nil8_mem {b : Nat} {x s : Int} {wt : List UInt8} {c : ConnS} (hc : c ∈ nil8 b x s wt) : (c.silent = x ∧ c.wait = [] ∨ c.silent = s ∧ c.wait = wt) ∧ c.stage = 0 ∧ c.noMore = false ∧ c.hostEnd = false := by
  unfold nil8 at hc
  obtain ⟨j, _, rfl⟩ := List.mem_map.1 hc
  split <;> simp
theorem idG_in {m0 : Int} {b : Nat} {x s : Int} {wt : List UInt8} (hx : 0 ≤ x ∧ x < 10) (hs : 0 ≤ s ∧ s < 10) : GIn (idG m0 b x s wt) := fun c hc => by
  obtain ⟨h1, h2, h3, h4⟩ := nil8_mem hc
  refine ⟨?_, ?_, by omega, fun _ => ⟨h3, h4⟩⟩ <;> rcases h1 with ⟨h1, _⟩ | ⟨h1, _⟩ <;> omega
theorem id_get {m0 : Int} {b : Nat} {x s : Int} {wt : List UInt8} (h1 : 1 ≤ b) (h8 : b ≤ 8) : (idG m0 b x s wt).conns[b - 1]? = some ⟨b, s, 0, wt, false, false⟩ := by
  rcases eight h1 h8 with rfl | rfl | rfl | rfl | rfl | rfl | rfl | rfl <;> rfl
set_option maxRecDepth 100000 in
theorem cut_C : ∀ k, k ≤ 12 → cutHead (List.replicate k 67) = none := by decide
theorem id_client {m0 : Int} {b : Nat} {x s : Int} {k : Nat} (h1 : 1 ≤ b) (h8 : b ≤ 8) (hk : k ≤ 11) {i : Nat} {c : ConnS} (hi : (idG m0 b x s (List.replicate k 67)).conns[i]? = some c) (hn : c.num = b) :
    clientAt (idG m0 b x s (List.replicate k 67)) i c [67] = (idG m0 b x 0 (List.replicate (k + 1) 67), []) := by
  have hg := id_get (m0 := m0) (x := x) (s := s) (wt := List.replicate k 67) h1 h8
  have hii := (idG_ok h1 h8 m0 x s (List.replicate k 67)).nums i (b - 1) c _ hi hg hn
  subst hii
  rw [hg] at hi
  cases hi
  have hw : List.replicate k (67 : UInt8) ++ [67] = List.replicate (k + 1) 67 := by rw [List.replicate_succ']
  unfold clientAt
  simp only [hw, cut_C (k + 1) (by omega)]
  rcases eight h1 h8 with rfl | rfl | rfl | rfl | rfl | rfl | rfl | rfl <;> rfl
def L7 (b : Nat) : List EvS := (List.range 7).map fun j => ⟨4, ((if j + 1 < b then j + 1 else j + 2 : Nat) : Int), [], 0⟩
theorem L7_len (b : Nat) : (L7 b).length = 7 := by simp [L7]
theorem L7_get (b j : Nat) (hj : j < 7) : (L7 b)[j]? = some ⟨4, ((if j + 1 < b then j + 1 else j + 2 : Nat) : Int), [], 0⟩ := by
  unfold L7
  rw [List.getElem?_map, List.getElem?_range hj]
  rfl
theorem id_tick {m0 : Int} {b : Nat} {x m : Int} {wt : List UInt8} (h1 : 1 ≤ b) (h8 : b ≤ 8) (hm : m < 10) (h10 : x + m < 10) : ∃ m1, tickS (idG m0 b x 0 wt) m = (idG m1 b (x + m) m wt, []) ∧ (0 ≤ m0 ∧ m0 < 10080 ∧ 0 ≤ m ∧ m < 10080 → 0 ≤ m1 ∧ m1 < 10080) := by
  refine ⟨if 10080 ≤ m0 + m then m0 + m - 10080 else m0 + m, ?_, fun h => by split <;> omega⟩
  rcases eight h1 h8 with rfl | rfl | rfl | rfl | rfl | rfl | rfl | rfl <;> simp [tickS, idG, nil8, h10, hm]
theorem id_over {m0 : Int} {b : Nat} {x m : Int} {wt : List UInt8} (h1 : 1 ≤ b) (h8 : b ≤ 8) (hm : m < 10) (h10 : ¬ x + m < 10) : (tickS (idG m0 b x 0 wt) m).2 = L7 b ∧ (tickS (idG m0 b x 0 wt) m).1.conns = [⟨b, m, 0, wt, false, false⟩] ∧ (tickS (idG m0 b x 0 wt) m).1.last = 8 ∧ (tickS (idG m0 b x 0 wt) m).1.tens = (gateT l1 0 5).tens := by
  refine ⟨?_, ?_, rfl, rfl⟩
  · rcases eight h1 h8 with rfl | rfl | rfl | rfl | rfl | rfl | rfl | rfl <;> simp [tickS, idG, nil8, h10, hm, overEvs, L7, List.range_succ]
  · rcases eight h1 h8 with rfl | rfl | rfl | rfl | rfl | rfl | rfl | rfl <;> simp [tickS, idG, nil8, h10, hm]
end Plain
open Go.RowKit Plain
theorem ev_get : ∀ (l : List EvS) (j : Nat) (e : EvS) (i : Nat), l[j]? = some e → i < 4 → (evVals l)[j * 4 + i]? = (evOf e)[i]?
  | [], j, e, i, h, _ => by simp at h
  | d :: l, 0, e, i, h, hi => by
    cases h
    show (evOf d ++ evVals l)[0 * 4 + i]? = _
    rw [List.getElem?_append_left (by show _ < 4; omega)]
    simp
  | d :: l, j + 1, e, i, h, hi => by
    show (evOf d ++ evVals l)[(j + 1) * 4 + i]? = _
    rw [List.getElem?_append_right (by show 4 ≤ _; omega)]
    rw [show (j + 1) * 4 + i - (evOf d).length = j * 4 + i by show _ - 4 = _; omega]
    exact ev_get l j e i (by simpa using h) hi
/-- One in the midst of the statement 'Idle'. -/
def IdInv (w : World) (gb b k : Nat) (x : Int) (s : Int) (wr : World) : Prop :=
  ∃ (o : Ow) (gws : Gws) (rows : Rws) (m0 : Int), Hold w wr o gws rows ∧ gws 0 = some (gb, idG m0 b x s (List.replicate k 67)) ∧ (0 ≤ m0 ∧ m0 < 10080)
theorem IdInv.q {w : World} {gb b k : Nat} {x s : Int} {wr : World} (h : IdInv w gb b k x s wr) : Q w wr := by
  obtain ⟨o, gws, rows, m0, hh, _⟩ := h
  exact hh.q
theorem idle_client {w : World} {gb b k : Nat} {x s : Int} {wr : World} (h : IdInv w gb b k x s wr) (hm : ML w) (h1 : 1 ≤ b) (h8 : b ≤ 8) (hk : k ≤ 11) :
    Calls Tryz.prog 22 #[ptr gb, .int .i64 (b : Int), .string ⟨#[67]⟩] wr fun e w' => ∃ va vc, e = .returned (.tuple #[.slice va 0 vc, .int .i64 0]) ∧ IdInv w gb b (k + 1) x 0 w' := by
  obtain ⟨o, gws, rows, m0, hh, hg, hmm⟩ := h
  refine (hh.clientC hg (idG_ok h1 h8 _ _ _ _) (b : Int) ⟨#[67]⟩ (fun c hc => ?_) hm 0).mono ?_
  · obtain ⟨h2, _⟩ := nil8_mem hc
    have hz : (⟨#[67]⟩ : ByteArray).size = 1 := rfl
    rw [hz]
    rcases h2 with ⟨_, h2⟩ | ⟨_, h2⟩ <;> rw [h2] <;> simp <;> omega
  · rintro e w' (⟨i, c, v, o', hi, hn, _, rfl, hh'⟩ | ⟨hno, _⟩)
    · have hc := id_client h1 h8 hk hi (by omega)
      change Hold w w' o' (put gws 0 (gb, (clientAt (idG m0 b x s (List.replicate k 67)) i c [67]).1)) (put rows 0 (v, (clientAt (idG m0 b x s (List.replicate k 67)) i c [67]).2)) at hh'
      rw [hc] at hh'
      obtain ⟨va, vc, hv⟩ := hh'.form (put_at _ _ _)
      refine ⟨va, vc, by rw [hv]; rfl, o', _, _, m0, hh', put_at _ _ _, hmm⟩
    · exact absurd rfl (hno _ (List.mem_of_getElem? (id_get h1 h8)) rfl)
/-- What Tick does there. -/
theorem idle_tick {w : World} {gb b k : Nat} {x m : Int} {wr : World} (h : IdInv w gb b k x 0 wr) (h1 : 1 ≤ b) (h8 : b ≤ 8) (hx : 0 ≤ x ∧ x < 10) (hm : 1 ≤ m ∧ m < 10) :
    Calls Tryz.prog 31 #[ptr gb, .int .i64 m] wr fun e w' => ∃ va n vc, e = .returned (.tuple #[.slice va n vc, .int .i64 0]) ∧
      ((x + m < 10 ∧ n = 0 ∧ IdInv w gb b k (x + m) m w') ∨ (¬ x + m < 10 ∧ n = 7 ∧ w'.ownsRow w.heap.size 48 4 (.slice va 7 vc) 7 (evVals (L7 b)) ∧ Q w w' ∧ ∃ r G, GwRep r w.heap.size w' gb G ∧ GOk G ∧ G.conns.length = 1 ∧ G.last = 8)) := by
  obtain ⟨o, gws, rows, m0, hh, hg, hmm⟩ := h
  refine (hh.tick hg (idG_ok h1 h8 _ _ _ _) (idG_in hx (by omega)) hmm m (by omega) 0).mono ?_
  rintro e w' ⟨v, o', rfl, hh'⟩
  by_cases h10 : x + m < 10
  · obtain ⟨m1, ht, hr⟩ := id_tick (m0 := m0) (wt := List.replicate k 67) h1 h8 hm.2 h10
    rw [ht] at hh'
    obtain ⟨va, vc, hv⟩ := hh'.form (put_at _ _ _)
    exact ⟨va, 0, vc, by rw [hv]; rfl, .inl ⟨h10, rfl, o', _, _, m1, hh', put_at _ _ _, hr (by omega)⟩⟩
  · obtain ⟨e1, e2, e3, e4⟩ := id_over (m0 := m0) (wt := List.replicate k 67) h1 h8 hm.2 h10
    rw [e1] at hh'
    obtain ⟨va, vc, hv⟩ := hh'.form (put_at _ _ _)
    rw [L7_len] at hv
    have hrow := (hh'.row 0 _ (put_at _ _ _)).1
    rw [hv, L7_len] at hrow
    refine ⟨va, 7, vc, by rw [hv], .inr ⟨h10, rfl, hrow, hh'.q, _, _, hh'.gw 0 _ (put_at _ _ _), ?_, ?_, ?_⟩⟩
    · exact (idG_ok h1 h8 m0 x 0 _).tick m
    · show (tickS (idG m0 b x 0 (List.replicate k 67)) m).1.conns.length = 1
      rw [e2]; rfl
    · exact e3
end Go.Proofs.YtdmaffciijmdcaaGreatDoor
/-
  Plain: rules are changed: what the statement 'Reloaded' does.
-/
namespace Go.Proofs.YtdmaffciijmdcaaGreatDoor
namespace Plain
def loneB : List UInt8 := [97, 108, 108, 111, 119, 10]
set_option maxRecDepth 100000 in
theorem bad_read : readRule [97, 108, 108, 111, 119] = none := by decide
theorem bad_parts : parts 10 loneB = [[97, 108, 108, 111, 119], []] := by decide
theorem rules_tail : ∀ (l : List RawR) (n : Nat), n + l.length ≤ 41 → ∃ en ln, rulesOf n (parts 10 (l.flatMap ruleT ++ loneB)) = .error (en, ln)
  | [], n, _ => by
    rw [List.flatMap_nil, List.nil_append, bad_parts, rulesOf]
    by_cases h : 40 < n
    · rw [if_pos h]; exact ⟨_, _, rfl⟩
    · rw [if_neg h, bad_read]; exact ⟨_, _, rfl⟩
  | r :: l, n, h => by
    obtain ⟨en, ln, ih⟩ := rules_tail l (n + 1) (by simp at h; omega)
    refine ⟨en, ln, ?_⟩
    rw [flat_cons, List.append_assoc, List.cons_append, parts_first (line_no10 r), rulesOf_cons (parts_ne _ _) (by simp at h; omega), line_read, ih]
theorem comp_bad (m : List RawR) : ∃ en ln, compileS (rulesT m ++ loneB) = .error (en, ln) := by
  unfold compileS
  split
  · exact ⟨_, _, rfl⟩
  · have h4 : (m.take 40).length ≤ 40 := by simp; omega
    exact rules_tail (m.take 40) 1 (by omega)
theorem l1_dec (q : AskR) : (decidedK q 0 (l1.take 40)).1 = true := by
  have hf : fitsK ⟨0, 3, 19, 0, 0, 0, 0, 0⟩ q = true := by
    have h1 : pickN 3 4 = 3 := by decide
    have h2 : pickN 19 20 = 19 := by decide
    have h3 : pickN 0 65536 = 0 := by decide
    simp [fitsK, whereK, whoK, portK, whenK, h1, h2, h3]
  show (decidedK q 0 [⟨0, 3, 19, 0, 0, 0, 0, 0⟩]).1 = true
  rw [decidedK, hf, if_pos rfl]
  rfl
theorem l1_guard (q : AskR) : guardS l1 q false = .ok (hostT q, pickN q.prt 65536) := by
  unfold guardS
  rw [l1_dec]
  rfl
end Plain
open Go.RowKit Plain
/-- A head that a client sends, piece by piece, to a gateway of such rules. -/
theorem fed_judge {g0 : GateS} (ok : GOk g0) (l : List RawR) (q : AskR) (n : Int) (other : Bool) (hr : g0.rules = (l.take 40).map ruleOf) (ht : g0.tens = tensT n) (hm : g0.minute = ((pickN q.mnt 10080 : Nat) : Int)) {i num : Nat} (hi : g0.conns[i]? = some ⟨num, 0, 0, [], false, false⟩) {raw : List Int} {k : Nat} {g : GateS} {s : List UInt8} {out : List EvS}
    (h : FedTo (num : Int) raw g0 (headT (pickN q.who 3) (secT n q other) (hostT q) (pickN q.prt 65536)) k g s out) :
    (s ≠ [] → ∃ c ∈ g.conns, (c.num : Int) = num) ∧ (s = [] → (g, out) = match guardS l q other with
      | .error x => (g0.drop num, sendS 2 num x ++ [⟨4, num, [], 0⟩])
      | .ok (h, p) => (g0.upd i ⟨num, 0, 1, [], false, false⟩, [⟨1, num, h, (p : Int)⟩])) := by
  obtain ⟨T, hT⟩ : ∃ T, T = headT (pickN q.who 3) (secT n q other) (hostT q) (pickN q.prt 65536) := ⟨_, rfl⟩
  have hbody := headT_body (pickN q.who 3) (secT n q other) (hostT q) (pickN q.prt 65536)
  have hc := cut_made (hostT_ok q) (pickN q.prt 65536) (b64_bytes (tenantS (pickN q.who 3) ++ [58] ++ secT n q other)) (by rw [← hbody]; exact head_short q n other)
  have hj := guard_made l q n other
  rw [← hbody, ← hT] at hc
  rw [← hT] at hj h
  have hne : T ≠ [] := by
    rw [hT, hbody]
    intro e
    have := congrArg List.length e
    simp [endB] at this
  obtain ⟨h1, h2⟩ := fed_head ok hi hne hc.2 hc.1 h
  refine ⟨fun hs => ?_, fun hs => ?_⟩
  · obtain ⟨m, _, _, hg, _⟩ := h1 hs
    exact ⟨⟨num, 0, 0, T.take m, false, false⟩, by rw [hg]; exact List.mem_of_getElem? (upd_get hi), rfl⟩
  · rw [h2 hs]
    unfold answerS
    rw [hr, ht, hm, hj]
    rcases guardS l q other with x | ⟨hh, pp⟩ <;> rfl
/-- What such a head does. -/
def judgedS (g0 : GateS) (i num : Nat) (l : List RawR) (q : AskR) : GateS × List EvS := match guardS l q false with
  | .error x => (g0.drop num, sendS 2 num x ++ [⟨4, num, [], 0⟩])
  | .ok (h, p) => (g0.upd i ⟨num, 0, 1, [], false, false⟩, [⟨1, num, h, (p : Int)⟩])
theorem head_fed {w0 x : World} {o : Ow} {gws : Gws} {rows : Rws} (h : Hold w0 x o gws rows) {gb : Nat} {g0 : GateS} (hg : gws 0 = some (gb, g0)) (ok : GOk g0) (hop : ∀ c ∈ g0.conns, c.noMore = false) (hwt : ∀ c ∈ g0.conns, c.wait.length = 0) (l : List RawR) (q : AskR) (n : Int) (hr : g0.rules = (l.take 40).map ruleOf) (ht : g0.tens = tensT n) (hm : g0.minute = ((pickN q.mnt 10080 : Nat) : Int)) {i num : Nat} (hi : g0.conns[i]? = some ⟨num, 0, 0, [], false, false⟩) (hml : ML w0) (T : ByteArray) (hT : T.data.toList = headT (pickN q.who 3) (secT n q false) (hostT q) (pickN q.prt 65536)) (j : Nat) :
    Calls Tryz.prog 19 #[ptr gb, .int .i64 (num : Int), .string T, .slice none 0 0] x fun e w' => ∃ v o', e = .returned (.tuple #[v, .bool true]) ∧ Hold w0 w' o' (put gws 0 (gb, (judgedS g0 i num l q).1)) (put rows j (v, (judgedS g0 i num l q).2)) := by
  have hTz : T.size < 1000 := by rw [← size_len, hT]; exact head_short q n false
  refine (h.fed hg ok hop (num : Int) T (.slice none 0 0) [] (fun _ _ => ⟨none, 0, rfl, fun i c hi => by simp at hi⟩) (fun c hc => by rw [hwt c hc]; omega) (by omega) hml j).mono ?_
  rintro e w' ⟨k, g, s, out, v, o', hto, hh, hend⟩
  rw [hT] at hto
  obtain ⟨h1, h2⟩ := fed_judge ok l q n false hr ht hm hi hto
  rcases hend with ⟨hs, rfl⟩ | ⟨hs, hno, _⟩
  · have h3 := h2 hs
    have h4 : (g, out) = judgedS g0 i num l q := h3
    rw [← h4]
    exact ⟨v, o', rfl, hh⟩
  · obtain ⟨c, hc, hcn⟩ := h1 hs
    exact absurd hcn (hno c hc)
end Go.Proofs.YtdmaffciijmdcaaGreatDoor

/-
  Plain: a head with bytes behind it, in pieces; a client beside another one.
-/
import Derived.Test.YtdmaffciijmdcaaGreatDoorRowDToHold2
namespace Go.Proofs.YtdmaffciijmdcaaGreatDoor
namespace Plain
theorem index_more {T r : List UInt8} {i : Nat} (h : Lib.index T endB = (i : Int)) : Lib.index (T ++ r) endB = (i : Int) := by
  have he : endB.length = 4 := rfl
  rcases Lib.index_spec T endB with ⟨h1, _⟩ | ⟨j, h1, h2, h3, h4⟩
  · omega
  have hij : j = i := by omega
  subst hij
  have hroom := Lib.index_room T endB (by omega)
  rw [h, he] at hroom
  have hocc : ∀ k, k + 4 ≤ T.length → Lib.occAt (T ++ r) endB k = Lib.occAt T endB k := fun k hk => by
    unfold Lib.occAt
    rw [Bool.eq_iff_iff, List.isPrefixOf_iff_prefix, List.isPrefixOf_iff_prefix, List.drop_append_of_le_length (by omega)]
    constructor
    · intro hp
      refine List.prefix_of_prefix_length_le hp (List.prefix_append _ _) ?_
      rw [List.length_drop, he]; omega
    · intro hp
      exact hp.trans (List.prefix_append _ _)
  rcases Lib.index_spec (T ++ r) endB with ⟨h5, h6⟩ | ⟨k, h5, h6, h7, h8⟩
  · have := h6 j (by rw [List.length_append]; omega)
    rw [hocc j (by omega), h3] at this
    cases this
  · rcases Nat.lt_trichotomy k j with hk | hk | hk
    · rw [hocc k (by omega)] at h7
      have := h4 k hk
      rw [h7] at this
      cases this
    · rw [h5, hk]
    · have := h8 j hk
      rw [hocc j (by omega), h3] at this
      cases this
theorem cut_more {T : List UInt8} (hl : T.length < 1000) (h : cutHead T = some (T, [])) (r : List UInt8) : cutHead (T ++ r) = some (T, r) := by
  unfold cutHead at h
  rw [List.take_of_length_le (by omega)] at h
  split at h
  · rename_i h0
    obtain ⟨i, hi⟩ : ∃ i : Nat, Lib.index T endB = (i : Int) := ⟨(Lib.index T endB).toNat, by omega⟩
    rw [hi] at h
    injection h with h
    injection h with h1 h2
    have hlen := congrArg List.length h2
    rw [List.length_drop] at hlen
    simp at hlen
    have hroom := Lib.index_room T endB (by omega)
    rw [hi, show endB.length = 4 from rfl] at hroom
    have hT : i + 4 = T.length := by omega
    have h3 : Lib.index ((T ++ r).take 1000) endB = (i : Int) := by
      rw [List.take_append, List.take_of_length_le (by omega)]
      exact index_more hi
    unfold cutHead
    rw [h3, if_pos (by omega), show (i : Int).toNat + 4 = T.length from by omega, List.take_left, List.drop_left]
  · exact absurd h (by simp)

/-- The first client's connection, when m bytes of its text have come. -/
def xAt (T a : List UInt8) (m : Nat) : ConnS := if m < T.length then ⟨1, 0, 0, (T ++ a).take m, false, false⟩ else ⟨1, 0, 1, a.take (m - T.length), false, false⟩
theorem xAt_num (T a : List UInt8) (m : Nat) : (xAt T a m).num = 1 := by unfold xAt; split <;> rfl
theorem xAt_wait (T a : List UInt8) (m : Nat) : (xAt T a m).wait.length ≤ m := by unfold xAt; split <;> simp <;> omega
theorem x_step {g : GateS} {i : Nat} {T a : List UInt8} {host : List UInt8} {port : Nat} (hj : judgeS g.rules g.tens g.minute T = .ok (host, port)) (hl : T.length < 1000) (hc : cutHead T = some (T, [])) (hn : ∀ m, m < T.length → cutHead (T.take m) = none) (m k : Nat) :
    clientAt g i (xAt T a m) (((T ++ a).drop m).take k) = (g.upd i (xAt T a (m + k)), if m < T.length ∧ T.length ≤ m + k then [⟨1, 1, host, (port : Int)⟩] else []) := by
  by_cases hm : m < T.length
  · have hx : xAt T a m = ⟨1, 0, 0, (T ++ a).take m, false, false⟩ := if_pos hm
    have htake : (T ++ a).take m ++ ((T ++ a).drop m).take k = (T ++ a).take (m + k) := List.take_add.symm
    rw [hx]
    have hcl : clientAt g i ⟨1, 0, 0, (T ++ a).take m, false, false⟩ (((T ++ a).drop m).take k) = match cutHead ((T ++ a).take (m + k)) with
        | none => (g.upd i ⟨1, 0, 0, (T ++ a).take (m + k), false, false⟩, [])
        | some (h, rest) => answerS (g.upd i ⟨1, 0, 0, rest, false, false⟩) i ⟨1, 0, 0, rest, false, false⟩ h := by
      unfold clientAt
      simp only [htake]
      rcases cutHead ((T ++ a).take (m + k)) with _ | ⟨h, r⟩ <;> rfl
    rw [hcl]
    by_cases hmk : m + k < T.length
    · rw [show (T ++ a).take (m + k) = T.take (m + k) from by rw [List.take_append_of_le_length (by omega)], hn _ hmk, if_neg (by omega)]
      have : xAt T a (m + k) = ⟨1, 0, 0, T.take (m + k), false, false⟩ := by
        unfold xAt
        rw [if_pos hmk, List.take_append_of_le_length (by omega)]
      rw [this]
    · rw [show (T ++ a).take (m + k) = T ++ a.take (m + k - T.length) from by rw [List.take_append, List.take_of_length_le (by omega)], cut_more hl hc, if_pos ⟨hm, by omega⟩]
      have hx2 : xAt T a (m + k) = ⟨1, 0, 1, a.take (m + k - T.length), false, false⟩ := if_neg hmk
      rw [hx2]
      show answerS (g.upd i ⟨1, 0, 0, a.take (m + k - T.length), false, false⟩) i ⟨1, 0, 0, a.take (m + k - T.length), false, false⟩ T = _
      unfold answerS
      show (match judgeS g.rules g.tens g.minute T with
        | .error r => _
        | .ok (h, n) => _) = _
      rw [hj]
      show ((g.upd i _).upd i _, _) = _
      rw [upd_upd]
      rfl
  · have hx : xAt T a m = ⟨1, 0, 1, a.take (m - T.length), false, false⟩ := if_neg hm
    have hx2 : xAt T a (m + k) = ⟨1, 0, 1, a.take (m + k - T.length), false, false⟩ := if_neg (by omega)
    rw [hx, hx2, if_neg (by omega)]
    have hd : ((T ++ a).drop m).take k = (a.drop (m - T.length)).take k := by rw [List.drop_append, List.drop_eq_nil_of_le (by omega), List.nil_append]
    have ht : a.take (m - T.length) ++ (a.drop (m - T.length)).take k = a.take (m + k - T.length) := by
      rw [show m + k - T.length = (m - T.length) + k from by omega]
      exact List.take_add.symm
    rw [hd]
    unfold clientAt
    simp only [ht]
    rfl

theorem sendS_one {k n : Int} {s : List UInt8} (h : s.isEmpty = false) : sendS k n s = [⟨k, n, s, 0⟩] := by
  unfold sendS
  rw [h]
  rfl
/-- Whatever a client says: it is refused, and gone; or it is there, and one event at most came. -/
theorem client_kind (g : GateS) (i : Nat) (c : ConnS) (s : List UInt8) :
    (∀ e ∈ (clientAt g i c s).2, e.conn = (c.num : Int)) ∧
    (((clientAt g i c s).2.length = 2 ∧ ∃ c', (clientAt g i c s).1 = (g.upd i c').drop c.num ∧ c'.num = c.num) ∨ ((clientAt g i c s).2.length ≤ 1 ∧ ∃ c', (clientAt g i c s).1 = g.upd i c' ∧ c'.num = c.num)) := by
  unfold clientAt
  split
  · refine ⟨fun e he => ?_, .inr ⟨sendS_len _ _ _, _, rfl, rfl⟩⟩
    unfold sendS at he
    split at he
    · cases he
    · simp only [List.mem_singleton] at he
      rw [he]
  · split
    · exact ⟨fun e he => (by cases he), .inr ⟨by simp, _, rfl, rfl⟩⟩
    · split
      · exact ⟨fun e he => (by cases he), .inr ⟨by simp, _, rfl, rfl⟩⟩
      · rename_i h rest _
        unfold answerS
        split
        · rename_i r hr
          rw [sendS_one (judge_err hr).1]
          refine ⟨fun e he => ?_, .inl ⟨rfl, _, rfl, rfl⟩⟩
          simp only [List.cons_append, List.nil_append, List.mem_cons, List.not_mem_nil, or_false] at he
          rcases he with rfl | rfl <;> rfl
        · rename_i h' n' hr
          refine ⟨fun e he => ?_, .inr ⟨by simp, _, upd_upd _ _ _ _, rfl⟩⟩
          simp only [List.mem_singleton] at he
          rw [he]
end Plain
end Go.Proofs.YtdmaffciijmdcaaGreatDoor
/-
  Plain: two gateways, two clients: what the statement 'Apart' does with them.
-/
namespace Go.Proofs.YtdmaffciijmdcaaGreatDoor
namespace Plain
def l0 : List RawR := [⟨0, 0, 19, 0, 0, 0, 0, 0⟩]
def q0 : AskR := ⟨0, 0, 443, 0⟩
def exB : List UInt8 := [101, 120, 97, 109, 112, 108, 101, 46, 99, 111, 109]
def annB : List UInt8 := [97, 108, 108, 111, 119, 32, 97, 110, 110, 32, 42, 32, 42, 32, 42, 10]
set_option maxRecDepth 100000 in
theorem l0_text : rulesT l0 = annB := by decide
set_option maxRecDepth 100000 in
theorem q0_host : hostT q0 = exB := by decide
set_option maxRecDepth 100000 in
theorem q0_dec : (decidedK q0 0 (l0.take 40)).1 = true := by decide
theorem l0_new (n : Int) : newS annB (usersT n) 0 = .ok (gateT l0 n 0) := by
  have := new_made l0 n 0 (by decide)
  rw [l0_text] at this
  exact this
/-- The first client's head. -/
def headA (n : Int) : List UInt8 := headT 0 (wordT n 0) exB 443
theorem headA_eq (n : Int) : headT (pickN q0.who 3) (secT n q0 false) (hostT q0) (pickN q0.prt 65536) = headA n := by
  rw [q0_host]; rfl
theorem headA_judge (n : Int) : judgeS (gateT l0 n 0).rules (gateT l0 n 0).tens (gateT l0 n 0).minute (headA n) = .ok (exB, 443) := by
  have := guard_made l0 q0 n false
  rw [headA_eq] at this
  unfold guardS at this
  rw [q0_dec, q0_host] at this
  exact this
theorem headA_short (n : Int) : (headA n).length < 1000 := by
  have := head_short q0 n false
  rw [headA_eq] at this
  exact this
theorem headA_body (n : Int) : headA n = bodyOf exB 443 (b64 (tenantS 0 ++ [58] ++ wordT n 0)) ++ endB := headT_body _ _ _ _
theorem exB_ok : HostOk exB := by rw [← q0_host]; exact hostT_ok q0
theorem headA_cut (n : Int) : cutHead (headA n) = some (headA n, []) ∧ ∀ m, m < (headA n).length → cutHead ((headA n).take m) = none := by
  have h := headA_short n
  rw [headA_body] at h ⊢
  exact cut_made exB_ok 443 (b64_bytes _) h

/-- Two gateways and two clients, when m bytes of the first client's text have come. -/
structure Ap (n : Int) (a : List UInt8) (m L : Nat) (ov : Bool) (G H : GateS) (P : List EvS) : Prop where
  one : H = { gateT l0 n 0 with last := 1, conns := [xAt (headA n) a m] }
  two : ∃ ys, G = { gateT l0 n 0 with last := 2, conns := xAt (headA n) a m :: ys } ∧ ((ov = true ∧ ys = []) ∨ (ov = false ∧ ∃ y, ys = [y] ∧ y.num = 2 ∧ y.wait.length ≤ L))
  evs : P = if m < (headA n).length then [] else [⟨1, 1, exB, 443⟩]
  opG : ∀ c ∈ G.conns, c.noMore = false
  opH : ∀ c ∈ H.conns, c.noMore = false
theorem one_ok {n : Int} {c : ConnS} (hc : c.num = 1) : GOk { gateT l0 n 0 with last := 1, conns := [c] } := by
  refine ⟨by simp, by simp [gateT, tensT, usersT], fun i j c d hi hj _ => ?_, fun d hd => ?_, by simp⟩
  · simp only [List.getElem?_singleton] at hi hj
    split at hi <;> split at hj
    · omega
    all_goals simp at *
  · simp only [List.mem_singleton] at hd
    rw [hd, hc]
    exact Nat.le_refl _
theorem two_ok {n : Int} {c : ConnS} {ys : List ConnS} (hc : c.num = 1) (hy : ys = [] ∨ ∃ y, ys = [y] ∧ y.num = 2) : GOk { gateT l0 n 0 with last := 2, conns := c :: ys } := by
  rcases hy with rfl | ⟨y, rfl, hy2⟩
  · refine ⟨by simp, by simp [gateT, tensT, usersT], fun i j c d hi hj _ => ?_, fun d hd => ?_, by simp⟩
    · simp only [List.getElem?_singleton] at hi hj
      split at hi <;> split at hj
      · omega
      all_goals simp at *
    · simp only [List.mem_singleton] at hd
      rw [hd, hc]
      exact Nat.le_succ _
  · refine ⟨by simp, by simp [gateT, tensT, usersT], ?_, fun d hd => ?_, by simp⟩
    · refine nodup_nums ?_
      simp [hc, hy2]
    · simp only [List.mem_cons, List.not_mem_nil, or_false] at hd
      rcases hd with rfl | rfl
      · rw [hc]; exact Nat.le_succ _
      · rw [hy2]; exact Nat.le_refl _
theorem Ap.okH {n : Int} {a : List UInt8} {m L : Nat} {ov : Bool} {G H : GateS} {P : List EvS} (h : Ap n a m L ov G H P) : GOk H := by
  rw [h.one]; exact one_ok (xAt_num _ _ _)
theorem Ap.okG {n : Int} {a : List UInt8} {m L : Nat} {ov : Bool} {G H : GateS} {P : List EvS} (h : Ap n a m L ov G H P) : GOk G := by
  obtain ⟨ys, hG, hy⟩ := h.two
  rw [hG]
  refine two_ok (xAt_num _ _ _) ?_
  rcases hy with ⟨_, h⟩ | ⟨_, y, h1, h2, _⟩
  · exact .inl h
  · exact .inr ⟨y, h1, h2⟩
theorem Ap.getG {n : Int} {a : List UInt8} {m L : Nat} {ov : Bool} {G H : GateS} {P : List EvS} (h : Ap n a m L ov G H P) {k : Nat} {c : ConnS} (hk : G.conns[k]? = some c) (hc : (c.num : Int) = 1) : k = 0 ∧ c = xAt (headA n) a m := by
  obtain ⟨ys, hG, hy⟩ := h.two
  have h0 : G.conns[0]? = some (xAt (headA n) a m) := by rw [hG]; rfl
  have := h.okG.nums k 0 c _ hk h0 (by rw [xAt_num]; omega)
  subst this
  rw [h0] at hk
  cases hk
  exact ⟨rfl, rfl⟩
theorem Ap.getH {n : Int} {a : List UInt8} {m L : Nat} {ov : Bool} {G H : GateS} {P : List EvS} (h : Ap n a m L ov G H P) {k : Nat} {c : ConnS} (hk : H.conns[k]? = some c) (hc : (c.num : Int) = 1) : k = 0 ∧ c = xAt (headA n) a m := by
  have h0 : H.conns[0]? = some (xAt (headA n) a m) := by rw [h.one]; rfl
  have := h.okH.nums k 0 c _ hk h0 (by rw [xAt_num]; omega)
  subst this
  rw [h0] at hk
  cases hk
  exact ⟨rfl, rfl⟩
/-- What the first client's next piece brings. -/
def evX (n : Int) (m k : Nat) : List EvS := if m < (headA n).length ∧ (headA n).length ≤ m + k then [⟨1, 1, exB, 443⟩] else []
theorem evX_len (n : Int) (m k : Nat) : (evX n m k).length ≤ 1 := by unfold evX; split <;> simp
theorem Ap.stepX {n : Int} {a : List UInt8} {m L : Nat} {ov : Bool} {G H : GateS} {P : List EvS} (h : Ap n a m L ov G H P) (k : Nat) :
    (clientAt G 0 (xAt (headA n) a m) (((headA n ++ a).drop m).take k)).2 = evX n m k ∧ (clientAt H 0 (xAt (headA n) a m) (((headA n ++ a).drop m).take k)).2 = evX n m k ∧
    Ap n a (m + k) L ov (clientAt G 0 (xAt (headA n) a m) (((headA n ++ a).drop m).take k)).1 (clientAt H 0 (xAt (headA n) a m) (((headA n ++ a).drop m).take k)).1 (P ++ evX n m k) := by
  obtain ⟨ys, hG, hy⟩ := h.two
  have hj := headA_judge n
  obtain ⟨hc1, hc2⟩ := headA_cut n
  have sG := x_step (g := G) (i := 0) (a := a) (by rw [hG]; exact hj) (headA_short n) hc1 hc2 m k
  have sH := x_step (g := H) (i := 0) (a := a) (by rw [h.one]; exact hj) (headA_short n) hc1 hc2 m k
  have oG := clientAt_opens (g := G) (i := 0) (((headA n ++ a).drop m).take k) (h.opG (xAt (headA n) a m) (by rw [hG]; simp)) h.opG
  have oH := clientAt_opens (g := H) (i := 0) (((headA n ++ a).drop m).take k) (h.opH (xAt (headA n) a m) (by rw [h.one]; simp)) h.opH
  rw [sG] at oG
  rw [sH] at oH
  rw [sG, sH]
  refine ⟨rfl, rfl, by rw [h.one]; rfl, ⟨ys, by rw [hG]; rfl, hy⟩, ?_, oG, oH⟩
  rw [h.evs]
  unfold evX
  by_cases h1 : m < (headA n).length
  · by_cases h2 : (headA n).length ≤ m + k
    · rw [if_pos h1, if_pos ⟨h1, h2⟩, if_neg (by omega)]; rfl
    · rw [if_pos h1, if_neg (by omega), if_pos (by omega)]; rfl
  · rw [if_neg h1, if_neg (by omega), if_neg (by omega)]; rfl
/-- What the second client's next piece brings. -/
theorem Ap.stepY {n : Int} {a : List UInt8} {m L : Nat} {G H : GateS} {P : List EvS} (h : Ap n a m L false G H P) {k : Nat} {c : ConnS} (hk : G.conns[k]? = some c) (hc : (c.num : Int) = 2) (t : List UInt8) :
    (∀ e ∈ (clientAt G k c t).2, e.conn = 2) ∧ (clientAt G k c t).2.length ≤ 2 ∧ Ap n a m (L + t.length) (decide ((clientAt G k c t).2.length = 2)) (clientAt G k c t).1 H P := by
  obtain ⟨ys, hG, hy⟩ := h.two
  rcases hy with ⟨h1, _⟩ | ⟨_, y, rfl, hy2, hyl⟩
  · cases h1
  have h1 : G.conns[1]? = some y := by rw [hG]; rfl
  have hk1 := h.okG.nums k 1 c y hk h1 (by rw [hy2]; omega)
  subst hk1
  rw [h1] at hk
  cases hk
  obtain ⟨hev, hkind⟩ := client_kind G 1 c t
  rw [hy2] at hev hkind
  have oG := clientAt_opens (g := G) (i := 1) t (h.opG c (List.mem_of_getElem? h1)) h.opG
  refine ⟨hev, clientAt_len _ _ _ _, ?_⟩
  rcases hkind with ⟨hl2, c', hg', hc'⟩ | ⟨hl1, c', hg', hc'⟩
  · refine ⟨h.one, ⟨[], ?_, .inl ⟨by rw [hl2]; rfl, rfl⟩⟩, h.evs, oG, h.opH⟩
    rw [hg', hG]
    simp [GateS.drop, GateS.upd, xAt_num, hc']
  · have hmem : c' ∈ (clientAt G 1 c t).1.conns := by
      rw [hg']
      exact List.mem_of_getElem? (upd_get h1)
    refine ⟨h.one, ⟨[c'], by rw [hg', hG]; rfl, .inr ⟨by rw [decide_eq_false]; omega, c', rfl, hc', ?_⟩⟩, h.evs, oG, h.opH⟩
    rcases clientAt_waits t hmem with h2 | h2
    · rw [hG] at h2
      simp only [List.mem_cons, List.not_mem_nil, or_false] at h2
      rcases h2 with h2 | h2
      · rw [h2, xAt_num] at hc'
        cases hc'
      · rw [h2]; omega
    · omega
end Plain
end Go.Proofs.YtdmaffciijmdcaaGreatDoor

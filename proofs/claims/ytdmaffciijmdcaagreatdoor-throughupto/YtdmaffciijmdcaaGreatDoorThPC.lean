/-
  Plain: bytes that go through: what the statement 'Through' does; texts.
-/
import Derived.Test.YtdmaffciijmdcaaGreatDoorIdPToRlP
import Derived.Test.YtdmaffciijmdcaaGreatDoorGuardWC
import Derived.Test.YtdmaffciijmdcaaGreatDoorAp0ToAp1
namespace Go.Proofs.YtdmaffciijmdcaaGreatDoor
namespace Plain
/-- What events of a kind say. -/
def textS (kind : Int) (l : List EvS) : List UInt8 := l.flatMap fun e => if e.kind = kind then e.text else []
theorem textS_append (k : Int) (a b : List EvS) : textS k (a ++ b) = textS k a ++ textS k b := by simp [textS]
theorem textS_send (k k2 num : Int) (s : List UInt8) : textS k (sendS k2 num s) = if k2 = k then s else [] := by
  unfold sendS textS
  cases s with
  | nil => simp
  | cons a s => simp
theorem textS_take {k : Int} {l : List EvS} {i : Nat} {e : EvS} (h : l[i]? = some e) : textS k (l.take (i + 1)) = textS k (l.take i) ++ if e.kind = k then e.text else [] := by
  obtain ⟨hlt, rfl⟩ := List.getElem?_eq_some_iff.1 h
  unfold textS
  rw [List.take_succ_eq_append_getElem hlt, List.flatMap_append]
  simp
/-- The bytes of all texts. -/
def bulkS (l : List EvS) : Nat := (l.map fun e => e.text.length).sum
theorem bulkS_append (a b : List EvS) : bulkS (a ++ b) = bulkS a + bulkS b := by simp [bulkS]
theorem textS_le (k : Int) : ∀ l : List EvS, (textS k l).length ≤ bulkS l
  | [] => by simp [textS, bulkS]
  | e :: l => by
    have := textS_le k l
    show ((if e.kind = k then e.text else []) ++ textS k l).length ≤ _
    simp only [bulkS, List.map_cons, List.sum_cons] at this ⊢
    rw [List.length_append]
    split <;> simp <;> omega
theorem bulk_at {l : List EvS} {i : Nat} {e : EvS} (h : l[i]? = some e) : (textS e.kind (l.take i)).length + e.text.length ≤ bulkS l := by
  obtain ⟨hlt, rfl⟩ := List.getElem?_eq_some_iff.1 h
  have h1 := textS_le (l[i]).kind (l.take i)
  have h2 : bulkS l = bulkS (l.take i) + bulkS (l.drop i) := by rw [← bulkS_append, List.take_append_drop]
  have h3 : bulkS (l.drop i) = (l[i]).text.length + bulkS (l.drop (i + 1)) := by
    rw [List.drop_eq_getElem_cons hlt]
    unfold bulkS
    rw [List.map_cons, List.sum_cons]
  omega
end Plain
open Go.RowKit Plain

set_option maxRecDepth 100000 in
set_option maxHeartbeats 1600000 in
theorem texts_any (v : Value) (l : List EvS) (kind : Int) (B : Nat) (w : World) (h : w.ownsRow B 48 4 v l.length (evVals l)) (hz : bulkS l ≤ 4398046511104) (hl : l.length ≤ 4398046511104) :
    Calls Tryz.prog 27 #[v, .int .i64 kind] w fun e w' => e = .returned (str (textS kind l)) ∧ w' = w := by
  obtain ⟨a, cap, rfl⟩ := slice_form h
  have HC : Hid (∀ (i : Nat) (e : EvS), l[i]? = some e → ∃ g, a = some ⟨g, 0, none⟩ ∧ w.cell? ⟨g, i * 4, none⟩ = some (.int .i64 e.kind) ∧ w.cell? ⟨g, i * 4 + 2, none⟩ = some (str e.text)) := by
    intro i e hi
    have hlt := (List.getElem?_eq_some_iff.1 hi).1
    obtain ⟨g, c2, e1, hc⟩ := ev_cells h (by omega)
    injection e1 with e1 _ _
    exact ⟨g, e1, hc _ _ ((ev_get _ _ _ 0 hi (by decide)).trans rfl), hc _ _ ((ev_get _ _ _ 2 hi (by decide)).trans rfl)⟩
  obtain ⟨n, hn⟩ : ∃ n, n = l.length := ⟨_, rfl⟩
  have HN := show Hid _ from hn
  rw [← hn] at hl ⊢
  clear h hn
  go_enter Tryz.func27, Tryz.ntmps27
  go_wp2_with fail
  go_loopw [5, 6] (fun s i wr => ∃ (k : Nat) (S : ByteArray), k ≤ n ∧ i = .int .i64 (k : Int) ∧ s = .string S ∧ Hid (S.data.toList = textS kind (l.take k)) ∧ wr = w) (fun _ i _ => n - (intOf i).toNat)
  case atStart => exact ⟨0, ⟨#[]⟩, Nat.zero_le _, rfl, rfl, by show _ = _; simp [textS], rfl⟩
  case round =>
    obtain ⟨k, S, hk, rfl, rfl, hS, hw⟩ := hrel
    rw [hw]
    clear hw
    by_cases hlt : k < n
    · have dk : decide ((k : Int) < (n : Int)) = true := decide_eq_true (by omega)
      obtain ⟨e, he⟩ : ∃ e, l[k]? = some e := ⟨_, List.getElem?_eq_getElem (by rw [← HN.out]; exact hlt)⟩
      obtain ⟨g, rfl, c0, c2⟩ := HC.out k e he
      have HT := show Hid _ from textS_take (k := kind) he
      by_cases hkd : e.kind = kind
      · have d0 : (e.kind == kind) = true := by rw [hkd]; simp
        obtain ⟨X, hX⟩ : ∃ M : ByteArray, M.data.toList = e.text := ⟨⟨e.text.toArray⟩, rfl⟩
        rw [← hX, str_data] at c2
        have hsz : S.size + X.size ≤ 4398046511104 := by
          have h1 := bulk_at he
          rw [hkd, ← hS.out, size_len, ← hX, size_len] at h1
          omega
        have HX : Hid ((S ++ X).data.toList = textS kind (l.take (k + 1))) := by
          show _ = _
          rw [HT.out, if_pos hkd, app_str, hS.out, hX]
        clear he hkd hX
        go_wp2_with fail
        exact ⟨⟨k + 1, S ++ X, by omega, by go_num, rfl, HX, trivial⟩, by simp [intOf]; omega⟩
      · have d0 : (e.kind == kind) = false := by rw [beq_eq_false_iff_ne]; exact hkd
        have HX : Hid (S.data.toList = textS kind (l.take (k + 1))) := by
          show _ = _
          rw [HT.out, if_neg hkd, List.append_nil, hS.out]
        clear he hkd c2
        go_wp2_with fail
        exact ⟨⟨k + 1, S, by omega, by go_num, rfl, HX, trivial⟩, by simp [intOf]; omega⟩
    · have dk : decide ((k : Int) < (n : Int)) = false := decide_eq_false (by omega)
      go_wp2_with fail
      go_ret
      refine ⟨?_, rfl⟩
      rw [← str_data S, hS.out, List.take_of_length_le (by have := HN.out; omega)]
      rfl

/-- A head with bytes behind it goes in piece by piece. -/
theorem fed_x {g0 : GateS} (ok : GOk g0) {i : Nat} {T a host : List UInt8} {port : Nat} (hi : g0.conns[i]? = some (xAt T a 0)) (hj : judgeS g0.rules g0.tens g0.minute T = .ok (host, port)) (hl : T.length < 1000) (hT : T ≠ []) (hc : cutHead T = some (T, [])) (hn : ∀ m, m < T.length → cutHead (T.take m) = none) {raw : List Int} {k : Nat} {g : GateS} {s : List UInt8} {out : List EvS} (h : FedTo 1 raw g0 (T ++ a) k g s out) :
    ∃ m, m ≤ (T ++ a).length ∧ s = (T ++ a).drop m ∧ g = g0.upd i (xAt T a m) ∧ out = if m < T.length then [] else [⟨1, 1, host, (port : Int)⟩] := by
  have hpos : 0 < T.length := List.length_pos_iff.2 hT
  induction h with
  | start => exact ⟨0, Nat.zero_le _, rfl, (upd_same hi).symm, by rw [if_pos hpos]⟩
  | @step k g s out i' c hto hne hi' hn' ih =>
    obtain ⟨m, hm, hs, hg, ho⟩ := ih
    have hok : GOk g := hto.ok ok
    have hgi : g.conns[i]? = some (xAt T a m) := by rw [hg]; exact upd_get hi
    have hii : i' = i := hok.nums i' i _ _ hi' hgi (by rw [xAt_num]; omega)
    subst hii
    rw [hgi] at hi'
    cases hi'
    obtain ⟨hp1, hp2⟩ := pieceN_le s.length raw[k]?
    generalize pieceN s.length raw[k]? = p at *
    have hst := x_step (g := g) (i := i') (a := a) (by rw [hg]; exact hj) hl hc hn m p
    rw [hs, hst]
    refine ⟨m + p, ?_, by rw [List.drop_drop], by rw [hg]; exact upd_upd _ _ _ _, ?_⟩
    · rw [hs, List.length_drop] at hp1
      omega
    · rw [ho]
      dsimp only
      by_cases h1 : m < T.length
      · by_cases h2 : T.length ≤ m + p
        · rw [if_pos h1, if_pos ⟨h1, h2⟩, if_neg (by omega)]; rfl
        · rw [if_pos h1, if_neg (by omega), if_pos (by omega)]; rfl
      · rw [if_neg h1, if_neg (by omega), if_neg (by omega)]; rfl
/-- Bytes go through, piece by piece. -/
theorem fed_thru {g1 : GateS} (ok : GOk g1) {i : Nat} (hi : g1.conns[i]? = some ⟨1, 0, 2, [], false, false⟩) {b : List UInt8} {raw : List Int} {k : Nat} {g : GateS} {s : List UInt8} {out : List EvS} (h : FedTo 1 raw g1 b k g s out) :
    g = g1 ∧ ∃ m, m ≤ b.length ∧ s = b.drop m ∧ textS 3 out = b.take m ∧ bulkS out = m ∧ out.length ≤ m := by
  induction h with
  | start => exact ⟨rfl, 0, Nat.zero_le _, rfl, rfl, rfl, Nat.le_refl _⟩
  | @step k g s out i' c hto hne hi' hn' ih =>
    obtain ⟨rfl, m, hm, hs, ho, hb, hlen⟩ := ih
    have hii : i' = i := ok.nums i' i _ _ hi' hi (by show c.num = 1; omega)
    subst hii
    rw [hi] at hi'
    cases hi'
    obtain ⟨hp1, hp2⟩ := pieceN_le s.length raw[k]?
    have hp := hp2 (List.length_pos_iff.2 hne)
    generalize pieceN s.length raw[k]? = p at *
    have hcl : clientAt g i' ⟨1, 0, 2, [], false, false⟩ (s.take p) = (g, sendS 3 1 (s.take p)) := by
      show (g.upd i' ⟨1, 0, 2, [], false, false⟩, _) = _
      rw [upd_same hi]
      rfl
    rw [hcl]
    have hsl : s.length = b.length - m := by rw [hs, List.length_drop]
    have hse : sendS 3 1 (s.take p) = [⟨3, 1, s.take p, 0⟩] := by
      unfold sendS
      rw [if_neg]
      intro e
      have := congrArg List.length (List.isEmpty_iff.1 e)
      rw [List.length_take, List.length_nil] at this
      omega
    refine ⟨rfl, m + p, by omega, by rw [hs, List.drop_drop], ?_, ?_, ?_⟩
    · rw [textS_append, textS_send, if_pos rfl, ho, hs]
      exact List.take_add.symm
    · have h1 : bulkS [(⟨3, 1, s.take p, 0⟩ : EvS)] = (s.take p).length := by simp [bulkS]
      rw [bulkS_append, hb, hse, h1, List.length_take]
      omega
    · rw [List.length_append, hse]
      show out.length + 1 ≤ m + p
      omega

/-- The question behind the statement's numbers. -/
def qT (who whr prt : Int) : AskR := ⟨who, ((pickN whr 6 : Nat) : Int), prt, 0⟩
theorem pick_small (k n : Nat) (h : k < n) : pickN (k : Int) n = k := by
  unfold pickN
  rw [if_neg (by omega), Int.toNat_natCast]
  exact Nat.mod_eq_of_lt h
theorem qT_host (who whr prt : Int) : hostT (qT who whr prt) = nameS (pickN whr 6) := by
  have h6 := pickN_lt whr (n := 6) (by decide)
  unfold hostT qT
  rw [pick_small _ 12 (by omega), if_pos h6]
def headU (n who whr prt : Int) : List UInt8 := headT (pickN who 3) (wordT n (pickN who 3)) (nameS (pickN whr 6)) (pickN prt 65536)
theorem headU_eq (n who whr prt : Int) : headT (pickN (qT who whr prt).who 3) (secT n (qT who whr prt) false) (hostT (qT who whr prt)) (pickN (qT who whr prt).prt 65536) = headU n who whr prt := by
  rw [qT_host]; rfl
theorem headU_judge (n who whr prt : Int) : judgeS (gateT l1 n 0).rules (gateT l1 n 0).tens (gateT l1 n 0).minute (headU n who whr prt) = .ok (nameS (pickN whr 6), pickN prt 65536) := by
  have := guard_made l1 (qT who whr prt) n false
  rw [headU_eq, l1_guard, qT_host] at this
  exact this
theorem headU_short (n who whr prt : Int) : (headU n who whr prt).length < 1000 := by
  have := head_short (qT who whr prt) n false
  rw [headU_eq] at this
  exact this
theorem headU_body (n who whr prt : Int) : headU n who whr prt = bodyOf (nameS (pickN whr 6)) (pickN prt 65536) (b64 (tenantS (pickN who 3) ++ [58] ++ wordT n (pickN who 3))) ++ endB := headT_body _ _ _ _
theorem headU_ne (n who whr prt : Int) : headU n who whr prt ≠ [] := by
  rw [headU_body]
  intro e
  have := congrArg List.length e
  simp [endB] at this
theorem headU_cut (n who whr prt : Int) : cutHead (headU n who whr prt) = some (headU n who whr prt, []) ∧ ∀ m, m < (headU n who whr prt).length → cutHead ((headU n who whr prt).take m) = none := by
  have h := headU_short n who whr prt
  have ho : HostOk (nameS (pickN whr 6)) := by rw [← qT_host who whr prt]; exact hostT_ok _
  rw [headU_body] at h ⊢
  exact cut_made ho _ (b64_bytes _) h

/-- The statement's gateway, with one connection. -/
def thG (n : Int) (c : ConnS) : GateS := { gateT l1 n 0 with last := 1, conns := [c] }
theorem thG_ok {n : Int} {c : ConnS} (hc : c.num = 1) : GOk (thG n c) := by
  refine ⟨by simp [thG], by simp [thG, gateT, tensT, usersT], nodup_nums (by simp [thG]), fun d hd => ?_, by simp [thG]⟩
  simp only [thG, List.mem_singleton] at hd
  rw [hd, hc]
  exact Nat.le_refl _
theorem thG_only {n : Int} {c d : ConnS} {k : Nat} (hk : (thG n c).conns[k]? = some d) : k = 0 ∧ d = c := by
  cases k with
  | zero => cases hk; exact ⟨rfl, rfl⟩
  | succ k => simp [thG] at hk

theorem th_new {w x : World} {n : Int} {g : Nat} (hu : UsAt n g x) (hx : Q w x) :
    Calls Tryz.prog 13 #[.string ⟨#[97, 108, 108, 111, 119, 32, 42, 32, 42, 32, 42, 32, 42, 10]⟩, .slice (some ⟨g, 0, none⟩) 3 3, .int .i64 0] x fun e w' => ∃ gb, e = .returned (.tuple #[ptr gb, .int .i64 0, .int .i64 0]) ∧ ∃ o gws rows, Hold w w' o gws rows ∧ gws 0 = some (gb, gateT l1 n 0) ∧ GOk (gateT l1 n 0) := by
  refine ((Hold.start hx).new (i := 0) rfl ⟨starB.toArray⟩ (usersT n) _ _ (by rw [mk_size]; decide) hu.pairs (by simp [usersT])).mono ?_
  have hl := l1_new n 0 (by decide)
  rintro e w' (⟨en, ln, h1, _⟩ | ⟨G, gb, o', h1, rfl, hh, hok, hq⟩)
  · rw [show (⟨starB.toArray⟩ : ByteArray).data.toList = starB from rfl] at h1
    rw [show ((0 : Nat) : Int) = 0 from rfl, h1] at hl
    cases hl
  · rw [show (⟨starB.toArray⟩ : ByteArray).data.toList = starB from rfl] at h1
    rw [show ((0 : Nat) : Int) = 0 from rfl, h1] at hl
    cases hl
    exact ⟨gb, rfl, o', _, _, hh, put_at _ _ _, hok⟩
/-- The head and what comes behind it. -/
theorem th_first {w x : World} {o : Ow} {gws : Gws} {rows : Rws} (h : Hold w x o gws rows) {gb : Nat} {n who whr prt : Int} (hg : gws 0 = some (gb, (gateT l1 n 0).accept)) (hm : ML w) (S : ByteArray) (a : List UInt8) (hS : S.data.toList = headU n who whr prt ++ a) (hz : a.length ≤ 1048576) (rv : Value) (raw : List Int) (hr : IntsAt w rv raw) :
    Calls Tryz.prog 19 #[ptr gb, .int .i64 1, .string S, rv] x fun e w' => ∃ v o' gws' rows', e = .returned (.tuple #[v, .bool true]) ∧ Hold w w' o' gws' rows' ∧ gws' 0 = some (gb, thG n ⟨1, 0, 1, a, false, false⟩) ∧ w'.ownsRow w.heap.size 48 4 v 1 (evVals [⟨1, 1, nameS (pickN whr 6), ((pickN prt 65536 : Nat) : Int)⟩]) := by
  have hsh := headU_short n who whr prt
  have hSz : S.size ≤ 1049576 := by rw [← size_len, hS, List.length_append]; omega
  have h1c : ∀ c ∈ (gateT l1 n 0).accept.conns, c = ⟨1, 0, 0, [], false, false⟩ := fun c hc => by simpa [gateT, GateS.accept] using hc
  have hpos : 0 < (headU n who whr prt).length := List.length_pos_iff.2 (headU_ne n who whr prt)
  refine (h.fed hg (gateT_ok l1 n 0) (fun c hc => by rw [h1c c hc]) 1 S rv raw (ints_low hr h.q) (fun c hc => by rw [h1c c hc]; show 0 + S.size ≤ _; omega) (by omega) hm 0).mono ?_
  rintro e w' ⟨k, g, s, out, v, o', hto, hh, hend⟩
  rw [hS] at hto
  obtain ⟨hc1, hc2⟩ := headU_cut n who whr prt
  have hx0 : xAt (headU n who whr prt) a 0 = ⟨1, 0, 0, [], false, false⟩ := by unfold xAt; rw [if_pos hpos, List.take_zero]
  obtain ⟨m, hml, hs, hgm, ho⟩ := fed_x (i := 0) (a := a) (gateT_ok l1 n 0) (by rw [hx0]; rfl) (headU_judge n who whr prt) hsh (headU_ne n who whr prt) hc1 hc2 hto
  rcases hend with ⟨hs0, rfl⟩ | ⟨_, hno, _⟩
  · have hme : m = (headU n who whr prt ++ a).length := by
      rw [hs] at hs0
      have := congrArg List.length hs0
      rw [List.length_drop, List.length_nil] at this
      omega
    have hge : ¬ m < (headU n who whr prt).length := by rw [hme, List.length_append]; omega
    have hxm : xAt (headU n who whr prt) a m = ⟨1, 0, 1, a, false, false⟩ := by
      unfold xAt
      rw [if_neg hge, hme, List.length_append, Nat.add_sub_cancel_left, List.take_length]
    rw [hgm, hxm] at hh
    rw [if_neg hge] at ho
    have hrow := (hh.row 0 _ (put_at _ _ _)).1
    refine ⟨v, o', _, _, rfl, hh, put_at _ _ _, ?_⟩
    rw [ho] at hrow
    exact hrow
  · refine absurd ?_ (hno (xAt (headU n who whr prt) a m) (by rw [hgm]; exact List.mem_of_getElem? (upd_get (c := ⟨1, 0, 0, [], false, false⟩) rfl)))
    rw [xAt_num]; rfl

/-- In the midst of the statement 'Through': the host has answered. -/
structure ThAt (w : World) (gb : Nat) (n : Int) (dv : Value) (D : List EvS) (U : List UInt8) (L : Nat) (av : Value) (wr : World) : Prop where
  ex : ∃ (o : Ow) (gws : Gws) (rows : Rws) (A : List EvS), Hold w wr o gws rows ∧ gws 0 = some (gb, thG n ⟨1, 0, 2, [], false, false⟩) ∧ rows 1 = some (dv, D) ∧ rows 3 = some (av, A) ∧ textS 3 A = U ∧ bulkS A ≤ L ∧ A.length ≤ L
theorem ThAt.q {w : World} {gb : Nat} {n : Int} {dv : Value} {D : List EvS} {U : List UInt8} {L : Nat} {av : Value} {wr : World} (h : ThAt w gb n dv D U L av wr) : Q w wr := by
  obtain ⟨o, gws, rows, A, hh, _⟩ := h.ex
  exact hh.q
theorem ThAt.form {w : World} {gb : Nat} {n : Int} {dv : Value} {D : List EvS} {U : List UInt8} {L : Nat} {av : Value} {wr : World} (h : ThAt w gb n dv D U L av wr) : ∃ a k c, av = .slice a k c := by
  obtain ⟨o, gws, rows, A, hh, _, _, hr, _⟩ := h.ex
  obtain ⟨a, c, e⟩ := hh.form hr
  exact ⟨a, _, c, e⟩
theorem ThAt.stays {w : World} {gb : Nat} {n : Int} {dv : Value} {D : List EvS} {U : List UInt8} {L : Nat} {av : Value} {wr w' : World} (h : ThAt w gb n dv D U L av wr) (q : Q wr w') : ThAt w gb n dv D U L av w' := by
  obtain ⟨o, gws, rows, A, hh, h2⟩ := h.ex
  exact ⟨o, gws, rows, A, hh.stays q, h2⟩
/-- The host's answer. -/
theorem th_dialed {w x : World} {o : Ow} {gws : Gws} {rows : Rws} (h : Hold w x o gws rows) {gb : Nat} {n : Int} {a : List UInt8} (hg : gws 0 = some (gb, thG n ⟨1, 0, 1, a, false, false⟩)) (hz : a.length ≤ 1048576) :
    Calls Tryz.prog 24 #[ptr gb, .int .i64 1, .bool true] x fun e w' => ∃ da dc o' gws' rows', e = .returned (.tuple #[.slice da (⟨2, 1, goB, 0⟩ :: sendS 3 1 a : List EvS).length dc, .int .i64 0]) ∧ Hold w w' o' gws' rows' ∧ gws' 0 = some (gb, thG n ⟨1, 0, 2, [], false, false⟩) ∧ rows' 1 = some (.slice da (⟨2, 1, goB, 0⟩ :: sendS 3 1 a : List EvS).length dc, ⟨2, 1, goB, 0⟩ :: sendS 3 1 a) := by
  refine (h.dialed hg (thG_ok rfl) (fun c hc => ?_) 1 true 1).mono ?_
  · simp only [thG, List.mem_singleton] at hc
    rw [hc]
    show a.length ≤ _
    omega
  · rintro e w' (⟨k, c, v, o', hk, hn, hp, rfl, hh⟩ | ⟨hno, _⟩)
    · obtain ⟨rfl, rfl⟩ := thG_only hk
      obtain ⟨da, dc, rfl⟩ := hh.form (put_at _ _ _)
      exact ⟨da, dc, o', _, _, rfl, hh, put_at _ _ _, put_at _ _ _⟩
    · exact absurd rfl (hno ⟨1, 0, 1, a, false, false⟩ (by simp [thG]) rfl)
set_option maxRecDepth 100000 in
/-- What comes behind that, and all lists put together. -/
theorem th_second {w x : World} {o : Ow} {gws : Gws} {rows : Rws} (h : Hold w x o gws rows) {gb : Nat} {n : Int} {dv : Value} {a : List UInt8} (hg : gws 0 = some (gb, thG n ⟨1, 0, 2, [], false, false⟩)) (hd : rows 1 = some (dv, ⟨2, 1, goB, 0⟩ :: sendS 3 1 a)) (hm : ML w) (S : ByteArray) (hz : a.length + S.size ≤ 1048576) (rv : Value) (raw : List Int) (hr : IntsAt w rv raw) :
    Calls Tryz.prog 19 #[ptr gb, .int .i64 1, .string S, rv] x fun e w' => ∃ ma mk mc v4 w4 v5 w5, e = .returned (.tuple #[.slice ma mk mc, .bool true]) ∧ (Builtin.append_ #[41, 41] 41 #[.slice none 0 0, dv]).run Tryz.prog w' = .ok v4 w4 ∧ (Builtin.append_ #[41, 41] 41 #[v4, .slice ma mk mc]).run Tryz.prog w4 = .ok v5 w5 ∧ (∃ a k c, v4 = .slice a k c) ∧ ThAt w gb n dv (⟨2, 1, goB, 0⟩ :: sendS 3 1 a) (a ++ S.data.toList) 1048600 v5 w5 := by
  have h1c : ∀ c ∈ (thG n ⟨1, 0, 2, [], false, false⟩).conns, c = ⟨1, 0, 2, [], false, false⟩ := fun c hc => by simpa [thG] using hc
  refine (h.fed hg (thG_ok rfl) (fun c hc => by rw [h1c c hc]) 1 S rv raw (ints_low hr h.q) (fun c hc => by rw [h1c c hc]; show 0 + S.size ≤ _; omega) (by omega) hm 2).mono ?_
  rintro e w' ⟨k, g, s, out, v, o', hto, hh, hend⟩
  obtain ⟨rfl, m, hml, hs, ht, hb, hlen⟩ := fed_thru (i := 0) (thG_ok rfl) rfl hto
  rcases hend with ⟨hs0, rfl⟩ | ⟨_, hno, _⟩
  · have hme : m = S.data.toList.length := by
      rw [hs] at hs0
      have := congrArg List.length hs0
      rw [List.length_drop, List.length_nil] at this
      omega
    rw [hme, List.take_length] at ht
    rw [size_len] at hme
    obtain ⟨ma, mc, rfl⟩ := hh.form (put_at _ _ _)
    have hl1 : (sendS 3 1 a).length ≤ 1 := by unfold sendS; split <;> simp
    have hbd : bulkS (⟨2, 1, goB, 0⟩ :: sendS 3 1 a) ≤ 19 + a.length := by
      have h2 : bulkS (sendS 3 1 a) ≤ a.length := by unfold sendS; split <;> simp [bulkS]
      show goB.length + bulkS (sendS 3 1 a) ≤ _
      have : goB.length = 19 := rfl
      omega
    obtain ⟨o1, hh1⟩ := hh.addRow 3 (v := .slice none 0 0) (l := []) ⟨rfl, .inl ⟨rfl, rfl⟩⟩ (fun k hk => by cases hk)
    obtain ⟨v4, w4, o4, hrun4, hh4⟩ := hh1.append (j := 3) (j2 := 1) (pv := .slice none 0 0) (P := []) (put_at _ _ _) (by rw [put_ne _ _ (by decide), put_ne _ _ (by decide)]; exact hd) (by simp; omega)
    obtain ⟨v5, w5, o5, hrun5, hh5⟩ := hh4.append (j := 3) (j2 := 2) (put_at _ _ _) (by rw [put_ne _ _ (by decide), put_ne _ _ (by decide), put_at]) (by simp; omega)
    have hf4 := hh4.form (put_at _ _ _)
    refine ⟨ma, _, mc, v4, w4, v5, w5, rfl, hrun4, hrun5, ?_, ⟨o5, _, _, _, hh5, put_at _ _ _, ?_, put_at _ _ _, ?_, ?_, ?_⟩⟩
    · obtain ⟨a4, c4, e4⟩ := hf4
      exact ⟨a4, _, c4, e4⟩
    · rw [put_ne _ _ (by decide), put_ne _ _ (by decide), put_ne _ _ (by decide), put_ne _ _ (by decide)]
      exact hd
    · rw [List.nil_append, textS_append, ht]
      congr 1
      show [] ++ textS 3 (sendS 3 1 a) = a
      rw [textS_send, if_pos rfl, List.nil_append]
    · rw [List.nil_append, bulkS_append, hb]
      omega
    · rw [List.nil_append, List.length_append]
      simp only [List.length_cons]
      omega
  · exact absurd rfl (hno ⟨1, 0, 2, [], false, false⟩ (by simp [thG]))
/-- A piece of the host's. -/
theorem th_host {w : World} {gb : Nat} {n : Int} {dv : Value} {D : List EvS} {U : List UInt8} {L : Nat} {av : Value} {wr : World} (h : ThAt w gb n dv D U L av wr) (x : ByteArray) (hx : x.data.toList ≠ []) (hL : L + x.size ≤ 1000000000) :
    Calls Tryz.prog 26 #[ptr gb, .int .i64 1, .string x] wr fun e w' => ∃ ha hc vo vn vc w4, e = .returned (.tuple #[.slice ha 1 hc, .int .i64 0]) ∧ (Builtin.append_ #[41, 41] 41 #[av, .slice ha 1 hc]).run Tryz.prog w' = .ok (.slice vo vn vc) w4 ∧ w4.ownsRow w.heap.size 48 4 (.slice ha 1 hc) ([⟨2, 1, x.data.toList, 0⟩] : List EvS).length (evVals [⟨2, 1, x.data.toList, 0⟩]) ∧ ThAt w gb n dv D U (L + x.size) (.slice vo vn vc) w4 := by
  obtain ⟨o, gws, rows, A, hh, hg, h1, h3, ht, hb, hlen⟩ := h.ex
  have hpos : 0 < x.size := by rw [← size_len]; exact List.length_pos_iff.2 hx
  have hse : sendS 2 1 x.data.toList = [⟨2, 1, x.data.toList, 0⟩] := by
    unfold sendS
    rw [if_neg (fun e => hx (List.isEmpty_iff.1 e))]
  refine (hh.host hg (thG_ok rfl) 1 x (by omega) 4).mono ?_
  rintro e w' (⟨k, c, v, o', hk, hn, hp, rfl, hh'⟩ | ⟨hno, _⟩)
  · obtain ⟨rfl, rfl⟩ := thG_only hk
    have hh2 : Hold w w' o' (put gws 0 (gb, thG n ⟨1, 0, 2, [], false, false⟩)) (put rows 4 (v, [⟨2, 1, x.data.toList, 0⟩])) := by rw [← hse]; exact hh'
    obtain ⟨ha, hc, rfl⟩ := hh2.form (put_at _ _ _)
    obtain ⟨v4, w4, o4, hrun4, hh4⟩ := hh2.append (j := 3) (j2 := 4) (by rw [put_ne _ _ (by decide)]; exact h3) (put_at _ _ _) (by simp; omega)
    obtain ⟨vo, vc, rfl⟩ := hh4.form (put_at _ _ _)
    refine ⟨ha, hc, vo, _, vc, w4, rfl, hrun4, (hh4.row 4 _ (by rw [put_ne _ _ (by decide), put_at])).1, ⟨o4, _, _, _, hh4, put_at _ _ _, ?_, put_at _ _ _, ?_, ?_, ?_⟩⟩
    · rw [put_ne _ _ (by decide), put_ne _ _ (by decide)]; exact h1
    · rw [textS_append, ht]
      show U ++ textS 3 [⟨2, 1, x.data.toList, 0⟩] = U
      simp [textS]
    · rw [bulkS_append]
      have : bulkS [(⟨2, 1, x.data.toList, 0⟩ : EvS)] = x.size := by rw [← size_len]; simp [bulkS]
      omega
    · rw [List.length_append]
      simp only [List.length_cons, List.length_nil]
      omega
  · exact absurd ⟨rfl, rfl⟩ (hno ⟨1, 0, 2, [], false, false⟩ (by simp [thG]) rfl)
/-- Both ends. -/
theorem th_ends1 {w : World} {gb : Nat} {n : Int} {dv : Value} {D : List EvS} {U : List UInt8} {L : Nat} {av : Value} {wr : World} (h : ThAt w gb n dv D U L av wr) :
    Calls Tryz.prog 28 #[ptr gb, .int .i64 1] wr fun e w' => ∃ aa ac o gws rows A, e = .returned (.tuple #[.slice aa 1 ac, .int .i64 0]) ∧ Hold w w' o gws rows ∧ gws 0 = some (gb, thG n ⟨1, 0, 2, [], true, false⟩) ∧ rows 1 = some (dv, D) ∧ rows 3 = some (av, A) ∧ (textS 3 A = U ∧ bulkS A ≤ L ∧ A.length ≤ L) ∧ rows 5 = some (.slice aa 1 ac, [⟨5, 1, [], 0⟩]) := by
  obtain ⟨o, gws, rows, A, hh, hg, h1, h3, ht⟩ := h.ex
  refine (hh.endClient hg (thG_ok rfl) (fun c hc => ?_) 1 5).mono ?_
  · simp only [thG, List.mem_singleton] at hc
    rw [hc]
    exact ⟨by simp, by simp, by simp, fun h => absurd rfl h⟩
  · rintro e w' (⟨k, c, v, o', hk, hn, hp, rfl, hh'⟩ | ⟨hno, _⟩)
    · obtain ⟨rfl, rfl⟩ := thG_only hk
      obtain ⟨aa, ac, rfl⟩ := hh'.form (put_at _ _ _)
      exact ⟨aa, ac, o', _, _, A, rfl, hh', put_at _ _ _, by rw [put_ne _ _ (by decide)]; exact h1, by rw [put_ne _ _ (by decide)]; exact h3, ht, put_at _ _ _⟩
    · exact absurd rfl (hno ⟨1, 0, 2, [], false, false⟩ (by simp [thG]) rfl)
theorem th_ends2 {w wr : World} {o : Ow} {gws : Gws} {rows : Rws} (hh : Hold w wr o gws rows) {gb : Nat} {n : Int} (hg : gws 0 = some (gb, thG n ⟨1, 0, 2, [], true, false⟩)) :
    Calls Tryz.prog 29 #[ptr gb, .int .i64 1] wr fun e w' => ∃ aa ac o', e = .returned (.tuple #[.slice aa 1 ac, .int .i64 0]) ∧ Hold w w' o' (put gws 0 (gb, (thG n ⟨1, 0, 2, [], true, false⟩).drop 1)) (put rows 6 (.slice aa 1 ac, [⟨4, 1, [], 0⟩])) := by
  refine (hh.endHost hg (thG_ok rfl) 1 6).mono ?_
  rintro e w' (⟨k, c, v, o', hk, hn, hp, rfl, hh'⟩ | ⟨hno, _⟩)
  · obtain ⟨rfl, rfl⟩ := thG_only hk
    obtain ⟨aa, ac, rfl⟩ := hh'.form (put_at _ _ _)
    exact ⟨aa, ac, o', rfl, hh'⟩
  · exact absurd ⟨rfl, rfl⟩ (hno ⟨1, 0, 2, [], true, false⟩ (by simp [thG]) rfl)
theorem th_over {w wr : World} {o : Ow} {gws : Gws} {rows : Rws} (hh : Hold w wr o gws rows) {gb : Nat} {n : Int} (hg : gws 0 = some (gb, (thG n ⟨1, 0, 2, [], true, false⟩).drop 1)) :
    Calls Tryz.prog 26 #[ptr gb, .int .i64 1, .string ⟨#[120]⟩] wr fun e w' => w' = wr ∧ e = .returned (.tuple #[.slice none 0 0, .int .i64 7]) := by
  refine (hh.host hg ((thG_ok rfl).drop 1) 1 ⟨#[120]⟩ (by decide) 7).mono ?_
  rintro e w' (⟨k, c, v, o', hk, _⟩ | ⟨_, h1, h2⟩)
  · have : ((thG n ⟨1, 0, 2, [], true, false⟩).drop 1).conns = [] := rfl
    rw [this] at hk
    simp at hk
  · exact ⟨h1, h2⟩
end Go.Proofs.YtdmaffciijmdcaaGreatDoor

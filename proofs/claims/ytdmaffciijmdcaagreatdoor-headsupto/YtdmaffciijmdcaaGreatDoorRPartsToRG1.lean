/-
  The document's answer: a text cut at each byte.
-/
import Derived.Test.YtdmaffciijmdcaaGreatDoorDecideToRowE
import Derived.Deep.AppendLies
import Derived.OwnWalk
import Derived.Deep.QuietTactic
import Derived.BigQuiet
import Derived.Deep.DeepCutAuto
import Derived.Deep.CutBlock
import Derived.Deep.RegionWith
import Derived.Deep.RegionHeld3
import Derived.Test.YtdmaffciijmdcaaGreatDoorRowTToLeaf
namespace Go.Proofs.YtdmaffciijmdcaaGreatDoor
namespace Plain
theorem parts_first0 {c : UInt8} {a b : List UInt8} (h : c ∉ a) : parts c (a ++ c :: b) = a :: parts c b := by
  rw [parts_cut, cutAt_some.2 ⟨rfl, h⟩]
theorem parts_alone0 {c : UInt8} {a : List UInt8} (h : c ∉ a) : parts c a = [a] := by
  rw [parts_cut, cutAt_none.2 h]
theorem str_drop0 (T : List UInt8) (k : Nat) : (⟨T.toArray⟩ : ByteArray).extract k T.length = ⟨(T.drop k).toArray⟩ := by
  apply ByteArray.ext; rw [ByteArray.data_extract]; simp
  rw [List.take_of_length_le (by simp)]
theorem upto320 {b : Nat} (h : b < 33) : b = 0 ∨ b = 1 ∨ b = 2 ∨ b = 3 ∨ b = 4 ∨ b = 5 ∨ b = 6 ∨ b = 7 ∨ b = 8 ∨ b = 9 ∨ b = 10 ∨ b = 11 ∨ b = 12 ∨ b = 13 ∨ b = 14 ∨ b = 15 ∨ b = 16 ∨ b = 17 ∨ b = 18 ∨ b = 19 ∨ b = 20 ∨ b = 21 ∨ b = 22 ∨ b = 23 ∨ b = 24 ∨ b = 25 ∨ b = 26 ∨ b = 27 ∨ b = 28 ∨ b = 29 ∨ b = 30 ∨ b = 31 ∨ b = 32 := by omega
theorem str_app0 (a b : List UInt8) : (⟨a.toArray⟩ : ByteArray) ++ (⟨b.toArray⟩ : ByteArray) = ⟨(a ++ b).toArray⟩ := by
  apply ByteArray.ext
  rw [ByteArray.data_append]
  simp
def oct0 (a : Nat) : List Nat := [a / 16777216, a / 65536 % 256, a / 256 % 256, a % 256]
theorem nil_not_suffix0 (l : List UInt8) (c : UInt8) : Lib.hasSuffix [] (c :: l) = false := by simp [Lib.hasSuffix]
theorem firstN_block0 (b q A : Nat) (hb : b < 33) (hq : q < 4294967296) (hA : A < 4294967296) :
    (firstN b (oct0 q) = oct0 (A / 2 ^ (32 - b) * 2 ^ (32 - b))) ↔ q / 2 ^ (32 - b) = A / 2 ^ (32 - b) := by
  unfold oct0 firstN keep
  rcases upto320 hb with h | h | h | h | h | h | h | h | h | h | h | h | h | h | h | h | h | h | h | h | h | h | h | h | h | h | h | h | h | h | h | h | h <;> subst h <;> simp <;> omega
theorem mem_parts0 {s c : UInt8} : ∀ {l : List UInt8}, c ∈ l → c = s ∨ ∃ p ∈ parts s l, c ∈ p
  | b :: l, h => by
    rw [parts]
    by_cases hb : b = s
    · rw [if_pos hb]
      rcases List.mem_cons.1 h with h | h
      · exact .inl (h.trans hb)
      · rcases mem_parts0 (s := s) h with h | ⟨p, hp, hc⟩
        · exact .inl h
        · exact .inr ⟨p, List.mem_cons_of_mem _ hp, hc⟩
    · rw [if_neg hb]
      cases hp : parts s l with
      | nil => exact absurd hp (parts_ne _ _)
      | cons q qs =>
        rcases List.mem_cons.1 h with h | h
        · exact .inr ⟨b :: q, by simp, by rw [h]; simp⟩
        · rcases mem_parts0 (s := s) h with h | ⟨p, hpp, hc⟩
          · exact .inl h
          · rw [hp] at hpp
            rcases List.mem_cons.1 hpp with e | e
            · exact .inr ⟨b :: q, by simp, by rw [← e]; exact List.mem_cons_of_mem _ hc⟩
            · exact .inr ⟨p, List.mem_cons_of_mem _ e, hc⟩
end Plain
open Go.RowKit Plain

/-- A list of strings in memory. -/
def StrsAt (w : World) (v : Value) (l : List (List UInt8)) : Prop :=
  ∃ g cap, v = .slice (some ⟨g, 0, none⟩) l.length cap ∧ ∀ i s, l[i]? = some s → w.cell? ⟨g, i, none⟩ = some (.string ⟨s.toArray⟩)
theorem StrsAt.stays {w w' : World} {v : Value} {l : List (List UInt8)} (h : StrsAt w v l) (q : Q w w') : StrsAt w' v l := by
  obtain ⟨g, cap, h1, h2⟩ := h
  exact ⟨g, cap, h1, fun i s hi => q.cell (h2 i s hi)⟩

def strVs (l : List (List UInt8)) : List Value := l.map fun s => .string ⟨s.toArray⟩
theorem strVs_snoc (l : List (List UInt8)) (s : List UInt8) : strVs l ++ [.string ⟨s.toArray⟩] = strVs (l ++ [s]) := by simp [strVs]
theorem strVs_len (l : List (List UInt8)) : (strVs l).length = l.length := by simp [strVs]

/-- A row that is owned, read. -/
theorem owned_cell {w : World} {base : Nat} {e : TypeId} {g n cap : Nat} {xs : List Value} (h : w.ownsRow base e 1 (.slice (some ⟨g, 0, none⟩) n cap) n xs) (i : Nat) (u : Value) (hi : xs[i]? = some u) : w.cell? ⟨g, i, none⟩ = some u := by
  obtain ⟨h1, h2⟩ := h
  rcases h2 with ⟨h2, _⟩ | ⟨g', cap', cur, hv, _, hg, _, _, _, ht⟩
  · cases h2
  · cases hv
    rw [Nat.mul_one] at h1 ht
    have hin : i < n := by have := (List.getElem?_eq_some_iff.1 hi).1; omega
    simp only [World.cell?, hg]
    rw [← ht, List.getElem?_take_of_lt hin] at hi
    simpa using hi
theorem owned_strs {w : World} {base g n cap : Nat} {e : TypeId} {l : List (List UInt8)} (hn : n = l.length) (h : w.ownsRow base e 1 (.slice (some ⟨g, 0, none⟩) n cap) n (strVs l)) : StrsAt w (.slice (some ⟨g, 0, none⟩) n cap) l :=
  ⟨g, cap, by rw [hn], fun i s hi => owned_cell h i _ (by simp [strVs, hi])⟩

section
variable {P : Program}
/-- One element of one cell is appended to a row that the call made. -/
theorem append_one {ops : Array Oper} {rest : List Oper} {o : Oper} {a : Act} {Q' : Exit → Act → World → Prop} (hgd : o.guard = none) (s x : Operand) (t : TypeId)
    (ho : o.op = .call { callee := .builtin .append, args := #[s, x], argTypes := #[t, t] })
    (e : TypeId) (i : TypeInfo) (z : Value) (bytes : Nat) (ht : P.underlying t = some (.slice e)) (hi : P.info? e = some i) (hz : i.zero = some z)
    (hsize : i.size = 1) (hby : i.bytes = bytes) (hzs : z.cells.size = 1) (v : Value) (xs : List Value) (u : Value) (B : Nat) (wr : World) (hs : a.eval s = v) (hx : a.eval x = .slice (some ⟨wr.heap.size, 0, none⟩) 1 1)
    (hown : wr.ownsRow B e 1 v xs.length xs) (h1 : u.oneCell' = true) (hl : xs.length ≤ 8388608) (hbb : bytes ≤ 64) (hB : B ≤ wr.heap.size)
    (h : ∀ g cap w', w'.ownsRow B e 1 (.slice (some ⟨g, 0, none⟩) (xs.length + 1) cap) (xs.length + 1) (xs ++ [u]) → Below B wr w' → (wr.alloc (.cells #[u] e)).grownBy w' v.ownBlock → (v.ownBlock = some g ∨ g = wr.heap.size + 1) → g < w'.heap.size →
      wpList P ops Q' rest (a.put o.dst (.slice (some ⟨g, 0, none⟩) (xs.length + 1) cap)) w') : wpList P ops Q' (o :: rest) a (wr.alloc (.cells #[u] e)) := by
  have hq : Q wr (wr.alloc (.cells #[u] e)) := (Q.refl _).alloc _
  refine wpList_append_lies _ hgd s x t ho B e i z 1 bytes ht hi hz hsize hby hzs (by decide) v xs.length xs hs (owns_Q hown hq) ⟨wr.heap.size, 0, none⟩ 1 1 [u] hx rfl ?_ ?_ (by decide) ?_ ?_ ?_ (wr.heap.size + 1) (by simp) ?_
  · intro j u' hj
    have : j = 0 := by
      have := (List.getElem?_eq_some_iff.1 hj).1
      simp at this; exact this
    subst this
    cases hj
    simp [go_sem, Addr.add]
  · intro u' hu
    rw [List.mem_singleton.1 hu]; exact h1
  · unfold maxLen; omega
  · have : (xs.length + 1) * bytes ≤ (xs.length + 1) * 64 := Nat.mul_le_mul_left _ hbb
    omega
  · simp; omega
  · intro g cap w' ho' hg hat hlt
    exact h g cap w' ho' ((hq.mono hB).grown hg (by simp; omega) (fun k hk => (owns_lt hown k hk).1)) hg hat hlt
end

theorem mid_str (T : List UInt8) (a b : Nat) : (⟨T.toArray⟩ : ByteArray).extract a b = ⟨((T.take b).drop a).toArray⟩ := by
  apply ByteArray.ext; rw [ByteArray.data_extract]; simp [List.drop_take]

/-- One more piece. -/
theorem parts_piece {T done : List UInt8} {c : UInt8} {pre : List (List UInt8)} {a k : Nat} (hak : a ≤ k) (hk : T[k]? = some c) (hno : c ∉ (T.take k).drop a) (h : parts c T = pre ++ parts c (T.drop a)) (_hd : done = (T.take k).drop a) :
    parts c T = (pre ++ [(T.take k).drop a]) ++ parts c (T.drop (k + 1)) := by
  obtain ⟨hlt, hc⟩ := List.getElem?_eq_some_iff.1 hk
  have e : T.drop a = (T.take k).drop a ++ c :: T.drop (k + 1) := by
    conv => lhs; rw [← List.take_append_drop k T]
    rw [List.drop_append_of_le_length (by simp; omega), ← List.getElem_cons_drop hlt, hc]
  rw [h, e, parts_first0 hno]
  simp
theorem parts_end {T : List UInt8} {c : UInt8} {pre : List (List UInt8)} {a : Nat} (hno : c ∉ (T.take T.length).drop a) (h : parts c T = pre ++ parts c (T.drop a)) : parts c T = pre ++ [T.drop a] := by
  rw [List.take_of_length_le (Nat.le_refl _)] at hno
  rw [h, parts_alone0 hno]
theorem not_more {T : List UInt8} {c b : UInt8} {a k : Nat} (hak : a ≤ k) (hk : T[k]? = some b) (hb : b ≠ c) (hno : c ∉ (T.take k).drop a) : c ∉ (T.take (k + 1)).drop a := by
  obtain ⟨hlt, rfl⟩ := List.getElem?_eq_some_iff.1 hk
  rw [List.take_succ_eq_append_getElem hlt, List.drop_append_of_le_length (by simp; omega), List.mem_append]
  rintro (h | h)
  · exact hno h
  · exact hb (List.mem_singleton.1 h).symm
theorem none_yet (T : List UInt8) (c : UInt8) (k : Nat) : c ∉ (T.take k).drop k := by
  rw [List.drop_of_length_le (by simp; omega)]; simp

set_option maxRecDepth 100000 in
set_option maxHeartbeats 1600000 in
theorem rparts_fresh (T : List UInt8) (c : UInt8) (w : World) (hT : T.length ≤ 4194304) :
    Calls Tryz.prog 106 #[.string ⟨T.toArray⟩, .int .u8 c.toNat] w fun e w' => ∃ v, e = .returned v ∧ StrsAt w' v (parts c T) ∧ Q w w' ∧ ∀ k, v.ownBlock = some k → New w w' k := by
  have hsz : (⟨T.toArray⟩ : ByteArray).size = T.length := rfl
  go_enter Tryz.func106, Tryz.ntmps106
  go_wp2_with fail
  go_loopw [5, 6, 7] (fun s f i wr => ∃ (k a : Nat) (pre : List (List UInt8)), a ≤ k ∧ k ≤ T.length ∧ pre.length ≤ a ∧ f = .int .i64 a ∧ i = .int .i64 k ∧ Hid (c ∉ (T.take k).drop a) ∧ Hid (parts c T = pre ++ parts c (T.drop a)) ∧ Hid (wr.ownsRow w.heap.size 9 1 s pre.length (strVs pre)) ∧ Hid (Q w wr)) (fun _ _ i _ => T.length - (intOf i).toNat)
  case atStart => exact ⟨0, 0, [], Nat.le_refl _, Nat.zero_le _, Nat.le_refl _, rfl, rfl, none_yet _ _ _, rfl, ⟨rfl, .inl ⟨rfl, rfl⟩⟩, Q.refl _⟩
  case round =>
    obtain ⟨k, a, pre, hak, hk, hpl, rfl, rfl, hno, hpa, hown, hq⟩ := hrel
    by_cases hlt : k < T.length
    · have hget : T[k]? = some T[k] := List.getElem?_eq_getElem hlt
      by_cases hb : T[k] = c
      · have hbt : (((⟨T.toArray⟩ : ByteArray)[k].toNat : Int) == (c.toNat : Int)) = true := by
          show (((T[k]).toNat : Int) == (c.toNat : Int)) = true
          rw [hb]; simp
        have HP := show Hid _ from parts_piece hak (hget.trans (by rw [hb])) hno.out hpa.out rfl
        clear hget hb
        have hms := mid_str T a k
        generalize (T.take k).drop a = mid at *
        go_wp2_with (first | (at_builtin; refine append_one rfl (.tmp 19) (.tmp 24) 111 rfl 9 Tryz.t9 (.string ⟨#[]⟩) 16 Tryz.underlying111 (by kernel_rfl) (by kernel_rfl) (by kernel_rfl) (by kernel_rfl) rfl u5 (strVs pre) (.string ⟨mid.toArray⟩) w.heap.size wr rfl rfl (by rw [strVs_len]; exact hown.out) rfl (by rw [strVs_len]; omega) (by decide) hq.out.size ?_; intro g cap w' ho' hb' _ _ _))
        rw [strVs_snoc, strVs_len] at ho'
        rw [strVs_len]
        exact ⟨⟨k + 1, k + 1, pre ++ [mid], Nat.le_refl _, by omega, by simp; omega, by go_num, by go_num, none_yet _ _ _, HP, (by rw [List.length_append]; exact ho' : w'.ownsRow w.heap.size 9 1 _ (pre ++ [mid]).length (strVs (pre ++ [mid]))), (Below.trans hq.out hb' : Below w.heap.size w w')⟩, by simp [intOf]; omega⟩
      · have hbt : (((⟨T.toArray⟩ : ByteArray)[k].toNat : Int) == (c.toNat : Int)) = false := by
          show (((T[k]).toNat : Int) == (c.toNat : Int)) = false
          rw [beq_eq_false_iff_ne]
          exact fun h => hb (UInt8.toNat_inj.1 (by omega))
        have HN := show Hid _ from not_more hak hget hb hno.out
        clear hget hb
        go_wp2_with fail
        exact ⟨⟨k + 1, a, pre, by omega, by omega, hpl, rfl, by go_num, HN, hpa, hown, hq⟩, by simp [intOf]; omega⟩
    · have hkT : k = T.length := by omega
      subst hkT
      have HP := show Hid _ from parts_end hno.out hpa.out
      have hms := str_drop0 T a
      generalize T.drop a = mid at *
      go_wp2_with (first | (at_builtin; refine append_one rfl (.tmp 28) (.tmp 32) 111 rfl 9 Tryz.t9 (.string ⟨#[]⟩) 16 Tryz.underlying111 (by kernel_rfl) (by kernel_rfl) (by kernel_rfl) (by kernel_rfl) rfl u5 (strVs pre) (.string ⟨mid.toArray⟩) w.heap.size wr rfl rfl (by rw [strVs_len]; exact hown.out) rfl (by rw [strVs_len]; omega) (by decide) hq.out.size ?_; intro g cap w' ho' hb' _ _ _))
      rw [strVs_snoc, strVs_len] at ho'
      rw [strVs_len]
      go_ret
      refine ⟨_, rfl, ?_, Below.trans hq.out hb', fun k hk => owns_lt ho' k hk⟩
      rw [HP.out]
      exact owned_strs (by simp) ho'
theorem rparts_any (T : List UInt8) (c : UInt8) (w : World) (hT : T.length ≤ 4194304) :
    Calls Tryz.prog 106 #[.string ⟨T.toArray⟩, .int .u8 c.toNat] w fun e w' => ∃ v, e = .returned v ∧ StrsAt w' v (parts c T) ∧ Q w w' :=
  (rparts_fresh T c w hT).mono fun _ _ ⟨v, h1, h2, h3, _⟩ => ⟨v, h1, h2, h3⟩
end Go.Proofs.YtdmaffciijmdcaaGreatDoor
/-
  The document's answer: figures, tenants, labels, numbers.
-/
namespace Go.Proofs.YtdmaffciijmdcaaGreatDoor
namespace Plain
def figsS (l : List UInt8) : Bool := decide (0 < l.length) && allB fig l
theorem allp_step {p : UInt8 → Bool} {l : List UInt8} {k : Nat} {b : UInt8} (hk : l[k]? = some b) (h : allB p (l.take k) = true) (hb : p b = true) : allB p (l.take (k + 1)) = true := by
  obtain ⟨hlt, rfl⟩ := List.getElem?_eq_some_iff.1 hk
  unfold allB at *
  rw [List.take_succ_eq_append_getElem hlt, List.all_append, h]
  simp [hb]
theorem allp_stop {p : UInt8 → Bool} {l : List UInt8} {k : Nat} {b : UInt8} (hk : l[k]? = some b) (hb : p b = false) : allB p l = false := by
  cases h : allB p l with
  | false => rfl
  | true => rw [List.all_eq_true.1 h b (List.mem_of_getElem? hk)] at hb; cases hb
theorem allp_done {p : UInt8 → Bool} {l : List UInt8} (h : allB p (l.take l.length) = true) : allB p l = true := by rwa [List.take_of_length_le (Nat.le_refl _)] at h
theorem fig_low {b : UInt8} (h : b.toNat < 48) : fig b = false := by unfold fig; simp; omega
theorem fig_high {b : UInt8} (h : 57 < b.toNat) : fig b = false := by unfold fig; simp; omega
theorem fig_yes {b : UInt8} (h1 : ¬ b.toNat < 48) (h2 : ¬ 57 < b.toNat) : fig b = true := by unfold fig; simp; omega
theorem small_low {b : UInt8} (h : b.toNat < 97) : small b = false := by unfold small; simp; omega
theorem small_high {b : UInt8} (h : 122 < b.toNat) : small b = false := by unfold small; simp; omega
theorem small_yes {b : UInt8} (h1 : ¬ b.toNat < 97) (h2 : ¬ 122 < b.toNat) : small b = true := by unfold small; simp; omega
end Plain
open Go.RowKit Plain

set_option maxRecDepth 100000 in
set_option maxHeartbeats 800000 in
theorem rfigures_any (T : List UInt8) (w : World) (hT : T.length ≤ 4194304) :
    Calls Tryz.prog 141 #[.string ⟨T.toArray⟩] w fun e w' => e = .returned (.bool (figsS T)) ∧ w' = w := by
  have hsz : (⟨T.toArray⟩ : ByteArray).size = T.length := rfl
  go_enter Tryz.func141, Tryz.ntmps141
  go_wp2_with fail
  go_loopw [3] (fun i wr => ∃ k : Nat, k ≤ T.length ∧ i = .int .i64 k ∧ Hid (allB fig (T.take k) = true) ∧ wr = w) (fun i _ => T.length - (intOf i).toNat)
  case atStart => exact ⟨0, Nat.zero_le _, rfl, rfl, rfl⟩
  case round =>
    obtain ⟨k, hk, rfl, hall, rfl⟩ := hrel
    by_cases hlt : k < T.length
    · have hget : T[k]? = some T[k] := List.getElem?_eq_getElem hlt
      by_cases h1 : (T[k]).toNat < 48
      · have d1 : decide (((⟨T.toArray⟩ : ByteArray)[k].toNat : Int) < 48) = true := decide_eq_true (by show ((T[k]).toNat : Int) < 48; omega)
        have HS : Hid (allB fig T = false) := allp_stop hget (fig_low h1)
        clear hget h1
        go_wp2_with fail
        go_ret
        exact ⟨by unfold figsS; rw [HS.out]; simp, rfl⟩
      have d1 : decide (((⟨T.toArray⟩ : ByteArray)[k].toNat : Int) < 48) = false := decide_eq_false (by show ¬ ((T[k]).toNat : Int) < 48; omega)
      by_cases h2 : 57 < (T[k]).toNat
      · have d2 : decide (57 < ((⟨T.toArray⟩ : ByteArray)[k].toNat : Int)) = true := decide_eq_true (by show 57 < ((T[k]).toNat : Int); omega)
        have HS : Hid (allB fig T = false) := allp_stop hget (fig_high h2)
        clear hget h1 h2
        go_wp2_with fail
        go_ret
        exact ⟨by unfold figsS; rw [HS.out]; simp, rfl⟩
      have d2 : decide (57 < ((⟨T.toArray⟩ : ByteArray)[k].toNat : Int)) = false := decide_eq_false (by show ¬ 57 < ((T[k]).toNat : Int); omega)
      have HN := show Hid _ from allp_step hget hall.out (fig_yes h1 h2)
      clear hget h1 h2
      go_wp2_with fail
      exact ⟨⟨k + 1, by omega, by go_num, HN, by trivial⟩, by simp [intOf]; omega⟩
    · have hkT : k = T.length := by omega
      subst hkT
      have HS := show Hid _ from allp_done hall.out
      clear hall
      go_wp2_with fail
      go_ret
      exact ⟨by unfold figsS; rw [HS.out]; simp, rfl⟩

set_option maxRecDepth 100000 in
set_option maxHeartbeats 800000 in
theorem rtenant_any (T : List UInt8) (w : World) (hT : T.length ≤ 4194304) :
    Calls Tryz.prog 100 #[.string ⟨T.toArray⟩] w fun e w' => e = .returned (.bool (tenantOk T)) ∧ w' = w := by
  have hsz : (⟨T.toArray⟩ : ByteArray).size = T.length := rfl
  go_enter Tryz.func100, Tryz.ntmps100
  go_wp2_with fail
  go_loopw [3] (fun i wr => ∃ k : Nat, k ≤ T.length ∧ i = .int .i64 k ∧ Hid (allB small (T.take k) = true) ∧ wr = w) (fun i _ => T.length - (intOf i).toNat)
  case atStart => exact ⟨0, Nat.zero_le _, rfl, rfl, rfl⟩
  case round =>
    obtain ⟨k, hk, rfl, hall, rfl⟩ := hrel
    by_cases hlt : k < T.length
    · have hget : T[k]? = some T[k] := List.getElem?_eq_getElem hlt
      by_cases h1 : (T[k]).toNat < 97
      · have d1 : decide (((⟨T.toArray⟩ : ByteArray)[k].toNat : Int) < 97) = true := decide_eq_true (by show ((T[k]).toNat : Int) < 97; omega)
        have HS : Hid (allB small T = false) := allp_stop hget (small_low h1)
        clear hget h1
        go_wp2_with fail
        go_ret
        exact ⟨by unfold tenantOk; rw [HS.out]; simp, rfl⟩
      have d1 : decide (((⟨T.toArray⟩ : ByteArray)[k].toNat : Int) < 97) = false := decide_eq_false (by show ¬ ((T[k]).toNat : Int) < 97; omega)
      by_cases h2 : 122 < (T[k]).toNat
      · have d2 : decide (122 < ((⟨T.toArray⟩ : ByteArray)[k].toNat : Int)) = true := decide_eq_true (by show 122 < ((T[k]).toNat : Int); omega)
        have HS : Hid (allB small T = false) := allp_stop hget (small_high h2)
        clear hget h1 h2
        go_wp2_with fail
        go_ret
        exact ⟨by unfold tenantOk; rw [HS.out]; simp, rfl⟩
      have d2 : decide (122 < ((⟨T.toArray⟩ : ByteArray)[k].toNat : Int)) = false := decide_eq_false (by show ¬ 122 < ((T[k]).toNat : Int); omega)
      have HN := show Hid _ from allp_step hget hall.out (small_yes h1 h2)
      clear hget h1 h2
      go_wp2_with fail
      exact ⟨⟨k + 1, by omega, by go_num, HN, by trivial⟩, by simp [intOf]; omega⟩
    · have hkT : k = T.length := by omega
      subst hkT
      have HS := show Hid _ from allp_done hall.out
      clear hall
      by_cases h0 : 0 < T.length
      · by_cases h8 : T.length ≤ 8
        · have d8 : decide ((T.length : Int) ≤ 8) = true := decide_eq_true (by omega)
          go_wp2_with fail
          go_ret
          exact ⟨by unfold tenantOk; rw [HS.out, decide_eq_true ⟨by omega, h8⟩]; rfl, rfl⟩
        · have d8 : decide ((T.length : Int) ≤ 8) = false := decide_eq_false (by omega)
          go_wp2_with fail
          go_ret
          exact ⟨by unfold tenantOk; rw [decide_eq_false (fun h => h8 h.2)]; rfl, rfl⟩
      · go_wp2_with fail
        go_ret
        exact ⟨by unfold tenantOk; rw [decide_eq_false (fun h => h0 h.1)]; rfl, rfl⟩
end Go.Proofs.YtdmaffciijmdcaaGreatDoor
/-
  The document's answer: spans of bytes, secrets, the end of a head.
-/
namespace Go.Proofs.YtdmaffciijmdcaaGreatDoor
namespace Plain
def inB (a b : Nat) (c : UInt8) : Bool := decide (a ≤ c.toNat) && decide (c.toNat ≤ b)
def spanS (a b : Nat) (l : List UInt8) : Bool := decide (0 < l.length) && allB (inB a b) l
theorem inB_low {a b : Nat} {c : UInt8} (h : c.toNat < a) : inB a b c = false := by unfold inB; simp; omega
theorem inB_high {a b : Nat} {c : UInt8} (h : b < c.toNat) : inB a b c = false := by unfold inB; simp; omega
theorem inB_yes {a b : Nat} {c : UInt8} (h1 : ¬ c.toNat < a) (h2 : ¬ b < c.toNat) : inB a b c = true := by unfold inB; simp; omega
theorem inB_great : inB 65 90 = great := by
  funext c; unfold inB great; congr 1 <;> (apply decide_eq_decide.2; omega)
theorem inB_seen : inB 33 126 = seenB := by
  funext c; unfold inB seenB; congr 1 <;> (apply decide_eq_decide.2; omega)
theorem inB_value : inB 32 126 = ofValue := by
  funext c
  unfold inB ofValue seenB
  rw [Bool.eq_iff_iff]
  simp
  omega
theorem secret_parts (T : List UInt8) : secretOk T = (decide (0 < T.length) && decide (T.length ≤ 12) && allB (inB 33 126) T) := by
  unfold secretOk
  rw [inB_seen]
  congr 1
  rw [Bool.eq_iff_iff]
  simp
  omega
/-- The place behind the first head. -/
def headEndS (T : List UInt8) : Int := if 0 ≤ Lib.index T endB then Lib.index T endB + 4 else -1
theorem headEnd_hit {T : List UInt8} {i : Nat} (h : Lib.NoOcc T endB i) (hi : i + 4 ≤ T.length) (ho : (T.take (i + 4)).drop i = endB) : headEndS T = ((i + 4 : Nat) : Int) := by
  have : Lib.index T endB = (i : Nat) := Lib.index_hit h (by omega) (by
    unfold Lib.occAt
    rw [← ho, List.drop_take]
    have : i + 4 - i = 4 := by omega
    rw [this]
    exact List.isPrefixOf_iff_prefix.2 (List.take_prefix _ _))
  unfold headEndS
  rw [this, if_pos (by omega)]
  omega
theorem headEnd_miss {T : List UInt8} {i : Nat} (h : Lib.NoOcc T endB i) (hi : T.length < i + 4) : headEndS T = -1 := by
  have : Lib.index T endB = -1 := Lib.index_past (by unfold endB; simp) h hi
  unfold headEndS
  rw [this, if_neg (by omega)]
theorem noOcc_more {T : List UInt8} {i : Nat} (h : Lib.NoOcc T endB i) (hi : i + 4 ≤ T.length) (ho : (T.take (i + 4)).drop i ≠ endB) : Lib.NoOcc T endB (i + 1) := by
  intro j hj
  by_cases hji : j < i
  · exact h j hji
  · have : j = i := by omega
    subst this
    cases hx : Lib.occAt T endB j with
    | false => rfl
    | true =>
      exfalso
      apply ho
      unfold Lib.occAt at hx
      obtain ⟨t, ht⟩ := List.isPrefixOf_iff_prefix.1 hx
      rw [List.drop_take, show j + 4 - j = 4 by omega, ← ht]
      rfl
end Plain
open Go.RowKit Plain

set_option maxRecDepth 100000 in
set_option maxHeartbeats 800000 in
theorem rspan_at (T : List UInt8) (a b : Nat) (A B : Int) (hA : A = (a : Int)) (hB : B = (b : Int)) (w : World) (hT : T.length ≤ 4194304) :
    Calls Tryz.prog 107 #[.string ⟨T.toArray⟩, .int .u8 A, .int .u8 B] w fun e w' => e = .returned (.bool (spanS a b T)) ∧ w' = w := by
  have hsz : (⟨T.toArray⟩ : ByteArray).size = T.length := rfl
  have HA : Hid (A = (a : Int)) := hA
  have HB : Hid (B = (b : Int)) := hB
  clear hA hB
  go_enter Tryz.func107, Tryz.ntmps107
  go_wp2_with fail
  go_loopw [7] (fun i wr => ∃ k : Nat, k ≤ T.length ∧ i = .int .i64 k ∧ Hid (allB (inB a b) (T.take k) = true) ∧ wr = w) (fun i _ => T.length - (intOf i).toNat)
  case atStart => exact ⟨0, Nat.zero_le _, rfl, rfl, rfl⟩
  case round =>
    obtain ⟨k, hk, rfl, hall, rfl⟩ := hrel
    by_cases hlt : k < T.length
    · have hget : T[k]? = some T[k] := List.getElem?_eq_getElem hlt
      by_cases h1 : (T[k]).toNat < a
      · have d1 : decide (((⟨T.toArray⟩ : ByteArray)[k].toNat : Int) < A) = true := decide_eq_true (by rw [HA.out]; show ((T[k]).toNat : Int) < (a : Int); omega)
        have HS : Hid (allB (inB a b) T = false) := allp_stop hget (inB_low h1)
        clear hget h1
        go_wp2_with fail
        go_ret
        exact ⟨by unfold spanS; rw [HS.out]; simp, rfl⟩
      have d1 : decide (((⟨T.toArray⟩ : ByteArray)[k].toNat : Int) < A) = false := decide_eq_false (by rw [HA.out]; show ¬ ((T[k]).toNat : Int) < (a : Int); omega)
      by_cases h2 : b < (T[k]).toNat
      · have d2 : decide (B < ((⟨T.toArray⟩ : ByteArray)[k].toNat : Int)) = true := decide_eq_true (by rw [HB.out]; show (b : Int) < ((T[k]).toNat : Int); omega)
        have HS : Hid (allB (inB a b) T = false) := allp_stop hget (inB_high h2)
        clear hget h1 h2
        go_wp2_with fail
        go_ret
        exact ⟨by unfold spanS; rw [HS.out]; simp, rfl⟩
      have d2 : decide (B < ((⟨T.toArray⟩ : ByteArray)[k].toNat : Int)) = false := decide_eq_false (by rw [HB.out]; show ¬ (b : Int) < ((T[k]).toNat : Int); omega)
      have HN := show Hid _ from allp_step hget hall.out (inB_yes h1 h2)
      clear hget h1 h2
      go_wp2_with fail
      exact ⟨⟨k + 1, by omega, by go_num, HN, by trivial⟩, by simp [intOf]; omega⟩
    · have hkT : k = T.length := by omega
      subst hkT
      have HS := show Hid _ from allp_done hall.out
      clear hall
      go_wp2_with fail
      go_ret
      exact ⟨by unfold spanS; rw [HS.out]; simp, rfl⟩

theorem rspan_any (T : List UInt8) (a b : Nat) (w : World) (hT : T.length ≤ 4194304) :
    Calls Tryz.prog 107 #[.string ⟨T.toArray⟩, .int .u8 (a : Int), .int .u8 (b : Int)] w fun e w' => e = .returned (.bool (spanS a b T)) ∧ w' = w :=
  rspan_at T a b _ _ rfl rfl w hT

set_option maxRecDepth 100000 in
set_option maxHeartbeats 800000 in
theorem rsecret_any (T : List UInt8) (w : World) (hT : T.length ≤ 4194304) :
    Calls Tryz.prog 101 #[.string ⟨T.toArray⟩] w fun e w' => e = .returned (.bool (secretOk T)) ∧ w' = w := by
  have hsz : (⟨T.toArray⟩ : ByteArray).size = T.length := rfl
  rw [secret_parts]
  go_enter Tryz.func101, Tryz.ntmps101
  go_wp2_with fail
  go_loopw [3] (fun i wr => ∃ k : Nat, k ≤ T.length ∧ i = .int .i64 k ∧ Hid (allB (inB 33 126) (T.take k) = true) ∧ wr = w) (fun i _ => T.length - (intOf i).toNat)
  case atStart => exact ⟨0, Nat.zero_le _, rfl, rfl, rfl⟩
  case round =>
    obtain ⟨k, hk, rfl, hall, rfl⟩ := hrel
    by_cases hlt : k < T.length
    · have hget : T[k]? = some T[k] := List.getElem?_eq_getElem hlt
      by_cases h1 : (T[k]).toNat < 33
      · have d1 : decide (((⟨T.toArray⟩ : ByteArray)[k].toNat : Int) < 33) = true := decide_eq_true (by show ((T[k]).toNat : Int) < 33; omega)
        have HS : Hid (allB (inB 33 126) T = false) := allp_stop hget (inB_low h1)
        clear hget h1
        go_wp2_with fail
        go_ret
        exact ⟨by rw [HS.out]; simp, rfl⟩
      have d1 : decide (((⟨T.toArray⟩ : ByteArray)[k].toNat : Int) < 33) = false := decide_eq_false (by show ¬ ((T[k]).toNat : Int) < 33; omega)
      by_cases h2 : 126 < (T[k]).toNat
      · have d2 : decide (126 < ((⟨T.toArray⟩ : ByteArray)[k].toNat : Int)) = true := decide_eq_true (by show 126 < ((T[k]).toNat : Int); omega)
        have HS : Hid (allB (inB 33 126) T = false) := allp_stop hget (inB_high h2)
        clear hget h1 h2
        go_wp2_with fail
        go_ret
        exact ⟨by rw [HS.out]; simp, rfl⟩
      have d2 : decide (126 < ((⟨T.toArray⟩ : ByteArray)[k].toNat : Int)) = false := decide_eq_false (by show ¬ 126 < ((T[k]).toNat : Int); omega)
      have HN := show Hid _ from allp_step hget hall.out (inB_yes h1 h2)
      clear hget h1 h2
      go_wp2_with fail
      exact ⟨⟨k + 1, by omega, by go_num, HN, by trivial⟩, by simp [intOf]; omega⟩
    · have hkT : k = T.length := by omega
      subst hkT
      have HS := show Hid _ from allp_done hall.out
      clear hall
      by_cases h0 : 0 < T.length
      · by_cases h8 : T.length ≤ 12
        · have d8 : decide ((T.length : Int) ≤ 12) = true := decide_eq_true (by omega)
          go_wp2_with fail
          go_ret
          exact ⟨by rw [HS.out, decide_eq_true h0, decide_eq_true h8]; rfl, rfl⟩
        · have d8 : decide ((T.length : Int) ≤ 12) = false := decide_eq_false (by omega)
          go_wp2_with fail
          go_ret
          exact ⟨by rw [decide_eq_false h8]; simp, rfl⟩
      · go_wp2_with fail
        go_ret
        exact ⟨by rw [decide_eq_false h0]; rfl, rfl⟩

set_option maxRecDepth 100000 in
set_option maxHeartbeats 800000 in
theorem rheadEnd_any (T : List UInt8) (w : World) (hT : T.length ≤ 9007199254740992) :
    Calls Tryz.prog 79 #[.string ⟨T.toArray⟩] w fun e w' => e = .returned (.int .i64 (headEndS T)) ∧ w' = w := by
  have hsz : (⟨T.toArray⟩ : ByteArray).size = T.length := rfl
  go_enter Tryz.func79, Tryz.ntmps79
  go_wp2_with fail
  go_loopw [3] (fun i wr => ∃ m k : Nat, m = k + 4 ∧ k ≤ T.length + 1 ∧ i = .int .i64 (m : Int) ∧ Hid (Lib.NoOcc T endB k) ∧ wr = w) (fun i _ => T.length + 5 - (intOf i).toNat)
  case atStart => exact ⟨4, 0, rfl, Nat.zero_le _, rfl, fun j hj => absurd hj (Nat.not_lt_zero _), rfl⟩
  case round =>
    obtain ⟨m, k, hmk, hk, rfl, hno, rfl⟩ := hrel
    have hsub : (m : Int) - 4 = (k : Int) := by omega
    have hkm : k ≤ m := by omega
    have HMK : Hid (m = k + 4) := hmk
    by_cases hlt : m ≤ T.length
    · have hms := mid_str T k m
      by_cases he : (T.take (k + 4)).drop k = endB
      · have HS := show Hid _ from headEnd_hit hno.out (by omega) he
        rw [← hmk] at he HS
        rw [he] at hms
        clear he hmk
        have deq : (((⟨T.toArray⟩ : ByteArray).extract k m).toList == [13, 10, 13, 10]) = true := by rw [hms, Lib.toList_data]; rfl
        clear hms
        go_wp2_with fail
        go_ret
        exact ⟨ret_int HS.out.symm, rfl⟩
      · have HN := show Hid _ from noOcc_more hno.out (by omega) he
        rw [← hmk] at he
        have deq : (((⟨T.toArray⟩ : ByteArray).extract k m).toList == [13, 10, 13, 10]) = false := by
          rw [beq_eq_false_iff_ne, Lib.toList_data, hms]
          exact he
        clear he hms hmk
        go_wp2_with fail
        have hmk := HMK.out
        exact ⟨⟨m + 1, k + 1, by omega, by omega, by go_num, HN, by trivial⟩, by simp [intOf]; omega⟩
    · have HS := show Hid _ from headEnd_miss hno.out (by omega)
      clear hmk
      go_wp2_with fail
      go_ret
      exact ⟨ret_int HS.out.symm, rfl⟩
end Go.Proofs.YtdmaffciijmdcaaGreatDoor

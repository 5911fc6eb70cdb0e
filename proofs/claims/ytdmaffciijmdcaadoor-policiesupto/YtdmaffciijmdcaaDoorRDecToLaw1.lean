/-
  The document's answer: the first rule that fits; what may be asked.
-/
import Derived.Test.YtdmaffciijmdcaaDoorRFitsToRRules
import Derived.Deep.RegionHeld3
namespace Go.Proofs.YtdmaffciijmdcaaDoor
open Go.RowKit Plain

theorem decRows_done {t h : List UInt8} {p m : Int} {k : Nat} {rows : List (List (List UInt8))} (hk : rows.length ≤ k) : decRows t h p m k (rows.drop k) = (false, -1) := by rw [List.drop_of_length_le hk, decRows]

set_option maxRecDepth 100000 in
set_option maxHeartbeats 1600000 in
theorem rdecide_any (S : Nat → Prop) (v : Value) (rows : List (List (List UInt8))) (t h : List UInt8) (p m : Int) (w : World) (hv : RowsAt S w v rows) (h5 : ∀ row ∈ rows, row.length = 5) (hl : ∀ row ∈ rows, ∀ s ∈ row, s.length ≤ 2097152) (hn : rows.length ≤ 4194304) (hh : h.length ≤ 2097152) :
    Calls Tryd.prog 24 #[v, .string ⟨t.toArray⟩, .string ⟨h.toArray⟩, .int .i64 p, .int .i64 m] w fun e w' => e = .returned (.tuple #[.bool (decRows t h p m 0 rows).1, .int .i64 (decRows t h p m 0 rows).2]) ∧ Q w w' := by
  rcases hv with ⟨rfl, rfl⟩ | ⟨g, cap, rfl, _, hcell⟩
  · go_enter Tryd.func24, Tryd.ntmps24
    go_wp2_with fail
    refine wp_loop_rounds 1 ?_
    rw [rounds_succ]
    go_wp2_with fail
    go_ret2
    exact ⟨rfl, Q.refl w⟩
  · have HC : Hid (∀ i row, rows[i]? = some row → ∃ u, w.cell? ⟨g, i, none⟩ = some u ∧ StrsIn S w u row) := hcell
    have H5 := show Hid _ from h5
    have HL := show Hid _ from hl
    clear hcell h5 hl
    go_enter Tryd.func24, Tryd.ntmps24
    go_wp2_with fail
    go_loopw [12, 13, 14] (fun i _ _ wr => ∃ k : Nat, k ≤ rows.length ∧ i = .int .i64 k ∧ Hid (decRows t h p m k (rows.drop k) = decRows t h p m 0 rows) ∧ Q w wr) (fun i _ _ _ => rows.length - (intOf i).toNat)
    case atStart => exact ⟨0, Nat.zero_le _, rfl, rfl, Q.refl _⟩
    case round =>
      obtain ⟨k, hk, rfl, hdec, hq⟩ := hrel
      by_cases hlt : k < rows.length
      · have hget : rows[k]? = some rows[k] := List.getElem?_eq_getElem hlt
        obtain ⟨u, hu, hin⟩ := HC.out k _ hget
        have hck := hq.cell hu
        have HN := show Hid _ from decRows_drop (t := t) (h := h) (p := p) (m := m) hget
        have hr5 := H5.out _ (List.mem_of_getElem? hget)
        have hrl := HL.out _ (List.mem_of_getElem? hget)
        have HF := show Hid _ from rfits_any u rows[k] t h p m wr (hin.at.stays hq) hrl (by omega) hh
        generalize rows[k] = row at *
        obtain ⟨f0, f1, f2, f3, f4, rfl⟩ := five hr5
        obtain ⟨gu, cu, rfl, _, hcu⟩ := hin
        have c0 := hcu 0 f0 rfl
        clear hget hu hr5 hrl hcu
        rw [show ([f0, f1, f2, f3, f4] : List (List UInt8)).length = 5 from rfl] at HF
        go_wp2_with fail
        refine Calls.mono HF.out ?_
        rintro e w2 ⟨rfl, hq2⟩
        have hck2 := hq2.cell hck
        have c0' := (hq.trans hq2).cell c0
        clear c0 hck
        cases hfit : (fitsR [f0, f1, f2, f3, f4] t h p m).1 with
        | true =>
          rw [if_pos hfit] at HN
          have HD := show Hid _ from hdec.out.symm.trans HN.out
          clear hfit HN hdec
          go_wp2_with fail
          go_ret2
          exact ⟨by rw [HD.out]; rfl, hq.trans hq2⟩
        | false =>
          rw [if_neg (by rw [hfit]; decide)] at HN
          have HD := show Hid _ from HN.out.symm.trans hdec.out
          clear hfit HN hdec
          go_wp2_with fail
          exact ⟨⟨k + 1, by omega, by go_num, HD, hq.trans hq2⟩, by simp [intOf]; omega⟩
      · have HE := show Hid _ from hdec.out.symm.trans (decRows_done (by omega))
        go_wp2_with fail
        go_ret2
        exact ⟨by rw [HE.out]; rfl, hq⟩

set_option maxRecDepth 100000 in
set_option maxHeartbeats 1600000 in
theorem rasks_any (t h : List UInt8) (p m : Int) (w : World) (ht : t.length ≤ 2097152) (hh : h.length ≤ 2097152) :
    Calls Tryd.prog 23 #[.string ⟨t.toArray⟩, .string ⟨h.toArray⟩, .int .i64 p, .int .i64 m] w fun e w' => e = .returned (.bool (asksR t h p m)) ∧ Q w w' := by
  have HT := fun w => show Hid _ from rtenant_any t w (by omega)
  have HL := fun w => show Hid _ from rlower_any h w hh
  have HH := fun w => show Hid _ from rhost_any (lower h) w (by rw [lower_len]; exact hh)
  have HA : Hid (asksR t h p m = (tenantOk t && hostR (lower h) && decide (0 ≤ p) && decide (p ≤ 65535) && decide (0 ≤ m) && decide (m < 10080))) := rfl
  go_enter Tryd.func23, Tryd.ntmps23
  go_wp2_with fail
  refine Calls.mono (Hid.out (HT _)) ?_
  rintro e w1 ⟨rfl, rfl⟩
  go_wp2_with fail
  refine Calls.mono (Hid.out (HL _)) ?_
  rintro e w2 ⟨rfl, hq2⟩
  unfold str
  go_wp2_with fail
  refine Calls.mono (Hid.out (HH _)) ?_
  rintro e w3 ⟨rfl, hq3⟩
  have hq := hq2.trans hq3
  clear HT HL HH hq2 hq3
  generalize tenantOk t = tn at *
  generalize hostR (lower h) = hr at *
  generalize d1 : decide (0 ≤ p) = b1 at *
  generalize d2 : decide (p ≤ 65535) = b2 at *
  generalize d3 : decide (0 ≤ m) = b3 at *
  generalize d4 : decide (m < 10080) = b4 at *
  cases tn <;> cases hr <;> cases b1 <;> cases b2 <;> cases b3 <;> cases b4 <;> (go_wp2_with fail; go_ret; exact ⟨by rw [HA.out]; rfl, hq⟩)
end Go.Proofs.YtdmaffciijmdcaaDoor
/-
  The law's own helpers: the code of an error, what the document's first example says, one question to one policy.
-/
namespace Go.Proofs.YtdmaffciijmdcaaDoor
namespace Plain
theorem ask_none {rs : List RuleS} {t h : List UInt8} {p m : Int} (ha : asksR t h p m = false) : decideS rs t h p m = (false, 0, 5) := by
  rw [asks_same] at ha
  unfold decideS
  cases hx : askS t h p m with
  | none => rfl
  | some x => rw [hx] at ha; cases ha
theorem ask_some {rows : List (List (List UInt8))} {rs : List RuleS} {t h : List UInt8} {p m : Int} (ha : asksR t h p m = true) (hall : AllRows rows rs) : decideS rs t h p m = ((decRows t (lower h) p m 0 rows).1, (decRows t (lower h) p m 0 rows).2, 0) := by
  rw [asks_same] at ha
  unfold decideS
  cases hx : askS t h p m with
  | none => rw [hx] at ha; cases ha
  | some x =>
    obtain ⟨nm, ad⟩ := x
    have hh : readHost h = some (nm, ad) := by
      unfold askS at hx
      split at hx
      · exact hx
      · cases hx
    rw [dec_same hh 0 rows rs hall]
theorem rows_of_lines : ∀ (n : Nat) (ls : List (List UInt8)) (rows : List (List (List UInt8))), rowsOf n ls = .ok rows → ∀ row ∈ rows, ∃ l ∈ ls, row = parts 32 l
  | _, [], rows, h, row, hm => by
    cases h; cases hm
  | n, [l], rows, h, row, hm => by
    unfold rowsOf at h
    split at h
    · cases h; cases hm
    · split at h <;> cases h
  | n, l :: m :: ls, rows, h, row, hm => by
    unfold rowsOf at h
    split at h
    · cases h
    · split at h
      · cases hx : rowsOf (n + 1) (m :: ls) with
        | error e => rw [hx] at h; cases h
        | ok rs =>
          rw [hx] at h
          cases h
          rcases List.mem_cons.1 hm with rfl | hm
          · exact ⟨l, List.mem_cons_self, rfl⟩
          · obtain ⟨l', hl', he⟩ := rows_of_lines (n + 1) (m :: ls) rs hx row hm
            exact ⟨l', List.mem_cons_of_mem _ hl', he⟩
      · cases h
theorem rules_short {T : List UInt8} {rows : List (List (List UInt8))} (h : rulesR T = .ok rows) : ∀ row ∈ rows, ∀ s ∈ row, s.length ≤ 4000 := by
  intro row hr s hs
  unfold rulesR at h
  split at h
  · cases h
  · obtain ⟨l, hl, rfl⟩ := rows_of_lines 1 _ rows h row hr
    have := parts_le 32 l s hs
    have := parts_le 10 T l hl
    omega
def knownT : List UInt8 := [100, 101, 110, 121, 32, 97, 110, 110, 32, 49, 48, 46, 48, 46, 48, 46, 48, 47, 56, 32, 49, 45, 49, 48, 50, 51, 32, 54, 48, 48, 45, 54, 48, 10, 97, 108, 108, 111, 119, 32, 42, 32, 46, 101, 120, 97, 109, 112, 108, 101, 46, 99, 111, 109, 32, 52, 52, 51, 32, 42, 10]
theorem known_says : ∃ rs, compileS knownT = .ok rs ∧ decideS rs [97, 110, 110] [119, 119, 119, 46, 69, 120, 97, 109, 112, 108, 101, 46, 67, 79, 77] 443 5 = (true, 1, 0) ∧ decideS rs [97, 110, 110] [49, 48, 46, 49, 46, 50, 46, 51] 80 0 = (false, 0, 0) := ⟨_, rfl, rfl, rfl⟩
end Plain
open Go.RowKit Plain

theorem num_any (n : Int) (w : World) : Calls Tryd.prog 9 #[.int .i64 n] w fun e w' => e = .returned (.int .i64 n) ∧ w' = w := by
  go_enter Tryd.func9, Tryd.ntmps9
  go_wp2_with fail
  go_ret
  exact ⟨rfl, rfl⟩

theorem decide_list (rs : List RuleS) (pb : Nat) (t h : List UInt8) (p m : Int) (d : Bool × Int × Nat) (w : World) (hs : h.length ≤ 2097152) (hp : PolicyRep (fun b => b < w.heap.size) w pb rs) (hd : decideS rs t h p m = d) :
    Calls Tryd.prog 12 #[.pointer (some ⟨pb, 0, none⟩), .string ⟨t.toArray⟩, .string ⟨h.toArray⟩, .int .i64 p, .int .i64 m] w fun e w' => e = .returned (.tuple #[.bool d.1, .int .i64 d.2.1, .int .i64 (d.2.2 : Nat)]) ∧ Q w w' := by
  have hsz : (⟨h.toArray⟩ : ByteArray).size = h.length := rfl
  refine (decide_any rs pb ⟨t.toArray⟩ ⟨h.toArray⟩ p m w (by omega) hp).mono ?_
  rintro e w' ⟨hq, he⟩
  refine ⟨?_, hq⟩
  rw [he, ← hd]

theorem comp_ok' {l : List UInt8} {w w' : World} {e : Ending} {rs : List RuleS} (h : CompPost l w e w') (hc : compileS l = .ok rs) : Q w w' ∧ ∃ pb, e = .returned (.tuple #[.pointer (some ⟨pb, 0, none⟩), .int .i64 0, .int .i64 0]) ∧ PolicyRep (New w w') w' pb rs := by
  obtain ⟨hq, ⟨en, ln, h1, _⟩ | ⟨rs', pb, h1, h2, h3⟩⟩ := h
  · rw [hc] at h1; cases h1
  · rw [hc] at h1; cases h1; exact ⟨hq, pb, h2, h3⟩

set_option maxRecDepth 100000 in
set_option maxHeartbeats 1600000 in
theorem known_any (w : World) : Calls Tryd.prog 6 #[] w fun e w' => e = .returned (.bool true) ∧ Q w w' := by
  obtain ⟨rs, hc, h1, h2⟩ := known_says
  have HC : ∀ w, Hid (Calls Tryd.prog 7 #[.string ⟨#[100, 101, 110, 121, 32, 97, 110, 110, 32, 49, 48, 46, 48, 46, 48, 46, 48, 47, 56, 32, 49, 45, 49, 48, 50, 51, 32, 54, 48, 48, 45, 54, 48, 10, 97, 108, 108, 111, 119, 32, 42, 32, 46, 101, 120, 97, 109, 112, 108, 101, 46, 99, 111, 109, 32, 52, 52, 51, 32, 42, 10]⟩] w fun e w' => Q w w' ∧ ∃ pb, e = .returned (.tuple #[.pointer (some ⟨pb, 0, none⟩), .int .i64 0, .int .i64 0]) ∧ PolicyRep (New w w') w' pb rs) := fun w =>
    (compile_any ⟨knownT.toArray⟩ w (by unfold maxLen; decide)).mono fun e w' h => comp_ok' h hc
  have H1 := fun pb w hp => show Hid _ from decide_list rs pb [97, 110, 110] [119, 119, 119, 46, 69, 120, 97, 109, 112, 108, 101, 46, 67, 79, 77] 443 5 _ w (by decide) hp h1
  have H2 := fun pb w hp => show Hid _ from decide_list rs pb [97, 110, 110] [49, 48, 46, 49, 46, 50, 46, 51] 80 0 _ w (by decide) hp h2
  clear hc h1 h2
  go_enter Tryd.func6, Tryd.ntmps6
  go_wp2_with fail
  refine Calls.mono (Hid.out (HC _)) ?_
  rintro e w1 ⟨hq1, pb, rfl, hp⟩
  have HP : Hid (PolicyRep (fun b => b < w1.heap.size) w1 pb rs) := hp.keeps fun b hb => ⟨hb.2, fun _ => rfl⟩
  clear hp HC
  go_wp2_with fail
  refine Calls.mono (Hid.out (H1 pb _ HP.out)) ?_
  rintro e w2 ⟨rfl, hq2⟩
  have HP2 : Hid (PolicyRep (fun b => b < w2.heap.size) w2 pb rs) := HP.out.stays hq2
  clear H1 HP
  go_wp2_with fail
  refine Calls.mono (Hid.out (H2 pb _ HP2.out)) ?_
  rintro e w3 ⟨rfl, hq3⟩
  clear H2 HP2
  go_wp2_with fail
  go_ret
  exact ⟨rfl, hq1.trans (hq2.trans hq3)⟩

theorem keep4L {a b W : World} {p0 p1 p2 p3 : Addr} {v0 v1 v2 v3 : Value}
    (h : a.cell? p0 = some v0 ∧ a.cell? p1 = some v1 ∧ a.cell? p2 = some v2 ∧ a.cell? p3 = some v3 ∧ Q W a) (q : Q a b) :
    b.cell? p0 = some v0 ∧ b.cell? p1 = some v1 ∧ b.cell? p2 = some v2 ∧ b.cell? p3 = some v3 ∧ Q W b := by
  obtain ⟨h0, h1, h2, h3, hq⟩ := h
  exact ⟨q.cell h0, q.cell h1, q.cell h2, q.cell h3, hq.trans q⟩
theorem last4L {a W : World} {p0 p1 p2 p3 : Addr} {v0 v1 v2 v3 : Value}
    (h : a.cell? p0 = some v0 ∧ a.cell? p1 = some v1 ∧ a.cell? p2 = some v2 ∧ a.cell? p3 = some v3 ∧ Q W a) : Q W a := h.2.2.2.2

set_option maxRecDepth 100000 in
set_option maxHeartbeats 1600000 in
theorem decides_any (rs : List RuleS) (pb : Nat) (v : Value) (rows : List (List (List UInt8))) (t h : List UInt8) (p m : Int) (w : World) (hp : PolicyRep (fun b => b < w.heap.size) w pb rs) (hv : RowsAt (fun b => b < w.heap.size) w v rows) (hall : AllRows rows rs)
    (hl : ∀ row ∈ rows, ∀ s ∈ row, s.length ≤ 4000) (ht : t.length ≤ 2097152) (hh : h.length ≤ 2097152) :
    Calls Tryd.prog 10 #[.pointer (some ⟨pb, 0, none⟩), v, .agg #[.string ⟨t.toArray⟩, .string ⟨h.toArray⟩, .int .i64 p, .int .i64 m]] w fun e w' => e = .returned (.bool true) ∧ Q w w' := by
  have s0 : (w.alloc (.cells #[.string ⟨t.toArray⟩, .string ⟨h.toArray⟩, .int .i64 p, .int .i64 m] 37)).cell? ⟨w.heap.size, 0, none⟩ = some (.string ⟨t.toArray⟩) := by simp [go_sem]
  have s1 : (w.alloc (.cells #[.string ⟨t.toArray⟩, .string ⟨h.toArray⟩, .int .i64 p, .int .i64 m] 37)).cell? ⟨w.heap.size, 1, none⟩ = some (.string ⟨h.toArray⟩) := by simp [go_sem]
  have s2 : (w.alloc (.cells #[.string ⟨t.toArray⟩, .string ⟨h.toArray⟩, .int .i64 p, .int .i64 m] 37)).cell? ⟨w.heap.size, 2, none⟩ = some (.int .i64 p) := by simp [go_sem]
  have s3 : (w.alloc (.cells #[.string ⟨t.toArray⟩, .string ⟨h.toArray⟩, .int .i64 p, .int .i64 m] 37)).cell? ⟨w.heap.size, 3, none⟩ = some (.int .i64 m) := by simp [go_sem]
  have hq0 : Q w (w.alloc (.cells #[.string ⟨t.toArray⟩, .string ⟨h.toArray⟩, .int .i64 p, .int .i64 m] 37)) := (Q.refl w).alloc _
  have HQ0 : Hid (Q w (w.alloc (.cells #[.string ⟨t.toArray⟩, .string ⟨h.toArray⟩, .int .i64 p, .int .i64 m] 37))) := hq0
  have HP : Hid (PolicyRep (fun b => b < (w.alloc (.cells #[.string ⟨t.toArray⟩, .string ⟨h.toArray⟩, .int .i64 p, .int .i64 m] 37)).heap.size) (w.alloc (.cells #[.string ⟨t.toArray⟩, .string ⟨h.toArray⟩, .int .i64 p, .int .i64 m] 37)) pb rs) := hp.stays hq0
  have HV : Hid (RowsAt (fun b => b < (w.alloc (.cells #[.string ⟨t.toArray⟩, .string ⟨h.toArray⟩, .int .i64 p, .int .i64 m] 37)).heap.size) (w.alloc (.cells #[.string ⟨t.toArray⟩, .string ⟨h.toArray⟩, .int .i64 p, .int .i64 m] 37)) v rows) := hv.keeps fun b hb => ⟨Nat.lt_of_lt_of_le hb hq0.size, fun o => hq0.cells.1 b o hb⟩
  have S0 := show Hid _ from s0
  have S1 := show Hid _ from s1
  have S2 := show Hid _ from s2
  have S3 := show Hid _ from s3
  clear s0 s1 s2 s3 hq0 hp hv
  have hn : rows.length ≤ 40 := by rw [allRows_len hall]; exact HP.out.2.1
  have HA := fun w => show Hid _ from rasks_any t h p m w ht hh
  have HL := fun w => show Hid _ from rlower_any h w hh
  have HR := fun (x : World) (hx : RowsAt (fun b => b < x.heap.size) x v rows) => show Hid _ from rdecide_any (fun b => b < x.heap.size) v rows t (lower h) p m x hx (allRows_five hall) (fun row hr s hs => by have := hl row hr s hs; omega) (by omega) (by rw [lower_len]; exact hh)
  cases ha : asksR t h p m with
  | false =>
    have hd : decideS rs t h p m = (false, 0, 5) := ask_none ha
    have HD := fun w hp => show Hid _ from decide_list rs pb t h p m _ w hh hp hd
    rw [ha] at HA
    clear ha hd HL HR hall hl
    go_enter Tryd.func10, Tryd.ntmps10
    have c0 := S0.out
    have c1 := S1.out
    have c2 := S2.out
    have c3 := S3.out
    go_wp2_with fail
    generalize (w.alloc (.cells #[.string ⟨t.toArray⟩, .string ⟨h.toArray⟩, .int .i64 p, .int .i64 m] 37)) = w0 at *
    refine Calls.mono (Hid.out (HD _ HP.out)) ?_
    rintro e w1 ⟨rfl, hq1⟩
    have c0 := hq1.cell S0.out
    have c1 := hq1.cell S1.out
    have c2 := hq1.cell S2.out
    have c3 := hq1.cell S3.out
    go_wp2_with fail
    refine Calls.mono (Hid.out (HA _)) ?_
    rintro e w2 ⟨rfl, hq2⟩
    go_wp2_with (first | (go_at_call 9; refine (num_any _ _).mono ?_; rintro e w' ⟨rfl, hw⟩; rw [hw]))
    go_ret
    exact ⟨rfl, HQ0.out.trans (hq1.trans hq2)⟩
  | true =>
    have hd := ask_some ha hall
    have HD := fun w hp => show Hid _ from decide_list rs pb t h p m _ w hh hp hd
    rw [ha] at HA
    clear ha hd hall hl
    go_enter Tryd.func10, Tryd.ntmps10
    go_wp2_with fail
    generalize (w.alloc (.cells #[.string ⟨t.toArray⟩, .string ⟨h.toArray⟩, .int .i64 p, .int .i64 m] 37)) = w0 at *
    refine Calls.mono (Hid.out (HD _ HP.out)) ?_
    rintro e w1 ⟨rfl, hq1⟩
    have c0 := hq1.cell S0.out
    have c1 := hq1.cell S1.out
    have c2 := hq1.cell S2.out
    have c3 := hq1.cell S3.out
    go_wp2_with fail
    refine Calls.mono (Hid.out (HA _)) ?_
    rintro e w2 ⟨rfl, hq2⟩
    have hq02 := hq1.trans hq2
    clear hq1 hq2 c0 c1 c2 c3
    have d0 := hq02.cell S0.out
    have d1 := hq02.cell S1.out
    have d2 := hq02.cell S2.out
    have d3 := hq02.cell S3.out
    have HRQ : ∀ x, Q w0 x → Hid (Calls Tryd.prog 24 #[v, .string ⟨t.toArray⟩, .string ⟨(lower h).toArray⟩, .int .i64 p, .int .i64 m] x fun e w' => e = .returned (.tuple #[.bool (decRows t (lower h) p m 0 rows).1, .int .i64 (decRows t (lower h) p m 0 rows).2]) ∧ Q x w') := fun x hx => HR x (HV.out.keeps fun b hb => ⟨Nat.lt_of_lt_of_le hb hx.size, fun o => hx.cells.1 b o hb⟩)
    clear HR HD HA HP HV
    go_wp2_with fail
    go_region_held3 (fun w' => w'.cell? ⟨w.heap.size, 0, none⟩ = some (.string ⟨t.toArray⟩) ∧ w'.cell? ⟨w.heap.size, 1, none⟩ = some (.string ⟨h.toArray⟩) ∧ w'.cell? ⟨w.heap.size, 2, none⟩ = some (.int .i64 p) ∧ w'.cell? ⟨w.heap.size, 3, none⟩ = some (.int .i64 m) ∧ Q w0 w')
      (first | exact ⟨d0, d1, d2, d3, hq02.drew⟩ | exact keep4L (by assumption) (by assumption) | assumption)
      (first | (go_at_call 25; refine Calls.mono (Hid.out (HL _)) ?_; rintro e w' ⟨rfl, hq2⟩; unfold str) | (go_at_call 24; refine Calls.mono (Hid.out (HRQ _ (last4L (by assumption)))) ?_; rintro e w' ⟨rfl, hq2⟩))
    have hS := by first | assumption
    obtain ⟨_, _, _, _, hq3⟩ := (show _ ∧ _ from hS)
    generalize (decRows t (lower h) p m 0 rows).1 = x at *
    generalize (decRows t (lower h) p m 0 rows).2 = y at *
    cases x <;> (go_wp2_with fail; go_ret; exact ⟨rfl, HQ0.out.trans hq3⟩)
end Go.Proofs.YtdmaffciijmdcaaDoor

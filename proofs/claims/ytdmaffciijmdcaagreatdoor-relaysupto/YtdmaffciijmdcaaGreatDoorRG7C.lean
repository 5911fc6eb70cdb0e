/-
  The document's answer: where a head leads.
-/
import Derived.Test.YtdmaffciijmdcaaGreatDoorRG5ToRPlain
import Derived.Test.YtdmaffciijmdcaaGreatDoorGateMToRG6
namespace Go.Proofs.YtdmaffciijmdcaaGreatDoor
open Go.RowKit Plain

/-- What the document's answer reads of a gateway to look at a head. -/
structure RGRead (w : World) (gb : Nat) (rs : List RuleS) (tens : List (List UInt8 × List UInt8)) (minute : Int) : Prop where
  rules : ∃ rv rows, w.cell? ⟨gb, 0, none⟩ = some rv ∧ RowsAt (fun b => b < w.heap.size) w rv rows ∧ AllRows rows rs ∧ rs.length ≤ 40 ∧ ∀ row ∈ rows, ∀ s ∈ row, s.length ≤ 4000
  users : ∃ uv us, w.cell? ⟨gb, 1, none⟩ = some uv ∧ PairsAt (fun b => b < w.heap.size) w uv us ∧ usersFrom 0 [] us = .ok tens ∧ us.length ≤ 8
  min : w.cell? ⟨gb, 2, none⟩ = some (.int .i64 minute)
  minB : 0 ≤ minute ∧ minute < 10080
theorem Q.keeps {w w' : World} (q : Q w w') : Keeps (fun b => b < w.heap.size) (fun b => b < w'.heap.size) w w' := fun b hb => ⟨Nat.lt_of_lt_of_le hb q.size, fun o => q.cells.1 b o hb⟩
theorem RGRead.stays {w w' : World} {gb : Nat} {rs : List RuleS} {tens : List (List UInt8 × List UInt8)} {minute : Int} (h : RGRead w gb rs tens minute) (q : Q w w') : RGRead w' gb rs tens minute := by
  obtain ⟨⟨rv, rows, a1, a2, a3⟩, ⟨uv, us, b1, b2, b3⟩, c, d⟩ := h
  exact ⟨⟨rv, rows, q.cell a1, a2.keeps q.keeps, a3⟩, ⟨uv, us, q.cell b1, b2.keeps q.keeps, b3⟩, q.cell c, d⟩

theorem owned_read1 {w : World} {B : Nat} {e : TypeId} {v : Value} {l : List (List UInt8)} (h : w.ownsRow B e 1 v l.length (strVs l)) : ∃ a cap, v = .slice a l.length cap ∧ ∀ (i : Nat) (u : Value), (strVs l)[i]? = some u → ∃ g, a = some ⟨g, 0, none⟩ ∧ w.cell? ⟨g, i, none⟩ = some u := by
  rcases h.2 with ⟨hv, hn⟩ | ⟨g, cap, cur, hv, _⟩
  · refine ⟨none, 0, by rw [hv, hn], fun i u hi => ?_⟩
    have := List.eq_nil_of_length_eq_zero hn
    subst this
    simp [strVs] at hi
  · exact ⟨_, cap, hv, fun i u hi => ⟨g, rfl, owned_cell (by rw [← hv]; exact h) i u hi⟩⟩
def looksV : Except (List UInt8) (List UInt8 × Nat) → Value
  | .ok (h, n) => .tuple #[str h, .int .i64 (n : Int), .string ⟨#[]⟩]
  | .error a => .tuple #[.string ⟨#[]⟩, .int .i64 0, str a]

/-- The judge, by the steps of the document's answer. -/
theorem judge_bad1 {rs : List RuleS} {tens : List (List UInt8 × List UInt8)} {m : Int} {X x : List UInt8} {xs : List (List UInt8)} (hx : splitCR X = x :: xs) (h : firstS x = none) : judgeS rs tens m (X ++ endB) = .error badB := by
  unfold judgeS
  rw [head_lines, hx]
  simp only [h]
theorem judge_bad2 {rs : List RuleS} {tens : List (List UInt8 × List UInt8)} {m : Int} {X x : List UInt8} {xs : List (List UInt8)} (hx : splitCR X = x :: xs) (h : fieldsS xs = none) : judgeS rs tens m (X ++ endB) = .error badB := by
  unfold judgeS
  rw [head_lines, hx]
  simp only [h]
  rcases firstS x with _ | ⟨a, b⟩ <;> rfl
def goFrom (rs : List RuleS) (m : Int) (host : List UInt8) (port : Nat) : Option (List UInt8) → Except (List UInt8) (List UInt8 × Nat)
  | none => .error whoB
  | some t => if (decideS rs t host (port : Int) m).1 = true then .ok (host, port) else .error denyB
def goTo (rs : List RuleS) (m : Int) (wh : Option (List UInt8)) : Option (List UInt8 × Nat) → Except (List UInt8) (List UInt8 × Nat)
  | none => .error badB
  | some (host, port) => goFrom rs m host port wh
theorem judge_go {rs : List RuleS} {tens : List (List UInt8 × List UInt8)} {m : Int} {X x : List UInt8} {xs : List (List UInt8)} {a t : List UInt8} {fs : List (List UInt8 × List UInt8)} (hx : splitCR X = x :: xs) (h : firstS x = some (a, t)) (hf : fieldsS xs = some fs) :
    judgeS rs tens m (X ++ endB) = if (a == connectB) = false then .error kindB else goTo rs m (whoIs tens fs) (targetS t) := by
  unfold judgeS
  rw [head_lines, hx]
  simp only [h, hf]
  split
  · rfl
  · rcases targetS t with _ | ⟨host, p⟩
    · rfl
    · dsimp only [goTo]
      cases whoIs tens fs <;> rfl
theorem first_three {x m t v : List UInt8} (hp : parts 32 x = [m, t, v]) : firstS x = if firstOk m t v = true then some (m, t) else none := by
  unfold firstS; rw [hp]
theorem first_not {x : List UInt8} (hp : ¬ (parts 32 x).length = 3) : firstS x = none := by
  unfold firstS
  split
  · rename_i a b c he
    rw [he] at hp
    exact absurd rfl hp
  · rfl
theorem firstOk_span (m t v : List UInt8) : firstOk m t v = (spanS 65 90 m && spanS 33 126 t && (v == http11 || v == http10)) := by
  unfold firstOk spanS
  rw [inB_great, inB_seen]
  congr 2
  · congr 1
    cases m <;> simp
  · congr 1
    cases t <;> simp

theorem ask_someR {rows : List (List (List UInt8))} {rs : List RuleS} {t h : List UInt8} {p m : Int} (ha : asksR t h p m = true) (hall : AllRows rows rs) : (decideS rs t h p m).1 = (decRows t (lower h) p m 0 rows).1 := by
  rw [asks_same] at ha
  unfold decideS
  cases hx : askS t h p m with
  | none => rw [hx] at ha; cases ha
  | some x =>
    obtain ⟨nm, ad⟩ := x
    have hh : readHost h = some (nm, ad) := by
      unfold askS at hx
      split at hx
      · exact hx
      · cases hx
    rw [dec_same hh 0 rows rs hall]
theorem keepD {a b W : World} {p0 p1 : Addr} {v0 v1 : Value} (h : a.cell? p0 = some v0 ∧ a.cell? p1 = some v1 ∧ Q W a) (q : Q a b) : b.cell? p0 = some v0 ∧ b.cell? p1 = some v1 ∧ Q W b := by
  obtain ⟨h0, h1, hq⟩ := h
  exact ⟨q.cell h0, q.cell h1, hq.trans q⟩
theorem lastD {a W : World} {p0 p1 : Addr} {v0 v1 : Value} (h : a.cell? p0 = some v0 ∧ a.cell? p1 = some v1 ∧ Q W a) : Q W a := h.2.2
theorem b64_lenR : ∀ l : List UInt8, (b64 l).length ≤ 4 * l.length
  | [] => by simp [b64]
  | [a] => by simp [b64]
  | [a, b] => by simp [b64]
  | a :: b :: c :: l => by
    have := b64_lenR l
    simp only [b64, List.length_cons]
    omega
theorem keepU {a b W : World} {p0 p1 p2 : Addr} {v0 v1 v2 : Value}
    (h : a.cell? p0 = some v0 ∧ a.cell? p1 = some v1 ∧ a.cell? p2 = some v2 ∧ Q W a) (q : Q a b) :
    b.cell? p0 = some v0 ∧ b.cell? p1 = some v1 ∧ b.cell? p2 = some v2 ∧ Q W b := by
  obtain ⟨h0, h1, h2, hq⟩ := h
  exact ⟨q.cell h0, q.cell h1, q.cell h2, hq.trans q⟩
theorem target_not {t : List UInt8} (h : ¬ (parts 58 t).length = 2) : targetS t = none := by
  rw [target_parts]
  generalize parts 58 t = l at *
  rcases l with _ | ⟨a, _ | ⟨b, _ | ⟨c, r⟩⟩⟩
  · rfl
  · rfl
  · exact absurd rfl h
  · rfl
theorem target_two {t h p : List UInt8} (hp : parts 58 t = [h, p]) : (hostR (lower h) = false → targetS t = none) ∧ (number p 65535 = none → targetS t = none) ∧ ∀ n, hostR (lower h) = true → number p 65535 = some n → targetS t = some (lower h, n) := by
  rw [target_parts, hp]
  refine ⟨fun e => ?_, fun e => ?_, fun n e1 e2 => ?_⟩
  · simp only [e]; rfl
  · simp only [e]
    split <;> rfl
  · simp only [e1, e2]; rfl
theorem who_one (tens fs : List (List UInt8 × List UInt8)) : (∀ c, saidOf fs = [c] → whoIs tens fs = byS tens c) ∧ (¬ (saidOf fs).length = 1 → whoIs tens fs = none) := by
  unfold whoIs
  rw [said_only]
  generalize saidOf fs = l
  refine ⟨fun c e => by rw [e], fun h => ?_⟩
  rcases l with _ | ⟨a, _ | ⟨b, r⟩⟩
  · rfl
  · exact absurd rfl h
  · rfl

set_option maxRecDepth 100000 in
set_option maxHeartbeats 3200000 in
theorem rlooks_any {gb : Nat} {rs : List RuleS} {tens : List (List UInt8 × List UInt8)} {minute : Int} {w : World} (hr : RGRead w gb rs tens minute) (X : List UInt8) (hX : X.length ≤ 996) :
    Calls Tryz.prog 81 #[ptr gb, .string ⟨(X ++ endB).toArray⟩] w fun e w' => e = .returned (looksV (judgeS rs tens minute (X ++ endB))) ∧ Q w w' := by
  have HR : Hid (RGRead w gb rs tens minute) := hr
  clear hr
  have hlT : (X ++ endB).length = X.length + 4 := by rw [List.length_append]; rfl
  have hsz : (⟨(X ++ endB).toArray⟩ : ByteArray).size = X.length + 4 := hlT
  have hsub : ((X.length + 4 : Nat) : Int) - 2 = ((X.length + 2 : Nat) : Int) := by omega
  have hpre : (⟨(X ++ endB).toArray⟩ : ByteArray).extract 0 (X.length + 2) = ⟨(X ++ [13, 10]).toArray⟩ := by
    rw [pre_str, List.take_append, List.take_of_length_le (by omega), Nat.add_sub_cancel_left]
    rfl
  have HLi := show Hid _ from rlines_any (X ++ [13, 10]) w (by rw [List.length_append]; simp; omega)
  rw [splitCR_snoc, List.dropLast_concat] at HLi
  have HLn : Hid ((splitCR X).length ≤ 997 ∧ ∀ p ∈ splitCR X, p.length ≤ 996) := ⟨by have := splitCR_len X; omega, fun p hp => by have := splitCR_part X p hp; omega⟩
  have HJ1 : Hid (∀ x xs, splitCR X = x :: xs → firstS x = none → judgeS rs tens minute (X ++ endB) = .error badB) := fun x xs h1 h2 => judge_bad1 h1 h2
  have HJ2 : Hid (∀ x xs, splitCR X = x :: xs → fieldsS xs = none → judgeS rs tens minute (X ++ endB) = .error badB) := fun x xs h1 h2 => judge_bad2 h1 h2
  have HJ3 := show Hid _ from fun x xs a t fs => judge_go (rs := rs) (tens := tens) (m := minute) (X := X) (x := x) (xs := xs) (a := a) (t := t) (fs := fs)
  have HNe : Hid (splitCR X ≠ []) := splitCR_ne X
  obtain ⟨T, hT⟩ : ∃ T, T = X ++ endB := ⟨_, rfl⟩
  rw [← hT] at hsz hpre HJ1 HJ2 HJ3 ⊢
  generalize judgeS rs tens minute T = J at *
  generalize splitCR X = L at *
  obtain ⟨n, hn⟩ : ∃ n, n = X.length := ⟨_, rfl⟩
  rw [← hn] at hsz hsub hpre hX
  clear hT hlT hn
  go_enter Tryz.func81, Tryz.ntmps81
  go_wp2_with fail
  refine Calls.mono (Hid.out HLi) ?_
  rintro e w1 ⟨v1, rfl, hown1, hq1⟩
  clear HLi hpre hsub hsz
  rcases L with _ | ⟨x, xs⟩
  · exact absurd rfl HNe.out
  clear HNe
  obtain ⟨v1o, v1c, rfl⟩ := slice_form hown1
  have hst1 : StrsAt w1 (.slice v1o (x :: xs).length v1c) (x :: xs) := by
    rcases hown1.2 with ⟨hv, hz⟩ | ⟨g, cap, cur, hv, _⟩
    · cases hz
    · rw [hv] at hown1 ⊢
      exact owned_strs rfl hown1
  obtain ⟨g1, cap1, hv1, hc1⟩ := hst1
  obtain ⟨rfl, rfl⟩ : v1o = some ⟨g1, 0, none⟩ ∧ v1c = cap1 := by
    injection hv1 with e1 _ e3
    exact ⟨e1, e3⟩
  clear hv1 hown1
  have HC1 := show Hid _ from hc1
  have HQ1 : Hid (Q w w1) := hq1
  have HL1 := HLn.out.1
  have HLp := HLn.out.2
  rw [List.length_cons] at HL1
  have hx0 := hc1 0 x rfl
  have hxl : x.length ≤ 996 := HLp x (by simp)
  have HXl : Hid (∀ p ∈ xs, p.length ≤ 996) := fun p hp => HLp p (by simp [hp])
  obtain ⟨xn, hxn⟩ : ∃ k, k = xs.length := ⟨_, rfl⟩
  rw [← hxn] at HL1
  rw [List.length_cons, ← hxn]
  have HXN : Hid (xs.length = xn) := hxn.symm
  clear hc1 HLp HLn hq1 hxn
  have hpos : decide ((xn : Int) + 1 = 0) = false := decide_eq_false (by omega)
  have HP := fun y => show Hid _ from rparts_any x 32 y (by omega)
  go_wp2_with fail
  refine Calls.mono (Hid.out (HP _)) ?_
  rintro e w2 ⟨v2, rfl, ⟨g2, cap2, rfl, hc2⟩, hq2⟩
  have HQ2 : Hid (Q w w2) := HQ1.out.trans hq2
  have HQ12 : Hid (Q w1 w2) := hq2
  have hP3 := parts_le 32 x
  have HJa : Hid (firstS x = none → J = .error badB) := HJ1.out x xs rfl
  have HF3 := show Hid _ from fun m t v => first_three (x := x) (m := m) (t := t) (v := v)
  have HFn := show Hid _ from first_not (x := x)
  have hcnt := parts_count_le 32 x
  clear HJ1 HP hx0 hq2
  generalize parts 32 x = p at *
  by_cases h3 : p.length = 3
  case neg =>
    have HB := show Hid _ from HJa.out (HFn.out h3)
    have d3 : ((p.length : Int) != 3) = true := by rw [bne_iff_ne]; omega
    clear HFn HF3 HJa hc2 hP3
    go_wp2_with fail
    go_ret3
    exact ⟨by rw [HB.out]; rfl, HQ2.out⟩
  obtain ⟨m, t, v, rfl⟩ : ∃ m t v, p = [m, t, v] := by
    match p, h3 with
    | [m, t, v], _ => exact ⟨m, t, v, rfl⟩
  rw [show ([m, t, v] : List (List UInt8)).length = 3 from rfl]
  have m0 := hc2 0 m rfl
  have m1 := hc2 1 t rfl
  have m2 := hc2 2 v rfl
  have hml : m.length ≤ 1000 := by have := hP3 m (by simp); omega
  have htl : t.length ≤ 1000 := by have := hP3 t (by simp); omega
  have HF := show Hid _ from HF3.out m t v rfl
  rw [firstOk_span] at HF
  clear HF3 HFn hc2 hP3 h3 hcnt
  have HSm := fun y => show Hid _ from rspan_any m 65 90 y (by omega)
  have HSt := fun y => show Hid _ from rspan_any t 33 126 y (by omega)
  go_upto_region 5 with fail
  go_cut [52] (fun b wx => b = .bool (!(v == http11 || v == http10)) ∧ wx = w2)
  case first =>
    by_cases h11 : v = http11
    · subst h11
      unfold http11 at m2
      go_wp2_with fail
      go_meet
      exact ⟨rfl, rfl⟩
    · have e1 : (v == [72, 84, 84, 80, 47, 49, 46, 49]) = false := beq_eq_false_iff_ne.2 h11
      by_cases h10 : v = http10
      · subst h10
        unfold http10 at m2
        go_wp2_with fail
        go_meet
        exact ⟨rfl, rfl⟩
      · have e2 : (v == [72, 84, 84, 80, 47, 49, 46, 48]) = false := beq_eq_false_iff_ne.2 h10
        go_wp2_with fail
        go_meet
        exact ⟨by unfold http11 http10; rw [e1, e2]; rfl, rfl⟩
  case rest =>
    obtain ⟨rfl, hw⟩ := hcut
    rw [hw]
    clear hw
    cases hv : (v == http11 || v == http10) with
    | false =>
      have HB := show Hid _ from HJa.out (by rw [HF.out, hv, Bool.and_false]; rfl)
      clear HJa HF hv
      go_wp2_with fail
      go_ret3
      exact ⟨by rw [HB.out]; rfl, HQ2.out⟩
    | true =>
      rw [hv, Bool.and_true] at HF
      clear hv m2
      go_wp2_with fail
      refine Calls.mono (Hid.out (HSm _)) ?_
      rintro e w' ⟨rfl, hw⟩
      rw [hw]
      clear hw w'
      go_wp2_with fail
      refine Calls.mono (Hid.out (HSt _)) ?_
      rintro e w' ⟨rfl, hw⟩
      rw [hw]
      clear hw w' HSm HSt
      generalize spanS 65 90 m = sm at *
      generalize spanS 33 126 t = st at *
      cases hb : (sm && st) with
      | false =>
        have HB := show Hid _ from HJa.out (by rw [HF.out, hb]; rfl)
        clear HJa HF
        cases sm
        · go_wp2_with fail
          go_ret3
          exact ⟨by rw [HB.out]; rfl, HQ2.out⟩
        · cases st
          · go_wp2_with fail
            go_ret3
            exact ⟨by rw [HB.out]; rfl, HQ2.out⟩
          · cases hb
      | true =>
        have HF1 : Hid (firstS x = some (m, t)) := by
          show _ = _
          rw [HF.out, hb]; rfl
        obtain ⟨rfl, rfl⟩ : sm = true ∧ st = true := by
          cases sm <;> cases st <;> simp at hb ⊢
        clear HJa HF hb
        have HJb : Hid (fieldsS xs = none → J = .error badB) := HJ2.out x xs rfl
        have HJc := show Hid _ from fun fs h => HJ3.out x xs m t fs rfl HF1.out h
        clear HJ2 HJ3 HF1
        go_wp2_with fail
        go_loopw [11, 12, 13, 14, 15] (fun sv i _ _ _ wr => ∃ (j : Nat) (fs : List (List UInt8 × List UInt8)), 1 ≤ j ∧ j ≤ xn + 1 ∧ (saidOf fs).length ≤ j ∧ i = .int .i64 (j : Int) ∧ Hid (fieldsS (xs.take (j - 1)) = some fs) ∧ Hid (wr.ownsRow w2.heap.size 9 1 sv (saidOf fs).length (strVs (saidOf fs))) ∧ Hid (Q w2 wr)) (fun _ i _ _ _ _ => xn + 1 - (intOf i).toNat)
        case atStart => exact ⟨1, [], Nat.le_refl _, by omega, Nat.zero_le _, rfl, rfl, ⟨rfl, .inl ⟨rfl, rfl⟩⟩, Q.refl _⟩
        case round =>
          obtain ⟨j, fs, hj1, hj2, hsl, rfl, hfs, hown, hq⟩ := hrel
          by_cases hlt : j ≤ xn
          · obtain ⟨l, hl⟩ : ∃ l, (x :: xs)[j]? = some l := ⟨_, List.getElem?_eq_getElem (by rw [List.length_cons, HXN.out]; omega)⟩
            have cj := hq.out.cell (HQ12.out.cell (HC1.out j l hl))
            have hl2 : xs[j - 1]? = some l := by
              have e : j = (j - 1) + 1 := by omega
              rw [e, List.getElem?_cons_succ] at hl
              exact hl
            have hll : l.length ≤ 996 := HXl.out l (List.mem_of_getElem? hl2)
            have HTk : Hid (xs.take (j + 1 - 1) = xs.take (j - 1) ++ [l]) := by
              show _ = _
              obtain ⟨h1, rfl⟩ := List.getElem?_eq_some_iff.1 hl2
              rw [show j + 1 - 1 = (j - 1) + 1 by omega, List.take_succ_eq_append_getElem h1]
            have HMm : Hid (l ∈ xs) := List.mem_of_getElem? hl2
            clear hl hl2
            have HFd := fun y => show Hid _ from rfield_any l y (by omega)
            have HSame := show Hid _ from field_same l
            have hnl : (fieldR l).1.length ≤ 996 := by
              unfold fieldR
              cases hc : cutAt 58 l with
              | none => simp
              | some z =>
                obtain ⟨a, b⟩ := z
                have := cut_le hc
                simp only; omega
            generalize fieldR l = R at *
            obtain ⟨nm, va, okb⟩ := R
            go_wp2_with fail
            refine Calls.mono (Hid.out (HFd _)) ?_
            rintro e w3 ⟨rfl, hq3⟩
            clear HFd cj
            cases okb
            case false =>
              have HB := show Hid _ from HJb.out (fields_none HMm.out (by rw [HSame.out]; rfl))
              have HQ3 : Hid (Q w w3) := HQ2.out.trans (hq.out.trans hq3)
              unfold str
              clear HJb HJc HSame HMm HTk
              go_wp2_with fail
              go_ret3
              exact ⟨by rw [HB.out]; rfl, HQ3.out⟩
            case true =>
              have HNx : Hid (fieldsS (xs.take (j + 1 - 1)) = some (fs ++ [(lower nm, va)])) := by
                show _ = _
                rw [HTk.out, fields_snoc hfs.out, HSame.out]; rfl
              have HLw := fun y => show Hid _ from rlower_any nm y (by omega)
              have HO3 : Hid (w3.ownsRow w2.heap.size 9 1 u11 (saidOf fs).length (strVs (saidOf fs))) := owns_Q hown.out hq3
              have HQ3 : Hid (Q w2 w3) := hq.out.trans hq3
              unfold str
              clear HSame HMm HTk hown hq hfs
              go_wp2_with fail
              refine Calls.mono (Hid.out (HLw _)) ?_
              rintro e w4 ⟨rfl, hq4⟩
              have HO4 : Hid (w4.ownsRow w2.heap.size 9 1 u11 (saidOf fs).length (strVs (saidOf fs))) := owns_Q HO3.out hq4
              have HQ4 : Hid (Q w2 w4) := HQ3.out.trans hq4
              unfold str
              clear HLw HO3 HQ3 hq3 hq4
              by_cases hp : lower nm = proxyB
              · have HSd : Hid (saidOf (fs ++ [(lower nm, va)]) = saidOf fs ++ [va]) := by
                  show _ = _
                  unfold saidOf
                  rw [List.filter_append, List.map_append]
                  simp [hp]
                have dp : (lower nm == [112, 114, 111, 120, 121, 45, 97, 117, 116, 104, 111, 114, 105, 122, 97, 116, 105, 111, 110]) = true := by rw [hp]; rfl
                clear hp
                generalize lower nm = lw at *
                go_wp2_with (first | (at_builtin; refine append_one rfl (.tmp 87) (.tmp 89) 111 rfl 9 Tryz.t9 (.string ⟨#[]⟩) 16 Tryz.underlying111 (by kernel_rfl) (by kernel_rfl) (by kernel_rfl) (by kernel_rfl) rfl u11 (strVs (saidOf fs)) (.string ⟨va.toArray⟩) w2.heap.size w4 rfl rfl (by rw [strVs_len]; exact HO4.out) rfl (by rw [strVs_len]; omega) (by decide) HQ4.out.size ?_; intro g cap w' ho' hb' _ _ _))
                rw [strVs_snoc, strVs_len] at ho'
                rw [strVs_len]
                refine ⟨⟨j + 1, fs ++ [(lw, va)], by omega, by omega, by rw [HSd.out]; simp; omega, by go_num, HNx, ?_, (Below.trans HQ4.out hb' : Below w2.heap.size w2 w')⟩, by simp [intOf]; omega⟩
                show World.ownsRow _ _ _ _ _ _ _
                rw [HSd.out, List.length_append]
                exact ho'
              · have HSd : Hid (saidOf (fs ++ [(lower nm, va)]) = saidOf fs) := by
                  show _ = _
                  unfold saidOf
                  rw [List.filter_append, List.map_append]
                  simp [hp]
                have dp : (lower nm == [112, 114, 111, 120, 121, 45, 97, 117, 116, 104, 111, 114, 105, 122, 97, 116, 105, 111, 110]) = false := beq_eq_false_iff_ne.2 hp
                have dp2 : ¬ lower nm = [112, 114, 111, 120, 121, 45, 97, 117, 116, 104, 111, 114, 105, 122, 97, 116, 105, 111, 110] := hp
                clear hp
                generalize lower nm = lw at *
                go_wp2_with fail
                exact ⟨⟨j + 1, fs ++ [(lw, va)], by omega, by omega, by rw [HSd.out]; omega, by go_num, HNx, by show World.ownsRow _ _ _ _ _ _ _; rw [HSd.out]; exact HO4.out, HQ4⟩, by simp [intOf]; omega⟩
          · have HFs : Hid (fieldsS xs = some fs) := by
              have := hfs.out
              rw [List.take_of_length_le (by rw [HXN.out]; omega)] at this
              exact this
            have HJ := show Hid _ from HJc.out fs HFs.out
            clear HJb HJc HFs hfs HXl
            have HW := show Hid _ from who_one tens fs
            have n0 := hq.out.cell m0
            have n1 := hq.out.cell m1
            have HQr : Hid (Q w wr) := HQ2.out.trans hq.out
            have HO : Hid (wr.ownsRow w2.heap.size 9 1 u11 (saidOf fs).length (strVs (saidOf fs))) := hown.out
            generalize saidOf fs = sd at *
            generalize whoIs tens fs = wh at *
            clear m0 m1 HQ12 HQ2 HQ1 HC1 hown hq
            by_cases hm : m = connectB
            case neg =>
              have dm : (m == [67, 79, 78, 78, 69, 67, 84]) = false := beq_eq_false_iff_ne.2 hm
              have HB : Hid (J = .error kindB) := by
                show _ = _
                rw [HJ.out, if_pos (by exact dm)]
              clear HJ hm
              go_wp2_with fail
              go_ret3
              exact ⟨by rw [HB.out]; rfl, HQr.out⟩
            have dm : (m == [67, 79, 78, 78, 69, 67, 84]) = true := by rw [hm]; rfl
            have HK : Hid (J = goTo rs minute wh (targetS t)) := by
              show _ = _
              rw [HJ.out, if_neg (by rw [hm]; decide)]
            clear HJ hm
            have HP5 := fun y => show Hid _ from rparts_any t 58 y (by omega)
            have hP5 := parts_le 58 t
            have hcnt5 := parts_count_le 58 t
            have HTn := show Hid _ from target_not (t := t)
            have HT2 := show Hid _ from fun h p => target_two (t := t) (h := h) (p := p)
            go_wp2_with fail
            refine Calls.mono (Hid.out (HP5 _)) ?_
            rintro e w5 ⟨v5, rfl, ⟨g5, cap5, rfl, hc5⟩, hq5⟩
            have HQ5 : Hid (Q w w5) := HQr.out.trans hq5
            have HO5 : Hid (w5.ownsRow w2.heap.size 9 1 u11 sd.length (strVs sd)) := owns_Q HO.out hq5
            clear HP5 n0 n1 HO HQr hq5
            generalize parts 58 t = p5 at *
            generalize targetS t = tg at *
            by_cases h2 : p5.length = 2
            case neg =>
              have HB : Hid (J = .error badB) := by
                show _ = _
                rw [HK.out, HTn.out h2]; rfl
              have d2 : ((p5.length : Int) != 2) = true := by rw [bne_iff_ne]; omega
              clear HK HTn HT2 hc5 hP5
              go_wp2_with fail
              go_ret3
              exact ⟨by rw [HB.out]; rfl, HQ5.out⟩
            obtain ⟨h, pt, rfl⟩ : ∃ h pt, p5 = [h, pt] := by
              match p5, h2 with
              | [h, pt], _ => exact ⟨h, pt, rfl⟩
            rw [show ([h, pt] : List (List UInt8)).length = 2 from rfl]
            have q0 := hc5 0 h rfl
            have q1 := hc5 1 pt rfl
            have hhl : h.length ≤ 1000 := by have := hP5 h (by simp); omega
            have hpl : pt.length ≤ 1000 := by have := hP5 pt (by simp); omega
            have HT := show Hid _ from HT2.out h pt rfl
            clear HT2 HTn hc5 hP5 h2 hcnt5
            have HLw := fun y => show Hid _ from rlower_any h y (by omega)
            have HNu := fun y => show Hid _ from rnumber_any pt 65535 y (by omega) (by decide)
            have HHo := fun y => show Hid _ from rhost_any (lower h) y (by rw [lower_len]; omega)
            have hll := lower_len h
            have HLL : Hid (lower (lower h) = lower h) := lower_lower h
            go_wp2_with fail
            refine Calls.mono (Hid.out (HLw _)) ?_
            rintro e w6 ⟨rfl, hq6⟩
            have q16 := hq6.cell q1
            unfold str
            clear HLw q0 q1
            go_wp2_with fail
            refine Calls.mono (Hid.out (HNu _)) ?_
            rintro e w' ⟨rfl, hw⟩
            rw [hw]
            clear hw w' HNu q16
            go_wp2_with fail
            refine Calls.mono (Hid.out (HHo _)) ?_
            rintro e w7 ⟨rfl, hq7⟩
            have HQ7 : Hid (Q w w7) := HQ5.out.trans (hq6.trans hq7)
            have HO7 : Hid (w7.ownsRow w2.heap.size 9 1 u11 sd.length (strVs sd)) := owns_Q (owns_Q HO5.out hq6) hq7
            clear HHo HQ5 HO5 hq6 hq7
            generalize lower h = host at *
            cases hho : hostR host with
            | false =>
              have HB : Hid (J = .error badB) := by
                show _ = _
                rw [HK.out, HT.out.1 hho]; rfl
              clear HK HT
              go_wp2_with fail
              go_ret3
              exact ⟨by rw [HB.out]; rfl, HQ7.out⟩
            | true =>
              rcases numR_cases pt 65535 with ⟨hn, hr⟩ | ⟨port, hn, hr, hle⟩
              · have HB : Hid (J = .error badB) := by
                  show _ = _
                  rw [HK.out, HT.out.2.1 hn]; rfl
                rw [hr]
                clear HK HT hn hr
                go_wp2_with fail
                go_ret3
                exact ⟨by rw [HB.out]; rfl, HQ7.out⟩
              · rw [hr]
                have dp : decide ((port : Int) < 0) = false := decide_eq_false (by omega)
                have HL : Hid (J = goFrom rs minute host port wh) := by
                  show _ = _
                  rw [HK.out, HT.out.2.2 port hho hn]; rfl
                have HHr : Hid (hostR host = true) := hho
                clear HK HT hn hr hho
                obtain ⟨⟨rv, rows, a1, a2, a3, a4, a5⟩, ⟨uv, us, b1, b2, b3, b4⟩, cmin, dmin⟩ := HR.out.stays HQ7.out
                obtain ⟨ua, ucap, rfl, hus⟩ := b2
                obtain ⟨so, sc, rfl⟩ := slice_form HO7.out
                have hgb : gb < w7.heap.size := Q.lt b1
                by_cases h1 : sd.length = 1
                case neg =>
                  have HB : Hid (J = .error whoB) := by
                    show _ = _
                    rw [HL.out, HW.out.2 h1]; rfl
                  have d1 : ((sd.length : Int) == 1) = false := by rw [beq_eq_false_iff_ne]; omega
                  clear HL HW HO7 a2 a3 a4 a5 hus b3 HR
                  by_cases hu0 : us.length = 0
                  · have d0 : decide ((0 : Int) < (us.length : Int)) = false := decide_eq_false (by omega)
                    rw [hu0] at b1
                    clear d0 d1 hu0
                    go_wp2_with fail
                    refine wp_loop_rounds 1 ?_
                    rw [rounds_succ]
                    go_wp2_with fail
                    go_ret3
                    exact ⟨by rw [HB.out]; rfl, HQ7.out⟩
                  · have d0 : decide ((0 : Int) < (us.length : Int)) = true := decide_eq_true (by omega)
                    have d00 : 0 < us.length := by omega
                    clear hu0
                    go_wp2_with fail
                    refine wp_loop_rounds 1 ?_
                    rw [rounds_succ]
                    go_wp2_with fail
                    go_ret3
                    exact ⟨by rw [HB.out]; rfl, HQ7.out⟩
                obtain ⟨c, rfl⟩ : ∃ c, sd = [c] := by
                  match sd, h1 with
                  | [c], _ => exact ⟨c, rfl⟩
                obtain ⟨gs, rfl, hsc⟩ : ∃ gs, so = some ⟨gs, 0, none⟩ ∧ w7.cell? ⟨gs, 0, none⟩ = some (.string ⟨c.toArray⟩) := by
                  obtain ⟨a, cap, hv, hc⟩ := owned_read1 HO7.out
                  injection hv with e1 _ _
                  obtain ⟨gs, hg, hcell⟩ := hc 0 _ rfl
                  exact ⟨gs, by rw [e1, hg], hcell⟩
                have HWb : Hid (wh = byS tens c) := HW.out.1 c rfl
                have HFo := show Hid _ from found_same b3 c
                have HUk := show Hid _ from (users_ok us 0 [] tens b3).2
                have HRu : Hid (RowsAt (fun b => b < w7.heap.size) w7 rv rows ∧ AllRows rows rs ∧ rs.length ≤ 40 ∧ ∀ row ∈ rows, ∀ s ∈ row, s.length ≤ 4000) := ⟨a2, a3, a4, a5⟩
                have HUs := show Hid _ from hus
                rw [show ([c] : List (List UInt8)).length = 1 from rfl]
                clear a2 a3 a4 a5 b3 hus HW HO7 HR h1
                go_wp2_with fail
                go_loopw [20, 21, 22] (fun tn i _ wr => ∃ k : Nat, k ≤ us.length ∧ i = .int .i64 (k : Int) ∧ tn = .string ⟨(foundR (us.take k) c).toArray⟩ ∧ Hid (Q w7 wr)) (fun _ i _ _ => us.length - (intOf i).toNat)
                case atStart => exact ⟨0, Nat.zero_le _, rfl, rfl, Q.refl _⟩
                case round =>
                  obtain ⟨k, hk, rfl, rfl, hqr⟩ := hrel
                  have y1 := hqr.out.cell b1
                  have y2 := hqr.out.cell hsc
                  by_cases hlt : k < us.length
                  · have hget : us[k]? = some us[k] := List.getElem?_eq_getElem hlt
                    obtain ⟨gu, _, rfl, e1, e2⟩ := HUs.out k _ hget
                    have HSt := show Hid _ from found_step us c hget
                    obtain ⟨hto, hse⟩ := HUk.out _ (List.mem_of_getElem? hget)
                    have hnl := (small_no58 hto).2.2
                    have hsl : (us[k]).2.length ≤ 12 := by
                      unfold secretOk at hse
                      simp only [Bool.and_eq_true, decide_eq_true_eq] at hse
                      exact hse.1.2
                    clear hget hto hse
                    generalize us[k] = u at *
                    obtain ⟨un, use⟩ := u
                    simp only at hnl hsl HSt e1 e2
                    have z1 := hqr.out.cell e1
                    have z2 := hqr.out.cell e2
                    unfold str at z1 z2
                    obtain ⟨U, hU⟩ : ∃ U : ByteArray, U = ⟨un.toArray⟩ := ⟨_, rfl⟩
                    obtain ⟨V, hV⟩ : ∃ V : ByteArray, V = ⟨use.toArray⟩ := ⟨_, rfl⟩
                    have hs1 : U.size ≤ 8 := by rw [hU]; exact hnl
                    have hs2 : V.size ≤ 12 := by rw [hV]; exact hsl
                    rw [← hU] at z1
                    rw [← hV] at z2
                    have HU := show Hid _ from hU
                    have HB6 : ∀ y, Hid (Calls Tryz.prog 112 #[.string (U ++ (⟨#[58]⟩ : ByteArray) ++ V)] y fun e w' => e = .returned (str (b64 (un ++ 58 :: use))) ∧ Q y w') := fun y => by
                      rw [show un ++ 58 :: use = un ++ [58] ++ use by simp, show (U ++ (⟨#[58]⟩ : ByteArray) ++ V) = ⟨(un ++ [58] ++ use).toArray⟩ from by rw [hU, hV, show (⟨#[58]⟩ : ByteArray) = ⟨[58].toArray⟩ from rfl, str_app0, str_app0]]
                      exact rbase64_any (un ++ [58] ++ use) y (by simp; omega)
                    have hd1 : decide ((k : Int) < (us.length : Int)) = true := decide_eq_true (by omega)
                    have ha1 : ∀ y, (Op.stringOp .add U ⟨#[58]⟩).run Tryz.prog y = .ok (.string (U ++ ⟨#[58]⟩)) y := fun y => run_string_add_sum y U ⟨#[58]⟩ (by show U.size + 1 ≤ _; omega)
                    have ha2 : ∀ y, (Op.stringOp .add (U ++ ⟨#[58]⟩) V).run Tryz.prog y = .ok (.string (U ++ ⟨#[58]⟩ ++ V)) y := fun y => run_string_add_sum y (U ++ ⟨#[58]⟩) V (by rw [ByteArray.size_append]; show U.size + 1 + V.size ≤ _; omega)
                    have ha3 : U.size + 1 ≤ 9223372036854775807 := by omega
                    have ha4 : U.size + 1 + V.size ≤ 9223372036854775807 := by omega
                    clear e1 e2 hU hV
                    go_wp2_with fail
                    go_region_held3 (fun w' => w'.cell? ⟨gb, 1, none⟩ = some (.slice (some ⟨gu, 0, none⟩) us.length ucap) ∧ w'.cell? ⟨gu, k * 2, none⟩ = some (.string U) ∧ w'.cell? ⟨gu, k * 2 + 1, none⟩ = some (.string V) ∧ Q wr w')
                      (first | exact ⟨y1, z1, z2, (Q.refl _).drew⟩ | exact keepU (by assumption) (by assumption) | assumption)
                      (first | (go_at_call 112; refine Calls.mono (Hid.out (HB6 _)) ?_; rintro e w' ⟨rfl, hq2⟩; unfold str))
                    have hS := by first | assumption
                    obtain ⟨y1', z1', _, hq8⟩ := (show _ ∧ _ from hS)
                    have y2' := hq8.cell y2
                    have HQ8 : Hid (Q w7 _) := hqr.out.trans hq8
                    have hzl := b64_lenR (un ++ 58 :: use)
                    have HCr : Hid (credS un use = basic ++ b64 (un ++ 58 :: use)) := by
                      show _ = _
                      unfold credS; simp
                    generalize b64 (un ++ 58 :: use) = z6 at *
                    have hz6 : z6.length ≤ 100 := by simp at hzl; omega
                    obtain ⟨Z, hZ⟩ : ∃ Z : ByteArray, Z = ⟨z6.toArray⟩ := ⟨_, rfl⟩
                    have hZs : Z.size ≤ 100 := by rw [hZ]; exact hz6
                    have HZ := show Hid _ from hZ
                    clear hzl hz6 ha1 ha2 ha3 ha4 HB6
                    rw [← hZ]
                    clear hZ
                    go_upto_region 35 with fail
                    go_cut [156] (fun b wx => b = .bool (decide (c = credS un use)) ∧ Hid (Q w7 wx) ∧ wx.cell? ⟨gb, 1, none⟩ = some (.slice (some ⟨gu, 0, none⟩) us.length ucap) ∧ wx.cell? ⟨gu, k * 2, none⟩ = some (.string U))
                    case first =>
                      go_wp2_with fail
                      go_meet
                      refine ⟨?_, HQ8, y1', z1'⟩
                      have e : ((⟨#[66, 97, 115, 105, 99, 32]⟩ : ByteArray) ++ Z).toList = basic ++ z6 := by
                        rw [HZ.out, show (⟨#[66, 97, 115, 105, 99, 32]⟩ : ByteArray) = ⟨basic.toArray⟩ from rfl, str_app0, Lib.toList_data]
                      rw [e, HCr.out]
                      congr 1
                      rw [Bool.eq_iff_iff]
                      simp
                    case rest =>
                      obtain ⟨rfl, hq9, c1, c2⟩ := hcut
                      clear y1' z1' y2' HQ8 hq8 hS hZs HZ HCr
                      by_cases hcr : c = credS un use
                      · rw [if_pos hcr] at HSt
                        have dcr : decide (c = credS un use) = true := decide_eq_true hcr
                        clear hcr
                        rw [dcr]
                        clear dcr
                        go_wp2_with fail
                        exact ⟨⟨k + 1, by omega, by go_num, by rw [HSt.out, HU.out], hq9⟩, by simp [intOf]; omega⟩
                      · rw [if_neg hcr] at HSt
                        have dcr : decide (c = credS un use) = false := decide_eq_false hcr
                        clear hcr
                        rw [dcr]
                        clear dcr
                        go_wp2_with fail
                        exact ⟨⟨k + 1, by omega, by go_num, by rw [HSt.out], hq9⟩, by simp [intOf]; omega⟩
                  · have hk' : k = us.length := by omega
                    subst hk'
                    rw [List.take_of_length_le (Nat.le_refl _)]
                    have hd1 : decide ((us.length : Int) < (us.length : Int)) = false := decide_eq_false (by omega)
                    have HQw : Hid (Q w wr) := HQ7.out.trans hqr.out
                    rcases HFo.out with ⟨hb1, hb2⟩ | ⟨tn, hb1, hb2, hb3⟩
                    · have HB : Hid (J = .error whoB) := by
                        show _ = _
                        rw [HL.out, HWb.out, hb1]; rfl
                      rw [hb2]
                      clear HL HWb HFo hb1 hb2 HUs HRu HUk
                      go_wp2_with fail
                      go_ret3
                      exact ⟨by rw [HB.out]; rfl, HQw.out⟩
                    · have hne : tn.isEmpty = false := by
                        have := (small_no58 hb3).2.1
                        cases tn with
                        | nil => exact absurd rfl this
                        | cons a b => rfl
                      have HG : Hid (J = if (decRows tn host (port : Int) minute 0 rows).1 = true then .ok (host, port) else .error denyB) := by
                        show _ = _
                        have hask : asksR tn host (port : Int) minute = true := by
                          unfold asksR
                          rw [hb3, HLL.out, HHr.out, decide_eq_true (show (0 : Int) ≤ (port : Int) by omega), decide_eq_true (show (port : Int) ≤ 65535 by omega), decide_eq_true dmin.1, decide_eq_true dmin.2]
                          rfl
                        have hd := ask_someR hask HRu.out.2.1
                        rw [HLL.out] at hd
                        rw [HL.out, HWb.out, hb1]
                        show (if (decideS rs tn host (port : Int) minute).1 = true then _ else _) = _
                        rw [hd]
                      have HRq : ∀ y, Q w7 y → Hid (Calls Tryz.prog 113 #[rv, .string ⟨tn.toArray⟩, .string ⟨host.toArray⟩, .int .i64 (port : Int), .int .i64 minute] y fun e w' => e = .returned (.tuple #[.bool (decRows tn host (port : Int) minute 0 rows).1, .int .i64 (decRows tn host (port : Int) minute 0 rows).2]) ∧ Q y w') := fun y hy =>
                        rdecide_any (fun b => b < y.heap.size) rv rows tn host (port : Int) minute y (HRu.out.1.keeps hy.keeps) (allRows_five HRu.out.2.1) (fun row hr s hs => by have := HRu.out.2.2.2 row hr s hs; omega) (by have := allRows_len HRu.out.2.1; have := HRu.out.2.2.1; omega) (by omega)
                      have a1' := hqr.out.cell a1
                      have cm' := hqr.out.cell cmin
                      obtain ⟨ro, rn, rc, rfl⟩ : ∃ ro rn rc, rv = .slice ro rn rc := by
                        rcases HRu.out.1 with ⟨_, h⟩ | ⟨g, cap, h, _⟩ <;> exact ⟨_, _, _, h⟩
                      rw [hb2]
                      clear HL HWb HFo hb1 hb2 hb3 HUs HRu HUk HHr HLL
                      go_wp2_with fail
                      go_region_held3 (fun w' => w'.cell? ⟨gb, 0, none⟩ = some (.slice ro rn rc) ∧ w'.cell? ⟨gb, 2, none⟩ = some (.int .i64 minute) ∧ Q w7 w')
                        (first | exact ⟨a1', cm', hqr.out.drew⟩ | exact keepD (by assumption) (by assumption) | assumption)
                        (first | (go_at_call 113; refine Calls.mono (Hid.out (HRq _ (lastD (by assumption)))) ?_; rintro e w' ⟨rfl, hq2⟩))
                      have hS := by first | assumption
                      obtain ⟨_, _, hq9⟩ := (show _ ∧ _ from hS)
                      have HQ9 : Hid (Q w _) := HQ7.out.trans hq9
                      clear HRq
                      generalize (decRows tn host (port : Int) minute 0 rows).1 = yes at *
                      generalize (decRows tn host (port : Int) minute 0 rows).2 = at' at *
                      cases yes
                      · go_wp2_with fail
                        go_ret3
                        exact ⟨by rw [HG.out]; rfl, HQ9.out⟩
                      · go_wp2_with fail
                        go_ret3
                        exact ⟨by rw [HG.out]; rfl, HQ9.out⟩
end Go.Proofs.YtdmaffciijmdcaaGreatDoor

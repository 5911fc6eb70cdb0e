/-
  The statements' own functions: what the first rule that fits says.
-/
import Derived.Test.YtdmaffciijmdcaaGreatDoorKFitsC
namespace Go.Proofs.YtdmaffciijmdcaaGreatDoor
open Go.RowKit Plain

theorem keep12 {a b W : World} {p0 p1 p2 p3 p4 p5 p6 p7 s0 s1 s2 s3 : Addr} {v0 v1 v2 v3 v4 v5 v6 v7 u0 u1 u2 u3 : Value}
    (h : a.cell? p0 = some v0 ∧ a.cell? p1 = some v1 ∧ a.cell? p2 = some v2 ∧ a.cell? p3 = some v3 ∧ a.cell? p4 = some v4 ∧ a.cell? p5 = some v5 ∧ a.cell? p6 = some v6 ∧ a.cell? p7 = some v7 ∧ a.cell? s0 = some u0 ∧ a.cell? s1 = some u1 ∧ a.cell? s2 = some u2 ∧ a.cell? s3 = some u3 ∧ Q W a) (q : Q a b) :
    b.cell? p0 = some v0 ∧ b.cell? p1 = some v1 ∧ b.cell? p2 = some v2 ∧ b.cell? p3 = some v3 ∧ b.cell? p4 = some v4 ∧ b.cell? p5 = some v5 ∧ b.cell? p6 = some v6 ∧ b.cell? p7 = some v7 ∧ b.cell? s0 = some u0 ∧ b.cell? s1 = some u1 ∧ b.cell? s2 = some u2 ∧ b.cell? s3 = some u3 ∧ Q W b := by
  obtain ⟨h0, h1, h2, h3, h4, h5, h6, h7, g0, g1, g2, g3, hq⟩ := h
  exact ⟨q.cell h0, q.cell h1, q.cell h2, q.cell h3, q.cell h4, q.cell h5, q.cell h6, q.cell h7, q.cell g0, q.cell g1, q.cell g2, q.cell g3, hq.trans q⟩
theorem last12 {a W : World} {p0 p1 p2 p3 p4 p5 p6 p7 s0 s1 s2 s3 : Addr} {v0 v1 v2 v3 v4 v5 v6 v7 u0 u1 u2 u3 : Value}
    (h : a.cell? p0 = some v0 ∧ a.cell? p1 = some v1 ∧ a.cell? p2 = some v2 ∧ a.cell? p3 = some v3 ∧ a.cell? p4 = some v4 ∧ a.cell? p5 = some v5 ∧ a.cell? p6 = some v6 ∧ a.cell? p7 = some v7 ∧ a.cell? s0 = some u0 ∧ a.cell? s1 = some u1 ∧ a.cell? s2 = some u2 ∧ a.cell? s3 = some u3 ∧ Q W a) : Q W a := h.2.2.2.2.2.2.2.2.2.2.2.2

theorem drop_done {l : List RawR} {k : Nat} {q : AskR} (h : l.length ≤ k) : decidedK q k (l.drop k) = (false, -1) := by
  rw [List.drop_of_length_le h, decidedK]

set_option maxRecDepth 100000 in
set_option maxHeartbeats 1600000 in
theorem decided_any (v : Value) (l : List RawR) (q : AskR) (w : World) (hl : RawsAt w v l) (hq : AskOk q) :
    Calls Tryz.prog 21 #[v, askV q] w fun e w' => e = .returned (.tuple #[.bool (decidedK q 0 (l.take 40)).1, .int .i64 (decidedK q 0 (l.take 40)).2]) ∧ Q w w' := by
  have HQ : Hid (AskOk q) := hq
  clear hq
  unfold askV
  rcases hl with ⟨rfl, a, cap, rfl⟩ | ⟨b, off, cap, rfl, hlen, hat⟩
  · go_enter Tryz.func21, Tryz.ntmps21
    go_wp2_with fail
    refine wp_loop_rounds 1 ?_
    rw [rounds_succ]
    go_wp2_with fail
    go_ret2
    exact ⟨rfl, (Q.refl w).alloc _⟩
  · have HAt : Hid (∀ i r, l[i]? = some r → RawAt w b (off + i * 8) r ∧ RawOk r) := hat
    clear hat
    have hq0 : Q w (w.alloc (.cells #[.int .i64 q.who, .int .i64 q.whr, .int .i64 q.prt, .int .i64 q.mnt] 27)) := (Q.refl w).alloc _
    have s0 : (w.alloc (.cells #[.int .i64 q.who, .int .i64 q.whr, .int .i64 q.prt, .int .i64 q.mnt] 27)).cell? ⟨w.heap.size, 0, none⟩ = some (.int .i64 q.who) := by simp [go_sem]
    have s1 : (w.alloc (.cells #[.int .i64 q.who, .int .i64 q.whr, .int .i64 q.prt, .int .i64 q.mnt] 27)).cell? ⟨w.heap.size, 1, none⟩ = some (.int .i64 q.whr) := by simp [go_sem]
    have s2 : (w.alloc (.cells #[.int .i64 q.who, .int .i64 q.whr, .int .i64 q.prt, .int .i64 q.mnt] 27)).cell? ⟨w.heap.size, 2, none⟩ = some (.int .i64 q.prt) := by simp [go_sem]
    have s3 : (w.alloc (.cells #[.int .i64 q.who, .int .i64 q.whr, .int .i64 q.prt, .int .i64 q.mnt] 27)).cell? ⟨w.heap.size, 3, none⟩ = some (.int .i64 q.mnt) := by simp [go_sem]
    have H0 : Hid (Q w (w.alloc (.cells #[.int .i64 q.who, .int .i64 q.whr, .int .i64 q.prt, .int .i64 q.mnt] 27))) := hq0
    have S0 := show Hid _ from s0
    have S1 := show Hid _ from s1
    have S2 := show Hid _ from s2
    have S3 := show Hid _ from s3
    clear hq0 s0 s1 s2 s3
    go_enter Tryz.func21, Tryz.ntmps21
    go_wp2_with fail
    generalize (w.alloc (.cells #[.int .i64 q.who, .int .i64 q.whr, .int .i64 q.prt, .int .i64 q.mnt] 27)) = w0 at *
    go_loopw [6, 7] (fun i _ wr => ∃ k : Nat, k ≤ l.length ∧ k ≤ 40 ∧ i = .int .i64 k ∧ decidedK q k ((l.take 40).drop k) = decidedK q 0 (l.take 40) ∧ Q w0 wr) (fun i _ _ => l.length - (intOf i).toNat)
    case atStart => exact ⟨0, Nat.zero_le _, by omega, rfl, rfl, Q.refl _⟩
    case round =>
      obtain ⟨k, hk1, hk2, rfl, hdec, hqr⟩ := hrel
      have HD := show Hid _ from hdec
      clear hdec
      by_cases hlt : k < l.length ∧ k < 40
      · obtain ⟨hlt1, hlt2⟩ := hlt
        have hget : l[k]? = some l[k] := List.getElem?_eq_getElem hlt1
        have hget2 : (l.take 40)[k]? = some l[k] := by rw [List.getElem?_take_of_lt hlt2]; exact hget
        obtain ⟨hra, hok⟩ := HAt.out k _ hget
        have HN := show Hid _ from decidedK_drop (q := q) hget2
        generalize l[k] = r at *
        obtain ⟨d0, d1, d2, d3, d4, d5, d6, d7⟩ := (hra.stays H0.out).stays hqr
        have c0 := hqr.cell S0.out
        have c1 := hqr.cell S1.out
        have c2 := hqr.cell S2.out
        have c3 := hqr.cell S3.out
        have HO : Hid (RawOk r) := hok
        clear hra hok hget hget2
        have FT : ∀ w, Hid (Calls Tryz.prog 49 #[.agg #[.int .i64 r.says, .int .i64 r.who, .int .i64 r.whr, .int .i64 r.bts, .int .i64 r.frm, .int .i64 r.til, .int .i64 r.beg, .int .i64 r.fin], .agg #[.int .i64 q.who, .int .i64 q.whr, .int .i64 q.prt, .int .i64 q.mnt]] w fun e w' => e = .returned (.bool (fitsK r q)) ∧ Q w w') := fun w => kfits_any r q w HO.out HQ.out
        have dk : decide ((k : Int) < 40) = true := decide_eq_true (by omega)
        go_wp2_with fail
        go_region_held3 (fun w' => w'.cell? ⟨b, off + k * 8, none⟩ = some (.int .i64 r.says) ∧ w'.cell? ⟨b, off + k * 8 + 1, none⟩ = some (.int .i64 r.who) ∧ w'.cell? ⟨b, off + k * 8 + 2, none⟩ = some (.int .i64 r.whr) ∧ w'.cell? ⟨b, off + k * 8 + 3, none⟩ = some (.int .i64 r.bts) ∧ w'.cell? ⟨b, off + k * 8 + 4, none⟩ = some (.int .i64 r.frm) ∧ w'.cell? ⟨b, off + k * 8 + 5, none⟩ = some (.int .i64 r.til) ∧ w'.cell? ⟨b, off + k * 8 + 6, none⟩ = some (.int .i64 r.beg) ∧ w'.cell? ⟨b, off + k * 8 + 7, none⟩ = some (.int .i64 r.fin) ∧ w'.cell? ⟨w.heap.size, 0, none⟩ = some (.int .i64 q.who) ∧ w'.cell? ⟨w.heap.size, 1, none⟩ = some (.int .i64 q.whr) ∧ w'.cell? ⟨w.heap.size, 2, none⟩ = some (.int .i64 q.prt) ∧ w'.cell? ⟨w.heap.size, 3, none⟩ = some (.int .i64 q.mnt) ∧ Q w0 w')
          (first | exact ⟨d0, d1, d2, d3, d4, d5, d6, d7, c0, c1, c2, c3, hqr.drew⟩ | exact keep12 (by assumption) (by assumption) | assumption)
          (first | (go_at_call 49; refine Calls.mono (Hid.out (FT _)) ?_; rintro e w' ⟨rfl, hq2⟩))
        have hS := by first | assumption
        obtain ⟨e0, _, _, _, _, _, _, _, _, _, _, _, hq3⟩ := (show _ ∧ _ from hS)
        cases hfit : fitsK r q with
        | true =>
          rw [if_pos hfit] at HN
          clear hfit
          have h2 := pickN_lt r.says (n := 2) (by decide)
          go_wp2_with fail
          refine (pick_any _ 2 _ HO.out.says (by decide) (by decide)).mono ?_
          rintro e w5 ⟨rfl, hw⟩
          rw [hw, show ((2 : Int).toNat) = 2 from rfl]
          clear hw
          go_wp2_with fail
          go_ret2
          have hbd : ((((pickN r.says 2 : Nat) : Int)) == 0) = decide (pickN r.says 2 = 0) := by rw [Bool.eq_iff_iff, beq_iff_eq, decide_eq_true_eq]; omega
          refine ⟨?_, H0.out.trans hq3⟩
          rw [← HD.out, HN.out]
          exact congrArg (fun x => Ending.returned (.tuple #[.bool x, .int .i64 (k : Int)])) hbd
        | false =>
          rw [hfit, if_neg (by decide)] at HN
          clear hfit
          go_wp2_with fail
          exact ⟨⟨k + 1, by omega, by omega, by go_num, HN.out.symm.trans HD.out, hq3⟩, by simp [intOf]; omega⟩
      · have HE : Hid (decidedK q 0 (l.take 40) = (false, -1)) := HD.out.symm.trans (drop_done (by simp; omega))
        by_cases h1 : k < l.length
        · have dk : decide ((k : Int) < 40) = false := decide_eq_false (by omega)
          go_wp2_with fail
          go_ret2
          exact ⟨by rw [HE.out]; rfl, H0.out.trans hqr⟩
        · go_wp2_with fail
          go_ret2
          exact ⟨by rw [HE.out]; rfl, H0.out.trans hqr⟩
end Go.Proofs.YtdmaffciijmdcaaGreatDoor

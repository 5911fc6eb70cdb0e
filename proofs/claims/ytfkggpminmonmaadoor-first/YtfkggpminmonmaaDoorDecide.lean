/-
  Package turnpike: Decide.
-/
import Derived.Test.YtfkggpminmonmaaDoorCaughtQ
namespace Go.Proofs.YtfkggpminmonmaaDoor
namespace Plain
/-- The first that fits, from number k on. -/
def decideFrom (f : RuleS → Bool) : Nat → List RuleS → Bool × Int
  | _, [] => (false, -1)
  | k, r :: rs => if f r = true then (r.allow, (k : Int)) else decideFrom f (k + 1) rs
/-- What Decide answers. -/
def decideS (rs : List RuleS) (t h : List UInt8) (p m : Int) : Bool × Int × Nat := match askS t h p m with
  | none => (false, 0, 5)
  | some (nm, ad) => ((decideFrom (fun r => ruleFits r t nm ad p m) 0 rs).1, (decideFrom (fun r => ruleFits r t nm ad p m) 0 rs).2, 0)
theorem drop_cons {rs : List RuleS} {k : Nat} {r : RuleS} (h : rs[k]? = some r) : rs.drop k = r :: rs.drop (k + 1) := by
  obtain ⟨hk, rfl⟩ := List.getElem?_eq_some_iff.1 h
  rw [List.getElem_cons_drop]
end Plain
open Go.RowKit Plain

theorem PolicyRep.stays {w w' : World} {pb : Nat} {rs : List RuleS} (h : PolicyRep (fun b => b < w.heap.size) w pb rs) (q : Q w w') : PolicyRep (fun b => b < w'.heap.size) w' pb rs :=
  h.keeps fun b hb => ⟨Nat.lt_of_lt_of_le hb q.size, fun o => q.cells.1 b o hb⟩

theorem ask_bounds {t h nm : List UInt8} {p m : Int} {a b c d : Nat} (hr : askS t h p m = some (nm, [a, b, c, d])) : nm.length ≤ h.length ∧ a ≤ 255 ∧ b ≤ 255 ∧ c ≤ 255 ∧ d ≤ 255 := by
  unfold askS at hr
  split at hr
  · obtain ⟨nm', a', b', c', d', he, ha, hb, hc, hd, hn⟩ := host_four hr
    cases he
    exact ⟨hn, ha, hb, hc, hd⟩
  · cases hr

def DecPost (rs : List RuleS) (t h : ByteArray) (p m : Int) (w : World) (e : Ending) (w' : World) : Prop :=
  Q w w' ∧ e = .returned (.tuple #[.bool (decideS rs t.data.toList h.data.toList p m).1, .int .i64 (decideS rs t.data.toList h.data.toList p m).2.1, .int .i64 ((decideS rs t.data.toList h.data.toList p m).2.2 : Nat)])

set_option maxRecDepth 100000 in
set_option maxHeartbeats 1600000 in
theorem decide_any (rs : List RuleS) (pb : Nat) (t h : ByteArray) (p m : Int) (w : World) (hs : h.size < 4294967281) (hp : PolicyRep (fun b => b < w.heap.size) w pb rs) :
    Calls Tryd.prog 12 #[.pointer (some ⟨pb, 0, none⟩), .string t, .string h, .int .i64 p, .int .i64 m] w fun e w' => DecPost rs t h p m w e w' := by
  have hmf : ∀ (fn : Fn) (first cap : Array Value) (w : World), (Instr.makeFunc fn first cap).run Tryd.prog w = .ok (.func fn first cap) w := fun _ _ _ _ => rfl
  have HP : Hid (PolicyRep (fun b => b < w.heap.size) w pb rs) := hp
  clear hp
  go_enter Tryd.func12, Tryd.ntmps12
  go_wp2_with fail
  refine (caughtQ_any t h p m _ _ _ _ _ hs (by simp [go_sem]) (by simp [go_sem]) (by simp [go_sem]) (by simp [go_sem])).mono ?_
  rintro e w5 ⟨hq, ⟨nm, a, b, c, d, hr, rfl⟩ | ⟨hr, rfl⟩⟩
  case inr =>
    have HR := show Hid _ from hr
    clear hr
    unfold zeroQuest
    go_wp2_with fail
    go_ret3
    refine ⟨((((Q.refl _).alloc _).alloc _).alloc _).alloc _ |>.trans (hq.alloc _), ?_⟩
    unfold decideS
    rw [HR.out]
    rfl
  case inl =>
    have HR := show Hid _ from hr
    have hQ5 : Q w w5 := (((((Q.refl _).alloc _).alloc _).alloc _).alloc _).trans hq
    have HP5 : Hid (PolicyRep (fun b => b < w5.heap.size) w5 pb rs) := PolicyRep.stays HP.out hQ5
    clear hr
    obtain ⟨hpl, h40, hcase⟩ := HP5.out
    unfold questV
    rcases hcase with ⟨rfl, hcell⟩ | ⟨g, cap, hcell, hcap, hgl, hat⟩
    · go_wp2_with fail
      refine wp_loop_rounds 1 ?_
      rw [rounds_succ]
      go_wp2_with fail
      go_ret3
      refine ⟨hQ5.alloc _, ?_⟩
      unfold decideS
      rw [HR.out]
      rfl
    · have HAt : Hid (∀ i r, rs[i]? = some r → RuleAt (fun b => b < w5.heap.size) w5 g i r) := hat
      have HB := show Hid _ from ask_bounds HR.out
      clear hat
      go_wp2_with fail
      go_loopw [29, 15, 16] (fun i _ _ wr => ∃ k : Nat, k ≤ rs.length ∧ i = .int .i64 k ∧ Q (w5.alloc (.cells #[.string t, .string ⟨nm.toArray⟩, .int .u8 a, .int .u8 b, .int .u8 c, .int .u8 d, .int .i64 p, .int .i64 m] 81)) wr ∧ Hid (decideFrom (fun r => ruleFits r t.data.toList nm [a, b, c, d] p m) 0 rs = decideFrom (fun r => ruleFits r t.data.toList nm [a, b, c, d] p m) k (rs.drop k))) (fun i _ _ _ => rs.length - (intOf i).toNat)
      case atStart => exact ⟨0, Nat.zero_le _, rfl, Q.refl _, rfl⟩
      case round =>
        obtain ⟨k, hk, rfl, hqr, hsp⟩ := hrel
        have hQr : Q w5 wr := ((Q.refl _).alloc _).trans hqr
        by_cases hlt : k < rs.length
        · have hget : rs[k]? = some rs[k] := List.getElem?_eq_getElem hlt
          obtain ⟨vt, vh, vp, vm, c0, c1, c2, c3, c4, rep⟩ := HAt.out k _ hget
          have HR6 : Hid (RuleRep (fun b => b < wr.heap.size) wr rs[k] vt vh vp vm) := rep.keeps fun b hb => ⟨Nat.lt_of_lt_of_le hb hQr.size, fun o => hQr.cells.1 b o hb⟩
          obtain ⟨g1, k1, e1⟩ := rep.ten.func
          obtain ⟨g2, k2, e2⟩ := rep.host.func
          obtain ⟨g3, k3, e3⟩ := rep.port.func
          obtain ⟨g4, k4, e4⟩ := rep.minute.func
          subst e1 e2 e3 e4
          have d0 := hQr.cell c0
          have d1 := hQr.cell c1
          have d2 := hQr.cell c2
          have d3 := hQr.cell c3
          have d4 := hQr.cell c4
          obtain ⟨hcl, hfr, hz⟩ := hqr.made
          have HG := show Hid _ from hget
          clear c0 c1 c2 c3 c4 rep hget
          generalize rs[k] = r at *
          rw [Nat.mul_comm] at d0 d1 d2 d3 d4
          obtain ⟨hb0, hb1, hb2, hb3, hb4⟩ := HB.out
          rw [size_len] at hb0
          have hqq : Q wr (wr.alloc (.cells #[.bool r.allow, .func (.func g1) #[] k1, .func (.func g2) #[] k2, .func (.func g3) #[] k3, .func (.func g4) #[] k4] 63)) := (Q.refl _).alloc _
          have HR7 : Hid (RuleRep (fun b => b < (wr.alloc (.cells #[.bool r.allow, .func (.func g1) #[] k1, .func (.func g2) #[] k2, .func (.func g3) #[] k3, .func (.func g4) #[] k4] 63)).heap.size) (wr.alloc (.cells #[.bool r.allow, .func (.func g1) #[] k1, .func (.func g2) #[] k2, .func (.func g3) #[] k3, .func (.func g4) #[] k4] 63)) r (.func (.func g1) #[] k1) (.func (.func g2) #[] k2) (.func (.func g3) #[] k3) (.func (.func g4) #[] k4)) := RuleRep.keeps HR6.out fun b hb => ⟨Nat.lt_of_lt_of_le hb hqq.size, fun o => hqq.cells.1 b o hb⟩
          go_wp2_with fail
          refine (fits_any r _ _ _ _ t nm a b c d p m _ HR7.out (by omega) hb1 hb2 hb3 hb4).mono ?_
          rintro e w7 ⟨rfl, hq7⟩
          obtain ⟨hcl7, hfr7, hz7⟩ := hq7.made
          cases hf : ruleFits r t.data.toList nm [a, b, c, d] p m
          · have HS : Hid (decideFrom (fun r => ruleFits r t.data.toList nm [a, b, c, d] p m) 0 rs = decideFrom (fun r => ruleFits r t.data.toList nm [a, b, c, d] p m) (k + 1) (rs.drop (k + 1))) := by
              show _ = _
              rw [hsp.out, drop_cons HG.out, decideFrom, if_neg (by rw [hf]; decide)]
            clear hcl hfr hcl7 hfr7 d0 d1 d2 d3 d4
            go_wp2_with fail
            exact ⟨⟨k + 1, by omega, by go_num, hqr.trans (hqq.trans hq7), HS⟩, by simp [intOf]; omega⟩
          · have HS : Hid (decideFrom (fun r => ruleFits r t.data.toList nm [a, b, c, d] p m) 0 rs = (r.allow, (k : Int))) := by
              show _ = _
              rw [hsp.out, drop_cons HG.out, decideFrom, if_pos hf]
            clear hcl hfr d0 d1 d2 d3 d4
            go_wp2_with fail
            go_ret3
            refine ⟨hQ5.trans (hQr.trans (hqq.trans hq7)), ?_⟩
            unfold decideS
            rw [HR.out]
            simp only [HS.out]
            rfl
        · have HS : Hid (decideFrom (fun r => ruleFits r t.data.toList nm [a, b, c, d] p m) 0 rs = (false, -1)) := by
            show _ = _
            rw [hsp.out, List.drop_eq_nil_of_le (by omega)]; rfl
          go_wp2_with fail
          go_ret3
          refine ⟨hQ5.trans hQr, ?_⟩
          unfold decideS
          rw [HR.out]
          simp only [HS.out]
          rfl
end Go.Proofs.YtfkggpminmonmaaDoor

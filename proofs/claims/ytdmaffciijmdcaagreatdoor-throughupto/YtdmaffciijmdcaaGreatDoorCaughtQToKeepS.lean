/-
  Package turnpike: a question is read, and caught where its reader gives up.
-/
import Derived.Test.YtdmaffciijmdcaaGreatDoorCompileC
import Derived.Test.YtdmaffciijmdcaaGreatDoorFirstToFields
namespace Go.Proofs.YtdmaffciijmdcaaGreatDoor
open Go.RowKit Plain

def zeroQuest : Value := .agg #[.string ⟨#[]⟩, .string ⟨#[]⟩, .int .u8 0, .int .u8 0, .int .u8 0, .int .u8 0, .int .i64 0, .int .i64 0]

theorem catchQ_panicking (p : Addr) (x : Bool) (u : TypeId) (pv : Value) (older : List PanicEntry) (w : World) (hc : w.cell? p = some (.bool x)) (hz : w.frozen? p = false) :
    CallsD Tryz.prog 212 #[.pointer (some p)] (.panicking ({ v := .iface u pv, recovered := false } :: older)) w fun e u' w' =>
      e = .returned (.tuple #[]) ∧ u' = .panicking ({ v := .iface u pv, recovered := true } :: older) ∧ w' = w.setCell p (.bool false) := by
  refine callsD_of_wpS Tryz.func212 rfl fun c₀ cs hu => ?_
  apply wpS_region
  simp [wpOpsS, go_sem, recoverD, hu, Tryz.ntmps212, hc, hz, bodyPostS, results, Tryz.results212]

theorem catchQ_idle (p : Addr) (x : Bool) (w : World) (hc : w.cell? p = some (.bool x)) (hz : w.frozen? p = false) :
    CallsD Tryz.prog 212 #[.pointer (some p)] .returning w fun e u' w' => e = .returned (.tuple #[]) ∧ u' = .returning ∧ w' = w.setCell p (.bool true) := by
  refine callsD_of_wpS Tryz.func212 rfl fun c₀ cs hu => ?_
  apply wpS_region
  simp [wpOpsS, go_sem, recoverD, hu, Tryz.ntmps212, hc, hz, bodyPostS, results, Tryz.results212]
  cases c₀
  simp_all


set_option maxRecDepth 100000 in
set_option maxHeartbeats 800000 in
theorem decide1_any (t h : ByteArray) (p m : Int) (bt bh bp bm : Nat) (w : World) (hs : h.size < 4294967281) (ct : w.cell? ⟨bt, 0, none⟩ = some (.string t)) (ch : w.cell? ⟨bh, 0, none⟩ = some (.string h)) (cp : w.cell? ⟨bp, 0, none⟩ = some (.int .i64 p)) (cm : w.cell? ⟨bm, 0, none⟩ = some (.int .i64 m)) :
    Calls Tryz.prog 179 #[.pointer (some ⟨bt, 0, none⟩), .pointer (some ⟨bh, 0, none⟩), .pointer (some ⟨bp, 0, none⟩), .pointer (some ⟨bm, 0, none⟩)] w fun e w' => AskPost t h p m w e w' := by
  have l1 := Q.lt ct
  have l2 := Q.lt ch
  have l3 := Q.lt cp
  have l4 := Q.lt cm
  go_enter Tryz.func179, Tryz.ntmps179
  go_wp2_with fail
  refine (ask_any t h p m _ hs).mono ?_
  rintro e w1 ⟨hq, ⟨nm, a, b, c, d, hr, rfl⟩ | ⟨hr, ⟨u, v, rfl⟩⟩⟩
  · have HR := show Hid _ from hr
    clear hr
    unfold questV
    obtain ⟨hcl, hfr, hz⟩ := hq.made
    have hQ : Q w w1 := ((Q.refl w).alloc _).trans hq
    go_wp2_with fail
    refine bodyPost_ret (v := questV t nm a b c d p m) (by simp [results, Tryz.results179, go_sem, hcl, questV]) rfl ⟨?_, .inl ⟨_, _, _, _, _, HR.out, rfl⟩⟩
    iterate 8 refine Q.setCell ?_ (Nat.le_refl _) _
    exact hQ
  · exact ⟨rfl, ((Q.refl w).alloc _).trans hq, .inr ⟨hr, ⟨_, _, rfl⟩⟩⟩

def CaughtQ (t h : ByteArray) (p m : Int) (w : World) (e : Ending) (w' : World) : Prop :=
  Q w w' ∧ ((∃ nm a b c d, askS t.data.toList h.data.toList p m = some (nm, [a, b, c, d]) ∧ e = .returned (.tuple #[questV t nm a b c d p m, .bool true])) ∨ (askS t.data.toList h.data.toList p m = none ∧ e = .returned (.tuple #[zeroQuest, .bool false])))

set_option maxRecDepth 100000 in
set_option maxHeartbeats 1600000 in
theorem caughtQ_any (t h : ByteArray) (p m : Int) (bt bh bp bm : Nat) (w : World) (hs : h.size < 4294967281) (ct : w.cell? ⟨bt, 0, none⟩ = some (.string t)) (ch : w.cell? ⟨bh, 0, none⟩ = some (.string h)) (cp : w.cell? ⟨bp, 0, none⟩ = some (.int .i64 p)) (cm : w.cell? ⟨bm, 0, none⟩ = some (.int .i64 m)) :
    Calls Tryz.prog 178 #[.func (.func 179) #[] #[.pointer (some ⟨bt, 0, none⟩), .pointer (some ⟨bh, 0, none⟩), .pointer (some ⟨bp, 0, none⟩), .pointer (some ⟨bm, 0, none⟩)]] w fun e w' => CaughtQ t h p m w e w' := by
  have hmf : ∀ (fn : Fn) (first cap : Array Value) (w : World), (Instr.makeFunc fn first cap).run Tryz.prog w = .ok (.func fn first cap) w := fun _ _ _ _ => rfl
  go_enter_defers Tryz.func178, Tryz.ntmps178
  go_wp2_with fail
  have hq0 : Q w ((w.alloc (.cells #[.string ⟨#[]⟩, .string ⟨#[]⟩, .int .u8 0, .int .u8 0, .int .u8 0, .int .u8 0, .int .i64 0, .int .i64 0] 227)).alloc (.cells #[.bool false] 4)) := ((Q.refl w).alloc _).alloc _
  refine (decide1_any t h p m bt bh bp bm _ hs (hq0.cell ct) (hq0.cell ch) (hq0.cell cp) (hq0.cell cm)).mono ?_
  rintro e w1 ⟨hq, ⟨nm, a, b, c, d, hr, rfl⟩ | ⟨hr, ⟨u, v, rfl⟩⟩⟩
  · have HR := show Hid _ from hr
    clear hr
    unfold questV
    obtain ⟨hcl, hcm, hz⟩ := hq.made2n
    have hf1 : ∀ i, w1.frozen? ⟨w.heap.size, i, none⟩ = false := fun i => by
      rw [hq.cells.2 _ _ (by simp; omega)]; simp [go_sem]
    have hf2 : ∀ i, w1.frozen? ⟨w.heap.size + 1, i, none⟩ = false := fun i => by
      rw [hq.cells.2 _ _ (by simp)]; simp [go_sem]
    have hQ : Q w w1 := hq0.trans hq
    go_wp2_with fail
    obtain ⟨W, hW⟩ : ∃ W, W = (((((((w1.setCell ⟨w.heap.size, 0, none⟩ (.string t)).setCell ⟨w.heap.size, 1, none⟩ (.string ⟨nm.toArray⟩)).setCell ⟨w.heap.size, 2, none⟩ (.int .u8 a)).setCell ⟨w.heap.size, 3, none⟩ (.int .u8 b)).setCell ⟨w.heap.size, 4, none⟩ (.int .u8 c)).setCell ⟨w.heap.size, 5, none⟩ (.int .u8 d)).setCell ⟨w.heap.size, 6, none⟩ (.int .i64 p)).setCell ⟨w.heap.size, 7, none⟩ (.int .i64 m) := ⟨_, rfl⟩
    have hc0 : W.cell? ⟨w.heap.size, 0, none⟩ = some (.string t) := by rw [hW]; simp [go_sem, hcl]
    have hc1 : W.cell? ⟨w.heap.size, 1, none⟩ = some (.string ⟨nm.toArray⟩) := by rw [hW]; simp [go_sem, hcl]
    have hc2 : W.cell? ⟨w.heap.size, 2, none⟩ = some (.int .u8 a) := by rw [hW]; simp [go_sem, hcl]
    have hc3 : W.cell? ⟨w.heap.size, 3, none⟩ = some (.int .u8 b) := by rw [hW]; simp [go_sem, hcl]
    have hc4 : W.cell? ⟨w.heap.size, 4, none⟩ = some (.int .u8 c) := by rw [hW]; simp [go_sem, hcl]
    have hc5 : W.cell? ⟨w.heap.size, 5, none⟩ = some (.int .u8 d) := by rw [hW]; simp [go_sem, hcl]
    have hc6 : W.cell? ⟨w.heap.size, 6, none⟩ = some (.int .i64 p) := by rw [hW]; simp [go_sem, hcl]
    have hc7 : W.cell? ⟨w.heap.size, 7, none⟩ = some (.int .i64 m) := by rw [hW]; simp [go_sem, hcl]
    have hr0 : W.cell? ⟨w.heap.size + 1, 0, none⟩ = some (.bool false) := by rw [hW]; simp [go_sem, hcm]
    have hfz : W.frozen? ⟨w.heap.size + 1, 0, none⟩ = false := by rw [hW]; simp [hf2]
    have hQW : Q w W := by
      rw [hW]
      iterate 8 refine Q.setCell ?_ (Nat.le_refl _) _
      exact hQ
    rw [← hW]
    clear hW hcl hcm hf1 hf2
    have hne : ∀ i, (⟨w.heap.size + 1, 0, none⟩ : Addr) ≠ ⟨w.heap.size, i, none⟩ := fun i e => by injection e with e1 _; omega
    have hx : ((W.setCell ⟨w.heap.size + 1, 0, none⟩ (.bool true)).setCell ⟨w.heap.size + 1, 0, none⟩ (.bool true)).cell? ⟨w.heap.size + 1, 0, none⟩ = some (.bool true) := set_same (set_same hr0)
    have hy : ∀ i, ((W.setCell ⟨w.heap.size + 1, 0, none⟩ (.bool true)).setCell ⟨w.heap.size + 1, 0, none⟩ (.bool true)).cell? ⟨w.heap.size, i, none⟩ = W.cell? ⟨w.heap.size, i, none⟩ := fun i => by
      rw [set_other (hne i), set_other (hne i)]
    refine leaves_cons (f := 212) (args := #[.pointer (some ⟨w.heap.size + 1, 0, none⟩)]) (by simp) (by simp [go_sem]) ?_
    refine (catchQ_idle ⟨w.heap.size + 1, 0, none⟩ true _ (set_same hr0) (by rw [World.frozen?_setCell]; exact hfz)).mono ?_
    rintro e u' w'' ⟨rfl, rfl, rfl⟩
    simp [Leaves, settle, results, Tryz.results178, go_sem, hx, hy, hc0, hc1, hc2, hc3, hc4, hc5, hc6, hc7]
    exact ⟨(hQW.setCell (by simp) _).setCell (by simp) _, .inl ⟨_, _, _, _, _, HR.out, rfl⟩⟩
  · obtain ⟨hcl, hcm, hz⟩ := hq.made2n
    have hf2 : ∀ i, w1.frozen? ⟨w.heap.size + 1, i, none⟩ = false := fun i => by
      rw [hq.cells.2 _ _ (by simp)]; simp [go_sem]
    have hQ : Q w w1 := hq0.trans hq
    go_wp2_with fail
    refine leaves_cons (f := 212) (args := #[.pointer (some ⟨w.heap.size + 1, 0, none⟩)]) (by simp) (by simp [go_sem]) ?_
    refine (catchQ_panicking ⟨w.heap.size + 1, 0, none⟩ false u v [] _ ?_ ?_).mono ?_
    · simp [hcm]
    · simp [hf2]
    rintro e u' w'' ⟨rfl, rfl, rfl⟩
    simp [Leaves, settle, results, Tryz.results178, go_sem, hcl, hcm]
    exact ⟨hQ.setCell (by simp) _, .inr ⟨hr, rfl⟩⟩
end Go.Proofs.YtdmaffciijmdcaaGreatDoor
/-
  Package turnpike: Decide.
-/
namespace Go.Proofs.YtdmaffciijmdcaaGreatDoor
namespace Plain
/-- The first that fits, from number k on. -/
def decideFrom (f : RuleS → Bool) : Nat → List RuleS → Bool × Int
  | _, [] => (false, -1)
  | k, r :: rs => if f r = true then (r.allow, (k : Int)) else decideFrom f (k + 1) rs
/-- What Decide answers. -/
def decideS (rs : List RuleS) (t h : List UInt8) (p m : Int) : Bool × Int × Nat := match askS t h p m with
  | none => (false, 0, 5)
  | some (nm, ad) => ((decideFrom (fun r => ruleFits r t nm ad p m) 0 rs).1, (decideFrom (fun r => ruleFits r t nm ad p m) 0 rs).2, 0)
theorem drop_cons {rs : List RuleS} {k : Nat} {r : RuleS} (h : rs[k]? = some r) : rs.drop k = r :: rs.drop (k + 1) := by
  obtain ⟨hk, rfl⟩ := List.getElem?_eq_some_iff.1 h
  rw [List.getElem_cons_drop]
end Plain
open Go.RowKit Plain

theorem PolicyRep.stays {w w' : World} {pb : Nat} {rs : List RuleS} (h : PolicyRep (fun b => b < w.heap.size) w pb rs) (q : Q w w') : PolicyRep (fun b => b < w'.heap.size) w' pb rs :=
  h.keeps fun b hb => ⟨Nat.lt_of_lt_of_le hb q.size, fun o => q.cells.1 b o hb⟩

theorem ask_bounds {t h nm : List UInt8} {p m : Int} {a b c d : Nat} (hr : askS t h p m = some (nm, [a, b, c, d])) : nm.length ≤ h.length ∧ a ≤ 255 ∧ b ≤ 255 ∧ c ≤ 255 ∧ d ≤ 255 := by
  unfold askS at hr
  split at hr
  · obtain ⟨nm', a', b', c', d', he, ha, hb, hc, hd, hn⟩ := host_four hr
    cases he
    exact ⟨hn, ha, hb, hc, hd⟩
  · cases hr

def DecPost (rs : List RuleS) (t h : ByteArray) (p m : Int) (w : World) (e : Ending) (w' : World) : Prop :=
  Q w w' ∧ e = .returned (.tuple #[.bool (decideS rs t.data.toList h.data.toList p m).1, .int .i64 (decideS rs t.data.toList h.data.toList p m).2.1, .int .i64 ((decideS rs t.data.toList h.data.toList p m).2.2 : Nat)])

set_option maxRecDepth 100000 in
set_option maxHeartbeats 1600000 in
theorem decide_any (rs : List RuleS) (pb : Nat) (t h : ByteArray) (p m : Int) (w : World) (hs : h.size < 4294967281) (hp : PolicyRep (fun b => b < w.heap.size) w pb rs) :
    Calls Tryz.prog 135 #[.pointer (some ⟨pb, 0, none⟩), .string t, .string h, .int .i64 p, .int .i64 m] w fun e w' => DecPost rs t h p m w e w' := by
  have hmf : ∀ (fn : Fn) (first cap : Array Value) (w : World), (Instr.makeFunc fn first cap).run Tryz.prog w = .ok (.func fn first cap) w := fun _ _ _ _ => rfl
  have HP : Hid (PolicyRep (fun b => b < w.heap.size) w pb rs) := hp
  clear hp
  go_enter Tryz.func135, Tryz.ntmps135
  go_wp2_with fail
  refine (caughtQ_any t h p m _ _ _ _ _ hs (by simp [go_sem]) (by simp [go_sem]) (by simp [go_sem]) (by simp [go_sem])).mono ?_
  rintro e w5 ⟨hq, ⟨nm, a, b, c, d, hr, rfl⟩ | ⟨hr, rfl⟩⟩
  case inr =>
    have HR := show Hid _ from hr
    clear hr
    unfold zeroQuest
    go_wp2_with fail
    go_ret3
    refine ⟨((((Q.refl _).alloc _).alloc _).alloc _).alloc _ |>.trans (hq.alloc _), ?_⟩
    unfold decideS
    rw [HR.out]
    rfl
  case inl =>
    have HR := show Hid _ from hr
    have hQ5 : Q w w5 := (((((Q.refl _).alloc _).alloc _).alloc _).alloc _).trans hq
    have HP5 : Hid (PolicyRep (fun b => b < w5.heap.size) w5 pb rs) := PolicyRep.stays HP.out hQ5
    clear hr
    obtain ⟨hpl, h40, hcase⟩ := HP5.out
    unfold questV
    rcases hcase with ⟨rfl, hcell⟩ | ⟨g, cap, hcell, hcap, hgl, hat⟩
    · go_wp2_with fail
      refine wp_loop_rounds 1 ?_
      rw [rounds_succ]
      go_wp2_with fail
      go_ret3
      refine ⟨hQ5.alloc _, ?_⟩
      unfold decideS
      rw [HR.out]
      rfl
    · have HAt : Hid (∀ i r, rs[i]? = some r → RuleAt (fun b => b < w5.heap.size) w5 g i r) := hat
      have HB := show Hid _ from ask_bounds HR.out
      clear hat
      go_wp2_with fail
      go_loopw [29, 15, 16] (fun i _ _ wr => ∃ k : Nat, k ≤ rs.length ∧ i = .int .i64 k ∧ Q (w5.alloc (.cells #[.string t, .string ⟨nm.toArray⟩, .int .u8 a, .int .u8 b, .int .u8 c, .int .u8 d, .int .i64 p, .int .i64 m] 227)) wr ∧ Hid (decideFrom (fun r => ruleFits r t.data.toList nm [a, b, c, d] p m) 0 rs = decideFrom (fun r => ruleFits r t.data.toList nm [a, b, c, d] p m) k (rs.drop k))) (fun i _ _ _ => rs.length - (intOf i).toNat)
      case atStart => exact ⟨0, Nat.zero_le _, rfl, Q.refl _, rfl⟩
      case round =>
        obtain ⟨k, hk, rfl, hqr, hsp⟩ := hrel
        have hQr : Q w5 wr := ((Q.refl _).alloc _).trans hqr
        by_cases hlt : k < rs.length
        · have hget : rs[k]? = some rs[k] := List.getElem?_eq_getElem hlt
          obtain ⟨vt, vh, vp, vm, c0, c1, c2, c3, c4, rep⟩ := HAt.out k _ hget
          have HR6 : Hid (RuleRep (fun b => b < wr.heap.size) wr rs[k] vt vh vp vm) := rep.keeps fun b hb => ⟨Nat.lt_of_lt_of_le hb hQr.size, fun o => hQr.cells.1 b o hb⟩
          obtain ⟨g1, k1, e1⟩ := rep.ten.func
          obtain ⟨g2, k2, e2⟩ := rep.host.func
          obtain ⟨g3, k3, e3⟩ := rep.port.func
          obtain ⟨g4, k4, e4⟩ := rep.minute.func
          subst e1 e2 e3 e4
          have d0 := hQr.cell c0
          have d1 := hQr.cell c1
          have d2 := hQr.cell c2
          have d3 := hQr.cell c3
          have d4 := hQr.cell c4
          obtain ⟨hcl, hfr, hz⟩ := hqr.made
          have HG := show Hid _ from hget
          clear c0 c1 c2 c3 c4 rep hget
          generalize rs[k] = r at *
          rw [Nat.mul_comm] at d0 d1 d2 d3 d4
          obtain ⟨hb0, hb1, hb2, hb3, hb4⟩ := HB.out
          rw [size_len] at hb0
          have hqq : Q wr (wr.alloc (.cells #[.bool r.allow, .func (.func g1) #[] k1, .func (.func g2) #[] k2, .func (.func g3) #[] k3, .func (.func g4) #[] k4] 148)) := (Q.refl _).alloc _
          have HR7 : Hid (RuleRep (fun b => b < (wr.alloc (.cells #[.bool r.allow, .func (.func g1) #[] k1, .func (.func g2) #[] k2, .func (.func g3) #[] k3, .func (.func g4) #[] k4] 148)).heap.size) (wr.alloc (.cells #[.bool r.allow, .func (.func g1) #[] k1, .func (.func g2) #[] k2, .func (.func g3) #[] k3, .func (.func g4) #[] k4] 148)) r (.func (.func g1) #[] k1) (.func (.func g2) #[] k2) (.func (.func g3) #[] k3) (.func (.func g4) #[] k4)) := RuleRep.keeps HR6.out fun b hb => ⟨Nat.lt_of_lt_of_le hb hqq.size, fun o => hqq.cells.1 b o hb⟩
          go_wp2_with fail
          refine (fits_any r _ _ _ _ t nm a b c d p m _ HR7.out (by omega) hb1 hb2 hb3 hb4).mono ?_
          rintro e w7 ⟨rfl, hq7⟩
          obtain ⟨hcl7, hfr7, hz7⟩ := hq7.made
          cases hf : ruleFits r t.data.toList nm [a, b, c, d] p m
          · have HS : Hid (decideFrom (fun r => ruleFits r t.data.toList nm [a, b, c, d] p m) 0 rs = decideFrom (fun r => ruleFits r t.data.toList nm [a, b, c, d] p m) (k + 1) (rs.drop (k + 1))) := by
              show _ = _
              rw [hsp.out, drop_cons HG.out, decideFrom, if_neg (by rw [hf]; decide)]
            clear hcl hfr hcl7 hfr7 d0 d1 d2 d3 d4
            go_wp2_with fail
            exact ⟨⟨k + 1, by omega, by go_num, hqr.trans (hqq.trans hq7), HS⟩, by simp [intOf]; omega⟩
          · have HS : Hid (decideFrom (fun r => ruleFits r t.data.toList nm [a, b, c, d] p m) 0 rs = (r.allow, (k : Int))) := by
              show _ = _
              rw [hsp.out, drop_cons HG.out, decideFrom, if_pos hf]
            clear hcl hfr d0 d1 d2 d3 d4
            go_wp2_with fail
            go_ret3
            refine ⟨hQ5.trans (hQr.trans (hqq.trans hq7)), ?_⟩
            unfold decideS
            rw [HR.out]
            simp only [HS.out]
            rfl
        · have HS : Hid (decideFrom (fun r => ruleFits r t.data.toList nm [a, b, c, d] p m) 0 rs = (false, -1)) := by
            show _ = _
            rw [hsp.out, List.drop_eq_nil_of_le (by omega)]; rfl
          go_wp2_with fail
          go_ret3
          refine ⟨hQ5.trans hQr, ?_⟩
          unfold decideS
          rw [HR.out]
          simp only [HS.out]
          rfl
end Go.Proofs.YtdmaffciijmdcaaGreatDoor
/-
  The statements' own rules and questions, as plain functions: numbers picked, figures, tenants, names, addresses, texts.
-/
namespace Go.Proofs.YtdmaffciijmdcaaGreatDoor.Plain

def pickN (c : Int) (n : Nat) : Nat := if c < 0 then (-(c + 1)).toNat % n else c.toNat % n
theorem pickN_lt (c : Int) {n : Nat} (h : 0 < n) : pickN c n < n := by
  unfold pickN
  split <;> exact Nat.mod_lt _ h

/-- One figure. -/
def figOf (n : Nat) : UInt8 := (48 + n).toUInt8
/-- A number's figures; fuel: more than it has. -/
def digitsF : Nat → Nat → List UInt8
  | 0, _ => []
  | f + 1, n => if n < 10 then [figOf n] else digitsF f (n / 10) ++ [figOf (n % 10)]
theorem digitsF_fuel : ∀ (f g n : Nat), n < f → n < g → digitsF f n = digitsF g n
  | f + 1, g + 1, n, h1, h2 => by
    unfold digitsF
    split
    · rfl
    · rw [digitsF_fuel f g (n / 10) (by omega) (by omega)]
def digits (n : Nat) : List UInt8 := digitsF (n + 1) n
theorem digits_eq (n : Nat) : digits n = if n < 10 then [figOf n] else digits (n / 10) ++ [figOf (n % 10)] := by
  unfold digits
  conv => lhs; unfold digitsF
  split
  · rfl
  · rw [digitsF_fuel n (n / 10 + 1) (n / 10) (by omega) (by omega)]

def tenantS (n : Nat) : List UInt8 := match n % 3 with
  | 0 => [97, 110, 110]
  | 1 => [98, 111, 98]
  | _ => [99, 121]
def nameS (n : Nat) : List UInt8 := match n % 6 with
  | 0 => [101, 120, 97, 109, 112, 108, 101, 46, 99, 111, 109]
  | 1 => [119, 119, 119, 46, 101, 120, 97, 109, 112, 108, 101, 46, 99, 111, 109]
  | 2 => [97, 46, 98, 46, 101, 120, 97, 109, 112, 108, 101, 46, 99, 111, 109]
  | 3 => [101, 120, 97, 109, 112, 108, 101, 46, 111, 114, 103]
  | 4 => [110, 111, 116, 101, 120, 97, 109, 112, 108, 101, 46, 99, 111, 109]
  | _ => [120]
def dotted (a : Nat) : List UInt8 := digits (a / 16777216) ++ [46] ++ digits (a / 65536 % 256) ++ [46] ++ digits (a / 256 % 256) ++ [46] ++ digits (a % 256)
end Go.Proofs.YtdmaffciijmdcaaGreatDoor.Plain

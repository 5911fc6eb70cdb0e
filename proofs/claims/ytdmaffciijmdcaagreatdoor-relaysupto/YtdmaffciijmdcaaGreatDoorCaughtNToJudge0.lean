/-
  Package turnpike: users, heads and targets are read, and caught where their reader gives up.
-/
import Derived.Test.YtdmaffciijmdcaaGreatDoorTenToCutH
import Derived.Test.YtdmaffciijmdcaaGreatDoorRRulesToGateP
namespace Go.Proofs.YtdmaffciijmdcaaGreatDoor
open Go.RowKit Plain

theorem catchL_panicking (p : Addr) (x : Bool) (u : TypeId) (pv : Value) (older : List PanicEntry) (w : World) (hc : w.cell? p = some (.bool x)) (hz : w.frozen? p = false) :
    CallsD Tryz.prog 86 #[.pointer (some p)] (.panicking ({ v := .iface u pv, recovered := false } :: older)) w fun e u' w' =>
      e = .returned (.tuple #[]) ∧ u' = .panicking ({ v := .iface u pv, recovered := true } :: older) ∧ w' = w.setCell p (.bool false) := by
  refine callsD_of_wpS Tryz.func86 rfl fun c₀ cs hu => ?_
  apply wpS_region
  simp [wpOpsS, go_sem, recoverD, hu, Tryz.ntmps86, hc, hz, bodyPostS, results, Tryz.results86]

theorem catchL_idle (p : Addr) (x : Bool) (w : World) (hc : w.cell? p = some (.bool x)) (hz : w.frozen? p = false) :
    CallsD Tryz.prog 86 #[.pointer (some p)] .returning w fun e u' w' => e = .returned (.tuple #[]) ∧ u' = .returning ∧ w' = w.setCell p (.bool true) := by
  refine callsD_of_wpS Tryz.func86 rfl fun c₀ cs hu => ?_
  apply wpS_region
  simp [wpOpsS, go_sem, recoverD, hu, Tryz.ntmps86, hc, hz, bodyPostS, results, Tryz.results86]
  cases c₀
  simp_all

theorem catchH_panicking (p : Addr) (x : Bool) (u : TypeId) (pv : Value) (older : List PanicEntry) (w : World) (hc : w.cell? p = some (.bool x)) (hz : w.frozen? p = false) :
    CallsD Tryz.prog 169 #[.pointer (some p)] (.panicking ({ v := .iface u pv, recovered := false } :: older)) w fun e u' w' =>
      e = .returned (.tuple #[]) ∧ u' = .panicking ({ v := .iface u pv, recovered := true } :: older) ∧ w' = w.setCell p (.bool false) := by
  refine callsD_of_wpS Tryz.func169 rfl fun c₀ cs hu => ?_
  apply wpS_region
  simp [wpOpsS, go_sem, recoverD, hu, Tryz.ntmps169, hc, hz, bodyPostS, results, Tryz.results169]

theorem catchH_idle (p : Addr) (x : Bool) (w : World) (hc : w.cell? p = some (.bool x)) (hz : w.frozen? p = false) :
    CallsD Tryz.prog 169 #[.pointer (some p)] .returning w fun e u' w' => e = .returned (.tuple #[]) ∧ u' = .returning ∧ w' = w.setCell p (.bool true) := by
  refine callsD_of_wpS Tryz.func169 rfl fun c₀ cs hu => ?_
  apply wpS_region
  simp [wpOpsS, go_sem, recoverD, hu, Tryz.ntmps169, hc, hz, bodyPostS, results, Tryz.results169]
  cases c₀
  simp_all

theorem catchT_panicking (p : Addr) (x : Bool) (u : TypeId) (pv : Value) (older : List PanicEntry) (w : World) (hc : w.cell? p = some (.bool x)) (hz : w.frozen? p = false) :
    CallsD Tryz.prog 173 #[.pointer (some p)] (.panicking ({ v := .iface u pv, recovered := false } :: older)) w fun e u' w' =>
      e = .returned (.tuple #[]) ∧ u' = .panicking ({ v := .iface u pv, recovered := true } :: older) ∧ w' = w.setCell p (.bool false) := by
  refine callsD_of_wpS Tryz.func173 rfl fun c₀ cs hu => ?_
  apply wpS_region
  simp [wpOpsS, go_sem, recoverD, hu, Tryz.ntmps173, hc, hz, bodyPostS, results, Tryz.results173]

theorem catchT_idle (p : Addr) (x : Bool) (w : World) (hc : w.cell? p = some (.bool x)) (hz : w.frozen? p = false) :
    CallsD Tryz.prog 173 #[.pointer (some p)] .returning w fun e u' w' => e = .returned (.tuple #[]) ∧ u' = .returning ∧ w' = w.setCell p (.bool true) := by
  refine callsD_of_wpS Tryz.func173 rfl fun c₀ cs hu => ?_
  apply wpS_region
  simp [wpOpsS, go_sem, recoverD, hu, Tryz.ntmps173, hc, hz, bodyPostS, results, Tryz.results173]
  cases c₀
  simp_all

theorem grow_set (W : World) (p : Addr) (u : Value) : W.grownBy (W.setCell p u) (some p.block) :=
  ⟨rfl, rfl, rfl, by simp, fun k _ hk => Below.heap_setCell _ _ _ _ (fun e => hk (by rw [e]))⟩
theorem owns_set {W : World} {B : Nat} {e : TypeId} {size : Nat} {v : Value} {n : Nat} {xs : List Value} {p : Addr} {u : Value} (h : W.ownsRow B e size v n xs) (hne : v.ownBlock ≠ some p.block) : (W.setCell p u).ownsRow B e size v n xs :=
  h.kept (grow_set W p u) (.inr hne)
theorem grow_trans {a b c : World} {row : Option Nat} (g : a.grownBy b row) (h : ∀ k, k < a.heap.size → some k ≠ row → c.heap[k]? = b.heap[k]?) (ho : c.os = b.os) (ht : c.tape = b.tape) (hp : c.output = b.output) (hs : b.heap.size ≤ c.heap.size) : a.grownBy c row :=
  ⟨ho.trans g.os, ht.trans g.tape, hp.trans g.output, Nat.le_trans g.size hs, fun k hk hne => (h k hk hne).trans (g.block k hk hne)⟩

set_option maxRecDepth 100000 in
set_option maxHeartbeats 800000 in
theorem new1_any (B : Nat) (l : List (List UInt8 × List UInt8)) (lv : Value) (n s : ByteArray) (kb ub : Nat) (w : World) (hk : w.cell? ⟨kb, 0, none⟩ = some lv) (h0 : w.cell? ⟨ub, 0, none⟩ = some (.string n)) (h1 : w.cell? ⟨ub, 1, none⟩ = some (.string s)) (hown : w.ownsRow B 154 2 lv l.length (pairVals l)) (hB : B ≤ w.heap.size) (hl : l.length ≤ 1000) :
    Calls Tryz.prog 40 #[.pointer (some ⟨kb, 0, none⟩), .pointer (some ⟨ub, 0, none⟩)] w fun e w' => WithPost B l lv n.data.toList s.data.toList w e w' := by
  have HW := show Hid _ from with_any B l lv n s w hown hB hl
  obtain ⟨a, cap, hv, _⟩ := PairsAt.own hown
  subst hv
  clear hown
  go_enter Tryz.func40, Tryz.ntmps40
  go_wp2_with fail
  refine Calls.mono (Hid.out HW) ?_
  rintro e w1 (⟨l', g, cap', hw, rfl, h2, h3, h4⟩ | ⟨hw, ⟨t, v, rfl⟩, hq⟩)
  · have H : Hid (WithPost B l (.slice a l.length cap) n.data.toList s.data.toList w (.returned (.slice (some ⟨g, 0, none⟩) l'.length cap')) w1) := .inl ⟨l', g, cap', hw, rfl, h2, h3, h4⟩
    clear hw h2 h3 h4 HW
    go_wp2_with fail
    go_ret
    exact H.out
  · exact ⟨rfl, .inr ⟨hw, ⟨_, _, rfl⟩, hq⟩⟩

def CaughtL (B : Nat) (l : List (List UInt8 × List UInt8)) (lv : Value) (n s : List UInt8) (w : World) (e : Ending) (w' : World) : Prop :=
  (∃ l' g cap, withS l n s = some l' ∧ e = .returned (.tuple #[.slice (some ⟨g, 0, none⟩) l'.length cap, .bool true]) ∧ w'.ownsRow B 154 2 (.slice (some ⟨g, 0, none⟩) l'.length cap) l'.length (pairVals l') ∧ w.grownBy w' lv.ownBlock ∧ (lv.ownBlock = some g ∨ w.heap.size ≤ g)) ∨
  (withS l n s = none ∧ e = .returned (.tuple #[.slice none 0 0, .bool false]) ∧ Q w w')

set_option maxRecDepth 100000 in
set_option maxHeartbeats 1600000 in
theorem caughtL_any (B : Nat) (l : List (List UInt8 × List UInt8)) (lv : Value) (n s : ByteArray) (kb ub : Nat) (w : World) (hk : w.cell? ⟨kb, 0, none⟩ = some lv) (h0 : w.cell? ⟨ub, 0, none⟩ = some (.string n)) (h1 : w.cell? ⟨ub, 1, none⟩ = some (.string s)) (hown : w.ownsRow B 154 2 lv l.length (pairVals l)) (hB : B ≤ w.heap.size) (hl : l.length ≤ 1000) :
    Calls Tryz.prog 39 #[.func (.func 40) #[] #[.pointer (some ⟨kb, 0, none⟩), .pointer (some ⟨ub, 0, none⟩)]] w fun e w' => CaughtL B l lv n.data.toList s.data.toList w e w' := by
  have hmf : ∀ (fn : Fn) (first cap : Array Value) (w : World), (Instr.makeFunc fn first cap).run Tryz.prog w = .ok (.func fn first cap) w := fun _ _ _ _ => rfl
  have hq0 : Q w (w.alloc (.cells #[.bool false] 4)) := (Q.refl w).alloc _
  have HN := show Hid _ from new1_any B l lv n s kb ub _ (hq0.cell hk) (hq0.cell h0) (hq0.cell h1) (owns_Q hown hq0) (Nat.le_trans hB hq0.size) hl
  have HOL := show Hid _ from owns_lt hown
  clear hk h0 h1 hown
  go_enter_defers Tryz.func39, Tryz.ntmps39
  go_wp2_with fail
  refine Calls.mono (Hid.out HN) ?_
  rintro e w1 (⟨l', g, cap, hw, rfl, hown1, hg, hat⟩ | ⟨hw, ⟨t, v, rfl⟩, hq⟩)
  · have hnb : lv.ownBlock ≠ some w.heap.size := fun e => by have := (HOL.out _ e).2; omega
    have hc1 : w1.cell? ⟨w.heap.size, 0, none⟩ = some (.bool false) := by
      rw [hg.cell_far ⟨w.heap.size, 0, none⟩ (by simp) (fun e => hnb e.symm)]; simp [go_sem]
    have hf1 : w1.frozen? ⟨w.heap.size, 0, none⟩ = false := by
      rw [hg.frozen_far ⟨w.heap.size, 0, none⟩ (by simp) (fun e => hnb e.symm)]; simp [go_sem]
    have hgne : g ≠ w.heap.size := fun e => by
      rcases hat with h | h
      · exact hnb (by rw [h, e])
      · simp at h; omega
    have HO := show Hid _ from hown1
    have HG := show Hid _ from hg
    have HA := show Hid _ from hat
    clear hown1 hg hat HN
    go_wp2_with fail
    have hx : ((w1.setCell ⟨w.heap.size, 0, none⟩ (.bool true)).setCell ⟨w.heap.size, 0, none⟩ (.bool true)).cell? ⟨w.heap.size, 0, none⟩ = some (.bool true) := set_same (set_same hc1)
    refine leaves_cons (f := 86) (args := #[.pointer (some ⟨w.heap.size, 0, none⟩)]) (by simp) (by simp [go_sem]) ?_
    refine (catchL_idle ⟨w.heap.size, 0, none⟩ true _ (set_same hc1) (by rw [World.frozen?_setCell]; exact hf1)).mono ?_
    rintro e u' w'' ⟨rfl, rfl, rfl⟩
    simp [Leaves, settle, results, Tryz.results39, go_sem, hx]
    refine .inl ⟨l', g, cap, hw, rfl, ?_, ?_, ?_⟩
    · refine owns_set (owns_set HO.out ?_) ?_ <;> (simp [Value.ownBlock]; exact hgne)
    · have h1 := Q_grown hq0 HG.out
      refine grow_trans h1 (fun k hk _ => ?_) rfl rfl rfl (by simp)
      rw [Below.heap_setCell _ _ _ _ (by show k ≠ w.heap.size; omega), Below.heap_setCell _ _ _ _ (by show k ≠ w.heap.size; omega)]
    · rcases HA.out with h | h
      · exact .inl h
      · exact .inr (Nat.le_trans hq0.size h)
  · obtain ⟨hcl, hfr, hz⟩ := hq.made
    have hQ : Q w w1 := hq0.trans hq
    clear HN
    go_wp2_with fail
    refine leaves_cons (f := 86) (args := #[.pointer (some ⟨w.heap.size, 0, none⟩)]) (by simp) (by simp [go_sem]) ?_
    refine (catchL_panicking ⟨w.heap.size, 0, none⟩ false t v [] _ ?_ ?_).mono ?_
    · simp [hcl]
    · simp [hfr]
    rintro e u' w'' ⟨rfl, rfl, rfl⟩
    simp [Leaves, settle, results, Tryz.results39, go_sem, hcl]
    exact .inr ⟨hw, rfl, hQ.setCell (by simp) _⟩
end Go.Proofs.YtdmaffciijmdcaaGreatDoor
/-
  Package turnpike: heads and targets, caught.
-/
namespace Go.Proofs.YtdmaffciijmdcaaGreatDoor
open Go.RowKit Plain

set_option maxRecDepth 100000 in
set_option maxHeartbeats 800000 in
theorem judge1_any (s : ByteArray) (tb : Nat) (w : World) (hs : s.size ≤ 1000) (hm : ML w) (hc : w.cell? ⟨tb, 0, none⟩ = some (.string s)) :
    Calls Tryz.prog 129 #[.pointer (some ⟨tb, 0, none⟩)] w fun e w' => HeadPost s.data.toList w e w' := by
  have l1 := Q.lt hc
  have hq0 : Q w (w.alloc (.cells #[.string ⟨#[]⟩, .string ⟨#[]⟩, .slice none 0 0] 189)) := (Q.refl w).alloc _
  have HR := show Hid _ from readHead_any s _ hs (hm.stays hq0)
  clear hm
  go_enter Tryz.func129, Tryz.ntmps129
  go_wp2_with fail
  refine Calls.mono (Hid.out HR) ?_
  rintro e w1 ⟨hq, ⟨h, sv, hr, rfl, hp⟩ | ⟨hr, ⟨t, v, rfl⟩⟩⟩
  · obtain ⟨a, cap, rfl, hat⟩ := hp
    have HP : Hid (PairsAt (New (w.alloc (.cells #[.string ⟨#[]⟩, .string ⟨#[]⟩, .slice none 0 0] 189)) w1) w1 (.slice a h.fields.length cap) h.fields) := ⟨a, cap, rfl, hat⟩
    have HRd := show Hid _ from hr
    obtain ⟨hcl, hfr, hz⟩ := hq.made
    have hQ : Q w w1 := hq0.trans hq
    clear hr hat HR hq
    obtain ⟨m, t, fs⟩ := h
    unfold headV str
    go_wp2_with fail
    refine bodyPost_ret (v := headV m t (.slice a fs.length cap)) (by simp [results, Tryz.results129, go_sem, hcl, headV, str]) rfl ⟨?_, .inl ⟨⟨m, t, fs⟩, _, HRd.out, rfl, ?_⟩⟩
    · iterate 3 refine Q.setCell ?_ (Nat.le_refl _) _
      exact hQ
    · refine PairsAt.keeps HP.out fun k hk => ?_
      have h1 := hk.1
      simp at h1
      have hne : ∀ o i, (⟨w.heap.size, o, none⟩ : Addr) ≠ ⟨k, i, none⟩ := fun o i e => by injection e with e1 _; omega
      refine ⟨⟨by omega, by have := hk.2; simp; omega⟩, fun o => ?_⟩
      rw [set_other (hne _ _), set_other (hne _ _), set_other (hne _ _)]
  · exact ⟨rfl, hq0.trans hq, .inr ⟨hr, ⟨_, _, rfl⟩⟩⟩

set_option maxRecDepth 100000 in
set_option maxHeartbeats 800000 in
theorem judge2_any (s : ByteArray) (hb : Nat) (w : World) (hs : s.size ≤ 1000) (hc : w.cell? ⟨hb, 1, none⟩ = some (.string s)) :
    Calls Tryz.prog 132 #[.pointer (some ⟨hb, 0, none⟩)] w fun e w' => TargetPost s.data.toList w e w' := by
  have l1 := Q.lt hc
  have hq0 : Q w (w.alloc (.cells #[.string ⟨#[]⟩, .int .i64 0] 165)) := (Q.refl w).alloc _
  have HR := show Hid _ from readTarget_any s (w.alloc (.cells #[.string ⟨#[]⟩, .int .i64 0] 165)) (by omega)
  go_enter Tryz.func132, Tryz.ntmps132
  go_wp2_with fail
  refine Calls.mono (Hid.out HR) ?_
  rintro e w1 ⟨hq, ⟨h, n, hr, rfl⟩ | ⟨hr, ⟨t, v, rfl⟩⟩⟩
  · have HRd := show Hid _ from hr
    obtain ⟨hcl, hfr, hz⟩ := hq.made
    have hQ : Q w w1 := hq0.trans hq
    clear hr HR hq
    unfold str
    go_wp2_with fail
    refine bodyPost_ret (v := .agg #[str h, .int .i64 (n : Int)]) (by simp [results, Tryz.results132, go_sem, hcl, str]) rfl ⟨?_, .inl ⟨h, n, HRd.out, rfl⟩⟩
    iterate 2 refine Q.setCell ?_ (Nat.le_refl _) _
    exact hQ
  · exact ⟨rfl, hq0.trans hq, .inr ⟨hr, ⟨_, _, rfl⟩⟩⟩

def CaughtH (l : List UInt8) (w : World) (e : Ending) (w' : World) : Prop :=
  Q w w' ∧ ((∃ h sv, readHead l = some h ∧ e = .returned (.tuple #[headV h.method h.target sv, .bool true]) ∧ PairsAt (New w w') w' sv h.fields) ∨ (readHead l = none ∧ e = .returned (.tuple #[headV [] [] (.slice none 0 0), .bool false])))
def CaughtT (l : List UInt8) (w : World) (e : Ending) (w' : World) : Prop :=
  Q w w' ∧ ((∃ (h : List UInt8) (n : Nat), targetS l = some (h, n) ∧ e = .returned (.tuple #[.agg #[str h, .int .i64 (n : Int)], .bool true])) ∨ (targetS l = none ∧ e = .returned (.tuple #[.agg #[str [], .int .i64 0], .bool false])))

set_option maxRecDepth 100000 in
set_option maxHeartbeats 1600000 in
theorem caughtH_any (s : ByteArray) (tb : Nat) (w : World) (hs : s.size ≤ 1000) (hm : ML w) (hc : w.cell? ⟨tb, 0, none⟩ = some (.string s)) :
    Calls Tryz.prog 128 #[.func (.func 129) #[] #[.pointer (some ⟨tb, 0, none⟩)]] w fun e w' => CaughtH s.data.toList w e w' := by
  have hmf : ∀ (fn : Fn) (first cap : Array Value) (w : World), (Instr.makeFunc fn first cap).run Tryz.prog w = .ok (.func fn first cap) w := fun _ _ _ _ => rfl
  have hq0 : Q w ((w.alloc (.cells #[.string ⟨#[]⟩, .string ⟨#[]⟩, .slice none 0 0] 189)).alloc (.cells #[.bool false] 4)) := ((Q.refl w).alloc _).alloc _
  have HJ := show Hid _ from judge1_any s tb _ hs (hm.stays hq0) (hq0.cell hc)
  clear hm hc
  go_enter_defers Tryz.func128, Tryz.ntmps128
  go_wp2_with fail
  refine Calls.mono (Hid.out HJ) ?_
  rintro e w1 ⟨hq, ⟨h, sv, hr, rfl, hp⟩ | ⟨hr, ⟨u, v, rfl⟩⟩⟩
  · clear HJ
    obtain ⟨a, cap, rfl, hat⟩ := hp
    have HP : Hid (PairsAt (New ((w.alloc (.cells #[.string ⟨#[]⟩, .string ⟨#[]⟩, .slice none 0 0] 189)).alloc (.cells #[.bool false] 4)) w1) w1 (.slice a h.fields.length cap) h.fields) := ⟨a, cap, rfl, hat⟩
    have HRd := show Hid _ from hr
    clear hr hat
    obtain ⟨m, t, fs⟩ := h
    obtain ⟨M, rfl⟩ : ∃ M : ByteArray, M.data.toList = m := ⟨⟨m.toArray⟩, rfl⟩
    obtain ⟨T, rfl⟩ : ∃ M : ByteArray, M.data.toList = t := ⟨⟨t.toArray⟩, rfl⟩
    unfold headV
    simp only [str_data] at *
    obtain ⟨hcl, hcm, hz⟩ := hq.made2n
    have hf1 : ∀ i, w1.frozen? ⟨w.heap.size, i, none⟩ = false := fun i => by
      rw [hq.cells.2 _ _ (by simp; omega)]; simp [go_sem]
    have hf2 : ∀ i, w1.frozen? ⟨w.heap.size + 1, i, none⟩ = false := fun i => by
      rw [hq.cells.2 _ _ (by simp)]; simp [go_sem]
    have hQ : Q w w1 := hq0.trans hq
    clear hq
    go_wp2_with fail
    obtain ⟨W, hW⟩ : ∃ W, W = (((w1.setCell ⟨w.heap.size, 0, none⟩ (.string M)).setCell ⟨w.heap.size, 1, none⟩ (.string T)).setCell ⟨w.heap.size, 2, none⟩ (.slice a fs.length cap)) := ⟨_, rfl⟩
    have hc0 : W.cell? ⟨w.heap.size, 0, none⟩ = some (.string M) := by rw [hW]; simp [go_sem, hcl]
    have hc1 : W.cell? ⟨w.heap.size, 1, none⟩ = some (.string T) := by rw [hW]; simp [go_sem, hcl]
    have hc2 : W.cell? ⟨w.heap.size, 2, none⟩ = some (.slice a fs.length cap) := by rw [hW]; simp [go_sem, hcl]
    have hr0 : W.cell? ⟨w.heap.size + 1, 0, none⟩ = some (.bool false) := by rw [hW]; simp [go_sem, hcm]
    have hfz : W.frozen? ⟨w.heap.size + 1, 0, none⟩ = false := by rw [hW]; simp [hf2]
    have hQW : Q w W := by
      rw [hW]
      iterate 3 refine Q.setCell ?_ (Nat.le_refl _) _
      exact hQ
    have hsz : W.heap.size = w1.heap.size := by rw [hW]; simp
    have hWk : ∀ k o, k ≠ w.heap.size → W.cell? ⟨k, o, none⟩ = w1.cell? ⟨k, o, none⟩ := fun k o hk => by
      have hneB : ∀ i, (⟨w.heap.size, i, none⟩ : Addr) ≠ ⟨k, o, none⟩ := fun i e => by injection e with e1 _; exact hk e1.symm
      rw [hW, set_other (hneB _), set_other (hneB _), set_other (hneB _)]
    rw [← hW]
    clear hW hcl hcm hf1 hf2
    have hne : ∀ i, (⟨w.heap.size + 1, 0, none⟩ : Addr) ≠ ⟨w.heap.size, i, none⟩ := fun i e => by injection e with e1 _; omega
    have hx : ((W.setCell ⟨w.heap.size + 1, 0, none⟩ (.bool true)).setCell ⟨w.heap.size + 1, 0, none⟩ (.bool true)).cell? ⟨w.heap.size + 1, 0, none⟩ = some (.bool true) := set_same (set_same hr0)
    have hy : ∀ i, ((W.setCell ⟨w.heap.size + 1, 0, none⟩ (.bool true)).setCell ⟨w.heap.size + 1, 0, none⟩ (.bool true)).cell? ⟨w.heap.size, i, none⟩ = W.cell? ⟨w.heap.size, i, none⟩ := fun i => by
      rw [set_other (hne i), set_other (hne i)]
    refine leaves_cons (f := 169) (args := #[.pointer (some ⟨w.heap.size + 1, 0, none⟩)]) (by simp) (by simp [go_sem]) ?_
    refine (catchH_idle ⟨w.heap.size + 1, 0, none⟩ true _ (set_same hr0) (by rw [World.frozen?_setCell]; exact hfz)).mono ?_
    rintro e u' w'' ⟨rfl, rfl, rfl⟩
    simp [Leaves, settle, results, Tryz.results128, go_sem, hx, hy, hc0, hc1, hc2]
    refine ⟨(hQW.setCell (by simp) _).setCell (by simp) _, .inl ⟨⟨M.data.toList, T.data.toList, fs⟩, _, HRd.out, rfl, ?_⟩⟩
    refine PairsAt.keeps HP.out fun k hk => ?_
    have h1 := hk.1
    simp at h1
    have hk2 := hk.2
    rw [← hsz] at hk2
    have hneA : ∀ o i, (⟨w.heap.size + 1, o, none⟩ : Addr) ≠ ⟨k, i, none⟩ := fun o i e => by injection e with e1 _; omega
    refine ⟨⟨by omega, by simp; omega⟩, fun o => ?_⟩
    rw [set_other (hneA _ _), set_other (hneA _ _)]
    exact hWk k o (by omega)
  · obtain ⟨hcl, hcm, hz⟩ := hq.made2n
    have hf2 : ∀ i, w1.frozen? ⟨w.heap.size + 1, i, none⟩ = false := fun i => by
      rw [hq.cells.2 _ _ (by simp)]; simp [go_sem]
    have hQ : Q w w1 := hq0.trans hq
    clear HJ
    go_wp2_with fail
    refine leaves_cons (f := 169) (args := #[.pointer (some ⟨w.heap.size + 1, 0, none⟩)]) (by simp) (by simp [go_sem]) ?_
    refine (catchH_panicking ⟨w.heap.size + 1, 0, none⟩ false u v [] _ ?_ ?_).mono ?_
    · simp [hcm]
    · simp [hf2]
    rintro e u' w'' ⟨rfl, rfl, rfl⟩
    simp [Leaves, settle, results, Tryz.results128, go_sem, hcl, hcm]
    exact ⟨hQ.setCell (by simp) _, .inr ⟨hr, rfl⟩⟩

set_option maxRecDepth 100000 in
set_option maxHeartbeats 1600000 in
theorem caughtT_any (s : ByteArray) (hb : Nat) (w : World) (hs : s.size ≤ 1000) (hc : w.cell? ⟨hb, 1, none⟩ = some (.string s)) :
    Calls Tryz.prog 131 #[.func (.func 132) #[] #[.pointer (some ⟨hb, 0, none⟩)]] w fun e w' => CaughtT s.data.toList w e w' := by
  have hmf : ∀ (fn : Fn) (first cap : Array Value) (w : World), (Instr.makeFunc fn first cap).run Tryz.prog w = .ok (.func fn first cap) w := fun _ _ _ _ => rfl
  have hq0 : Q w ((w.alloc (.cells #[.string ⟨#[]⟩, .int .i64 0] 165)).alloc (.cells #[.bool false] 4)) := ((Q.refl w).alloc _).alloc _
  have HJ := show Hid _ from judge2_any s hb _ hs (hq0.cell hc)
  clear hc
  go_enter_defers Tryz.func131, Tryz.ntmps131
  go_wp2_with fail
  refine Calls.mono (Hid.out HJ) ?_
  rintro e w1 ⟨hq, ⟨h, n, hr, rfl⟩ | ⟨hr, ⟨u, v, rfl⟩⟩⟩
  · clear HJ
    have HRd := show Hid _ from hr
    clear hr
    obtain ⟨H, rfl⟩ : ∃ M : ByteArray, M.data.toList = h := ⟨⟨h.toArray⟩, rfl⟩
    simp only [str_data] at *
    obtain ⟨hcl, hcm, hz⟩ := hq.made2n
    have hf1 : ∀ i, w1.frozen? ⟨w.heap.size, i, none⟩ = false := fun i => by
      rw [hq.cells.2 _ _ (by simp; omega)]; simp [go_sem]
    have hf2 : ∀ i, w1.frozen? ⟨w.heap.size + 1, i, none⟩ = false := fun i => by
      rw [hq.cells.2 _ _ (by simp)]; simp [go_sem]
    have hQ : Q w w1 := hq0.trans hq
    clear hq
    go_wp2_with fail
    obtain ⟨W, hW⟩ : ∃ W, W = ((w1.setCell ⟨w.heap.size, 0, none⟩ (.string H)).setCell ⟨w.heap.size, 1, none⟩ (.int .i64 (n : Int))) := ⟨_, rfl⟩
    have hc0 : W.cell? ⟨w.heap.size, 0, none⟩ = some (.string H) := by rw [hW]; simp [go_sem, hcl]
    have hc1 : W.cell? ⟨w.heap.size, 1, none⟩ = some (.int .i64 (n : Int)) := by rw [hW]; simp [go_sem, hcl]
    have hr0 : W.cell? ⟨w.heap.size + 1, 0, none⟩ = some (.bool false) := by rw [hW]; simp [go_sem, hcm]
    have hfz : W.frozen? ⟨w.heap.size + 1, 0, none⟩ = false := by rw [hW]; simp [hf2]
    have hQW : Q w W := by
      rw [hW]
      iterate 2 refine Q.setCell ?_ (Nat.le_refl _) _
      exact hQ
    rw [← hW]
    clear hW hcl hcm hf1 hf2
    have hne : ∀ i, (⟨w.heap.size + 1, 0, none⟩ : Addr) ≠ ⟨w.heap.size, i, none⟩ := fun i e => by injection e with e1 _; omega
    have hx : ((W.setCell ⟨w.heap.size + 1, 0, none⟩ (.bool true)).setCell ⟨w.heap.size + 1, 0, none⟩ (.bool true)).cell? ⟨w.heap.size + 1, 0, none⟩ = some (.bool true) := set_same (set_same hr0)
    have hy : ∀ i, ((W.setCell ⟨w.heap.size + 1, 0, none⟩ (.bool true)).setCell ⟨w.heap.size + 1, 0, none⟩ (.bool true)).cell? ⟨w.heap.size, i, none⟩ = W.cell? ⟨w.heap.size, i, none⟩ := fun i => by
      rw [set_other (hne i), set_other (hne i)]
    refine leaves_cons (f := 173) (args := #[.pointer (some ⟨w.heap.size + 1, 0, none⟩)]) (by simp) (by simp [go_sem]) ?_
    refine (catchT_idle ⟨w.heap.size + 1, 0, none⟩ true _ (set_same hr0) (by rw [World.frozen?_setCell]; exact hfz)).mono ?_
    rintro e u' w'' ⟨rfl, rfl, rfl⟩
    simp [Leaves, settle, results, Tryz.results131, go_sem, hx, hy, hc0, hc1]
    exact ⟨(hQW.setCell (by simp) _).setCell (by simp) _, .inl ⟨H.data.toList, n, HRd.out, rfl⟩⟩
  · obtain ⟨hcl, hcm, hz⟩ := hq.made2n
    have hf2 : ∀ i, w1.frozen? ⟨w.heap.size + 1, i, none⟩ = false := fun i => by
      rw [hq.cells.2 _ _ (by simp)]; simp [go_sem]
    have hQ : Q w w1 := hq0.trans hq
    clear HJ
    go_wp2_with fail
    refine leaves_cons (f := 173) (args := #[.pointer (some ⟨w.heap.size + 1, 0, none⟩)]) (by simp) (by simp [go_sem]) ?_
    refine (catchT_panicking ⟨w.heap.size + 1, 0, none⟩ false u v [] _ ?_ ?_).mono ?_
    · simp [hcm]
    · simp [hf2]
    rintro e u' w'' ⟨rfl, rfl, rfl⟩
    simp [Leaves, settle, results, Tryz.results131, go_sem, hcl, hcm]
    exact ⟨hQ.setCell (by simp) _, .inr ⟨hr, rfl⟩⟩

end Go.Proofs.YtdmaffciijmdcaaGreatDoor
/-
  Plain functions: what a head is answered; and the program's judge.
-/
namespace Go.Proofs.YtdmaffciijmdcaaGreatDoor
namespace Plain
theorem fields_len : ∀ (ls : List (List UInt8)) (fs : List (List UInt8 × List UInt8)), fieldsS ls = some fs → fs.length = ls.length
  | [], fs, h => by cases h; rfl
  | l :: ls, fs, h => by
    rw [fieldsS] at h
    cases hf : fieldS l with
    | none => rw [hf] at h; cases h
    | some f =>
      rw [hf] at h
      simp only at h
      cases hs : fieldsS ls with
      | none => rw [hs] at h; cases h
      | some r =>
        rw [hs] at h
        cases h
        simp [fields_len ls r hs]
theorem first_some {x m t : List UInt8} (h : firstS x = some (m, t)) : ∃ v, parts 32 x = [m, t, v] ∧ firstOk m t v = true := by
  unfold firstS at h
  split at h
  · rename_i a b c hp
    split at h
    · rename_i hk
      cases h
      exact ⟨_, hp, hk⟩
    · cases h
  · cases h
theorem head_some {l : List UInt8} {h : HeadS} (hr : readHead l = some h) : Lib.hasSuffix l endB = true ∧ ∃ x xs, headLines l = x :: xs ∧ firstS x = some (h.method, h.target) ∧ fieldsS xs = some h.fields := by
  unfold readHead at hr
  split at hr
  · rename_i hs
    refine ⟨hs, ?_⟩
    split at hr
    · cases hr
    · rename_i x xs hx
      split at hr
      · cases hr
      · rename_i m t hf
        split at hr
        · cases hr
        · rename_i fs hfs
          cases hr
          exact ⟨x, xs, hx, hf, hfs⟩
  · cases hr
end Plain
open Go.RowKit Plain

theorem head_bounds {l : List UInt8} {h : HeadS} (hr : readHead l = some h) (hl : l.length ≤ 1000) : h.target.length ≤ 1000 ∧ h.method.length ≤ 1000 ∧ h.fields.length ≤ 1002 := by
  obtain ⟨_, x, xs, hx, hf, hfs⟩ := head_some hr
  have hb : (Lib.trimSuffix l endB).length ≤ l.length := Lib.trimSuffix_le _ _
  have hx1 : x.length ≤ 1000 := by
    have : x ∈ headLines l := by rw [hx]; simp
    have := split_part _ _ this
    omega
  obtain ⟨v, hp, _⟩ := first_some hf
  have ht : h.target.length ≤ x.length := part_len (c := 32) (by rw [hp]; simp)
  have hm : h.method.length ≤ x.length := part_len (c := 32) (by rw [hp]; simp)
  refine ⟨by omega, by omega, ?_⟩
  rw [fields_len _ _ hfs]
  have h1 := splitK_le (Lib.count (Lib.trimSuffix l endB) [13, 10]) (Lib.trimSuffix l endB)
  have h2 := Lib.count_le (Lib.trimSuffix l endB) [13, 10]
  have h3 : (headLines l).length = xs.length + 1 := by rw [hx]; rfl
  unfold headLines Lib.split at h3
  omega

theorem keepG {a b W : World} {p0 p1 p2 p3 : Addr} {v0 v1 v2 v3 : Value}
    (h : a.cell? p0 = some v0 ∧ a.cell? p1 = some v1 ∧ a.cell? p2 = some v2 ∧ a.cell? p3 = some v3 ∧ Q W a) (q : Q a b) :
    b.cell? p0 = some v0 ∧ b.cell? p1 = some v1 ∧ b.cell? p2 = some v2 ∧ b.cell? p3 = some v3 ∧ Q W b := by
  obtain ⟨h0, h1, h2, h3, hq⟩ := h
  exact ⟨q.cell h0, q.cell h1, q.cell h2, q.cell h3, hq.trans q⟩
theorem lastG {a W : World} {p0 p1 p2 p3 : Addr} {v0 v1 v2 v3 : Value}
    (h : a.cell? p0 = some v0 ∧ a.cell? p1 = some v1 ∧ a.cell? p2 = some v2 ∧ a.cell? p3 = some v3 ∧ Q W a) : Q W a := h.2.2.2.2

/-- What a gateway's judge reads. -/
structure GwRead (w : World) (gb : Nat) (rs : List RuleS) (tens : List (List UInt8 × List UInt8)) (minute : Int) : Prop where
  pol : ∃ pb, w.cell? ⟨gb, 0, none⟩ = some (.pointer (some ⟨pb, 0, none⟩)) ∧ PolicyRep (fun b => b < w.heap.size) w pb rs
  ten : ∃ tv, w.cell? ⟨gb, 1, none⟩ = some tv ∧ PairsAt (fun b => b < w.heap.size) w tv tens
  min : w.cell? ⟨gb, 2, none⟩ = some (.int .i64 minute)
  few : tens.length ≤ 1000
theorem lt_keeps {w w' : World} (q : Q w w') : Keeps (fun b => b < w.heap.size) (fun b => b < w'.heap.size) w w' := fun b hb => ⟨Nat.lt_of_lt_of_le hb q.size, fun o => q.cells.1 b o hb⟩
theorem GwRead.stays {w w' : World} {gb : Nat} {rs : List RuleS} {tens : List (List UInt8 × List UInt8)} {minute : Int} (h : GwRead w gb rs tens minute) (q : Q w w') : GwRead w' gb rs tens minute := by
  obtain ⟨⟨pb, h1, h2⟩, ⟨tv, h3, h4⟩, h5, h6⟩ := h
  exact ⟨⟨pb, q.cell h1, h2.keeps (lt_keeps q)⟩, ⟨tv, q.cell h3, h4.keeps (lt_keeps q)⟩, q.cell h5, h6⟩

theorem tenant_of {tens fs : List (List UInt8 × List UInt8)} : whoIs tens fs = if manyOf fs proxyB = 1 then byS tens (lastOf fs proxyB) else none := by
  unfold whoIs
  rw [only_one]
  by_cases h : manyOf fs proxyB = 1
  · rw [if_pos h, if_pos h]
  · rw [if_neg h, if_neg h]

set_option maxRecDepth 100000 in
set_option maxHeartbeats 800000 in
theorem tenantOf_any (gb : Nat) (rs : List RuleS) (tens : List (List UInt8 × List UInt8)) (minute : Int) (m t : ByteArray) (v : Value) (fs : List (List UInt8 × List UInt8)) (w : World) (hg : GwRead w gb rs tens minute) (hv : PairsAt (fun b => b < w.heap.size) w v fs) (hf : fs.length ≤ 2000) :
    Calls Tryz.prog 134 #[.pointer (some ⟨gb, 0, none⟩), .agg #[.string m, .string t, v]] w fun e w' => e = .returned (.tuple #[str ((whoIs tens fs).getD []), .bool (whoIs tens fs).isSome]) ∧ Q w w' := by
  have HTO := show Hid _ from tenant_of (tens := tens) (fs := fs)
  obtain ⟨tv, htv, hpt⟩ := hg.ten
  have HO : ∀ x, Q w x → Hid (Calls Tryz.prog 176 #[.agg #[.string m, .string t, v], .string ⟨proxyB.toArray⟩] x fun e w' => e = .returned (.tuple #[str (lastOf fs proxyB), .bool (decide (manyOf fs proxyB = 1))]) ∧ Q x w') := fun x hx => only_any m t v fs ⟨proxyB.toArray⟩ x (hv.keeps (lt_keeps hx)) hf
  have HB : ∀ x c, Q w x → Hid (Calls Tryz.prog 177 #[tv, .string c] x fun e w' => e = .returned (.tuple #[str ((byS tens c.data.toList).getD []), .bool (byS tens c.data.toList).isSome]) ∧ Q x w') := fun x c hx => by_any tens tv c x (hpt.keeps (lt_keeps hx)) hg.few
  have hform : ∃ o n c, v = .slice o n c := by obtain ⟨a, cap, h, _⟩ := hv; exact ⟨_, _, _, h⟩
  have hformt : ∃ o n c, tv = .slice o n c := by obtain ⟨a, cap, h, _⟩ := hpt; exact ⟨_, _, _, h⟩
  obtain ⟨vo, vn, vc, rfl⟩ := hform
  obtain ⟨ta, tn, tc, rfl⟩ := hformt
  have hgl := Q.lt htv
  clear hg hv hpt
  go_enter Tryz.func134, Tryz.ntmps134
  go_wp2_with fail
  refine Calls.mono (Hid.out (HO _ ((Q.refl _).alloc _))) ?_
  rintro e w1 ⟨rfl, hq1⟩
  have hQ1 : Q w w1 := ((Q.refl _).alloc _).trans hq1
  have htv1 := hQ1.cell htv
  obtain ⟨L, hL⟩ : ∃ L : ByteArray, L.data.toList = lastOf fs proxyB := ⟨⟨(lastOf fs proxyB).toArray⟩, rfl⟩
  rw [← hL, str_data]
  rw [← hL] at HTO
  by_cases h1 : manyOf fs proxyB = 1
  · have HT : Hid (whoIs tens fs = byS tens L.data.toList) := by
      show _ = _
      rw [HTO.out, if_pos h1]
    rw [decide_eq_true h1]
    clear h1 HTO HO hL
    go_wp2_with fail
    refine Calls.mono (Hid.out (HB _ _ hQ1)) ?_
    rintro e w2 ⟨rfl, hq2⟩
    rw [← HT.out]
    unfold str
    go_wp2_with fail
    go_ret2
    exact ⟨rfl, hQ1.trans hq2⟩
  · have HT : Hid (whoIs tens fs = none) := by
      show _ = _
      rw [HTO.out, if_neg h1]
    rw [decide_eq_false h1]
    clear h1 HTO HO hL
    go_wp2_with fail
    go_ret2
    exact ⟨ret_strb (by rw [HT.out]; rfl) (by rw [HT.out]; rfl), hQ1⟩
end Go.Proofs.YtdmaffciijmdcaaGreatDoor

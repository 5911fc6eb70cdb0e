/-
  Package rules: what the function on addresses answers.
-/
import Derived.Test.YtdmaffciijmdcaaGreatDoorNetsToHosts
import Derived.Laws.EntriesVeiled
namespace Go.Proofs.YtdmaffciijmdcaaGreatDoor
open Go.RowKit Plain

attribute [local go_sem] eq4

/-- The cells that the test reads: the host's, the rule's. -/
theorem net1_keep {W w w' : World} {h n b : Nat} {v0 v1 v2 v3 v4 u0 u1 u2 u3 k : Value}
    (hh : w.cell? ⟨h, 0, none⟩ = some v0 ∧ w.cell? ⟨h, 1, none⟩ = some v1 ∧ w.cell? ⟨h, 2, none⟩ = some v2 ∧ w.cell? ⟨h, 3, none⟩ = some v3 ∧ w.cell? ⟨h, 4, none⟩ = some v4 ∧
      w.cell? ⟨b, 0, none⟩ = some u0 ∧ w.cell? ⟨b, 1, none⟩ = some u1 ∧ w.cell? ⟨b, 2, none⟩ = some u2 ∧ w.cell? ⟨b, 3, none⟩ = some u3 ∧ w.cell? ⟨n, 0, none⟩ = some k ∧ Q W w) (q : Q w w') :
    w'.cell? ⟨h, 0, none⟩ = some v0 ∧ w'.cell? ⟨h, 1, none⟩ = some v1 ∧ w'.cell? ⟨h, 2, none⟩ = some v2 ∧ w'.cell? ⟨h, 3, none⟩ = some v3 ∧ w'.cell? ⟨h, 4, none⟩ = some v4 ∧
      w'.cell? ⟨b, 0, none⟩ = some u0 ∧ w'.cell? ⟨b, 1, none⟩ = some u1 ∧ w'.cell? ⟨b, 2, none⟩ = some u2 ∧ w'.cell? ⟨b, 3, none⟩ = some u3 ∧ w'.cell? ⟨n, 0, none⟩ = some k ∧ Q W w' := by
  obtain ⟨h0, h1, h2, h3, h4, h5, h6, h7, h8, h9, h10⟩ := hh
  exact ⟨q.cell h0, q.cell h1, q.cell h2, q.cell h3, q.cell h4, q.cell h5, q.cell h6, q.cell h7, q.cell h8, q.cell h9, h10.trans q⟩

theorem firstBits_eqb {n a b c d x0 x1 x2 x3 : Nat} : (((keep (min 8 n) a : Nat) : Int) == (x0 : Int) && ((keep (min 8 (n - 8)) b : Nat) : Int) == (x1 : Int) && ((keep (min 8 (n - 16)) c : Nat) : Int) == (x2 : Int) && ((keep (min 8 (n - 24)) d : Nat) : Int) == (x3 : Int)) = (firstN n [a, b, c, d] == [x0, x1, x2, x3]) := by
  rw [Bool.eq_iff_iff]
  unfold firstN
  simp
  omega

theorem isAddress_none (a b c d : Nat) (w : World) : Calls Tryz.prog 197 #[.agg #[.string ⟨#[]⟩, .int .u8 a, .int .u8 b, .int .u8 c, .int .u8 d]] w fun e w' => e = .returned (.bool true) ∧ Q w w' := isAddress_any [] a b c d w

set_option maxRecDepth 100000 in
set_option maxHeartbeats 800000 in
theorem net1_yes (a b c d n g x0 x1 x2 x3 m : Nat) (w : World) (ha : a ≤ 255) (hb : b ≤ 255) (hc : c ≤ 255) (hd : d ≤ 255) (hm : m ≤ 32)
    (cn : w.cell? ⟨n, 0, none⟩ = some (i64 m)) (c0 : w.cell? ⟨g, 0, none⟩ = some (u8 x0)) (c1 : w.cell? ⟨g, 1, none⟩ = some (u8 x1)) (c2 : w.cell? ⟨g, 2, none⟩ = some (u8 x2)) (c3 : w.cell? ⟨g, 3, none⟩ = some (u8 x3)) :
    Calls Tryz.prog 196 #[hostV [] a b c d, .pointer (some ⟨n, 0, none⟩), .pointer (some ⟨g, 0, none⟩)] w fun e w' => e = .returned (.bool (firstN m [a, b, c, d] == [x0, x1, x2, x3])) ∧ Q w w' := by
  have hn := Q.lt cn
  have hg := Q.lt c0
  have HE := show Hid _ from @firstBits_eqb m a b c d x0 x1 x2 x3
  generalize hk0 : keep (min 8 m) a = k0 at HE
  generalize hk1 : keep (min 8 (m - 8)) b = k1 at HE
  generalize hk2 : keep (min 8 (m - 16)) c = k2 at HE
  generalize hk3 : keep (min 8 (m - 24)) d = k3 at HE
  have HB : Hid (firstBits m a b c d = .agg #[u8 k0, u8 k1, u8 k2, u8 k3]) := by
    show _ = _
    unfold firstBits; rw [hk0, hk1, hk2, hk3]
  clear hk0 hk1 hk2 hk3
  unfold hostV str at *
  have hq0 : Q w (w.alloc (.cells #[.string ⟨#[]⟩, u8 a, u8 b, u8 c, u8 d] 211)) := (Q.refl w).alloc _
  go_enter Tryz.func196, Tryz.ntmps196
  go_wp2_with fail
  go_region_held3 (fun w' => w'.cell? ⟨w.heap.size, 0, none⟩ = some (.string ⟨#[]⟩) ∧ w'.cell? ⟨w.heap.size, 1, none⟩ = some (.int .u8 a) ∧ w'.cell? ⟨w.heap.size, 2, none⟩ = some (.int .u8 b) ∧ w'.cell? ⟨w.heap.size, 3, none⟩ = some (.int .u8 c) ∧ w'.cell? ⟨w.heap.size, 4, none⟩ = some (.int .u8 d) ∧
      w'.cell? ⟨g, 0, none⟩ = some (.int .u8 x0) ∧ w'.cell? ⟨g, 1, none⟩ = some (.int .u8 x1) ∧ w'.cell? ⟨g, 2, none⟩ = some (.int .u8 x2) ∧ w'.cell? ⟨g, 3, none⟩ = some (.int .u8 x3) ∧ w'.cell? ⟨n, 0, none⟩ = some (.int .i64 m) ∧ Q w w')
    (first | exact ⟨by simp [go_sem], by simp [go_sem], by simp [go_sem], by simp [go_sem], by simp [go_sem], hq0.cell c0, hq0.cell c1, hq0.cell c2, hq0.cell c3, hq0.cell cn, hq0.drew⟩ | exact net1_keep (by assumption) (by assumption) | assumption)
    (first | (go_at_call 197; refine (isAddress_none a b c d _).mono ?_; rintro e w' ⟨rfl, hq2⟩) | (go_at_call 195; refine (first_any a b c d m hm ha hb hc hd _).mono ?_; rintro e w' ⟨rfl, hq2⟩; rw [HB.out]))
  obtain ⟨_, _, _, _, _, _, _, _, _, _, hq⟩ := by assumption
  go_wp2_with fail
  go_ret
  exact ⟨ret_bool HE.out, hq⟩

theorem isAddress_some (nm : List UInt8) (a b c d : Nat) (w : World) (h : nm.isEmpty = false) : Calls Tryz.prog 197 #[.agg #[.string ⟨nm.toArray⟩, .int .u8 a, .int .u8 b, .int .u8 c, .int .u8 d]] w fun e w' => e = .returned (.bool false) ∧ Q w w' :=
  (isAddress_any nm a b c d w).mono fun _ _ ⟨he, hw⟩ => ⟨by rw [he, h], hw⟩

set_option maxRecDepth 100000 in
set_option maxHeartbeats 800000 in
theorem net1_no (nm : List UInt8) (a b c d n g : Nat) (w : World) (hnm : nm.isEmpty = false) :
    Calls Tryz.prog 196 #[hostV nm a b c d, .pointer (some ⟨n, 0, none⟩), .pointer (some ⟨g, 0, none⟩)] w fun e w' => e = .returned (.bool false) ∧ Q w w' := by
  have HN := show Hid _ from hnm
  clear hnm
  unfold hostV str at *
  go_enter Tryz.func196, Tryz.ntmps196
  go_wp2_with fail
  refine wp_region_held_drew (S := fun w' => w'.cell? ⟨w.heap.size, 0, none⟩ = some (.string ⟨nm.toArray⟩) ∧ w'.cell? ⟨w.heap.size, 1, none⟩ = some (.int .u8 a) ∧ w'.cell? ⟨w.heap.size, 2, none⟩ = some (.int .u8 b) ∧ w'.cell? ⟨w.heap.size, 3, none⟩ = some (.int .u8 c) ∧ w'.cell? ⟨w.heap.size, 4, none⟩ = some (.int .u8 d) ∧ Q w w') (by kernel_rfl)
    ⟨by simp [go_sem], by simp [go_sem], by simp [go_sem], by simp [go_sem], by simp [go_sem], ((Q.refl w).alloc _).drew⟩ (fun hHeld => ?_)
  refine wpAnyH_take (i := 0) (v := ?_) rfl (by kernel_rfl) (by kernel_rfl) (by kernel_rfl) (fun _ _ _ h => h) (Or.inl ⟨by rfl, ?_⟩) (by assumption) ?_
  rotate_left
  · (intro w hSw; (try dsimp only at hSw); go_simp; try with_reducible rfl)
  simp only [Act.put, List.getElem_toArray, List.getElem_cons_zero, List.setIfInBounds_toArray, List.set_cons_zero, List.set_cons_succ]
  refine wpAnyH_ready (rs := [1]) (by kernel_rfl) (by simp) ?_
  refine AllReadyH.cons rfl (fun K hK => ?_) AllReadyH.nil
  go_simp
  refine (isAddress_some nm a b c d _ HN.out).mono ?_
  rintro e w1 ⟨rfl, hq1⟩
  go_wp2_with fail
  refine hK.out _ _ (by obtain ⟨c0, c1, c2, c3, c4, q⟩ := hHeld; exact ⟨hq1.cell c0, hq1.cell c1, hq1.cell c2, hq1.cell c3, hq1.cell c4, q.trans hq1⟩) (fun hHeld2 => ?_)
  clear hK K hHeld
  refine wpAnyH_take (i := 2) (v := ?_) rfl (by kernel_rfl) (by kernel_rfl) (by kernel_rfl) (fun _ _ _ h => h) (Or.inl ⟨by rfl, ?_⟩) (by assumption) ?_
  rotate_left
  · (intro w hSw; (try dsimp only at hSw); go_simp; try with_reducible rfl)
  simp only [Act.put, List.getElem_toArray, List.getElem_cons_zero, List.getElem_cons_succ, List.setIfInBounds_toArray, List.set_cons_zero, List.set_cons_succ]
  refine wpAnyH_take (i := 3) (v := undef) rfl (by kernel_rfl) (by kernel_rfl) (by kernel_rfl) (fun _ _ _ h => h) (Or.inr ⟨by rfl, rfl⟩) (by assumption) ?_
  simp only [Act.put, List.getElem_toArray, List.getElem_cons_zero, List.getElem_cons_succ, List.setIfInBounds_toArray, List.set_cons_zero, List.set_cons_succ]
  refine wpAnyH_take (i := 4) (v := undef) rfl (by kernel_rfl) (by kernel_rfl) (by kernel_rfl) (fun _ _ _ h => h) (Or.inr ⟨by rfl, rfl⟩) (by assumption) ?_
  simp only [Act.put, List.getElem_toArray, List.getElem_cons_zero, List.getElem_cons_succ, List.setIfInBounds_toArray, List.set_cons_zero, List.set_cons_succ]
  refine wpAnyH_take (i := 5) (v := undef) rfl (by kernel_rfl) (by kernel_rfl) (by kernel_rfl) (fun _ _ _ h => h) (Or.inr ⟨by rfl, rfl⟩) (by assumption) ?_
  simp only [Act.put, List.getElem_toArray, List.getElem_cons_zero, List.getElem_cons_succ, List.setIfInBounds_toArray, List.set_cons_zero, List.set_cons_succ]
  refine wpAnyH_take (i := 6) (v := undef) rfl (by kernel_rfl) (by kernel_rfl) (by kernel_rfl) (fun _ _ _ h => h) (Or.inr ⟨by rfl, rfl⟩) (by assumption) ?_
  simp only [Act.put, List.getElem_toArray, List.getElem_cons_zero, List.getElem_cons_succ, List.setIfInBounds_toArray, List.set_cons_zero, List.set_cons_succ]
  refine wpAnyH_take (i := 7) (v := undef) rfl (by kernel_rfl) (by kernel_rfl) (by kernel_rfl) (fun _ _ _ h => h) (Or.inr ⟨by rfl, rfl⟩) (by assumption) ?_
  simp only [Act.put, List.getElem_toArray, List.getElem_cons_zero, List.getElem_cons_succ, List.setIfInBounds_toArray, List.set_cons_zero, List.set_cons_succ]
  refine wpAnyH_take (i := 8) (v := undef) rfl (by kernel_rfl) (by kernel_rfl) (by kernel_rfl) (fun _ _ _ h => h) (Or.inr ⟨by rfl, rfl⟩) (by assumption) ?_
  simp only [Act.put, List.getElem_toArray, List.getElem_cons_zero, List.getElem_cons_succ, List.setIfInBounds_toArray, List.set_cons_zero, List.set_cons_succ]
  refine wpAnyH_take (i := 9) (v := ?_) rfl (by kernel_rfl) (by kernel_rfl) (by kernel_rfl) (fun _ _ _ h => h) (Or.inl ⟨by rfl, ?_⟩) (by assumption) ?_
  rotate_left
  · (intro w hSw; (try dsimp only at hSw); go_simp; try with_reducible rfl)
  simp only [Act.put, List.getElem_toArray, List.getElem_cons_zero, List.getElem_cons_succ, List.setIfInBounds_toArray, List.set_cons_zero, List.set_cons_succ]
  refine wpAnyH_take (i := 10) (v := ?_) rfl (by kernel_rfl) (by kernel_rfl) (by kernel_rfl) (fun _ _ _ h => h) (Or.inl ⟨by rfl, ?_⟩) (by assumption) ?_
  rotate_left
  · (intro w hSw; (try dsimp only at hSw); go_simp; try with_reducible rfl)
  simp only [Act.put, List.getElem_toArray, List.getElem_cons_zero, List.getElem_cons_succ, List.setIfInBounds_toArray, List.set_cons_zero, List.set_cons_succ]
  refine wpAnyH_done (by kernel_rfl) ?_ _
  go_wp2_with fail
  go_ret
  exact ⟨rfl, hHeld2.2.2.2.2.2⟩
end Go.Proofs.YtdmaffciijmdcaaGreatDoor
/-
  Package rules: Read.
-/
namespace Go.Proofs.YtdmaffciijmdcaaGreatDoor
open Go.RowKit Plain

/-- A rule in memory's words, and what it says. -/
structure RuleRep (S : Nat → Prop) (w : World) (r : RuleS) (vt vh vp vm : Value) : Prop where
  ten : TenRep S w vt r.ten
  host : HostRep S w vh r.host
  port : PortRep S w vp r.port
  minute : MinRep S w vm r.minute

theorem RuleRep.keeps {S S' : Nat → Prop} {w w' : World} {r : RuleS} {vt vh vp vm : Value} (h : RuleRep S w r vt vh vp vm) (k : Keeps S S' w w') : RuleRep S' w' r vt vh vp vm :=
  ⟨h.ten.keeps k, h.host.keeps k, h.port.keeps k, h.minute.keeps k⟩

theorem TenRep.func {S : Nat → Prop} {w : World} {v : Value} {t : Option (List UInt8)} (h : TenRep S w v t) : ∃ f c, v = .func (.func f) #[] c := by
  rcases h with ⟨_, h⟩ | ⟨_, _, _, h, _⟩ <;> exact ⟨_, _, h⟩
theorem HostRep.func {S : Nat → Prop} {w : World} {v : Value} {t : HostP} (h : HostRep S w v t) : ∃ f c, v = .func (.func f) #[] c := by
  rcases h with ⟨_, h⟩ | ⟨_, _, h, _⟩ | ⟨_, _, h, _⟩ | ⟨_, _, _, _, _, _, _, h, _⟩ <;> exact ⟨_, _, h⟩
theorem PortRep.func {S : Nat → Prop} {w : World} {v : Value} {t : Option (Nat × Nat)} (h : PortRep S w v t) : ∃ f c, v = .func (.func f) #[] c := by
  rcases h with ⟨_, h⟩ | ⟨_, _, _, h, _⟩ | ⟨_, _, _, _, _, h, _⟩ <;> exact ⟨_, _, h⟩
theorem MinRep.func {S : Nat → Prop} {w : World} {v : Value} {t : Option (Nat × Nat)} (h : MinRep S w v t) : ∃ f c, v = .func (.func f) #[] c := by
  rcases h with ⟨_, h⟩ | ⟨_, _, _, _, _, _, h, _⟩ | ⟨_, _, _, _, _, _, h, _⟩ <;> exact ⟨_, _, h⟩

def ruleV (a : Bool) (vt vh vp vm : Value) : Value := .agg #[.bool a, vt, vh, vp, vm]

theorem new_up {a0 a b c : World} (h0 : Q a0 a) (h1 : Q b c) : Keeps (New a b) (New a0 c) b c := fun x hx =>
  ⟨⟨Nat.le_trans h0.size hx.1, Nat.lt_of_lt_of_le hx.2 h1.size⟩, fun o => h1.cells.1 x o hx.2⟩

theorem readRule_eq {l f0 f1 f2 f3 f4 : List UInt8} (hp : parts 32 l = [f0, f1, f2, f3, f4]) : readRule l = match readVerd f0 with
    | none => none
    | some v => match readTen f1 with
      | none => none
      | some t => match readHostP f2 with
        | none => none
        | some h => match readPortP f3 with
          | none => none
          | some p => match readMinP f4 with
            | none => none
            | some m => some ⟨v, t, h, p, m⟩ := by
  unfold readRule; rw [hp]; rfl

theorem readRule_len {l : List UInt8} (hp : (parts 32 l).length ≠ 5) : readRule l = none := by
  unfold readRule
  split
  · rename_i h; rw [h] at hp; simp at hp
  · rfl

theorem five_cells {ps : List (List UInt8)} {p0 p1 p2 p3 p4 : List UInt8} {cs : Array Value} (hp : ps = [p0, p1, p2, p3, p4]) (h : ∀ i, i < ps.length → cs[i]? = some (str (nth ps i))) :
    cs[0]? = some (str p0) ∧ cs[1]? = some (str p1) ∧ cs[2]? = some (str p2) ∧ cs[3]? = some (str p3) ∧ cs[4]? = some (str p4) := by
  subst hp
  exact ⟨h 0 (by simp), h 1 (by simp), h 2 (by simp), h 3 (by simp), h 4 (by simp)⟩

theorem list_five {α : Type} {l : List α} (h : l.length = 5) : ∃ a b c d e, l = [a, b, c, d, e] := by
  match l, h with
  | [a, b, c, d, e], _ => exact ⟨a, b, c, d, e, rfl⟩

/-- What is held while the fields are read: the fields. -/
theorem read_keep {w0 w w' : World} {b : Nat} {v0 v1 v2 v3 v4 : Value}
    (h : w.cell? ⟨b, 0, none⟩ = some v0 ∧ w.cell? ⟨b, 1, none⟩ = some v1 ∧ w.cell? ⟨b, 2, none⟩ = some v2 ∧ w.cell? ⟨b, 3, none⟩ = some v3 ∧ w.cell? ⟨b, 4, none⟩ = some v4 ∧ Q w0 w) (q : Q w w') :
    w'.cell? ⟨b, 0, none⟩ = some v0 ∧ w'.cell? ⟨b, 1, none⟩ = some v1 ∧ w'.cell? ⟨b, 2, none⟩ = some v2 ∧ w'.cell? ⟨b, 3, none⟩ = some v3 ∧ w'.cell? ⟨b, 4, none⟩ = some v4 ∧ Q w0 w' := by
  obtain ⟨h0, h1, h2, h3, h4, h5⟩ := h
  exact ⟨q.cell h0, q.cell h1, q.cell h2, q.cell h3, q.cell h4, h5.trans q⟩

theorem set5_other {w : World} {b : Nat} {v0 v1 v2 v3 v4 : Value} {c : Nat} (h : ¬ b = c) (o : Nat) :
    (((((w.setCell ⟨b, 0, none⟩ v0).setCell ⟨b, 1, none⟩ v1).setCell ⟨b, 2, none⟩ v2).setCell ⟨b, 3, none⟩ v3).setCell ⟨b, 4, none⟩ v4).cell? ⟨c, o, none⟩ = w.cell? ⟨c, o, none⟩ := by
  have hne : ∀ i, (⟨b, i, none⟩ : Addr) ≠ ⟨c, o, none⟩ := fun i e => by injection e with e1 _; exact h e1
  rw [set_other (hne _), set_other (hne _), set_other (hne _), set_other (hne _), set_other (hne _)]
theorem set5_size {w : World} {b : Nat} {v0 v1 v2 v3 v4 : Value} :
    (((((w.setCell ⟨b, 0, none⟩ v0).setCell ⟨b, 1, none⟩ v1).setCell ⟨b, 2, none⟩ v2).setCell ⟨b, 3, none⟩ v3).setCell ⟨b, 4, none⟩ v4).heap.size = w.heap.size := by simp

def ReadPost (l : List UInt8) (w : World) (e : Ending) (w' : World) : Prop :=
  Q w w' ∧ ((∃ r vt vh vp vm, readRule l = some r ∧ e = .returned (ruleV r.allow vt vh vp vm) ∧ RuleRep (New w w') w' r vt vh vp vm) ∨ (readRule l = none ∧ Dies e))

set_option maxRecDepth 100000 in
set_option maxHeartbeats 1600000 in
theorem read_any (s : ByteArray) (w : World) (hs : s.size < 4294967281) :
    Calls Tryz.prog 85 #[.string s] w fun e w' => ReadPost s.data.toList w e w' := by
  have hgl := parts_le 32 s.data.toList
  rw [size_len] at hgl
  go_enter Tryz.func85, Tryz.ntmps85
  go_wp2_with fail
  refine (split_one s 32 _ hs).mono ?_
  rintro e w0 ⟨cs, rfl, rfl, hcs⟩
  by_cases h5 : (parts 32 s.data.toList).length = 5
  case neg =>
    have hb : (((parts 32 s.data.toList).length : Int) == 5) = false := by rw [beq_eq_false_iff_ne]; omega
    have HR := show Hid _ from readRule_len h5
    clear hcs hgl
    generalize (parts 32 s.data.toList).length = n at hb
    go_wp2_with (first | (go_at_call_of 88 (Value.bool false); refine (must_no _ _).mono ?_; rintro e w' ⟨⟨t, v, rfl⟩, rfl⟩))
    exact ⟨rfl, by unfold Q; go_grown, .inr ⟨HR.out, ⟨_, _, rfl⟩⟩⟩
  obtain ⟨f0, f1, f2, f3, f4, hp⟩ := list_five h5
  have HR := show Hid _ from readRule_eq hp
  obtain ⟨c0, c1, c2, c3, c4⟩ := five_cells hp hcs
  rw [h5]
  rw [hp] at hgl
  have l0 := hgl f0 (by simp)
  have l1 := hgl f1 (by simp)
  have l2 := hgl f2 (by simp)
  have l3 := hgl f3 (by simp)
  have l4 := hgl f4 (by simp)
  clear hcs hp hgl h5
  go_wp2_with (first | (go_at_call_of 88 (Value.bool true); refine (must_yes _ _).mono ?_; rintro e w' ⟨rfl, rfl⟩))
  refine wp_region_held_drew (S := fun w' => w'.cell? ⟨w.heap.size + 1, 0, none⟩ = some (str f0) ∧ w'.cell? ⟨w.heap.size + 1, 1, none⟩ = some (str f1) ∧ w'.cell? ⟨w.heap.size + 1, 2, none⟩ = some (str f2) ∧ w'.cell? ⟨w.heap.size + 1, 3, none⟩ = some (str f3) ∧ w'.cell? ⟨w.heap.size + 1, 4, none⟩ = some (str f4) ∧ Q w w') (by kernel_rfl)
    ⟨by simp [go_sem, c0], by simp [go_sem, c1], by simp [go_sem, c2], by simp [go_sem, c3], by simp [go_sem, c4], by unfold Q; go_grown⟩ (fun hHeld0 => ?_)
  refine wpAnyH_take (i := 0) (v := ?_) rfl (by kernel_rfl) (by kernel_rfl) (by kernel_rfl) (fun _ _ _ h => h) (Or.inl ⟨by rfl, ?_⟩) (by assumption) ?_
  rotate_left
  · (intro w hSw; (try dsimp only at hSw); go_simp; try with_reducible rfl)
  simp only [Act.put, List.getElem_toArray, List.getElem_cons_zero, List.setIfInBounds_toArray, List.set_cons_zero, List.set_cons_succ]
  refine wpAnyH_take (i := 1) (v := ?_) rfl (by kernel_rfl) (by kernel_rfl) (by kernel_rfl) (fun _ _ _ h => h) (Or.inl ⟨by rfl, ?_⟩) (by assumption) ?_
  rotate_left
  · (intro w hSw; (try dsimp only at hSw); go_simp; try with_reducible rfl)
  simp only [Act.put, List.getElem_toArray, List.getElem_cons_zero, List.getElem_cons_succ, List.setIfInBounds_toArray, List.set_cons_zero, List.set_cons_succ]
  refine wpAnyH_take (i := 2) (v := ?_) rfl (by kernel_rfl) (by kernel_rfl) (by kernel_rfl) (fun _ _ _ h => h) (Or.inl ⟨by rfl, ?_⟩) (by assumption) ?_
  rotate_left
  · (intro w hSw; (try dsimp only at hSw); go_simp; try with_reducible rfl)
  simp only [Act.put, List.getElem_toArray, List.getElem_cons_zero, List.getElem_cons_succ, List.setIfInBounds_toArray, List.set_cons_zero, List.set_cons_succ]
  refine wpAnyH_take (i := 4) (v := ?_) rfl (by kernel_rfl) (by kernel_rfl) (by kernel_rfl) (fun _ _ _ h => h) (Or.inl ⟨by rfl, ?_⟩) (by assumption) ?_
  rotate_left
  · (intro w hSw; (try dsimp only at hSw); go_simp; try with_reducible rfl)
  simp only [Act.put, List.getElem_toArray, List.getElem_cons_zero, List.getElem_cons_succ, List.setIfInBounds_toArray, List.set_cons_zero, List.set_cons_succ]
  refine wpAnyH_take (i := 5) (v := ?_) rfl (by kernel_rfl) (by kernel_rfl) (by kernel_rfl) (fun _ _ _ h => h) (Or.inl ⟨by rfl, ?_⟩) (by assumption) ?_
  rotate_left
  · (intro w hSw; (try dsimp only at hSw); go_simp; try with_reducible rfl)
  simp only [Act.put, List.getElem_toArray, List.getElem_cons_zero, List.getElem_cons_succ, List.setIfInBounds_toArray, List.set_cons_zero, List.set_cons_succ]
  refine wpAnyH_take (i := 6) (v := ?_) rfl (by kernel_rfl) (by kernel_rfl) (by kernel_rfl) (fun _ _ _ h => h) (Or.inl ⟨by rfl, ?_⟩) (by assumption) ?_
  rotate_left
  · (intro w hSw; (try dsimp only at hSw); go_simp; try with_reducible rfl)
  simp only [Act.put, List.getElem_toArray, List.getElem_cons_zero, List.getElem_cons_succ, List.setIfInBounds_toArray, List.set_cons_zero, List.set_cons_succ]
  refine wpAnyH_take (i := 8) (v := ?_) rfl (by kernel_rfl) (by kernel_rfl) (by kernel_rfl) (fun _ _ _ h => h) (Or.inl ⟨by rfl, ?_⟩) (by assumption) ?_
  rotate_left
  · (intro w hSw; (try dsimp only at hSw); go_simp; try with_reducible rfl)
  simp only [Act.put, List.getElem_toArray, List.getElem_cons_zero, List.getElem_cons_succ, List.setIfInBounds_toArray, List.set_cons_zero, List.set_cons_succ]
  refine wpAnyH_take (i := 9) (v := ?_) rfl (by kernel_rfl) (by kernel_rfl) (by kernel_rfl) (fun _ _ _ h => h) (Or.inl ⟨by rfl, ?_⟩) (by assumption) ?_
  rotate_left
  · (intro w hSw; (try dsimp only at hSw); go_simp; try with_reducible rfl)
  simp only [Act.put, List.getElem_toArray, List.getElem_cons_zero, List.getElem_cons_succ, List.setIfInBounds_toArray, List.set_cons_zero, List.set_cons_succ]
  refine wpAnyH_take (i := 10) (v := ?_) rfl (by kernel_rfl) (by kernel_rfl) (by kernel_rfl) (fun _ _ _ h => h) (Or.inl ⟨by rfl, ?_⟩) (by assumption) ?_
  rotate_left
  · (intro w hSw; (try dsimp only at hSw); go_simp; try with_reducible rfl)
  simp only [Act.put, List.getElem_toArray, List.getElem_cons_zero, List.getElem_cons_succ, List.setIfInBounds_toArray, List.set_cons_zero, List.set_cons_succ]
  refine wpAnyH_take (i := 12) (v := ?_) rfl (by kernel_rfl) (by kernel_rfl) (by kernel_rfl) (fun _ _ _ h => h) (Or.inl ⟨by rfl, ?_⟩) (by assumption) ?_
  rotate_left
  · (intro w hSw; (try dsimp only at hSw); go_simp; try with_reducible rfl)
  simp only [Act.put, List.getElem_toArray, List.getElem_cons_zero, List.getElem_cons_succ, List.setIfInBounds_toArray, List.set_cons_zero, List.set_cons_succ]
  refine wpAnyH_take (i := 13) (v := ?_) rfl (by kernel_rfl) (by kernel_rfl) (by kernel_rfl) (fun _ _ _ h => h) (Or.inl ⟨by rfl, ?_⟩) (by assumption) ?_
  rotate_left
  · (intro w hSw; (try dsimp only at hSw); go_simp; try with_reducible rfl)
  simp only [Act.put, List.getElem_toArray, List.getElem_cons_zero, List.getElem_cons_succ, List.setIfInBounds_toArray, List.set_cons_zero, List.set_cons_succ]
  refine wpAnyH_take (i := 14) (v := ?_) rfl (by kernel_rfl) (by kernel_rfl) (by kernel_rfl) (fun _ _ _ h => h) (Or.inl ⟨by rfl, ?_⟩) (by assumption) ?_
  rotate_left
  · (intro w hSw; (try dsimp only at hSw); go_simp; try with_reducible rfl)
  simp only [Act.put, List.getElem_toArray, List.getElem_cons_zero, List.getElem_cons_succ, List.setIfInBounds_toArray, List.set_cons_zero, List.set_cons_succ]
  refine wpAnyH_take (i := 16) (v := ?_) rfl (by kernel_rfl) (by kernel_rfl) (by kernel_rfl) (fun _ _ _ h => h) (Or.inl ⟨by rfl, ?_⟩) (by assumption) ?_
  rotate_left
  · (intro w hSw; (try dsimp only at hSw); go_simp; try with_reducible rfl)
  simp only [Act.put, List.getElem_toArray, List.getElem_cons_zero, List.getElem_cons_succ, List.setIfInBounds_toArray, List.set_cons_zero, List.set_cons_succ]
  refine wpAnyH_take (i := 17) (v := ?_) rfl (by kernel_rfl) (by kernel_rfl) (by kernel_rfl) (fun _ _ _ h => h) (Or.inl ⟨by rfl, ?_⟩) (by assumption) ?_
  rotate_left
  · (intro w hSw; (try dsimp only at hSw); go_simp; try with_reducible rfl)
  simp only [Act.put, List.getElem_toArray, List.getElem_cons_zero, List.getElem_cons_succ, List.setIfInBounds_toArray, List.set_cons_zero, List.set_cons_succ]
  refine wpAnyH_take (i := 18) (v := ?_) rfl (by kernel_rfl) (by kernel_rfl) (by kernel_rfl) (fun _ _ _ h => h) (Or.inl ⟨by rfl, ?_⟩) (by assumption) ?_
  rotate_left
  · (intro w hSw; (try dsimp only at hSw); go_simp; try with_reducible rfl)
  simp only [Act.put, List.getElem_toArray, List.getElem_cons_zero, List.getElem_cons_succ, List.setIfInBounds_toArray, List.set_cons_zero, List.set_cons_succ]
  refine wpAnyH_ready (rs := [3]) (by kernel_rfl) (by simp) ?_
  refine AllReadyH.cons rfl (fun K hK => ?_) AllReadyH.nil
  go_simp
  cases r0 : readVerd f0 with
  | none =>
    refine (readVerdict_no ⟨f0.toArray⟩ _ r0).mono ?_
    rintro e w1 ⟨⟨t, v, rfl⟩, hw⟩
    rw [hw]
    exact ⟨rfl, hHeld0.2.2.2.2.2, .inr ⟨by rw [HR.out]; simp only [r0], ⟨_, _, rfl⟩⟩⟩
  | some b =>
  refine (readVerdict_yes ⟨f0.toArray⟩ _ b r0).mono ?_
  rintro e w1 ⟨rfl, hw1⟩
  rw [hw1]
  go_wp2_with fail
  refine hK.out _ _ hHeld0 (fun hHeld1 => ?_)
  clear hK K hHeld0 hw1 w1
  refine wpAnyH_ready (rs := [7]) (by kernel_rfl) (by simp) ?_
  refine AllReadyH.cons rfl (fun K hK => ?_) AllReadyH.nil
  go_simp
  cases r1 : readTen f1 with
  | none =>
    refine (readTenant_no ⟨f1.toArray⟩ _ r1).mono ?_
    rintro e w1 ⟨⟨t, v, rfl⟩, hq1⟩
    exact ⟨rfl, hHeld1.2.2.2.2.2.trans hq1, .inr ⟨by rw [HR.out]; simp only [r0, r1], ⟨_, _, rfl⟩⟩⟩
  | some t1 =>
  refine (readTenant_yes ⟨f1.toArray⟩ _ t1 r1).mono ?_
  rintro e w1 ⟨v1, rfl, hq1, rep1⟩
  go_wp2_with fail
  refine hK.out _ _ (read_keep hHeld1 hq1) (fun hHeld2 => ?_)
  clear hK K hHeld1
  refine wpAnyH_ready (rs := [11]) (by kernel_rfl) (by simp) ?_
  refine AllReadyH.cons rfl (fun K hK => ?_) AllReadyH.nil
  go_simp
  cases r2 : readHostP f2 with
  | none =>
    refine (readHostF_no ⟨f2.toArray⟩ _ (by rw [mk_size]; omega) r2).mono ?_
    rintro e w2 ⟨⟨t, v, rfl⟩, hq2⟩
    exact ⟨rfl, hHeld2.2.2.2.2.2.trans hq2, .inr ⟨by rw [HR.out]; simp only [r0, r1, r2], ⟨_, _, rfl⟩⟩⟩
  | some t2 =>
  refine (readHostF_yes ⟨f2.toArray⟩ _ (by rw [mk_size]; omega) t2 r2).mono ?_
  rintro e w2 ⟨v2, rfl, hq2, rep2⟩
  go_wp2_with fail
  refine hK.out _ _ (read_keep hHeld2 hq2) (fun hHeld3 => ?_)
  clear hK K hHeld2
  refine wpAnyH_ready (rs := [15]) (by kernel_rfl) (by simp) ?_
  refine AllReadyH.cons rfl (fun K hK => ?_) AllReadyH.nil
  go_simp
  cases r3 : readPortP f3 with
  | none =>
    refine (readPort_no ⟨f3.toArray⟩ _ (by rw [mk_size]; omega) r3).mono ?_
    rintro e w3 ⟨⟨t, v, rfl⟩, hq3⟩
    exact ⟨rfl, hHeld3.2.2.2.2.2.trans hq3, .inr ⟨by rw [HR.out]; simp only [r0, r1, r2, r3], ⟨_, _, rfl⟩⟩⟩
  | some t3 =>
  refine (readPort_yes ⟨f3.toArray⟩ _ (by rw [mk_size]; omega) t3 r3).mono ?_
  rintro e w3 ⟨v3, rfl, hq3, rep3⟩
  go_wp2_with fail
  refine hK.out _ _ (read_keep hHeld3 hq3) (fun hHeld4 => ?_)
  clear hK K hHeld3
  refine wpAnyH_ready (rs := [19]) (by kernel_rfl) (by simp) ?_
  refine AllReadyH.cons rfl (fun K hK => ?_) AllReadyH.nil
  go_simp
  cases r4 : readMinP f4 with
  | none =>
    refine (readMinute_no ⟨f4.toArray⟩ _ (by rw [mk_size]; omega) r4).mono ?_
    rintro e w4 ⟨⟨t, v, rfl⟩, hq4⟩
    exact ⟨rfl, hHeld4.2.2.2.2.2.trans hq4, .inr ⟨by rw [HR.out]; simp only [r0, r1, r2, r3, r4], ⟨_, _, rfl⟩⟩⟩
  | some t4 =>
  refine (readMinute_yes ⟨f4.toArray⟩ _ (by rw [mk_size]; omega) t4 r4).mono ?_
  rintro e w4 ⟨v4, rfl, hq4, rep4⟩
  go_wp2_with fail
  refine hK.out _ _ (read_keep hHeld4 hq4) (fun hHeld5 => ?_)
  clear hK K hHeld4
  obtain ⟨g1, k1, e1⟩ := rep1.func
  obtain ⟨g2, k2, e2⟩ := rep2.func
  obtain ⟨g3, k3, e3⟩ := rep3.func
  obtain ⟨g4, k4, e4⟩ := rep4.func
  have hqa : Q ((w.alloc (.cells #[.bool false, .nilFunc, .nilFunc, .nilFunc, .nilFunc] 148)).alloc (.cells cs 9)).drew w4 := ((hq1.trans hq2).trans hq3).trans hq4
  obtain ⟨hm1, _, hmz⟩ := hqa.made2
  have hmf : ∀ i, w4.frozen? ⟨w.heap.size, i, none⟩ = false := fun i => by
    rw [hqa.cells.2 _ _ (by simp; omega)]; simp [go_sem]
  have hW1 : Q (w.alloc (.cells #[.bool false, .nilFunc, .nilFunc, .nilFunc, .nilFunc] 148)) ((w.alloc (.cells #[.bool false, .nilFunc, .nilFunc, .nilFunc, .nilFunc] 148)).alloc (.cells cs 9)).drew := ((Q.refl _).alloc _).drew
  have R1 : TenRep (New (w.alloc (.cells #[.bool false, .nilFunc, .nilFunc, .nilFunc, .nilFunc] 148)) w4) w4 v1 t1 := rep1.keeps (new_up hW1 ((hq2.trans hq3).trans hq4))
  have R2 : HostRep (New (w.alloc (.cells #[.bool false, .nilFunc, .nilFunc, .nilFunc, .nilFunc] 148)) w4) w4 v2 t2 := rep2.keeps (new_up (hW1.trans hq1) (hq3.trans hq4))
  have R3 : PortRep (New (w.alloc (.cells #[.bool false, .nilFunc, .nilFunc, .nilFunc, .nilFunc] 148)) w4) w4 v3 t3 := rep3.keeps (new_up ((hW1.trans hq1).trans hq2) hq4)
  have R4 : MinRep (New (w.alloc (.cells #[.bool false, .nilFunc, .nilFunc, .nilFunc, .nilFunc] 148)) w4) w4 v4 t4 := rep4.keeps (new_up (((hW1.trans hq1).trans hq2).trans hq3) (Q.refl _))
  have HRR : Hid (RuleRep (New (w.alloc (.cells #[.bool false, .nilFunc, .nilFunc, .nilFunc, .nilFunc] 148)) w4) w4 ⟨b, t1, t2, t3, t4⟩ v1 v2 v3 v4) := ⟨R1, R2, R3, R4⟩
  have hrr : readRule s.data.toList = some ⟨b, t1, t2, t3, t4⟩ := by rw [HR.out]; simp only [r0, r1, r2, r3, r4]
  have HRS := show Hid _ from hrr
  clear hrr R1 R2 R3 R4 rep1 rep2 rep3 rep4 hq1 hq2 hq3 hq4 hW1 hqa HR r0 r1 r2 r3 r4 c0 c1 c2 c3 c4
  subst e1 e2 e3 e4
  refine wpAnyH_take (i := 20) (v := ?_) rfl (by kernel_rfl) (by kernel_rfl) (by kernel_rfl) (fun _ _ _ h => h) (Or.inl ⟨by rfl, ?_⟩) (by assumption) ?_
  rotate_left
  · (intro w hSw; (try dsimp only at hSw); go_simp; try with_reducible rfl)
  simp only [Act.put, List.getElem_toArray, List.getElem_cons_zero, List.getElem_cons_succ, List.setIfInBounds_toArray, List.set_cons_zero, List.set_cons_succ]
  refine wpAnyH_ready (rs := [21]) (by kernel_rfl) (by simp) ?_
  refine AllReadyH.cons rfl (fun K hK => ?_) AllReadyH.nil
  go_simp
  have hw5 : ∀ x o, ¬ w.heap.size = x → (((((w4.setCell ⟨w.heap.size, 0, none⟩ (.bool b)).setCell ⟨w.heap.size, 1, none⟩ (.func (.func g1) #[] k1)).setCell ⟨w.heap.size, 2, none⟩ (.func (.func g2) #[] k2)).setCell ⟨w.heap.size, 3, none⟩ (.func (.func g3) #[] k3)).setCell ⟨w.heap.size, 4, none⟩ (.func (.func g4) #[] k4)).cell? ⟨x, o, none⟩ = w4.cell? ⟨x, o, none⟩ := fun x o h => set5_other h o
  have hQ5 : Q w (((((w4.setCell ⟨w.heap.size, 0, none⟩ (.bool b)).setCell ⟨w.heap.size, 1, none⟩ (.func (.func g1) #[] k1)).setCell ⟨w.heap.size, 2, none⟩ (.func (.func g2) #[] k2)).setCell ⟨w.heap.size, 3, none⟩ (.func (.func g3) #[] k3)).setCell ⟨w.heap.size, 4, none⟩ (.func (.func g4) #[] k4)) := by
    iterate 5 refine Q.setCell ?_ (Nat.le_refl _) _
    exact hHeld5.2.2.2.2.2
  refine hK.out _ _ ?_ (fun hHeld6 => ?_)
  · obtain ⟨h0, h1, h2, h3, h4, _⟩ := hHeld5
    exact ⟨by rw [hw5 _ _ (by omega)]; exact h0, by rw [hw5 _ _ (by omega)]; exact h1, by rw [hw5 _ _ (by omega)]; exact h2, by rw [hw5 _ _ (by omega)]; exact h3, by rw [hw5 _ _ (by omega)]; exact h4, hQ5⟩
  clear hK K hHeld5 hHeld6
  refine wpAnyH_done (by kernel_rfl) ?_ _
  have HW := show Hid _ from hw5
  clear hw5
  go_wp2_with fail
  refine bodyPost_ret (v := ruleV b (.func (.func g1) #[] k1) (.func (.func g2) #[] k2) (.func (.func g3) #[] k3) (.func (.func g4) #[] k4)) (by simp [results, Tryz.results85, go_sem, hm1, ruleV]) rfl ⟨hQ5, .inl ⟨_, _, _, _, _, HRS.out, rfl, ?_⟩⟩
  refine HRR.out.keeps fun x hx => ⟨⟨?_, ?_⟩, fun o => HW.out x o ?_⟩
  · have := hx.1; simp at this; omega
  · rw [set5_size]; exact hx.2
  · have := hx.1; simp at this; omega
end Go.Proofs.YtdmaffciijmdcaaGreatDoor

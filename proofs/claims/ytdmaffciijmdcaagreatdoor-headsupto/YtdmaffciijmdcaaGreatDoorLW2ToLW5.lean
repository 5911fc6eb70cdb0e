/-
  The laws' own helpers: lent.
-/
import Derived.Test.YtdmaffciijmdcaaGreatDoorRG20ToLW1
import Derived.Laws.CopyOwn
namespace Go.Proofs.YtdmaffciijmdcaaGreatDoor
open Go.RowKit Plain

section
variable {P : Program}
theorem run_copy_rowN (w : World) (dT sT ty elem : TypeId) (g o dLen dCap size : Nat) (a : Addr) (sLen sCap : Nat) (cur : Array Value) (t : TypeId) (cs : List Value)
    (hu : P.underlying dT = some (.slice elem)) (hs : (P.info? elem).map (·.size) = some size)
    (hg : w.heap[g]? = some (.cells cur t (0, 0))) (hn : cs.length = Nat.min sLen dLen * size)
    (hsrc : ∀ j v, cs[j]? = some v → w.cell? (a.add j) = some v) (hfit : o + cs.length ≤ cur.size) (h1 : ∀ v ∈ cs, v.oneCell' = true) :
    (Builtin.copy_ #[dT, sT] ty #[.slice (some ⟨g, o, none⟩) dLen dCap, .slice (some a) sLen sCap]).run P w =
      .ok (goInt (Nat.min sLen dLen)) (w.setRow g (cur.toList.take o ++ cs ++ cur.toList.drop (o + cs.length)).toArray) := by
  have hl := run_loadCells_list (P := P) w a cs hsrc
  have hst := run_storeCells_at P g o t cs 0 cur w hg (by simpa using hfit) h1
  cases hq : P.info? elem with
  | none => simp [hq] at hs
  | some i =>
    have hi : i.size = size := by simpa [hq] using hs
    simp [Builtin.copy_, run_underlying hu, Builtin.lenOf, Builtin.firstCells, sizeOf, typeInfo, hq, hi, ← hn, hl, hst]
theorem wpList_copy_runL {w : World} {ops : Array Oper} {rest : List Oper} {o : Oper} {a : Act} {Q' : Exit → Act → World → Prop} (hgd : o.guard = none) (d s : Operand) (t u : TypeId)
    (ho : o.op = .call { callee := .builtin .copy, args := #[d, s], argTypes := #[t, u] }) (v xv v' : Value) (w' : World) (hs : a.eval d = v) (hx : a.eval s = xv)
    (hr : (Builtin.copy_ #[t, u] o.type #[v, xv]).run P w = .ok v' w') (h : wpList P ops Q' rest (a.put o.dst v') w') : wpList P ops Q' (o :: rest) a w := by
  refine wpList_plain hgd fun K hK => ?_
  unfold Oper.wp execOp
  simp only [ho, resolve, invoke, builtin, Sem.run_bind, Sem.run_pure, Result.andThen_ok, List.map_toArray, List.map_cons, List.map_nil, hs, hx, hr]
  exact hK _ _ h
end
theorem pairVals_app (a b : List (List UInt8 × List UInt8)) : pairVals (a ++ b) = pairVals a ++ pairVals b := by simp [pairVals]
def callerP : List UInt8 × List UInt8 := ([99, 97, 108, 108, 101, 114], [])
/-- The users, with others in their spare room. -/
def lentS (us : List (List UInt8 × List UInt8)) : List (List UInt8 × List UInt8) := us ++ List.replicate 3 callerP
theorem pairVals_set : ∀ (l : List (List UInt8 × List UInt8)) (i : Nat) (p : List UInt8 × List UInt8), i < l.length → ((pairVals l).set (i * 2) (str p.1)).set (i * 2 + 1) (str p.2) = pairVals (l.set i p)
  | [], i, p, h => by simp at h
  | f :: l, 0, p, _ => by
    have e : pairVals (f :: l) = str f.1 :: str f.2 :: pairVals l := rfl
    rw [e]
    rfl
  | f :: l, i + 1, p, h => by
    have ih := pairVals_set l i p (by simpa using h)
    have e : ∀ l, pairVals (f :: l) = str f.1 :: str f.2 :: pairVals l := fun _ => rfl
    rw [e, List.set_cons_succ, e, ← ih, show (i + 1) * 2 = i * 2 + 1 + 1 by omega]
    rfl
theorem owned_block {w : World} {B g n : Nat} {e : TypeId} {xs : List Value} {size : Nat} (h : w.ownsRow B e size (.slice (some ⟨g, 0, none⟩) n n) n xs) : ∃ cur, w.heap[g]? = some (.cells cur e (0, 0)) ∧ cur.size = n * size ∧ cur.toList = xs ∧ B ≤ g ∧ n ≤ maxLen := by
  rcases h.2 with ⟨h2, _⟩ | ⟨g', cap', cur, hv, hb, hg, hn, hc, hs, ht⟩
  · cases h2
  · cases hv
    exact ⟨cur, hg, hs, by rw [← ht, List.take_of_length_le (by simp [hs])], hb, hc⟩
/-- What make lays. -/
theorem made_pairs (n : Nat) : (madeCells #[.string ⟨#[]⟩, .string ⟨#[]⟩] (n * 2)).toList = pairVals (List.replicate n ([], [])) := by
  apply List.ext_getElem?
  intro j
  by_cases hj : j < n * 2
  · have h1 : (madeCells #[.string ⟨#[]⟩, .string ⟨#[]⟩] (n * 2)).toList[j]? = some (Value.string ⟨#[]⟩) := by
      unfold madeCells
      simp [hj]
      rcases Nat.mod_two_eq_zero_or_one j with h | h <;> rw [h] <;> rfl
    rw [h1]
    obtain ⟨p1, p2⟩ := pairVals_get (List.replicate n (([], []) : List UInt8 × List UInt8)) (j / 2) ([], []) (by rw [List.getElem?_replicate, if_pos (by omega)])
    rcases Nat.mod_two_eq_zero_or_one j with h | h
    · rw [show j = j / 2 * 2 by omega]; exact p1.symm
    · rw [show j = j / 2 * 2 + 1 by omega]; exact p2.symm
  · rw [List.getElem?_eq_none (by simp [madeCells]; omega), List.getElem?_eq_none (by rw [pairVals_len]; simp; omega)]
def lentJ (us : List (List UInt8 × List UInt8)) (j : Nat) : List (List UInt8 × List UInt8) := us ++ List.replicate j callerP ++ List.replicate (3 - j) ([], [])
theorem lentJ_len (us : List (List UInt8 × List UInt8)) {j : Nat} (h : j ≤ 3) : (lentJ us j).length = us.length + 3 := by
  unfold lentJ; simp; omega
theorem lentJ_at (us : List (List UInt8 × List UInt8)) {j : Nat} (h : j < 3) : (lentJ us j)[us.length + j]? = some ([], []) := by
  unfold lentJ
  rw [List.getElem?_append_right (by simp), show us.length + j - (us ++ List.replicate j callerP).length = 0 by simp, List.getElem?_replicate, if_pos (by omega)]
theorem lentJ_step (us : List (List UInt8 × List UInt8)) {j : Nat} (h : j < 3) : (lentJ us j).set (us.length + j) callerP = lentJ us (j + 1) := by
  unfold lentJ
  rw [List.set_append_right _ _ (by simp), show us.length + j - (us ++ List.replicate j callerP).length = 0 by simp]
  rcases j with _ | _ | _ | j
  · simp [List.replicate]
  · simp [List.replicate]
  · simp [List.replicate]
  · omega

theorem users_news {w : World} {ub off ucap : Nat} {us : List (List UInt8 × List UInt8)} (huc : ∀ i u, us[i]? = some u → u.1.length ≤ 2097152 ∧ u.2.length ≤ 2097152 ∧ ∃ b o, (some ⟨ub, off, none⟩ : Option Addr) = some ⟨b, o, none⟩ ∧ w.cell? ⟨b, o + i * 2, none⟩ = some (str u.1) ∧ w.cell? ⟨b, o + i * 2 + 1, none⟩ = some (str u.2)) (_ : ucap = ucap) :
    ∀ j u, (pairVals us)[j]? = some u → w.cell? ((⟨ub, off, none⟩ : Addr).add j) = some u := fun j u hj => by
  have hlt := (List.getElem?_eq_some_iff.1 hj).1
  rw [pairVals_len] at hlt
  obtain ⟨f, hf⟩ : ∃ f, us[j / 2]? = some f := ⟨_, List.getElem?_eq_getElem (by omega)⟩
  obtain ⟨p1, p2⟩ := pairVals_get _ (j / 2) f hf
  obtain ⟨_, _, b2, o2, ha, c1, c2⟩ := huc (j / 2) f hf
  obtain ⟨rfl, rfl⟩ : ub = b2 ∧ off = o2 := by
    injection ha with e
    injection e with e1 e2 _
    exact ⟨e1, e2⟩
  rw [show (⟨ub, off, none⟩ : Addr).add j = ⟨ub, off + j, none⟩ from by simp [Addr.add]]
  rcases Nat.mod_two_eq_zero_or_one j with h0 | h0
  · have e : j = j / 2 * 2 := by omega
    rw [← e] at p1 c1
    rw [p1] at hj
    cases hj
    exact c1
  · have e : j = j / 2 * 2 + 1 := by omega
    have e2 : off + j / 2 * 2 + 1 = off + j := by omega
    rw [← e] at p2
    rw [e2] at c2
    rw [p2] at hj
    cases hj
    exact c2
theorem copy_users {w w1 : World} {uv : Value} {us : List (List UInt8 × List UInt8)} (hu : UsersAt w uv us) (hg : w.grownBy w1 none) (ho : w1.ownsRow w.heap.size 71 2 (.slice (some ⟨w.heap.size, 0, none⟩) (us.length + 3) (us.length + 3)) (us.length + 3) (pairVals (List.replicate (us.length + 3) ([], [])))) :
    ∃ w2, (Builtin.copy_ #[35, 35] 3 #[.slice (some ⟨w.heap.size, 0, none⟩) (us.length + 3) (us.length + 3), uv]).run Tryz.prog w1 = .ok (.int .i64 (us.length : Int)) w2 ∧ w2.ownsRow w.heap.size 71 2 (.slice (some ⟨w.heap.size, 0, none⟩) (us.length + 3) (us.length + 3)) (us.length + 3) (pairVals (lentJ us 0)) ∧ Q w w2 := by
  have hq : Q w w1 := Below.grown (Q.refl w) hg (Nat.le_refl _) (fun k hk => by cases hk)
  obtain ⟨ua, ucap, rfl, hul, huc⟩ := hu
  obtain ⟨cur, hb, hs, hl, _, hmx⟩ := owned_block ho
  rcases us with _ | ⟨u0, us'⟩
  · have hi : Tryz.prog.info? 71 = some Tryz.t71 := by kernel_rfl
    refine ⟨w1, ?_, ho, hq⟩
    cases ua with
    | none => simp [Builtin.copy_, run_underlying Tryz.underlying35, sizeOf, typeInfo, hi, Builtin.lenOf, Builtin.firstCells, storeCells, goInt]
    | some a => simp [Builtin.copy_, run_underlying Tryz.underlying35, sizeOf, typeInfo, hi, Builtin.lenOf, Builtin.firstCells, loadCells, loadCellsFrom, storeCells, goInt]
  · obtain ⟨_, _, ub, off, rfl, _, _⟩ := huc 0 u0 rfl
    have hnews := users_news (w := w) (ucap := ucap) huc rfl
    have hpl := pairVals_len (u0 :: us')
    have hr := run_copy_rowN (P := Tryz.prog) w1 35 35 3 71 w.heap.size 0 ((u0 :: us').length + 3) ((u0 :: us').length + 3) 2 ⟨ub, off, none⟩ (u0 :: us').length ucap cur 71 (pairVals (u0 :: us')) Tryz.underlying35 (by kernel_rfl) hb (by rw [hpl]; congr 1; exact (Nat.min_eq_left (by omega)).symm) (fun j v hj => by
      have := hnews j v hj
      rw [show (⟨ub, off, none⟩ : Addr).add j = ⟨ub, off + j, none⟩ from by simp [Addr.add]] at this ⊢
      exact hq.cell this) (by rw [hpl, hs]; omega) (pairVals_one _)
    have hmin : Nat.min (u0 :: us').length ((u0 :: us').length + 3) = (u0 :: us').length := Nat.min_eq_left (by omega)
    rw [hmin] at hr
    have hfin : cur.toList.take 0 ++ pairVals (u0 :: us') ++ cur.toList.drop (0 + (pairVals (u0 :: us')).length) = pairVals (lentJ (u0 :: us') 0) := by
      have e1 : List.replicate ((u0 :: us').length + 3) (([], []) : List UInt8 × List UInt8) = List.replicate (u0 :: us').length ([], []) ++ List.replicate 3 ([], []) := List.replicate_append_replicate.symm
      have e2 : (pairVals (u0 :: us')).length = (pairVals (List.replicate (u0 :: us').length (([], []) : List UInt8 × List UInt8))).length := by rw [pairVals_len, pairVals_len, List.length_replicate]
      rw [hl, e1, pairVals_app, Nat.zero_add, e2, List.drop_left, List.take_zero, List.nil_append]
      unfold lentJ
      rw [List.replicate_zero, List.append_nil, pairVals_app]
    rw [hfin] at hr
    refine ⟨_, hr, ⟨?_, .inr ⟨w.heap.size, _, _, rfl, Nat.le_refl _, setRow_heap w1 _ _ _ _ _ hb, Nat.le_refl _, hmx, ?_, ?_⟩⟩, below_setRow hq (Nat.le_refl _) _⟩
    · rw [pairVals_len, lentJ_len _ (by omega)]
    · rw [List.size_toArray, pairVals_len, lentJ_len _ (by omega)]
    · rw [List.take_of_length_le (by rw [pairVals_len, lentJ_len _ (by omega)]; exact Nat.le_refl _)]

set_option maxRecDepth 100000 in
set_option maxHeartbeats 1600000 in
theorem lent_any (uv : Value) (us : List (List UInt8 × List UInt8)) (w : World) (hu : UsersAt w uv us) :
    Calls Tryz.prog 65 #[uv] w fun e w' => ∃ g, e = .returned (.slice (some ⟨g, 0, none⟩) (us.length + 3) (us.length + 3)) ∧ w'.ownsRow w.heap.size 71 2 (.slice (some ⟨g, 0, none⟩) (us.length + 3) (us.length + 3)) (us.length + 3) (pairVals (lentS us)) ∧ Q w w' := by
  have HUs : Hid (UsersAt w uv us) := hu
  obtain ⟨ua, ucap, rfl, hul, _⟩ := hu
  obtain ⟨n, hn⟩ : ∃ n, n = us.length := ⟨_, rfl⟩
  have HN := show Hid _ from hn
  rw [← hn] at hul HUs ⊢
  clear hn
  have HCp : Hid (∀ w1, w1.ownsRow w.heap.size 71 2 (.slice (some ⟨w.heap.size, 0, none⟩) (n + 3) (n + 3)) (n + 3) (madeCells (Value.agg #[.string ⟨#[]⟩, .string ⟨#[]⟩]).cells ((n + 3) * 2)).toList → w.grownBy w1 none → ∃ w2, (Builtin.copy_ #[35, 35] 3 #[.slice (some ⟨w.heap.size, 0, none⟩) (n + 3) (n + 3), .slice ua n ucap]).run Tryz.prog w1 = .ok (.int .i64 (n : Int)) w2 ∧ w2.ownsRow w.heap.size 71 2 (.slice (some ⟨w.heap.size, 0, none⟩) (n + 3) (n + 3)) (n + 3) (pairVals (lentJ us 0)) ∧ Q w w2) := by
    intro w1 h1 h2
    have h1' : w1.ownsRow w.heap.size 71 2 (.slice (some ⟨w.heap.size, 0, none⟩) (n + 3) (n + 3)) (n + 3) (pairVals (List.replicate (n + 3) ([], []))) := by
      rw [← made_pairs]; exact h1
    rw [HN.out] at h1' ⊢
    rw [HN.out] at HUs
    exact copy_users HUs.out h2 h1'
  go_enter Tryz.func65, Tryz.ntmps65
  go_wp2_with (first | (at_make; refine wpList_make_full w rfl (.tmp 7) (.tmp 7) 35 rfl w.heap.size 71 Tryz.t71 (.agg #[.string ⟨#[]⟩, .string ⟨#[]⟩]) 2 Tryz.underlying35 (by kernel_rfl) (by kernel_rfl) (by kernel_rfl) .i64 .i64 ((n : Int) + 3) ((n : Int) + 3) (n + 3) rfl rfl (by simp) (by simp) (by show 32 * (n + 3) ≤ _; omega) (by unfold maxLen; omega) (Nat.le_refl _) ?_; intro w1 ho1 hg1; obtain ⟨w2, hr2, ho2, hq2⟩ := HCp.out w1 ho1 hg1) | (at_builtin; refine wpList_copy_runL rfl (.tmp 9) (.tmp 10) 35 35 rfl (.slice (some ⟨w.heap.size, 0, none⟩) (n + 3) (n + 3)) (.slice ua n ucap) (.int .i64 (n : Int)) w2 rfl rfl hr2 ?_))
  go_loopw [4] (fun i wr => ∃ j : Nat, j ≤ 3 ∧ i = .int .i64 ((n + j : Nat) : Int) ∧ Hid (wr.ownsRow w.heap.size 71 2 (.slice (some ⟨w.heap.size, 0, none⟩) (n + 3) (n + 3)) (n + 3) (pairVals (lentJ us j))) ∧ Hid (Q w wr)) (fun i _ => n + 3 - (intOf i).toNat)
  case atStart => exact ⟨0, by omega, by simp, ho2, hq2⟩
  case round =>
    obtain ⟨j, hj, rfl, hown, hq⟩ := hrel
    obtain ⟨i, hi⟩ : ∃ i, i = n + j := ⟨_, rfl⟩
    have HI := show Hid _ from hi
    have hi3 : i ≤ n + 3 := by omega
    rw [← hi]
    clear hi
    by_cases hlt : i < n + 3
    · have hj3 : j < 3 := by have := HI.out; omega
      have hget : (lentJ us j)[i]? = some ([], []) := by rw [HI.out, HN.out]; exact lentJ_at us hj3
      obtain ⟨p1, p2⟩ := pairVals_get (lentJ us j) i ([], []) hget
      have c0 : wr.cell? ⟨w.heap.size, i * 2, none⟩ = some (.string ⟨#[]⟩) := owned_at hown.out _ _ p1
      have c1 : wr.cell? ⟨w.heap.size, i * 2 + 1, none⟩ = some (.string ⟨#[]⟩) := owned_at hown.out _ _ p2
      have HNx : Hid (((wr.setCell ⟨w.heap.size, i * 2, none⟩ (.string ⟨#[99, 97, 108, 108, 101, 114]⟩)).setCell ⟨w.heap.size, i * 2 + 1, none⟩ (.string ⟨#[]⟩)).ownsRow w.heap.size 71 2 (.slice (some ⟨w.heap.size, 0, none⟩) (n + 3) (n + 3)) (n + 3) (pairVals (lentJ us (j + 1)))) := by
        have s2 := owned_set (owned_set hown.out (i * 2) (str callerP.1)) (i * 2 + 1) (str callerP.2)
        rw [pairVals_set (lentJ us j) i callerP (List.getElem?_eq_some_iff.1 hget).1] at s2
        have e : (lentJ us j).set i callerP = lentJ us (j + 1) := by rw [HI.out, HN.out]; exact lentJ_step us hj3
        rw [e] at s2
        exact s2
      clear p1 p2 hget
      have f0 := owned_fz hown.out (i * 2)
      have f1 := owned_fz hown.out (i * 2 + 1)
      go_wp2_with fail
      have hh : w.heap.size ≤ w.heap.size := Nat.le_refl _
      exact ⟨⟨j + 1, by omega, congrArg (Value.int IntKind.i64) (by have := HI.out; omega), HNx, (hq.out.setCell hh _).setCell hh _⟩, by simp [intOf]; omega⟩
    · go_wp2_with fail
      go_ret
      refine ⟨w.heap.size, rfl, ?_, hq.out⟩
      have hj3 : j = 3 := by have := HI.out; omega
      subst hj3
      have e : lentJ us 3 = lentS us := by unfold lentJ lentS; simp
      rw [← e]
      exact hown.out
end Go.Proofs.YtdmaffciijmdcaaGreatDoor
/-
  The laws' own helpers: kept.
-/
namespace Go.Proofs.YtdmaffciijmdcaaGreatDoor
open Go.RowKit Plain

def overP : List UInt8 × List UInt8 := ([111, 118, 101, 114], [])
def overJ (l : List (List UInt8 × List UInt8)) (k : Nat) : List (List UInt8 × List UInt8) := List.replicate k overP ++ l.drop k
theorem overJ_at {l : List (List UInt8 × List UInt8)} {k : Nat} {p : List UInt8 × List UInt8} (h : l[k]? = some p) : (overJ l k)[k]? = some p := by
  unfold overJ
  rw [List.getElem?_append_right (by simp)]
  simpa using h
theorem overJ_step {l : List (List UInt8 × List UInt8)} {k : Nat} (h : k < l.length) : (overJ l k).set k overP = overJ l (k + 1) := by
  unfold overJ
  rw [List.set_append_right _ _ (by simp), List.length_replicate, Nat.sub_self, ← List.getElem_cons_drop h, List.set_cons_zero, List.replicate_succ', List.append_assoc]
  rfl
theorem grown_set {w w' : World} {row : Option Nat} {g : Nat} (h : w.grownBy w' row) (hr : row = some g) (o : Nat) (u : Value) : w.grownBy (w'.setCell ⟨g, o, none⟩ u) row :=
  ⟨h.os, h.tape, h.output, by have := h.size; simp; omega, fun k hk hne => by
    rw [Below.heap_setCell _ _ _ _ (fun e => hne (by rw [hr, show k = g from e]))]
    exact h.block k hk hne⟩
theorem grown_Q {w w' w2 : World} {row : Option Nat} (h : w.grownBy w' row) (q : Q w' w2) : w.grownBy w2 row :=
  ⟨q.os.trans h.os, q.tape.trans h.tape, q.output.trans h.output, Nat.le_trans h.size q.size, fun k hk hne => (q.sameAt (Nat.lt_of_lt_of_le hk h.size)).trans (h.block k hk hne)⟩

set_option maxRecDepth 100000 in
set_option maxHeartbeats 1600000 in
theorem kept_any (B g : Nat) (us : List (List UInt8 × List UInt8)) (v : Value) (w : World) (hu : UsersAt w v us) (ho : w.ownsRow B 71 2 (.slice (some ⟨g, 0, none⟩) (us.length + 3) (us.length + 3)) (us.length + 3) (pairVals (lentS us))) :
    Calls Tryz.prog 67 #[.slice (some ⟨g, 0, none⟩) (us.length + 3) (us.length + 3), v] w fun e w' => e = .returned (.bool true) ∧ w.grownBy w' (some g) := by
  have HL := show Hid _ from lent_any v us w hu
  have hul : us.length ≤ 2097152 := by
    obtain ⟨_, _, _, h, _⟩ := hu
    exact h
  have hlen : (lentS us).length = us.length + 3 := by unfold lentS; simp
  obtain ⟨o, c, rfl⟩ : ∃ o c, v = .slice o us.length c := by
    obtain ⟨a, cap, h, _⟩ := hu
    exact ⟨a, cap, h⟩
  have hgl : g < w.heap.size := (owns_lt ho g rfl).2
  obtain ⟨n, hn⟩ : ∃ n, n = us.length + 3 := ⟨_, rfl⟩
  rw [← hn] at HL ho hlen ⊢
  have hnb : n ≤ 2097155 := by omega
  have HLen := show Hid _ from hlen
  have HO := show Hid _ from ho
  generalize lentS us = L at *
  clear hn hu ho hlen
  go_enter Tryz.func67, Tryz.ntmps67
  go_wp2_with fail
  refine Calls.mono (Hid.out HL) ?_
  rintro e w1 ⟨g2, rfl, how, hq1⟩
  have HW := show Hid _ from how
  have HO1 : Hid (w1.ownsRow B 71 2 (.slice (some ⟨g, 0, none⟩) n n) n (pairVals (overJ L 0))) := by
    show World.ownsRow _ _ _ _ _ _ _
    rw [show overJ L 0 = L by unfold overJ; simp]
    exact owns_Q HO.out hq1
  have hg2 := (owns_lt how g2 rfl)
  have HG1 : Hid (w.grownBy w1 (some g)) := ⟨hq1.os, hq1.tape, hq1.output, hq1.size, fun k hk _ => hq1.sameAt hk⟩
  clear HL how hq1
  go_wp2_with fail
  go_loopw [6, 7] (fun okv i wr => ∃ k : Nat, k ≤ n ∧ i = .int .i64 (k : Int) ∧ okv = .bool true ∧ Hid (wr.ownsRow B 71 2 (.slice (some ⟨g, 0, none⟩) n n) n (pairVals (overJ L k))) ∧ Hid (wr.ownsRow w.heap.size 71 2 (.slice (some ⟨g2, 0, none⟩) n n) n (pairVals L)) ∧ Hid (w.grownBy wr (some g))) (fun _ i _ => n - (intOf i).toNat)
  case atStart => exact ⟨0, Nat.zero_le _, rfl, rfl, HO1.out, HW.out, HG1.out⟩
  case round =>
    obtain ⟨k, hk, rfl, rfl, ho, hw, hgr⟩ := hrel
    by_cases hlt : k < n
    · obtain ⟨p, hp⟩ : ∃ p, L[k]? = some p := ⟨_, List.getElem?_eq_getElem (by rw [HLen.out]; exact hlt)⟩
      obtain ⟨a1, a2⟩ := pairVals_get (overJ L k) k p (overJ_at hp)
      obtain ⟨b1, b2⟩ := pairVals_get L k p hp
      have c0 := owned_at ho.out _ _ a1
      have c1 := owned_at ho.out _ _ a2
      have e0 := owned_at hw.out _ _ b1
      have e1 := owned_at hw.out _ _ b2
      have f0 := owned_fz ho.out (k * 2)
      have f1 := owned_fz ho.out (k * 2 + 1)
      have HNx : Hid (∀ q : Nat, (((wr.drewN q).setCell ⟨g, k * 2, none⟩ (.string ⟨#[111, 118, 101, 114]⟩)).setCell ⟨g, k * 2 + 1, none⟩ (.string ⟨#[]⟩)).ownsRow B 71 2 (.slice (some ⟨g, 0, none⟩) n n) n (pairVals (overJ L (k + 1)))) := fun q => by
        have s2 := owned_set (owned_set (owns_Q ho.out ((Q.refl wr).drews q)) (k * 2) (str overP.1)) (k * 2 + 1) (str overP.2)
        have hlt2 : k < (overJ L k).length := (List.getElem?_eq_some_iff.1 (overJ_at hp)).1
        rw [pairVals_set (overJ L k) k overP hlt2, overJ_step (by rw [HLen.out]; exact hlt)] at s2
        exact s2
      unfold str at c0 c1 e0 e1
      clear a1 a2 b1 b2 hp
      obtain ⟨p1, p2⟩ := p
      go_wp2_with fail
      go_quiet (fail)
      go_wp2_with fail
      have hne : g2 ≠ g := by omega
      refine ⟨⟨k + 1, by omega, by go_num, rfl, HNx.out _, ?_, grown_set (grown_set (grown_Q hgr.out ((Q.refl wr).drews _)) rfl _ _) rfl _ _⟩, by simp [intOf]; omega⟩
      exact owns_same (owns_Q hw.out ((Q.refl wr).drews _)) fun b hb => by
        have e : g2 = b := by simpa [Value.ownBlock] using hb
        exact SameAt.trans' (set_same_at (by omega)) (set_same_at (by omega))
    · go_wp2_with fail
      go_ret
      exact ⟨rfl, hgr.out⟩
end Go.Proofs.YtdmaffciijmdcaaGreatDoor
/-
  The laws' own helpers: still.
-/
namespace Go.Proofs.YtdmaffciijmdcaaGreatDoor
open Go.RowKit Plain

/-- The mark of the j-th list that came out. -/
def markS (j : Nat) : EvS := ⟨-1000 - (j : Int), 0, [], 0⟩
/-- A list that reads as marks. -/
def MarkAt (w : World) (v : Value) (j : Nat) : Prop :=
  ∃ o n cap, v = .slice o n cap ∧ n ≤ 1000 ∧ ∀ k, k < n → ∃ g, o = some ⟨g, 0, none⟩ ∧ ∀ q u, q < 4 → (evOf (markS j))[q]? = some u → w.cell? ⟨g, k * 4 + q, none⟩ = some u
/-- The book of lists, read. -/
def BookAt (w : World) (wb : Nat) (vals : List Value) : Prop :=
  ∃ o cap, w.cell? ⟨wb, 2, none⟩ = some (.slice o vals.length cap) ∧ vals.length ≤ 8000000 ∧ ∀ i v, vals[i]? = some v → MarkAt w v (i / 4) ∧ ∃ g, o = some ⟨g, 0, none⟩ ∧ w.cell? ⟨g, i, none⟩ = some v

set_option maxRecDepth 100000 in
set_option maxHeartbeats 1600000 in
theorem still_any (wb : Nat) (vals : List Value) (w : World) (h : BookAt w wb vals) :
    Calls Tryz.prog 37 #[ptr wb] w fun e w' => e = .returned (.bool true) ∧ Q w w' := by
  obtain ⟨ho, hc, h1, hnl, h2⟩ := h
  have HV := show Hid _ from h2
  obtain ⟨n, hn⟩ : ∃ n, n = vals.length := ⟨_, rfl⟩
  have HN := show Hid _ from hn
  rw [← hn] at h1 hnl
  clear h2 hn
  have hwb := Q.lt h1
  go_enter Tryz.func37, Tryz.ntmps37
  go_wp2_with fail
  go_loopw [3, 4] (fun i _ wr => ∃ k : Nat, k ≤ n ∧ i = .int .i64 (k : Int) ∧ wr = w) (fun i _ _ => n - (intOf i).toNat)
  case atStart => exact ⟨0, Nat.zero_le _, rfl, rfl⟩
  case round =>
    obtain ⟨k, hk, rfl, hwr⟩ := hrel
    rw [hwr]
    clear hwr
    by_cases hlt : k < n
    · obtain ⟨v, hv⟩ : ∃ v, vals[k]? = some v := ⟨_, List.getElem?_eq_getElem (by rw [← HN.out]; exact hlt)⟩
      obtain ⟨⟨lo, ln, lc, rfl, hln, hm⟩, hg, rfl, hcell⟩ := HV.out k v hv
      have HM := show Hid _ from hm
      clear hm hv
      obtain ⟨q4, hq4⟩ : ∃ q, q = k / 4 := ⟨_, rfl⟩
      rw [← hq4] at HM
      have e1 : (k : Int).tdiv 4 = (q4 : Int) := by rw [Int.tdiv_eq_ediv_of_nonneg (by omega)]; omega
      have e2 : (k : Int) / 4 = (q4 : Int) := by omega
      have hqb : q4 ≤ 8000000 := by omega
      clear hq4
      go_wp2_with fail
      go_loopw [4] (fun i wr => ∃ j : Nat, j ≤ ln ∧ i = .int .i64 (j : Int) ∧ wr = w) (fun i _ => ln - (intOf i).toNat)
      case atStart => exact ⟨0, Nat.zero_le _, rfl, rfl⟩
      case round =>
        obtain ⟨j, hj, rfl, hwr⟩ := hrel
        rw [hwr]
        clear hwr
        by_cases hjl : j < ln
        · obtain ⟨gl, rfl, hc4⟩ := HM.out j hjl
          have c0 : w.cell? ⟨gl, j * 4, none⟩ = some (.int .i64 (-1000 - (q4 : Int))) := hc4 0 _ (by decide) rfl
          have c1 : w.cell? ⟨gl, j * 4 + 1, none⟩ = some (.int .i64 0) := hc4 1 _ (by decide) rfl
          have c2 : w.cell? ⟨gl, j * 4 + 2, none⟩ = some (.string ⟨#[]⟩) := hc4 2 _ (by decide) rfl
          have c3 : w.cell? ⟨gl, j * 4 + 3, none⟩ = some (.int .i64 0) := hc4 3 _ (by decide) rfl
          clear hc4
          go_wp2_with fail
          exact ⟨⟨j + 1, by omega, by go_num, by trivial⟩, by simp [intOf]; omega⟩
        · go_wp2_with fail
          exact ⟨⟨k + 1, by omega, by go_num, by trivial⟩, by simp [intOf]; omega⟩
    · go_wp2_with fail
      go_ret
      exact ⟨rfl, Q.refl w⟩
end Go.Proofs.YtdmaffciijmdcaaGreatDoor
/-
  The laws' own helpers: a list of marks that grows while others still read.
-/
namespace Go.Proofs.YtdmaffciijmdcaaGreatDoor
open Go.RowKit Plain

def marks (n : Nat) (e : EvS) : List Value := evVals (List.replicate n e)
theorem marks_len (n : Nat) (e : EvS) : (marks n e).length = n * 4 := by unfold marks; rw [evVals_len, List.length_replicate]
theorem marks_app (n m : Nat) (e : EvS) : marks n e ++ marks m e = marks (n + m) e := by unfold marks; rw [← evVals_append, List.replicate_append_replicate]
theorem marks_get (n : Nat) (e : EvS) (p : Nat) (hp : p < n * 4) : (marks n e)[p]? = (evOf e)[p % 4]? := by
  have h : (List.replicate n e)[p / 4]? = some e := by rw [List.getElem?_replicate, if_pos (by omega)]
  have := evVals_get (List.replicate n e) (p / 4) e (p % 4) h (by omega)
  rw [show p / 4 * 4 + p % 4 = p by omega] at this
  exact this
/-- Each old cell is as it was, or holds what a mark has there. -/
def Marked (e : EvS) (w w' : World) : Prop := ∀ b p, b < w.heap.size → w'.cell? ⟨b, p, none⟩ = w.cell? ⟨b, p, none⟩ ∨ w'.cell? ⟨b, p, none⟩ = (evOf e)[p % 4]?
theorem Marked.ofQ {e : EvS} {w w' : World} (q : Q w w') : Marked e w w' := fun b p hb => .inl (q.cells.1 b p hb)
theorem Marked.trans {e : EvS} {w w1 w2 : World} (h : Marked e w w1) (hz : w.heap.size ≤ w1.heap.size) (k : Marked e w1 w2) : Marked e w w2 := fun b p hb => by
  rcases k b p (Nat.lt_of_lt_of_le hb hz) with h1 | h1
  · rw [h1]; exact h b p hb
  · exact .inr h1
theorem MarkAt.marked {j : Nat} {w w' : World} {v : Value} (h : MarkAt w v j) (m : Marked (markS j) w w') : MarkAt w' v j := by
  obtain ⟨o, n, cap, h1, h2, h3⟩ := h
  refine ⟨o, n, cap, h1, h2, fun k hk => ?_⟩
  obtain ⟨g, h4, h5⟩ := h3 k hk
  refine ⟨g, h4, fun q u hq hu => ?_⟩
  have hc := h5 q u hq hu
  rcases m g (k * 4 + q) (Q.lt hc) with h6 | h6
  · rw [h6]; exact hc
  · rw [h6, show (k * 4 + q) % 4 = q by omega]; exact hu
theorem MarkAt.own {w : World} {B : Nat} {v : Value} {n j : Nat} (h : w.ownsRow B 48 4 v n (marks n (markS j))) (hn : n ≤ 1000) : MarkAt w v j := by
  obtain ⟨o, c, rfl⟩ := slice_form h
  refine ⟨o, n, c, rfl, hn, fun k hk => ?_⟩
  obtain ⟨g, cap, e1, _, _⟩ := owned_form h (by omega)
  injection e1 with e1 _ e3
  subst e1
  refine ⟨g, rfl, fun q u hq hu => ?_⟩
  refine owned_at h _ u ?_
  rw [marks_get _ _ _ (by omega), show (k * 4 + q) % 4 = q by omega]
  exact hu

set_option maxRecDepth 100000 in
/-- Marks are put behind marks: the old list still stands. -/
theorem append_marks (w : World) (B : Nat) (v : Value) (n m : Nat) (e : EvS) (ad : Addr) (c : Nat) (hown : w.ownsRow B 48 4 v n (marks n e)) (hnews : ∀ j u, (marks m e)[j]? = some u → w.cell? (ad.add j) = some u) (hm : 0 < m) (hb : n + m ≤ 1000000) (hB : B ≤ w.heap.size) :
    ∃ vo vc w', (Builtin.append_ #[41, 41] 41 #[v, .slice (some ad) m c]).run Tryz.prog w = .ok (.slice vo (n + m) vc) w' ∧ w'.ownsRow B 48 4 (.slice vo (n + m) vc) (n + m) (marks (n + m) e) ∧ w'.ownsRow B 48 4 v n (marks n e) ∧ w.grownBy w' v.ownBlock ∧ ((Value.slice vo (n + m) vc).ownBlock = v.ownBlock ∨ (Value.slice vo (n + m) vc).ownBlock = some w.heap.size) ∧ Marked e w w' := by
  have hone : ∀ u ∈ marks m e, u.oneCell' = true := evVals_oneCell _
  obtain ⟨v', w', hr, ho, hg, _, hat⟩ := run_append_own_at (P := Tryz.prog) w B 41 41 48 Tryz.t48 (.agg #[.int .i64 0, .int .i64 0, .string ⟨#[]⟩, .int .i64 0]) 4 40 Tryz.underlying41 (by kernel_rfl) (by kernel_rfl) (by kernel_rfl) (by kernel_rfl) rfl (by decide) v n (marks n e) hown ad m c (marks m e) (marks_len m e) hnews hone (by unfold maxLen; omega) (by omega) hB
  rw [marks_app] at ho
  obtain ⟨vo, vc, rfl⟩ := slice_form ho
  refine ⟨vo, vc, w', hr, ho, ?_⟩
  have hold := owns_lt hown
  have whole : (∀ k, k < w.heap.size → SameAt w w' k) → w'.ownsRow B 48 4 v n (marks n e) ∧ w.grownBy w' v.ownBlock ∧ ((Value.slice vo (n + m) vc).ownBlock = v.ownBlock ∨ (Value.slice vo (n + m) vc).ownBlock = some w.heap.size) ∧ Marked e w w' := fun hs =>
    ⟨owns_same hown fun k hk => hs k (hold k hk).2, hg, hat, fun b p hb2 => .inl ((hs b hb2).cell p)⟩
  rcases hown.2 with ⟨rfl, rfl⟩ | ⟨g, cap, cur, rfl, hbg, hgb, hnc, hcm, hcs, htake⟩
  · exact whole fun k hk => hg.block k hk (by intro e; cases e)
  · by_cases hroom : n + m ≤ cap
    · have hfit : n * 4 + (marks m e).length ≤ cur.size := by rw [marks_len, hcs]; omega
      have hr2 := run_append_room (P := Tryz.prog) w 41 41 48 Tryz.t48 Tryz.underlying41 (by kernel_rfl) g n cap cur hgb ad m c (marks m e) (marks_len m e) hnews hone hroom hfit
      rw [hr] at hr2
      injection hr2 with e1 e2
      have hcap : vc = cap := by injection e1
      have hvo : vo = some ⟨g, 0, none⟩ := by injection e1
      subst hcap
      subst hvo
      rcases ho.2 with ⟨h1, _⟩ | ⟨g', cap', cur', h1, _, hgb', _, _, hcs', htake'⟩
      · cases h1
      cases h1
      refine ⟨⟨marks_len n e, .inr ⟨g, vc, cur', rfl, hbg, hgb', hnc, hcm, hcs', ?_⟩⟩, hg, hat, fun b p hb2 => ?_⟩
      · have := congrArg (List.take (n * 4)) htake'
        rw [List.take_take, Nat.min_eq_left (by omega)] at this
        rw [this, ← marks_app, List.take_left' (marks_len n e)]
      · by_cases hbg2 : b = g
        · subst hbg2
          have hc' : w'.cell? ⟨b, p, none⟩ = cur'[p]? := cell_of_row w' b p cur' _ _ hgb'
          have hc0 : w.cell? ⟨b, p, none⟩ = cur[p]? := cell_of_row w b p cur _ _ hgb
          by_cases hp : p < (n + m) * 4
          · right
            have h2 : (cur'.toList.take ((n + m) * 4))[p]? = (marks (n + m) e)[p]? := by rw [htake']
            rw [List.getElem?_take_of_lt hp, marks_get _ _ _ hp] at h2
            rw [hc']
            simpa using h2
          · left
            rw [hc', hc0]
            have h3 : w'.heap[b]? = some (.cells (cur.toList.take (n * 4) ++ marks m e ++ cur.toList.drop (n * 4 + (marks m e).length)).toArray 48 (0, 0)) := by
              rw [e2]
              exact setRow_heap w b cur _ 48 _ hgb
            rw [hgb'] at h3
            injection h3 with h3
            injection h3 with h3 _ _
            rw [h3, List.getElem?_toArray]
            have hl1 : (cur.toList.take (n * 4) ++ marks m e).length = n * 4 + m * 4 := by rw [List.length_append, List.length_take, marks_len, Array.length_toList]; omega
            rw [List.getElem?_append_right (by omega), hl1, List.getElem?_drop, marks_len, show n * 4 + m * 4 + (p - (n * 4 + m * 4)) = p by omega, Array.getElem?_toList]
        · left
          exact SameAt.cell (show SameAt w w' b from hg.block b hb2 (by intro e; exact hbg2 (by simpa [Value.ownBlock] using e))) p
    · refine whole fun k hk => ?_
      have holds : ∀ j u, (marks n e)[j]? = some u → w.cell? ((⟨g, 0, none⟩ : Addr).add j) = some u := hown.cells (g := g) rfl
      have hr2 := run_append_grow (P := Tryz.prog) w 41 41 48 Tryz.t48 (.agg #[.int .i64 0, .int .i64 0, .string ⟨#[]⟩, .int .i64 0]) Tryz.underlying41 (by kernel_rfl) (by kernel_rfl) ⟨g, 0, none⟩ n cap (marks n e) (marks_len n e) holds ad m c (marks m e) (marks_len m e) hnews (by omega) (by omega) (growslice_fits (by omega) (by show (n + m) * 40 ≤ _; omega))
      rw [hr] at hr2
      injection hr2 with _ e2
      rw [e2]
      exact heap_alloc_old w.drew _ hk
end Go.Proofs.YtdmaffciijmdcaaGreatDoor

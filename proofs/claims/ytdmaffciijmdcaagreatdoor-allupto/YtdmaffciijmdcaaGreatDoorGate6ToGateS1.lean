/-
  Package turnpike: drop.
-/
import Derived.Test.YtdmaffciijmdcaaGreatDoorGate3ToGate5
import Derived.Shelf.SlicesE.DeleteFunc
import Derived.Lib.SliceRun
import Derived.LaidEqlPtr
import Derived.Test.YtdmaffciijmdcaaGreatDoorJudgeToGate2
namespace Go.Proofs.YtdmaffciijmdcaaGreatDoor
open Go.RowKit Plain Go.Shelf Go.Lib Go.Sort

section
variable {α : Type} [Inhabited α] (enc : α → Value)
theorem heap_put (w : World) (g q : Nat) (d : Array α) {cur : Array Value} {e : TypeId} (hg : w.heap[g]? = some (.cells cur e (0, 0))) : (putRow enc (Sort.ahead w q) g 0 d).heap[g]? = some (.cells (putCells enc 0 d cur) e (0, 0)) := by
  simp [putRow, mapBlock, Array.getElem?_modify, hg, onCells]
theorem heap_put_other (w : World) (g q k : Nat) (d : Array α) (h : k ≠ g) : (putRow enc (Sort.ahead w q) g 0 d).heap[k]? = w.heap[k]? := by
  simp [putRow, mapBlock, Array.getElem?_modify, Ne.symm h]
theorem own_put {w : World} {B g q cap : Nat} {e : TypeId} {cur : Array Value} (hg : w.heap[g]? = some (.cells cur e (0, 0))) (hB : B ≤ g) (hc : cur.size = cap * 1) (hm : cap ≤ maxLen) (l z : List α) (hl : l.length + z.length ≤ cap) :
    (putRow enc (Sort.ahead w q) g 0 (l ++ z).toArray).ownsRow B e 1 (.slice (some ⟨g, 0, none⟩) l.length cap) l.length (l.map enc) := by
  refine ⟨by simp, .inr ⟨g, cap, _, rfl, hB, heap_put enc w g q _ hg, by omega, hm, by simp [putCells, hc], ?_⟩⟩
  apply List.ext_getElem?
  intro j
  rw [List.getElem?_take]
  by_cases hj : j < l.length
  · rw [if_pos (by omega), Array.getElem?_toList]
    simp only [putCells, Array.getElem?_mapIdx]
    have h1 : j < cur.size := by omega
    rw [Array.getElem?_eq_getElem h1]
    simp only [Option.map_some, Nat.zero_le, true_and, Nat.zero_add, Nat.sub_zero]
    rw [if_pos (by simp; omega)]
    have h2 : (l ++ z).toArray[j]! = l[j] := by
      rw [getElem!_pos _ j (by simp; omega)]
      simp [List.getElem_append_left, hj]
    rw [h2, List.getElem?_map, List.getElem?_eq_getElem hj]
    rfl
  · rw [if_neg (by omega), List.getElem?_map, List.getElem?_eq_none (by omega)]
    rfl
end

/-- A row's places. -/
def encI (cbs : List Nat) : Option (Fin cbs.length) → Value
  | none => .pointer none
  | some i => ptr cbs[i]
def goneI (cbs : List Nat) (cb : Nat) : Option (Fin cbs.length) → Bool
  | none => false
  | some i => decide (cbs[i] = cb)
def places (cbs : List Nat) : List (Option (Fin cbs.length)) := (List.finRange cbs.length).map some
theorem places_len (cbs : List Nat) : (places cbs).length = cbs.length := by simp [places]
theorem places_get (cbs : List Nat) (j : Nat) (hj : j < cbs.length) : (places cbs).toArray[j]! = some ⟨j, hj⟩ := by
  rw [getElem!_pos _ j (by simp [places_len, hj])]
  simp [places]
theorem range_get (cbs : List Nat) : (List.finRange cbs.length).map (fun i => cbs[i]) = cbs := by
  apply List.ext_getElem
  · simp
  · intro n h1 h2
    simp
theorem places_left (cbs : List Nat) (cb : Nat) : ((places cbs).filter fun x => !goneI cbs cb x).map (encI cbs) = (cbs.filter fun b => b != cb).map ptr := by
  unfold places
  rw [List.filter_map, List.map_map]
  conv => rhs; rw [← range_get cbs, List.filter_map, List.map_map]
  congr 1
theorem places_left_len (cbs : List Nat) (cb : Nat) : ((places cbs).filter fun x => !goneI cbs cb x).length = (cbs.filter fun b => b != cb).length := by
  have := congrArg List.length (places_left cbs cb)
  simpa using this

theorem Conns.filter {r : Rl} {B : Nat} {w : World} {cb n : Nat} : ∀ {cbs : List Nat} {cs : List ConnS}, Conns r B w cbs cs → (∀ (j b : Nat) (d : ConnS), cbs[j]? = some b → cs[j]? = some d → (b = cb ↔ d.num = n)) → Conns r B w (cbs.filter fun b => b != cb) (cs.filter fun d => d.num != n)
  | [], [], _, _ => trivial
  | b :: cbs, d :: cs, h, hs => by
    have h0 := hs 0 b d rfl rfl
    have ih := h.2.filter (cb := cb) (n := n) fun j b' d' hb hd => hs (j + 1) b' d' (by simpa using hb) (by simpa using hd)
    rw [List.filter_cons, List.filter_cons]
    by_cases hb : b = cb
    · rw [if_neg (by simp [hb]), if_neg (by simp [h0.1 hb])]
      exact ih
    · rw [if_pos (by simp [hb]), if_pos (by simp; exact fun e => hb (h0.2 e))]
      exact ⟨h.1, ih⟩
  | [], _ :: _, h, _ => h.elim
  | _ :: _, [], h, _ => h.elim

/-- Where a gateway's connections lie. -/
def PtrsAt (B : Nat) (w : World) (gb : Nat) (cbs : List Nat) : Prop := ∃ cv, w.cell? ⟨gb, 4, none⟩ = some cv ∧ w.ownsRow B 95 1 cv cbs.length (cbs.map ptr)
theorem ptr_inj : ∀ {a b : List Nat}, a.map ptr = b.map ptr → a = b
  | [], [], _ => rfl
  | x :: a, y :: b, h => by
    simp only [List.map_cons, List.cons.injEq] at h
    have h1 : x = y := by
      have := h.1
      injection this with e
      injection e with e
      injection e with e1 e2
    rw [h1, ptr_inj h.2]
  | [], _ :: _, h => by simp at h
  | _ :: _, [], h => by simp at h
theorem PtrsAt.uniq {B B' : Nat} {w : World} {gb : Nat} {a b : List Nat} (h : PtrsAt B w gb a) (k : PtrsAt B' w gb b) : a = b := by
  obtain ⟨v, h1, h2⟩ := h
  obtain ⟨u, k1, k2⟩ := k
  rw [h1] at k1
  cases k1
  rcases h2.2 with ⟨e, hn⟩ | ⟨g, cap, cur, e, _, hg, _, _, _, ht⟩ <;> rcases k2.2 with ⟨e', hn'⟩ | ⟨g', cap', cur', e', _, hg', _, _, _, ht'⟩
  · rw [List.eq_nil_of_length_eq_zero hn, List.eq_nil_of_length_eq_zero hn']
  · rw [e] at e'; cases e'
  · rw [e] at e'; cases e'
  · rw [e] at e'
    injection e' with e1 e2 e3
    injection e1 with e1
    injection e1 with e1
    subst e1
    rw [hg] at hg'
    cases hg'
    rw [e2] at ht
    rw [ht] at ht'
    exact ptr_inj ht'

set_option maxRecDepth 100000 in
theorem drop1_any (cbs : List Nat) (cb K : Nat) (x : Option (Fin cbs.length)) (W : World) (hc : W.cell? ⟨K, 0, none⟩ = some (ptr cb)) (ho : ∀ b, b = cb ∨ b ∈ cbs → ∃ cs t, W.heap[b]? = some (.cells cs t (0, 0))) :
    FnGives Tryz.prog 137 #[.pointer (some ⟨K, 0, none⟩)] #[encI cbs x] (.bool (goneI cbs cb x)) W := by
  show Calls Tryz.prog 137 #[encI cbs x, .pointer (some ⟨K, 0, none⟩)] W _
  have heq : (binOp .eql 95 (encI cbs x) (.pointer (some ⟨cb, 0, none⟩))).run Tryz.prog W = .ok (.bool (goneI cbs cb x)) W := by
    cases x with
    | none =>
      have hn : ∀ d : Nat, (Op.equalIn (d + 1) 95 (.pointer none) (.pointer (some ⟨cb, 0, none⟩))).run Tryz.prog W = .ok false W := fun d => by
        simp [Op.equalIn, run_underlying Tryz.underlying95]
      unfold encI goneI
      simp only [binOp]
      simp [Op.equal, Op.maxDepth, hn 9999]
    | some i =>
      show (binOp .eql 95 (.pointer (some ⟨cbs[i], 0, none⟩)) (.pointer (some ⟨cb, 0, none⟩))).run Tryz.prog W = .ok (.bool (decide (cbs[i] = cb))) W
      by_cases hb : cbs[i] = cb
      · rw [decide_eq_true hb, hb]
        exact run_eql_ptr_same W (te := 101) (j := Tryz.t101) ⟨cb, 0, none⟩ Tryz.underlying95 (by kernel_rfl)
      · rw [decide_eq_false hb]
        obtain ⟨ca, ta, ha⟩ := ho cbs[i] (.inr (by simp))
        obtain ⟨cc, tc, hcc⟩ := ho cb (.inl rfl)
        exact run_eql_ptr_other W (te := 101) (j := Tryz.t101) Tryz.underlying95 (by kernel_rfl) (by decide) (fun e => by injection e with e1; exact hb e1) ha hcc
  have hc' : W.cell? ⟨K, 0, none⟩ = some (.pointer (some ⟨cb, 0, none⟩)) := hc
  clear hc
  obtain ⟨p, hp⟩ : ∃ p, encI cbs x = .pointer p := by cases x <;> exact ⟨_, rfl⟩
  rw [hp] at heq ⊢
  clear hp
  generalize goneI cbs cb x = d at *
  go_enter Tryz.func137, Tryz.ntmps137
  go_wp2_with fail
  go_ret
  exact ⟨rfl, 0, rfl⟩

set_option maxRecDepth 100000 in
set_option maxHeartbeats 1600000 in
theorem drop_any {r : Rl} {B : Nat} {w : World} {gb : Nat} {g : GateS} {i cb : Nat} {c : ConnS} (h : AtConn r B w gb g i cb c) :
    Calls Tryz.prog 97 #[ptr gb, ptr cb] w fun e w' => e = .returned (.tuple #[]) ∧ GwStep r B w gb r w' (g.drop c.num) ∧ SameAt w w' cb ∧ ∃ cbs, PtrsAt B w gb cbs ∧ PtrsAt B w' gb (cbs.filter fun b => b != cb) := by
  have hmf : ∀ (fn : Fn) (first cap : Array Value) (w : World), (Instr.makeFunc fn first cap).run Tryz.prog w = .ok (.func fn first cap) w := fun _ _ _ _ => rfl
  obtain ⟨cv, cbs, x1, x2, x3, x4, x5⟩ := h.con
  have hrole := h.conn.role
  have hcbl : cb < w.heap.size := h.rep.lt cb (by rw [hrole]; simp)
  have hgbl : gb < w.heap.size := Q.lt x1
  have hiff : ∀ (j b : Nat) (d : ConnS), cbs[j]? = some b → g.conns[j]? = some d → (b = cb ↔ d.num = c.num) := fun j b d hb hd => by
    obtain ⟨b', hb', hrep⟩ := x4.get j d hd
    rw [hb] at hb'
    cases hb'
    constructor
    · intro e
      have := hrep.role
      rw [e, hrole] at this
      injection this with e1
      injection e1 with e2
      exact e2.symm
    · intro e
      have hji := h.ok.nums j i d c hd h.hi e
      rw [hji, x5] at hb
      exact (Option.some.inj hb).symm
  rcases x2.2 with ⟨hv, hn⟩ | ⟨gr, cap, cur, rfl, hbg, hg, hnc, hcm, hcs, htake⟩
  · have := List.eq_nil_of_length_eq_zero hn
    subst this
    simp at x5
  have hrr := x3 gr rfl
  have hgrl : gr < w.heap.size := h.rep.lt gr (by rw [hrr]; simp)
  have hgg : gr ≠ gb := fun e => by rw [e, h.rep.role] at hrr; cases hrr
  have hgc : gr ≠ cb := fun e => by rw [e, hrole] at hrr; cases hrr
  have hcbg : cb ≠ gb := fun e => by rw [e, h.rep.role] at hrole; cases hrole
  -- the library's contract
  obtain ⟨W0, hW0⟩ : ∃ W, W = w.alloc (.cells #[ptr cb] 95) := ⟨_, rfl⟩
  have hq0 : Q w W0 := by rw [hW0]; exact (Q.refl _).alloc _
  have hg0 : W0.heap[gr]? = some (.cells cur 95 (0, 0)) := by rw [Below.block hq0 gr hgrl]; exact hg
  have hK : W0.cell? ⟨w.heap.size, 0, none⟩ = some (ptr cb) := by rw [hW0]; simp [go_sem]
  have hobj : ∀ b, b = cb ∨ b ∈ cbs → ∃ cs t, w.heap[b]? = some (.cells cs t (0, 0)) := fun b hb => by
    have hb' : b ∈ cbs := by
      rcases hb with rfl | hb
      · exact List.mem_of_getElem? x5
      · exact hb
    obtain ⟨j, hj⟩ := List.getElem?_of_mem hb'
    have hjl : j < g.conns.length := by rw [← x4.len]; exact (List.getElem?_eq_some_iff.1 hj).1
    obtain ⟨b2, hb2, hrep⟩ := x4.get j _ (List.getElem?_eq_getElem hjl)
    rw [hj] at hb2
    cases hb2
    exact hrep.obj
  have hobl : ∀ b, b = cb ∨ b ∈ cbs → b ≠ gr := fun b hb e => by
    have hb' : b ∈ cbs := by
      rcases hb with rfl | hb
      · exact List.mem_of_getElem? x5
      · exact hb
    obtain ⟨j, hj⟩ := List.getElem?_of_mem hb'
    have hjl : j < g.conns.length := by rw [← x4.len]; exact (List.getElem?_eq_some_iff.1 hj).1
    obtain ⟨b2, hb2, hrep⟩ := x4.get j _ (List.getElem?_eq_getElem hjl)
    rw [hj] at hb2
    cases hb2
    have := hrep.role
    rw [e, hrr] at this
    cases this
  have hobj0 : ∀ W : World, (∀ b, b < W0.heap.size → b ≠ gr → W.heap[b]? = W0.heap[b]?) → ∀ b, b = cb ∨ b ∈ cbs → ∃ cs t, W.heap[b]? = some (.cells cs t (0, 0)) := fun W hW b hb => by
    obtain ⟨cs, t, ho⟩ := hobj b hb
    have hbl : b < w.heap.size := (Array.getElem?_eq_some_iff.1 ho).1
    exact ⟨cs, t, by rw [hW b (Nat.lt_of_lt_of_le hbl hq0.size) (hobl b hb), Below.block hq0 b hbl]; exact ho⟩
  have hcell : ∀ j, j < cbs.length → W0.cell? ⟨gr, 0 + j, none⟩ = some (encI cbs ((places cbs).toArray[j]!)) := fun j hj => by
    rw [Nat.zero_add, cell_of_row W0 gr j cur 95 (0, 0) hg0, places_get cbs j hj]
    have h1 : (cur.toList.take (cbs.length * 1))[j]? = some (ptr cbs[j]) := by
      rw [htake, List.getElem?_map, List.getElem?_eq_getElem hj]; rfl
    rw [List.getElem?_take, if_pos (by omega)] at h1
    simpa [encI] using h1
  have hH : Holds (encI cbs) W0 gr 0 (places cbs).toArray := fun j hj => ⟨hcell j (by simpa [places_len] using hj), by
    have : W0.heap[gr]? = some (.cells cur 95 (0, 0)) := hg0
    simp [World.frozen?, this]⟩
  have eg : ∀ args w, (callFunc 137 args).run Tryz.prog w = .ok (.enter 137 args) w := enters_of Tryz.func137 (by kernel_rfl) rfl
  have hKl : w.heap.size < W0.heap.size := by rw [hW0]; simp
  have hcon := AnyE.slices_DeleteFunc Tryz.laysDel (encI cbs) (fun x => by cases x <;> rfl) (goneI cbs cb) 137 #[.pointer (some ⟨w.heap.size, 0, none⟩)] eg none Tryz.zeroValue95 gr 0 cap (places cbs).toArray W0
    (fun W x hb => drop1_any cbs cb w.heap.size x W (by rw [hb.cell (p := ⟨w.heap.size, 0, none⟩) hKl]; exact hK) (hobj0 W fun b hbl _ => Below.block hb b hbl))
    (fun n os dk x _ => drop1_any cbs cb w.heap.size x _ (by
      unfold sortWorld
      rw [cell?_grow _ _ _ (by show w.heap.size < (putRow _ _ _ _ _).heap.size; rw [size_putRow]; exact hKl), cell?_putRow_other _ _ gr 0 _ _ (Or.inl (by show w.heap.size ≠ gr; omega))]
      exact hK) (hobj0 _ fun b hbl hne => by
        unfold sortWorld
        rw [heap_grow_old _ _ (by rw [size_putRow]; exact hbl), heap_put_other (encI cbs) W0 gr n b dk hne])) hH (by simp [places_len]; unfold maxLen at hcm; omega) (by simpa [places_len] using hnc)
  change Calls Tryz.prog 136 _ _ _ at hcon
  rw [List.size_toArray, places_len, places_left_len] at hcon
  have hplen : ((places cbs).filter fun x => !goneI cbs cb x).length ≤ cbs.length := by rw [places_left_len]; exact List.length_filter_le _ _
  have hown' := fun q => own_put (encI cbs) (q := q) hg0 hbg hcs hcm ((places cbs).filter fun x => !goneI cbs cb x) (List.replicate (cbs.length - (cbs.filter fun b => b != cb).length) none) (by rw [List.length_replicate, ← places_left_len]; omega)
  simp only [places_left_len, places_left] at hown'
  -- what the row becomes
  have hfin : ∀ (W : World), (∃ q, W = putRow (encI cbs) (Sort.ahead W0 q) gr 0 (((places cbs).filter fun x => !goneI cbs cb x) ++ List.replicate (cbs.length - (cbs.filter fun b => b != cb).length) none).toArray) →
      W.cell? ⟨gb, 4, none⟩ = some (.slice (some ⟨gr, 0, none⟩) cbs.length cap) ∧ W.frozen? ⟨gb, 4, none⟩ = false ∧ GwStep r B w gb r (W.setCell ⟨gb, 4, none⟩ (.slice (some ⟨gr, 0, none⟩) (cbs.filter fun b => b != cb).length cap)) (g.drop c.num) ∧ SameAt w (W.setCell ⟨gb, 4, none⟩ (.slice (some ⟨gr, 0, none⟩) (cbs.filter fun b => b != cb).length cap)) cb ∧ PtrsAt B (W.setCell ⟨gb, 4, none⟩ (.slice (some ⟨gr, 0, none⟩) (cbs.filter fun b => b != cb).length cap)) gb (cbs.filter fun b => b != cb) := by
    rintro W ⟨q, rfl⟩
    have ho := hown' q
    have hO : ∀ b, b < w.heap.size → b ≠ gr → SameAt w (putRow (encI cbs) (Sort.ahead W0 q) gr 0 (((places cbs).filter fun x => !goneI cbs cb x) ++ List.replicate (cbs.length - (cbs.filter fun b => b != cb).length) none).toArray) b := fun b hb hne => (heap_put_other (encI cbs) W0 gr q b _ hne).trans (Below.block hq0 b hb)
    have hsz : w.heap.size ≤ (putRow (encI cbs) (Sort.ahead W0 q) gr 0 (((places cbs).filter fun x => !goneI cbs cb x) ++ List.replicate (cbs.length - (cbs.filter fun b => b != cb).length) none).toArray).heap.size := by rw [size_putRow]; exact hq0.size
    have hos : (putRow (encI cbs) (Sort.ahead W0 q) gr 0 (((places cbs).filter fun x => !goneI cbs cb x) ++ List.replicate (cbs.length - (cbs.filter fun b => b != cb).length) none).toArray).os = w.os := by rw [hW0]; rfl
    have htp : (putRow (encI cbs) (Sort.ahead W0 q) gr 0 (((places cbs).filter fun x => !goneI cbs cb x) ++ List.replicate (cbs.length - (cbs.filter fun b => b != cb).length) none).toArray).tape = w.tape := by rw [hW0]; rfl
    have hop : (putRow (encI cbs) (Sort.ahead W0 q) gr 0 (((places cbs).filter fun x => !goneI cbs cb x) ++ List.replicate (cbs.length - (cbs.filter fun b => b != cb).length) none).toArray).output = w.output := by rw [hW0]; rfl
    generalize putRow (encI cbs) (Sort.ahead W0 q) gr 0 (((places cbs).filter fun x => !goneI cbs cb x) ++ List.replicate (cbs.length - (cbs.filter fun b => b != cb).length) none).toArray = W at *
    have sg := hO gb hgbl (Ne.symm hgg)
    have hS : ∀ b k, r b = some k → k ≠ .gw → k ≠ .row → SameAt w (W.setCell ⟨gb, 4, none⟩ (.slice (some ⟨gr, 0, none⟩) (cbs.filter fun b => b != cb).length cap)) b := fun b k hb h1 h2 => by
      have hb1 : b ≠ gb := fun e => by
        rw [e, h.rep.role] at hb
        cases hb
        exact h1 rfl
      have hb2 : b ≠ gr := fun e => by
        rw [e, hrr] at hb
        cases hb
        exact h2 rfl
      exact (set_same_at hb1).trans (hO b (h.rep.lt b (by rw [hb]; simp)) hb2)
    have hgc4 : ∀ o, o ≠ 4 → (W.setCell ⟨gb, 4, none⟩ (.slice (some ⟨gr, 0, none⟩) (cbs.filter fun b => b != cb).length cap)).cell? ⟨gb, o, none⟩ = w.cell? ⟨gb, o, none⟩ := fun o ho => by
      rw [set_other (fun e => by injection e with _ e2; exact ho e2.symm), sg.cell]
    have hog : (W.setCell ⟨gb, 4, none⟩ (.slice (some ⟨gr, 0, none⟩) (cbs.filter fun b => b != cb).length cap)).ownsRow B 95 1 (.slice (some ⟨gr, 0, none⟩) (cbs.filter fun b => b != cb).length cap) (cbs.filter fun b => b != cb).length ((cbs.filter fun b => b != cb).map ptr) := owns_same ho fun k hk => by
      have : gr = k := by simpa [Value.ownBlock] using hk
      exact set_same_at (by rw [← this]; exact hgg)
    refine ⟨by rw [sg.cell]; exact x1, by rw [sg.frozen]; exact h.rep.fz 4, ⟨?_, ?_, Grows.refl _ _⟩, ?_, _, set_same (u := .slice (some ⟨gr, 0, none⟩) cbs.length cap) (by rw [sg.cell]; exact x1), hog⟩
    · obtain ⟨h1, h2, h3, ⟨pb, h4, h5⟩, ⟨tv, h6, h7⟩, h8, h9, h10, _⟩ := h.rep
      have ks : Keeps (fun b => r b = some .stat) (fun b => r b = some .stat) w (W.setCell ⟨gb, 4, none⟩ (.slice (some ⟨gr, 0, none⟩) (cbs.filter fun b => b != cb).length cap)) := fun b hb => ⟨hb, fun o => (hS b _ hb (by simp) (by simp)).cell o⟩
      refine ⟨fun b hb => by have := h1 b hb; simp; omega, h2, h3, ⟨pb, by rw [hgc4 0 (by decide)]; exact h4, h5.keeps ks⟩, ⟨tv, by rw [hgc4 1 (by decide)]; exact h6, h7.keeps ks⟩, by rw [hgc4 2 (by decide)]; exact h8, by rw [hgc4 3 (by decide)]; exact h9, fun o => by rw [World.frozen?_setCell, sg.frozen]; exact h10 o, .slice (some ⟨gr, 0, none⟩) (cbs.filter fun b => b != cb).length cap, cbs.filter fun b => b != cb, ?_, ?_, ?_, ?_⟩
      · exact set_same (u := .slice (some ⟨gr, 0, none⟩) cbs.length cap) (by rw [sg.cell]; exact x1)
      · exact owns_same ho fun k hk => by
          have : gr = k := by simpa [Value.ownBlock] using hk
          exact set_same_at (by rw [← this]; exact hgg)
      · intro k hk
        have : gr = k := by simpa [Value.ownBlock] using hk
        rw [← this]; exact hrr
      · refine Conns.same (Conns.filter x4 hiff) fun d _ b hb => ⟨rfl, ?_⟩
        rcases hb with hb | hb <;> exact hS b _ hb (by simp) (by simp)
    · refine ⟨hos, htp, hop, by simp; exact hsz, fun k hk hr => ?_⟩
      have h1 : k ≠ gb := fun e => by rw [e, h.rep.role] at hr; cases hr
      have h2 : k ≠ gr := fun e => by rw [e, hrr] at hr; cases hr
      exact (set_same_at h1).trans (hO k hk h2)
    · exact (set_same_at hcbg).trans (hO cb hcbl (Ne.symm hgc))
  have HF := show Hid _ from hfin
  have HPt : Hid (PtrsAt B w gb cbs) := ⟨_, x1, x2⟩
  have HC := show Hid _ from hcon
  rw [hW0] at HC
  have hx1 : w.cell? ⟨gb, 4, none⟩ = some (.slice (some ⟨gr, 0, none⟩) cbs.length cap) := x1
  clear hfin hcon hown' hobj hobl hobj0 hcell hH eg hiff hg0 hK x1 x2 x3 x4 h
  go_enter Tryz.func97, Tryz.ntmps97
  go_wp2_with fail
  refine Calls.mono (Hid.out HC) ?_
  rintro e w' ⟨rfl, hq⟩
  obtain ⟨y1, y2, y3, y4, y5⟩ := HF.out w' (by rw [hW0]; exact hq)
  have HY3 := show Hid _ from y3
  have HY4 := show Hid _ from y4
  have HY5 := show Hid _ from y5
  clear y3 y4 y5 HF HC hq
  go_wp2_with fail
  go_end0
  exact ⟨rfl, HY3.out, HY4.out, cbs, HPt.out, HY5.out⟩
end Go.Proofs.YtdmaffciijmdcaaGreatDoor
/-
  Package turnpike: shut, unshut: which events shut what is not shut yet.
-/
namespace Go.Proofs.YtdmaffciijmdcaaGreatDoor
namespace Plain
/-- Events of these kinds, and nothing else. -/
def shutS (num : Int) (ks : List Int) : List EvS := ks.map fun k => ⟨k, num, [], 0⟩
theorem shutS_len (num : Int) (ks : List Int) : (shutS num ks).length = ks.length := by simp [shutS]
theorem shutS_take {num : Int} {ks : List Int} {k : Nat} {x : Int} (h : ks[k]? = some x) : shutS num (ks.take (k + 1)) = shutS num (ks.take k) ++ [⟨x, num, [], 0⟩] := by
  obtain ⟨hlt, rfl⟩ := List.getElem?_eq_some_iff.1 h
  unfold shutS
  rw [List.take_succ_eq_append_getElem hlt, List.map_append]
  rfl
/-- The kinds of the events that shut what is not shut yet. -/
def unshutS (c : ConnS) : List Int := (if c.hostEnd = true then [] else [4]) ++ (if 0 < c.stage ∧ c.noMore = false then [5] else [])
theorem unshutS_len (c : ConnS) : (unshutS c).length ≤ 8 := by
  unfold unshutS
  split <;> split <;> simp
theorem overEvs_shut (c : ConnS) : overEvs c = shutS (c.num : Int) (unshutS c) := by
  unfold overEvs unshutS shutS
  split <;> split <;> rfl
end Plain
open Go.RowKit Plain

/-- A row of kinds. -/
def KindsAt (w : World) (v : Value) (ks : List Int) : Prop :=
  ∃ a cap, v = .slice a ks.length cap ∧ ∀ (i : Nat) (k : Int), ks[i]? = some k → ∃ b, a = some ⟨b, 0, none⟩ ∧ w.cell? ⟨b, i, none⟩ = some (.int .i64 k)

set_option maxRecDepth 100000 in
set_option maxHeartbeats 800000 in
theorem shut_any (num : Int) (ks : List Int) (kv : Value) (lb : Nat) (w : World) (hc : w.cell? ⟨lb, 0, none⟩ = some (.int .i64 num)) (hk : KindsAt w kv ks) (hl : ks.length ≤ 8) :
    Calls Tryz.prog 62 #[ptr lb, kv] w fun e w' => EvsPost (shutS num ks) w e w' := by
  obtain ⟨a, cap, rfl, hcell⟩ := hk
  have HC := show Hid _ from hcell
  have HE := fun kd x hx => show Hid _ from event_any kd num lb x hx
  clear hcell
  go_enter Tryz.func62, Tryz.ntmps62
  obtain ⟨n, hn⟩ : ∃ n, n = ks.length := ⟨_, rfl⟩
  have HN := show Hid _ from hn
  rw [← hn] at hl ⊢
  clear hn
  have hlb : lb < w.heap.size := Q.lt hc
  go_wp2_with fail
  go_loopw [10, 5, 7] (fun i ov _ wr => ∃ k : Nat, k ≤ n ∧ i = .int .i64 (k : Int) ∧ Hid (Q w wr) ∧ Hid (wr.ownsRow w.heap.size 48 4 ov k (evVals (shutS num (ks.take k))))) (fun i _ _ _ => n - (intOf i).toNat)
  case atStart => exact ⟨0, Nat.zero_le _, rfl, Q.refl _, ⟨rfl, .inl ⟨rfl, rfl⟩⟩⟩
  case round =>
    obtain ⟨k, hk, rfl, hq, hown⟩ := hrel
    by_cases hlt : k < n
    · obtain ⟨x, hx⟩ : ∃ x, ks[k]? = some x := ⟨_, List.getElem?_eq_getElem (by rw [← HN.out]; exact hlt)⟩
      obtain ⟨b, rfl, hb⟩ := HC.out k x hx
      have hb' := hq.out.cell hb
      have HT := show Hid _ from shutS_take (num := num) hx
      have hx0 := hq.out.cell hc
      clear hx hb
      go_wp2_with fail
      refine Calls.mono (Hid.out (HE x _ hx0)) ?_
      rintro e w2 ⟨rfl, hq2⟩
      have HQ2 : Hid (Q w w2) := hq.out.trans hq2
      have HO2 := show Hid _ from owns_Q hown.out hq2
      have hsz := HQ2.out.size
      obtain ⟨o5, k5, rfl⟩ := slice_form hown.out
      clear hq hown hq2 hb' hx0
      go_wp2_with (first | (at_builtin; refine append_el rfl (.tmp 14) (.tmp 18) 41 rfl 48 Tryz.t48 (.agg #[.int .i64 0, .int .i64 0, .string ⟨#[]⟩, .int .i64 0]) 4 40 Tryz.underlying41 (by kernel_rfl) (by kernel_rfl) (by kernel_rfl) (by kernel_rfl) rfl (by decide) (.slice o5 k k5) k (evVals (shutS num (ks.take k))) (evOf ⟨x, num, [], 0⟩) rfl w.heap.size w2 rfl rfl HO2.out (evOf_one _) (by omega) (by decide) hsz ?_; intro g3 cap3 w3 ho3 hb3 hg3 hat3 _))
      refine ⟨⟨k + 1, by omega, by go_num, (Below.trans HQ2.out hb3 : Below w.heap.size w w3), ?_⟩, by simp [intOf]; omega⟩
      show World.ownsRow _ _ _ _ _ _ _
      rw [HT.out, evVals_append, evVals_one]
      exact ho3
    · have HO : Hid (wr.ownsRow w.heap.size 48 4 u5 (shutS num ks).length (evVals (shutS num ks))) := by
        show World.ownsRow _ _ _ _ _ _ _
        have := hown.out
        have hkn : k = ks.length := by have := HN.out; omega
        rw [List.take_of_length_le (by omega)] at this
        rw [shutS_len, ← hkn]
        exact this
      obtain ⟨o5, k5, rfl⟩ := slice_form hown.out
      clear hown
      go_wp2_with fail
      go_ret
      exact ⟨hq.out, _, rfl, HO.out⟩

/-- Kinds in a row that the call made. -/
theorem KindsAt.own {w : World} {B : Nat} {v : Value} {ks : List Int} (h : w.ownsRow B 3 1 v ks.length (ks.map (.int .i64))) : KindsAt w v ks := by
  rcases h.2 with ⟨rfl, hn⟩ | ⟨g, cap, cur, rfl, hb, hg, h4, h5, h6, h7⟩
  · have := List.eq_nil_of_length_eq_zero hn
    subst this
    exact ⟨none, 0, rfl, fun i k hi => by simp at hi⟩
  · refine ⟨_, cap, rfl, fun i k hi => ⟨g, rfl, ?_⟩⟩
    rw [cell_of_row w g i cur 3 (0, 0) hg]
    have hj : (cur.toList.take (ks.length * 1))[i]? = some (.int .i64 k) := by
      rw [h7, List.getElem?_map, hi]; rfl
    rw [List.getElem?_take] at hj
    split at hj
    · simpa using hj
    · cases hj

theorem int_one (k : Int) : ∀ u ∈ ([.int .i64 k] : List Value), u.oneCell' = true := by
  intro u hu
  simp only [List.mem_cons, List.not_mem_nil, or_false] at hu
  rw [hu]; rfl

set_option maxRecDepth 100000 in
set_option maxHeartbeats 1600000 in
theorem unshut_any (cb : Nat) (c : ConnS) (w : World) (h2 : w.cell? ⟨cb, 2, none⟩ = some (.int .i64 (c.stage : Int))) (h4 : w.cell? ⟨cb, 4, none⟩ = some (.bool c.noMore)) (h5 : w.cell? ⟨cb, 5, none⟩ = some (.bool c.hostEnd)) :
    Calls Tryz.prog 138 #[ptr cb] w fun e w' => Q w w' ∧ ∃ v, e = .returned v ∧ KindsAt w' v (unshutS c) := by
  have HU : Hid (unshutS c = (if c.hostEnd = true then [] else [4]) ++ (if 0 < c.stage ∧ c.noMore = false then [5] else [])) := rfl
  by_cases h0 : 0 < c.stage ∧ c.noMore = false
  · rw [if_pos h0] at HU
    have d0 : ((c.stage : Int) != 0) = true := by rw [bne_iff_ne]; omega
    rw [h0.2] at h4
    obtain ⟨st, hst⟩ : ∃ z : Int, z = (c.stage : Int) := ⟨_, rfl⟩
    rw [← hst] at h2 d0
    clear hst h0
    cases he : c.hostEnd <;> rw [he] at h5 HU <;> clear he
    · go_enter Tryz.func138, Tryz.ntmps138
      go_wp2_with (first | (at_builtin; refine append_el rfl (.tmp 9) (.tmp 10) 28 rfl 3 Tryz.t3 (.int .i64 0) 1 8 Tryz.underlying28 (by kernel_rfl) (by kernel_rfl) (by kernel_rfl) (by kernel_rfl) rfl (by decide) (.slice none 0 0) 0 [] [.int .i64 4] rfl w.heap.size w rfl rfl ⟨rfl, .inl ⟨rfl, rfl⟩⟩ (int_one 4) (by omega) (by decide) (Nat.le_refl _) ?_; intro g1 cap1 w1 ho1 hb1 hg1 hat1 hgl1; have q1 : Q w w1 := hb1; have x2 := q1.cell h2; have x4 := q1.cell h4) | (at_builtin; refine append_el rfl (.tmp 24) (.tmp 25) 28 rfl 3 Tryz.t3 (.int .i64 0) 1 8 Tryz.underlying28 (by kernel_rfl) (by kernel_rfl) (by kernel_rfl) (by kernel_rfl) rfl (by decide) (.slice (some ⟨g1, 0, none⟩) (0 + 1) cap1) 1 [.int .i64 4] [.int .i64 5] rfl w.heap.size w1 rfl rfl ho1 (int_one 5) (by omega) (by decide) q1.size ?_; intro g2 cap2 w2 ho2 hb2 hg2 hat2 hgl2))
      go_ret
      exact ⟨(Below.trans q1 hb2 : Below w.heap.size w w2), _, rfl, by rw [HU.out]; exact KindsAt.own ho2⟩
    · go_enter Tryz.func138, Tryz.ntmps138
      go_wp2_with (first | (at_builtin; refine append_el rfl (.tmp 24) (.tmp 25) 28 rfl 3 Tryz.t3 (.int .i64 0) 1 8 Tryz.underlying28 (by kernel_rfl) (by kernel_rfl) (by kernel_rfl) (by kernel_rfl) rfl (by decide) (.slice none 0 0) 0 [] [.int .i64 5] rfl w.heap.size w rfl rfl ⟨rfl, .inl ⟨rfl, rfl⟩⟩ (int_one 5) (by omega) (by decide) (Nat.le_refl _) ?_; intro g2 cap2 w2 ho2 hb2 hg2 hat2 hgl2))
      go_ret
      exact ⟨hb2, _, rfl, by rw [HU.out]; exact KindsAt.own ho2⟩
  · rw [if_neg h0] at HU
    by_cases h1 : c.stage = 0
    · have h2' : w.cell? ⟨cb, 2, none⟩ = some (.int .i64 0) := by rw [h2, h1]; rfl
      clear h2 h1 h0
      cases he : c.hostEnd <;> rw [he] at h5 HU <;> clear he
      · go_enter Tryz.func138, Tryz.ntmps138
        go_wp2_with (first | (at_builtin; refine append_el rfl (.tmp 9) (.tmp 10) 28 rfl 3 Tryz.t3 (.int .i64 0) 1 8 Tryz.underlying28 (by kernel_rfl) (by kernel_rfl) (by kernel_rfl) (by kernel_rfl) rfl (by decide) (.slice none 0 0) 0 [] [.int .i64 4] rfl w.heap.size w rfl rfl ⟨rfl, .inl ⟨rfl, rfl⟩⟩ (int_one 4) (by omega) (by decide) (Nat.le_refl _) ?_; intro g1 cap1 w1 ho1 hb1 hg1 hat1 hgl1; have q1 : Q w w1 := hb1; have x2 := q1.cell h2'))
        go_ret
        exact ⟨q1, _, rfl, by rw [HU.out]; exact KindsAt.own ho1⟩
      · go_enter Tryz.func138, Tryz.ntmps138
        go_wp2_with fail
        go_ret
        exact ⟨Q.refl _, _, rfl, by rw [HU.out]; exact ⟨none, 0, rfl, fun i k hi => by simp at hi⟩⟩
    · have hno : c.noMore = true := by
        cases hx : c.noMore with
        | true => rfl
        | false => exact absurd ⟨by omega, hx⟩ h0
      have d0 : ((c.stage : Int) != 0) = true := by rw [bne_iff_ne]; omega
      rw [hno] at h4
      obtain ⟨st, hst⟩ : ∃ z : Int, z = (c.stage : Int) := ⟨_, rfl⟩
      rw [← hst] at h2 d0
      clear hst h0 h1 hno
      cases he : c.hostEnd <;> rw [he] at h5 HU <;> clear he
      · go_enter Tryz.func138, Tryz.ntmps138
        go_wp2_with (first | (at_builtin; refine append_el rfl (.tmp 9) (.tmp 10) 28 rfl 3 Tryz.t3 (.int .i64 0) 1 8 Tryz.underlying28 (by kernel_rfl) (by kernel_rfl) (by kernel_rfl) (by kernel_rfl) rfl (by decide) (.slice none 0 0) 0 [] [.int .i64 4] rfl w.heap.size w rfl rfl ⟨rfl, .inl ⟨rfl, rfl⟩⟩ (int_one 4) (by omega) (by decide) (Nat.le_refl _) ?_; intro g1 cap1 w1 ho1 hb1 hg1 hat1 hgl1; have q1 : Q w w1 := hb1; have x2 := q1.cell h2; have x4 := q1.cell h4))
        go_ret
        exact ⟨q1, _, rfl, by rw [HU.out]; exact KindsAt.own ho1⟩
      · go_enter Tryz.func138, Tryz.ntmps138
        go_wp2_with fail
        go_ret
        exact ⟨Q.refl _, _, rfl, by rw [HU.out]; exact ⟨none, 0, rfl, fun i k hi => by simp at hi⟩⟩
theorem KindsAt.stays {w w' : World} {v : Value} {ks : List Int} (h : KindsAt w v ks) (q : Q w w') : KindsAt w' v ks := by
  obtain ⟨a, cap, h1, h2⟩ := h
  refine ⟨a, cap, h1, fun i k hi => ?_⟩
  obtain ⟨b, h3, h4⟩ := h2 i k hi
  exact ⟨b, h3, q.cell h4⟩
/-- A row of one kind, just made. -/
theorem kinds_one (w : World) (k : Int) : KindsAt (w.alloc (.cells #[.int .i64 k] 3)) (.slice (some ⟨w.heap.size, 0, none⟩) 1 1) [k] :=
  ⟨some ⟨w.heap.size, 0, none⟩, 1, rfl, fun i x hi => ⟨w.heap.size, rfl, by
    cases i with
    | zero => cases hi; simp [go_sem]
    | succ i => simp at hi⟩⟩
end Go.Proofs.YtdmaffciijmdcaaGreatDoor

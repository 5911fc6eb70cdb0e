/-
  Package turnpike: drop.
-/
import Derived.Test.YtfkggpminmonmaaGreatDoorGate2ToGate5
import Derived.Shelf.SlicesE.DeleteFunc
import Derived.Lib.SliceRun
import Derived.LaidEqlPtr
namespace Go.Proofs.YtfkggpminmonmaaGreatDoor
namespace Plain
def GateS.drop (g : GateS) (n : Nat) : GateS := { g with conns := g.conns.filter fun d => d.num != n }
end Plain
open Go.RowKit Plain Go.Shelf Go.Lib Go.Sort

section
variable {α : Type} [Inhabited α] (enc : α → Value)
theorem heap_put (w : World) (g q : Nat) (d : Array α) {cur : Array Value} {e : TypeId} (hg : w.heap[g]? = some (.cells cur e (0, 0))) : (putRow enc (Sort.ahead w q) g 0 d).heap[g]? = some (.cells (putCells enc 0 d cur) e (0, 0)) := by
  simp [putRow, mapBlock, Array.getElem?_modify, hg, onCells]
theorem heap_put_other (w : World) (g q k : Nat) (d : Array α) (h : k ≠ g) : (putRow enc (Sort.ahead w q) g 0 d).heap[k]? = w.heap[k]? := by
  simp [putRow, mapBlock, Array.getElem?_modify, Ne.symm h]
theorem own_put {w : World} {B g q cap : Nat} {e : TypeId} {cur : Array Value} (hg : w.heap[g]? = some (.cells cur e (0, 0))) (hB : B ≤ g) (hc : cur.size = cap * 1) (hm : cap ≤ maxLen) (l z : List α) (hl : l.length + z.length ≤ cap) :
    (putRow enc (Sort.ahead w q) g 0 (l ++ z).toArray).ownsRow B e 1 (.slice (some ⟨g, 0, none⟩) l.length cap) l.length (l.map enc) := by
  refine ⟨by simp, .inr ⟨g, cap, _, rfl, hB, heap_put enc w g q _ hg, by omega, hm, by simp [putCells, hc], ?_⟩⟩
  apply List.ext_getElem?
  intro j
  rw [List.getElem?_take]
  by_cases hj : j < l.length
  · rw [if_pos (by omega), Array.getElem?_toList]
    simp only [putCells, Array.getElem?_mapIdx]
    have h1 : j < cur.size := by omega
    rw [Array.getElem?_eq_getElem h1]
    simp only [Option.map_some, Nat.zero_le, true_and, Nat.zero_add, Nat.sub_zero]
    rw [if_pos (by simp; omega)]
    have h2 : (l ++ z).toArray[j]! = l[j] := by
      rw [getElem!_pos _ j (by simp; omega)]
      simp [List.getElem_append_left, hj]
    rw [h2, List.getElem?_map, List.getElem?_eq_getElem hj]
    rfl
  · rw [if_neg (by omega), List.getElem?_map, List.getElem?_eq_none (by omega)]
    rfl
end

/-- A row's places. -/
def encI (cbs : List Nat) : Option (Fin cbs.length) → Value
  | none => .pointer none
  | some i => ptr cbs[i]
def goneI (cbs : List Nat) (cb : Nat) : Option (Fin cbs.length) → Bool
  | none => false
  | some i => decide (cbs[i] = cb)
def places (cbs : List Nat) : List (Option (Fin cbs.length)) := (List.finRange cbs.length).map some
theorem places_len (cbs : List Nat) : (places cbs).length = cbs.length := by simp [places]
theorem places_get (cbs : List Nat) (j : Nat) (hj : j < cbs.length) : (places cbs).toArray[j]! = some ⟨j, hj⟩ := by
  rw [getElem!_pos _ j (by simp [places_len, hj])]
  simp [places]
theorem range_get (cbs : List Nat) : (List.finRange cbs.length).map (fun i => cbs[i]) = cbs := by
  apply List.ext_getElem
  · simp
  · intro n h1 h2
    simp
theorem places_left (cbs : List Nat) (cb : Nat) : ((places cbs).filter fun x => !goneI cbs cb x).map (encI cbs) = (cbs.filter fun b => b != cb).map ptr := by
  unfold places
  rw [List.filter_map, List.map_map]
  conv => rhs; rw [← range_get cbs, List.filter_map, List.map_map]
  congr 1
theorem places_left_len (cbs : List Nat) (cb : Nat) : ((places cbs).filter fun x => !goneI cbs cb x).length = (cbs.filter fun b => b != cb).length := by
  have := congrArg List.length (places_left cbs cb)
  simpa using this

theorem Conns.filter {r : Rl} {B : Nat} {w : World} {cb n : Nat} : ∀ {cbs : List Nat} {cs : List ConnS}, Conns r B w cbs cs → (∀ (j b : Nat) (d : ConnS), cbs[j]? = some b → cs[j]? = some d → (b = cb ↔ d.num = n)) → Conns r B w (cbs.filter fun b => b != cb) (cs.filter fun d => d.num != n)
  | [], [], _, _ => trivial
  | b :: cbs, d :: cs, h, hs => by
    have h0 := hs 0 b d rfl rfl
    have ih := h.2.filter (cb := cb) (n := n) fun j b' d' hb hd => hs (j + 1) b' d' (by simpa using hb) (by simpa using hd)
    rw [List.filter_cons, List.filter_cons]
    by_cases hb : b = cb
    · rw [if_neg (by simp [hb]), if_neg (by simp [h0.1 hb])]
      exact ih
    · rw [if_pos (by simp [hb]), if_pos (by simp; exact fun e => hb (h0.2 e))]
      exact ⟨h.1, ih⟩
  | [], _ :: _, h, _ => h.elim
  | _ :: _, [], h, _ => h.elim

set_option maxRecDepth 100000 in
theorem drop1_any (cbs : List Nat) (cb K : Nat) (x : Option (Fin cbs.length)) (W : World) (hc : W.cell? ⟨K, 0, none⟩ = some (ptr cb)) (ho : ∀ b, b = cb ∨ b ∈ cbs → ∃ cs t, W.heap[b]? = some (.cells cs t (0, 0))) :
    FnGives Tryz.prog 166 #[.pointer (some ⟨K, 0, none⟩)] #[encI cbs x] (.bool (goneI cbs cb x)) W := by
  show Calls Tryz.prog 166 #[encI cbs x, .pointer (some ⟨K, 0, none⟩)] W _
  have heq : (binOp .eql 87 (encI cbs x) (.pointer (some ⟨cb, 0, none⟩))).run Tryz.prog W = .ok (.bool (goneI cbs cb x)) W := by
    cases x with
    | none =>
      have hn : ∀ d : Nat, (Op.equalIn (d + 1) 87 (.pointer none) (.pointer (some ⟨cb, 0, none⟩))).run Tryz.prog W = .ok false W := fun d => by
        simp [Op.equalIn, run_underlying Tryz.underlying87]
      unfold encI goneI
      simp only [binOp]
      simp [Op.equal, Op.maxDepth, hn 9999]
    | some i =>
      show (binOp .eql 87 (.pointer (some ⟨cbs[i], 0, none⟩)) (.pointer (some ⟨cb, 0, none⟩))).run Tryz.prog W = .ok (.bool (decide (cbs[i] = cb))) W
      by_cases hb : cbs[i] = cb
      · rw [decide_eq_true hb, hb]
        exact run_eql_ptr_same W (te := 93) (j := Tryz.t93) ⟨cb, 0, none⟩ Tryz.underlying87 (by kernel_rfl)
      · rw [decide_eq_false hb]
        obtain ⟨ca, ta, ha⟩ := ho cbs[i] (.inr (by simp))
        obtain ⟨cc, tc, hcc⟩ := ho cb (.inl rfl)
        exact run_eql_ptr_other W (te := 93) (j := Tryz.t93) Tryz.underlying87 (by kernel_rfl) (by decide) (fun e => by injection e with e1; exact hb e1) ha hcc
  have hc' : W.cell? ⟨K, 0, none⟩ = some (.pointer (some ⟨cb, 0, none⟩)) := hc
  clear hc
  obtain ⟨p, hp⟩ : ∃ p, encI cbs x = .pointer p := by cases x <;> exact ⟨_, rfl⟩
  rw [hp] at heq ⊢
  clear hp
  generalize goneI cbs cb x = d at *
  go_enter Tryz.func166, Tryz.ntmps166
  go_wp2_with fail
  go_ret
  exact ⟨rfl, 0, rfl⟩

set_option maxRecDepth 100000 in
set_option maxHeartbeats 1600000 in
theorem drop_any {r : Rl} {B : Nat} {w : World} {gb : Nat} {g : GateS} {i cb : Nat} {c : ConnS} (h : AtConn r B w gb g i cb c) :
    Calls Tryz.prog 121 #[ptr gb, ptr cb] w fun e w' => e = .returned (.tuple #[]) ∧ GwStep r B w gb r w' (g.drop c.num) ∧ SameAt w w' cb := by
  have hmf : ∀ (fn : Fn) (first cap : Array Value) (w : World), (Instr.makeFunc fn first cap).run Tryz.prog w = .ok (.func fn first cap) w := fun _ _ _ _ => rfl
  obtain ⟨cv, cbs, x1, x2, x3, x4, x5⟩ := h.con
  have hrole := h.conn.role
  have hcbl : cb < w.heap.size := h.rep.lt cb (by rw [hrole]; simp)
  have hgbl : gb < w.heap.size := Q.lt x1
  have hiff : ∀ (j b : Nat) (d : ConnS), cbs[j]? = some b → g.conns[j]? = some d → (b = cb ↔ d.num = c.num) := fun j b d hb hd => by
    obtain ⟨b', hb', hrep⟩ := x4.get j d hd
    rw [hb] at hb'
    cases hb'
    constructor
    · intro e
      have := hrep.role
      rw [e, hrole] at this
      injection this with e1
      injection e1 with e2
      exact e2.symm
    · intro e
      have hji := h.ok.nums j i d c hd h.hi e
      rw [hji, x5] at hb
      exact (Option.some.inj hb).symm
  rcases x2.2 with ⟨hv, hn⟩ | ⟨gr, cap, cur, rfl, hbg, hg, hnc, hcm, hcs, htake⟩
  · have := List.eq_nil_of_length_eq_zero hn
    subst this
    simp at x5
  have hrr := x3 gr rfl
  have hgrl : gr < w.heap.size := h.rep.lt gr (by rw [hrr]; simp)
  have hgg : gr ≠ gb := fun e => by rw [e, h.rep.role] at hrr; cases hrr
  have hgc : gr ≠ cb := fun e => by rw [e, hrole] at hrr; cases hrr
  have hcbg : cb ≠ gb := fun e => by rw [e, h.rep.role] at hrole; cases hrole
  -- the library's contract
  obtain ⟨W0, hW0⟩ : ∃ W, W = w.alloc (.cells #[ptr cb] 87) := ⟨_, rfl⟩
  have hq0 : Q w W0 := by rw [hW0]; exact (Q.refl _).alloc _
  have hg0 : W0.heap[gr]? = some (.cells cur 87 (0, 0)) := by rw [Below.block hq0 gr hgrl]; exact hg
  have hK : W0.cell? ⟨w.heap.size, 0, none⟩ = some (ptr cb) := by rw [hW0]; simp [go_sem]
  have hobj : ∀ b, b = cb ∨ b ∈ cbs → ∃ cs t, w.heap[b]? = some (.cells cs t (0, 0)) := fun b hb => by
    have hb' : b ∈ cbs := by
      rcases hb with rfl | hb
      · exact List.mem_of_getElem? x5
      · exact hb
    obtain ⟨j, hj⟩ := List.getElem?_of_mem hb'
    have hjl : j < g.conns.length := by rw [← x4.len]; exact (List.getElem?_eq_some_iff.1 hj).1
    obtain ⟨b2, hb2, hrep⟩ := x4.get j _ (List.getElem?_eq_getElem hjl)
    rw [hj] at hb2
    cases hb2
    exact hrep.obj
  have hobl : ∀ b, b = cb ∨ b ∈ cbs → b ≠ gr := fun b hb e => by
    have hb' : b ∈ cbs := by
      rcases hb with rfl | hb
      · exact List.mem_of_getElem? x5
      · exact hb
    obtain ⟨j, hj⟩ := List.getElem?_of_mem hb'
    have hjl : j < g.conns.length := by rw [← x4.len]; exact (List.getElem?_eq_some_iff.1 hj).1
    obtain ⟨b2, hb2, hrep⟩ := x4.get j _ (List.getElem?_eq_getElem hjl)
    rw [hj] at hb2
    cases hb2
    have := hrep.role
    rw [e, hrr] at this
    cases this
  have hobj0 : ∀ W : World, (∀ b, b < W0.heap.size → b ≠ gr → W.heap[b]? = W0.heap[b]?) → ∀ b, b = cb ∨ b ∈ cbs → ∃ cs t, W.heap[b]? = some (.cells cs t (0, 0)) := fun W hW b hb => by
    obtain ⟨cs, t, ho⟩ := hobj b hb
    have hbl : b < w.heap.size := (Array.getElem?_eq_some_iff.1 ho).1
    exact ⟨cs, t, by rw [hW b (Nat.lt_of_lt_of_le hbl hq0.size) (hobl b hb), Below.block hq0 b hbl]; exact ho⟩
  have hcell : ∀ j, j < cbs.length → W0.cell? ⟨gr, 0 + j, none⟩ = some (encI cbs ((places cbs).toArray[j]!)) := fun j hj => by
    rw [Nat.zero_add, cell_of_row W0 gr j cur 87 (0, 0) hg0, places_get cbs j hj]
    have h1 : (cur.toList.take (cbs.length * 1))[j]? = some (ptr cbs[j]) := by
      rw [htake, List.getElem?_map, List.getElem?_eq_getElem hj]; rfl
    rw [List.getElem?_take, if_pos (by omega)] at h1
    simpa [encI] using h1
  have hH : Holds (encI cbs) W0 gr 0 (places cbs).toArray := fun j hj => ⟨hcell j (by simpa [places_len] using hj), by
    have : W0.heap[gr]? = some (.cells cur 87 (0, 0)) := hg0
    simp [World.frozen?, this]⟩
  have eg : ∀ args w, (callFunc 166 args).run Tryz.prog w = .ok (.enter 166 args) w := enters_of Tryz.func166 (by kernel_rfl) rfl
  have hKl : w.heap.size < W0.heap.size := by rw [hW0]; simp
  have hcon := AnyE.slices_DeleteFunc Tryz.laysDel (encI cbs) (fun x => by cases x <;> rfl) (goneI cbs cb) 166 #[.pointer (some ⟨w.heap.size, 0, none⟩)] eg none Tryz.zeroValue87 gr 0 cap (places cbs).toArray W0
    (fun W x hb => drop1_any cbs cb w.heap.size x W (by rw [hb.cell (p := ⟨w.heap.size, 0, none⟩) hKl]; exact hK) (hobj0 W fun b hbl _ => Below.block hb b hbl))
    (fun n os dk x _ => drop1_any cbs cb w.heap.size x _ (by
      unfold sortWorld
      rw [cell?_grow _ _ _ (by show w.heap.size < (putRow _ _ _ _ _).heap.size; rw [size_putRow]; exact hKl), cell?_putRow_other _ _ gr 0 _ _ (Or.inl (by show w.heap.size ≠ gr; omega))]
      exact hK) (hobj0 _ fun b hbl hne => by
        unfold sortWorld
        rw [heap_grow_old _ _ (by rw [size_putRow]; exact hbl), heap_put_other (encI cbs) W0 gr n b dk hne])) hH (by simp [places_len]; unfold maxLen at hcm; omega) (by simpa [places_len] using hnc)
  change Calls Tryz.prog 165 _ _ _ at hcon
  rw [List.size_toArray, places_len, places_left_len] at hcon
  have hplen : ((places cbs).filter fun x => !goneI cbs cb x).length ≤ cbs.length := by rw [places_left_len]; exact List.length_filter_le _ _
  have hown' := fun q => own_put (encI cbs) (q := q) hg0 hbg hcs hcm ((places cbs).filter fun x => !goneI cbs cb x) (List.replicate (cbs.length - (cbs.filter fun b => b != cb).length) none) (by rw [List.length_replicate, ← places_left_len]; omega)
  simp only [places_left_len, places_left] at hown'
  -- what the row becomes
  have hfin : ∀ (W : World), (∃ q, W = putRow (encI cbs) (Sort.ahead W0 q) gr 0 (((places cbs).filter fun x => !goneI cbs cb x) ++ List.replicate (cbs.length - (cbs.filter fun b => b != cb).length) none).toArray) →
      W.cell? ⟨gb, 4, none⟩ = some (.slice (some ⟨gr, 0, none⟩) cbs.length cap) ∧ W.frozen? ⟨gb, 4, none⟩ = false ∧ GwStep r B w gb r (W.setCell ⟨gb, 4, none⟩ (.slice (some ⟨gr, 0, none⟩) (cbs.filter fun b => b != cb).length cap)) (g.drop c.num) ∧ SameAt w (W.setCell ⟨gb, 4, none⟩ (.slice (some ⟨gr, 0, none⟩) (cbs.filter fun b => b != cb).length cap)) cb := by
    rintro W ⟨q, rfl⟩
    have ho := hown' q
    have hO : ∀ b, b < w.heap.size → b ≠ gr → SameAt w (putRow (encI cbs) (Sort.ahead W0 q) gr 0 (((places cbs).filter fun x => !goneI cbs cb x) ++ List.replicate (cbs.length - (cbs.filter fun b => b != cb).length) none).toArray) b := fun b hb hne => (heap_put_other (encI cbs) W0 gr q b _ hne).trans (Below.block hq0 b hb)
    have hsz : w.heap.size ≤ (putRow (encI cbs) (Sort.ahead W0 q) gr 0 (((places cbs).filter fun x => !goneI cbs cb x) ++ List.replicate (cbs.length - (cbs.filter fun b => b != cb).length) none).toArray).heap.size := by rw [size_putRow]; exact hq0.size
    have hos : (putRow (encI cbs) (Sort.ahead W0 q) gr 0 (((places cbs).filter fun x => !goneI cbs cb x) ++ List.replicate (cbs.length - (cbs.filter fun b => b != cb).length) none).toArray).os = w.os := by rw [hW0]; rfl
    have htp : (putRow (encI cbs) (Sort.ahead W0 q) gr 0 (((places cbs).filter fun x => !goneI cbs cb x) ++ List.replicate (cbs.length - (cbs.filter fun b => b != cb).length) none).toArray).tape = w.tape := by rw [hW0]; rfl
    have hop : (putRow (encI cbs) (Sort.ahead W0 q) gr 0 (((places cbs).filter fun x => !goneI cbs cb x) ++ List.replicate (cbs.length - (cbs.filter fun b => b != cb).length) none).toArray).output = w.output := by rw [hW0]; rfl
    generalize putRow (encI cbs) (Sort.ahead W0 q) gr 0 (((places cbs).filter fun x => !goneI cbs cb x) ++ List.replicate (cbs.length - (cbs.filter fun b => b != cb).length) none).toArray = W at *
    have sg := hO gb hgbl (Ne.symm hgg)
    have hS : ∀ b k, r b = some k → k ≠ .gw → k ≠ .row → SameAt w (W.setCell ⟨gb, 4, none⟩ (.slice (some ⟨gr, 0, none⟩) (cbs.filter fun b => b != cb).length cap)) b := fun b k hb h1 h2 => by
      have hb1 : b ≠ gb := fun e => by
        rw [e, h.rep.role] at hb
        cases hb
        exact h1 rfl
      have hb2 : b ≠ gr := fun e => by
        rw [e, hrr] at hb
        cases hb
        exact h2 rfl
      exact (set_same_at hb1).trans (hO b (h.rep.lt b (by rw [hb]; simp)) hb2)
    have hgc4 : ∀ o, o ≠ 4 → (W.setCell ⟨gb, 4, none⟩ (.slice (some ⟨gr, 0, none⟩) (cbs.filter fun b => b != cb).length cap)).cell? ⟨gb, o, none⟩ = w.cell? ⟨gb, o, none⟩ := fun o ho => by
      rw [set_other (fun e => by injection e with _ e2; exact ho e2.symm), sg.cell]
    refine ⟨by rw [sg.cell]; exact x1, by rw [sg.frozen]; exact h.rep.fz 4, ⟨?_, ?_, Grows.refl _ _⟩, ?_⟩
    · obtain ⟨h1, h2, h3, ⟨pb, h4, h5⟩, ⟨tv, h6, h7⟩, h8, h9, h10, _⟩ := h.rep
      have ks : Keeps (fun b => r b = some .stat) (fun b => r b = some .stat) w (W.setCell ⟨gb, 4, none⟩ (.slice (some ⟨gr, 0, none⟩) (cbs.filter fun b => b != cb).length cap)) := fun b hb => ⟨hb, fun o => (hS b _ hb (by simp) (by simp)).cell o⟩
      refine ⟨fun b hb => by have := h1 b hb; simp; omega, h2, h3, ⟨pb, by rw [hgc4 0 (by decide)]; exact h4, h5.keeps ks⟩, ⟨tv, by rw [hgc4 1 (by decide)]; exact h6, h7.keeps ks⟩, by rw [hgc4 2 (by decide)]; exact h8, by rw [hgc4 3 (by decide)]; exact h9, fun o => by rw [World.frozen?_setCell, sg.frozen]; exact h10 o, .slice (some ⟨gr, 0, none⟩) (cbs.filter fun b => b != cb).length cap, cbs.filter fun b => b != cb, ?_, ?_, ?_, ?_⟩
      · exact set_same (u := .slice (some ⟨gr, 0, none⟩) cbs.length cap) (by rw [sg.cell]; exact x1)
      · exact owns_same ho fun k hk => by
          have : gr = k := by simpa [Value.ownBlock] using hk
          exact set_same_at (by rw [← this]; exact hgg)
      · intro k hk
        have : gr = k := by simpa [Value.ownBlock] using hk
        rw [← this]; exact hrr
      · refine Conns.same (Conns.filter x4 hiff) fun d _ b hb => ⟨rfl, ?_⟩
        rcases hb with hb | hb <;> exact hS b _ hb (by simp) (by simp)
    · refine ⟨hos, htp, hop, by simp; exact hsz, fun k hk hr => ?_⟩
      have h1 : k ≠ gb := fun e => by rw [e, h.rep.role] at hr; cases hr
      have h2 : k ≠ gr := fun e => by rw [e, hrr] at hr; cases hr
      exact (set_same_at h1).trans (hO k hk h2)
    · exact (set_same_at hcbg).trans (hO cb hcbl (Ne.symm hgc))
  have HF := show Hid _ from hfin
  have HC := show Hid _ from hcon
  rw [hW0] at HC
  have hx1 : w.cell? ⟨gb, 4, none⟩ = some (.slice (some ⟨gr, 0, none⟩) cbs.length cap) := x1
  clear hfin hcon hown' hobj hobl hobj0 hcell hH eg hiff hg0 hK x1 x2 x3 x4 h
  go_enter Tryz.func121, Tryz.ntmps121
  go_wp2_with fail
  refine Calls.mono (Hid.out HC) ?_
  rintro e w' ⟨rfl, hq⟩
  obtain ⟨y1, y2, y3, y4⟩ := HF.out w' (by rw [hW0]; exact hq)
  have HY3 := show Hid _ from y3
  have HY4 := show Hid _ from y4
  clear y3 y4 HF HC hq
  go_wp2_with fail
  go_end0
  exact ⟨rfl, HY3.out, HY4.out⟩
end Go.Proofs.YtfkggpminmonmaaGreatDoor
/-
  Package turnpike: refuse.
-/
namespace Go.Proofs.YtfkggpminmonmaaGreatDoor
open Go.RowKit Plain

/-- Events, in new memory that is no gateway's. -/
def EvsOut (r' : Rl) (l : List EvS) (w : World) (v : Value) (w' : World) : Prop :=
  w'.ownsRow w.heap.size 48 4 v l.length (evVals l) ∧ ∀ k, v.ownBlock = some k → r' k = none

def GwPost (r : Rl) (B : Nat) (gb : Nat) (g' : GateS) (l : List EvS) (w : World) (e : Ending) (w' : World) : Prop :=
  ∃ r' v, e = .returned v ∧ GwStep r B w gb r' w' g' ∧ EvsOut r' l w v w'

theorem sized {r : Rl} {B : Nat} {w : World} {gb : Nat} {g : GateS} (h : GwRep r B w gb g) {k : Nat} (hk : w.heap.size ≤ k) : r k = none := by
  cases hr : r k with
  | none => rfl
  | some x =>
    have := h.lt k (by rw [hr]; simp)
    omega

theorem slice_form {w : World} {B : Nat} {e : TypeId} {size : Nat} {v : Value} {n : Nat} {xs : List Value} (h : w.ownsRow B e size v n xs) : ∃ o c, v = .slice o n c := by
  rcases h.2 with ⟨h1, h2⟩ | ⟨g, cap, cur, h1, _⟩
  · exact ⟨none, 0, by rw [h1, h2]⟩
  · exact ⟨_, _, h1⟩

set_option maxRecDepth 100000 in
set_option maxHeartbeats 1600000 in
theorem refuse_any {r : Rl} {B : Nat} {w : World} {gb : Nat} {g : GateS} {i cb : Nat} {c : ConnS} (h : AtConn r B w gb g i cb c) (s : ByteArray) (hs : s.size ≤ 4294967296) :
    Calls Tryz.prog 81 #[ptr gb, ptr cb, .string s] w fun e w' => GwPost r B gb (g.drop c.num) (sendS 2 c.num s.data.toList ++ [⟨4, c.num, [], 0⟩]) w e w' := by
  have HD := show Hid _ from drop_any h
  have hc0 := h.conn.c0
  have hlen : (sendS 2 c.num s.data.toList).length ≤ 1 := by unfold sendS; split <;> simp
  clear h
  go_enter Tryz.func81, Tryz.ntmps81
  go_wp2_with fail
  refine Calls.mono (Hid.out HD) ?_
  rintro e w1 ⟨rfl, hst, hsame⟩
  have hc1 : w1.cell? ⟨cb, 0, none⟩ = some (.int .i64 (c.num : Int)) := by rw [hsame.cell]; exact hc0
  have HST := show Hid _ from hst
  have hz1 := hst.fr.size
  clear HD hsame hst hc0
  have HS := fun x hx => show Hid _ from send_any 2 c.num s cb x hx hs
  have HE := fun x hx => show Hid _ from event_any 4 c.num cb x hx
  go_wp2_with fail
  refine wp_region_held_drew (S := fun w' => w'.cell? ⟨cb, 0, none⟩ = some (.int .i64 (c.num : Int)) ∧ Q w1 w') (by kernel_rfl) ⟨by simpa using hc1, (Q.refl _).drew⟩ (fun hHeld0 => ?_)
  refine wpAnyH_take (i := 0) (v := ?_) rfl (by kernel_rfl) (by kernel_rfl) (by kernel_rfl) (fun _ _ _ h => h) (Or.inl ⟨by rfl, ?_⟩) (by assumption) ?_
  rotate_left
  · (intro w hSw; (try dsimp only at hSw); go_simp; try with_reducible rfl)
  simp only [Act.put, List.getElem_toArray, List.getElem_cons_zero, List.setIfInBounds_toArray, List.set_cons_zero, List.set_cons_succ]
  refine wpAnyH_take (i := 1) (v := ?_) rfl (by kernel_rfl) (by kernel_rfl) (by kernel_rfl) (fun _ _ _ h => h) (Or.inl ⟨by rfl, ?_⟩) (by assumption) ?_
  rotate_left
  · (intro w hSw; (try dsimp only at hSw); go_simp; try with_reducible rfl)
  simp only [Act.put, List.getElem_toArray, List.getElem_cons_zero, List.getElem_cons_succ, List.setIfInBounds_toArray, List.set_cons_zero, List.set_cons_succ]
  refine wpAnyH_take (i := 2) (v := ?_) rfl (by kernel_rfl) (by kernel_rfl) (by kernel_rfl) (fun _ _ _ h => h) (Or.inl ⟨by rfl, ?_⟩) (by assumption) ?_
  rotate_left
  · (intro w hSw; (try dsimp only at hSw); go_simp; try with_reducible rfl)
  simp only [Act.put, List.getElem_toArray, List.getElem_cons_zero, List.getElem_cons_succ, List.setIfInBounds_toArray, List.set_cons_zero, List.set_cons_succ]
  refine wpAnyH_take (i := 3) (v := ?_) rfl (by kernel_rfl) (by kernel_rfl) (by kernel_rfl) (fun _ _ _ h => h) (Or.inl ⟨by rfl, ?_⟩) (by assumption) ?_
  rotate_left
  · (intro w hSw; (try dsimp only at hSw); go_simp; try with_reducible rfl)
  simp only [Act.put, List.getElem_toArray, List.getElem_cons_zero, List.getElem_cons_succ, List.setIfInBounds_toArray, List.set_cons_zero, List.set_cons_succ]
  refine wpAnyH_take (i := 5) (v := ?_) rfl (by kernel_rfl) (by kernel_rfl) (by kernel_rfl) (fun _ _ _ h => h) (Or.inl ⟨by rfl, ?_⟩) (by assumption) ?_
  rotate_left
  · (intro w hSw; (try dsimp only at hSw); go_simp; try with_reducible rfl)
  simp only [Act.put, List.getElem_toArray, List.getElem_cons_zero, List.getElem_cons_succ, List.setIfInBounds_toArray, List.set_cons_zero, List.set_cons_succ]
  refine wpAnyH_take (i := 6) (v := ?_) rfl (by kernel_rfl) (by kernel_rfl) (by kernel_rfl) (fun _ _ _ h => h) (Or.inl ⟨by rfl, ?_⟩) (by assumption) ?_
  rotate_left
  · (intro w hSw; (try dsimp only at hSw); go_simp; try with_reducible rfl)
  simp only [Act.put, List.getElem_toArray, List.getElem_cons_zero, List.getElem_cons_succ, List.setIfInBounds_toArray, List.set_cons_zero, List.set_cons_succ]
  refine wpAnyH_take (i := 7) (v := ?_) rfl (by kernel_rfl) (by kernel_rfl) (by kernel_rfl) (fun _ _ _ h => h) (Or.inl ⟨by rfl, ?_⟩) (by assumption) ?_
  rotate_left
  · (intro w hSw; (try dsimp only at hSw); go_simp; try with_reducible rfl)
  simp only [Act.put, List.getElem_toArray, List.getElem_cons_zero, List.getElem_cons_succ, List.setIfInBounds_toArray, List.set_cons_zero, List.set_cons_succ]
  refine wpAnyH_ready (rs := [4]) (by kernel_rfl) (by simp) ?_
  refine AllReadyH.cons rfl (fun K hK => ?_) AllReadyH.nil
  go_simp
  refine Calls.mono (Hid.out (HS _ (by simpa using hc1))) ?_
  rintro e w2 ⟨hq2, v2, rfl, hown2⟩
  have q2 : Q w1 w2 := ((Q.refl _).drew).trans hq2
  have hown2' : w2.ownsRow w1.heap.size 48 4 v2 (sendS 2 c.num s.data.toList).length (evVals (sendS 2 c.num s.data.toList)) := hown2
  obtain ⟨vo, vc, rfl⟩ := slice_form hown2'
  have hc2 := q2.cell hc1
  have HO2 := show Hid _ from hown2'
  clear hq2 hown2 hown2' HS
  go_wp2_with fail
  refine hK.out _ _ ⟨hc2, q2⟩ (fun hHeld1 => ?_)
  clear hK K hHeld0
  refine wpAnyH_ready (rs := [8]) (by kernel_rfl) (by simp) ?_
  refine AllReadyH.cons rfl (fun K hK => ?_) AllReadyH.nil
  go_simp
  refine Calls.mono (Hid.out (HE _ hc2)) ?_
  rintro e w3 ⟨rfl, hq3⟩
  have q3 : Q w1 w3 := q2.trans hq3
  have hc3 := q3.cell hc1
  have HO3 := show Hid _ from owns_Q HO2.out hq3
  clear HE HO2
  go_wp2_with fail
  refine hK.out _ _ ⟨hc3, q3⟩ (fun hHeld2 => ?_)
  clear hK K hHeld1
  refine wpAnyH_ready (rs := [9]) (by kernel_rfl) (by simp) ?_
  refine AllReadyH.cons rfl (fun K hK => ?_) AllReadyH.nil
  go_simp
  have q4 : Q w3 (w3.alloc (.cells #[.int .i64 4, .int .i64 (c.num : Int), .string ⟨#[]⟩, .int .i64 0] 48)) := (Q.refl _).alloc _
  refine hK.out _ _ ⟨q4.cell hc3, q3.trans q4⟩ (fun hHeld3 => ?_)
  clear hK K hHeld2
  refine wpAnyH_ready (rs := [10]) (by kernel_rfl) (by simp) ?_
  refine AllReadyH.cons rfl (fun K hK => ?_) AllReadyH.nil
  have HO4 := show Hid _ from owns_Q HO3.out q4
  have HNw := show Hid _ from World.news_of_block (w := w3.alloc (.cells #[.int .i64 4, .int .i64 (c.num : Int), .string ⟨#[]⟩, .int .i64 0] 48)) (B := w3.heap.size) (cs := #[.int .i64 4, .int .i64 (c.num : Int), .string ⟨#[]⟩, .int .i64 0]) (t := 48) (fr := (0, 0)) (heap_alloc_new w3 _)
  have HOne : Hid (∀ u ∈ ([.int .i64 4, .int .i64 (c.num : Int), .string ⟨#[]⟩, .int .i64 0] : List Value), u.oneCell' = true) := by
    intro u hu
    simp only [List.mem_cons, List.not_mem_nil, or_false] at hu
    rcases hu with rfl | rfl | rfl | rfl <;> rfl
  have hz3 := q3.size
  refine step_append_lies _ rfl (.tmp 14) (.tmp 19) 41 rfl w1.heap.size 48 Tryz.t48 (.agg #[.int .i64 0, .int .i64 0, .string ⟨#[]⟩, .int .i64 0]) 4 40 Tryz.underlying41 (by kernel_rfl) (by kernel_rfl) (by kernel_rfl) (by kernel_rfl) rfl (by decide) (.slice vo (sendS 2 c.num s.data.toList).length vc) (sendS 2 c.num s.data.toList).length (evVals (sendS 2 c.num s.data.toList)) rfl HO4.out ⟨w3.heap.size, 0, none⟩ 1 1 [.int .i64 4, .int .i64 (c.num : Int), .string ⟨#[]⟩, .int .i64 0] rfl rfl HNw.out HOne.out (by decide) (by unfold maxLen; omega) (by omega) (by simp; omega) _ rfl ?_
  intro ge cap w5 hown5 hgrow hat hlt5
  have hol := owns_lt HO4.out
  have hQ5 : Below w1.heap.size w1 w5 := Below.grown (q3.trans q4) hgrow (q3.trans q4).size (fun k hk => (hol k hk).1)
  have hc5 : w5.cell? ⟨cb, 0, none⟩ = some (.int .i64 (c.num : Int)) := by
    have := Below.cell (p := ⟨cb, 0, none⟩) hQ5 (Q.lt hc1)
    rw [this]; exact hc1
  have hfin : GwPost r B gb (g.drop c.num) (sendS 2 c.num s.data.toList ++ [⟨4, c.num, [], 0⟩]) w (.returned (.slice (some ⟨ge, 0, none⟩) ((sendS 2 c.num s.data.toList).length + 1) cap)) w5 := by
    have hstep := HST.out
    have hrep5 : GwRep r B w5 gb (g.drop c.num) := hstep.rep.stays hQ5
    refine ⟨r, _, rfl, ⟨hrep5, hstep.fr.trans hstep.gr (Fr.ofQ hQ5), hstep.gr⟩, ?_, ?_⟩
    · rw [List.length_append, evVals_append]
      exact owns_base hown5 hz1
    · intro k hk
      have : ge = k := by simpa [Value.ownBlock] using hk
      have hgl := owns_lt hown5 ge rfl
      rw [← this]
      exact sized hstep.rep hgl.1
  have HFin := show Hid _ from hfin
  refine hK.out _ _ ⟨hc5, hQ5⟩ (fun hHeld4 => ?_)
  clear hK K hHeld3 hown5 hgrow hat hlt5 hol hfin HST HO3 HO4 HNw HOne
  simp only [Act.put, List.getElem_toArray, List.getElem_cons_zero, List.getElem_cons_succ, List.setIfInBounds_toArray, List.set_cons_zero, List.set_cons_succ]
  refine wpAnyH_take (i := 11) (v := ?_) rfl (by kernel_rfl) (by kernel_rfl) (by kernel_rfl) (fun _ _ _ h => h) (Or.inl ⟨by rfl, ?_⟩) (by assumption) ?_
  rotate_left
  · (intro w hSw; (try dsimp only at hSw); go_simp; try with_reducible rfl)
  simp only [Act.put, List.getElem_toArray, List.getElem_cons_zero, List.getElem_cons_succ, List.setIfInBounds_toArray, List.set_cons_zero, List.set_cons_succ]
  refine wpAnyH_done (by kernel_rfl) ?_ _
  clear hHeld4
  go_wp2_with fail
  go_ret
  exact HFin.out
end Go.Proofs.YtfkggpminmonmaaGreatDoor
/-
  Package turnpike: answer.
-/
namespace Go.Proofs.YtfkggpminmonmaaGreatDoor
namespace Plain
theorem judge_err {rs : List RuleS} {tens : List (List UInt8 × List UInt8)} {m : Int} {l r : List UInt8} (h : judgeS rs tens m l = .error r) : r.isEmpty = false ∧ r.length ≤ 100 := by
  unfold judgeS at h
  split at h
  · cases h; exact ⟨rfl, by decide⟩
  · split at h
    · cases h; exact ⟨rfl, by decide⟩
    · split at h
      · cases h; exact ⟨rfl, by decide⟩
      · split at h
        · cases h; exact ⟨rfl, by decide⟩
        · split at h
          · cases h
          · cases h; exact ⟨rfl, by decide⟩
/-- What a head is answered. -/
def answerS (g : GateS) (i : Nat) (c : ConnS) (head : List UInt8) : GateS × List EvS := match judgeS g.rules g.tens g.minute head with
  | .error r => (g.drop c.num, sendS 2 c.num r ++ [⟨4, c.num, [], 0⟩])
  | .ok (h, n) => (g.upd i { c with stage := 1 }, [⟨1, c.num, h, (n : Int)⟩])
end Plain
open Go.RowKit Plain

theorem AtConn.fr {r : Rl} {B : Nat} {w : World} {gb : Nat} {g : GateS} {i cb : Nat} {c : ConnS} (h : AtConn r B w gb g i cb c) (o : Nat) (u : Value) : Fr r w (w.setCell ⟨cb, o, none⟩ u) := Fr.set r w cb o u (by rw [h.conn.role]; simp)

set_option maxRecDepth 100000 in
set_option maxHeartbeats 1600000 in
theorem answer_any {r : Rl} {B : Nat} {w : World} {gb : Nat} {g : GateS} {i cb : Nat} {c : ConnS} (h : AtConn r B w gb g i cb c) (s : ByteArray) (hs : s.size ≤ 1000) (hm : ML w) :
    Calls Tryz.prog 43 #[ptr gb, ptr cb, .string s] w fun e w' => GwPost r B gb (answerS g i c s.data.toList).1 (answerS g i c s.data.toList).2 w e w' := by
  have HJ := show Hid _ from judge_any gb g.rules g.tens g.minute s w (h.rep.read h.ok.tens) hm hs
  have HA : Hid (AtConn r B w gb g i cb c) := h
  have hcl : cb < w.heap.size := Q.lt h.conn.c0
  clear h hm
  go_enter Tryz.func43, Tryz.ntmps43
  go_wp2_with fail
  refine Calls.mono (Hid.out HJ) ?_
  rintro e w1 ⟨hq1, ⟨rf, hj, rfl⟩ | ⟨host, port, hj, rfl⟩⟩
  · have HAn : Hid (answerS g i c s.data.toList = (g.drop c.num, sendS 2 c.num rf ++ [⟨4, c.num, [], 0⟩])) := by
      show _ = _
      unfold answerS; rw [hj]
    obtain ⟨hne, hrl⟩ := judge_err hj
    obtain ⟨R, rfl⟩ : ∃ M : ByteArray, M.data.toList = rf := ⟨⟨rf.toArray⟩, rfl⟩
    rw [size_len] at hrl
    have hemp : R.toList.isEmpty = false := by rw [Lib.toList_data]; exact hne
    have q1 : Q w (w1.alloc (.cells #[.string ⟨#[]⟩, .int .i64 0] 156)) := hq1.alloc _
    have HR := show Hid _ from refuse_any (HA.out.stays q1) R (by omega)
    rw [str_data]
    clear hj hne HJ
    unfold str
    go_wp2_with fail
    refine Calls.mono (Hid.out HR) ?_
    rintro e w2 ⟨r', v, rfl, hst, hout⟩
    obtain ⟨vo, vc, rfl⟩ := slice_form hout.1
    have HP : Hid (GwPost r B gb (answerS g i c s.data.toList).1 (answerS g i c s.data.toList).2 w (.returned (.slice vo (sendS 2 c.num R.data.toList ++ [(⟨4, c.num, [], 0⟩ : EvS)]).length vc)) w2) := by
      rw [HAn.out]
      exact ⟨r', _, rfl, (GwStep.here HA.out.rep q1).trans hst, owns_base hout.1 q1.size, hout.2⟩
    clear hst hout HR
    generalize (sendS 2 c.num R.data.toList ++ [(⟨4, c.num, [], 0⟩ : EvS)]).length = n at HP ⊢
    go_wp2_with fail
    go_ret
    exact HP.out
  · have HAn : Hid (answerS g i c s.data.toList = (g.upd i { c with stage := 1 }, [⟨1, c.num, host, (port : Int)⟩])) := by
      show _ = _
      unfold answerS; rw [hj]
    obtain ⟨H, rfl⟩ : ∃ M : ByteArray, M.data.toList = host := ⟨⟨host.toArray⟩, rfl⟩
    rw [str_data]
    unfold str
    have HA1 := show Hid _ from HA.out.stays hq1
    have HA2 : Hid (AtConn r B (w1.setCell ⟨cb, 2, none⟩ (.int .i64 1)) gb (g.upd i { c with stage := 1 }) i cb { c with stage := 1 }) := HA1.out.stage 1
    have hFr : Fr r w (w1.setCell ⟨cb, 2, none⟩ (.int .i64 1)) := (Fr.ofQ hq1).trans (Grows.refl _ _) (HA1.out.fr 2 _)
    have hc2 := HA1.out.conn.c2
    have hf2 := HA1.out.conn.fz 2
    have hcl1 : cb < w1.heap.size := Nat.lt_of_lt_of_le hcl hq1.size
    have qW : Q (w1.setCell ⟨cb, 2, none⟩ (.int .i64 1)) ((w1.setCell ⟨cb, 2, none⟩ (.int .i64 1)).alloc (.cells #[.string H, .int .i64 (port : Int)] 156)) := (Q.refl _).alloc _
    have hn0 : ((w1.setCell ⟨cb, 2, none⟩ (.int .i64 1)).alloc (.cells #[.string H, .int .i64 (port : Int)] 156)).cell? ⟨cb, 0, none⟩ = some (.int .i64 (c.num : Int)) := qW.cell HA2.out.conn.c0
    have hz1 : w.heap.size ≤ w1.heap.size := hq1.size
    have HD := fun x hx => show Hid _ from dial_any c.num H port cb x hx
    clear hj HJ
    go_wp2_with fail
    refine wp_region_held_drew (S := fun w' => w'.cell? ⟨w1.heap.size, 0, none⟩ = some (.string H) ∧ w'.cell? ⟨w1.heap.size, 1, none⟩ = some (.int .i64 (port : Int)) ∧ w'.cell? ⟨cb, 0, none⟩ = some (.int .i64 (c.num : Int)) ∧ Q ((w1.setCell ⟨cb, 2, none⟩ (.int .i64 1)).alloc (.cells #[.string H, .int .i64 (port : Int)] 156)) w') (by kernel_rfl) ⟨by simp [go_sem], by simp [go_sem], hn0, (Q.refl _).drew⟩ (fun hHeld0 => ?_)
    refine wpAnyH_take (i := 0) (v := ?_) rfl (by kernel_rfl) (by kernel_rfl) (by kernel_rfl) (fun _ _ _ h => h) (Or.inl ⟨by rfl, ?_⟩) (by assumption) ?_
    rotate_left
    · (intro w hSw; (try dsimp only at hSw); go_simp; try with_reducible rfl)
    simp only [Act.put, List.getElem_toArray, List.getElem_cons_zero, List.setIfInBounds_toArray, List.set_cons_zero, List.set_cons_succ]
    refine wpAnyH_take (i := 1) (v := ?_) rfl (by kernel_rfl) (by kernel_rfl) (by kernel_rfl) (fun _ _ _ h => h) (Or.inl ⟨by rfl, ?_⟩) (by assumption) ?_
    rotate_left
    · (intro w hSw; (try dsimp only at hSw); go_simp; try with_reducible rfl)
    simp only [Act.put, List.getElem_toArray, List.getElem_cons_zero, List.getElem_cons_succ, List.setIfInBounds_toArray, List.set_cons_zero, List.set_cons_succ]
    refine wpAnyH_take (i := 2) (v := ?_) rfl (by kernel_rfl) (by kernel_rfl) (by kernel_rfl) (fun _ _ _ h => h) (Or.inl ⟨by rfl, ?_⟩) (by assumption) ?_
    rotate_left
    · (intro w hSw; (try dsimp only at hSw); go_simp; try with_reducible rfl)
    simp only [Act.put, List.getElem_toArray, List.getElem_cons_zero, List.getElem_cons_succ, List.setIfInBounds_toArray, List.set_cons_zero, List.set_cons_succ]
    refine wpAnyH_take (i := 3) (v := ?_) rfl (by kernel_rfl) (by kernel_rfl) (by kernel_rfl) (fun _ _ _ h => h) (Or.inl ⟨by rfl, ?_⟩) (by assumption) ?_
    rotate_left
    · (intro w hSw; (try dsimp only at hSw); go_simp; try with_reducible rfl)
    simp only [Act.put, List.getElem_toArray, List.getElem_cons_zero, List.getElem_cons_succ, List.setIfInBounds_toArray, List.set_cons_zero, List.set_cons_succ]
    refine wpAnyH_ready (rs := [4]) (by kernel_rfl) (by simp) ?_
    refine AllReadyH.cons rfl (fun K hK => ?_) AllReadyH.nil
    go_simp
    refine Calls.mono (Hid.out (HD _ hHeld0.2.2.1)) ?_
    rintro e w5 ⟨hq5, v5, rfl, hown5⟩
    have q5 := hHeld0.2.2.2.trans hq5
    obtain ⟨vo, vc, rfl⟩ := slice_form hown5
    have HP : Hid (GwPost r B gb (answerS g i c s.data.toList).1 (answerS g i c s.data.toList).2 w (.returned (.slice vo 1 vc)) w5) := by
      rw [HAn.out]
      have qq := qW.trans q5
      refine ⟨r, _, rfl, ⟨HA2.out.rep.stays qq, hFr.trans (Grows.refl _ _) (Fr.ofQ qq), Grows.refl _ _⟩, owns_base hown5 ?_, fun k hk => ?_⟩
      · show w.heap.size ≤ (World.alloc _ _).heap.size
        simp
        omega
      · have := (owns_lt hown5 k hk).1
        have h2 : w1.heap.size ≤ k := by
          have h3 : (((w1.setCell ⟨cb, 2, none⟩ (.int .i64 1)).alloc (.cells #[.string H, .int .i64 (port : Int)] 156)).drew).heap.size ≤ k := this
          simp at h3
          omega
        exact sized HA1.out.rep h2
    have hS5 : w5.cell? ⟨w1.heap.size, 0, none⟩ = some (.string H) ∧ w5.cell? ⟨w1.heap.size, 1, none⟩ = some (.int .i64 (port : Int)) ∧ w5.cell? ⟨cb, 0, none⟩ = some (.int .i64 (c.num : Int)) ∧ Q ((w1.setCell ⟨cb, 2, none⟩ (.int .i64 1)).alloc (.cells #[.string H, .int .i64 (port : Int)] 156)) w5 := ⟨hq5.cell hHeld0.1, hq5.cell hHeld0.2.1, hq5.cell hHeld0.2.2.1, q5⟩
    simp only [List.length_cons, List.length_nil, Nat.zero_add]
    clear hown5 HD
    go_wp2_with fail
    refine hK.out _ _ hS5 (fun hHeld1 => ?_)
    clear hK K hHeld0
    refine wpAnyH_take (i := 5) (v := ?_) rfl (by kernel_rfl) (by kernel_rfl) (by kernel_rfl) (fun _ _ _ h => h) (Or.inl ⟨by rfl, ?_⟩) (by assumption) ?_
    rotate_left
    · (intro w hSw; (try dsimp only at hSw); go_simp; try with_reducible rfl)
    simp only [Act.put, List.getElem_toArray, List.getElem_cons_zero, List.getElem_cons_succ, List.setIfInBounds_toArray, List.set_cons_zero, List.set_cons_succ]
    refine wpAnyH_done (by kernel_rfl) ?_ _
    clear hHeld1 hS5
    go_wp2_with fail
    go_ret
    exact HP.out
end Go.Proofs.YtfkggpminmonmaaGreatDoor

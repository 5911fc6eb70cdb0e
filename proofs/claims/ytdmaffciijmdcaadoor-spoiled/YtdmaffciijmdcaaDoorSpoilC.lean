/-
  The law 'Spoiled', walked: it answers true, whatever the rules and the numbers.
-/
import Derived.Test.YtdmaffciijmdcaaDoorMath3C
import Derived.Deep.RegionWith
namespace Go.Proofs.YtdmaffciijmdcaaDoor
namespace Plain
theorem take40 (l : List RawR) : (l.take 40).length ≤ 40 := by simp; omega
theorem comp_right (l : List RawR) : compileS (rulesT l) = .ok ((l.take 40).map ruleOf) := by
  have h := rulesT_len l
  unfold compileS
  rw [if_neg (by omega)]
  exact rules_right _ 1 (by have := take40 l; omega)
theorem comp_spoiled (l : List RawR) (c b : UInt8) (hc : spoils c = true) (k : Nat) (hk : (rulesT l)[k]? = some b) (hb : b ≠ 10) :
    compileS ((rulesT l).take k ++ c :: (rulesT l).drop (k + 1)) = .error (3, 1 + ((rulesT l).take k).count 10) := by
  have h := rulesT_len l
  have hk' : k < (rulesT l).length := (List.getElem?_eq_some_iff.1 hk).1
  unfold compileS
  rw [if_neg (by simp; omega)]
  exact rules_spoiled c hc _ 1 k b (by have := take40 l; omega) hk hb
theorem comp_cut (l : List RawR) (h0 : rulesT l ≠ []) : compileS ((rulesT l).take ((rulesT l).length - 1)) = .error (3, (rulesT l).count 10) := by
  have h := rulesT_len l
  unfold compileS
  rw [if_neg (by simp; omega)]
  have h40 := take40 l
  unfold rulesT at *
  generalize l.take 40 = t at *
  cases t with
  | nil => simp at h0
  | cons q t =>
    rw [rules_cut t q 1 (by simp at h40; omega), count_lines]
    simp; omega
theorem count_step {T : List UInt8} {i : Nat} {b : UInt8} (h : T[i]? = some b) : (T.take (i + 1)).count 10 = (T.take i).count 10 + if b = 10 then 1 else 0 := by
  obtain ⟨hi, rfl⟩ := List.getElem?_eq_some_iff.1 h
  rw [List.take_succ_eq_append_getElem hi, List.count_append]
  by_cases e : T[i] = 10
  · rw [if_pos e, e]; rfl
  · rw [if_neg e, List.count_eq_zero_of_not_mem (fun hm => e (List.mem_singleton.1 hm).symm)]
end Plain
open Go.RowKit Plain

theorem str_take (T : List UInt8) (k : Nat) : (⟨T.toArray⟩ : ByteArray).extract 0 k = ⟨(T.take k).toArray⟩ := by
  apply ByteArray.ext; rw [ByteArray.data_extract]; simp
theorem str_drop (T : List UInt8) (k : Nat) : (⟨T.toArray⟩ : ByteArray).extract k T.length = ⟨(T.drop k).toArray⟩ := by
  apply ByteArray.ext; rw [ByteArray.data_extract]; simp
  rw [List.take_of_length_le (by simp)]

theorem comp_ok {l : List UInt8} {w w' : World} {e : Ending} {rs : List RuleS} (h : CompPost l w e w') (hc : compileS l = .ok rs) : Q w w' ∧ ∃ pb, e = .returned (.tuple #[.pointer (some ⟨pb, 0, none⟩), .int .i64 0, .int .i64 0]) ∧ PolicyRep (New w w') w' pb rs := by
  obtain ⟨hq, ⟨en, ln, h1, _⟩ | ⟨rs', pb, h1, h2, h3⟩⟩ := h
  · rw [hc] at h1; cases h1
  · rw [hc] at h1; cases h1; exact ⟨hq, pb, h2, h3⟩
theorem comp_err {l : List UInt8} {w w' : World} {e : Ending} {en ln : Nat} (h : CompPost l w e w') (hc : compileS l = .error (en, ln)) : Q w w' ∧ e = .returned (.tuple #[.pointer none, .int .i64 (en : Nat), .int .i64 (ln : Nat)]) := by
  obtain ⟨hq, ⟨en', ln', h1, h2⟩ | ⟨rs', pb, h1, _⟩⟩ := h
  · rw [hc] at h1; cases h1; exact ⟨hq, h2⟩
  · rw [hc] at h1; cases h1

set_option maxRecDepth 100000 in
set_option maxHeartbeats 1600000 in
theorem spoiled_any (v : Value) (l : List RawR) (at_ raw : Int) (w : World) (hl : RawsAt w v l) (ha : I64 at_) (hr : I64 raw) :
    Calls Tryd.prog 5 #[v, .int .i64 at_, .int .i64 raw] w fun e w' => e = .returned (.bool true) ∧ Q w w' := by
  have HL : Hid (RawsAt w v l) := hl
  clear hl
  have hTl := rulesT_len l
  have H1 := show Hid _ from comp_right l
  have H2 : Hid (∀ (c b : UInt8) (k : Nat), spoils c = true → (rulesT l)[k]? = some b → b ≠ 10 → compileS ((rulesT l).take k ++ c :: (rulesT l).drop (k + 1)) = .error (3, 1 + ((rulesT l).take k).count 10)) := fun c b k h1 h2 h3 => comp_spoiled l c b h1 k h2 h3
  have H3 := fun h => show Hid _ from comp_cut l h
  have HRu := show Hid _ from rules_any v l w HL.out
  generalize rulesT l = T at *
  have hsz : (⟨T.toArray⟩ : ByteArray).size = T.length := rfl
  go_enter Tryd.func5, Tryd.ntmps5
  go_wp2_with fail
  refine Calls.mono HRu.out ?_
  rintro e w1 ⟨rfl, hq1⟩
  unfold str
  clear HRu HL
  go_wp2_with fail
  refine (compile_any ⟨T.toArray⟩ _ (by rw [mk_size]; unfold maxLen; omega)).mono ?_
  rintro e w2 hpost
  obtain ⟨hq2, pb, rfl, _⟩ := comp_ok hpost H1.out
  have hq := hq1.trans hq2
  clear hpost hq1 hq2 H1
  by_cases he : T = []
  · have hem : T.isEmpty = true := by rw [he]; rfl
    go_wp2_with fail
    go_ret
    exact ⟨rfl, hq⟩
  have hem : T.isEmpty = false := by
    cases h : T with
    | nil => exact absurd h he
    | cons => rfl
  have hpos : 0 < T.length := List.length_pos_iff.2 he
  have hk := pickN_lt at_ hpos
  go_wp2_with fail
  refine (pick_any at_ (T.length : Int) _ ha (by omega) (by omega)).mono ?_
  rintro e w3 ⟨rfl, rfl⟩
  rw [Int.toNat_natCast]
  generalize pickN at_ T.length = k at *
  go_wp2_with fail
  go_loopw [12, 13] (fun s i wr => ∃ j : Nat, j ≤ k ∧ i = .int .i64 j ∧ s = .int .i64 ((1 + (T.take j).count 10 : Nat) : Int) ∧ Q w wr) (fun _ i _ => k - (intOf i).toNat)
  case atStart => exact ⟨0, Nat.zero_le _, rfl, rfl, hq⟩
  case round =>
    obtain ⟨j, hj, rfl, rfl, hqr⟩ := hrel
    have hcl : (T.take j).count 10 ≤ 2560 := Nat.le_trans List.count_le_length (by simp; omega)
    by_cases hlt : j < k
    · have hjT : j < T.length := by omega
      have hget : T[j]? = some T[j] := List.getElem?_eq_getElem hjT
      have HC := show Hid _ from count_step hget
      by_cases hb : T[j] = 10
      · have hbt : (((⟨T.toArray⟩ : ByteArray)[j].toNat : Int) == 10) = true := by
          show (((T[j]).toNat : Int) == 10) = true
          rw [hb]; rfl
        rw [if_pos hb] at HC
        clear hget hb
        go_wp2_with fail
        exact ⟨⟨j + 1, by omega, by go_num, by rw [HC.out]; go_num, hqr⟩, by simp [intOf]; omega⟩
      · have hbt : (((⟨T.toArray⟩ : ByteArray)[j].toNat : Int) == 10) = false := by
          show (((T[j]).toNat : Int) == 10) = false
          rw [beq_eq_false_iff_ne]
          exact fun h => hb (UInt8.toNat_inj.1 (by show (T[j]).toNat = 10; omega))
        rw [if_neg hb] at HC
        clear hget hb
        go_wp2_with fail
        exact ⟨⟨j + 1, by omega, by go_num, by rw [HC.out]; rfl, hqr⟩, by simp [intOf]; omega⟩
    · have hjk : j = k := by omega
      subst hjk
      clear hj hq
      go_wp2_with fail
      go_loopw [14, 15] (fun s i wr => ∃ x : Nat, x ≤ T.length ∧ i = .int .i64 x ∧ s = .int .i64 (((T.take x).count 10 : Nat) : Int) ∧ Q w wr) (fun _ i _ => T.length - (intOf i).toNat)
      case atStart => exact ⟨0, Nat.zero_le _, rfl, rfl, hqr⟩
      case round =>
        clear hqr
        obtain ⟨x, hx, rfl, rfl, hqr⟩ := hrel
        have hxl : (T.take x).count 10 ≤ 2560 := Nat.le_trans List.count_le_length (by simp; omega)
        by_cases hxt : x < T.length
        · have hget : T[x]? = some T[x] := List.getElem?_eq_getElem hxt
          have HC := show Hid _ from count_step hget
          by_cases hb : T[x] = 10
          · have hbt : (((⟨T.toArray⟩ : ByteArray)[x].toNat : Int) == 10) = true := by
              show (((T[x]).toNat : Int) == 10) = true
              rw [hb]; rfl
            rw [if_pos hb] at HC
            clear hget hb
            go_wp2_with fail
            exact ⟨⟨x + 1, by omega, by go_num, by rw [HC.out]; go_num, hqr⟩, by simp [intOf]; omega⟩
          · have hbt : (((⟨T.toArray⟩ : ByteArray)[x].toNat : Int) == 10) = false := by
              show (((T[x]).toNat : Int) == 10) = false
              rw [beq_eq_false_iff_ne]
              exact fun h => hb (UInt8.toNat_inj.1 (by show (T[x]).toNat = 10; omega))
            rw [if_neg hb] at HC
            clear hget hb
            go_wp2_with fail
            exact ⟨⟨x + 1, by omega, by go_num, by rw [HC.out]; rfl, hqr⟩, by simp [intOf]; omega⟩
        · have hxe : x = T.length := by omega
          subst hxe
          rw [List.take_of_length_le (Nat.le_refl _)] at hxl ⊢
          go_upto_region 20 with fail
          go_cut [16] (fun s16 wx => ∃ c : UInt8, spoils c = true ∧ s16 = .int .u8 c.toNat ∧ Q w wx)
          case first =>
            have h8 := pickN_lt raw (n := 8) (by decide)
            go_wp2_with fail
            refine (pick_any raw 8 _ hr (by decide) (by decide)).mono ?_
            rintro e w4 ⟨rfl, rfl⟩
            rw [show ((8 : Int).toNat) = 8 from rfl]
            generalize pickN raw 8 = s at *
            match s, h8 with
            | 0, _ => go_wp2_with fail; go_meet; exact ⟨0, rfl, rfl, hqr.alloc _⟩
            | 1, _ => go_wp2_with fail; go_meet; exact ⟨9, rfl, rfl, hqr.alloc _⟩
            | 2, _ => go_wp2_with fail; go_meet; exact ⟨13, rfl, rfl, hqr.alloc _⟩
            | 3, _ => go_wp2_with fail; go_meet; exact ⟨33, rfl, rfl, hqr.alloc _⟩
            | 4, _ => go_wp2_with fail; go_meet; exact ⟨59, rfl, rfl, hqr.alloc _⟩
            | 5, _ => go_wp2_with fail; go_meet; exact ⟨65, rfl, rfl, hqr.alloc _⟩
            | 6, _ => go_wp2_with fail; go_meet; exact ⟨127, rfl, rfl, hqr.alloc _⟩
            | 7, _ => go_wp2_with fail; go_meet; exact ⟨255, rfl, rfl, hqr.alloc _⟩
          case rest =>
            clear hqr
            obtain ⟨c, hc, rfl, hqr⟩ := hcut
            have hsub : (T.length : Int) - 1 = ((T.length - 1 : Nat) : Int) := by omega
            go_upto_if 74 with fail
            go_cut [17, 18, 19] (fun _ _ _ wx => Q w wx)
            case first =>
              by_cases hb : T[j] = 10
              · have hbt : (((⟨T.toArray⟩ : ByteArray)[j].toNat : Int) != 10) = false := by
                  show (((T[j]).toNat : Int) != 10) = false
                  rw [hb]; rfl
                clear hb
                go_wp2_with fail
                go_meet
                exact hqr
              · have hbt : (((⟨T.toArray⟩ : ByteArray)[j].toNat : Int) != 10) = true := by
                  show (((T[j]).toNat : Int) != 10) = true
                  rw [bne_iff_ne]
                  exact fun h => hb (UInt8.toNat_inj.1 (by show (T[j]).toNat = 10; omega))
                have HE := show Hid _ from H2.out c T[j] j hc (List.getElem?_eq_getElem hk) hb
                have CC : ∀ w, Hid (Calls Tryd.prog 7 #[.string ((⟨T.toArray⟩ : ByteArray).extract 0 j ++ (⟨#[c]⟩ : ByteArray) ++ (⟨T.toArray⟩ : ByteArray).extract (j + 1) T.length)] w fun e w' => e = .returned (.tuple #[.pointer none, .int .i64 3, .int .i64 ((1 + (T.take j).count 10 : Nat) : Int)]) ∧ Q w w') := fun w => by
                  show Calls _ _ _ _ _
                  rw [show (⟨#[c]⟩ : ByteArray) = ⟨[c].toArray⟩ from rfl, str_take, str_drop, str_app, str_app]
                  refine (compile_any _ w (by rw [mk_size]; unfold maxLen; simp; omega)).mono ?_
                  rintro e w' h
                  have hh := comp_err h (by simpa using HE.out)
                  exact ⟨hh.2, hh.1⟩
                clear hb
                go_upto_region 22 with fail
                refine wp_region_held_drew (S := fun w' => Q w w') (by kernel_rfl) hqr.drew (fun hHeld => ?_)
                refine wpAnyH_take (i := 0) (v := ?_) rfl (by kernel_rfl) (by kernel_rfl) (by kernel_rfl) (fun _ _ _ h => h) (Or.inl ⟨by rfl, ?_⟩) (by assumption) ?_
                rotate_left
                · (intro w hSw; (try dsimp only at hSw); go_simp; try with_reducible rfl)
                simp only [Act.put, List.getElem_toArray, List.getElem_cons_zero, List.setIfInBounds_toArray, List.set_cons_zero, List.set_cons_succ]
                refine wpAnyH_take (i := 1) (v := ?_) rfl (by kernel_rfl) (by kernel_rfl) (by kernel_rfl) (fun _ _ _ h => h) (Or.inl ⟨by rfl, ?_⟩) (by assumption) ?_
                rotate_left
                · (intro w hSw; (try dsimp only at hSw); go_simp; try with_reducible rfl)
                simp only [Act.put, List.getElem_toArray, List.getElem_cons_zero, List.getElem_cons_succ, List.setIfInBounds_toArray, List.set_cons_zero, List.set_cons_succ]
                refine wpAnyH_take (i := 2) (v := ?_) rfl (by kernel_rfl) (by kernel_rfl) (by kernel_rfl) (fun _ _ _ h => h) (Or.inl ⟨by rfl, ?_⟩) (by assumption) ?_
                rotate_left
                · (intro w hSw; (try dsimp only at hSw); go_simp; rw [if_pos (show j ≤ T.length by omega)])
                simp only [Act.put, List.getElem_toArray, List.getElem_cons_zero, List.getElem_cons_succ, List.setIfInBounds_toArray, List.set_cons_zero, List.set_cons_succ]
                refine wpAnyH_take (i := 3) (v := ?_) rfl (by kernel_rfl) (by kernel_rfl) (by kernel_rfl) (fun _ _ _ h => h) (Or.inl ⟨by rfl, ?_⟩) (by assumption) ?_
                rotate_left
                · (intro w hSw; (try dsimp only at hSw); go_simp; try with_reducible rfl)
                simp only [Act.put, List.getElem_toArray, List.getElem_cons_zero, List.getElem_cons_succ, List.setIfInBounds_toArray, List.set_cons_zero, List.set_cons_succ]
                refine wpAnyH_take (i := 7) (v := ?_) rfl (by kernel_rfl) (by kernel_rfl) (by kernel_rfl) (fun _ _ _ h => h) (Or.inl ⟨by rfl, ?_⟩) (by assumption) ?_
                rotate_left
                · (intro w hSw; (try dsimp only at hSw); go_simp; try with_reducible rfl)
                simp only [Act.put, List.getElem_toArray, List.getElem_cons_zero, List.getElem_cons_succ, List.setIfInBounds_toArray, List.set_cons_zero, List.set_cons_succ]
                refine wpAnyH_take (i := 8) (v := ?_) rfl (by kernel_rfl) (by kernel_rfl) (by kernel_rfl) (fun _ _ _ h => h) (Or.inl ⟨by rfl, ?_⟩) (by assumption) ?_
                rotate_left
                · (intro w hSw; (try dsimp only at hSw); go_simp; try with_reducible rfl)
                simp only [Act.put, List.getElem_toArray, List.getElem_cons_zero, List.getElem_cons_succ, List.setIfInBounds_toArray, List.set_cons_zero, List.set_cons_succ]
                refine wpAnyH_take (i := 9) (v := ?_) rfl (by kernel_rfl) (by kernel_rfl) (by kernel_rfl) (fun _ _ _ h => h) (Or.inl ⟨by rfl, ?_⟩) (by assumption) ?_
                rotate_left
                · (intro w hSw; (try dsimp only at hSw); go_simp; rw [IntWalk.i64_in _ (by constructor <;> omega)]; done)
                simp only [Act.put, List.getElem_toArray, List.getElem_cons_zero, List.getElem_cons_succ, List.setIfInBounds_toArray, List.set_cons_zero, List.set_cons_succ]
                refine wpAnyH_take (i := 10) (v := ?_) rfl (by kernel_rfl) (by kernel_rfl) (by kernel_rfl) (fun _ _ _ h => h) (Or.inl ⟨by rfl, ?_⟩) (by assumption) ?_
                rotate_left
                · (intro w hSw; (try dsimp only at hSw); go_simp; rw [if_pos (by constructor <;> omega)])
                simp only [Act.put, List.getElem_toArray, List.getElem_cons_zero, List.getElem_cons_succ, List.setIfInBounds_toArray, List.set_cons_zero, List.set_cons_succ]
                refine wpAnyH_ready (rs := [4]) (by kernel_rfl) (by simp) ?_
                refine AllReadyH.cons rfl (fun K hK => ?_) AllReadyH.nil
                go_simp
                refine hK.out _ _ ((hqr.alloc _).drew) (fun hHeld2 => ?_)
                clear hK K hHeld
                have hback : (convert 52 9 (.slice (some ⟨wc.heap.size, 0, none⟩) 1 1)).run Tryd.prog ((wc.alloc (.cells #[.int .u8 (c.toNat : Int)] 5)).drew) = .ok (.string ⟨[c].toArray⟩) ((wc.alloc (.cells #[.int .u8 (c.toNat : Int)] 5)).drew) :=
                  run_convert_bytes_back _ 52 9 5 ⟨wc.heap.size, 0, none⟩ 1 [c] Tryd.underlying52 Tryd.underlying5 Tryd.underlying9 (fun i hi => by
                    have : i = 0 := by simp at hi; exact hi
                    subst this
                    simp [go_sem, Addr.add])
                refine wpAnyH_ready (rs := [5]) (by kernel_rfl) (by simp) ?_
                refine AllReadyH.cons rfl (fun K hK => ?_) AllReadyH.nil
                go_simp
                refine hK.out _ _ hHeld2 (fun hHeld3 => ?_)
                clear hK K hHeld2
                refine wpAnyH_take (i := 6) (v := ?_) rfl (by kernel_rfl) (by kernel_rfl) (by kernel_rfl) (fun _ _ _ h => h) (Or.inl ⟨by rfl, ?_⟩) (by assumption) ?_
                rotate_left
                · (intro w hSw; (try dsimp only at hSw); go_simp; rw [if_neg (by omega)])
                simp only [Act.put, List.getElem_toArray, List.getElem_cons_zero, List.getElem_cons_succ, List.setIfInBounds_toArray, List.set_cons_zero, List.set_cons_succ]
                refine wpAnyH_take (i := 11) (v := ?_) rfl (by kernel_rfl) (by kernel_rfl) (by kernel_rfl) (fun _ _ _ h => h) (Or.inl ⟨by rfl, ?_⟩) (by assumption) ?_
                rotate_left
                · (intro w hSw; (try dsimp only at hSw); go_simp; rw [if_neg (by omega)])
                simp only [Act.put, List.getElem_toArray, List.getElem_cons_zero, List.getElem_cons_succ, List.setIfInBounds_toArray, List.set_cons_zero, List.set_cons_succ]
                refine wpAnyH_ready (rs := [12]) (by kernel_rfl) (by simp) ?_
                refine AllReadyH.cons rfl (fun K hK => ?_) AllReadyH.nil
                go_simp
                refine Calls.mono (Hid.out (CC _)) ?_
                rintro e w5 ⟨rfl, hq5⟩
                go_wp2_with fail
                refine hK.out _ _ (hHeld3.trans hq5) (fun hHeld4 => ?_)
                clear hK K hHeld3
                refine wpAnyH_take (i := 13) (v := ?_) rfl (by kernel_rfl) (by kernel_rfl) (by kernel_rfl) (fun _ _ _ h => h) (Or.inl ⟨by rfl, ?_⟩) (by assumption) ?_
                rotate_left
                · (intro w hSw; (try dsimp only at hSw); go_simp; try with_reducible rfl)
                simp only [Act.put, List.getElem_toArray, List.getElem_cons_zero, List.getElem_cons_succ, List.setIfInBounds_toArray, List.set_cons_zero, List.set_cons_succ]
                refine wpAnyH_take (i := 14) (v := ?_) rfl (by kernel_rfl) (by kernel_rfl) (by kernel_rfl) (fun _ _ _ h => h) (Or.inl ⟨by rfl, ?_⟩) (by assumption) ?_
                rotate_left
                · (intro w hSw; (try dsimp only at hSw); go_simp; try with_reducible rfl)
                simp only [Act.put, List.getElem_toArray, List.getElem_cons_zero, List.getElem_cons_succ, List.setIfInBounds_toArray, List.set_cons_zero, List.set_cons_succ]
                refine wpAnyH_take (i := 15) (v := ?_) rfl (by kernel_rfl) (by kernel_rfl) (by kernel_rfl) (fun _ _ _ h => h) (Or.inl ⟨by rfl, ?_⟩) (by assumption) ?_
                rotate_left
                · (intro w hSw; (try dsimp only at hSw); go_simp; try with_reducible rfl)
                simp only [Act.put, List.getElem_toArray, List.getElem_cons_zero, List.getElem_cons_succ, List.setIfInBounds_toArray, List.set_cons_zero, List.set_cons_succ]
                refine wpAnyH_take (i := 16) (v := ?_) rfl (by kernel_rfl) (by kernel_rfl) (by kernel_rfl) (fun _ _ _ h => h) (Or.inl ⟨by rfl, ?_⟩) (by assumption) ?_
                rotate_left
                · (intro w hSw; (try dsimp only at hSw); go_simp; try with_reducible rfl)
                simp only [Act.put, List.getElem_toArray, List.getElem_cons_zero, List.getElem_cons_succ, List.setIfInBounds_toArray, List.set_cons_zero, List.set_cons_succ]
                refine wpAnyH_take (i := 17) (v := ?_) rfl (by kernel_rfl) (by kernel_rfl) (by kernel_rfl) (fun _ _ _ h => h) (Or.inl ⟨by rfl, ?_⟩) (by assumption) ?_
                rotate_left
                · (intro w hSw; (try dsimp only at hSw); go_simp; try with_reducible rfl)
                simp only [Act.put, List.getElem_toArray, List.getElem_cons_zero, List.getElem_cons_succ, List.setIfInBounds_toArray, List.set_cons_zero, List.set_cons_succ]
                refine wpAnyH_take (i := 18) (v := ?_) rfl (by kernel_rfl) (by kernel_rfl) (by kernel_rfl) (fun _ _ _ h => h) (Or.inl ⟨by rfl, ?_⟩) (by assumption) ?_
                rotate_left
                · (intro w hSw; (try dsimp only at hSw); go_simp; try with_reducible rfl)
                simp only [Act.put, List.getElem_toArray, List.getElem_cons_zero, List.getElem_cons_succ, List.setIfInBounds_toArray, List.set_cons_zero, List.set_cons_succ]
                refine wpAnyH_take (i := 19) (v := ?_) rfl (by kernel_rfl) (by kernel_rfl) (by kernel_rfl) (fun _ _ _ h => h) (Or.inl ⟨by rfl, ?_⟩) (by assumption) ?_
                rotate_left
                · (intro w hSw; (try dsimp only at hSw); go_simp; try with_reducible rfl)
                simp only [Act.put, List.getElem_toArray, List.getElem_cons_zero, List.getElem_cons_succ, List.setIfInBounds_toArray, List.set_cons_zero, List.set_cons_succ]
                refine wpAnyH_done (by kernel_rfl) ?_ _
                go_wp2_with fail
                go_meet
                exact hHeld4
            case rest =>
              have hq := hcut
              clear hqr hcut H2
              go_wp2_with fail
              rw [str_take]
              refine (compile_any _ _ (by rw [mk_size]; unfold maxLen; simp; omega)).mono ?_
              rintro e w6 h
              obtain ⟨hq6, rfl⟩ := comp_err h (H3 he).out
              go_wp2_with fail
              go_ret
              exact ⟨by simp, hq.trans hq6⟩
end Go.Proofs.YtdmaffciijmdcaaDoor

/-
  The statements' own functions: a text of rules.
-/
import Derived.Test.YtfkggpminmonmaaDoorText
namespace Go.Proofs.YtfkggpminmonmaaDoor
namespace Plain
def rulesT (l : List RawR) : List UInt8 := (l.take 40).flatMap ruleT
end Plain
open Go.RowKit Plain

def RawAt (w : World) (b o : Nat) (r : RawR) : Prop :=
  w.cell? ⟨b, o, none⟩ = some (.int .i64 r.says) ∧ w.cell? ⟨b, o + 1, none⟩ = some (.int .i64 r.who) ∧ w.cell? ⟨b, o + 2, none⟩ = some (.int .i64 r.whr) ∧ w.cell? ⟨b, o + 3, none⟩ = some (.int .i64 r.bts) ∧
  w.cell? ⟨b, o + 4, none⟩ = some (.int .i64 r.frm) ∧ w.cell? ⟨b, o + 5, none⟩ = some (.int .i64 r.til) ∧ w.cell? ⟨b, o + 6, none⟩ = some (.int .i64 r.beg) ∧ w.cell? ⟨b, o + 7, none⟩ = some (.int .i64 r.fin)

/-- A list of rules that came in. -/
def RawsAt (w : World) (v : Value) (l : List RawR) : Prop :=
  (l = [] ∧ ∃ a cap, v = .slice a 0 cap) ∨
  ∃ b off cap, v = .slice (some ⟨b, off, none⟩) l.length cap ∧ l.length ≤ 9223372036854775807 ∧ ∀ i r, l[i]? = some r → RawAt w b (off + i * 8) r ∧ RawOk r

theorem RawAt.stays {w w' : World} {b o : Nat} {r : RawR} (h : RawAt w b o r) (q : Q w w') : RawAt w' b o r := by
  obtain ⟨h0, h1, h2, h3, h4, h5, h6, h7⟩ := h
  exact ⟨q.cell h0, q.cell h1, q.cell h2, q.cell h3, q.cell h4, q.cell h5, q.cell h6, q.cell h7⟩
theorem RawsAt.stays {w w' : World} {v : Value} {l : List RawR} (h : RawsAt w v l) (q : Q w w') : RawsAt w' v l := by
  rcases h with h | ⟨b, off, cap, h1, h2, h3⟩
  · exact .inl h
  · exact .inr ⟨b, off, cap, h1, h2, fun i r hi => ⟨(h3 i r hi).1.stays q, (h3 i r hi).2⟩⟩

theorem ruleT_len (r : RawR) : (ruleT r).length ≤ 64 := by
  have l1 := saysT_len r
  have l2 := whoT_len r
  have l3 := whereT_len r
  have l4 := portT_len r
  have l5 := whenT_len r
  unfold ruleT
  simp; omega
theorem flat_len (l : List RawR) : (l.flatMap ruleT).length ≤ 64 * l.length := by
  induction l with
  | nil => simp
  | cons r l ih => have := ruleT_len r; simp at ih ⊢; omega
theorem rulesT_len (l : List RawR) : (rulesT l).length ≤ 2560 := by
  have := flat_len (l.take 40)
  have h : (l.take 40).length ≤ 40 := by simp; omega
  unfold rulesT; omega

theorem take_next {l : List RawR} {k : Nat} {r : RawR} (h : l[k]? = some r) : (l.take (k + 1)).flatMap ruleT = (l.take k).flatMap ruleT ++ ruleT r := by
  obtain ⟨hk, rfl⟩ := List.getElem?_eq_some_iff.1 h
  rw [List.take_succ_eq_append_getElem hk, List.flatMap_append]; simp

set_option maxRecDepth 100000 in
set_option maxHeartbeats 800000 in
theorem rules_any (v : Value) (l : List RawR) (w : World) (hl : RawsAt w v l) :
    Calls Tryd.prog 11 #[v] w fun e w' => e = .returned (str (rulesT l)) ∧ Q w w' := by
  rcases hl with ⟨rfl, a, cap, rfl⟩ | ⟨b, off, cap, rfl, hlen, hat⟩
  · go_enter Tryd.func11, Tryd.ntmps11
    go_wp2_with fail
    refine wp_loop_rounds 1 ?_
    rw [rounds_succ]
    go_wp2_with fail
    go_ret
    exact ⟨rfl, Q.refl _⟩
  · have HAt : Hid (∀ i r, l[i]? = some r → RawAt w b (off + i * 8) r ∧ RawOk r) := hat
    clear hat
    go_enter Tryd.func11, Tryd.ntmps11
    go_wp2_with fail
    go_loopw [3, 4] (fun s i wr => ∃ k : Nat, k ≤ l.length ∧ k ≤ 40 ∧ i = .int .i64 k ∧ s = .string ⟨((l.take k).flatMap ruleT).toArray⟩ ∧ Q w wr) (fun _ i _ => l.length - (intOf i).toNat)
    case atStart => exact ⟨0, Nat.zero_le _, by omega, rfl, rfl, Q.refl _⟩
    case round =>
      obtain ⟨k, hk1, hk2, rfl, rfl, hq⟩ := hrel
      have hfl : ((l.take k).flatMap ruleT).length ≤ 2560 := by
        have h1 := flat_len (l.take k)
        have h2 : (l.take k).length ≤ 40 := by simp; omega
        omega
      by_cases hlt : k < l.length ∧ k < 40
      · obtain ⟨hlt1, hlt2⟩ := hlt
        have hget : l[k]? = some l[k] := List.getElem?_eq_getElem hlt1
        obtain ⟨hra, hok⟩ := HAt.out k _ hget
        have hra' := hra.stays hq
        have HT := show Hid _ from take_next hget
        generalize l[k] = r at *
        obtain ⟨d0, d1, d2, d3, d4, d5, d6, d7⟩ := hra'
        have HO : Hid (RawOk r) := hok
        have hrl := ruleT_len r
        clear hra hok hget
        generalize hg : (l.take k).flatMap ruleT = pre at *
        have G := show Hid _ from hg
        clear hg
        have TX : ∀ w, Hid (Calls Tryd.prog 26 #[.agg #[.int .i64 r.says, .int .i64 r.who, .int .i64 r.whr, .int .i64 r.bts, .int .i64 r.frm, .int .i64 r.til, .int .i64 r.beg, .int .i64 r.fin]] w fun e w' => e = .returned (.string ⟨(ruleT r).toArray⟩) ∧ Q w w') := fun w => text_any r w HO.out
        generalize ruleT r = tx at *
        have dk : decide ((k : Int) < 40) = true := decide_eq_true (by omega)
        go_wp2_with fail
        refine Calls.mono (Hid.out (TX _)) ?_
        rintro e w1 ⟨rfl, hq1⟩
        go_wp2_with fail
        exact ⟨⟨k + 1, by omega, by omega, by go_num, by rw [HT.out, ← str_app], hq.trans hq1⟩, by simp [intOf]; omega⟩
      · have HE : Hid ((l.take k).flatMap ruleT = rulesT l) := by
          show _ = _
          unfold rulesT
          by_cases h : k = 40
          · rw [h]
          · rw [show k = l.length by omega, List.take_of_length_le (Nat.le_refl _), List.take_of_length_le (by omega)]
        by_cases h1 : k < l.length
        · have dk : decide ((k : Int) < 40) = false := decide_eq_false (by omega)
          go_wp2_with fail
          go_ret
          exact ⟨by unfold str; rw [← HE.out]; rfl, hq⟩
        · go_wp2_with fail
          go_ret
          exact ⟨by unfold str; rw [← HE.out]; rfl, hq⟩
end Go.Proofs.YtfkggpminmonmaaDoor

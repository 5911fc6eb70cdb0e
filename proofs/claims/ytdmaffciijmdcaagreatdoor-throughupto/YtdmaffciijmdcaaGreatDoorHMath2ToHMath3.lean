/-
  Plain: a head that was made reads back.
-/
import Derived.Test.YtdmaffciijmdcaaGreatDoorMath4ToHMath
import Derived.Test.YtdmaffciijmdcaaGreatDoorSpoilToKHead
namespace Go.Proofs.YtdmaffciijmdcaaGreatDoor.Plain

theorem byte_all (p : UInt8 → Bool) (h : ∀ n : Fin 256, p (UInt8.ofNat n.val) = true) (c : UInt8) : p c = true := by
  have := h ⟨c.toNat, c.toNat_lt⟩
  simpa using this
theorem field_facts (c : UInt8) (h : fieldB c = true) : seenB c = true ∧ ofValue c = true ∧ lowB c = c ∧ c ≠ 58 ∧ c ≠ 32 ∧ c ≠ 13 := by
  have := byte_all (fun c => !fieldB c || (seenB c && ofValue c && (lowB c == c) && (c != 58) && (c != 32) && (c != 13))) (by decide +kernel) c
  simp only [h, Bool.not_true, Bool.false_or, Bool.and_eq_true, beq_iff_eq, bne_iff_ne] at this
  obtain ⟨⟨⟨⟨⟨h1, h2⟩, h3⟩, h4⟩, h5⟩, h6⟩ := this
  exact ⟨h1, h2, h3, h4, h5, h6⟩
theorem seen_facts (c : UInt8) (h : seenB c = true) : ofValue c = true ∧ c ≠ 32 ∧ c ≠ 13 := by
  have := byte_all (fun c => !seenB c || (ofValue c && (c != 32) && (c != 13))) (by decide +kernel) c
  simp only [h, Bool.not_true, Bool.false_or, Bool.and_eq_true, bne_iff_ne] at this
  exact ⟨this.1.1, this.1.2, this.2⟩

theorem split_line {l : List UInt8} (t : List UInt8) (h : (13 : UInt8) ∉ l) : Lib.split (l ++ 13 :: 10 :: t) [13, 10] = l :: Lib.split t [13, 10] := by
  have hi : Lib.index (l ++ 13 :: 10 :: t) [13, 10] = (l.length : Nat) := by
    have h0 : Lib.index (13 :: 10 :: t) [13, 10] = 0 := by
      rw [Lib.index]
      simp [List.isPrefixOf]
    have := index_skip [10] (13 :: 10 :: t) l h
    rw [h0] at this
    simpa using this
  have hd : (l ++ 13 :: 10 :: t).drop (l.length + ([13, 10] : List UInt8).length) = t := by simp
  unfold Lib.split
  rw [Lib.count_hit (by simp) hi, hd, Nat.add_comm, Lib.splitK, hi]
  have hne : ((l.length : Nat) : Int) ≠ -1 := by omega
  simp [hne]
theorem split_last {l : List UInt8} (h : (13 : UInt8) ∉ l) : Lib.split l [13, 10] = [l] := by
  have hi : Lib.index l [13, 10] = -1 := by
    have := index_skip [10] [] l h
    have h0 : Lib.index [] [13, 10] = -1 := by decide
    rw [h0] at this
    simpa using this
  unfold Lib.split
  rw [Lib.count_miss hi]
  rfl

/-- A head's lines. -/
def line1 (host : List UInt8) (port : Nat) : List UInt8 := connectB ++ 32 :: (host ++ 58 :: digits port ++ 32 :: http11)
def hostB : List UInt8 := [72, 111, 115, 116]
def authB : List UInt8 := [80, 114, 111, 120, 121, 45, 65, 117, 116, 104, 111, 114, 105, 122, 97, 116, 105, 111, 110]
def line2 (host : List UInt8) : List UInt8 := hostB ++ 58 :: (32 :: host)
def line3 (code : List UInt8) : List UInt8 := authB ++ 58 :: (32 :: (basic ++ code))
def bodyOf (host : List UInt8) (port : Nat) (code : List UInt8) : List UInt8 := line1 host port ++ 13 :: 10 :: (line2 host ++ 13 :: 10 :: line3 code)
theorem headT_body (who : Nat) (word host : List UInt8) (port : Nat) : headT who word host port = bodyOf host port (b64 (tenantS who ++ [58] ++ word)) ++ endB := by
  simp [headT, bodyOf, line1, line2, line3, h1B, h2B, h3B, connectB, http11, hostB, authB, basic]

structure HostOk (host : List UInt8) : Prop where
  bytes : ∀ c ∈ host, fieldB c = true
  ne : host ≠ []
theorem HostOk.not {host : List UInt8} (h : HostOk host) (x : UInt8) (hx : fieldB x = false) : x ∉ host := fun hm => by rw [h.bytes x hm] at hx; cases hx
theorem line1_no {host : List UInt8} (h : HostOk host) (port : Nat) (x : UInt8) (hx : x = 13) : x ∉ line1 host port := by
  subst hx
  unfold line1
  intro hm
  simp only [List.mem_append, List.mem_cons] at hm
  rcases hm with hm | hm | ((hm | hm | hm) | hm | hm)
  · revert hm; decide
  · exact absurd hm (by decide)
  · exact h.not 13 (by decide) hm
  · exact absurd hm (by decide)
  · exact not_digits 13 (by decide) hm
  · exact absurd hm (by decide)
  · revert hm; decide
theorem line2_no {host : List UInt8} (h : HostOk host) : (13 : UInt8) ∉ line2 host := by
  unfold line2
  intro hm
  simp only [List.mem_append, List.mem_cons] at hm
  rcases hm with hm | hm | hm | hm
  · revert hm; decide
  · exact absurd hm (by decide)
  · exact absurd hm (by decide)
  · exact h.not 13 (by decide) hm
theorem line3_no {code : List UInt8} (h : ∀ c ∈ code, seenB c = true) : (13 : UInt8) ∉ line3 code := by
  unfold line3
  intro hm
  simp only [List.mem_append, List.mem_cons] at hm
  rcases hm with hm | hm | hm | hm | hm
  · revert hm; decide
  · exact absurd hm (by decide)
  · exact absurd hm (by decide)
  · revert hm; decide
  · exact (seen_facts 13 (h 13 hm)).2.2 rfl

theorem first_made {host : List UInt8} (h : HostOk host) (port : Nat) : firstS (line1 host port) = some (connectB, host ++ 58 :: digits port) := by
  have hp : parts 32 (line1 host port) = [connectB, host ++ 58 :: digits port, http11] := by
    unfold line1
    rw [parts_first (by decide), parts_first, parts_alone (by decide)]
    intro hm
    simp only [List.mem_append, List.mem_cons] at hm
    rcases hm with hm | hm | hm
    · exact h.not 32 (by decide) hm
    · exact absurd hm (by decide)
    · exact not_digits 32 (by decide) hm
  unfold firstS
  rw [hp]
  have hok : firstOk connectB (host ++ 58 :: digits port) http11 = true := by
    have h1 : allB seenB (host ++ 58 :: digits port) = true := by
      unfold allB
      rw [List.all_eq_true]
      intro c hc
      simp only [List.mem_append, List.mem_cons] at hc
      rcases hc with hc | rfl | hc
      · exact (field_facts c (h.bytes c hc)).1
      · decide
      · exact (field_facts c (fieldB_fig (digits_mem hc))).1
    have h2 : (host ++ 58 :: digits port).isEmpty = false := by simp
    unfold firstOk
    rw [h1, h2]
    rfl
  simp only [hok, if_true]

theorem trim_one {l : List UInt8} {x y : UInt8} (h1 : l.head? = some x) (hx : x ≠ 32) (h2 : l.getLast? = some y) (hy : y ≠ 32) : Lib.trimB (32 :: l) 32 = l := by
  have e1 : Lib.trimRightB (32 :: l) 32 = 32 :: l := by
    unfold Lib.trimRightB
    rw [List.reverse_cons]
    have : l.reverse.head? = some y := by rw [List.head?_reverse]; exact h2
    cases hr : l.reverse with
    | nil => rw [hr] at this; cases this
    | cons a t =>
      rw [hr] at this
      cases this
      have hl : l = t.reverse ++ [y] := by
        have := congrArg List.reverse hr
        simpa using this
      rw [List.cons_append, List.dropWhile_cons, if_neg (by simpa using hy)]
      simp [hl]
  unfold Lib.trimB
  rw [e1]
  unfold Lib.trimLeftB
  rw [List.dropWhile_cons, if_pos (by simp)]
  cases l with
  | nil => rfl
  | cons a t =>
    cases h1
    rw [List.dropWhile_cons, if_neg (by simpa using hx)]
theorem field_made {name v : List UInt8} {x y : UInt8} (hn : (58 : UInt8) ∉ name) (hn1 : name.isEmpty = false) (hn2 : allB ofName name = true) (hv : ∀ c ∈ v, ofValue c = true) (h1 : v.head? = some x) (hx : x ≠ 32) (h2 : v.getLast? = some y) (hy : y ≠ 32) : fieldS (name ++ 58 :: (32 :: v)) = some (lower name, v) := by
  have hc : cutAt 58 (name ++ 58 :: (32 :: v)) = some (name, 32 :: v) := cutAt_some.2 ⟨rfl, hn⟩
  unfold fieldS
  rw [hc]
  have hall : allB ofValue (32 :: v) = true := by
    unfold allB
    rw [List.all_cons, List.all_eq_true.2 hv]
    decide
  simp only [hn1, hn2, hall, Bool.not_false, Bool.and_self, if_true, trim_one h1 hx h2 hy]
theorem lower_same {l : List UInt8} (h : ∀ c ∈ l, fieldB c = true) : lower l = l := by
  unfold lower
  conv => rhs; rw [← List.map_id l]
  apply List.map_congr_left
  intro c hc
  exact (field_facts c (h c hc)).2.2.1
theorem ends_of {l : List UInt8} (h : l ≠ []) (p : UInt8 → Prop) (hp : ∀ c ∈ l, p c) : (∃ x, l.head? = some x ∧ p x) ∧ ∃ y, l.getLast? = some y ∧ p y := by
  constructor
  · cases l with
    | nil => exact absurd rfl h
    | cons a t => exact ⟨a, rfl, hp a (by simp)⟩
  · refine ⟨l.getLast h, List.getLast?_eq_some_getLast h, hp _ (List.getLast_mem h)⟩

theorem head_made {host code : List UInt8} (hh : HostOk host) (port : Nat) (hc : ∀ c ∈ code, seenB c = true) (hne : code ≠ []) : readHead (bodyOf host port code ++ endB) = some ⟨connectB, host ++ 58 :: digits port, [([104, 111, 115, 116], host), (proxyB, basic ++ code)]⟩ := by
  have hsuf : Lib.hasSuffix (bodyOf host port code ++ endB) endB = true := by
    unfold Lib.hasSuffix
    rw [List.isSuffixOf_iff_suffix]
    exact List.suffix_append _ _
  have hbody : Lib.trimSuffix (bodyOf host port code ++ endB) endB = bodyOf host port code := by
    unfold Lib.trimSuffix
    rw [if_pos hsuf]
    have : (bodyOf host port code ++ endB).length - endB.length = (bodyOf host port code).length := by rw [List.length_append]; omega
    rw [this, List.take_left]
  have hlines : headLines (bodyOf host port code ++ endB) = [line1 host port, line2 host, line3 code] := by
    unfold headLines
    rw [hbody]
    unfold bodyOf
    rw [split_line _ (line1_no hh port 13 rfl), split_line _ (line2_no hh), split_last (line3_no hc)]
  have f2 : fieldS (line2 host) = some ([104, 111, 115, 116], host) := by
    obtain ⟨⟨x, hx1, hx2⟩, y, hy1, hy2⟩ := ends_of hh.ne (fun c => c ≠ 32) (fun c hm => (field_facts c (hh.bytes c hm)).2.2.2.2.1)
    exact field_made (by decide) (by decide) (by decide) (fun c hm => (field_facts c (hh.bytes c hm)).2.1) hx1 hx2 hy1 hy2
  have f3 : fieldS (line3 code) = some (proxyB, basic ++ code) := by
    obtain ⟨_, y, hy1, hy2⟩ := ends_of hne (fun c => c ≠ 32) (fun c hm => (seen_facts c (hc c hm)).2.1)
    have hl : (basic ++ code).getLast? = some y := by rw [List.getLast?_append, hy1]; rfl
    exact field_made (x := 66) (by decide) (by decide) (by decide) (fun c hm => by
      simp only [List.mem_append] at hm
      rcases hm with hm | hm
      · revert c; decide
      · exact (seen_facts c (hc c hm)).1) rfl (by decide) hl hy2
  unfold readHead
  rw [if_pos hsuf, hlines]
  simp only [first_made hh port, fieldsS, f2, f3]
theorem target_made {host : List UInt8} (hh : HostOk host) {port : Nat} (hp : port ≤ 65535) {x : List UInt8 × List Nat} (hr : readHost host = some x) : targetS (host ++ 58 :: digits port) = some (host, port) := by
  have hc : cutAt 58 (host ++ 58 :: digits port) = some (host, digits port) := cutAt_some.2 ⟨rfl, hh.not 58 (by decide)⟩
  unfold targetS
  rw [hc]
  simp only [hr, number_digits port 65535 hp, lower_same hh.bytes]

/-- The end is found when all is there, and not ahead. -/
theorem cut_made {host code : List UInt8} (hh : HostOk host) (port : Nat) (hc : ∀ c ∈ code, seenB c = true) (hl : (bodyOf host port code ++ endB).length < 1000) :
    cutHead (bodyOf host port code ++ endB) = some (bodyOf host port code ++ endB, []) ∧ ∀ m, m < (bodyOf host port code ++ endB).length → cutHead ((bodyOf host port code ++ endB).take m) = none := by
  have hix : Lib.index (bodyOf host port code ++ endB) endB = ((bodyOf host port code).length : Nat) := by
    have h2 : line2 host = 72 :: ([111, 115, 116] ++ 58 :: (32 :: host)) := rfl
    have h3 : line3 code = 80 :: (authB.tail ++ 58 :: (32 :: (basic ++ code))) := rfl
    have := index_three (a := line1 host port) (b := [111, 115, 116] ++ 58 :: (32 :: host)) (c := authB.tail ++ 58 :: (32 :: (basic ++ code))) (y := 72) (z := 80) (line1_no hh port 13 rfl) (by rw [← h2]; exact line2_no hh) (by rw [← h3]; exact line3_no hc)
    rw [← h2, ← h3] at this
    unfold bodyOf
    simpa using this
  have he : endB.length = 4 := rfl
  constructor
  · unfold cutHead
    rw [List.take_of_length_le (by omega), hix, if_pos (by omega)]
    rw [List.length_append, he] at hl
    have h1 : ((bodyOf host port code).length : Int).toNat + 4 = (bodyOf host port code ++ endB).length := by rw [List.length_append, he]; omega
    rw [h1, List.take_of_length_le (Nat.le_refl _), List.drop_eq_nil_of_le (Nat.le_refl _)]
  · intro m hm
    have hno : Lib.index ((bodyOf host port code ++ endB).take m) endB = -1 := by
      rcases Lib.index_spec ((bodyOf host port code ++ endB).take m) endB with ⟨h1, _⟩ | ⟨i, h1, h2, h3, _⟩
      · exact h1
      · exfalso
        have hr := Lib.index_room ((bodyOf host port code ++ endB).take m) endB (by omega)
        rw [h1, List.length_take, he] at hr
        rcases Lib.index_spec (bodyOf host port code ++ endB) endB with ⟨h4, _⟩ | ⟨j, h4, h5, h6, h7⟩
        · rw [hix] at h4; omega
        · rw [hix] at h4
          have hj : i < j := by rw [List.length_append, he] at hm; omega
          have := h7 i hj
          have hocc : Lib.occAt (bodyOf host port code ++ endB) endB i = true := by
            unfold Lib.occAt at h3 ⊢
            rw [List.isPrefixOf_iff_prefix] at h3 ⊢
            rw [List.drop_take] at h3
            exact h3.trans (List.take_prefix _ _)
          rw [hocc] at this
          cases this
    unfold cutHead
    have hlt : ((bodyOf host port code ++ endB).take m).length < 1000 := by rw [List.length_take]; omega
    rw [List.take_of_length_le (by omega), hno, if_neg (by decide), if_pos hlt]
end Go.Proofs.YtdmaffciijmdcaaGreatDoor.Plain
/-
  Plain: the statements' users are known by their credentials alone; what their heads are answered.
-/
namespace Go.Proofs.YtdmaffciijmdcaaGreatDoor.Plain

theorem secB_seen (n : Int) (k : Nat) : seenB (secB n k) = true := by
  have h := secB_nat n k
  have : (pickN n 1048576 + k * 31) % 94 < 94 := Nat.mod_lt _ (by decide)
  unfold seenB
  rw [h]
  rw [Bool.and_eq_true, decide_eq_true_eq, decide_eq_true_eq]
  omega
theorem secret_seen (n : Int) (k : Nat) : ∀ c ∈ secretT n k, seenB c = true := by
  intro c hc
  unfold secretT at hc
  obtain ⟨i, _, rfl⟩ := List.mem_map.1 hc
  exact secB_seen n i
theorem secret_ok {s : List UInt8} (h1 : 1 ≤ s.length) (h2 : s.length ≤ 12) (h : ∀ c ∈ s, seenB c = true) : secretOk s = true := by
  unfold secretOk allB
  rw [Bool.and_eq_true, decide_eq_true_eq, List.all_eq_true]
  exact ⟨⟨h1, h2⟩, h⟩
def tensT (n : Int) : List (List UInt8 × List UInt8) := (usersT n).map fun u => (u.1, credS u.1 u.2)
theorem users_made (n : Int) : usersFrom 0 [] (usersT n) = .ok (tensT n) := by
  have hl := secretT_len n (3 + pickN n 7)
  have h7 := pickN_lt n (n := 7) (by decide)
  have hse := secret_seen n (3 + pickN n 7)
  have s1 : secretOk (secretT n (3 + pickN n 7)) = true := secret_ok (by omega) (by omega) hse
  have s2 : secretOk (secretT n (3 + pickN n 7) ++ [98]) = true := secret_ok (by simp) (by simp; omega) (fun c hc => by
    simp only [List.mem_append, List.mem_singleton] at hc
    rcases hc with hc | rfl
    · exact hse c hc
    · decide)
  have s3 : secretOk (99 :: secretT n (3 + pickN n 7)) = true := secret_ok (by simp) (by simp; omega) (fun c hc => by
    simp only [List.mem_cons] at hc
    rcases hc with rfl | hc
    · decide
    · exact hse c hc)
  have t1 : tenantOk [97, 110, 110] = true := by decide
  have t2 : tenantOk [98, 111, 98] = true := by decide
  have t3 : tenantOk [99, 121] = true := by decide
  unfold tensT usersT
  generalize secretT n (3 + pickN n 7) = S at *
  simp only [usersFrom, withS, userS, t1, t2, t3, s1, s2, s3, and_self, if_true, List.all_nil, List.nil_append, List.all_cons, List.cons_append, List.map_cons, List.map_nil]
  simp
theorem new_made (l : List RawR) (n : Int) (m : Nat) (hm : m < 10080) : newS (rulesT l) (usersT n) (m : Int) = .ok ⟨(l.take 40).map ruleOf, tensT n, (m : Int), 0, []⟩ := by
  unfold newS
  rw [comp_right]
  have h3 : ¬ 8 < (usersT n).length := by simp [usersT]
  simp only [h3, if_false, users_made]
  rw [if_neg (by omega)]

theorem word_cut {t1 s1 t2 s2 : List UInt8} (h1 : (58 : UInt8) ∉ t1) (h2 : (58 : UInt8) ∉ t2) (h : t1 ++ [58] ++ s1 = t2 ++ [58] ++ s2) : t1 = t2 ∧ s1 = s2 := by
  have a : cutAt 58 (t1 ++ [58] ++ s1) = some (t1, s1) := cutAt_some.2 ⟨by simp, h1⟩
  have b : cutAt 58 (t2 ++ [58] ++ s2) = some (t2, s2) := cutAt_some.2 ⟨by simp, h2⟩
  rw [h, b] at a
  cases a
  exact ⟨rfl, rfl⟩
theorem cred_eq {t1 s1 t2 s2 : List UInt8} (h1 : (58 : UInt8) ∉ t1) (h2 : (58 : UInt8) ∉ t2) : (credS t1 s1 == basic ++ b64 (t2 ++ [58] ++ s2)) = (t1 == t2 && s1 == s2) := by
  rw [Bool.eq_iff_iff, beq_iff_eq, Bool.and_eq_true, beq_iff_eq, beq_iff_eq]
  unfold credS
  constructor
  · intro h
    exact word_cut h1 h2 (b64_inj _ _ (List.append_cancel_left h))
  · rintro ⟨rfl, rfl⟩; rfl
theorem by_right (n : Int) (w : Nat) (hw : w < 3) : byS (tensT n) (basic ++ b64 (tenantS w ++ [58] ++ wordT n w)) = some (tenantS w) := by
  have hc : ∀ t s : List UInt8, (58 : UInt8) ∉ t → (credS t s == basic ++ b64 (tenantS w ++ [58] ++ wordT n w)) = (t == tenantS w && s == wordT n w) := fun t s ht => cred_eq ht (by
    have : w = 0 ∨ w = 1 ∨ w = 2 := by omega
    rcases this with rfl | rfl | rfl <;> decide)
  unfold byS tensT usersT
  simp only [List.map_cons, List.map_nil, List.find?_cons, hc [97, 110, 110] _ (by decide), hc [98, 111, 98] _ (by decide), hc [99, 121] _ (by decide)]
  have : w = 0 ∨ w = 1 ∨ w = 2 := by omega
  rcases this with rfl | rfl | rfl <;> simp [tenantS, wordT, usersT]
theorem by_other (n : Int) (w : Nat) (hw : w < 3) : byS (tensT n) (basic ++ b64 (tenantS w ++ [58] ++ (wordT n w ++ [120]))) = none := by
  have hc : ∀ t s : List UInt8, (58 : UInt8) ∉ t → (credS t s == basic ++ b64 (tenantS w ++ [58] ++ (wordT n w ++ [120]))) = (t == tenantS w && s == wordT n w ++ [120]) := fun t s ht => cred_eq ht (by
    have : w = 0 ∨ w = 1 ∨ w = 2 := by omega
    rcases this with rfl | rfl | rfl <;> decide)
  unfold byS tensT usersT
  simp only [List.map_cons, List.map_nil, List.find?_cons, hc [97, 110, 110] _ (by decide), hc [98, 111, 98] _ (by decide), hc [99, 121] _ (by decide)]
  have : w = 0 ∨ w = 1 ∨ w = 2 := by omega
  have hne : ∀ a : List UInt8, (a == a ++ [120]) = false := fun a => by
    rw [beq_eq_false_iff_ne]
    intro h
    have := congrArg List.length h
    simp at this
  have hne2 : ∀ a : List UInt8, (a ++ [98] == a ++ [98, 120]) = false := fun a => by
    rw [beq_eq_false_iff_ne]
    intro h
    have := congrArg List.length h
    simp at this
  rcases this with rfl | rfl | rfl <;> simp [tenantS, wordT, usersT, hne, hne2]

theorem judge_made {host code : List UInt8} (hh : HostOk host) {port : Nat} (hp : port ≤ 65535) (hc : ∀ c ∈ code, seenB c = true) (hne : code ≠ []) {x : List UInt8 × List Nat} (hr : readHost host = some x) (rs : List RuleS) (tens : List (List UInt8 × List UInt8)) (m : Int) :
    judgeS rs tens m (bodyOf host port code ++ endB) = match byS tens (basic ++ code) with
      | none => .error whoB
      | some t => if (decideS rs t host (port : Int) m).1 = true then .ok (host, port) else .error denyB := by
  have ho : onlyS [([104, 111, 115, 116], host), (proxyB, basic ++ code)] proxyB = some (basic ++ code) := by
    unfold onlyS
    have h1 : (([104, 111, 115, 116] : List UInt8) == proxyB) = false := by decide
    simp [h1]
  have hw : whoIs tens [([104, 111, 115, 116], host), (proxyB, basic ++ code)] = byS tens (basic ++ code) := by
    unfold whoIs
    rw [ho]
  unfold judgeS
  rw [head_made hh port hc hne]
  simp [target_made hh hp hr, hw]
  cases byS tens (basic ++ code) <;> rfl

theorem hostT_ok (q : AskR) : HostOk (hostT q) := by
  unfold hostT
  split
  · have := nameS_ok (pickN q.whr 12)
    exact ⟨this.2.2.2.2, nameS_ne _⟩
  · refine ⟨fun c hc => ?_, ?_⟩
    · rcases dotted_fig _ c hc with h | rfl
      · exact fieldB_fig h
      · decide
    · unfold dotted
      simp
theorem b64_ne {l : List UInt8} (h : l ≠ []) : b64 l ≠ [] := by
  rcases l with _ | ⟨a, _ | ⟨b, _ | ⟨c, r⟩⟩⟩
  · exact absurd rfl h
  · simp [b64]
  · simp [b64]
  · simp [b64]
/-- What a head of the statement's is answered. -/
def guardS (l : List RawR) (q : AskR) (other : Bool) : Except (List UInt8) (List UInt8 × Nat) :=
  if other = true then .error whoB else if (decidedK q 0 (l.take 40)).1 = true then .ok (hostT q, pickN q.prt 65536) else .error denyB
def secT (n : Int) (q : AskR) (other : Bool) : List UInt8 := if other = true then wordT n (pickN q.who 3) ++ [120] else wordT n (pickN q.who 3)
theorem guard_made (l : List RawR) (q : AskR) (n : Int) (other : Bool) : judgeS ((l.take 40).map ruleOf) (tensT n) ((pickN q.mnt 10080 : Nat) : Int) (headT (pickN q.who 3) (secT n q other) (hostT q) (pickN q.prt 65536)) = guardS l q other := by
  have hw := pickN_lt q.who (n := 3) (by decide)
  have hp := pickN_lt q.prt (n := 65536) (by decide)
  rw [headT_body, judge_made (hostT_ok q) (by omega) (b64_bytes _) (b64_ne (by simp)) (host_read q)]
  unfold guardS secT
  cases other
  · simp only [Bool.false_eq_true, if_false]
    rw [by_right n _ hw]
    simp only [decide_same]
  · simp only [if_true]
    rw [by_other n _ hw]
theorem head_short (q : AskR) (n : Int) (other : Bool) : (headT (pickN q.who 3) (secT n q other) (hostT q) (pickN q.prt 65536)).length < 1000 := by
  have h1 : (hostT q).length ≤ 23 := by
    unfold hostT
    split
    · have := nameS_len (pickN q.whr 12); omega
    · exact dotted_len _ (pickN_lt _ (by decide))
  have h2 := digits_len6 (pickN q.prt 65536) (by have := pickN_lt q.prt (n := 65536) (by decide); omega)
  have h3 : (secT n q other).length ≤ 12 := by
    have hl := secretT_len n (3 + pickN n 7)
    have h7 := pickN_lt n (n := 7) (by decide)
    have hw := pickN_lt q.who (n := 3) (by decide)
    have hword : (wordT n (pickN q.who 3)).length ≤ 11 := by
      have : pickN q.who 3 = 0 ∨ pickN q.who 3 = 1 ∨ pickN q.who 3 = 2 := by omega
      rcases this with e | e | e <;> rw [e] <;> simp [wordT, usersT] <;> omega
    unfold secT
    split
    · simp; omega
    · omega
  have h4 : (tenantS (pickN q.who 3)).length ≤ 3 := tenantS_len _
  have h5 := b64_len2 (tenantS (pickN q.who 3) ++ [58] ++ secT n q other)
  unfold headT
  simp [h1B, h2B, h3B, endB] at h5 ⊢
  omega
end Go.Proofs.YtdmaffciijmdcaaGreatDoor.Plain

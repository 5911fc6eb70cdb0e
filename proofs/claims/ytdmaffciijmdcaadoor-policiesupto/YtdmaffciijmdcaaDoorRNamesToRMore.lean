/-
  The document's answer: names, addresses, hosts.
-/
import Derived.Test.YtdmaffciijmdcaaDoorRLabelC
namespace Go.Proofs.YtdmaffciijmdcaaDoor
namespace Plain
theorem parts_count_le (c : UInt8) (l : List UInt8) : (parts c l).length ≤ l.length + 1 := by
  rw [parts_length]
  have : l.count c ≤ l.length := List.count_le_length
  omega
theorem name_bad {T p : List UInt8} (h : p ∈ parts 46 T) (hp : labelOk p = false) : nameOk T = false := by
  unfold nameOk
  have : (parts 46 T).all labelOk = false := by
    cases hh : (parts 46 T).all labelOk with
    | false => rfl
    | true => rw [List.all_eq_true.1 hh p h] at hp; cases hp
  rw [this]; simp
theorem name_good {T last : List UInt8} (hall : ∀ p ∈ parts 46 T, labelOk p = true) (hl : (parts 46 T)[(parts 46 T).length - 1]? = some last) : nameOk T = (decide ((parts 46 T).length ≤ 5) && !figsS last) := by
  have h1 : (parts 46 T).getLastD [] = last := by rw [List.getLastD_eq_getLast?, List.getLast?_eq_getElem?, hl]; rfl
  have h2 : (parts 46 T).all labelOk = true := List.all_eq_true.2 hall
  have h3 := hall last (List.mem_of_getElem? hl)
  have h4 : 0 < last.length := by
    cases hz : last with
    | nil => rw [hz] at h3; cases h3
    | cons => simp
  unfold nameOk figsS
  rw [h1, h2, decide_eq_true h4]
  simp
def octVal (ns : List Nat) : Nat := ns.foldl (fun a n => a * 256 + n) 0
theorem octVal_snoc (ns : List Nat) (n : Nat) : octVal (ns ++ [n]) = octVal ns * 256 + n := by simp [octVal]
def addrR (l : List UInt8) : Int := match address l with
  | some ns => (octVal ns : Int)
  | none => -1
theorem octets_snoc {ps : List (List UInt8)} {p : List UInt8} {ns : List Nat} {n : Nat} (h : octets ps = some ns) (hn : number p 255 = some n) : octets (ps ++ [p]) = some (ns ++ [n]) := by
  induction ps generalizing ns with
  | nil => cases h; simp [octets, hn]
  | cons q ps ih =>
    rw [octets] at h
    rw [List.cons_append, octets]
    cases h1 : number q 255 with
    | none => rw [h1] at h; cases h
    | some m =>
      rw [h1] at h
      cases h2 : octets ps with
      | none => rw [h2] at h; cases h
      | some ms => rw [h2] at h; cases h; rw [ih h2]; rfl
theorem octets_bad {ps : List (List UInt8)} {p : List UInt8} (hp : p ∈ ps) (hn : number p 255 = none) : octets ps = none := by
  induction ps with
  | nil => cases hp
  | cons q ps ih =>
    rw [octets]
    rcases List.mem_cons.1 hp with rfl | hp
    · rw [hn]
    · cases number q 255 with
      | none => rfl
      | some n => rw [ih hp]
theorem addr_len {T : List UInt8} (h : ¬ (parts 46 T).length = 4) : addrR T = -1 := by unfold addrR address; rw [if_neg h]
theorem addr_bad {T p : List UInt8} (hp : p ∈ parts 46 T) (hn : number p 255 = none) : addrR T = -1 := by
  unfold addrR address
  by_cases h : (parts 46 T).length = 4
  · rw [if_pos h, octets_bad hp hn]
  · rw [if_neg h]
theorem addr_good {T : List UInt8} {ns : List Nat} (h : (parts 46 T).length = 4) (ho : octets (parts 46 T) = some ns) : addrR T = (octVal ns : Int) := by unfold addrR address; rw [if_pos h, ho]
theorem numR_cases (p : List UInt8) (most : Nat) : (number p most = none ∧ numR p most = -1) ∨ ∃ n, number p most = some n ∧ numR p most = (n : Int) ∧ n ≤ most := by
  unfold numR
  cases h : number p most with
  | none => exact .inl ⟨rfl, rfl⟩
  | some n => exact .inr ⟨n, rfl, rfl, number_le h⟩
end Plain
open Go.RowKit Plain

set_option maxRecDepth 100000 in
set_option maxHeartbeats 1600000 in
theorem rname_any (T : List UInt8) (w : World) (hT : T.length ≤ 2097152) :
    Calls Tryd.prog 77 #[.string ⟨T.toArray⟩] w fun e w' => e = .returned (.bool (nameOk T)) ∧ Q w w' := by
  have HB : Hid (∀ p ∈ parts 46 T, labelOk p = false → nameOk T = false) := fun p h hp => name_bad h hp
  have HG : Hid (∀ last, (∀ p ∈ parts 46 T, labelOk p = true) → (parts 46 T)[(parts 46 T).length - 1]? = some last → nameOk T = (decide ((parts 46 T).length ≤ 5) && !figsS last)) := fun last h1 h2 => name_good h1 h2
  have HL : Hid (∀ p ∈ parts 46 T, p.length ≤ 4194304) := fun p h => by have := parts_le 46 T p h; omega
  have hcnt := parts_count_le 46 T
  have HNE := show Hid _ from parts_ne 46 T
  have HP := show Hid _ from rparts_any T 46 w (by omega)
  go_enter Tryd.func77, Tryd.ntmps77
  go_wp2_with fail
  refine Calls.mono HP.out ?_
  rintro e w1 ⟨v, rfl, ⟨g, cap, rfl, hcell⟩, hq⟩
  have HC := show Hid _ from hcell
  clear hcell HP
  generalize parts 46 T = l at *
  go_wp2_with fail
  go_loopw [4, 5] (fun i _ wr => ∃ k : Nat, k ≤ l.length ∧ i = .int .i64 k ∧ Hid (∀ j p, j < k → l[j]? = some p → labelOk p = true) ∧ wr = w1) (fun i _ _ => l.length - (intOf i).toNat)
  case atStart => exact ⟨0, Nat.zero_le _, rfl, (fun j p hj => by omega), rfl⟩
  case round =>
    obtain ⟨k, hk, rfl, hall, rfl⟩ := hrel
    by_cases hlt : k < l.length
    · have hget : l[k]? = some l[k] := List.getElem?_eq_getElem hlt
      have hck := HC.out k _ hget
      have HLA := fun w => show Hid _ from rlabel_any l[k] w (HL.out _ (List.mem_of_getElem? hget))
      have HB1 := show Hid _ from HB.out _ (List.mem_of_getElem? hget)
      have HGT := show Hid _ from hget
      generalize l[k] = p at *
      clear hget
      go_wp2_with fail
      refine Calls.mono (Hid.out (HLA _)) ?_
      rintro e w2 ⟨rfl, rfl⟩
      cases hlab : labelOk p with
      | false =>
        have HS := show Hid _ from HB1.out hlab
        clear hlab
        go_wp2_with fail
        go_ret
        exact ⟨by rw [HS.out]; rfl, hq⟩
      | true =>
        have HLB := show Hid _ from hlab
        clear hlab
        go_wp2_with fail
        refine ⟨⟨k + 1, by omega, by go_num, ?_, by trivial⟩, by simp [intOf]; omega⟩
        intro j p' hj hp'
        by_cases hjk : j = k
        · subst hjk
          rw [HGT.out] at hp'
          cases hp'
          exact HLB.out
        · exact hall.out j p' (by omega) hp'
    · have hkl : k = l.length := by omega
      subst hkl
      have hpos : 0 < l.length := List.length_pos_iff.2 HNE.out
      have hgl : l[l.length - 1]? = some l[l.length - 1] := List.getElem?_eq_getElem (by omega)
      have hck := HC.out _ _ hgl
      have HFI := fun w => show Hid _ from rfigures_any l[l.length - 1] w (HL.out _ (List.mem_of_getElem? hgl))
      have HS := show Hid _ from HG.out _ (fun p hp => by
        obtain ⟨j, hj, rfl⟩ := List.getElem_of_mem hp
        exact hall.out j _ hj (List.getElem?_eq_getElem hj)) hgl
      generalize l[l.length - 1] = last at *
      clear hgl
      have hsub : (l.length : Int) - 1 = ((l.length - 1 : Nat) : Int) := by omega
      go_wp2_with fail
      refine Calls.mono (Hid.out (HFI _)) ?_
      rintro e w2 ⟨rfl, rfl⟩
      by_cases h5 : l.length ≤ 5
      · have d5 : decide ((l.length : Int) ≤ 5) = true := decide_eq_true (by omega)
        rw [decide_eq_true h5] at HS
        go_wp2_with fail
        go_ret
        exact ⟨by rw [HS.out]; rfl, hq⟩
      · have d5 : decide ((l.length : Int) ≤ 5) = false := decide_eq_false (by omega)
        rw [decide_eq_false h5] at HS
        go_wp2_with fail
        go_ret
        exact ⟨by rw [HS.out]; rfl, hq⟩

set_option maxRecDepth 100000 in
set_option maxHeartbeats 1600000 in
theorem raddr_any (T : List UInt8) (w : World) (hT : T.length ≤ 2097152) :
    Calls Tryd.prog 74 #[.string ⟨T.toArray⟩] w fun e w' => e = .returned (.int .i64 (addrR T)) ∧ Q w w' := by
  have HA0 : Hid (¬ (parts 46 T).length = 4 → addrR T = -1) := addr_len
  have HA1 : Hid (∀ p ∈ parts 46 T, number p 255 = none → addrR T = -1) := fun p h hn => addr_bad h hn
  have HA2 : Hid (∀ ns, (parts 46 T).length = 4 → octets (parts 46 T) = some ns → addrR T = (octVal ns : Int)) := fun ns h ho => addr_good h ho
  have HL : Hid (∀ p ∈ parts 46 T, p.length ≤ 4194304) := fun p h => by have := parts_le 46 T p h; omega
  have hcnt := parts_count_le 46 T
  have HP := show Hid _ from rparts_any T 46 w (by omega)
  go_enter Tryd.func74, Tryd.ntmps74
  go_wp2_with fail
  refine Calls.mono HP.out ?_
  rintro e w1 ⟨v, rfl, ⟨g, cap, rfl, hcell⟩, hq⟩
  have HC := show Hid _ from hcell
  clear hcell HP
  generalize parts 46 T = l at *
  by_cases h4 : l.length = 4
  case neg =>
    have d4 : ((l.length : Int) != 4) = true := by rw [bne_iff_ne]; omega
    have HS := show Hid _ from HA0.out h4
    go_wp2_with fail
    go_ret
    exact ⟨by rw [HS.out]; rfl, hq⟩
  have d4 : ((l.length : Int) != 4) = false := by rw [bne_eq_false_iff_eq]; omega
  go_wp2_with fail
  go_loopw [4, 5, 6] (fun a i _ wr => ∃ (k : Nat) (ns : List Nat), k ≤ 4 ∧ i = .int .i64 k ∧ a = .int .i64 ((octVal ns : Nat) : Int) ∧ octVal ns < 256 ^ k ∧ Hid (octets (l.take k) = some ns) ∧ wr = w1) (fun _ i _ _ => 4 - (intOf i).toNat)
  case atStart => exact ⟨0, [], by omega, rfl, rfl, by simp [octVal], rfl, rfl⟩
  case round =>
    obtain ⟨k, ns, hk, rfl, rfl, hov, hoc, rfl⟩ := hrel
    by_cases hlt : k < 4
    · have hpw : 256 ^ k ≤ 256 ^ 3 := Nat.pow_le_pow_right (by decide) (by omega)
      have hget : l[k]? = some l[k] := List.getElem?_eq_getElem (by omega)
      have hck := HC.out k _ hget
      have HNU := fun w => show Hid _ from rnumber_any l[k] 255 w (HL.out _ (List.mem_of_getElem? hget)) (by decide)
      have HB1 := show Hid _ from HA1.out _ (List.mem_of_getElem? hget)
      have HT := show Hid (l.take (k + 1) = l.take k ++ [l[k]]) from List.take_succ_eq_append_getElem (by omega)
      generalize l[k] = p at *
      clear hget
      have dk : decide ((k : Int) < 4) = true := decide_eq_true (by omega)
      go_wp2_with fail
      refine Calls.mono (Hid.out (HNU _)) ?_
      rintro e w2 ⟨rfl, rfl⟩
      rcases numR_cases p 255 with ⟨hn, hr⟩ | ⟨n, hn, hr, hle⟩
      · rw [hr]
        have HS := show Hid _ from HB1.out hn
        clear hr hn
        go_wp2_with fail
        go_ret
        exact ⟨by rw [HS.out]; rfl, hq⟩
      · rw [hr]
        have HO := show Hid _ from octets_snoc hoc.out hn
        have hstep := octVal_snoc ns n
        have hpp : 256 ^ (k + 1) = 256 ^ k * 256 := Nat.pow_succ 256 k
        have HST := show Hid _ from hstep
        have HPP := show Hid _ from hpp
        clear hr hn hstep hpp
        generalize octVal ns = ov at *
        generalize 256 ^ k = pw at *
        have d0 : decide ((n : Int) < 0) = false := decide_eq_false (by omega)
        go_wp2_with fail
        refine ⟨⟨k + 1, ns ++ [n], by omega, by go_num, ?_, ?_, ?_, by trivial⟩, by simp [intOf]; omega⟩
        · rw [HST.out]; go_num
        · rw [HST.out, HPP.out]; omega
        · show octets _ = _
          rw [HT.out]; exact HO.out
    · have hk4 : k = 4 := by omega
      subst hk4
      have hoc' : octets l = some ns := by have := hoc.out; rwa [List.take_of_length_le (by omega)] at this
      have HS := show Hid _ from HA2.out ns h4 hoc'
      clear hoc' hoc
      have hb4 : octVal ns < 4294967296 := Nat.lt_of_lt_of_le hov (by decide)
      clear hov
      go_wp2_with fail
      go_ret
      exact ⟨by rw [HS.out]; rfl, hq⟩

def hostR (T : List UInt8) : Bool := nameOk T || decide (0 ≤ addrR T)

set_option maxRecDepth 100000 in
set_option maxHeartbeats 800000 in
theorem rhost_any (T : List UInt8) (w : World) (hT : T.length ≤ 2097152) :
    Calls Tryd.prog 48 #[.string ⟨T.toArray⟩] w fun e w' => e = .returned (.bool (hostR T)) ∧ Q w w' := by
  have HN := fun w => show Hid _ from rname_any T w hT
  have HA := fun w => show Hid _ from raddr_any T w hT
  have HH : Hid (hostR T = (nameOk T || decide (0 ≤ addrR T))) := rfl
  generalize hostR T = hr at *
  generalize addrR T = ad at *
  go_enter Tryd.func48, Tryd.ntmps48
  go_wp2_with fail
  refine Calls.mono (Hid.out (HN _)) ?_
  rintro e w1 ⟨rfl, hq1⟩
  cases hn : nameOk T with
  | true =>
    rw [hn] at HH
    go_wp2_with fail
    go_ret
    exact ⟨by rw [HH.out]; rfl, hq1⟩
  | false =>
    rw [hn] at HH
    go_wp2_with fail
    refine Calls.mono (Hid.out (HA _)) ?_
    rintro e w2 ⟨rfl, hq2⟩
    go_wp2_with fail
    go_ret
    exact ⟨by rw [HH.out]; rfl, hq1.trans hq2⟩
end Go.Proofs.YtdmaffciijmdcaaDoor
/-
  The document's answer: small letters, pairs of numbers, how many addresses.
-/
namespace Go.Proofs.YtdmaffciijmdcaaDoor
namespace Plain
theorem lower_step {T : List UInt8} {k : Nat} {b : UInt8} (hk : T[k]? = some b) : lower (T.take (k + 1)) = lower (T.take k) ++ [lowB b] := by
  obtain ⟨hlt, rfl⟩ := List.getElem?_eq_some_iff.1 hk
  unfold lower
  rw [List.take_succ_eq_append_getElem hlt, List.map_append]; rfl
theorem lowB_up {b : UInt8} (h1 : 65 ≤ b.toNat) (h2 : b.toNat ≤ 90) : (lowB b).toNat = b.toNat + 32 := by
  unfold lowB
  rw [if_pos ⟨h1, h2⟩, UInt8.toNat_add]
  show (b.toNat + 32) % 256 = _
  omega
theorem lowB_same {b : UInt8} (h : ¬ (65 ≤ b.toNat ∧ b.toNat ≤ 90)) : lowB b = b := by unfold lowB; rw [if_neg h]

def sizeR (n : Nat) : Nat := 2 ^ (32 - n)
def pairR (l : List UInt8) (most : Nat) : Int × Int := match span l most with
  | some (x, y) => ((x : Int), (y : Int))
  | none => (-1, -1)
theorem num_no45 {l : List UInt8} {most n : Nat} (h : number l most = some n) : (45 : UInt8) ∉ l := by
  unfold number at h
  split at h
  · rename_i hx
    have hf := hx.1
    unfold numForm at hf
    simp only [Bool.and_eq_true] at hf
    intro hm
    have := List.all_eq_true.1 hf.1.2 45 hm
    cases this
  · cases h
theorem pair_two {T a b : List UInt8} {most : Nat} (h : parts 45 T = [a, b]) : pairR T most = match number a most, number b most with
    | some x, some y => ((x : Int), (y : Int))
    | _, _ => (-1, -1) := by
  rw [parts_cut] at h
  unfold pairR span
  cases hc : cutAt 45 T with
  | none => rw [hc] at h; cases h
  | some x =>
    obtain ⟨a', r⟩ := x
    rw [hc] at h
    injection h with h1 h2
    subst h1
    have hr : r = b := by
      rw [parts_cut] at h2
      cases hc2 : cutAt 45 r with
      | none => rw [hc2] at h2; injection h2
      | some y => rw [hc2] at h2; injection h2 with _ h3; exact absurd h3 (parts_ne _ _)
    subst hr
    dsimp only
    cases number a' most with
    | none => rfl
    | some x => cases number r most <;> rfl
theorem pair_not {T : List UInt8} {most : Nat} (h : ¬ (parts 45 T).length = 2) : pairR T most = (-1, -1) := by
  rw [parts_cut] at h
  unfold pairR span
  cases hc : cutAt 45 T with
  | none => rfl
  | some x =>
    obtain ⟨a, r⟩ := x
    rw [hc] at h
    dsimp only
    cases number a most with
    | none => rfl
    | some x =>
      cases hr : number r most with
      | none => rfl
      | some y =>
        exfalso
        apply h
        show (a :: parts 45 r).length = 2
        rw [parts_alone0 (num_no45 hr)]; rfl
end Plain
open Go.RowKit Plain

theorem pair_form (v : Int × Int) (x y : Int) (h : v = (x, y)) : v.1 = x ∧ v.2 = y := by rw [h]; exact ⟨rfl, rfl⟩

set_option maxRecDepth 100000 in
set_option maxHeartbeats 1600000 in
theorem rlower_any (T : List UInt8) (w : World) (hT : T.length ≤ 2097152) :
    Calls Tryd.prog 25 #[.string ⟨T.toArray⟩] w fun e w' => e = .returned (str (lower T)) ∧ Q w w' := by
  have hsz : (⟨T.toArray⟩ : ByteArray).size = T.length := rfl
  have HBK : Hid (∀ (x : World) (c : UInt8), (convert 52 9 (.slice (some ⟨x.heap.size, 0, none⟩) 1 1)).run Tryd.prog (x.alloc (.cells #[.int .u8 (c.toNat : Int)] 5)) = .ok (.string ⟨[c].toArray⟩) (x.alloc (.cells #[.int .u8 (c.toNat : Int)] 5))) := fun x c =>
    run_convert_bytes_back _ 52 9 5 ⟨x.heap.size, 0, none⟩ 1 [c] Tryd.underlying52 Tryd.underlying5 Tryd.underlying9 (fun i hi => by
      have : i = 0 := by simp at hi; exact hi
      subst this
      simp [go_sem, Addr.add])
  go_enter Tryd.func25, Tryd.ntmps25
  go_wp2_with fail
  go_loopw [3, 4, 5] (fun s i _ wr => ∃ k : Nat, k ≤ T.length ∧ i = .int .i64 k ∧ s = .string ⟨(lower (T.take k)).toArray⟩ ∧ Q w wr) (fun _ i _ _ => T.length - (intOf i).toNat)
  case atStart => exact ⟨0, Nat.zero_le _, rfl, rfl, Q.refl _⟩
  case round =>
    obtain ⟨k, hk, rfl, rfl, hq⟩ := hrel
    have hll : (lower (T.take k)).length ≤ 2097152 := by rw [lower_len, List.length_take]; omega
    by_cases hlt : k < T.length
    · have hget : T[k]? = some T[k] := List.getElem?_eq_getElem hlt
      have HS := show Hid _ from lower_step hget
      generalize lower (T.take k) = pre at *
      have hsp : (⟨pre.toArray⟩ : ByteArray).size = pre.length := rfl
      have hback := HBK.out wr (lowB T[k])
      clear hget
      by_cases h : 65 ≤ (T[k]).toNat ∧ (T[k]).toNat ≤ 90
      · have d1 : decide (65 ≤ ((⟨T.toArray⟩ : ByteArray)[k].toNat : Int)) = true := decide_eq_true (by show 65 ≤ ((T[k]).toNat : Int); omega)
        have d2 : decide (((⟨T.toArray⟩ : ByteArray)[k].toNat : Int) ≤ 90) = true := decide_eq_true (by show ((T[k]).toNat : Int) ≤ 90; omega)
        have hv : (((lowB T[k]).toNat : Nat) : Int) = ((⟨T.toArray⟩ : ByteArray)[k].toNat : Int) + 32 := by
          rw [lowB_up h.1 h.2]; show (((T[k]).toNat + 32 : Nat) : Int) = ((T[k]).toNat : Int) + 32; omega
        have hbb : (⟨T.toArray⟩ : ByteArray)[k].toNat ≤ 90 := h.2
        rw [hv] at hback
        generalize lowB T[k] = c at *
        clear h hv
        go_wp2_with fail
        refine ⟨⟨k + 1, by omega, by go_num, ?_, hq.alloc _⟩, by simp [intOf]; omega⟩
        rw [HS.out, ← str_app0]
      · have hv : lowB T[k] = (⟨T.toArray⟩ : ByteArray)[k] := lowB_same h
        have hbb : (⟨T.toArray⟩ : ByteArray)[k].toNat < 256 := UInt8.toNat_lt _
        rw [hv] at hback HS
        by_cases h1 : 65 ≤ (T[k]).toNat
        · have d1 : decide (65 ≤ ((⟨T.toArray⟩ : ByteArray)[k].toNat : Int)) = true := decide_eq_true (by show 65 ≤ ((T[k]).toNat : Int); omega)
          have d2 : decide (((⟨T.toArray⟩ : ByteArray)[k].toNat : Int) ≤ 90) = false := decide_eq_false (by show ¬ ((T[k]).toNat : Int) ≤ 90; omega)
          clear h hv h1
          go_wp2_with fail
          refine ⟨⟨k + 1, by omega, by go_num, ?_, hq.alloc _⟩, by simp [intOf]; omega⟩
          rw [HS.out, ← str_app0]
        · have d1 : decide (65 ≤ ((⟨T.toArray⟩ : ByteArray)[k].toNat : Int)) = false := decide_eq_false (by show ¬ 65 ≤ ((T[k]).toNat : Int); omega)
          clear h hv h1
          go_wp2_with fail
          refine ⟨⟨k + 1, by omega, by go_num, ?_, hq.alloc _⟩, by simp [intOf]; omega⟩
          rw [HS.out, ← str_app0]
    · have hkT : k = T.length := by omega
      subst hkT
      rw [List.take_of_length_le (Nat.le_refl _)]
      go_wp2_with fail
      go_ret
      exact ⟨rfl, hq⟩

set_option maxRecDepth 100000 in
set_option maxHeartbeats 800000 in
theorem rsize_any (n : Nat) (w : World) (hn : n ≤ 32) :
    Calls Tryd.prog 76 #[.int .i64 (n : Int)] w fun e w' => e = .returned (.int .i64 (sizeR n : Nat)) ∧ w' = w := by
  have HW : Hid (sizeR n = 2 ^ (32 - n)) := rfl
  go_enter Tryd.func76, Tryd.ntmps76
  go_wp2_with fail
  go_loop [3, 4] (fun v i => ∃ k : Nat, n ≤ k ∧ k ≤ 32 ∧ i = .int .i64 k ∧ v = .int .i64 ((2 ^ (k - n) : Nat) : Int)) (fun _ i => 32 - (intOf i).toNat)
  case atStart => exact ⟨n, Nat.le_refl _, by omega, rfl, by simp⟩
  case round =>
    obtain ⟨k, hk1, hk2, rfl, rfl⟩ := hrel
    have hpow : 2 ^ (k - n) ≤ 2 ^ 32 := Nat.pow_le_pow_right (by decide) (by omega)
    by_cases hlt : k < 32
    · have hs : (2 : Nat) ^ (k + 1 - n) = 2 * 2 ^ (k - n) := by rw [show k + 1 - n = (k - n) + 1 by omega, Nat.pow_succ]; omega
      have HS := show Hid _ from hs
      clear hs
      generalize (2 : Nat) ^ (k - n) = v at *
      go_wp2_with fail
      exact ⟨⟨k + 1, by omega, by omega, by go_num, by rw [HS.out]; go_num⟩, by simp [intOf]; omega⟩
    · have hk : k = 32 := by omega
      subst hk
      generalize (2 : Nat) ^ (32 - n) = v at *
      go_wp2_with fail
      go_ret
      exact ⟨ret_int (by rw [HW.out]), rfl⟩

set_option maxRecDepth 100000 in
set_option maxHeartbeats 1600000 in
theorem rpair_any (T : List UInt8) (most : Nat) (w : World) (hT : T.length ≤ 2097152) (hm : most ≤ 65535) :
    Calls Tryd.prog 78 #[.string ⟨T.toArray⟩, .int .i64 (most : Int)] w fun e w' => e = .returned (.tuple #[.int .i64 (pairR T most).1, .int .i64 (pairR T most).2]) ∧ Q w w' := by
  have H0 : Hid (¬ (parts 45 T).length = 2 → pairR T most = (-1, -1)) := pair_not
  have H2 : Hid (∀ a b, parts 45 T = [a, b] → pairR T most = match number a most, number b most with
    | some x, some y => ((x : Int), (y : Int))
    | _, _ => (-1, -1)) := fun a b h => pair_two h
  have HL : Hid (∀ p ∈ parts 45 T, p.length ≤ 4194304) := fun p h => by have := parts_le 45 T p h; omega
  have hcnt := parts_count_le 45 T
  have HP := show Hid _ from rparts_any T 45 w (by omega)
  go_enter Tryd.func78, Tryd.ntmps78
  go_wp2_with fail
  refine Calls.mono HP.out ?_
  rintro e w1 ⟨v, rfl, ⟨g, cap, rfl, hcell⟩, hq⟩
  have HC := show Hid _ from hcell
  clear hcell HP
  generalize parts 45 T = l at *
  by_cases h2 : l.length = 2
  case neg =>
    have d2 : ((l.length : Int) != 2) = true := by rw [bne_iff_ne]; omega
    have HS := show Hid _ from H0.out h2
    go_wp2_with fail
    go_ret2
    exact ⟨by rw [HS.out]; rfl, hq⟩
  obtain ⟨a, b, rfl⟩ : ∃ a b, l = [a, b] := by
    match l, h2 with
    | [a, b], _ => exact ⟨a, b, rfl⟩
  have HS := show Hid _ from H2.out a b rfl
  have c0 := HC.out 0 a rfl
  have c1 := HC.out 1 b rfl
  have HNA := fun w => show Hid _ from rnumber_any a most w (HL.out a (by simp)) hm
  have HNB := fun w => show Hid _ from rnumber_any b most w (HL.out b (by simp)) hm
  clear H0 H2 HL HC hcnt h2
  rw [show ([a, b] : List (List UInt8)).length = 2 from rfl]
  go_wp2_with fail
  refine Calls.mono (Hid.out (HNA _)) ?_
  rintro e w2 ⟨rfl, rfl⟩
  go_wp2_with fail
  refine Calls.mono (Hid.out (HNB _)) ?_
  rintro e w3 ⟨rfl, rfl⟩
  rcases numR_cases a most with ⟨hn, hr⟩ | ⟨x, hn, hr, hle⟩
  · rw [hr]
    rw [hn] at HS
    clear hr hn
    go_wp2_with fail
    go_ret2
    exact ⟨by rw [HS.out]; rfl, hq⟩
  · rw [hr]
    rw [hn] at HS
    clear hr hn
    have dx : decide ((x : Int) < 0) = false := decide_eq_false (by omega)
    rcases numR_cases b most with ⟨hn, hr⟩ | ⟨y, hn, hr, hle2⟩
    · rw [hr]
      rw [hn] at HS
      clear hr hn
      go_wp2_with fail
      go_ret2
      exact ⟨by rw [HS.out]; rfl, hq⟩
    · rw [hr]
      rw [hn] at HS
      clear hr hn
      have dy : decide ((y : Int) < 0) = false := decide_eq_false (by omega)
      go_wp2_with fail
      go_ret2
      exact ⟨by rw [HS.out]; rfl, hq⟩
end Go.Proofs.YtdmaffciijmdcaaDoor

import Derived.Test.YtoijeipoblnliaaGreatDoorYG0
/- BootTorn: a snapshot cut, or a byte of it changed, is none. -/
namespace Go.Proofs.YtoijeipoblnliaaGreatDoor
open Go.RowKit Go.Maps Go.Sort Orl Pk
set_option linter.unusedVariables false
set_option linter.unusedSimpArgs false

theorem body_more {g : Nat} {ls : List Mk} {vs : List VT} (h : Lims g ls vs) (t : List Nat) : rdVs (snBody g ls vs ++ t) = (vs, (t, 0)) := by
  have e1 : hd1 (snBody g ls vs ++ t) = (1918987632, (num 1 1 ++ (num 8 g ++ ((num 4 ls.length ++ layL ls) ++ ((num 4 vs.length ++ layV vs) ++ t))), 0)) := by
    unfold hd1 snBody snHead
    simp only [List.append_assoc]
    rw [rnum_full]
  have e2 : hd2 (snBody g ls vs ++ t) = (1, (num 8 g ++ ((num 4 ls.length ++ layL ls) ++ ((num 4 vs.length ++ layV vs) ++ t)), 0)) := by
    unfold hd2
    rw [e1, rnum_full]
  have e3 : hd3 (snBody g ls vs ++ t) = (g, ((num 4 ls.length ++ layL ls) ++ ((num 4 vs.length ++ layV vs) ++ t), 0)) := by
    unfold hd3
    rw [e2, rnum_full, Nat.mod_eq_of_lt h.g]
  have e4 : rdLs (snBody g ls vs ++ t) = (ls, ((num 4 vs.length ++ layV vs) ++ t, 0)) := by
    unfold rdLs
    rw [e3]
    simp only [List.append_assoc]
    exact rlasts_lay ls h.l h.nl _
  unfold rdVs
  rw [e4]
  simp only [List.append_assoc]
  exact rvers_lay vs h.v h.nv t
theorem snOk_body {now : Int} {b : List Nat} (h : snOk now b = true) : sumOk b = true ∧ bodyOk (bodyO b) = true := by
  unfold snOk rdOk at h
  simp only [Bool.and_eq_true] at h
  exact ⟨h.1, by simp_all⟩
theorem take_lt {b : List Nat} (hb : ∀ c ∈ b, c < 256) (k : Nat) : ∀ c ∈ b.take k, c < 256 := fun c hc => hb c (List.mem_of_mem_take hc)
theorem cut_bad {now : Int} {b : List Nat} (hb : ∀ c ∈ b, c < 256) (h : snOk now b = true) {k : Nat} (hk : k < b.length) : snOk now (b.take k) = false := by
  cases h' : snOk now (b.take k) with
  | false => rfl
  | true =>
    obtain ⟨s1, o1⟩ := snOk_body h
    obtain ⟨s2, o2⟩ := snOk_body h'
    have hl : (b.take k).length = k := by rw [List.length_take]; omega
    have h4 : 4 ≤ k := by
      unfold sumOk at s2
      simp only [Bool.and_eq_true, decide_eq_true_eq] at s2
      have := s2.1
      omega
    have e2 : bodyO (b.take k) = b.take (k - 4) := by
      unfold bodyO
      rw [hl, List.take_take]
      congr 1
      omega
    have e1 : bodyO b = b.take (k - 4) ++ (bodyO b).drop (k - 4) := by
      conv => lhs; rw [← List.take_append_drop (k - 4) (bodyO b)]
      congr 1
      unfold bodyO
      rw [List.take_take]
      congr 1
      omega
    have hb2 : ∀ c ∈ bodyO (b.take k), c < 256 := take_lt (take_lt hb k) _
    have r2 := body_read hb2 o2
    have l2 := rd_lims hb2
    have m := body_more l2 ((bodyO b).drop (k - 4))
    rw [← r2, e2, ← e1] at m
    have o3 := o1
    unfold bodyOk rend0 at o3
    simp only [Bool.and_eq_true, decide_eq_true_eq] at o3
    have o4 := o3.2.2
    rw [m] at o4
    have hln : ((bodyO b).drop (k - 4)).length = b.length - 4 - (k - 4) := by
      rw [List.length_drop]
      unfold bodyO
      rw [List.length_take]
      omega
    have : ((bodyO b).drop (k - 4)).length = 0 := by rw [show (bodyO b).drop (k - 4) = [] from o4]; rfl
    omega
theorem num4_inj {a b : Nat} (ha : a < 4294967296) (hb : b < 4294967296) (h : num 4 a = num 4 b) : a = b := by
  have h1 := rnum_full 4 a []
  have h2 := rnum_full 4 b []
  rw [h, h2] at h1
  have := (Prod.mk.inj h1).1
  rw [Nat.mod_eq_of_lt (by simpa using hb), Nat.mod_eq_of_lt (by simpa using ha)] at this
  exact this.symm
theorem xor_ne {a d : Nat} (hd : 0 < d) : a ^^^ d ≠ a := fun e => by
  have h : a ^^^ (a ^^^ d) = a ^^^ a := by rw [e]
  rw [← Nat.xor_assoc, Nat.xor_self, Nat.zero_xor] at h
  omega
theorem xor_lt8 {a d : Nat} (ha : a < 256) (hd : d < 256) : a ^^^ d < 256 := Nat.xor_lt_two_pow (n := 8) ha hd
theorem set_lt {b : List Nat} (hb : ∀ c ∈ b, c < 256) (k : Nat) {v : Nat} (hv : v < 256) : ∀ c ∈ b.set k v, c < 256 := fun c hc => by
  rcases List.mem_or_eq_of_mem_set hc with h | h
  · exact hb c h
  · omega
theorem sum_set {x : List Nat} {k d : Nat} (hk : k < x.length) (hd : 0 < d) (h8 : d < 256) : Crc.sum (x.set k (x.getD k 0 ^^^ d)) ≠ Crc.sum x := fun e => by
  unfold Crc.sum Crc.update at e
  rw [Crc.upd_set x k _ d hk] at e
  have h2 : ∀ a b c : Nat, a ^^^ c = b ^^^ c → a = b := fun a b c h => by
    have := congrArg (· ^^^ c) h
    simpa [Nat.xor_assoc] using this
  have h3 := h2 _ _ _ e
  have h4 : Crc.upd (0 ^^^ 4294967295) x ^^^ (Crc.upd (0 ^^^ 4294967295) x ^^^ Crc.shn (8 * (x.length - k)) d) = Crc.upd (0 ^^^ 4294967295) x ^^^ Crc.upd (0 ^^^ 4294967295) x := by rw [h3]
  rw [← Nat.xor_assoc, Nat.xor_self, Nat.zero_xor] at h4
  have := Crc.shn_eq_zero _ d (by omega) h4
  omega
theorem set_bad {b : List Nat} (hb : ∀ c ∈ b, c < 256) (h : sumOk b = true) {k d : Nat} (hk : k < b.length) (hd : 0 < d) (h8 : d < 256) : sumOk (b.set k (b.getD k 0 ^^^ d)) = false := by
  cases h' : sumOk (b.set k (b.getD k 0 ^^^ d)) with
  | false => rfl
  | true =>
    have hv : b.getD k 0 ^^^ d < 256 := xor_lt8 (hb _ (by rw [List.getD_eq_getElem?_getD, List.getElem?_eq_getElem hk]; exact List.getElem_mem hk)) h8
    have r1 := sumOk_read hb h
    have r2 := sumOk_read (set_lt hb k hv) h'
    obtain ⟨x, hx⟩ : ∃ x, x = bodyO b := ⟨_, rfl⟩
    rw [← hx] at r1
    have hl : b.length = x.length + 4 := by rw [r1, List.length_append, num_length]
    by_cases hkx : k < x.length
    · have eb : bodyO (b.set k (b.getD k 0 ^^^ d)) = x.set k (x.getD k 0 ^^^ d) := by
        unfold bodyO
        rw [List.length_set, List.take_set, hx]
        congr 1
        unfold bodyO
        rw [List.getD_eq_getElem?_getD, List.getD_eq_getElem?_getD, List.getElem?_take_of_lt (by omega)]
      have es : b.set k (b.getD k 0 ^^^ d) = x.set k (x.getD k 0 ^^^ d) ++ num 4 (Crc.sum x) := by
        have eg : b.getD k 0 = x.getD k 0 := by
          rw [hx]; unfold bodyO
          rw [List.getD_eq_getElem?_getD, List.getD_eq_getElem?_getD, List.getElem?_take_of_lt (by omega)]
        rw [eg]
        conv => lhs; rw [r1]
        rw [List.set_append_left _ _ hkx]
      rw [eb, es] at r2
      have r3 := List.append_cancel_left r2
      have hxb : ∀ c ∈ x, c < 256 := by rw [hx]; exact take_lt hb _
      have hxv : x.getD k 0 ^^^ d < 256 := xor_lt8 (hxb _ (by rw [List.getD_eq_getElem?_getD, List.getElem?_eq_getElem hkx]; exact List.getElem_mem hkx)) h8
      have := num4_inj (Crc.update_lt 0 x (by omega) hxb) (Crc.update_lt 0 _ (by omega) (set_lt hxb k hxv)) r3
      exact absurd this.symm (sum_set hkx hd h8)
    · have eb : bodyO (b.set k (b.getD k 0 ^^^ d)) = x := by
        unfold bodyO
        rw [List.length_set, hx]
        unfold bodyO
        rw [List.take_set_of_le (by omega)]
      rw [eb, ← r1] at r2
      have := congrArg (fun l => l.getD k 0) r2
      simp only [List.getD_eq_getElem?_getD, List.getElem?_set_self hk, Option.getD_some] at this
      exact absurd this (by rw [← List.getD_eq_getElem?_getD]; exact xor_ne hd)
end Go.Proofs.YtoijeipoblnliaaGreatDoor

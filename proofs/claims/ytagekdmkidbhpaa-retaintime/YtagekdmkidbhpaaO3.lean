import Derived.Test.YtagekdmkidbhpaaAl
/- A script's steps in pure functions; a step's calls. -/
namespace Go.Proofs.Ytagekdmkidbhpaa
open Go.RowKit Go.Maps Go.Sort Orl
set_option linter.unusedVariables false
set_option linter.unusedSimpArgs false

structure OV where
  k : Int
  i : Nat
  a : Nat
  b : Nat
  v : Tx
structure OkO (x : OV) : Prop where
  i : x.i < 18446744073709551616
  a : x.a < 256
  b : x.b < 256
def ov0 : OV := ⟨0, 0, 0, 0, e0⟩
def OE : El OV := ⟨43, 22, 5, 40, fun x => [.int .i64 x.k, .int .u64 ((x.i : Nat) : Int), .int .u8 ((x.a : Nat) : Int), .int .u8 ((x.b : Nat) : Int), .string x.v]⟩
theorem infoO : (Try.prog.info? 43).map (fun i => (i.zero, i.size, i.bytes)) = some (some (.agg #[.int .i64 0, .int .u64 0, .int .u8 0, .int .u8 0, .string ⟨#[]⟩]), 5, 40) := by kernel_rfl
theorem okO : OE.Ok := by
  obtain ⟨i0, hi, hz0, hz1, hz2⟩ := info_parts infoO
  exact ⟨fun _ => rfl, fun x u hu => by simp [OE] at hu; rcases hu with rfl | rfl | rfl | rfl | rfl <;> rfl, by decide, Try.underlying22, i0, _, hi, hz0, hz1, hz2, rfl⟩
theorem atO {w : World} {a : Option Addr} {c : Nat} {xs : List OV} (h : Sl OE w a c xs) {j : Nat} (hj : j < xs.length) : ∃ b off, a = some ⟨b, off, none⟩ ∧ w.cell? ⟨b, off + j * 5, none⟩ = some (.int .i64 (xs.getD j ov0).k) ∧ w.cell? ⟨b, off + j * 5 + 1, none⟩ = some (.int .u64 (((xs.getD j ov0).i : Nat) : Int)) ∧ w.cell? ⟨b, off + j * 5 + 2, none⟩ = some (.int .u8 (((xs.getD j ov0).a : Nat) : Int)) ∧ w.cell? ⟨b, off + j * 5 + 3, none⟩ = some (.int .u8 (((xs.getD j ov0).b : Nat) : Int)) ∧ w.cell? ⟨b, off + j * 5 + 4, none⟩ = some (.string (xs.getD j ov0).v) := by
  rcases h.row with e | ⟨b, off, rfl, hc⟩
  · subst e; simp at hj
  · have key : ∀ i, i < 5 → w.cell? ⟨b, off + j * 5 + i, none⟩ = (OE.enc (xs.getD j ov0))[i]? := fun i hi => by
      have hx := cells_at okO ov0 xs j i hj hi
      have hlt : i < (OE.enc (xs.getD j ov0)).length := by simpa [OE] using hi
      rw [List.getElem?_eq_getElem hlt] at hx ⊢
      rw [Nat.add_assoc]
      exact hc _ _ hx
    exact ⟨b, off, rfl, key 0 (by omega), key 1 (by omega), key 2 (by omega), key 3 (by omega), key 4 (by omega)⟩
def OV.id (x : OV) : Nat := idn x.i
def OV.keys (x : OV) : List Tx := namesTo x.a 6
def OV.ps (x : OV) : List Pr := prs (x.a &&& x.b) x.v

/-! ### the names -/
theorem NM_inc : Inc lts NM := by
  have h : ∀ a b : Tx, decide (a.data.toList < b.data.toList) = true → lts a b = true := fun a b h => by rw [lts_eq]; exact h
  unfold NM Inc
  refine List.pairwise_cons.2 ⟨fun q hq => h _ _ ?_, List.pairwise_cons.2 ⟨fun q hq => h _ _ ?_, List.pairwise_cons.2 ⟨fun q hq => h _ _ ?_, List.pairwise_cons.2 ⟨fun q hq => h _ _ ?_, List.pairwise_cons.2 ⟨fun q hq => h _ _ ?_, List.pairwise_cons.2 ⟨fun q hq => (by cases hq), List.Pairwise.nil⟩⟩⟩⟩⟩⟩
  · simp at hq; rcases hq with rfl | rfl | rfl | rfl | rfl <;> decide
  · simp at hq; rcases hq with rfl | rfl | rfl | rfl <;> decide
  · simp at hq; rcases hq with rfl | rfl | rfl <;> decide
  · simp at hq; rcases hq with rfl | rfl <;> decide
  · simp at hq; rcases hq with rfl; decide
theorem names_sub (b : Nat) : ∀ k, k ≤ 6 → (namesTo b k).Sublist (NM.take k)
  | 0, _ => by simp [namesTo]
  | k + 1, h => by
    rw [namesTo_succ, take_succ_getD NM k e0 (by simp [NM]; omega)]
    refine List.Sublist.append (names_sub b k (by omega)) ?_
    split
    · exact List.Sublist.refl _
    · exact List.nil_sublist _
theorem names_sub6 (b : Nat) : (namesTo b 6).Sublist NM := by
  have := names_sub b 6 (Nat.le_refl _)
  rwa [List.take_of_length_le (by simp [NM])] at this
theorem names_inc (b : Nat) : Inc lts (namesTo b 6) := List.Pairwise.sublist (names_sub6 b) NM_inc
theorem names_mem {b : Nat} {x : Tx} (h : x ∈ namesTo b 6) : x ∈ NM := (names_sub6 b).subset h
theorem NM_size {x : Tx} (h : x ∈ NM) : x.size ≤ 1 := by
  simp [NM] at h
  rcases h with rfl | rfl | rfl | rfl | rfl | rfl <;> decide
theorem bit_and {a b k : Nat} (h : bitN (a &&& b) k = true) : bitN a k = true := by
  have e : ∀ n : Nat, bitN n k = n.testBit k := fun n => by
    rw [Nat.testBit_eq_decide_div_mod_eq]
    rfl
  rw [e, Nat.testBit_and] at h
  rw [e]
  simp at h
  exact h.1
theorem names_and (a b : Nat) : ∀ k, ∀ x ∈ namesTo (a &&& b) k, x ∈ namesTo a k
  | 0, x, h => by cases h
  | k + 1, x, h => by
    rw [namesTo_succ] at h ⊢
    rcases List.mem_append.1 h with h | h
    · exact List.mem_append.2 (.inl (names_and a b k x h))
    · refine List.mem_append.2 (.inr ?_)
      by_cases e : bitN (a &&& b) k = true
      · rw [if_pos e] at h
        rw [if_pos (bit_and e)]
        exact h
      · rw [if_neg e] at h; cases h
theorem ps_keys (b : Nat) (v : Tx) : (prs b v).map (·.1) = namesTo b 6 := by simp [prs, Function.comp_def]
theorem ps_inc (x : OV) : Inc ltp x.ps := by
  have h := names_inc (x.a &&& x.b)
  rw [← ps_keys _ x.v] at h
  unfold Inc at h ⊢
  rw [List.pairwise_map] at h
  exact h
theorem keys_len (x : OV) : x.keys.length ≤ 6 := namesTo_len _ 6
theorem ps_len (x : OV) : x.ps.length ≤ 6 := by
  show (prs _ _).length ≤ 6
  rw [prs_len]
  exact namesTo_len _ 6
theorem ps_mem {x : OV} {p : Pr} (h : p ∈ x.ps) : p.1 ∈ x.keys ∧ p.1 ∈ NM ∧ p.2 = cut3 x.v := by
  obtain ⟨k, hk, rfl⟩ := List.mem_map.1 h
  exact ⟨names_and _ _ 6 k hk, names_mem hk, rfl⟩
theorem okPutO (x : OV) (now : Int) : okPut x.id x.ps x.keys now = (decide (0 < x.ps.length) && tickB now) := by
  cases h : (decide (0 < x.ps.length) && tickB now) with
  | true =>
    simp only [Bool.and_eq_true, decide_eq_true_eq] at h
    obtain ⟨h1, h2⟩ := h
    obtain ⟨p, hp⟩ := List.exists_mem_of_length_pos h1
    have hk1 := List.length_pos_of_mem (ps_mem hp).1
    refine okPut_iff.2 ⟨(idn_le x.i).1, okKeys_iff.2 ⟨⟨hk1, by have := keys_len x; omega⟩, fun k hk => by have := NM_size (names_mem hk); omega, names_inc x.a⟩, okPairs_iff.2 ⟨fun q hq => ?_, h1, ps_inc x⟩, h2⟩
    obtain ⟨a1, a2, a3⟩ := ps_mem hq
    exact ⟨by rw [a3]; have := cut3_size x.v; omega, a1⟩
  | false =>
    cases e : okPut x.id x.ps x.keys now with
    | false => rfl
    | true =>
      obtain ⟨_, _, h3, h4⟩ := okPut_iff.1 e
      rw [decide_eq_true (okPairs_iff.1 h3).2.1, h4] at h
      cases h

/-! ### all the versions there can be -/
def Um : List Mk := NM.flatMap fun k => (List.range 64).map fun j => (k, idn j)
theorem Um_len : Um.length = 384 := by simp [Um, NM]
theorem idn_mod (i : Nat) : idn i = idn (i % 64) := by unfold idn; omega
theorem Um_mem {k : Tx} (h : k ∈ NM) (i : Nat) : (k, idn i) ∈ Um := by
  refine List.mem_flatMap.2 ⟨k, h, List.mem_map.2 ⟨i % 64, List.mem_range.2 (Nat.mod_lt _ (by omega)), ?_⟩⟩
  rw [← idn_mod]
def Supp (s : St) : Prop := ∀ m, s.V m ≠ none → m ∈ Um
theorem supp_new : Supp St.new := fun m h => absurd rfl h
def putO (s : St) (x : OV) (now : Int) : St := if okPut x.id x.ps x.keys now = true then putAll x.id x.keys now s (miss s x.id x.ps) else s
def comO (s : St) (x : OV) (now : Int) : St := if tickB now = true then commitS s x.id now else s
theorem put_V (i : Nat) (keys : List Tx) (now : Int) : ∀ (ps : List Pr) (s : St) (m : Mk), (putAll i keys now s ps).V m ≠ none → s.V m ≠ none ∨ ∃ p ∈ ps, m = (p.1, i)
  | [], s, m, h => .inl h
  | p :: r, s, m, h => by
    rcases put_V i keys now r (put1 i keys now s p) m h with h | ⟨q, hq, e⟩
    · by_cases e : m = (p.1, i)
      · exact .inr ⟨p, by simp, e⟩
      · refine .inl ?_
        show s.V m ≠ none
        have : (put1 i keys now s p).V m = s.V m := if_neg e
        rwa [this] at h
    · exact .inr ⟨q, by simp [hq], e⟩
theorem supp_put {s : St} (h : Supp s) (x : OV) (now : Int) : Supp (putO s x now) := by
  unfold putO
  split
  · intro m hm
    rcases put_V _ _ _ _ _ _ hm with hm | ⟨p, hp, rfl⟩
    · exact h m hm
    · exact Um_mem (ps_mem (List.mem_filter.1 hp).1).2.1 x.i
  · exact h
theorem com_none {s : St} {i : Nat} {now : Int} {m : Mk} : (commitS s i now).V m ≠ none ↔ s.V m ≠ none := comD_iff m
theorem supp_com {s : St} (h : Supp s) (x : OV) (now : Int) : Supp (comO s x now) := by
  unfold comO
  split
  · exact fun m hm => h m (com_none.1 hm)
  · exact h
theorem supp_cut {s : St} (h : Supp s) (D : Mk → Bool) : Supp (cutS s D) := fun m hm => h m (fun e => hm (by show (if D m then none else s.V m) = none; rw [e]; split <;> rfl))
/-- no stamp is above now -/
def Till (s : St) (now : Int) : Prop := ∀ m v, s.V m = some v → v.stamp ≤ now
theorem till_new : Till St.new 0 := fun m v h => by cases h
theorem Till.mono {s : St} {a b : Int} (h : Till s a) (hab : a ≤ b) : Till s b := fun m v hv => Int.le_trans (h m v hv) hab
theorem till_putAll (i : Nat) (keys : List Tx) (now : Int) (h0 : 0 ≤ now) : ∀ (ps : List Pr) (s : St), Till s now → Till (putAll i keys now s ps) now
  | [], s, h => h
  | p :: r, s, h => till_putAll i keys now h0 r _ (fun m v hv => by
    by_cases e : m = (p.1, i)
    · have e2 : (put1 i keys now s p).V m = some ⟨p.2, keys, stampOf s i now p.1⟩ := if_pos e
      rw [e2] at hv
      cases hv
      show stampOf s i now p.1 ≤ now
      unfold stampOf
      split <;> omega
    · have e2 : (put1 i keys now s p).V m = s.V m := if_neg e
      rw [e2] at hv
      exact h m v hv)
theorem till_put {s : St} {now : Int} (h : Till s now) (h0 : 0 ≤ now) (x : OV) : Till (putO s x now) now := by
  unfold putO
  split
  · exact till_putAll _ _ _ h0 _ _ h
  · exact h
theorem till_com {s : St} {now : Int} (h : Till s now) (x : OV) : Till (comO s x now) now := by
  unfold comO
  split
  · intro m v hv
    obtain ⟨u, hu, _, _, hs⟩ := com_some hv
    rcases hs with hs | ⟨_, hs⟩
    · rw [hs]; exact h m u hu
    · rw [hs]; exact Int.le_refl _
  · exact h
theorem till_cut {s : St} {now : Int} (h : Till s now) (D : Mk → Bool) : Till (cutS s D) now := fun m v hv => by
  have : (if D m then none else s.V m) = some v := hv
  split at this
  · cases this
  · exact h m v this

/-! ### a step's calls -/
section
variable {w0 w w' : World} {p : Nat} {s : St} {P : Nat → Prop}
theorem Ow.t384 {N : Nat} (h : Ow w0 w p s N P) (hS : Supp s) : Ow w0 w p s 384 P := by
  have := h.tight hS
  rwa [Um_len] at this
theorem Ow.opPut (h : Ow w0 w p s 384 P) (hS : Supp s) (x : OV) (now : Int) (o : Option Addr) (n c : Nat) (o2 : Option Addr) (n2 c2 : Nat) (hn : n = x.ps.length) (hn2 : n2 = x.keys.length) (hsp : Sl PE w o c x.ps) (hsk : Sl TE w o2 c2 x.keys) :
    Calls Try.prog 12 #[.pointer (some ⟨p, 0, none⟩), .int .u64 ((x.id : Nat) : Int), .slice o n c, .slice o2 n2 c2, .int .i64 now] w fun e w' => ∃ (B : Bool) (z : Int), e = .returned (.tuple #[.bool B, .int .i64 z]) ∧ Hid (z = (if okPut x.id x.ps x.keys now = true then 0 else 1) ∧ B = (okPut x.id x.ps x.keys now && decide (0 < (miss s x.id x.ps).length))) ∧ Hid (Ow w0 w' p (putO s x now) 384 P ∧ Keeps (fun b => ¬ P b) w w') := by
  have hid := (idn_le x.i).2
  have hpl := ps_len x
  have hkl := keys_len x
  cases hok : okPut x.id x.ps x.keys now with
  | true =>
    refine (h.put x.id x.ps x.keys now o n c o2 n2 c2 (by show idn x.i < _; omega) hn hn2 hsp hsk (by omega) hok (by omega)).mono ?_
    rintro e w' ⟨he, hT⟩
    have e1 : putO s x now = putAll x.id x.keys now s (miss s x.id x.ps) := by unfold putO; rw [if_pos hok]
    refine ⟨_, _, he, ⟨rfl, by simp⟩, ?_, hT.out.2⟩
    have hs := supp_put hS x now
    rw [e1] at hs ⊢
    exact hT.out.1.t384 hs
  | false =>
    refine (put_bad w _ x.id x.ps x.keys now o n c o2 n2 c2 (by show idn x.i < _; omega) hn hn2 (by omega) (by omega) hsp hsk hok).mono ?_
    rintro e w' ⟨he, hk⟩
    have e1 : putO s x now = s := by unfold putO; rw [if_neg (by rw [hok]; simp)]
    exact ⟨_, _, he, ⟨by simp, by simp⟩, by rw [e1]; exact h.go hk, hk.of_no⟩
theorem Ow.opCommit (h : Ow w0 w p s 384 P) (hS : Supp s) (x : OV) (now : Int) :
    Calls Try.prog 16 #[.pointer (some ⟨p, 0, none⟩), .int .u64 ((x.id : Nat) : Int), .int .i64 now] w fun e w' => ∃ (n z : Int), e = .returned (.tuple #[.int .i64 n, .int .i64 z]) ∧ Hid (Ow w0 w' p (comO s x now) 384 P ∧ Keeps (fun b => ¬ P b) w w') := by
  have hid := idn_le x.i
  cases hok : tickB now with
  | true =>
    refine (h.commit x.id now (by show idn x.i < _; omega) hid.1 hok (by omega)).mono ?_
    rintro e w' ⟨n, he, _, hT⟩
    have e1 : comO s x now = commitS s x.id now := by unfold comO; rw [if_pos hok]
    rw [e1]
    exact ⟨_, _, he, hT.out⟩
  | false =>
    refine (commit_bad w _ x.id now (by show idn x.i < _; omega) (by rw [hok, Bool.and_false])).mono ?_
    rintro e w' ⟨he, hk⟩
    have e1 : comO s x now = s := by unfold comO; rw [if_neg (by rw [hok]; simp)]
    rw [e1, hk]
    exact ⟨_, _, he, h, Keeps.refl _ _⟩
end
end Go.Proofs.Ytagekdmkidbhpaa

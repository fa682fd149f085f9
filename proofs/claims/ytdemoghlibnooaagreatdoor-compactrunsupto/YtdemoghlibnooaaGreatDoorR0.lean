import Derived.Test.YtdemoghlibnooaaGreatDoorA2
import Derived.Laws.ResultCell
import Derived.Laws.Rows
namespace Go.Proofs.YtdemoghlibnooaaGreatDoor
open Pk Orl Go.Sort
set_option linter.unusedVariables false
set_option linter.unusedSimpArgs false
structure Rec where
  kind : Int
  id : Nat
  pairs : List Pr
  keys : List Tx
def c0 : Rec := ⟨0, 0, [], []⟩
def kys (l : List Pr) : List Tx := l.map Prod.fst
def mayK (l : List Tx) : Bool := decide (1 ≤ l.length ∧ l.length ≤ 1024) && ((l.all fun k => decide (k.size ≤ 65535)) && rising lts l)
def mayP (l : List Pr) (ks : List Tx) : Bool := decide (1 ≤ l.length) && ((l.all fun p => decide (p.2.size ≤ 65535)) && (rising lts (kys l) && (kys l).all (inn ks)))
def may (r : Rec) : Bool := decide (65536 ≤ r.id) && (if r.kind = 1 then mayK r.keys && mayP r.pairs r.keys else if r.kind = 2 then decide (r.pairs.length = 0 ∧ r.keys.length = 0) else false)
def layP1 (p : Pr) : List Nat := txt (nats p.1) ++ txt (nats p.2)
def layP (l : List Pr) : List Nat := l.flatMap layP1
def layF (r : Rec) : List Nat := if r.kind = 1 then num 4 r.pairs.length ++ (layP r.pairs ++ txts (natss r.keys)) else []
def body (r : Rec) : List Nat := num 1 r.kind.toNat ++ (num 8 r.id ++ layF r)
def enc (r : Rec) : List Nat := num 4 (body r).length ++ (num 4 (Crc.sum (body r)) ++ body r)
def idx : List Tx → Tx → Nat
  | [], _ => 0
  | x :: l, s => if x = s then 0 else idx l s + 1
theorem idx_lt {l : List Tx} {s : Tx} : idx l s < l.length ↔ s ∈ l := by
  induction l with
  | nil => simp [idx]
  | cons x l ih =>
    unfold idx
    by_cases h : x = s
    · rw [if_pos h]; simp [h]
    · rw [if_neg h, List.length_cons, List.mem_cons]
      constructor
      · intro h1; exact .inr (ih.1 (by omega))
      · rintro (h1 | h1)
        · exact absurd h1.symm h
        · have := ih.2 h1; omega
theorem idx_split {l : List Tx} {s : Tx} (h : s ∈ l) : l = l.take (idx l s) ++ s :: l.drop (idx l s + 1) := by
  induction l with
  | nil => cases h
  | cons x l ih =>
    unfold idx
    by_cases hx : x = s
    · rw [if_pos hx]; simp [hx]
    · rw [if_neg hx]
      have : s ∈ l := by rcases List.mem_cons.1 h with e | e; exact absurd e.symm hx; exact e
      have := ih this
      simp only [List.take_succ_cons, List.drop_succ_cons, List.cons_append]
      exact congrArg (x :: ·) this
theorem idx_of {l : List Tx} {s : Tx} {i : Nat} (hi : i < l.length) (he : l.getD i e0 = s) (hn : ∀ j, j < i → l.getD j e0 ≠ s) : idx l s = i := by
  induction l generalizing i with
  | nil => simp at hi
  | cons x l ih =>
    unfold idx
    cases i with
    | zero => simp at he; rw [if_pos he]
    | succ i =>
      have h0 := hn 0 (by omega)
      simp at h0
      rw [if_neg h0]
      rw [ih (i := i) (by simpa using hi) (by simpa using he) (fun j hj => by have := hn (j + 1) (by omega); simpa using this)]
theorem idx_none {l : List Tx} {s : Tx} (hn : ∀ j, j < l.length → l.getD j e0 ≠ s) : s ∉ l := by
  intro h
  obtain ⟨j, hj, e⟩ := List.getElem_of_mem h
  exact hn j hj (by rw [List.getD_eq_getElem?_getD, List.getElem?_eq_getElem hj]; exact e)
def walkP : List Pr → List Tx → Bool
  | [], _ => true
  | p :: ps, ks => inn ks p.1 && (decide (p.2.size ≤ 65535) && walkP ps (ks.drop (idx ks p.1 + 1)))
theorem inc_cons {a : Tx} {l : List Tx} : Inc lts (a :: l) ↔ (∀ b ∈ l, lts a b = true) ∧ Inc lts l := List.pairwise_cons
theorem walkP_iff : ∀ (ps : List Pr) (ks : List Tx), Inc lts ks → (walkP ps ks = true ↔ (∀ p ∈ ps, p.2.size ≤ 65535) ∧ Inc lts (kys ps) ∧ ∀ k ∈ kys ps, k ∈ ks)
  | [], ks, _ => by simp [walkP, kys, Inc]
  | p :: ps, ks, hk => by
    unfold walkP
    simp only [Bool.and_eq_true, decide_eq_true_eq, inn_iff]
    by_cases hp : p.1 ∈ ks
    · have hs := idx_split hp
      have hk2 := hk
      rw [hs] at hk2
      obtain ⟨hA, hB, hAB⟩ := List.pairwise_append.1 hk2
      obtain ⟨hB1, hB2⟩ := List.pairwise_cons.1 hB
      have ih := walkP_iff ps (ks.drop (idx ks p.1 + 1)) hB2
      rw [ih]
      have hin : ∀ k, lts p.1 k = true → (k ∈ ks ↔ k ∈ ks.drop (idx ks p.1 + 1)) := by
        intro k hlt
        constructor
        · intro h
          rw [hs] at h
          rcases List.mem_append.1 h with h | h
          · have := hAB k h p.1 List.mem_cons_self
            have := asym swoT this
            rw [hlt] at this; cases this
          · rcases List.mem_cons.1 h with rfl | h
            · rw [swoT.irrefl] at hlt; cases hlt
            · exact h
        · exact List.mem_of_mem_drop
      show _ ↔ _ ∧ Inc lts (p.1 :: kys ps) ∧ _
      rw [inc_cons]
      constructor
      · rintro ⟨_, h2, h3, h4, h5⟩
        refine ⟨?_, ⟨fun b hb => hB1 b (h5 b hb), h4⟩, ?_⟩
        · intro q hq
          rcases List.mem_cons.1 hq with rfl | hq
          · exact h2
          · exact h3 q hq
        · intro k hk'
          have hk' : k ∈ p.1 :: kys ps := hk'
          rcases List.mem_cons.1 hk' with rfl | hk'
          · exact hp
          · exact List.mem_of_mem_drop (h5 k hk')
      · rintro ⟨h1, ⟨h2, h3⟩, h4⟩
        refine ⟨hp, h1 p List.mem_cons_self, fun q hq => h1 q (List.mem_cons_of_mem _ hq), h3, fun k hk' => ?_⟩
        exact (hin k (h2 k hk')).1 (h4 k (List.mem_cons_of_mem _ hk'))
    · constructor
      · rintro ⟨h, _⟩; exact absurd h hp
      · rintro ⟨_, _, h⟩; exact absurd (h p.1 List.mem_cons_self) hp
theorem mayP_walk (ps : List Pr) (ks : List Tx) (hk : rising lts ks = true) : mayP ps ks = (decide (1 ≤ ps.length) && walkP ps ks) := by
  have hi := (rising_iff swoT ks).1 hk
  have h := walkP_iff ps ks hi
  have e : walkP ps ks = ((ps.all fun p => decide (p.2.size ≤ 65535)) && (rising lts (kys ps) && (kys ps).all (inn ks))) := by
    rw [Bool.eq_iff_iff, h]
    simp only [Bool.and_eq_true, List.all_eq_true, decide_eq_true_eq, rising_iff swoT, inn_iff]
  unfold mayP; rw [e]
def rpair (st : RS) : Pr × RS := ((text (rtext 65535 st).1, text (rtext 65535 (rtext 65535 st).2).1), (rtext 65535 (rtext 65535 st).2).2)
def rpairs (st : RS) : List Pr × RS := rmany rpair (rcount 1024 st).1 (rcount 1024 st).2
def rrec (b : List Nat) : Rec × RS :=
  if (rnum 1 (b, 0)).1 = 1 then (⟨((rnum 1 (b, 0)).1 : Nat), (rnum 8 (rnum 1 (b, 0)).2).1, (rpairs (rnum 8 (rnum 1 (b, 0)).2).2).1, (rkeys (rpairs (rnum 8 (rnum 1 (b, 0)).2).2).2).1⟩, (rkeys (rpairs (rnum 8 (rnum 1 (b, 0)).2).2).2).2)
  else (⟨((rnum 1 (b, 0)).1 : Nat), (rnum 8 (rnum 1 (b, 0)).2).1, [], []⟩, (rnum 8 (rnum 1 (b, 0)).2).2)
def rok (b : List Nat) : Bool := rend0 (rrec b).2 && may (rrec b).1
def pay (b : List Nat) : List Nat := (b.drop 8).take (Pk.val (b.take 4))
def chk (b : List Nat) : Nat := Pk.val ((b.drop 4).take 4)
def parse (b : List Nat) : Rec × Nat × Nat :=
  if b.length < 8 then (c0, 0, 91) else if 1048576 < Pk.val (b.take 4) then (c0, 0, 3) else if b.length - 8 < Pk.val (b.take 4) then (c0, 0, 91)
  else if Crc.sum (pay b) ≠ chk b then (c0, 0, 90) else if rok (pay b) then ((rrec (pay b)).1, 8 + (pay b).length, 0) else (c0, 0, 2)
theorem len1 {α : Type} {l : List α} (h : l.length = 1) (d : α) : l = [l.getD 0 d] := by
  match l, h with
  | [x], _ => rfl
theorem mayK_all {l : List Tx} (h : mayK l = true) : l.length ≤ 1024 ∧ 1 ≤ l.length ∧ (∀ s ∈ l, s.size ≤ 65535) ∧ rising lts l = true := by
  unfold mayK at h
  simp only [Bool.and_eq_true, decide_eq_true_eq, List.all_eq_true] at h
  exact ⟨h.1.2, h.1.1, h.2.1, h.2.2⟩
theorem may_parts {r : Rec} (h : may r = true) : 65536 ≤ r.id ∧ ((r.kind = 1 ∧ mayK r.keys = true ∧ mayP r.pairs r.keys = true) ∨ (r.kind = 2 ∧ r.pairs = [] ∧ r.keys = [])) := by
  unfold may at h
  simp only [Bool.and_eq_true, decide_eq_true_eq] at h
  refine ⟨h.1, ?_⟩
  by_cases h1 : r.kind = 1
  · have := h.2; rw [if_pos h1] at this
    simp only [Bool.and_eq_true] at this
    exact .inl ⟨h1, this.1, this.2⟩
  · have := h.2; rw [if_neg h1] at this
    by_cases h2 : r.kind = 2
    · rw [if_pos h2] at this
      simp only [decide_eq_true_eq] at this
      exact .inr ⟨h2, len0 this.1, len0 this.2⟩
    · rw [if_neg h2] at this; cases this
theorem enc_length (r : Rec) : (enc r).length = (body r).length + 8 := by unfold enc; simp only [List.length_append, num_length]; omega
set_option linter.unusedVariables false
set_option linter.unusedSimpArgs false
theorem rpair_stp (st : RS) (hb : Byt st) : Stp st (layP1 (rpair st).1) (rpair st).2 := by
  have h1 := rtext_stp' 65535 st hb
  exact h1.trans (rtext_stp' 65535 _ (h1.1 hb))
theorem rpairs_stp (st : RS) (hb : Byt st) : Stp st (num 4 (rpairs st).1.length ++ layP (rpairs st).1) (rpairs st).2 := by
  have h1 := rcount_stp 1024 st
  obtain ⟨h2, h3⟩ := rmany_stp rpair layP1 rpair_stp (rcount 1024 st).1 _ (h1.1 hb)
  unfold rpairs
  rw [h3]
  exact h1.trans h2
theorem body_readW (b : List Nat) (hb : ∀ c ∈ b, c < 256) (h : rok b = true) : body (rrec b).1 = b := by
  unfold rok rend0 at h
  simp only [Bool.and_eq_true, decide_eq_true_eq] at h
  obtain ⟨⟨e1, e2⟩, hm⟩ := h
  have s1 := rnum_stp 1 (b, 0)
  have b1 := s1.1 hb
  have s2 := rnum_stp 8 (rnum 1 (b, 0)).2
  have b2 := s2.1 b1
  have s3 := rpairs_stp _ b2
  have b3 := s3.1 b2
  have s4 := rkeys_stp _ b3
  unfold rrec at e1 e2 hm ⊢
  by_cases hk : (rnum 1 (b, 0)).1 = 1
  · rw [if_pos hk] at e1 e2 hm ⊢
    simp only at e1 e2
    have s := s1.trans (s2.trans (s3.trans s4))
    obtain ⟨_, hs⟩ := s.2 hb e1
    rw [e2, List.append_nil] at hs
    unfold body layF
    simp only [Int.toNat_natCast]
    rw [if_pos (by rw [hk]; rfl)]
    rw [List.append_assoc] at hs
    exact hs.symm
  · rw [if_neg hk] at e1 e2 hm ⊢
    simp only at e1 e2
    have s := s1.trans s2
    obtain ⟨_, hs⟩ := s.2 hb e1
    rw [e2, List.append_nil] at hs
    unfold body layF
    simp only [Int.toNat_natCast]
    rw [if_neg (by omega), List.append_nil]
    exact hs.symm
theorem rrec_id (b : List Nat) (hb : ∀ c ∈ b, c < 256) : (rrec b).1.id < 18446744073709551616 := by
  have h1 := (rnum_stp 1 (b, 0)).1 hb
  have : (rrec b).1.id = (rnum 8 (rnum 1 (b, 0)).2).1 := by unfold rrec; split <;> rfl
  rw [this]
  exact rnum_lt 8 _ _ h1
theorem parse_ok {b : List Nat} {r : Rec} {m : Nat} (h : parse b = (r, m, 0)) : r = (rrec (pay b)).1 ∧ rok (pay b) = true ∧ 8 ≤ b.length ∧ Pk.val (b.take 4) ≤ b.length - 8 ∧ Pk.val (b.take 4) ≤ 1048576 ∧ Crc.sum (pay b) = chk b ∧ m = 8 + (pay b).length ∧ (pay b).length = Pk.val (b.take 4) := by
  have hp : Pk.val (b.take 4) ≤ b.length - 8 → (pay b).length = Pk.val (b.take 4) := by
    intro h; unfold pay; rw [List.length_take, List.length_drop]; omega
  unfold parse at h
  by_cases h1 : b.length < 8
  · rw [if_pos h1] at h; simp at h
  · rw [if_neg h1] at h
    by_cases h2 : 1048576 < Pk.val (b.take 4)
    · rw [if_pos h2] at h; simp at h
    · rw [if_neg h2] at h
      by_cases h3 : b.length - 8 < Pk.val (b.take 4)
      · rw [if_pos h3] at h; simp at h
      · rw [if_neg h3] at h
        by_cases h4 : Crc.sum (pay b) = chk b
        · rw [if_neg (by simp [h4])] at h
          by_cases h5 : rok (pay b) = true
          · rw [if_pos h5] at h
            simp only [Prod.mk.injEq, and_true] at h
            exact ⟨h.1.symm, h5, by omega, by omega, by omega, h4, h.2.symm, hp (by omega)⟩
          · rw [if_neg h5] at h; simp at h
        · rw [if_pos h4] at h; simp at h
theorem pay_byt {b : List Nat} (hb : ∀ c ∈ b, c < 256) : ∀ c ∈ pay b, c < 256 := byt_take (byt_drop hb 8) _
theorem parse_back {b : List Nat} {r : Rec} {m : Nat} (hb : ∀ c ∈ b, c < 256) (h : parse b = (r, m, 0)) : may r = true ∧ r.id < 18446744073709551616 ∧ (body r).length ≤ 1048576 ∧ m = (enc r).length ∧ m ≤ b.length ∧ enc r = b.take m := by
  obtain ⟨rfl, h1, h2, h3, h4, h5, h6, h7⟩ := parse_ok h
  have hm : may (rrec (pay b)).1 = true := by unfold rok at h1; simp at h1; exact h1.2
  have e := body_readW (pay b) (pay_byt hb) h1
  have hl : (enc (rrec (pay b)).1).length = m := by rw [enc_length, e, h6, Nat.add_comm]
  refine ⟨hm, rrec_id _ (pay_byt hb), by rw [e, h7]; exact h4, hl.symm, by omega, ?_⟩
  unfold enc
  rw [e, h5, h6, h7]
  unfold chk
  rw [num_val 4 (b.take 4) (by rw [List.length_take]; omega) (byt_take hb 4), num_val 4 ((b.drop 4).take 4) (by rw [List.length_take, List.length_drop]; omega) (byt_take (byt_drop hb 4) 4)]
  have e8 : b.take (8 + Pk.val (b.take 4)) = b.take 4 ++ ((b.drop 4).take 4 ++ (b.drop 8).take (Pk.val (b.take 4))) := by
    rw [show 8 + Pk.val (b.take 4) = 4 + (4 + Pk.val (b.take 4)) by omega, List.take_add, List.take_add, List.drop_drop]
  rw [e8]
  rfl
inductive Run (b : List Nat) : List Rec → Nat → Prop where
  | nil : Run b [] 0
  | snoc {l : List Rec} {k m : Nat} {r : Rec} : Run b l k → parse (b.drop k) = (r, m, 0) → Run b (l ++ [r]) (k + m)
theorem Run.inv {b : List Nat} {l : List Rec} {k : Nat} (h : Run b l k) : (l = [] ∧ k = 0) ∨ ∃ l' k' m r, l = l' ++ [r] ∧ k = k' + m ∧ Run b l' k' ∧ parse (b.drop k') = (r, m, 0) := by
  cases h with
  | nil => exact .inl ⟨rfl, rfl⟩
  | snoc h1 h2 => exact .inr ⟨_, _, _, _, rfl, rfl, h1, h2⟩
theorem Run.same {b : List Nat} : ∀ (n : Nat) {l l' : List Rec} {k k' : Nat}, Run b l k → Run b l' k' → l.length = n → l'.length = n → l = l' ∧ k = k'
  | 0, l, l', k, k', h, h', e, e' => by
    rcases h.inv with ⟨rfl, rfl⟩ | ⟨a, b, c, d, rfl, _⟩
    · rcases h'.inv with ⟨rfl, rfl⟩ | ⟨a, b, c, d, rfl, _⟩
      · exact ⟨rfl, rfl⟩
      · simp at e'
    · simp at e
  | n + 1, l, l', k, k', h, h', e, e' => by
    rcases h.inv with ⟨rfl, rfl⟩ | ⟨l1, k1, m1, r1, rfl, rfl, g1, p1⟩
    · simp at e
    · rcases h'.inv with ⟨rfl, rfl⟩ | ⟨l2, k2, m2, r2, rfl, rfl, g2, p2⟩
      · simp at e'
      · obtain ⟨rfl, rfl⟩ := Run.same n g1 g2 (by simpa using e) (by simpa using e')
        rw [p1] at p2
        cases p2
        exact ⟨rfl, rfl⟩
theorem Run.upto {b : List Nat} : ∀ {l : List Rec} {k : Nat}, Run b l k → ∀ n, n < l.length → ∃ k' m r, Run b (l.take n) k' ∧ parse (b.drop k') = (r, m, 0) := by
  intro l k h
  induction h with
  | nil => intro n hn; simp at hn
  | @snoc l k m r h1 h2 ih =>
    intro n hn
    simp only [List.length_append, List.length_cons, List.length_nil] at hn
    by_cases hl : n < l.length
    · rw [List.take_append_of_le_length (by omega)]
      exact ih n hl
    · have : n = l.length := by omega
      subst this
      rw [List.take_append_of_le_length (Nat.le_refl _), List.take_length]
      exact ⟨k, m, r, h1, h2⟩
theorem Run.one {b : List Nat} {l l' : List Rec} {k k' : Nat} {e e' : Nat} (h : Run b l k) (h' : Run b l' k') (he : (parse (b.drop k)).2.2 ≠ 0) (he' : (parse (b.drop k')).2.2 ≠ 0) : l = l' ∧ k = k' := by
  rcases Nat.lt_trichotomy l.length l'.length with hl | hl | hl
  · obtain ⟨k2, m, r, g, p⟩ := h'.upto _ hl
    obtain ⟨_, rfl⟩ := Run.same l.length h g rfl (by rw [List.length_take]; omega)
    rw [p] at he; exact absurd rfl he
  · exact Run.same _ h h' rfl hl.symm
  · obtain ⟨k2, m, r, g, p⟩ := h.upto _ hl
    obtain ⟨_, rfl⟩ := Run.same l'.length h' g rfl (by rw [List.length_take]; omega)
    rw [p] at he'; exact absurd rfl he'
theorem Run.le {b : List Nat} (hb : ∀ c ∈ b, c < 256) {l : List Rec} {k : Nat} (h : Run b l k) : k ≤ b.length ∧ 8 * l.length ≤ k := by
  induction h with
  | nil => simp
  | snoc h1 h2 ih =>
    obtain ⟨_, _, _, h3, h4, _⟩ := parse_back (byt_drop hb _) h2
    rw [enc_length] at h3
    rw [List.length_drop] at h4
    simp only [List.length_append, List.length_cons, List.length_nil]
    omega
end Go.Proofs.YtdemoghlibnooaaGreatDoor
namespace Go.Proofs.YtdemoghlibnooaaGreatDoor
open Go.RowKit Go.Sort Orl Pk
set_option linter.unusedVariables false
set_option linter.unusedSimpArgs false
def Txs (ss : List Tx) : Prop := ss.length ≤ 1024 ∧ ∀ s ∈ ss, s.size ≤ 65535
set_option linter.unusedVariables false
set_option linter.unusedSimpArgs false
end Go.Proofs.YtdemoghlibnooaaGreatDoor
namespace Go.Proofs.YtdemoghlibnooaaGreatDoor
open Go.RowKit Go.Sort Orl Pk
set_option linter.unusedVariables false
set_option linter.unusedSimpArgs false
set_option linter.unusedVariables false
set_option linter.unusedSimpArgs false
theorem RStep.trans {t : Nat} {w w1 w2 : World} {a : Nat} {o o1 : Option Addr} {st2 : RS} (hS : BSub o o1) (hK : Keeps (eqA a) w w1) (h : RStep t w1 a o1 st2 w2) : RStep t w a o st2 w2 := by
  obtain ⟨o2, c2, hR, hS2, hK2⟩ := h
  exact ⟨o2, c2, hR, hS.trans hS2, hK.trans hK2⟩
theorem RStep.keeps {t : Nat} {w w1 : World} {a : Nat} {o : Option Addr} {st : RS} (h : RStep t w a o st w1) : Keeps (eqA a) w w1 := by
  obtain ⟨o1, c1, hR, hS, hK⟩ := h; exact hK
theorem RStep.start {t : Nat} {w : World} {a : Nat} {o : Option Addr} {c : Nat} {bs : List Nat} {e : Nat} (h : IsR t w a o c bs e) : RStep t w a o (bs, e) w := ⟨o, c, h, BSub.refl _, Keeps.refl _ _⟩
theorem RStep.beside {t : Nat} {w w1 w2 : World} {a : Nat} {o : Option Addr} {st : RS} (h : RStep t w a o st w1) (hw : IsR t w a o 0 [] 0 ∨ (a < w.heap.size ∧ ∀ k, inO o k → k < w.heap.size)) {S : Nat → Prop} (k : Keeps S w1 w2) (hn : ∀ i, S i → w.heap.size ≤ i) : RStep t w a o st w2 := by
  obtain ⟨o1, c1, hR, hS, hK⟩ := h
  have hlt : a < w.heap.size ∧ ∀ k, inO o k → k < w.heap.size := by
    rcases hw with h | h
    · exact ⟨lt_of_block h.blk, h.live⟩
    · exact h
  refine ⟨o1, c1, hR.keeps k ?_, hS, hK.then k (fun i hi => .inr (hn i hi))⟩
  rintro i (rfl | hi) hs
  · have := hn _ hs; omega
  · have := hn _ hs
    have := hlt.2 i (hS.in i hi)
    omega
theorem RStep.byt {t : Nat} {w w1 : World} {a : Nat} {o : Option Addr} {st : RS} (h : RStep t w a o st w1) : ∀ c ∈ st.1, c < 256 := by
  obtain ⟨o1, c1, hR, hS, hK⟩ := h; exact hR.sl.row.1
theorem rsU8 {w w1 : World} {a : Nat} {o : Option Addr} {st : RS} (h : RStep 274 w a o st w1) :
    Calls Tryz.prog 193 #[.pointer (some ⟨a, 0, none⟩)] w1 fun e w2 => (∃ v : Nat, e = .returned (.int .u8 (v : Nat)) ∧ Hid (v = (rnum 1 st).1) ∧ v < 256) ∧ RStep 274 w a o (rnum 1 st).2 w2 ∧ Keeps (eqA a) w1 w2 := by
  have hb := h.byt
  obtain ⟨o1, c1, hR, hS, hK⟩ := h
  refine (rU8_any w1 a o1 c1 st.1 st.2 hR).mono ?_
  rintro e w2 ⟨rfl, h2⟩
  exact ⟨⟨_, rfl, rfl, by have := rnum_lt 1 st.1 st.2 hb; omega⟩, h2.trans hS hK, h2.keeps⟩
theorem rsU64 {w w1 : World} {a : Nat} {o : Option Addr} {st : RS} (h : RStep 274 w a o st w1) :
    Calls Tryz.prog 194 #[.pointer (some ⟨a, 0, none⟩)] w1 fun e w2 => (∃ v : Nat, e = .returned (.int .u64 (v : Nat)) ∧ Hid (v = (rnum 8 st).1) ∧ v < 18446744073709551616) ∧ RStep 274 w a o (rnum 8 st).2 w2 ∧ Keeps (eqA a) w1 w2 := by
  have hb := h.byt
  obtain ⟨o1, c1, hR, hS, hK⟩ := h
  refine (rU64_any w1 a o1 c1 st.1 st.2 hR).mono ?_
  rintro e w2 ⟨rfl, h2⟩
  exact ⟨⟨_, rfl, rfl, by have := rnum_lt 8 st.1 st.2 hb; omega⟩, h2.trans hS hK, h2.keeps⟩
theorem rsCount {w w1 : World} {a : Nat} {o : Option Addr} {st : RS} (h : RStep 274 w a o st w1) :
    Calls Tryz.prog 195 #[.pointer (some ⟨a, 0, none⟩), .int .i64 1024] w1 fun e w2 => (∃ v : Nat, e = .returned (.int .i64 (v : Nat)) ∧ Hid (v = (rcount 1024 st).1) ∧ v ≤ 1024) ∧ RStep 274 w a o (rcount 1024 st).2 w2 ∧ Keeps (eqA a) w1 w2 := by
  obtain ⟨o1, c1, hR, hS, hK⟩ := h
  refine (rCount_any w1 a o1 c1 st.1 st.2 1024 (by omega) (by omega) hR).mono ?_
  rintro e w2 ⟨rfl, h2⟩
  exact ⟨⟨_, rfl, rfl, rcount_le 1024 st⟩, h2.trans hS hK, h2.keeps⟩
theorem rsText {w w1 : World} {a : Nat} {o : Option Addr} {st : RS} (h : RStep 274 w a o st w1) :
    Calls Tryz.prog 197 #[.pointer (some ⟨a, 0, none⟩), .int .i64 65535] w1 fun e w2 => (∃ s : Tx, e = .returned (.string s) ∧ Hid (s = text (rtext 65535 st).1)) ∧ RStep 274 w a o (rtext 65535 st).2 w2 ∧ Keeps (eqA a) w1 w2 := by
  obtain ⟨o1, c1, hR, hS, hK⟩ := h
  refine (rText_any w1 a o1 c1 st.1 st.2 65535 (by omega) (by omega) hR).mono ?_
  rintro e w2 ⟨rfl, h2⟩
  exact ⟨⟨_, rfl, rfl⟩, h2.trans hS hK, h2.keeps⟩
theorem rsTexts {w w1 : World} {a : Nat} {o : Option Addr} {st : RS} (h : RStep 274 w a o st w1) :
    Calls Tryz.prog 199 #[.pointer (some ⟨a, 0, none⟩), .int .i64 1024, .int .i64 65535] w1 fun e w2 => (∃ oo n c, e = .returned (.slice oo n c) ∧ Hid (n = (rkeys st).1.length) ∧ Own TE w2 oo c (rkeys st).1 ∧ New w1 oo) ∧ RStep 274 w a o (rkeys st).2 w2 ∧ Keeps (eqA a) w1 w2 := by
  obtain ⟨o1, c1, hR, hS, hK⟩ := h
  refine (rTexts_any w1 a o1 c1 st.1 st.2 1024 65535 (by omega) (by omega) (by omega) (by omega) hR).mono ?_
  rintro e w2 ⟨⟨oo, c, n, rfl, hn, _, hown, hnew, _⟩, h2⟩
  refine ⟨⟨oo, n, c, rfl, ?_, ownT_of hown, hnew⟩, h2.trans hS hK, h2.keeps⟩
  show n = _
  rw [hn.out]; unfold rkeys; simp
end Go.Proofs.YtdemoghlibnooaaGreatDoor
namespace Go.Proofs.YtdemoghlibnooaaGreatDoor
open Go.RowKit Go.Sort Orl Pk
set_option linter.unusedVariables false
set_option linter.unusedSimpArgs false
structure CV where
  k : Int
  i : Nat
  op : Option Addr
  np : Nat
  cp : Nat
  ok : Option Addr
  nk : Nat
  ck : Nat
def cv0 : CV := ⟨0, 0, none, 0, 0, none, 0, 0⟩
def CE : El CV := ⟨47, 102, 4, 64, fun v => [.int .i64 v.k, .int .u64 (v.i : Nat), .slice v.op v.np v.cp, .slice v.ok v.nk v.ck]⟩
theorem infoC : (Tryz.prog.info? 47).map (fun i => (i.zero, i.size, i.bytes)) = some (some (.agg #[.int .i64 0, .int .u64 0, .slice none 0 0, .slice none 0 0]), 4, 64) := by kernel_rfl
theorem okC : CE.Ok := by
  obtain ⟨i0, hi, hz0, hz1, hz2⟩ := info_parts infoC
  exact ⟨fun _ => rfl, fun x u hu => by simp [CE] at hu; rcases hu with rfl | rfl | rfl | rfl <;> rfl, by decide, Tryz.underlying102, i0, _, hi, hz0, hz1, hz2, rfl⟩
structure FitR (r : Rec) : Prop where
  klen : r.keys.length ≤ 8796093022000
  keys : ∀ s ∈ r.keys, s.size ≤ 140737488351232
  plen : r.pairs.length ≤ 4398046511000
  pairs : ∀ p ∈ r.pairs, p.1.size ≤ 140737488351232 ∧ p.2.size ≤ 140737488351232
  k1 : -9223372036854775808 ≤ r.kind
  k2 : r.kind ≤ 9223372036854775807
  id : r.id < 18446744073709551616
structure IsC (w : World) (v : CV) (r : Rec) : Prop where
  k : v.k = r.kind
  i : v.i = r.id
  np : v.np = r.pairs.length
  nk : v.nk = r.keys.length
  prs : Sl PE w v.op v.cp r.pairs
  kys : Sl TE w v.ok v.ck r.keys
  fit : FitR r
theorem IsC.keepsN {w w' : World} {v : CV} {r : Rec} (h : IsC w v r) (kp : Keeps no w w') : IsC w' v r :=
  ⟨h.k, h.i, h.np, h.nk, h.prs.keepsN kp, h.kys.keepsN kp, h.fit⟩
theorem results_row3 {fn : Func} {p u v : Tmp} {ty : TypeId} (h : fn.results = #[.cell p ty, .tmp u, .tmp v]) (tmps : Array Value) (w : World) (g : Nat) (cs : Array Value)
    (hp : tmps.getD p undef = .pointer (some ⟨g, 0, none⟩)) (hl : (loadVar ty ⟨g, 0, none⟩).run Tryz.prog w = .ok (.agg cs) w) :
    (results fn tmps).run Tryz.prog w = .ok (.tuple #[.agg cs, tmps.getD u undef, tmps.getD v undef]) w := by
  have hp' : tmps[p]?.getD undef = .pointer (some ⟨g, 0, none⟩) := by simpa using hp
  simp [results, h, hp', asAddr, hl]
theorem rec_size (a b c d : Value) : (Tryz.prog.info? 47).map (·.size) = some (#[a, b, c, d] : Array Value).size := by
  show _ = some 4
  kernel_rfl
theorem loadR {w : World} {g : Nat} {a0 a1 a2 a3 : Value} (h : w.heap[g]? = some (.cells #[a0, a1, a2, a3] 47 (0, 0))) : (loadVar 47 ⟨g, 0, none⟩).run Tryz.prog w = .ok (.agg #[a0, a1, a2, a3]) w :=
  run_loadVar_row _ _ _ _ _ _ _ h Tryz.underlying47 rfl (rec_size _ _ _ _)
theorem cells4W {w : World} {g : Nat} {a0 a1 a2 a3 : Value} {t : TypeId} {fr : Nat × Nat} (h : w.heap[g]? = some (.cells #[a0, a1, a2, a3] t fr)) :
    w.cell? ⟨g, 0, none⟩ = some a0 ∧ w.cell? ⟨g, 1, none⟩ = some a1 ∧ w.cell? ⟨g, 2, none⟩ = some a2 ∧ w.cell? ⟨g, 3, none⟩ = some a3 := ⟨cell_of_blk h 0, cell_of_blk h 1, cell_of_blk h 2, cell_of_blk h 3⟩
set_option linter.unusedVariables false
set_option linter.unusedSimpArgs false
theorem set4W {w : World} {g : Nat} {z0 z1 z2 z3 : Value} {t : TypeId} (h : w.heap[g]? = some (.cells #[z0, z1, z2, z3] t (0, 0))) (a0 a1 a2 a3 : Value) :
    ((((w.setCell ⟨g, 0, none⟩ a0).setCell ⟨g, 1, none⟩ a1).setCell ⟨g, 2, none⟩ a2).setCell ⟨g, 3, none⟩ a3).heap[g]? = some (.cells #[a0, a1, a2, a3] t (0, 0)) ∧ Keeps (eqA g) w ((((w.setCell ⟨g, 0, none⟩ a0).setCell ⟨g, 1, none⟩ a1).setCell ⟨g, 2, none⟩ a2).setCell ⟨g, 3, none⟩ a3) := by
  refine ⟨?_, ((((Keeps.refl (eqA g) w).setA _ _).setA _ _).setA _ _).setA _ _⟩
  rw [blk_set (blk_set (blk_set (blk_set h 0 a0) 1 a1) 2 a2) 3 a3]
  rfl
end Go.Proofs.YtdemoghlibnooaaGreatDoor

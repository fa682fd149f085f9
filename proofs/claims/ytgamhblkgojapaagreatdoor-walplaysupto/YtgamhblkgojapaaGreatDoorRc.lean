/- Plain mathematics: records, which may be, their bytes, how bytes are read. No program. -/
import Derived.Test.YtgamhblkgojapaaGreatDoorR4
import Derived.Test.YtgamhblkgojapaaGreatDoorBk
import Derived.Test.YtgamhblkgojapaaGreatDoorCm
namespace Go.Proofs.YtgamhblkgojapaaGreatDoor
open Pk Orl Go.Sort
set_option linter.unusedVariables false
set_option linter.unusedSimpArgs false

structure Rec where
  kind : Int
  id : Nat
  pairs : List Pr
  keys : List Tx
def c0 : Rec := ⟨0, 0, [], []⟩
def inn (xs : List Tx) (s : Tx) : Bool := xs.any fun x => decide (x = s)
theorem inn_iff (xs : List Tx) (s : Tx) : inn xs s = true ↔ s ∈ xs := by
  unfold inn
  simp only [List.any_eq_true, decide_eq_true_eq]
  exact ⟨fun ⟨x, hx, e⟩ => e ▸ hx, fun h => ⟨s, h, rfl⟩⟩
theorem inn_no {xs : List Tx} {s : Tx} (h : s ∉ xs) : inn xs s = false := by
  cases e : inn xs s with
  | false => rfl
  | true => exact absurd ((inn_iff xs s).1 e) h
def kys (l : List Pr) : List Tx := l.map Prod.fst
theorem kys_length (l : List Pr) : (kys l).length = l.length := by simp [kys]
def mayK (l : List Tx) : Bool := decide (1 ≤ l.length ∧ l.length ≤ 1024) && ((l.all fun k => decide (k.size ≤ 65535)) && rising lts l)
def mayP (l : List Pr) (ks : List Tx) : Bool := decide (1 ≤ l.length) && ((l.all fun p => decide (p.2.size ≤ 65535)) && (rising lts (kys l) && (kys l).all (inn ks)))
def may (r : Rec) : Bool := decide (65536 ≤ r.id) && (if r.kind = 1 then mayK r.keys && mayP r.pairs r.keys else if r.kind = 2 then decide (r.pairs.length = 0 ∧ r.keys.length = 0) else false)
def layP1 (p : Pr) : List Nat := txt (nats p.1) ++ txt (nats p.2)
def layP (l : List Pr) : List Nat := l.flatMap layP1
def layF (r : Rec) : List Nat := if r.kind = 1 then num 4 r.pairs.length ++ (layP r.pairs ++ txts (natss r.keys)) else []
/-- the payload, the bytes -/
def body (r : Rec) : List Nat := num 1 r.kind.toNat ++ (num 8 r.id ++ layF r)
def enc (r : Rec) : List Nat := num 4 (body r).length ++ (num 4 (Crc.sum (body r)) ++ body r)

/-! ### the walk over the pairs -/
def idx : List Tx → Tx → Nat
  | [], _ => 0
  | x :: l, s => if x = s then 0 else idx l s + 1
theorem idx_le (l : List Tx) (s : Tx) : idx l s ≤ l.length := by
  induction l with
  | nil => simp [idx]
  | cons x l ih => unfold idx; split <;> simp <;> omega
theorem idx_lt {l : List Tx} {s : Tx} : idx l s < l.length ↔ s ∈ l := by
  induction l with
  | nil => simp [idx]
  | cons x l ih =>
    unfold idx
    by_cases h : x = s
    · rw [if_pos h]; simp [h]
    · rw [if_neg h, List.length_cons, List.mem_cons]
      constructor
      · intro h1; exact .inr (ih.1 (by omega))
      · rintro (h1 | h1)
        · exact absurd h1.symm h
        · have := ih.2 h1; omega
theorem idx_split {l : List Tx} {s : Tx} (h : s ∈ l) : l = l.take (idx l s) ++ s :: l.drop (idx l s + 1) := by
  induction l with
  | nil => cases h
  | cons x l ih =>
    unfold idx
    by_cases hx : x = s
    · rw [if_pos hx]; simp [hx]
    · rw [if_neg hx]
      have : s ∈ l := by rcases List.mem_cons.1 h with e | e; exact absurd e.symm hx; exact e
      have := ih this
      simp only [List.take_succ_cons, List.drop_succ_cons, List.cons_append]
      exact congrArg (x :: ·) this
theorem idx_of {l : List Tx} {s : Tx} {i : Nat} (hi : i < l.length) (he : l.getD i e0 = s) (hn : ∀ j, j < i → l.getD j e0 ≠ s) : idx l s = i := by
  induction l generalizing i with
  | nil => simp at hi
  | cons x l ih =>
    unfold idx
    cases i with
    | zero => simp at he; rw [if_pos he]
    | succ i =>
      have h0 := hn 0 (by omega)
      simp at h0
      rw [if_neg h0]
      rw [ih (i := i) (by simpa using hi) (by simpa using he) (fun j hj => by have := hn (j + 1) (by omega); simpa using this)]
theorem idx_none {l : List Tx} {s : Tx} (hn : ∀ j, j < l.length → l.getD j e0 ≠ s) : s ∉ l := by
  intro h
  obtain ⟨j, hj, e⟩ := List.getElem_of_mem h
  exact hn j hj (by rw [List.getD_eq_getElem?_getD, List.getElem?_eq_getElem hj]; exact e)
def walkP : List Pr → List Tx → Bool
  | [], _ => true
  | p :: ps, ks => inn ks p.1 && (decide (p.2.size ≤ 65535) && walkP ps (ks.drop (idx ks p.1 + 1)))
theorem inc_cons {a : Tx} {l : List Tx} : Inc lts (a :: l) ↔ (∀ b ∈ l, lts a b = true) ∧ Inc lts l := List.pairwise_cons
theorem walkP_iff : ∀ (ps : List Pr) (ks : List Tx), Inc lts ks → (walkP ps ks = true ↔ (∀ p ∈ ps, p.2.size ≤ 65535) ∧ Inc lts (kys ps) ∧ ∀ k ∈ kys ps, k ∈ ks)
  | [], ks, _ => by simp [walkP, kys, Inc]
  | p :: ps, ks, hk => by
    unfold walkP
    simp only [Bool.and_eq_true, decide_eq_true_eq, inn_iff]
    by_cases hp : p.1 ∈ ks
    · have hs := idx_split hp
      have hk2 := hk
      rw [hs] at hk2
      obtain ⟨hA, hB, hAB⟩ := List.pairwise_append.1 hk2
      obtain ⟨hB1, hB2⟩ := List.pairwise_cons.1 hB
      have ih := walkP_iff ps (ks.drop (idx ks p.1 + 1)) hB2
      rw [ih]
      have hin : ∀ k, lts p.1 k = true → (k ∈ ks ↔ k ∈ ks.drop (idx ks p.1 + 1)) := by
        intro k hlt
        constructor
        · intro h
          rw [hs] at h
          rcases List.mem_append.1 h with h | h
          · have := hAB k h p.1 List.mem_cons_self
            have := asym swoT this
            rw [hlt] at this; cases this
          · rcases List.mem_cons.1 h with rfl | h
            · rw [swoT.irrefl] at hlt; cases hlt
            · exact h
        · exact List.mem_of_mem_drop
      show _ ↔ _ ∧ Inc lts (p.1 :: kys ps) ∧ _
      rw [inc_cons]
      constructor
      · rintro ⟨_, h2, h3, h4, h5⟩
        refine ⟨?_, ⟨fun b hb => hB1 b (h5 b hb), h4⟩, ?_⟩
        · intro q hq
          rcases List.mem_cons.1 hq with rfl | hq
          · exact h2
          · exact h3 q hq
        · intro k hk'
          have hk' : k ∈ p.1 :: kys ps := hk'
          rcases List.mem_cons.1 hk' with rfl | hk'
          · exact hp
          · exact List.mem_of_mem_drop (h5 k hk')
      · rintro ⟨h1, ⟨h2, h3⟩, h4⟩
        refine ⟨hp, h1 p List.mem_cons_self, fun q hq => h1 q (List.mem_cons_of_mem _ hq), h3, fun k hk' => ?_⟩
        exact (hin k (h2 k hk')).1 (h4 k (List.mem_cons_of_mem _ hk'))
    · constructor
      · rintro ⟨h, _⟩; exact absurd h hp
      · rintro ⟨_, _, h⟩; exact absurd (h p.1 List.mem_cons_self) hp
theorem walkP_len : ∀ (ps : List Pr) (ks : List Tx), walkP ps ks = true → ps.length ≤ ks.length
  | [], ks, _ => by simp
  | p :: ps, ks, h => by
    unfold walkP at h
    simp only [Bool.and_eq_true, decide_eq_true_eq, inn_iff] at h
    have h1 := idx_lt.2 h.1
    have h2 := walkP_len ps _ h.2.2
    rw [List.length_drop] at h2
    rw [List.length_cons]; omega
theorem mayP_walk (ps : List Pr) (ks : List Tx) (hk : rising lts ks = true) : mayP ps ks = (decide (1 ≤ ps.length) && walkP ps ks) := by
  have hi := (rising_iff swoT ks).1 hk
  have h := walkP_iff ps ks hi
  have e : walkP ps ks = ((ps.all fun p => decide (p.2.size ≤ 65535)) && (rising lts (kys ps) && (kys ps).all (inn ks))) := by
    rw [Bool.eq_iff_iff, h]
    simp only [Bool.and_eq_true, List.all_eq_true, decide_eq_true_eq, rising_iff swoT, inn_iff]
  unfold mayP; rw [e]

/-! ### reading -/
def rpair (st : RS) : Pr × RS := ((text (rtext 65535 st).1, text (rtext 65535 (rtext 65535 st).2).1), (rtext 65535 (rtext 65535 st).2).2)
def rmany {α : Type} (f : RS → α × RS) : Nat → RS → List α × RS
  | 0, st => ([], st)
  | n + 1, st => ((rmany f n st).1 ++ [(f (rmany f n st).2).1], (f (rmany f n st).2).2)
def rpairs (st : RS) : List Pr × RS := rmany rpair (rcount 1024 st).1 (rcount 1024 st).2
def rkeys (st : RS) : List Tx × RS := ((rtexts 1024 65535 st).1.map text, (rtexts 1024 65535 st).2)
def rrec (b : List Nat) : Rec × RS :=
  if (rnum 1 (b, 0)).1 = 1 then (⟨((rnum 1 (b, 0)).1 : Nat), (rnum 8 (rnum 1 (b, 0)).2).1, (rpairs (rnum 8 (rnum 1 (b, 0)).2).2).1, (rkeys (rpairs (rnum 8 (rnum 1 (b, 0)).2).2).2).1⟩, (rkeys (rpairs (rnum 8 (rnum 1 (b, 0)).2).2).2).2)
  else (⟨((rnum 1 (b, 0)).1 : Nat), (rnum 8 (rnum 1 (b, 0)).2).1, [], []⟩, (rnum 8 (rnum 1 (b, 0)).2).2)
def rend0 (st : RS) : Bool := decide (st.2 = 0 ∧ st.1 = [])
def rok (b : List Nat) : Bool := rend0 (rrec b).2 && may (rrec b).1
/-- the payload that stands behind a head -/
def pay (b : List Nat) : List Nat := (b.drop 8).take (Pk.val (b.take 4))
def chk (b : List Nat) : Nat := Pk.val ((b.drop 4).take 4)
def parse (b : List Nat) : Rec × Nat × Nat :=
  if b.length < 8 then (c0, 0, 91) else if 1048576 < Pk.val (b.take 4) then (c0, 0, 3) else if b.length - 8 < Pk.val (b.take 4) then (c0, 0, 91)
  else if Crc.sum (pay b) ≠ chk b then (c0, 0, 90) else if rok (pay b) then ((rrec (pay b)).1, 8 + (pay b).length, 0) else (c0, 0, 2)

/-! ### there and back -/
theorem txtsz {s : Tx} (h : s.size ≤ 65535) : (nats s).length < 4294967296 ∧ (nats s).length ≤ (65535 : Int).toNat := by
  rw [nats_length]; exact ⟨by omega, h⟩
theorem rtext_lay (s : Tx) (h : s.size ≤ 65535) (t : List Nat) : rtext 65535 (txt (nats s) ++ t, 0) = (nats s, (t, 0)) := rtext_full _ _ _ (txtsz h).1 (txtsz h).2
theorem rpair_lay (p : Pr) (h1 : p.1.size ≤ 65535) (h2 : p.2.size ≤ 65535) (t : List Nat) : rpair (layP1 p ++ t, 0) = (p, (t, 0)) := by
  unfold rpair layP1
  rw [List.append_assoc, rtext_lay _ h1, rtext_lay _ h2, text_nats, text_nats]
theorem rmany_lay {α : Type} (f : RS → α × RS) (lay1 : α → List Nat) (l : List α) (t : List Nat) (h : ∀ x ∈ l, ∀ t, f (lay1 x ++ t, 0) = (x, (t, 0))) :
    ∀ n, n ≤ l.length → rmany f n (l.flatMap lay1 ++ t, 0) = (l.take n, ((l.drop n).flatMap lay1 ++ t, 0))
  | 0, _ => by simp [rmany]
  | n + 1, hn => by
    have ih := rmany_lay f lay1 l t h n (by omega)
    have hd : l.drop n = l[n] :: l.drop (n + 1) := List.drop_eq_getElem_cons (by omega)
    rw [rmany, ih]
    simp only
    rw [hd, List.flatMap_cons, List.append_assoc, h _ (List.getElem_mem _)]
    rw [List.take_succ_eq_append_getElem (by omega)]
theorem rmany_all {α : Type} (f : RS → α × RS) (lay1 : α → List Nat) (l : List α) (t : List Nat) (h : ∀ x ∈ l, ∀ t, f (lay1 x ++ t, 0) = (x, (t, 0))) :
    rmany f l.length (l.flatMap lay1 ++ t, 0) = (l, (t, 0)) := by
  rw [rmany_lay f lay1 l t h l.length (Nat.le_refl _)]; simp
theorem rcount_full (n : Nat) (t : List Nat) (most : Int) (h1 : n < 4294967296) (h2 : n ≤ most.toNat) : rcount most (num 4 n ++ t, 0) = (n, (t, 0)) := by
  simp [rcount, ccount_full n t most h1 h2]
theorem rpairs_lay (l : List Pr) (h0 : l.length ≤ 1024) (h : ∀ p ∈ l, p.1.size ≤ 65535 ∧ p.2.size ≤ 65535) (t : List Nat) : rpairs (num 4 l.length ++ (layP l ++ t), 0) = (l, (t, 0)) := by
  unfold rpairs
  rw [rcount_full _ _ _ (by omega) (by simp; omega)]
  exact rmany_all rpair layP1 l t (fun x hx t => rpair_lay x (h x hx).1 (h x hx).2 t)
theorem map_text (l : List Tx) : (natss l).map text = l := by
  unfold natss; rw [List.map_map]
  conv => rhs; rw [← List.map_id l]
  exact List.map_congr_left (fun x _ => text_nats x)
theorem rkeys_lay (l : List Tx) (h0 : l.length ≤ 1024) (h : ∀ s ∈ l, s.size ≤ 65535) (t : List Nat) : rkeys (txts (natss l) ++ t, 0) = (l, (t, 0)) := by
  unfold rkeys
  have hl : (natss l).length = l.length := by simp [natss]
  rw [rtexts_full (natss l) t 1024 65535 (by rw [hl]; simp; omega) (by rw [hl]; omega) (fun s hs => by
    simp [natss] at hs; obtain ⟨x, hx, rfl⟩ := hs; exact txtsz (h x hx))]
  rw [map_text]
theorem len1 {α : Type} {l : List α} (h : l.length = 1) (d : α) : l = [l.getD 0 d] := by
  match l, h with
  | [x], _ => rfl
theorem len0 {α : Type} {l : List α} (h : l.length = 0) : l = [] := List.length_eq_zero_iff.1 h
theorem val_head (n : Nat) (t : List Nat) (h : n < 4294967296) : Pk.val ((num 4 n ++ t).take 4) = n := by
  rw [take_num, val_num]; exact Nat.mod_eq_of_lt h
theorem mayK_all {l : List Tx} (h : mayK l = true) : l.length ≤ 1024 ∧ 1 ≤ l.length ∧ (∀ s ∈ l, s.size ≤ 65535) ∧ rising lts l = true := by
  unfold mayK at h
  simp only [Bool.and_eq_true, decide_eq_true_eq, List.all_eq_true] at h
  exact ⟨h.1.2, h.1.1, h.2.1, h.2.2⟩
theorem mayP_all {l : List Pr} {ks : List Tx} (hk : mayK ks = true) (h : mayP l ks = true) : l.length ≤ 1024 ∧ 1 ≤ l.length ∧ ∀ p ∈ l, p.1.size ≤ 65535 ∧ p.2.size ≤ 65535 := by
  obtain ⟨k1, _, k3, k4⟩ := mayK_all hk
  have hw := h
  rw [mayP_walk _ _ k4] at hw
  simp only [Bool.and_eq_true, decide_eq_true_eq] at hw
  have hl := walkP_len _ _ hw.2
  unfold mayP at h
  simp only [Bool.and_eq_true, decide_eq_true_eq, List.all_eq_true, inn_iff] at h
  refine ⟨by omega, hw.1, fun p hp => ⟨k3 _ (h.2.2.2 p.1 (List.mem_map.2 ⟨p, hp, rfl⟩)), h.2.1 p hp⟩⟩
theorem may_parts {r : Rec} (h : may r = true) : 65536 ≤ r.id ∧ ((r.kind = 1 ∧ mayK r.keys = true ∧ mayP r.pairs r.keys = true) ∨ (r.kind = 2 ∧ r.pairs = [] ∧ r.keys = [])) := by
  unfold may at h
  simp only [Bool.and_eq_true, decide_eq_true_eq] at h
  refine ⟨h.1, ?_⟩
  by_cases h1 : r.kind = 1
  · have := h.2; rw [if_pos h1] at this
    simp only [Bool.and_eq_true] at this
    exact .inl ⟨h1, this.1, this.2⟩
  · have := h.2; rw [if_neg h1] at this
    by_cases h2 : r.kind = 2
    · rw [if_pos h2] at this
      simp only [decide_eq_true_eq] at this
      exact .inr ⟨h2, len0 this.1, len0 this.2⟩
    · rw [if_neg h2] at this; cases this
theorem rrec_body (r : Rec) (h : may r = true) (hi : r.id < 18446744073709551616) : rrec (body r) = (r, ([], 0)) := by
  obtain ⟨k, i, ps, ks⟩ := r
  obtain ⟨_, h⟩ := may_parts h
  simp only at h hi
  rcases h with ⟨rfl, h1, h2⟩ | ⟨rfl, rfl, rfl⟩
  · obtain ⟨a, _, b, _⟩ := mayK_all h1
    obtain ⟨a2, _, b2⟩ := mayP_all h1 h2
    unfold rrec body layF
    simp only [if_true]
    rw [rnum_full]
    simp only
    rw [rnum_full, Nat.mod_eq_of_lt (show i < 256 ^ 8 by omega)]
    simp only
    rw [show (Int.toNat 1) % 256 ^ 1 = 1 from rfl]
    simp only [if_true]
    rw [rpairs_lay _ a2 b2]
    simp only
    have := rkeys_lay ks a b []
    rw [List.append_nil] at this
    rw [this]
    rfl
  · unfold rrec body layF
    simp only
    rw [if_neg (show ¬ (2 : Int) = 1 by decide), List.append_nil]
    have e := rnum_full 8 i []
    rw [List.append_nil, Nat.mod_eq_of_lt (show i < 256 ^ 8 by omega)] at e
    rw [rnum_full]
    simp only
    rw [e]
    rfl
theorem enc_length (r : Rec) : (enc r).length = (body r).length + 8 := by unfold enc; simp only [List.length_append, num_length]; omega
theorem enc_drop8 (r : Rec) (t : List Nat) : (enc r ++ t).drop 8 = body r ++ t := by
  unfold enc
  rw [show 8 = 4 + 4 from rfl, ← List.drop_drop, List.append_assoc, drop_num, List.append_assoc, drop_num]
theorem enc_pay (r : Rec) (t : List Nat) (hl : (body r).length ≤ 1048576) : Pk.val ((enc r ++ t).take 4) = (body r).length ∧ pay (enc r ++ t) = body r := by
  have hv : Pk.val ((enc r ++ t).take 4) = (body r).length := by
    unfold enc; rw [List.append_assoc]; exact val_head _ _ (by omega)
  refine ⟨hv, ?_⟩
  unfold pay
  rw [hv, enc_drop8, List.take_append_of_le_length (Nat.le_refl _), List.take_length]
theorem enc_chk (r : Rec) (t : List Nat) (hs : Crc.sum (body r) < 4294967296) : chk (enc r ++ t) = Crc.sum (body r) := by
  unfold chk enc
  rw [List.append_assoc, drop_num, List.append_assoc]
  exact val_head _ _ hs
/-- there and back -/
theorem parse_enc (r : Rec) (h : may r = true) (hi : r.id < 18446744073709551616) (hl : (body r).length ≤ 1048576) (hs : Crc.sum (body r) < 4294967296) (t : List Nat) : parse (enc r ++ t) = (r, (enc r).length, 0) := by
  obtain ⟨e1, e2⟩ := enc_pay r t hl
  have e3 := enc_chk r t hs
  have e4 := rrec_body r h hi
  have hn := enc_length r
  unfold parse
  rw [List.length_append, e1, e2, e3, if_neg (by omega), if_neg (by omega), if_neg (by omega), if_neg (by simp)]
  rw [if_pos (by unfold rok rend0; rw [e4]; simp [h]), e4, hn, Nat.add_comm]
/-- cut off -/
theorem parse_cut (r : Rec) (hl : (body r).length ≤ 1048576) (k : Nat) (hk : k < (enc r).length) : parse ((enc r).take k) = (c0, 0, 91) := by
  have hn := enc_length r
  have hln : ((enc r).take k).length = k := by rw [List.length_take]; omega
  unfold parse
  rw [hln]
  by_cases h8 : k < 8
  · rw [if_pos h8]
  · have hv : Pk.val (((enc r).take k).take 4) = (body r).length := by
      rw [List.take_take, Nat.min_eq_left (by omega)]
      have := (enc_pay r [] hl).1
      rwa [List.append_nil] at this
    rw [if_neg h8, hv, if_neg (by omega), if_pos (by omega)]
theorem parse_errs (b : List Nat) : (∃ m, parse b = ((rrec (pay b)).1, m, 0)) ∨ ∃ E, E ≠ 0 ∧ E ≤ 91 ∧ parse b = (c0, 0, E) := by
  unfold parse
  repeat' split
  all_goals first | exact .inr ⟨_, by decide, by decide, rfl⟩ | exact .inl ⟨_, rfl⟩

/-! ### what is read was laid so: one form -/
set_option linter.unusedVariables false
set_option linter.unusedSimpArgs false

def Byt (st : RS) : Prop := ∀ c ∈ st.1, c < 256
/-- a step of a reader: behind it all is bytes still; and where it ends without an error, these were read -/
def Stp (st : RS) (x : List Nat) (st' : RS) : Prop := (Byt st → Byt st') ∧ (Byt st → st'.2 = 0 → st.2 = 0 ∧ st.1 = x ++ st'.1)
theorem Stp.refl (st : RS) : Stp st [] st := ⟨id, fun _ h => ⟨h, rfl⟩⟩
theorem Stp.trans {a b c : RS} {x y : List Nat} (h : Stp a x b) (k : Stp b y c) : Stp a (x ++ y) c := by
  refine ⟨fun hb => k.1 (h.1 hb), fun hb he => ?_⟩
  obtain ⟨k1, k2⟩ := k.2 (h.1 hb) he
  obtain ⟨h1, h2⟩ := h.2 hb k1
  exact ⟨h1, by rw [h2, k2, List.append_assoc]⟩
theorem num_val : ∀ (k : Nat) (l : List Nat), l.length = k → (∀ c ∈ l, c < 256) → num k (Pk.val l) = l
  | 0, l, h, _ => by rw [len0 h]; rfl
  | k + 1, l, h, hb => by
    have e : l = l.take k ++ [l.getD k 0] := by
      have := List.take_succ_eq_append_getElem (l := l) (i := k) (by omega)
      rw [List.take_of_length_le (by omega)] at this
      simpa [List.getD_eq_getElem?_getD, show k < l.length by omega] using this
    have hv : Pk.val l = Pk.val (l.take k) * 256 + l.getD k 0 := by
      conv => lhs; rw [e]
      simp [Pk.val]
    have hc : l.getD k 0 < 256 := by
      apply hb
      rw [List.getD_eq_getElem?_getD, List.getElem?_eq_getElem (by omega)]
      exact List.getElem_mem _
    have ih := num_val k (l.take k) (by rw [List.length_take]; omega) (fun c hx => hb c (List.mem_of_mem_take hx))
    rw [num, hv, show (Pk.val (l.take k) * 256 + l.getD k 0) / 256 = Pk.val (l.take k) by omega, show (Pk.val (l.take k) * 256 + l.getD k 0) % 256 = l.getD k 0 by omega, ih]
    exact e.symm
theorem byt_drop {b : List Nat} (h : ∀ c ∈ b, c < 256) (k : Nat) : ∀ c ∈ b.drop k, c < 256 := fun c hc => h c (List.mem_of_mem_drop hc)
theorem byt_take {b : List Nat} (h : ∀ c ∈ b, c < 256) (k : Nat) : ∀ c ∈ b.take k, c < 256 := fun c hc => h c (List.mem_of_mem_take hc)
theorem rnum_stp (k : Nat) (st : RS) : Stp st (num k (rnum k st).1) (rnum k st).2 := by
  obtain ⟨b, e⟩ := st
  unfold rnum
  by_cases he : e = 0
  · subst he
    rw [if_neg (by simp)]
    by_cases hl : b.length < k
    · rw [if_pos hl]
      exact ⟨fun h => h, fun _ h => by simp at h⟩
    · rw [if_neg hl]
      refine ⟨fun h => byt_drop h k, fun h _ => ⟨rfl, ?_⟩⟩
      simp only
      rw [num_val k (b.take k) (by rw [List.length_take]; omega) (byt_take h k), List.take_append_drop]
  · rw [if_pos he]
    exact ⟨fun h => h, fun _ h => absurd h he⟩
theorem ccount_stp (b : List Nat) (most : Int) (hb : ∀ c ∈ b, c < 256) (h : (ccount b most).2.2 = 0) : b = num 4 (ccount b most).1 ++ (ccount b most).2.1 ∧ (ccount b most).1 ≤ most.toNat := by
  unfold ccount at h ⊢
  by_cases h1 : b.length < 4
  · simp [h1] at h
  · rw [if_neg h1] at h ⊢
    by_cases h2 : most.toNat < Pk.val (b.take 4)
    · rw [if_pos h2] at h; simp at h
    · rw [if_neg h2]
      refine ⟨?_, by simp only; omega⟩
      simp only
      rw [num_val 4 (b.take 4) (by rw [List.length_take]; omega) (byt_take hb 4), List.take_append_drop]
theorem ccount_byt (b : List Nat) (most : Int) (hb : ∀ c ∈ b, c < 256) : ∀ c ∈ (ccount b most).2.1, c < 256 := by
  unfold ccount
  repeat' split
  all_goals first | exact hb | exact byt_drop hb 4
theorem rcount_stp (most : Int) (st : RS) : Stp st (num 4 (rcount most st).1) (rcount most st).2 := by
  obtain ⟨b, e⟩ := st
  unfold rcount
  by_cases he : e = 0
  · subst he
    rw [if_neg (by simp)]
    simp only
    by_cases hz : (ccount b most).2.2 = 0
    · rw [if_neg (by simp [hz])]
      exact ⟨fun h => ccount_byt b most h, fun h _ => ⟨rfl, (ccount_stp b most h hz).1⟩⟩
    · rw [if_pos hz]
      exact ⟨fun h => h, fun _ h => absurd h hz⟩
  · rw [if_pos he]
    exact ⟨fun h => h, fun _ h => absurd h he⟩
theorem rcount_le (most : Int) (st : RS) : (rcount most st).1 ≤ most.toNat := by
  obtain ⟨b, e⟩ := st
  unfold rcount
  split
  · exact Nat.zero_le _
  · simp only
    split
    · exact Nat.zero_le _
    · unfold ccount
      repeat' split
      all_goals first | exact Nat.zero_le _ | (simp only; omega)
theorem ctext_stp (b : List Nat) (most : Int) (hb : ∀ c ∈ b, c < 256) (h : (ctext b most).2.2 = 0) : b = txt (ctext b most).1 ++ (ctext b most).2.1 := by
  unfold ctext at h ⊢
  generalize hc : ccount b most = c at h ⊢
  obtain ⟨n, r, e⟩ := c
  simp only at h ⊢
  by_cases he : e = 0
  · subst he
    rw [if_neg (by simp)] at h ⊢
    have := ccount_stp b most hb (by rw [hc])
    rw [hc] at this
    simp only at this
    by_cases hl : r.length < n
    · rw [if_pos hl] at h; simp at h
    · rw [if_neg hl]
      simp only
      unfold txt
      rw [List.length_take, Nat.min_eq_left (by omega), List.append_assoc, List.take_append_drop]
      exact this.1
  · rw [if_pos he] at h; exact absurd h he
theorem ctext_byt (b : List Nat) (most : Int) (hb : ∀ c ∈ b, c < 256) : (∀ c ∈ (ctext b most).2.1, c < 256) ∧ ∀ c ∈ (ctext b most).1, c < 256 := by
  unfold ctext
  have := ccount_byt b most hb
  generalize hc : ccount b most = c at this
  obtain ⟨n, r, e⟩ := c
  simp only at this ⊢
  repeat' split
  all_goals first | exact ⟨hb, by simp⟩ | exact ⟨byt_drop this n, byt_take this n⟩
theorem rtext_stp (most : Int) (st : RS) : Stp st (txt (rtext most st).1) (rtext most st).2 := by
  obtain ⟨b, e⟩ := st
  unfold rtext
  by_cases he : e = 0
  · subst he
    rw [if_neg (by simp)]
    simp only
    by_cases hz : (ctext b most).2.2 = 0
    · rw [if_neg (by simp [hz])]
      exact ⟨fun h => (ctext_byt b most h).1, fun h _ => ⟨rfl, ctext_stp b most h hz⟩⟩
    · rw [if_pos hz]
      exact ⟨fun h => h, fun _ h => absurd h hz⟩
  · rw [if_pos he]
    exact ⟨fun h => h, fun _ h => absurd h he⟩
theorem rtext_byt (most : Int) (st : RS) (h : Byt st) : ∀ c ∈ (rtext most st).1, c < 256 := by
  obtain ⟨b, e⟩ := st
  unfold rtext
  by_cases he : e = 0
  · subst he
    rw [if_neg (by simp)]
    simp only
    by_cases hz : (ctext b most).2.2 = 0
    · rw [if_neg (by simp [hz])]
      exact (ctext_byt b most h).2
    · rw [if_pos hz]
      intro c hc; cases hc
  · rw [if_pos he]
    intro c hc; cases hc
theorem rtext_stp' (most : Int) (st : RS) (hb : Byt st) : Stp st (txt (nats (text (rtext most st).1))) (rtext most st).2 := by
  rw [nats_text _ (rtext_byt most st hb)]
  exact rtext_stp most st
theorem ctextsN_stp (most : Int) : ∀ (n : Nat) (b : List Nat), (∀ c ∈ b, c < 256) → (∀ c ∈ (ctextsN n b most).2.1, c < 256) ∧ (∀ s ∈ (ctextsN n b most).1, ∀ c ∈ s, c < 256) ∧ ((ctextsN n b most).2.2 = 0 → b = txtsBody (ctextsN n b most).1 ++ (ctextsN n b most).2.1 ∧ (ctextsN n b most).1.length = n)
  | 0, b, hb => by simp [ctextsN, txtsBody]; exact hb
  | n + 1, b, hb => by
    unfold ctextsN
    have t1 := ctext_stp b most hb
    have t2 := ctext_byt b most hb
    generalize hc : ctext b most = c at t1 t2
    obtain ⟨s, r, e⟩ := c
    simp only at t1 t2 ⊢
    by_cases he : e = 0
    · subst he
      rw [if_neg (by simp)]
      have ih := ctextsN_stp most n r t2.1
      generalize hd : ctextsN n r most = d at ih
      obtain ⟨l, r', e'⟩ := d
      simp only at ih ⊢
      by_cases he' : e' = 0
      · subst he'
        rw [if_neg (by simp)]
        refine ⟨ih.1, ?_, fun _ => ⟨?_, ?_⟩⟩
        · intro x hx
          rcases List.mem_cons.1 hx with rfl | hx
          · exact t2.2
          · exact ih.2.1 x hx
        · simp only [txtsBody]
          rw [List.append_assoc, ← (ih.2.2 rfl).1]
          exact t1 rfl
        · simp only [List.length_cons]; rw [(ih.2.2 rfl).2]
      · rw [if_pos he']
        exact ⟨hb, (by intro x hx; cases hx), fun h => absurd h he'⟩
    · rw [if_pos he]
      exact ⟨hb, (by intro x hx; cases hx), fun h => absurd h he⟩
theorem ctexts_stp (b : List Nat) (count most : Int) (hb : ∀ c ∈ b, c < 256) : (∀ c ∈ (ctexts b count most).2.1, c < 256) ∧ (∀ s ∈ (ctexts b count most).1, ∀ c ∈ s, c < 256) ∧ ((ctexts b count most).2.2 = 0 → b = txts (ctexts b count most).1 ++ (ctexts b count most).2.1) := by
  unfold ctexts
  have t1 := ccount_stp b count hb
  have t2 := ccount_byt b count hb
  generalize hc : ccount b count = c at t1 t2
  obtain ⟨n, r, e⟩ := c
  simp only at t1 t2 ⊢
  by_cases he : e = 0
  · subst he
    rw [if_neg (by simp)]
    have ih := ctextsN_stp most n r t2
    generalize hd : ctextsN n r most = d at ih
    obtain ⟨l, r', e'⟩ := d
    simp only at ih ⊢
    by_cases he' : e' = 0
    · subst he'
      rw [if_neg (by simp)]
      refine ⟨ih.1, ih.2.1, fun _ => ?_⟩
      obtain ⟨i1, i2⟩ := ih.2.2 rfl
      simp only
      unfold txts
      rw [i2, List.append_assoc, ← i1]
      exact (t1 rfl).1
    · rw [if_pos he']
      exact ⟨hb, (by intro x hx; cases hx), fun h => absurd h he'⟩
  · rw [if_pos he]
    exact ⟨hb, (by intro x hx; cases hx), fun h => absurd h he⟩
theorem rkeys_stp (st : RS) (hB : Byt st) : Stp st (txts (natss (rkeys st).1)) (rkeys st).2 := by
  obtain ⟨b, e⟩ := st
  unfold rkeys rtexts
  by_cases he : e = 0
  · subst he
    rw [if_neg (by simp)]
    simp only
    obtain ⟨c1, c2, c3⟩ := ctexts_stp b 1024 65535 hB
    by_cases hz : (ctexts b 1024 65535).2.2 = 0
    · rw [if_neg (by simp [hz])]
      refine ⟨fun _ => c1, fun h _ => ⟨rfl, ?_⟩⟩
      simp only
      have e : natss ((ctexts b 1024 65535).1.map text) = (ctexts b 1024 65535).1 := by
        unfold natss; rw [List.map_map]
        conv => rhs; rw [← List.map_id (ctexts b 1024 65535).1]
        exact List.map_congr_left (fun x hx => nats_text x (c2 x hx))
      rw [e]; exact c3 hz
    · rw [if_pos hz]
      exact ⟨fun h => h, fun _ h => absurd h hz⟩
  · rw [if_pos he]
    exact ⟨fun h => h, fun _ h => absurd h he⟩
theorem rmany_stp {α : Type} (f : RS → α × RS) (lay1 : α → List Nat) (h : ∀ st, Byt st → Stp st (lay1 (f st).1) (f st).2) : ∀ (n : Nat) (st : RS), Byt st → Stp st ((rmany f n st).1.flatMap lay1) (rmany f n st).2 ∧ (rmany f n st).1.length = n
  | 0, st, _ => by simp [rmany]; exact Stp.refl st
  | n + 1, st, hb => by
    obtain ⟨i1, i2⟩ := rmany_stp f lay1 h n st hb
    have k := h _ (i1.1 hb)
    rw [rmany]
    refine ⟨?_, by simp [i2]⟩
    simp only [List.flatMap_append, List.flatMap_cons, List.flatMap_nil, List.append_nil]
    exact i1.trans k
theorem rpair_stp (st : RS) (hb : Byt st) : Stp st (layP1 (rpair st).1) (rpair st).2 := by
  have h1 := rtext_stp' 65535 st hb
  exact h1.trans (rtext_stp' 65535 _ (h1.1 hb))
theorem rpairs_stp (st : RS) (hb : Byt st) : Stp st (num 4 (rpairs st).1.length ++ layP (rpairs st).1) (rpairs st).2 := by
  have h1 := rcount_stp 1024 st
  obtain ⟨h2, h3⟩ := rmany_stp rpair layP1 rpair_stp (rcount 1024 st).1 _ (h1.1 hb)
  unfold rpairs
  rw [h3]
  exact h1.trans h2
theorem may_kind {r : Rec} (h : may r = true) : r.kind = 1 ∨ r.kind = 2 := by
  rcases (may_parts h).2 with h | h
  · exact .inl h.1
  · exact .inr h.1
theorem body_read (b : List Nat) (hb : ∀ c ∈ b, c < 256) (h : rok b = true) : body (rrec b).1 = b := by
  unfold rok rend0 at h
  simp only [Bool.and_eq_true, decide_eq_true_eq] at h
  obtain ⟨⟨e1, e2⟩, hm⟩ := h
  have s1 := rnum_stp 1 (b, 0)
  have b1 := s1.1 hb
  have s2 := rnum_stp 8 (rnum 1 (b, 0)).2
  have b2 := s2.1 b1
  have s3 := rpairs_stp _ b2
  have b3 := s3.1 b2
  have s4 := rkeys_stp _ b3
  unfold rrec at e1 e2 hm ⊢
  by_cases hk : (rnum 1 (b, 0)).1 = 1
  · rw [if_pos hk] at e1 e2 hm ⊢
    simp only at e1 e2
    have s := s1.trans (s2.trans (s3.trans s4))
    obtain ⟨_, hs⟩ := s.2 hb e1
    rw [e2, List.append_nil] at hs
    unfold body layF
    simp only [Int.toNat_natCast]
    rw [if_pos (by rw [hk]; rfl)]
    rw [List.append_assoc] at hs
    exact hs.symm
  · rw [if_neg hk] at e1 e2 hm ⊢
    simp only at e1 e2
    have s := s1.trans s2
    obtain ⟨_, hs⟩ := s.2 hb e1
    rw [e2, List.append_nil] at hs
    unfold body layF
    simp only [Int.toNat_natCast]
    rw [if_neg (by omega), List.append_nil]
    exact hs.symm
theorem rrec_id (b : List Nat) (hb : ∀ c ∈ b, c < 256) : (rrec b).1.id < 18446744073709551616 := by
  have h1 := (rnum_stp 1 (b, 0)).1 hb
  have : (rrec b).1.id = (rnum 8 (rnum 1 (b, 0)).2).1 := by unfold rrec; split <;> rfl
  rw [this]
  exact rnum_lt 8 _ _ h1
theorem rrec_kind (b : List Nat) : 0 ≤ (rrec b).1.kind := by
  unfold rrec; split <;> simp
theorem parse_ok {b : List Nat} {r : Rec} {m : Nat} (h : parse b = (r, m, 0)) : r = (rrec (pay b)).1 ∧ rok (pay b) = true ∧ 8 ≤ b.length ∧ Pk.val (b.take 4) ≤ b.length - 8 ∧ Pk.val (b.take 4) ≤ 1048576 ∧ Crc.sum (pay b) = chk b ∧ m = 8 + (pay b).length ∧ (pay b).length = Pk.val (b.take 4) := by
  have hp : Pk.val (b.take 4) ≤ b.length - 8 → (pay b).length = Pk.val (b.take 4) := by
    intro h; unfold pay; rw [List.length_take, List.length_drop]; omega
  unfold parse at h
  by_cases h1 : b.length < 8
  · rw [if_pos h1] at h; simp at h
  · rw [if_neg h1] at h
    by_cases h2 : 1048576 < Pk.val (b.take 4)
    · rw [if_pos h2] at h; simp at h
    · rw [if_neg h2] at h
      by_cases h3 : b.length - 8 < Pk.val (b.take 4)
      · rw [if_pos h3] at h; simp at h
      · rw [if_neg h3] at h
        by_cases h4 : Crc.sum (pay b) = chk b
        · rw [if_neg (by simp [h4])] at h
          by_cases h5 : rok (pay b) = true
          · rw [if_pos h5] at h
            simp only [Prod.mk.injEq, and_true] at h
            exact ⟨h.1.symm, h5, by omega, by omega, by omega, h4, h.2.symm, hp (by omega)⟩
          · rw [if_neg h5] at h; simp at h
        · rw [if_pos h4] at h; simp at h
theorem pay_byt {b : List Nat} (hb : ∀ c ∈ b, c < 256) : ∀ c ∈ pay b, c < 256 := byt_take (byt_drop hb 8) _
theorem parse_back {b : List Nat} {r : Rec} {m : Nat} (hb : ∀ c ∈ b, c < 256) (h : parse b = (r, m, 0)) : may r = true ∧ r.id < 18446744073709551616 ∧ (body r).length ≤ 1048576 ∧ m = (enc r).length ∧ m ≤ b.length ∧ enc r = b.take m := by
  obtain ⟨rfl, h1, h2, h3, h4, h5, h6, h7⟩ := parse_ok h
  have hm : may (rrec (pay b)).1 = true := by unfold rok at h1; simp at h1; exact h1.2
  have e := body_read (pay b) (pay_byt hb) h1
  have hl : (enc (rrec (pay b)).1).length = m := by rw [enc_length, e, h6, Nat.add_comm]
  refine ⟨hm, rrec_id _ (pay_byt hb), by rw [e, h7]; exact h4, hl.symm, by omega, ?_⟩
  unfold enc
  rw [e, h5, h6, h7]
  unfold chk
  rw [num_val 4 (b.take 4) (by rw [List.length_take]; omega) (byt_take hb 4), num_val 4 ((b.drop 4).take 4) (by rw [List.length_take, List.length_drop]; omega) (byt_take (byt_drop hb 4) 4)]
  have e8 : b.take (8 + Pk.val (b.take 4)) = b.take 4 ++ ((b.drop 4).take 4 ++ (b.drop 8).take (Pk.val (b.take 4))) := by
    rw [show 8 + Pk.val (b.take 4) = 4 + (4 + Pk.val (b.take 4)) by omega, List.take_add, List.take_add, List.drop_drop]
  rw [e8]
  rfl

/-! ### rows of records -/
/-- the records that b begins with, one behind the other: these, so far -/
inductive Run (b : List Nat) : List Rec → Nat → Prop where
  | nil : Run b [] 0
  | snoc {l : List Rec} {k m : Nat} {r : Rec} : Run b l k → parse (b.drop k) = (r, m, 0) → Run b (l ++ [r]) (k + m)
theorem snoc_inj {α : Type} {a b : List α} {x y : α} (h : a ++ [x] = b ++ [y]) : a = b ∧ x = y := by
  have := List.append_inj' h rfl
  exact ⟨this.1, by simpa using this.2⟩
theorem Run.inv {b : List Nat} {l : List Rec} {k : Nat} (h : Run b l k) : (l = [] ∧ k = 0) ∨ ∃ l' k' m r, l = l' ++ [r] ∧ k = k' + m ∧ Run b l' k' ∧ parse (b.drop k') = (r, m, 0) := by
  cases h with
  | nil => exact .inl ⟨rfl, rfl⟩
  | snoc h1 h2 => exact .inr ⟨_, _, _, _, rfl, rfl, h1, h2⟩
theorem Run.same {b : List Nat} : ∀ (n : Nat) {l l' : List Rec} {k k' : Nat}, Run b l k → Run b l' k' → l.length = n → l'.length = n → l = l' ∧ k = k'
  | 0, l, l', k, k', h, h', e, e' => by
    rcases h.inv with ⟨rfl, rfl⟩ | ⟨a, b, c, d, rfl, _⟩
    · rcases h'.inv with ⟨rfl, rfl⟩ | ⟨a, b, c, d, rfl, _⟩
      · exact ⟨rfl, rfl⟩
      · simp at e'
    · simp at e
  | n + 1, l, l', k, k', h, h', e, e' => by
    rcases h.inv with ⟨rfl, rfl⟩ | ⟨l1, k1, m1, r1, rfl, rfl, g1, p1⟩
    · simp at e
    · rcases h'.inv with ⟨rfl, rfl⟩ | ⟨l2, k2, m2, r2, rfl, rfl, g2, p2⟩
      · simp at e'
      · obtain ⟨rfl, rfl⟩ := Run.same n g1 g2 (by simpa using e) (by simpa using e')
        rw [p1] at p2
        cases p2
        exact ⟨rfl, rfl⟩
theorem Run.upto {b : List Nat} : ∀ {l : List Rec} {k : Nat}, Run b l k → ∀ n, n < l.length → ∃ k' m r, Run b (l.take n) k' ∧ parse (b.drop k') = (r, m, 0) := by
  intro l k h
  induction h with
  | nil => intro n hn; simp at hn
  | @snoc l k m r h1 h2 ih =>
    intro n hn
    simp only [List.length_append, List.length_cons, List.length_nil] at hn
    by_cases hl : n < l.length
    · rw [List.take_append_of_le_length (by omega)]
      exact ih n hl
    · have : n = l.length := by omega
      subst this
      rw [List.take_append_of_le_length (Nat.le_refl _), List.take_length]
      exact ⟨k, m, r, h1, h2⟩
/-- one end alone -/
theorem Run.one {b : List Nat} {l l' : List Rec} {k k' : Nat} {e e' : Nat} (h : Run b l k) (h' : Run b l' k') (he : (parse (b.drop k)).2.2 ≠ 0) (he' : (parse (b.drop k')).2.2 ≠ 0) : l = l' ∧ k = k' := by
  rcases Nat.lt_trichotomy l.length l'.length with hl | hl | hl
  · obtain ⟨k2, m, r, g, p⟩ := h'.upto _ hl
    obtain ⟨_, rfl⟩ := Run.same l.length h g rfl (by rw [List.length_take]; omega)
    rw [p] at he; exact absurd rfl he
  · exact Run.same _ h h' rfl hl.symm
  · obtain ⟨k2, m, r, g, p⟩ := h.upto _ hl
    obtain ⟨_, rfl⟩ := Run.same l'.length h' g rfl (by rw [List.length_take]; omega)
    rw [p] at he'; exact absurd rfl he'
theorem Run.le {b : List Nat} (hb : ∀ c ∈ b, c < 256) {l : List Rec} {k : Nat} (h : Run b l k) : k ≤ b.length ∧ 8 * l.length ≤ k := by
  induction h with
  | nil => simp
  | snoc h1 h2 ih =>
    obtain ⟨_, _, _, h3, h4, _⟩ := parse_back (byt_drop hb _) h2
    rw [enc_length] at h3
    rw [List.length_drop] at h4
    simp only [List.length_append, List.length_cons, List.length_nil]
    omega
end Go.Proofs.YtgamhblkgojapaaGreatDoor

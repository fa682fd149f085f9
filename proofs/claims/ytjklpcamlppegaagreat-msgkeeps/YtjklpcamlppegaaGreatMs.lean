/- Plain mathematics: messages, which may be, their bytes, how bytes are read. No program. -/
import Derived.Test.YtjklpcamlppegaaGreatB5
import Derived.Test.YtjklpcamlppegaaGreatR4
import Derived.Test.YtjklpcamlppegaaGreatBk
namespace Go.Proofs.YtjklpcamlppegaaGreat
open Pk Orl Go.Sort
set_option linter.unusedVariables false
set_option linter.unusedSimpArgs false

structure Ver where
  key : Tx
  id : Nat
  val : Tx
  keys : List Tx
structure Msg where
  kind : Int
  client : Int
  req : Nat
  id : Nat
  keys : List Tx
  pairs : List Pr
  wants : List (Tx × Nat)
  vers : List Ver
def v0 : Ver := ⟨e0, 0, e0, []⟩
def m0 : Msg := ⟨0, 0, 0, 0, [], [], [], []⟩

def isId (n : Nat) : Bool := decide (65536 ≤ n)
def wset (l : List Tx) : Bool := valK l && rising lts l
def sub (a b : List Tx) : Bool := a.all fun x => inn b x
def mayP (l : List Pr) (ks : List Tx) : Bool := valP l && (rising lts (kys l) && sub (kys l) ks)
def wks (l : List (Tx × Nat)) : List Tx := l.map Prod.fst
def mayW (l : List (Tx × Nat)) : Bool := (l.all fun w => isId w.2) && valK (wks l)
def mayV (v : Ver) : Bool :=
  if v.id = 0 then decide (v.key.size ≤ 65535) && (decide (v.val = e0) && decide (v.keys.length = 0))
  else isId v.id && (decide (v.val.size ≤ 65535) && (wset v.keys && inn v.keys v.key))
def plainK (k : Int) : Prop := k = 2 ∨ k = 5 ∨ k = 6 ∨ k = 8
instance (k : Int) : Decidable (plainK k) := by unfold plainK; infer_instance
def none4 (m : Msg) (p k w v : Bool) : Bool := (p || decide (m.pairs.length = 0)) && ((k || decide (m.keys.length = 0)) && ((w || decide (m.wants.length = 0)) && (v || decide (m.vers.length = 0))))
def mayF (m : Msg) : Bool :=
  if m.kind = 1 then none4 m true true false false && (isId m.id && (wset m.keys && mayP m.pairs m.keys))
  else if plainK m.kind then none4 m false false false false && isId m.id
  else if m.kind = 3 then none4 m false true false false && (decide (m.id = 0) && valK m.keys)
  else if m.kind = 4 then none4 m false false true false && (decide (m.id = 0) && mayW m.wants)
  else if m.kind = 7 then none4 m false false false true && (decide (m.id = 0) && (decide (m.vers.length = 1) && mayV (m.vers.getD 0 v0)))
  else false
def topOk (m : Msg) : Bool := decide (0 ≤ m.client ∧ m.client ≤ 15 ∧ 1 ≤ m.req)
def may (m : Msg) : Bool := topOk m && mayF m

def layP1 (p : Pr) : List Nat := txt (nats p.1) ++ txt (nats p.2)
def layW1 (p : Tx × Nat) : List Nat := txt (nats p.1) ++ num 8 p.2
def layP (l : List Pr) : List Nat := l.flatMap layP1
def layW (l : List (Tx × Nat)) : List Nat := l.flatMap layW1
def layV (v : Ver) : List Nat := txt (nats v.key) ++ (num 8 v.id ++ (if v.id = 0 then [] else txt (nats v.val) ++ txts (natss v.keys)))
def layF (m : Msg) : List Nat :=
  if m.kind = 1 then num 8 m.id ++ (txts (natss m.keys) ++ (num 4 m.pairs.length ++ layP m.pairs))
  else if m.kind = 3 then txts (natss m.keys)
  else if m.kind = 4 then num 4 m.wants.length ++ layW m.wants
  else if m.kind = 7 then layV (m.vers.getD 0 v0)
  else num 8 m.id
def body (m : Msg) : List Nat := num 1 m.kind.toNat ++ (num 1 m.client.toNat ++ (num 8 m.req ++ layF m))
def enc (m : Msg) : List Nat := num 4 (body m).length ++ body m

/-! ### reading -/
def rpair (st : RS) : Pr × RS := ((text (rtext 65535 st).1, text (rtext 65535 (rtext 65535 st).2).1), (rtext 65535 (rtext 65535 st).2).2)
def rwant (st : RS) : (Tx × Nat) × RS := ((text (rtext 65535 st).1, (rnum 8 (rtext 65535 st).2).1), (rnum 8 (rtext 65535 st).2).2)
def rmany {α : Type} (f : RS → α × RS) : Nat → RS → List α × RS
  | 0, st => ([], st)
  | n + 1, st => ((rmany f n st).1 ++ [(f (rmany f n st).2).1], (f (rmany f n st).2).2)
def rpairs (st : RS) : List Pr × RS := rmany rpair (rcount 1024 st).1 (rcount 1024 st).2
def rwants (st : RS) : List (Tx × Nat) × RS := rmany rwant (rcount 1024 st).1 (rcount 1024 st).2
def rkeys (st : RS) : List Tx × RS := ((rtexts 1024 65535 st).1.map text, (rtexts 1024 65535 st).2)
def rver (st : RS) : Ver × RS :=
  if (rnum 8 (rtext 65535 st).2).1 = 0 then (⟨text (rtext 65535 st).1, 0, e0, []⟩, (rnum 8 (rtext 65535 st).2).2)
  else (⟨text (rtext 65535 st).1, (rnum 8 (rtext 65535 st).2).1, text (rtext 65535 (rnum 8 (rtext 65535 st).2).2).1, (rkeys (rtext 65535 (rnum 8 (rtext 65535 st).2).2).2).1⟩, (rkeys (rtext 65535 (rnum 8 (rtext 65535 st).2).2).2).2)
def rfield (k c q : Nat) (st : RS) : Msg × RS :=
  if (k : Int) = 1 then (⟨k, c, q, (rnum 8 st).1, (rkeys (rnum 8 st).2).1, (rpairs (rkeys (rnum 8 st).2).2).1, [], []⟩, (rpairs (rkeys (rnum 8 st).2).2).2)
  else if plainK k then (⟨k, c, q, (rnum 8 st).1, [], [], [], []⟩, (rnum 8 st).2)
  else if (k : Int) = 3 then (⟨k, c, q, 0, (rkeys st).1, [], [], []⟩, (rkeys st).2)
  else if (k : Int) = 4 then (⟨k, c, q, 0, [], [], (rwants st).1, []⟩, (rwants st).2)
  else if (k : Int) = 7 then (⟨k, c, q, 0, [], [], [], [(rver st).1]⟩, (rver st).2)
  else (⟨k, c, q, 0, [], [], [], []⟩, st)
def rmsg (b : List Nat) : Msg × RS :=
  rfield (rnum 1 (b, 0)).1 (rnum 1 (rnum 1 (b, 0)).2).1 (rnum 8 (rnum 1 (rnum 1 (b, 0)).2).2).1 (rnum 8 (rnum 1 (rnum 1 (b, 0)).2).2).2
def rend0 (st : RS) : Bool := decide (st.2 = 0 ∧ st.1 = [])
def rok (b : List Nat) : Bool := rend0 (rmsg b).2 && may (rmsg b).1
def dec (b : List Nat) : Msg × Nat :=
  if b.length < 4 then (m0, 4) else if 1048576 < Pk.val (b.take 4) then (m0, 3) else if b.length - 4 < Pk.val (b.take 4) then (m0, 4)
  else if Pk.val (b.take 4) < b.length - 4 then (m0, 5) else if rok (b.drop 4) then ((rmsg (b.drop 4)).1, 0) else (m0, 2)

/-! ### there and back -/
theorem txtsz {s : Tx} (h : s.size ≤ 65535) : (nats s).length < 4294967296 ∧ (nats s).length ≤ (65535 : Int).toNat := by
  rw [nats_length]; exact ⟨by omega, h⟩
theorem rtext_lay (s : Tx) (h : s.size ≤ 65535) (t : List Nat) : rtext 65535 (txt (nats s) ++ t, 0) = (nats s, (t, 0)) := rtext_full _ _ _ (txtsz h).1 (txtsz h).2
theorem rpair_lay (p : Pr) (h1 : p.1.size ≤ 65535) (h2 : p.2.size ≤ 65535) (t : List Nat) : rpair (layP1 p ++ t, 0) = (p, (t, 0)) := by
  unfold rpair layP1
  rw [List.append_assoc, rtext_lay _ h1, rtext_lay _ h2, text_nats, text_nats]
theorem rwant_lay (p : Tx × Nat) (h1 : p.1.size ≤ 65535) (h2 : p.2 < 18446744073709551616) (t : List Nat) : rwant (layW1 p ++ t, 0) = (p, (t, 0)) := by
  unfold rwant layW1
  rw [List.append_assoc, rtext_lay _ h1]
  simp only
  rw [rnum_full, text_nats, Nat.mod_eq_of_lt (by omega)]
theorem rmany_lay {α : Type} (f : RS → α × RS) (lay1 : α → List Nat) (l : List α) (t : List Nat) (h : ∀ x ∈ l, ∀ t, f (lay1 x ++ t, 0) = (x, (t, 0))) :
    ∀ n, n ≤ l.length → rmany f n (l.flatMap lay1 ++ t, 0) = (l.take n, ((l.drop n).flatMap lay1 ++ t, 0))
  | 0, _ => by simp [rmany]
  | n + 1, hn => by
    have ih := rmany_lay f lay1 l t h n (by omega)
    have hd : l.drop n = l[n] :: l.drop (n + 1) := List.drop_eq_getElem_cons (by omega)
    rw [rmany, ih]
    simp only
    rw [hd, List.flatMap_cons, List.append_assoc, h _ (List.getElem_mem _)]
    rw [List.take_succ_eq_append_getElem (by omega)]
theorem rmany_all {α : Type} (f : RS → α × RS) (lay1 : α → List Nat) (l : List α) (t : List Nat) (h : ∀ x ∈ l, ∀ t, f (lay1 x ++ t, 0) = (x, (t, 0))) :
    rmany f l.length (l.flatMap lay1 ++ t, 0) = (l, (t, 0)) := by
  rw [rmany_lay f lay1 l t h l.length (Nat.le_refl _)]; simp
theorem rcount_full (n : Nat) (t : List Nat) (most : Int) (h1 : n < 4294967296) (h2 : n ≤ most.toNat) : rcount most (num 4 n ++ t, 0) = (n, (t, 0)) := by
  simp [rcount, ccount_full n t most h1 h2]
theorem rpairs_lay (l : List Pr) (h0 : l.length ≤ 1024) (h : ∀ p ∈ l, p.1.size ≤ 65535 ∧ p.2.size ≤ 65535) (t : List Nat) : rpairs (num 4 l.length ++ (layP l ++ t), 0) = (l, (t, 0)) := by
  unfold rpairs
  rw [rcount_full _ _ _ (by omega) (by simp; omega)]
  exact rmany_all rpair layP1 l t (fun x hx t => rpair_lay x (h x hx).1 (h x hx).2 t)
theorem rwants_lay (l : List (Tx × Nat)) (h0 : l.length ≤ 1024) (h : ∀ p ∈ l, p.1.size ≤ 65535 ∧ p.2 < 18446744073709551616) (t : List Nat) : rwants (num 4 l.length ++ (layW l ++ t), 0) = (l, (t, 0)) := by
  unfold rwants
  rw [rcount_full _ _ _ (by omega) (by simp; omega)]
  exact rmany_all rwant layW1 l t (fun x hx t => rwant_lay x (h x hx).1 (h x hx).2 t)
theorem map_text (l : List Tx) : (natss l).map text = l := by
  unfold natss; rw [List.map_map]
  conv => rhs; rw [← List.map_id l]
  exact List.map_congr_left (fun x _ => text_nats x)
theorem rkeys_lay (l : List Tx) (h0 : l.length ≤ 1024) (h : ∀ s ∈ l, s.size ≤ 65535) (t : List Nat) : rkeys (txts (natss l) ++ t, 0) = (l, (t, 0)) := by
  unfold rkeys
  have hl : (natss l).length = l.length := by simp [natss]
  rw [rtexts_full (natss l) t 1024 65535 (by rw [hl]; simp; omega) (by rw [hl]; omega) (fun s hs => by
    simp [natss] at hs; obtain ⟨x, hx, rfl⟩ := hs; exact txtsz (h x hx))]
  rw [map_text]

theorem valK_all {l : List Tx} (h : valK l = true) : l.length ≤ 1024 ∧ 1 ≤ l.length ∧ ∀ s ∈ l, s.size ≤ 65535 := by
  unfold valK at h
  simp only [Bool.and_eq_true, decide_eq_true_eq, List.all_eq_true] at h
  exact ⟨h.1.1.2, h.1.1.1, h.1.2⟩
theorem valP_all {l : List Pr} (h : valP l = true) : l.length ≤ 1024 ∧ 1 ≤ l.length ∧ ∀ p ∈ l, p.1.size ≤ 65535 ∧ p.2.size ≤ 65535 := by
  unfold valP at h
  simp only [Bool.and_eq_true, decide_eq_true_eq, List.all_eq_true] at h
  obtain ⟨h1, h2⟩ := h
  obtain ⟨a, b, c⟩ := valK_all h2
  rw [kys_length] at a b
  exact ⟨a, b, fun p hp => ⟨c p.1 (List.mem_map.2 ⟨p, hp, rfl⟩), h1 p hp⟩⟩
theorem mayW_all {l : List (Tx × Nat)} (h : mayW l = true) : l.length ≤ 1024 ∧ 1 ≤ l.length ∧ (∀ p ∈ l, p.1.size ≤ 65535) ∧ ∀ p ∈ l, 65536 ≤ p.2 := by
  unfold mayW isId at h
  simp only [Bool.and_eq_true, decide_eq_true_eq, List.all_eq_true] at h
  obtain ⟨h1, h2⟩ := h
  obtain ⟨a, b, c⟩ := valK_all h2
  simp only [wks, List.length_map] at a b
  exact ⟨a, b, fun p hp => c p.1 (List.mem_map.2 ⟨p, hp, rfl⟩), h1⟩
theorem inn_size {l : List Tx} {s : Tx} (h : inn l s = true) (hl : ∀ x ∈ l, x.size ≤ 65535) : s.size ≤ 65535 := hl s ((inn_iff l s).1 h)

/-- the numbers of a message are of their kinds -/
structure Rng (m : Msg) : Prop where
  k1 : -9223372036854775808 ≤ m.kind
  k2 : m.kind ≤ 9223372036854775807
  c1 : -9223372036854775808 ≤ m.client
  c2 : m.client ≤ 9223372036854775807
  req : m.req < 18446744073709551616
  id : m.id < 18446744073709551616
  wants : ∀ p ∈ m.wants, p.2 < 18446744073709551616
  vers : ∀ v ∈ m.vers, v.id < 18446744073709551616

theorem len1 {α : Type} {l : List α} (h : l.length = 1) (d : α) : l = [l.getD 0 d] := by
  match l, h with
  | [x], _ => rfl
theorem len0 {α : Type} {l : List α} (h : l.length = 0) : l = [] := List.length_eq_zero_iff.1 h

theorem rver_lay (v : Ver) (h : mayV v = true) (hi : v.id < 18446744073709551616) (t : List Nat) : rver (layV v ++ t, 0) = (v, (t, 0)) := by
  obtain ⟨k, i, x, ks⟩ := v
  unfold mayV at h
  simp only at h hi
  by_cases h0 : i = 0
  · subst h0
    simp only [if_true, Bool.and_eq_true, decide_eq_true_eq] at h
    obtain ⟨h1, h2, h3⟩ := h
    have := len0 h3
    subst h2; subst this
    unfold rver layV
    simp only [if_true, List.append_nil]
    rw [List.append_assoc, rtext_lay _ h1]
    simp only
    rw [rnum_full]
    simp [text_nats]
  · rw [if_neg h0] at h
    simp only [Bool.and_eq_true, decide_eq_true_eq] at h
    obtain ⟨h1, h2, h3, h4⟩ := h
    have hw : valK ks = true := by unfold wset at h3; simp at h3; exact h3.1
    obtain ⟨a, b, c⟩ := valK_all hw
    have hk : k.size ≤ 65535 := inn_size h4 c
    unfold rver layV
    simp only [if_neg h0]
    rw [List.append_assoc, rtext_lay _ hk]
    simp only
    rw [List.append_assoc, rnum_full, Nat.mod_eq_of_lt (by omega)]
    simp only
    rw [if_neg h0, List.append_assoc, rtext_lay _ h2]
    simp only
    rw [rkeys_lay _ a c]
    simp [text_nats]

theorem mayF_kind {m : Msg} (h : mayF m = true) : 1 ≤ m.kind ∧ m.kind ≤ 8 := by
  by_cases h1 : m.kind = 1
  · omega
  by_cases h2 : plainK m.kind
  · unfold plainK at h2; omega
  by_cases h3 : m.kind = 3
  · omega
  by_cases h4 : m.kind = 4
  · omega
  by_cases h7 : m.kind = 7
  · omega
  unfold mayF at h
  simp [h1, h2, h3, h4, h7] at h

theorem rfield_lay (m : Msg) (h : mayF m = true) (hr : Rng m) (K C : Nat) (hK : m.kind = K) (hC : m.client = C) (t : List Nat) : rfield K C m.req (layF m ++ t, 0) = (m, (t, 0)) := by
  obtain ⟨k, c, q, i, ks, ps, ws, vs⟩ := m
  simp only at hK hC
  subst hK; subst hC
  have hi := hr.id
  have hwt := hr.wants
  have hvs := hr.vers
  simp only at hi hwt hvs
  unfold mayF none4 at h
  simp only at h
  unfold rfield layF
  simp only
  by_cases h1 : (K : Int) = 1
  · rw [if_pos h1] at h
    simp only [Bool.and_eq_true, decide_eq_true_eq, Bool.or_eq_true, Bool.false_eq_true, false_or, true_or, true_and, and_true] at h
    obtain ⟨⟨e1, e2⟩, e3, e4, e5⟩ := h
    have := len0 e1; subst this
    have := len0 e2; subst this
    have hw : valK ks = true := by unfold wset at e4; simp at e4; exact e4.1
    have hp : valP ps = true := by unfold mayP at e5; simp at e5; exact e5.1
    obtain ⟨a, _, b⟩ := valK_all hw
    obtain ⟨a2, _, b2⟩ := valP_all hp
    rw [if_pos h1, if_pos h1]
    simp only [List.append_assoc]
    rw [rnum_full, Nat.mod_eq_of_lt (by omega)]
    simp only
    rw [rkeys_lay _ a b]
    simp only
    rw [rpairs_lay _ a2 b2]
  · rw [if_neg h1] at h
    rw [if_neg h1, if_neg h1]
    by_cases h2 : plainK K
    · have h3 : ¬ (K : Int) = 3 := by unfold plainK at h2; omega
      have h4 : ¬ (K : Int) = 4 := by unfold plainK at h2; omega
      have h7 : ¬ (K : Int) = 7 := by unfold plainK at h2; omega
      rw [if_pos h2] at h
      simp only [Bool.and_eq_true, decide_eq_true_eq, Bool.or_eq_true, Bool.false_eq_true, false_or, true_or, true_and, and_true] at h
      obtain ⟨⟨e1, e2, e3, e4⟩, e5⟩ := h
      have := len0 e1; subst this
      have := len0 e2; subst this
      have := len0 e3; subst this
      have := len0 e4; subst this
      rw [if_pos h2, if_neg h3, if_neg h4, if_neg h7, rnum_full, Nat.mod_eq_of_lt (by omega)]
    · rw [if_neg h2] at h
      rw [if_neg h2]
      by_cases h3 : (K : Int) = 3
      · rw [if_pos h3] at h
        simp only [Bool.and_eq_true, decide_eq_true_eq, Bool.or_eq_true, Bool.false_eq_true, false_or, true_or, true_and, and_true] at h
        obtain ⟨⟨e1, e2, e3⟩, e4, e5⟩ := h
        have := len0 e1; subst this
        have := len0 e2; subst this
        have := len0 e3; subst this
        subst e4
        obtain ⟨a, _, b⟩ := valK_all e5
        rw [if_pos h3, if_pos h3, rkeys_lay _ a b]
      · rw [if_neg h3] at h
        rw [if_neg h3, if_neg h3]
        by_cases h4 : (K : Int) = 4
        · rw [if_pos h4] at h
          simp only [Bool.and_eq_true, decide_eq_true_eq, Bool.or_eq_true, Bool.false_eq_true, false_or, true_or, true_and, and_true] at h
          obtain ⟨⟨e1, e2, e3⟩, e4, e5⟩ := h
          have := len0 e1; subst this
          have := len0 e2; subst this
          have := len0 e3; subst this
          subst e4
          obtain ⟨a, _, b, _⟩ := mayW_all e5
          rw [if_pos h4, if_pos h4, List.append_assoc, rwants_lay _ a (fun p hp => ⟨b p hp, hwt p hp⟩)]
        · rw [if_neg h4] at h
          rw [if_neg h4, if_neg h4]
          by_cases h7 : (K : Int) = 7
          · rw [if_pos h7] at h
            simp only [Bool.and_eq_true, decide_eq_true_eq, Bool.or_eq_true, Bool.false_eq_true, false_or, true_or, true_and, and_true] at h
            obtain ⟨⟨e1, e2, e3⟩, e4, e5, e6⟩ := h
            have := len0 e1; subst this
            have := len0 e2; subst this
            have := len0 e3; subst this
            subst e4
            have hv := len1 e5 v0
            rw [if_pos h7, if_pos h7, rver_lay _ e6 (by rw [hv] at hvs; exact hvs _ (List.mem_singleton.2 rfl)), ← hv]
          · rw [if_neg h7] at h; cases h

theorem rmsg_body (m : Msg) (h : may m = true) (hr : Rng m) : rmsg (body m) = (m, ([], 0)) := by
  unfold may topOk at h
  simp only [Bool.and_eq_true, decide_eq_true_eq] at h
  obtain ⟨⟨c1, c2, c3⟩, hf⟩ := h
  have hk := mayF_kind hf
  have hq := hr.req
  have hK : m.kind = (m.kind.toNat : Nat) := by omega
  have hC : m.client = (m.client.toNat : Nat) := by omega
  unfold rmsg body
  rw [rnum_full]
  simp only
  rw [rnum_full]
  simp only
  rw [rnum_full]
  simp only
  rw [Nat.mod_eq_of_lt (show m.kind.toNat < 256 ^ 1 by simp; omega), Nat.mod_eq_of_lt (show m.client.toNat < 256 ^ 1 by simp; omega), Nat.mod_eq_of_lt (show m.req < 256 ^ 8 by omega)]
  have := rfield_lay m hf hr _ _ hK hC []
  rwa [List.append_nil] at this

theorem val_head (n : Nat) (t : List Nat) (h : n < 4294967296) : Pk.val ((num 4 n ++ t).take 4) = n := by
  rw [take_num, val_num]; exact Nat.mod_eq_of_lt h
theorem enc_length (m : Msg) : (enc m).length = (body m).length + 4 := by unfold enc; rw [List.length_append, num_length]; omega
theorem dec_enc (m : Msg) (h : may m = true) (hr : Rng m) (hl : (body m).length ≤ 1048576) : dec (enc m) = (m, 0) := by
  have hv : Pk.val ((enc m).take 4) = (body m).length := val_head _ _ (by omega)
  have hd : (enc m).drop 4 = body m := drop_num _ _ _
  have hn := enc_length m
  unfold dec
  rw [if_neg (by omega), hv, if_neg (by omega), if_neg (by omega), if_neg (by omega), hd]
  have e := rmsg_body m h hr
  rw [if_pos (by unfold rok rend0; rw [e]; simp [h]), e]
theorem dec_cut (m : Msg) (hl : (body m).length ≤ 1048576) (k : Nat) (hk : k < (enc m).length) : dec ((enc m).take k) = (m0, 4) := by
  have hn := enc_length m
  have hln : ((enc m).take k).length = k := by rw [List.length_take]; omega
  unfold dec
  rw [hln]
  by_cases h4 : k < 4
  · rw [if_pos h4]
  · have hv : Pk.val (((enc m).take k).take 4) = (body m).length := by
      rw [List.take_take, Nat.min_eq_left (by omega)]; exact val_head _ _ (by omega)
    rw [if_neg h4, hv, if_neg (by omega), if_pos (by omega)]
theorem dec_trail (m : Msg) (hl : (body m).length ≤ 1048576) (t : List Nat) (ht : 0 < t.length) : dec (enc m ++ t) = (m0, 5) := by
  have hn := enc_length m
  have hv : Pk.val ((enc m ++ t).take 4) = (body m).length := by
    unfold enc; rw [List.append_assoc]; exact val_head _ _ (by omega)
  unfold dec
  rw [List.length_append, hv, if_neg (by omega), if_neg (by omega), if_neg (by omega), if_pos (by omega)]
end Go.Proofs.YtjklpcamlppegaaGreat

/- The document's reading: a number and a text at a place, whatever is there; what is laid is read as it was. -/
import Derived.Test.YtdalheeifgampabDoorE3
namespace Go.Proofs.YtdalheeifgampabDoor
open Go.RowKit Go.Sort Orl Pk
set_option linter.unusedVariables false
set_option linter.unusedSimpArgs false

/-- a number of n bytes at a place; beyond the end the bytes are 0 -/
def getP (b : List Nat) (at' : Nat) : Nat → Nat
  | 0 => 0
  | n + 1 => getP b at' n * 256 + b.getD (at' + n) 0
theorem getD_byt {b : List Nat} (hb : ∀ c ∈ b, c < 256) (j : Nat) : b.getD j 0 < 256 := by
  by_cases h : j < b.length
  · exact getD_lt' b hb j h
  · rw [List.getD_eq_getElem?_getD, List.getElem?_eq_none (by omega)]; simp
theorem getP_lt {b : List Nat} (hb : ∀ c ∈ b, c < 256) (a : Nat) : ∀ n, getP b a n < 256 ^ n
  | 0 => by simp [getP]
  | n + 1 => by
    have h1 := getP_lt hb a n
    have h2 := getD_byt hb (a + n)
    rw [getP, Nat.pow_succ]; omega
theorem getP_val (b : List Nat) (a : Nat) : ∀ n, a + n ≤ b.length → getP b a n = Pk.val ((b.drop a).take n)
  | 0, _ => by simp [getP, Pk.val]
  | n + 1, h => by
    rw [getP, getP_val b a n (by omega), take_succ_getD (b.drop a) n 0 (by rw [List.length_drop]; omega), val_append]
    simp [List.getD_eq_getElem?_getD]
theorem getP_num {b : List Nat} {a n v : Nat} {t : List Nat} (h : b.drop a = num n v ++ t) (ha : a + n ≤ b.length) (hv : v < 256 ^ n) : getP b a n = v := by
  rw [getP_val b a n ha, h, take_num, val_num, Nat.mod_eq_of_lt hv]
/-- a text at a place, cut to what there is; and the place behind it -/
def pieceP (b : List Nat) (a : Nat) : List Nat × Nat := ((b.take (min (min (a + 4) b.length + getP b a 4) b.length)).drop (min (a + 4) b.length), a + 4 + getP b a 4)
theorem pieceP_txt {b : List Nat} {a : Nat} {s t : List Nat} (h : b.drop a = txt s ++ t) (ha : a ≤ b.length) (hs : s.length < 4294967296) : pieceP b a = (s, a + (txt s).length) ∧ b.drop (a + (txt s).length) = t ∧ a + (txt s).length ≤ b.length := by
  have hl : b.length - a = (4 + s.length) + t.length := by
    have := congrArg List.length h
    rw [List.length_drop, List.length_append, txt_length] at this
    exact this
  have hg : getP b a 4 = s.length := getP_num (t := s ++ t) (by rw [h]; unfold txt; rw [List.append_assoc]) (by omega) (by simpa using hs)
  have hd : b.drop (a + (txt s).length) = t := by
    rw [← List.drop_drop, h, List.drop_left]
  have hd4 : b.drop (a + 4) = s ++ t := by
    rw [← List.drop_drop, h]; unfold txt; rw [List.append_assoc, drop_num]
  refine ⟨?_, hd, by rw [txt_length]; omega⟩
  unfold pieceP
  rw [hg, Nat.min_eq_left (show a + 4 ≤ b.length by omega), Nat.min_eq_left (show a + 4 + s.length ≤ b.length by omega), List.drop_take, hd4, txt_length]
  rw [show a + 4 + s.length - (a + 4) = s.length by omega, List.take_left, Nat.add_assoc]
theorem pieceP_byt {b : List Nat} (hb : ∀ c ∈ b, c < 256) (a : Nat) : (∀ c ∈ (pieceP b a).1, c < 256) ∧ (pieceP b a).1.length ≤ b.length ∧ a + 4 ≤ (pieceP b a).2 ∧ (pieceP b a).2 ≤ a + 4294967300 := by
  have := getP_lt hb a 4
  refine ⟨byt_drop (byt_take hb _) _, ?_, by unfold pieceP; simp only; omega, by unfold pieceP; simp only; omega⟩
  unfold pieceP
  simp only [List.length_drop, List.length_take]; omega
def pair1 (b : List Nat) (a : Nat) : Pr × Nat := ((text (pieceP b a).1, text (pieceP b (pieceP b a).2).1), (pieceP b (pieceP b a).2).2)
def key1 (b : List Nat) (a : Nat) : Tx × Nat := (text (pieceP b a).1, (pieceP b a).2)
/-- so many rounds -/
def lots {α : Type} (f : Nat → α × Nat) (a : Nat) : Nat → List α × Nat
  | 0 => ([], a)
  | n + 1 => ((lots f a n).1 ++ [(f (lots f a n).2).1], (f (lots f a n).2).2)
theorem lots_length {α : Type} (f : Nat → α × Nat) (a : Nat) : ∀ n, (lots f a n).1.length = n
  | 0 => rfl
  | n + 1 => by simp [lots, lots_length f a n]
theorem lots_lay {α : Type} (b : List Nat) (f : Nat → α × Nat) (lay1 : α → List Nat) (l : List α) (t : List Nat) (a : Nat) (ha : a ≤ b.length) (h : ∀ x ∈ l, ∀ a t, a ≤ b.length → b.drop a = lay1 x ++ t → f a = (x, a + (lay1 x).length)) (hb : b.drop a = l.flatMap lay1 ++ t) :
    ∀ n, n ≤ l.length → (lots f a n).1 = l.take n ∧ (lots f a n).2 ≤ b.length ∧ b.drop (lots f a n).2 = (l.drop n).flatMap lay1 ++ t
  | 0, _ => by simp [lots]; exact ⟨ha, hb⟩
  | n + 1, hn => by
    obtain ⟨i1, i2, i3⟩ := lots_lay b f lay1 l t a ha h hb n (by omega)
    have hd : l.drop n = l[n] :: l.drop (n + 1) := List.drop_eq_getElem_cons (by omega)
    rw [hd, List.flatMap_cons, List.append_assoc] at i3
    have hf := h _ (List.getElem_mem _) _ _ i2 i3
    rw [lots, hf, i1]
    simp only
    refine ⟨(List.take_succ_eq_append_getElem (by omega)).symm, ?_, ?_⟩
    · have := congrArg List.length i3
      rw [List.length_drop, List.length_append] at this
      by_cases h0 : (lay1 l[n]).length = 0
      · omega
      · omega
    · rw [← List.drop_drop, i3, List.drop_left]
/-- where a loop that reads ends -/
def Ends {α : Type} (b : List Nat) (f : Nat → α × Nat) (a n I : Nat) : Prop := I ≤ n ∧ (I = n ∨ b.length ≤ (lots f a I).2)
/-- what a payload says, as far as it goes -/
structure Len (b : List Nat) (r : Rec) : Prop where
  k : r.kind = (getP b 0 1 : Nat)
  i : r.id = getP b 1 8
  one : getP b 0 1 = 1 → ∃ I J, Ends b (pair1 b) 13 (getP b 9 4) I ∧ Ends b (key1 b) ((lots (pair1 b) 13 I).2 + 4) (getP b (lots (pair1 b) 13 I).2 4) J ∧ r.pairs = (lots (pair1 b) 13 I).1 ∧ r.keys = (lots (key1 b) ((lots (pair1 b) 13 I).2 + 4) J).1
  two : getP b 0 1 ≠ 1 → r.pairs = [] ∧ r.keys = []
theorem txtsBody_flat (l : List Tx) : txtsBody (natss l) = l.flatMap (fun s => txt (nats s)) := by
  induction l with
  | nil => rfl
  | cons x l ih => simp [natss, txtsBody] at ih ⊢; rw [← ih]
theorem pair1_lay {b : List Nat} {p : Pr} {a : Nat} {t : List Nat} (h1 : p.1.size ≤ 65535) (h2 : p.2.size ≤ 65535) (ha : a ≤ b.length) (h : b.drop a = layP1 p ++ t) : pair1 b a = (p, a + (layP1 p).length) := by
  unfold layP1 at h ⊢
  rw [List.append_assoc] at h
  obtain ⟨e1, e2, e3⟩ := pieceP_txt h ha (txtsz h1).1
  obtain ⟨f1, f2, f3⟩ := pieceP_txt e2 e3 (txtsz h2).1
  unfold pair1
  rw [e1]
  simp only
  rw [f1]
  simp only [text_nats, List.length_append]
  rw [Nat.add_assoc]
theorem key1_lay {b : List Nat} {s : Tx} {a : Nat} {t : List Nat} (h1 : s.size ≤ 65535) (ha : a ≤ b.length) (h : b.drop a = txt (nats s) ++ t) : key1 b a = (s, a + (txt (nats s)).length) := by
  obtain ⟨e1, e2, e3⟩ := pieceP_txt h ha (txtsz h1).1
  unfold key1
  rw [e1, text_nats]
theorem layP1_pos (p : Pr) : 0 < (layP1 p).length := by unfold layP1; rw [List.length_append, txt_length]; omega
/-- an end of such a loop over what is laid: all of it -/
theorem ends_all {α : Type} {b : List Nat} {f : Nat → α × Nat} {lay1 : α → List Nat} {l : List α} {t : List Nat} {a n I : Nat} (hp : ∀ x, 0 < (lay1 x).length) (ha : a ≤ b.length) (h : ∀ x ∈ l, ∀ a t, a ≤ b.length → b.drop a = lay1 x ++ t → f a = (x, a + (lay1 x).length)) (hb : b.drop a = l.flatMap lay1 ++ t) (hn : n = l.length) (hE : Ends b f a n I) :
    (lots f a I).1 = l ∧ (lots f a I).2 ≤ b.length ∧ b.drop (lots f a I).2 = t := by
  subst hn
  obtain ⟨i1, i2, i3⟩ := lots_lay b f lay1 l t a ha h hb I hE.1
  have : I = l.length := by
    rcases hE.2 with e | e
    · exact e
    · by_cases hI : I < l.length
      · have hd : l.drop I = l[I] :: l.drop (I + 1) := List.drop_eq_getElem_cons hI
        rw [hd, List.flatMap_cons] at i3
        have h3 := congrArg List.length i3
        rw [List.length_drop, List.length_append, List.length_append] at h3
        have := hp l[I]
        omega
      · have := hE.1; omega
  subst this
  refine ⟨by rw [i1, List.take_length], i2, by rw [i3]; simp⟩
theorem len_body {r0 r : Rec} (hm : may r0 = true) (hi : r0.id < 18446744073709551616) (h : Len (body r0) r) : r = r0 := by
  obtain ⟨k0, i0, ps, ks⟩ := r0
  obtain ⟨_, hp⟩ := may_parts hm
  simp only at hp hi
  have hK : k0.toNat < 256 ^ 1 ∧ 0 ≤ k0 := by rcases hp with ⟨rfl, _⟩ | ⟨rfl, _⟩ <;> decide
  have d0 : (body ⟨k0, i0, ps, ks⟩).drop 0 = num 1 k0.toNat ++ (num 8 i0 ++ layF ⟨k0, i0, ps, ks⟩) := rfl
  have d1 : (body ⟨k0, i0, ps, ks⟩).drop 1 = num 8 i0 ++ layF ⟨k0, i0, ps, ks⟩ := by unfold body; rw [drop_num]
  have d9 : (body ⟨k0, i0, ps, ks⟩).drop 9 = layF ⟨k0, i0, ps, ks⟩ := by rw [show 9 = 1 + 8 from rfl, ← List.drop_drop, d1, drop_num]
  have hl : (body ⟨k0, i0, ps, ks⟩).length = 9 + (layF ⟨k0, i0, ps, ks⟩).length := by unfold body; simp only [List.length_append, num_length]; omega
  have g0 := getP_num d0 (by omega) hK.1
  have g1 := getP_num d1 (by omega) (by omega)
  have hk := h.k
  have hid := h.i
  rw [g0] at hk
  rw [g1] at hid
  have hk' : r.kind = k0 := by rw [hk]; omega
  rcases hp with ⟨rfl, h1, h2⟩ | ⟨rfl, rfl, rfl⟩
  · obtain ⟨a, _, b, _⟩ := mayK_all h1
    obtain ⟨a2, _, b2⟩ := mayP_all h1 h2
    obtain ⟨I, J, e1, e2, e3, e4⟩ := h.one g0
    have lf : layF ⟨1, i0, ps, ks⟩ = num 4 ps.length ++ (ps.flatMap layP1 ++ (num 4 ks.length ++ ks.flatMap (fun s => txt (nats s)))) := by
      unfold layF
      simp only [if_true]
      unfold txts layP
      rw [txtsBody_flat]
      simp [natss]
    rw [lf] at d9 hl
    generalize hB : body ⟨1, i0, ps, ks⟩ = B at *
    simp only [List.length_append, num_length] at hl
    have g9 := getP_num d9 (by omega) (by omega)
    have d13 : B.drop 13 = ps.flatMap layP1 ++ (num 4 ks.length ++ ks.flatMap (fun s => txt (nats s))) := by rw [show 13 = 9 + 4 from rfl, ← List.drop_drop, d9, drop_num]
    rw [g9] at e1
    obtain ⟨p1, p2, p3⟩ := ends_all layP1_pos (by omega) (fun x hx a t ha hd => pair1_lay (b2 x hx).1 (b2 x hx).2 ha hd) d13 rfl e1
    generalize (lots (pair1 B) 13 I).2 = A at *
    have hA : B.length - A = 4 + (ks.flatMap (fun s => txt (nats s))).length := by
      have := congrArg List.length p3
      rw [List.length_drop, List.length_append, num_length] at this
      exact this
    have gA := getP_num p3 (by omega) (by omega)
    rw [gA] at e2
    have dA : B.drop (A + 4) = ks.flatMap (fun s => txt (nats s)) ++ [] := by rw [← List.drop_drop, p3, drop_num, List.append_nil]
    obtain ⟨q1, _, _⟩ := ends_all (lay1 := fun s => txt (nats s)) (fun x => by rw [txt_length]; omega) (by omega) (fun x hx a t ha hd => key1_lay (b x hx) ha hd) dA rfl e2
    obtain ⟨rk, ri, rp, rks⟩ := r
    simp only at hk' hid e3 e4
    rw [hk', hid, e3, e4, p1, q1]
  · obtain ⟨e3, e4⟩ := h.two (by rw [g0]; decide)
    obtain ⟨rk, ri, rp, rks⟩ := r
    simp only at hk' hid e3 e4
    rw [hk', hid, e3, e4]
/-- it is one if laying it again gives the same bytes -/
theorem len_rok {p : List Nat} {r : Rec} (hb : ∀ c ∈ p, c < 256) (h : Len p r) (hi : r.id < 18446744073709551616) : (rok p = true ↔ may r = true ∧ body r = p) ∧ (rok p = true → (rrec p).1 = r) := by
  have h2 : rok p = true → (rrec p).1 = r := by
    intro hr
    have e := body_read p hb hr
    have hm : may (rrec p).1 = true := by unfold rok at hr; simp at hr; exact hr.2
    refine (len_body hm (rrec_id p hb) ?_).symm
    rw [e]; exact h
  refine ⟨⟨fun hr => ?_, fun ⟨hm, he⟩ => ?_⟩, h2⟩
  · have e := h2 hr
    have hm : may (rrec p).1 = true := by unfold rok at hr; simp at hr; exact hr.2
    rw [← e]
    exact ⟨hm, body_read p hb hr⟩
  · have := rrec_body r hm hi
    rw [he] at this
    unfold rok rend0
    rw [this]
    simp [hm]
end Go.Proofs.YtdalheeifgampabDoor

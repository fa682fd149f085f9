/- Frames in pure lists: no program. -/
import Derived.Test.YtaeajgjehfjkbaaKin
namespace Go.Proofs.Ytaeajgjehfjkbaa
set_option linter.unusedVariables false
set_option linter.unusedSimpArgs false

abbrev Bs := List UInt8
/-- a length as four bytes, the highest first -/
def hd (n : Nat) : Bs := [UInt8.ofNat (n / 16777216), UInt8.ofNat (n / 65536), UInt8.ofNat (n / 256), UInt8.ofNat n]
def num (s : Bs) : Nat := (s.getD 0 0).toNat * 16777216 + (s.getD 1 0).toNat * 65536 + (s.getD 2 0).toNat * 256 + (s.getD 3 0).toNat
def fr (b : Bs) : Bs := hd b.length ++ b
theorem hd_len (n : Nat) : (hd n).length = 4 := rfl
theorem fr_len (b : Bs) : (fr b).length = 4 + b.length := by simp [fr, hd_len]
theorem num_hd (n : Nat) (h : n < 4294967296) (r : Bs) : num (hd n ++ r) = n := by
  simp [num, hd]
  omega
theorem u8_of (n : Nat) (x : UInt8) (h : n % 256 = x.toNat) : UInt8.ofNat n = x := by
  apply UInt8.toNat_inj.1
  simp [h]
theorem num_lt (s : Bs) : num s < 4294967296 := by
  have a0 := (s.getD 0 0).toNat_lt
  have a1 := (s.getD 1 0).toNat_lt
  have a2 := (s.getD 2 0).toNat_lt
  have a3 := (s.getD 3 0).toNat_lt
  simp only [num]
  omega
theorem hd_num (s : Bs) (h : 4 ≤ s.length) : hd (num s) = s.take 4 := by
  match s, h with
  | a :: b :: c :: d :: r, _ =>
    have a0 := a.toNat_lt
    have a1 := b.toNat_lt
    have a2 := c.toNat_lt
    have a3 := d.toNat_lt
    have e : num (a :: b :: c :: d :: r) = a.toNat * 16777216 + b.toNat * 65536 + c.toNat * 256 + d.toNat := rfl
    rw [e]
    show [_, _, _, _] = [a, b, c, d]
    rw [u8_of _ a (by omega), u8_of _ b (by omega), u8_of _ c (by omega), u8_of _ d (by omega)]
theorem num_app (s t : Bs) (h : 4 ≤ s.length) : num (s ++ t) = num s := by
  match s, h with
  | a :: b :: c :: d :: r, _ => rfl

def conz (b : Bs) (p : List Bs × Bs) : List Bs × Bs := (b :: p.1, p.2)
def pre (l : List Bs) (p : List Bs × Bs) : List Bs × Bs := (l ++ p.1, p.2)
def spf : Nat → Bs → Option (List Bs × Bs)
  | 0, s => some ([], s)
  | f + 1, s => if s.length < 4 then some ([], s) else if 1048576 < num s then none else if s.length < 4 + num s then some ([], s) else (spf f (s.drop (4 + num s))).map (conz ((s.drop 4).take (num s)))
/-- the bodies of the frames that a stream begins with, and the rest; none: a length is above the limit -/
def split (s : Bs) : Option (List Bs × Bs) := spf s.length s
theorem spf_fuel : ∀ (f g : Nat) (s : Bs), s.length ≤ f → s.length ≤ g → spf f s = spf g s
  | 0, 0, s, _, _ => rfl
  | 0, g + 1, s, h, _ => by simp [spf]; intro h2; omega
  | f + 1, 0, s, _, h => by simp [spf]; intro h2; omega
  | f + 1, g + 1, s, h1, h2 => by
    simp only [spf]
    split
    · rfl
    split
    · rfl
    split
    · rfl
    rw [spf_fuel f g _ (by rw [List.length_drop]; omega) (by rw [List.length_drop]; omega)]
theorem split_short {s : Bs} (h : s.length < 4) : split s = some ([], s) := by
  unfold split
  cases e : s.length with
  | zero => rfl
  | succ n => simp [spf, h]
theorem split_eq {s : Bs} (h : 4 ≤ s.length) : split s = if 1048576 < num s then none else if s.length < 4 + num s then some ([], s) else (split (s.drop (4 + num s))).map (conz ((s.drop 4).take (num s))) := by
  unfold split
  obtain ⟨n, hn⟩ : ∃ n, s.length = n + 1 := ⟨s.length - 1, by omega⟩
  rw [hn]
  simp only [spf]
  rw [if_neg (by omega), hn]
  rw [spf_fuel n (s.drop (4 + num s)).length _ (by rw [List.length_drop]; omega) (Nat.le_refl _)]
theorem split_long {s : Bs} (h : 4 ≤ s.length) (hn : 1048576 < num s) : split s = none := by rw [split_eq h, if_pos hn]
theorem split_part {s : Bs} (h : 4 ≤ s.length) (hn : ¬ 1048576 < num s) (hl : s.length < 4 + num s) : split s = some ([], s) := by rw [split_eq h, if_neg hn, if_pos hl]
theorem split_next {s : Bs} (h : 4 ≤ s.length) (hn : ¬ 1048576 < num s) (hl : ¬ s.length < 4 + num s) : split s = (split (s.drop (4 + num s))).map (conz ((s.drop 4).take (num s))) := by rw [split_eq h, if_neg hn, if_neg hl]
/-- an induction over a stream's frames -/
theorem frames (P : Bs → Prop) (h1 : ∀ s, s.length < 4 → P s) (h2 : ∀ s, 4 ≤ s.length → 1048576 < num s → P s) (h3 : ∀ s, 4 ≤ s.length → ¬ 1048576 < num s → s.length < 4 + num s → P s)
    (h4 : ∀ s, 4 ≤ s.length → ¬ 1048576 < num s → ¬ s.length < 4 + num s → P (s.drop (4 + num s)) → P s) : ∀ s, P s := by
  intro s
  obtain ⟨n, hn⟩ : ∃ n, s.length ≤ n := ⟨_, Nat.le_refl _⟩
  induction n generalizing s with
  | zero => exact h1 s (by omega)
  | succ n ih =>
    by_cases a : s.length < 4
    · exact h1 s a
    by_cases b : 1048576 < num s
    · exact h2 s (by omega) b
    by_cases c : s.length < 4 + num s
    · exact h3 s (by omega) b c
    exact h4 s (by omega) b c (ih _ (by rw [List.length_drop]; omega))

theorem split_frame (b s : Bs) (h : b.length ≤ 1048576) : split (fr b ++ s) = (split s).map (conz b) := by
  have e : num (fr b ++ s) = b.length := by rw [fr, List.append_assoc, num_hd _ (by omega)]
  have hl : (fr b ++ s).length = 4 + b.length + s.length := by rw [List.length_append, fr_len]
  rw [split_next (by omega) (by omega) (by omega), e]
  rw [show (fr b ++ s).drop (4 + b.length) = s by rw [← fr_len, List.drop_left]]
  rw [show ((fr b ++ s).drop 4).take b.length = b by
    rw [fr, List.append_assoc, show (4 : Nat) = (hd b.length).length from rfl, List.drop_left, List.take_left]]
/-- there .. -/
theorem split_all : ∀ (bs : List Bs), (∀ b ∈ bs, b.length ≤ 1048576) → split ((bs.map fr).flatten) = some (bs, [])
  | [], _ => rfl
  | b :: r, h => by
    rw [List.map_cons, List.flatten_cons, split_frame b _ (h b (by simp)), split_all r (fun x hx => h x (by simp [hx]))]
    rfl
/-- .. and back -/
theorem split_back : ∀ (s : Bs) (l : List Bs) (r : Bs), split s = some (l, r) → (l.map fr).flatten ++ r = s ∧ ∀ b ∈ l, b.length ≤ 1048576 := by
  refine frames _ ?_ ?_ ?_ ?_
  · intro s h l r e
    rw [split_short h] at e
    injection e with e; injection e with e1 e2
    subst e1 e2
    exact ⟨rfl, fun b hb => by cases hb⟩
  · intro s h hn l r e
    rw [split_long h hn] at e; cases e
  · intro s h hn hl l r e
    rw [split_part h hn hl] at e
    injection e with e; injection e with e1 e2
    subst e1 e2
    exact ⟨rfl, fun b hb => by cases hb⟩
  · intro s h hn hl ih l r e
    rw [split_next h hn hl] at e
    obtain ⟨⟨l', r'⟩, e1, e2⟩ := Option.map_eq_some_iff.1 e
    injection e2 with e2 e3
    subst e2 e3
    obtain ⟨i1, i2⟩ := ih _ _ e1
    have hlen : ((s.drop 4).take (num s)).length = num s := by rw [List.length_take, List.length_drop]; omega
    refine ⟨?_, ?_⟩
    · rw [List.map_cons, List.flatten_cons, List.append_assoc, i1, fr, hlen, hd_num s h, ← List.drop_drop, List.append_assoc, List.take_append_drop, List.take_append_drop]
    · intro b hb
      rcases List.mem_cons.1 hb with rfl | hb
      · rw [hlen]; omega
      · exact i2 b hb
theorem split_len {s : Bs} {l : List Bs} {r : Bs} (h : split s = some (l, r)) : l.length * 4 + r.length ≤ s.length := by
  have e := (split_back s l r h).1
  have : ∀ m : List Bs, m.length * 4 ≤ ((m.map fr).flatten).length := by
    intro m
    induction m with
    | nil => simp
    | cons x m ih => simp [fr_len] at ih ⊢; omega
  have := this l
  rw [← e, List.length_append]
  omega
/-- piece by piece -/
theorem split_app : ∀ (s t : Bs), (split s = none → split (s ++ t) = none) ∧ ∀ l r, split s = some (l, r) → split (s ++ t) = (split (r ++ t)).map (pre l) := by
  have hid : ∀ x : Option (List Bs × Bs), x = x.map (pre []) := by intro x; cases x <;> rfl
  intro s t
  refine frames (fun s => (split s = none → split (s ++ t) = none) ∧ ∀ l r, split s = some (l, r) → split (s ++ t) = (split (r ++ t)).map (pre l)) ?_ ?_ ?_ ?_ s
  · intro s h
    refine ⟨fun e => (by rw [split_short h] at e; cases e), fun l r e => ?_⟩
    rw [split_short h] at e
    injection e with e; injection e with e1 e2
    subst e1 e2
    exact hid _
  · intro s h hn
    refine ⟨fun _ => split_long (by rw [List.length_append]; omega) (by rw [num_app s t h]; exact hn), fun l r e => by rw [split_long h hn] at e; cases e⟩
  · intro s h hn hl
    refine ⟨fun e => (by rw [split_part h hn hl] at e; cases e), fun l r e => ?_⟩
    rw [split_part h hn hl] at e
    injection e with e; injection e with e1 e2
    subst e1 e2
    exact hid _
  · intro s h hn hl ih
    have e1 : split (s ++ t) = (split (s.drop (4 + num s) ++ t)).map (conz ((s.drop 4).take (num s))) := by
      rw [split_next (by rw [List.length_append]; omega) (by rw [num_app s t h]; exact hn) (by rw [num_app s t h, List.length_append]; omega), num_app s t h]
      rw [List.drop_append_of_le_length (by omega), List.drop_append_of_le_length (by omega), List.take_append_of_le_length (by rw [List.length_drop]; omega)]
    rw [e1, split_next h hn hl]
    refine ⟨fun e => ?_, fun l r e => ?_⟩
    · rw [Option.map_eq_none_iff] at e ⊢
      exact ih.1 e
    · obtain ⟨⟨l', r'⟩, e2, e3⟩ := Option.map_eq_some_iff.1 e
      injection e3 with e3 e4
      subst e3 e4
      rw [ih.2 _ _ e2, Option.map_map]
      cases split (r' ++ t) <;> rfl
end Go.Proofs.Ytaeajgjehfjkbaa

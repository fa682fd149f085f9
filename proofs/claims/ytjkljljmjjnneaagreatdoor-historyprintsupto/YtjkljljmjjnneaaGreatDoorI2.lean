/- What is read is what is written: lines. -/
import Derived.Test.YtjkljljmjjnneaaGreatDoorI1
import Derived.Test.YtjkljljmjjnneaaGreatDoorP8
import Derived.Test.YtjkljljmjjnneaaGreatDoorS1
namespace Go.Proofs.YtjkljljmjjnneaaGreatDoor
open Go.RowKit Go.Sort Orl
set_option linter.unusedVariables false
set_option linter.unusedSimpArgs false

def jn (c : UInt8) (ps : List (List UInt8)) : List UInt8 := ps.flatMap (c :: ·)
theorem split_join (c : UInt8) : ∀ l : List UInt8, ∃ p ps, splitL c l = p :: ps ∧ p ++ jn c ps = l
  | [] => ⟨[], [], rfl, rfl⟩
  | x :: l => by
    obtain ⟨p, ps, h1, h2⟩ := split_join c l
    rw [splitL]
    by_cases e : x = c
    · rw [if_pos e]
      exact ⟨[], splitL c l, rfl, by rw [h1, jn, List.flatMap_cons, e]; show c :: (p ++ jn c ps) = _; rw [h2]⟩
    · rw [if_neg e, h1]
      exact ⟨x :: p, ps, rfl, by show x :: (p ++ jn c ps) = _; rw [h2]⟩
theorem split_eq {c : UInt8} {l p : List UInt8} {ps : List (List UInt8)} (h : splitL c l = p :: ps) : l = p ++ jn c ps := by
  obtain ⟨p', ps', h1, h2⟩ := split_join c l
  rw [h] at h1
  injection h1 with e1 e2
  rw [e1, e2, h2]
def keyX (c : UInt8) (k : List UInt8) : List UInt8 := c :: textW k
def verX (v : Vr) : List UInt8 := textW v.key ++ [61] ++ numW v.id ++ (if v.id = 0 then [] else [61] ++ textW v.val ++ v.keys.flatMap (keyX 61))
def pairX (p : List UInt8 × List UInt8) : List UInt8 := textW p.1 ++ [61] ++ textW p.2
def evX (x : Eb) : List UInt8 := if x.kind = 1 then [119, 114, 105, 116, 101] ++ [32] ++ numW x.id ++ x.pairs.flatMap (fun p => 32 :: pairX p) else if x.kind = 2 then [114, 101, 97, 100] ++ x.keys.flatMap (keyX 32) else if x.kind = 3 then wordL x.ares ++ [32] ++ numW x.aid ++ x.vers.flatMap (fun v => 32 :: verX v) else []
def lineX (x : Eb) : List UInt8 := numW x.client ++ [32] ++ numW x.txn ++ [32] ++ evX x ++ [10]
theorem texts_back (c : UInt8) : ∀ {ps ts : List (List UInt8)}, textsR ps = some ts → ts.flatMap (keyX c) = jn c ps
  | [], ts, h => by
    rw [textsR] at h
    injection h with h
    subst h; rfl
  | p :: ps, ts, h => by
    rw [textsR] at h
    cases hp : textR p with
    | none => rw [hp] at h; cases h
    | some t =>
      rw [hp] at h
      obtain ⟨ts', h1, rfl⟩ := Option.map_eq_some_iff.1 h
      rw [List.flatMap_cons, texts_back c h1, keyX, text_back hp]
      rfl
theorem mapR_back {α : Type} (c : UInt8) {f : List UInt8 → Option α} {g : α → List UInt8} (hfg : ∀ l x, f l = some x → g x = l) : ∀ {ps : List (List UInt8)} {xs : List α}, mapR f ps = some xs → xs.flatMap (fun x => c :: g x) = jn c ps
  | [], xs, h => by
    rw [mapR] at h
    injection h with h
    subst h; rfl
  | p :: ps, xs, h => by
    rw [mapR] at h
    cases hp : f p with
    | none => rw [hp] at h; cases h
    | some t =>
      rw [hp] at h
      obtain ⟨ts', h1, rfl⟩ := Option.map_eq_some_iff.1 h
      rw [List.flatMap_cons, mapR_back c hfg h1, hfg _ _ hp]
      rfl
theorem mapR_all {α : Type} {f : List UInt8 → Option α} {P : α → Prop} (hf : ∀ l x, f l = some x → P x) : ∀ {ps : List (List UInt8)} {xs : List α}, mapR f ps = some xs → ∀ x ∈ xs, P x
  | [], xs, h => by
    rw [mapR] at h
    injection h with h
    subst h
    exact fun x hx => by simp at hx
  | p :: ps, xs, h => by
    rw [mapR] at h
    cases hp : f p with
    | none => rw [hp] at h; cases h
    | some t =>
      rw [hp] at h
      obtain ⟨ts', h1, rfl⟩ := Option.map_eq_some_iff.1 h
      intro x hx
      rcases List.mem_cons.1 hx with e | e
      · rw [e]; exact hf _ _ hp
      · exact mapR_all hf h1 x e
theorem pair_back (l : List UInt8) (p : List UInt8 × List UInt8) (h : pairR l = some p) : pairX p = l := by
  unfold pairR at h
  obtain ⟨a, ps, h1, h2⟩ := split_join 61 l
  rw [h1] at h
  split at h
  · rename_i x y hxy
    injection h with h
    subst h
    rw [textsR] at hxy
    cases ha : textR a with
    | none => rw [ha] at hxy; cases hxy
    | some t =>
      rw [ha] at hxy
      obtain ⟨ts', h3, h4⟩ := Option.map_eq_some_iff.1 hxy
      injection h4 with h4 h5
      subst h4 h5
      have h6 := texts_back 61 h3
      have ht := text_back ha
      rw [← h2, ← h6]
      unfold pairX
      simp [keyX, ht]
  · cases h
theorem ver_back (l : List UInt8) (v : Vr) (h : verR l = some v) : verX v = l ∧ (v.id = 0 → v.val = [] ∧ v.keys = []) := by
  unfold verR verP at h
  obtain ⟨a, ps, h1, h2⟩ := split_join 61 l
  rw [h1] at h
  cases ps with
  | nil => rw [if_pos (by simp)] at h; cases h
  | cons b ps =>
    rw [if_neg (by simp)] at h
    simp only [List.getD_cons_zero, List.getD_cons_succ] at h
    cases ha : textR a with
    | none => rw [ha] at h; cases h
    | some k =>
      cases hb : numR b with
      | none => rw [ha, hb] at h; cases h
      | some i =>
        rw [ha, hb] at h
        simp only at h
        have hk := text_back ha
        have hi := num_back hb
        by_cases hz : i = 0
        · rw [if_pos hz] at h
          split at h
          · rename_i hl
            injection h with h
            subst h
            have hp : ps = [] := List.length_eq_zero_iff.1 (by have hl' : ps.length + 2 = 2 := hl; omega)
            subst hp
            rw [hz] at hi
            refine ⟨?_, fun _ => ⟨rfl, rfl⟩⟩
            unfold verX
            simp only [if_true]
            rw [hk, hi, ← h2]
            simp [jn]
          · cases h
        · rw [if_neg hz] at h
          cases ps with
          | nil => rw [if_pos (by simp)] at h; cases h
          | cons c ps =>
            rw [if_neg (by simp)] at h
            simp only [List.getD_cons_zero, List.getD_cons_succ, List.drop_succ_cons, List.drop_zero] at h
            cases hc : textR c with
            | none => rw [hc] at h; cases h
            | some w =>
              cases hd : textsR ps with
              | none => rw [hc, hd] at h; cases h
              | some ks =>
                rw [hc, hd] at h
                simp only at h
                injection h with h
                subst h
                refine ⟨?_, fun e => absurd e hz⟩
                unfold verX
                simp only [if_neg hz]
                rw [hk, hi, text_back hc, texts_back 61 hd, ← h2]
                simp [jn]
theorem res_back {l : List UInt8} (h : resR l ≠ 0) : wordL (resR l) = l ∧ 1 ≤ resR l ∧ resR l ≤ 6 := by
  refine ⟨?_, by omega, resR_le l⟩
  unfold resR at h ⊢
  by_cases h1 : l = [111, 107]
  · rw [if_pos h1, h1]; rfl
  · rw [if_neg h1] at h ⊢
    by_cases h2 : l = [115, 116, 97, 108, 101]
    · rw [if_pos h2, h2]; rfl
    · rw [if_neg h2] at h ⊢
      by_cases h3 : l = [97, 98, 111, 114, 116, 101, 100]
      · rw [if_pos h3, h3]; rfl
      · rw [if_neg h3] at h ⊢
        by_cases h4 : l = [117, 110, 107, 110, 111, 119, 110]
        · rw [if_pos h4, h4]; rfl
        · rw [if_neg h4] at h ⊢
          by_cases h5 : l = [105, 110, 118, 97, 108, 105, 100]
          · rw [if_pos h5, h5]; rfl
          · rw [if_neg h5] at h ⊢
            by_cases h6 : l = [101, 120, 104, 97, 117, 115, 116, 101, 100]
            · rw [if_pos h6, h6]; rfl
            · rw [if_neg h6] at h; exact absurd rfl h
/-- an event as it is read may be -/
structure OkX (x : Eb) : Prop where
  cl : x.client < 16
  tx : 1 ≤ x.txn ∧ x.txn ≤ 9223372036854775807
  kd : x.kind = 1 ∨ x.kind = 2 ∨ x.kind = 3
  wr : x.kind = 1 → x.keys = [] ∧ x.ares = 0 ∧ x.aid = 0 ∧ x.vers = []
  rd : x.kind = 2 → x.id = 0 ∧ x.pairs = [] ∧ x.ares = 0 ∧ x.aid = 0 ∧ x.vers = []
  an : x.kind = 3 → x.id = 0 ∧ x.pairs = [] ∧ x.keys = [] ∧ 1 ≤ x.ares ∧ x.ares ≤ 6 ∧ ∀ v ∈ x.vers, v.id = 0 → v.val = [] ∧ v.keys = []
theorem write_back {c t : Nat} {ps : List (List UInt8)} {x : Eb} (hc : c < 16) (ht : 1 ≤ t ∧ t ≤ 9223372036854775807) (h : writeE c t ps = some x) : OkX x ∧ x.client = c ∧ x.txn = t ∧ evX x = [119, 114, 105, 116, 101] ++ jn 32 ps := by
  unfold writeE at h
  cases ps with
  | nil => cases h
  | cons a ps =>
    simp only at h
    cases ha : numR a with
    | none => rw [ha] at h; cases h
    | some i =>
      cases hb : mapR pairR ps with
      | none => rw [ha, hb] at h; cases h
      | some qs =>
        rw [ha, hb] at h
        simp only at h
        injection h with h
        subst h
        refine ⟨⟨hc, ht, .inl rfl, fun _ => ⟨rfl, rfl, rfl, rfl⟩, fun e => absurd (show (1 : Nat) = 2 from e) (by decide), fun e => absurd (show (1 : Nat) = 3 from e) (by decide)⟩, rfl, rfl, ?_⟩
        unfold evX
        simp only [if_true]
        rw [mapR_back 32 pair_back hb, num_back ha]
        simp [jn]
theorem read_back {c t : Nat} {ps : List (List UInt8)} {x : Eb} (hc : c < 16) (ht : 1 ≤ t ∧ t ≤ 9223372036854775807) (h : readE c t ps = some x) : OkX x ∧ x.client = c ∧ x.txn = t ∧ evX x = [114, 101, 97, 100] ++ jn 32 ps := by
  unfold readE at h
  obtain ⟨ks, h1, rfl⟩ := Option.map_eq_some_iff.1 h
  refine ⟨⟨hc, ht, .inr (.inl rfl), fun e => absurd (show (2 : Nat) = 1 from e) (by decide), fun _ => ⟨rfl, rfl, rfl, rfl, rfl⟩, fun e => absurd (show (2 : Nat) = 3 from e) (by decide)⟩, rfl, rfl, ?_⟩
  unfold evX
  show (if (2 : Nat) = 1 then _ else if (2 : Nat) = 2 then _ else _) = _
  rw [if_neg (by decide), if_pos rfl, texts_back 32 h1]
theorem ans_back {c t : Nat} {wd : List UInt8} {ps : List (List UInt8)} {x : Eb} (hc : c < 16) (ht : 1 ≤ t ∧ t ≤ 9223372036854775807) (h : ansE c t wd ps = some x) : OkX x ∧ x.client = c ∧ x.txn = t ∧ evX x = wd ++ jn 32 ps := by
  unfold ansE at h
  by_cases hz : resR wd = 0
  · rw [if_pos hz] at h; cases h
  · rw [if_neg hz] at h
    obtain ⟨w1, w2, w3⟩ := res_back hz
    cases ps with
    | nil => cases h
    | cons a ps =>
      simp only at h
      cases ha : numR a with
      | none => rw [ha] at h; cases h
      | some i =>
        cases hb : mapR verR ps with
        | none => rw [ha, hb] at h; cases h
        | some qs =>
          rw [ha, hb] at h
          simp only at h
          injection h with h
          subst h
          refine ⟨⟨hc, ht, .inr (.inr rfl), fun e => absurd (show (3 : Nat) = 1 from e) (by decide), fun e => absurd (show (3 : Nat) = 2 from e) (by decide), fun _ => ⟨rfl, rfl, rfl, w2, w3, mapR_all (P := fun v => v.id = 0 → v.val = [] ∧ v.keys = []) (fun l v hv => (ver_back l v hv).2) hb⟩⟩, rfl, rfl, ?_⟩
          unfold evX
          show (if (3 : Nat) = 1 then _ else if (3 : Nat) = 2 then _ else if (3 : Nat) = 3 then _ else _) = _
          rw [if_neg (by decide), if_neg (by decide), if_pos rfl]
          simp only
          rw [mapR_back 32 (fun l v hv => (ver_back l v hv).1) hb, num_back ha, w1]
          simp [jn]
theorem event_back {l : List UInt8} {x : Eb} (h : eventR l = some x) : lineX x = l ++ [10] ∧ OkX x := by
  unfold eventR eventP at h
  obtain ⟨a, ps, h1, h2⟩ := split_join 32 l
  rw [h1] at h
  cases ps with
  | nil => rw [if_pos (by simp)] at h; cases h
  | cons b ps =>
    cases ps with
    | nil => rw [if_pos (by simp)] at h; cases h
    | cons d ps =>
      rw [if_neg (by simp)] at h
      simp only [List.getD_cons_zero, List.getD_cons_succ, List.drop_succ_cons, List.drop_zero] at h
      cases ha : numR a with
      | none => rw [ha] at h; cases h
      | some c =>
        cases hb : numR b with
        | none => rw [ha, hb] at h; cases h
        | some t =>
          rw [ha, hb] at h
          simp only at h
          by_cases g1 : 16 ≤ c
          · rw [if_pos g1] at h; cases h
          · by_cases g2 : t < 1
            · rw [if_neg g1, if_pos g2] at h; cases h
            · by_cases g3 : 9223372036854775807 < t
              · rw [if_neg g1, if_neg g2, if_pos g3] at h; cases h
              · rw [if_neg g1, if_neg g2, if_neg g3] at h
                have key : OkX x ∧ x.client = c ∧ x.txn = t ∧ evX x = d ++ jn 32 ps := by
                  by_cases e1 : d = [119, 114, 105, 116, 101]
                  · rw [if_pos e1] at h; rw [e1]; exact write_back (by omega) ⟨by omega, by omega⟩ h
                  · rw [if_neg e1] at h
                    by_cases e2 : d = [114, 101, 97, 100]
                    · rw [if_pos e2] at h; rw [e2]; exact read_back (by omega) ⟨by omega, by omega⟩ h
                    · rw [if_neg e2] at h; exact ans_back (by omega) ⟨by omega, by omega⟩ h
                refine ⟨?_, key.1⟩
                unfold lineX
                rw [key.2.1, key.2.2.1, key.2.2.2, num_back ha, num_back hb, ← h2]
                simp [jn]
end Go.Proofs.YtjkljljmjjnneaaGreatDoor

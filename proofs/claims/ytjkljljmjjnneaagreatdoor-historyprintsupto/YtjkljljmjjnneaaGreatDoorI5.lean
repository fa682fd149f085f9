/- What is written is read: numbers, texts, lists of them. -/
import Derived.Test.YtjkljljmjjnneaaGreatDoorI4
namespace Go.Proofs.YtjkljljmjjnneaaGreatDoor
open Go.RowKit Go.Sort Orl
set_option linter.unusedVariables false
set_option linter.unusedSimpArgs false

theorem dec_step {u : Nat} (h : 10 ≤ u) : Lib.decDigits u = Lib.decDigits (u / 10) ++ [UInt8.ofNat (48 + u % 10)] := by
  rw [Lib.decDigits.eq_1, dif_neg (by omega)]
theorem dig_nat {d : Nat} (h : d < 10) : (UInt8.ofNat (48 + d)).toNat = 48 + d := by
  rw [UInt8.toNat_ofNat']; omega
theorem parse_fwd {M : Nat} (u : Nat) : ∀ r : List UInt8, u ≤ M → u < 18446744073709551616 → Lib.parseUintM M 0 (Lib.decDigits u ++ r) = Lib.parseUintM M u r := by
  induction u using Nat.strongRecOn with
  | ind u ih =>
    intro r hM hu
    by_cases h : u < 10
    · rw [dec_one h]
      show Lib.parseUintM M 0 (UInt8.ofNat (48 + u) :: r) = _
      rw [Lib.parseUintM.eq_2, dig_nat h, if_pos (by omega), if_neg (by omega), if_neg (by omega)]
      congr 1
      omega
    · rw [dec_step (by omega), List.append_assoc, ih (u / 10) (by omega) _ (by omega) (by omega)]
      show Lib.parseUintM M (u / 10) (UInt8.ofNat (48 + u % 10) :: r) = _
      rw [Lib.parseUintM.eq_2, dig_nat (by omega), if_pos (by omega), if_neg (by omega), if_neg (by omega)]
      congr 1
      omega
theorem dec_ne (u : Nat) : Lib.decDigits u ≠ [] := by
  by_cases h : u < 10
  · rw [dec_one h]; simp
  · rw [dec_step (by omega)]; simp
theorem dec_head (u : Nat) (h1 : 1 ≤ u) : (Lib.decDigits u).getD 0 0 ≠ 48 := by
  induction u using Nat.strongRecOn with
  | ind u ih =>
    by_cases h : u < 10
    · rw [dec_one h]
      intro e
      have e2 := congrArg UInt8.toNat e
      simp only [List.getD_cons_zero] at e2
      rw [dig_nat h] at e2
      have : (48 : UInt8).toNat = 48 := rfl
      omega
    · rw [dec_step (by omega)]
      have hn := dec_ne (u / 10)
      have := ih (u / 10) (by omega) (by omega)
      revert hn this
      cases Lib.decDigits (u / 10) with
      | nil => intro h; exact absurd rfl h
      | cons a l => intro _ h; exact h
theorem num_fwd {u : Nat} (h : u < 18446744073709551616) : numR (numW u) = some u := by
  unfold numR numW
  rw [if_neg]
  · unfold Lib.parseUintB
    rw [if_neg (dec_ne u)]
    have := parse_fwd (M := 2 ^ 64 - 1) u [] (by omega) h
    rw [List.append_nil] at this
    rw [this]
    rfl
  · rintro ⟨h1, h2⟩
    by_cases h0 : u < 10
    · rw [dec_one h0] at h1; simp at h1
    · exact dec_head u (by omega) h2
theorem num_mem (u : Nat) : ∀ c ∈ numW u, 48 ≤ c.toNat ∧ c.toNat ≤ 57 := by
  unfold numW
  induction u using Nat.strongRecOn with
  | ind u ih =>
    intro c hc
    by_cases h : u < 10
    · rw [dec_one h] at hc
      rw [List.mem_singleton.1 hc, dig_nat h]
      omega
    · rw [dec_step (by omega)] at hc
      rcases List.mem_append.1 hc with hc | hc
      · exact ih (u / 10) (by omega) c hc
      · rw [List.mem_singleton.1 hc, dig_nat (by omega)]
        omega
/-- a byte that cuts nothing -/
def Cl (c : UInt8) : Prop := c ≠ 32 ∧ c ≠ 61 ∧ c ≠ 10
theorem cl_of {c : UInt8} (h : 33 ≤ c.toNat ∧ c.toNat ≠ 61) : Cl c := by
  refine ⟨?_, ?_, ?_⟩ <;> rintro rfl <;> simp at h
theorem num_cl (u : Nat) : ∀ c ∈ numW u, Cl c := fun c hc => cl_of (by have := num_mem u c hc; omega)
theorem byteW_key : ∀ n : Fin 256, (∀ c ∈ byteW (UInt8.ofNat n.1), c ≠ 32 ∧ c ≠ 61 ∧ c ≠ 10) ∧ (plainB (UInt8.ofNat n.1) = false → 0 ≤ hexV (hexD ((UInt8.ofNat n.1).toNat / 16)) ∧ 0 ≤ hexV (hexD ((UInt8.ofNat n.1).toNat % 16)) ∧ UInt8.ofNat (hexV (hexD ((UInt8.ofNat n.1).toNat / 16)) * 16 + hexV (hexD ((UInt8.ofNat n.1).toNat % 16))).toNat = UInt8.ofNat n.1) := by decide +kernel
theorem byteW_of (c : UInt8) : (∀ d ∈ byteW c, Cl d) ∧ (plainB c = false → 0 ≤ hexV (hexD (c.toNat / 16)) ∧ 0 ≤ hexV (hexD (c.toNat % 16)) ∧ UInt8.ofNat (hexV (hexD (c.toNat / 16)) * 16 + hexV (hexD (c.toNat % 16))).toNat = c) := by
  have h := byteW_key ⟨c.toNat, c.toNat_lt⟩
  simp only [UInt8.ofNat_toNat] at h
  exact h
theorem text_cl (t : List UInt8) : ∀ c ∈ textW t, Cl c := by
  intro c hc
  unfold textW at hc
  rcases List.mem_append.1 hc with hc | hc
  · split at hc
    · rw [List.mem_singleton.1 hc]; exact ⟨by decide, by decide, by decide⟩
    · cases hc
  · obtain ⟨d, _, hd⟩ := List.mem_flatMap.1 hc
    exact (byteW_of d).1 c hd
theorem byte_fwd (c : UInt8) (r : List UInt8) : byteR (byteW c ++ r) = (c, (byteW c).length) := by
  unfold byteW
  by_cases h : plainB c = true
  · rw [if_pos h]
    show byteR (c :: r) = _
    unfold byteR
    simp only [h, if_true]
    rfl
  · have hf : plainB c = false := by simpa using h
    obtain ⟨h1, h2, h3⟩ := (byteW_of c).2 hf
    rw [if_neg h]
    show byteR (37 :: hexD (c.toNat / 16) :: hexD (c.toNat % 16) :: r) = _
    unfold byteR
    dsimp only
    rw [if_neg (by decide), if_neg (by simp), if_neg (by omega), if_neg (by omega), h3, if_neg h]
    rfl
theorem bytes_fwd : ∀ t : List UInt8, bR (t.flatMap byteW) = some t
  | [] => rfl
  | c :: t => by
    rw [List.flatMap_cons]
    have hp := byteW_pos c
    rw [bR_step (by intro e; have := congrArg List.length e; rw [List.length_append] at this; simp at this; have h0 : (byteW c).length = 0 := by rw [this.1]; rfl
                    omega)]
    rw [byte_fwd, if_neg (by simp only; omega)]
    simp only [List.drop_left]
    rw [bytes_fwd t]
    rfl
theorem flat_ne (c : UInt8) (t : List UInt8) : (c :: t).flatMap byteW ≠ [] ∧ (c :: t).flatMap byteW ≠ [37] := by
  have hp := byteW_pos c
  rw [List.flatMap_cons]
  refine ⟨fun e => ?_, fun e => ?_⟩
  · have := congrArg List.length e
    rw [List.length_append] at this
    simp only [List.length_nil] at this
    omega
  · have hb := byte_fwd c (t.flatMap byteW)
    rw [e] at hb
    have h1 := congrArg Prod.snd hb
    have h2 : (byteR [37]).2 = 0 := by decide
    simp only [h2] at h1
    omega
theorem text_fwd (t : List UInt8) : textR (textW t) = some t := by
  cases t with
  | nil => rfl
  | cons c t =>
    unfold textW
    rw [if_neg (by simp), List.nil_append]
    unfold textR
    rw [if_neg (flat_ne c t).2, if_neg (flat_ne c t).1]
    exact bytes_fwd _
theorem split_none {c : UInt8} : ∀ {l : List UInt8}, (∀ x ∈ l, x ≠ c) → splitL c l = [l]
  | [], _ => rfl
  | x :: l, h => by
    rw [splitL, if_neg (h x (List.mem_cons_self)), split_none (fun y hy => h y (List.mem_cons_of_mem _ hy))]
theorem split_app {c : UInt8} : ∀ {p : List UInt8} (r : List UInt8), (∀ x ∈ p, x ≠ c) → splitL c (p ++ c :: r) = p :: splitL c r
  | [], r, _ => by rw [List.nil_append, splitL, if_pos rfl]
  | x :: p, r, h => by
    rw [List.cons_append, splitL, if_neg (h x (List.mem_cons_self)), split_app r (fun y hy => h y (List.mem_cons_of_mem _ hy))]
theorem split_fwd {c : UInt8} : ∀ {ps : List (List UInt8)} {p : List UInt8}, (∀ x ∈ p, x ≠ c) → (∀ q ∈ ps, ∀ x ∈ q, x ≠ c) → splitL c (p ++ jn c ps) = p :: ps
  | [], p, h, _ => by
    show splitL c (p ++ []) = _
    rw [List.append_nil, split_none h]
  | q :: ps, p, h, k => by
    show splitL c (p ++ (c :: q ++ jn c ps)) = _
    rw [List.cons_append, split_app _ h, split_fwd (k q (List.mem_cons_self)) (fun r hr => k r (List.mem_cons_of_mem _ hr))]
theorem texts_fwd : ∀ ts : List (List UInt8), textsR (ts.map textW) = some ts
  | [] => rfl
  | t :: ts => by
    rw [List.map_cons, textsR, text_fwd]
    simp only
    rw [texts_fwd ts]
    rfl
theorem mapR_fwd {α : Type} {f : List UInt8 → Option α} {g : α → List UInt8} : ∀ {xs : List α}, (∀ x ∈ xs, f (g x) = some x) → mapR f (xs.map g) = some xs
  | [], _ => rfl
  | x :: xs, h => by
    rw [List.map_cons, mapR, h x (List.mem_cons_self)]
    simp only
    rw [mapR_fwd (fun y hy => h y (List.mem_cons_of_mem _ hy))]
    rfl
theorem flat_jn {α : Type} (c : UInt8) (g : α → List UInt8) : ∀ xs : List α, xs.flatMap (fun x => c :: g x) = jn c (xs.map g)
  | [] => rfl
  | x :: xs => by
    rw [List.flatMap_cons, flat_jn c g xs]
    rfl
theorem keys_jn (c : UInt8) (ks : List (List UInt8)) : ks.flatMap (keyX c) = jn c (ks.map textW) := flat_jn c textW ks
theorem pair_fwd (p : List UInt8 × List UInt8) : pairR (pairX p) = some p := by
  unfold pairR pairX
  have h : splitL 61 (textW p.1 ++ [61] ++ textW p.2) = [textW p.1, textW p.2] := by
    have := split_fwd (c := 61) (ps := [textW p.2]) (p := textW p.1) (fun x hx => (text_cl _ x hx).2.1) (fun q hq x hx => by rw [List.mem_singleton.1 hq] at hx; exact (text_cl _ x hx).2.1)
    rw [← this]
    simp [jn]
  rw [h]
  have := texts_fwd [p.1, p.2]
  simp only [List.map_cons, List.map_nil] at this
  rw [this]
theorem ver_fwd (v : Vr) (hi : v.id < 18446744073709551616) (h0 : v.id = 0 → v.val = [] ∧ v.keys = []) : verR (verX v) = some v := by
  obtain ⟨k, i, vl, ks⟩ := v
  simp only at hi h0
  unfold verR verX
  simp only
  by_cases h : i = 0
  · subst h
    obtain ⟨rfl, rfl⟩ := h0 rfl
    rw [if_pos rfl, List.append_nil]
    have hs : splitL 61 (textW k ++ [61] ++ numW 0) = [textW k, numW 0] := by
      have := split_fwd (c := 61) (ps := [numW 0]) (p := textW k) (fun x hx => (text_cl _ x hx).2.1) (fun q hq x hx => by rw [List.mem_singleton.1 hq] at hx; exact (num_cl _ x hx).2.1)
      rw [← this]
      simp [jn]
    rw [hs]
    unfold verP
    rw [if_neg (by simp)]
    simp only [List.getD_cons_zero, List.getD_cons_succ, text_fwd, num_fwd (show 0 < 18446744073709551616 by decide)]
    rfl
  · rw [if_neg h]
    have hs : splitL 61 (textW k ++ [61] ++ numW i ++ ([61] ++ textW vl ++ ks.flatMap (keyX 61))) = textW k :: numW i :: textW vl :: ks.map textW := by
      have := split_fwd (c := 61) (ps := numW i :: textW vl :: ks.map textW) (p := textW k) (fun x hx => (text_cl _ x hx).2.1) (fun q hq x hx => by
        rcases List.mem_cons.1 hq with rfl | hq
        · exact (num_cl _ x hx).2.1
        · rcases List.mem_cons.1 hq with rfl | hq
          · exact (text_cl _ x hx).2.1
          · obtain ⟨t, _, rfl⟩ := List.mem_map.1 hq
            exact (text_cl _ x hx).2.1)
      rw [← this, keys_jn]
      simp [jn]
    rw [hs]
    unfold verP
    rw [if_neg (by simp)]
    simp only [List.getD_cons_zero, List.getD_cons_succ, text_fwd, num_fwd hi]
    rw [if_neg h, if_neg (by simp)]
    simp only [List.drop_succ_cons, List.drop_zero, texts_fwd]
end Go.Proofs.YtjkljljmjjnneaaGreatDoor

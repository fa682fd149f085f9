import Derived.Test.YtpfbbfbghldmjaaB3
namespace Go.Proofs.Ytpfbbfbghldmjaa
open Go.RowKit Go.Sort Orl
set_option linter.unusedVariables false
set_option linter.unusedSimpArgs false

/-- what is told of two lists: the list and no error, or none and ErrKeys -/
def Two (w : World) (sa sb l : List Tx) (e : Ending) (w' : World) : Prop := ∃ v, e = .returned (.tuple #[v, .int .i64 (if rising lts sa && rising lts sb then 0 else 40)]) ∧ Gives TE w (if rising lts sa && rising lts sb then l else []) v w'
theorem union_any (w : World) (oa : Option Addr) (na ca : Nat) (ob : Option Addr) (nb cb : Nat) (sa sb : List Tx) (hna : na = sa.length) (hnb : nb = sb.length) (hla : sa.length ≤ 10000) (hlb : sb.length ≤ 10000) (ha : Sl TE w oa ca sa) (hb : Sl TE w ob cb sb) :
    Calls Try.prog 10 #[.slice oa na ca, .slice ob nb cb] w fun e w' => Two w sa sb (mg lts true true true sa sb) e w' := by
  have hm := merge_any true true true w oa na ca ob nb cb sa sb hna hnb hla hlb ha hb
  unfold Two
  obtain ⟨E, hE⟩ : ∃ E : Int, (if rising lts sa && rising lts sb then (0 : Int) else 40) = E := ⟨_, rfl⟩
  obtain ⟨L, hL⟩ : ∃ L : List Tx, (if rising lts sa && rising lts sb then mg lts true true true sa sb else []) = L := ⟨_, rfl⟩
  rw [hE, hL] at hm
  simp only [hE, hL]
  clear hE hL hna hnb hla hlb
  go_enter Try.func10, Try.ntmps10
  go_wp2_with fail
  refine hm.mono ?_
  rintro e w' ⟨v, rfl, hg⟩
  go_wp2_with fail
  go_ret2
  exact ⟨_, rfl, hg⟩
theorem common_any (w : World) (oa : Option Addr) (na ca : Nat) (ob : Option Addr) (nb cb : Nat) (sa sb : List Tx) (hna : na = sa.length) (hnb : nb = sb.length) (hla : sa.length ≤ 10000) (hlb : sb.length ≤ 10000) (ha : Sl TE w oa ca sa) (hb : Sl TE w ob cb sb) :
    Calls Try.prog 12 #[.slice oa na ca, .slice ob nb cb] w fun e w' => Two w sa sb (mg lts false true false sa sb) e w' := by
  have hm := merge_any false true false w oa na ca ob nb cb sa sb hna hnb hla hlb ha hb
  unfold Two
  obtain ⟨E, hE⟩ : ∃ E : Int, (if rising lts sa && rising lts sb then (0 : Int) else 40) = E := ⟨_, rfl⟩
  obtain ⟨L, hL⟩ : ∃ L : List Tx, (if rising lts sa && rising lts sb then mg lts false true false sa sb else []) = L := ⟨_, rfl⟩
  rw [hE, hL] at hm
  simp only [hE, hL]
  clear hE hL hna hnb hla hlb
  go_enter Try.func12, Try.ntmps12
  go_wp2_with fail
  refine hm.mono ?_
  rintro e w' ⟨v, rfl, hg⟩
  go_wp2_with fail
  go_ret2
  exact ⟨_, rfl, hg⟩
theorem minus_any (w : World) (oa : Option Addr) (na ca : Nat) (ob : Option Addr) (nb cb : Nat) (sa sb : List Tx) (hna : na = sa.length) (hnb : nb = sb.length) (hla : sa.length ≤ 10000) (hlb : sb.length ≤ 10000) (ha : Sl TE w oa ca sa) (hb : Sl TE w ob cb sb) :
    Calls Try.prog 13 #[.slice oa na ca, .slice ob nb cb] w fun e w' => Two w sa sb (mg lts true false false sa sb) e w' := by
  have hm := merge_any true false false w oa na ca ob nb cb sa sb hna hnb hla hlb ha hb
  unfold Two
  obtain ⟨E, hE⟩ : ∃ E : Int, (if rising lts sa && rising lts sb then (0 : Int) else 40) = E := ⟨_, rfl⟩
  obtain ⟨L, hL⟩ : ∃ L : List Tx, (if rising lts sa && rising lts sb then mg lts true false false sa sb else []) = L := ⟨_, rfl⟩
  rw [hE, hL] at hm
  simp only [hE, hL]
  clear hE hL hna hnb hla hlb
  go_enter Try.func13, Try.ntmps13
  go_wp2_with fail
  refine hm.mono ?_
  rintro e w' ⟨v, rfl, hg⟩
  go_wp2_with fail
  go_ret2
  exact ⟨_, rfl, hg⟩
theorem refCommon_any (w : World) (oa : Option Addr) (na ca : Nat) (ob : Option Addr) (nb cb : Nat) (sa sb : List Tx) (hna : na = sa.length) (hnb : nb = sb.length) (hla : sa.length ≤ 10000) (hlb : sb.length ≤ 10000) (ha : Sl TE w oa ca sa) (hb : Sl TE w ob cb sb) :
    Calls Try.prog 33 #[.slice oa na ca, .slice ob nb cb] w fun e w' => Two w sa sb (someL sa sb true) e w' := by
  have hm := some_any true w oa na ca ob nb cb sa sb hna hnb hla hlb ha hb
  unfold Two
  obtain ⟨E, hE⟩ : ∃ E : Int, (if rising lts sa && rising lts sb then (0 : Int) else 40) = E := ⟨_, rfl⟩
  obtain ⟨L, hL⟩ : ∃ L : List Tx, (if rising lts sa && rising lts sb then someL sa sb true else []) = L := ⟨_, rfl⟩
  rw [hE, hL] at hm
  simp only [hE, hL]
  clear hE hL hna hnb hla hlb
  go_enter Try.func33, Try.ntmps33
  go_wp2_with fail
  refine hm.mono ?_
  rintro e w' ⟨v, rfl, hg⟩
  go_wp2_with fail
  go_ret2
  exact ⟨_, rfl, hg⟩
theorem refMinus_any (w : World) (oa : Option Addr) (na ca : Nat) (ob : Option Addr) (nb cb : Nat) (sa sb : List Tx) (hna : na = sa.length) (hnb : nb = sb.length) (hla : sa.length ≤ 10000) (hlb : sb.length ≤ 10000) (ha : Sl TE w oa ca sa) (hb : Sl TE w ob cb sb) :
    Calls Try.prog 34 #[.slice oa na ca, .slice ob nb cb] w fun e w' => Two w sa sb (someL sa sb false) e w' := by
  have hm := some_any false w oa na ca ob nb cb sa sb hna hnb hla hlb ha hb
  unfold Two
  obtain ⟨E, hE⟩ : ∃ E : Int, (if rising lts sa && rising lts sb then (0 : Int) else 40) = E := ⟨_, rfl⟩
  obtain ⟨L, hL⟩ : ∃ L : List Tx, (if rising lts sa && rising lts sb then someL sa sb false else []) = L := ⟨_, rfl⟩
  rw [hE, hL] at hm
  simp only [hE, hL]
  clear hE hL hna hnb hla hlb
  go_enter Try.func34, Try.ntmps34
  go_wp2_with fail
  refine hm.mono ?_
  rintro e w' ⟨v, rfl, hg⟩
  go_wp2_with fail
  go_ret2
  exact ⟨_, rfl, hg⟩

/-! ### what the two sides tell is one -/
theorem refU_inc {a : List Tx} (ha : Inc lts a) : ∀ (b o : List Tx), Inc lts o → (∀ x ∈ a, x ∈ o) → b.Nodup → (∀ x ∈ b, x ∉ a → x ∉ o) → Inc lts (b.foldl (refStep a) o) ∧ ∀ z, z ∈ b.foldl (refStep a) o ↔ z ∈ o ∨ z ∈ b
  | [], o, ho, _, _, _ => by simp [ho]
  | x :: r, o, ho, hao, hnd, hx => by
    have hnd' := List.nodup_cons.1 hnd
    simp only [List.foldl_cons]
    by_cases hxa : x ∈ a
    · have e : refStep a o x = o := by unfold refStep; rw [(inn_iff a x).2 hxa]; rfl
      rw [e]
      have ih := refU_inc ha r o ho hao hnd'.2 (fun y hy => hx y (by simp [hy]))
      refine ⟨ih.1, fun z => ?_⟩
      rw [ih.2 z]
      constructor
      · rintro (h | h)
        · exact .inl h
        · exact .inr (by simp [h])
      · rintro (h | h)
        · exact .inl h
        · rcases List.mem_cons.1 h with rfl | h
          · exact .inl (hao z hxa)
          · exact .inr h
    · have e : refStep a o x = put lts e0 o x := by unfold refStep; rw [inn_no hxa]; rfl
      rw [e]
      have hxo := hx x (by simp) hxa
      have ih := refU_inc ha r (put lts e0 o x) (put_inc swoT triT e0 ho hxo) (fun y hy => (put_mem e0 o x y).2 (.inr (hao y hy))) hnd'.2 (fun y hy hya => by
        rw [put_mem]
        rintro (rfl | h)
        · exact hnd'.1 hy
        · exact hx y (by simp [hy]) hya h)
      refine ⟨ih.1, fun z => ?_⟩
      rw [ih.2 z, put_mem]
      simp only [List.mem_cons]
      constructor
      · rintro ((h | h) | h)
        · exact .inr (.inl h)
        · exact .inl h
        · exact .inr (.inr h)
      · rintro (h | h | h)
        · exact .inl (.inr h)
        · exact .inl (.inl h)
        · exact .inr h
theorem union_eq {a b : List Tx} (ha : Inc lts a) (hb : Inc lts b) : mg lts true true true a b = refU a b := by
  have h := refU_inc ha b a ha (fun _ h => h) (inc_nodup swoT hb) (fun _ _ h => h)
  refine inc_ext swoT (mg_inc swoT triT _ _ _ a b ha hb) h.1 fun z => ?_
  unfold refU
  rw [h.2 z, mg_mem swoT triT _ _ _ z a b ha hb]
  by_cases h1 : z ∈ a <;> by_cases h2 : z ∈ b <;> simp [h1, h2]
theorem someL_inc {a : List Tx} (ha : Inc lts a) (b : List Tx) (has : Bool) : Inc lts (someL a b has) := List.Pairwise.filter _ ha
theorem someL_mem (a b : List Tx) (has : Bool) (z : Tx) : z ∈ someL a b has ↔ z ∈ a ∧ inn b z = has := by
  unfold someL; rw [List.mem_filter]; simp
theorem common_eq {a b : List Tx} (ha : Inc lts a) (hb : Inc lts b) : mg lts false true false a b = someL a b true := by
  refine inc_ext swoT (mg_inc swoT triT _ _ _ a b ha hb) (someL_inc ha b true) fun z => ?_
  rw [someL_mem, inn_iff, mg_mem swoT triT _ _ _ z a b ha hb]
  by_cases h1 : z ∈ a <;> by_cases h2 : z ∈ b <;> simp [h1, h2]
theorem minus_eq {a b : List Tx} (ha : Inc lts a) (hb : Inc lts b) : mg lts true false false a b = someL a b false := by
  refine inc_ext swoT (mg_inc swoT triT _ _ _ a b ha hb) (someL_inc ha b false) fun z => ?_
  rw [someL_mem, mg_mem swoT triT _ _ _ z a b ha hb]
  by_cases h2 : z ∈ b
  · have := (inn_iff b z).2 h2
    by_cases h1 : z ∈ a <;> simp [h1, h2, this]
  · have := inn_no h2
    by_cases h1 : z ∈ a <;> simp [h1, h2, this]
end Go.Proofs.Ytpfbbfbghldmjaa

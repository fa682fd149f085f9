import Derived.Test.YtjklpcamlppegaaGreatB3
namespace Go.Proofs.YtjklpcamlppegaaGreat
open Go.RowKit Go.Sort Orl
set_option linter.unusedVariables false
set_option linter.unusedSimpArgs false

/-- what is told of two lists: the list and no error, or none and ErrKeys -/
def Two (w : World) (sa sb l : List Tx) (e : Ending) (w' : World) : Prop := ∃ v, e = .returned (.tuple #[v, .int .i64 (if rising lts sa && rising lts sb then 0 else 40)]) ∧ Gives TE w (if rising lts sa && rising lts sb then l else []) v w'
theorem minus_any (w : World) (oa : Option Addr) (na ca : Nat) (ob : Option Addr) (nb cb : Nat) (sa sb : List Tx) (hna : na = sa.length) (hnb : nb = sb.length) (hla : sa.length ≤ 10000) (hlb : sb.length ≤ 10000) (ha : Sl TE w oa ca sa) (hb : Sl TE w ob cb sb) :
    Calls Tryz.prog 84 #[.slice oa na ca, .slice ob nb cb] w fun e w' => Two w sa sb (mg lts true false false sa sb) e w' := by
  have hm := merge_any true false false w oa na ca ob nb cb sa sb hna hnb hla hlb ha hb
  unfold Two
  obtain ⟨E, hE⟩ : ∃ E : Int, (if rising lts sa && rising lts sb then (0 : Int) else 40) = E := ⟨_, rfl⟩
  obtain ⟨L, hL⟩ : ∃ L : List Tx, (if rising lts sa && rising lts sb then mg lts true false false sa sb else []) = L := ⟨_, rfl⟩
  rw [hE, hL] at hm
  simp only [hE, hL]
  clear hE hL hna hnb hla hlb
  go_enter Tryz.func84, Tryz.ntmps84
  go_wp2_with fail
  refine hm.mono ?_
  rintro e w' ⟨v, rfl, hg⟩
  go_wp2_with fail
  go_ret2
  exact ⟨_, rfl, hg⟩
/-! ### what the two sides tell is one -/
theorem someL_inc {a : List Tx} (ha : Inc lts a) (b : List Tx) (has : Bool) : Inc lts (someL a b has) := List.Pairwise.filter _ ha
theorem someL_mem (a b : List Tx) (has : Bool) (z : Tx) : z ∈ someL a b has ↔ z ∈ a ∧ inn b z = has := by
  unfold someL; rw [List.mem_filter]; simp
theorem minus_eq {a b : List Tx} (ha : Inc lts a) (hb : Inc lts b) : mg lts true false false a b = someL a b false := by
  refine inc_ext swoT (mg_inc swoT triT _ _ _ a b ha hb) (someL_inc ha b false) fun z => ?_
  rw [someL_mem, mg_mem swoT triT _ _ _ z a b ha hb]
  by_cases h2 : z ∈ b
  · have := (inn_iff b z).2 h2
    by_cases h1 : z ∈ a <;> simp [h1, h2, this]
  · have := inn_no h2
    by_cases h1 : z ∈ a <;> simp [h1, h2, this]
end Go.Proofs.YtjklpcamlppegaaGreat

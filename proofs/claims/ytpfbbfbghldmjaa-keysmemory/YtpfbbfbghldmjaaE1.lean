import Derived.Test.YtpfbbfbghldmjaaD2
import Derived.Deep.RegionLaw
namespace Go.Proofs.Ytpfbbfbghldmjaa
open Go.RowKit Go.Sort Orl
set_option linter.unusedVariables false
set_option linter.unusedSimpArgs false

/-- the pairs in another order -/
def backL (xs : List Pr) (t : Nat) : List Pr := (xs.take t).reverse ++ (xs.drop t).reverse
theorem backL_perm (xs : List Pr) (t : Nat) : (backL xs t).Perm xs := by
  unfold backL
  refine ((List.reverse_perm _).append (List.reverse_perm _)).trans ?_
  rw [List.take_append_drop]
theorem backL_length (xs : List Pr) (t : Nat) : (backL xs t).length = xs.length := (backL_perm xs t).length_eq
theorem backL_at (xs : List Pr) (t k : Nat) (ht : t < xs.length) (hk : k < xs.length) : (backL xs t).getD k p0 = xs.getD ((xs.length - 1 - k + t) % xs.length) p0 := by
  unfold backL
  by_cases h : k < t
  · have e : (xs.length - 1 - k + t) % xs.length = t - 1 - k := by
      rw [show xs.length - 1 - k + t = (t - 1 - k) + xs.length by omega, Nat.add_mod_right, Nat.mod_eq_of_lt (by omega)]
    rw [e]
    have h1 : k < (xs.take t).reverse.length := by simp; omega
    simp only [List.getD_eq_getElem?_getD]
    rw [List.getElem?_append_left h1, List.getElem?_reverse (by simp; omega), List.length_take, List.getElem?_take_of_lt (by omega)]
    rw [show min t xs.length - 1 - k = t - 1 - k by omega]
  · have e : (xs.length - 1 - k + t) % xs.length = xs.length - 1 - k + t := Nat.mod_eq_of_lt (by omega)
    rw [e]
    simp only [List.getD_eq_getElem?_getD]
    rw [List.getElem?_append_right (by simp; omega), List.getElem?_reverse (by simp; omega)]
    simp only [List.length_reverse, List.length_take, List.length_drop, List.getElem?_drop]
    rw [show t + (xs.length - t - 1 - (k - min t xs.length)) = xs.length - 1 - k + t by omega]

theorem all_perm {α : Type} {l m : List α} (h : l.Perm m) (f : α → Bool) : l.all f = m.all f := by
  apply Bool.eq_iff_iff.2
  simp only [List.all_eq_true]
  exact ⟨fun hh x hx => hh x (h.mem_iff.2 hx), fun hh x hx => hh x (h.mem_iff.1 hx)⟩
theorem valK_perm {l m : List Tx} (h : l.Perm m) : valK l = valK m := by
  unfold valK
  rw [h.length_eq, all_perm h, show isT l = isT m from isort_congr swoT triT e0 h]
theorem valP_perm {l m : List Pr} (h : l.Perm m) : valP l = valP m := by
  unfold valP
  rw [all_perm h, valK_perm (kys_perm h)]
theorem nrm_perm_eq {l m : List Pr} (h : l.Perm m) (hv : valP m = true) : nrm l = nrm m := by
  have hn := valP_nodup hv
  have hn2 : (kys l).Nodup := (kys_perm h).nodup_iff.2 hn
  exact inc_perm swoP (nrm_inc hn2) (nrm_inc hn) ((nrm_perm l).trans (h.trans (nrm_perm m).symm))
theorem valP_keys {l : List Pr} (h : valP l = true) : valK (kys l) = true := by
  unfold valP at h; simp only [Bool.and_eq_true] at h; exact h.2
theorem valK_isT {l : List Tx} (h : valK l = true) : valK (isT l) = true := (valK_perm (show (isT l).Perm l from isort_perm e0 l)).trans h
theorem isT_isT (l : List Tx) : isT (isT l) = isT l := isort_congr swoT triT e0 (isort_perm e0 l)
theorem isT_inc {l : List Tx} (h : valK l = true) : Inc lts (isT l) := by
  unfold valK at h; simp only [Bool.and_eq_true] at h
  exact (rising_iff swoT _).1 h.2
theorem kys_nrm {l : List Pr} (h : valP l = true) : kys (nrm l) = isT (kys l) := by
  refine inc_perm swoT ?_ (isT_inc (valP_keys h)) ((kys_perm (nrm_perm l)).trans (isort_perm e0 (kys l)).symm)
  have := nrm_inc (valP_nodup h)
  unfold Inc kys
  rw [List.pairwise_map]
  exact this
theorem twice_no {l : List Pr} {p : Pr} (hp : p ∈ l) : valK (kys (l ++ [p])) = false ∧ valP (l ++ [p]) = false := by
  have h1 : valK (kys (l ++ [p])) = false := by
    cases e : valK (kys (l ++ [p])) with
    | false => rfl
    | true =>
      have := valK_nodup e
      unfold kys at this
      rw [List.map_append, List.nodup_append] at this
      exact absurd rfl (this.2.2 p.1 (List.mem_map_of_mem hp) p.1 (by simp))
  refine ⟨h1, ?_⟩
  unfold valP; rw [h1]; simp
theorem turn_mod (turn : Int) (n : Nat) (hn : 0 < n) : ∃ TU t : Nat, IntKind.u64.wrap turn = (TU : Int) ∧ ((TU : Int)).tmod (n : Int) = (t : Int) ∧ t < n := by
  have h0 : 0 ≤ IntKind.u64.wrap turn := by
    simp only [IntKind.wrap]
    exact Int.emod_nonneg _ (by decide)
  refine ⟨(IntKind.u64.wrap turn).toNat, (IntKind.u64.wrap turn).toNat % n, (Int.toNat_of_nonneg h0).symm, ?_, Nat.mod_lt _ hn⟩
  rw [Int.tmod_eq_emod_of_nonneg (by omega), ← Int.natCast_emod]
theorem idx_mod (n k t : Nat) (hk : k < n) (ht : t < n) : (((n : Int) - 1 - k + t)).tmod (n : Int) = (((n - 1 - k + t) % n : Nat) : Int) := by
  rw [show ((n : Int) - 1 - k + t) = ((n - 1 - k + t : Nat) : Int) by omega, Int.tmod_eq_emod_of_nonneg (by omega), ← Int.natCast_emod]
theorem FitsP.sub {l m : List Pr} (h : FitsP l) (hs : ∀ p ∈ m, p ∈ l) : FitsP m := fun p hp => h p (hs p hp)

/-- append as one step of a region that draws -/
theorem step_app {α : Type} {E : El α} (hE : E.Ok) {w : World} {ops : Array Oper} {o : Oper} {a : Act} {K : Act → World → Prop} {Q : Exit → Act → World → Prop} {Ep : Prop} (hgd : o.guard = none) (s x : Operand)
    (ho : o.op = .call { callee := .builtin .append, args := #[s, x], argTypes := #[E.t, E.t] })
    (oa : Option Addr) (n c : Nat) (xs : List α) (hs : a.eval s = .slice oa n c) (hn : n = xs.length) (hown : Own E w oa c xs)
    (ox : Option Addr) (m d : Nat) (news : List α) (hx : a.eval x = .slice ox m d) (hm : m = news.length) (hd : ox = none → d = 0) (hrow : Row E w ox news)
    (hb : (xs.length + news.length) * E.nb ≤ 140737488355328) (hb2 : xs.length + news.length ≤ 140737488355328)
    (h : ∀ o' c' w', Own E w' o' c' (xs ++ news) → Ap w oa o' w' → K (a.put o.dst (.slice o' (n + m) c')) w') :
    if Region.wanted o (yielded ops a.tmps) = true then Oper.wp Try.prog o a w K Q else Ep := by
  have hw : Region.wanted o (yielded ops a.tmps) = true := by simp [Region.wanted, hgd]
  rw [if_pos hw]
  subst hn hm
  obtain ⟨o', c', w', hr, h1, h2⟩ := run_app hE w o.type oa c xs hown ox d news hd hrow hb hb2
  unfold Oper.wp execOp
  simp only [ho, resolve, invoke, builtin, Sem.run_bind, Sem.run_pure, Result.andThen_ok, List.map_toArray, List.map_cons, List.map_nil, hs, hx, hr]
  exact h o' c' w' h1 h2
end Go.Proofs.Ytpfbbfbghldmjaa

import Derived.Test.YtagekdmkidbhpaaPo
import Derived.Test.YtagekdmkidbhpaaCB
/- A store of the call's own, beside blocks that are not its own. -/
namespace Go.Proofs.Ytagekdmkidbhpaa
open Go.RowKit Go.Maps Go.Sort Orl
set_option linter.unusedVariables false
set_option linter.unusedSimpArgs false

/-- P: blocks that are not the store's -/
def Ow (w0 w : World) (p : Nat) (s : St) (N : Nat) (P : Nat → Prop) : Prop := ∃ T, Ows w0 w p T s N ∧ ∀ b, P b → T b = none ∧ w0.heap.size ≤ b ∧ b < w.heap.size
section
variable {w0 w w' : World} {p : Nat} {s : St} {N : Nat} {P : Nat → Prop}
theorem Ow.ok (h : Ow w0 w p s N P) : Ok s := by obtain ⟨T, h, _⟩ := h; exact h.ok
theorem Ow.keep (h : Ow w0 w p s N P) : Keeps no w0 w := by obtain ⟨T, h, _⟩ := h; exact h.keep
theorem Ow.go (h : Ow w0 w p s N P) (hk : Keeps no w w') : Ow w0 w' p s N P := by
  obtain ⟨T, h, hP⟩ := h
  exact ⟨T, h.go hk, fun b hb => ⟨(hP b hb).1, (hP b hb).2.1, Nat.lt_of_lt_of_le (hP b hb).2.2 hk.size⟩⟩
theorem Ow.sub (h : Ow w0 w p s N P) {Q : Nat → Prop} (hQ : ∀ b, Q b → P b) : Ow w0 w p s N Q := by
  obtain ⟨T, h, hP⟩ := h
  exact ⟨T, h, fun b hb => hP b (hQ b hb)⟩
theorem Ow.more (h : Ow w0 w p s N P) {M : Nat} (hM : N ≤ M) : Ow w0 w p s M P := by
  obtain ⟨T, h, hP⟩ := h
  exact ⟨T, ⟨h.is.more hM, h.ok, h.new, h.keep⟩, hP⟩
theorem Ow.tight (h : Ow w0 w p s N P) {U : List Mk} (hU : ∀ m, s.V m ≠ none → m ∈ U) : Ow w0 w p s U.length P := by
  obtain ⟨T, h, hP⟩ := h
  exact ⟨T, ⟨h.is.tight hU, h.ok, h.new, h.keep⟩, hP⟩
/-- what others have made since is not the store's -/
theorem Ow.grow (h : Ow w0 w p s N P) (hk : Keeps no w w') : Ow w0 w' p s N (fun b => P b ∨ (w.heap.size ≤ b ∧ b < w'.heap.size)) := by
  obtain ⟨T, h, hP⟩ := h
  refine ⟨T, h.go hk, fun b hb => ?_⟩
  rcases hb with hb | ⟨h1, h2⟩
  · exact ⟨(hP b hb).1, (hP b hb).2.1, Nat.lt_of_lt_of_le (hP b hb).2.2 hk.size⟩
  · refine ⟨?_, Nat.le_trans h.keep.size h1, h2⟩
    cases e : T b with
    | none => rfl
    | some r => have := h.is.lt b (by rw [e]; simp); omega
/-- others write their own -/
theorem Ow.other (h : Ow w0 w p s N P) (hk : Keeps P w w') : Ow w0 w' p s N P := by
  obtain ⟨T, h, hP⟩ := h
  refine ⟨T, ⟨h.is.keeps hk (fun b hb hc => hb (hP b hc).1), h.ok, h.new, h.keep.then hk (fun b hb => .inr (hP b hb).2.1)⟩, fun b hb => ⟨(hP b hb).1, (hP b hb).2.1, Nat.lt_of_lt_of_le (hP b hb).2.2 hk.size⟩⟩
theorem Ow.lt (h : Ow w0 w p s N P) {b : Nat} (hb : P b) : b < w.heap.size := by obtain ⟨T, _, hP⟩ := h; exact (hP b hb).2.2
theorem ow_new (w : World) : Calls Try.prog 10 #[] w fun e w' => ∃ p, e = .returned (.pointer (some ⟨p, 0, none⟩)) ∧ Hid (Ow w w' p St.new 0 no) := by
  refine (own_new w).mono ?_
  rintro e w' ⟨p, he, hT⟩
  obtain ⟨T, h⟩ := hT.out
  exact ⟨p, he, T, h, fun b hb => hb.elim⟩
theorem Ow.put (h : Ow w0 w p s N P) (i : Nat) (ps : List Pr) (keys : List Tx) (now : Int) (ap : Option Addr) (np cp : Nat) (ak : Option Addr) (nk ck : Nat) (hi : i < 18446744073709551616) (hnp : np = ps.length) (hnk : nk = keys.length) (hsp : Sl PE w ap cp ps) (hsk : Sl TE w ak ck keys) (hlp : ps.length ≤ 100000) (hok : okPut i ps keys now = true) (hN : N ≤ 900000000) :
    Calls Try.prog 12 #[.pointer (some ⟨p, 0, none⟩), .int .u64 ((i : Nat) : Int), .slice ap np cp, .slice ak nk ck, .int .i64 now] w fun e w' => e = .returned (.tuple #[.bool (decide (0 < (miss s i ps).length)), .int .i64 0]) ∧ Hid (Ow w0 w' p (putAll i keys now s (miss s i ps)) (N + (miss s i ps).length) P ∧ Keeps (fun b => ¬ P b) w w') := by
  obtain ⟨T, h, hP⟩ := h
  refine (h.put i ps keys now ap np cp ak nk ck hi hnp hnk hsp hsk hlp hok hN).mono ?_
  rintro e w' ⟨he, hT⟩
  obtain ⟨T', h1, h2, h3⟩ := hT.out
  exact ⟨he, ⟨T', h1, fun b hb => ⟨by rw [h2 b (hP b hb).2.2]; exact (hP b hb).1, (hP b hb).2.1, Nat.lt_of_lt_of_le (hP b hb).2.2 h3.size⟩⟩, h3.mono fun b hb hc => hb.1 (hP b hc).1⟩
theorem Ow.commit (h : Ow w0 w p s N P) (i : Nat) (now : Int) (hi : i < 18446744073709551616) (hi2 : 65536 ≤ i) (ht : tickB now = true) (hN : N ≤ 2000000000000) :
    Calls Try.prog 16 #[.pointer (some ⟨p, 0, none⟩), .int .u64 ((i : Nat) : Int), .int .i64 now] w fun e w' => ∃ n : Nat, e = .returned (.tuple #[.int .i64 ((n : Nat) : Int), .int .i64 0]) ∧ Hid (CountOf s i n) ∧ Hid (Ow w0 w' p (commitS s i now) N P ∧ Keeps (fun b => ¬ P b) w w') := by
  obtain ⟨T, h, hP⟩ := h
  refine (h.commit i now hi hi2 ht hN).mono ?_
  rintro e w' ⟨n, he, hc, hO⟩
  obtain ⟨h1, h3⟩ := hO.out
  exact ⟨n, he, hc, ⟨T, h1, fun b hb => ⟨(hP b hb).1, (hP b hb).2.1, Nat.lt_of_lt_of_le (hP b hb).2.2 h3.size⟩⟩, h3.mono fun b hb hc => hb.1 (hP b hc).1⟩
theorem Ow.drop (h : Ow w0 w p s N P) (k : Tx) (i : Nat) (hm : KM.ok (k, i)) :
    Calls Try.prog 23 #[.pointer (some ⟨p, 0, none⟩), .string k, .int .u64 ((i : Nat) : Int)] w fun e w' => e = .returned (.int .i64 (dropE s (k, i))) ∧ Hid (Ow w0 w' p (dropR s (k, i)) N P ∧ Keeps (fun b => ¬ P b) w w') := by
  obtain ⟨T, h, hP⟩ := h
  refine (h.drop k i hm).mono ?_
  rintro e w' ⟨he, hO⟩
  obtain ⟨h1, h3⟩ := hO.out
  exact ⟨he, ⟨T, h1, fun b hb => ⟨(hP b hb).1, (hP b hb).2.1, Nat.lt_of_lt_of_le (hP b hb).2.2 h3.size⟩⟩, h3.mono fun b hb hc => hb.1 (hP b hc).1⟩
/-- a Drop that is refused -/
theorem Ow.drop0 (h : Ow w0 w p s N P) (k : Tx) (i : Nat) (hm : KM.ok (k, i)) (he : dropE s (k, i) ≠ 0) :
    Calls Try.prog 23 #[.pointer (some ⟨p, 0, none⟩), .string k, .int .u64 ((i : Nat) : Int)] w fun e w' => e = .returned (.int .i64 (dropE s (k, i))) ∧ Keeps no w w' := by
  obtain ⟨T, h, _⟩ := h
  unfold dropE at he ⊢
  cases hv : s.V (k, i) with
  | none => exact drop_none w p T s N k i h.is hm hv
  | some v =>
    rw [hv] at he
    simp only at he ⊢
    refine (drop_some w p T s N k i v h.is hv (h.ok.above hv)).mono ?_
    rintro e w' ⟨h1, h2⟩
    split
    · rename_i hs
      exact h1 hs
    · rename_i hs
      rw [if_neg hs] at he
      exact absurd rfl he
theorem Ow.byID (h : Ow w0 w p s N P) (k : Tx) (i : Nat) (hm : KM.ok (k, i)) :
    Calls Try.prog 17 #[.pointer (some ⟨p, 0, none⟩), .string k, .int .u64 ((i : Nat) : Int)] w fun e w' => ∃ a b c o n d, e = .returned (.tuple #[.agg #[.string a, .int .u64 b, .string c, .slice o n d], .int .i64 (byE s (k, i))]) ∧ Hid (Keeps no w w') ∧ Hid (∀ v, s.V (k, i) = some v → a = k ∧ b = ((i : Nat) : Int) ∧ c = v.val ∧ n = v.keys.length ∧ Own TE w' o d v.keys ∧ New w o) := by
  obtain ⟨T, h, _⟩ := h
  exact h.byID k i hm
theorem Ow.last (h : Ow w0 w p s N P) (k : Tx) (hk : k.size ≤ 65535) :
    Calls Try.prog 31 #[.pointer (some ⟨p, 0, none⟩), .string k] w fun e w' => e = .returned (.int .u64 ((s.last k : Nat) : Int)) ∧ w' = w := by
  obtain ⟨T, h, _⟩ := h
  exact h.last k hk
theorem Ow.kept (h : Ow w0 w p s N P) (hN : N ≤ 1954687338211) :
    Calls Try.prog 38 #[.pointer (some ⟨p, 0, none⟩)] w fun e w' => ∃ v, e = .returned v ∧ ∃ o n c ks, v = .slice o n c ∧ Hid (n = ks.length) ∧ Hid (Kl w ks o c w' ∧ IsKs s ks ∧ Inc ltM (ks.map (·.m)) ∧ ∀ m, s.V m ≠ none → m ∈ ks.map (·.m)) ∧ Hid (ks.length ≤ N) := by
  obtain ⟨T, h, _⟩ := h
  exact kept_any w p T s N h.is h.ok.v hN
end
end Go.Proofs.Ytagekdmkidbhpaa

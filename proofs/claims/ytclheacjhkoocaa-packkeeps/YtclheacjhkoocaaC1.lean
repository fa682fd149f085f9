import Derived.Test.YtclheacjhkoocaaL2
namespace Go.Proofs.Ytclheacjhkoocaa
open Go.RowKit
open Pk
set_option linter.unusedVariables false
set_option linter.unusedSimpArgs false

/-- what a call leaves of a reader -/
def OpV.rst (p : OpV) (st : RS) : RS :=
  if p.kind = 1 then (rnum 1 st).2 else if p.kind = 2 then (rnum 4 st).2 else if p.kind = 3 then (rnum 8 st).2 else if p.kind = 4 then (rtext p.N st).2 else if p.kind = 5 then (rtexts p.N p.M st).2 else if p.kind = 6 then (rcount p.N st).2 else st

theorem rstep_after {w w1 w' : World} {t a : Nat} {o : Option Addr} {st : RS} (hk : Keeps (fun _ => False) w w1) (h : RStep t w1 a o st w') : RStep t w a o st w' := by
  obtain ⟨o', c', h1, h2, h3⟩ := h
  exact ⟨o', c', h1, h2, (hk.mono (fun _ h => h.elim)).trans h3⟩

set_option maxRecDepth 10000 in
set_option maxHeartbeats 1000000 in
theorem calls_any (w : World) (a : Nat) (o : Option Addr) (c : Nat) (bs : List Nat) (e0 : Nat) (p : OpV) (hn1 : -9223372036854775808 ≤ p.N) (hn2 : p.N ≤ 9223372036854775807) (hm1 : -9223372036854775808 ≤ p.M) (hm2 : p.M ≤ 9223372036854775807) (h : IsR 68 w a o c bs e0) :
    Calls Try.prog 20 #[.pointer (some ⟨a, 0, none⟩), .agg p.cells] w fun e w' => e = .returned (.tuple #[]) ∧ RStep 68 w a o (p.rst (bs, e0)) w' := by
  obtain ⟨kind, v, s, ol, cl, ss, N, M⟩ := p
  simp only [OpV.cells] at *
  have hkb : Keeps (fun _ => False) w (w.alloc (.cells #[.int .i64 kind, .int .u64 (v : Nat), .string s, .slice ol ss.length cl, .int .i64 N, .int .i64 M] 34)) := (Keeps.refl _ _).alloc _
  have hR := h.keeps hkb (fun _ _ h => h)
  by_cases q1 : kind = 1
  · subst q1
    go_enter Try.func20, Try.ntmps20
    go_wp2_with fail
    refine (rU8_any _ a o c bs e0 hR).mono ?_
    rintro e w1 ⟨rfl, hst⟩
    go_wp2
    go_end0
    exact ⟨rfl, rstep_after hkb hst⟩
  by_cases q2 : kind = 2
  · subst q2
    go_enter Try.func20, Try.ntmps20
    go_wp2_with fail
    refine (rU32_any _ a o c bs e0 hR).mono ?_
    rintro e w1 ⟨rfl, hst⟩
    go_wp2
    go_end0
    exact ⟨rfl, rstep_after hkb hst⟩
  by_cases q3 : kind = 3
  · subst q3
    go_enter Try.func20, Try.ntmps20
    go_wp2_with fail
    refine (rU64_any _ a o c bs e0 hR).mono ?_
    rintro e w1 ⟨rfl, hst⟩
    go_wp2
    go_end0
    exact ⟨rfl, rstep_after hkb hst⟩
  by_cases q4 : kind = 4
  · subst q4
    go_enter Try.func20, Try.ntmps20
    go_wp2_with fail
    refine (rText_any _ a o c bs e0 N hn1 hn2 hR).mono ?_
    rintro e w1 ⟨rfl, hst⟩
    go_wp2
    go_end0
    exact ⟨rfl, rstep_after hkb hst⟩
  by_cases q5 : kind = 5
  · subst q5
    go_enter Try.func20, Try.ntmps20
    go_wp2_with fail
    refine (rTexts_any _ a o c bs e0 N M hn1 hn2 hm1 hm2 hR).mono ?_
    rintro e w1 ⟨⟨o1, c1, n1, rfl, _, _, _, _, _⟩, hst⟩
    go_wp2
    go_end0
    exact ⟨rfl, rstep_after hkb hst⟩
  by_cases q6 : kind = 6
  · subst q6
    go_enter Try.func20, Try.ntmps20
    go_wp2_with fail
    refine (rCount_any _ a o c bs e0 N hn1 hn2 hR).mono ?_
    rintro e w1 ⟨rfl, hst⟩
    go_wp2
    go_end0
    exact ⟨rfl, rstep_after hkb hst⟩
  · go_enter Try.func20, Try.ntmps20
    go_wp2
    go_end0
    refine ⟨rfl, ?_⟩
    have e : OpV.rst ⟨kind, v, s, ol, cl, ss, N, M⟩ (bs, e0) = (bs, e0) := by simp [OpV.rst, q1, q2, q3, q4, q5, q6]
    rw [e]
    exact ⟨o, c, hR, SubO.refl _, hkb.mono (fun _ h => h.elim)⟩
end Go.Proofs.Ytclheacjhkoocaa

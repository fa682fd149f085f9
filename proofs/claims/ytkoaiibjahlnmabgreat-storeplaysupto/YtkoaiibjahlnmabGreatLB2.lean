import Derived.Test.YtkoaiibjahlnmabGreatLB1
/- Load, whatever comes. -/
namespace Go.Proofs.YtkoaiibjahlnmabGreat
open Go.RowKit Go.Maps Go.Sort Orl
set_option linter.unusedVariables false
set_option linter.unusedSimpArgs false

set_option maxRecDepth 10000 in
theorem load_bad (w : World) (ok : Option Addr) (nk ck : Nat) (ks : List KV) (ol : Option Addr) (nl cl : Nat) (ls : List Mk) (hnk : nk = ks.length) (hnl : nl = ls.length) (hlk : ks.length ≤ 1954687338211) (hll : ls.length ≤ 5864062014634) (hsk : Sl KE w ok ck ks) (hsl : Sl LE w ol cl ls) (hik : InK w ks) (hbad : okKept ks = false ∨ rising ltl ls = false) :
    Calls Tryz.prog 28 #[.slice ok nk ck, .slice ol nl cl] w fun e w' => e = .returned (.tuple #[.pointer none, .int .i64 1]) ∧ Keeps no w w' := by
  have h1 := areKept_any w ok nk ck ks hnk (by omega) hsk hik
  have h2 := fun X (hX : Keeps no w X) => risingL_any X ol nl cl ls hnl (by omega) (hsl.keepsN hX)
  have H2 : Hid (∀ X, Keeps no w X → Calls Tryz.prog 56 #[.slice ol nl cl, .func (.func 57) #[] #[]] X fun e w' => e = .returned (.bool (rising ltl ls)) ∧ Keeps no X w') := h2
  have HB : Hid (okKept ks = true → rising ltl ls = false) := fun h => by
    rcases hbad with hb | hb
    · rw [hb] at h; cases h
    · exact hb
  clear hbad h2 hnk hnl hlk hll hsk hsl hik
  cases e1 : okKept ks with
  | false =>
    rw [e1] at h1
    clear e1
    go_enter Tryz.func28, Tryz.ntmps28
    go_wp2_with fail
    refine h1.mono ?_
    rintro e w1 ⟨rfl, hk1⟩
    go_wp2_with fail
    go_ret2
    exact ⟨rfl, hk1⟩
  | true =>
    rw [HB.out e1] at H2
    rw [e1] at h1
    clear e1
    go_enter Tryz.func28, Tryz.ntmps28
    go_wp2_with fail
    refine h1.mono ?_
    rintro e w1 ⟨rfl, hk1⟩
    have K1 : Hid (Keeps no w w1) := hk1
    clear hk1
    go_wp2_with fail
    refine (H2.out _ K1.out).mono ?_
    rintro e w2 ⟨rfl, hk2⟩
    go_wp2_with fail
    go_ret2
    exact ⟨rfl, K1.out.trans hk2⟩
theorem load_any (w : World) (ok : Option Addr) (nk ck : Nat) (ks : List KV) (ol : Option Addr) (nl cl : Nat) (ls : List Mk) (hnk : nk = ks.length) (hnl : nl = ls.length) (hlk : ks.length ≤ 1954687338211) (hll : ls.length ≤ 5864062014634) (hsk : Sl KE w ok ck ks) (hsl : Sl LE w ol cl ls) (hik : InK w ks) (hil : ∀ l ∈ ls, KM.ok l) :
    Calls Tryz.prog 28 #[.slice ok nk ck, .slice ol nl cl] w fun e w' => (okLoad ks ls = true → ∃ p, e = .returned (.tuple #[.pointer (some ⟨p, 0, none⟩), .int .i64 0]) ∧ Ow w w' p (loadS ks ls) ks.length no) ∧ (okLoad ks ls = false → e = .returned (.tuple #[.pointer none, .int .i64 1]) ∧ Keeps no w w') := by
  by_cases hg : okKept ks = true ∧ rising ltl ls = true
  · refine (load_good w ok nk ck ks ol nl cl ls hnk hnl hlk hll hsk hsl hik hil hg.1 hg.2).mono ?_
    rintro e w' ⟨h1, h2⟩
    have e1 : okLoad ks ls = (fitsAll ks ls && hasAll ks ls) := by unfold okLoad; rw [hg.1, hg.2]; rfl
    rw [e1]
    refine ⟨fun h => h1 (by simpa using h), fun h => h2 (fun hc => ?_)⟩
    rw [hc.1, hc.2] at h
    cases h
  · have hb : okKept ks = false ∨ rising ltl ls = false := by
      cases h1 : okKept ks with
      | false => exact .inl rfl
      | true =>
        cases h2 : rising ltl ls with
        | false => exact .inr rfl
        | true => exact absurd ⟨h1, h2⟩ hg
    refine (load_bad w ok nk ck ks ol nl cl ls hnk hnl hlk hll hsk hsl hik hb).mono ?_
    rintro e w' ⟨he, hk⟩
    have e1 : okLoad ks ls = false := by
      unfold okLoad
      rcases hb with h | h <;> rw [h] <;> simp
    exact ⟨(fun h => by rw [e1] at h; cases h), fun _ => ⟨he, hk⟩⟩

/-! ### two stores -/
def Tw (w0 w : World) (p : Nat) (s : St) (N : Nat) (p' : Nat) (s' : St) (N' : Nat) (P : Nat → Prop) : Prop := ∃ T T', Ows w0 w p T s N ∧ Ows w0 w p' T' s' N' ∧ (∀ b, T b ≠ none → T' b = none) ∧ ∀ b, P b → T b = none ∧ T' b = none ∧ w0.heap.size ≤ b ∧ b < w.heap.size
section
variable {w0 w w' : World} {p : Nat} {s : St} {N : Nat} {p' : Nat} {s' : St} {N' : Nat} {P : Nat → Prop}
theorem Tw.swap (h : Tw w0 w p s N p' s' N' P) : Tw w0 w p' s' N' p s N P := by
  obtain ⟨T, T', h1, h2, h3, h4⟩ := h
  refine ⟨T', T, h2, h1, fun b hb => ?_, fun b hb => ⟨(h4 b hb).2.1, (h4 b hb).1, (h4 b hb).2.2⟩⟩
  cases e : T b with
  | none => rfl
  | some r => exact absurd (h3 b (by rw [e]; simp)) hb
theorem Tw.left (h : Tw w0 w p s N p' s' N' P) : ∃ P1, Ow w0 w p s N P1 ∧ (∀ b, P b → P1 b) ∧ ∀ w2 s2 N2, Ow w0 w2 p s2 N2 P1 → Keeps (fun b => ¬ P1 b) w w2 → Tw w0 w2 p s2 N2 p' s' N' P := by
  obtain ⟨T, T', h1, h2, h3, h4⟩ := h
  have hT' : ∀ b, T' b ≠ none → T b = none := fun b hb => by
    cases e : T b with
    | none => rfl
    | some r => exact absurd (h3 b (by rw [e]; simp)) hb
  refine ⟨fun b => P b ∨ T' b ≠ none, ⟨T, h1, fun b hb => ?_⟩, fun b hb => .inl hb, fun w2 s2 N2 ho hk => ?_⟩
  · rcases hb with hb | hb
    · exact ⟨(h4 b hb).1, (h4 b hb).2.2⟩
    · exact ⟨hT' b hb, h2.new b hb, h2.is.lt b hb⟩
  · obtain ⟨T2, o1, o2⟩ := ho
    refine ⟨T2, T', o1, ⟨h2.is.keeps hk (fun b hb hc => hc (.inr hb)), h2.ok, h2.new, o1.keep⟩, fun b hb => ?_, fun b hb => ⟨(o2 b (.inl hb)).1, (h4 b hb).2.1, (o2 b (.inl hb)).2⟩⟩
    cases e : T' b with
    | none => rfl
    | some r => exact absurd (o2 b (.inr (by rw [e]; simp))).1 hb
theorem Tw.go (h : Tw w0 w p s N p' s' N' P) (hk : Keeps no w w') : Tw w0 w' p s N p' s' N' P := by
  obtain ⟨T, T', h1, h2, h3, h4⟩ := h
  exact ⟨T, T', h1.go hk, h2.go hk, h3, fun b hb => ⟨(h4 b hb).1, (h4 b hb).2.1, (h4 b hb).2.2.1, Nat.lt_of_lt_of_le (h4 b hb).2.2.2 hk.size⟩⟩
theorem Tw.first (h : Tw w0 w p s N p' s' N' P) : Ow w0 w p s N P := by
  obtain ⟨T, T', h1, h2, h3, h4⟩ := h
  exact ⟨T, h1, fun b hb => ⟨(h4 b hb).1, (h4 b hb).2.2⟩⟩
/-- a second store, made behind the first -/
theorem Tw.made (h : Ow w0 w p s N P) (h' : Ow w w' p' s' N' no) : Tw w0 w' p s N p' s' N' P := by
  obtain ⟨T, h1, h2⟩ := h
  obtain ⟨T', h3, _⟩ := h'
  have hd : ∀ b, T' b ≠ none → T b = none := fun b hb => by
    cases e : T b with
    | none => rfl
    | some r =>
      have := h1.is.lt b (by rw [e]; simp)
      have := h3.new b hb
      omega
  refine ⟨T, T', h1.go h3.keep, ⟨h3.is, h3.ok, fun b hb => Nat.le_trans h1.keep.size (h3.new b hb), h1.keep.trans h3.keep⟩, fun b hb => ?_, fun b hb => ⟨(h2 b hb).1, ?_, (h2 b hb).2.1, Nat.lt_of_lt_of_le (h2 b hb).2.2 h3.keep.size⟩⟩
  · cases e : T' b with
    | none => rfl
    | some r => exact absurd (hd b (by rw [e]; simp)) hb
  · cases e : T' b with
    | none => rfl
    | some r =>
      have := h3.new b (by rw [e]; simp)
      have := (h2 b hb).2.2
      omega
theorem Tw.sub (h : Tw w0 w p s N p' s' N' P) {Q : Nat → Prop} (hQ : ∀ b, Q b → P b) : Tw w0 w p s N p' s' N' Q := by
  obtain ⟨T, T', h1, h2, h3, h4⟩ := h
  exact ⟨T, T', h1, h2, h3, fun b hb => h4 b (hQ b hb)⟩
theorem Tw.grow (h : Tw w0 w p s N p' s' N' P) (hk : Keeps no w w') : Tw w0 w' p s N p' s' N' (fun b => P b ∨ (w.heap.size ≤ b ∧ b < w'.heap.size)) := by
  obtain ⟨T, T', h1, h2, h3, h4⟩ := h
  refine ⟨T, T', h1.go hk, h2.go hk, h3, fun b hb => ?_⟩
  rcases hb with hb | ⟨hb1, hb2⟩
  · exact ⟨(h4 b hb).1, (h4 b hb).2.1, (h4 b hb).2.2.1, Nat.lt_of_lt_of_le (h4 b hb).2.2.2 hk.size⟩
  · refine ⟨?_, ?_, Nat.le_trans h1.keep.size hb1, hb2⟩
    · cases e : T b with
      | none => rfl
      | some r => have := h1.is.lt b (by rw [e]; simp); omega
    · cases e : T' b with
      | none => rfl
      | some r => have := h2.is.lt b (by rw [e]; simp); omega
theorem Tw.other (h : Tw w0 w p s N p' s' N' P) (hk : Keeps P w w') : Tw w0 w' p s N p' s' N' P := by
  obtain ⟨T, T', h1, h2, h3, h4⟩ := h
  refine ⟨T, T', ⟨h1.is.keeps hk (fun b hb hc => hb (h4 b hc).1), h1.ok, h1.new, h1.keep.then hk (fun b hb => .inr (h4 b hb).2.2.1)⟩, ⟨h2.is.keeps hk (fun b hb hc => hb (h4 b hc).2.1), h2.ok, h2.new, h2.keep.then hk (fun b hb => .inr (h4 b hb).2.2.1)⟩, h3, fun b hb => ⟨(h4 b hb).1, (h4 b hb).2.1, (h4 b hb).2.2.1, Nat.lt_of_lt_of_le (h4 b hb).2.2.2 hk.size⟩⟩
end
theorem Ow.lasts {w0 w : World} {p : Nat} {s : St} {N : Nat} {P : Nat → Prop} (h : Ow w0 w p s N P) (hN : N ≤ 1954687338211) :
    Calls Tryz.prog 29 #[.pointer (some ⟨p, 0, none⟩)] w fun e w' => ∃ v, e = .returned v ∧ ∃ ls, Gives LE w ls v w' ∧ Hid (IsLs s ls) ∧ Hid (ls.length ≤ N) := by
  obtain ⟨T, h, _⟩ := h
  exact lasts_any w p T s N h.is hN
end Go.Proofs.YtkoaiibjahlnmabGreat

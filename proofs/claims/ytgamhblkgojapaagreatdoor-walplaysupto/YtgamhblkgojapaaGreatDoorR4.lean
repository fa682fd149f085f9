import Derived.Test.YtgamhblkgojapaaGreatDoorR3
namespace Go.Proofs.YtgamhblkgojapaaGreatDoor
open Go.RowKit
open Pk
set_option linter.unusedVariables false
set_option linter.unusedSimpArgs false

set_option maxRecDepth 10000 in
theorem rCount_any (w : World) (a : Nat) (o : Option Addr) (c : Nat) (bs : List Nat) (e0 : Nat) (most : Int) (hm1 : -9223372036854775808 ≤ most) (hm2 : most ≤ 9223372036854775807) (h : IsR 148 w a o c bs e0) :
    Calls Tryz.prog 111 #[.pointer (some ⟨a, 0, none⟩), .int .i64 most] w fun e w' => e = .returned (.int .i64 ((rcount most (bs, e0)).1 : Nat)) ∧ RStep 148 w a o (rcount most (bs, e0)).2 w' := by
  have c0 : w.cell? ⟨a, 0, none⟩ = some (.slice o bs.length c) := cell_of_blk h.blk 0
  have c1 : w.cell? ⟨a, 1, none⟩ = some (.int .i64 (e0 : Nat)) := cell_of_blk h.blk 1
  have f0 : w.frozen? ⟨a, 0, none⟩ = false := frozen_of_blk h.blk 0
  have f1 : w.frozen? ⟨a, 1, none⟩ = false := frozen_of_blk h.blk 1
  have hlid := h.lid
  by_cases he : e0 = 0
  · subst he
    go_enter Tryz.func111, Tryz.ntmps111
    go_wp2_with fail
    refine (cutCount_any w o _ c bs most rfl h.sl hlid hm1 hm2).mono ?_
    rintro e w1 ⟨⟨m, rfl⟩, ⟨er, HE, her, her5, rfl⟩ | ⟨v, o', c', n', HE, hv, rfl, hn', hn5, hsl, hsub⟩⟩
    · have her' : ¬ ((er : Nat) : Int) = 0 := by omega
      go_wp2
      go_ret
      obtain ⟨h4, hk4⟩ := (h.drewN m).err er her5
      have er : rcount most (bs, 0) = (0, (bs, er)) := by simp [rcount, HE.out]; omega
      rw [er]
      exact ⟨rfl, o, c, h4, BSub.refl _, (keeps_drewN _ _ _).trans hk4⟩
    · go_wp2
      go_ret
      obtain ⟨hW, hK⟩ := (h.drewN m).put (hsl.drewN m) hsub (by have := hn'.out; omega) n' hn'.out
      have er : rcount most (bs, 0) = (v, (bs.drop 4, 0)) := by simp [rcount, HE.out]
      rw [er]
      exact ⟨rfl, o', c', hW, hsub, (keeps_drewN _ _ _).trans hK⟩
  · have he' : ¬ ((e0 : Nat) : Int) = 0 := by omega
    go_enter Tryz.func111, Tryz.ntmps111
    go_wp2
    go_ret
    have er : rcount most (bs, e0) = (0, (bs, e0)) := by simp [rcount, he]
    rw [er]
    exact ⟨rfl, o, c, h, BSub.refl _, Keeps.refl _ _⟩

theorem text_nil : text [] = ⟨#[]⟩ := rfl

set_option maxRecDepth 10000 in
theorem rText_any (w : World) (a : Nat) (o : Option Addr) (c : Nat) (bs : List Nat) (e0 : Nat) (most : Int) (hm1 : -9223372036854775808 ≤ most) (hm2 : most ≤ 9223372036854775807) (h : IsR 148 w a o c bs e0) :
    Calls Tryz.prog 112 #[.pointer (some ⟨a, 0, none⟩), .int .i64 most] w fun e w' => e = .returned (.string (text (rtext most (bs, e0)).1)) ∧ RStep 148 w a o (rtext most (bs, e0)).2 w' := by
  have c0 : w.cell? ⟨a, 0, none⟩ = some (.slice o bs.length c) := cell_of_blk h.blk 0
  have c1 : w.cell? ⟨a, 1, none⟩ = some (.int .i64 (e0 : Nat)) := cell_of_blk h.blk 1
  have f0 : w.frozen? ⟨a, 0, none⟩ = false := frozen_of_blk h.blk 0
  have f1 : w.frozen? ⟨a, 1, none⟩ = false := frozen_of_blk h.blk 1
  have hlid := h.lid
  by_cases he : e0 = 0
  · subst he
    go_enter Tryz.func112, Tryz.ntmps112
    go_wp2_with fail
    refine (cutText_any w o _ c bs most rfl h.sl hlid hm1 hm2).mono ?_
    rintro e w1 ⟨⟨m, rfl⟩, ⟨er, HE, her, her5, rfl⟩ | ⟨s, r, o1, c1, n1, o2, c2, n2, HE, rfl, hn1, hn2, hn25, hsl1, hsl2, hsub1, hsub2⟩⟩
    · have her' : ¬ ((er : Nat) : Int) = 0 := by omega
      go_wp2
      go_ret
      obtain ⟨h4, hk4⟩ := (h.drewN m).err er her5
      have er : rtext most (bs, 0) = ([], (bs, er)) := by simp [rtext, HE.out]; omega
      rw [er]
      exact ⟨rfl, o, c, h4, BSub.refl _, (keeps_drewN _ _ _).trans hk4⟩
    · obtain ⟨hW, hK⟩ := (h.drewN m).put (hsl2.drewN m) hsub2 (by have := hn2.out; omega) n2 hn2.out
      have hcv := run_text _ o1 s n1 c1 hn1.out ((hsl1.drewN m).keeps hK (fun k hk e => h.ap (e ▸ hsub1.in k hk))).row
      go_wp2
      go_ret
      have er : rtext most (bs, 0) = (s, (r, 0)) := by simp [rtext, HE.out]
      rw [er]
      exact ⟨rfl, o2, c2, hW, hsub2, (keeps_drewN _ _ _).trans hK⟩
  · have he' : ¬ ((e0 : Nat) : Int) = 0 := by omega
    go_enter Tryz.func112, Tryz.ntmps112
    go_wp2
    go_ret
    have er : rtext most (bs, e0) = ([], (bs, e0)) := by simp [rtext, he]
    rw [er]
    exact ⟨rfl, o, c, h, BSub.refl _, Keeps.refl _ _⟩

/-- a list of texts told, in new memory -/
def TellsS (w : World) (ls : List (List Nat)) (e : Ending) (w' : World) : Prop :=
  ∃ o1 c1 n1, e = .returned (.slice o1 n1 c1) ∧ Hid (n1 = ls.length) ∧ n1 ≤ 4294967296 ∧ OwnsS w' o1 c1 (ls.map text) ∧ (∀ k, inO o1 k → w.heap.size ≤ k) ∧ Hid (∀ s ∈ ls, ∀ c ∈ s, c < 256)

set_option maxRecDepth 10000 in
theorem rTexts_any (w : World) (a : Nat) (o : Option Addr) (c : Nat) (bs : List Nat) (e0 : Nat) (count most : Int) (hc1 : -9223372036854775808 ≤ count) (hc2 : count ≤ 9223372036854775807) (hm1 : -9223372036854775808 ≤ most) (hm2 : most ≤ 9223372036854775807) (h : IsR 148 w a o c bs e0) :
    Calls Tryz.prog 97 #[.pointer (some ⟨a, 0, none⟩), .int .i64 count, .int .i64 most] w fun e w' => TellsS w (rtexts count most (bs, e0)).1 e w' ∧ RStep 148 w a o (rtexts count most (bs, e0)).2 w' := by
  have c0 : w.cell? ⟨a, 0, none⟩ = some (.slice o bs.length c) := cell_of_blk h.blk 0
  have c1 : w.cell? ⟨a, 1, none⟩ = some (.int .i64 (e0 : Nat)) := cell_of_blk h.blk 1
  have hlid := h.lid
  by_cases he : e0 = 0
  · subst he
    go_enter Tryz.func97, Tryz.ntmps97
    go_wp2_with fail
    refine (cutTexts_any w o _ c bs count most rfl h.sl hlid h.live hc1 hc2 hm1 hm2).mono ?_
    rintro e w1 ⟨hk1, ⟨er, HE, her, her5, rfl⟩ | ⟨ls, r, o1, c1, n1, o2, c2, n2, HE, rfl, hn1, hn2, hn15, hn25, hown, hnew, hsl2, hsub2, HB⟩⟩
    · have her' : ¬ ((er : Nat) : Int) = 0 := by omega
      have h1 := h.keeps hk1 (fun _ _ h => h)
      obtain ⟨h4, hk4⟩ := h1.err er her5
      have f1 : w1.frozen? ⟨a, 1, none⟩ = false := frozen_of_blk h1.blk 1
      have c1 : w1.cell? ⟨a, 1, none⟩ = some (.int .i64 0) := cell_of_blk h1.blk 1
      go_wp2
      go_ret
      have er : rtexts count most (bs, 0) = ([], (bs, er)) := by simp [rtexts, HE.out]; omega
      rw [er]
      exact ⟨⟨none, 0, 0, rfl, rfl, by omega, ownsS_nil _, fun k ⟨x, h, _⟩ => (by cases h), fun s hs => (by cases hs)⟩, o, c, h4, BSub.refl _, (hk1.mono (fun _ h => h.elim)).trans hk4⟩
    · have h1 := h.keeps hk1 (fun _ _ h => h)
      have f0 : w1.frozen? ⟨a, 0, none⟩ = false := frozen_of_blk h1.blk 0
      have c00 : w1.cell? ⟨a, 0, none⟩ = some (.slice o bs.length c) := cell_of_blk h1.blk 0
      obtain ⟨hW, hK⟩ := h1.put hsl2 hsub2 (by have := hn2.out; omega) n2 hn2.out
      go_wp2
      go_ret
      have er : rtexts count most (bs, 0) = (ls, (r, 0)) := by simp [rtexts, HE.out]
      rw [er]
      refine ⟨⟨o1, c1, n1, rfl, hn1, hn15, hown.keeps hK (fun k hk e => ?_), hnew, HB⟩, o2, c2, hW, hsub2, (hk1.mono (fun _ h => h.elim)).trans hK⟩
      have := hnew k hk
      have := lt_of_block h.blk
      omega
  · have he' : ¬ ((e0 : Nat) : Int) = 0 := by omega
    go_enter Tryz.func97, Tryz.ntmps97
    go_wp2
    go_ret
    have er : rtexts count most (bs, e0) = ([], (bs, e0)) := by simp [rtexts, he]
    rw [er]
    exact ⟨⟨none, 0, 0, rfl, rfl, by omega, ownsS_nil _, fun k ⟨x, h, _⟩ => (by cases h), fun s hs => (by cases hs)⟩, o, c, h, BSub.refl _, Keeps.refl _ _⟩
end Go.Proofs.YtgamhblkgojapaaGreatDoor

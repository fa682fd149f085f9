import Derived.Test.YtclheacjhkoocaaF3
namespace Go.Proofs.Ytclheacjhkoocaa
open Go.RowKit
open Pk
set_option linter.unusedVariables false
set_option linter.unusedSimpArgs false

theorem cut_lh (w0 : World) (o : Option Addr) (c : Nat) (bs : List Nat) (n I J : Nat) (i j : Int) (hi : i = (I : Nat)) (hj : j = ((I + J : Nat) : Int)) (hn : n = bs.length) (hI : I + J ≤ n) (h : Sl w0 o c bs) :
    ∃ A d, (∀ w, (Instr.slice 23 (.slice o n c) (some (.int .i64 i)) (some (.int .i64 j)) none).run Try.prog w = .ok (.slice A J d) w) ∧ Sl w0 A d ((bs.drop I).take J) ∧ SubO o A := by
  subst hi hj hn
  have hcap := h.cap
  match o, h with
  | none, h =>
    obtain rfl : c = 0 := h.nil rfl
    obtain ⟨rfl, rfl⟩ : I = 0 ∧ J = 0 := by omega
    have h0 : bs = [] := List.length_eq_zero_iff.mp (by omega)
    subst h0
    refine ⟨none, 0, fun w => ?_, ⟨h.row.take 0, by simp, fun _ => rfl⟩, SubO.refl _⟩
    rw [run_slice_lh w 23 none _ 0 sl23 .i64 .i64 _ _ (by omega) (by omega) (by omega)]
    go_simp
  | some ad, h =>
    refine ⟨some (if c = I then ad else ad.add I), c - I, fun w => ?_, ⟨(Row.drop h.row I (fun hlt b off e => ?_)).take J, by rw [List.length_take, List.length_drop]; omega, by simp⟩, ?_⟩
    · rw [run_slice_lh w 23 (some ad) _ c sl23 .i64 .i64 _ _ (by omega) (by omega) (by omega)]
      have e : ((I : Int) + (J : Int)).toNat - I = J := by omega
      by_cases h : c = I
      · go_simp
      · go_simp
    · cases e
      rw [if_neg (by omega), addr_add]
    · intro x hx
      refine ⟨ad, rfl, ?_⟩
      cases hx
      split
      · rfl
      · obtain ⟨b, off, sp⟩ := ad
        simp [Addr.add]
        split <;> rfl

/-- what text tells -/
def RTxtTo (w : World) (o : Option Addr) (bs : List Nat) (most : Int) (e : Ending) (w' : World) : Prop :=
  (∃ m, w' = w.drewN m) ∧
  ((∃ er vr, Hid (ctext bs most = ([], bs, er)) ∧ 0 < er ∧ er ≤ 5 ∧ e = .returned (.tuple #[.string ⟨#[]⟩, vr, .int .i64 (er : Nat)])) ∨
   (∃ s r o2 c2 n2, Hid (ctext bs most = (s, r, 0)) ∧ e = .returned (.tuple #[.string (text s), .slice o2 n2 c2, .int .i64 0]) ∧ Hid (n2 = r.length) ∧ n2 ≤ 140737488355328 ∧ Sl w o2 c2 r ∧ SubO o o2 ∧ Hid (∀ c ∈ s, c < 256)))

set_option maxRecDepth 10000 in
theorem refRtext_any (w : World) (o : Option Addr) (n c : Nat) (bs : List Nat) (most : Int) (hn : n = bs.length) (h : Sl w o c bs) (hlid : bs.length ≤ 140737488355328) (hm1 : -9223372036854775808 ≤ most) (hm2 : most ≤ 9223372036854775807) :
    Calls Try.prog 71 #[.slice o n c, .int .i64 most] w (RTxtTo w o bs most) := by
  have HN : Hid (n = bs.length) := hn
  have hn5 : n ≤ 140737488355328 := by omega
  clear hn
  go_enter Try.func71, Try.ntmps71
  go_wp2_with fail
  refine (refCount_any w o n c bs most HN.out h hlid hm1 hm2).mono ?_
  rintro e w1 ⟨rfl, ⟨er, HE, her, her5, rfl⟩ | ⟨v, HE, hv, h4, rfl⟩⟩
  · have her' : ¬ ((er : Nat) : Int) = 0 := by omega
    go_wp2
    go_ret3
    exact ⟨⟨0, rfl⟩, .inl ⟨er, _, by show _ = _; simp [ctext, HE.out]; omega, her, her5, rfl⟩⟩
  · have h4n : 4 ≤ n := by have := HN.out; omega
    by_cases hlt : n - 4 < v
    · have hlt' : (n : Int) - 4 < v := by omega
      go_wp2
      go_ret3
      exact ⟨⟨0, rfl⟩, .inl ⟨4, _, by show _ = _; have := HN.out; simp [ctext, HE.out]; omega, by omega, by omega, rfl⟩⟩
    · have hlt' : ¬ (n : Int) - 4 < v := by omega
      obtain ⟨A, d, hcut, hsl1, hsub1⟩ := cut_lh w1 o c bs n 4 v 4 (4 + (v : Int)) rfl (by omega) HN.out (by omega) h
      obtain ⟨A', d', hcut', hsl', hsub'⟩ := cut_l w1 o c bs n (4 + v) (4 + (v : Int)) (by omega) HN.out (by omega) h
      have HL1 : Hid (v = ((bs.drop 4).take v).length) := by have := HN.out; show _ = _; rw [List.length_take, List.length_drop]; omega
      have hcv : ∀ q, (convert 23 9 (.slice A v d)).run Try.prog (w1.drewN q) = .ok (.string (text ((bs.drop 4).take v))) (w1.drewN q) := fun q => run_text _ A _ v d HL1.out (hsl1.drewN q).row
      have HB : Hid (∀ c ∈ (bs.drop 4).take v, c < 256) := hsl1.row.1
      obtain ⟨S, hS⟩ : ∃ S, S = (bs.drop 4).take v := ⟨_, rfl⟩
      rw [← hS] at hcv
      have HS : Hid (S = (bs.drop 4).take v) := hS
      clear hS
      go_wp2
      go_quiet (fail)
      go_wp2
      go_ret3
      refine ⟨⟨_, rfl⟩, .inr ⟨(bs.drop 4).take v, bs.drop (4 + v), A', d', n - (4 + v), ?_, by rw [← HS.out]; rfl, ?_, by omega, hsl', hsub', HB⟩⟩
      · have := HN.out
        show _ = _
        unfold ctext
        rw [HE.out]
        simp
        omega
      · show _ = _; rw [List.length_drop, HN.out]

set_option maxRecDepth 10000 in
theorem refRCount_any (w : World) (a : Nat) (o : Option Addr) (c : Nat) (bs : List Nat) (e0 : Nat) (most : Int) (hm1 : -9223372036854775808 ≤ most) (hm2 : most ≤ 9223372036854775807) (h : IsR 87 w a o c bs e0) :
    Calls Try.prog 61 #[.pointer (some ⟨a, 0, none⟩), .int .i64 most] w fun e w' => e = .returned (.int .i64 ((rcount most (bs, e0)).1 : Nat)) ∧ RStep 87 w a o (rcount most (bs, e0)).2 w' := by
  have c0 : w.cell? ⟨a, 0, none⟩ = some (.slice o bs.length c) := cell_of_blk h.blk 0
  have c1 : w.cell? ⟨a, 1, none⟩ = some (.int .i64 (e0 : Nat)) := cell_of_blk h.blk 1
  have f0 : w.frozen? ⟨a, 0, none⟩ = false := frozen_of_blk h.blk 0
  have f1 : w.frozen? ⟨a, 1, none⟩ = false := frozen_of_blk h.blk 1
  have hlid := h.lid
  by_cases he : e0 = 0
  · subst he
    go_enter Try.func61, Try.ntmps61
    go_wp2_with fail
    refine (refCount_any w o _ c bs most rfl h.sl hlid hm1 hm2).mono ?_
    rintro e w1 ⟨rfl, ⟨er, HE, her, her5, rfl⟩ | ⟨v, HE, hv, h4, rfl⟩⟩
    · have her' : ¬ ((er : Nat) : Int) = 0 := by omega
      go_wp2
      go_ret
      obtain ⟨h4, hk4⟩ := h.err er her5
      have er : rcount most (bs, 0) = (0, (bs, er)) := by simp [rcount, HE.out]; omega
      rw [er]
      exact ⟨rfl, o, c, h4, SubO.refl _, hk4⟩
    · obtain ⟨A', d', hcut', hsl', hsub'⟩ := cut_l w1 o c bs bs.length 4 4 rfl rfl h4 h.sl
      go_wp2
      go_ret
      obtain ⟨hW, hK⟩ := h.put hsl' hsub' (by rw [List.length_drop]; omega) (bs.length - 4) (by rw [List.length_drop])
      have er : rcount most (bs, 0) = (v, (bs.drop 4, 0)) := by simp [rcount, HE.out]
      rw [er]
      exact ⟨rfl, A', d', hW, hsub', hK⟩
  · have he' : ¬ ((e0 : Nat) : Int) = 0 := by omega
    go_enter Try.func61, Try.ntmps61
    go_wp2
    go_ret
    have er : rcount most (bs, e0) = (0, (bs, e0)) := by simp [rcount, he]
    rw [er]
    exact ⟨rfl, o, c, h, SubO.refl _, Keeps.refl _ _⟩

set_option maxRecDepth 10000 in
theorem refRText_any (w : World) (a : Nat) (o : Option Addr) (c : Nat) (bs : List Nat) (e0 : Nat) (most : Int) (hm1 : -9223372036854775808 ≤ most) (hm2 : most ≤ 9223372036854775807) (h : IsR 87 w a o c bs e0) :
    Calls Try.prog 59 #[.pointer (some ⟨a, 0, none⟩), .int .i64 most] w fun e w' => e = .returned (.string (text (rtext most (bs, e0)).1)) ∧ RStep 87 w a o (rtext most (bs, e0)).2 w' := by
  have c0 : w.cell? ⟨a, 0, none⟩ = some (.slice o bs.length c) := cell_of_blk h.blk 0
  have c1 : w.cell? ⟨a, 1, none⟩ = some (.int .i64 (e0 : Nat)) := cell_of_blk h.blk 1
  have f0 : w.frozen? ⟨a, 0, none⟩ = false := frozen_of_blk h.blk 0
  have f1 : w.frozen? ⟨a, 1, none⟩ = false := frozen_of_blk h.blk 1
  have hlid := h.lid
  by_cases he : e0 = 0
  · subst he
    go_enter Try.func59, Try.ntmps59
    go_wp2_with fail
    refine (refRtext_any w o _ c bs most rfl h.sl hlid hm1 hm2).mono ?_
    rintro e w1 ⟨⟨m, rfl⟩, ⟨er, vr, HE, her, her5, rfl⟩ | ⟨s, r, o2, c2, n2, HE, rfl, hn2, hn25, hsl2, hsub2, HB⟩⟩
    · have her' : ¬ ((er : Nat) : Int) = 0 := by omega
      go_wp2
      go_ret
      obtain ⟨h4, hk4⟩ := (h.drewN m).err er her5
      have er : rtext most (bs, 0) = ([], (bs, er)) := by simp [rtext, HE.out]; omega
      rw [er]
      exact ⟨rfl, o, c, h4, SubO.refl _, (keeps_drewN _ _ _).trans hk4⟩
    · obtain ⟨hW, hK⟩ := (h.drewN m).put (hsl2.drewN m) hsub2 (by have := hn2.out; omega) n2 hn2.out
      go_wp2
      go_ret
      have er : rtext most (bs, 0) = (s, (r, 0)) := by simp [rtext, HE.out]
      rw [er]
      exact ⟨rfl, o2, c2, hW, hsub2, (keeps_drewN _ _ _).trans hK⟩
  · have he' : ¬ ((e0 : Nat) : Int) = 0 := by omega
    go_enter Try.func59, Try.ntmps59
    go_wp2
    go_ret
    have er : rtext most (bs, e0) = ([], (bs, e0)) := by simp [rtext, he]
    rw [er]
    exact ⟨rfl, o, c, h, SubO.refl _, Keeps.refl _ _⟩

set_option maxRecDepth 10000 in
set_option maxHeartbeats 400000 in
theorem refRTexts_any (w : World) (a : Nat) (o : Option Addr) (c : Nat) (bs : List Nat) (e0 : Nat) (count most : Int) (hc1 : -9223372036854775808 ≤ count) (hc2 : count ≤ 9223372036854775807) (hm1 : -9223372036854775808 ≤ most) (hm2 : most ≤ 9223372036854775807) (h : IsR 87 w a o c bs e0) :
    Calls Try.prog 60 #[.pointer (some ⟨a, 0, none⟩), .int .i64 count, .int .i64 most] w fun e w' => TellsS w (rtexts count most (bs, e0)).1 e w' ∧ RStep 87 w a o (rtexts count most (bs, e0)).2 w' := by
  have c0 : w.cell? ⟨a, 0, none⟩ = some (.slice o bs.length c) := cell_of_blk h.blk 0
  have c1 : w.cell? ⟨a, 1, none⟩ = some (.int .i64 (e0 : Nat)) := cell_of_blk h.blk 1
  have f1 : w.frozen? ⟨a, 1, none⟩ = false := frozen_of_blk h.blk 1
  have hlid := h.lid
  by_cases he : e0 = 0
  · subst he
    go_enter Try.func60, Try.ntmps60
    go_wp2_with fail
    refine (refCount_any w o _ c bs count rfl h.sl hlid hc1 hc2).mono ?_
    rintro e w1 ⟨rfl, ⟨er, HE, her, her5, rfl⟩ | ⟨v, HE, hv, h4, rfl⟩⟩
    · have her' : ¬ ((er : Nat) : Int) = 0 := by omega
      obtain ⟨h4, hk4⟩ := h.err er her5
      go_wp2
      go_ret
      have hne : er ≠ 0 := by omega
      have er : rtexts count most (bs, 0) = ([], (bs, er)) := by simp [rtexts, ctexts, HE.out, hne]
      rw [er]
      exact ⟨⟨none, 0, 0, rfl, rfl, by omega, ownsS_nil _, fun k ⟨x, h, _⟩ => (by cases h), fun s hs => (by cases hs)⟩, o, c, h4, SubO.refl _, hk4⟩
    · obtain ⟨A', d', hcut', hsl', hsub'⟩ := cut_l w1 o c bs bs.length 4 4 rfl rfl h4 h.sl
      have HSL : Hid (Sl w1 A' d' (bs.drop 4)) := hsl'
      clear hsl'
      go_wp2_with fail
      go_loopw [9, 10, 11] (fun r l i wr => ∃ (k : Nat) (ls : List (List Nat)) (rs : List Nat) (oR : Option Addr) (cR nR : Nat) (oL : Option Addr) (cL : Nat), k ≤ v ∧ i = .int .i64 k ∧ r = .slice oR nR cR ∧ l = .slice oL k cL ∧ k = ls.length ∧ nR = rs.length ∧ nR ≤ 140737488355328 ∧ ctextsN k (bs.drop 4) most = (ls, rs, 0) ∧ Keeps (fun _ => False) w1 wr ∧ Sl wr oR cR rs ∧ SubO o oR ∧ OwnsS wr oL cL (ls.map text) ∧ (∀ x, inO oL x → w1.heap.size ≤ x) ∧ (∀ s ∈ ls, ∀ c ∈ s, c < 256)) (fun _ _ i _ => v - (intOf i).toNat)
      case atStart => exact ⟨0, [], bs.drop 4, A', d', bs.length - 4, none, 0, by omega, rfl, rfl, rfl, rfl, by rw [List.length_drop], by omega, rfl, Keeps.refl _ _, HSL.out, hsub', ownsS_nil _, fun x ⟨y, h, _⟩ => (by cases h), fun s hs => (by cases hs)⟩
      case round =>
        obtain ⟨k, ls, rs, oR, cR, nR, oL, cL, hk, rfl, rfl, rfl, hkl, hnr, hnr5, hct, hK, hslr, hsubr, hown, hnew, hby⟩ := hrel
        have HKL : Hid (k = ls.length) := hkl
        have HNR : Hid (nR = rs.length) := hnr
        have HCT : Hid (ctextsN k (bs.drop 4) most = (ls, rs, 0)) := hct
        have HBY : Hid (∀ s ∈ ls, ∀ c ∈ s, c < 256) := hby
        have hr := h.keeps hK (fun _ _ h => h)
        clear hkl hnr hct hby
        by_cases h2 : k < v
        · go_wp2_with fail
          refine (refRtext_any wr oR nR cR rs most HNR.out hslr (by have := HNR.out; omega) hm1 hm2).mono ?_
          rintro e w2 ⟨⟨m2, rfl⟩, ⟨er, vr, HE2, her, her5, rfl⟩ | ⟨s, r, o2, c2, n2, HE2, rfl, hn2, hn25, hsl2, hsub2, HB⟩⟩
          · have her' : ¬ ((er : Nat) : Int) = 0 := by omega
            obtain ⟨h4, hk4⟩ := (hr.drewN m2).err er her5
            have f1 : wr.frozen? ⟨a, 1, none⟩ = false := frozen_of_blk hr.blk 1
            have c1 : wr.cell? ⟨a, 1, none⟩ = some (.int .i64 0) := cell_of_blk hr.blk 1
            go_wp2
            go_ret
            have er : rtexts count most (bs, 0) = ([], (bs, er)) := by
              unfold rtexts ctexts
              have hne : er ≠ 0 := by omega
              simp [HE.out, ctextsN_err most k v h2 _ _ _ er hne HCT.out HE2.out, hne]
            rw [er]
            exact ⟨⟨none, 0, 0, rfl, rfl, by omega, ownsS_nil _, fun k ⟨x, h, _⟩ => (by cases h), fun s hs => (by cases hs)⟩, o, c, h4, SubO.refl _, (hK.mono (fun _ h => h.elim)).trans ((keeps_drewN _ _ _).trans hk4)⟩
          · have hrs : RowS ((wr.drewN m2).alloc (.cells #[.string (text s)] 9)) (some ⟨wr.heap.size, 0, none⟩) [text s] := by
              refine .inr ⟨_, _, rfl, fun j hj => ?_⟩
              show World.cell? _ ⟨(wr.drewN m2).heap.size, 0 + j, none⟩ = _
              rw [cell_of_blk (blk_new (wr.drewN m2) _)]
              match j, hj with
              | 0, _ => rfl
            have hown2 : OwnsS ((wr.drewN m2).alloc (.cells #[.string (text s)] 9)) oL cL (ls.map text) := (hown.keeps (keeps_drewN (fun _ => False) _ m2) (fun _ _ h => h)).alloc _
            go_wp2_with (at_builtin; go_must (refine wpList_appL rfl _ _ rfl oL _ cL (ls.map text) (by rfl) (by rw [List.length_map]; exact HKL.out) hown2 (some ⟨wr.heap.size, 0, none⟩) 1 1 [text s] (by rfl) rfl (by simp) hrs (by omega) ?_); rintro o3 c3 w3 hown3 hfr3 hk3)
            go_roundw
            case rel =>
              have hK3 : Keeps (fun _ => False) w1 w3 := ((hK.trans (keeps_drewN _ _ m2)).alloc _).then hk3 (fun i hi => .inr (hnew i hi))
              have hk3' : Keeps (fun k => w1.heap.size ≤ k ∧ inO oL k) wr w3 := (((keeps_drewN _ wr m2)).alloc _).then hk3 (fun i hi => .inl ⟨hnew i hi, hi⟩)
              refine ⟨k + 1, ls ++ [s], r, o2, c2, n2, o3, c3, by omega, by go_num, rfl, rfl, by rw [List.length_append, ← HKL.out]; rfl, hn2.out, hn25, ctextsN_snoc most k _ ls rs s r HCT.out HE2.out, hK3, ?_, hsubr.trans hsub2, ?_, ?_, ?_⟩
              · refine hsl2.keeps hk3' (fun x hx hh => ?_)
                have := h.live x ((hsubr.trans hsub2).in x hx)
                omega
              · rw [List.map_append]; exact hown3
              · intro x hx
                rcases hfr3.in x hx with h' | h'
                · exact hnew x h'
                · have := hK.size; simp at h'; omega
              · intro s' hs'
                rcases List.mem_append.mp hs' with h' | h'
                · exact HBY.out s' h'
                · simp at h'; rw [h']; exact HB.out
            case measure => simp [intOf]; omega
        · have f0 : wr.frozen? ⟨a, 0, none⟩ = false := frozen_of_blk hr.blk 0
          have c00 : wr.cell? ⟨a, 0, none⟩ = some (.slice o bs.length c) := cell_of_blk hr.blk 0
          obtain ⟨hW, hKK⟩ := hr.put hslr hsubr (by have := HNR.out; omega) nR HNR.out
          go_wp2
          go_ret
          obtain rfl : k = v := by omega
          have er : rtexts count most (bs, 0) = (ls, (rs, 0)) := by
            unfold rtexts ctexts
            simp [HE.out, HCT.out]
          rw [er]
          refine ⟨⟨oL, cL, k, rfl, HKL.out, by omega, hown.keeps hKK (fun x hx e => ?_), hnew, HBY.out⟩, oR, cR, hW, hsubr, (hK.mono (fun _ h => h.elim)).trans hKK⟩
          have := hnew x hx
          have := lt_of_block h.blk
          omega
  · have he' : ¬ ((e0 : Nat) : Int) = 0 := by omega
    go_enter Try.func60, Try.ntmps60
    go_wp2
    go_ret
    have er : rtexts count most (bs, e0) = ([], (bs, e0)) := by simp [rtexts, he]
    rw [er]
    exact ⟨⟨none, 0, 0, rfl, rfl, by omega, ownsS_nil _, fun k ⟨x, h, _⟩ => (by cases h), fun s hs => (by cases hs)⟩, o, c, h, SubO.refl _, Keeps.refl _ _⟩
end Go.Proofs.Ytclheacjhkoocaa

import Derived.Test.YtagekdmkidbhpaaGreatB1
import Derived.Test.YtagekdmkidbhpaaGreatKD
import Derived.Test.YtagekdmkidbhpaaGreatTw
/- RetainSteps. -/
namespace Go.Proofs.YtagekdmkidbhpaaGreat
open Go.RowKit Go.Maps Go.Sort Orl
set_option linter.unusedVariables false
set_option linter.unusedSimpArgs false

/-! ### in pure functions -/
theorem dueB_mono {s : St} {a b : Int} (h : a ≤ b) {m : Mk} (hm : dueB s a m = true) : dueB s b m = true := by
  obtain ⟨v, h1, h2, h3⟩ := dueB_iff.1 hm
  exact dueB_iff.2 ⟨v, h1, h2, by omega⟩
theorem dueB_cut {s : St} {D : Mk → Bool} {t : Int} {m : Mk} : dueB (cutS s D) t m = (!D m && dueB s t m) := by
  unfold dueB cutS
  simp only
  cases D m <;> simp
theorem cut_cut {s : St} {D E : Mk → Bool} : cutS (cutS s D) E = cutS s (fun m => D m || E m) := by
  unfold cutS
  congr 1
  funext m
  cases hd : D m <;> cases he : E m <;> simp [hd, he]
structure Gn (s : St) (now t hold : Int) (A : St) (g : Nat) : Prop where
  ex : ∃ (D : Mk → Bool) (ds : List Mk), A = cutS s D ∧ ds.Nodup ∧ (∀ m, m ∈ ds ↔ D m = true) ∧ g = ds.length ∧ (∀ m, D m = true → dueB s (t - 1 - hold) m = true) ∧ (t = now ∨ ∀ m, D m = dueB s (t - 1 - hold) m)
theorem gn_start (s : St) (now hold : Int) : Gn s now now hold s 0 := ⟨fun _ => false, [], by cases s; rfl, List.nodup_nil, by simp, rfl, (fun m h => by cases h), .inl rfl⟩
theorem IsDue.nodup {s : St} {t : Int} {ds : List Mk} (h : IsDue s t ds) : ds.Nodup := inc_nodup swoM h.inc
theorem Gn.step {s : St} {now t hold : Int} {A : St} {g : Nat} (h : Gn s now t hold A g) {l : List Mk} (hl : IsDue A (t - hold) l) : Gn s now (t + 1) hold (collS A (t - hold)) (g + l.length) := by
  obtain ⟨D, ds, rfl, hn, hm, hg, hd, ho⟩ := h.ex
  have hD : ∀ m, (D m || dueB (cutS s D) (t - hold) m) = dueB s (t - hold) m := fun m => by
    rw [dueB_cut]
    cases e : D m with
    | false => simp
    | true => rw [dueB_mono (by omega) (hd m e)]; simp
  have et : t + 1 - 1 - hold = t - hold := by omega
  refine ⟨dueB s (t - hold), ds ++ l, ?_, ?_, fun m => ?_, by rw [List.length_append, hg], fun m h => by rw [et]; exact h, .inr fun m => by rw [et]⟩
  · unfold collS
    rw [cut_cut]
    exact cutS_congr hD
  · refine List.nodup_append.2 ⟨hn, hl.nodup, fun a ha b hb => ?_⟩
    rintro rfl
    have h1 := (hm a).1 ha
    have h2 := (hl.is a).1 hb
    rw [dueB_cut, h1] at h2
    cases h2
  · rw [List.mem_append, hm, hl.is, ← hD m, Bool.or_eq_true]
theorem Gn.done {s : St} {now t hold : Int} {A : St} {g : Nat} (h : Gn s now t hold A g) (hne : t ≠ now) {l : List Mk} (hl : IsDue s (t - 1 - hold) l) : A = collS s (t - 1 - hold) ∧ g = l.length := by
  obtain ⟨D, ds, rfl, hn, hm, hg, hd, ho⟩ := h.ex
  rcases ho with ho | ho
  · exact absurd ho hne
  · refine ⟨cutS_congr ho, ?_⟩
    have h1 := nodup_le hn (U := l) (fun m h => (hl.is m).2 (by rw [← ho]; exact (hm m).1 h))
    have h2 := nodup_le hl.nodup (U := ds) (fun m h => (hm m).2 (by rw [ho]; exact (hl.is m).1 h))
    omega
theorem supp_gn {s : St} {now t hold : Int} {A : St} {g : Nat} (h : Gn s now t hold A g) (hs : Supp s) : Supp A ∧ g ≤ 384 := by
  obtain ⟨D, ds, rfl, hn, hm, hg, hd, ho⟩ := h.ex
  refine ⟨supp_cut hs D, ?_⟩
  have := nodup_le hn (U := Um) (fun m h => by
    obtain ⟨v, hv, _⟩ := dueB_iff.1 (hd m ((hm m).1 h))
    exact hs m (by rw [hv]; simp))
  rw [Um_len] at this
  omega
theorem and15 (b : Nat) (hb : b < 256) : bits .and .u8 (b : Int) 15 = ((b % 16 : Nat) : Int) := by
  have := u8_and_nat b 15 hb (by decide)
  rw [show b &&& 15 = b % 16 from Nat.and_two_pow_sub_one_eq_mod _ 4] at this
  exact this
theorem and63 (b : Nat) (hb : b < 256) : bits .and .u8 (b : Int) 63 = ((b % 64 : Nat) : Int) := by
  have := u8_and_nat b 63 hb (by decide)
  rw [show b &&& 63 = b % 64 from Nat.and_two_pow_sub_one_eq_mod _ 6] at this
  exact this
theorem Tw.collect {w0 w : World} {p : Nat} {s : St} {p' : Nat} {s' : St} {N' : Nat} {P : Nat → Prop} (h : Tw w0 w p s 384 p' s' N' P) (now ret : Int) (ht : tickB now = true) (hr : retB ret = true) :
    Calls Tryz.prog 8 #[.pointer (some ⟨p, 0, none⟩), .int .i64 now, .int .i64 ret] w fun e w' => ∃ o n c, e = .returned (.tuple #[.slice o n c, .int .i64 0]) ∧ Hid (∃ ds, n = ds.length ∧ IsDue s (now - ret) ds ∧ ds.length ≤ 384) ∧ Hid (Tw w0 w' p (collS s (now - ret)) 384 p' s' N' P) := by
  obtain ⟨P1, h1, h2, h3⟩ := h.left
  refine (h1.collect now ret ht hr (by omega)).mono ?_
  rintro e w' ⟨v, rfl, o, n, c, ds, rfl, hn, hd, his⟩
  exact ⟨o, n, c, rfl, ⟨ds, hn.out, his.out.1, his.out.2⟩, h3 _ _ _ (hd.out.2.2.1.sub fun b hb => .inl hb) hd.out.2.2.2⟩
set_option maxRecDepth 10000 in
set_option maxHeartbeats 2000000 in
theorem steps_any (w : World) (o : Option Addr) (n c : Nat) (xs : List OV) (hn : n = xs.length) (hl : xs.length ≤ 1048576) (hs : Sl OE w o c xs) (hok : ∀ x ∈ xs, OkO x) (more keep : Nat) (hm : more < 256) (hk : keep < 256) :
    Calls Tryz.prog 3 #[.slice o n c, .int .u8 ((more : Nat) : Int), .int .u8 ((keep : Nat) : Int)] w fun e w' => e = .returned (.bool true) ∧ Keeps no w w' := by
  have hal := alive_any w
  have HA : Hid (n = xs.length ∧ xs.length ≤ 7036874417766 ∧ Sl OE w o c xs ∧ ∀ x ∈ xs, OkO x) := ⟨hn, by omega, hs, hok⟩
  have hnb : (n : Int) ≤ 1048576 := by omega
  have h15 := and15 keep hk
  have h63 := and63 more hm
  obtain ⟨hold, hh⟩ : ∃ hold : Int, hold = ((keep % 16 : Nat) : Int) := ⟨_, rfl⟩
  obtain ⟨mo, hmo⟩ : ∃ mo : Int, mo = ((more % 64 : Nat) : Int) := ⟨_, rfl⟩
  rw [← hh] at h15
  rw [← hmo] at h63
  have hh0 : 0 ≤ hold := by omega
  have hh1 : hold ≤ 15 := by omega
  have hm0 : 0 ≤ mo := by omega
  have hm1 : mo ≤ 63 := by omega
  clear hn hl hs hok hh hmo hm hk
  go_enter Tryz.func3, Tryz.ntmps3
  go_wp2_with (go_at_call 6; refine hal.mono ?_; rintro e w1 ⟨rfl, hk1⟩)
  refine (built_any w1 o n c xs HA.out.1 HA.out.2.1 (HA.out.2.2.1.keepsN hk1) HA.out.2.2.2).mono ?_
  rintro e w2 ⟨pa, now, rfl, hw0, hw1, ha⟩
  have HK1 : Hid (Keeps no w w1) := hk1
  clear hal hk1
  go_wp2_with fail
  refine (built_any w2 o n c xs HA.out.1 HA.out.2.1 (HA.out.2.2.1.keepsN (HK1.out.trans ha.out.ow.keep)) HA.out.2.2.2).mono ?_
  rintro e w3 ⟨pb, now2, rfl, hw2, hw3, hb⟩
  obtain ⟨s, hs⟩ : ∃ s, s = (runS (xs.take n)).1 := ⟨_, rfl⟩
  have H3 : Hid (Tw w1 w3 pa s 384 pb s 384 no ∧ Supp s) := by
    rw [hs]
    exact ⟨Tw.made ha.out.ow hb.out.ow, ha.out.su⟩
  clear ha hb hs
  go_wp2_with fail
  go_loopw [13, 14, 15, 16] (fun s13 s14 _ _ wr => ∃ (t : Int) (g : Nat), now ≤ t ∧ t ≤ now + mo + 1 ∧ s14 = .int .i64 t ∧ s13 = .int .i64 g ∧ Hid (∃ A, Gn s now t hold A g ∧ Tw w1 wr pa A 384 pb s 384 no)) (fun _ s14 _ _ _ => (now + mo + 1 - intOf s14).toNat)
  case atStart => exact ⟨now, 0, by omega, by omega, rfl, rfl, s, gn_start s now hold, H3.out.1⟩
  case round =>
    obtain ⟨t, g, ht0, ht1, rfl, rfl, HG⟩ := hrel
    obtain ⟨A, hgn, htw⟩ := HG.out
    have HG2 : Hid (Gn s now t hold A g ∧ Tw w1 wr pa A 384 pb s 384 no) := ⟨hgn, htw⟩
    have hg384 : (g : Int) ≤ 384 := by have := (supp_gn hgn H3.out.2).2; omega
    clear HG hgn htw
    by_cases hlt : t ≤ now + mo
    · have hcl := HG2.out.2.collect t hold (tick_iff.2 ⟨by omega, by omega⟩) (by simp [retB]; omega)
      go_wp2_with (go_at_call 8; refine hcl.mono ?_; rintro e w4 ⟨o4, n4, c4, rfl, h4, h5⟩; have hn4 : (n4 : Int) ≤ 384 := (by obtain ⟨ds, e1, _, e2⟩ := h4.out; omega))
      go_roundw
      case rel =>
        obtain ⟨ds, e1, e2, _⟩ := h4.out
        refine ⟨t + 1, g + n4, by omega, by omega, by go_num, by go_num, _, ?_, h5.out⟩
        rw [e1]
        exact HG2.out.1.step e2
      case measure => simp [intOf]; omega
    · have htt : t = now + mo + 1 := by omega
      have hcl := HG2.out.2.swap.collect (now + mo) hold (tick_iff.2 ⟨by omega, by omega⟩) (by simp [retB]; omega)
      go_wp2_with fail
      refine hcl.mono ?_
      rintro e w4 ⟨o4, n4, c4, rfl, h4, h5⟩
      have HE : Hid (A = collS s (now + mo - hold) ∧ g = n4) := by
        obtain ⟨ds, e1, e2, _⟩ := h4.out
        have := HG2.out.1.done (by omega) (l := ds) (by rw [show t - 1 - hold = now + mo - hold by omega]; exact e2)
        rw [show t - 1 - hold = now + mo - hold by omega] at this
        exact ⟨this.1, this.2.trans e1.symm⟩
      obtain ⟨eA, eg⟩ := HE.out
      subst eg
      have H5 : Hid (Ow w1 w4 pa (collS s (now + mo - hold)) 384 no ∧ Ow w1 w4 pb (collS s (now + mo - hold)) 384 no) := by
        have h6 := h5.out
        rw [eA] at h6
        exact ⟨h6.swap.first, h6.first⟩
      obtain ⟨S, hS⟩ : ∃ S, S = collS s (now + mo - hold) := ⟨_, rfl⟩
      rw [← hS] at H5
      have hka := H5.out.1.keptK (by omega)
      clear hcl h4 h5 HE eA hS HG2 hg384
      go_wp2_with fail
      refine hka.mono ?_
      rintro e w5 ⟨o5, n5, c5, k5, rfl, h5⟩
      have hkb := (H5.out.2.go h5.out.2.2.1).keptK (by omega)
      clear hka
      go_wp2_with fail
      refine hkb.mono ?_
      rintro e w6 ⟨o6, n6, c6, k6, rfl, h6⟩
      have hsk := sameKd (s := S) (t := S) (fun m => rfl) (h5.out.1.keepsN h6.out.2.2.1) h6.out.1
      have HK6 : Hid (Keeps no w4 w6) := h5.out.2.2.1.trans h6.out.2.2.1
      clear hkb h5 h6
      go_wp2_with fail
      refine hsk.mono ?_
      rintro e w7 ⟨rfl, hk7⟩
      have HK7 : Hid (Keeps no w4 w7) := HK6.out.trans hk7
      have hla := (H5.out.1.go HK7.out).lastsK (by omega)
      clear hsk hk7
      go_wp2_with fail
      refine hla.mono ?_
      rintro e w8 ⟨o8, n8, c8, k8, rfl, h8⟩
      have hlb := ((H5.out.2.go HK7.out).go h8.out.2.2.1).lastsK (by omega)
      clear hla
      go_wp2_with fail
      refine hlb.mono ?_
      rintro e w9 ⟨o9, n9, c9, k9, rfl, h9⟩
      have hsl := sameLd (s := S) (t := S) (fun m => rfl) (h8.out.1.keepsN h9.out.2.2.1) h9.out.1
      have HK9 : Hid (Keeps no w w9) := (HK1.out.trans H5.out.1.keep).trans (HK7.out.trans (h8.out.2.2.1.trans h9.out.2.2.1))
      clear hlb h8 h9
      go_wp2_with fail
      refine hsl.mono ?_
      rintro e w10 ⟨rfl, hk10⟩
      go_wp2_with fail
      go_ret
      exact ⟨rfl, HK9.out.trans hk10⟩
end Go.Proofs.YtagekdmkidbhpaaGreat

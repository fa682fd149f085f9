import Derived.Test.YtlpfoieoopjmgaaG2
namespace Go.Proofs.Ytlpfoieoopjmgaa
open Go.RowKit
set_option linter.unusedVariables false
set_option linter.unusedSimpArgs false

/-- what the document's Group tells: of the first k partitions -/
structure RTold {α : Type} (E : El α) (G : El (GS α)) (key : α → Tx) (w : World) (P : Nat) (l : List α) (k : Nat) (o : Option Addr) (c : Nat) (gs : List (GS α)) (w' : World) : Prop where
  own : Own G w' o c gs
  each : ∀ g ∈ gs, Own E w' g.o g.c g.xs
  val : gs.map (fun g => (g.n, g.xs)) = prt P key l k
  len : gs.length ≤ k
  new : New w o
  kp : Keeps no w w'
variable {α : Type} {E : El α} {G : El (GS α)} {key : α → Tx}
theorem rtold_nil (w : World) (P : Nat) (l : List α) : RTold E G key w P l 0 none 0 [] w := ⟨own_nil _, fun g hg => (by cases hg), rfl, by simp, new_none _, Keeps.refl _ _⟩
theorem RTold.keepsN {w : World} {P : Nat} {l : List α} {k : Nat} {o : Option Addr} {c : Nat} {gs : List (GS α)} {w' w'' : World} (h : RTold E G key w P l k o c gs w') (hk : Keeps no w' w'') : RTold E G key w P l k o c gs w'' :=
  ⟨h.own.keepsN hk, fun g hg => (h.each g hg).keepsN hk, h.val, h.len, h.new, h.kp.trans hk⟩
theorem RTold.no {w : World} {P : Nat} {l : List α} {k : Nat} {o : Option Addr} {c : Nat} {gs : List (GS α)} {w' : World} (h : RTold E G key w P l k o c gs w') (h0 : ownOf P key l k = []) : RTold E G key w P l (k + 1) o c gs w' :=
  ⟨h.own, h.each, by rw [prt, if_pos h0, List.append_nil]; exact h.val, by have := h.len; omega, h.new, h.kp⟩
theorem RTold.yes (hE : E.e ≠ G.e) {w : World} {P : Nat} {l : List α} {k : Nat} {o : Option Addr} {c : Nat} {gs : List (GS α)} {wr w' : World} (h : RTold E G key w P l k o c gs wr) (h0 : ownOf P key l k ≠ []) {o8 : Option Addr} {c8 : Nat} (h8 : Own E wr o8 c8 (ownOf P key l k)) {o' : Option Addr} {c' : Nat} (ho : Own G w' o' c' (gs ++ [⟨k, o8, c8, ownOf P key l k⟩])) (hap : Ap wr o o' w') : RTold E G key w P l (k + 1) o' c' (gs ++ [⟨k, o8, c8, ownOf P key l k⟩]) w' := by
  have hk : Keeps (inO o) wr w' := by
    rcases hap with ⟨_, hk⟩ | ⟨_, hk⟩
    · exact hk
    · exact hk.of_no
  have h5 := hap.new h.new h.kp
  refine ⟨ho, ?_, ?_, by have := h.len; simp; omega, h5.1, h5.2⟩
  · intro g hg
    rw [List.mem_append, List.mem_singleton] at hg
    rcases hg with hg | rfl
    · exact (h.each g hg).keeps hk (fun b hb1 hb2 => tags_ne hE (h.each g hg) h.own b hb1 hb2)
    · exact h8.keeps hk (fun b hb1 hb2 => tags_ne hE h8 h.own b hb1 hb2)
  · rw [List.map_append, h.val, prt, if_neg h0]; rfl

set_option maxRecDepth 10000 in
theorem refGroupT_yes (w : World) (a : Option Addr) (n c : Nat) (xs : List Tx) (P : Nat) (hn : n = xs.length) (hfit : (xs.length : Int) * 16 ≤ 140737488351232) (hsz : ∀ x ∈ xs, x.size ≤ maxLen) (hs : Sl TE w a c xs) (h1 : 0 < P) (h2 : P ≤ 64) :
    Calls Try.prog 17 #[.slice a n c, .int .i64 (P : Int)] w fun e w' => ∃ o m c gs, e = .returned (.tuple #[.slice o m c, .int .i64 0]) ∧ Hid (m = gs.length ∧ RTold TE GR idT w P xs P o c gs w') := by
  have HA : Hid (n = xs.length) := hn
  have HZ : Hid (∀ x ∈ xs, x.size ≤ maxLen) := hsz
  have hA : (n : Int) ≤ 8796093021952 := by omega
  have hP1 : ¬ (P : Int) < 1 := by omega
  clear hn hfit hsz
  go_enter Try.func17, Try.ntmps17
  go_wp2_with fail
  go_loopw [6, 7] (fun s6 i wr => ∃ (k m : Nat) (o : Option Addr) (cc : Nat) (gs : List (GS Tx)), k ≤ P ∧ i = .int .i64 k ∧ s6 = .slice o m cc ∧ Hid (m = gs.length ∧ RTold TE GR idT w P xs k o cc gs wr)) (fun _ i _ => P - (intOf i).toNat)
  case atStart => exact ⟨0, 0, none, 0, [], by omega, rfl, rfl, ⟨rfl, rtold_nil _ _ _⟩⟩
  case round =>
    obtain ⟨k, m, o, cc, gs, hk, rfl, rfl, HI⟩ := hrel
    rename World => wq
    by_cases hlt : k < P
    · have hmk : m ≤ 64 := by have := HI.out.1; have := HI.out.2.len; omega
      go_wp2_with fail
      go_loopw [8, 9] (fun s8 i wr => ∃ (t m8 : Nat) (o8 : Option Addr) (c8 : Nat), t ≤ n ∧ i = .int .i64 t ∧ s8 = .slice o8 m8 c8 ∧ Hid (m8 = (ownOf P idT (xs.take t) k).length ∧ Own TE wr o8 c8 (ownOf P idT (xs.take t) k) ∧ New wq o8 ∧ Keeps no wq wr)) (fun _ i _ => n - (intOf i).toNat)
      case atStart => exact ⟨0, 0, none, 0, by omega, rfl, rfl, ⟨by simp [ownOf], by simpa [ownOf] using own_nil _, new_none _, Keeps.refl _ _⟩⟩
      case round =>
        obtain ⟨t, m8, o8, c8, ht, rfl, rfl, HJ⟩ := hrel
        have hm8 : (m8 : Int) ≤ n := by
          have e1 := HJ.out.1
          have e2 := ownOf_length P idT (xs.take t) k
          rw [List.length_take] at e2
          have := HA.out
          omega
        by_cases htn : t < n
        · have hka : t < xs.length := by have := HA.out; omega
          have hs' := hs.keepsN (HI.out.2.kp.trans HJ.out.2.2.2)
          obtain ⟨b1, off1, rfl, d1⟩ := hs'.at hka
          obtain ⟨x, hx⟩ : ∃ x, x = xs.getD t e0 := ⟨_, rfl⟩
          have hxs : x.size ≤ maxLen := HZ.out x (by rw [hx]; exact mem_getD _ _ _ hka)
          rw [← hx] at d1
          have HT : Hid (xs.take (t + 1) = xs.take t ++ [x]) := by rw [take_succ_getD xs t e0 hka, ← hx]; exact rfl
          clear hx
          obtain ⟨q, hq⟩ : ∃ q, q = pl P x := ⟨_, rfl⟩
          have HQ : Hid (q = pl P x) := hq
          have hqP : q < P := by rw [hq]; exact pl_lt _ h1
          have HB : Hid (((ownOf P idT (xs.take t) k).length + [x].length) * TE.nb ≤ 140737488355328 ∧ (ownOf P idT (xs.take t) k).length + [x].length ≤ 140737488355328) := by
            have := HJ.out.1
            exact ⟨by simp [TE]; omega, by simp; omega⟩
          clear hka hq hs'
          by_cases hqk : q = k
          · have hqI : (q : Int) = (k : Int) := by omega
            go_wp2_with (first | (go_at_call 14; go_loud (refine (refOf_yes x P h1 h2 _ hxs).mono ?_); rintro e w' ⟨rfl, hw'⟩; subst w'; rw [← HQ.out]) | (at_builtin; go_loud (refine wpList_app okT rfl _ _ rfl _ _ _ (ownOf P idT (xs.take t) k) rfl HJ.out.1 (HJ.out.2.1.keepsN ((Keeps.refl _ _).alloc _)) _ _ _ [x] rfl rfl (fun h => by cases h) (lit_one (E := TE) _ x _ rfl).row HB.out.1 HB.out.2 ?_); intro o5 c5 w5 ho5 hap5))
            go_roundw
            case rel =>
              obtain ⟨g1, g2, g3, g4⟩ := HJ.out
              have h5 := hap5.new (w0 := wq) g3 (g4.alloc _)
              refine ⟨t + 1, m8 + 1, o5, c5, by omega, by go_num, rfl, ?_⟩
              rw [HT.out, ownOf_snoc, if_pos (by show k = pl P x; rw [← HQ.out]; exact hqk.symm)]
              exact ⟨by simp; exact g1, ho5, h5.1, h5.2⟩
            case measure => simp [intOf] <;> omega
          · have hqI : ¬ (q : Int) = (k : Int) := by omega
            go_wp2_with (go_at_call 14; go_loud (refine (refOf_yes x P h1 h2 _ hxs).mono ?_); rintro e w' ⟨rfl, hw'⟩; subst w'; rw [← HQ.out])
            go_roundw
            case rel =>
              refine ⟨t + 1, m8, o8, c8, by omega, by go_num, rfl, ?_⟩
              rw [HT.out, ownOf_snoc, if_neg (by show ¬ k = pl P x; rw [← HQ.out]; exact fun e => hqk e.symm)]
              exact HJ
            case measure => simp [intOf] <;> omega
        · have he : xs.take t = xs := List.take_of_length_le (by have := HA.out; omega)
          rw [he] at HJ
          have hB : ((gs.length + [(⟨k, o8, c8, ownOf P idT xs k⟩ : GS Tx)].length) * GR.nb ≤ 140737488355328 ∧ gs.length + [(⟨k, o8, c8, ownOf P idT xs k⟩ : GS Tx)].length ≤ 140737488355328) := by
            have := HI.out.1
            exact ⟨by simp [GR]; omega, by simp; omega⟩
          have HB : Hid _ := hB
          have HR : Hid (RTold TE GR idT w P xs k o cc gs wr) := HI.out.2.keepsN HJ.out.2.2.2
          have HN : Hid (New w o8) := HJ.out.2.2.1.of_le HI.out.2.kp.size
          clear he hB
          by_cases h0 : m8 = 0
          · have HX : Hid (ownOf P idT xs k = []) := List.length_eq_zero_iff.1 (by rw [← HJ.out.1]; exact h0)
            subst h0
            go_wp2_with fail
            go_roundw
            case rel =>
              refine ⟨k + 1, m, o, cc, gs, by omega, by go_num, rfl, ⟨HI.out.1, HR.out.no HX.out⟩⟩
            case measure => simp [intOf] <;> omega
          · have h0' : (0 : Int) < m8 := by omega
            have HX : Hid (ownOf P idT xs k ≠ []) := by
              intro e
              have := HJ.out.1
              rw [e] at this
              exact h0 this
            go_wp2_with (at_builtin; go_loud (refine wpList_app okGR rfl _ _ rfl _ _ _ gs rfl HI.out.1 (HR.out.own.keepsN ((Keeps.refl _ _).alloc _)) _ _ _ [⟨k, o8, c8, ownOf P idT xs k⟩] rfl rfl (fun h => by cases h) (lit_one (E := GR) _ _ _ (by simp [GR, GS.enc, HJ.out.1])).row HB.out.1 HB.out.2 ?_); intro o5 c5 w5 ho5 hap5)
            go_roundw
            case rel =>
              refine ⟨k + 1, m + 1, o5, c5, gs ++ [⟨k, o8, c8, ownOf P idT xs k⟩], by omega, by go_num, rfl, ⟨by simp; exact HI.out.1, ?_⟩⟩
              exact (HR.out.keepsN ((Keeps.refl _ _).alloc _)).yes (by decide) HX.out (HJ.out.2.1.keepsN ((Keeps.refl _ _).alloc _)) ho5 hap5
            case measure => simp [intOf] <;> omega
    · go_wp2_with fail
      go_ret2
      obtain rfl : k = P := by omega
      exact ⟨o, m, cc, gs, rfl, HI⟩

theorem refGroupT_no (w : World) (a : Option Addr) (n c : Nat) (z : Int) (h : ¬ (1 ≤ z ∧ z ≤ 64)) :
    Calls Try.prog 17 #[.slice a n c, .int .i64 z] w fun e w' => e = .returned (.tuple #[.slice none 0 0, .int .i64 1]) ∧ w' = w := by
  by_cases h1 : z < 1
  · clear h
    go_enter Try.func17, Try.ntmps17
    go_wp2_with fail
    go_ret2
    exact ⟨rfl, rfl⟩
  · have h2 : 64 < z := by omega
    clear h
    go_enter Try.func17, Try.ntmps17
    go_wp2_with fail
    go_ret2
    exact ⟨rfl, rfl⟩
end Go.Proofs.Ytlpfoieoopjmgaa

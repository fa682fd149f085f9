/- The document's GroupPairs (ported from stage 5). -/
import Derived.Test.YtghnhkhhpeoheaaGreatG1
import Derived.Test.YtghnhkhhpeoheaaGreatH2
namespace Go.Proofs.YtghnhkhhpeoheaaGreat
open Go.RowKit Go.Sort Orl
set_option linter.unusedVariables false
set_option linter.unusedSimpArgs false

def HR : El (GS Pr) := ⟨102, 55, 2, 32, GS.enc⟩
theorem infoRP : (Tryz.prog.info? 102).map (fun i => (i.zero, i.size, i.bytes)) = some (some (.agg #[.int .i64 0, .slice none 0 0]), 2, 32) := by kernel_rfl
theorem okHR : HR.Ok := by
  obtain ⟨i0, hi, hz0, hz1, hz2⟩ := info_parts infoRP
  exact ⟨fun _ => rfl, fun x u hu => by simp [HR, GS.enc] at hu; rcases hu with rfl | rfl <;> rfl, by decide, Tryz.underlying55, i0, _, hi, hz0, hz1, hz2, rfl⟩
section


/-- what the document's Group tells: of the first k partitions -/
structure RTold {α : Type} (E : El α) (G : El (GS α)) (key : α → Tx) (w : World) (P : Nat) (l : List α) (k : Nat) (o : Option Addr) (c : Nat) (gs : List (GS α)) (w' : World) : Prop where
  own : Own G w' o c gs
  each : ∀ g ∈ gs, Own E w' g.o g.c g.xs
  val : gs.map (fun g => (g.n, g.xs)) = prt P key l k
  len : gs.length ≤ k
  new : New w o
  kp : Keeps no w w'
  newE : ∀ g ∈ gs, New w g.o
variable {α : Type} {E : El α} {G : El (GS α)} {key : α → Tx}
theorem rtold_nil (w : World) (P : Nat) (l : List α) : RTold E G key w P l 0 none 0 [] w := ⟨own_nil _, fun g hg => (by cases hg), rfl, by simp, new_none _, Keeps.refl _ _, fun g hg => (by cases hg)⟩
theorem RTold.keepsN {w : World} {P : Nat} {l : List α} {k : Nat} {o : Option Addr} {c : Nat} {gs : List (GS α)} {w' w'' : World} (h : RTold E G key w P l k o c gs w') (hk : Keeps no w' w'') : RTold E G key w P l k o c gs w'' :=
  ⟨h.own.keepsN hk, fun g hg => (h.each g hg).keepsN hk, h.val, h.len, h.new, h.kp.trans hk, h.newE⟩
theorem RTold.no {w : World} {P : Nat} {l : List α} {k : Nat} {o : Option Addr} {c : Nat} {gs : List (GS α)} {w' : World} (h : RTold E G key w P l k o c gs w') (h0 : ownOf P key l k = []) : RTold E G key w P l (k + 1) o c gs w' :=
  ⟨h.own, h.each, by rw [prt, if_pos (by rw [h0]; rfl), List.append_nil]; exact h.val, by have := h.len; omega, h.new, h.kp, h.newE⟩
theorem RTold.yes (hE : E.e ≠ G.e) {w : World} {P : Nat} {l : List α} {k : Nat} {o : Option Addr} {c : Nat} {gs : List (GS α)} {wr w' : World} (h : RTold E G key w P l k o c gs wr) (h0 : ownOf P key l k ≠ []) {o8 : Option Addr} {c8 : Nat} (h8 : Own E wr o8 c8 (ownOf P key l k)) (hn8 : New w o8) {o' : Option Addr} {c' : Nat} (ho : Own G w' o' c' (gs ++ [⟨k, o8, c8, ownOf P key l k⟩])) (hap : Ap wr o o' w') : RTold E G key w P l (k + 1) o' c' (gs ++ [⟨k, o8, c8, ownOf P key l k⟩]) w' := by
  have hk : Keeps (inO o) wr w' := by
    rcases hap with ⟨_, hk⟩ | ⟨_, hk⟩
    · exact hk
    · exact hk.of_no
  have h5 := hap.new h.new h.kp
  refine ⟨ho, ?_, ?_, by have := h.len; simp; omega, h5.1, h5.2, ?_⟩
  · intro g hg
    rw [List.mem_append, List.mem_singleton] at hg
    rcases hg with hg | rfl
    · exact (h.each g hg).keeps hk (fun b hb1 hb2 => tags_ne hE (h.each g hg) h.own b hb1 hb2)
    · exact h8.keeps hk (fun b hb1 hb2 => tags_ne hE h8 h.own b hb1 hb2)
  · rw [List.map_append, h.val, prt, if_neg (by simpa using h0)]; rfl
  · intro g hg
    rw [List.mem_append, List.mem_singleton] at hg
    rcases hg with hg | rfl
    · exact h.newE g hg
    · exact hn8

end


set_option maxRecDepth 10000 in
theorem refGroupP_yes (w : World) (a : Option Addr) (n c : Nat) (xs : List Pr) (P : Nat) (hn : n = xs.length) (hfit : (xs.length : Int) * 32 ≤ 140737488351232) (hsz : ∀ x ∈ xs, x.1.size ≤ maxLen ∧ x.2.size ≤ maxLen) (hs : Sl PE w a c xs) (h1 : 0 < P) (h2 : P ≤ 64) :
    Calls Tryz.prog 30 #[.slice a n c, .int .i64 (P : Int)] w fun e w' => ∃ o m c gs, e = .returned (.tuple #[.slice o m c, .int .i64 0]) ∧ Hid (m = gs.length ∧ RTold PE HR fstP w P xs P o c gs w') := by
  have HA : Hid (n = xs.length) := hn
  have HZ : Hid (∀ x ∈ xs, x.1.size ≤ maxLen ∧ x.2.size ≤ maxLen) := hsz
  have hA : (n : Int) ≤ 4398046510976 := by omega
  have hP1 : ¬ (P : Int) < 1 := by omega
  clear hn hfit hsz
  go_enter Tryz.func30, Tryz.ntmps30
  go_wp2_with fail
  go_loopw [6, 7] (fun s6 i wr => ∃ (k m : Nat) (o : Option Addr) (cc : Nat) (gs : List (GS Pr)), k ≤ P ∧ i = .int .i64 k ∧ s6 = .slice o m cc ∧ Hid (m = gs.length ∧ RTold PE HR fstP w P xs k o cc gs wr)) (fun _ i _ => P - (intOf i).toNat)
  case atStart => exact ⟨0, 0, none, 0, [], by omega, rfl, rfl, ⟨rfl, rtold_nil _ _ _⟩⟩
  case round =>
    obtain ⟨k, m, o, cc, gs, hk, rfl, rfl, HI⟩ := hrel
    rename World => wq
    by_cases hlt : k < P
    · have hmk : m ≤ 64 := by have := HI.out.1; have := HI.out.2.len; omega
      go_wp2_with fail
      go_loopw [8, 9] (fun s8 i wr => ∃ (t m8 : Nat) (o8 : Option Addr) (c8 : Nat), t ≤ n ∧ i = .int .i64 t ∧ s8 = .slice o8 m8 c8 ∧ Hid (m8 = (ownOf P fstP (xs.take t) k).length ∧ Own PE wr o8 c8 (ownOf P fstP (xs.take t) k) ∧ New wq o8 ∧ Keeps no wq wr)) (fun _ i _ => n - (intOf i).toNat)
      case atStart => exact ⟨0, 0, none, 0, by omega, rfl, rfl, ⟨by simp [ownOf], by simpa [ownOf] using own_nil _, new_none _, Keeps.refl _ _⟩⟩
      case round =>
        obtain ⟨t, m8, o8, c8, ht, rfl, rfl, HJ⟩ := hrel
        have hm8 : (m8 : Int) ≤ n := by
          have e1 := HJ.out.1
          have e2 := ownOf_length P fstP (xs.take t) k
          rw [List.length_take] at e2
          have := HA.out
          omega
        by_cases htn : t < n
        · have hka : t < xs.length := by have := HA.out; omega
          have hs' := hs.keepsN (HI.out.2.kp.trans HJ.out.2.2.2)
          obtain ⟨b1, off1, rfl, d1, d1'⟩ := hs'.atP hka
          obtain ⟨x, hx⟩ : ∃ x, x = xs.getD t p0 := ⟨_, rfl⟩
          have hxs : x.1.size ≤ maxLen := (HZ.out x (by rw [hx]; exact mem_getD _ _ _ hka)).1
          rw [← hx] at d1 d1'
          have HT : Hid (xs.take (t + 1) = xs.take t ++ [x]) := by rw [take_succ_getD xs t p0 hka, ← hx]; exact rfl
          obtain ⟨x1, x2⟩ := x
          simp only at d1 d1' hxs
          clear hx
          obtain ⟨q, hq⟩ : ∃ q, q = pl P x1 := ⟨_, rfl⟩
          have HQ : Hid (q = pl P x1) := hq
          have hqP : q < P := by rw [hq]; exact pl_lt _ h1
          have HB : Hid (((ownOf P fstP (xs.take t) k).length + [(x1, x2)].length) * PE.nb ≤ 140737488355328 ∧ (ownOf P fstP (xs.take t) k).length + [(x1, x2)].length ≤ 140737488355328) := by
            have := HJ.out.1
            exact ⟨by simp [PE]; omega, by simp; omega⟩
          clear hka hq hs'
          by_cases hqk : q = k
          · have hqI : (q : Int) = (k : Int) := by omega
            go_wp2_with (first | (go_at_call 55; go_loud (refine (refOf_yes x1 P h1 h2 _ hxs).mono ?_); rintro e w' ⟨rfl, hw'⟩; subst w'; rw [← HQ.out]) | (at_builtin; go_loud (refine wpList_app okP rfl _ _ rfl _ _ _ (ownOf P fstP (xs.take t) k) rfl HJ.out.1 (HJ.out.2.1.keepsN ((Keeps.refl _ _).alloc _)) _ _ _ [(x1, x2)] rfl rfl (fun h => by cases h) (lit_one (E := PE) _ (x1, x2) _ rfl).row HB.out.1 HB.out.2 ?_); intro o5 c5 w5 ho5 hap5))
            go_roundw
            case rel =>
              obtain ⟨g1, g2, g3, g4⟩ := HJ.out
              have h5 := hap5.new (w0 := wq) g3 (g4.alloc _)
              refine ⟨t + 1, m8 + 1, o5, c5, by omega, by go_num, rfl, ?_⟩
              rw [HT.out, ownOf_snoc, if_pos (by show k = pl P x1; rw [← HQ.out]; exact hqk.symm)]
              exact ⟨by simp; exact g1, ho5, h5.1, h5.2⟩
            case measure => simp [intOf] <;> omega
          · have hqI : ¬ (q : Int) = (k : Int) := by omega
            go_wp2_with (go_at_call 55; go_loud (refine (refOf_yes x1 P h1 h2 _ hxs).mono ?_); rintro e w' ⟨rfl, hw'⟩; subst w'; rw [← HQ.out])
            go_roundw
            case rel =>
              refine ⟨t + 1, m8, o8, c8, by omega, by go_num, rfl, ?_⟩
              rw [HT.out, ownOf_snoc, if_neg (by show ¬ k = pl P x1; rw [← HQ.out]; exact fun e => hqk e.symm)]
              exact HJ
            case measure => simp [intOf] <;> omega
        · have he : xs.take t = xs := List.take_of_length_le (by have := HA.out; omega)
          rw [he] at HJ
          have hB : ((gs.length + [(⟨k, o8, c8, ownOf P fstP xs k⟩ : GS Pr)].length) * HR.nb ≤ 140737488355328 ∧ gs.length + [(⟨k, o8, c8, ownOf P fstP xs k⟩ : GS Pr)].length ≤ 140737488355328) := by
            have := HI.out.1
            exact ⟨by simp [HR]; omega, by simp; omega⟩
          have HB : Hid _ := hB
          have HRT : Hid (RTold PE HR fstP w P xs k o cc gs wr) := HI.out.2.keepsN HJ.out.2.2.2
          have HN : Hid (New w o8) := HJ.out.2.2.1.of_le HI.out.2.kp.size
          clear he hB
          by_cases h0 : m8 = 0
          · have HX : Hid (ownOf P fstP xs k = []) := List.length_eq_zero_iff.1 (by rw [← HJ.out.1]; exact h0)
            subst h0
            go_wp2_with fail
            go_roundw
            case rel =>
              refine ⟨k + 1, m, o, cc, gs, by omega, by go_num, rfl, ⟨HI.out.1, HRT.out.no HX.out⟩⟩
            case measure => simp [intOf] <;> omega
          · have h0' : (0 : Int) < m8 := by omega
            have HX : Hid (ownOf P fstP xs k ≠ []) := by
              intro e
              have := HJ.out.1
              rw [e] at this
              exact h0 this
            go_wp2_with (at_builtin; go_loud (refine wpList_app okHR rfl _ _ rfl _ _ _ gs rfl HI.out.1 (HRT.out.own.keepsN ((Keeps.refl _ _).alloc _)) _ _ _ [⟨k, o8, c8, ownOf P fstP xs k⟩] rfl rfl (fun h => by cases h) (lit_one (E := HR) _ _ _ (by simp [HR, GS.enc, HJ.out.1])).row HB.out.1 HB.out.2 ?_); intro o5 c5 w5 ho5 hap5)
            go_roundw
            case rel =>
              refine ⟨k + 1, m + 1, o5, c5, gs ++ [⟨k, o8, c8, ownOf P fstP xs k⟩], by omega, by go_num, rfl, ⟨by simp; exact HI.out.1, ?_⟩⟩
              exact (HRT.out.keepsN ((Keeps.refl _ _).alloc _)).yes (by decide) HX.out (HJ.out.2.1.keepsN ((Keeps.refl _ _).alloc _)) HN.out ho5 hap5
            case measure => simp [intOf] <;> omega
    · go_wp2_with fail
      go_ret2
      obtain rfl : k = P := by omega
      exact ⟨o, m, cc, gs, rfl, HI⟩

theorem refGroupP_no (w : World) (a : Option Addr) (n c : Nat) (z : Int) (h : ¬ (1 ≤ z ∧ z ≤ 64)) :
    Calls Tryz.prog 30 #[.slice a n c, .int .i64 z] w fun e w' => e = .returned (.tuple #[.slice none 0 0, .int .i64 1]) ∧ w' = w := by
  by_cases h1 : z < 1
  · clear h
    go_enter Tryz.func30, Tryz.ntmps30
    go_wp2_with fail
    go_ret2
    exact ⟨rfl, rfl⟩
  · have h2 : 64 < z := by omega
    clear h
    go_enter Tryz.func30, Tryz.ntmps30
    go_wp2_with fail
    go_ret2
    exact ⟨rfl, rfl⟩
end Go.Proofs.YtghnhkhhpeoheaaGreat

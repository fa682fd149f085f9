import Derived.Test.YtlpfoieoopjmgaaD1
import Derived.Deep.RegionLaw
namespace Go.Proofs.Ytlpfoieoopjmgaa
open Go.RowKit
set_option linter.unusedVariables false
set_option linter.unusedSimpArgs false

theorem cell_al {w : World} {p : Addr} {v : Value} (h : w.cell? p = some v) (o : Obj) : (w.alloc o).cell? p = some v := ((Keeps.refl no w).alloc o).cellN h
theorem Deal.lay {α : Type} {E : El α} {X : El (LS α)} (K : Kind E X) {key : α → Tx} {w : World} {P : Nat} {l : List α} {b cA : Nat} {L : List (LS α)} {wr W w' : World} (h : Deal E X key w P l (some ⟨b, 0, none⟩) cA L wr) (x : α) (q : Nat) (hq : q = pl P (key x)) (hqP : q < P)
    {o : Option Addr} {c m : Nat} {ys : List α} (hL : L.getD q ls0 = ⟨o, c, ys⟩) (hm : m = ys.length) {o' : Option Addr} {c' : Nat} (ho : Own E w' o' c' (ys ++ [x])) (hap : Ap W o o' w') (hk : Keeps no wr W) :
    ∃ v, w'.cell? ⟨b, q, none⟩ = some v ∧ w'.frozen? ⟨b, q, none⟩ = false ∧ ∃ L', Hid (Deal E X key w P (l ++ [x]) (some ⟨b, 0, none⟩) cA L' (w'.setCell ⟨b, q, none⟩ (.slice o' (m + 1) c'))) := by
  subst hq
  obtain ⟨b5, eb5, ⟨v5, hv5⟩, hf5, L5, hD5⟩ := (h.keepsN hk).app K x hqP (by rw [hL]; exact ho) (by rw [hL]; exact hap) (m + 1) (by rw [hL, hm])
  cases eb5
  exact ⟨v5, hv5, hf5, L5, hD5⟩
/-- append as one step of a region that draws -/
theorem step_app {α : Type} {E : El α} (hE : E.Ok) {w : World} {ops : Array Oper} {o : Oper} {a : Act} {K : Act → World → Prop} {Q : Exit → Act → World → Prop} {Ep : Prop} (hgd : o.guard = none) (s x : Operand)
    (ho : o.op = .call { callee := .builtin .append, args := #[s, x], argTypes := #[E.t, E.t] })
    (oa : Option Addr) (n c : Nat) (xs : List α) (hs : a.eval s = .slice oa n c) (hn : n = xs.length) (hown : Own E w oa c xs)
    (ox : Option Addr) (m d : Nat) (news : List α) (hx : a.eval x = .slice ox m d) (hm : m = news.length) (hd : ox = none → d = 0) (hrow : Row E w ox news)
    (hb : (xs.length + news.length) * E.nb ≤ 140737488355328) (hb2 : xs.length + news.length ≤ 140737488355328)
    (h : ∀ o' c' w', Own E w' o' c' (xs ++ news) → Ap w oa o' w' → K (a.put o.dst (.slice o' (n + m) c')) w') :
    if Region.wanted o (yielded ops a.tmps) = true then Oper.wp Try.prog o a w K Q else Ep := by
  have hw : Region.wanted o (yielded ops a.tmps) = true := by simp [Region.wanted, hgd]
  rw [if_pos hw]
  subst hn hm
  obtain ⟨o', c', w', hr, h1, h2⟩ := run_app hE w o.type oa c xs hown ox d news hd hrow hb hb2
  unfold Oper.wp execOp
  simp only [ho, resolve, invoke, builtin, Sem.run_bind, Sem.run_pure, Result.andThen_ok, List.map_toArray, List.map_cons, List.map_nil, hs, hx, hr]
  exact h o' c' w' h1 h2

def fstP : Pr → Tx := fun p => p.1
set_option maxRecDepth 10000 in
theorem dealP_any (w : World) (a : Option Addr) (n c : Nat) (xs : List Pr) (P : Nat) (hn : n = xs.length) (hfit : (xs.length : Int) * 32 ≤ 140737488351232) (hsz : ∀ x ∈ xs, x.1.size ≤ maxLen ∧ x.2.size ≤ maxLen) (hs : Sl PE w a c xs) (h1 : 0 < P) (h2 : P ≤ 64) :
    Calls Try.prog 23 #[.slice a n c, .int .i64 (P : Int), .func (.func 24) #[] #[]] w fun e w' => ∃ b cA L, e = .returned (.slice (some ⟨b, 0, none⟩) P cA) ∧ Deal PE YE fstP w P xs (some ⟨b, 0, none⟩) cA L w' := by
  have HA : Hid (n = xs.length) := hn
  have HF : Hid ((xs.length : Int) * 32 ≤ 140737488351232) := hfit
  have hA : (n : Int) ≤ 4398046510976 := by omega
  have HZ : Hid (∀ x ∈ xs, x.1.size ≤ maxLen ∧ x.2.size ≤ maxLen) := hsz
  obtain ⟨w1, hr1, hl1, hk1⟩ := makeY w P h2
  have HM : Hid (Deal PE YE fstP w P [] (some ⟨w.heap.size, 0, none⟩) P (List.replicate P ls0) w1) := ⟨hl1, by simp, fun j hj => by simp [hj, ls0, ownOf], new_fresh _ _ (Nat.le_refl _) _, fun j hj => by simp [hj, ls0]; exact new_none _, hk1⟩
  clear hn hfit hsz hl1 hk1
  go_enter Try.func23, Try.ntmps23
  go_wp2_with fail
  go_loopw [15] (fun i wr => ∃ (k : Nat) (L : List (LS Pr)), k ≤ n ∧ i = .int .i64 k ∧ Hid (Deal PE YE fstP w P (xs.take k) (some ⟨w.heap.size, 0, none⟩) P L wr)) (fun i _ => n - (intOf i).toNat)
  case atStart => exact ⟨0, _, by omega, rfl, HM⟩
  case round =>
    obtain ⟨k, L, hk, rfl, HI⟩ := hrel
    clear HM
    by_cases hlt : k < n
    · have hka : k < xs.length := by have := HA.out; omega
      have hs' := hs.keepsN HI.out.kp
      obtain ⟨b1, off1, rfl, d1, d1'⟩ := hs'.atP hka
      obtain ⟨x, hx⟩ : ∃ x, x = xs.getD k p0 := ⟨_, rfl⟩
      have hxs : x.1.size ≤ maxLen := (HZ.out x (by rw [hx]; exact mem_getD _ _ _ hka)).1
      rw [← hx] at d1 d1'
      have HT : Hid (xs.take (k + 1) = xs.take k ++ [x]) := by rw [take_succ_getD xs k p0 hka, ← hx]; exact rfl
      obtain ⟨x1, x2⟩ := x
      simp only at d1 d1' hxs
      obtain ⟨q, hq⟩ : ∃ q, q = pl P x1 := ⟨_, rfl⟩
      have hqP : q < P := by rw [hq]; exact pl_lt x1 h1
      have HQ : Hid (q = pl P x1) := hq
      clear hx hka hq hs'
      go_wp2_with fail
      refine (keyP_any x1 x2 _).mono ?_
      rintro e w2 ⟨rfl, hk2⟩
      have d3 : w2.cell? ⟨wr.heap.size, 0, none⟩ = some (.string x1) := hk2.cellN (by rw [cell_of_blk (blk_new wr _)]; rfl)
      have d4 : w2.cell? ⟨wr.heap.size, 1, none⟩ = some (.string x2) := hk2.cellN (by rw [cell_of_blk (blk_new wr _)]; rfl)
      have HD : Hid (Deal PE YE fstP w P (xs.take k) (some ⟨w.heap.size, 0, none⟩) P L w2) := HI.out.keepsN (((Keeps.refl _ _).alloc _).trans hk2)
      obtain ⟨d2, ho, hle⟩ := HD.out.at kindP q hqP
      obtain ⟨s, hsq⟩ : ∃ s, s = L.getD q ls0 := ⟨_, rfl⟩
      rw [← hsq] at d2 ho hle
      obtain ⟨o, cc, ys⟩ := s
      simp only at d2 ho hle
      obtain ⟨m, hm⟩ : ∃ m, m = ys.length := ⟨_, rfl⟩
      rw [← hm] at d2
      have HO : Hid (Own PE w2 o cc ys ∧ m = ys.length ∧ L.getD q ls0 = ⟨o, cc, ys⟩) := ⟨ho, hm, hsq.symm⟩
      have hmI : (m : Int) ≤ 4398046510976 := by rw [List.length_take] at hle; omega
      have HB : Hid ((ys.length + [(x1, x2)].length) * PE.nb ≤ 140737488355328 ∧ ys.length + [(x1, x2)].length ≤ 140737488355328) := ⟨by simp [PE]; omega, by simp; omega⟩
      clear ho hle hm hsq HI hk2 d1 d1'
      obtain ⟨bw, hbw⟩ : ∃ bw, bw = wr.heap.size := ⟨_, rfl⟩
      rw [← hbw] at d3 d4 ⊢
      clear hbw
      go_wp2_with fail
      refine (place_any x1 P h1 h2 _ hxs).mono ?_
      rintro e w' ⟨rfl, hw'⟩
      subst w'
      rw [← HQ.out]
      have r2 := cell_al d2 (.cells #[.string x1, .string x2] 38)
      go_wp2_with fail
      go_region_law (refine step_app okP rfl (.tmp 29) (.tmp 31) rfl o m cc ys ?_ HO.out.2.1 ?_ (some ⟨w2.heap.size, 0, none⟩) 1 1 [(x1, x2)] ?_ rfl ?_ ?_ HB.out.1 HB.out.2 ?_; rfl; exact HO.out.1.keepsN ((Keeps.refl _ _).alloc _).drew; rfl; exact (lit_one (E := PE) w2 (x1, x2) _ rfl).nil; exact (lit_one (E := PE) w2 (x1, x2) _ rfl).row.keepsN (Keeps.refl _ _).drew; intro o5 c5 w5 ho5 hap5; obtain ⟨v5, s1, s2, L5, S3⟩ := HD.out.lay kindP (x1, x2) q HQ.out hqP HO.out.2.2 HO.out.2.1 ho5 hap5 ((Keeps.refl _ _).alloc _).drew)
      all_goals
        (go_wp2_with fail
         go_roundw
         case rel =>
           refine ⟨k + 1, L5, by omega, by go_num, ?_⟩
           have := S3.out
           rw [← HT.out] at this
           exact this
         case measure => simp [intOf] <;> omega)
    · go_wp2_with fail
      go_ret
      refine ⟨_, _, L, rfl, ?_⟩
      have he : xs.take k = xs := List.take_of_length_le (by have := HA.out; omega)
      have := HI.out
      rwa [he] at this
end Go.Proofs.Ytlpfoieoopjmgaa

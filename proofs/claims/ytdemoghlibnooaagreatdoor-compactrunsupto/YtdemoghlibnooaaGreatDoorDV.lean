import Derived.Test.YtdemoghlibnooaaGreatDoorDZ
import Derived.Test.YtdemoghlibnooaaGreatDoorBC
import Derived.Deep.RegionHeldLaw
import Derived.Test.YtdemoghlibnooaaGreatDoorB7
import Derived.Lib.SliceRun
import Derived.Deep.RegionHeld3
import Derived.Test.YtdemoghlibnooaaGreatDoorA2
namespace Go.Proofs.YtdemoghlibnooaaGreatDoor
open Go.RowKit Go.Maps Go.Sort Orl
set_option linter.unusedVariables false
set_option linter.unusedSimpArgs false
theorem step_appW {α : Type} {E : El α} (hE : E.Ok) {w : World} {ops : Array Oper} {o : Oper} {a : Act} {K : Act → World → Prop} {Q : Exit → Act → World → Prop} {Ep : Prop} (hgd : Region.wanted o (yielded ops a.tmps) = true) (s x : Operand)
    (ho : o.op = .call { callee := .builtin .append, args := #[s, x], argTypes := #[E.t, E.t] })
    (oa : Option Addr) (n c : Nat) (xs : List α) (hs : a.eval s = .slice oa n c) (hn : n = xs.length) (hown : Own E w oa c xs)
    (ox : Option Addr) (m d : Nat) (news : List α) (hx : a.eval x = .slice ox m d) (hm : m = news.length) (hd : ox = none → d = 0) (hrow : Row E w ox news)
    (hb : (xs.length + news.length) * E.nb ≤ 140737488355328) (hb2 : xs.length + news.length ≤ 140737488355328)
    (h : ∀ o' c' w', Own E w' o' c' (xs ++ news) → Ap w oa o' w' → K (a.put o.dst (.slice o' (n + m) c')) w') :
    if Region.wanted o (yielded ops a.tmps) = true then Oper.wp Tryz.prog o a w K Q else Ep := by
  rw [if_pos hgd]
  subst hn hm
  obtain ⟨o', c', w', hr, h1, h2⟩ := run_app hE w o.type oa c xs hown ox d news hd hrow hb hb2
  unfold Oper.wp execOp
  simp only [ho, resolve, invoke, builtin, Sem.run_bind, Sem.run_pure, Result.andThen_ok, List.map_toArray, List.map_cons, List.map_nil, hs, hx, hr]
  exact h o' c' w' h1 h2
structure RO (B : Nat → Prop) (w : World) (p : Nat) (oK : Option Addr) (nK cK : Nat) (oL : Option Addr) (nL cL : Nat) (ks : List KV) (ls : List Mk) : Prop where
  b : w.heap[p]? = some (.cells #[.slice oK nK cK, .slice oL nL cL] 130 (0, 0))
  k : Own KE w oK cK ks
  key : ∀ x ∈ ks, Own TE w x.o x.c x.keys
  l : Own LE w oL cL ls
  nk : nK = ks.length
  nl : nL = ls.length
  lk : ks.length ≤ 1954687338211
  ll : ls.length ≤ 5864062014634
  bp : B p
  bk : ∀ b, inO oK b → B b
  bt : ∀ x ∈ ks, ∀ b, inO x.o b → B b
  bl : ∀ b, inO oL b → B b
section
variable {B : Nat → Prop} {w w' : World} {p : Nat} {oK : Option Addr} {nK cK : Nat} {oL : Option Addr} {nL cL : Nat} {ks : List KV} {ls : List Mk}
theorem RO.rd (h : RO B w p oK nK cK oL nL cL ks ls) : RD w p oK nK cK oL nL cL ks ls := ⟨h.b, h.k.sl, h.l.sl, h.nk, h.nl, h.lk, h.ll⟩
theorem RO.keeps {S : Nat → Prop} (h : RO B w p oK nK cK oL nL cL ks ls) (hk : Keeps S w w') (hS : ∀ b, B b → ¬ S b) : RO B w' p oK nK cK oL nL cL ks ls :=
  ⟨hk.at h.b (hS _ h.bp), h.k.keeps hk (fun b hb => hS b (h.bk b hb)), fun x hx => (h.key x hx).keeps hk (fun b hb => hS b (h.bt x hx b hb)), h.l.keeps hk (fun b hb => hS b (h.bl b hb)), h.nk, h.nl, h.lk, h.ll, h.bp, h.bk, h.bt, h.bl⟩
theorem RO.keepsN (h : RO B w p oK nK cK oL nL cL ks ls) (hk : Keeps no w w') : RO B w' p oK nK cK oL nL cL ks ls := h.keeps hk (fun _ _ => id)
theorem RO.mono (h : RO B w p oK nK cK oL nL cL ks ls) {B' : Nat → Prop} (hB : ∀ b, B b → B' b) : RO B' w p oK nK cK oL nL cL ks ls :=
  ⟨h.b, h.k, h.key, h.l, h.nk, h.nl, h.lk, h.ll, hB _ h.bp, fun b hb => hB b (h.bk b hb), fun x hx b hb => hB b (h.bt x hx b hb), fun b hb => hB b (h.bl b hb)⟩
end
theorem getD_app2 {α : Type} (l m : List α) (j : Nat) (d : α) : (l ++ m).getD j d = if j < l.length then l.getD j d else m.getD (j - l.length) d := by
  simp only [List.getD_eq_getElem?_getD]
  split
  · rw [List.getElem?_append_left (by assumption)]
  · rw [List.getElem?_append_right (by omega)]
theorem lt_lt {α : Type} {f : α → α → Bool} {d : α} {ls : List α} {t : Nat} (h : ∀ j, j + 1 < t → f (ls.getD j d) (ls.getD (j + 1) d) = true) (h1 : t = 0 ∨ f (ls.getD (t - 1) d) (ls.getD t d) = true) : ∀ j, j + 1 < t + 1 → f (ls.getD j d) (ls.getD (j + 1) d) = true := fun j hj => by
  by_cases e : j + 1 = t
  · rcases h1 with h1 | h1
    · omega
    · rw [← e, Nat.add_sub_cancel] at h1; exact h1
  · exact h j (by omega)
end Go.Proofs.YtdemoghlibnooaaGreatDoor
namespace Go.Proofs.YtdemoghlibnooaaGreatDoor
open Go.RowKit Go.Maps Go.Sort Orl
set_option linter.unusedVariables false
set_option linter.unusedSimpArgs false
theorem rLasts_any (w : World) (p : Nat) (oK : Option Addr) (nK cK : Nat) (oL : Option Addr) (nL cL : Nat) (ks : List KV) (ls : List Mk) (h : RD w p oK nK cK oL nL cL ks ls) :
    Calls Tryz.prog 124 #[.pointer (some ⟨p, 0, none⟩)] w fun e w' => ∃ o n c, e = .returned (.slice o n c) ∧ Hid (n = ls.length ∧ Own LE w' o c ls ∧ New w o ∧ Keeps no w w') := by
  have HA : Hid (RD w p oK nK cK oL nL cL ks ls) := h
  have b1 := cell_of_blk h.b 1
  have HB : Hid (ls.length * 24 ≤ 140737488355328 ∧ ls.length ≤ 140737488355328) := (show _ ∧ _ by have := h.ll; omega)
  clear h
  go_enter Tryz.func124, Tryz.ntmps124
  go_wp2_with (at_builtin; refine wpList_app okL rfl _ _ rfl _ _ _ ([] : List Mk) rfl rfl (own_nil _) _ _ _ ls rfl HA.out.nl HA.out.l.nil HA.out.l.row (by have := HB.out.1; simpa [LE] using this) (by have := HB.out.2; simpa using this) ?_; intro o6 c6 w6 ho6 hap6; have H6 : Hid (Own LE w6 o6 c6 ls ∧ New w o6 ∧ Keeps no w w6) := ⟨ho6, (hap6.new (new_none w) (Keeps.refl no w)).1, (hap6.new (new_none w) (Keeps.refl no w)).2⟩; clear ho6 hap6)
  go_ret
  exact ⟨o6, _, c6, rfl, HA.out.nl, H6.out.1, H6.out.2.1, H6.out.2.2⟩
theorem ksEq_snoc {ks ks' : List KV} {t : Nat} (he : KsEq true (ks.take t) ks') {xk : Tx} {xi : Nat} {xv : Tx} {xo : Option Addr} {xc : Nat} {xks : List Tx} {xst : Int} {on : Option Addr} {cn : Nat} (hx : ⟨(xk, xi), xv, xo, xc, xks, xst⟩ = ks.getD t kv0) (ht : t < ks.length) : KsEq true (ks.take (t + 1)) (ks' ++ [⟨(xk, xi), xv, on, cn, xks, xst⟩]) := by
  have hlk : ks'.length = t := by rw [← he.1, List.length_take]; omega
  refine ⟨by rw [List.length_append, hlk, List.length_take]; simp; omega, fun j hj => ?_⟩
  rw [List.length_take] at hj
  rw [take_succ_getD ks t kv0 ht, getD_app2, getD_app2, List.length_take, Nat.min_eq_left (Nat.le_of_lt ht), hlk]
  by_cases e : j < t
  · rw [if_pos e, if_pos e]
    exact he.2 j (by rw [List.length_take]; omega)
  · have e' : j = t := by omega
    rw [if_neg e, if_neg e, e', Nat.sub_self, ← hx]
    exact ⟨rfl, rfl, rfl, fun _ => rfl⟩
structure RK (w : World) (ks : List KV) : Prop where
  key : ∀ x ∈ ks, Sl TE w x.o x.c x.keys ∧ x.keys.length ≤ 8796093021952
theorem RK.keepsN {w w' : World} {ks : List KV} (h : RK w ks) (hk : Keeps no w w') : RK w' ks := ⟨fun x hx => ⟨(h.key x hx).1.keepsN hk, (h.key x hx).2⟩⟩
set_option maxRecDepth 10000 in
set_option maxHeartbeats 1000000 in
theorem rKept_any (w : World) (p : Nat) (oK : Option Addr) (nK cK : Nat) (oL : Option Addr) (nL cL : Nat) (ks : List KV) (ls : List Mk) (h : RD w p oK nK cK oL nL cL ks ls) (hk : RK w ks) :
    Calls Tryz.prog 126 #[.pointer (some ⟨p, 0, none⟩)] w fun e w' => ∃ o n c, e = .returned (.slice o n c) ∧ Hid (∃ ks', n = ks'.length ∧ Kl w ks' o c w' ∧ KsEq true ks ks') := by
  have HA : Hid (RD w p oK nK cK oL nL cL ks ls ∧ RK w ks) := ⟨h, hk⟩
  have hA : (nK : Int) ≤ 1954687338211 := by have := h.nk; have := h.lk; omega
  clear h hk
  go_enter Tryz.func126, Tryz.ntmps126
  go_wp2_with fail
  go_loopw [3, 4] (fun z3 z wr => ∃ (t : Nat) (ol : Option Addr) (m cl : Nat) (ks' : List KV), t ≤ nK ∧ z = .int .i64 t ∧ z3 = .slice ol m cl ∧ Hid (m = ks'.length ∧ Kl w ks' ol cl wr ∧ KsEq true (ks.take t) ks')) (fun _ z _ => nK - (intOf z).toNat)
  case atStart => exact ⟨0, none, 0, 0, [], by omega, rfl, rfl, rfl, ⟨own_nil _, fun x hx => (by cases hx), List.Pairwise.nil, new_none w, Keeps.refl _ _⟩, rfl, fun j hj => absurd hj (by simp)⟩
  case round =>
    obtain ⟨t, ol, m, cl, ks', ht, rfl, rfl, HT⟩ := hrel
    have b0 := cell_of_blk (HA.out.1.keepsN HT.out.2.1.keep).b 0
    by_cases htl : t < nK
    · have htl' : (t : Int) < nK := by omega
      have hta : t < ks.length := by have := HA.out.1.nk; omega
      obtain ⟨g, off, e1, d0, d1, d2, d3, d4⟩ := (HA.out.1.keepsN HT.out.2.1.keep).k.atK hta
      subst e1
      obtain ⟨x, hx⟩ : ∃ x, x = ks.getD t kv0 := ⟨_, rfl⟩
      rw [← hx] at d0 d1 d2 d3 d4
      have hin := (HA.out.2.keepsN HT.out.2.1.keep).key _ (getD_mem_lt kv0 hta)
      rw [← hx] at hin
      have HX : Hid (x = ks.getD t kv0 ∧ t < ks.length) := ⟨hx, hta⟩
      obtain ⟨⟨xk, xi⟩, xv, xo, xc, xks, xst⟩ := x
      simp only at d0 d1 d2 d3 d4 hin
      obtain ⟨xn, hxn⟩ : ∃ xn, xn = xks.length := ⟨_, rfl⟩
      rw [← hxn] at d3
      have HIN : Hid (xn = xks.length ∧ Sl TE wr xo xc xks ∧ xks.length ≤ 8796093021952) := ⟨hxn, hin.1, hin.2⟩
      have HSX : Hid (∀ X, Keeps no w X → X.cell? ⟨p, 0, none⟩ = some (.slice (some ⟨g, off, none⟩) nK cK) ∧ X.cell? ⟨g, off + t * 5, none⟩ = some (.string xk) ∧ X.cell? ⟨g, off + t * 5 + 1, none⟩ = some (.int .u64 ((xi : Nat) : Int)) ∧ X.cell? ⟨g, off + t * 5 + 2, none⟩ = some (.string xv) ∧ X.cell? ⟨g, off + t * 5 + 3, none⟩ = some (.slice xo xn xc) ∧ X.cell? ⟨g, off + t * 5 + 4, none⟩ = some (.int .i64 xst)) := fun X hX => by
        have q0 := cell_of_blk (HA.out.1.keepsN hX).b 0
        obtain ⟨g', off', e1, f0, f1, f2, f3, f4⟩ := (HA.out.1.keepsN hX).k.atK HX.out.2
        cases e1
        rw [← HX.out.1] at f0 f1 f2 f3 f4
        simp only at f0 f1 f2 f3 f4
        rw [← hxn] at f3
        exact ⟨q0, f0, f1, f2, f3, f4⟩
      have HRN : Hid ((ks'.length + 1) * 72 ≤ 140737488355328 ∧ ks'.length + 1 ≤ 140737488355328) := (show _ ∧ _ by
        have h1 := HT.out.2.2.1
        rw [List.length_take] at h1
        have := HA.out.1.lk
        have := HA.out.1.nk
        omega)
      clear hx hta hin hxn
      go_wp2_with fail
      refine wp_region_held_drew (S := (fun X => X.cell? ⟨p, 0, none⟩ = some (.slice (some ⟨g, off, none⟩) nK cK) ∧ X.cell? ⟨g, off + t * 5, none⟩ = some (.string xk) ∧ X.cell? ⟨g, off + t * 5 + 1, none⟩ = some (.int .u64 ((xi : Nat) : Int)) ∧ X.cell? ⟨g, off + t * 5 + 2, none⟩ = some (.string xv) ∧ X.cell? ⟨g, off + t * 5 + 3, none⟩ = some (.slice xo xn xc) ∧ X.cell? ⟨g, off + t * 5 + 4, none⟩ = some (.int .i64 xst))) (by kernel_rfl) ?_ (fun hHeld => ?_)
      · first | exact HSX.out _ HT.out.2.1.keep | exact HSX.out _ (HT.out.2.1.keep.drew)
      refine wpAnyH_take (i := 0) (v := ?_) (by simp only [List.getElem?_toArray, List.getElem?_cons_succ, List.getElem?_cons_zero]; rfl) (by kernel_rfl) (by kernel_rfl) (by kernel_rfl) (by exact fun _ _ _ h => h) (Or.inl ⟨by rfl, ?_⟩) (by assumption) ?_
      rotate_left
      · (intro _ hSw; (try dsimp only at hSw); go_simp; (try with_reducible rfl))
      try simp only [Act.put, List.setIfInBounds_toArray, List.set_cons_zero, List.set_cons_succ]
      refine wpAnyH_take (i := 1) (v := ?_) (by simp only [List.getElem?_toArray, List.getElem?_cons_succ, List.getElem?_cons_zero]; rfl) (by kernel_rfl) (by kernel_rfl) (by kernel_rfl) (by exact fun _ _ _ h => h) (Or.inl ⟨by rfl, ?_⟩) (by assumption) ?_
      rotate_left
      · (intro _ hSw; (try dsimp only at hSw); go_simp; (try with_reducible rfl))
      try simp only [Act.put, List.setIfInBounds_toArray, List.set_cons_zero, List.set_cons_succ]
      refine wpAnyH_take (i := 2) (v := ?_) (by simp only [List.getElem?_toArray, List.getElem?_cons_succ, List.getElem?_cons_zero]; rfl) (by kernel_rfl) (by kernel_rfl) (by kernel_rfl) (by exact fun _ _ _ h => h) (Or.inl ⟨by rfl, ?_⟩) (by assumption) ?_
      rotate_left
      · (intro _ hSw; (try dsimp only at hSw); go_simp; (try with_reducible rfl))
      try simp only [Act.put, List.setIfInBounds_toArray, List.set_cons_zero, List.set_cons_succ]
      refine wpAnyH_take (i := 3) (v := ?_) (by simp only [List.getElem?_toArray, List.getElem?_cons_succ, List.getElem?_cons_zero]; rfl) (by kernel_rfl) (by kernel_rfl) (by kernel_rfl) (by exact fun _ _ _ h => h) (Or.inl ⟨by rfl, ?_⟩) (by assumption) ?_
      rotate_left
      · (intro _ hSw; (try dsimp only at hSw); go_simp; (try with_reducible rfl))
      try simp only [Act.put, List.setIfInBounds_toArray, List.set_cons_zero, List.set_cons_succ]
      refine wpAnyH_take (i := 4) (v := ?_) (by simp only [List.getElem?_toArray, List.getElem?_cons_succ, List.getElem?_cons_zero]; rfl) (by kernel_rfl) (by kernel_rfl) (by kernel_rfl) (by exact fun _ _ _ h => h) (Or.inl ⟨by rfl, ?_⟩) (by assumption) ?_
      rotate_left
      · (intro _ hSw; (try dsimp only at hSw); go_simp; (try with_reducible rfl))
      try simp only [Act.put, List.setIfInBounds_toArray, List.set_cons_zero, List.set_cons_succ]
      refine wpAnyH_take (i := 5) (v := ?_) (by simp only [List.getElem?_toArray, List.getElem?_cons_succ, List.getElem?_cons_zero]; rfl) (by kernel_rfl) (by kernel_rfl) (by kernel_rfl) (by exact fun _ _ _ h => h) (Or.inl ⟨by rfl, ?_⟩) (by assumption) ?_
      rotate_left
      · (intro _ hSw; (try dsimp only at hSw); go_simp; (try with_reducible rfl))
      try simp only [Act.put, List.setIfInBounds_toArray, List.set_cons_zero, List.set_cons_succ]
      refine wpAnyH_take (i := 6) (v := ?_) (by simp only [List.getElem?_toArray, List.getElem?_cons_succ, List.getElem?_cons_zero]; rfl) (by kernel_rfl) (by kernel_rfl) (by kernel_rfl) (by exact fun _ _ _ h => h) (Or.inl ⟨by rfl, ?_⟩) (by assumption) ?_
      rotate_left
      · (intro _ hSw; (try dsimp only at hSw); go_simp; (try with_reducible rfl))
      try simp only [Act.put, List.setIfInBounds_toArray, List.set_cons_zero, List.set_cons_succ]
      refine wpAnyH_take (i := 7) (v := ?_) (by simp only [List.getElem?_toArray, List.getElem?_cons_succ, List.getElem?_cons_zero]; rfl) (by kernel_rfl) (by kernel_rfl) (by kernel_rfl) (by exact fun _ _ _ h => h) (Or.inl ⟨by rfl, ?_⟩) (by assumption) ?_
      rotate_left
      · (intro _ hSw; (try dsimp only at hSw); go_simp; (try with_reducible rfl))
      try simp only [Act.put, List.setIfInBounds_toArray, List.set_cons_zero, List.set_cons_succ]
      refine wpAnyH_take (i := 8) (v := ?_) (by simp only [List.getElem?_toArray, List.getElem?_cons_succ, List.getElem?_cons_zero]; rfl) (by kernel_rfl) (by kernel_rfl) (by kernel_rfl) (by exact fun _ _ _ h => h) (Or.inl ⟨by rfl, ?_⟩) (by assumption) ?_
      rotate_left
      · (intro _ hSw; (try dsimp only at hSw); go_simp; (try with_reducible rfl))
      try simp only [Act.put, List.setIfInBounds_toArray, List.set_cons_zero, List.set_cons_succ]
      refine wpAnyH_take (i := 10) (v := ?_) (by simp only [List.getElem?_toArray, List.getElem?_cons_succ, List.getElem?_cons_zero]; rfl) (by kernel_rfl) (by kernel_rfl) (by kernel_rfl) (by exact fun _ _ _ h => h) (Or.inl ⟨by rfl, ?_⟩) (by assumption) ?_
      rotate_left
      · (intro _ hSw; (try dsimp only at hSw); go_simp; (try with_reducible rfl))
      try simp only [Act.put, List.setIfInBounds_toArray, List.set_cons_zero, List.set_cons_succ]
      refine wpAnyH_take (i := 11) (v := ?_) (by simp only [List.getElem?_toArray, List.getElem?_cons_succ, List.getElem?_cons_zero]; rfl) (by kernel_rfl) (by kernel_rfl) (by kernel_rfl) (by exact fun _ _ _ h => h) (Or.inl ⟨by rfl, ?_⟩) (by assumption) ?_
      rotate_left
      · (intro _ hSw; (try dsimp only at hSw); go_simp; (try with_reducible rfl))
      try simp only [Act.put, List.setIfInBounds_toArray, List.set_cons_zero, List.set_cons_succ]
      refine wpAnyH_take (i := 12) (v := ?_) (by simp only [List.getElem?_toArray, List.getElem?_cons_succ, List.getElem?_cons_zero]; rfl) (by kernel_rfl) (by kernel_rfl) (by kernel_rfl) (by exact fun _ _ _ h => h) (Or.inl ⟨by rfl, ?_⟩) (by assumption) ?_
      rotate_left
      · (intro _ hSw; (try dsimp only at hSw); go_simp; (try with_reducible rfl))
      try simp only [Act.put, List.setIfInBounds_toArray, List.set_cons_zero, List.set_cons_succ]
      refine wpAnyH_take (i := 13) (v := ?_) (by simp only [List.getElem?_toArray, List.getElem?_cons_succ, List.getElem?_cons_zero]; rfl) (by kernel_rfl) (by kernel_rfl) (by kernel_rfl) (by exact fun _ _ _ h => h) (Or.inl ⟨by rfl, ?_⟩) (by assumption) ?_
      rotate_left
      · (intro _ hSw; (try dsimp only at hSw); go_simp; (try with_reducible rfl))
      try simp only [Act.put, List.setIfInBounds_toArray, List.set_cons_zero, List.set_cons_succ]
      refine wpAnyH_take (i := 14) (v := ?_) (by simp only [List.getElem?_toArray, List.getElem?_cons_succ, List.getElem?_cons_zero]; rfl) (by kernel_rfl) (by kernel_rfl) (by kernel_rfl) (by exact fun _ _ _ h => h) (Or.inl ⟨by rfl, ?_⟩) (by assumption) ?_
      rotate_left
      · (intro _ hSw; (try dsimp only at hSw); go_simp; (try with_reducible rfl))
      try simp only [Act.put, List.setIfInBounds_toArray, List.set_cons_zero, List.set_cons_succ]
      refine wpAnyH_take (i := 15) (v := ?_) (by simp only [List.getElem?_toArray, List.getElem?_cons_succ, List.getElem?_cons_zero]; rfl) (by kernel_rfl) (by kernel_rfl) (by kernel_rfl) (by exact fun _ _ _ h => h) (Or.inl ⟨by rfl, ?_⟩) (by assumption) ?_
      rotate_left
      · (intro _ hSw; (try dsimp only at hSw); go_simp; (try with_reducible rfl))
      try simp only [Act.put, List.setIfInBounds_toArray, List.set_cons_zero, List.set_cons_succ]
      refine wpAnyH_take (i := 16) (v := ?_) (by simp only [List.getElem?_toArray, List.getElem?_cons_succ, List.getElem?_cons_zero]; rfl) (by kernel_rfl) (by kernel_rfl) (by kernel_rfl) (by exact fun _ _ _ h => h) (Or.inl ⟨by rfl, ?_⟩) (by assumption) ?_
      rotate_left
      · (intro _ hSw; (try dsimp only at hSw); go_simp; (try with_reducible rfl))
      try simp only [Act.put, List.setIfInBounds_toArray, List.set_cons_zero, List.set_cons_succ]
      refine wpAnyH_take (i := 17) (v := ?_) (by simp only [List.getElem?_toArray, List.getElem?_cons_succ, List.getElem?_cons_zero]; rfl) (by kernel_rfl) (by kernel_rfl) (by kernel_rfl) (by exact fun _ _ _ h => h) (Or.inl ⟨by rfl, ?_⟩) (by assumption) ?_
      rotate_left
      · (intro _ hSw; (try dsimp only at hSw); go_simp; (try with_reducible rfl))
      try simp only [Act.put, List.setIfInBounds_toArray, List.set_cons_zero, List.set_cons_succ]
      refine wpAnyH_ready (rs := [9]) (by kernel_rfl) (by simp) ?_
      refine AllReadyH.cons (by simp only [List.getElem?_toArray, List.getElem?_cons_succ, List.getElem?_cons_zero]; rfl) (fun Kq hKq => ?_) AllReadyH.nil
      (go_simp; refine (rown_any _ xk ((xi : Nat) : Int) xv xo xn xc xks HIN.out.1 HIN.out.2.2 (HIN.out.2.1.keepsN ((Keeps.refl no wr).drew))).mono ?_; rintro e z1 ⟨on, cn, rfl, h1⟩; have Z1 : Hid (Own TE z1 on cn xks ∧ New wr on ∧ Keeps no wr z1) := ⟨h1.out.1, h1.out.2.1.of_le ((Keeps.refl no wr).drew).size, ((Keeps.refl no wr).drew).trans h1.out.2.2⟩; have HK1 : Hid (Keeps no w z1) := HT.out.2.1.keep.trans Z1.out.2.2; have HK2 : Hid (Keeps no w (z1.alloc (.cells #[.string xk, .int .u64 ((xi : Nat) : Int), .string xv, .slice on xn cn, .int .i64 xst] 114))) := HK1.out.alloc _; clear h1)
      refine hKq.out _ _ ?_ (fun hHeldN => ?_)
      · exact HSX.out _ HK1.out
      clear hKq Kq hHeld
      have hHeld := hHeldN
      clear hHeldN
      refine wpAnyH_take (i := 18) (v := ?_) (by simp only [List.getElem?_toArray, List.getElem?_cons_succ, List.getElem?_cons_zero]; rfl) (by kernel_rfl) (by kernel_rfl) (by kernel_rfl) (by exact fun _ _ _ h => h) (Or.inl ⟨by rfl, ?_⟩) (by assumption) ?_
      rotate_left
      · (intro _ hSw; (try dsimp only at hSw); go_simp; (try with_reducible rfl))
      try simp only [Act.put, List.setIfInBounds_toArray, List.set_cons_zero, List.set_cons_succ]
      refine wpAnyH_ready (rs := [19]) (by kernel_rfl) (by simp) ?_
      refine AllReadyH.cons (by simp only [List.getElem?_toArray, List.getElem?_cons_succ, List.getElem?_cons_zero]; rfl) (fun Kq hKq => ?_) AllReadyH.nil
      go_simp
      refine hKq.out _ _ ?_ (fun hHeldN => ?_)
      · exact HSX.out _ HK2.out
      clear hKq Kq hHeld
      have hHeld := hHeldN
      clear hHeldN
      refine wpAnyH_ready (rs := [20]) (by kernel_rfl) (by simp) ?_
      refine AllReadyH.cons (by simp only [List.getElem?_toArray, List.getElem?_cons_succ, List.getElem?_cons_zero]; rfl) (fun Kq hKq => ?_) AllReadyH.nil
      (have HOW : Hid (Own KE (z1.alloc (.cells #[.string xk, .int .u64 ((xi : Nat) : Int), .string xv, .slice on xn cn, .int .i64 xst] 114)) ol cl ks') := HT.out.2.1.own.keepsN (Z1.out.2.2.alloc _); have HRW : Hid (Row KE (z1.alloc (.cells #[.string xk, .int .u64 ((xi : Nat) : Int), .string xv, .slice on xn cn, .int .i64 xst] 114)) (some ⟨z1.heap.size, 0, none⟩) [⟨(xk, xi), xv, on, cn, xks, xst⟩]) := (by have hh := (own_oneK z1 ⟨(xk, xi), xv, on, cn, xks, xst⟩).row; rw [← HIN.out.1] at hh; exact hh); refine step_appW okK rfl (.tmp 14) (.tmp 33) rfl ol m cl ks' rfl HT.out.1 HOW.out (some ⟨z1.heap.size, 0, none⟩) 1 1 [⟨(xk, xi), xv, on, cn, xks, xst⟩] rfl rfl (fun e => by cases e) HRW.out HRN.out.1 HRN.out.2 ?_; intro o2 c2 z2 ho2 hap2; have HP : Hid (Kl w (ks' ++ [⟨(xk, xi), xv, on, cn, xks, xst⟩]) o2 c2 z2) := HT.out.2.1.push (x := ⟨(xk, xi), xv, on, cn, xks, xst⟩) (Z1.out.1.keepsN ((Keeps.refl no z1).alloc _)) Z1.out.2.1 (Z1.out.2.2.alloc _) ho2 hap2; have HK3 : Hid (Keeps no w z2) := HP.out.keep; clear ho2 hap2)
      refine hKq.out _ _ ?_ (fun hHeldN => ?_)
      · exact HSX.out _ HK3.out
      clear hKq Kq hHeld
      have hHeld := hHeldN
      clear hHeldN
      refine wpAnyH_take (i := 21) (v := ?_) (by simp only [List.getElem?_toArray, List.getElem?_cons_succ, List.getElem?_cons_zero]; rfl) (by kernel_rfl) (by kernel_rfl) (by kernel_rfl) (by exact fun _ _ _ h => h) (Or.inl ⟨by rfl, ?_⟩) (by assumption) ?_
      rotate_left
      · (intro _ hSw; (try dsimp only at hSw); go_simp; (try with_reducible rfl))
      try simp only [Act.put, List.setIfInBounds_toArray, List.set_cons_zero, List.set_cons_succ]
      refine wpAnyH_done (by kernel_rfl) ?_ _
      clear hHeld
      go_wp2_with fail
      go_roundw
      case rel => exact ⟨t + 1, o2, _, c2, _, by omega, by go_num, rfl, by rw [HT.out.1]; simp, HP.out, ksEq_snoc HT.out.2.2 HX.out.1 HX.out.2⟩
      case measure => simp [intOf]; omega
    · have htl' : ¬ (t : Int) < nK := by omega
      go_wp2_with fail
      go_ret
      refine ⟨ol, m, cl, rfl, ks', HT.out.1, HT.out.2.1, ?_⟩
      have h := HT.out.2.2
      rw [List.take_of_length_le (by have := HA.out.1.nk; omega)] at h
      exact h
end Go.Proofs.YtdemoghlibnooaaGreatDoor
namespace Go.Proofs.YtdemoghlibnooaaGreatDoor
open Go.RowKit Go.Maps Go.Sort Orl
set_option linter.unusedVariables false
set_option linter.unusedSimpArgs false
structure Rl (s : St) (ks : List KV) (ls : List Mk) : Prop where
  is : IsKs s ks
  all : ∀ m, s.V m ≠ none → m ∈ ks.map (·.m)
  inc : Inc ltM (ks.map (·.m))
  la : IsLs s ls
theorem lastIn_is {s : St} {ls : List Mk} (h : IsLs s ls) (k : Tx) : lastIn ls k = s.last k := by
  unfold lastIn
  cases hf : fnd k ls with
  | some i => exact ((h.2 k i).1 (fnd_mem hf)).1.symm
  | none =>
    by_cases e : s.last k = 0
    · exact e.symm
    · have := (h.2 k (s.last k)).2 ⟨rfl, e⟩
      exact absurd rfl (fnd_none.1 hf _ this)
theorem mgetD (ks : List KV) (j : Nat) : (ks.map (·.m)).getD j (e0, 0) = (ks.getD j kv0).m := by
  simp only [List.getD_eq_getElem?_getD, List.getElem?_map]
  cases ks[j]? <;> rfl
theorem fpos_lt {m : Mk} : ∀ (ks : List KV) (j : Nat), j < fpos ks m → ltM (ks.getD j kv0).m m = true
  | [], j, h => by simp [fpos] at h
  | x :: r, j, h => by
    unfold fpos at h
    rw [List.takeWhile_cons] at h
    cases hx : ltM x.m m with
    | false => rw [hx] at h; simp at h
    | true =>
      rw [hx] at h
      cases j with
      | zero => exact hx
      | succ j => exact fpos_lt r j (by unfold fpos; simpa using h)
theorem fpos_at {m : Mk} : ∀ (ks : List KV), fpos ks m < ks.length → ltM (ks.getD (fpos ks m) kv0).m m = false
  | [], h => by simp [fpos] at h
  | x :: r, h => by
    cases hx : ltM x.m m with
    | false =>
      have e : fpos (x :: r) m = 0 := by unfold fpos; rw [List.takeWhile_cons, hx]; rfl
      rw [e]; exact hx
    | true =>
      have e : fpos (x :: r) m = fpos r m + 1 := by unfold fpos; rw [List.takeWhile_cons, if_pos hx]; rfl
      rw [e] at h ⊢
      exact fpos_at r (by simpa using h)
theorem fpos_ge {m : Mk} {ks : List KV} (hi : Inc ltM (ks.map (·.m))) {j : Nat} (h : fpos ks m ≤ j) (hj : j < ks.length) : ltM (ks.getD j kv0).m m = false := by
  have hat := fpos_at (m := m) ks (by omega)
  by_cases e : j = fpos ks m
  · rw [e]; exact hat
  · have h1 := inc_getD hi (e0, 0) (i := fpos ks m) (j := j) (by omega) (by simpa using hj)
    rw [mgetD, mgetD] at h1
    cases h2 : ltM (ks.getD j kv0).m m with
    | false => rfl
    | true => rw [swoM.trans _ _ _ h1 h2] at hat; cases hat
theorem there_iff {m : Mk} {ks : List KV} (hi : Inc ltM (ks.map (·.m))) : there ks m = true ↔ m ∈ ks.map (·.m) := by
  constructor
  · intro h
    simp only [there, Bool.and_eq_true, decide_eq_true_eq] at h
    exact List.mem_map.2 ⟨_, getD_mem_lt kv0 h.1, h.2⟩
  · intro h
    obtain ⟨x, hx, e⟩ := List.mem_map.1 h
    obtain ⟨j, hj, rfl⟩ := List.getElem_of_mem hx
    have g : ks.getD j kv0 = ks[j] := by simp [List.getD_eq_getElem?_getD, hj]
    have h1 : ¬ j < fpos ks m := fun hc => by
      have := fpos_lt ks j hc
      rw [g, e, swoM.irrefl] at this; cases this
    have hf : fpos ks m < ks.length := by omega
    have hat := fpos_at ks hf
    have hje : j = fpos ks m := by
      rcases Nat.lt_or_ge (fpos ks m) j with hc | hc
      · have h2 := inc_getD hi (e0, 0) (i := fpos ks m) (j := j) hc (by simpa using hj)
        rw [mgetD, mgetD, g, e, hat] at h2
        cases h2
      · omega
    simp only [there, Bool.and_eq_true, decide_eq_true_eq]
    exact ⟨hf, by rw [← hje, g]; exact e⟩
theorem Rl.there {s : St} {ks : List KV} {ls : List Mk} (h : Rl s ks ls) (m : Mk) : there ks m = (s.V m).isSome := by
  cases hv : s.V m with
  | none =>
    cases ht : Go.Proofs.YtdemoghlibnooaaGreatDoor.there ks m with
    | false => rfl
    | true =>
      obtain ⟨x, hx, rfl⟩ := List.mem_map.1 ((there_iff h.inc).1 ht)
      rw [h.is x hx] at hv; cases hv
  | some v => exact (there_iff h.inc).2 (h.all m (by rw [hv]; simp))
def insK (ks : List KV) (x : KV) : List KV := ks.take (fpos ks x.m) ++ x :: ks.drop (fpos ks x.m)
theorem insK_mem {ks : List KV} {x y : KV} : y ∈ insK ks x ↔ y = x ∨ y ∈ ks := by
  have h : y ∈ ks ↔ y ∈ ks.take (fpos ks x.m) ∨ y ∈ ks.drop (fpos ks x.m) := by rw [← List.mem_append, List.take_append_drop]
  unfold insK
  rw [List.mem_append, List.mem_cons, h]
  constructor
  · rintro (h | h | h)
    · exact .inr (.inl h)
    · exact .inl h
    · exact .inr (.inr h)
  · rintro (h | h | h)
    · exact .inr (.inl h)
    · exact .inl h
    · exact .inr (.inr h)
theorem insK_length (ks : List KV) (x : KV) : (insK ks x).length = ks.length + 1 := by
  have := fpos_le ks x.m
  simp only [insK, List.length_append, List.length_cons, List.length_take, List.length_drop]
  omega
theorem mem_take_getD {α : Type} {l : List α} {n : Nat} {y : α} (d : α) (h : y ∈ l.take n) : ∃ j, j < n ∧ j < l.length ∧ y = l.getD j d := by
  obtain ⟨j, hj, rfl⟩ := List.getElem_of_mem h
  rw [List.length_take] at hj
  refine ⟨j, by omega, by omega, ?_⟩
  rw [List.getElem_take]
  simp [List.getD_eq_getElem?_getD, show j < l.length by omega]
theorem mem_drop_getD {α : Type} {l : List α} {n : Nat} {y : α} (d : α) (h : y ∈ l.drop n) : ∃ j, n ≤ j ∧ j < l.length ∧ y = l.getD j d := by
  obtain ⟨j, hj, rfl⟩ := List.getElem_of_mem h
  rw [List.length_drop] at hj
  refine ⟨n + j, by omega, by omega, ?_⟩
  rw [List.getElem_drop]
  simp [List.getD_eq_getElem?_getD, show n + j < l.length by omega]
theorem insK_inc {ks : List KV} {x : KV} (hi : Inc ltM (ks.map (·.m))) (hn : x.m ∉ ks.map (·.m)) : Inc ltM ((insK ks x).map (·.m)) := by
  have hd : ∀ y ∈ ks.drop (fpos ks x.m), ltM x.m y.m = true := fun y hy => by
    obtain ⟨j, h1, h2, rfl⟩ := mem_drop_getD kv0 hy
    have h3 := fpos_ge hi h1 h2
    cases h4 : ltM x.m (ks.getD j kv0).m with
    | true => rfl
    | false =>
      have := triM _ _ h3 h4
      exact absurd (List.mem_map.2 ⟨_, getD_mem_lt kv0 h2, this⟩) hn
  have ht : ∀ y ∈ ks.take (fpos ks x.m), ltM y.m x.m = true := fun y hy => by
    obtain ⟨j, h1, h2, rfl⟩ := mem_take_getD kv0 hy
    exact fpos_lt ks j h1
  unfold Inc at hi ⊢
  unfold insK
  rw [List.map_append, List.map_cons, List.pairwise_append]
  refine ⟨hi.sublist ((List.take_sublist _ _).map _), List.pairwise_cons.2 ⟨fun a ha => ?_, hi.sublist ((List.drop_sublist _ _).map _)⟩, fun a ha b hb => ?_⟩
  · obtain ⟨y, hy, rfl⟩ := List.mem_map.1 ha
    exact hd y hy
  · obtain ⟨y, hy, rfl⟩ := List.mem_map.1 ha
    rcases List.mem_cons.1 hb with rfl | hb
    · exact ht y hy
    · obtain ⟨z, hz, rfl⟩ := List.mem_map.1 hb
      exact swoM.trans _ _ _ (ht y hy) (hd z hz)
theorem Rl.add {s : St} {ks : List KV} {ls : List Mk} (h : Rl s ks ls) (x : KV) (hn : s.V x.m = none) : Rl (s.add x.m x.vr) (insK ks x) ls := by
  refine ⟨fun y hy => ?_, fun m hm => ?_, insK_inc h.inc (fun hc => ?_), h.la⟩
  · rcases insK_mem.1 hy with rfl | hy
    · simp [St.add, KV.vr]
    · have h1 := h.is y hy
      have hne : y.m ≠ x.m := fun e => by rw [e, hn] at h1; cases h1
      simp only [St.add, if_neg hne]
      exact h1
  · by_cases e : m = x.m
    · exact List.mem_map.2 ⟨x, insK_mem.2 (.inl rfl), e.symm⟩
    · simp only [St.add, if_neg e] at hm
      obtain ⟨y, hy, rfl⟩ := List.mem_map.1 (h.all m hm)
      exact List.mem_map.2 ⟨y, insK_mem.2 (.inr hy), rfl⟩
  · obtain ⟨y, hy, e⟩ := List.mem_map.1 hc
    have := h.is y hy
    rw [e, hn] at this; cases this
end Go.Proofs.YtdemoghlibnooaaGreatDoor
namespace Go.Proofs.YtdemoghlibnooaaGreatDoor
open Go.RowKit Go.Maps Go.Sort Orl
set_option linter.unusedVariables false
set_option linter.unusedSimpArgs false
theorem set_same {α : Type} : ∀ (l : List α) (n : Nat) (k : α), l[n]? = some k → l.set n k = l
  | [], _, _, h => by simp at h
  | x :: r, 0, k, h => by simp at h; rw [h]; rfl
  | x :: r, n + 1, k, h => by rw [List.set_cons_succ, set_same r n k (by simpa using h)]
theorem len_sub {α : Type} [DecidableEq α] : ∀ (l1 l2 : List α), l1.Nodup → (∀ x ∈ l1, x ∈ l2) → l1.length ≤ l2.length
  | [], _, _, _ => Nat.zero_le _
  | x :: r, l2, hn, hs => by
    obtain ⟨h1, h2⟩ := List.nodup_cons.1 hn
    have hx := hs x (by simp)
    have h3 := len_sub r (l2.erase x) h2 (fun y hy => (List.mem_erase_of_ne (fun e => h1 (by rw [← e]; exact hy))).2 (hs y (by simp [hy])))
    rw [List.length_erase_of_mem hx] at h3
    have h4 : 0 < l2.length := List.length_pos_of_mem hx
    simp only [List.length_cons]; omega
def hasM (ks : List KV) (m : Mk) : Bool := ks.any fun x => decide (x.m = m)
theorem hasM_iff {ks : List KV} {m : Mk} : hasM ks m = true ↔ m ∈ ks.map (·.m) := by
  unfold hasM
  rw [List.any_eq_true, List.mem_map]
  simp only [decide_eq_true_eq]
theorem hasM_cons (x : KV) (r : List KV) (m : Mk) : hasM (x :: r) m = (decide (x.m = m) || hasM r m) := rfl
theorem nodup_getD {α : Type} {l : List α} (h : l.Nodup) (d : α) {i j : Nat} (hi : i < l.length) (hj : j < l.length) (e : l.getD i d = l.getD j d) : i = j := by
  rw [List.getD_eq_getElem?_getD, List.getD_eq_getElem?_getD, List.getElem?_eq_getElem hi, List.getElem?_eq_getElem hj] at e
  have e' : l[i] = l[j] := e
  unfold List.Nodup at h
  rw [List.pairwise_iff_getElem] at h
  rcases Nat.lt_trichotomy i j with hij | hij | hij
  · exact absurd e' (h i j hi hj hij)
  · exact hij
  · exact absurd e'.symm (h j i hj hi hij)
def rpos (ls : List Mk) (k : Tx) : Nat := (ls.takeWhile fun x => lts x.1 k).length
theorem lgetD (ls : List Mk) (j : Nat) : (ls.map (·.1)).getD j e0 = (ls.getD j (e0, 0)).1 := by
  simp only [List.getD_eq_getElem?_getD, List.getElem?_map]
  cases ls[j]? <;> rfl
theorem rpos_of {m : Tx} : ∀ (ks : List Mk) (t : Nat), t ≤ ks.length → (∀ j, j < t → lts (ks.getD j (e0, 0)).1 m = true) → (t < ks.length → lts (ks.getD t (e0, 0)).1 m = false) → rpos ks m = t
  | [], t, h, _, _ => by simp at h; subst h; rfl
  | x :: r, 0, _, _, h => by
    have h1 : lts x.1 m = false := h (by simp)
    simp [rpos, List.takeWhile_cons, h1]
  | x :: r, t + 1, h, h1, h2 => by
    have h3 : lts x.1 m = true := h1 0 (by omega)
    have := rpos_of r t (by simpa using h) (fun j hj => h1 (j + 1) (by omega)) (fun hl => h2 (by simpa using hl))
    unfold rpos at this ⊢
    rw [List.takeWhile_cons, if_pos h3, List.length_cons, this]
theorem rpos_lt {m : Tx} : ∀ (ks : List Mk) (j : Nat), j < rpos ks m → lts (ks.getD j (e0, 0)).1 m = true
  | [], j, h => by simp [rpos] at h
  | x :: r, j, h => by
    unfold rpos at h
    rw [List.takeWhile_cons] at h
    cases hx : lts x.1 m with
    | false => rw [hx] at h; simp at h
    | true =>
      rw [hx] at h
      cases j with
      | zero => exact hx
      | succ j => exact rpos_lt r j (by unfold rpos; simpa using h)
theorem rpos_at {m : Tx} : ∀ (ks : List Mk), rpos ks m < ks.length → lts (ks.getD (rpos ks m) (e0, 0)).1 m = false
  | [], h => by simp [rpos] at h
  | x :: r, h => by
    cases hx : lts x.1 m with
    | false =>
      have e : rpos (x :: r) m = 0 := by unfold rpos; rw [List.takeWhile_cons, hx]; rfl
      rw [e]; exact hx
    | true =>
      have e : rpos (x :: r) m = rpos r m + 1 := by unfold rpos; rw [List.takeWhile_cons, if_pos hx]; rfl
      rw [e] at h ⊢
      exact rpos_at r (by simpa using h)
theorem rpos_ge {m : Tx} {ks : List Mk} (hi : Inc lts (ks.map (·.1))) {j : Nat} (h : rpos ks m ≤ j) (hj : j < ks.length) : lts (ks.getD j (e0, 0)).1 m = false := by
  have hat := rpos_at (m := m) ks (by omega)
  by_cases e : j = rpos ks m
  · rw [e]; exact hat
  · have h1 := inc_getD hi e0 (i := rpos ks m) (j := j) (by omega) (by simpa using hj)
    rw [lgetD, lgetD] at h1
    cases h2 : lts (ks.getD j (e0, 0)).1 m with
    | false => rfl
    | true => rw [swoT.trans _ _ _ h1 h2] at hat; cases hat
def insL (ks : List Mk) (x : Mk) : List Mk := ks.take (rpos ks x.1) ++ x :: ks.drop (rpos ks x.1)
theorem insL_mem {ks : List Mk} {x y : Mk} : y ∈ insL ks x ↔ y = x ∨ y ∈ ks := by
  have h : y ∈ ks ↔ y ∈ ks.take (rpos ks x.1) ∨ y ∈ ks.drop (rpos ks x.1) := by rw [← List.mem_append, List.take_append_drop]
  unfold insL
  rw [List.mem_append, List.mem_cons, h]
  constructor
  · rintro (h | h | h)
    · exact .inr (.inl h)
    · exact .inl h
    · exact .inr (.inr h)
  · rintro (h | h | h)
    · exact .inr (.inl h)
    · exact .inl h
    · exact .inr (.inr h)
theorem insL_inc {ks : List Mk} {x : Mk} (hi : Inc lts (ks.map (·.1))) (hn : x.1 ∉ ks.map (·.1)) : Inc lts ((insL ks x).map (·.1)) := by
  have hd : ∀ y ∈ ks.drop (rpos ks x.1), lts x.1 y.1 = true := fun y hy => by
    obtain ⟨j, h1, h2, rfl⟩ := mem_drop_getD (e0, 0) hy
    have h3 := rpos_ge hi h1 h2
    cases h4 : lts x.1 (ks.getD j (e0, 0)).1 with
    | true => rfl
    | false =>
      have := triT _ _ h3 h4
      exact absurd (List.mem_map.2 ⟨_, getD_mem_lt (e0, 0) h2, this⟩) hn
  have ht : ∀ y ∈ ks.take (rpos ks x.1), lts y.1 x.1 = true := fun y hy => by
    obtain ⟨j, h1, h2, rfl⟩ := mem_take_getD (e0, 0) hy
    exact rpos_lt ks j h1
  unfold Inc at hi ⊢
  unfold insL
  rw [List.map_append, List.map_cons, List.pairwise_append]
  refine ⟨hi.sublist ((List.take_sublist _ _).map _), List.pairwise_cons.2 ⟨fun a ha => ?_, hi.sublist ((List.drop_sublist _ _).map _)⟩, fun a ha b hb => ?_⟩
  · obtain ⟨y, hy, rfl⟩ := List.mem_map.1 ha
    exact hd y hy
  · obtain ⟨y, hy, rfl⟩ := List.mem_map.1 ha
    rcases List.mem_cons.1 hb with rfl | hb
    · exact ht y hy
    · obtain ⟨z, hz, rfl⟩ := List.mem_map.1 hb
      exact swoT.trans _ _ _ (ht y hy) (hd z hz)
def raiseL (ls : List Mk) (k : Tx) (i : Nat) : List Mk := if rpos ls k < ls.length ∧ (ls.getD (rpos ls k) (e0, 0)).1 = k then ls.set (rpos ls k) (k, i) else insL ls (k, i)
theorem raise_is {s : St} {ls : List Mk} (h : IsLs s ls) (k : Tx) (i : Nat) (hi : i ≠ 0) : IsLs (setLast s (k, i)) (raiseL ls k i) := by
  unfold raiseL
  by_cases hc : rpos ls k < ls.length ∧ (ls.getD (rpos ls k) (e0, 0)).1 = k
  · rw [if_pos hc]
    have hnd := inc_nodup swoT h.1
    have hm : (ls.set (rpos ls k) (k, i)).map (·.1) = ls.map (·.1) := by
      rw [List.map_set]
      have : (ls.map (·.1))[rpos ls k]? = some k := by
        rw [List.getElem?_map, List.getElem?_eq_getElem hc.1]
        have := hc.2
        rw [List.getD_eq_getElem?_getD, List.getElem?_eq_getElem hc.1] at this
        exact congrArg some this
      exact set_same _ _ _ this
    refine ⟨by rw [hm]; exact h.1, fun k' j => ?_⟩
    have hmem : (k', j) ∈ ls.set (rpos ls k) (k, i) ↔ (k' = k ∧ j = i) ∨ (k' ≠ k ∧ (k', j) ∈ ls) := by
      constructor
      · intro hx
        obtain ⟨q, hq, e⟩ := List.getElem_of_mem hx
        rw [List.length_set] at hq
        rw [List.getElem_set] at e
        by_cases hqn : rpos ls k = q
        · rw [if_pos hqn] at e
          injection e with e1 e2
          exact .inl ⟨e1.symm, e2.symm⟩
        · rw [if_neg hqn] at e
          refine .inr ⟨fun ek => ?_, by rw [← e]; exact List.getElem_mem hq⟩
          have e3 : (ls.map (·.1)).getD q e0 = (ls.map (·.1)).getD (rpos ls k) e0 := by
            rw [lgetD, lgetD, hc.2]
            rw [List.getD_eq_getElem?_getD, List.getElem?_eq_getElem hq]
            show (ls[q]).1 = k
            rw [e]; exact ek
          exact hqn ((nodup_getD hnd e0 (by simpa using hq) (by simpa using hc.1) e3).symm)
      · rintro (⟨rfl, rfl⟩ | ⟨hne, hx⟩)
        · exact List.mem_set hc.1 _
        · obtain ⟨q, hq, e⟩ := List.getElem_of_mem hx
          have hqn : rpos ls k ≠ q := fun eq => by
            subst eq
            have := hc.2
            rw [List.getD_eq_getElem?_getD, List.getElem?_eq_getElem hq] at this
            have e4 : (ls[rpos ls k]).1 = k := this
            rw [e] at e4
            exact hne e4
          rw [← e]
          exact List.mem_iff_getElem.2 ⟨q, by rw [List.length_set]; exact hq, by rw [List.getElem_set, if_neg hqn]⟩
    rw [hmem, h.2 k' j]
    simp only [setLast]
    by_cases ek : k' = k
    · rw [if_pos ek]
      constructor
      · rintro (⟨_, rfl⟩ | ⟨hne, _⟩)
        · exact ⟨rfl, hi⟩
        · exact absurd ek hne
      · rintro ⟨e, _⟩
        exact .inl ⟨ek, e.symm⟩
    · rw [if_neg ek]
      constructor
      · rintro (⟨e, _⟩ | ⟨_, hx⟩)
        · exact absurd e ek
        · exact hx
      · exact fun hx => .inr ⟨ek, hx⟩
  · rw [if_neg hc]
    have hk : k ∉ ls.map (·.1) := fun hm => by
      obtain ⟨x, hx, e⟩ := List.mem_map.1 hm
      obtain ⟨q, hq, rfl⟩ := List.getElem_of_mem hx
      have g : ls.getD q (e0, 0) = ls[q] := by simp [List.getD_eq_getElem?_getD, hq]
      have h1 : ¬ q < rpos ls k := fun hh => by
        have := rpos_lt ls q hh
        rw [g, e, swoT.irrefl] at this; cases this
      have hf : rpos ls k < ls.length := by omega
      have hat := rpos_at ls hf
      refine hc ⟨hf, ?_⟩
      rcases Nat.lt_or_ge (rpos ls k) q with hh | hh
      · have h2 := inc_getD h.1 e0 (i := rpos ls k) (j := q) hh (by simpa using hq)
        rw [lgetD, lgetD, g, e, hat] at h2
        cases h2
      · have : rpos ls k = q := by omega
        rw [this, g]; exact e
    refine ⟨insL_inc h.1 hk, fun k' j => ?_⟩
    rw [insL_mem, h.2 k' j]
    simp only [setLast]
    by_cases ek : k' = k
    · rw [if_pos ek]
      constructor
      · rintro (e | ⟨e, hj⟩)
        · injection e with _ e2; exact ⟨e2.symm, by rw [e2]; exact hi⟩
        · exact absurd (List.mem_map.2 ⟨(k', j), (h.2 k' j).2 ⟨e, hj⟩, ek⟩) hk
      · rintro ⟨e, _⟩
        exact .inl (by rw [ek, e])
    · rw [if_neg ek]
      constructor
      · rintro (e | hx)
        · injection e with e1 _; exact absurd e1 ek
        · exact hx
      · exact .inr
theorem IsLs.congr {s s' : St} {ls : List Mk} (h : IsLs s ls) (he : ∀ k, s'.last k = s.last k) : IsLs s' ls := ⟨h.1, fun k i => by rw [he]; exact h.2 k i⟩
def stepL (i : Nat) (ls : List Mk) (x : KV) : List Mk := if x.m.2 = i ∧ lastIn ls x.m.1 < i then raiseL ls x.m.1 i else ls
def upL (b : Bool) (l i : Nat) : Nat := if (b && decide (l < i)) = true then i else l
theorem upL_t {l i : Nat} (h : l < i) : upL true l i = i := by unfold upL; rw [decide_eq_true h]; rfl
theorem upL_n {b : Bool} {l i : Nat} (h : ¬ l < i) : upL b l i = l := by unfold upL; rw [decide_eq_false h, Bool.and_false]; rfl
theorem comLs_is (i : Nat) (hi : i ≠ 0) : ∀ (ks : List KV) (s : St) (ls : List Mk), IsLs s ls → IsLs ⟨s.V, fun k => upL (hasM ks (k, i)) (s.last k) i⟩ (ks.foldl (stepL i) ls)
  | [], s, ls, h => h.congr (fun k => rfl)
  | x :: r, s, ls, h => by
    have hx : lastIn ls x.m.1 = s.last x.m.1 := lastIn_is h _
    rw [List.foldl_cons]
    by_cases hc : x.m.2 = i ∧ s.last x.m.1 < i
    · have e : stepL i ls x = raiseL ls x.m.1 i := by unfold stepL; rw [hx, if_pos hc]
      rw [e]
      refine (comLs_is i hi r _ _ (raise_is h x.m.1 i hi)).congr (fun k => ?_)
      show upL (hasM (x :: r) (k, i)) (s.last k) i = upL (hasM r (k, i)) (if k = x.m.1 then i else s.last k) i
      have hxm : x.m = (x.m.1, i) := by rw [← hc.1]
      by_cases ek : k = x.m.1
      · have h1 : decide (x.m = (k, i)) = true := decide_eq_true (by rw [ek]; exact hxm)
        rw [hasM_cons, h1, Bool.true_or, if_pos ek, upL_t (by rw [ek]; exact hc.2), upL_n (Nat.lt_irrefl i)]
      · have h1 : decide (x.m = (k, i)) = false := decide_eq_false (fun e => ek (by rw [e]))
        rw [hasM_cons, h1, Bool.false_or, if_neg ek]
    · have e : stepL i ls x = ls := by unfold stepL; rw [hx, if_neg hc]
      rw [e]
      refine (comLs_is i hi r s ls h).congr (fun k => ?_)
      show upL (hasM (x :: r) (k, i)) (s.last k) i = upL (hasM r (k, i)) (s.last k) i
      by_cases ek : x.m = (k, i)
      · have h1 : ¬ s.last k < i := fun hh => hc (by rw [ek]; exact ⟨rfl, hh⟩)
        rw [upL_n h1, upL_n h1]
      · rw [hasM_cons, decide_eq_false ek, Bool.false_or]
def stampK (ls : List Mk) (now : Int) (x : KV) : KV := if x.stamp = -1 ∧ x.m.2 < lastIn ls x.m.1 then { x with stamp := now } else x
theorem stampK_m (ls : List Mk) (now : Int) (x : KV) : (stampK ls now x).m = x.m := by unfold stampK; split <;> rfl
theorem Rl.com {s : St} {ks : List KV} {ls : List Mk} (h : Rl s ks ls) (hok : Ok s) (i : Nat) (hi : i ≠ 0) (now : Int) : Rl (commitS s i now) (ks.map (stampK (ks.foldl (stepL i) ls) now)) (ks.foldl (stepL i) ls) := by
  have hup : ∀ k, upB s i k = true ↔ hasM ks (k, i) = true ∧ s.last k < i := fun k => by
    rw [upB_iff, hasM_iff]
    refine and_congr_left (fun _ => ⟨h.all _, fun hm => ?_⟩)
    obtain ⟨x, hx, e⟩ := List.mem_map.1 hm
    rw [← e, h.is x hx]; simp
  have hls : IsLs (commitS s i now) (ks.foldl (stepL i) ls) := (comLs_is i hi ks s ls h.la).congr (fun k => by
    rw [com_last]
    by_cases hu : upB s i k = true
    · rw [if_pos hu]
      obtain ⟨q1, q2⟩ := (hup k).1 hu
      show i = upL (hasM ks (k, i)) (s.last k) i
      rw [q1, upL_t q2]
    · rw [if_neg hu]
      show s.last k = upL (hasM ks (k, i)) (s.last k) i
      cases hm : hasM ks (k, i) with
      | false => rfl
      | true => rw [upL_n (fun hl => hu ((hup k).2 ⟨hm, hl⟩))])
  have hm : (ks.map (stampK (ks.foldl (stepL i) ls) now)).map (·.m) = ks.map (·.m) := by
    rw [List.map_map]
    exact List.map_congr_left (fun x _ => stampK_m _ _ x)
  refine ⟨fun y hy => ?_, fun m hm' => ?_, by rw [hm]; exact h.inc, hls⟩
  · obtain ⟨x, hx, rfl⟩ := List.mem_map.1 hy
    have hv := h.is x hx
    rw [stampK_m, com_V]
    have hl : lastIn (ks.foldl (stepL i) ls) x.m.1 = if upB s i x.m.1 = true then i else s.last x.m.1 := by rw [lastIn_is hls, com_last]
    unfold stampK
    rw [hl]
    by_cases hu : upB s i x.m.1 = true
    · rw [if_pos hu]
      by_cases hlt : x.m.2 < i
      · rw [if_pos ⟨hu, hlt⟩, hv]
        by_cases hs : x.stamp = -1
        · rw [if_pos ⟨hs, hlt⟩]
          simp [stamped, hs, Vr.at]
        · rw [if_neg (fun hh => hs hh.1)]
          simp [stamped, hs]
      · rw [if_neg (fun hh => hlt hh.2), if_neg (fun hh => hlt hh.2), hv]
    · rw [if_neg hu, if_neg (fun hh => hu hh.1)]
      by_cases hs : x.stamp = -1 ∧ x.m.2 < s.last x.m.1
      · have := ((hok.st _ _ hv).1 hs.2).1
        simp only at this
        omega
      · rw [if_neg hs, hv]
  · rw [hm]
    exact h.all m ((comD_iff m).1 hm')
def hasC (ks : List KV) (i : Nat) : Nat := (ks.filter fun x => decide (x.m.2 = i)).length
theorem miss_take (s : St) (i : Nat) (ps : List Pr) (t : Nat) (ht : t < ps.length) : miss s i (ps.take (t + 1)) = miss s i (ps.take t) ++ (if (s.V ((ps.getD t p0).1, i)).isNone = true then [ps.getD t p0] else []) := by
  unfold miss
  rw [take_succ_getD ps t p0 ht, List.filter_append]
  congr 1
  by_cases hv : (s.V ((ps.getD t p0).1, i)).isNone = true
  · rw [if_pos hv, List.filter_cons, if_pos hv]; rfl
  · rw [if_neg hv, List.filter_cons, if_neg hv]; rfl
theorem put_at {s : St} {i : Nat} {keys : List Tx} {now : Int} {ps : List Pr} (hr : Inc ltp ps) {t : Nat} (ht : t < ps.length) : (putAll i keys now s (miss s i (ps.take t))).V ((ps.getD t p0).1, i) = s.V ((ps.getD t p0).1, i) := by
  refine putAll_V _ _ _ _ _ _ (fun p hp e => ?_)
  have hp' : p ∈ ps.take t := (List.mem_filter.1 hp).1
  obtain ⟨j, hj, hjl, rfl⟩ := mem_take_getD p0 hp'
  have h1 := inc_getD hr p0 (i := j) (j := t) hj ht
  have h2 : (ps.getD j p0).1 = (ps.getD t p0).1 := (Prod.mk.inj e).1
  unfold ltp at h1
  rw [h2, swoT.irrefl] at h1
  cases h1
theorem Rl.put {s : St} {ks : List KV} {ls : List Mk} {i : Nat} {keys : List Tx} {now : Int} {ps : List Pr} {t : Nat} (h : Rl (putAll i keys now s (miss s i (ps.take t))) ks ls) (hr : Inc ltp ps) (ht : t < ps.length) :
    (Go.Proofs.YtdemoghlibnooaaGreatDoor.there ks ((ps.getD t p0).1, i) = true → miss s i (ps.take (t + 1)) = miss s i (ps.take t)) ∧
    (Go.Proofs.YtdemoghlibnooaaGreatDoor.there ks ((ps.getD t p0).1, i) = false → miss s i (ps.take (t + 1)) = miss s i (ps.take t) ++ [ps.getD t p0] ∧ ∀ o c, Rl (putAll i keys now s (miss s i (ps.take (t + 1)))) (insK ks ⟨((ps.getD t p0).1, i), (ps.getD t p0).2, o, c, keys, if i < lastIn ls (ps.getD t p0).1 then now else -1⟩) ls) := by
  have e1 := h.there ((ps.getD t p0).1, i)
  rw [put_at hr ht] at e1
  rw [e1]
  refine ⟨fun hs => ?_, fun hs => ?_⟩
  · rw [miss_take s i ps t ht, if_neg (by cases hv : s.V ((ps.getD t p0).1, i) with | none => rw [hv] at hs; cases hs | some v => simp), List.append_nil]
  · have hv : s.V ((ps.getD t p0).1, i) = none := by
      cases hv : s.V ((ps.getD t p0).1, i) with
      | none => rfl
      | some v => rw [hv] at hs; cases hs
    have e2 : miss s i (ps.take (t + 1)) = miss s i (ps.take t) ++ [ps.getD t p0] := by
      rw [miss_take s i ps t ht, if_pos (by rw [hv]; rfl)]
    refine ⟨e2, fun o c => ?_⟩
    rw [e2, putAll_snoc]
    unfold put1
    have h3 := h.add ⟨((ps.getD t p0).1, i), (ps.getD t p0).2, o, c, keys, if i < lastIn ls (ps.getD t p0).1 then now else -1⟩ (by rw [put_at hr ht]; exact hv)
    rw [show stampOf (putAll i keys now s (miss s i (ps.take t))) i now (ps.getD t p0).1 = (if i < lastIn ls (ps.getD t p0).1 then now else -1) by unfold stampOf; rw [lastIn_is h.la]]
    exact h3
theorem pairs_few {i : Nat} {ps : List Pr} {keys : List Tx} {now : Int} (h : okPut i ps keys now = true) : ps.length ≤ 1024 := by
  obtain ⟨_, h2, h3, _⟩ := okPut_iff.1 h
  obtain ⟨h4, _, h5⟩ := okPairs_iff.1 h3
  have hk := (okKeys_iff.1 h2).1.2
  have hnd : (ps.map (·.1)).Nodup := by
    have : Inc lts (ps.map (·.1)) := by
      unfold Inc at h5 ⊢
      rw [List.pairwise_map]
      exact h5
    exact inc_nodup swoT this
  have hsub : ∀ k ∈ ps.map (·.1), k ∈ keys := fun k hk' => by
    obtain ⟨p, hp, rfl⟩ := List.mem_map.1 hk'
    exact (h4 p hp).2
  have := len_sub _ _ hnd hsub
  rw [List.length_map] at this
  omega
end Go.Proofs.YtdemoghlibnooaaGreatDoor

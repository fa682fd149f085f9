import Derived.Test.YtkoaiibjahlnmaaGreatDR
/- The document's Kept, Lasts. -/
namespace Go.Proofs.YtkoaiibjahlnmaaGreat
open Go.RowKit Go.Maps Go.Sort Orl
set_option linter.unusedVariables false
set_option linter.unusedSimpArgs false

theorem rLasts_any (w : World) (p : Nat) (oK : Option Addr) (nK cK : Nat) (oL : Option Addr) (nL cL : Nat) (ks : List KV) (ls : List Mk) (h : RD w p oK nK cK oL nL cL ks ls) :
    Calls Tryz.prog 27 #[.pointer (some ⟨p, 0, none⟩)] w fun e w' => ∃ o n c, e = .returned (.slice o n c) ∧ Hid (n = ls.length ∧ Own LE w' o c ls ∧ New w o ∧ Keeps no w w') := by
  have HA : Hid (RD w p oK nK cK oL nL cL ks ls) := h
  have b1 := cell_of_blk h.b 1
  have HB : Hid (ls.length * 24 ≤ 140737488355328 ∧ ls.length ≤ 140737488355328) := (show _ ∧ _ by have := h.ll; omega)
  clear h
  go_enter Tryz.func27, Tryz.ntmps27
  go_wp2_with (at_builtin; refine wpList_app okL rfl _ _ rfl _ _ _ ([] : List Mk) rfl rfl (own_nil _) _ _ _ ls rfl HA.out.nl HA.out.l.nil HA.out.l.row (by have := HB.out.1; simpa [LE] using this) (by have := HB.out.2; simpa using this) ?_; intro o6 c6 w6 ho6 hap6; have H6 : Hid (Own LE w6 o6 c6 ls ∧ New w o6 ∧ Keeps no w w6) := ⟨ho6, (hap6.new (new_none w) (Keeps.refl no w)).1, (hap6.new (new_none w) (Keeps.refl no w)).2⟩; clear ho6 hap6)
  go_ret
  exact ⟨o6, _, c6, rfl, HA.out.nl, H6.out.1, H6.out.2.1, H6.out.2.2⟩
theorem ksEq_snoc {ks ks' : List KV} {t : Nat} (he : KsEq (ks.take t) ks') {xk : Tx} {xi : Nat} {xv : Tx} {xo : Option Addr} {xc : Nat} {xks : List Tx} {xst : Int} {on : Option Addr} {cn : Nat} (hx : ⟨(xk, xi), xv, xo, xc, xks, xst⟩ = ks.getD t kv0) (ht : t < ks.length) : KsEq (ks.take (t + 1)) (ks' ++ [⟨(xk, xi), xv, on, cn, xks, xst⟩]) := by
  have hlk : ks'.length = t := by rw [← he.1, List.length_take]; omega
  refine ⟨by rw [List.length_append, hlk, List.length_take]; simp; omega, fun j hj => ?_⟩
  rw [List.length_take] at hj
  rw [take_succ_getD ks t kv0 ht, getD_app2, getD_app2, List.length_take, Nat.min_eq_left (Nat.le_of_lt ht), hlk]
  by_cases e : j < t
  · rw [if_pos e, if_pos e]
    exact he.2 j (by rw [List.length_take]; omega)
  · have e' : j = t := by omega
    rw [if_neg e, if_neg e, e', Nat.sub_self, ← hx]
    exact ⟨rfl, rfl, rfl, rfl⟩
structure RK (w : World) (ks : List KV) : Prop where
  key : ∀ x ∈ ks, Sl TE w x.o x.c x.keys ∧ x.keys.length ≤ 8796093021952
theorem RK.keepsN {w w' : World} {ks : List KV} (h : RK w ks) (hk : Keeps no w w') : RK w' ks := ⟨fun x hx => ⟨(h.key x hx).1.keepsN hk, (h.key x hx).2⟩⟩
set_option maxRecDepth 10000 in
set_option maxHeartbeats 1000000 in
theorem rKept_any (w : World) (p : Nat) (oK : Option Addr) (nK cK : Nat) (oL : Option Addr) (nL cL : Nat) (ks : List KV) (ls : List Mk) (h : RD w p oK nK cK oL nL cL ks ls) (hk : RK w ks) :
    Calls Tryz.prog 26 #[.pointer (some ⟨p, 0, none⟩)] w fun e w' => ∃ o n c, e = .returned (.slice o n c) ∧ Hid (∃ ks', n = ks'.length ∧ Kl w ks' o c w' ∧ KsEq ks ks') := by
  have HA : Hid (RD w p oK nK cK oL nL cL ks ls ∧ RK w ks) := ⟨h, hk⟩
  have hA : (nK : Int) ≤ 1954687338211 := by have := h.nk; have := h.lk; omega
  clear h hk
  go_enter Tryz.func26, Tryz.ntmps26
  go_wp2_with fail
  go_loopw [3, 4] (fun z3 z wr => ∃ (t : Nat) (ol : Option Addr) (m cl : Nat) (ks' : List KV), t ≤ nK ∧ z = .int .i64 t ∧ z3 = .slice ol m cl ∧ Hid (m = ks'.length ∧ Kl w ks' ol cl wr ∧ KsEq (ks.take t) ks')) (fun _ z _ => nK - (intOf z).toNat)
  case atStart => exact ⟨0, none, 0, 0, [], by omega, rfl, rfl, rfl, ⟨own_nil _, fun x hx => (by cases hx), List.Pairwise.nil, new_none w, Keeps.refl _ _⟩, rfl, fun j hj => absurd hj (by simp)⟩
  case round =>
    obtain ⟨t, ol, m, cl, ks', ht, rfl, rfl, HT⟩ := hrel
    have b0 := cell_of_blk (HA.out.1.keepsN HT.out.2.1.keep).b 0
    by_cases htl : t < nK
    · have htl' : (t : Int) < nK := by omega
      have hta : t < ks.length := by have := HA.out.1.nk; omega
      obtain ⟨g, off, e1, d0, d1, d2, d3, d4⟩ := (HA.out.1.keepsN HT.out.2.1.keep).k.atK hta
      subst e1
      obtain ⟨x, hx⟩ : ∃ x, x = ks.getD t kv0 := ⟨_, rfl⟩
      rw [← hx] at d0 d1 d2 d3 d4
      have hin := (HA.out.2.keepsN HT.out.2.1.keep).key _ (getD_mem_lt kv0 hta)
      rw [← hx] at hin
      have HX : Hid (x = ks.getD t kv0 ∧ t < ks.length) := ⟨hx, hta⟩
      obtain ⟨⟨xk, xi⟩, xv, xo, xc, xks, xst⟩ := x
      simp only at d0 d1 d2 d3 d4 hin
      obtain ⟨xn, hxn⟩ : ∃ xn, xn = xks.length := ⟨_, rfl⟩
      rw [← hxn] at d3
      have HIN : Hid (xn = xks.length ∧ Sl TE wr xo xc xks ∧ xks.length ≤ 8796093021952) := ⟨hxn, hin.1, hin.2⟩
      have HSX : Hid (∀ X, Keeps no w X → X.cell? ⟨p, 0, none⟩ = some (.slice (some ⟨g, off, none⟩) nK cK) ∧ X.cell? ⟨g, off + t * 5, none⟩ = some (.string xk) ∧ X.cell? ⟨g, off + t * 5 + 1, none⟩ = some (.int .u64 ((xi : Nat) : Int)) ∧ X.cell? ⟨g, off + t * 5 + 2, none⟩ = some (.string xv) ∧ X.cell? ⟨g, off + t * 5 + 3, none⟩ = some (.slice xo xn xc) ∧ X.cell? ⟨g, off + t * 5 + 4, none⟩ = some (.int .i64 xst)) := fun X hX => by
        have q0 := cell_of_blk (HA.out.1.keepsN hX).b 0
        obtain ⟨g', off', e1, f0, f1, f2, f3, f4⟩ := (HA.out.1.keepsN hX).k.atK HX.out.2
        cases e1
        rw [← HX.out.1] at f0 f1 f2 f3 f4
        simp only at f0 f1 f2 f3 f4
        rw [← hxn] at f3
        exact ⟨q0, f0, f1, f2, f3, f4⟩
      have HRN : Hid ((ks'.length + 1) * 72 ≤ 140737488355328 ∧ ks'.length + 1 ≤ 140737488355328) := (show _ ∧ _ by
        have h1 := HT.out.2.2.1
        rw [List.length_take] at h1
        have := HA.out.1.lk
        have := HA.out.1.nk
        omega)
      clear hx hta hin hxn
      go_wp2_with fail
      refine wp_region_held_drew (S := (fun X => X.cell? ⟨p, 0, none⟩ = some (.slice (some ⟨g, off, none⟩) nK cK) ∧ X.cell? ⟨g, off + t * 5, none⟩ = some (.string xk) ∧ X.cell? ⟨g, off + t * 5 + 1, none⟩ = some (.int .u64 ((xi : Nat) : Int)) ∧ X.cell? ⟨g, off + t * 5 + 2, none⟩ = some (.string xv) ∧ X.cell? ⟨g, off + t * 5 + 3, none⟩ = some (.slice xo xn xc) ∧ X.cell? ⟨g, off + t * 5 + 4, none⟩ = some (.int .i64 xst))) (by kernel_rfl) ?_ (fun hHeld => ?_)
      · first | exact HSX.out _ HT.out.2.1.keep | exact HSX.out _ (HT.out.2.1.keep.drew)
      refine wpAnyH_take (i := 0) (v := ?_) (by simp only [List.getElem?_toArray, List.getElem?_cons_succ, List.getElem?_cons_zero]; rfl) (by kernel_rfl) (by kernel_rfl) (by kernel_rfl) (by exact fun _ _ _ h => h) (Or.inl ⟨by rfl, ?_⟩) (by assumption) ?_
      rotate_left
      · (intro _ hSw; (try dsimp only at hSw); go_simp; (try with_reducible rfl))
      try simp only [Act.put, List.setIfInBounds_toArray, List.set_cons_zero, List.set_cons_succ]
      refine wpAnyH_take (i := 1) (v := ?_) (by simp only [List.getElem?_toArray, List.getElem?_cons_succ, List.getElem?_cons_zero]; rfl) (by kernel_rfl) (by kernel_rfl) (by kernel_rfl) (by exact fun _ _ _ h => h) (Or.inl ⟨by rfl, ?_⟩) (by assumption) ?_
      rotate_left
      · (intro _ hSw; (try dsimp only at hSw); go_simp; (try with_reducible rfl))
      try simp only [Act.put, List.setIfInBounds_toArray, List.set_cons_zero, List.set_cons_succ]
      refine wpAnyH_take (i := 2) (v := ?_) (by simp only [List.getElem?_toArray, List.getElem?_cons_succ, List.getElem?_cons_zero]; rfl) (by kernel_rfl) (by kernel_rfl) (by kernel_rfl) (by exact fun _ _ _ h => h) (Or.inl ⟨by rfl, ?_⟩) (by assumption) ?_
      rotate_left
      · (intro _ hSw; (try dsimp only at hSw); go_simp; (try with_reducible rfl))
      try simp only [Act.put, List.setIfInBounds_toArray, List.set_cons_zero, List.set_cons_succ]
      refine wpAnyH_take (i := 3) (v := ?_) (by simp only [List.getElem?_toArray, List.getElem?_cons_succ, List.getElem?_cons_zero]; rfl) (by kernel_rfl) (by kernel_rfl) (by kernel_rfl) (by exact fun _ _ _ h => h) (Or.inl ⟨by rfl, ?_⟩) (by assumption) ?_
      rotate_left
      · (intro _ hSw; (try dsimp only at hSw); go_simp; (try with_reducible rfl))
      try simp only [Act.put, List.setIfInBounds_toArray, List.set_cons_zero, List.set_cons_succ]
      refine wpAnyH_take (i := 4) (v := ?_) (by simp only [List.getElem?_toArray, List.getElem?_cons_succ, List.getElem?_cons_zero]; rfl) (by kernel_rfl) (by kernel_rfl) (by kernel_rfl) (by exact fun _ _ _ h => h) (Or.inl ⟨by rfl, ?_⟩) (by assumption) ?_
      rotate_left
      · (intro _ hSw; (try dsimp only at hSw); go_simp; (try with_reducible rfl))
      try simp only [Act.put, List.setIfInBounds_toArray, List.set_cons_zero, List.set_cons_succ]
      refine wpAnyH_take (i := 5) (v := ?_) (by simp only [List.getElem?_toArray, List.getElem?_cons_succ, List.getElem?_cons_zero]; rfl) (by kernel_rfl) (by kernel_rfl) (by kernel_rfl) (by exact fun _ _ _ h => h) (Or.inl ⟨by rfl, ?_⟩) (by assumption) ?_
      rotate_left
      · (intro _ hSw; (try dsimp only at hSw); go_simp; (try with_reducible rfl))
      try simp only [Act.put, List.setIfInBounds_toArray, List.set_cons_zero, List.set_cons_succ]
      refine wpAnyH_take (i := 6) (v := ?_) (by simp only [List.getElem?_toArray, List.getElem?_cons_succ, List.getElem?_cons_zero]; rfl) (by kernel_rfl) (by kernel_rfl) (by kernel_rfl) (by exact fun _ _ _ h => h) (Or.inl ⟨by rfl, ?_⟩) (by assumption) ?_
      rotate_left
      · (intro _ hSw; (try dsimp only at hSw); go_simp; (try with_reducible rfl))
      try simp only [Act.put, List.setIfInBounds_toArray, List.set_cons_zero, List.set_cons_succ]
      refine wpAnyH_take (i := 7) (v := ?_) (by simp only [List.getElem?_toArray, List.getElem?_cons_succ, List.getElem?_cons_zero]; rfl) (by kernel_rfl) (by kernel_rfl) (by kernel_rfl) (by exact fun _ _ _ h => h) (Or.inl ⟨by rfl, ?_⟩) (by assumption) ?_
      rotate_left
      · (intro _ hSw; (try dsimp only at hSw); go_simp; (try with_reducible rfl))
      try simp only [Act.put, List.setIfInBounds_toArray, List.set_cons_zero, List.set_cons_succ]
      refine wpAnyH_take (i := 8) (v := ?_) (by simp only [List.getElem?_toArray, List.getElem?_cons_succ, List.getElem?_cons_zero]; rfl) (by kernel_rfl) (by kernel_rfl) (by kernel_rfl) (by exact fun _ _ _ h => h) (Or.inl ⟨by rfl, ?_⟩) (by assumption) ?_
      rotate_left
      · (intro _ hSw; (try dsimp only at hSw); go_simp; (try with_reducible rfl))
      try simp only [Act.put, List.setIfInBounds_toArray, List.set_cons_zero, List.set_cons_succ]
      refine wpAnyH_take (i := 10) (v := ?_) (by simp only [List.getElem?_toArray, List.getElem?_cons_succ, List.getElem?_cons_zero]; rfl) (by kernel_rfl) (by kernel_rfl) (by kernel_rfl) (by exact fun _ _ _ h => h) (Or.inl ⟨by rfl, ?_⟩) (by assumption) ?_
      rotate_left
      · (intro _ hSw; (try dsimp only at hSw); go_simp; (try with_reducible rfl))
      try simp only [Act.put, List.setIfInBounds_toArray, List.set_cons_zero, List.set_cons_succ]
      refine wpAnyH_take (i := 11) (v := ?_) (by simp only [List.getElem?_toArray, List.getElem?_cons_succ, List.getElem?_cons_zero]; rfl) (by kernel_rfl) (by kernel_rfl) (by kernel_rfl) (by exact fun _ _ _ h => h) (Or.inl ⟨by rfl, ?_⟩) (by assumption) ?_
      rotate_left
      · (intro _ hSw; (try dsimp only at hSw); go_simp; (try with_reducible rfl))
      try simp only [Act.put, List.setIfInBounds_toArray, List.set_cons_zero, List.set_cons_succ]
      refine wpAnyH_take (i := 12) (v := ?_) (by simp only [List.getElem?_toArray, List.getElem?_cons_succ, List.getElem?_cons_zero]; rfl) (by kernel_rfl) (by kernel_rfl) (by kernel_rfl) (by exact fun _ _ _ h => h) (Or.inl ⟨by rfl, ?_⟩) (by assumption) ?_
      rotate_left
      · (intro _ hSw; (try dsimp only at hSw); go_simp; (try with_reducible rfl))
      try simp only [Act.put, List.setIfInBounds_toArray, List.set_cons_zero, List.set_cons_succ]
      refine wpAnyH_take (i := 13) (v := ?_) (by simp only [List.getElem?_toArray, List.getElem?_cons_succ, List.getElem?_cons_zero]; rfl) (by kernel_rfl) (by kernel_rfl) (by kernel_rfl) (by exact fun _ _ _ h => h) (Or.inl ⟨by rfl, ?_⟩) (by assumption) ?_
      rotate_left
      · (intro _ hSw; (try dsimp only at hSw); go_simp; (try with_reducible rfl))
      try simp only [Act.put, List.setIfInBounds_toArray, List.set_cons_zero, List.set_cons_succ]
      refine wpAnyH_take (i := 14) (v := ?_) (by simp only [List.getElem?_toArray, List.getElem?_cons_succ, List.getElem?_cons_zero]; rfl) (by kernel_rfl) (by kernel_rfl) (by kernel_rfl) (by exact fun _ _ _ h => h) (Or.inl ⟨by rfl, ?_⟩) (by assumption) ?_
      rotate_left
      · (intro _ hSw; (try dsimp only at hSw); go_simp; (try with_reducible rfl))
      try simp only [Act.put, List.setIfInBounds_toArray, List.set_cons_zero, List.set_cons_succ]
      refine wpAnyH_take (i := 15) (v := ?_) (by simp only [List.getElem?_toArray, List.getElem?_cons_succ, List.getElem?_cons_zero]; rfl) (by kernel_rfl) (by kernel_rfl) (by kernel_rfl) (by exact fun _ _ _ h => h) (Or.inl ⟨by rfl, ?_⟩) (by assumption) ?_
      rotate_left
      · (intro _ hSw; (try dsimp only at hSw); go_simp; (try with_reducible rfl))
      try simp only [Act.put, List.setIfInBounds_toArray, List.set_cons_zero, List.set_cons_succ]
      refine wpAnyH_take (i := 16) (v := ?_) (by simp only [List.getElem?_toArray, List.getElem?_cons_succ, List.getElem?_cons_zero]; rfl) (by kernel_rfl) (by kernel_rfl) (by kernel_rfl) (by exact fun _ _ _ h => h) (Or.inl ⟨by rfl, ?_⟩) (by assumption) ?_
      rotate_left
      · (intro _ hSw; (try dsimp only at hSw); go_simp; (try with_reducible rfl))
      try simp only [Act.put, List.setIfInBounds_toArray, List.set_cons_zero, List.set_cons_succ]
      refine wpAnyH_take (i := 17) (v := ?_) (by simp only [List.getElem?_toArray, List.getElem?_cons_succ, List.getElem?_cons_zero]; rfl) (by kernel_rfl) (by kernel_rfl) (by kernel_rfl) (by exact fun _ _ _ h => h) (Or.inl ⟨by rfl, ?_⟩) (by assumption) ?_
      rotate_left
      · (intro _ hSw; (try dsimp only at hSw); go_simp; (try with_reducible rfl))
      try simp only [Act.put, List.setIfInBounds_toArray, List.set_cons_zero, List.set_cons_succ]
      refine wpAnyH_ready (rs := [9]) (by kernel_rfl) (by simp) ?_
      refine AllReadyH.cons (by simp only [List.getElem?_toArray, List.getElem?_cons_succ, List.getElem?_cons_zero]; rfl) (fun Kq hKq => ?_) AllReadyH.nil
      (go_simp; refine (own_any _ xk ((xi : Nat) : Int) xv xo xn xc xks HIN.out.1 HIN.out.2.2 (HIN.out.2.1.keepsN ((Keeps.refl no wr).drew))).mono ?_; rintro e z1 ⟨on, cn, rfl, h1⟩; have Z1 : Hid (Own TE z1 on cn xks ∧ New wr on ∧ Keeps no wr z1) := ⟨h1.out.1, h1.out.2.1.of_le ((Keeps.refl no wr).drew).size, ((Keeps.refl no wr).drew).trans h1.out.2.2⟩; have HK1 : Hid (Keeps no w z1) := HT.out.2.1.keep.trans Z1.out.2.2; have HK2 : Hid (Keeps no w (z1.alloc (.cells #[.string xk, .int .u64 ((xi : Nat) : Int), .string xv, .slice on xn cn, .int .i64 xst] 48))) := HK1.out.alloc _; clear h1)
      refine hKq.out _ _ ?_ (fun hHeldN => ?_)
      · exact HSX.out _ HK1.out
      clear hKq Kq hHeld
      have hHeld := hHeldN
      clear hHeldN
      refine wpAnyH_take (i := 18) (v := ?_) (by simp only [List.getElem?_toArray, List.getElem?_cons_succ, List.getElem?_cons_zero]; rfl) (by kernel_rfl) (by kernel_rfl) (by kernel_rfl) (by exact fun _ _ _ h => h) (Or.inl ⟨by rfl, ?_⟩) (by assumption) ?_
      rotate_left
      · (intro _ hSw; (try dsimp only at hSw); go_simp; (try with_reducible rfl))
      try simp only [Act.put, List.setIfInBounds_toArray, List.set_cons_zero, List.set_cons_succ]
      refine wpAnyH_ready (rs := [19]) (by kernel_rfl) (by simp) ?_
      refine AllReadyH.cons (by simp only [List.getElem?_toArray, List.getElem?_cons_succ, List.getElem?_cons_zero]; rfl) (fun Kq hKq => ?_) AllReadyH.nil
      go_simp
      refine hKq.out _ _ ?_ (fun hHeldN => ?_)
      · exact HSX.out _ HK2.out
      clear hKq Kq hHeld
      have hHeld := hHeldN
      clear hHeldN
      refine wpAnyH_ready (rs := [20]) (by kernel_rfl) (by simp) ?_
      refine AllReadyH.cons (by simp only [List.getElem?_toArray, List.getElem?_cons_succ, List.getElem?_cons_zero]; rfl) (fun Kq hKq => ?_) AllReadyH.nil
      (have HOW : Hid (Own KE (z1.alloc (.cells #[.string xk, .int .u64 ((xi : Nat) : Int), .string xv, .slice on xn cn, .int .i64 xst] 48)) ol cl ks') := HT.out.2.1.own.keepsN (Z1.out.2.2.alloc _); have HRW : Hid (Row KE (z1.alloc (.cells #[.string xk, .int .u64 ((xi : Nat) : Int), .string xv, .slice on xn cn, .int .i64 xst] 48)) (some ⟨z1.heap.size, 0, none⟩) [⟨(xk, xi), xv, on, cn, xks, xst⟩]) := (by have hh := (own_oneK z1 ⟨(xk, xi), xv, on, cn, xks, xst⟩).row; rw [← HIN.out.1] at hh; exact hh); refine step_appW okK rfl (.tmp 14) (.tmp 33) rfl ol m cl ks' rfl HT.out.1 HOW.out (some ⟨z1.heap.size, 0, none⟩) 1 1 [⟨(xk, xi), xv, on, cn, xks, xst⟩] rfl rfl (fun e => by cases e) HRW.out HRN.out.1 HRN.out.2 ?_; intro o2 c2 z2 ho2 hap2; have HP : Hid (Kl w (ks' ++ [⟨(xk, xi), xv, on, cn, xks, xst⟩]) o2 c2 z2) := HT.out.2.1.push (x := ⟨(xk, xi), xv, on, cn, xks, xst⟩) (Z1.out.1.keepsN ((Keeps.refl no z1).alloc _)) Z1.out.2.1 (Z1.out.2.2.alloc _) ho2 hap2; have HK3 : Hid (Keeps no w z2) := HP.out.keep; clear ho2 hap2)
      refine hKq.out _ _ ?_ (fun hHeldN => ?_)
      · exact HSX.out _ HK3.out
      clear hKq Kq hHeld
      have hHeld := hHeldN
      clear hHeldN
      refine wpAnyH_take (i := 21) (v := ?_) (by simp only [List.getElem?_toArray, List.getElem?_cons_succ, List.getElem?_cons_zero]; rfl) (by kernel_rfl) (by kernel_rfl) (by kernel_rfl) (by exact fun _ _ _ h => h) (Or.inl ⟨by rfl, ?_⟩) (by assumption) ?_
      rotate_left
      · (intro _ hSw; (try dsimp only at hSw); go_simp; (try with_reducible rfl))
      try simp only [Act.put, List.setIfInBounds_toArray, List.set_cons_zero, List.set_cons_succ]
      refine wpAnyH_done (by kernel_rfl) ?_ _
      clear hHeld
      go_wp2_with fail
      go_roundw
      case rel => exact ⟨t + 1, o2, _, c2, _, by omega, by go_num, rfl, by rw [HT.out.1]; simp, HP.out, ksEq_snoc HT.out.2.2 HX.out.1 HX.out.2⟩
      case measure => simp [intOf]; omega
    · have htl' : ¬ (t : Int) < nK := by omega
      go_wp2_with fail
      go_ret
      refine ⟨ol, m, cl, rfl, ks', HT.out.1, HT.out.2.1, ?_⟩
      have h := HT.out.2.2
      rw [List.take_of_length_le (by have := HA.out.1.nk; omega)] at h
      exact h
end Go.Proofs.YtkoaiibjahlnmaaGreat

import Derived.Test.YtagekdmkidbhpaaR2
/- retain: what is old, what is due. -/
namespace Go.Proofs.Ytagekdmkidbhpaa
open Go.RowKit Go.Maps Go.Sort Orl
set_option linter.unusedVariables false
set_option linter.unusedSimpArgs false

/-- the old versions of a store, told -/
structure OldKs (s : St) (ks : List KV) : Prop where
  inc : Inc ltM (ks.map (·.m))
  is : ∀ x ∈ ks, s.V x.m = some ⟨x.val, x.keys, x.stamp⟩ ∧ x.stamp ≠ -1
  all : ∀ m v, s.V m = some v → v.stamp ≠ -1 → m ∈ ks.map (·.m)
theorem oldKs_of {s : St} {ks : List KV} (h1 : IsKs s ks) (h2 : Inc ltM (ks.map (·.m))) (h3 : ∀ m, s.V m ≠ none → m ∈ ks.map (·.m)) : OldKs s (oldOf ks) := by
  refine ⟨?_, fun x hx => ?_, fun m v hv hs => ?_⟩
  · have : ((oldOf ks).map (·.m)).Sublist (ks.map (·.m)) := List.Sublist.map _ List.filter_sublist
    exact List.Pairwise.sublist this h2
  · obtain ⟨hx1, hx2⟩ := List.mem_filter.1 hx
    exact ⟨h1 x hx1, by simpa [isOld] using hx2⟩
  · obtain ⟨x, hx, rfl⟩ := List.mem_map.1 (h3 m (by rw [hv]; simp))
    refine List.mem_map.2 ⟨x, List.mem_filter.2 ⟨hx, ?_⟩, rfl⟩
    have := h1 x hx
    rw [hv] at this
    have e : v = ⟨x.val, x.keys, x.stamp⟩ := by simpa using this
    rw [e] at hs
    simpa [isOld] using hs
section
variable {w0 w w' : World} {p : Nat} {s : St} {N : Nat} {P : Nat → Prop}
theorem Ow.old (h : Ow w0 w p s N P) (hN : N ≤ 1954687338211) :
    Calls Try.prog 22 #[.pointer (some ⟨p, 0, none⟩)] w fun e w' => ∃ v, e = .returned v ∧ ∃ o n c ks, v = .slice o n c ∧ Hid (n = ks.length) ∧ Hid (Sl KE w' o c ks ∧ Keeps no w w' ∧ OldKs s ks ∧ ks.length ≤ N) := by
  have hk := h.kept hN
  have HN : Hid (N ≤ 1954687338211) := hN
  clear h hN
  go_enter Try.func22, Try.ntmps22
  go_wp2_with fail
  refine hk.mono ?_
  rintro e w1 ⟨v, rfl, o, n, c, ks, rfl, hn, hkl, hle⟩
  have hd := delete_any w1 o n c ks hn.out (by have := hle.out; have := HN.out; omega) hkl.out.1.own
  clear hk
  go_wp2_with fail
  refine hd.mono ?_
  rintro e w2 ⟨m, rfl, h2⟩
  go_wp2_with fail
  go_ret
  obtain ⟨kl, is, inc, all⟩ := hkl.out
  refine ⟨_, rfl, o, m, c, oldOf ks, rfl, h2.out.1, h2.out.2.1.sl, kl.keep.then h2.out.2.2 (fun b hb => .inr (kl.new b hb)), oldKs_of is inc all, ?_⟩
  have := List.length_filter_le isOld ks
  have := hle.out
  unfold oldOf
  omega
end
/-! ### wants -/
def WE : El Mk := ⟨37, 27, 2, 24, fun x => [.string x.1, .int .u64 ((x.2 : Nat) : Int)]⟩
theorem infoWa : (Try.prog.info? 37).map (fun i => (i.zero, i.size, i.bytes)) = some (some (.agg #[.string ⟨#[]⟩, .int .u64 0]), 2, 24) := by kernel_rfl
theorem okWa : WE.Ok := by
  obtain ⟨i0, hi, hz0, hz1, hz2⟩ := info_parts infoWa
  exact ⟨fun _ => rfl, fun x u hu => by simp [WE] at hu; rcases hu with rfl | rfl <;> rfl, by decide, Try.underlying27, i0, _, hi, hz0, hz1, hz2, rfl⟩
theorem own_oneW (w : World) (x : Mk) : Sl WE (w.alloc (.cells #[.string x.1, .int .u64 ((x.2 : Nat) : Int)] 37)) (some ⟨w.heap.size, 0, none⟩) 1 [x] := by
  refine ⟨.inr ⟨_, 0, rfl, fun j u hj => ?_⟩, by simp, fun e => by cases e⟩
  rw [Nat.zero_add, cell_of_blk (blk_new w _)]
  simpa [El.cells, WE] using hj
theorem atW {w : World} {a : Option Addr} {c : Nat} {xs : List Mk} (h : Sl WE w a c xs) {j : Nat} (hj : j < xs.length) : ∃ b off, a = some ⟨b, off, none⟩ ∧ w.cell? ⟨b, off + j * 2, none⟩ = some (.string (xs.getD j (e0, 0)).1) ∧ w.cell? ⟨b, off + j * 2 + 1, none⟩ = some (.int .u64 (((xs.getD j (e0, 0)).2 : Nat) : Int)) := by
  rcases h.row with e | ⟨b, off, rfl, hc⟩
  · subst e; simp at hj
  · refine ⟨b, off, rfl, hc (j * 2) _ ?_, ?_⟩
    · have := cells_at okWa (e0, 0) xs j 0 hj (by decide)
      simpa [WE] using this
    · rw [Nat.add_assoc]
      refine hc (j * 2 + 1) _ ?_
      have := cells_at okWa (e0, 0) xs j 1 hj (by decide)
      simpa [WE] using this

/-! ### what is due -/
def dueB (s : St) (t : Int) (m : Mk) : Bool := match s.V m with | some v => decide (v.stamp ≠ -1 ∧ v.stamp ≤ t) | none => false
theorem dueB_iff {s : St} {t : Int} {m : Mk} : dueB s t m = true ↔ ∃ v, s.V m = some v ∧ v.stamp ≠ -1 ∧ v.stamp ≤ t := by
  unfold dueB
  cases s.V m with
  | none => simp
  | some v => simp
structure IsDue (s : St) (t : Int) (ds : List Mk) : Prop where
  inc : Inc ltM ds
  is : ∀ m, m ∈ ds ↔ dueB s t m = true
theorem IsDue.same {s : St} {t : Int} {a b : List Mk} (ha : IsDue s t a) (hb : IsDue s t b) : a = b := inc_ext swoM ha.inc hb.inc fun m => by rw [ha.is, hb.is]
def dueOf (t : Int) (ks : List KV) : List Mk := (ks.filter fun x => decide (x.stamp ≤ t)).map (·.m)
theorem dueOf_snoc (t : Int) (ks : List KV) (j : Nat) (hj : j < ks.length) : dueOf t (ks.take (j + 1)) = dueOf t (ks.take j) ++ (if (ks.getD j kv0).stamp ≤ t then [(ks.getD j kv0).m] else []) := by
  rw [take_succ_getD ks j kv0 hj]
  unfold dueOf
  rw [List.filter_append, List.map_append]
  congr 1
  by_cases h : (ks.getD j kv0).stamp ≤ t
  · have hb : decide ((ks.getD j kv0).stamp ≤ t) = true := decide_eq_true h
    rw [if_pos h]
    simp only [List.filter, hb, List.map]
  · have hb : decide ((ks.getD j kv0).stamp ≤ t) = false := decide_eq_false h
    rw [if_neg h]
    simp only [List.filter, hb, List.map]
theorem dueOf_len (t : Int) (ks : List KV) : (dueOf t ks).length ≤ ks.length := by
  unfold dueOf
  rw [List.length_map]
  exact List.length_filter_le _ _
theorem dueOf_is {s : St} {ks : List KV} (h : OldKs s ks) (t : Int) : IsDue s t (dueOf t ks) := by
  refine ⟨List.Pairwise.sublist (List.Sublist.map _ List.filter_sublist) h.inc, fun m => ?_⟩
  rw [dueB_iff]
  unfold dueOf
  rw [List.mem_map]
  constructor
  · rintro ⟨x, hx, rfl⟩
    obtain ⟨h1, h2⟩ := List.mem_filter.1 hx
    exact ⟨_, (h.is x h1).1, (h.is x h1).2, by simpa using h2⟩
  · rintro ⟨v, hv, h1, h2⟩
    obtain ⟨x, hx, rfl⟩ := List.mem_map.1 (h.all m v hv h1)
    refine ⟨x, List.mem_filter.2 ⟨hx, ?_⟩, rfl⟩
    have := (h.is x hx).1
    rw [hv] at this
    have e : v = ⟨x.val, x.keys, x.stamp⟩ := by simpa using this
    rw [e] at h2
    simpa using h2
theorem risTick_any (w : World) (t : Int) : Calls Try.prog 20 #[.int .i64 t] w fun e w' => e = .returned (.bool (tickB t)) ∧ w' = w := by
  by_cases h : 0 ≤ t
  · by_cases h2 : t ≤ 1099511627776
    · have hd : tickB t = true := by simp [tickB, h, h2]
      rw [hd]
      go_enter Try.func20, Try.ntmps20
      go_wp2
      go_ret
      exact ⟨rfl, rfl⟩
    · have hd : tickB t = false := by simp [tickB]; intro; omega
      rw [hd]
      go_enter Try.func20, Try.ntmps20
      go_wp2
      go_ret
      exact ⟨rfl, rfl⟩
  · have hd : tickB t = false := by simp [tickB]; omega
    rw [hd]
    go_enter Try.func20, Try.ntmps20
    go_wp2
    go_ret
    exact ⟨rfl, rfl⟩
def retB (t : Int) : Bool := decide (0 ≤ t ∧ t ≤ 1048576)
theorem isRet_any (w : World) (t : Int) : Calls Try.prog 21 #[.int .i64 t] w fun e w' => e = .returned (.bool (retB t)) ∧ w' = w := by
  by_cases h : 0 ≤ t
  · by_cases h2 : t ≤ 1048576
    · have hd : retB t = true := by simp [retB, h, h2]
      rw [hd]
      go_enter Try.func21, Try.ntmps21
      go_wp2
      go_ret
      exact ⟨rfl, rfl⟩
    · have hd : retB t = false := by simp [retB]; intro; omega
      rw [hd]
      go_enter Try.func21, Try.ntmps21
      go_wp2
      go_ret
      exact ⟨rfl, rfl⟩
  · have hd : retB t = false := by simp [retB]; omega
    rw [hd]
    go_enter Try.func21, Try.ntmps21
    go_wp2
    go_ret
    exact ⟨rfl, rfl⟩
/-- refused -/
theorem due_nil (w : World) (now ret : Int) : Calls Try.prog 7 #[.pointer none, .int .i64 now, .int .i64 ret] w fun e w' => e = .returned (.tuple #[.slice none 0 0, .int .i64 1]) ∧ Keeps no w w' := by
  go_enter Try.func7, Try.ntmps7
  go_wp2_with fail
  go_ret2
  exact ⟨rfl, Keeps.refl _ _⟩
theorem due_bad (w : World) (p : Nat) (now ret : Int) (hb : (tickB now && retB ret) = false) : Calls Try.prog 7 #[.pointer (some ⟨p, 0, none⟩), .int .i64 now, .int .i64 ret] w fun e w' => e = .returned (.tuple #[.slice none 0 0, .int .i64 1]) ∧ Keeps no w w' := by
  have h1 := risTick_any w now
  have h2 := isRet_any w ret
  cases e1 : tickB now with
  | false =>
    rw [e1] at h1
    clear hb e1 h2
    go_enter Try.func7, Try.ntmps7
    go_wp2_with (go_at_call 20; refine h1.mono ?_; rintro e w' ⟨rfl, rfl⟩)
    go_ret2
    exact ⟨rfl, Keeps.refl _ _⟩
  | true =>
    rw [e1] at h1
    rw [e1, Bool.true_and] at hb
    rw [hb] at h2
    clear hb e1
    go_enter Try.func7, Try.ntmps7
    go_wp2_with (first | (go_at_call 20; refine h1.mono ?_; rintro e w' ⟨rfl, hw⟩; subst w') | (go_at_call 21; refine h2.mono ?_; rintro e w' ⟨rfl, hw⟩; subst w'))
    go_ret2
    exact ⟨rfl, Keeps.refl _ _⟩
section
variable {w0 w w' : World} {p : Nat} {s : St} {N : Nat} {P : Nat → Prop}
set_option maxRecDepth 10000 in
set_option maxHeartbeats 1000000 in
theorem Ow.due (h : Ow w0 w p s N P) (now ret : Int) (ht : tickB now = true) (hr : retB ret = true) (hN : N ≤ 1954687338211) :
    Calls Try.prog 7 #[.pointer (some ⟨p, 0, none⟩), .int .i64 now, .int .i64 ret] w fun e w' => ∃ v, e = .returned (.tuple #[v, .int .i64 0]) ∧ ∃ o n c ds, v = .slice o n c ∧ Hid (n = ds.length) ∧ Hid (Own WE w' o c ds ∧ New w o ∧ Keeps no w w') ∧ Hid (IsDue s (now - ret) ds ∧ ds.length ≤ N) := by
  have h1 := risTick_any w now
  have h2 := isRet_any w ret
  have h3 := h.old hN
  rw [ht] at h1
  rw [hr] at h2
  have HN : Hid (N ≤ 1954687338211) := hN
  have ht' := tick_iff.1 ht
  have hr' : 0 ≤ ret ∧ ret ≤ 1048576 := by simpa [retB] using hr
  obtain ⟨hta, htb⟩ := ht'
  obtain ⟨hra, hrb⟩ := hr'
  clear h ht hr hN
  go_enter Try.func7, Try.ntmps7
  go_wp2_with (first | (go_at_call 20; refine h1.mono ?_; rintro e w' ⟨rfl, hw⟩; subst w') | (go_at_call 21; refine h2.mono ?_; rintro e w' ⟨rfl, hw⟩; subst w') | (go_at_call 22; refine h3.mono ?_; rintro e w1 ⟨v, rfl, o, n, c, ks, rfl, hn, hks⟩))
  have hnb : (n : Int) ≤ 1954687338211 := by have := hks.out.2.2.2; have := HN.out; have := hn.out; omega
  clear h1 h2 h3
  go_loopw [8, 10, 26] (fun s8 _ i wr => ∃ (k : Nat) (v : Value), k ≤ n ∧ i = .int .i64 k ∧ s8 = v ∧ Hid (∃ a m d ds, v = .slice a m d ∧ m = ds.length ∧ Own WE wr a d ds ∧ New w1 a ∧ Keeps no w1 wr ∧ ds = dueOf (now - ret) (ks.take k))) (fun _ _ i _ => n - (intOf i).toNat)
  case atStart => exact ⟨0, _, by omega, rfl, rfl, none, 0, 0, [], rfl, rfl, own_nil _, new_none _, Keeps.refl _ _, by simp [dueOf]⟩
  case round =>
    obtain ⟨k, v, hk, rfl, rfl, HG⟩ := hrel
    obtain ⟨a, m, d, ds, rfl, hm, hod, hnw, hkp, hds⟩ := HG.out
    have HD : Hid (m = ds.length ∧ Own WE wr a d ds ∧ New w1 a ∧ Keeps no w1 wr ∧ ds = dueOf (now - ret) (ks.take k)) := ⟨hm, hod, hnw, hkp, hds⟩
    clear HG hm hod hnw hds
    by_cases hlt : k < n
    · have hkl : k < ks.length := by rw [← hn.out]; exact hlt
      obtain ⟨b, off, rfl, d0, d1, d2, d3, d4⟩ := atK (hks.out.1.keepsN hkp) hkl
      obtain ⟨x, hx⟩ : ∃ x, x = ks.getD k kv0 := ⟨_, rfl⟩
      rw [← hx] at d0 d1 d2 d3 d4
      have HX : Hid (x = ks.getD k kv0) := hx
      clear hx hkl hkp
      obtain ⟨⟨xk, xi⟩, xv, xo, xc, xks, xst⟩ := x
      simp only at d0 d1 d2 d3 d4
      generalize xks.length = xn at d3
      have hsn := dueOf_snoc (now - ret) ks k (by rw [← hn.out]; exact hlt)
      rw [← HX.out] at hsn
      have HSN : Hid (dueOf (now - ret) (ks.take (k + 1)) = ds ++ (if xst ≤ now - ret then [(xk, xi)] else [])) := (show _ = _ by rw [HD.out.2.2.2.2]; exact hsn)
      clear hsn
      have hdl : ds.length ≤ k := by
        rw [HD.out.2.2.2.2]
        exact Nat.le_trans (dueOf_len _ _) (List.length_take_le _ _)
      have HBD : Hid ((ds.length + [((xk, xi) : Mk)].length) * WE.nb ≤ 140737488355328 ∧ ds.length + [((xk, xi) : Mk)].length ≤ 140737488355328) := ⟨by simp [WE]; omega, by simp; omega⟩
      clear hdl
      have HW : Hid (Keeps no wr (wr.alloc (.cells #[.string xk, .int .u64 ((xi : Nat) : Int), .string xv, .slice xo xn xc, .int .i64 xst] 71))) := (Keeps.refl no wr).alloc _
      have HR0 : Hid (Row WE ((wr.alloc (.cells #[.string xk, .int .u64 ((xi : Nat) : Int), .string xv, .slice xo xn xc, .int .i64 xst] 71)).alloc (.cells #[.string xk, .int .u64 ((xi : Nat) : Int)] 37)) (some ⟨wr.heap.size + 1, 0, none⟩) [(xk, xi)]) := by
        have := (own_oneW (wr.alloc (.cells #[.string xk, .int .u64 ((xi : Nat) : Int), .string xv, .slice xo xn xc, .int .i64 xst] 71)) (xk, xi)).row
        rwa [show (wr.alloc (.cells #[.string xk, .int .u64 ((xi : Nat) : Int), .string xv, .slice xo xn xc, .int .i64 xst] 71)).heap.size = wr.heap.size + 1 by simp] at this
      by_cases hst : xst ≤ now - ret
      · have HE : Hid (dueOf (now - ret) (ks.take (k + 1)) = ds ++ [(xk, xi)]) := (show _ = _ by rw [HSN.out, if_pos hst])
        go_wp2_with (at_builtin; refine wpList_app okWa rfl _ _ rfl _ _ _ ds rfl HD.out.1 ((HD.out.2.1.keepsN HW.out).keepsN ((Keeps.refl _ _).alloc _)) _ _ _ [(xk, xi)] rfl rfl (fun h => by cases h) HR0.out HBD.out.1 HBD.out.2 ?_; intro o1 c1 w3 ho3 hap3)
        go_roundw
        case rel =>
          have hnn := hap3.new HD.out.2.2.1 ((HD.out.2.2.2.1.trans HW.out).alloc _)
          refine ⟨k + 1, _, by omega, by go_num, rfl, o1, _, c1, _, rfl, ?_, ho3, hnn.1, hnn.2, HE.out.symm⟩
          rw [List.length_append, ← HD.out.1]; rfl
        case measure => simp [intOf]; omega
      · have HE : Hid (dueOf (now - ret) (ks.take (k + 1)) = ds) := (show _ = _ by rw [HSN.out, if_neg hst, List.append_nil])
        go_wp2_with fail
        go_roundw
        case rel => exact ⟨k + 1, _, by omega, by go_num, rfl, a, m, d, ds, rfl, HD.out.1, HD.out.2.1.keepsN HW.out, HD.out.2.2.1, HD.out.2.2.2.1.trans HW.out, HE.out.symm⟩
        case measure => simp [intOf]; omega
    · have HT : Hid (ks.take k = ks) := List.take_of_length_le (by rw [← hn.out]; omega)
      rw [HT.out] at HD
      go_wp2_with fail
      go_ret2
      refine ⟨_, rfl, a, m, d, ds, rfl, HD.out.1, ⟨HD.out.2.1, HD.out.2.2.1.of_le hks.out.2.1.size, hks.out.2.1.trans HD.out.2.2.2.1⟩, ?_, ?_⟩
      · rw [HD.out.2.2.2.2]; exact dueOf_is hks.out.2.2.1 _
      · rw [HD.out.2.2.2.2]; exact Nat.le_trans (dueOf_len _ _) hks.out.2.2.2
end
end Go.Proofs.Ytagekdmkidbhpaa

import Derived.Test.YtoijeipoblnliaaGreatDoorYF
import Derived.Test.YtoijeipoblnliaaGreatDoorXI
import Derived.Test.YtoijeipoblnliaaGreatDoorXE
/- what the laws begin with; BootReads. -/
namespace Go.Proofs.YtoijeipoblnliaaGreatDoor
open Go.RowKit Go.Maps Go.Sort Orl Pk
set_option linter.unusedVariables false
set_option linter.unusedSimpArgs false

abbrev boxV (v : WV) : Obj := .cells #[.int .i64 v.gen, .slice v.so v.sn v.sc, .slice v.lo v.ln v.lc, .int .i64 v.tail, .int .i64 v.oth] 27 (0, 0)
theorem box_store {w w2 : World} {v : WV} (hb : w2.heap[w.heap.size]? = some (boxV v)) (hk : Keeps no w w2) (v' : WV) :
    (w2.setRow w.heap.size #[.int .i64 v'.gen, .slice v'.so v'.sn v'.sc, .slice v'.lo v'.ln v'.lc, .int .i64 v'.tail, .int .i64 v'.oth]).heap[w.heap.size]? = some (boxV v') ∧ Keeps no w (w2.setRow w.heap.size #[.int .i64 v'.gen, .slice v'.so v'.sn v'.sc, .slice v'.lo v'.ln v'.lc, .int .i64 v'.tail, .int .i64 v'.oth]) := by
  refine ⟨setRow_heap _ _ _ _ _ _ hb, ⟨hk.os, hk.tape, hk.output, by rw [setRow_size]; exact hk.size, fun k h _ => ?_⟩⟩
  rw [setRow_other _ _ _ _ (by omega)]
  exact hk.block k h id
theorem box_oth {w w2 : World} {v : WV} (hb : w2.heap[w.heap.size]? = some (boxV v)) (hk : Keeps no w w2) (o : Int) :
    (w2.setCell ⟨w.heap.size, 4, none⟩ (.int .i64 o)).heap[w.heap.size]? = some (boxV { v with oth := o }) ∧ Keeps no w (w2.setCell ⟨w.heap.size, 4, none⟩ (.int .i64 o)) := by
  refine ⟨?_, hk.setCell (p := ⟨w.heap.size, 4, none⟩) (.inr (Nat.le_refl _)) _⟩
  rw [blk_set hb]
  rfl

/-- the disk and the store that are to be had -/
structure Held (now : Int) (g : Nat) (rs : List Rec) (U W : World) (p q : Nat) (F : Nat → Prop) (bs : Option (List UInt8)) (N : Nat) (s : Dk.St) : Prop where
  dn : Dn U W p F s
  on : On s
  iv : IV g bs rs s
  bk : BsOk now g bs
  sz : Sz s
  st : Sto U.heap.size W q (redoS now (bst now bs) rs) N F
  n : N ≤ 500000000
  gd : Gds rs
theorem laid_held {now : Int} {g : Nat} {ll : List RW} {U W : World} {p q oth : Nat} {tail : Int} (h : ∃ F bs N, Dn U W p F (otS (tnS bs g (recL ll) (tornK tail)) oth) ∧ BsOk now g bs ∧ (∀ b, bs = some b → b.length ≤ 8000000000) ∧ Sto U.heap.size W q (redoS now (bst now bs) (recL ll)) N F ∧ N ≤ 500000000) (hl : ll.length ≤ 30) (h8 : oth ≤ 8) (h9 : g ≠ 999 ∨ oth = 0) : ∃ F bs N, Held now g (recL ll) U W p q F bs N (otS (tnS bs g (recL ll) (tornK tail)) oth) := by
  obtain ⟨F, bs, N, hd, hb, hz, hs, hn⟩ := h
  have hk : tornK tail ≤ 48 := rst_le tail 48
  have hr := recL_row ll
  have hlz := otS_lz (tnS_lz hz g (recL ll) (by rw [rb_len]; omega) (tornK tail)) oth h8
  have hiv := tnS_iv bs g (recL ll) (k := tornK tail) (by omega)
  refine ⟨F, bs, N, hd, hlz.on, ?_, hb, hlz.sz' (by omega), hs, hn, recL_gds ll⟩
  rcases h9 with h9 | h9
  · exact otS_iv hiv h9 oth h8
  · subst h9; exact hiv
section
variable {now : Int} {g : Nat} {rs : List Rec} {U W W' : World} {p q : Nat} {F : Nat → Prop} {bs : Option (List UInt8)} {N : Nat} {s s' : Dk.St}
theorem Held.boot (h : Held now g rs U W p q F bs N s) : ∃ s', Good now g bs rs s s' ∧ On s' ∧ Sz s' := by
  obtain ⟨s', h1, h2⟩ := boot_calm h.iv h.on h.bk h.gd
  exact ⟨s', h1, h2, h1.boot.sz h.sz⟩
theorem Held.after (h : Held now g rs U W p q F bs N s) (hG : Good now g bs rs s s' ∧ On s' ∧ Sz s') (hd : Dn U W' p F s') (hk : Keeps F W W') : Held now g rs U W' p q F bs N s' :=
  ⟨hd, hG.2.1, hG.1.iv, h.bk, hG.2.2, (h.st.other hk (fun b hb => .inr hb)).sub (fun b hb => .inl hb), h.n, h.gd⟩
theorem Held.beside (h : Held now g rs U W p q F bs N s) (hk : Keeps no W W') : Held now g rs U W' p q F bs N s :=
  ⟨h.dn.beside hk, h.on, h.iv, h.bk, h.sz, h.st.keepsN hk, h.n, h.gd⟩
theorem Held.cell (h : Held now g rs U W p q F bs N s) {b : Nat} (hb : b < U.heap.size) {o : Obj} (e : U.heap[b]? = some o) (hk : Keeps F W W') : W'.heap[b]? = some o :=
  hk.at (h.dn.kept.at e id) (fun hf => by have := h.dn.new b hf; omega)
end
set_option maxRecDepth 10000 in
set_option maxHeartbeats 4000000 in
theorem reads_any (w : World) (ht : Tabs w) (v : WV) (sl ll : List RW) (h : WIn w v sl ll) :
    Calls Tryz.prog 6 #[v.val] w fun e w' => e = .returned (.bool true) ∧ Keeps no w w' := by
  have H : Hid (WIn w v sl ll ∧ Tabs w) := ⟨h, ht⟩
  clear h ht
  unfold WV.val
  go_enter Tryz.func6, Tryz.ntmps6
  go_wp2_with fail
  refine (known_any _ (H.out.2.keepsN ((Keeps.refl no w).alloc _))).mono ?_
  rintro e w1 ⟨rfl, hk1⟩
  have HB : Hid (w1.heap[w.heap.size]? = some (boxV v) ∧ Keeps no w w1) := ⟨hk1.at (blk_new w _) id, ((Keeps.refl no w).alloc _).trans hk1⟩
  clear hk1
  have b0 := cell_of_blk HB.out.1 0
  have b1 := cell_of_blk HB.out.1 1
  have b2 := cell_of_blk HB.out.1 2
  have b3 := cell_of_blk HB.out.1 3
  have b4 := cell_of_blk HB.out.1 4
  have hsm := small_any w1 v sl ll (H.out.1.keepsN HB.out.2)
  unfold WV.val at hsm
  simp only [List.getElem?_toArray, List.getElem?_cons_zero, List.getElem?_cons_succ] at b0 b1 b2 b3 b4
  have HS : Hid (WIn w (smV v) (sl.take 30) (ll.take 30) ∧ (sl.take 30).length ≤ 30 ∧ (ll.take 30).length ≤ 30 ∧ ∃ G R : Nat, (smV v).gen = G ∧ (smV v).oth = R ∧ R ≤ 8) := ⟨H.out.1.small, by rw [List.length_take]; omega, by rw [List.length_take]; omega, (max v.gen 0).toNat, rst v.oth 8, by show max v.gen 0 = _; omega, rfl, rst_le _ _⟩
  generalize smV v = V2 at HS hsm
  obtain ⟨g, so, sn, sc, lo, ln, lc, ta, vo⟩ := v
  simp only at b0 b1 b2 b3 b4 hsm
  go_wp2_with fail
  refine hsm.mono ?_
  rintro e w2 ⟨rfl, hk2⟩
  clear hsm b0 b1 b2 b3 b4
  have HB2 : Hid (w2.heap[w.heap.size]? = some (boxV ⟨g, so, sn, sc, lo, ln, lc, ta, vo⟩) ∧ Keeps no w w2) := ⟨hk2.at HB.out.1 id, HB.out.2.trans hk2⟩
  have HT : Hid (Tabs w) := H.out.2
  clear hk2 HB H
  generalize sl.take 30 = sl2 at HS
  generalize ll.take 30 = ll2 at HS
  obtain ⟨g2, so2, sn2, sc2, lo2, ln2, lc2, ta2, vo2⟩ := V2
  obtain ⟨G, R, hG, hR, hR8⟩ := HS.out.2.2.2
  simp only at hG hR ⊢
  subst hG hR
  have hbs := box_store HB2.out.1 HB2.out.2 ⟨(G : Nat), so2, sn2, sc2, lo2, ln2, lc2, ta2, (R : Nat)⟩
  have HG : Hid ((G : Int) ≤ 9223372036854775807 ∧ R ≤ 8) := ⟨HS.out.1.gen.2, hR8⟩
  clear hR8
  go_upto_region 4 with (refine wpList_store_row (by rfl) _ _ _ (by rfl) w.heap.size _ (by rfl) (by rfl) 27 _ HB2.out.1 (wv_size _ _ _ _ _) (by rfl) (by simp [Value.oneCell']) ?_)
  simp only at hbs
  simp only [Act.put]
  generalize w2.setRow w.heap.size _ = w3 at hbs ⊢
  have HB3 : Hid (w3.heap[w.heap.size]? = some (boxV ⟨(G : Nat), so2, sn2, sc2, lo2, ln2, lc2, ta2, (R : Nat)⟩) ∧ Keeps no w w3) := hbs
  clear hbs HB2
  have b0 := cell_of_blk HB3.out.1 0
  simp only [List.getElem?_toArray, List.getElem?_cons_zero, List.getElem?_cons_succ] at b0
  obtain ⟨c1, hc1⟩ : ∃ c1 : Bool, ((G : Int) == 999) = c1 := ⟨_, rfl⟩
  obtain ⟨c2, hc2⟩ : ∃ c2 : Bool, ((G : Int) == 1) = c2 := ⟨_, rfl⟩
  have HC : Hid (((G : Int) == 999) = c1 ∧ ((G : Int) == 1) = c2) := ⟨hc1, hc2⟩
  go_cut [25] from 18 to 24 (fun v25 U => U = w3 ∧ v25 = .bool (c1 || c2))
  case first =>
    cases c1 with
    | true =>
      go_wp2_with fail
      go_meet
      case rel => exact ⟨rfl, rfl⟩
    | false =>
      cases c2 with
      | true =>
        go_wp2_with fail
        go_meet
        case rel => exact ⟨rfl, rfl⟩
      | false =>
        go_wp2_with fail
        go_meet
        case rel => exact ⟨rfl, rfl⟩
  case rest =>
  obtain ⟨rfl, rfl⟩ := hcut
  obtain ⟨bz, hbz⟩ : ∃ bz : Bool, (c1 || c2) = bz := ⟨_, rfl⟩
  rw [hbz]
  have HZ : Hid (bz = false → G ≠ 999) := by
    intro e h
    rw [e] at hbz
    have h1 := HC.out.1
    have h2 : c1 = false := by revert hbz; cases c1 <;> simp
    rw [h2, h] at h1
    simp at h1
  clear hbz hc1 hc2
  go_upto_if 25 with fail
  go_cut [] from 26 to 26 (fun U => ∃ R' : Nat, Hid (U.heap[w.heap.size]? = some (boxV ⟨(G : Nat), so2, sn2, sc2, lo2, ln2, lc2, ta2, (R' : Nat)⟩) ∧ Keeps no w U ∧ R' ≤ 8 ∧ (G ≠ 999 ∨ R' = 0)))
  case first =>
    cases bz with
    | true =>
      have b4 := cell_of_blk HB3.out.1 4
      simp only [List.getElem?_toArray, List.getElem?_cons_zero, List.getElem?_cons_succ] at b4
      have f4 := frozen_of_blk HB3.out.1 4
      go_wp2_with fail
      go_meet
      case rel => exact ⟨0, (box_oth HB3.out.1 HB3.out.2 0).1, (box_oth HB3.out.1 HB3.out.2 0).2, by omega, .inr rfl⟩
    | false =>
      have HZ' : Hid (G ≠ 999) := HZ.out rfl
      clear HZ
      go_wp2_with fail
      go_meet
      case rel => exact ⟨R, HB3.out.1, HB3.out.2, HG.out.2, .inl HZ'.out⟩
  case rest =>
  obtain ⟨R', HU⟩ := hcut
  rename World => U
  have c0 := cell_of_blk HU.out.1 0
  have c1 := cell_of_blk HU.out.1 1
  have c2 := cell_of_blk HU.out.1 2
  have c3 := cell_of_blk HU.out.1 3
  have c4 := cell_of_blk HU.out.1 4
  simp only [List.getElem?_toArray, List.getElem?_cons_zero, List.getElem?_cons_succ] at c0 c1 c2 c3 c4
  have HTU : Hid (Tabs U) := HT.out.keepsN HU.out.2.1
  have hW := HS.out.1.keepsN HU.out.2.1
  have hla := laid_any U HTU.out ⟨(G : Nat), so2, sn2, sc2, lo2, ln2, lc2, ta2, (R' : Nat)⟩ sl2 ll2 G R' ⟨hW.gen, hW.tail, ⟨by show _ ≤ ((R' : Nat) : Int); omega, by have := HU.out.2.2.1; show ((R' : Nat) : Int) ≤ _; omega⟩, hW.sn, hW.ln, hW.s, hW.l, hW.sok, hW.lok, hW.slt, hW.llt⟩ rfl HS.out.2.1 HS.out.2.2.1 rfl HU.out.2.2.1 9 (by decide)
  unfold WV.val at hla
  simp only at hla
  clear hW
  go_wp2_with fail
  refine hla.mono ?_
  rintro e w5 ⟨p, q, rfl, HL⟩
  clear hla c0 c1 c2 c3 c4 b0
  obtain ⟨F, bs, N, hH⟩ := laid_held HL.out HS.out.2.2.1 HU.out.2.2.1 HU.out.2.2.2
  generalize recL ll2 = rs at hH
  generalize otS _ _ = s0 at hH
  have H5 : Hid (Held 9 G rs U w5 p q F bs N s0) := hH
  clear hH HL HB3
  have HX : Hid (U.heap[w.heap.size]? = some (boxV ⟨(G : Nat), so2, sn2, sc2, lo2, ln2, lc2, ta2, (R' : Nat)⟩) ∧ w.heap.size < U.heap.size ∧ Keeps no w U) := ⟨HU.out.1, lt_of_block HU.out.1, HU.out.2.1⟩
  clear HU HS
  obtain ⟨s1, hG1⟩ := H5.out.boot
  have HG1 : Hid (Good 9 G bs rs s0 s1 ∧ On s1 ∧ Sz s1) := hG1
  clear hG1
  have hbo := dn_boot H5.out.dn HTU.out H5.out.sz (by decide) HG1.out.1.boot
  go_wp2_with fail
  refine hbo.mono ?_
  rintro e w6 ⟨q1, l1, rfl, HL1, HS1, D1, K1⟩
  clear hbo
  have H6 : Hid (Held 9 G rs U w6 p q F bs N s1) := H5.out.after HG1.out D1.out K1.out
  obtain ⟨N1, hN1⟩ := HS1.out
  have HS1' : Hid (N1 ≤ 420000000 ∧ Sto w5.heap.size w6 q1 (redoS 9 (bst 9 bs) rs) N1 (fun b => b = l1)) := hN1
  clear hN1 HS1
  have HIL : Hid (IsL w6 l1 p (logN G) (rowb rs).length ∧ ¬ F l1) := ⟨HL1.out.1, HL1.out.2.2⟩
  have HSX : Hid (∀ X, Keeps F w6 X → X.cell? ⟨w.heap.size, 0, none⟩ = some (.int .i64 (G : Nat))) := fun X hX => by
    have := cell_of_blk (H6.out.cell HX.out.2.1 HX.out.1 hX) 0
    simpa using this
  have hnm := fun X (hX : Keeps no w6 X) => LogName_any X l1 p (logN G) (rowb rs).length (HIL.out.1.keepsN hX)
  have HNM : Hid (∀ X, Keeps no w6 X → Calls Tryz.prog 29 #[.pointer (some ⟨l1, 0, none⟩)] X fun e w' => e = .returned (.string (logN G)) ∧ w' = X) := hnm
  have hlg := fun X (hX : Keeps no w6 X) => log_any X ((HTU.out.keepsN (H6.out.dn.kept.trans hX)).pow) (G : Int) (by omega) HG.out.1
  have HLG : Hid (∀ X, Keeps no w6 X → Calls Tryz.prog 10 #[.int .i64 ((G : Nat) : Int)] X fun e w' => e = .returned (.string (logN G)) ∧ Keeps no X w') := hlg
  have HSM : Hid (∀ X, Keeps no w6 X → Calls Tryz.prog 26 #[.pointer (some ⟨q1, 0, none⟩), .pointer (some ⟨q, 0, none⟩), .bool true] X fun e w' => e = .returned (.bool true) ∧ Keeps no X w') := fun X hX => sameStores_any (HS1'.out.2.keepsN hX) (H6.out.st.keepsN hX) (by have := HS1'.out.1; omega) (by have := H6.out.n; omega)
  have HCL : Hid (∀ X, Keeps no w6 X → Calls Tryz.prog 30 #[.pointer (some ⟨p, 0, none⟩), .int .i64 ((G : Nat) : Int)] X fun e w' => e = .returned (.bool true) ∧ Hid (Dn U w' p F s1) ∧ Hid (Keeps F X w')) := fun X hX => clean_any (H6.out.dn.beside hX) HTU.out G HG.out.1 HG1.out.2.1 HG1.out.1.clean
  clear hnm hlg HL1
  obtain ⟨LN, hLN⟩ : ∃ LN, LN = logN (G : Int) := ⟨_, rfl⟩
  rw [← hLN] at HNM HLG HIL
  clear hLN
  go_upto_region 10 with fail
  go_cut [73] from 42 to 72 (fun v73 U' => v73 = .bool false ∧ Hid (Dn U U' p F s1 ∧ Keeps F w6 U'))
  case first =>
    refine wp_region_held_drew (S := (fun X => X.cell? ⟨w.heap.size, 0, none⟩ = some (.int .i64 ((G : Nat) : Int)))) (by kernel_rfl) ?_ (fun hHeld => ?_)
    · exact HSX.out _ ((Keeps.refl _ _).drew)
    refine wpAnyH_take (i := 0) (v := ?_) (by simp only [List.getElem?_toArray, List.getElem?_cons_succ, List.getElem?_cons_zero]; rfl) (by kernel_rfl) (by kernel_rfl) (by kernel_rfl) (by exact fun _ _ _ h => h) (Or.inl ⟨by rfl, ?_⟩) (by assumption) ?_
    rotate_left
    · (intro _ hSw; (try dsimp only at hSw); go_simp; (try with_reducible rfl))
    try simp only [Act.put, List.setIfInBounds_toArray, List.set_cons_zero, List.set_cons_succ]
    refine wpAnyH_take (i := 1) (v := ?_) (by simp only [List.getElem?_toArray, List.getElem?_cons_succ, List.getElem?_cons_zero]; rfl) (by kernel_rfl) (by kernel_rfl) (by kernel_rfl) (by exact fun _ _ _ h => h) (Or.inl ⟨by rfl, ?_⟩) (by assumption) ?_
    rotate_left
    · (intro _ hSw; (try dsimp only at hSw); go_simp; (try with_reducible rfl))
    try simp only [Act.put, List.setIfInBounds_toArray, List.set_cons_zero, List.set_cons_succ]
    refine wpAnyH_take (i := 2) (v := ?_) (by simp only [List.getElem?_toArray, List.getElem?_cons_succ, List.getElem?_cons_zero]; rfl) (by kernel_rfl) (by kernel_rfl) (by kernel_rfl) (by exact fun _ _ _ h => h) (Or.inl ⟨by rfl, ?_⟩) (by assumption) ?_
    rotate_left
    · (intro _ hSw; (try dsimp only at hSw); go_simp; (try with_reducible rfl))
    try simp only [Act.put, List.setIfInBounds_toArray, List.set_cons_zero, List.set_cons_succ]
    refine wpAnyH_take (i := 3) (v := ?_) (by simp only [List.getElem?_toArray, List.getElem?_cons_succ, List.getElem?_cons_zero]; rfl) (by kernel_rfl) (by kernel_rfl) (by kernel_rfl) (by exact fun _ _ _ h => h) (Or.inl ⟨by rfl, ?_⟩) (by assumption) ?_
    rotate_left
    · (intro _ hSw; (try dsimp only at hSw); go_simp; (try with_reducible rfl))
    try simp only [Act.put, List.setIfInBounds_toArray, List.set_cons_zero, List.set_cons_succ]
    refine wpAnyH_take (i := 4) (v := ?_) (by simp only [List.getElem?_toArray, List.getElem?_cons_succ, List.getElem?_cons_zero]; rfl) (by kernel_rfl) (by kernel_rfl) (by kernel_rfl) (by exact fun _ _ _ h => h) (Or.inl ⟨by rfl, ?_⟩) (by assumption) ?_
    rotate_left
    · (intro _ hSw; (try dsimp only at hSw); go_simp; (try with_reducible rfl))
    try simp only [Act.put, List.setIfInBounds_toArray, List.set_cons_zero, List.set_cons_succ]
    refine wpAnyH_take (i := 5) (v := ?_) (by simp only [List.getElem?_toArray, List.getElem?_cons_succ, List.getElem?_cons_zero]; rfl) (by kernel_rfl) (by kernel_rfl) (by kernel_rfl) (by exact fun _ _ _ h => h) (Or.inl ⟨by rfl, ?_⟩) (by assumption) ?_
    rotate_left
    · (intro _ hSw; (try dsimp only at hSw); go_simp; (try with_reducible rfl))
    try simp only [Act.put, List.setIfInBounds_toArray, List.set_cons_zero, List.set_cons_succ]
    refine wpAnyH_take (i := 6) (v := ?_) (by simp only [List.getElem?_toArray, List.getElem?_cons_succ, List.getElem?_cons_zero]; rfl) (by kernel_rfl) (by kernel_rfl) (by kernel_rfl) (by exact fun _ _ _ h => h) (Or.inl ⟨by rfl, ?_⟩) (by assumption) ?_
    rotate_left
    · (intro _ hSw; (try dsimp only at hSw); go_simp; (try with_reducible rfl))
    try simp only [Act.put, List.setIfInBounds_toArray, List.set_cons_zero, List.set_cons_succ]
    refine wpAnyH_take (i := 7) (v := ?_) (by simp only [List.getElem?_toArray, List.getElem?_cons_succ, List.getElem?_cons_zero]; rfl) (by kernel_rfl) (by kernel_rfl) (by kernel_rfl) (by exact fun _ _ _ h => h) (Or.inl ⟨by rfl, ?_⟩) (by assumption) ?_
    rotate_left
    · (intro _ hSw; (try dsimp only at hSw); go_simp; (try with_reducible rfl))
    try simp only [Act.put, List.setIfInBounds_toArray, List.set_cons_zero, List.set_cons_succ]
    refine wpAnyH_take (i := 8) (v := ?_) (by simp only [List.getElem?_toArray, List.getElem?_cons_succ, List.getElem?_cons_zero]; rfl) (by kernel_rfl) (by kernel_rfl) (by kernel_rfl) (by exact fun _ _ _ h => h) (Or.inl ⟨by rfl, ?_⟩) (by assumption) ?_
    rotate_left
    · (intro _ hSw; (try dsimp only at hSw); go_simp; (try with_reducible rfl))
    try simp only [Act.put, List.setIfInBounds_toArray, List.set_cons_zero, List.set_cons_succ]
    refine wpAnyH_take (i := 9) (v := ?_) (by simp only [List.getElem?_toArray, List.getElem?_cons_succ, List.getElem?_cons_zero]; rfl) (by kernel_rfl) (by kernel_rfl) (by kernel_rfl) (by exact fun _ _ _ h => h) (Or.inl ⟨by rfl, ?_⟩) (by assumption) ?_
    rotate_left
    · (intro _ hSw; (try dsimp only at hSw); go_simp; (try with_reducible rfl))
    try simp only [Act.put, List.setIfInBounds_toArray, List.set_cons_zero, List.set_cons_succ]
    refine wpAnyH_take (i := 10) (v := ?_) (by simp only [List.getElem?_toArray, List.getElem?_cons_succ, List.getElem?_cons_zero]; rfl) (by kernel_rfl) (by kernel_rfl) (by kernel_rfl) (by exact fun _ _ _ h => h) (Or.inl ⟨by rfl, ?_⟩) (by assumption) ?_
    rotate_left
    · (intro _ hSw; (try dsimp only at hSw); go_simp; (try with_reducible rfl))
    try simp only [Act.put, List.setIfInBounds_toArray, List.set_cons_zero, List.set_cons_succ]
    refine wpAnyH_take (i := 11) (v := ?_) (by simp only [List.getElem?_toArray, List.getElem?_cons_succ, List.getElem?_cons_zero]; rfl) (by kernel_rfl) (by kernel_rfl) (by kernel_rfl) (by exact fun _ _ _ h => h) (Or.inl ⟨by rfl, ?_⟩) (by assumption) ?_
    rotate_left
    · (intro _ hSw; (try dsimp only at hSw); go_simp; (try with_reducible rfl))
    try simp only [Act.put, List.setIfInBounds_toArray, List.set_cons_zero, List.set_cons_succ]
    refine wpAnyH_take (i := 12) (v := ?_) (by simp only [List.getElem?_toArray, List.getElem?_cons_succ, List.getElem?_cons_zero]; rfl) (by kernel_rfl) (by kernel_rfl) (by kernel_rfl) (by exact fun _ _ _ h => h) (Or.inl ⟨by rfl, ?_⟩) (by assumption) ?_
    rotate_left
    · (intro _ hSw; (try dsimp only at hSw); go_simp; (try with_reducible rfl))
    try simp only [Act.put, List.setIfInBounds_toArray, List.set_cons_zero, List.set_cons_succ]
    refine wpAnyH_take (i := 13) (v := ?_) (by simp only [List.getElem?_toArray, List.getElem?_cons_succ, List.getElem?_cons_zero]; rfl) (by kernel_rfl) (by kernel_rfl) (by kernel_rfl) (by exact fun _ _ _ h => h) (Or.inl ⟨by rfl, ?_⟩) (by assumption) ?_
    rotate_left
    · (intro _ hSw; (try dsimp only at hSw); go_simp; (try with_reducible rfl))
    try simp only [Act.put, List.setIfInBounds_toArray, List.set_cons_zero, List.set_cons_succ]
    refine wpAnyH_take (i := 15) (v := ?_) (by simp only [List.getElem?_toArray, List.getElem?_cons_succ, List.getElem?_cons_zero]; rfl) (by kernel_rfl) (by kernel_rfl) (by kernel_rfl) (by exact fun _ _ _ h => h) (Or.inl ⟨by rfl, ?_⟩) (by assumption) ?_
    rotate_left
    · (intro _ hSw; (try dsimp only at hSw); go_simp; (try with_reducible rfl))
    try simp only [Act.put, List.setIfInBounds_toArray, List.set_cons_zero, List.set_cons_succ]
    refine wpAnyH_take (i := 16) (v := ?_) (by simp only [List.getElem?_toArray, List.getElem?_cons_succ, List.getElem?_cons_zero]; rfl) (by kernel_rfl) (by kernel_rfl) (by kernel_rfl) (by exact fun _ _ _ h => h) (Or.inl ⟨by rfl, ?_⟩) (by assumption) ?_
    rotate_left
    · (intro _ hSw; (try dsimp only at hSw); go_simp; (try with_reducible rfl))
    try simp only [Act.put, List.setIfInBounds_toArray, List.set_cons_zero, List.set_cons_succ]
    have HC : Hid (Keeps no w6 w6.drew) := (Keeps.refl no _).drew
    generalize w6.drew = z0 at HC ⊢
    refine wpAnyH_ready (rs := [14]) (by kernel_rfl) (by simp) ?_
    refine AllReadyH.cons (by simp only [List.getElem?_toArray, List.getElem?_cons_succ, List.getElem?_cons_zero]; rfl) (fun Kq hKq => ?_) AllReadyH.nil
    (go_simp; refine (HNM.out _ HC.out).mono ?_; rintro e w1x ⟨rfl, hw1x⟩; subst w1x)
    refine hKq.out _ _ ?_ (fun hHeldN => ?_)
    · exact HSX.out _ HC.out.of_no
    clear hKq Kq hHeld
    have hHeld := hHeldN
    clear hHeldN
    refine wpAnyH_ready (rs := [17]) (by kernel_rfl) (by simp) ?_
    refine AllReadyH.cons (by simp only [List.getElem?_toArray, List.getElem?_cons_succ, List.getElem?_cons_zero]; rfl) (fun Kq hKq => ?_) AllReadyH.nil
    (go_simp; refine (HLG.out _ HC.out).mono ?_; rintro e w8 ⟨rfl, hk8⟩; have K8 : Hid (Keeps no w6 w8) := HC.out.trans hk8; clear hk8)
    refine hKq.out _ _ ?_ (fun hHeldN => ?_)
    · exact HSX.out _ K8.out.of_no
    clear hKq Kq hHeld
    have hHeld := hHeldN
    clear hHeldN
    refine wpAnyH_take (i := 18) (v := ?_) (by simp only [List.getElem?_toArray, List.getElem?_cons_succ, List.getElem?_cons_zero]; rfl) (by kernel_rfl) (by kernel_rfl) (by kernel_rfl) (by exact fun _ _ _ h => h) (Or.inl ⟨by rfl, ?_⟩) (by assumption) ?_
    rotate_left
    · (intro _ hSw; (try dsimp only at hSw); go_simp; (try with_reducible rfl))
    try simp only [Act.put, List.setIfInBounds_toArray, List.set_cons_zero, List.set_cons_succ]
    refine wpAnyH_take (i := 19) (v := ?_) (by simp only [List.getElem?_toArray, List.getElem?_cons_succ, List.getElem?_cons_zero]; rfl) (by kernel_rfl) (by kernel_rfl) (by kernel_rfl) (by exact fun _ _ _ h => h) (Or.inl ⟨by rfl, ?_⟩) (by assumption) ?_
    rotate_left
    · (intro _ hSw; (try dsimp only at hSw); go_simp; (try with_reducible rfl))
    try simp only [Act.put, List.setIfInBounds_toArray, List.set_cons_zero, List.set_cons_succ]
    refine wpAnyH_take (i := 20) (v := ?_) (by simp only [List.getElem?_toArray, List.getElem?_cons_succ, List.getElem?_cons_zero]; rfl) (by kernel_rfl) (by kernel_rfl) (by kernel_rfl) (by exact fun _ _ _ h => h) (Or.inl ⟨by rfl, ?_⟩) (by assumption) ?_
    rotate_left
    · (intro _ hSw; (try dsimp only at hSw); go_simp; (try with_reducible rfl))
    try simp only [Act.put, List.setIfInBounds_toArray, List.set_cons_zero, List.set_cons_succ]
    refine wpAnyH_take (i := 21) (v := ?_) (by simp only [List.getElem?_toArray, List.getElem?_cons_succ, List.getElem?_cons_zero]; rfl) (by kernel_rfl) (by kernel_rfl) (by kernel_rfl) (by exact fun _ _ _ h => h) (Or.inl ⟨by rfl, ?_⟩) (by assumption) ?_
    rotate_left
    · (intro _ hSw; (try dsimp only at hSw); go_simp; (try with_reducible rfl))
    try simp only [Act.put, List.setIfInBounds_toArray, List.set_cons_zero, List.set_cons_succ]
    refine wpAnyH_take (i := 22) (v := ?_) (by simp only [List.getElem?_toArray, List.getElem?_cons_succ, List.getElem?_cons_zero]; rfl) (by kernel_rfl) (by kernel_rfl) (by kernel_rfl) (by exact fun _ _ _ h => h) (Or.inl ⟨by rfl, ?_⟩) (by assumption) ?_
    rotate_left
    · (intro _ hSw; (try dsimp only at hSw); go_simp; (try with_reducible rfl))
    try simp only [Act.put, List.setIfInBounds_toArray, List.set_cons_zero, List.set_cons_succ]
    refine wpAnyH_ready (rs := [23]) (by kernel_rfl) (by simp) ?_
    refine AllReadyH.cons (by simp only [List.getElem?_toArray, List.getElem?_cons_succ, List.getElem?_cons_zero]; rfl) (fun Kq hKq => ?_) AllReadyH.nil
    (go_simp; refine (HSM.out _ K8.out).mono ?_; rintro e w9 ⟨rfl, hk9⟩; have K9 : Hid (Keeps no w6 w9) := K8.out.trans hk9; clear hk9)
    refine hKq.out _ _ ?_ (fun hHeldN => ?_)
    · exact HSX.out _ K9.out.of_no
    clear hKq Kq hHeld
    have hHeld := hHeldN
    clear hHeldN
    refine wpAnyH_take (i := 24) (v := ?_) (by simp only [List.getElem?_toArray, List.getElem?_cons_succ, List.getElem?_cons_zero]; rfl) (by kernel_rfl) (by kernel_rfl) (by kernel_rfl) (by exact fun _ _ _ h => h) (Or.inl ⟨by rfl, ?_⟩) (by assumption) ?_
    rotate_left
    · (intro _ hSw; (try dsimp only at hSw); go_simp; (try with_reducible rfl))
    try simp only [Act.put, List.setIfInBounds_toArray, List.set_cons_zero, List.set_cons_succ]
    refine wpAnyH_take (i := 25) (v := ?_) (by simp only [List.getElem?_toArray, List.getElem?_cons_succ, List.getElem?_cons_zero]; rfl) (by kernel_rfl) (by kernel_rfl) (by kernel_rfl) (by exact fun _ _ _ h => h) (Or.inl ⟨by rfl, ?_⟩) (by assumption) ?_
    rotate_left
    · (intro _ hSw; (try dsimp only at hSw); go_simp; (try with_reducible rfl))
    try simp only [Act.put, List.setIfInBounds_toArray, List.set_cons_zero, List.set_cons_succ]
    refine wpAnyH_take (i := 26) (v := ?_) (by simp only [List.getElem?_toArray, List.getElem?_cons_succ, List.getElem?_cons_zero]; rfl) (by kernel_rfl) (by kernel_rfl) (by kernel_rfl) (by exact fun _ _ _ h => h) (Or.inl ⟨by rfl, ?_⟩) (by assumption) ?_
    rotate_left
    · (intro _ hSw; (try dsimp only at hSw); go_simp; (try with_reducible rfl))
    try simp only [Act.put, List.setIfInBounds_toArray, List.set_cons_zero, List.set_cons_succ]
    refine wpAnyH_take (i := 27) (v := ?_) (by simp only [List.getElem?_toArray, List.getElem?_cons_succ, List.getElem?_cons_zero]; rfl) (by kernel_rfl) (by kernel_rfl) (by kernel_rfl) (by exact fun _ _ _ h => h) (Or.inl ⟨by rfl, ?_⟩) (by assumption) ?_
    rotate_left
    · (intro _ hSw; (try dsimp only at hSw); go_simp; (try with_reducible rfl))
    try simp only [Act.put, List.setIfInBounds_toArray, List.set_cons_zero, List.set_cons_succ]
    refine wpAnyH_take (i := 28) (v := ?_) (by simp only [List.getElem?_toArray, List.getElem?_cons_succ, List.getElem?_cons_zero]; rfl) (by kernel_rfl) (by kernel_rfl) (by kernel_rfl) (by exact fun _ _ _ h => h) (Or.inl ⟨by rfl, ?_⟩) (by assumption) ?_
    rotate_left
    · (intro _ hSw; (try dsimp only at hSw); go_simp; (try with_reducible rfl))
    try simp only [Act.put, List.setIfInBounds_toArray, List.set_cons_zero, List.set_cons_succ]
    refine wpAnyH_ready (rs := [29]) (by kernel_rfl) (by simp) ?_
    refine AllReadyH.cons (by simp only [List.getElem?_toArray, List.getElem?_cons_succ, List.getElem?_cons_zero]; rfl) (fun Kq hKq => ?_) AllReadyH.nil
    (go_simp; refine (HCL.out _ K9.out).mono ?_; rintro e wa ⟨rfl, hda, hka⟩; have KA : Hid (Keeps F w6 wa) := K9.out.of_no.trans hka.out; clear hka)
    refine hKq.out _ _ ?_ (fun hHeldN => ?_)
    · exact HSX.out _ KA.out
    clear hKq Kq hHeld
    have hHeld := hHeldN
    clear hHeldN
    refine wpAnyH_take (i := 30) (v := ?_) (by simp only [List.getElem?_toArray, List.getElem?_cons_succ, List.getElem?_cons_zero]; rfl) (by kernel_rfl) (by kernel_rfl) (by kernel_rfl) (by exact fun _ _ _ h => h) (Or.inl ⟨by rfl, ?_⟩) (by assumption) ?_
    rotate_left
    · (intro _ hSw; (try dsimp only at hSw); go_simp; (try with_reducible rfl))
    try simp only [Act.put, List.setIfInBounds_toArray, List.set_cons_zero, List.set_cons_succ]
    refine wpAnyH_take (i := 31) (v := ?_) (by simp only [List.getElem?_toArray, List.getElem?_cons_succ, List.getElem?_cons_zero]; rfl) (by kernel_rfl) (by kernel_rfl) (by kernel_rfl) (by exact fun _ _ _ h => h) (Or.inl ⟨by rfl, ?_⟩) (by assumption) ?_
    rotate_left
    · (intro _ hSw; (try dsimp only at hSw); go_simp; (try with_reducible rfl))
    try simp only [Act.put, List.setIfInBounds_toArray, List.set_cons_zero, List.set_cons_succ]
    refine wpAnyH_done (by kernel_rfl) ?_ _
    clear hHeld
    go_wp2_with fail
    go_meet
    case rel => exact ⟨rfl, hda.out, KA.out⟩
  case rest =>
  obtain ⟨rfl, HW⟩ := hcut
  rename World => w7
  have H7 : Hid (Held 9 G rs U w7 p q F bs N s1) := ⟨HW.out.1, H6.out.on, H6.out.iv, H6.out.bk, H6.out.sz, (H6.out.st.other HW.out.2 (fun b hb => .inr hb)).sub (fun b hb => .inl hb), H6.out.n, H6.out.gd⟩
  have HIL7 : Hid (IsL w7 l1 p LN (rowb rs).length) := HIL.out.1.keeps HW.out.2 HIL.out.2
  have HF7 : Hid (¬ F l1) := HIL.out.2
  clear HSX HNM HLG HSM HCL HW HIL HS1' H6 H5 D1 K1
  obtain ⟨s2, hG2⟩ := H7.out.boot
  have HG2 : Hid (Good 9 G bs rs s1 s2 ∧ On s2 ∧ Sz s2) := hG2
  clear hG2
  have hbo := dn_boot H7.out.dn HTU.out H7.out.sz (by decide) HG2.out.1.boot
  go_wp2_with fail
  refine hbo.mono ?_
  rintro e w8 ⟨q2, l2, rfl, HL2, HS2, D2, K2⟩
  clear hbo
  have H8 : Hid (Held 9 G rs U w8 p q F bs N s2) := H7.out.after HG2.out D2.out K2.out
  obtain ⟨N2, hN2⟩ := HS2.out
  have HS2' : Hid (N2 ≤ 420000000 ∧ Sto w7.heap.size w8 q2 (redoS 9 (bst 9 bs) rs) N2 (fun b => b = l2)) := hN2
  clear hN2 HS2
  have HIL8 : Hid (IsL w8 l1 p LN (rowb rs).length) := HIL7.out.keeps K2.out HF7.out
  have hz2 := LogSize_any w8 l2 p (logN G) (rowb rs).length HL2.out.1
  have hz1 := LogSize_any w8 l1 p LN (rowb rs).length HIL8.out
  obtain ⟨kz, hkz⟩ : ∃ kz, kz = (rowb rs).length := ⟨_, rfl⟩
  rw [← hkz] at hz1 hz2
  clear hkz
  go_wp2_with fail
  refine hz2.mono ?_
  rintro e w1x ⟨rfl, hw1x⟩
  subst w1x
  go_wp2_with fail
  refine hz1.mono ?_
  rintro e w1x ⟨rfl, hw1x⟩
  subst w1x
  clear hz1 hz2
  have hss := sameStores_any HS2'.out.2 H8.out.st (by have := HS2'.out.1; omega) (by have := H8.out.n; omega)
  go_wp2_with fail
  refine hss.mono ?_
  rintro e w9 ⟨rfl, hk9⟩
  clear hss
  have hcl := clean_any (H8.out.dn.beside hk9) HTU.out G HG.out.1 HG2.out.2.1 HG2.out.1.clean
  go_wp2_with fail
  refine hcl.mono ?_
  rintro e wa ⟨rfl, hda, hka⟩
  go_wp2_with fail
  go_ret
  exact ⟨rfl, HX.out.2.2.trans hda.out.kept⟩
end Go.Proofs.YtoijeipoblnliaaGreatDoor

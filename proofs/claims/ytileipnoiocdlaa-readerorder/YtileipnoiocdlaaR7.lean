import Derived.Test.YtileipnoiocdlaaR6
import Derived.Deep.CutBlock
/- A round's questions made. -/
namespace Go.Proofs.Ytileipnoiocdlaa
open Go.RowKit Go.Sort Orl
set_option linter.unusedVariables false
set_option linter.unusedSimpArgs false

theorem Own.atH {w : World} {a : Option Addr} {c : Nat} {xs : List (GS Tx)} (h : Own HE w a c xs) {j : Nat} (hj : j < xs.length) : ∃ b, a = some ⟨b, 0, none⟩ ∧ w.cell? ⟨b, j * 2, none⟩ = some (.int .i64 ((xs.getD j gs0).n : Nat)) ∧ w.cell? ⟨b, j * 2 + 1, none⟩ = some (.slice (xs.getD j gs0).o (xs.getD j gs0).xs.length (xs.getD j gs0).c) := by
  rcases h.row with e | ⟨b, off, rfl, hc⟩
  · subst e; simp at hj
  · have hoff : off = 0 := by
      rcases h.shape with ⟨e, _⟩ | ⟨g, cur, e, _⟩
      · cases e
      · cases e; rfl
    subst hoff
    have key : ∀ i, i < 2 → ∀ u, (HE.enc (xs.getD j gs0))[i]? = some u → w.cell? ⟨b, j * 2 + i, none⟩ = some u := by
      intro i hi u hu
      have := hc (j * 2 + i) u (by
        have := cells_at okH gs0 xs j i hj hi
        rw [show j * 2 + i = j * HE.k + i from rfl, this]; exact hu)
      rwa [Nat.zero_add] at this
    exact ⟨b, rfl, key 0 (by decide) _ rfl, key 1 (by decide) _ rfl⟩
theorem makeRE (w : World) (n : Nat) (h : n ≤ 64) : ∃ w', (Instr.makeSlice 77 (.int .i64 0) (.int .i64 (n : Int))).run Try.prog w = .ok (.slice (some ⟨w.heap.size, 0, none⟩) 0 n) w' ∧ Own RE w' (some ⟨w.heap.size, 0, none⟩) n [] ∧ Keeps no w w' := by
  obtain ⟨i0, hi, hz0, hz1, hz2⟩ := info_parts infoRE
  obtain ⟨w', hr, ho, hg⟩ := run_make_own (P := Try.prog) w 0 77 84 i0 _ 10 Try.underlying77 hi hz0 hz1 .i64 .i64 n (by rw [hz2]; omega) (by unfold maxLen; omega) (Nat.zero_le _)
  exact ⟨w', hr, ho, (Keeps.refl _ _).grown hg (fun k hk => by cases hk)⟩
/-- the first k names' places -/
structure Pla (nm : List Tx) (k : Nat) (L : List (Tx × Nat)) : Prop where
  at' : ∀ j, j < k → fnd (nm.getD j e0) L = some j
  le : L.length ≤ k
theorem nodup_at {nm : List Tx} (h : nm.Nodup) {i j : Nat} (hi : i < nm.length) (hj : j < nm.length) (e : nm.getD i e0 = nm.getD j e0) : i = j := by
  rw [List.getD_eq_getElem?_getD, List.getD_eq_getElem?_getD, List.getElem?_eq_getElem hi, List.getElem?_eq_getElem hj] at e
  have e2 : nm[i] = nm[j] := e
  by_cases h1 : i = j
  · exact h1
  · rcases Nat.lt_or_gt_of_ne h1 with h3 | h3
    · exact absurd e2 (List.pairwise_iff_getElem.1 h i j hi hj h3)
    · exact absurd e2.symm (List.pairwise_iff_getElem.1 h j i hj hi h3)
theorem Pla.succ {nm : List Tx} {k : Nat} {L : List (Tx × Nat)} (h : Pla nm k L) (hd : nm.Nodup) (hk : k < nm.length) : Pla nm (k + 1) (Go.Proofs.Ytileipnoiocdlaa.put (nm.getD k e0) k L) := by
  refine ⟨fun j hj => ?_, by have := length_put_le (nm.getD k e0) k L; have := h.le; omega⟩
  rw [fnd_put]
  by_cases e : j = k
  · rw [if_pos (by rw [e]), e]
  · rw [if_neg (fun e2 => e (nodup_at hd (by omega) hk e2))]
    exact h.at' j (by omega)
theorem idx_lt {nm : List Tx} {k : Tx} (h : k ∈ nm) : ixN nm k < nm.length := List.findIdx_lt_length_of_exists ⟨k, h, by simp⟩
theorem idx_at {nm : List Tx} {k : Tx} (h : k ∈ nm) : nm.getD (ixN nm k) e0 = k := by
  have := idx_lt h
  have h2 := List.findIdx_getElem (w := this)
  rw [List.getD_eq_getElem?_getD, List.getElem?_eq_getElem this]
  exact of_decide_eq_true h2
theorem Pla.idx {nm : List Tx} {L : List (Tx × Nat)} (h : Pla nm nm.length L) {k : Tx} (hk : k ∈ nm) : fnd k L = some (ixN nm k) := by
  have := h.at' _ (idx_lt hk)
  rwa [idx_at hk] at this
/-- the first j keys of a question's map -/
structure OpP (nm ks : List Tx) (j : Nat) (L : List (Tx × Nat)) : Prop where
  iff : ∀ k a, fnd k L = some a ↔ k ∈ ks.take j ∧ a = ixN nm k
  le : L.length ≤ j
theorem OpP.zero (nm ks : List Tx) : OpP nm ks 0 [] := ⟨fun k a => by simp [fnd], Nat.le_refl _⟩
theorem OpP.succ {nm ks : List Tx} {j : Nat} {L : List (Tx × Nat)} (h : OpP nm ks j L) (hj : j < ks.length) : OpP nm ks (j + 1) (Go.Proofs.Ytileipnoiocdlaa.put (ks.getD j e0) (ixN nm (ks.getD j e0)) L) := by
  refine ⟨fun k a => ?_, by have := length_put_le (ks.getD j e0) (ixN nm (ks.getD j e0)) L; have := h.le; omega⟩
  rw [fnd_put, take_succ_getD ks j e0 hj, List.mem_append, List.mem_singleton]
  by_cases e : k = ks.getD j e0
  · rw [if_pos e]
    constructor
    · intro h1; injection h1 with h1; exact ⟨.inr e, by rw [← h1, e]⟩
    · rintro ⟨_, h2⟩; rw [h2, e]
  · rw [if_neg e, h.iff]
    constructor
    · rintro ⟨h1, h2⟩; exact ⟨.inl h1, h2⟩
    · rintro ⟨h1, h2⟩; exact ⟨h1.resolve_right e, h2⟩
theorem opn_all {s : RS} (hg : s.got = List.replicate s.nm.length false) {k : Tx} (hk : k ∈ s.nm) : isOpn s k = true := by
  unfold isOpn
  rw [hg]
  have := idx_lt hk
  simp [List.getD_eq_getElem?_getD, this]
theorem OpP.all {s : RS} {ks : List Tx} {L : List (Tx × Nat)} (h : OpP s.nm ks ks.length L) (hg : s.got = List.replicate s.nm.length false) (hk : ∀ k ∈ ks, k ∈ s.nm) (hl : ks.length ≤ 1024) : OpL s ks L := by
  refine ⟨fun k a => ?_, by have := h.le; omega⟩
  rw [h.iff, List.take_length]
  constructor
  · rintro ⟨h1, h2⟩; exact ⟨⟨h1, opn_all hg (hk k h1)⟩, h2⟩
  · rintro ⟨⟨h1, _⟩, h2⟩; exact ⟨h1, h2⟩
/-- the questions, not numbered yet -/
def qs0 (s : RS) : List Qn := (List.range (psR s).length).map fun i => { qAt s i with req := 0 }
theorem qs0_len (s : RS) : (qs0 s).length = (psR s).length := by simp [qs0]
theorem qs0_at {s : RS} {i : Nat} (hi : i < (psR s).length) : (qs0 s).getD i q0 = { qAt s i with req := 0 } := by
  simp [qs0, List.getD_eq_getElem?_getD, hi]
/-- one question more -/
theorem Zs.push {wr W W' w5 : World} {s : RS} {o o5 : Option Addr} {c c5 i : Nat} {rz : List RZ} {r : RZ} {qs : List Qn} {q : Qn} {L : List (Tx × Nat)} (h : Zs wr s o c rz (List.range i) qs) (kW : Keeps no wr W) (hq : QNw W r.q q) (hm : IsMp KT Vi W r.mb L) (hL : OpL s ((psR s).getD i pp0).2 L) (hmb : wr.heap.size ≤ r.mb) (kW' : Keeps no W W') (ho : Own RE w5 o5 c5 (rz ++ [r])) (ha : Ap W' o o5 w5) : Zs w5 s o5 c5 (rz ++ [r]) (List.range (i + 1)) (qs ++ [q]) := by
  have hil : (List.range i).length = i := List.length_range
  have hrl : rz.length = i := by rw [h.lenI, hil]
  have hql : qs.length = i := by rw [h.lenQ, hil]
  have k5 : Keeps (inO o) W w5 := by
    rcases ha with ⟨_, k⟩ | ⟨_, k⟩
    · exact kW'.of_no.trans k
    · exact (kW'.trans k).of_no
  have hW := h.keepsN kW
  have tT : ∀ {x : Option Addr} {cx : Nat} {l : List Tx}, Own TE W x cx l → ∀ b, inO x b → ¬ inO o b := fun ho => tags_ne (by decide) ho hW.own
  have tW : ∀ {x : Option Addr} {cx : Nat} {l : List Wn}, Own WE W x cx l → ∀ b, inO x b → ¬ inO o b := fun ho => tags_ne (by decide) ho hW.own
  have tM : ∀ {b : Nat} {L : List (Tx × Nat)}, IsMp KT Vi W b L → ¬ inO o b := by
    intro b L hm hi
    obtain ⟨es, cl, h1⟩ := hm.obj
    obtain ⟨cur, h2⟩ := hW.own.tag b hi
    rw [h1] at h2; cases h2
  have eR : ∀ j, (rz ++ [r]).getD j rz0 = if j < i then rz.getD j rz0 else [r].getD (j - i) rz0 := fun j => by rw [getD_app, hrl]
  have eQ : ∀ j, (qs ++ [q]).getD j q0 = if j < i then qs.getD j q0 else [q].getD (j - i) q0 := fun j => by rw [getD_app, hql]
  have hi1 : (List.range (i + 1)).length = i + 1 := List.length_range
  have eI : ∀ j, j < i + 1 → (List.range (i + 1)).getD j 0 = j := fun j hj => by simp [List.getD_eq_getElem?_getD, hj]
  refine ⟨ho, by rw [List.length_append, hrl, hi1]; rfl, by rw [List.length_append, hql, hi1]; rfl, fun j hj => ?_, fun j hj => ?_, fun a b hab hb => ?_⟩
  · rw [hi1] at hj
    rw [eR, eQ]
    by_cases e : j < i
    · rw [if_pos e, if_pos e]
      have hx := hW.each j (by rw [hil]; exact e)
      exact hx.keeps k5 (fun b hb => hb.elim (tT hx.ks b) (tW hx.ws b))
    · rw [if_neg e, if_neg e, show j - i = 0 by omega]
      exact hq.keeps k5 (fun b hb => hb.elim (tT hq.ks b) (tW hq.ws b))
  · rw [hi1] at hj
    rw [eR, eI j hj]
    by_cases e : j < i
    · rw [if_pos e]
      obtain ⟨L1, h1, h2⟩ := hW.mp j (by rw [hil]; exact e)
      have e2 : (List.range i).getD j 0 = j := by simp [List.getD_eq_getElem?_getD, e]
      rw [e2] at h2
      exact ⟨L1, h1.keeps k5 (tM h1), h2⟩
    · have ej : j = i := by omega
      rw [if_neg e, ej, Nat.sub_self]
      exact ⟨L, hm.keeps k5 (tM hm), hL⟩
  · rw [hi1] at hb
    rw [eR, eR, if_pos (show a < i by omega)]
    by_cases e : b < i
    · rw [if_pos e]; exact h.sep a b hab (by rw [hil]; exact e)
    · rw [if_neg e, show b - i = 0 by omega]
      obtain ⟨L1, h1, _⟩ := h.mp a (by rw [hil]; omega)
      have := h1.lt
      intro e2
      have e3 : ([r].getD 0 rz0).mb = r.mb := rfl
      omega
theorem told_at {w : World} {P : Nat} {nm : List Tx} {o : Option Addr} {c : Nat} {gs : List (GS Tx)} {w' : World} (h : Told TE HE idT w P nm o c gs w') {s : RS} (hP : s.parts = P) (hn : s.nm = nm) : gs.length = (psR s).length ∧ ∀ j, j < gs.length → ((gs.getD j gs0).n, (gs.getD j gs0).xs) = (psR s).getD j pp0 := by
  have e : gs.map (fun g => (g.n, g.xs)) = psR s := by rw [h.val]; unfold psR; rw [hP, hn]
  refine ⟨by rw [← e, List.length_map], fun j hj => ?_⟩
  rw [← e]
  simp [List.getD_eq_getElem?_getD, hj]
structure Rnd (s : RS) (m : Nat) : Prop where
  p1 : 1 ≤ s.parts
  p2 : s.parts ≤ 64
  cl : s.client ≤ 65535
  nml : s.nm.length ≤ 1024
  nmz : ∀ k ∈ s.nm, k.size ≤ 65535
  nmd : s.nm.Nodup
  got : s.got = List.replicate s.nm.length false
  rd : s.round = m
def QsTo (w : World) (s : RS) (e : Ending) (w' : World) : Prop := ∃ ro rn rc rz, e = .returned (.slice ro rn rc) ∧ rn = (psR s).length ∧ Zs w' s ro rc rz (List.range (psR s).length) (qs0 s) ∧ (∀ i, ZB ro rz (psR s).length i → w.heap.size ≤ i) ∧ Keeps no w w'
/-- behind the first i parts -/
structure Zi (w wA wr : World) (s : RS) (PB n : Nat) (og : Option Addr) (cg : Nat) (gs : List (GS Tx)) (o : Option Addr) (c : Nat) (rz : List RZ) (i : Nat) : Prop where
  zs : Zs wr s o c rz (List.range i) ((qs0 s).take i)
  nw : ∀ x, ZB o rz i x → wA.heap.size ≤ x
  kp : Keeps no w wr
  pl : ∃ L, IsMp KT Vi wr PB L ∧ Pla s.nm n L
  td : Told TE HE idT wA s.parts s.nm og cg gs wr
set_option maxRecDepth 10000 in
set_option maxHeartbeats 4000000 in
theorem questions1_any (w : World) (p : Nat) (s : RS) (o : Option Addr) (n c : Nat) (hn : n = s.nm.length) (hs : Sl TE w o c s.nm) (hr : Rnd s 1) (c1 : w.cell? ⟨p, 1, none⟩ = some (.int .i64 (s.parts : Nat))) (c2 : w.cell? ⟨p, 2, none⟩ = some (.int .i64 (s.client : Nat))) :
    Calls Try.prog 43 #[.pointer (some ⟨p, 0, none⟩), .slice o n c, .func (.func 26) #[] #[]] w (QsTo w s) := by
  have HN : Hid (n = s.nm.length ∧ Sl TE w o c s.nm ∧ Rnd s 1) := ⟨hn, hs, hr⟩
  have hnb : (n : Int) ≤ 1024 := by have := hr.nml; omega
  have HCC : Hid (∀ X, Keeps no w X → X.cell? ⟨p, 1, none⟩ = some (.int .i64 (s.parts : Nat)) ∧ X.cell? ⟨p, 2, none⟩ = some (.int .i64 (s.client : Nat))) := fun X k => ⟨k.cellN c1, k.cellN c2⟩
  have hpl := World.block_lt_of_cell? w _ c1
  simp only at hpl
  clear hn hs hr c1 c2
  have hmm := makeTI
  obtain ⟨PB, hPB⟩ : ∃ PB, PB = w.heap.size := ⟨_, rfl⟩
  have HP0 : Hid (IsMp KT Vi (w.alloc (.map #[] 0)) PB ([] : List (Tx × Nat)) ∧ PB = w.heap.size) := ⟨by rw [hPB]; exact isMp_made w, hPB⟩
  go_enter Try.func43, Try.ntmps43
  go_wp2_with fail
  rw [← hPB]
  clear hPB
  go_loopw [24] (fun s24 wr => ∃ k : Nat, k ≤ n ∧ s24 = .int .i64 k ∧ Hid (∃ L, IsMp KT Vi wr PB L ∧ Pla s.nm k L ∧ Keeps no w wr)) (fun s24 _ => n - (intOf s24).toNat)
  case atStart => exact ⟨0, by omega, rfl, [], HP0.out.1, ⟨fun j hj => by omega, Nat.le_refl _⟩, (Keeps.refl _ _).alloc _⟩
  case round =>
    rename World => wr
    obtain ⟨k, hk, rfl, HT⟩ := hrel
    by_cases hlt : k < n
    · have hlt' : (k : Int) < n := by omega
      have hkl : k < s.nm.length := by rw [← HN.out.1]; exact hlt
      obtain ⟨L, hM, hP, hK⟩ := HT.out
      obtain ⟨b, off, eo, d0⟩ := (HN.out.2.1.keepsN hK).at hkl
      have hz := HN.out.2.2.nmz _ (getD_mem_lt e0 hkl)
      obtain ⟨w1, hrun, hM1, hK1, hS1⟩ := updTI hM (by have := hP.le; unfold maxLen; omega) (k := s.nm.getD k e0) (by unfold maxLen; omega) k
      have H1 : Hid (∃ L, IsMp KT Vi w1 PB L ∧ Pla s.nm (k + 1) L ∧ Keeps no w w1) := ⟨_, hM1, hP.succ HN.out.2.2.nmd hkl, hK.then hK1 (fun i hi => .inr (by rw [hi, HP0.out.2]; exact Nat.le_refl _))⟩
      generalize s.nm.getD k e0 = x at d0 hrun
      subst eo
      clear hM1 hK1 hS1 hM hP hK HT hkl hz
      go_wp2_with fail
      go_roundw
      case rel => exact ⟨k + 1, by omega, by go_num, H1⟩
      case measure => simp [intOf]; omega
    · have hlt' : ¬ (k : Int) < n := by omega
      have HPL : Hid (∃ L, IsMp KT Vi wr PB L ∧ Pla s.nm n L ∧ Keeps no w wr) := by have e : k = n := (by omega); have := HT.out; rwa [e] at this
      have HKR : Hid (Keeps no w wr) := by obtain ⟨L, _, _, h⟩ := HPL.out; exact h
      have c1 := (HCC.out wr HKR.out).1
      have HGR : Hid (Calls Try.prog 59 #[.slice o n c, .int .i64 (s.parts : Nat)] wr fun e w' => ∃ o m c gs, e = .returned (.tuple #[.slice o m c, .int .i64 0]) ∧ Hid (m = gs.length ∧ Told TE HE idT wr s.parts s.nm o c gs w')) := groupT_yes wr o n c s.nm s.parts HN.out.1 (by have := HN.out.2.2.nml; omega) (fun x hx => by have := HN.out.2.2.nmz x hx; unfold maxLen; omega) (HN.out.2.1.keepsN HKR.out) (by have := HN.out.2.2.p1; omega) HN.out.2.2.p2
      clear HT hlt'
      go_wp2_with fail
      refine HGR.out.mono ?_
      rintro e w2 ⟨og, mg, cg, gs, rfl, HTD⟩
      have HGS : Hid (mg = gs.length ∧ mg = (psR s).length ∧ ∀ j, j < mg → ((gs.getD j gs0).n, (gs.getD j gs0).xs) = (psR s).getD j pp0) := by
        have h := told_at HTD.out.2 (s := s) rfl rfl
        exact ⟨HTD.out.1, by rw [HTD.out.1, h.1], fun j hj => h.2 j (by rw [← HTD.out.1]; exact hj)⟩
      have hmg : (mg : Int) ≤ 64 := by have := HGS.out.2.1; have := ps_le s; have := HN.out.2.2.p2; omega
      obtain ⟨w3, hr3, ho3, hk3⟩ := makeRE w2 mg (by omega)
      have HZ0 : Hid (Zi w wr w3 s PB n og cg gs (some ⟨w2.heap.size, 0, none⟩) mg [] 0) := by
        have kw2 : Keeps no w w2 := HKR.out.trans HTD.out.2.kp
        refine ⟨⟨ho3, rfl, rfl, fun j hj => by simp at hj, fun j hj => by simp at hj, fun i j _ hj => by simp at hj⟩, ?_, kw2.trans hk3, ?_, HTD.out.2.keepsN hk3⟩
        · rintro x (⟨y, e, rfl⟩ | ⟨j, hj, _⟩)
          · cases e; exact HTD.out.2.kp.size
          · omega
        · obtain ⟨L, h1, h2, _⟩ := HPL.out
          exact ⟨L, (h1.keepsN HTD.out.2.kp).keepsN hk3, h2⟩
      clear ho3 hk3 HGR HPL HTD c1
      go_wp2_with fail
      go_loopw [12, 47] (fun s12 s47 wx => ∃ (i : Nat) (oz : Option Addr) (mz cz : Nat), i ≤ mg ∧ s47 = .int .i64 i ∧ s12 = .slice oz mz cz ∧ Hid (∃ rz, mz = i ∧ Zi w wr wx s PB n og cg gs oz cz rz i)) (fun _ s47 _ => mg - (intOf s47).toNat)
      case atStart => exact ⟨0, _, 0, _, by omega, rfl, rfl, [], rfl, HZ0.out⟩
      case round =>
        rename World => wx
        obtain ⟨i, oz, mz, cz, hi, rfl, rfl, HI⟩ := hrel
        clear HZ0
        by_cases hli : i < mg
        · have hli' : (i : Int) < mg := by omega
          obtain ⟨rz, hmz, hzi⟩ := HI.out
          obtain ⟨bg, eg, g0, g1⟩ := hzi.td.own.atH (j := i) (by rw [← HGS.out.1]; exact hli)
          have hps := HGS.out.2.2 i hli
          have hip : i < (psR s).length := by rw [← HGS.out.2.1]; exact hli
          have hpk := ps_keys hip
          have hgo := hzi.td.each i (by rw [← HGS.out.1]; exact hli)
          have hgn := hzi.td.news i (by rw [← HGS.out.1]; exact hli)
          rw [← hps] at hpk
          simp only at hpk
          have HPS : Hid ((psR s).getD i pp0 = ((gs.getD i gs0).n, (gs.getD i gs0).xs) ∧ i < (psR s).length) := ⟨hps.symm, hip⟩
          generalize gs.getD i gs0 = g at g0 g1 hpk hgo hgn HPS
          obtain ⟨pt, ko, kc, ks⟩ := g
          simp only at g0 g1 hpk hgo hgn HPS
          have HKW : Hid (∀ x, inO ko x → wr.heap.size ≤ x) := hgn
          clear hgn
          obtain ⟨kn, hkn⟩ : ∃ kn, kn = ks.length := ⟨_, rfl⟩
          rw [← hkn] at g1
          have HKS : Hid (kn = ks.length ∧ Own TE wx ko kc ks ∧ (∀ k ∈ ks, k ∈ s.nm) ∧ ks.length ≤ 1024) := ⟨hkn, hgo, hpk.2.1, Nat.le_trans hpk.1 HN.out.2.2.nml⟩
          have hknb : (kn : Int) ≤ 1024 := by have := HKS.out.2.2.2; have := HKS.out.1; omega
          have hptb : (pt : Int) ≤ 64 := by have := hpk.2.2.1; have := HN.out.2.2.p2; omega
          have HZI : Hid (mz = i ∧ Zi w wr wx s PB n og cg gs oz cz rz i) := ⟨hmz, hzi⟩
          have hib : (i : Int) ≤ 64 := by omega
          subst eg
          clear hmz hzi hps hip hpk hgo hkn HI
          obtain ⟨DB, hDB⟩ : ∃ DB, DB = wx.heap.size := ⟨_, rfl⟩
          have hOB : (wx.alloc (.cells #[.int .i64 (pt : Nat), .slice ko kn kc] 122)).heap.size = DB + 1 := by rw [hDB]; simp
          have HW : Hid (∀ W, W = (wx.alloc (.cells #[.int .i64 (pt : Nat), .slice ko kn kc] 122)).alloc (.map #[] 0) → W.heap[DB]? = some (.cells #[.int .i64 (pt : Nat), .slice ko kn kc] 122 (0, 0)) ∧ IsMp KT Vi W (DB + 1) ([] : List (Tx × Nat)) ∧ Keeps no wx W) := by
            rintro W rfl
            refine ⟨by rw [hDB]; exact (two_blk wx _ _).1, ?_, ((Keeps.refl _ _).alloc _).alloc _⟩
            have := isMp_made (K := KT) (V := Vi) (wx.alloc (.cells #[.int .i64 (pt : Nat), .slice ko kn kc] 122))
            rwa [hOB] at this
          go_upto_region 13 with fail
          have hW := HW.out _ rfl
          rw [← hDB]
          generalize (wx.alloc (.cells #[.int .i64 (pt : Nat), .slice ko kn kc] 122)).alloc (.map #[] 0) = wy at hW ⊢
          have HY : Hid (wy.heap[DB]? = some (.cells #[.int .i64 (pt : Nat), .slice ko kn kc] 122 (0, 0)) ∧ IsMp KT Vi wy (DB + 1) ([] : List (Tx × Nat)) ∧ Keeps no wx wy ∧ DB = wx.heap.size) := ⟨hW.1, hW.2.1, hW.2.2, hDB⟩
          have q1 := cell_of_blk hW.1 1
          simp only [List.getElem?_toArray, List.getElem?_cons_succ, List.getElem?_cons_zero] at q1
          clear hW HW hDB hOB g0 g1
          go_wp2_with fail
          go_loopw [58] (fun s58 wu => ∃ j : Nat, j ≤ kn ∧ s58 = .int .i64 j ∧ Hid (∃ L, wu.heap[DB]? = some (.cells #[.int .i64 (pt : Nat), .slice ko kn kc] 122 (0, 0)) ∧ IsMp KT Vi wu (DB + 1) L ∧ OpP s.nm ks j L ∧ Keeps no wx wu)) (fun s58 _ => kn - (intOf s58).toNat)
          case atStart => exact ⟨0, by omega, rfl, [], HY.out.1, HY.out.2.1, OpP.zero _ _, HY.out.2.2.1⟩
          case round =>
            rename World => wu
            obtain ⟨j, hj, rfl, HJ⟩ := hrel
            clear q1
            by_cases hlj : j < kn
            · have hlj' : (j : Int) < kn := by omega
              have hjl : j < ks.length := by rw [← HKS.out.1]; exact hlj
              obtain ⟨L, hD, hM, hP, hK⟩ := HJ.out
              obtain ⟨b, off, eo, d0⟩ := (HKS.out.2.1.keepsN hK).sl.at hjl
              have hmem := getD_mem_lt e0 hjl
              have hkm := HKS.out.2.2.1 _ hmem
              obtain ⟨LP, hP1, hP2⟩ := HZI.out.2.pl
              have hP2' : Pla s.nm s.nm.length LP := by rw [← HN.out.1]; exact hP2
              have hz : (ks.getD j e0).size ≤ maxLen := by have := HN.out.2.2.nmz _ hkm; unfold maxLen; omega
              have hlk := lookTI (hP1.keepsN hK) (k := ks.getD j e0) hz (hP2'.idx hkm)
              obtain ⟨w1, hrun, hM1, hK1, hS1⟩ := updTI hM (by have := hP.le; unfold maxLen; omega) (k := ks.getD j e0) hz (ixN s.nm (ks.getD j e0))
              have H1 : Hid (∃ L, w1.heap[DB]? = some (.cells #[.int .i64 (pt : Nat), .slice ko kn kc] 122 (0, 0)) ∧ IsMp KT Vi w1 (DB + 1) L ∧ OpP s.nm ks (j + 1) L ∧ Keeps no wx w1) := ⟨_, hK1.at hD (by omega), hM1, hP.succ hjl, hK.then hK1 (fun i hi => .inr (by rw [hi]; have := HY.out.2.2.2; omega))⟩
              generalize ixN s.nm (ks.getD j e0) = ix at hlk hrun
              generalize ks.getD j e0 = x at d0 hlk hrun
              subst eo
              clear hM1 hK1 hS1 hD hM hP hK hP1 hP2 hP2' HJ hjl hmem hkm hz
              go_wp2_with fail
              go_roundw
              case rel => exact ⟨j + 1, by omega, by go_num, H1⟩
              case measure => simp [intOf]; omega
            · have hlj' : ¬ (j : Int) < kn := by omega
              obtain ⟨L, hD, hM, hP, hK⟩ := HJ.out
              have ej : j = ks.length := by have := HKS.out.1; omega
              rw [ej] at hP
              have HJ2 : Hid (wu.heap[DB]? = some (.cells #[.int .i64 (pt : Nat), .slice ko kn kc] 122 (0, 0)) ∧ IsMp KT Vi wu (DB + 1) L ∧ OpL s ks L ∧ Keeps no wx wu) := ⟨hD, hM, hP.all HN.out.2.2.got HKS.out.2.2.1 HKS.out.2.2.2, hK⟩
              have q1 := cell_of_blk hD 1
              simp only [List.getElem?_toArray, List.getElem?_cons_succ, List.getElem?_cons_zero] at q1
              clear hD hM hP hK HJ ej
              go_wp2_with fail
              refine (msg1_any wu ko kn kc).mono ?_
              rintro e wv ⟨rfl, hkv⟩
              unfold aggM
              have HV : Hid (Keeps no wu wv ∧ True) := ⟨hkv, trivial⟩
              clear hkv
              obtain ⟨MB, hMB⟩ : ∃ MB, MB = wv.heap.size := ⟨_, rfl⟩
              have HW5 : Hid (∀ W, W = wv.alloc (.cells #[.int .i64 3, .int .i64 0, .int .u64 0, .int .u64 0, .slice none 0 0, .slice ko kn kc, .slice none 0 0, .slice none 0 0] 42) → W.heap[MB]? = some (.cells #[.int .i64 3, .int .i64 0, .int .u64 0, .int .u64 0, .slice none 0 0, .slice ko kn kc, .slice none 0 0, .slice none 0 0] 42 (0, 0)) ∧ Keeps no wv W) := by
                rintro W rfl
                exact ⟨by rw [hMB]; exact blk_new wv _, (Keeps.refl _ _).alloc _⟩
              have hDl : DB < wv.heap.size := lt_of_block (HV.out.1.at HJ2.out.1 (fun h => h))
              go_upto_region 19 with fail
              have hW5 := HW5.out _ rfl
              rw [← hMB]
              generalize wv.alloc (.cells #[.int .i64 3, .int .i64 0, .int .u64 0, .int .u64 0, .slice none 0 0, .slice ko kn kc, .slice none 0 0, .slice none 0 0] 42) = w5 at hW5 ⊢
              have HX5 : Hid (w5.heap[MB]? = some (.cells #[.int .i64 3, .int .i64 0, .int .u64 0, .int .u64 0, .slice none 0 0, .slice ko kn kc, .slice none 0 0, .slice none 0 0] 42 (0, 0)) ∧ Keeps no wv w5 ∧ MB = wv.heap.size) := ⟨hW5.1, hW5.2, hMB⟩
              have kx5 : Keeps no wx w5 := (HJ2.out.2.2.2.trans HV.out.1).trans hW5.2
              have c2 := (HCC.out w5 (HZI.out.2.kp.trans kx5)).2
              have m1 := cell_of_blk hW5.1 1
              have f1 := frozen_of_blk hW5.1 1
              simp only [List.getElem?_toArray, List.getElem?_cons_succ, List.getElem?_cons_zero] at m1
              have HW6 : Hid (∀ W, W = w5.setCell ⟨MB, 1, none⟩ (.int .i64 (s.client : Nat)) → W.heap[MB]? = some (.cells #[.int .i64 3, .int .i64 (s.client : Nat), .int .u64 0, .int .u64 0, .slice none 0 0, .slice ko kn kc, .slice none 0 0, .slice none 0 0] 42 (0, 0)) ∧ W.heap[DB]? = some (.cells #[.int .i64 (pt : Nat), .slice ko kn kc] 122 (0, 0)) ∧ Keeps (fun b => b = MB) w5 W) := by
                rintro W rfl
                exact ⟨by simpa using blk_set HX5.out.1 1 (.int .i64 (s.client : Nat)), blk_set_ne (HX5.out.2.1.at (HV.out.1.at HJ2.out.1 (fun h => h)) (fun h => h)) (p := ⟨MB, 1, none⟩) (show DB ≠ MB by have := HX5.out.2.2; omega) _, keeps_one _ _ _ _⟩
              clear hW5 HW5 hMB hDl kx5 q1
              go_upto_region 20 with fail
              have hW6 := HW6.out _ rfl
              generalize w5.setCell ⟨MB, 1, none⟩ (.int .i64 (s.client : Nat)) = w6 at hW6 ⊢
              have H6 : Hid (Keeps no wx w6 ∧ Keeps no wv w6) := by
                have k6 := hW6.2.2
                have k5 := HX5.out.2.1
                refine ⟨((HJ2.out.2.2.2.trans HV.out.1).trans k5).then k6 (fun b e => .inr ?_), k5.then k6 (fun b e => .inr ?_)⟩
                · have := HX5.out.2.2; have := (HJ2.out.2.2.2.trans HV.out.1).size; omega
                · have := HX5.out.2.2; omega
              have r0 := cell_of_blk hW6.1 0
              have r1 := cell_of_blk hW6.1 1
              have r2 := cell_of_blk hW6.1 2
              have r3 := cell_of_blk hW6.1 3
              have r4 := cell_of_blk hW6.1 4
              have r5 := cell_of_blk hW6.1 5
              have r6 := cell_of_blk hW6.1 6
              have r7 := cell_of_blk hW6.1 7
              have s0 := cell_of_blk hW6.2.1 0
              simp only [List.getElem?_toArray, List.getElem?_cons_succ, List.getElem?_cons_zero] at r0 r1 r2 r3 r4 r5 r6 r7 s0
              have hzl : rz.length = i := by have := HZI.out.2.zs.lenI; rwa [List.length_range] at this
              have HRO : Hid (Row RE (w6.alloc (.cells #[.int .i64 (pt : Nat), .int .i64 3, .int .i64 (s.client : Nat), .int .u64 0, .int .u64 0, .slice none 0 0, .slice ko kn kc, .slice none 0 0, .slice none 0 0, .map (some (DB + 1))] 84)) (some ⟨w6.heap.size, 0, none⟩) [⟨⟨(pt : Nat), 3, (s.client : Nat), 0, ko, kn, kc, none, 0, 0⟩, DB + 1⟩]) := (lit_one (E := RE) w6 ⟨⟨(pt : Nat), 3, (s.client : Nat), 0, ko, kn, kc, none, 0, 0⟩, DB + 1⟩ #[.int .i64 (pt : Nat), .int .i64 3, .int .i64 (s.client : Nat), .int .u64 0, .int .u64 0, .slice none 0 0, .slice ko kn kc, .slice none 0 0, .slice none 0 0, .map (some (DB + 1))] rfl).row
              have HOA : Hid (Own RE (w6.alloc (.cells #[.int .i64 (pt : Nat), .int .i64 3, .int .i64 (s.client : Nat), .int .u64 0, .int .u64 0, .slice none 0 0, .slice ko kn kc, .slice none 0 0, .slice none 0 0, .map (some (DB + 1))] 84)) oz cz rz ∧ mz = rz.length) := ⟨(HZI.out.2.zs.own.keepsN H6.out.1).keepsN ((Keeps.refl _ _).alloc _), by rw [HZI.out.1, hzl]⟩
              have HBD : Hid ((rz.length + [(⟨⟨(pt : Nat), 3, (s.client : Nat), 0, ko, kn, kc, none, 0, 0⟩, DB + 1⟩ : RZ)].length) * RE.nb ≤ 140737488355328 ∧ rz.length + [(⟨⟨(pt : Nat), 3, (s.client : Nat), 0, ko, kn, kc, none, 0, 0⟩, DB + 1⟩ : RZ)].length ≤ 140737488355328) := by rw [hzl]; exact ⟨by simp [RE]; omega, by simp; omega⟩
              have HFIN : Hid (∀ o5 c5 w7, Own RE w7 o5 c5 (rz ++ [⟨⟨(pt : Nat), 3, (s.client : Nat), 0, ko, kn, kc, none, 0, 0⟩, DB + 1⟩]) → Ap (w6.alloc (.cells #[.int .i64 (pt : Nat), .int .i64 3, .int .i64 (s.client : Nat), .int .u64 0, .int .u64 0, .slice none 0 0, .slice ko kn kc, .slice none 0 0, .slice none 0 0, .map (some (DB + 1))] 84)) oz o5 w7 → Zi w wr w7 s PB n (some ⟨bg, 0, none⟩) cg gs o5 c5 (rz ++ [⟨⟨(pt : Nat), 3, (s.client : Nat), 0, ko, kn, kc, none, 0, 0⟩, DB + 1⟩]) (i + 1)) := by
                intro o5 c5 w7 ho hap
                have hz := HZI.out.2
                have hip := HPS.out.2
                have kal : Keeps no w6 (w6.alloc (.cells #[.int .i64 (pt : Nat), .int .i64 3, .int .i64 (s.client : Nat), .int .u64 0, .int .u64 0, .slice none 0 0, .slice ko kn kc, .slice none 0 0, .slice none 0 0, .map (some (DB + 1))] 84)) := (Keeps.refl _ _).alloc _
                have k7 : Keeps (inO oz) w6 w7 := by
                  rcases hap with ⟨_, k⟩ | ⟨_, k⟩
                  · exact kal.of_no.trans k
                  · exact (kal.trans k).of_no
                have k7x : Keeps (inO oz) wx w7 := H6.out.1.of_no.trans k7
                have hown6 := hz.zs.own.keepsN H6.out.1
                have hnew : New wr oz := fun x hx => hz.nw x (.inl hx)
                have hnw := hap.new hnew ((hz.td.kp.trans H6.out.1).trans kal)
                have hq : QNw w6 ⟨(pt : Nat), 3, (s.client : Nat), 0, ko, kn, kc, none, 0, 0⟩ { qAt s i with req := 0 } := by
                  unfold qAt
                  rw [HPS.out.1]
                  simp only [HN.out.2.2.rd]
                  exact ⟨rfl, rfl, rfl, rfl, HKS.out.1, HKS.out.2.1.keepsN H6.out.1, rfl, own_nil _⟩
                have hmp : IsMp KT Vi w6 (DB + 1) L := HJ2.out.2.1.keepsN (HV.out.1.trans H6.out.2)
                have hzs := hz.zs.push H6.out.1 hq hmp (by rw [HPS.out.1]; exact HJ2.out.2.2.1) (by show wx.heap.size ≤ DB + 1; have := HY.out.2.2.2; omega) kal ho hap
                refine ⟨?_, ?_, (hap.new (fun x hx => Nat.le_trans HKR.out.size (hnew x hx)) ((hz.kp.trans H6.out.1).trans kal)).2, ?_, ?_⟩
                · have e := take_succ_getD (qs0 s) i q0 (by rw [qs0_len]; exact hip)
                  rw [qs0_at hip] at e
                  rw [e]
                  exact hzs
                · rintro x (hx | ⟨j, hj, hx⟩)
                  · exact hnw.1 x hx
                  · rw [getD_app, hzl] at hx
                    by_cases e : j < i
                    · rw [if_pos e] at hx; exact hz.nw x (.inr ⟨j, e, hx⟩)
                    · rw [if_neg e, show j - i = 0 by omega] at hx
                      have hsz := hz.td.kp.size
                      rcases hx with (hx | hx) | hx
                      · exact HKW.out x hx
                      · obtain ⟨y, e, _⟩ := hx; cases e
                      · rw [hx]; show wr.heap.size ≤ DB + 1; have := HY.out.2.2.2; omega
                · obtain ⟨LP, h1, h2⟩ := hz.pl
                  refine ⟨LP, h1.keeps k7x (fun hi => ?_), h2⟩
                  obtain ⟨es, cl, h3⟩ := h1.obj
                  obtain ⟨cur, h4⟩ := hz.zs.own.tag PB hi
                  rw [h3] at h4; cases h4
                · have htd := hz.td
                  exact htd.keeps k7x (tags_ne (by decide) htd.own hz.zs.own) (fun j hj => tags_ne (by decide) (htd.each j hj) hz.zs.own) (htd.kp.then k7x (fun x hx => .inr (hz.nw x (.inl hx))))
              clear hW6 HW6 hzl c2 m1 f1
              go_wp2_with (at_builtin; refine wpList_app okRE rfl _ _ rfl oz mz cz rz rfl HOA.out.2 HOA.out.1 (some ⟨w6.heap.size, 0, none⟩) 1 1 [⟨⟨(pt : Nat), 3, (s.client : Nat), 0, ko, kn, kc, none, 0, 0⟩, DB + 1⟩] rfl rfl (fun h => by cases h) HRO.out HBD.out.1 HBD.out.2 ?_; intro o5 c5 w7 ho5 hap5)
              go_roundw
              case rel => exact ⟨i + 1, o5, mz + 1, c5, by omega, by go_num, rfl, _, by rw [HZI.out.1], HFIN.out o5 c5 w7 ho5 hap5⟩
              case measure => simp [intOf]; omega
        · have hli' : ¬ (i : Int) < mg := by omega
          have HE : Hid (∃ rz, mz = (psR s).length ∧ Zs wx s oz cz rz (List.range (psR s).length) (qs0 s) ∧ (∀ x, ZB oz rz (psR s).length x → w.heap.size ≤ x) ∧ Keeps no w wx) := by
            obtain ⟨rz, h1, h2⟩ := HI.out
            have e : i = (psR s).length := by have := HGS.out.2.1; omega
            rw [e] at h2
            have h3 := h2.zs
            rw [List.take_of_length_le (by rw [qs0_len]; exact Nat.le_refl _)] at h3
            exact ⟨rz, by rw [h1, e], h3, fun x hx => Nat.le_trans HKR.out.size (h2.nw x hx), h2.kp⟩
          clear HI
          go_wp2_with fail
          go_ret
          obtain ⟨rz, h1, h2, h3, h4⟩ := HE.out
          exact ⟨oz, mz, cz, rz, rfl, h1, h2, h3, h4⟩
set_option maxRecDepth 10000 in
set_option maxHeartbeats 4000000 in
theorem questions2_any (w : World) (p : Nat) (s : RS) (o : Option Addr) (n c : Nat) (ib mb : Nat) (LI : List (Tx × Nat)) (hib : w.cell? ⟨ib, 0, none⟩ = some (.map (some mb))) (him : IsMp KT Vd w mb LI) (hil : IdsOf s.ws s.nm LI) (hn : n = s.nm.length) (hs : Sl TE w o c s.nm) (hr : Rnd s 2) (c1 : w.cell? ⟨p, 1, none⟩ = some (.int .i64 (s.parts : Nat))) (c2 : w.cell? ⟨p, 2, none⟩ = some (.int .i64 (s.client : Nat))) :
    Calls Try.prog 43 #[.pointer (some ⟨p, 0, none⟩), .slice o n c, .func (.func 65) #[] #[.pointer (some ⟨ib, 0, none⟩)]] w (QsTo w s) := by
  have HN : Hid (n = s.nm.length ∧ Sl TE w o c s.nm ∧ Rnd s 2) := ⟨hn, hs, hr⟩
  have hnb : (n : Int) ≤ 1024 := by have := hr.nml; omega
  have HCC : Hid (∀ X, Keeps no w X → X.cell? ⟨p, 1, none⟩ = some (.int .i64 (s.parts : Nat)) ∧ X.cell? ⟨p, 2, none⟩ = some (.int .i64 (s.client : Nat))) := fun X k => ⟨k.cellN c1, k.cellN c2⟩
  have HID : Hid (w.cell? ⟨ib, 0, none⟩ = some (.map (some mb)) ∧ IsMp KT Vd w mb LI ∧ IdsOf s.ws s.nm LI) := ⟨hib, him, hil⟩
  clear hib him hil
  have hpl := World.block_lt_of_cell? w _ c1
  simp only at hpl
  clear hn hs hr c1 c2
  have hmm := makeTI
  obtain ⟨PB, hPB⟩ : ∃ PB, PB = w.heap.size := ⟨_, rfl⟩
  have HP0 : Hid (IsMp KT Vi (w.alloc (.map #[] 0)) PB ([] : List (Tx × Nat)) ∧ PB = w.heap.size) := ⟨by rw [hPB]; exact isMp_made w, hPB⟩
  go_enter Try.func43, Try.ntmps43
  go_wp2_with fail
  rw [← hPB]
  clear hPB
  go_loopw [24] (fun s24 wr => ∃ k : Nat, k ≤ n ∧ s24 = .int .i64 k ∧ Hid (∃ L, IsMp KT Vi wr PB L ∧ Pla s.nm k L ∧ Keeps no w wr)) (fun s24 _ => n - (intOf s24).toNat)
  case atStart => exact ⟨0, by omega, rfl, [], HP0.out.1, ⟨fun j hj => by omega, Nat.le_refl _⟩, (Keeps.refl _ _).alloc _⟩
  case round =>
    rename World => wr
    obtain ⟨k, hk, rfl, HT⟩ := hrel
    by_cases hlt : k < n
    · have hlt' : (k : Int) < n := by omega
      have hkl : k < s.nm.length := by rw [← HN.out.1]; exact hlt
      obtain ⟨L, hM, hP, hK⟩ := HT.out
      obtain ⟨b, off, eo, d0⟩ := (HN.out.2.1.keepsN hK).at hkl
      have hz := HN.out.2.2.nmz _ (getD_mem_lt e0 hkl)
      obtain ⟨w1, hrun, hM1, hK1, hS1⟩ := updTI hM (by have := hP.le; unfold maxLen; omega) (k := s.nm.getD k e0) (by unfold maxLen; omega) k
      have H1 : Hid (∃ L, IsMp KT Vi w1 PB L ∧ Pla s.nm (k + 1) L ∧ Keeps no w w1) := ⟨_, hM1, hP.succ HN.out.2.2.nmd hkl, hK.then hK1 (fun i hi => .inr (by rw [hi, HP0.out.2]; exact Nat.le_refl _))⟩
      generalize s.nm.getD k e0 = x at d0 hrun
      subst eo
      clear hM1 hK1 hS1 hM hP hK HT hkl hz
      go_wp2_with fail
      go_roundw
      case rel => exact ⟨k + 1, by omega, by go_num, H1⟩
      case measure => simp [intOf]; omega
    · have hlt' : ¬ (k : Int) < n := by omega
      have HPL : Hid (∃ L, IsMp KT Vi wr PB L ∧ Pla s.nm n L ∧ Keeps no w wr) := by have e : k = n := (by omega); have := HT.out; rwa [e] at this
      have HKR : Hid (Keeps no w wr) := by obtain ⟨L, _, _, h⟩ := HPL.out; exact h
      have c1 := (HCC.out wr HKR.out).1
      have HGR : Hid (Calls Try.prog 59 #[.slice o n c, .int .i64 (s.parts : Nat)] wr fun e w' => ∃ o m c gs, e = .returned (.tuple #[.slice o m c, .int .i64 0]) ∧ Hid (m = gs.length ∧ Told TE HE idT wr s.parts s.nm o c gs w')) := groupT_yes wr o n c s.nm s.parts HN.out.1 (by have := HN.out.2.2.nml; omega) (fun x hx => by have := HN.out.2.2.nmz x hx; unfold maxLen; omega) (HN.out.2.1.keepsN HKR.out) (by have := HN.out.2.2.p1; omega) HN.out.2.2.p2
      clear HT hlt'
      go_wp2_with fail
      refine HGR.out.mono ?_
      rintro e w2 ⟨og, mg, cg, gs, rfl, HTD⟩
      have HGS : Hid (mg = gs.length ∧ mg = (psR s).length ∧ ∀ j, j < mg → ((gs.getD j gs0).n, (gs.getD j gs0).xs) = (psR s).getD j pp0) := by
        have h := told_at HTD.out.2 (s := s) rfl rfl
        exact ⟨HTD.out.1, by rw [HTD.out.1, h.1], fun j hj => h.2 j (by rw [← HTD.out.1]; exact hj)⟩
      have hmg : (mg : Int) ≤ 64 := by have := HGS.out.2.1; have := ps_le s; have := HN.out.2.2.p2; omega
      obtain ⟨w3, hr3, ho3, hk3⟩ := makeRE w2 mg (by omega)
      have HZ0 : Hid (Zi w wr w3 s PB n og cg gs (some ⟨w2.heap.size, 0, none⟩) mg [] 0) := by
        have kw2 : Keeps no w w2 := HKR.out.trans HTD.out.2.kp
        refine ⟨⟨ho3, rfl, rfl, fun j hj => by simp at hj, fun j hj => by simp at hj, fun i j _ hj => by simp at hj⟩, ?_, kw2.trans hk3, ?_, HTD.out.2.keepsN hk3⟩
        · rintro x (⟨y, e, rfl⟩ | ⟨j, hj, _⟩)
          · cases e; exact HTD.out.2.kp.size
          · omega
        · obtain ⟨L, h1, h2, _⟩ := HPL.out
          exact ⟨L, (h1.keepsN HTD.out.2.kp).keepsN hk3, h2⟩
      clear ho3 hk3 HGR HPL HTD c1
      go_wp2_with fail
      go_loopw [12, 47] (fun s12 s47 wx => ∃ (i : Nat) (oz : Option Addr) (mz cz : Nat), i ≤ mg ∧ s47 = .int .i64 i ∧ s12 = .slice oz mz cz ∧ Hid (∃ rz, mz = i ∧ Zi w wr wx s PB n og cg gs oz cz rz i)) (fun _ s47 _ => mg - (intOf s47).toNat)
      case atStart => exact ⟨0, _, 0, _, by omega, rfl, rfl, [], rfl, HZ0.out⟩
      case round =>
        rename World => wx
        obtain ⟨i, oz, mz, cz, hi, rfl, rfl, HI⟩ := hrel
        clear HZ0
        by_cases hli : i < mg
        · have hli' : (i : Int) < mg := by omega
          obtain ⟨rz, hmz, hzi⟩ := HI.out
          obtain ⟨bg, eg, g0, g1⟩ := hzi.td.own.atH (j := i) (by rw [← HGS.out.1]; exact hli)
          have hps := HGS.out.2.2 i hli
          have hip : i < (psR s).length := by rw [← HGS.out.2.1]; exact hli
          have hpk := ps_keys hip
          have hgo := hzi.td.each i (by rw [← HGS.out.1]; exact hli)
          have hgn := hzi.td.news i (by rw [← HGS.out.1]; exact hli)
          rw [← hps] at hpk
          simp only at hpk
          have HPS : Hid ((psR s).getD i pp0 = ((gs.getD i gs0).n, (gs.getD i gs0).xs) ∧ i < (psR s).length) := ⟨hps.symm, hip⟩
          generalize gs.getD i gs0 = g at g0 g1 hpk hgo hgn HPS
          obtain ⟨pt, ko, kc, ks⟩ := g
          simp only at g0 g1 hpk hgo hgn HPS
          have HKW : Hid (∀ x, inO ko x → wr.heap.size ≤ x) := hgn
          clear hgn
          obtain ⟨kn, hkn⟩ : ∃ kn, kn = ks.length := ⟨_, rfl⟩
          rw [← hkn] at g1
          have HKS : Hid (kn = ks.length ∧ Own TE wx ko kc ks ∧ (∀ k ∈ ks, k ∈ s.nm) ∧ ks.length ≤ 1024) := ⟨hkn, hgo, hpk.2.1, Nat.le_trans hpk.1 HN.out.2.2.nml⟩
          have hknb : (kn : Int) ≤ 1024 := by have := HKS.out.2.2.2; have := HKS.out.1; omega
          have hptb : (pt : Int) ≤ 64 := by have := hpk.2.2.1; have := HN.out.2.2.p2; omega
          have HZI : Hid (mz = i ∧ Zi w wr wx s PB n og cg gs oz cz rz i) := ⟨hmz, hzi⟩
          have hib : (i : Int) ≤ 64 := by omega
          subst eg
          clear hmz hzi hps hip hpk hgo hkn HI
          obtain ⟨DB, hDB⟩ : ∃ DB, DB = wx.heap.size := ⟨_, rfl⟩
          have hOB : (wx.alloc (.cells #[.int .i64 (pt : Nat), .slice ko kn kc] 122)).heap.size = DB + 1 := by rw [hDB]; simp
          have HW : Hid (∀ W, W = (wx.alloc (.cells #[.int .i64 (pt : Nat), .slice ko kn kc] 122)).alloc (.map #[] 0) → W.heap[DB]? = some (.cells #[.int .i64 (pt : Nat), .slice ko kn kc] 122 (0, 0)) ∧ IsMp KT Vi W (DB + 1) ([] : List (Tx × Nat)) ∧ Keeps no wx W) := by
            rintro W rfl
            refine ⟨by rw [hDB]; exact (two_blk wx _ _).1, ?_, ((Keeps.refl _ _).alloc _).alloc _⟩
            have := isMp_made (K := KT) (V := Vi) (wx.alloc (.cells #[.int .i64 (pt : Nat), .slice ko kn kc] 122))
            rwa [hOB] at this
          go_upto_region 13 with fail
          have hW := HW.out _ rfl
          rw [← hDB]
          generalize (wx.alloc (.cells #[.int .i64 (pt : Nat), .slice ko kn kc] 122)).alloc (.map #[] 0) = wy at hW ⊢
          have HY : Hid (wy.heap[DB]? = some (.cells #[.int .i64 (pt : Nat), .slice ko kn kc] 122 (0, 0)) ∧ IsMp KT Vi wy (DB + 1) ([] : List (Tx × Nat)) ∧ Keeps no wx wy ∧ DB = wx.heap.size) := ⟨hW.1, hW.2.1, hW.2.2, hDB⟩
          have q1 := cell_of_blk hW.1 1
          simp only [List.getElem?_toArray, List.getElem?_cons_succ, List.getElem?_cons_zero] at q1
          clear hW HW hDB hOB g0 g1
          go_wp2_with fail
          go_loopw [58] (fun s58 wu => ∃ j : Nat, j ≤ kn ∧ s58 = .int .i64 j ∧ Hid (∃ L, wu.heap[DB]? = some (.cells #[.int .i64 (pt : Nat), .slice ko kn kc] 122 (0, 0)) ∧ IsMp KT Vi wu (DB + 1) L ∧ OpP s.nm ks j L ∧ Keeps no wx wu)) (fun s58 _ => kn - (intOf s58).toNat)
          case atStart => exact ⟨0, by omega, rfl, [], HY.out.1, HY.out.2.1, OpP.zero _ _, HY.out.2.2.1⟩
          case round =>
            rename World => wu
            obtain ⟨j, hj, rfl, HJ⟩ := hrel
            clear q1
            by_cases hlj : j < kn
            · have hlj' : (j : Int) < kn := by omega
              have hjl : j < ks.length := by rw [← HKS.out.1]; exact hlj
              obtain ⟨L, hD, hM, hP, hK⟩ := HJ.out
              obtain ⟨b, off, eo, d0⟩ := (HKS.out.2.1.keepsN hK).sl.at hjl
              have hmem := getD_mem_lt e0 hjl
              have hkm := HKS.out.2.2.1 _ hmem
              obtain ⟨LP, hP1, hP2⟩ := HZI.out.2.pl
              have hP2' : Pla s.nm s.nm.length LP := by rw [← HN.out.1]; exact hP2
              have hz : (ks.getD j e0).size ≤ maxLen := by have := HN.out.2.2.nmz _ hkm; unfold maxLen; omega
              have hlk := lookTI (hP1.keepsN hK) (k := ks.getD j e0) hz (hP2'.idx hkm)
              obtain ⟨w1, hrun, hM1, hK1, hS1⟩ := updTI hM (by have := hP.le; unfold maxLen; omega) (k := ks.getD j e0) hz (ixN s.nm (ks.getD j e0))
              have H1 : Hid (∃ L, w1.heap[DB]? = some (.cells #[.int .i64 (pt : Nat), .slice ko kn kc] 122 (0, 0)) ∧ IsMp KT Vi w1 (DB + 1) L ∧ OpP s.nm ks (j + 1) L ∧ Keeps no wx w1) := ⟨_, hK1.at hD (by omega), hM1, hP.succ hjl, hK.then hK1 (fun i hi => .inr (by rw [hi]; have := HY.out.2.2.2; omega))⟩
              generalize ixN s.nm (ks.getD j e0) = ix at hlk hrun
              generalize ks.getD j e0 = x at d0 hlk hrun
              subst eo
              clear hM1 hK1 hS1 hD hM hP hK hP1 hP2 hP2' HJ hjl hmem hkm hz
              go_wp2_with fail
              go_roundw
              case rel => exact ⟨j + 1, by omega, by go_num, H1⟩
              case measure => simp [intOf]; omega
            · have hlj' : ¬ (j : Int) < kn := by omega
              obtain ⟨L, hD, hM, hP, hK⟩ := HJ.out
              have ej : j = ks.length := by have := HKS.out.1; omega
              rw [ej] at hP
              have HJ2 : Hid (wu.heap[DB]? = some (.cells #[.int .i64 (pt : Nat), .slice ko kn kc] 122 (0, 0)) ∧ IsMp KT Vi wu (DB + 1) L ∧ OpL s ks L ∧ Keeps no wx wu) := ⟨hD, hM, hP.all HN.out.2.2.got HKS.out.2.2.1 HKS.out.2.2.2, hK⟩
              have q1 := cell_of_blk hD 1
              simp only [List.getElem?_toArray, List.getElem?_cons_succ, List.getElem?_cons_zero] at q1
              clear hD hM hP hK HJ ej
              go_wp2_with fail
              have HMS : Hid (Calls Try.prog 65 #[.slice ko kn kc, .pointer (some ⟨ib, 0, none⟩)] wu fun e w' => ∃ wo wn wc, e = .returned (aggM 4 0 0 none 0 0 wo wn wc) ∧ Hid (wn = ks.length ∧ Own WE w' wo wc (ks.map (wantOf s.ws)) ∧ New wu wo ∧ Keeps no wu w')) := by
                have ku := HZI.out.2.kp.trans HJ2.out.2.2.2
                exact msg2_any wu ko kn kc ks s.ws ib mb LI HKS.out.1 HKS.out.2.2.2 (fun k hk => HN.out.2.2.nmz k (HKS.out.2.2.1 k hk)) (HKS.out.2.1.keepsN HJ2.out.2.2.2).sl (ku.cellN HID.out.1) (HID.out.2.1.keepsN ku) (fun k hk => HID.out.2.2 k (HKS.out.2.2.1 k hk))
              refine HMS.out.mono ?_
              rintro e wv ⟨wo, wn, wc, rfl, HMW⟩
              unfold aggM
              have HV : Hid (Keeps no wu wv ∧ wn = ks.length ∧ Own WE wv wo wc (ks.map (wantOf s.ws)) ∧ New wu wo) := ⟨HMW.out.2.2.2, HMW.out.1, HMW.out.2.1, HMW.out.2.2.1⟩
              clear HMW HMS
              obtain ⟨MB, hMB⟩ : ∃ MB, MB = wv.heap.size := ⟨_, rfl⟩
              have HW5 : Hid (∀ W, W = wv.alloc (.cells #[.int .i64 4, .int .i64 0, .int .u64 0, .int .u64 0, .slice none 0 0, .slice none 0 0, .slice wo wn wc, .slice none 0 0] 42) → W.heap[MB]? = some (.cells #[.int .i64 4, .int .i64 0, .int .u64 0, .int .u64 0, .slice none 0 0, .slice none 0 0, .slice wo wn wc, .slice none 0 0] 42 (0, 0)) ∧ Keeps no wv W) := by
                rintro W rfl
                exact ⟨by rw [hMB]; exact blk_new wv _, (Keeps.refl _ _).alloc _⟩
              have hDl : DB < wv.heap.size := lt_of_block (HV.out.1.at HJ2.out.1 (fun h => h))
              go_upto_region 19 with fail
              have hW5 := HW5.out _ rfl
              rw [← hMB]
              generalize wv.alloc (.cells #[.int .i64 4, .int .i64 0, .int .u64 0, .int .u64 0, .slice none 0 0, .slice none 0 0, .slice wo wn wc, .slice none 0 0] 42) = w5 at hW5 ⊢
              have HX5 : Hid (w5.heap[MB]? = some (.cells #[.int .i64 4, .int .i64 0, .int .u64 0, .int .u64 0, .slice none 0 0, .slice none 0 0, .slice wo wn wc, .slice none 0 0] 42 (0, 0)) ∧ Keeps no wv w5 ∧ MB = wv.heap.size) := ⟨hW5.1, hW5.2, hMB⟩
              have kx5 : Keeps no wx w5 := (HJ2.out.2.2.2.trans HV.out.1).trans hW5.2
              have c2 := (HCC.out w5 (HZI.out.2.kp.trans kx5)).2
              have m1 := cell_of_blk hW5.1 1
              have f1 := frozen_of_blk hW5.1 1
              simp only [List.getElem?_toArray, List.getElem?_cons_succ, List.getElem?_cons_zero] at m1
              have HW6 : Hid (∀ W, W = w5.setCell ⟨MB, 1, none⟩ (.int .i64 (s.client : Nat)) → W.heap[MB]? = some (.cells #[.int .i64 4, .int .i64 (s.client : Nat), .int .u64 0, .int .u64 0, .slice none 0 0, .slice none 0 0, .slice wo wn wc, .slice none 0 0] 42 (0, 0)) ∧ W.heap[DB]? = some (.cells #[.int .i64 (pt : Nat), .slice ko kn kc] 122 (0, 0)) ∧ Keeps (fun b => b = MB) w5 W) := by
                rintro W rfl
                exact ⟨by simpa using blk_set HX5.out.1 1 (.int .i64 (s.client : Nat)), blk_set_ne (HX5.out.2.1.at (HV.out.1.at HJ2.out.1 (fun h => h)) (fun h => h)) (p := ⟨MB, 1, none⟩) (show DB ≠ MB by have := HX5.out.2.2; omega) _, keeps_one _ _ _ _⟩
              clear hW5 HW5 hMB hDl kx5 q1
              go_upto_region 20 with fail
              have hW6 := HW6.out _ rfl
              generalize w5.setCell ⟨MB, 1, none⟩ (.int .i64 (s.client : Nat)) = w6 at hW6 ⊢
              have H6 : Hid (Keeps no wx w6 ∧ Keeps no wv w6) := by
                have k6 := hW6.2.2
                have k5 := HX5.out.2.1
                refine ⟨((HJ2.out.2.2.2.trans HV.out.1).trans k5).then k6 (fun b e => .inr ?_), k5.then k6 (fun b e => .inr ?_)⟩
                · have := HX5.out.2.2; have := (HJ2.out.2.2.2.trans HV.out.1).size; omega
                · have := HX5.out.2.2; omega
              have r0 := cell_of_blk hW6.1 0
              have r1 := cell_of_blk hW6.1 1
              have r2 := cell_of_blk hW6.1 2
              have r3 := cell_of_blk hW6.1 3
              have r4 := cell_of_blk hW6.1 4
              have r5 := cell_of_blk hW6.1 5
              have r6 := cell_of_blk hW6.1 6
              have r7 := cell_of_blk hW6.1 7
              have s0 := cell_of_blk hW6.2.1 0
              simp only [List.getElem?_toArray, List.getElem?_cons_succ, List.getElem?_cons_zero] at r0 r1 r2 r3 r4 r5 r6 r7 s0
              have hzl : rz.length = i := by have := HZI.out.2.zs.lenI; rwa [List.length_range] at this
              have HRO : Hid (Row RE (w6.alloc (.cells #[.int .i64 (pt : Nat), .int .i64 4, .int .i64 (s.client : Nat), .int .u64 0, .int .u64 0, .slice none 0 0, .slice none 0 0, .slice wo wn wc, .slice none 0 0, .map (some (DB + 1))] 84)) (some ⟨w6.heap.size, 0, none⟩) [⟨⟨(pt : Nat), 4, (s.client : Nat), 0, none, 0, 0, wo, wn, wc⟩, DB + 1⟩]) := (lit_one (E := RE) w6 ⟨⟨(pt : Nat), 4, (s.client : Nat), 0, none, 0, 0, wo, wn, wc⟩, DB + 1⟩ #[.int .i64 (pt : Nat), .int .i64 4, .int .i64 (s.client : Nat), .int .u64 0, .int .u64 0, .slice none 0 0, .slice none 0 0, .slice wo wn wc, .slice none 0 0, .map (some (DB + 1))] rfl).row
              have HOA : Hid (Own RE (w6.alloc (.cells #[.int .i64 (pt : Nat), .int .i64 4, .int .i64 (s.client : Nat), .int .u64 0, .int .u64 0, .slice none 0 0, .slice none 0 0, .slice wo wn wc, .slice none 0 0, .map (some (DB + 1))] 84)) oz cz rz ∧ mz = rz.length) := ⟨(HZI.out.2.zs.own.keepsN H6.out.1).keepsN ((Keeps.refl _ _).alloc _), by rw [HZI.out.1, hzl]⟩
              have HBD : Hid ((rz.length + [(⟨⟨(pt : Nat), 4, (s.client : Nat), 0, none, 0, 0, wo, wn, wc⟩, DB + 1⟩ : RZ)].length) * RE.nb ≤ 140737488355328 ∧ rz.length + [(⟨⟨(pt : Nat), 4, (s.client : Nat), 0, none, 0, 0, wo, wn, wc⟩, DB + 1⟩ : RZ)].length ≤ 140737488355328) := by rw [hzl]; exact ⟨by simp [RE]; omega, by simp; omega⟩
              have HFIN : Hid (∀ o5 c5 w7, Own RE w7 o5 c5 (rz ++ [⟨⟨(pt : Nat), 4, (s.client : Nat), 0, none, 0, 0, wo, wn, wc⟩, DB + 1⟩]) → Ap (w6.alloc (.cells #[.int .i64 (pt : Nat), .int .i64 4, .int .i64 (s.client : Nat), .int .u64 0, .int .u64 0, .slice none 0 0, .slice none 0 0, .slice wo wn wc, .slice none 0 0, .map (some (DB + 1))] 84)) oz o5 w7 → Zi w wr w7 s PB n (some ⟨bg, 0, none⟩) cg gs o5 c5 (rz ++ [⟨⟨(pt : Nat), 4, (s.client : Nat), 0, none, 0, 0, wo, wn, wc⟩, DB + 1⟩]) (i + 1)) := by
                intro o5 c5 w7 ho hap
                have hz := HZI.out.2
                have hip := HPS.out.2
                have kal : Keeps no w6 (w6.alloc (.cells #[.int .i64 (pt : Nat), .int .i64 4, .int .i64 (s.client : Nat), .int .u64 0, .int .u64 0, .slice none 0 0, .slice none 0 0, .slice wo wn wc, .slice none 0 0, .map (some (DB + 1))] 84)) := (Keeps.refl _ _).alloc _
                have k7 : Keeps (inO oz) w6 w7 := by
                  rcases hap with ⟨_, k⟩ | ⟨_, k⟩
                  · exact kal.of_no.trans k
                  · exact (kal.trans k).of_no
                have k7x : Keeps (inO oz) wx w7 := H6.out.1.of_no.trans k7
                have hown6 := hz.zs.own.keepsN H6.out.1
                have hnew : New wr oz := fun x hx => hz.nw x (.inl hx)
                have hnw := hap.new hnew ((hz.td.kp.trans H6.out.1).trans kal)
                have hq : QNw w6 ⟨(pt : Nat), 4, (s.client : Nat), 0, none, 0, 0, wo, wn, wc⟩ { qAt s i with req := 0 } := by
                  unfold qAt
                  rw [HPS.out.1]
                  simp only [HN.out.2.2.rd]
                  exact ⟨rfl, rfl, rfl, rfl, rfl, own_nil _, by show wn = _; rw [HV.out.2.1]; simp, HV.out.2.2.1.keepsN H6.out.2⟩
                have hmp : IsMp KT Vi w6 (DB + 1) L := HJ2.out.2.1.keepsN (HV.out.1.trans H6.out.2)
                have hzs := hz.zs.push H6.out.1 hq hmp (by rw [HPS.out.1]; exact HJ2.out.2.2.1) (by show wx.heap.size ≤ DB + 1; have := HY.out.2.2.2; omega) kal ho hap
                refine ⟨?_, ?_, (hap.new (fun x hx => Nat.le_trans HKR.out.size (hnew x hx)) ((hz.kp.trans H6.out.1).trans kal)).2, ?_, ?_⟩
                · have e := take_succ_getD (qs0 s) i q0 (by rw [qs0_len]; exact hip)
                  rw [qs0_at hip] at e
                  rw [e]
                  exact hzs
                · rintro x (hx | ⟨j, hj, hx⟩)
                  · exact hnw.1 x hx
                  · rw [getD_app, hzl] at hx
                    by_cases e : j < i
                    · rw [if_pos e] at hx; exact hz.nw x (.inr ⟨j, e, hx⟩)
                    · rw [if_neg e, show j - i = 0 by omega] at hx
                      have hsz := hz.td.kp.size
                      rcases hx with (hx | hx) | hx
                      · obtain ⟨y, e, _⟩ := hx; cases e
                      · have := HV.out.2.2.2 x hx; have := HJ2.out.2.2.2.size; omega
                      · rw [hx]; show wr.heap.size ≤ DB + 1; have := HY.out.2.2.2; omega
                · obtain ⟨LP, h1, h2⟩ := hz.pl
                  refine ⟨LP, h1.keeps k7x (fun hi => ?_), h2⟩
                  obtain ⟨es, cl, h3⟩ := h1.obj
                  obtain ⟨cur, h4⟩ := hz.zs.own.tag PB hi
                  rw [h3] at h4; cases h4
                · have htd := hz.td
                  exact htd.keeps k7x (tags_ne (by decide) htd.own hz.zs.own) (fun j hj => tags_ne (by decide) (htd.each j hj) hz.zs.own) (htd.kp.then k7x (fun x hx => .inr (hz.nw x (.inl hx))))
              clear hW6 HW6 hzl c2 m1 f1
              go_wp2_with (at_builtin; refine wpList_app okRE rfl _ _ rfl oz mz cz rz rfl HOA.out.2 HOA.out.1 (some ⟨w6.heap.size, 0, none⟩) 1 1 [⟨⟨(pt : Nat), 4, (s.client : Nat), 0, none, 0, 0, wo, wn, wc⟩, DB + 1⟩] rfl rfl (fun h => by cases h) HRO.out HBD.out.1 HBD.out.2 ?_; intro o5 c5 w7 ho5 hap5)
              go_roundw
              case rel => exact ⟨i + 1, o5, mz + 1, c5, by omega, by go_num, rfl, _, by rw [HZI.out.1], HFIN.out o5 c5 w7 ho5 hap5⟩
              case measure => simp [intOf]; omega
        · have hli' : ¬ (i : Int) < mg := by omega
          have HE : Hid (∃ rz, mz = (psR s).length ∧ Zs wx s oz cz rz (List.range (psR s).length) (qs0 s) ∧ (∀ x, ZB oz rz (psR s).length x → w.heap.size ≤ x) ∧ Keeps no w wx) := by
            obtain ⟨rz, h1, h2⟩ := HI.out
            have e : i = (psR s).length := by have := HGS.out.2.1; omega
            rw [e] at h2
            have h3 := h2.zs
            rw [List.take_of_length_le (by rw [qs0_len]; exact Nat.le_refl _)] at h3
            exact ⟨rz, by rw [h1, e], h3, fun x hx => Nat.le_trans HKR.out.size (h2.nw x hx), h2.kp⟩
          clear HI
          go_wp2_with fail
          go_ret
          obtain ⟨rz, h1, h2, h3, h4⟩ := HE.out
          exact ⟨oz, mz, cz, rz, rfl, h1, h2, h3, h4⟩
end Go.Proofs.Ytileipnoiocdlaa

import Derived.Test.YtileipnoiocdlaaR8
/- Begin. -/
namespace Go.Proofs.Ytileipnoiocdlaa
open Go.RowKit Go.Sort Orl
set_option linter.unusedVariables false
set_option linter.unusedSimpArgs false

/-- a round of these names -/
def roundS (s : RS) (m : Nat) (nm : List Tx) (ws : List Wn) (first : List Ver) (fr st t : Nat) : RS := { s with round := m, nm := nm, ws := ws, first := first, reqs := drawn fr st t (prt s.parts idT nm s.parts).length, came := nm.map botV', got := List.replicate nm.length false }
theorem roundS_ps (s : RS) (m : Nat) (nm : List Tx) (ws : List Wn) (first : List Ver) (fr st t : Nat) : psR (roundS s m nm ws first fr st t) = prt s.parts idT nm s.parts := rfl
theorem fitL_bot {nm : List Tx} (hl : nm.length ≤ 1024) (hz : ∀ k ∈ nm, k.size ≤ 65535) : FitL (nm.map botV') := by
  refine ⟨by rw [List.length_map]; omega, fun v hv => ?_⟩
  obtain ⟨k, hk, rfl⟩ := List.mem_map.1 hv
  have := hz k hk
  exact ⟨show (0 : Nat) < 18446744073709551616 by decide, by show k.size ≤ _; omega, show e0.size ≤ 140737488351232 by decide, show (0 : Nat) ≤ 8796093022000 by decide, fun s hs => by cases hs⟩
theorem WfR.round {s : RS} (h : WfR s) {m : Nat} {nm : List Tx} {ws : List Wn} {first : List Ver} {fr st t : Nat} (hm : m = 1 ∨ m = 2) (hl : nm.length ≤ 1024) (hz : ∀ k ∈ nm, k.size ≤ 65535) (hd : nm.Nodup) (hff : FitL first) (hfl : first.length ≤ 1024) (hw : m = 2 → nm = ws.map Prod.fst) (hwz : ∀ p ∈ ws, p.2 < 18446744073709551616) (h1 : m = 1 → first = []) : WfR (roundS s m nm ws first fr st t) where
  p1 := h.p1
  p2 := h.p2
  cl := h.cl
  nk := h.nk
  rd := by show m ≤ 2; omega
  nml := hl
  nmz := hz
  nmd := hd
  cml := by show (nm.map botV').length = nm.length; simp
  gl := by show (List.replicate nm.length false).length = nm.length; simp
  ck := fun j hj => by
    have hj : j < nm.length := hj
    show ((nm.map botV').getD j v0).key = nm.getD j e0
    simp [List.getD_eq_getElem?_getD, hj, botV']
  cf := fitL_bot hl hz
  ff := hff
  fl := hfl
  of := h.of
  ol := h.ol
  rl := fun _ => by show (drawn fr st t (prt s.parts idT nm s.parts).length).length = (prt s.parts idT nm s.parts).length; simp [drawn]
  rz := fun r hr => by
    obtain ⟨i, _, rfl⟩ := List.mem_map.1 hr
    exact w64_lt _
  wl := hw
  wz := hwz
  r0 := fun e => by have e : m = 0 := e; omega
  r1 := fun e => by have e : m ≤ 1 := e; exact h1 (by omega)
theorem round_rnd {s : RS} (h : WfR s) {m : Nat} {nm : List Tx} {ws : List Wn} {first : List Ver} {fr st t : Nat} (hl : nm.length ≤ 1024) (hz : ∀ k ∈ nm, k.size ≤ 65535) (hd : nm.Nodup) : Rnd (roundS s m nm ws first fr st t) m := ⟨h.p1, h.p2, h.cl, hl, hz, hd, rfl, rfl⟩
def begS (s : RS) (fr st t : Nat) : RS := roundS s 1 s.names [] [] fr st t
/-- Begin, in pure lists -/
def beginO (s : RS) (fr st t : Nat) : Out := if s.ended = 0 ∧ s.round = 0 then ⟨begS s fr st t, askedR (begS s fr st t), t + (psR (begS s fr st t)).length⟩ else ⟨s, [], t⟩
theorem WfR.beg {s : RS} (h : WfR s) (fr st t : Nat) : WfR (begS s fr st t) := by
  obtain ⟨⟨h1, h2⟩, h3, h4⟩ := (valK_iff s.names).1 h.nk
  exact h.round (.inl rfl) h2 h3 h4 fitL_nil (by simp) (fun e => by cases e) (fun p hp => by cases hp) (fun _ => rfl)
theorem WfR.begin {s : RS} (h : WfR s) (fr st t : Nat) : WfR (beginO s fr st t).s := by
  unfold beginO; split
  · exact h.beg fr st t
  · exact h
set_option maxRecDepth 10000 in
theorem rBegin_any (w : World) (p cp fr st : Nat) (F : Nat → Prop) (s : RS) (t : Nat) (h : IsRd w p cp F s) (hw : WfR s) (hc : IsCt w cp fr st t) (ht : t + 64 ≤ 4611686018427387904) (hcF : ¬ F cp) :
    Calls Try.prog 10 #[.pointer (some ⟨p, 0, none⟩)] w (TellTo w p cp fr st F (beginO s fr st t)) := by
  obtain ⟨ph, hph, hc4⟩ : ∃ ph : Nat, (ph ≤ 3 ∧ (ph = 0 ↔ s.ended = 0 ∧ s.round = 0)) ∧ w.cell? ⟨p, 4, none⟩ = some (.int .i64 ph) := by
    rcases h.2.2 with ⟨he, vo, vc, vs, hb, _⟩ | ⟨he, nmo, nc, ro, rc, rz, co, cc, cs, vo, vc, vs, hl⟩
    · exact ⟨3, ⟨by decide, by omega⟩, by rw [cell_of_blk hb]; rfl⟩
    · exact ⟨s.round, ⟨by have := hw.rd; omega, by omega⟩, by rw [cell_of_blk hl.blk]; rfl⟩
  by_cases h0 : s.ended = 0 ∧ s.round = 0
  · have hp0 : ph = 0 := hph.2.2 h0
    subst hp0
    have hB : beginO s fr st t = ⟨begS s fr st t, askedR (begS s fr st t), t + (psR (begS s fr st t)).length⟩ := by unfold beginO; rw [if_pos h0]
    rw [hB]
    obtain ⟨nmo, nc, ro, rc, rz, co, cc, cs, vo, vc, vs, hl⟩ : ∃ nmo nc ro rc rz co cc cs vo vc vs, RdL w p cp F s nmo nc ro rc rz co cc cs vo vc vs := by
      rcases h.2.2 with ⟨he, _⟩ | ⟨_, h1⟩
      · exact absurd h0.1 he
      · exact h1
    have c0 : w.cell? ⟨p, 0, none⟩ = some (.slice nmo s.names.length nc) := by rw [cell_of_blk hl.blk]; rfl
    have hf0 : s.first = [] := hw.r1 (by omega)
    obtain ⟨⟨h1, h2⟩, h3, h4⟩ := (valK_iff s.names).1 hw.nk
    have hQ : Calls Try.prog 43 #[.pointer (some ⟨p, 0, none⟩), .slice nmo s.names.length nc, .func (.func 26) #[] #[]] w (QsTo w (begS s fr st t)) :=
      questions1_any w p (begS s fr st t) nmo s.names.length nc rfl hl.nms (round_rnd hw h2 h3 h4) (by rw [cell_of_blk hl.blk]; rfl) (by rw [cell_of_blk hl.blk]; rfl)
    have HAK : Hid (Calls Try.prog 25 #[.pointer (some ⟨p, 0, none⟩), .int .i64 1, .slice nmo s.names.length nc, .func (.func 26) #[] #[]] w (TellTo w p cp fr st F ⟨begS s fr st t, askedR (begS s fr st t), t + (psR (begS s fr st t)).length⟩)) := by
      have hv := hl.ver
      have hfV := hl.fV
      have hb := hl.blk
      rw [hf0] at hv hfV hb
      exact ask_any w p cp fr st t F (begS s fr st t) s.round ro (undone s).length rc co s.came.length cc nmo nc vo vc vs nmo s.names.length nc _ hb hl.nms hv h.1 hl.fN hfV h.2.1 hc ht hcF rfl hl.nms (hw.beg fr st t) h0.1 (.inl rfl) rfl rfl rfl hQ
    have hnl : (s.names.length : Int) ≤ 1024 := by omega
    clear h hw hc hcF hl hB h1 h2 h3 h4 hQ hf0 h0 hph
    generalize s.names.length = n at *
    generalize (⟨begS s fr st t, askedR (begS s fr st t), t + (psR (begS s fr st t)).length⟩ : Out) = O at HAK ⊢
    go_enter Try.func10, Try.ntmps10
    go_wp2_with fail
    refine HAK.out.mono ?_
    rintro e w' ⟨o, n, c, rs, G, rfl, T⟩
    have HT : Hid _ := T
    clear T
    go_wp2_with fail
    go_ret
    exact ⟨o, n, c, rs, G, rfl, HT.out⟩
  · have hB : beginO s fr st t = ⟨s, [], t⟩ := by unfold beginO; rw [if_neg h0]
    rw [hB]
    have hp0 : ¬ ph = 0 := fun e => h0 (hph.2.1 e)
    have hpb : (ph : Int) ≤ 3 := by omega
    have hpn : ((ph : Int) != 0) = true := by simpa using hp0
    have HT : Hid (TellTo w p cp fr st F ⟨s, [], t⟩ (.returned (.slice none 0 0)) w) := tell_none h hc (Keeps.refl _ _)
    clear h hw hc hcF hph h0 hB
    generalize (ph : Int) = R at *
    go_enter Try.func10, Try.ntmps10
    go_wp2_with fail
    go_ret
    exact HT.out
end Go.Proofs.Ytileipnoiocdlaa
/- A second round begun: its wants by name. -/
namespace Go.Proofs.Ytileipnoiocdlaa
open Go.RowKit Go.Sort Orl
set_option linter.unusedVariables false
set_option linter.unusedSimpArgs false

theorem TellTo.older {w wE : World} {p cp fr st : Nat} {F : Nat → Prop} {O : Out} {e : Ending} {w' : World} (h : TellTo wE p cp fr st F O e w') (k : Keeps no w wE) : TellTo w p cp fr st F O e w' := by
  obtain ⟨o, n, c, rs, G, he, T⟩ := h
  refine ⟨o, n, c, rs, G, he, T.n, T.tq, fun i hi => Nat.le_trans k.size (T.new i hi), T.is, fun i hi => (T.foot i hi).imp id (Nat.le_trans k.size), T.apart, T.ct, k.of_no.trans T.kp⟩
/-- the first k wants, by key -/
structure IdP (ws : List Wn) (k : Nat) (L : List (Tx × Nat)) : Prop where
  at' : ∀ j, j < k → fnd (ws.getD j w0').1 L = some (ws.getD j w0').2
  le : L.length ≤ k
theorem fst_at (ws : List Wn) {j : Nat} (hj : j < ws.length) : (ws.map Prod.fst).getD j e0 = (ws.getD j w0').1 := by
  simp [List.getD_eq_getElem?_getD, hj]
theorem IdP.succ {ws : List Wn} {k : Nat} {L : List (Tx × Nat)} (h : IdP ws k L) (hd : (ws.map Prod.fst).Nodup) (hk : k < ws.length) : IdP ws (k + 1) (Go.Proofs.Ytileipnoiocdlaa.put (ws.getD k w0').1 (ws.getD k w0').2 L) := by
  refine ⟨fun j hj => ?_, by have := length_put_le (ws.getD k w0').1 (ws.getD k w0').2 L; have := h.le; omega⟩
  rw [fnd_put]
  by_cases e : j = k
  · rw [if_pos (by rw [e]), e]
  · rw [if_neg (fun e2 => e (nodup_at hd (by rw [List.length_map]; omega) (by rw [List.length_map]; exact hk) (by rw [fst_at ws (by omega), fst_at ws hk]; exact e2)))]
    exact h.at' j (by omega)
theorem wantOf_at {ws : List Wn} (hd : (ws.map Prod.fst).Nodup) {j : Nat} (hj : j < ws.length) : wantOf ws (ws.getD j w0').1 = ws.getD j w0' := by
  have hm : ws.getD j w0' ∈ ws := getD_mem_lt w0' hj
  obtain ⟨q, hq⟩ : ∃ q, ws.find? (fun p => decide (p.1 = (ws.getD j w0').1)) = some q := by
    cases e : ws.find? (fun p => decide (p.1 = (ws.getD j w0').1)) with
    | some q => exact ⟨q, rfl⟩
    | none =>
      have := List.find?_eq_none.1 e _ hm
      simp at this
  have h1 := List.find?_some hq
  have h1 : q.1 = (ws.getD j w0').1 := of_decide_eq_true h1
  have h2 := List.mem_of_find?_eq_some hq
  obtain ⟨i, hi, e⟩ := List.mem_iff_getElem.1 h2
  have e2 : ws.getD i w0' = q := by simp [List.getD_eq_getElem?_getD, hi, e]
  have h3 : i = j := nodup_at hd (by rw [List.length_map]; exact hi) (by rw [List.length_map]; exact hj) (by rw [fst_at ws hi, fst_at ws hj, e2]; exact h1)
  subst h3
  unfold wantOf
  rw [hq, ← e2]
  rfl
theorem IdP.all {ws : List Wn} {L : List (Tx × Nat)} (h : IdP ws ws.length L) (hd : (ws.map Prod.fst).Nodup) : IdsOf ws (ws.map Prod.fst) L := by
  intro k hk
  obtain ⟨p, hp, rfl⟩ := List.mem_map.1 hk
  obtain ⟨i, hi, e⟩ := List.mem_iff_getElem.1 hp
  have e2 : ws.getD i w0' = p := by simp [List.getD_eq_getElem?_getD, hi, e]
  rw [← e2, wantOf_at hd hi]
  exact h.at' i hi
/-- while names and wants are laid -/
structure Fe (w wr : World) (M : Nat) (o : Option Addr) (m c : Nat) (ws : List Wn) (k : Nat) : Prop where
  own : Own TE wr o c ((ws.take k).map Prod.fst)
  m : m = k
  new : New w o
  box : wr.heap[M + 1]? = some (.cells #[.map (some M)] 126 (0, 0))
  mp : ∃ L, IsMp KT Vd wr M L ∧ IdP ws k L
  kp : Keeps no w wr
  hM : w.heap.size ≤ M
def fetS (s : RS) (ws : List Wn) (first : List Ver) (fr st t : Nat) : RS := roundS s 2 (ws.map Prod.fst) ws first fr st t
set_option maxRecDepth 10000 in
set_option maxHeartbeats 2000000 in
theorem fetch_any (w : World) (p cp fr st t : Nat) (F : Nat → Prop) (s : RS) (ph : Nat) (ro0 : Option Addr) (rn0 rc0 : Nat) (co0 : Option Addr) (cn0 cc0 : Nat) (nmo : Option Addr) (nc : Nat) (vo : Option Addr) (vc : Nat) (vs : List RV) (o : Option Addr) (n c : Nat) (ws : List Wn) (first : List Ver)
    (hb : w.heap[p]? = some (.cells (rdC nmo s.names.length nc s.parts s.client (fnC cp) ph 0 ro0 rn0 rc0 co0 cn0 cc0 vo first.length vc) 79 (0, 0)))
    (hnm : Sl TE w nmo nc s.names) (hv : Vers w vo vc vs first) (hFp : F p) (hfN : ∀ i, inO nmo i → F i ∧ i ≠ p) (hfV : ∀ i, VB vo vs first.length i → F i ∧ i ≠ p) (hFl : ∀ i, F i → i < w.heap.size) (hc : IsCt w cp fr st t) (ht : t + 64 ≤ 4611686018427387904) (hcF : ¬ F cp)
    (hn : n = ws.length) (hws : Sl WE w o c ws) (hw : WfR s) (he : s.ended = 0) (hl : ws.length ≤ 1024) (hz : ∀ p ∈ ws, p.1.size ≤ 65535 ∧ p.2 < 18446744073709551616) (hd : (ws.map Prod.fst).Nodup) (hff : FitL first) (hfl : first.length ≤ 1024) :
    Calls Try.prog 49 #[.pointer (some ⟨p, 0, none⟩), .slice o n c] w (TellTo w p cp fr st F ⟨fetS s ws first fr st t, askedR (fetS s ws first fr st t), t + (psR (fetS s ws first fr st t)).length⟩) := by
  have hl' : (ws.map Prod.fst).length ≤ 1024 := by rw [List.length_map]; exact hl
  have hz' : ∀ k ∈ ws.map Prod.fst, k.size ≤ 65535 := fun k hk => by obtain ⟨q, hq, rfl⟩ := List.mem_map.1 hk; exact (hz q hq).1
  have HN : Hid (n = ws.length ∧ Sl WE w o c ws ∧ (ws.map Prod.fst).Nodup ∧ ∀ p ∈ ws, p.1.size ≤ 65535) := ⟨hn, hws, hd, fun q hq => (hz q hq).1⟩
  have hnb : (n : Int) ≤ 1024 := by omega
  have HAK : Hid (∀ X M oz mz cz, Fe w X M oz mz cz ws ws.length → Calls Try.prog 25 #[.pointer (some ⟨p, 0, none⟩), .int .i64 2, .slice oz mz cz, .func (.func 65) #[] #[.pointer (some ⟨M + 1, 0, none⟩)]] X (TellTo w p cp fr st F ⟨fetS s ws first fr st t, askedR (fetS s ws first fr st t), t + (psR (fetS s ws first fr st t)).length⟩)) := by
    intro X M oz mz cz hX
    have hbX := hX.kp.at hb (fun h => h)
    have hoX := hX.own
    rw [List.take_of_length_le (Nat.le_refl _)] at hoX
    obtain ⟨L, hm, hp⟩ := hX.mp
    have hmz : mz = (ws.map Prod.fst).length := by rw [hX.m, List.length_map]
    have hQ : Calls Try.prog 43 #[.pointer (some ⟨p, 0, none⟩), .slice oz mz cz, .func (.func 65) #[] #[.pointer (some ⟨M + 1, 0, none⟩)]] X (QsTo X (fetS s ws first fr st t)) :=
      questions2_any X p (fetS s ws first fr st t) oz mz cz (M + 1) M L (by rw [cell_of_blk hX.box]; rfl) hm (hp.all hd) hmz hoX.sl (round_rnd hw hl' hz' hd) (by rw [cell_of_blk hbX]; rfl) (by rw [cell_of_blk hbX]; rfl)
    have hwf : WfR (fetS s ws first fr st t) := hw.round (.inr rfl) hl' hz' hd hff hfl (fun _ => rfl) (fun q hq => (hz q hq).2) (fun e => by cases e)
    exact (ask_any X p cp fr st t F (fetS s ws first fr st t) ph ro0 rn0 rc0 co0 cn0 cc0 nmo nc vo vc vs oz mz cz _ hbX (hnm.keepsN hX.kp) (hv.keepsN hX.kp) hFp hfN hfV (fun i hi => Nat.lt_of_lt_of_le (hFl i hi) hX.kp.size) (hc.keeps hX.kp (fun h => h)) ht hcF hmz hoX.sl hwf he (.inr rfl) rfl rfl rfl hQ).mono fun e w' h => h.older hX.kp
  obtain ⟨w1, hr1, ho1, hk1⟩ := makeT w n (by omega)
  have hmm := makeTD
  obtain ⟨M, hM⟩ : ∃ M, M = w1.heap.size := ⟨_, rfl⟩
  have H0 : Hid (∀ W, W = (w1.alloc (.map #[] 0)).alloc (.cells #[.map (some M)] 126) → Fe w W M (some ⟨w.heap.size, 0, none⟩) 0 n ws 0) := by
    rintro W rfl
    have kA : Keeps no w1 ((w1.alloc (.map #[] 0)).alloc (.cells #[.map (some M)] 126)) := ((Keeps.refl _ _).alloc _).alloc _
    refine ⟨by simpa using ho1.keepsN kA, rfl, new_fresh _ _ (Nat.le_refl _) _, ?_, ⟨[], ?_, fun j hj => by omega, Nat.le_refl _⟩, hk1.trans kA, by rw [hM]; exact hk1.size⟩
    · have := blk_new (w1.alloc (.map #[] 0)) (.cells #[.map (some M)] 126)
      have e : (w1.alloc (.map #[] 0)).heap.size = M + 1 := by rw [hM]; simp
      rwa [e] at this
    · have h1 := isMp_made (K := KT) (V := Vd) w1
      rw [← hM] at h1
      exact h1.keepsN ((Keeps.refl _ _).alloc _)
  clear hb hnm hv hFp hfN hfV hFl hc ht hcF hn hws hw he hl hz hd hff hfl hl' hz' ho1 hk1
  go_enter Try.func49, Try.ntmps49
  go_upto_region 3 with fail
  have h0 := H0.out _ rfl
  rw [← hM]
  generalize (w1.alloc (.map #[] 0)).alloc (.cells #[.map (some M)] 126) = w2 at h0 ⊢
  have H2 : Hid (Fe w w2 M (some ⟨w.heap.size, 0, none⟩) 0 n ws 0) := h0
  clear h0 H0 hM hr1
  go_wp2_with fail
  go_loopw [5, 17] (fun s5 s17 wr => ∃ (k m : Nat) (oz : Option Addr) (cz : Nat), k ≤ n ∧ s17 = .int .i64 k ∧ s5 = .slice oz m cz ∧ Hid (Fe w wr M oz m cz ws k)) (fun _ s17 _ => n - (intOf s17).toNat)
  case atStart => exact ⟨0, 0, _, n, by omega, rfl, rfl, H2.out⟩
  case round =>
    rename World => wr
    obtain ⟨k, m, oz, cz, hk, rfl, rfl, HF⟩ := hrel
    clear H2
    by_cases hlt : k < n
    · have hlt' : (k : Int) < n := by omega
      have hkl : k < ws.length := by rw [← HN.out.1]; exact hlt
      obtain ⟨b, off, eo, d0, d1⟩ := (HN.out.2.1.keepsN HF.out.kp).atW hkl
      have hkz := HN.out.2.2.2 _ (getD_mem_lt w0' hkl)
      have HX : Hid ((ws.take (k + 1)).map Prod.fst = (ws.take k).map Prod.fst ++ [(ws.getD k w0').1]) := by show _ = _; rw [take_succ_getD ws k w0' hkl, List.map_append]; rfl
      have HIS : Hid (∀ L, IdP ws k L → IdP ws (k + 1) (Go.Proofs.Ytileipnoiocdlaa.put (ws.getD k w0').1 (ws.getD k w0').2 L)) := fun L h => h.succ HN.out.2.2.1 hkl
      generalize (ws.getD k w0').1 = x at d0 hkz HX HIS
      generalize (ws.getD k w0').2 = v at d1 HIS
      have HKZ : Hid (x.size ≤ 65535) := hkz
      have hkB : (k : Int) ≤ 1024 := by omega
      have HMB : Hid (m = ((ws.take k).map Prod.fst).length ∧ ((ws.take k).map Prod.fst).length = k) := by
        have e : ((ws.take k).map Prod.fst).length = k := by rw [List.length_map, List.length_take]; omega
        exact ⟨by rw [e, HF.out.m], e⟩
      have HWB : Hid (∀ W, W = wr.alloc (.cells #[.string x, .int .u64 (v : Nat)] 50) → W.heap[wr.heap.size]? = some (.cells #[.string x, .int .u64 (v : Nat)] 50 (0, 0)) ∧ Keeps no wr W) := by
        rintro W rfl
        exact ⟨blk_new wr _, (Keeps.refl _ _).alloc _⟩
      obtain ⟨B, hB⟩ : ∃ B, B = wr.heap.size := ⟨_, rfl⟩
      have hBw : B + 1 = (wr.alloc (.cells #[.string x, .int .u64 (v : Nat)] 50)).heap.size := by rw [hB]; simp
      clear hkl hkz
      subst eo
      go_upto_region 6 with fail
      have hW := HWB.out _ rfl
      rw [← hB] at hW ⊢
      generalize wr.alloc (.cells #[.string x, .int .u64 (v : Nat)] 50) = w3 at hW hBw ⊢
      have H3 : Hid (w3.heap[B]? = some (.cells #[.string x, .int .u64 (v : Nat)] 50 (0, 0)) ∧ Keeps no wr w3 ∧ B = wr.heap.size) := ⟨hW.1, hW.2, hB⟩
      have a0 := cell_of_blk hW.1 0
      simp only [List.getElem?_toArray, List.getElem?_cons_succ, List.getElem?_cons_zero] at a0
      have HRO : Hid (Row TE (w3.alloc (.cells #[.string x] 9)) (some ⟨w3.heap.size, 0, none⟩) [x]) := (tx_one w3 x).row
      have HOA : Hid (Own TE (w3.alloc (.cells #[.string x] 9)) oz cz ((ws.take k).map Prod.fst)) := (HF.out.own.keepsN hW.2).keepsN ((Keeps.refl _ _).alloc _)
      have HBD : Hid ((((ws.take k).map Prod.fst).length + [x].length) * TE.nb ≤ 140737488355328 ∧ ((ws.take k).map Prod.fst).length + [x].length ≤ 140737488355328) := by
        rw [HMB.out.2]; exact ⟨by simp [TE]; omega, by simp; omega⟩
      have HU : Hid (∀ W o5 c5, Own TE W o5 c5 ((ws.take k).map Prod.fst ++ [x]) → Ap (w3.alloc (.cells #[.string x] 9)) oz o5 W → W.cell? ⟨M + 1, 0, none⟩ = some (.map (some M)) ∧ W.cell? ⟨B, 0, none⟩ = some (.string x) ∧ W.cell? ⟨B, 1, none⟩ = some (.int .u64 (v : Nat)) ∧ ∃ w6, (Instr.mapUpdate 126 (.map (some M)) (.string x) (.int .u64 ((v : Nat) : Int))).run Try.prog W = .ok () w6 ∧ Hid (Fe w w6 M o5 (m + 1) c5 ws (k + 1))) := by
        intro W o5 c5 ho5 hap
        have hF := HF.out
        have kal : Keeps no w3 (w3.alloc (.cells #[.string x] 9)) := (Keeps.refl _ _).alloc _
        have k3 : Keeps no wr (w3.alloc (.cells #[.string x] 9)) := H3.out.2.1.trans kal
        have kk : Keeps (inO oz) (w3.alloc (.cells #[.string x] 9)) W := by
          rcases hap with ⟨_, k5⟩ | ⟨_, k5⟩
          · exact k5
          · exact k5.of_no
        have tag : ∀ {b : Nat} {cur : Array Value} {ty : TypeId}, wr.heap[b]? = some (.cells cur ty (0, 0)) → ty ≠ 9 → ¬ inO oz b := by
          intro b cur ty hb hne hi
          obtain ⟨c2, h2⟩ := hF.own.tag b hi
          rw [hb] at h2; injection h2 with e; injection e with _ e _; exact hne e
        have bx := kk.at (k3.at hF.box (fun h => h)) (tag hF.box (by decide))
        have hBo : ¬ inO oz B := fun hi => by have := hF.own.lt B hi; have := H3.out.2.2; omega
        have bb := kk.at (kal.at H3.out.1 (fun h => h)) hBo
        obtain ⟨L, hm, hp⟩ := hF.mp
        have hmo : ¬ inO oz M := fun hi => by
          obtain ⟨es, cl, h3⟩ := hm.obj
          obtain ⟨cur, h4⟩ := hF.own.tag M hi
          rw [h3] at h4; cases h4
        have hmW : IsMp KT Vd W M L := (hm.keepsN k3).keeps kk hmo
        obtain ⟨w6, hrun, hM6, hK6, hS6⟩ := updTD hmW (by have := hp.le; unfold maxLen; omega) (k := x) (by have := HKZ.out; unfold maxLen; omega) v
        have hnn := hap.new (w0 := w) hF.new (hF.kp.trans k3)
        refine ⟨by rw [cell_of_blk bx]; rfl, by rw [cell_of_blk bb]; rfl, by rw [cell_of_blk bb]; rfl, w6, hrun, ?_, ?_, hnn.1, hK6.at bx (by omega), ⟨_, hM6, HIS.out L hp⟩, hnn.2.then hK6 (fun i e => .inr (by rw [e]; exact hF.hM)), hF.hM⟩
        · rw [HX.out]
          refine ho5.keeps hK6 (fun i hi e => ?_)
          obtain ⟨es, cl, h3⟩ := hmW.obj
          obtain ⟨cur, h4⟩ := ho5.tag i hi
          rw [e, h3] at h4; cases h4
        · rw [hF.m]
      clear hW HWB hB hBw HX
      go_wp2_with (at_builtin; refine wpList_app okT rfl _ _ rfl oz m cz ((ws.take k).map Prod.fst) rfl HMB.out.1 HOA.out (some ⟨w3.heap.size, 0, none⟩) 1 1 [x] rfl rfl (fun h => by cases h) HRO.out HBD.out.1 HBD.out.2 ?_; intro o5 c5 w5 ho5 hap5; obtain ⟨g6, g0, g1, w6, hrun6, HF6⟩ := HU.out w5 o5 c5 ho5 hap5; clear ho5 hap5)
      go_roundw
      case rel => exact ⟨k + 1, m + 1, o5, c5, by omega, by go_num, rfl, HF6⟩
      case measure => simp [intOf]; omega
    · have hlt' : ¬ (k : Int) < n := by omega
      have HE : Hid (Fe w wr M oz m cz ws ws.length) := by
        have e : k = ws.length := by have := HN.out.1; omega
        have h := HF.out
        rwa [e] at h
      clear HF
      go_wp2_with fail
      refine (HAK.out _ _ _ _ _ HE.out).mono ?_
      rintro e w' ⟨o, n, c, rs, G, rfl, T⟩
      have HT : Hid _ := T
      clear T
      go_wp2_with fail
      go_ret
      exact ⟨o, n, c, rs, G, rfl, HT.out⟩
end Go.Proofs.Ytileipnoiocdlaa
/- Where a version stands in a list. -/
namespace Go.Proofs.Ytileipnoiocdlaa
open Go.RowKit Go.Sort Orl
set_option linter.unusedVariables false
set_option linter.unusedSimpArgs false

/-- where the first such one stands -/
def idxV (g : Ver → Bool) (vs : List Ver) : Int := match (List.range vs.length).find? (fun i => g (vs.getD i v0)) with
  | some i => (i : Int)
  | none => -1
theorem idxV_hit {g : Ver → Bool} {vs : List Ver} {k : Nat} (hk : k < vs.length) (h : ∀ j, j < k → g (vs.getD j v0) = false) (hg : g (vs.getD k v0) = true) : idxV g vs = (k : Int) := by
  unfold idxV
  have : (List.range vs.length).find? (fun i => g (vs.getD i v0)) = some k := by
    rw [List.find?_range_eq_some]
    exact ⟨hg, List.mem_range.2 hk, fun j hj => by rw [h j hj]; rfl⟩
  rw [this]
theorem idxV_none {g : Ver → Bool} {vs : List Ver} (h : ∀ j, j < vs.length → g (vs.getD j v0) = false) : idxV g vs = -1 := by
  unfold idxV
  have : (List.range vs.length).find? (fun i => g (vs.getD i v0)) = none := by
    rw [List.find?_eq_none]
    intro j hj
    rw [h j (List.mem_range.1 hj)]; simp
  rw [this]
theorem idxV_cases (g : Ver → Bool) (vs : List Ver) : idxV g vs = -1 ∧ (∀ v ∈ vs, g v = false) ∨ ∃ k, k < vs.length ∧ idxV g vs = (k : Int) ∧ g (vs.getD k v0) = true := by
  unfold idxV
  cases e : (List.range vs.length).find? (fun i => g (vs.getD i v0)) with
  | none =>
    refine .inl ⟨rfl, fun v hv => ?_⟩
    obtain ⟨i, hi, ei⟩ := List.mem_iff_getElem.1 hv
    have := List.find?_eq_none.1 e i (List.mem_range.2 hi)
    have e2 : vs.getD i v0 = v := by simp [List.getD_eq_getElem?_getD, hi, ei]
    rw [e2] at this
    simpa using this
  | some k =>
    have h1 := List.find?_some e
    have h2 := List.mem_of_find?_eq_some e
    exact .inr ⟨k, List.mem_range.1 h2, rfl, h1⟩
def aggV (r : RV) : Value := .agg #[.string r.key, .int .u64 (r.id : Nat), .string r.val, .slice r.o r.n r.c]
theorem same1_any (w : World) (r : RV) (B id : Nat) (cB : w.cell? ⟨B, 1, none⟩ = some (.int .u64 (id : Nat))) :
    Calls Try.prog 60 #[aggV r, .pointer (some ⟨B, 0, none⟩)] w fun e w' => e = .returned (.bool (decide (r.id = id))) ∧ Keeps no w w' := by
  obtain ⟨x0, x1, x2, xo, xn, xc⟩ := r
  unfold aggV
  simp only
  have cB' : ∀ o, (w.alloc o).cell? ⟨B, 1, none⟩ = some (.int .u64 (id : Nat)) := fun o => ((Keeps.refl no w).alloc o).cellN cB
  obtain ⟨b, hb⟩ : ∃ b, b = decide (x1 = id) := ⟨_, rfl⟩
  have hb1 : (((x1 : Nat) : Int) == ((id : Nat) : Int)) = b := by rw [hb]; by_cases e : x1 = id <;> simp [e]; omega
  have hb2 : (x1 == id) = b := by rw [hb]; by_cases e : x1 = id <;> simp [e]
  rw [← hb]
  clear hb cB
  go_enter Try.func60, Try.ntmps60
  go_wp2_with fail
  go_ret
  exact ⟨rfl, (Keeps.refl _ _).alloc _⟩
theorem gone1_any (w : World) (r : RV) :
    Calls Try.prog 51 #[aggV r] w fun e w' => e = .returned (.bool (decide (r.id = 0))) ∧ Keeps no w w' := by
  obtain ⟨x0, x1, x2, xo, xn, xc⟩ := r
  unfold aggV
  simp only
  obtain ⟨b, hb⟩ : ∃ b, b = decide (x1 = 0) := ⟨_, rfl⟩
  have hb1 : (((x1 : Nat) : Int) == 0) = b := by rw [hb]; by_cases e : x1 = 0 <;> simp [e]
  have hb2 : (x1 == 0) = b := by rw [hb]; by_cases e : x1 = 0 <;> simp [e]
  rw [← hb]
  clear hb
  go_enter Try.func51, Try.ntmps51
  go_wp2_with fail
  go_ret
  exact ⟨rfl, (Keeps.refl _ _).alloc _⟩
set_option maxRecDepth 10000 in
set_option maxHeartbeats 1000000 in
theorem indexS_any (w : World) (o : Option Addr) (n c : Nat) (rs : List RV) (vs : List Ver) (B id : Nat) (cB : w.cell? ⟨B, 1, none⟩ = some (.int .u64 (id : Nat))) (hn : n = vs.length) (hl : vs.length ≤ 1024) (hv : Vers w o c rs vs) :
    Calls Try.prog 61 #[.slice o n c, .func (.func 60) #[] #[.pointer (some ⟨B, 0, none⟩)]] w fun e w' => e = .returned (.int .i64 (idxV (fun v => decide (v.id = id)) vs)) ∧ Keeps no w w' := by
  have H : Hid (n = vs.length ∧ vs.length ≤ 1024 ∧ Vers w o c rs vs) := ⟨hn, hl, hv⟩
  have HC : Hid (∀ X, Keeps no w X → ∀ r, Calls Try.prog 60 #[aggV r, .pointer (some ⟨B, 0, none⟩)] X fun e w' => e = .returned (.bool (decide (r.id = id))) ∧ Keeps no X w') := fun X hX r => same1_any X r B id (hX.cellN cB)
  have hnb : (n : Int) ≤ 1024 := by omega
  clear hn hl hv cB
  go_enter Try.func61, Try.ntmps61
  go_wp2_with fail
  go_loopw [5, 8] (fun _ i wr => ∃ j : Nat, j ≤ n ∧ i = .int .i64 j ∧ Hid ((∀ t, t < j → decide ((vs.getD t v0).id = id) = false) ∧ Keeps no w wr)) (fun _ i _ => n - (intOf i).toNat)
  case atStart => exact ⟨0, by omega, rfl, fun t ht => by omega, Keeps.refl _ _⟩
  case round =>
    obtain ⟨j, hj, rfl, HJ⟩ := hrel
    by_cases hlt : j < n
    · have hlt' : (j : Int) < n := by omega
      have hjl : j < vs.length := by rw [← H.out.1]; exact hlt
      obtain ⟨b, off, hob, a0, a1, a2, a3⟩ := (H.out.2.2.sl.keepsN HJ.out.2).atV (j := j) (by rw [H.out.2.2.len]; exact hjl)
      have hid : (rs.getD j r0).id = (vs.getD j v0).id := (H.out.2.2.each j hjl).id
      obtain ⟨x, hx⟩ : ∃ x, x = rs.getD j r0 := ⟨_, rfl⟩
      rw [← hx] at a0 a1 a2 a3 hid
      have HX : Hid (j < vs.length ∧ (vs.getD j v0).id = x.id) := ⟨hjl, hid.symm⟩
      have HCX : Hid (∀ X, Keeps no w X → Calls Try.prog 60 #[aggV x, .pointer (some ⟨B, 0, none⟩)] X fun e w' => e = .returned (.bool (decide (x.id = id))) ∧ Keeps no X w') := fun X hX => HC.out X hX x
      unfold aggV at HCX
      subst hob
      clear hx hjl hid
      obtain ⟨bg, hbg⟩ : ∃ bg, bg = decide (x.id = id) := ⟨_, rfl⟩
      rw [← hbg] at HCX
      have HBG : Hid (decide ((vs.getD j v0).id = id) = bg) := by show _ = _; rw [HX.out.2, hbg]
      clear hbg
      cases bg with
      | true =>
        go_wp2_with (go_at_call 60; refine (HCX.out _ HJ.out.2).mono ?_; rintro e w3 ⟨rfl, hk3⟩; have HK3 : Hid (Keeps no w w3) := HJ.out.2.trans hk3; clear hk3)
        go_ret
        have := idxV_hit (g := fun v => decide (v.id = id)) HX.out.1 HJ.out.1 HBG.out
        exact ⟨by rw [this]; rfl, HK3.out⟩
      | false =>
        go_wp2_with (go_at_call 60; refine (HCX.out _ HJ.out.2).mono ?_; rintro e w3 ⟨rfl, hk3⟩; have HK3 : Hid (Keeps no w w3) := HJ.out.2.trans hk3; clear hk3)
        go_roundw
        case rel =>
          refine ⟨j + 1, by omega, by go_num, fun t ht => ?_, HK3.out⟩
          by_cases e : t = j
          · rw [e]; exact HBG.out
          · exact HJ.out.1 t (by omega)
        case measure => simp [intOf]; omega
    · have hlt' : ¬ (j : Int) < n := by omega
      go_wp2_with fail
      go_ret
      have := idxV_none (g := fun v => decide (v.id = id)) (vs := vs) (fun t ht => HJ.out.1 t (by have := H.out.1; omega))
      exact ⟨by rw [this]; rfl, HJ.out.2⟩
set_option maxRecDepth 10000 in
set_option maxHeartbeats 1000000 in
theorem indexG_any (w : World) (o : Option Addr) (n c : Nat) (rs : List RV) (vs : List Ver) (hn : n = vs.length) (hl : vs.length ≤ 1024) (hv : Vers w o c rs vs) :
    Calls Try.prog 61 #[.slice o n c, .func (.func 51) #[] #[]] w fun e w' => e = .returned (.int .i64 (idxV (fun v => decide (v.id = 0)) vs)) ∧ Keeps no w w' := by
  have H : Hid (n = vs.length ∧ vs.length ≤ 1024 ∧ Vers w o c rs vs) := ⟨hn, hl, hv⟩
  have HC : Hid (∀ X, Keeps no w X → ∀ r, Calls Try.prog 51 #[aggV r] X fun e w' => e = .returned (.bool (decide (r.id = 0))) ∧ Keeps no X w') := fun X hX r => gone1_any X r
  have hnb : (n : Int) ≤ 1024 := by omega
  clear hn hl hv
  go_enter Try.func61, Try.ntmps61
  go_wp2_with fail
  go_loopw [5, 8] (fun _ i wr => ∃ j : Nat, j ≤ n ∧ i = .int .i64 j ∧ Hid ((∀ t, t < j → decide ((vs.getD t v0).id = 0) = false) ∧ Keeps no w wr)) (fun _ i _ => n - (intOf i).toNat)
  case atStart => exact ⟨0, by omega, rfl, fun t ht => by omega, Keeps.refl _ _⟩
  case round =>
    obtain ⟨j, hj, rfl, HJ⟩ := hrel
    by_cases hlt : j < n
    · have hlt' : (j : Int) < n := by omega
      have hjl : j < vs.length := by rw [← H.out.1]; exact hlt
      obtain ⟨b, off, hob, a0, a1, a2, a3⟩ := (H.out.2.2.sl.keepsN HJ.out.2).atV (j := j) (by rw [H.out.2.2.len]; exact hjl)
      have hid : (rs.getD j r0).id = (vs.getD j v0).id := (H.out.2.2.each j hjl).id
      obtain ⟨x, hx⟩ : ∃ x, x = rs.getD j r0 := ⟨_, rfl⟩
      rw [← hx] at a0 a1 a2 a3 hid
      have HX : Hid (j < vs.length ∧ (vs.getD j v0).id = x.id) := ⟨hjl, hid.symm⟩
      have HCX : Hid (∀ X, Keeps no w X → Calls Try.prog 51 #[aggV x] X fun e w' => e = .returned (.bool (decide (x.id = 0))) ∧ Keeps no X w') := fun X hX => HC.out X hX x
      unfold aggV at HCX
      subst hob
      clear hx hjl hid
      obtain ⟨bg, hbg⟩ : ∃ bg, bg = decide (x.id = 0) := ⟨_, rfl⟩
      rw [← hbg] at HCX
      have HBG : Hid (decide ((vs.getD j v0).id = 0) = bg) := by show _ = _; rw [HX.out.2, hbg]
      clear hbg
      cases bg with
      | true =>
        go_wp2_with (go_at_call 51; refine (HCX.out _ HJ.out.2).mono ?_; rintro e w3 ⟨rfl, hk3⟩; have HK3 : Hid (Keeps no w w3) := HJ.out.2.trans hk3; clear hk3)
        go_ret
        have := idxV_hit (g := fun v => decide (v.id = 0)) HX.out.1 HJ.out.1 HBG.out
        exact ⟨by rw [this]; rfl, HK3.out⟩
      | false =>
        go_wp2_with (go_at_call 51; refine (HCX.out _ HJ.out.2).mono ?_; rintro e w3 ⟨rfl, hk3⟩; have HK3 : Hid (Keeps no w w3) := HJ.out.2.trans hk3; clear hk3)
        go_roundw
        case rel =>
          refine ⟨j + 1, by omega, by go_num, fun t ht => ?_, HK3.out⟩
          by_cases e : t = j
          · rw [e]; exact HBG.out
          · exact HJ.out.1 t (by omega)
        case measure => simp [intOf]; omega
    · have hlt' : ¬ (j : Int) < n := by omega
      go_wp2_with fail
      go_ret
      have := idxV_none (g := fun v => decide (v.id = 0)) (vs := vs) (fun t ht => HJ.out.1 t (by have := H.out.1; omega))
      exact ⟨by rw [this]; rfl, HJ.out.2⟩
/-- is one gone? -/
def goneB (vs : List Ver) : Bool := vs.any fun v => decide (v.id = 0)
theorem gone_idx (vs : List Ver) : decide (0 ≤ idxV (fun v => decide (v.id = 0)) vs) = goneB vs := by
  unfold goneB
  rcases idxV_cases (fun v => decide (v.id = 0)) vs with ⟨e, h⟩ | ⟨k, hk, e, h⟩
  · rw [e]
    symm
    rw [show decide ((0 : Int) ≤ -1) = false from rfl, List.any_eq_false]
    intro v hv
    rw [h v hv]; simp
  · rw [e, decide_eq_true (by omega)]
    symm
    rw [List.any_eq_true]
    exact ⟨_, getD_mem_lt v0 hk, h⟩
set_option maxRecDepth 10000 in
theorem containsG_any (w : World) (o : Option Addr) (n c : Nat) (rs : List RV) (vs : List Ver) (hn : n = vs.length) (hl : vs.length ≤ 1024) (hv : Vers w o c rs vs) :
    Calls Try.prog 50 #[.slice o n c, .func (.func 51) #[] #[]] w fun e w' => e = .returned (.bool (goneB vs)) ∧ Keeps no w w' := by
  have HX := indexG_any w o n c rs vs hn hl hv
  rw [← gone_idx vs]
  generalize idxV (fun v => decide (v.id = 0)) vs = I at HX ⊢
  have HX : Hid _ := HX
  clear hn hl hv
  obtain ⟨b, hb⟩ : ∃ b, b = decide (0 ≤ I) := ⟨_, rfl⟩
  rw [← hb]
  by_cases h0 : 0 ≤ I
  · rw [decide_eq_true h0] at hb
    subst hb
    go_enter Try.func50, Try.ntmps50
    go_wp2_with fail
    refine Calls.mono HX.out ?_
    rintro e w1 ⟨rfl, hk⟩
    go_wp2_with fail
    go_ret
    exact ⟨rfl, hk⟩
  · rw [decide_eq_false h0] at hb
    subst hb
    go_enter Try.func50, Try.ntmps50
    go_wp2_with fail
    refine Calls.mono HX.out ?_
    rintro e w1 ⟨rfl, hk⟩
    go_wp2_with fail
    go_ret
    exact ⟨congrArg (fun b => Ending.returned (.bool b)) (decide_eq_false (by omega)), hk⟩
end Go.Proofs.Ytileipnoiocdlaa

import Derived.Test.YtdemoghlibnooaaGreatDoorR1
import Derived.Deep.RegionHeld3
namespace Go.Proofs.YtdemoghlibnooaaGreatDoor
open Go.RowKit Go.Sort Orl Pk
set_option linter.unusedVariables false
set_option linter.unusedSimpArgs false
set_option linter.unusedVariables false
set_option linter.unusedSimpArgs false
theorem ctext_len (b : List Nat) (most : Int) : (ctext b most).1.length ≤ most.toNat := by
  unfold ctext
  have := ccount_le b most
  generalize ccount b most = c at this
  obtain ⟨n, r, e⟩ := c
  simp only at this ⊢
  split
  · simp
  · split
    · simp
    · simp only [List.length_take]; omega
theorem ctextsN_len (most : Int) : ∀ (n : Nat) (b : List Nat), (ctextsN n b most).1.length ≤ n ∧ ∀ s ∈ (ctextsN n b most).1, s.length ≤ most.toNat
  | 0, b => by simp [ctextsN]
  | n + 1, b => by
    unfold ctextsN
    have t1 := ctext_len b most
    generalize ctext b most = c at t1
    obtain ⟨s, r, e⟩ := c
    simp only at t1 ⊢
    split
    · simp
    · have ih := ctextsN_len most n r
      generalize ctextsN n r most = d at ih
      obtain ⟨l, r', e'⟩ := d
      simp only at ih ⊢
      split
      · simp
      · refine ⟨by simp only [List.length_cons]; omega, ?_⟩
        intro x hx
        rcases List.mem_cons.1 hx with rfl | hx
        · exact t1
        · exact ih.2 x hx
theorem ctexts_len (b : List Nat) (count most : Int) : (ctexts b count most).1.length ≤ count.toNat ∧ ∀ s ∈ (ctexts b count most).1, s.length ≤ most.toNat := by
  unfold ctexts
  have t1 := ccount_le b count
  generalize ccount b count = c at t1
  obtain ⟨n, r, e⟩ := c
  simp only at t1 ⊢
  split
  · simp
  · have ih := ctextsN_len most n r
    generalize ctextsN n r most = d at ih
    obtain ⟨l, r', e'⟩ := d
    simp only at ih ⊢
    split
    · simp
    · exact ⟨by simp only; omega, ih.2⟩
theorem rkeys_txs (st : RS) : Txs (rkeys st).1 := by
  obtain ⟨b, e⟩ := st
  have hx : (rtexts 1024 65535 (b, e)).1.length ≤ 1024 ∧ ∀ s ∈ (rtexts 1024 65535 (b, e)).1, s.length ≤ 65535 := by
    unfold rtexts
    split
    · simp
    · have := ctexts_len b 1024 65535
      generalize ctexts b 1024 65535 = d at this
      obtain ⟨l, r', e'⟩ := d
      simp only at this ⊢
      split
      · simp
      · exact this
  unfold rkeys
  refine ⟨by simp only [List.length_map]; exact hx.1, ?_⟩
  intro s hs
  simp only [List.mem_map] at hs
  obtain ⟨l, hl, rfl⟩ := hs
  rw [text_size]; exact hx.2 l hl
theorem rmany_memW {α : Type} (f : RS → α × RS) (P : α → Prop) (h : ∀ st, P (f st).1) : ∀ (n : Nat) (st : RS), ∀ x ∈ (rmany f n st).1, P x
  | 0, st, x, hx => by simp [rmany] at hx
  | n + 1, st, x, hx => by
    simp only [rmany, List.mem_append, List.mem_singleton] at hx
    rcases hx with hx | rfl
    · exact rmany_memW f P h n st x hx
    · exact h _
theorem tsz (st : RS) : (text (rtext 65535 st).1).size ≤ 65535 := by rw [text_size]; exact rtext_len 65535 st
theorem rpairs_fit (st : RS) : (rpairs st).1.length ≤ 1024 ∧ ∀ p ∈ (rpairs st).1, p.1.size ≤ 65535 ∧ p.2.size ≤ 65535 := by
  unfold rpairs
  refine ⟨by rw [rmany_length]; exact rcount_le 1024 st, ?_⟩
  exact rmany_memW rpair (fun p => p.1.size ≤ 65535 ∧ p.2.size ≤ 65535) (fun st => ⟨tsz _, tsz _⟩) _ _
theorem num8_lt (st : RS) (hb : Byt st) : (rnum 8 st).1 < 18446744073709551616 := by
  have := rnum_lt 8 st.1 st.2 hb
  omega
theorem fitR_of {r : Rec} (h1 : Txs r.keys) (h2 : r.pairs.length ≤ 1024 ∧ ∀ p ∈ r.pairs, p.1.size ≤ 65535 ∧ p.2.size ≤ 65535) (h3 : 0 ≤ r.kind ∧ r.kind ≤ 255) (h4 : r.id < 18446744073709551616) : FitR r :=
  ⟨by have := h1.1; omega, fun s hs => by have := h1.2 s hs; omega, by omega, fun p hp => by have := h2.2 p hp; omega, by omega, by omega, h4⟩
theorem txs_nil : Txs [] := ⟨by simp, fun s hs => by cases hs⟩
theorem rrec_fit (b : List Nat) (hb : ∀ c ∈ b, c < 256) : FitR (rrec b).1 := by
  have hk : (rnum 1 (b, 0)).1 < 256 := by have := rnum_lt 1 b 0 hb; omega
  have hi := num8_lt (rnum 1 (b, 0)).2 ((rnum_stp 1 (b, 0)).1 hb)
  unfold rrec
  split
  · exact fitR_of (rkeys_txs _) (rpairs_fit _) (by simp only; omega) hi
  · exact fitR_of txs_nil ⟨by simp, fun p hp => by cases hp⟩ (by simp only; omega) hi
set_option maxRecDepth 10000 in
theorem readPairs_any {w w1 : World} {a : Nat} {o : Option Addr} {st : RS} (h : RStep 274 w a o st w1) (hlt : a < w.heap.size ∧ ∀ k, inO o k → k < w.heap.size) :
    Calls Tryz.prog 241 #[.pointer (some ⟨a, 0, none⟩)] w1 fun e w2 => (∃ oo n c, e = .returned (.slice oo n c) ∧ Hid (n = (rpairs st).1.length) ∧ Own PE w2 oo c (rpairs st).1 ∧ New w1 oo) ∧ RStep 274 w a o (rpairs st).2 w2 ∧ Keeps (eqA a) w1 w2 := by
  have HLT : Hid (a < w.heap.size ∧ ∀ k, inO o k → k < w.heap.size) := hlt
  clear hlt
  have hws : w.heap.size ≤ w1.heap.size := h.keeps.size
  have haw : a < w1.heap.size := by have := HLT.out.1; omega
  go_enter Tryz.func241, Tryz.ntmps241
  go_wp2_with fail
  refine (rsCount h).mono ?_
  rintro e w2 ⟨⟨N, rfl, HN, hN⟩, h2, hk2⟩
  generalize hS0 : (rcount 1024 st).2 = S0 at h2
  have HS0 : Hid ((rcount 1024 st).2 = S0) := hS0
  clear hS0
  have HP : Hid (rpairs st = rmany rpair N S0) := by show _ = _; unfold rpairs; rw [HS0.out, ← HN.out]
  go_wp2_with fail
  go_loopw [3, 6] (fun s i wr => ∃ k : Nat, ∃ oo mo co, k ≤ N ∧ i = .int .i64 k ∧ s = .slice oo mo co ∧ Hid (mo = k) ∧ Own PE wr oo co (rmany rpair k S0).1 ∧ New w1 oo ∧ Hid (RStep 274 w a o (rmany rpair k S0).2 wr) ∧ Keeps (eqA a) w1 wr) (fun _ i _ => N - (intOf i).toNat)
  case atStart => exact ⟨0, none, 0, 0, by omega, rfl, rfl, rfl, own_nil _, new_none _, h2, hk2⟩
  case round =>
    obtain ⟨k, oo, mo, co, hk, rfl, rfl, HMO, hown, hnew, HR, hkp⟩ := hrel
    by_cases h2 : k < N
    · have HL : Hid (rmany rpair (k + 1) S0 = ((rmany rpair k S0).1 ++ [(rpair (rmany rpair k S0).2).1], (rpair (rmany rpair k S0).2).2)) := rfl
      have HLen : Hid ((rmany rpair k S0).1.length = k) := rmany_length _ _ _
      generalize (rmany rpair k S0).1 = L at hown HL HLen
      generalize (rmany rpair k S0).2 = S at HR HL
      have hmo : mo ≤ 1024 := by have := HMO.out; omega
      go_wp2_with fail
      refine (rsText HR.out).mono ?_
      rintro e w3 ⟨⟨s1, rfl, hs1⟩, h3, hk3⟩
      go_wp2_with fail
      refine (rsText h3).mono ?_
      rintro e w4 ⟨⟨s2, rfl, hs2⟩, h4, hk4⟩
      have hk14 := (hk3.trans hk4)
      have HO4 : Hid (Own PE w4 oo co L) := hown.keeps hk14 (fun j hj e => by have := hnew j hj; unfold eqA at e; omega)
      have HML : Hid (mo = L.length ∧ L.length ≤ 1024) := ⟨by rw [HLen.out]; exact HMO.out, by rw [HLen.out]; omega⟩
      have HK4 : Hid (Keeps (eqA a) w1 w4) := hkp.trans hk14
      have H4 : Hid (RStep 274 w a o (rtext 65535 (rtext 65535 S).2).2 w4) := h4
      clear hown hk3 hk4 hk14 h3 h4 HLen
      go_wp2_with (at_builtin; go_must (refine wpList_app okP rfl _ _ rfl _ _ _ L rfl HML.out.1 (HO4.out.keepsN ((Keeps.refl _ _).alloc _)) _ _ _ [(s1, s2)] rfl rfl (fun h => by cases h) (own_oneP _ s1 s2).row (by have := HML.out; simp [PE]; omega) (by have := HML.out; simp; omega) ?_); intro o' c' w' ho hap)
      go_roundw
      case rel =>
        have hx : New w1 o' ∧ Keeps (eqA a) w1 w' := by
          rcases hap with ⟨rfl, hh⟩ | ⟨⟨g, rfl, hg⟩, hh⟩
          · exact ⟨hnew, (HK4.out.alloc _).then hh (fun i hi => .inr (hnew i hi))⟩
          · exact ⟨new_fresh _ _ (Nat.le_trans HK4.out.size (Nat.le_trans (by simp) hg)) _, (HK4.out.alloc _).then hh (fun i hi => hi.elim)⟩
        have hy : RStep 274 w a o (rtext 65535 (rtext 65535 S).2).2 w' := by
          have := H4.out.beside (.inr HLT.out) ((Keeps.refl no _).alloc (.cells #[.string s1, .string s2] 85)) (fun i hi => hi.elim)
          rcases hap with ⟨_, hh⟩ | ⟨_, hh⟩
          · exact this.beside (.inr HLT.out) hh (fun i hi => Nat.le_trans hws (hnew i hi))
          · exact this.beside (.inr HLT.out) hh (fun i hi => hi.elim)
        refine ⟨k + 1, o', _, c', by omega, by go_num, rfl, (by have := HMO.out; show _ = _; omega), ?_, hx.1, ?_, hx.2⟩
        · rw [HL.out]; simp only; unfold rpair; rw [← hs1.out, ← hs2.out]; exact ho
        · rw [HL.out]; exact hy
      case measure => simp [intOf]; omega
    · have hkn : k = N := by omega
      go_wp2
      go_ret
      rw [hkn] at hown
      have hR := HR.out
      rw [hkn] at hR
      refine ⟨⟨oo, mo, co, rfl, ?_, ?_, hnew⟩, ?_, hkp⟩
      · show _ = _; rw [HP.out, rmany_length, HMO.out, hkn]
      · rw [HP.out]; exact hown
      · rw [HP.out]; exact hR
theorem rend_rend0 (st : RS) : ((rend st.1 st.2 : Nat) : Int) = 0 ↔ rend0 st = true := by
  obtain ⟨b, e⟩ := st
  unfold rend rend0
  rw [decide_eq_true_eq]
  simp only
  by_cases he : e = 0
  · subst he
    cases b with
    | nil => simp
    | cons x l => simp
  · simp [he]
theorem rsEnd {w w1 : World} {a : Nat} {o : Option Addr} {st : RS} (h : RStep 274 w a o st w1) :
    Calls Tryz.prog 157 #[.pointer (some ⟨a, 0, none⟩)] w1 fun e w2 => e = .returned (.int .i64 (rend st.1 st.2 : Nat)) ∧ w2 = w1 := by
  obtain ⟨o1, c1, hR, hS, hK⟩ := h
  exact rEnd_any w1 a o1 c1 st.1 st.2 hR
theorem loadRd {w : World} {g : Nat} {a0 a1 a2 a3 : Value} (h : w.heap[g]? = some (.cells #[a0, a1, a2, a3] 47 (0, 0))) : (loadVar 47 ⟨g, 0, none⟩).run Tryz.prog w.drew = .ok (.agg #[a0, a1, a2, a3]) w.drew := loadR (w := w.drew) h
structure Got (w w' : World) (v : CV) (r : Rec) : Prop where
  k : v.k = r.kind
  i : v.i = r.id
  np : v.np = r.pairs.length
  nk : v.nk = r.keys.length
  ps : Own PE w' v.op v.cp r.pairs
  ks : Own TE w' v.ok v.ck r.keys
  pn : New w v.op
  kn : New w v.ok
  fit : FitR r
theorem Got.isC {w w' : World} {v : CV} {r : Rec} (h : Got w w' v r) : IsC w' v r := ⟨h.k, h.i, h.np, h.nk, h.ps.sl, h.ks.sl, h.fit⟩
theorem Got.keeps {S : Nat → Prop} {w w' w'' : World} {v : CV} {r : Rec} (h : Got w w' v r) (hk : Keeps S w' w'') (hS : ∀ j, S j → j < w.heap.size) : Got w w'' v r :=
  ⟨h.k, h.i, h.np, h.nk, h.ps.keeps hk (fun j hj hs => by have := h.pn j hj; have := hS j hs; omega), h.ks.keeps hk (fun j hj hs => by have := h.kn j hj; have := hS j hs; omega), h.pn, h.kn, h.fit⟩
theorem Got.keepsN {w w' w'' : World} {v : CV} {r : Rec} (h : Got w w' v r) (hk : Keeps no w' w'') : Got w w'' v r := h.keeps hk (fun _ h => h.elim)
theorem Got.of_le {w0 w w' : World} {v : CV} {r : Rec} (h : Got w w' v r) (hl : w0.heap.size ≤ w.heap.size) : Got w0 w' v r :=
  ⟨h.k, h.i, h.np, h.nk, h.ps, h.ks, h.pn.of_le hl, h.kn.of_le hl, h.fit⟩
structure RdS (w : World) (a B M : Nat) (o : Option Addr) (cs : Array Value) (st : RS) (W : World) : Prop where
  m : W.heap[M]? = some (.cells cs 47 (0, 0))
  b : W.heap[B]? = some (.cells #[.int .i64 0, .int .u64 0, .slice none 0 0, .slice none 0 0] 47 (0, 0))
  r : RStep 274 w a o st W
  k : Keeps (eqA a) w W
  lt : (a < w.heap.size ∧ ∀ k, inO o k → k < w.heap.size) ∧ a < B ∧ B = w.heap.size ∧ B < M
theorem RdS.size {w : World} {a B M : Nat} {o : Option Addr} {cs : Array Value} {st : RS} {W : World} (h : RdS w a B M o cs st W) : M < W.heap.size := lt_of_block h.m
theorem RdS.call {w : World} {a B M : Nat} {o : Option Addr} {cs : Array Value} {st st' : RS} {W W' : World} (h : RdS w a B M o cs st W) (r : RStep 274 w a o st' W') (k : Keeps (eqA a) W W') : RdS w a B M o cs st' W' :=
  have := h.lt
  ⟨k.at h.m (by unfold eqA; omega), k.at h.b (by unfold eqA; omega), r, h.k.trans k, h.lt⟩
theorem RdS.store {w : World} {a B M : Nat} {o : Option Addr} {cs : Array Value} {st : RS} {W : World} (h : RdS w a B M o cs st W) (i : Nat) (v : Value) : RdS w a B M o (cs.setIfInBounds i v) st (W.setCell ⟨M, i, none⟩ v) := by
  have hl := h.lt
  have kS : Keeps (eqA M) W (W.setCell ⟨M, i, none⟩ v) := (Keeps.refl (eqA M) W).setA i v
  exact ⟨blk_set h.m i v, kS.at h.b (by unfold eqA; omega), h.r.beside (.inr h.lt.1) kS (fun j hj => by unfold eqA at hj; omega), h.k.then kS (fun j hj => .inr (by unfold eqA at hj; omega)), h.lt⟩
theorem Own.call {α : Type} {E : El α} {w W W' : World} {a B M : Nat} {o : Option Addr} {cs : Array Value} {st : RS} (h : RdS w a B M o cs st W) {oo : Option Addr} {c : Nat} {l : List α} (hO : Own E W oo c l) (hN : ∀ j, inO oo j → M < j) (k : Keeps (eqA a) W W') : Own E W' oo c l :=
  hO.keeps k (fun j hj e => by have := hN j hj; have := h.lt; unfold eqA at e; omega)
theorem Own.store {α : Type} {E : El α} {w W : World} {a B M : Nat} {o : Option Addr} {cs : Array Value} {st : RS} (h : RdS w a B M o cs st W) {oo : Option Addr} {c : Nat} {l : List α} (hO : Own E W oo c l) (hN : ∀ j, inO oo j → M < j) (i : Nat) (v : Value) : Own E (W.setCell ⟨M, i, none⟩ v) oo c l :=
  hO.keeps ((Keeps.refl (eqA M) W).setA i v) (fun j hj e => by have := hN j hj; unfold eqA at e; omega)
def ReadTo (w : World) (a : Nat) (R : Rec × RS) (e : Ending) (w' : World) : Prop :=
  ∃ (k : Int) (i : Nat) (op : Option Addr) (np cp : Nat) (ok : Option Addr) (nk ck : Nat), e = .returned (.tuple #[.agg #[.int .i64 k, .int .u64 (i : Nat), .slice op np cp, .slice ok nk ck], .bool (rend0 R.2)]) ∧ Hid (Got w w' ⟨k, i, op, np, cp, ok, nk, ck⟩ R.1) ∧ Keeps (eqA a) w w'
theorem readTo_mk {w W W' : World} {a B M : Nat} {o : Option Addr} {cs : Array Value} {st : RS} {R : Rec × RS} {k : Int} {i : Nat} {op : Option Addr} {np cp : Nat} {ok : Option Addr} {nk ck : Nat}
    (h : RdS w a B M o cs st W) (hst : R.2 = st) (h1 : k = R.1.kind ∧ i = R.1.id ∧ np = R.1.pairs.length ∧ nk = R.1.keys.length) (hp : Own PE W op cp R.1.pairs) (hk : Own TE W ok ck R.1.keys) (np' : ∀ j, inO op j → M < j) (nk' : ∀ j, inO ok j → M < j) (hf : FitR R.1) (kS : Keeps (eqA B) W W') :
    ReadTo w a R (.returned (.tuple #[.agg #[.int .i64 k, .int .u64 (i : Nat), .slice op np cp, .slice ok nk ck], .bool (((rend st.1 st.2 : Nat) : Int) == 0)])) W' := by
  have hl := h.lt
  refine ⟨k, i, op, np, cp, ok, nk, ck, ?_, ?_, ?_⟩
  · have : (((rend st.1 st.2 : Nat) : Int) == 0) = rend0 R.2 := by
      rw [hst, Bool.eq_iff_iff]
      have := rend_rend0 st
      rw [← this]
      simp
    rw [this]
  · exact ⟨h1.1, h1.2.1, h1.2.2.1, h1.2.2.2, hp.keeps kS (fun j hj e => by have := np' j hj; unfold eqA at e; omega), hk.keeps kS (fun j hj e => by have := nk' j hj; unfold eqA at e; omega), fun j hj => by have := np' j hj; omega, fun j hj => by have := nk' j hj; omega, hf⟩
  · exact h.k.then kS (fun j hj => .inr (by unfold eqA at hj; omega))
set_option maxRecDepth 10000 in
set_option maxHeartbeats 2000000 in
theorem read_anyW (w : World) (a : Nat) (o : Option Addr) (c : Nat) (b : List Nat) (hR : IsR 274 w a o c b 0) :
    Calls Tryz.prog 191 #[.pointer (some ⟨a, 0, none⟩)] w (ReadTo w a (rrec b)) := by
  have HLT : Hid (a < w.heap.size ∧ ∀ k, inO o k → k < w.heap.size) := ⟨lt_of_block hR.blk, hR.live⟩
  have HFIT : Hid (FitR (rrec b).1) := rrec_fit b hR.sl.row.1
  have haw := HLT.out.1
  obtain ⟨R, hRR⟩ : ∃ R, R = rrec b := ⟨_, rfl⟩
  have HRR : Hid (R = rrec b) := hRR
  rw [← hRR] at HFIT ⊢
  clear hRR
  have kB : Keeps (eqA a) w (w.alloc (.cells #[.int .i64 0, .int .u64 0, .slice none 0 0, .slice none 0 0] 47)) := (Keeps.refl _ _).alloc _
  have h0 := (RStep.start hR).beside (.inr HLT.out) ((Keeps.refl no w).alloc (.cells #[.int .i64 0, .int .u64 0, .slice none 0 0, .slice none 0 0] 47)) (fun i hi => hi.elim)
  clear hR
  go_enter Tryz.func191, Tryz.ntmps191
  go_wp2_with fail
  refine (rsU8 h0).mono ?_
  rintro e w1 ⟨⟨K, rfl, hK, hKb⟩, h1, hk1⟩
  go_wp2_with fail
  refine (rsU64 h1).mono ?_
  rintro e w2 ⟨⟨I, rfl, hI, hIb⟩, h2, hk2⟩
  have hk12 := hk1.trans hk2
  have hB2 : w2.heap[w.heap.size]? = some (.cells #[.int .i64 0, .int .u64 0, .slice none 0 0, .slice none 0 0] 47 (0, 0)) := hk12.at (blk_new w _) (by unfold eqA; omega)
  have hsz2 : w.heap.size + 1 ≤ w2.heap.size := by have := hk12.size; simpa using this
  have k4 : Keeps no w2 (w2.alloc (.cells #[.int .i64 (K : Nat), .int .u64 (I : Nat), .slice none 0 0, .slice none 0 0] 47)) := (Keeps.refl _ _).alloc _
  have HS : Hid (RdS w a w.heap.size w2.heap.size o #[.int .i64 (K : Nat), .int .u64 (I : Nat), .slice none 0 0, .slice none 0 0] (rnum 8 (rnum 1 (b, 0)).2).2 (w2.alloc (.cells #[.int .i64 (K : Nat), .int .u64 (I : Nat), .slice none 0 0, .slice none 0 0] 47))) :=
    ⟨blk_new w2 _, blk_alloc hB2 _, h2.beside (.inr HLT.out) k4 (fun i hi => hi.elim), (kB.trans hk12).alloc _, HLT.out, haw, rfl, by omega⟩
  have HRK : Hid (K = (rnum 1 (b, 0)).1 ∧ I = (rnum 8 (rnum 1 (b, 0)).2).1) := ⟨hK.out, hI.out⟩
  have HR0 : Hid (R = rrec b) := HRR
  generalize hSS : (rnum 8 (rnum 1 (b, 0)).2).2 = S at HS
  have HSS : Hid ((rnum 8 (rnum 1 (b, 0)).2).2 = S) := hSS
  obtain ⟨M, hM⟩ : ∃ M, M = w2.heap.size := ⟨_, rfl⟩
  obtain ⟨B, hB⟩ : ∃ B, B = w.heap.size := ⟨_, rfl⟩
  have HME : Hid (M = w2.heap.size) := hM
  rw [← hM, ← hB] at HS
  rw [← hB]
  clear hSS hM hB hB2 hk12 hk1 hk2 h1 h2 h0 hK hI kB k4 hsz2
  by_cases h1 : K = 1
  · subst h1
    have HR : Hid (R = (⟨1, I, (rpairs S).1, (rkeys (rpairs S).2).1⟩, (rkeys (rpairs S).2).2)) := by
      show _ = _
      rw [HR0.out]; unfold rrec
      rw [if_pos HRK.out.1.symm, ← HRK.out.1, ← HRK.out.2, HSS.out]; rfl
    obtain ⟨x0, x1, x2, x3⟩ := cells4W HS.out.m
    rw [HME.out] at x0 x1 x2 x3
    go_wp2_with fail
    refine (readPairs_any HS.out.r HLT.out).mono ?_
    rintro e w5 ⟨⟨op, np, cp, rfl, hnp, hownp, hnewp⟩, h5, hk5⟩
    have hMs := HS.out.size
    have H5 : Hid _ := HS.out.call h5 hk5
    have H6 : Hid _ := H5.out.store 2 (.slice op np cp)
    have HNp : Hid (∀ j, inO op j → M < j) := fun j hj => by have := hnewp j hj; omega
    have HOp : Hid (Own PE (w5.setCell ⟨M, 2, none⟩ (.slice op np cp)) op cp (rpairs S).1) := Own.store H5.out hownp HNp.out 2 _
    clear x0 x1 x2 x3
    obtain ⟨x0, x1, x2, x3⟩ := cells4W H5.out.m
    have f2 := frozen_of_blk H5.out.m 2
    rw [← HME.out]
    go_wp2_with fail
    generalize w5.setCell ⟨M, 2, none⟩ (.slice op np cp) = W7 at H6 HOp ⊢
    clear x0 x1 x2 x3 f2
    have hF7 := H6.out.size
    refine (rsTexts H6.out.r).mono ?_
    rintro e w8 ⟨⟨ok, nk, ck, rfl, hnk, hownk, hnewk⟩, h8, hk8⟩
    have H8 : Hid _ := H6.out.call h8 hk8
    have H9 : Hid _ := H8.out.store 3 (.slice ok nk ck)
    have HNk : Hid (∀ j, inO ok j → M < j) := fun j hj => by have := hnewk j hj; omega
    have HOk : Hid (Own TE (w8.setCell ⟨M, 3, none⟩ (.slice ok nk ck)) ok ck (rkeys (rpairs S).2).1) := Own.store H8.out hownk HNk.out 3 _
    have HOp2 : Hid (Own PE (w8.setCell ⟨M, 3, none⟩ (.slice ok nk ck)) op cp (rpairs S).1) := Own.store H8.out (Own.call H6.out HOp.out HNp.out hk8) HNp.out 3 _
    obtain ⟨x0, x1, x2, x3⟩ := cells4W H8.out.m
    have f3 := frozen_of_blk H8.out.m 3
    go_wp2_with fail
    generalize w8.setCell ⟨M, 3, none⟩ (.slice ok nk ck) = W at H9 HOk HOp2 ⊢
    clear x0 x1 x2 x3 f3
    obtain ⟨x0, x1, x2, x3⟩ := cells4W H9.out.m
    obtain ⟨y0, y1, y2, y3⟩ := cells4W H9.out.b
    have f0 := frozen_of_blk H9.out.b 0
    have f1 := frozen_of_blk H9.out.b 1
    have f2 := frozen_of_blk H9.out.b 2
    have f3 := frozen_of_blk H9.out.b 3
    have hne1 : ¬ M = B := by have := H9.out.lt; omega
    have hne2 : ¬ B = M := by have := H9.out.lt; omega
    go_region_held3 (fun w' => w'.cell? ⟨M, 0, none⟩ = some (.int .i64 ((1 : Nat) : Int)) ∧ w'.cell? ⟨M, 1, none⟩ = some (.int .u64 (I : Nat)) ∧ w'.cell? ⟨M, 2, none⟩ = some (.slice op np cp) ∧ w'.cell? ⟨M, 3, none⟩ = some (.slice ok nk ck)) (go_keep) ((go_at_call 157; refine (rsEnd (H9.out.r.beside (.inr HLT.out) (Keeps.refl no W).drew (fun i hi => hi.elim))).mono ?_; rintro e w9 ⟨rfl, h9⟩; subst w9))
    go_wp2_with fail
    (try simp only [Exit.inBlock, Exit.then])
    have hs4 := set4W H9.out.b (.int .i64 ((1 : Nat) : Int)) (.int .u64 (I : Nat)) (.slice op np cp) (.slice ok nk ck)
    refine bodyPost_ret (results_row2 rfl _ _ B _ rfl (loadRd hs4.1)) rfl ?_
    refine readTo_mk H9.out (by rw [HR.out]) ?_ ?_ ?_ HNp.out HNk.out HFIT.out hs4.2.drew
    · rw [HR.out]; exact ⟨rfl, rfl, hnp.out, hnk.out⟩
    · rw [HR.out]; exact HOp2.out
    · rw [HR.out]; exact HOk.out
  · have HR : Hid (R = (⟨(K : Nat), I, [], []⟩, S)) := by
      show _ = _
      rw [HR0.out]; unfold rrec
      rw [if_neg (by rw [← HRK.out.1]; exact h1), ← HRK.out.1, ← HRK.out.2, HSS.out]
    have h1b : ((K : Int) == 1) = false := by simp; omega
    have h1c : ¬ (K : Int) = 1 := by omega
    obtain ⟨x0, x1, x2, x3⟩ := cells4W HS.out.m
    rw [HME.out] at x0 x1 x2 x3
    go_wp2_with fail
    rw [← HME.out] at x0 x1 x2 x3 ⊢
    generalize w2.alloc (.cells #[.int .i64 (K : Nat), .int .u64 (I : Nat), .slice none 0 0, .slice none 0 0] 47) = W at HS x0 x1 x2 x3 ⊢
    obtain ⟨y0, y1, y2, y3⟩ := cells4W HS.out.b
    have f0 := frozen_of_blk HS.out.b 0
    have f1 := frozen_of_blk HS.out.b 1
    have f2 := frozen_of_blk HS.out.b 2
    have f3 := frozen_of_blk HS.out.b 3
    have hne1 : ¬ M = B := by have := HS.out.lt; omega
    have hne2 : ¬ B = M := by have := HS.out.lt; omega
    go_region_held3 (fun w' => w'.cell? ⟨M, 0, none⟩ = some (.int .i64 (K : Nat)) ∧ w'.cell? ⟨M, 1, none⟩ = some (.int .u64 (I : Nat)) ∧ w'.cell? ⟨M, 2, none⟩ = some (.slice none 0 0) ∧ w'.cell? ⟨M, 3, none⟩ = some (.slice none 0 0)) (go_keep) ((go_at_call 157; refine (rsEnd (HS.out.r.beside (.inr HLT.out) (Keeps.refl no W).drew (fun i hi => hi.elim))).mono ?_; rintro e w9 ⟨rfl, h9⟩; subst w9))
    go_wp2_with fail
    (try simp only [Exit.inBlock, Exit.then])
    have hs4 := set4W HS.out.b (.int .i64 (K : Nat)) (.int .u64 (I : Nat)) (.slice none 0 0) (.slice none 0 0)
    refine bodyPost_ret (results_row2 rfl _ _ B _ rfl (loadRd hs4.1)) rfl ?_
    refine readTo_mk HS.out (by rw [HR.out]) ?_ ?_ ?_ (fun j hj => by obtain ⟨x, e, _⟩ := hj; cases e) (fun j hj => by obtain ⟨x, e, _⟩ := hj; cases e) HFIT.out hs4.2.drew
    · rw [HR.out]; exact ⟨rfl, rfl, rfl, rfl⟩
    · rw [HR.out]; exact own_nil _
    · rw [HR.out]; exact own_nil _
end Go.Proofs.YtdemoghlibnooaaGreatDoor
namespace Go.Proofs.YtdemoghlibnooaaGreatDoor
open Go.RowKit Go.Sort Orl Pk
set_option linter.unusedVariables false
set_option linter.unusedSimpArgs false
theorem rsU32 {w w1 : World} {a : Nat} {o : Option Addr} {st : RS} (h : RStep 274 w a o st w1) :
    Calls Tryz.prog 192 #[.pointer (some ⟨a, 0, none⟩)] w1 fun e w2 => (∃ v : Nat, e = .returned (.int .u32 (v : Nat)) ∧ Hid (v = (rnum 4 st).1) ∧ v < 4294967296) ∧ RStep 274 w a o (rnum 4 st).2 w2 ∧ Keeps (eqA a) w1 w2 := by
  have hb := h.byt
  obtain ⟨o1, c1, hR, hS, hK⟩ := h
  refine (rU32_any w1 a o1 c1 st.1 st.2 hR).mono ?_
  rintro e w2 ⟨rfl, h2⟩
  exact ⟨⟨_, rfl, rfl, by have := rnum_lt 4 st.1 st.2 hb; omega⟩, h2.trans hS hK, h2.keeps⟩
theorem head_nums (b : List Nat) (h : 8 ≤ b.length) : (rnum 4 (b.take 8, 0)).1 = Pk.val (b.take 4) ∧ (rnum 4 (rnum 4 (b.take 8, 0)).2).1 = chk b := by
  have e1 : rnum 4 (b.take 8, 0) = (Pk.val ((b.take 8).take 4), ((b.take 8).drop 4, 0)) := by
    unfold rnum
    rw [if_neg (by simp), if_neg (by rw [List.length_take]; omega)]
  have e2 : rnum 4 ((b.take 8).drop 4, 0) = (Pk.val (((b.take 8).drop 4).take 4), (((b.take 8).drop 4).drop 4, 0)) := by
    unfold rnum
    rw [if_neg (by simp), if_neg (by rw [List.length_drop, List.length_take]; omega)]
  rw [e1]
  simp only
  rw [e2]
  simp only
  refine ⟨by rw [List.take_take]; rfl, ?_⟩
  unfold chk
  rw [List.drop_take, List.take_take]; rfl
theorem cut_hk (k : IntKind) (w0 : World) (o : Option Addr) (c : Nat) (bs : List Nat) (n I : Nat) (hn : n = bs.length) (hI : I ≤ n) (h : BSl w0 o c bs) :
    (∀ w, (Instr.slice 29 (.slice o n c) none (some (.int k (I : Nat))) none).run Tryz.prog w = .ok (.slice o I c) w) ∧ BSl w0 o c (bs.take I) := by
  subst hn
  have hcap := h.cap
  match o, h with
  | none, h =>
    obtain rfl : c = 0 := h.nil rfl
    obtain rfl : I = 0 := by omega
    refine ⟨fun w => ?_, ⟨h.row.take 0, by simp, fun _ => rfl⟩⟩
    rw [run_slice_h w 29 none _ 0 slB k _ (by omega) (by omega)]
    go_simp
  | some ad, h =>
    refine ⟨fun w => ?_, ⟨h.row.take I, by rw [List.length_take]; omega, h.nil⟩⟩
    rw [run_slice_h w 29 (some ad) _ c slB k _ (by omega) (by omega)]
    go_simp
theorem parse_short {b : List Nat} (h : b.length < 8) : parse b = (c0, 0, 91) := by unfold parse; rw [if_pos h]
theorem parse_long {b : List Nat} (h : 8 ≤ b.length) (hv : 1048576 < Pk.val (b.take 4)) : parse b = (c0, 0, 3) := by unfold parse; rw [if_neg (by omega), if_pos hv]
theorem parse_torn {b : List Nat} (h : 8 ≤ b.length) (hv : Pk.val (b.take 4) ≤ 1048576) (hl : b.length - 8 < Pk.val (b.take 4)) : parse b = (c0, 0, 91) := by unfold parse; rw [if_neg (by omega), if_neg (by omega), if_pos hl]
theorem parse_sum {b : List Nat} (h : 8 ≤ b.length) (hv : Pk.val (b.take 4) ≤ 1048576) (hl : Pk.val (b.take 4) ≤ b.length - 8) (hs : Crc.sum (pay b) ≠ chk b) : parse b = (c0, 0, 90) := by unfold parse; rw [if_neg (by omega), if_neg (by omega), if_neg (by omega), if_pos hs]
theorem parse_rest {b : List Nat} (h : 8 ≤ b.length) (hv : Pk.val (b.take 4) ≤ 1048576) (hl : Pk.val (b.take 4) ≤ b.length - 8) (hs : Crc.sum (pay b) = chk b) : parse b = if rok (pay b) then ((rrec (pay b)).1, 8 + (pay b).length, 0) else (c0, 0, 2) := by unfold parse; rw [if_neg (by omega), if_neg (by omega), if_neg (by omega), if_neg (by simp [hs])]
def PayTo (w : World) (b : List Nat) (e : Ending) (w' : World) : Prop :=
  Keeps no w w' ∧ ((∃ E : Nat, (0 < E ∧ E ≤ 91) ∧ parse b = (c0, 0, E) ∧ e = .returned (.tuple #[.slice none 0 0, .int .i64 (E : Nat)])) ∨
    (parse b = (if rok (pay b) then ((rrec (pay b)).1, 8 + (pay b).length, 0) else (c0, 0, 2)) ∧ (pay b).length ≤ 1048576 ∧ ∃ A n d, e = .returned (.tuple #[.slice A n d, .int .i64 0]) ∧ Hid (n = (pay b).length) ∧ BSl w' A d (pay b)))
set_option maxRecDepth 10000 in
theorem payloadOf_any (w : World) (o : Option Addr) (n c : Nat) (b : List Nat) (hn : n = b.length) (hnb : (n : Int) ≤ 281474976710656) (hs : BSl w o c b) (ht : TabIn w) :
    Calls Tryz.prog 190 #[.slice o n c] w (PayTo w b) := by
  have HN : Hid (n = b.length) := hn
  by_cases h8 : n < 8
  · have h8' : (n : Int) < 8 := by omega
    have HP : Hid (parse b = (c0, 0, 91)) := parse_short (by omega)
    clear hn
    go_enter Tryz.func190, Tryz.ntmps190
    go_wp2_with fail
    go_ret2
    exact ⟨Keeps.refl _ _, .inl ⟨91, by omega, HP.out, rfl⟩⟩
  have h8' : ¬ (n : Int) < 8 := by omega
  obtain ⟨hcut, hsl8⟩ := cut_hk .i64 w o c b n 8 hn (by omega) hs
  have HS8 : Hid (BSl w o c (b.take 8)) := hsl8
  have HL8 : Hid (8 = (b.take 8).length) := by show _ = _; rw [List.length_take]; omega
  have HB8 : Hid (8 ≤ b.length) := by show 8 ≤ b.length; omega
  obtain ⟨q1, q2⟩ := head_nums b (by omega)
  have HQ : Hid ((rnum 4 (b.take 8, 0)).1 = Pk.val (b.take 4) ∧ (rnum 4 (rnum 4 (b.take 8, 0)).2).1 = chk b) := ⟨q1, q2⟩
  obtain ⟨A, d, hcut2, hslA, _⟩ := cut_l w o c b n 8 8 rfl hn (by omega) hs
  have HSA : Hid (BSl w A d (b.drop 8)) := hslA
  obtain ⟨N8, hN8⟩ : ∃ N, N = n - 8 := ⟨_, rfl⟩
  rw [← hN8] at hcut2
  have HN8 : Hid (N8 = n - 8) := hN8
  have hN8b : (N8 : Int) ≤ 281474976710656 := by omega
  clear hn hsl8 q1 q2 hslA h8 hN8
  rw [show ((8 : Nat) : Int) = 8 from rfl] at hcut
  go_enter Tryz.func190, Tryz.ntmps190
  go_wp2_with fail
  refine (newReader_any w o 8 c (b.take 8) HL8.out HS8.out (by rw [← HL8.out]; omega)).mono ?_
  rintro e w1 ⟨a, o1, c1, rfl, hR1, hnew1, hk1⟩
  have hk1' : Keeps no w w1 := hk1
  go_wp2_with fail
  refine (rsU32 (RStep.start hR1)).mono ?_
  rintro e w2 ⟨⟨V, rfl, hV, hVb⟩, h2, hk2⟩
  go_wp2_with fail
  refine (rsU32 h2).mono ?_
  rintro e w3 ⟨⟨C, rfl, hC, hCb⟩, h3, hk3⟩
  have HV : Hid (V = Pk.val (b.take 4) ∧ C = chk b) := ⟨by rw [hV.out]; exact HQ.out.1, by rw [hC.out]; exact HQ.out.2⟩
  have HK3 : Hid (Keeps no w w3) := hk1'.then h3.keeps (fun i hi => .inr (by unfold eqA at hi; subst hi; exact hnew1 _ (.inl rfl)))
  clear hV hC h2 h3 hk1 hk2 hk3 hnew1 hR1 hk1'
  by_cases hv : 1048576 < V
  · have hv' : (V : Int) > 1048576 := by omega
    have HP : Hid (parse b = (c0, 0, 3)) := parse_long HB8.out (by rw [← HV.out.1]; exact hv)
    clear hv
    go_wp2_with fail
    go_ret2
    exact ⟨HK3.out, .inl ⟨3, by omega, HP.out, rfl⟩⟩
  have hv' : ¬ (V : Int) > 1048576 := by omega
  have hv2 : (V : Int) ≤ 1048576 := by omega
  have HVL : Hid (V ≤ 1048576) := by show V ≤ 1048576; omega
  clear hv
  by_cases hl : N8 < V
  · have hl' : (N8 : Int) < V := by omega
    have HP : Hid (parse b = (c0, 0, 91)) := parse_torn HB8.out (by rw [← HV.out.1]; exact HVL.out) (by rw [← HV.out.1, ← HN.out, ← HN8.out]; exact hl)
    clear hl
    go_wp2_with fail
    go_ret2
    exact ⟨HK3.out, .inl ⟨91, by omega, HP.out, rfl⟩⟩
  have hl' : ¬ (N8 : Int) < V := by omega
  have HLL : Hid (Pk.val (b.take 4) ≤ b.length - 8) := by show _ ≤ _; rw [← HV.out.1, ← HN.out, ← HN8.out]; omega
  obtain ⟨hcut3, hsl3⟩ := cut_hk .u32 w3 A d (b.drop 8) N8 V (by rw [List.length_drop, ← HN.out]; exact HN8.out) (by omega) (HSA.out.keeps HK3.out (fun _ _ h => h))
  have hpe : (b.drop 8).take V = pay b := by unfold pay; rw [HV.out.1]
  rw [hpe] at hsl3
  have HS3 : Hid (BSl w3 A d (pay b)) := hsl3
  have HVP : Hid (V = (pay b).length) := by
    show _ = _
    unfold pay; rw [List.length_take, List.length_drop, ← HV.out.1]
    have := HLL.out; have := HV.out.1; omega
  clear hl hsl3 hpe
  go_wp2_with fail
  refine (sum_any A V (pay b) d HVP.out w3 (ht.keepsN HK3.out) HS3.out.row).mono ?_
  rintro e w' ⟨rfl, hw'⟩
  subst w'
  have hslt : Crc.sum (pay b) < 4294967296 := Crc.update_lt 0 _ (by decide) HS3.out.row.1
  by_cases hsm : Crc.sum (pay b) = C
  · have HP : Hid (parse b = if rok (pay b) then ((rrec (pay b)).1, 8 + (pay b).length, 0) else (c0, 0, 2)) := parse_rest HB8.out (by rw [← HV.out.1]; exact HVL.out) HLL.out (by rw [hsm]; exact HV.out.2)
    rw [hsm]
    clear hsm hslt
    go_wp2_with fail
    go_ret2
    exact ⟨HK3.out, .inr ⟨HP.out, by rw [← HVP.out]; exact HVL.out, A, V, d, rfl, HVP, HS3.out⟩⟩
  · have HP : Hid (parse b = (c0, 0, 90)) := parse_sum HB8.out (by rw [← HV.out.1]; exact HVL.out) HLL.out (by rw [← HV.out.2]; exact hsm)
    generalize Crc.sum (pay b) = S at hsm hslt ⊢
    have hsm1 : ((S : Int) == (C : Int)) = false := by simp; omega
    have hsm2 : ¬ (S : Int) = (C : Int) := by omega
    clear hsm
    go_wp2_with fail
    go_ret2
    exact ⟨HK3.out, .inl ⟨90, by omega, HP.out, rfl⟩⟩
end Go.Proofs.YtdemoghlibnooaaGreatDoor
namespace Go.Proofs.YtdemoghlibnooaaGreatDoor
open Go.RowKit Go.Sort Orl Pk
set_option linter.unusedVariables false
set_option linter.unusedSimpArgs false
def ParTo (w : World) (b : List Nat) (e : Ending) (w' : World) : Prop :=
  ∃ (k : Int) (i : Nat) (op : Option Addr) (np cp : Nat) (ok : Option Addr) (nk ck m E : Nat), e = .returned (.tuple #[.agg #[.int .i64 k, .int .u64 (i : Nat), .slice op np cp, .slice ok nk ck], .int .i64 (m : Nat), .int .i64 (E : Nat)]) ∧
    Hid (Got w w' ⟨k, i, op, np, cp, ok, nk, ck⟩ (parse b).1 ∧ m = (parse b).2.1 ∧ E = (parse b).2.2) ∧ (m : Int) ≤ 1048584 ∧ (E : Int) ≤ 91 ∧ Keeps no w w'
theorem fit0 : FitR c0 := ⟨by simp [c0], fun s hs => (by cases hs), by simp [c0], fun s hs => (by cases hs), by simp [c0], by simp [c0], by simp [c0]⟩
theorem got0 (w w' : World) : Got w w' ⟨0, 0, none, 0, 0, none, 0, 0⟩ c0 := ⟨rfl, rfl, rfl, rfl, own_nil _, own_nil _, new_none _, new_none _, fit0⟩
theorem parTo_err {w w' : World} {b : List Nat} (E : Nat) (hE : parse b = (c0, 0, E)) (h91 : E ≤ 91) (hk : Keeps no w w') :
    ParTo w b (.returned (.tuple #[.agg #[.int .i64 0, .int .u64 0, .slice none 0 0, .slice none 0 0], .int .i64 0, .int .i64 (E : Nat)])) w' := by
  refine ⟨0, 0, none, 0, 0, none, 0, 0, 0, E, rfl, ?_, by omega, by omega, hk⟩
  rw [hE]
  exact ⟨got0 _ _, rfl, rfl⟩
theorem set4n {w0 w : World} {g : Nat} {z0 z1 z2 z3 : Value} {t : TypeId} (hg : w0.heap.size ≤ g) (k : Keeps no w0 w) (h : w.heap[g]? = some (.cells #[z0, z1, z2, z3] t (0, 0))) (a0 a1 a2 a3 : Value) :
    ((((w.setCell ⟨g, 0, none⟩ a0).setCell ⟨g, 1, none⟩ a1).setCell ⟨g, 2, none⟩ a2).setCell ⟨g, 3, none⟩ a3).heap[g]? = some (.cells #[a0, a1, a2, a3] t (0, 0)) ∧ Keeps no w0 ((((w.setCell ⟨g, 0, none⟩ a0).setCell ⟨g, 1, none⟩ a1).setCell ⟨g, 2, none⟩ a2).setCell ⟨g, 3, none⟩ a3) := by
  have := set4W h a0 a1 a2 a3
  exact ⟨this.1, k.then this.2 (fun i hi => .inr (by unfold eqA at hi; omega))⟩
set_option maxRecDepth 10000 in
set_option maxHeartbeats 1000000 in
theorem Parse_any (w : World) (o : Option Addr) (n c : Nat) (b : List Nat) (hn : n = b.length) (hnb : (n : Int) ≤ 281474976710656) (hs : BSl w o c b) (ht : TabIn w) :
    Calls Tryz.prog 151 #[.slice o n c] w (ParTo w b) := by
  have HN : Hid (n = b.length) := hn
  clear hn
  have kB : Keeps no w (w.alloc (.cells #[.int .i64 0, .int .u64 0, .slice none 0 0, .slice none 0 0] 47)) := (Keeps.refl _ _).alloc _
  go_enter Tryz.func151, Tryz.ntmps151
  go_wp2_with fail
  refine (payloadOf_any _ o n c b HN.out hnb (hs.keeps kB (fun _ _ h => h)) (ht.keepsN kB)).mono ?_
  rintro e w1 ⟨hk1, hp⟩
  have hB1 : w1.heap[w.heap.size]? = some (.cells #[.int .i64 0, .int .u64 0, .slice none 0 0, .slice none 0 0] 47 (0, 0)) := hk1.at (blk_new w _) (fun h => h)
  have HK1 : Hid (Keeps no w w1) := kB.trans hk1
  have HSZ : Hid (w.heap.size + 1 ≤ w1.heap.size) := by have := hk1.size; show _ ≤ _; simpa using this
  obtain ⟨B, hB⟩ : ∃ B, B = w.heap.size := ⟨_, rfl⟩
  have HB : Hid (B = w.heap.size) := hB
  rw [← hB] at hB1 ⊢
  clear hB hk1 kB
  rcases hp with ⟨E, ⟨hE0, hE91⟩, hpe, rfl⟩ | ⟨hpe, hpl, A, N, d, rfl, hNp, hslA⟩
  · have HB1 : Hid (w1.heap[B]? = some (.cells #[.int .i64 0, .int .u64 0, .slice none 0 0, .slice none 0 0] 47 (0, 0))) := hB1
    have HP : Hid (parse b = (c0, 0, E)) := hpe
    have hEn : ((E : Int) == 0) = false := by simp; omega
    have hEn2 : ¬ (E : Int) = 0 := by omega
    obtain ⟨y0, y1, y2, y3⟩ := cells4W hB1
    have f0 := frozen_of_blk hB1 0
    have f1 := frozen_of_blk hB1 1
    have f2 := frozen_of_blk hB1 2
    have f3 := frozen_of_blk hB1 3
    clear hB1 hpe
    go_wp2_with fail
    (try simp only [Exit.inBlock, Exit.then])
    have hs4 := set4n (g := B) (by have := HB.out; omega) HK1.out HB1.out (.int .i64 0) (.int .u64 0) (.slice none 0 0) (.slice none 0 0)
    refine bodyPost_ret (results_row3 rfl _ _ B _ rfl (loadR hs4.1)) rfl ?_
    exact parTo_err E HP.out (by omega) hs4.2
  · have HP : Hid (parse b = (if rok (pay b) then ((rrec (pay b)).1, 8 + (pay b).length, 0) else (c0, 0, 2))) := hpe
    have hNb : (N : Int) ≤ 1048576 := by have := hNp.out; omega
    have HB1 : Hid (w1.heap[B]? = some (.cells #[.int .i64 0, .int .u64 0, .slice none 0 0, .slice none 0 0] 47 (0, 0))) := hB1
    clear hpe hpl hB1
    go_wp2_with fail
    refine (newReader_any w1 A N d (pay b) hNp.out hslA (by have := hNp.out; omega)).mono ?_
    rintro e w2 ⟨a, o2, c2, rfl, hR2, hnew2, hk2⟩
    have hk2' : Keeps no w1 w2 := hk2
    have hna : w1.heap.size ≤ a := hnew2 _ (.inl rfl)
    have HB2 : Hid (w2.heap[B]? = some (.cells #[.int .i64 0, .int .u64 0, .slice none 0 0, .slice none 0 0] 47 (0, 0))) := hk2'.at HB1.out (fun h => h)
    go_wp2_with fail
    refine (read_anyW w2 a o2 c2 (pay b) hR2).mono ?_
    rintro e w3 ⟨k, i, op, np, cp, ok, nk, ck, rfl, HG, hk3⟩
    have HB3 : Hid (w3.heap[B]? = some (.cells #[.int .i64 0, .int .u64 0, .slice none 0 0, .slice none 0 0] 47 (0, 0))) := hk3.at HB2.out (by unfold eqA; have := HB.out; have := HSZ.out; omega)
    have HK3 : Hid (Keeps no w w3) := (HK1.out.trans hk2').then hk3 (fun i hi => .inr (by unfold eqA at hi; subst hi; have := HSZ.out; omega))
    have hsz23 := hk3.size
    have hsz12 := hk2'.size
    have HSZ3 : Hid (w.heap.size + 1 ≤ w2.heap.size ∧ w2.heap.size ≤ w3.heap.size) := by
      have := HSZ.out
      exact ⟨by omega, by omega⟩
    clear hk2 hk3 hR2 hnew2 hk2' hna hsz23 hsz12 hslA HB1 HB2
    generalize hwh : rend0 (rrec (pay b)).2 = WH at *
    have HWH : Hid (rend0 (rrec (pay b)).2 = WH) := hwh
    clear hwh
    have k4 : Keeps no w3 (w3.alloc (.cells #[.int .i64 k, .int .u64 (i : Nat), .slice op np cp, .slice ok nk ck] 47)) := (Keeps.refl _ _).alloc _
    cases WH
    · have HP2 : Hid (parse b = (c0, 0, 2)) := by show _ = _; rw [HP.out, if_neg (by unfold rok; rw [HWH.out]; simp)]
      have hB4 := blk_alloc HB3.out (.cells #[.int .i64 k, .int .u64 (i : Nat), .slice op np cp, .slice ok nk ck] 47)
      have HB4 : Hid (_ = _) := hB4
      obtain ⟨y0, y1, y2, y3⟩ := cells4W hB4
      have f0 := frozen_of_blk hB4 0
      have f1 := frozen_of_blk hB4 1
      have f2 := frozen_of_blk hB4 2
      have f3 := frozen_of_blk hB4 3
      clear hB4
      go_wp2_with fail
      (try simp only [Exit.inBlock, Exit.then])
      have hs4 := set4n (g := B) (by have := HB.out; omega) (HK3.out.trans k4) HB4.out (.int .i64 0) (.int .u64 0) (.slice none 0 0) (.slice none 0 0)
      refine bodyPost_ret (results_row3 rfl _ _ B _ rfl (loadR hs4.1)) rfl ?_
      exact parTo_err 2 HP2.out (by omega) hs4.2
    · go_wp2_with fail
      refine (May_any _ k i op np cp ok nk ck _ (HG.out.isC.keepsN k4)).mono ?_
      rintro e w5 ⟨rfl, hk5⟩
      have hB5 : w5.heap[B]? = some (.cells #[.int .i64 0, .int .u64 0, .slice none 0 0, .slice none 0 0] 47 (0, 0)) := hk5.at (blk_alloc HB3.out _) (fun h => h)
      have hM5 : w5.heap[w3.heap.size]? = some (.cells #[.int .i64 k, .int .u64 (i : Nat), .slice op np cp, .slice ok nk ck] 47 (0, 0)) := hk5.at (blk_new w3 _) (fun h => h)
      have HB5 : Hid (_ = _) := hB5
      have HK5 : Hid (Keeps no w3 w5) := k4.trans hk5
      obtain ⟨y0, y1, y2, y3⟩ := cells4W hB5
      have f0 := frozen_of_blk hB5 0
      have f1 := frozen_of_blk hB5 1
      have f2 := frozen_of_blk hB5 2
      have f3 := frozen_of_blk hB5 3
      obtain ⟨x0, x1, x2, x3⟩ := cells4W hM5
      clear hB5 hM5 hk5 k4
      cases hmy : may (rrec (pay b)).1
      · have HP2 : Hid (parse b = (c0, 0, 2)) := by show _ = _; rw [HP.out, if_neg (by unfold rok; rw [hmy]; simp)]
        go_wp2_with fail
        (try simp only [Exit.inBlock, Exit.then])
        have hs4 := set4n (g := B) (by have := HB.out; omega) (HK3.out.trans HK5.out) HB5.out (.int .i64 0) (.int .u64 0) (.slice none 0 0) (.slice none 0 0)
        refine bodyPost_ret (results_row3 rfl _ _ B _ rfl (loadR hs4.1)) rfl ?_
        exact parTo_err 2 HP2.out (by omega) hs4.2
      · have HP2 : Hid (parse b = ((rrec (pay b)).1, 8 + (pay b).length, 0)) := by show _ = _; rw [HP.out, if_pos (by unfold rok; rw [hmy, HWH.out]; rfl)]
        go_wp2_with fail
        (try simp only [Exit.inBlock, Exit.then])
        have hs4 := set4n (g := B) (by have := HB.out; omega) (HK3.out.trans HK5.out) HB5.out (.int .i64 k) (.int .u64 (i : Nat)) (.slice op np cp) (.slice ok nk ck)
        have hs4' := set4W HB5.out (.int .i64 k) (.int .u64 (i : Nat)) (.slice op np cp) (.slice ok nk ck)
        refine bodyPost_ret (results_row3 rfl _ _ B _ rfl (loadR hs4.1)) rfl ?_
        refine ⟨k, i, op, np, cp, ok, nk, ck, 8 + N, 0, rfl, ?_, by omega, by omega, hs4.2⟩
        rw [HP2.out]
        refine ⟨?_, by rw [hNp.out], rfl⟩
        exact ((HG.out.keepsN HK5.out).keeps hs4'.2 (fun j hj => by unfold eqA at hj; have := HB.out; have := HSZ3.out; omega)).of_le (by have := HSZ3.out; omega)
end Go.Proofs.YtdemoghlibnooaaGreatDoor
namespace Go.Proofs.YtdemoghlibnooaaGreatDoor
open Go.RowKit Go.Sort Orl Pk
set_option linter.unusedVariables false
set_option linter.unusedSimpArgs false
def CV.blk (v : CV) (k : Nat) : Prop := inO v.op k ∨ inO v.ok k
theorem Got.lt {w w' : World} {v : CV} {r : Rec} (h : Got w w' v r) : ∀ k, v.blk k → k < w'.heap.size := by
  rintro k (hk | hk)
  · exact h.ps.lt k hk
  · exact h.ks.lt k hk
theorem Got.ge {w w' : World} {v : CV} {r : Rec} (h : Got w w' v r) : ∀ k, v.blk k → w.heap.size ≤ k := by
  rintro k (hk | hk)
  · exact h.pn k hk
  · exact h.kn k hk
structure Scn (w w' : World) (o : Option Addr) (c : Nat) (vs : List CV) (rs : List Rec) : Prop where
  own : Own CE w' o c vs
  new : New w o
  len : vs.length = rs.length
  each : ∀ j, j < rs.length → Got w w' (vs.getD j cv0) (rs.getD j c0)
  sep : ∀ i j, i < j → j < rs.length → ∀ x y, (vs.getD i cv0).blk x → (vs.getD j cv0).blk y → x < y
theorem scn_nil (w w' : World) : Scn w w' none 0 [] [] := ⟨own_nil _, new_none _, rfl, fun j hj => by simp at hj, fun i j _ hj => by simp at hj⟩
theorem Scn.keepsN {w w' w'' : World} {o : Option Addr} {c : Nat} {vs : List CV} {rs : List Rec} (h : Scn w w' o c vs rs) (hk : Keeps no w' w'') : Scn w w'' o c vs rs :=
  ⟨h.own.keepsN hk, h.new, h.len, fun j hj => (h.each j hj).keepsN hk, h.sep⟩
theorem getD_snoc {α : Type} (l : List α) (x d : α) (j : Nat) : (l ++ [x]).getD j d = if j < l.length then l.getD j d else if j = l.length then x else d := by
  simp only [List.getD_eq_getElem?_getD]
  by_cases h : j < l.length
  · rw [List.getElem?_append_left h, if_pos h]
  · rw [if_neg h, List.getElem?_append_right (by omega)]
    by_cases h2 : j = l.length
    · subst h2; simp
    · rw [if_neg h2, List.getElem?_eq_none (by simp; omega)]; rfl
theorem own_neW {α β : Type} {E : El α} {F : El β} (h : E.e ≠ F.e) {w : World} {o o' : Option Addr} {c c' : Nat} {xs : List α} {ys : List β} (h1 : Own E w o c xs) (h2 : Own F w o' c' ys) : ∀ k, inO o k → ¬ inO o' k := by
  rintro k ⟨x, rfl, rfl⟩ ⟨y, rfl, e⟩
  rcases h1.shape with ⟨e1, _⟩ | ⟨g, cur, e1, hg, _⟩
  · cases e1
  · rcases h2.shape with ⟨e2, _⟩ | ⟨g', cur', e2, hg', _⟩
    · cases e2
    · cases e1; cases e2
      simp only at e
      subst e
      rw [hg] at hg'
      simp only [Option.some.injEq, Obj.cells.injEq] at hg'
      exact h hg'.2.1
theorem Scn.push {w w1 w2 w3 : World} {o o' : Option Addr} {c c' : Nat} {vs : List CV} {rs : List Rec} {v : CV} {r : Rec} (h : Scn w w1 o c vs rs) (hl : w.heap.size ≤ w1.heap.size) (hG : Got w1 w2 v r) (k2 : Keeps no w1 w2) (ho : Own CE w3 o' c' (vs ++ [v])) (hap : Ap w2 o o' w3) : Scn w w3 o' c' (vs ++ [v]) (rs ++ [r]) := by
  have hO2 := h.own.keepsN k2
  have kk : ∀ {α : Type} {E : El α} {oo : Option Addr} {cc : Nat} {l : List α}, CE.e ≠ E.e → Own E w2 oo cc l → Own E w3 oo cc l := by
    intro α E oo cc l hne hO
    rcases hap with ⟨rfl, hh⟩ | ⟨_, hh⟩
    · exact hO.keeps hh (fun j hj hi => own_neW hne hO2 hO j hi hj)
    · exact hO.keepsN hh
  have gg : ∀ {w0 : World} {v : CV} {r : Rec}, Got w0 w2 v r → Got w0 w3 v r := fun h =>
    ⟨h.k, h.i, h.np, h.nk, kk (by decide) h.ps, kk (by decide) h.ks, h.pn, h.kn, h.fit⟩
  have hlen := h.len
  refine ⟨ho, ?_, by simp [hlen], ?_, ?_⟩
  · rcases hap with ⟨rfl, hh⟩ | ⟨⟨g, rfl, hg⟩, hh⟩
    · exact h.new
    · exact new_fresh _ _ (Nat.le_trans hl (Nat.le_trans k2.size hg)) _
  · intro j hj
    rw [getD_snoc, getD_snoc, hlen]
    by_cases hj2 : j < rs.length
    · rw [if_pos hj2, if_pos hj2]
      exact gg ((h.each j hj2).keepsN k2)
    · have : j = rs.length := by simp at hj; omega
      rw [if_neg hj2, if_neg hj2, if_pos this, if_pos this]
      exact gg (hG.of_le hl)
  · intro i j hij hj x y hx hy
    rw [getD_snoc, hlen] at hx hy
    simp at hj
    rw [if_pos (by omega)] at hx
    by_cases hj2 : j < rs.length
    · rw [if_pos hj2] at hy
      exact h.sep i j hij hj2 x y hx hy
    · have : j = rs.length := by omega
      rw [if_neg hj2, if_pos this] at hy
      have h1 := (h.each i (by omega)).lt x hx
      have h2 := hG.ge y hy
      omega
def ScanTo (w : World) (b : List Nat) (e : Ending) (w' : World) : Prop :=
  ∃ (o : Option Addr) (n c t : Nat) (vs : List CV) (rs : List Rec), e = .returned (.tuple #[.slice o n c, .int .i64 (t : Nat)]) ∧ Hid (Scn w w' o c vs rs ∧ n = rs.length ∧ Run b rs t ∧ (parse (b.drop t)).2.2 ≠ 0) ∧ (n : Int) ≤ 137438953472 ∧ (t : Int) ≤ 1099511627776 ∧ Keeps no w w'
theorem own_oneC (w : World) (v : CV) : Sl CE (w.alloc (.cells #[.int .i64 v.k, .int .u64 (v.i : Nat), .slice v.op v.np v.cp, .slice v.ok v.nk v.ck] 47)) (some ⟨w.heap.size, 0, none⟩) 1 [v] := by
  refine ⟨.inr ⟨_, _, rfl, fun j u hj => ?_⟩, by simp, fun e => by cases e⟩
  rw [cell_of_blk (blk_new w _), Nat.zero_add]
  simpa [El.cells, CE] using hj
set_option maxRecDepth 10000 in
set_option maxHeartbeats 1000000 in
theorem Scan_any (w : World) (o : Option Addr) (n c : Nat) (b : List Nat) (hn : n = b.length) (hnb : (n : Int) ≤ 1099511627776) (hs : BSl w o c b) (ht : TabIn w) :
    Calls Tryz.prog 103 #[.slice o n c] w (ScanTo w b) := by
  have HN : Hid (n = b.length) := hn
  clear hn
  go_enter Tryz.func103, Tryz.ntmps103
  go_wp2_with fail
  go_loopw [4, 5] (fun s t wr => ∃ (q : Option Addr) (m d T : Nat) (vs : List CV) (rs : List Rec), s = .slice q m d ∧ t = .int .i64 (T : Nat) ∧ Hid (m = rs.length ∧ Scn w wr q d vs rs ∧ Run b rs T) ∧ T ≤ n ∧ (m : Int) * 8 ≤ T ∧ Hid (Keeps no w wr)) (fun _ t _ => n - (intOf t).toNat)
  case atStart => exact ⟨none, 0, 0, 0, [], [], rfl, rfl, ⟨rfl, scn_nil _ _, Run.nil⟩, by omega, by omega, Keeps.refl _ _⟩
  case round =>
    rename World => wq
    obtain ⟨q, m, d, T, vs, rs, rfl, rfl, HS, hT, hm8, HK⟩ := hrel
    obtain ⟨A, dA, hcut, hslA, _⟩ := cut_l w o c b n T T rfl HN.out hT hs
    have HSA : Hid (BSl wq A dA (b.drop T)) := hslA.keeps HK.out (fun _ _ h => h)
    have HTQ : Hid (TabIn wq) := ht.keepsN HK.out
    have HNT : Hid (n - T = (b.drop T).length) := by show _ = _; rw [List.length_drop, ← HN.out]
    obtain ⟨NT, hNT⟩ : ∃ N, N = n - T := ⟨_, rfl⟩
    rw [← hNT] at hcut HNT
    have hNTb : (NT : Int) ≤ 1099511627776 := by omega
    clear hslA hNT
    go_wp2_with fail
    refine (Parse_any wq A NT dA (b.drop T) HNT.out (by omega) HSA.out HTQ.out).mono ?_
    rintro e w2 ⟨k, i, op, np, cp, ok, nk, ck, M, E, rfl, HP, hM, hE, hk2⟩
    have HK2 : Hid (Keeps no wq w2) := hk2
    clear hk2
    have HG := HP.out.1
    by_cases hE0 : E = 0
    · subst hE0
      have HPE : Hid (parse (b.drop T) = ((parse (b.drop T)).1, M, 0)) := by
        show _ = _
        have h1 := HP.out.2.1; have h2 := HP.out.2.2
        rw [h1]
        conv => rhs; rw [h2]
      have hbk := parse_back (byt_drop hs.row.1 T) HPE.out
      have HBK : Hid (8 ≤ M ∧ M ≤ NT) := by
        have h1 := hbk.2.2.2.1; have h2 := hbk.2.2.2.2.1
        rw [enc_length] at h1
        have := HNT.out
        exact ⟨by omega, by omega⟩
      have hMN : M ≤ NT ∧ 8 ≤ M := ⟨HBK.out.2, HBK.out.1⟩
      clear hbk
      have hTM : T + M ≤ n := by have := HNT.out; rw [List.length_drop, ← HN.out] at this; omega
      have HSC : Hid (Scn w wq q d vs rs ∧ m = rs.length ∧ vs.length = rs.length) := ⟨HS.out.2.1, HS.out.1, HS.out.2.1.len⟩
      have hmb : (m : Int) ≤ 137438953472 := by omega
      have k3 : Keeps no w2 (w2.alloc (.cells #[.int .i64 k, .int .u64 (i : Nat), .slice op np cp, .slice ok nk ck] 47)) := (Keeps.refl _ _).alloc _
      have k4 := k3.alloc (.cells #[.int .i64 k, .int .u64 (i : Nat), .slice op np cp, .slice ok nk ck] 47)
      have HO4 : Hid (Own CE ((w2.alloc (.cells #[.int .i64 k, .int .u64 (i : Nat), .slice op np cp, .slice ok nk ck] 47)).alloc (.cells #[.int .i64 k, .int .u64 (i : Nat), .slice op np cp, .slice ok nk ck] 47)) q d vs) := HSC.out.1.own.keepsN (HK2.out.trans k4)
      have HN1 : Hid (Sl CE ((w2.alloc (.cells #[.int .i64 k, .int .u64 (i : Nat), .slice op np cp, .slice ok nk ck] 47)).alloc (.cells #[.int .i64 k, .int .u64 (i : Nat), .slice op np cp, .slice ok nk ck] 47)) (some ⟨w2.heap.size + 1, 0, none⟩) 1 [⟨k, i, op, np, cp, ok, nk, ck⟩]) := by
        have := own_oneC (w2.alloc (.cells #[.int .i64 k, .int .u64 (i : Nat), .slice op np cp, .slice ok nk ck] 47)) ⟨k, i, op, np, cp, ok, nk, ck⟩
        simp at this
        exact this
      have HK4 : Hid (Keeps no w2 ((w2.alloc (.cells #[.int .i64 k, .int .u64 (i : Nat), .slice op np cp, .slice ok nk ck] 47)).alloc (.cells #[.int .i64 k, .int .u64 (i : Nat), .slice op np cp, .slice ok nk ck] 47))) := k4
      clear k3 k4 HG
      go_wp2_with (at_builtin; go_must (refine wpList_app okC rfl _ _ rfl q m d vs rfl (by rw [HSC.out.2.1, HSC.out.2.2]) HO4.out _ _ _ [⟨k, i, op, np, cp, ok, nk, ck⟩] rfl rfl (fun h => by cases h) HN1.out.row (by have := HSC.out.2; simp [CE]; omega) (by have := HSC.out.2; simp; omega) ?_); intro o' c' w' ho hap)
      go_roundw
      case rel =>
        have hkk := HK2.out.trans HK4.out
        refine ⟨o', m + 1, c', T + M, vs ++ [⟨k, i, op, np, cp, ok, nk, ck⟩], rs ++ [(parse (b.drop T)).1], rfl, by go_num, ⟨by simp [HSC.out.2.1], ?_, Run.snoc HS.out.2.2 HPE.out⟩, hTM, by omega, ?_⟩
        · exact HSC.out.1.push HK.out.size (HP.out.1.keepsN HK4.out) hkk ho hap
        · rcases hap with ⟨_, hh⟩ | ⟨_, hh⟩
          · exact (HK.out.trans hkk).then hh (fun j hj => .inr (HSC.out.1.new j hj))
          · exact (HK.out.trans hkk).trans hh
      case measure => simp [intOf]; omega
    · have hE1 : ((E : Int) == 0) = false := by simp; omega
      have hE2 : ¬ (E : Int) = 0 := by omega
      have HPE : Hid ((parse (b.drop T)).2.2 ≠ 0) := by show _ ≠ _; rw [← HP.out.2.2]; exact hE0
      go_wp2_with fail
      go_ret2
      refine ⟨q, m, d, T, vs, rs, rfl, ⟨?_, HS.out.1, HS.out.2.2, HPE.out⟩, by omega, by omega, ?_⟩
      · exact HS.out.2.1.keepsN (HK2.out.alloc _)
      · exact HK.out.trans (HK2.out.alloc _)
end Go.Proofs.YtdemoghlibnooaaGreatDoor

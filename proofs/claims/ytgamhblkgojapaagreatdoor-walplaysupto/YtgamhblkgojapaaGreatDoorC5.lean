/- The program reads: readPairs, read. -/
import Derived.Test.YtgamhblkgojapaaGreatDoorC4
import Derived.Deep.RegionHeld3
namespace Go.Proofs.YtgamhblkgojapaaGreatDoor
open Go.RowKit Go.Sort Orl Pk
set_option linter.unusedVariables false
set_option linter.unusedSimpArgs false

set_option linter.unusedVariables false
set_option linter.unusedSimpArgs false

theorem ccount_le (b : List Nat) (most : Int) : (ccount b most).1 ≤ most.toNat := by
  unfold ccount
  repeat' split
  all_goals first | exact Nat.zero_le _ | (simp only; omega)
theorem ctext_len (b : List Nat) (most : Int) : (ctext b most).1.length ≤ most.toNat := by
  unfold ctext
  have := ccount_le b most
  generalize ccount b most = c at this
  obtain ⟨n, r, e⟩ := c
  simp only at this ⊢
  split
  · simp
  · split
    · simp
    · simp only [List.length_take]; omega
theorem ctextsN_len (most : Int) : ∀ (n : Nat) (b : List Nat), (ctextsN n b most).1.length ≤ n ∧ ∀ s ∈ (ctextsN n b most).1, s.length ≤ most.toNat
  | 0, b => by simp [ctextsN]
  | n + 1, b => by
    unfold ctextsN
    have t1 := ctext_len b most
    generalize ctext b most = c at t1
    obtain ⟨s, r, e⟩ := c
    simp only at t1 ⊢
    split
    · simp
    · have ih := ctextsN_len most n r
      generalize ctextsN n r most = d at ih
      obtain ⟨l, r', e'⟩ := d
      simp only at ih ⊢
      split
      · simp
      · refine ⟨by simp only [List.length_cons]; omega, ?_⟩
        intro x hx
        rcases List.mem_cons.1 hx with rfl | hx
        · exact t1
        · exact ih.2 x hx
theorem ctexts_len (b : List Nat) (count most : Int) : (ctexts b count most).1.length ≤ count.toNat ∧ ∀ s ∈ (ctexts b count most).1, s.length ≤ most.toNat := by
  unfold ctexts
  have t1 := ccount_le b count
  generalize ccount b count = c at t1
  obtain ⟨n, r, e⟩ := c
  simp only at t1 ⊢
  split
  · simp
  · have ih := ctextsN_len most n r
    generalize ctextsN n r most = d at ih
    obtain ⟨l, r', e'⟩ := d
    simp only at ih ⊢
    split
    · simp
    · exact ⟨by simp only; omega, ih.2⟩
theorem rkeys_txs (st : RS) : Txs (rkeys st).1 := by
  obtain ⟨b, e⟩ := st
  have hx : (rtexts 1024 65535 (b, e)).1.length ≤ 1024 ∧ ∀ s ∈ (rtexts 1024 65535 (b, e)).1, s.length ≤ 65535 := by
    unfold rtexts
    split
    · simp
    · have := ctexts_len b 1024 65535
      generalize ctexts b 1024 65535 = d at this
      obtain ⟨l, r', e'⟩ := d
      simp only at this ⊢
      split
      · simp
      · exact this
  unfold rkeys
  refine ⟨by simp only [List.length_map]; exact hx.1, ?_⟩
  intro s hs
  simp only [List.mem_map] at hs
  obtain ⟨l, hl, rfl⟩ := hs
  rw [text_size]; exact hx.2 l hl
theorem rmany_mem {α : Type} (f : RS → α × RS) (P : α → Prop) (h : ∀ st, P (f st).1) : ∀ (n : Nat) (st : RS), ∀ x ∈ (rmany f n st).1, P x
  | 0, st, x, hx => by simp [rmany] at hx
  | n + 1, st, x, hx => by
    simp only [rmany, List.mem_append, List.mem_singleton] at hx
    rcases hx with hx | rfl
    · exact rmany_mem f P h n st x hx
    · exact h _
theorem tsz (st : RS) : (text (rtext 65535 st).1).size ≤ 65535 := by rw [text_size]; exact rtext_len 65535 st
theorem rpairs_fit (st : RS) : (rpairs st).1.length ≤ 1024 ∧ ∀ p ∈ (rpairs st).1, p.1.size ≤ 65535 ∧ p.2.size ≤ 65535 := by
  unfold rpairs
  refine ⟨by rw [rmany_length]; exact rcount_le 1024 st, ?_⟩
  exact rmany_mem rpair (fun p => p.1.size ≤ 65535 ∧ p.2.size ≤ 65535) (fun st => ⟨tsz _, tsz _⟩) _ _
theorem num8_lt (st : RS) (hb : Byt st) : (rnum 8 st).1 < 18446744073709551616 := by
  have := rnum_lt 8 st.1 st.2 hb
  omega
theorem fitR_of {r : Rec} (h1 : Txs r.keys) (h2 : r.pairs.length ≤ 1024 ∧ ∀ p ∈ r.pairs, p.1.size ≤ 65535 ∧ p.2.size ≤ 65535) (h3 : 0 ≤ r.kind ∧ r.kind ≤ 255) (h4 : r.id < 18446744073709551616) : FitR r :=
  ⟨by have := h1.1; omega, fun s hs => by have := h1.2 s hs; omega, by omega, fun p hp => by have := h2.2 p hp; omega, by omega, by omega, h4⟩
theorem txs_nil : Txs [] := ⟨by simp, fun s hs => by cases hs⟩
theorem rrec_fit (b : List Nat) (hb : ∀ c ∈ b, c < 256) : FitR (rrec b).1 := by
  have hk : (rnum 1 (b, 0)).1 < 256 := by have := rnum_lt 1 b 0 hb; omega
  have hi := num8_lt (rnum 1 (b, 0)).2 ((rnum_stp 1 (b, 0)).1 hb)
  unfold rrec
  split
  · exact fitR_of (rkeys_txs _) (rpairs_fit _) (by simp only; omega) hi
  · exact fitR_of txs_nil ⟨by simp, fun p hp => by cases hp⟩ (by simp only; omega) hi

set_option maxRecDepth 10000 in
theorem readPairs_any {w w1 : World} {a : Nat} {o : Option Addr} {st : RS} (h : RStep 148 w a o st w1) (hlt : a < w.heap.size ∧ ∀ k, inO o k → k < w.heap.size) :
    Calls Tryz.prog 96 #[.pointer (some ⟨a, 0, none⟩)] w1 fun e w2 => (∃ oo n c, e = .returned (.slice oo n c) ∧ Hid (n = (rpairs st).1.length) ∧ Own PE w2 oo c (rpairs st).1 ∧ New w1 oo) ∧ RStep 148 w a o (rpairs st).2 w2 ∧ Keeps (eqA a) w1 w2 := by
  have HLT : Hid (a < w.heap.size ∧ ∀ k, inO o k → k < w.heap.size) := hlt
  clear hlt
  have hws : w.heap.size ≤ w1.heap.size := h.keeps.size
  have haw : a < w1.heap.size := by have := HLT.out.1; omega
  go_enter Tryz.func96, Tryz.ntmps96
  go_wp2_with fail
  refine (rsCount h).mono ?_
  rintro e w2 ⟨⟨N, rfl, HN, hN⟩, h2, hk2⟩
  generalize hS0 : (rcount 1024 st).2 = S0 at h2
  have HS0 : Hid ((rcount 1024 st).2 = S0) := hS0
  clear hS0
  have HP : Hid (rpairs st = rmany rpair N S0) := by show _ = _; unfold rpairs; rw [HS0.out, ← HN.out]
  go_wp2_with fail
  go_loopw [3, 6] (fun s i wr => ∃ k : Nat, ∃ oo mo co, k ≤ N ∧ i = .int .i64 k ∧ s = .slice oo mo co ∧ Hid (mo = k) ∧ Own PE wr oo co (rmany rpair k S0).1 ∧ New w1 oo ∧ Hid (RStep 148 w a o (rmany rpair k S0).2 wr) ∧ Keeps (eqA a) w1 wr) (fun _ i _ => N - (intOf i).toNat)
  case atStart => exact ⟨0, none, 0, 0, by omega, rfl, rfl, rfl, own_nil _, new_none _, h2, hk2⟩
  case round =>
    obtain ⟨k, oo, mo, co, hk, rfl, rfl, HMO, hown, hnew, HR, hkp⟩ := hrel
    by_cases h2 : k < N
    · have HL : Hid (rmany rpair (k + 1) S0 = ((rmany rpair k S0).1 ++ [(rpair (rmany rpair k S0).2).1], (rpair (rmany rpair k S0).2).2)) := rfl
      have HLen : Hid ((rmany rpair k S0).1.length = k) := rmany_length _ _ _
      generalize (rmany rpair k S0).1 = L at hown HL HLen
      generalize (rmany rpair k S0).2 = S at HR HL
      have hmo : mo ≤ 1024 := by have := HMO.out; omega
      go_wp2_with fail
      refine (rsText HR.out).mono ?_
      rintro e w3 ⟨⟨s1, rfl, hs1⟩, h3, hk3⟩
      go_wp2_with fail
      refine (rsText h3).mono ?_
      rintro e w4 ⟨⟨s2, rfl, hs2⟩, h4, hk4⟩
      have hk14 := (hk3.trans hk4)
      have HO4 : Hid (Own PE w4 oo co L) := hown.keeps hk14 (fun j hj e => by have := hnew j hj; unfold eqA at e; omega)
      have HML : Hid (mo = L.length ∧ L.length ≤ 1024) := ⟨by rw [HLen.out]; exact HMO.out, by rw [HLen.out]; omega⟩
      have HK4 : Hid (Keeps (eqA a) w1 w4) := hkp.trans hk14
      have H4 : Hid (RStep 148 w a o (rtext 65535 (rtext 65535 S).2).2 w4) := h4
      clear hown hk3 hk4 hk14 h3 h4 HLen
      go_wp2_with (at_builtin; go_must (refine wpList_app okP rfl _ _ rfl _ _ _ L rfl HML.out.1 (HO4.out.keepsN ((Keeps.refl _ _).alloc _)) _ _ _ [(s1, s2)] rfl rfl (fun h => by cases h) (own_oneP _ s1 s2).row (by have := HML.out; simp [PE]; omega) (by have := HML.out; simp; omega) ?_); intro o' c' w' ho hap)
      go_roundw
      case rel =>
        have hx : New w1 o' ∧ Keeps (eqA a) w1 w' := by
          rcases hap with ⟨rfl, hh⟩ | ⟨⟨g, rfl, hg⟩, hh⟩
          · exact ⟨hnew, (HK4.out.alloc _).then hh (fun i hi => .inr (hnew i hi))⟩
          · exact ⟨new_fresh _ _ (Nat.le_trans HK4.out.size (Nat.le_trans (by simp) hg)) _, (HK4.out.alloc _).then hh (fun i hi => hi.elim)⟩
        have hy : RStep 148 w a o (rtext 65535 (rtext 65535 S).2).2 w' := by
          have := H4.out.beside (.inr HLT.out) ((Keeps.refl no _).alloc (.cells #[.string s1, .string s2] 102)) (fun i hi => hi.elim)
          rcases hap with ⟨_, hh⟩ | ⟨_, hh⟩
          · exact this.beside (.inr HLT.out) hh (fun i hi => Nat.le_trans hws (hnew i hi))
          · exact this.beside (.inr HLT.out) hh (fun i hi => hi.elim)
        refine ⟨k + 1, o', _, c', by omega, by go_num, rfl, (by have := HMO.out; show _ = _; omega), ?_, hx.1, ?_, hx.2⟩
        · rw [HL.out]; simp only; unfold rpair; rw [← hs1.out, ← hs2.out]; exact ho
        · rw [HL.out]; exact hy
      case measure => simp [intOf]; omega
    · have hkn : k = N := by omega
      go_wp2
      go_ret
      rw [hkn] at hown
      have hR := HR.out
      rw [hkn] at hR
      refine ⟨⟨oo, mo, co, rfl, ?_, ?_, hnew⟩, ?_, hkp⟩
      · show _ = _; rw [HP.out, rmany_length, HMO.out, hkn]
      · rw [HP.out]; exact hown
      · rw [HP.out]; exact hR
theorem rend_rend0 (st : RS) : ((rend st.1 st.2 : Nat) : Int) = 0 ↔ rend0 st = true := by
  obtain ⟨b, e⟩ := st
  unfold rend rend0
  rw [decide_eq_true_eq]
  simp only
  by_cases he : e = 0
  · subst he
    cases b with
    | nil => simp
    | cons x l => simp
  · simp [he]
theorem rsEnd {w w1 : World} {a : Nat} {o : Option Addr} {st : RS} (h : RStep 148 w a o st w1) :
    Calls Tryz.prog 98 #[.pointer (some ⟨a, 0, none⟩)] w1 fun e w2 => e = .returned (.int .i64 (rend st.1 st.2 : Nat)) ∧ w2 = w1 := by
  obtain ⟨o1, c1, hR, hS, hK⟩ := h
  exact rEnd_any w1 a o1 c1 st.1 st.2 hR
theorem own_nil_sl {α : Type} {E : El α} (w : World) : Sl E w none 0 [] := (own_nil w).sl
theorem loadRd {w : World} {g : Nat} {a0 a1 a2 a3 : Value} (h : w.heap[g]? = some (.cells #[a0, a1, a2, a3] 41 (0, 0))) : (loadVar 41 ⟨g, 0, none⟩).run Tryz.prog w.drew = .ok (.agg #[a0, a1, a2, a3]) w.drew := loadR (w := w.drew) h
/-- a record that a call told: its lists are new, and the call's own -/
structure Got (w w' : World) (v : CV) (r : Rec) : Prop where
  k : v.k = r.kind
  i : v.i = r.id
  np : v.np = r.pairs.length
  nk : v.nk = r.keys.length
  ps : Own PE w' v.op v.cp r.pairs
  ks : Own TE w' v.ok v.ck r.keys
  pn : New w v.op
  kn : New w v.ok
  fit : FitR r
theorem Got.isC {w w' : World} {v : CV} {r : Rec} (h : Got w w' v r) : IsC w' v r := ⟨h.k, h.i, h.np, h.nk, h.ps.sl, h.ks.sl, h.fit⟩
theorem Got.keeps {S : Nat → Prop} {w w' w'' : World} {v : CV} {r : Rec} (h : Got w w' v r) (hk : Keeps S w' w'') (hS : ∀ j, S j → j < w.heap.size) : Got w w'' v r :=
  ⟨h.k, h.i, h.np, h.nk, h.ps.keeps hk (fun j hj hs => by have := h.pn j hj; have := hS j hs; omega), h.ks.keeps hk (fun j hj hs => by have := h.kn j hj; have := hS j hs; omega), h.pn, h.kn, h.fit⟩
theorem Got.keepsN {w w' w'' : World} {v : CV} {r : Rec} (h : Got w w' v r) (hk : Keeps no w' w'') : Got w w'' v r := h.keeps hk (fun _ h => h.elim)
theorem Got.of_le {w0 w w' : World} {v : CV} {r : Rec} (h : Got w w' v r) (hl : w0.heap.size ≤ w.heap.size) : Got w0 w' v r :=
  ⟨h.k, h.i, h.np, h.nk, h.ps, h.ks, h.pn.of_le hl, h.kn.of_le hl, h.fit⟩
/-- what read holds while it reads: the record M, the result B, the reader -/
structure RdS (w : World) (a B M : Nat) (o : Option Addr) (cs : Array Value) (st : RS) (W : World) : Prop where
  m : W.heap[M]? = some (.cells cs 41 (0, 0))
  b : W.heap[B]? = some (.cells #[.int .i64 0, .int .u64 0, .slice none 0 0, .slice none 0 0] 41 (0, 0))
  r : RStep 148 w a o st W
  k : Keeps (eqA a) w W
  lt : (a < w.heap.size ∧ ∀ k, inO o k → k < w.heap.size) ∧ a < B ∧ B = w.heap.size ∧ B < M
theorem RdS.size {w : World} {a B M : Nat} {o : Option Addr} {cs : Array Value} {st : RS} {W : World} (h : RdS w a B M o cs st W) : M < W.heap.size := lt_of_block h.m
theorem RdS.call {w : World} {a B M : Nat} {o : Option Addr} {cs : Array Value} {st st' : RS} {W W' : World} (h : RdS w a B M o cs st W) (r : RStep 148 w a o st' W') (k : Keeps (eqA a) W W') : RdS w a B M o cs st' W' :=
  have := h.lt
  ⟨k.at h.m (by unfold eqA; omega), k.at h.b (by unfold eqA; omega), r, h.k.trans k, h.lt⟩
theorem RdS.store {w : World} {a B M : Nat} {o : Option Addr} {cs : Array Value} {st : RS} {W : World} (h : RdS w a B M o cs st W) (i : Nat) (v : Value) : RdS w a B M o (cs.setIfInBounds i v) st (W.setCell ⟨M, i, none⟩ v) := by
  have hl := h.lt
  have kS : Keeps (eqA M) W (W.setCell ⟨M, i, none⟩ v) := (Keeps.refl (eqA M) W).setA i v
  exact ⟨blk_set h.m i v, kS.at h.b (by unfold eqA; omega), h.r.beside (.inr h.lt.1) kS (fun j hj => by unfold eqA at hj; omega), h.k.then kS (fun j hj => .inr (by unfold eqA at hj; omega)), h.lt⟩
theorem Own.call {α : Type} {E : El α} {w W W' : World} {a B M : Nat} {o : Option Addr} {cs : Array Value} {st : RS} (h : RdS w a B M o cs st W) {oo : Option Addr} {c : Nat} {l : List α} (hO : Own E W oo c l) (hN : ∀ j, inO oo j → M < j) (k : Keeps (eqA a) W W') : Own E W' oo c l :=
  hO.keeps k (fun j hj e => by have := hN j hj; have := h.lt; unfold eqA at e; omega)
theorem Own.store {α : Type} {E : El α} {w W : World} {a B M : Nat} {o : Option Addr} {cs : Array Value} {st : RS} (h : RdS w a B M o cs st W) {oo : Option Addr} {c : Nat} {l : List α} (hO : Own E W oo c l) (hN : ∀ j, inO oo j → M < j) (i : Nat) (v : Value) : Own E (W.setCell ⟨M, i, none⟩ v) oo c l :=
  hO.keeps ((Keeps.refl (eqA M) W).setA i v) (fun j hj e => by have := hN j hj; unfold eqA at e; omega)
/-- what read tells -/
def ReadTo (w : World) (a : Nat) (R : Rec × RS) (e : Ending) (w' : World) : Prop :=
  ∃ (k : Int) (i : Nat) (op : Option Addr) (np cp : Nat) (ok : Option Addr) (nk ck : Nat), e = .returned (.tuple #[.agg #[.int .i64 k, .int .u64 (i : Nat), .slice op np cp, .slice ok nk ck], .bool (rend0 R.2)]) ∧ Hid (Got w w' ⟨k, i, op, np, cp, ok, nk, ck⟩ R.1) ∧ Keeps (eqA a) w w'
theorem readTo_mk {w W W' : World} {a B M : Nat} {o : Option Addr} {cs : Array Value} {st : RS} {R : Rec × RS} {k : Int} {i : Nat} {op : Option Addr} {np cp : Nat} {ok : Option Addr} {nk ck : Nat}
    (h : RdS w a B M o cs st W) (hst : R.2 = st) (h1 : k = R.1.kind ∧ i = R.1.id ∧ np = R.1.pairs.length ∧ nk = R.1.keys.length) (hp : Own PE W op cp R.1.pairs) (hk : Own TE W ok ck R.1.keys) (np' : ∀ j, inO op j → M < j) (nk' : ∀ j, inO ok j → M < j) (hf : FitR R.1) (kS : Keeps (eqA B) W W') :
    ReadTo w a R (.returned (.tuple #[.agg #[.int .i64 k, .int .u64 (i : Nat), .slice op np cp, .slice ok nk ck], .bool (((rend st.1 st.2 : Nat) : Int) == 0)])) W' := by
  have hl := h.lt
  refine ⟨k, i, op, np, cp, ok, nk, ck, ?_, ?_, ?_⟩
  · have : (((rend st.1 st.2 : Nat) : Int) == 0) = rend0 R.2 := by
      rw [hst, Bool.eq_iff_iff]
      have := rend_rend0 st
      rw [← this]
      simp
    rw [this]
  · exact ⟨h1.1, h1.2.1, h1.2.2.1, h1.2.2.2, hp.keeps kS (fun j hj e => by have := np' j hj; unfold eqA at e; omega), hk.keeps kS (fun j hj e => by have := nk' j hj; unfold eqA at e; omega), fun j hj => by have := np' j hj; omega, fun j hj => by have := nk' j hj; omega, hf⟩
  · exact h.k.then kS (fun j hj => .inr (by unfold eqA at hj; omega))

set_option maxRecDepth 10000 in
set_option maxHeartbeats 2000000 in
theorem read_any (w : World) (a : Nat) (o : Option Addr) (c : Nat) (b : List Nat) (hR : IsR 148 w a o c b 0) :
    Calls Tryz.prog 74 #[.pointer (some ⟨a, 0, none⟩)] w (ReadTo w a (rrec b)) := by
  have HLT : Hid (a < w.heap.size ∧ ∀ k, inO o k → k < w.heap.size) := ⟨lt_of_block hR.blk, hR.live⟩
  have HFIT : Hid (FitR (rrec b).1) := rrec_fit b hR.sl.row.1
  have haw := HLT.out.1
  obtain ⟨R, hRR⟩ : ∃ R, R = rrec b := ⟨_, rfl⟩
  have HRR : Hid (R = rrec b) := hRR
  rw [← hRR] at HFIT ⊢
  clear hRR
  have kB : Keeps (eqA a) w (w.alloc (.cells #[.int .i64 0, .int .u64 0, .slice none 0 0, .slice none 0 0] 41)) := (Keeps.refl _ _).alloc _
  have h0 := (RStep.start hR).beside (.inr HLT.out) ((Keeps.refl no w).alloc (.cells #[.int .i64 0, .int .u64 0, .slice none 0 0, .slice none 0 0] 41)) (fun i hi => hi.elim)
  clear hR
  go_enter Tryz.func74, Tryz.ntmps74
  go_wp2_with fail
  refine (rsU8 h0).mono ?_
  rintro e w1 ⟨⟨K, rfl, hK, hKb⟩, h1, hk1⟩
  go_wp2_with fail
  refine (rsU64 h1).mono ?_
  rintro e w2 ⟨⟨I, rfl, hI, hIb⟩, h2, hk2⟩
  have hk12 := hk1.trans hk2
  have hB2 : w2.heap[w.heap.size]? = some (.cells #[.int .i64 0, .int .u64 0, .slice none 0 0, .slice none 0 0] 41 (0, 0)) := hk12.at (blk_new w _) (by unfold eqA; omega)
  have hsz2 : w.heap.size + 1 ≤ w2.heap.size := by have := hk12.size; simpa using this
  have k4 : Keeps no w2 (w2.alloc (.cells #[.int .i64 (K : Nat), .int .u64 (I : Nat), .slice none 0 0, .slice none 0 0] 41)) := (Keeps.refl _ _).alloc _
  have HS : Hid (RdS w a w.heap.size w2.heap.size o #[.int .i64 (K : Nat), .int .u64 (I : Nat), .slice none 0 0, .slice none 0 0] (rnum 8 (rnum 1 (b, 0)).2).2 (w2.alloc (.cells #[.int .i64 (K : Nat), .int .u64 (I : Nat), .slice none 0 0, .slice none 0 0] 41))) :=
    ⟨blk_new w2 _, blk_alloc hB2 _, h2.beside (.inr HLT.out) k4 (fun i hi => hi.elim), (kB.trans hk12).alloc _, HLT.out, haw, rfl, by omega⟩
  have HRK : Hid (K = (rnum 1 (b, 0)).1 ∧ I = (rnum 8 (rnum 1 (b, 0)).2).1) := ⟨hK.out, hI.out⟩
  have HR0 : Hid (R = rrec b) := HRR
  generalize hSS : (rnum 8 (rnum 1 (b, 0)).2).2 = S at HS
  have HSS : Hid ((rnum 8 (rnum 1 (b, 0)).2).2 = S) := hSS
  obtain ⟨M, hM⟩ : ∃ M, M = w2.heap.size := ⟨_, rfl⟩
  obtain ⟨B, hB⟩ : ∃ B, B = w.heap.size := ⟨_, rfl⟩
  have HME : Hid (M = w2.heap.size) := hM
  rw [← hM, ← hB] at HS
  rw [← hB]
  clear hSS hM hB hB2 hk12 hk1 hk2 h1 h2 h0 hK hI kB k4 hsz2
  by_cases h1 : K = 1
  · subst h1
    have HR : Hid (R = (⟨1, I, (rpairs S).1, (rkeys (rpairs S).2).1⟩, (rkeys (rpairs S).2).2)) := by
      show _ = _
      rw [HR0.out]; unfold rrec
      rw [if_pos HRK.out.1.symm, ← HRK.out.1, ← HRK.out.2, HSS.out]; rfl
    obtain ⟨x0, x1, x2, x3⟩ := cells4 HS.out.m
    rw [HME.out] at x0 x1 x2 x3
    go_wp2_with fail
    refine (readPairs_any HS.out.r HLT.out).mono ?_
    rintro e w5 ⟨⟨op, np, cp, rfl, hnp, hownp, hnewp⟩, h5, hk5⟩
    have hMs := HS.out.size
    have H5 : Hid _ := HS.out.call h5 hk5
    have H6 : Hid _ := H5.out.store 2 (.slice op np cp)
    have HNp : Hid (∀ j, inO op j → M < j) := fun j hj => by have := hnewp j hj; omega
    have HOp : Hid (Own PE (w5.setCell ⟨M, 2, none⟩ (.slice op np cp)) op cp (rpairs S).1) := Own.store H5.out hownp HNp.out 2 _
    clear x0 x1 x2 x3
    obtain ⟨x0, x1, x2, x3⟩ := cells4 H5.out.m
    have f2 := frozen_of_blk H5.out.m 2
    rw [← HME.out]
    go_wp2_with fail
    generalize w5.setCell ⟨M, 2, none⟩ (.slice op np cp) = W7 at H6 HOp ⊢
    clear x0 x1 x2 x3 f2
    have hF7 := H6.out.size
    refine (rsTexts H6.out.r).mono ?_
    rintro e w8 ⟨⟨ok, nk, ck, rfl, hnk, hownk, hnewk⟩, h8, hk8⟩
    have H8 : Hid _ := H6.out.call h8 hk8
    have H9 : Hid _ := H8.out.store 3 (.slice ok nk ck)
    have HNk : Hid (∀ j, inO ok j → M < j) := fun j hj => by have := hnewk j hj; omega
    have HOk : Hid (Own TE (w8.setCell ⟨M, 3, none⟩ (.slice ok nk ck)) ok ck (rkeys (rpairs S).2).1) := Own.store H8.out hownk HNk.out 3 _
    have HOp2 : Hid (Own PE (w8.setCell ⟨M, 3, none⟩ (.slice ok nk ck)) op cp (rpairs S).1) := Own.store H8.out (Own.call H6.out HOp.out HNp.out hk8) HNp.out 3 _
    obtain ⟨x0, x1, x2, x3⟩ := cells4 H8.out.m
    have f3 := frozen_of_blk H8.out.m 3
    go_wp2_with fail
    generalize w8.setCell ⟨M, 3, none⟩ (.slice ok nk ck) = W at H9 HOk HOp2 ⊢
    clear x0 x1 x2 x3 f3
    obtain ⟨x0, x1, x2, x3⟩ := cells4 H9.out.m
    obtain ⟨y0, y1, y2, y3⟩ := cells4 H9.out.b
    have f0 := frozen_of_blk H9.out.b 0
    have f1 := frozen_of_blk H9.out.b 1
    have f2 := frozen_of_blk H9.out.b 2
    have f3 := frozen_of_blk H9.out.b 3
    have hne1 : ¬ M = B := by have := H9.out.lt; omega
    have hne2 : ¬ B = M := by have := H9.out.lt; omega
    go_region_held3 (fun w' => w'.cell? ⟨M, 0, none⟩ = some (.int .i64 ((1 : Nat) : Int)) ∧ w'.cell? ⟨M, 1, none⟩ = some (.int .u64 (I : Nat)) ∧ w'.cell? ⟨M, 2, none⟩ = some (.slice op np cp) ∧ w'.cell? ⟨M, 3, none⟩ = some (.slice ok nk ck)) (go_keep) ((go_at_call 98; refine (rsEnd (H9.out.r.beside (.inr HLT.out) (Keeps.refl no W).drew (fun i hi => hi.elim))).mono ?_; rintro e w9 ⟨rfl, h9⟩; subst w9))
    go_wp2_with fail
    (try simp only [Exit.inBlock, Exit.then])
    have hs4 := set4 H9.out.b (.int .i64 ((1 : Nat) : Int)) (.int .u64 (I : Nat)) (.slice op np cp) (.slice ok nk ck)
    refine bodyPost_ret (results_row2 rfl _ _ B _ rfl (loadRd hs4.1)) rfl ?_
    refine readTo_mk H9.out (by rw [HR.out]) ?_ ?_ ?_ HNp.out HNk.out HFIT.out hs4.2.drew
    · rw [HR.out]; exact ⟨rfl, rfl, hnp.out, hnk.out⟩
    · rw [HR.out]; exact HOp2.out
    · rw [HR.out]; exact HOk.out
  · have HR : Hid (R = (⟨(K : Nat), I, [], []⟩, S)) := by
      show _ = _
      rw [HR0.out]; unfold rrec
      rw [if_neg (by rw [← HRK.out.1]; exact h1), ← HRK.out.1, ← HRK.out.2, HSS.out]
    have h1b : ((K : Int) == 1) = false := by simp; omega
    have h1c : ¬ (K : Int) = 1 := by omega
    obtain ⟨x0, x1, x2, x3⟩ := cells4 HS.out.m
    rw [HME.out] at x0 x1 x2 x3
    go_wp2_with fail
    rw [← HME.out] at x0 x1 x2 x3 ⊢
    generalize w2.alloc (.cells #[.int .i64 (K : Nat), .int .u64 (I : Nat), .slice none 0 0, .slice none 0 0] 41) = W at HS x0 x1 x2 x3 ⊢
    obtain ⟨y0, y1, y2, y3⟩ := cells4 HS.out.b
    have f0 := frozen_of_blk HS.out.b 0
    have f1 := frozen_of_blk HS.out.b 1
    have f2 := frozen_of_blk HS.out.b 2
    have f3 := frozen_of_blk HS.out.b 3
    have hne1 : ¬ M = B := by have := HS.out.lt; omega
    have hne2 : ¬ B = M := by have := HS.out.lt; omega
    go_region_held3 (fun w' => w'.cell? ⟨M, 0, none⟩ = some (.int .i64 (K : Nat)) ∧ w'.cell? ⟨M, 1, none⟩ = some (.int .u64 (I : Nat)) ∧ w'.cell? ⟨M, 2, none⟩ = some (.slice none 0 0) ∧ w'.cell? ⟨M, 3, none⟩ = some (.slice none 0 0)) (go_keep) ((go_at_call 98; refine (rsEnd (HS.out.r.beside (.inr HLT.out) (Keeps.refl no W).drew (fun i hi => hi.elim))).mono ?_; rintro e w9 ⟨rfl, h9⟩; subst w9))
    go_wp2_with fail
    (try simp only [Exit.inBlock, Exit.then])
    have hs4 := set4 HS.out.b (.int .i64 (K : Nat)) (.int .u64 (I : Nat)) (.slice none 0 0) (.slice none 0 0)
    refine bodyPost_ret (results_row2 rfl _ _ B _ rfl (loadRd hs4.1)) rfl ?_
    refine readTo_mk HS.out (by rw [HR.out]) ?_ ?_ ?_ (fun j hj => by obtain ⟨x, e, _⟩ := hj; cases e) (fun j hj => by obtain ⟨x, e, _⟩ := hj; cases e) HFIT.out hs4.2.drew
    · rw [HR.out]; exact ⟨rfl, rfl, rfl, rfl⟩
    · rw [HR.out]; exact own_nil _
    · rw [HR.out]; exact own_nil _
end Go.Proofs.YtgamhblkgojapaaGreatDoor

import Derived.Test.YtileipnoiocdlaaD3
/- The program's greatest. -/
namespace Go.Proofs.Ytileipnoiocdlaa
open Go.RowKit Go.Sort Orl
set_option linter.unusedVariables false
set_option linter.unusedSimpArgs false

/-- a map that tells f of each version's key, and of no other -/
structure Gm (vs : List Ver) (f : Ver → Nat) (L : List (Tx × Nat)) : Prop where
  at' : ∀ j, j < vs.length → fnd (vs.getD j v0).key L = some (f (vs.getD j v0))
  in' : ∀ s a, fnd s L = some a → ∃ j, j < vs.length ∧ (vs.getD j v0).key = s
  le : L.length ≤ 1024
theorem Gm.same {vs : List Ver} {f g : Ver → Nat} {L : List (Tx × Nat)} (h : Gm vs f L) (hg : ∀ j, j < vs.length → g (vs.getD j v0) = f (vs.getD j v0)) : Gm vs g L :=
  ⟨fun j hj => by rw [hg j hj]; exact h.at' j hj, h.in', h.le⟩
theorem Gm.put {vs : List Ver} {L : List (Tx × Nat)} (hn : Nk L) {f g : Ver → Nat} (h : Gm vs f L) {s : Tx} {a v : Nat} (hs : fnd s L = some v) (h1 : ∀ j, j < vs.length → (vs.getD j v0).key = s → g (vs.getD j v0) = a) (h2 : ∀ j, j < vs.length → ¬ (vs.getD j v0).key = s → g (vs.getD j v0) = f (vs.getD j v0)) : Gm vs g (Go.Proofs.Ytileipnoiocdlaa.put s a L) := by
  refine ⟨?_, ?_, by rw [length_put_some hn hs]; exact h.le⟩
  · intro j hj
    rw [fnd_put]
    by_cases e : (vs.getD j v0).key = s
    · rw [if_pos e, h1 j hj e]
    · rw [if_neg e, h2 j hj e]; exact h.at' j hj
  · intro z b hz
    rw [fnd_put] at hz
    by_cases e : z = s
    · rw [e]; exact h.in' s v hs
    · rw [if_neg e] at hz; exact h.in' z b hz
/-- the first k are there -/
structure G1 (vs : List Ver) (k : Nat) (L : List (Tx × Nat)) : Prop where
  at' : ∀ j, j < k → fnd (vs.getD j v0).key L = some (vs.getD j v0).id
  in' : ∀ s a, fnd s L = some a → ∃ j, j < k ∧ (vs.getD j v0).key = s
  le : L.length ≤ k
theorem G1.zero (vs : List Ver) : G1 vs 0 [] := ⟨fun j hj => by omega, fun s a h => by simp [fnd] at h, Nat.le_refl _⟩
theorem G1.succ {vs : List Ver} (hf : Formed vs) {k : Nat} {L : List (Tx × Nat)} (h : G1 vs k L) (hk : k < vs.length) : G1 vs (k + 1) (Go.Proofs.Ytileipnoiocdlaa.put (vs.getD k v0).key (vs.getD k v0).id L) := by
  refine ⟨?_, ?_, by have := length_put_le (vs.getD k v0).key (vs.getD k v0).id L; have := h.le; omega⟩
  · intro j hj
    rw [fnd_put]
    by_cases e : (vs.getD j v0).key = (vs.getD k v0).key
    · rw [if_pos e, hf.keys_inj (show j < vs.length by omega) hk e]
    · rw [if_neg e]
      by_cases e2 : j = k
      · subst e2; exact absurd rfl e
      · exact h.at' j (by omega)
  · intro z b hz
    rw [fnd_put] at hz
    by_cases e : z = (vs.getD k v0).key
    · exact ⟨k, by omega, e.symm⟩
    · rw [if_neg e] at hz
      obtain ⟨j, hj, e⟩ := h.in' z b hz
      exact ⟨j, by omega, e⟩
theorem G1.all {vs : List Ver} (hf : Formed vs) {L : List (Tx × Nat)} (h : G1 vs vs.length L) : Gm vs (fun y => mostTo vs y 0) L := ⟨fun j hj => h.at' j hj, fun s a hs => h.in' s a hs, Nat.le_trans h.le hf.most⟩
/-- the greatest among the first i, and x if the key is among its first q keys -/
def mQ (vs : List Ver) (i q : Nat) (y : Ver) : Nat := if mostTo vs y i < (vs.getD i v0).id ∧ inn ((vs.getD i v0).keys.take q) y.key = true then (vs.getD i v0).id else mostTo vs y i
theorem mQ_zero (vs : List Ver) (i : Nat) (y : Ver) : mQ vs i 0 y = mostTo vs y i := by
  unfold mQ; rw [if_neg]; rintro ⟨_, h⟩; simp [inn] at h
theorem mQ_all (vs : List Ver) (i : Nat) (hi : i < vs.length) (y : Ver) : mQ vs i (vs.getD i v0).keys.length y = mostTo vs y (i + 1) := by
  unfold mQ; rw [List.take_length, mostTo_succ vs y i hi]; rfl
theorem inn_snoc (xs : List Tx) (s z : Tx) : inn (xs ++ [s]) z = (inn xs z || decide (s = z)) := by unfold inn; simp
theorem inn_succ {x : Ver} {q : Nat} (hq : q < x.keys.length) (z : Tx) : inn (x.keys.take (q + 1)) z = (inn (x.keys.take q) z || decide (x.keys.getD q e0 = z)) := by
  rw [take_succ_getD x.keys q e0 hq, inn_snoc]
theorem mQ_else (vs : List Ver) (i q : Nat) (hq : q < (vs.getD i v0).keys.length) (y : Ver) (hy : ¬ y.key = (vs.getD i v0).keys.getD q e0) : mQ vs i (q + 1) y = mQ vs i q y := by
  unfold mQ; rw [inn_succ hq, decide_eq_false (fun e => hy e.symm), Bool.or_false]
theorem mQ_up (vs : List Ver) (i q : Nat) (hq : q < (vs.getD i v0).keys.length) (y : Ver) (hy : y.key = (vs.getD i v0).keys.getD q e0) (hlt : mQ vs i q y < (vs.getD i v0).id) : mQ vs i (q + 1) y = (vs.getD i v0).id := by
  unfold mQ at hlt ⊢
  rw [inn_succ hq, decide_eq_true hy.symm, Bool.or_true]
  split at hlt
  · omega
  · rw [if_pos ⟨hlt, rfl⟩]
theorem mQ_stay (vs : List Ver) (i q : Nat) (hq : q < (vs.getD i v0).keys.length) (y : Ver) (hy : y.key = (vs.getD i v0).keys.getD q e0) (hlt : ¬ mQ vs i q y < (vs.getD i v0).id) : mQ vs i (q + 1) y = mQ vs i q y := by
  unfold mQ at hlt ⊢
  rw [inn_succ hq, decide_eq_true hy.symm, Bool.or_true]
  split at hlt
  · rename_i h; rw [if_pos ⟨h.1, rfl⟩, if_pos h]
  · rename_i h; rw [if_neg (fun e => hlt e.1), if_neg h]
theorem Gm.none {vs : List Ver} {i q : Nat} {L : List (Tx × Nat)} (h : Gm vs (mQ vs i q) L) (hq : q < (vs.getD i v0).keys.length) (hn : fnd ((vs.getD i v0).keys.getD q e0) L = none) : Gm vs (mQ vs i (q + 1)) L :=
  h.same fun j hj => mQ_else vs i q hq _ fun e => by have := h.at' j hj; rw [e, hn] at this; cases this
theorem Gm.stay {vs : List Ver} (hf : Formed vs) {i q v : Nat} {L : List (Tx × Nat)} (h : Gm vs (mQ vs i q) L) (hq : q < (vs.getD i v0).keys.length) (hn : fnd ((vs.getD i v0).keys.getD q e0) L = some v) (hv : ¬ v < (vs.getD i v0).id) : Gm vs (mQ vs i (q + 1)) L :=
  h.same fun j hj => by
    by_cases e : (vs.getD j v0).key = (vs.getD i v0).keys.getD q e0
    · refine mQ_stay vs i q hq _ e ?_
      have := h.at' j hj
      rw [e, hn] at this
      cases this
      exact hv
    · exact mQ_else vs i q hq _ e
theorem Gm.up {vs : List Ver} (hf : Formed vs) {i q v : Nat} {L : List (Tx × Nat)} (hk : Nk L) (h : Gm vs (mQ vs i q) L) (hq : q < (vs.getD i v0).keys.length) (hn : fnd ((vs.getD i v0).keys.getD q e0) L = some v) (hv : v < (vs.getD i v0).id) : Gm vs (mQ vs i (q + 1)) (Go.Proofs.Ytileipnoiocdlaa.put ((vs.getD i v0).keys.getD q e0) (vs.getD i v0).id L) :=
  Gm.put hk h hn (fun j hj e => by
    refine mQ_up vs i q hq _ e ?_
    have := h.at' j hj
    rw [e, hn] at this
    cases this
    exact hv) (fun j hj e => mQ_else vs i q hq _ e)
/-- block b is the map that greatest made -/
def GrTo (w : World) (vs : List Ver) (b : Nat) (w' : World) : Prop := ∃ L, IsMp KT Vd w' b L ∧ Gm vs (mostV vs) L ∧ Keeps no w w'
set_option maxRecDepth 10000 in
set_option maxHeartbeats 2000000 in
theorem greatest_any (w : World) (o : Option Addr) (n c : Nat) (rs : List RV) (vs : List Ver) (hn : n = vs.length) (hf : FitL vs) (hfm : Formed vs) (hv : Vers w o c rs vs) :
    Calls Try.prog 64 #[.slice o n c] w fun e w' => ∃ b, e = .returned (.map (some b)) ∧ GrTo w vs b w' := by
  have HN : Hid (n = vs.length) := hn
  have hA : (n : Int) ≤ 1024 := by have := hfm.most; omega
  have HF : Hid (FitL vs) := hf
  have HFM : Hid (Formed vs) := hfm
  have HV : Hid (Vers w o c rs vs) := hv
  clear hn hf hv hfm
  have hmm := makeTD
  go_enter Try.func64, Try.ntmps64
  go_wp2_with fail
  obtain ⟨B, hB⟩ : ∃ B, B = w.heap.size := ⟨_, rfl⟩
  have HB : Hid (B = w.heap.size) := hB
  rw [← hB]
  clear hB
  go_loopw [17] (fun s17 wr => ∃ k : Nat, k ≤ n ∧ s17 = .int .i64 k ∧ Hid (∃ L, IsMp KT Vd wr B L ∧ G1 vs k L ∧ Keeps no w wr)) (fun s17 _ => n - (intOf s17).toNat)
  case atStart => exact ⟨0, by omega, rfl, [], by rw [HB.out]; exact isMp_made w, G1.zero vs, (Keeps.refl _ _).alloc _⟩
  case round =>
    rename World => wr
    obtain ⟨k, hk, rfl, HT⟩ := hrel
    by_cases hlt : k < n
    · have hlt' : (k : Int) < n := by omega
      have hil : k < vs.length := by have := HN.out; omega
      obtain ⟨L, hM, hP, hK⟩ := HT.out
      obtain ⟨b, off, r, hob, d0, d1, d2, d3, hver⟩ := (HV.out.keepsN hK).agg hil
      subst hob
      have HK0 : Hid (r.key = (vs.getD k v0).key ∧ r.key.size ≤ maxLen ∧ r.id = (vs.getD k v0).id) := ⟨hver.key, by rw [hver.key]; exact Nat.le_trans (HF.out.at hil).key maxLen_ge, hver.id⟩
      have HM : Hid (IsMp KT Vd wr B L ∧ G1 vs k L ∧ Keeps no w wr ∧ L.length ≤ 1024) := ⟨hM, hP, hK, by have := hP.le; omega⟩
      clear hver hM hP hK HT
      obtain ⟨rk, ri, rv, ro, rn, rc⟩ := r
      simp only at d0 d1 d2 d3 HK0
      obtain ⟨w1, hrun, hM1, hK1, hS1⟩ := updTD (HM.out.1.keepsN ((Keeps.refl no wr).alloc (.cells #[.string rk, .int .u64 (ri : Nat), .string rv, .slice ro rn rc] 46))) (by have := HM.out.2.2.2; unfold maxLen; omega) HK0.out.2.1 ri
      have H1 : Hid (∃ L, IsMp KT Vd w1 B L ∧ G1 vs (k + 1) L ∧ Keeps no w w1) := by
        refine ⟨_, hM1, ?_, ?_⟩
        · have := HM.out.2.1.succ HFM.out hil
          rwa [← HK0.out.1, ← HK0.out.2.2] at this
        · exact (HM.out.2.2.1.alloc _).then hK1 (fun i hi => .inr (by rw [hi]; exact Nat.le_of_eq HB.out.symm))
      clear hM1 hK1 hS1 HM HK0 HV hil
      go_wp2_with fail
      go_roundw
      case rel => exact ⟨k + 1, by omega, by go_num, H1⟩
      case measure => simp [intOf]; omega
    · have hlt' : ¬ (k : Int) < n := by omega
      have H1 : Hid (∃ L, IsMp KT Vd wr B L ∧ Gm vs (fun y => mostTo vs y 0) L ∧ Keeps no w wr) := by
        obtain ⟨L, h1, h2, h3⟩ := HT.out
        rw [show k = vs.length by have := HN.out; omega] at h2
        exact ⟨L, h1, h2.all HFM.out, h3⟩
      clear HT
      go_wp2_with fail
      go_loopw [29] (fun s29 wq => ∃ i : Nat, i ≤ n ∧ s29 = .int .i64 i ∧ Hid (∃ L, IsMp KT Vd wq B L ∧ Gm vs (fun y => mostTo vs y i) L ∧ Keeps no w wq)) (fun s29 _ => n - (intOf s29).toNat)
      case atStart => exact ⟨0, by omega, rfl, H1⟩
      case round =>
        clear H1
        rename World => wq
        obtain ⟨i, hi, rfl, HT⟩ := hrel
        by_cases hlt2 : i < n
        · have hlt2' : (i : Int) < n := by omega
          have hil : i < vs.length := by have := HN.out; omega
          obtain ⟨L, hM, hP, hK⟩ := HT.out
          obtain ⟨b, off, hob, d0, d1, d2, d3⟩ := (HV.out.keepsN hK).sl.atV (j := i) (by rw [HV.out.len]; exact hil)
          subst hob
          have HVR : Hid (∀ X, Keeps no w X → VerOf X (rs.getD i r0) (vs.getD i v0)) := fun X hX => (HV.out.keepsN hX).each i hil
          generalize rs.getD i r0 = r at d0 d1 d2 d3 HVR
          have hver := HVR.out wq hK
          have HI : Hid (r.id = (vs.getD i v0).id ∧ r.n = (vs.getD i v0).keys.length) := ⟨hver.id, hver.n⟩
          have hrn : (r.n : Int) ≤ 8796093022000 := by have := (HF.out.at hil).len; rw [hver.n]; omega
          have HKS : Hid (∀ q, q < (vs.getD i v0).keys.length → ((vs.getD i v0).keys.getD q e0).size ≤ maxLen) := fun q hq => Nat.le_trans ((HF.out.at hil).keys _ (getD_mem_lt e0 hq)) maxLen_ge
          have HM : Hid (IsMp KT Vd wq B L ∧ Gm vs (mQ vs i 0) L ∧ Keeps no w wq) := ⟨hM, hP.same fun j hj => mQ_zero vs i _, hK⟩
          clear hver hM hP hK HT
          obtain ⟨rk, ri, rv, ro, rn, rc⟩ := r
          simp only at d0 d1 d2 d3 HI hrn
          have hb0 := blk_new wq (.cells #[.string rk, .int .u64 (ri : Nat), .string rv, .slice ro rn rc] 46)
          obtain ⟨P, hPe⟩ : ∃ P, P = wq.heap.size := ⟨_, rfl⟩
          have H2 : Hid (∃ L, IsMp KT Vd (wq.alloc (.cells #[.string rk, .int .u64 (ri : Nat), .string rv, .slice ro rn rc] 46)) B L ∧ Gm vs (mQ vs i 0) L ∧ Keeps no w (wq.alloc (.cells #[.string rk, .int .u64 (ri : Nat), .string rv, .slice ro rn rc] 46))) := ⟨L, HM.out.1.keepsN ((Keeps.refl no wq).alloc _), HM.out.2.1, HM.out.2.2.alloc _⟩
          have H3 : Hid ((wq.alloc (.cells #[.string rk, .int .u64 (ri : Nat), .string rv, .slice ro rn rc] 46)).heap[P]? = some (.cells #[.string rk, .int .u64 (ri : Nat), .string rv, .slice ro rn rc] 46 (0, 0)) ∧ B ≠ P) := ⟨by rw [hPe]; exact hb0, by rw [hPe]; intro e; have := HM.out.1.lt; omega⟩
          have HPE : Hid (P = wq.heap.size) := hPe
          clear hb0 hPe HM
          go_wp2_with fail
          rw [← HPE.out]
          generalize wq.alloc (.cells #[.string rk, .int .u64 (ri : Nat), .string rv, .slice ro rn rc] 46) = W1 at H2 H3 ⊢
          clear d0 d1 d2 d3 HPE
          go_loopw [36] (fun s36 wi => ∃ q : Nat, q ≤ rn ∧ s36 = .int .i64 q ∧ Hid (∃ L, IsMp KT Vd wi B L ∧ Gm vs (mQ vs i q) L ∧ Keeps no w wi) ∧ Hid (wi.heap[P]? = some (.cells #[.string rk, .int .u64 (ri : Nat), .string rv, .slice ro rn rc] 46 (0, 0)))) (fun s36 _ => rn - (intOf s36).toNat)
          case atStart => exact ⟨0, by omega, rfl, H2, H3.out.1⟩
          case round =>
            have HBP : Hid (B ≠ P) := H3.out.2
            clear H2 H3
            rename World => wi
            obtain ⟨q, hq, rfl, HT, HPB⟩ := hrel
            by_cases hlt3 : q < rn
            · have hlt3' : (q : Int) < rn := by omega
              have hql : q < (vs.getD i v0).keys.length := by have := HI.out.2; omega
              obtain ⟨L, hM, hP, hK⟩ := HT.out
              obtain ⟨b3, off3, hro, g0⟩ := (HVR.out wi hK).sl.at hql
              simp only at hro
              subst hro
              have f1 := cell_of_blk HPB.out 1
              simp only [List.getElem?_toArray, List.getElem?_cons_succ, List.getElem?_cons_zero] at f1
              have HS : Hid (((vs.getD i v0).keys.getD q e0).size ≤ maxLen) := HKS.out q hql
              have HM : Hid (IsMp KT Vd wi B L ∧ Gm vs (mQ vs i q) L ∧ Keeps no w wi ∧ L.length ≤ 1024) := ⟨hM, hP, hK, hP.le⟩
              have HG0 : Hid (fnd ((vs.getD i v0).keys.getD q e0) L = none → Gm vs (mQ vs i (q + 1)) L) := fun h => hP.none hql h
              have HG1 : Hid (∀ v, fnd ((vs.getD i v0).keys.getD q e0) L = some v → ¬ v < ri → Gm vs (mQ vs i (q + 1)) L) := fun v h h2 => hP.stay HFM.out hql h (by rw [← HI.out.1]; exact h2)
              have HG2 : Hid (∀ v, fnd ((vs.getD i v0).keys.getD q e0) L = some v → v < ri → Gm vs (mQ vs i (q + 1)) (Go.Proofs.Ytileipnoiocdlaa.put ((vs.getD i v0).keys.getD q e0) ri L)) := fun v h h2 => by have := hP.up HFM.out hM.nk hql h (by rw [← HI.out.1]; exact h2); rwa [← HI.out.1] at this
              clear hM hP hK HT hql HKS
              generalize (vs.getD i v0).keys.getD q e0 = s at g0 HS HG0 HG1 HG2
              cases hf : fnd s L with
              | none =>
                have hlk := look2TDn HM.out.1 HS.out hf
                have H1 : Hid (∃ L, IsMp KT Vd wi B L ∧ Gm vs (mQ vs i (q + 1)) L ∧ Keeps no w wi) := ⟨L, HM.out.1, HG0.out hf, HM.out.2.2.1⟩
                clear HG0 HG1 HG2 HM hf
                go_wp2_with fail
                go_roundw
                case rel => exact ⟨q + 1, by omega, by go_num, H1, HPB⟩
                case measure => simp [intOf]; omega
              | some v =>
                have hlk := look2TD HM.out.1 HS.out hf
                by_cases hvi : v < ri
                · have hv1 : (v : Int) < (ri : Int) := by omega
                  have hv2 : decide ((v : Int) < (ri : Int)) = true := by simpa using hv1
                  obtain ⟨w1, hrun, hM1, hK1, hS1⟩ := updTD HM.out.1 (by have := HM.out.2.2.2; unfold maxLen; omega) HS.out ri
                  have H1 : Hid (∃ L, IsMp KT Vd w1 B L ∧ Gm vs (mQ vs i (q + 1)) L ∧ Keeps no w w1) := ⟨_, hM1, HG2.out v hf hvi, HM.out.2.2.1.then hK1 (fun i hi => .inr (by rw [hi]; exact Nat.le_of_eq HB.out.symm))⟩
                  have HPB1 : Hid (w1.heap[P]? = some (.cells #[.string rk, .int .u64 (ri : Nat), .string rv, .slice (some ⟨b3, off3, none⟩) rn rc] 46 (0, 0))) := hK1.at HPB.out (fun e => HBP.out e.symm)
                  clear HG0 HG1 HG2 HM hf hM1 hK1 hS1
                  go_wp2_with fail
                  go_roundw
                  case rel => exact ⟨q + 1, by omega, by go_num, H1, HPB1⟩
                  case measure => simp [intOf]; omega
                · have hv1 : ¬ (v : Int) < (ri : Int) := by omega
                  have hv2 : decide ((v : Int) < (ri : Int)) = false := by simpa using hv1
                  have H1 : Hid (∃ L, IsMp KT Vd wi B L ∧ Gm vs (mQ vs i (q + 1)) L ∧ Keeps no w wi) := ⟨L, HM.out.1, HG1.out v hf hvi, HM.out.2.2.1⟩
                  clear HG0 HG1 HG2 HM hf
                  go_wp2_with fail
                  go_roundw
                  case rel => exact ⟨q + 1, by omega, by go_num, H1, HPB⟩
                  case measure => simp [intOf]; omega
            · have hlt3' : ¬ (q : Int) < rn := by omega
              have H1 : Hid (∃ L, IsMp KT Vd wi B L ∧ Gm vs (fun y => mostTo vs y (i + 1)) L ∧ Keeps no w wi) := by
                obtain ⟨L, h1, h2, h3⟩ := HT.out
                rw [show q = (vs.getD i v0).keys.length by have := HI.out.2; omega] at h2
                exact ⟨L, h1, h2.same fun j hj => (mQ_all vs i hil _).symm, h3⟩
              clear HT
              go_wp2_with fail
              go_roundw
              case rel => exact ⟨i + 1, by omega, by go_num, H1⟩
              case measure => simp [intOf]; omega
        · have hlt2' : ¬ (i : Int) < n := by omega
          have H1 : Hid (GrTo w vs B wq) := by
            obtain ⟨L, h1, h2, h3⟩ := HT.out
            rw [show i = vs.length by have := HN.out; omega] at h2
            exact ⟨L, h1, h2.same fun j hj => (mostTo_all vs _).symm, h3⟩
          clear HT
          go_wp2_with fail
          go_ret
          exact ⟨_, rfl, H1.out⟩
end Go.Proofs.Ytileipnoiocdlaa
/- The program's Needs, Cut. -/
namespace Go.Proofs.Ytileipnoiocdlaa
open Go.RowKit Go.Sort Orl
set_option linter.unusedVariables false
set_option linter.unusedSimpArgs false

set_option maxRecDepth 10000 in
set_option maxHeartbeats 2000000 in
theorem pNeeds_any (w : World) (o : Option Addr) (n c : Nat) (rs : List RV) (vs : List Ver) (hn : n = vs.length) (hf : FitL vs) (hv : Vers w o c rs vs) :
    Calls Try.prog 48 #[.slice o n c] w fun e w' => ∃ u, e = .returned u ∧ NeedTo w vs u w' := by
  have HN : Hid (n = vs.length) := hn
  have hA : (n : Int) ≤ 2199023255500 := by have := hf.len; omega
  have HF : Hid (FitL vs) := hf
  have HV : Hid (Vers w o c rs vs) := hv
  have HFO : Hid (Calls Try.prog 63 #[.slice o n c] w fun e w' => e = .returned (.bool (formedB vs)) ∧ Keeps no w w') := pFormed_any w o n c rs vs hn hf hv
  clear hn hf hv
  go_enter Try.func48, Try.ntmps48
  go_wp2_with fail
  refine Calls.mono HFO.out ?_
  rintro e w1 ⟨rfl, hk1⟩
  have HK1 : Hid (Keeps no w w1) := hk1
  clear hk1 HFO
  obtain ⟨B, hB⟩ : ∃ B, B = formedB vs := ⟨_, rfl⟩
  have HB : Hid (B = formedB vs) := hB
  rw [← hB]
  clear hB
  cases B with
  | false =>
    go_wp2_with fail
    go_ret2
    exact ⟨_, rfl, .inl ⟨HB.out.symm, rfl, HK1.out⟩⟩
  | true =>
    have HFM : Hid (Formed vs) := (formedB_iff vs).1 HB.out.symm
    have hn1024 : (n : Int) ≤ 1024 := by have := HFM.out.most; have := HN.out; omega
    have HGR : Hid (Calls Try.prog 64 #[.slice o n c] w1 fun e w' => ∃ b, e = .returned (.map (some b)) ∧ GrTo w1 vs b w') := greatest_any w1 o n c rs vs HN.out HF.out HFM.out (HV.out.keepsN HK1.out)
    go_wp2_with fail
    refine Calls.mono HGR.out ?_
    rintro e w2 ⟨B, rfl, hgr⟩
    obtain ⟨L, hM, hG, hK⟩ := hgr
    have HM : Hid (IsMp KT Vd w2 B L ∧ Gm vs (mostV vs) L ∧ Keeps no w w2) := ⟨hM, hG, HK1.out.trans hK⟩
    clear hM hG hK HGR HK1
    go_wp2_with fail
    go_loopw [5, 16] (fun s5 s16 wr => ∃ (i : Nat) (u : Value), i ≤ n ∧ s16 = .int .i64 i ∧ s5 = u ∧ Hid (∃ o n c, u = .slice o n c ∧ n = (needsTo vs i).length ∧ Own WE wr o c (needsTo vs i) ∧ New w2 o ∧ Keeps no w2 wr)) (fun _ s16 _ => n - (intOf s16).toNat)
    case atStart => exact ⟨0, _, by omega, rfl, rfl, none, 0, 0, rfl, rfl, own_nil _, new_none _, Keeps.refl _ _⟩
    case round =>
      rename World => wr
      obtain ⟨i, u, hi, rfl, rfl, HL⟩ := hrel
      obtain ⟨oo, no', co, rfl, hno, hoo, hnoo, hkk⟩ := HL.out
      have HO : Hid (no' = (needsTo vs i).length ∧ Own WE wr oo co (needsTo vs i) ∧ New w2 oo ∧ Keeps no w2 wr) := ⟨hno, hoo, hnoo, hkk⟩
      clear HL hno hoo hnoo hkk
      by_cases hlt : i < n
      · have hlt' : (i : Int) < n := by omega
        have hil : i < vs.length := by have := HN.out; omega
        have HKR : Hid (Keeps no w wr) := HM.out.2.2.trans HO.out.2.2.2
        obtain ⟨b, off, r, hob, d0, d1, d2, d3, hver⟩ := (HV.out.keepsN HKR.out).agg hil
        subst hob
        have HNS : Hid (needsTo vs (i + 1) = needsTo vs i ++ (if (vs.getD i v0).id < mostV vs (vs.getD i v0) then [((vs.getD i v0).key, mostV vs (vs.getD i v0))] else [])) := needsTo_succ vs i hil
        have HE : Hid (r.key = (vs.getD i v0).key ∧ r.id = (vs.getD i v0).id ∧ r.key.size ≤ maxLen ∧ fnd r.key L = some (mostV vs (vs.getD i v0))) := ⟨hver.key, hver.id, by rw [hver.key]; exact Nat.le_trans (HF.out.at hil).key maxLen_ge, by rw [hver.key]; exact HM.out.2.1.at' i hil⟩
        clear hver
        obtain ⟨rk, ri, rv, ro, rn, rc⟩ := r
        simp only at d0 d1 d2 d3 HE
        rw [← HE.out.1, ← HE.out.2.1] at HNS
        generalize mostV vs (vs.getD i v0) = M at HE HNS
        have HKA : Hid (Keeps no w2 (wr.alloc (.cells #[.string rk, .int .u64 (ri : Nat), .string rv, .slice ro rn rc] 46))) := HO.out.2.2.2.alloc _
        have hlk := lookTD (HM.out.1.keepsN HKA.out) HE.out.2.2.1 HE.out.2.2.2
        have HLB : Hid ((needsTo vs i).length ≤ 1024) := by have := needsTo_len vs i; have h := hn1024; show _ ≤ _; omega
        have HOW : Hid (Own WE (wr.alloc (.cells #[.string rk, .int .u64 (ri : Nat), .string rv, .slice ro rn rc] 46)) oo co (needsTo vs i)) := HO.out.2.1.keepsN ((Keeps.refl no wr).alloc _)
        clear HE hil
        by_cases h5 : ri < M
        · have e5 : (ri : Int) < (M : Int) := by omega
          have HNN : Hid (needsTo vs (i + 1) = needsTo vs i ++ [(rk, M)]) := by show _ = _; rw [HNS.out, if_pos h5]
          clear HNS
          have HROW : Hid (Row WE ((wr.alloc (.cells #[.string rk, .int .u64 (ri : Nat), .string rv, .slice ro rn rc] 46)).alloc (.cells #[.string rk, .int .u64 (M : Nat)] 50)) (some ⟨wr.heap.size + 1, 0, none⟩) [(rk, M)]) := by
            have h := (own_oneW (wr.alloc (.cells #[.string rk, .int .u64 (ri : Nat), .string rv, .slice ro rn rc] 46)) rk M).row
            have e : (wr.alloc (.cells #[.string rk, .int .u64 (ri : Nat), .string rv, .slice ro rn rc] 46)).heap.size = wr.heap.size + 1 := by simp
            rw [e] at h
            exact h
          go_wp2_with (at_builtin; refine wpList_app okW rfl _ _ rfl _ _ _ (needsTo vs i) rfl HO.out.1 (HOW.out.keepsN ((Keeps.refl no (wr.alloc (.cells #[.string rk, .int .u64 (ri : Nat), .string rv, .slice ro rn rc] 46))).alloc _)) _ _ _ [(rk, M)] rfl rfl (fun h => by cases h) HROW.out (by have := HLB.out; simp [WE]; omega) (by have := HLB.out; simp; omega) ?_; intro os6 cs6 ws6 hos6 haps6)
          go_roundw
          case rel =>
            have k4 := haps6.new (w0 := w2) HO.out.2.2.1 (HKA.out.alloc _)
            refine ⟨i + 1, _, by omega, by go_num, rfl, os6, _, cs6, rfl, ?_, ?_, k4.1, k4.2⟩
            · rw [HNN.out, HO.out.1]; simp
            · rw [HNN.out]; exact hos6
          case measure => simp [intOf]; omega
        · have e5 : ¬ (ri : Int) < (M : Int) := by omega
          have HNN : Hid (needsTo vs (i + 1) = needsTo vs i) := by show _ = _; rw [HNS.out, if_neg h5, List.append_nil]
          clear HNS
          go_wp2_with fail
          go_roundw
          case rel => exact ⟨i + 1, _, by omega, by go_num, rfl, oo, no', co, rfl, by rw [HNN.out]; exact HO.out.1, by rw [HNN.out]; exact HOW.out, HO.out.2.2.1, HKA.out⟩
          case measure => simp [intOf]; omega
      · have hlt' : ¬ (i : Int) < n := by omega
        have H1 : Hid (NeedTo w vs (.tuple #[.slice oo no' co, .int .i64 0]) wr) := by
          have h := HO.out
          rw [show i = vs.length by have := HN.out; omega, needsTo_all] at h
          exact .inr ⟨HB.out.symm, oo, no', co, rfl, h.1, h.2.1, h.2.2.1.of_le HM.out.2.2.size, HM.out.2.2.trans h.2.2.2⟩
        clear HO HM
        go_wp2_with fail
        go_ret2
        exact ⟨_, rfl, H1.out⟩
end Go.Proofs.Ytileipnoiocdlaa

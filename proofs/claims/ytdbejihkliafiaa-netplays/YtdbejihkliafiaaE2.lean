/- NetPlays: one call on a net and on the document's. -/
import Derived.Test.YtdbejihkliafiaaE1
import Derived.Test.YtdbejihkliafiaaL0
import Derived.Deep.CutBlock
import Derived.Deep.CutRange
namespace Go.Proofs.Ytdbejihkliafiaa
open Go.RowKit Go.Sort
set_option linter.unusedVariables false
set_option linter.unusedSimpArgs false

/-- a net and the document's, in one state -/
structure Two (w : World) (p q : Nat) (F G : Nat → Prop) (s : NS) (K : Nat) : Prop where
  n : IsN w p F s
  d : IsD w q G s
  sep : ∀ i, F i → ¬ G i
  wf : NWf s K
theorem Two.keeps {S : Nat → Prop} {w w' : World} {p q : Nat} {F G : Nat → Prop} {s : NS} {K : Nat} (h : Two w p q F G s K) (k : Keeps S w w') (hs : ∀ i, F i ∨ G i → ¬ S i) : Two w' p q F G s K := ⟨h.n.keeps k (fun i hi => hs i (.inl hi)), h.d.keeps k (fun i hi => hs i (.inr hi)), h.sep, h.wf⟩
theorem Two.keepsN {w w' : World} {p q : Nat} {F G : Nat → Prop} {s : NS} {K : Nat} (h : Two w p q F G s K) (k : Keeps no w w') : Two w' p q F G s K := h.keeps k (fun _ _ h => h)
/-- behind a call on both -/
def TwoTo (w : World) (p q : Nat) (F G : Nat → Prop) (s' : NS) (K : Nat) (w' : World) : Prop := ∃ F' G', Two w' p q F' G' s' K ∧ (∀ i, F' i → F i ∨ w.heap.size ≤ i) ∧ (∀ i, G' i → G i ∨ w.heap.size ≤ i) ∧ Keeps (fun i => F i ∨ G i) w w'
theorem two_of {w w1 w1' w2 : World} {p q : Nat} {F G F' G' : Nat → Prop} {s s' : NS} {K K' : Nat} (h : Two w p q F G s K) (n1 : IsN w1 p F' s') (f1 : ∀ i, F' i → F i ∨ w.heap.size ≤ i) (k1 : Keeps F w w1) (k1' : Keeps no w1 w1') (n2 : IsD w2 q G' s') (f2 : ∀ i, G' i → G i ∨ w1'.heap.size ≤ i) (k2 : Keeps G w1' w2) (hw : NWf s' K') : TwoTo w p q F G s' K' w2 := by
  have hs1 := k1.size
  have hs1' := k1'.size
  have l1 := n1.lt
  have l2 := h.d.lt
  have hFG : ∀ i, F' i → ¬ G i := fun i hi hg => (f1 i hi).elim (fun e => h.sep i e hg) (fun e => by have := l2 i hg; omega)
  refine ⟨F', G', ⟨(n1.keepsN k1').keeps k2 hFG, n2, fun i hi hg => (f2 i hg).elim (hFG i hi) (fun e => by have := l1 i hi; omega), hw⟩, f1, fun i hi => (f2 i hi).imp (fun h => h) (fun h => by omega), ((k1.mono (fun i hi => .inl hi)).trans k1'.of_no).trans (k2.mono (fun i hi => .inr hi))⟩
theorem Two.mid {w w1 w1' : World} {p q : Nat} {F G : Nat → Prop} {s : NS} {K : Nat} (h : Two w p q F G s K) (k1 : Keeps F w w1) (k1' : Keeps no w1 w1') : IsD w1' q G s := (h.d.keeps k1 (fun i hi hf => h.sep i hf hi)).keepsN k1'
theorem two_later {w w1 w2 : World} {p q : Nat} {F G : Nat → Prop} {s' : NS} {K : Nat} (k : Keeps no w w1) (h : TwoTo w1 p q F G s' K w2) : TwoTo w p q F G s' K w2 := by
  obtain ⟨F', G', t1, t2, t3, t4⟩ := h
  have hs := k.size
  exact ⟨F', G', t1, fun i hi => (t2 i hi).imp (fun h => h) (fun h => by omega), fun i hi => (t3 i hi).imp (fun h => h) (fun h => by omega), k.of_no.trans t4⟩
theorem own_preB {w : World} {o : Option Addr} {c : Nat} {xs zs : List UInt8} (h : Own BE w o c (xs ++ zs)) : Sl BE w o c xs := by
  have h1 := h.sl
  refine ⟨?_, by have := h1.cap; rw [List.length_append] at this; omega, h1.nil⟩
  have := h1.row.take okB xs.length
  rwa [List.take_left] at this
theorem own_setB {w : World} {o : Option Addr} {c : Nat} {xs : List UInt8} (h : Own BE w o c xs) {j : Nat} (hj : j < xs.length) : ∃ g, o = some ⟨g, 0, none⟩ ∧ w.frozen? ⟨g, j, none⟩ = false ∧ (∃ v, w.cell? ⟨g, j, none⟩ = some v) ∧ Own BE (w.setCell ⟨g, j, none⟩ (.int .u8 238)) o c (xs.set j 238) ∧ Keeps (inO o) w (w.setCell ⟨g, j, none⟩ (.int .u8 238)) := by
  obtain ⟨g, e, hf, h1, h2⟩ := h.store1 okB 0 j hj 0 (by decide) 238 (bv 238) rfl
  have e1 : j * BE.k + 0 = j := by show j * 1 + 0 = j; omega
  rw [e1] at h1 h2
  obtain ⟨b, off, e2, hc⟩ := rowB_at h.row hj
  rw [e] at e2
  injection e2 with e2
  injection e2 with e3 e4 _
  subst e3 e4
  rw [Nat.zero_add] at hc
  exact ⟨g, e, hf j, ⟨_, hc⟩, h1, h2⟩
def TwoL (wa w2 : World) (p q : Nat) (F G : Nat → Prop) (s' : NS) (K : Nat) (w' : World) : Prop := ∃ F' G', Two w' p q F' G' s' K ∧ (∀ i, F' i → F i ∨ w2.heap.size ≤ i) ∧ (∀ i, G' i → G i ∨ w2.heap.size ≤ i) ∧ Keeps (fun i => F i ∨ G i) wa w'
theorem twoL_to {wa w2 w' : World} {p q : Nat} {F G : Nat → Prop} {s' : NS} {K : Nat} (k : Keeps no wa w2) (h : TwoL wa w2 p q F G s' K w') : TwoTo wa p q F G s' K w' := by
  obtain ⟨F', G', t1, t2, t3, t4⟩ := h
  have hs := k.size
  exact ⟨F', G', t1, fun i hi => (t2 i hi).imp (fun h => h) (fun h => by omega), fun i hi => (t3 i hi).imp (fun h => h) (fun h => by omega), t4⟩
def PlTo (w : World) (p q : Nat) (F G : Nat → Prop) (K : Nat) (e : Ending) (w' : World) : Prop := e = .returned (.bool true) ∧ ∃ s', TwoTo w p q F G s' K w'
--BEGIN PLAYS
set_option maxRecDepth 20000 in
set_option maxHeartbeats 8000000 in
theorem plays_any (w : World) (p q : Nat) (F G : Nat → Prop) (s : NS) (K : Nat) (kd wh A B : Int) (bo : Option Addr) (bn bc : Nat) (bs : List UInt8) (h : Two w p q F G s K) (hK : K ≤ 2600000000000) (hn : bn = bs.length) (hl : bs.length ≤ 140737488355320) (hs : Sl BE w bo bc bs) (ho : bs ≠ [] → ∀ i, inO bo i → ¬ F i ∧ ¬ G i) (hA : -9223372036854775808 ≤ A ∧ A ≤ 9223372036854775807) (hB : -9223372036854775808 ≤ B ∧ B ≤ 9223372036854775807) :
    Calls Try.prog 19 #[.pointer (some ⟨p, 0, none⟩), .pointer (some ⟨q, 0, none⟩), .agg #[.int .i64 kd, .int .i64 wh, .int .i64 A, .int .i64 B, .slice bo bn bc]] w (PlTo w p q F G (K + 1)) := by
  have HK : Hid (K ≤ 2600000000000) := hK
  have HAB : Hid ((-9223372036854775808 ≤ A ∧ A ≤ 9223372036854775807) ∧ -9223372036854775808 ≤ B ∧ B ≤ 9223372036854775807) := ⟨hA, hB⟩
  have HBY : Hid (bn = bs.length ∧ bs.length ≤ 140737488355320 ∧ Sl BE w bo bc bs ∧ (bs ≠ [] → ∀ i, inO bo i → ¬ F i ∧ ¬ G i)) := ⟨hn, hl, hs, ho⟩
  have HT : Hid (Two w p q F G s K) := h
  obtain ⟨BO, hBO⟩ : ∃ BO, BO = w.heap.size := ⟨_, rfl⟩
  have HWA : Hid (∀ wa, wa = w.alloc (.cells #[.int .i64 kd, .int .i64 wh, .int .i64 A, .int .i64 B, .slice bo bn bc] 42) → wa.heap[BO]? = some (.cells #[.int .i64 kd, .int .i64 wh, .int .i64 A, .int .i64 B, .slice bo bn bc] 42 (0, 0)) ∧ Keeps no w wa) := by
    rintro wa rfl
    exact ⟨by rw [hBO]; exact blk_new w _, (Keeps.refl _ _).alloc _⟩
  clear h hK hn hl hs ho hA hB
  go_enter Try.func19, Try.ntmps19
  go_upto_region 1 with fail
  have hwa := HWA.out _ rfl
  rw [← hBO]
  generalize w.alloc (.cells #[.int .i64 kd, .int .i64 wh, .int .i64 A, .int .i64 B, .slice bo bn bc] 42) = wa at hwa ⊢
  have HTA : Hid (Two wa p q F G s K) := HT.out.keepsN hwa.2
  have HBA : Hid (wa.heap[BO]? = some (.cells #[.int .i64 kd, .int .i64 wh, .int .i64 A, .int .i64 B, .slice bo bn bc] 42 (0, 0))) := hwa.1
  have HKA : Hid (Keeps no w wa) := hwa.2
  have HNF : Hid (¬ F BO ∧ ¬ G BO) := ⟨fun hf => by have := HT.out.n.lt BO hf; omega, fun hf => by have := HT.out.d.lt BO hf; omega⟩
  have HEND : Hid (∀ s' w1 w2 K', K' ≤ K + 1 → TwoTo wa p q F G s' K' w1 → Keeps no w1 w2 → PlTo w p q F G (K + 1) (.returned (.bool true)) w2) := by
    intro s' w1 w2 K' hK' h1 k2
    obtain ⟨F', G', t1, t2, t3, t4⟩ := h1
    have hsz := HKA.out.size
    refine ⟨rfl, s', F', G', ⟨t1.n.keepsN k2, t1.d.keepsN k2, t1.sep, t1.wf.mono hK'⟩, fun i hi => (t2 i hi).imp (fun h => h) (fun h => by omega), fun i hi => (t3 i hi).imp (fun h => h) (fun h => by omega), (HKA.out.of_no.trans t4).trans k2.of_no⟩
  clear hwa HWA hBO HT
  have a0 := cell_of_blk HBA.out 0
  have a2 := cell_of_blk HBA.out 2
  have a3 := cell_of_blk HBA.out 3
  have a4 := cell_of_blk HBA.out 4
  simp only [List.getElem?_toArray, List.getElem?_cons_succ, List.getElem?_cons_zero] at a0 a2 a3 a4
  by_cases q1 : kd = 1
  · subst q1
    have HO1 : Hid (∀ X, Keeps (fun i => F i ∨ G i) wa X → Sl BE X bo bc bs) := fun X hX => (HBY.out.2.2.1.keepsN HKA.out).keepsE hX (fun hb i hi e => by have := HBY.out.2.2.2 hb i hi; rcases e with e | e; exact this.1 e; exact this.2 e)
    have HOW : Hid (∀ X, Keeps (fun i => F i ∨ G i) wa X → Calls Try.prog 10 #[.slice bo bn bc] X fun e w' => ∃ v, e = .returned v ∧ Gives BE X bs v w') := fun X hX => own_any X bo bn bc bs HBY.out.1 (HO1.out X hX) (by have := HBY.out.2.1; omega)
    have HBN : Hid ((bs.length + 2) * BE.nb ≤ 140737488355328 ∧ bs.length + 2 ≤ 140737488355328 ∧ bn = bs.length) := by
      have := HBY.out.2.1
      exact ⟨by simp [BE]; omega, by omega, HBY.out.1⟩
    have hbnI : (bn : Int) ≤ 140737488355320 := by have := HBY.out.1; have := HBY.out.2.1; omega
    go_wp2_with fail
    refine (HOW.out wa (Keeps.refl _ _)).mono ?_
    rintro e w1 ⟨v, rfl, ob, nb, cb, rfl, hnb, hob, hwb, hkb⟩
    have H1 : Hid (Own BE w1 ob cb bs ∧ New wa ob ∧ Keeps no wa w1 ∧ nb = bs.length) := ⟨hob, hwb, hkb, hnb.out⟩
    clear hob hwb hkb hnb
    obtain ⟨wl, hwl⟩ : ∃ wl, wl = w1.alloc (.cells #[.int .u8 165, .int .u8 166] 5) := ⟨_, rfl⟩
    have HRL : Hid (Row BE wl (some ⟨w1.heap.size, 0, none⟩) [165, 166] ∧ Own BE wl ob cb bs ∧ Keeps no wa wl) := by
      rw [hwl]
      exact ⟨lit_row okB w1 [165, 166] #[bv 165, bv 166] (0, 0) (by simp [cells_B]), H1.out.1.keepsN ((Keeps.refl _ _).alloc _), H1.out.2.2.1.alloc _⟩
    go_upto_region 4 with (at_builtin; rw [← hwl]; refine wpList_app okB rfl _ _ rfl ob nb cb bs rfl H1.out.2.2.2 HRL.out.2.1 (some ⟨w1.heap.size, 0, none⟩) 2 2 [165, 166] rfl rfl (fun h => by cases h) HRL.out.1 HBN.out.1 HBN.out.2.1 ?_; intro of cf w2 ho2 ha2)
    have hnbb : nb = bn := by rw [H1.out.2.2.2, HBN.out.2.2]
    subst hnbb
    have H2 : Hid (Own BE w2 of cf (bs ++ [165, 166]) ∧ New wa of ∧ Keeps no wa w2 ∧ nb + 2 ≤ cf) := by
      have h5 := ha2.new H1.out.2.1 HRL.out.2.2
      refine ⟨ho2, h5.1, h5.2, ?_⟩
      have h6 := ho2.cap.1
      rw [List.length_append] at h6
      have h7 := HBN.out.2.2
      have h8 : ([165, 166] : List UInt8).length = 2 := rfl
      omega
    clear ho2 ha2 HRL hwl H1 a0 a2 a3 a4
    have hb2 := H2.out.2.2.1.drew.at HBA.out (fun h => h)
    have y2 := cell_of_blk hb2 2
    have y3 := cell_of_blk hb2 3
    have y4 := cell_of_blk hb2 4
    simp only [List.getElem?_toArray, List.getElem?_cons_succ, List.getElem?_cons_zero] at y2 y3 y4
    have hct := cutO of (nb + 2) cf nb (by have := H2.out.2.2.2; omega) H2.out.1.sl.nil
    have HSE : Hid (Calls Try.prog 9 #[.pointer (some ⟨p, 0, none⟩), .int .i64 A, .int .i64 B, .slice of nb cf] w2.drew (NTo IsN w2.drew p F (.tuple #[.int .i64 ((sendN s A B : Nat) : Int), .int .i64 (sendE s A B)]) (sendS s A B bs))) := by
      have kd2 := H2.out.2.2.1.drew
      refine nSend_any w2.drew p F s K A B of nb cf bs (HTA.out.n.keepsN kd2) HTA.out.wf HK.out HBN.out.2.2 (by have := HBY.out.2.1; omega) ((own_preB H2.out.1).keepsN ((Keeps.refl _ _).drew)) (fun i hi hf => ?_)
      have h1 := H2.out.2.1 i hi
      have h2 := HTA.out.n.lt i hf
      omega
    clear hb2
    go_cut [8, 9] from 31 to 44 (fun t8 t9 wx => t8 = .int .i64 ((sendN s A B : Nat) : Int) ∧ t9 = .int .i64 (sendE s A B) ∧ Hid (∃ F', IsN wx p F' (sendS s A B bs) ∧ (∀ i, F' i → F i ∨ w2.heap.size ≤ i) ∧ Keeps F w2 wx))
    case first =>
      go_region_with (go_at_call 9; refine HSE.out.mono ?_; rintro e w3 ⟨rfl, F', g1, g2, g3⟩)
      all_goals
        have HZ : Hid (∃ F', IsN w3 p F' (sendS s A B bs) ∧ (∀ i, F' i → F i ∨ w2.heap.size ≤ i) ∧ Keeps F w2 w3) := ⟨F', g1, g2, ((Keeps.refl F w2).drew).trans g3⟩
        clear g1 g2 g3
        go_wp2_with fail
        go_meet
        exact ⟨rfl, rfl, HZ⟩
    case rest =>
      obtain ⟨rfl, rfl, HX⟩ := hcut
      obtain ⟨F', g1, g2, g3⟩ := HX.out
      have HN1 : Hid (IsN wc p F' (sendS s A B bs) ∧ (∀ i, F' i → F i ∨ w2.heap.size ≤ i) ∧ Keeps F w2 wc) := ⟨g1, g2, g3⟩
      have kw : Keeps (fun i => F i ∨ G i) wa wc := H2.out.2.2.1.of_no.trans (g3.mono (fun i hi => .inl hi))
      have hb3 := kw.at HBA.out (fun e => e.elim HNF.out.1 HNF.out.2)
      clear y2 y3 y4 hct HSE g1 g2 g3 HX
      have y2 := cell_of_blk hb3 2
      have y3 := cell_of_blk hb3 3
      have y4 := cell_of_blk hb3 4
      simp only [List.getElem?_toArray, List.getElem?_cons_succ, List.getElem?_cons_zero] at y2 y3 y4
      have HDS : Hid (Calls Try.prog 28 #[.pointer (some ⟨q, 0, none⟩), .int .i64 A, .int .i64 B, .slice bo nb bc] wc (NTo IsD wc q G (.tuple #[.int .i64 ((sendN s A B : Nat) : Int), .int .i64 (sendE s A B)]) (sendS s A B bs))) := dSend_any wc q G s K A B bo nb bc bs ((HTA.out.d.keepsN H2.out.2.2.1).keeps HN1.out.2.2 (fun i hi hf => HTA.out.sep i hf hi)) HTA.out.wf HK.out HBN.out.2.2 (by have := HBY.out.2.1; omega) (HO1.out wc kw) (fun hb i hi => (HBY.out.2.2.2 hb i hi).2)
      have HKW : Hid (Keeps (fun i => F i ∨ G i) wa wc) := kw
      clear kw hb3
      go_wp2_with fail
      refine HDS.out.mono ?_
      rintro e w4 ⟨rfl, G', g1, g2, g3⟩
      have HT4 : Hid (TwoTo w2 p q F G (sendS s A B bs) (K + 1) w4) := two_of (HTA.out.keepsN H2.out.2.2.1) HN1.out.1 HN1.out.2.1 HN1.out.2.2 (Keeps.refl _ _) g1 g2 g3 (HTA.out.wf.send A B (by have := HBY.out.2.1; omega))
      have HK4 : Hid (Keeps (fun i => F i ∨ G i) wa w4) := HKW.out.trans (g3.mono (fun i hi => .inr hi))
      have hb4 := HK4.out.at HBA.out (fun e => e.elim HNF.out.1 HNF.out.2)
      have HF4 : Hid (Own BE w4 of cf (bs ++ [165, 166])) := by
        have l1 := HTA.out.n.lt
        have l2 := HTA.out.d.lt
        refine (H2.out.1.keeps HN1.out.2.2 (fun i hi hf => ?_)).keeps g3 (fun i hi hf => ?_)
        · have := H2.out.2.1 i hi; have := l1 i hf; omega
        · have := H2.out.2.1 i hi; have := l2 i hf; omega
      clear y2 y3 y4 HDS g1 g2 g3
      have y4 := cell_of_blk hb4 4
      simp only [List.getElem?_toArray, List.getElem?_cons_succ, List.getElem?_cons_zero] at y4
      clear hb4
      go_wp2_with fail
      refine (HOW.out w4 HK4.out).mono ?_
      rintro e w5 ⟨v, rfl, oe, ne, ce, rfl, hne, hoe, hwe, hke⟩
      have H5 : Hid (Own BE w5 oe ce bs ∧ New w4 oe ∧ Keeps no w4 w5 ∧ ne = bs.length) := ⟨hoe, hwe, hke, hne.out⟩
      clear hoe hwe hke hne y4
      obtain ⟨wl, hwl⟩ : ∃ wl, wl = w5.alloc (.cells #[.int .u8 165, .int .u8 166] 5) := ⟨_, rfl⟩
      have HRL : Hid (Row BE wl (some ⟨w5.heap.size, 0, none⟩) [165, 166] ∧ Own BE wl oe ce bs ∧ Keeps no w4 wl) := by
        rw [hwl]
        exact ⟨lit_row okB w5 [165, 166] #[bv 165, bv 166] (0, 0) (by simp [cells_B]), H5.out.1.keepsN ((Keeps.refl _ _).alloc _), H5.out.2.2.1.alloc _⟩
      have HSM : Hid (∀ ox cx w6, Own BE w6 ox cx (bs ++ [165, 166]) → Ap wl oe ox w6 → Calls Try.prog 15 #[.slice of (nb + 2) cf, .slice ox (ne + 2) cx] w6 fun e w' => e = .returned (.bool true) ∧ w' = w6 ∧ Keeps no w4 w6) := by
        intro ox cx w6 hox hax
        have h5 := hax.new H5.out.2.1 HRL.out.2.2
        have h8 : ([165, 166] : List UInt8).length = 2 := rfl
        refine (same_yes w6 of (nb + 2) cf ox (ne + 2) cx (bs ++ [165, 166]) (by rw [List.length_append, h8, HBN.out.2.2]) (by rw [List.length_append, h8, H5.out.2.2.2]) (HF4.out.keepsN h5.2).row hox.row).mono ?_
        rintro e w' ⟨rfl, hw⟩
        exact ⟨rfl, hw, h5.2⟩
      go_wp2_with (at_builtin; rw [← hwl]; refine wpList_app okB rfl _ _ rfl oe ne ce bs rfl H5.out.2.2.2 HRL.out.2.1 (some ⟨w5.heap.size, 0, none⟩) 2 2 [165, 166] rfl rfl (fun h => by cases h) HRL.out.1 HBN.out.1 HBN.out.2.1 ?_; intro ox cx w6 hox hax)
      refine (HSM.out ox cx w6 hox hax).mono ?_
      rintro e w7 ⟨rfl, hw7, hk7⟩
      subst w7
      have HL0 : Hid (∃ xs, xs.length = nb + 2 ∧ Own BE w6 of cf xs ∧ TwoL wa w2 p q F G (sendS s A B bs) (K + 1) w6) := by
        have h8 : ([165, 166] : List UInt8).length = 2 := rfl
        refine ⟨_, by rw [List.length_append, h8, HBN.out.2.2], HF4.out.keepsN hk7, ?_⟩
        obtain ⟨F2, G2, t1, t2, t3, t4⟩ := HT4.out
        exact ⟨F2, G2, t1.keepsN hk7, t2, t3, (H2.out.2.2.1.of_no.trans t4).trans hk7.of_no⟩
      clear hox hax hk7 HSM HRL hwl H5 HF4 HK4 HT4 HKW HN1
      go_wp2_with fail
      go_loopw [13] (fun s13 wr => ∃ i : Nat, i ≤ nb + 2 ∧ s13 = .int .i64 i ∧ Hid (∃ xs, xs.length = nb + 2 ∧ Own BE wr of cf xs ∧ TwoL wa w2 p q F G (sendS s A B bs) (K + 1) wr)) (fun s13 _ => nb + 2 - (intOf s13).toNat)
      case atStart => exact ⟨0, by omega, rfl, HL0⟩
      case round =>
        rename World => wr
        obtain ⟨i, hi, rfl, HR⟩ := hrel
        clear HL0
        obtain ⟨xs, hxl, hox, htw⟩ := HR.out
        by_cases hlt : i < nb + 2
        · have hlt' : (i : Int) < (nb : Int) + 2 := by omega
          obtain ⟨g, eg, hfz, ⟨vv, hcv⟩, ho', hk'⟩ := own_setB hox (j := i) (by omega)
          have HN : Hid (∃ xs, xs.length = nb + 2 ∧ Own BE (wr.setCell ⟨g, i, none⟩ (.int .u8 238)) of cf xs ∧ TwoL wa w2 p q F G (sendS s A B bs) (K + 1) (wr.setCell ⟨g, i, none⟩ (.int .u8 238))) := by
            refine ⟨_, by rw [List.length_set]; exact hxl, ho', ?_⟩
            obtain ⟨F2, G2, t1, t2, t3, t4⟩ := htw
            have l1 := HTA.out.n.lt
            have l2 := HTA.out.d.lt
            have hlo : ∀ j, inO of j → wa.heap.size ≤ j ∧ j < w2.heap.size := fun j hj => ⟨H2.out.2.1 j hj, H2.out.1.lt j hj⟩
            refine ⟨F2, G2, t1.keeps hk' (fun j hj hof => ?_), t2, t3, ?_⟩
            · have h1 := hlo j hof
              rcases hj with hj | hj
              · rcases t2 j hj with e | e
                · have := l1 j e; omega
                · omega
              · rcases t3 j hj with e | e
                · have := l2 j e; omega
                · omega
            · exact t4.then hk' (fun j hj => .inr (hlo j hj).1)
          subst eg
          clear hox htw ho' hk' HR
          go_wp2_with fail
          go_roundw
          case rel => exact ⟨i + 1, by omega, by go_num, HN⟩
          case measure => simp [intOf]; omega
        · have hlt' : ¬ (i : Int) < (nb : Int) + 2 := by omega
          have HFN : Hid (PlTo w p q F G (K + 1) (.returned (.bool true)) wr) := HEND.out _ wr wr (K + 1) (by omega) (twoL_to H2.out.2.2.1 htw) (Keeps.refl _ _)
          clear hox htw HR
          generalize sendN s A B = x1 at *
          generalize sendE s A B = x2 at *
          go_wp2_with fail
          go_ret
          exact HFN.out
  have q1b : (kd == 1) = false := by simpa using q1
  by_cases q2 : kd = 2
  · subst q2
    go_wp2_with fail
    refine (nDeliver_any wa p F s K A HTA.out.n HTA.out.wf HK.out).mono ?_
    rintro e w1 ⟨r, F', rfl, hr, hz, g1, g2, g3⟩
    have HN1 : Hid (FOf w1 r (delF s A) ∧ (∀ i, zO r.o r.c i → F i ∨ wa.heap.size ≤ i) ∧ IsN w1 p F' (delS s A) ∧ (∀ i, F' i → F i ∨ wa.heap.size ≤ i) ∧ Keeps F wa w1) := ⟨hr, fun i hi => (hz i hi).1, g1, g2, g3⟩
    clear hr hz g1 g2 g3
    obtain ⟨r0, r1, r2, ro, rn, rc⟩ := r
    unfold aggF
    simp only
    have hb1 := HN1.out.2.2.2.2.at HBA.out (fun h => HNF.out.1 h)
    have y2 := cell_of_blk hb1 2
    simp only [List.getElem?_toArray, List.getElem?_cons_succ, List.getElem?_cons_zero] at y2
    have hBOl : BO < w1.heap.size := lt_of_block hb1
    clear a0 a2 a3 a4 hb1
    go_upto_region 14 with fail
    obtain ⟨B1, hB1⟩ : ∃ B1, B1 = w1.heap.size := ⟨_, rfl⟩
    have hwd : (w1.alloc (.cells #[.int .i64 (r0 : Nat), .int .i64 r1, .int .i64 r2, .slice ro rn rc] 33)).heap[B1]? = some (.cells #[.int .i64 (r0 : Nat), .int .i64 r1, .int .i64 r2, .slice ro rn rc] 33 (0, 0)) ∧ Keeps no w1 (w1.alloc (.cells #[.int .i64 (r0 : Nat), .int .i64 r1, .int .i64 r2, .slice ro rn rc] 33)) := ⟨by rw [hB1]; exact blk_new w1 _, (Keeps.refl _ _).alloc _⟩
    rw [← hB1]
    have y2' := hwd.2.cellN y2
    generalize w1.alloc (.cells #[.int .i64 (r0 : Nat), .int .i64 r1, .int .i64 r2, .slice ro rn rc] 33) = w2 at hwd y2' ⊢
    have H2 : Hid (w2.heap[B1]? = some (.cells #[.int .i64 (r0 : Nat), .int .i64 r1, .int .i64 r2, .slice ro rn rc] 33 (0, 0)) ∧ Keeps no w1 w2 ∧ B1 = w1.heap.size) := ⟨hwd.1, hwd.2, hB1⟩
    clear hwd hB1 y2 hBOl
    go_wp2_with fail
    refine (dDeliver_any w2 q G s K A (HTA.out.mid HN1.out.2.2.2.2 H2.out.2.1) HTA.out.wf HK.out HAB.out.1).mono ?_
    rintro e w3 ⟨r', G', rfl, hr', hz', g1, g2, g3⟩
    have H3 : Hid (FOf w3 r' (delF s A) ∧ FOf w3 ⟨r0, r1, r2, ro, rn, rc⟩ (delF s A) ∧ w3.heap[B1]? = some (.cells #[.int .i64 (r0 : Nat), .int .i64 r1, .int .i64 r2, .slice ro rn rc] 33 (0, 0)) ∧ TwoTo wa p q F G (delS s A) K w3) := by
      have hlt := HTA.out.d.lt
      have hs1 := HN1.out.2.2.2.2.size
      refine ⟨hr', (HN1.out.1.keepsN H2.out.2.1).keeps g3 (fun i hi hg => (HN1.out.2.1 i hi).elim (fun h => HTA.out.sep i h hg) (fun h => by have := hlt i hg; omega)), g3.at H2.out.1 (fun hg => ?_), two_of HTA.out HN1.out.2.2.1 HN1.out.2.2.2.1 HN1.out.2.2.2.2 H2.out.2.1 g1 g2 g3 (HTA.out.wf.del A)⟩
      have h1 := hlt B1 hg
      have h2 := H2.out.2.2
      omega
    clear hr' hz' g1 g2 g3 y2'
    obtain ⟨s0, s1, s2, so, sn, sc⟩ := r'
    unfold aggF
    simp only
    have x0 := cell_of_blk H3.out.2.2.1 0
    have x1 := cell_of_blk H3.out.2.2.1 1
    have x2 := cell_of_blk H3.out.2.2.1 2
    have x3 := cell_of_blk H3.out.2.2.1 3
    simp only [List.getElem?_toArray, List.getElem?_cons_succ, List.getElem?_cons_zero] at x0 x1 x2 x3
    have hB1l : B1 < w3.heap.size := lt_of_block H3.out.2.2.1
    have HSF : Hid (∀ X, Keeps no w3 X → Calls Try.prog 30 #[.agg #[.int .i64 (r0 : Nat), .int .i64 r1, .int .i64 r2, .slice ro rn rc], .agg #[.int .i64 (s0 : Nat), .int .i64 s1, .int .i64 s2, .slice so sn sc]] X fun e w' => e = .returned (.bool true) ∧ Keeps no X w') := fun X hX => sameF_yes X ⟨r0, r1, r2, ro, rn, rc⟩ ⟨s0, s1, s2, so, sn, sc⟩ (delF s A) (H3.out.2.1.keepsN hX) (H3.out.1.keepsN hX)
    generalize errS s A = er at *
    go_wp2_with fail
    refine (HSF.out _ ((Keeps.refl _ _).alloc _)).mono ?_
    rintro e w4 ⟨rfl, hk4⟩
    have HFN : Hid (PlTo w p q F G (K + 1) (.returned (.bool true)) w4) := HEND.out _ w3 w4 K (by omega) H3.out.2.2.2 (((Keeps.refl _ _).alloc _).trans hk4)
    clear hk4 x0 x1 x2 x3 HSF H3
    go_wp2_with fail
    go_ret
    exact HFN.out
  have q2b : (kd == 2) = false := by simpa using q2
  by_cases q3 : kd = 3
  · subst q3
    have HY : Hid (∀ w1, Keeps F wa.drew w1 → w1.cell? ⟨BO, 2, none⟩ = some (.int .i64 A)) := fun w1 k => k.cell (by exact (((Keeps.refl no wa).drew).cellN a2)) HNF.out.1
    have HTD : Hid (Two wa.drew p q F G s K) := HTA.out.keepsN ((Keeps.refl _ _).drew)
    go_upto_region 17 with fail
    go_region_with (first | (go_at_call 13; refine (nLose_any _ p F s K A HTD.out.n HTD.out.wf HK.out).mono ?_; rintro e w1 ⟨rfl, F', g1, g2, g3⟩; have y2 := HY.out w1 g3) | (go_at_call 31; refine (dLose_any w1 q G s K A (HTD.out.mid g3 (Keeps.refl _ _)) HTD.out.wf HK.out HAB.out.1).mono ?_; rintro e w3 ⟨rfl, G', k1, k2, k3⟩))
    all_goals
      have HFN : Hid (PlTo w p q F G (K + 1) (.returned (.bool true)) w3) := HEND.out _ w3 w3 K (by omega) (two_later ((Keeps.refl _ _).drew) (two_of HTD.out g1 g2 g3 (Keeps.refl _ _) k1 k2 k3 (HTD.out.wf.del A))) (Keeps.refl _ _)
      clear g1 g2 g3 k1 k2 k3 y2
      generalize errS s A = er at *
      go_wp2_with fail
      go_ret
      exact HFN.out
  have q3b : (kd == 3) = false := by simpa using q3
  by_cases q4 : kd = 4
  · subst q4
    go_wp2_with fail
    refine (nTwin_any wa p F s K A HTA.out.n HTA.out.wf HK.out).mono ?_
    rintro e w1 ⟨rfl, F', g1, g2, g3⟩
    have HN1 : Hid (IsN w1 p F' (twinS s A) ∧ (∀ i, F' i → F i ∨ wa.heap.size ≤ i) ∧ Keeps F wa w1) := ⟨g1, g2, g3⟩
    have hb1 := g3.at HBA.out (fun h => HNF.out.1 h)
    have y2 := cell_of_blk hb1 2
    simp only [List.getElem?_toArray, List.getElem?_cons_succ, List.getElem?_cons_zero] at y2
    clear a0 a2 a3 a4 hb1 g1 g2 g3
    go_wp2_with fail
    refine (dTwin_any w1 q G s K A (HTA.out.mid HN1.out.2.2 (Keeps.refl _ _)) HTA.out.wf HK.out HAB.out.1).mono ?_
    rintro e w3 ⟨rfl, G', g1, g2, g3⟩
    have HFN : Hid (PlTo w p q F G (K + 1) (.returned (.bool true)) w3) := HEND.out _ w3 w3 (K + 1) (by omega) (two_of HTA.out HN1.out.1 HN1.out.2.1 HN1.out.2.2 (Keeps.refl _ _) g1 g2 g3 (HTA.out.wf.twin A)) (Keeps.refl _ _)
    clear g1 g2 g3 HN1 y2
    generalize errS s A = er at *
    generalize twinN s A = tn at *
    go_wp2_with fail
    go_ret
    exact HFN.out
  have q4b : (kd == 4) = false := by simpa using q4
  have HFN : Hid (PlTo w p q F G (K + 1) (.returned (.bool true)) wa) := HEND.out s wa wa K (by omega) ⟨F, G, HTA.out, fun i hi => .inl hi, fun i hi => .inl hi, Keeps.refl _ _⟩ (Keeps.refl _ _)
  go_wp2_with fail
  go_ret
  exact HFN.out
end Go.Proofs.Ytdbejihkliafiaa

/- readVersion. -/
import Derived.Test.YtjkljljmjjnneaaGreatDoorP3
namespace Go.Proofs.YtjkljljmjjnneaaGreatDoor
open Go.RowKit Go.Sort Orl
set_option linter.unusedVariables false
set_option linter.unusedSimpArgs false

theorem Own.tag {α : Type} {E : El α} {w : World} {o : Option Addr} {c : Nat} {xs : List α} (h : Own E w o c xs) : ∀ k, inO o k → ∃ cur, w.heap[k]? = some (.cells cur E.e (0, 0)) := by
  rintro k ⟨x, e, rfl⟩
  rcases h.shape with ⟨e', _⟩ | ⟨g, cur, e', hg, _⟩
  · rw [e'] at e; cases e
  · rw [e'] at e; cases e; exact ⟨cur, hg⟩
theorem keeps_one (w : World) (B j : Nat) (v : Value) : Keeps (fun i => i = B) w (w.setCell ⟨B, j, none⟩ v) := (Keeps.refl (fun i => i = B) w).setCell (p := ⟨B, j, none⟩) (.inl (show (fun i => i = B) B from rfl)) v
/-- a version as it is read -/
structure Vr where
  key : List UInt8
  id : Nat
  val : List UInt8
  keys : List (List UInt8)
deriving DecidableEq
def verP (p : List (List UInt8)) : Option Vr :=
  if p.length < 2 then none
  else match textR (p.getD 0 []), numR (p.getD 1 []) with
    | some k, some i => if i = 0 then (if p.length = 2 then some ⟨k, 0, [], []⟩ else none)
      else if p.length < 3 then none
      else match textR (p.getD 2 []), textsR (p.drop 3) with
        | some v, some ks => some ⟨k, i, v, ks⟩
        | _, _ => none
    | _, _ => none
def verR (l : List UInt8) : Option Vr := verP (splitL 61 l)
/-- what readVersion tells -/
def VrTo (w : World) (r : Option Vr) (e : Ending) (w' : World) : Prop := ∃ (k : Tx) (i : Nat) (v : Tx) (o : Option Addr) (n c : Nat), e = .returned (.tuple #[.agg #[.string k, .int .u64 (i : Nat), .string v, .slice o n c], .bool r.isSome]) ∧ Keeps no w w' ∧ ∀ x, r = some x → ∃ ys : List Tx, k.data.toList = x.key ∧ i = x.id ∧ v.data.toList = x.val ∧ n = ys.length ∧ bts ys = x.keys ∧ Own TE w' o c ys ∧ New w o
theorem ver_set {w W : World} {B : Nat} {x0 x1 x2 x3 : Value} (hb : W.heap[B]? = some (.cells #[x0, x1, x2, x3] 56 (0, 0))) (hB : w.heap.size ≤ B) (k : Keeps no w W) (a b c d : Value) :
    ((((W.setCell ⟨B, 0, none⟩ a).setCell ⟨B, 1, none⟩ b).setCell ⟨B, 2, none⟩ c).setCell ⟨B, 3, none⟩ d).heap[B]? = some (.cells #[a, b, c, d] 56 (0, 0)) ∧ Keeps no w ((((W.setCell ⟨B, 0, none⟩ a).setCell ⟨B, 1, none⟩ b).setCell ⟨B, 2, none⟩ c).setCell ⟨B, 3, none⟩ d) :=
  ⟨blk_set (blk_set (blk_set (blk_set hb 0 a) 1 b) 2 c) 3 d, (((k.setCell (p := ⟨B, 0, none⟩) (.inr hB) a).setCell (p := ⟨B, 1, none⟩) (.inr hB) b).setCell (p := ⟨B, 2, none⟩) (.inr hB) c).setCell (p := ⟨B, 3, none⟩) (.inr hB) d⟩
/-- the cell of the result, and what is as it was -/
structure Vb (w W : World) (B : Nat) : Prop where
  blk : W.heap[B]? = some (.cells #[.string ⟨#[]⟩, .int .u64 0, .string ⟨#[]⟩, .slice none 0 0] 56 (0, 0))
  kp : Keeps no w W
theorem Vb.keepsN {w W W' : World} {B : Nat} (h : Vb w W B) (k : Keeps no W W') : Vb w W' B := ⟨k.at h.blk id, h.kp.trans k⟩
theorem Vb.cells {w W : World} {B : Nat} (h : Vb w W B) : W.cell? ⟨B, 0, none⟩ = some (.string ⟨#[]⟩) ∧ W.cell? ⟨B, 1, none⟩ = some (.int .u64 0) ∧ W.cell? ⟨B, 2, none⟩ = some (.string ⟨#[]⟩) ∧ W.cell? ⟨B, 3, none⟩ = some (.slice none 0 0) ∧ W.frozen? ⟨B, 0, none⟩ = false ∧ W.frozen? ⟨B, 1, none⟩ = false ∧ W.frozen? ⟨B, 2, none⟩ = false ∧ W.frozen? ⟨B, 3, none⟩ = false := by
  refine ⟨?_, ?_, ?_, ?_, frozen_of_blk h.blk 0, frozen_of_blk h.blk 1, frozen_of_blk h.blk 2, frozen_of_blk h.blk 3⟩ <;> rw [cell_of_blk h.blk] <;> rfl
theorem tx_at {w : World} {o : Option Addr} {c : Nat} {xs : List Tx} (h : Sl TE w o c xs) {j : Nat} (hj : j < xs.length) : ∃ g off, o = some ⟨g, off, none⟩ ∧ w.cell? ⟨g, off + j, none⟩ = some (.string (xs.getD j e0)) := h.at hj
set_option maxRecDepth 10000 in
set_option maxHeartbeats 4000000 in
theorem readVersion_any (w : World) (hv : Vs w) (s : ByteArray) (hs : s.size ≤ 4294967000) :
    Calls Tryz.prog 70 #[.string s] w (VrTo w (verR s.data.toList)) := by
  obtain ⟨B, hB⟩ : ∃ B, B = w.heap.size := ⟨_, rfl⟩
  have HB : Hid (w.heap.size = B) := hB.symm
  have HA : Hid (∀ W, W = w.alloc (.cells #[.string ⟨#[]⟩, .int .u64 0, .string ⟨#[]⟩, .slice none 0 0] 56) → Vb w W B) := by
    rintro W rfl
    exact ⟨by rw [hB]; exact blk_new w _, (Keeps.refl _ _).alloc _⟩
  have HS : Hid (∀ W, Calls Tryz.prog 44 #[.string s, .string ⟨#[61]⟩] W fun e w' => ∃ o n xs, e = .returned (.slice o n n) ∧ n = xs.length ∧ Own TE w' o n xs ∧ New W o ∧ Keeps no W w' ∧ xs.map (fun x => x.data.toList) = splitL 61 s.data.toList) := fun W => split_any W s 61 (by omega)
  have HZ : Hid (s.data.toList.length ≤ 4294967000) := by show _ ≤ _; rw [data_len]; exact hs
  have HV : Hid (Vs w) := hv
  have HFIN : Hid (∀ {W : World} (_ : Vb w W B) (a b c d : Value), ((((W.setCell ⟨B, 0, none⟩ a).setCell ⟨B, 1, none⟩ b).setCell ⟨B, 2, none⟩ c).setCell ⟨B, 3, none⟩ d).heap[B]? = some (.cells #[a, b, c, d] 56 (0, 0)) ∧ Keeps no w ((((W.setCell ⟨B, 0, none⟩ a).setCell ⟨B, 1, none⟩ b).setCell ⟨B, 2, none⟩ c).setCell ⟨B, 3, none⟩ d)) := fun {W} h a b c d => ver_set h.blk (Nat.le_of_eq HB.out) h.kp a b c d
  clear hs hv
  unfold verR
  go_enter Tryz.func70, Tryz.ntmps70
  go_upto_region 1 with fail
  have h1 := HA.out _ rfl
  rw [← hB]
  clear hB HA
  generalize w.alloc (.cells #[.string ⟨#[]⟩, .int .u64 0, .string ⟨#[]⟩, .slice none 0 0] 56) = w1 at h1 ⊢
  have H1 : Hid (Vb w w1 B) := h1
  clear h1
  go_wp2_with fail
  refine (HS.out _).mono ?_
  rintro e w2 ⟨o, n, xs, rfl, hn, ho, -, hk2, hx⟩
  have hbz := bts_size (xs := xs) hx
  have HX : Hid (n = xs.length ∧ Sl TE w2 o n xs ∧ (∀ x ∈ xs, x.size ≤ 4294967000) ∧ bts xs = splitL 61 s.data.toList) := ⟨hn, ho.sl, fun x hx => Nat.le_trans (hbz.1 x hx) HZ.out, hx⟩
  have H2 : Hid (Vb w w2 B) := H1.out.keepsN hk2
  have hnb : (n : Int) ≤ 4294967001 := by have := hbz.2.1; have := HZ.out; omega
  have HNB : Hid (n ≤ 4294967001) := by show _ ≤ _; omega
  obtain ⟨P, hP⟩ : ∃ P, P = splitL 61 s.data.toList := ⟨_, rfl⟩
  rw [← hP] at HX
  have HPV : Hid (verP (splitL 61 s.data.toList) = verP P) := by show _ = _; rw [hP]
  clear hn ho hk2 hx hbz H1 hP
  by_cases h2 : n < 2
  · have h2' : (n : Int) < 2 := by omega
    have HE : Hid (verP (splitL 61 s.data.toList) = none) := by
      show _ = _
      rw [HPV.out]
      unfold verP
      rw [if_pos (by rw [← HX.out.2.2.2, bts_len, ← HX.out.1]; exact h2)]
    obtain ⟨c0, c1, c2, c3, f0, f1, f2, f3⟩ := H2.out.cells
    go_wp2_with fail
    refine bodyPost_ret (results_row2 rfl _ _ B _ rfl (run_loadVar_row _ _ _ _ _ _ _ (HFIN.out H2.out _ _ _ _).1 Tryz.underlying56 rfl (ver_size _ _ _ _))) rfl ?_
    exact ⟨⟨#[]⟩, 0, ⟨#[]⟩, none, 0, 0, by rw [HE.out]; rfl, (HFIN.out H2.out _ _ _ _).2, fun x e => by rw [HE.out] at e; cases e⟩
  · have h2' : ¬ (n : Int) < 2 := by omega
    have hx2 : 1 < xs.length := by have := HX.out.1; omega
    obtain ⟨g, off, rfl, d0⟩ := tx_at HX.out.2.1 (j := 0) (by omega)
    obtain ⟨g', off', e2, d1⟩ := tx_at HX.out.2.1 (j := 1) hx2
    cases e2
    simp only [Nat.add_zero] at d0
    have hP0 : P.getD 0 [] = (xs.getD 0 e0).data.toList := by rw [← HX.out.2.2.2]; exact bts_getD _ _ (by omega)
    have hP1 : P.getD 1 [] = (xs.getD 1 e0).data.toList := by rw [← HX.out.2.2.2]; exact bts_getD _ _ hx2
    have hz0 := HX.out.2.2.1 _ (getD_mem_lt e0 (show 0 < xs.length by omega))
    have hz1 := HX.out.2.2.1 _ (getD_mem_lt e0 hx2)
    have hPl : P.length = n := by rw [← HX.out.2.2.2, bts_len, HX.out.1]
    generalize xs.getD 0 e0 = x0 at d0 hP0 hz0
    generalize xs.getD 1 e0 = x1 at d1 hP1 hz1
    have HT0 := readText_any w2 x0 (by omega)
    have HT1 : Hid (∀ W, Keeps no w W → Calls Tryz.prog 45 #[.string x1] W fun e w' => ∃ v : Nat, e = .returned (.tuple #[.int .u64 (v : Nat), .bool (numR x1.data.toList).isSome]) ∧ (∀ u, numR x1.data.toList = some u → v = u) ∧ Keeps no W w') := fun W hW => readNumber_any W (HV.out.keepsN hW) x1 (by omega)
    have HPV2 : Hid (verP (splitL 61 s.data.toList) = match textR x0.data.toList, numR x1.data.toList with
      | some k, some i => if i = 0 then (if n = 2 then some ⟨k, 0, [], []⟩ else none)
        else if n < 3 then none
        else match textR (P.getD 2 []), textsR (P.drop 3) with
          | some v, some ks => some ⟨k, i, v, ks⟩
          | _, _ => none
      | _, _ => none) := by
      show _ = _
      rw [HPV.out]
      unfold verP
      rw [if_neg (by rw [hPl]; exact h2), hP0, hP1, hPl]
    clear hP0 hP1 hPl hz0 hz1 hx2
    go_wp2_with fail
    refine HT0.mono ?_
    rintro e w3 ⟨k, rfl, hk, hk3⟩
    have H3 : Hid (Vb w w3 B) := H2.out.keepsN hk3
    have HK : Hid (∀ t, textR x0.data.toList = some t → k.data.toList = t) := hk
    have HX3 : Hid (Sl TE w3 (some ⟨g, off, none⟩) n xs) := HX.out.2.1.keepsN hk3
    have d1' := hk3.cellN d1
    clear hk hk3 d0 d1 HT0 H2
    go_wp2_with fail
    refine (HT1.out _ H3.out.kp).mono ?_
    rintro e w4 ⟨i, rfl, hi, hk4⟩
    have H4 : Hid (Vb w w4 B) := H3.out.keepsN hk4
    have HI : Hid (∀ u, numR x1.data.toList = some u → i = u) := hi
    have HX4 : Hid (Sl TE w4 (some ⟨g, off, none⟩) n xs) := HX3.out.keepsN hk4
    clear hi hk4 d1' H3 HX3
    obtain ⟨c0, c1, c2, c3, f0, f1, f2, f3⟩ := H4.out.cells
    cases hr0 : textR x0.data.toList with
    | none =>
      have HE : Hid (verP (splitL 61 s.data.toList) = none) := by show _ = _; rw [HPV2.out, hr0]
      go_wp2_with fail
      refine bodyPost_ret (results_row2 rfl _ _ B _ rfl (run_loadVar_row _ _ _ _ _ _ _ (HFIN.out H4.out _ _ _ _).1 Tryz.underlying56 rfl (ver_size _ _ _ _))) rfl ?_
      exact ⟨⟨#[]⟩, 0, ⟨#[]⟩, none, 0, 0, by rw [HE.out]; rfl, (HFIN.out H4.out _ _ _ _).2, fun x e => by rw [HE.out] at e; cases e⟩
    | some tk =>
      have HKK : Hid (k.data.toList = tk) := HK.out tk hr0
      cases hr1 : numR x1.data.toList with
      | none =>
        have HE : Hid (verP (splitL 61 s.data.toList) = none) := by show _ = _; rw [HPV2.out, hr0, hr1]
        go_wp2_with fail
        refine bodyPost_ret (results_row2 rfl _ _ B _ rfl (run_loadVar_row _ _ _ _ _ _ _ (HFIN.out H4.out _ _ _ _).1 Tryz.underlying56 rfl (ver_size _ _ _ _))) rfl ?_
        exact ⟨⟨#[]⟩, 0, ⟨#[]⟩, none, 0, 0, by rw [HE.out]; rfl, (HFIN.out H4.out _ _ _ _).2, fun x e => by rw [HE.out] at e; cases e⟩
      | some ti =>
        have hii : i = ti := HI.out ti hr1
        subst hii
        by_cases h0 : i = 0
        · have h0' : ((i : Nat) : Int) = 0 := by omega
          by_cases hn2 : n = 2
          · have hn2' : ((n : Nat) : Int) = 2 := by omega
            have HE : Hid (verP (splitL 61 s.data.toList) = some ⟨tk, 0, [], []⟩) := by show _ = _; rw [HPV2.out, hr0, hr1]; simp only; rw [if_pos h0, if_pos hn2]
            go_wp2_with fail
            refine bodyPost_ret (results_row2 rfl _ _ B _ rfl (run_loadVar_row _ _ _ _ _ _ _ (HFIN.out H4.out _ _ _ _).1 Tryz.underlying56 rfl (ver_size _ _ _ _))) rfl ?_
            refine ⟨k, 0, ⟨#[]⟩, none, 0, 0, by rw [HE.out]; rfl, (HFIN.out H4.out _ _ _ _).2, fun x e => ?_⟩
            rw [HE.out] at e
            injection e with e
            subst e
            exact ⟨[], HKK.out, rfl, rfl, rfl, rfl, own_nil _, new_none _⟩
          · have hn2' : ¬ ((n : Nat) : Int) = 2 := by omega
            have HE : Hid (verP (splitL 61 s.data.toList) = none) := by show _ = _; rw [HPV2.out, hr0, hr1]; simp only; rw [if_pos h0, if_neg hn2]
            go_wp2_with fail
            refine bodyPost_ret (results_row2 rfl _ _ B _ rfl (run_loadVar_row _ _ _ _ _ _ _ (HFIN.out H4.out _ _ _ _).1 Tryz.underlying56 rfl (ver_size _ _ _ _))) rfl ?_
            exact ⟨k, 0, ⟨#[]⟩, none, 0, 0, by rw [HE.out]; simp; omega, (HFIN.out H4.out _ _ _ _).2, fun x e => by rw [HE.out] at e; cases e⟩
        · have h0' : ¬ ((i : Nat) : Int) = 0 := by omega
          by_cases hn3 : n < 3
          · have hn3' : ((n : Nat) : Int) < 3 := by omega
            have HE : Hid (verP (splitL 61 s.data.toList) = none) := by show _ = _; rw [HPV2.out, hr0, hr1]; simp only; rw [if_neg h0, if_pos hn3]
            go_wp2_with fail
            refine bodyPost_ret (results_row2 rfl _ _ B _ rfl (run_loadVar_row _ _ _ _ _ _ _ (HFIN.out H4.out _ _ _ _).1 Tryz.underlying56 rfl (ver_size _ _ _ _))) rfl ?_
            exact ⟨⟨#[]⟩, 0, ⟨#[]⟩, none, 0, 0, by rw [HE.out]; rfl, (HFIN.out H4.out _ _ _ _).2, fun x e => by rw [HE.out] at e; cases e⟩
          · have hn3' : ¬ ((n : Nat) : Int) < 3 := by omega
            have hx3 : 2 < xs.length := by have := HX.out.1; omega
            obtain ⟨g', off', e2, d2⟩ := tx_at HX4.out (j := 2) hx3
            cases e2
            have hP2 : P.getD 2 [] = (xs.getD 2 e0).data.toList := by rw [← HX.out.2.2.2]; exact bts_getD _ _ hx3
            have hz2 := HX.out.2.2.1 _ (getD_mem_lt e0 hx3)
            generalize xs.getD 2 e0 = x2 at d2 hP2 hz2
            have HT2 := readText_any w4 x2 (by omega)
            have HPV3 : Hid (verP (splitL 61 s.data.toList) = match textR x2.data.toList, textsR (bts (xs.drop 3)) with
              | some v, some ks => some ⟨tk, i, v, ks⟩
              | _, _ => none) := by
              show _ = _
              rw [HPV2.out, hr0, hr1]
              simp only
              rw [if_neg h0, if_neg hn3, hP2, ← HX.out.2.2.2]
              unfold bts
              rw [List.map_drop]
            have HDR : Hid (∀ W, Sl TE W (some ⟨g, off, none⟩) n xs → (n = 3 → Calls Tryz.prog 68 #[.slice (some ⟨g, off, none⟩) 0 0] W (TxTo W (textsR (bts (xs.drop 3))))) ∧ (¬ n = 3 → Calls Tryz.prog 68 #[.slice (some ⟨g, off + 3, none⟩) (n - 3) (n - 3)] W (TxTo W (textsR (bts (xs.drop 3)))))) := fun W hW => by
              have hdl : (xs.drop 3).length = n - 3 := by rw [List.length_drop, ← HX.out.1]
              refine ⟨fun h3 => ?_, fun h3 => ?_⟩
              · have e : xs.drop 3 = [] := List.length_eq_zero_iff.1 (by omega)
                rw [e]
                exact readTexts_any W _ 0 0 [] rfl ⟨.inl rfl, by simp, fun h => by cases h⟩ (fun x hx => by cases hx) (by simp)
              · refine readTexts_any W _ (n - 3) (n - 3) (xs.drop 3) hdl.symm ⟨hW.row.drop okT 3 (fun _ b o e => by cases e; rfl), by rw [hdl]; exact Nat.le_refl _, fun h => by cases h⟩ (fun x hx => by have := HX.out.2.2.1 x (List.mem_of_mem_drop hx); omega) (by have := HNB.out; omega)
            clear hP2 hz2 hx3 hr0 hr1 c0 c1 c2 c3 f0 f1 f2 f3
            go_wp2_with fail
            refine HT2.mono ?_
            rintro e w5 ⟨v, rfl, hv5, hk5⟩
            have H5 : Hid (Vb w w5 B) := H4.out.keepsN hk5
            have HVV : Hid (∀ t, textR x2.data.toList = some t → v.data.toList = t) := hv5
            have HX5 := HDR.out _ (HX4.out.keepsN hk5)
            clear hv5 hk5 d2 HT2 H4
            have HEND : Hid (∀ {W : World} {o7 : Option Addr} {n7 c7 : Nat} {ys : List Tx}, Vb w W B → n7 = ys.length → Own TE W o7 c7 ys → New w o7 → (∀ ts, textsR (bts (xs.drop 3)) = some ts → bts ys = ts) → ∀ A1 A2 A3 A4 A5 : Value, True) := fun _ _ _ _ _ _ _ _ _ _ => trivial
            clear HEND
            by_cases h3 : n = 3
            · have HR := HX5.1 h3
              subst h3
              go_wp2_with fail
              refine HR.mono ?_
              rintro e w6 ⟨o7, n7, c7, ys, rfl, hn7, ho7, hnw, hk6, hy, -⟩
              have H6 : Hid (Vb w w6 B) := H5.out.keepsN hk6
              have HY : Hid (n7 = ys.length ∧ Own TE w6 o7 c7 ys ∧ New w o7 ∧ ∀ ts, textsR (bts (xs.drop 3)) = some ts → bts ys = ts) := ⟨hn7, ho7, hnw.of_le H5.out.kp.size, hy⟩
              clear hn7 ho7 hnw hk6 hy HR
              obtain ⟨c0, c1, c2, c3, f0, f1, f2, f3⟩ := H6.out.cells
              cases hr2 : textR x2.data.toList with
              | none =>
                have HE : Hid (verP (splitL 61 s.data.toList) = none) := by show _ = _; rw [HPV3.out, hr2]
                go_wp2_with fail
                refine bodyPost_ret (results_row2 rfl _ _ B _ rfl (run_loadVar_row _ _ _ _ _ _ _ (HFIN.out H6.out _ _ _ _).1 Tryz.underlying56 rfl (ver_size _ _ _ _))) rfl ?_
                exact ⟨k, i, v, o7, n7, c7, by rw [HE.out]; rfl, (HFIN.out H6.out _ _ _ _).2, fun x e => by rw [HE.out] at e; cases e⟩
              | some tv =>
                cases hr3 : textsR (bts (xs.drop 3)) with
                | none =>
                  have HE : Hid (verP (splitL 61 s.data.toList) = none) := by show _ = _; rw [HPV3.out, hr2, hr3]
                  go_wp2_with fail
                  refine bodyPost_ret (results_row2 rfl _ _ B _ rfl (run_loadVar_row _ _ _ _ _ _ _ (HFIN.out H6.out _ _ _ _).1 Tryz.underlying56 rfl (ver_size _ _ _ _))) rfl ?_
                  exact ⟨k, i, v, o7, n7, c7, by rw [HE.out]; rfl, (HFIN.out H6.out _ _ _ _).2, fun x e => by rw [HE.out] at e; cases e⟩
                | some ts =>
                  have HE : Hid (verP (splitL 61 s.data.toList) = some ⟨tk, i, tv, ts⟩) := by show _ = _; rw [HPV3.out, hr2, hr3]
                  go_wp2_with fail
                  refine bodyPost_ret (results_row2 rfl _ _ B _ rfl (run_loadVar_row _ _ _ _ _ _ _ (HFIN.out H6.out _ _ _ _).1 Tryz.underlying56 rfl (ver_size _ _ _ _))) rfl ?_
                  refine ⟨k, i, v, o7, n7, c7, by rw [HE.out]; rfl, (HFIN.out H6.out _ _ _ _).2, fun x e => ?_⟩
                  rw [HE.out] at e
                  injection e with e
                  subst e
                  refine ⟨ys, HKK.out, rfl, HVV.out _ hr2, HY.out.1, HY.out.2.2.2 _ hr3, HY.out.2.1.keeps (S := fun q => q = B) ?_ ?_, HY.out.2.2.1⟩
                  · exact (((keeps_one _ B 0 _).trans (keeps_one _ B 1 _)).trans (keeps_one _ B 2 _)).trans (keeps_one _ B 3 _)
                  · rintro q hq rfl
                    obtain ⟨cur, hc⟩ := HY.out.2.1.tag _ hq
                    rw [H6.out.blk] at hc
                    injection hc with hc
                    injection hc with _ hc _
                    exact absurd hc (by decide)
            · have HR := HX5.2 h3
              have h3'' : 3 < n := by omega
              have hsub : ((n : Int) - 3) = ((n - 3 : Nat) : Int) := by omega
              go_wp2_with fail
              refine HR.mono ?_
              rintro e w6 ⟨o7, n7, c7, ys, rfl, hn7, ho7, hnw, hk6, hy, -⟩
              have H6 : Hid (Vb w w6 B) := H5.out.keepsN hk6
              have HY : Hid (n7 = ys.length ∧ Own TE w6 o7 c7 ys ∧ New w o7 ∧ ∀ ts, textsR (bts (xs.drop 3)) = some ts → bts ys = ts) := ⟨hn7, ho7, hnw.of_le H5.out.kp.size, hy⟩
              clear hn7 ho7 hnw hk6 hy HR
              obtain ⟨c0, c1, c2, c3, f0, f1, f2, f3⟩ := H6.out.cells
              cases hr2 : textR x2.data.toList with
              | none =>
                have HE : Hid (verP (splitL 61 s.data.toList) = none) := by show _ = _; rw [HPV3.out, hr2]
                go_wp2_with fail
                refine bodyPost_ret (results_row2 rfl _ _ B _ rfl (run_loadVar_row _ _ _ _ _ _ _ (HFIN.out H6.out _ _ _ _).1 Tryz.underlying56 rfl (ver_size _ _ _ _))) rfl ?_
                exact ⟨k, i, v, o7, n7, c7, by rw [HE.out]; rfl, (HFIN.out H6.out _ _ _ _).2, fun x e => by rw [HE.out] at e; cases e⟩
              | some tv =>
                cases hr3 : textsR (bts (xs.drop 3)) with
                | none =>
                  have HE : Hid (verP (splitL 61 s.data.toList) = none) := by show _ = _; rw [HPV3.out, hr2, hr3]
                  go_wp2_with fail
                  refine bodyPost_ret (results_row2 rfl _ _ B _ rfl (run_loadVar_row _ _ _ _ _ _ _ (HFIN.out H6.out _ _ _ _).1 Tryz.underlying56 rfl (ver_size _ _ _ _))) rfl ?_
                  exact ⟨k, i, v, o7, n7, c7, by rw [HE.out]; rfl, (HFIN.out H6.out _ _ _ _).2, fun x e => by rw [HE.out] at e; cases e⟩
                | some ts =>
                  have HE : Hid (verP (splitL 61 s.data.toList) = some ⟨tk, i, tv, ts⟩) := by show _ = _; rw [HPV3.out, hr2, hr3]
                  go_wp2_with fail
                  refine bodyPost_ret (results_row2 rfl _ _ B _ rfl (run_loadVar_row _ _ _ _ _ _ _ (HFIN.out H6.out _ _ _ _).1 Tryz.underlying56 rfl (ver_size _ _ _ _))) rfl ?_
                  refine ⟨k, i, v, o7, n7, c7, by rw [HE.out]; rfl, (HFIN.out H6.out _ _ _ _).2, fun x e => ?_⟩
                  rw [HE.out] at e
                  injection e with e
                  subst e
                  refine ⟨ys, HKK.out, rfl, HVV.out _ hr2, HY.out.1, HY.out.2.2.2 _ hr3, HY.out.2.1.keeps (S := fun q => q = B) ?_ ?_, HY.out.2.2.1⟩
                  · exact (((keeps_one _ B 0 _).trans (keeps_one _ B 1 _)).trans (keeps_one _ B 2 _)).trans (keeps_one _ B 3 _)
                  · rintro q hq rfl
                    obtain ⟨cur, hc⟩ := HY.out.2.1.tag _ hq
                    rw [H6.out.blk] at hc
                    injection hc with hc
                    injection hc with _ hc _
                    exact absurd hc (by decide)
end Go.Proofs.YtjkljljmjjnneaaGreatDoor

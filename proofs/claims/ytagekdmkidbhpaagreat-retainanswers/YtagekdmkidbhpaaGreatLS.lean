import Derived.Test.YtagekdmkidbhpaaGreatCA
import Derived.Test.YtagekdmkidbhpaaGreatShelh
/- Lasts. -/
namespace Go.Proofs.YtagekdmkidbhpaaGreat
open Go.RowKit Go.Maps Go.Sort Orl
set_option linter.unusedVariables false
set_option linter.unusedSimpArgs false

def LE : El Mk := ⟨53, 35, 2, 24, fun x => [.string x.1, .int .u64 ((x.2 : Nat) : Int)]⟩
theorem infoLa : (Tryz.prog.info? 53).map (fun i => (i.zero, i.size, i.bytes)) = some (some (.agg #[.string ⟨#[]⟩, .int .u64 0]), 2, 24) := by kernel_rfl
theorem okL : LE.Ok := by
  obtain ⟨i0, hi, hz0, hz1, hz2⟩ := info_parts infoLa
  exact ⟨fun _ => rfl, fun x u hu => by simp [LE] at hu; rcases hu with rfl | rfl <;> rfl, by decide, Tryz.underlying35, i0, _, hi, hz0, hz1, hz2, rfl⟩
theorem own_oneL (w : World) (x : Mk) : Sl LE (w.alloc (.cells #[.string x.1, .int .u64 ((x.2 : Nat) : Int)] 53)) (some ⟨w.heap.size, 0, none⟩) 1 [x] := by
  refine ⟨.inr ⟨_, 0, rfl, fun j u hj => ?_⟩, by simp, fun e => by cases e⟩
  rw [Nat.zero_add, cell_of_blk (blk_new w _)]
  simpa [El.cells, LE] using hj
theorem Sl.atL {w : World} {a : Option Addr} {c : Nat} {xs : List Mk} (h : Sl LE w a c xs) {j : Nat} (hj : j < xs.length) : ∃ b off, a = some ⟨b, off, none⟩ ∧ w.cell? ⟨b, off + j * 2, none⟩ = some (.string (xs.getD j (e0, 0)).1) ∧ w.cell? ⟨b, off + j * 2 + 1, none⟩ = some (.int .u64 (((xs.getD j (e0, 0)).2 : Nat) : Int)) := by
  rcases h.row with e | ⟨b, off, rfl, hc⟩
  · subst e; simp at hj
  · refine ⟨b, off, rfl, hc (j * 2) _ ?_, ?_⟩
    · have := cells_at okL (e0, 0) xs j 0 hj (by decide)
      simpa [LE] using this
    · rw [Nat.add_assoc]
      refine hc (j * 2 + 1) _ ?_
      have := cells_at okL (e0, 0) xs j 1 hj (by decide)
      simpa [LE] using this
def mkT (l : List UInt8) : Tx := ⟨l.toArray⟩
theorem mkT_data (x : Tx) : mkT x.data.toList = x := by cases x; simp [mkT]
theorem data_mkT (l : List UInt8) : (mkT l).data.toList = l := by simp [mkT]
theorem cells_T (xs : List Tx) : TE.cells xs = xs.map Value.string := by
  induction xs with
  | nil => rfl
  | cons x r ih => simp [El.cells, TE] at ih ⊢; exact ih
theorem tagsL_ne {α β : Type} {E : El α} {D : El β} {w : World} {o p : Option Addr} {c d : Nat} {xs : List α} {ys : List β} (h : Own E w o c xs) (k : Own D w p d ys) (hne : E.e ≠ D.e) : ∀ i, inO o i → ¬ inO p i := by
  intro i hi hj
  obtain ⟨c1, h1⟩ := h.tag i hi
  obtain ⟨c2, h2⟩ := k.tag i hj
  rw [h1] at h2
  injection h2 with h2
  injection h2 with _ h2 _
  exact hne h2
/-- the keys of the lines, sorted -/
theorem keys_sorted {L : List (Tx × Ln)} (hn : Nk L) {ss : List (List UInt8)} (hp : ss.Perm (strKeys (dat KT vvL L))) : ∃ ts : List Tx, ts.map (fun x => encStr x.data.toList) = (ss.mergeSort (fun x y => decide (x ≤ y))).map encStr ∧ ts.Perm (L.map (·.1)) ∧ Inc lts ts := by
  have h1 : (strKeys (dat KT vvL L)).Perm (L.map fun p => p.1.data.toList) := by
    show (List.map (fun p => strOf p.1) ((L.map (ent KT vvL)).foldr DataW.insert [])).Perm _
    refine ((WideShapes.sorted_perm _).map _).trans ?_
    rw [List.map_map]
    exact List.Perm.of_eq rfl
  have h2 := (List.mergeSort_perm ss (fun x y => decide (x ≤ y))).trans (hp.trans h1)
  have hp2 : ((ss.mergeSort (fun x y => decide (x ≤ y))).map mkT).Perm (L.map (·.1)) := by
    refine (h2.map mkT).trans ?_
    rw [List.map_map]
    refine List.Perm.of_eq (List.map_congr_left fun p _ => ?_)
    exact mkT_data p.1
  refine ⟨(ss.mergeSort (fun x y => decide (x ≤ y))).map mkT, ?_, hp2, ?_⟩
  · rw [List.map_map]
    refine List.map_congr_left fun l _ => ?_
    simp only [Function.comp, data_mkT]
  · have hw : Weak lts ((ss.mergeSort (fun x y => decide (x ≤ y))).map mkT) := by
      unfold Weak
      rw [List.pairwise_map]
      have := List.pairwise_mergeSort (le := fun x y : List UInt8 => decide (x ≤ y)) (fun a b c h1 h2 => by
        simp only [decide_eq_true_eq] at *
        exact List.le_trans h1 h2) (fun a b => by
        simp only [Bool.or_eq_true, decide_eq_true_eq]
        exact List.le_total a b) ss
      refine List.Pairwise.imp (fun {a b} h => ?_) this
      rw [lts_eq, data_mkT, data_mkT, decide_eq_false_iff_not, List.not_lt]
      simpa using h
    refine weak_inc triT hw ?_
    refine hp2.nodup_iff.2 ?_
    unfold List.Nodup
    rw [List.pairwise_map]
    exact hn
theorem sortedT_any (w : World) (b : Nat) (L : List (Tx × Ln)) (h : IsMp KT vvL w b L) (hL : L.length ≤ 1954687338211) :
    Calls Tryz.prog 38 #[.func (.func 73) #[] #[.pointer (some ⟨w.heap.size, 0, none⟩)]] (w.alloc (.cells #[.map (some b)] 76)) fun e w' => ∃ o n c ts, e = .returned (.slice o n c) ∧ Hid (n = ts.length ∧ ts.Perm (L.map (·.1)) ∧ Inc lts ts ∧ Own TE w' o c ts ∧ Keeps no w w') := by
  have K2 := callsIn_wide.1 (Tryz.slices_Sorted_keys_38_39 b L.length (dat KT vvL L) rdV w h.own (by rw [dat_size]; unfold maxLen; omega) (by rw [dat_size]; omega))
  refine K2.mono ?_
  rintro e w3 ⟨v, ss, rfl, hS, hrow, hnil, hb⟩
  obtain ⟨ts, h1, h2, h3⟩ := keys_sorted h.nk hS
  have hrow0 : w3.ownsRow 0 TE.e TE.k v ss.length (TE.cells ts) := by
    have e1 : TE.cells ts = (ss.mergeSort (fun x y => decide (x ≤ y))).map encStr := by
      rw [← h1, cells_T]
    rw [e1]
    obtain ⟨r1, r2⟩ := hrow
    refine ⟨r1, ?_⟩
    rcases r2 with r2 | ⟨g, cap, cur, q1, q2, q3⟩
    · exact .inl r2
    · exact .inr ⟨g, cap, cur, q1, Nat.zero_le _, q3⟩
  obtain ⟨o, c', hv, hn, hown⟩ := own_val okT hrow0
  exact ⟨o, _, c', ts, by rw [hv], hn, h2, h3, hown, ((Keeps.refl no w).alloc _).trans (Keeps.of_below hb)⟩
/-- what Lasts tells -/
def IsLs (s : St) (ls : List Mk) : Prop := Inc lts (ls.map (·.1)) ∧ ∀ k i, (k, i) ∈ ls ↔ s.last k = i ∧ i ≠ 0
/-- the first k keys' lasts -/
def lasts (s : St) (ts : List Tx) : List Mk := (ts.filter fun x => decide (s.last x ≠ 0)).map fun x => (x, s.last x)
theorem lasts_snoc (s : St) (l : List Tx) (x : Tx) : lasts s (l ++ [x]) = lasts s l ++ (if s.last x = 0 then [] else [(x, s.last x)]) := by
  unfold lasts
  rw [List.filter_append, List.map_append]
  congr 1
  by_cases h : s.last x = 0 <;> simp [h]
theorem lasts_is {s : St} {ts : List Tx} (hi : Inc lts ts) (hall : ∀ k, s.last k ≠ 0 → k ∈ ts) : IsLs s (lasts s ts) := by
  constructor
  · unfold lasts
    rw [List.map_map]
    have e : ((fun x : Mk => x.1) ∘ fun x => ((x, s.last x) : Mk)) = id := rfl
    rw [e, List.map_id]
    exact List.Pairwise.filter _ hi
  · intro k i
    unfold lasts
    constructor
    · intro h
      obtain ⟨x, hx, e⟩ := List.mem_map.1 h
      injection e with e1 e2
      subst e1 e2
      exact ⟨rfl, by simpa using (List.mem_filter.1 hx).2⟩
    · rintro ⟨rfl, h⟩
      exact List.mem_map.2 ⟨k, List.mem_filter.2 ⟨hall k h, by simpa using h⟩, rfl⟩
theorem lasts_len (s : St) (ts : List Tx) : (lasts s ts).length ≤ ts.length := by
  unfold lasts
  rw [List.length_map]
  exact List.length_filter_le _ _
set_option maxRecDepth 10000 in
theorem lasts_any (w : World) (p : Nat) (T : Nat → Option Ro) (s : St) (N : Nat) (h : IsS w p T s N) (hN : N ≤ 1954687338211) :
    Calls Tryz.prog 12 #[.pointer (some ⟨p, 0, none⟩)] w fun e w' => ∃ v, e = .returned v ∧ ∃ ls, Gives LE w ls v w' ∧ Hid (IsLs s ls) ∧ Hid (ls.length ≤ N) := by
  obtain ⟨y, h⟩ := h
  have c1 := h.c1
  have K1 := fun (W : World) => callsIn_wide.1 (Tryz.maps_Keys_39 (some y.lm) W)
  have hnl := h.nl
  have K2 := sortedT_any w y.lm y.L h.ml (by omega)
  have HS : Hid (SL w p T s N y ∧ N ≤ 1954687338211) := ⟨h, hN⟩
  clear h hN hnl
  go_enter Tryz.func12, Tryz.ntmps12
  go_wp2_with (first | (go_at_call 39; refine (K1 _).mono ?_; rintro e w2 ⟨rfl, rfl⟩) | (go_at_call 38; refine K2.mono ?_; rintro e w3 ⟨o, n, c, ts, rfl, H3⟩))
  clear K1 K2
  have hnb : (n : Int) ≤ 1954687338211 := by
    have h1 := H3.out.1
    have h2 := H3.out.2.1.length_eq
    rw [List.length_map] at h2
    have := HS.out.1.nl
    have := HS.out.2
    omega
  go_loopw [3, 5, 14] (fun s3 _ i wr => ∃ (k : Nat) (v : Value), k ≤ n ∧ i = .int .i64 k ∧ s3 = v ∧ Hid (Gives LE w (lasts s (ts.take k)) v wr ∧ Own TE wr o c ts)) (fun _ _ i _ => n - (intOf i).toNat)
  case atStart => exact ⟨0, _, by omega, rfl, rfl, ⟨none, 0, 0, rfl, (show 0 = _ by simp [lasts]), own_nil _, new_none _, H3.out.2.2.2.2⟩, H3.out.2.2.2.1⟩
  case round =>
    obtain ⟨k, v, hk, rfl, rfl, HG⟩ := hrel
    obtain ⟨⟨lo, m, lc, rfl, hm, hlo, hlnw, hlk⟩, hto⟩ := HG.out
    have HO : Hid (m = (lasts s (ts.take k)).length ∧ Own LE wr lo lc (lasts s (ts.take k)) ∧ New w lo ∧ Keeps no w wr ∧ Own TE wr o c ts) := ⟨hm.out, hlo, hlnw, hlk, hto⟩
    clear hm hlo hlnw hlk hto HG
    by_cases hlt : k < n
    · have hka : k < ts.length := by have := H3.out.1; omega
      have hlt' : (k : Int) < n := by omega
      obtain ⟨b1, off1, e1, d1⟩ := HO.out.2.2.2.2.sl.at hka
      obtain ⟨x, hx⟩ : ∃ x, x = ts.getD k e0 := ⟨_, rfl⟩
      rw [← hx] at d1
      have hin : x ∈ y.L.map (·.1) := H3.out.2.1.mem_iff.1 (by rw [hx]; exact getD_mem_lt _ hka)
      obtain ⟨q, hq, hqx⟩ := List.mem_map.1 hin
      have hline := (HS.out.1.line q hq)
      have hfnd : fnd x y.L = some q.2 := fnd_of_mem HS.out.1.ml.nk (by rw [← hqx]; exact hq)
      have hkx : x.size ≤ maxLen := HS.out.1.ml.ko _ (fnd_mem hfnd)
      have hlk := lookL_some (HS.out.1.ml.keepsN HO.out.2.2.2.1) hkx hfnd
      have hlb : wr.cell? ⟨q.2.p, 0, none⟩ = some (.int .u64 ((q.2.last : Nat) : Int)) := cell_of_blk (HO.out.2.2.2.1.at hline.blk id) 0
      have hc1 := HO.out.2.2.2.1.cellN c1
      have hls : s.last x = q.2.last := by rw [HS.out.1.sl, lastOf, hfnd]
      obtain ⟨P, hP⟩ : ∃ P, P = q.2.p := ⟨_, rfl⟩
      obtain ⟨la, hla⟩ : ∃ la, la = q.2.last := ⟨_, rfl⟩
      rw [← hP] at hlk hlb
      rw [← hla] at hlb
      have HX : Hid (x = ts.getD k e0 ∧ k < ts.length ∧ s.last x = la) := ⟨hx, hka, hls.trans hla.symm⟩
      have HB : Hid ((lasts s (ts.take k)).length ≤ 1954687338211) := (show _ ≤ _ by
        have h1 := lasts_len s (ts.take k)
        rw [List.length_take] at h1
        have := H3.out.1; omega)
      clear hx hka hin hq hqx hline hfnd hkx hls hla hP
      subst e1
      by_cases h0 : la = 0
      · have HZ : Hid (la = 0) := h0
        have h0' : ((la : Nat) : Int) = 0 := by omega
        rw [h0'] at hlb
        clear h0 h0'
        go_wp2_with fail
        go_roundw
        case rel =>
          refine ⟨k + 1, _, by omega, by go_num, rfl, ?_⟩
          rw [take_succ_getD ts k e0 HX.out.2.1, lasts_snoc, ← HX.out.1, if_pos (HX.out.2.2.trans HZ.out), List.append_nil]
          exact ⟨⟨lo, m, lc, rfl, HO.out.1, HO.out.2.1, HO.out.2.2.1, HO.out.2.2.2.1⟩, HO.out.2.2.2.2⟩
        case measure => simp [intOf]; omega
      · have HZ : Hid (¬ la = 0) := h0
        have h0' : ¬ ((la : Nat) : Int) = 0 := by omega
        clear h0
        go_wp2_with (at_builtin; refine wpList_app okL rfl _ _ rfl _ _ _ (lasts s (ts.take k)) rfl HO.out.1 (HO.out.2.1.keepsN ((Keeps.refl _ _).alloc _)) _ _ _ [(x, la)] rfl rfl (fun h => by cases h) (own_oneL _ (x, la)).row (by have := HB.out; simp [LE]; omega) (by have := HB.out; simp; omega) ?_; intro o3 c3 w4 ho3 hap3)
        go_roundw
        case rel =>
          have k4 := hap3.new (w0 := w) HO.out.2.2.1 (HO.out.2.2.2.1.alloc _)
          refine ⟨k + 1, _, by omega, by go_num, rfl, ?_⟩
          rw [take_succ_getD ts k e0 HX.out.2.1, lasts_snoc, ← HX.out.1, if_neg (by rw [HX.out.2.2]; exact HZ.out), HX.out.2.2]
          refine ⟨⟨o3, _, c3, rfl, (show _ = _ by rw [List.length_append, ← HO.out.1]; rfl), ho3, k4.1, k4.2⟩, ?_⟩
          have hh := HO.out.2.2.2.2.keepsN ((Keeps.refl no wr).alloc (.cells #[.string x, .int .u64 ((la : Nat) : Int)] 53))
          have hok := HO.out.2.1.keepsN ((Keeps.refl no wr).alloc (.cells #[.string x, .int .u64 ((la : Nat) : Int)] 53))
          rcases hap3 with ⟨rfl, ha⟩ | ⟨_, ha⟩
          · exact hh.keeps ha (fun i hi hj => tagsL_ne hok hh (by decide) i hj hi)
          · exact hh.keepsN ha
        case measure => simp [intOf]; omega
    · have hlt' : ¬ (k : Int) < n := by omega
      go_wp2_with fail
      go_ret
      have e1 : ts.take k = ts := List.take_of_length_le (by have := H3.out.1; omega)
      rw [e1] at HO
      refine ⟨_, rfl, _, ⟨lo, m, lc, rfl, HO.out.1, HO.out.2.1, HO.out.2.2.1, HO.out.2.2.2.1⟩, lasts_is H3.out.2.2.1 (fun k' hk' => ?_), ?_⟩
      · refine H3.out.2.1.mem_iff.2 ?_
        rw [HS.out.1.sl] at hk'
        unfold lastOf at hk'
        cases hf : fnd k' y.L with
        | none => rw [hf] at hk'; exact absurd rfl hk'
        | some q => exact List.mem_map.2 ⟨_, fnd_mem hf, rfl⟩
      · show _ ≤ _
        have h1 := lasts_len s ts
        have h2 := H3.out.2.1.length_eq
        rw [List.length_map] at h2
        have := HS.out.1.nl
        omega
end Go.Proofs.YtagekdmkidbhpaaGreat

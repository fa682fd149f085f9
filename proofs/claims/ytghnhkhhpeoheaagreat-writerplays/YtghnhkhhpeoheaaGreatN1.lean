/- Keys of a request (ported from stages 4 and 8). -/
import Derived.Test.YtghnhkhhpeoheaaGreatZ1
import Derived.Test.YtghnhkhhpeoheaaGreatShelf
namespace Go.Proofs.YtghnhkhhpeoheaaGreat
open Go.RowKit Go.Sort Orl
set_option linter.unusedVariables false
set_option linter.unusedSimpArgs false

set_option maxRecDepth 10000 in
theorem rising_any (w : World) (a : Option Addr) (n c : Nat) (xs : List Tx) (hn : n = xs.length) (hl : Small xs) (hs : Sl TE w a c xs) :
    Calls Tryz.prog 82 #[.slice a n c] w fun e w' => e = .returned (.bool (rising lts xs)) ∧ Keeps no w w' := by
  have HA : Hid (n = xs.length) := hn
  have hA : (n : Int) ≤ 100000 := by unfold Small at hl; omega
  clear hn hl
  obtain ⟨R, hR⟩ : ∃ R, rising lts xs = R := ⟨_, rfl⟩
  have HR : Hid (rising lts xs = R) := hR
  rw [hR]
  clear hR
  go_enter Tryz.func82, Tryz.ntmps82
  go_wp2_with fail
  go_loopw [3] (fun i wr => ∃ k m : Nat, k ≤ n ∧ i = .int .i64 ((k : Int) + 1) ∧ wr = w.drewN m ∧ Hid (∀ j, j < k → j + 1 < xs.length → lts (xs.getD j e0) (xs.getD (j + 1) e0) = true)) (fun i _ => n + 1 - (intOf i).toNat)
  case atStart => exact ⟨0, 0, by omega, rfl, rfl, fun j hj => absurd hj (Nat.not_lt_zero _)⟩
  case round =>
    obtain ⟨k, m, hk, rfl, rfl, HT⟩ := hrel
    by_cases h2 : k + 1 < n
    · have hka : k + 1 < xs.length := by have := HA.out; omega
      obtain ⟨b1, off1, rfl, d1⟩ := hs.at (j := k) (by omega)
      obtain ⟨b2, off2, e2, d2⟩ := hs.at hka
      cases e2
      obtain ⟨x, hx⟩ : ∃ x, x = xs.getD k e0 := ⟨_, rfl⟩
      obtain ⟨y, hy⟩ : ∃ y, y = xs.getD (k + 1) e0 := ⟨_, rfl⟩
      rw [← hx] at d1
      rw [← hy] at d2
      have HX : Hid (x = xs.getD k e0) := hx
      have HY : Hid (y = xs.getD (k + 1) e0) := hy
      clear hx hy hka
      have h3 : (k : Int) + 1 < n := by omega
      cases hxy : Op.bytesLess x.toList y.toList
      · go_wp2
        go_quiet (fail)
        go_wp2
        go_ret
        refine ⟨?_, ((Keeps.refl _ _).drewN _).drewN _⟩
        have hf := rising_fail (lt := lts) e0 xs k (by have := HA.out; omega) (by rw [← HX.out, ← HY.out]; exact hxy)
        rw [← HR.out, hf]; rfl
      · go_wp2
        go_quiet (fail)
        go_wp2
        go_roundw
        case rel =>
          refine ⟨k + 1, _, by omega, by go_num, rfl, fun j hj hj2 => ?_⟩
          by_cases e : j = k
          · subst e; rw [← HX.out, ← HY.out]; exact hxy
          · exact HT.out j (by omega) hj2
        case measure => simp [intOf]; omega
    · have h3 : ¬ (k : Int) + 1 < n := by omega
      go_wp2
      go_ret
      refine ⟨?_, (Keeps.refl _ _).drewN _⟩
      have hf := rising_of_all (lt := lts) e0 xs (fun i hi => HT.out i (by have := HA.out; omega) hi)
      rw [← HR.out, hf]; rfl

theorem isT_length (l : List Tx) : (isT l).length = l.length := isort_length e0 l
theorem valK_size {l : List Tx} (h : valK l = true) : 1 ≤ l.length ∧ l.length ≤ 1024 := by
  unfold valK at h; simp at h; exact h.1.1
theorem valK_long {l : List Tx} {k : Nat} (hk : k < l.length) (h : 65535 < (l.getD k e0).size) : valK l = false := by
  have : (l.all fun k => decide (k.size ≤ 65535)) = false := by
    rw [List.all_eq_false]
    exact ⟨_, getD_mem_lt e0 hk, by simp at h ⊢; exact h⟩
  unfold valK; rw [this]; simp
theorem valK_of {l : List Tx} (h1 : 1 ≤ l.length) (h2 : l.length ≤ 1024) (h3 : ∀ j, j < l.length → (l.getD j e0).size ≤ 65535) : valK l = rising lts (isT l) := by
  have : (l.all fun k => decide (k.size ≤ 65535)) = true := by
    rw [List.all_eq_true]
    intro x hx
    obtain ⟨j, hj, rfl⟩ := List.getElem_of_mem hx
    have := h3 j hj
    simp [hj] at this
    simpa using this
  unfold valK; rw [this]; simp [h1, h2]

def mkT (l : List UInt8) : Tx := ⟨l.toArray⟩
theorem mkT_data (x : Tx) : mkT x.data.toList = x := by cases x; simp [mkT]
theorem sorted_isT (xs : List Tx) : ((xs.map fun x => x.data.toList).mergeSort fun x y => decide (x ≤ y)).map mkT = isT xs := by
  refine weak_perm swoT triT ?_ (isort_weak swoT e0 xs) ?_
  · unfold Weak
    rw [List.pairwise_map]
    have hp := List.pairwise_mergeSort (le := fun x y : List UInt8 => decide (x ≤ y)) (fun a b c h1 h2 => by
      simp only [decide_eq_true_eq] at *
      exact List.le_trans h1 h2) (fun a b => by
      simp only [Bool.or_eq_true, decide_eq_true_eq]
      exact List.le_total a b) (xs.map fun x => x.data.toList)
    refine List.Pairwise.imp (fun {a b} hab => ?_) hp
    rw [lts_eq]
    simp only [decide_eq_true_eq] at hab
    rw [decide_eq_false_iff_not, List.not_lt]
    simpa [mkT] using hab
  · refine List.Perm.trans ?_ (isort_perm e0 xs).symm
    have h1 := (List.mergeSort_perm (xs.map fun x => x.data.toList) (fun x y => decide (x ≤ y))).map mkT
    rw [List.map_map] at h1
    have : (mkT ∘ fun x : Tx => x.data.toList) = id := by funext x; exact mkT_data x
    rw [this, List.map_id] at h1
    exact h1

theorem cells_T (xs : List Tx) : TE.cells xs = xs.map Value.string := by
  induction xs with
  | nil => rfl
  | cons x r ih => simp [El.cells, TE] at ih ⊢; exact ih

theorem own_holds {w : World} {g c : Nat} {xs : List Tx} (h : Own TE w (some ⟨g, 0, none⟩) c xs) : Holds encStr w g 0 (xs.map fun x => x.data.toList).toArray ∧ g < w.heap.size := by
  rcases h.shape with ⟨e, _⟩ | ⟨g', cur, e, hg, hc, hm, hs, ht⟩
  · cases e
  · cases e
    refine ⟨fun j hj => ⟨?_, frozen_of_blk hg _⟩, lt_of_block hg⟩
    simp at hj
    have hr := h.sl.at hj
    obtain ⟨b, off, e, hcell⟩ := hr
    cases e
    rw [hcell]
    congr 1
    simp [hj, encStr]

theorem putRow_own {w : World} {g c m : Nat} {xs : List Tx} (ys : List (List UInt8)) (os : Array Obj) (h : Own TE w (some ⟨g, 0, none⟩) c xs) (hy : ys.length = xs.length) :
    Own TE (grow (putRow encStr (Sort.ahead w m) g 0 ys.toArray) os) (some ⟨g, 0, none⟩) c (ys.map mkT) ∧ Keeps (inO (some ⟨g, 0, none⟩)) w (grow (putRow encStr (Sort.ahead w m) g 0 ys.toArray) os) := by
  rcases h.shape with ⟨e, _⟩ | ⟨g', cur, e, hg, hc, hm, hs, ht⟩
  · cases e
  · cases e
    have hlt := lt_of_block hg
    have hb : (grow (putRow encStr (Sort.ahead w m) g 0 ys.toArray) os).heap[g]? = some (.cells (putCells encStr 0 ys.toArray cur) 9 (0, 0)) := by
      rw [heap_grow_old _ _ (by simpa using hlt)]
      simp [putRow, mapBlock, Sort.ahead, Array.getElem?_modify, hg, onCells, TE]
    constructor
    · refine own_of_shape okT hb (by simp [hy]; exact hc) hm (by simp [putCells, hs]) ?_
      rw [cells_T]
      apply List.ext_getElem?
      intro i
      have hcs : cur.size = c := by rw [hs]; simp [TE]
      by_cases hi : i < ys.length
      · have hic : i < cur.size := by omega
        rw [List.getElem?_take_of_lt (by simp [TE]; exact hi)]
        simp [putCells, hi, hic, encStr, mkT]
      · rw [List.getElem?_eq_none (by simp [TE]; omega), List.getElem?_eq_none (by simp; omega)]
    · refine ⟨rfl, rfl, rfl, by simp, fun k hk hn => ?_⟩
      rw [heap_grow_old _ _ (by simpa using hk)]
      have hne : g ≠ k := fun e => hn ⟨_, rfl, e⟩
      simp [putRow, mapBlock, Sort.ahead, Array.getElem?_modify, hne]

theorem sort_any (w : World) (g n c : Nat) (xs : List Tx) (hn : n = xs.length) (hl : Small xs) (h : Own TE w (some ⟨g, 0, none⟩) c xs) :
    Calls Tryz.prog 81 #[.slice (some ⟨g, 0, none⟩) n c] w fun e w' => e = .returned (.tuple #[]) ∧ Own TE w' (some ⟨g, 0, none⟩) c (isT xs) ∧ Keeps (inO (some ⟨g, 0, none⟩)) w w' := by
  subst hn
  have hh := own_holds h
  have hcon := Any.slices_Sort_string Tryz.laysSort g 0 c (xs.map fun x => x.data.toList) w hh.1 hh.2 (by rw [List.length_map]; unfold Small at hl; omega)
  rw [List.length_map] at hcon
  change Calls Tryz.prog 81 _ _ _ at hcon
  refine hcon.mono ?_
  rintro e w' ⟨rfl, m, os, rfl⟩
  have := putRow_own (m := m) ((xs.map fun x => x.data.toList).mergeSort fun x y => decide (x ≤ y)) os h (by rw [List.length_mergeSort, List.length_map])
  rw [sorted_isT] at this
  exact ⟨rfl, this⟩

theorem clone_any (w : World) (a : Option Addr) (n c : Nat) (xs : List Tx) (hn : n = xs.length) (hs : Sl TE w a c xs) (hb : Small xs) : Calls Tryz.prog 56 #[.slice a n c] w fun e w' => ∃ v, e = .returned v ∧ Gives TE w xs v w' := tcl_any w a n c xs hn hs hb
set_option maxRecDepth 10000 in
theorem sorted_any (w : World) (a : Option Addr) (n c : Nat) (xs : List Tx) (hn : n = xs.length) (hl : Small xs) (hsz : ∀ x ∈ xs, x.size ≤ maxLen) (hs : Sl TE w a c xs) :
    Calls Tryz.prog 65 #[.slice a n c] w fun e w' => ∃ v, e = .returned (.tuple #[v, .int .i64 (if valK xs then 0 else 40)]) ∧ Gives TE w (if valK xs then isT xs else []) v w' := by
  have HA : Hid (n = xs.length) := hn
  have hA : (n : Int) ≤ 100000 := by unfold Small at hl; omega
  have HL : Hid (Small xs) := hl
  have HZ : Hid (∀ x ∈ xs, x.size ≤ maxLen) := hsz
  obtain ⟨R, hR⟩ : ∃ R, valK xs = R := ⟨_, rfl⟩
  have HR : Hid (valK xs = R) := hR
  rw [hR]
  have none_ok : ∀ w', Keeps no w w' → Gives TE w [] (.slice none 0 0) w' := fun w' hk => ⟨none, 0, 0, rfl, (show 0 = _ by simp), own_nil _, new_none _, hk⟩
  by_cases h1 : n = 0
  · have hf : R = false := by
      rw [← hR]; cases e : valK xs with
      | false => rfl
      | true => have := valK_size e; omega
    clear hR hn hl hsz
    subst hf
    subst h1
    go_enter Tryz.func65, Tryz.ntmps65
    go_wp2_with fail
    go_ret2
    exact ⟨_, rfl, none_ok _ (Keeps.refl _ _)⟩
  by_cases h2 : 1024 < n
  · have hf : R = false := by
      rw [← hR]; cases e : valK xs with
      | false => rfl
      | true => have := valK_size e; omega
    clear hR hn hl hsz
    subst hf
    have h1' : ¬ (n : Int) = 0 := by omega
    have h2' : (1024 : Int) < n := by omega
    clear h1 h2
    go_enter Tryz.func65, Tryz.ntmps65
    go_wp2_with fail
    go_ret2
    exact ⟨_, rfl, none_ok _ (Keeps.refl _ _)⟩
  have h1' : ¬ (n : Int) = 0 := by omega
  have h2' : ¬ (1024 : Int) < n := by omega
  have H12 : Hid (1 ≤ n ∧ n ≤ 1024) := ⟨by omega, by omega⟩
  have h1b : ((n : Int) == 0) = false := by simpa using h1'
  clear hR hn hl hsz h1 h2
  go_enter Tryz.func65, Tryz.ntmps65
  go_wp2_with fail
  go_loop [17] (fun i => ∃ k : Nat, k ≤ n ∧ i = .int .i64 k ∧ Hid (∀ j, j < k → (xs.getD j e0).size ≤ 65535)) (fun i => n - (intOf i).toNat)
  case atStart => exact ⟨0, by omega, rfl, fun j hj => absurd hj (Nat.not_lt_zero _)⟩
  case round =>
    obtain ⟨k, hk, rfl, HT⟩ := hrel
    by_cases h2 : k < n
    · have hka : k < xs.length := by have := HA.out; omega
      obtain ⟨b1, off1, rfl, d1⟩ := hs.at hka
      obtain ⟨x, hx⟩ : ∃ x, x = xs.getD k e0 := ⟨_, rfl⟩
      rw [← hx] at d1
      have hxz : x.size ≤ 9223372036854775807 := by
        have := HZ.out x (by rw [hx]; exact getD_mem_lt _ hka)
        unfold maxLen at this; omega
      have HX : Hid (x = xs.getD k e0) := hx
      clear hx hka
      by_cases hlong : (65535 : Int) < x.size
      · have hv := valK_long (l := xs) (k := k) (by have := HA.out; omega) (by rw [← HX.out]; omega)
        have hRf : R = false := by rw [← HR.out, hv]
        subst hRf
        clear hv
        go_wp2_with fail
        go_ret2
        exact ⟨_, rfl, none_ok _ (Keeps.refl _ _)⟩
      · go_wp2_with fail
        go_round
        case rel =>
          refine ⟨k + 1, by omega, by go_num, fun j hj => ?_⟩
          by_cases e : j = k
          · subst e; rw [← HX.out]; omega
          · exact HT.out j (by omega)
        case measure => simp [intOf] <;> omega
    · have hv : valK xs = rising lts (isT xs) := valK_of (by have := HA.out; have := H12.out; omega) (by have := HA.out; have := H12.out; omega) (fun j hj => HT.out j (by have := HA.out; omega))
      rw [HR.out] at hv
      have HV : Hid (R = rising lts (isT xs)) := hv
      clear hv
      go_wp2_with fail
      refine (clone_any w a n c xs HA.out hs HL.out).mono ?_
      rintro e w1 ⟨v, rfl, o1, m1, d1, rfl, hm1, ho1, hnw1, hkp1⟩
      obtain ⟨g, rfl⟩ : ∃ g, o1 = some ⟨g, 0, none⟩ := by
        rcases ho1.shape with ⟨_, _, e⟩ | ⟨g, cur, e, _⟩
        · have := HA.out; have := H12.out; subst e; simp at this; omega
        · exact ⟨g, e⟩
      go_wp2_with fail
      refine (sort_any w1 g m1 d1 xs hm1.out HL.out ho1).mono ?_
      rintro e w2 ⟨rfl, ho2, hkp2⟩
      have hk2 : Keeps no w w2 := hkp1.then hkp2 (fun i hi => .inr (hnw1 i hi))
      have hsm : Small (isT xs) := by unfold Small; rw [isT_length]; exact HL.out
      have hm2 : m1 = (isT xs).length := by rw [isT_length]; exact hm1.out
      have HM2 : Hid (m1 = (isT xs).length) := hm2
      have hri := rising_any w2 _ m1 d1 (isT xs) hm2 hsm ho2.sl
      rw [← HV.out] at hri
      clear hm2
      cases R
      · go_wp2_with fail
        refine hri.mono ?_
        rintro e w3 ⟨rfl, hk3⟩
        go_wp2_with fail
        go_ret2
        exact ⟨_, rfl, none_ok _ (hk2.trans hk3)⟩
      · go_wp2_with fail
        refine hri.mono ?_
        rintro e w3 ⟨rfl, hk3⟩
        go_wp2_with fail
        go_ret2
        exact ⟨_, rfl, some ⟨g, 0, none⟩, m1, d1, rfl, HM2, ho2.keepsN hk3, hnw1, hk2.trans hk3⟩

theorem valid_any (w : World) (a : Option Addr) (n c : Nat) (xs : List Tx) (hn : n = xs.length) (hl : Small xs) (hsz : ∀ x ∈ xs, x.size ≤ maxLen) (hs : Sl TE w a c xs) :
    Calls Tryz.prog 58 #[.slice a n c] w fun e w' => e = .returned (.bool (valK xs)) ∧ Keeps no w w' := by
  have hv := sorted_any w a n c xs hn hl hsz hs
  clear hn hl hsz
  cases e : valK xs <;> rw [e] at hv
  all_goals
    (clear e
     go_enter Tryz.func58, Tryz.ntmps58
     go_wp2_with fail
     refine hv.mono ?_
     rintro e w' ⟨v, rfl, o, m, d, rfl, hm, ho, hnw, hk⟩
     go_wp2_with fail
     go_ret
     exact ⟨rfl, hk⟩)

end Go.Proofs.YtghnhkhhpeoheaaGreat

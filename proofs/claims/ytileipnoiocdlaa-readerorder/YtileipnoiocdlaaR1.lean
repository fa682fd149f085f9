import Derived.Test.YtileipnoiocdlaaH1
import Derived.Test.YtileipnoiocdlaaShelf
import Derived.Test.YtileipnoiocdlaaR0
/- Keys of a request (ported from stages 4 and 8). -/
namespace Go.Proofs.Ytileipnoiocdlaa
open Go.RowKit Go.Sort Orl
set_option linter.unusedVariables false
set_option linter.unusedSimpArgs false

set_option maxRecDepth 10000 in
theorem rising_any (w : World) (a : Option Addr) (n c : Nat) (xs : List Tx) (hn : n = xs.length) (hl : Small xs) (hs : Sl TE w a c xs) :
    Calls Try.prog 54 #[.slice a n c] w fun e w' => e = .returned (.bool (rising lts xs)) ∧ Keeps no w w' := by
  have HA : Hid (n = xs.length) := hn
  have hA : (n : Int) ≤ 100000 := by unfold Small at hl; omega
  clear hn hl
  obtain ⟨R, hR⟩ : ∃ R, rising lts xs = R := ⟨_, rfl⟩
  have HR : Hid (rising lts xs = R) := hR
  rw [hR]
  clear hR
  go_enter Try.func54, Try.ntmps54
  go_wp2_with fail
  go_loopw [3] (fun i wr => ∃ k m : Nat, k ≤ n ∧ i = .int .i64 ((k : Int) + 1) ∧ wr = w.drewN m ∧ Hid (∀ j, j < k → j + 1 < xs.length → lts (xs.getD j e0) (xs.getD (j + 1) e0) = true)) (fun i _ => n + 1 - (intOf i).toNat)
  case atStart => exact ⟨0, 0, by omega, rfl, rfl, fun j hj => absurd hj (Nat.not_lt_zero _)⟩
  case round =>
    obtain ⟨k, m, hk, rfl, rfl, HT⟩ := hrel
    by_cases h2 : k + 1 < n
    · have hka : k + 1 < xs.length := by have := HA.out; omega
      obtain ⟨b1, off1, rfl, d1⟩ := hs.at (j := k) (by omega)
      obtain ⟨b2, off2, e2, d2⟩ := hs.at hka
      cases e2
      obtain ⟨x, hx⟩ : ∃ x, x = xs.getD k e0 := ⟨_, rfl⟩
      obtain ⟨y, hy⟩ : ∃ y, y = xs.getD (k + 1) e0 := ⟨_, rfl⟩
      rw [← hx] at d1
      rw [← hy] at d2
      have HX : Hid (x = xs.getD k e0) := hx
      have HY : Hid (y = xs.getD (k + 1) e0) := hy
      clear hx hy hka
      have h3 : (k : Int) + 1 < n := by omega
      cases hxy : Op.bytesLess x.toList y.toList
      · go_wp2
        go_quiet (fail)
        go_wp2
        go_ret
        refine ⟨?_, ((Keeps.refl _ _).drewN _).drewN _⟩
        have hf := rising_fail (lt := lts) e0 xs k (by have := HA.out; omega) (by rw [← HX.out, ← HY.out]; exact hxy)
        rw [← HR.out, hf]; rfl
      · go_wp2
        go_quiet (fail)
        go_wp2
        go_roundw
        case rel =>
          refine ⟨k + 1, _, by omega, by go_num, rfl, fun j hj hj2 => ?_⟩
          by_cases e : j = k
          · subst e; rw [← HX.out, ← HY.out]; exact hxy
          · exact HT.out j (by omega) hj2
        case measure => simp [intOf]; omega
    · have h3 : ¬ (k : Int) + 1 < n := by omega
      go_wp2
      go_ret
      refine ⟨?_, (Keeps.refl _ _).drewN _⟩
      have hf := rising_of_all (lt := lts) e0 xs (fun i hi => HT.out i (by have := HA.out; omega) hi)
      rw [← HR.out, hf]; rfl

theorem isT_length (l : List Tx) : (isT l).length = l.length := isort_length e0 l
theorem valK_size {l : List Tx} (h : valK l = true) : 1 ≤ l.length ∧ l.length ≤ 1024 := by
  unfold valK at h; simp at h; exact h.1.1
theorem valK_long {l : List Tx} {k : Nat} (hk : k < l.length) (h : 65535 < (l.getD k e0).size) : valK l = false := by
  have : (l.all fun k => decide (k.size ≤ 65535)) = false := by
    rw [List.all_eq_false]
    exact ⟨_, getD_mem_lt e0 hk, by simp at h ⊢; exact h⟩
  unfold valK; rw [this]; simp
theorem valK_of {l : List Tx} (h1 : 1 ≤ l.length) (h2 : l.length ≤ 1024) (h3 : ∀ j, j < l.length → (l.getD j e0).size ≤ 65535) : valK l = rising lts (isT l) := by
  have : (l.all fun k => decide (k.size ≤ 65535)) = true := by
    rw [List.all_eq_true]
    intro x hx
    obtain ⟨j, hj, rfl⟩ := List.getElem_of_mem hx
    have := h3 j hj
    simp [hj] at this
    simpa using this
  unfold valK; rw [this]; simp [h1, h2]

def mkT (l : List UInt8) : Tx := ⟨l.toArray⟩
theorem mkT_data (x : Tx) : mkT x.data.toList = x := by cases x; simp [mkT]
theorem sorted_isT (xs : List Tx) : ((xs.map fun x => x.data.toList).mergeSort fun x y => decide (x ≤ y)).map mkT = isT xs := by
  refine weak_perm swoT triT ?_ (isort_weak swoT e0 xs) ?_
  · unfold Weak
    rw [List.pairwise_map]
    have hp := List.pairwise_mergeSort (le := fun x y : List UInt8 => decide (x ≤ y)) (fun a b c h1 h2 => by
      simp only [decide_eq_true_eq] at *
      exact List.le_trans h1 h2) (fun a b => by
      simp only [Bool.or_eq_true, decide_eq_true_eq]
      exact List.le_total a b) (xs.map fun x => x.data.toList)
    refine List.Pairwise.imp (fun {a b} hab => ?_) hp
    rw [lts_eq]
    simp only [decide_eq_true_eq] at hab
    rw [decide_eq_false_iff_not, List.not_lt]
    simpa [mkT] using hab
  · refine List.Perm.trans ?_ (isort_perm e0 xs).symm
    have h1 := (List.mergeSort_perm (xs.map fun x => x.data.toList) (fun x y => decide (x ≤ y))).map mkT
    rw [List.map_map] at h1
    have : (mkT ∘ fun x : Tx => x.data.toList) = id := by funext x; exact mkT_data x
    rw [this, List.map_id] at h1
    exact h1

theorem cells_T (xs : List Tx) : TE.cells xs = xs.map Value.string := by
  induction xs with
  | nil => rfl
  | cons x r ih => simp [El.cells, TE] at ih ⊢; exact ih

theorem own_holds {w : World} {g c : Nat} {xs : List Tx} (h : Own TE w (some ⟨g, 0, none⟩) c xs) : Holds encStr w g 0 (xs.map fun x => x.data.toList).toArray ∧ g < w.heap.size := by
  rcases h.shape with ⟨e, _⟩ | ⟨g', cur, e, hg, hc, hm, hs, ht⟩
  · cases e
  · cases e
    refine ⟨fun j hj => ⟨?_, frozen_of_blk hg _⟩, lt_of_block hg⟩
    simp at hj
    have hr := h.sl.at hj
    obtain ⟨b, off, e, hcell⟩ := hr
    cases e
    rw [hcell]
    congr 1
    simp [hj, encStr]

theorem putRow_own {w : World} {g c m : Nat} {xs : List Tx} (ys : List (List UInt8)) (os : Array Obj) (h : Own TE w (some ⟨g, 0, none⟩) c xs) (hy : ys.length = xs.length) :
    Own TE (grow (putRow encStr (Sort.ahead w m) g 0 ys.toArray) os) (some ⟨g, 0, none⟩) c (ys.map mkT) ∧ Keeps (inO (some ⟨g, 0, none⟩)) w (grow (putRow encStr (Sort.ahead w m) g 0 ys.toArray) os) := by
  rcases h.shape with ⟨e, _⟩ | ⟨g', cur, e, hg, hc, hm, hs, ht⟩
  · cases e
  · cases e
    have hlt := lt_of_block hg
    have hb : (grow (putRow encStr (Sort.ahead w m) g 0 ys.toArray) os).heap[g]? = some (.cells (putCells encStr 0 ys.toArray cur) 9 (0, 0)) := by
      rw [heap_grow_old _ _ (by simpa using hlt)]
      simp [putRow, mapBlock, Sort.ahead, Array.getElem?_modify, hg, onCells, TE]
    constructor
    · refine own_of_shape okT hb (by simp [hy]; exact hc) hm (by simp [putCells, hs]) ?_
      rw [cells_T]
      apply List.ext_getElem?
      intro i
      have hcs : cur.size = c := by rw [hs]; simp [TE]
      by_cases hi : i < ys.length
      · have hic : i < cur.size := by omega
        rw [List.getElem?_take_of_lt (by simp [TE]; exact hi)]
        simp [putCells, hi, hic, encStr, mkT]
      · rw [List.getElem?_eq_none (by simp [TE]; omega), List.getElem?_eq_none (by simp; omega)]
    · refine ⟨rfl, rfl, rfl, by simp, fun k hk hn => ?_⟩
      rw [heap_grow_old _ _ (by simpa using hk)]
      have hne : g ≠ k := fun e => hn ⟨_, rfl, e⟩
      simp [putRow, mapBlock, Sort.ahead, Array.getElem?_modify, hne]

theorem sort_any (w : World) (g n c : Nat) (xs : List Tx) (hn : n = xs.length) (hl : Small xs) (h : Own TE w (some ⟨g, 0, none⟩) c xs) :
    Calls Try.prog 53 #[.slice (some ⟨g, 0, none⟩) n c] w fun e w' => e = .returned (.tuple #[]) ∧ Own TE w' (some ⟨g, 0, none⟩) c (isT xs) ∧ Keeps (inO (some ⟨g, 0, none⟩)) w w' := by
  subst hn
  have hh := own_holds h
  have hcon := Any.slices_Sort_string Try.laysSort g 0 c (xs.map fun x => x.data.toList) w hh.1 hh.2 (by rw [List.length_map]; unfold Small at hl; omega)
  rw [List.length_map] at hcon
  change Calls Try.prog 53 _ _ _ at hcon
  refine hcon.mono ?_
  rintro e w' ⟨rfl, m, os, rfl⟩
  have := putRow_own (m := m) ((xs.map fun x => x.data.toList).mergeSort fun x y => decide (x ≤ y)) os h (by rw [List.length_mergeSort, List.length_map])
  rw [sorted_isT] at this
  exact ⟨rfl, this⟩

theorem tcl_any (w : World) (a : Option Addr) (n c : Nat) (xs : List Tx) (hn : n = xs.length) (hs : Sl TE w a c xs) (hb : xs.length ≤ 8796093022000) :
    Calls Try.prog 35 #[.slice a n c] w fun e w' => ∃ v, e = .returned v ∧ Gives TE w xs v w' := by
  have HN : Hid (n = xs.length) := hn
  have hb' : Hid (xs.length ≤ 8796093022000) := hb
  match a, hs with
  | none, hs =>
    have h0 : xs = [] := by rcases hs.row with h | ⟨b, off, h, _⟩; exact h; cases h
    have hnil := fun w => Lib.run_eql_slice_nil (P := Try.prog) w 23 9 none n c 0 0 Try.underlying23
    clear hn hb
    go_enter Try.func35, Try.ntmps35
    go_wp2_with fail
    go_ret
    subst h0
    exact ⟨_, rfl, none, 0, 0, rfl, (show 0 = _ by simp), own_nil _, new_none _, Keeps.refl _ _⟩
  | some ad, hs =>
    have hnil := fun w => Lib.run_eql_slice_nil (P := Try.prog) w 23 9 (some ad) n c 0 0 Try.underlying23
    clear hn hb
    go_enter Try.func35, Try.ntmps35
    go_wp2_with (at_builtin; refine wpList_app okT rfl _ _ rfl _ _ _ [] rfl rfl (own_empty okT _) _ _ _ xs rfl HN.out hs.nil (hs.row.keepsN ((Keeps.refl _ _).alloc _)) (by have := hb'.out; simp [TE]; omega) (by have := hb'.out; simp; omega) ?_; intro o' c' w' ho hap)
    go_ret
    have := hap.new (w0 := w) (new_fresh w _ (Nat.le_refl _) _) ((Keeps.refl _ _).alloc _)
    refine ⟨_, rfl, o', _, c', rfl, show _ = _ by simp [HN.out], by simpa using ho, this.1, this.2⟩
theorem clone_any (w : World) (a : Option Addr) (n c : Nat) (xs : List Tx) (hn : n = xs.length) (hs : Sl TE w a c xs) (hb : Small xs) : Calls Try.prog 35 #[.slice a n c] w fun e w' => ∃ v, e = .returned v ∧ Gives TE w xs v w' := tcl_any w a n c xs hn hs (by unfold Small at hb; omega)
set_option maxRecDepth 10000 in
theorem sorted_any (w : World) (a : Option Addr) (n c : Nat) (xs : List Tx) (hn : n = xs.length) (hl : xs.length ≤ 8796093022000) (hsz : ∀ x ∈ xs, x.size ≤ maxLen) (hs : Sl TE w a c xs) :
    Calls Try.prog 36 #[.slice a n c] w fun e w' => ∃ v, e = .returned (.tuple #[v, .int .i64 (if valK xs then 0 else 40)]) ∧ Gives TE w (if valK xs then isT xs else []) v w' := by
  have HA : Hid (n = xs.length) := hn
  have hA : (n : Int) ≤ 8796093022000 := by omega
  have HZ : Hid (∀ x ∈ xs, x.size ≤ maxLen) := hsz
  obtain ⟨R, hR⟩ : ∃ R, valK xs = R := ⟨_, rfl⟩
  have HR : Hid (valK xs = R) := hR
  rw [hR]
  have none_ok : ∀ w', Keeps no w w' → Gives TE w [] (.slice none 0 0) w' := fun w' hk => ⟨none, 0, 0, rfl, (show 0 = _ by simp), own_nil _, new_none _, hk⟩
  by_cases h1 : n = 0
  · have hf : R = false := by
      rw [← hR]; cases e : valK xs with
      | false => rfl
      | true => have := valK_size e; omega
    clear hR hn hl hsz
    subst hf
    subst h1
    go_enter Try.func36, Try.ntmps36
    go_wp2_with fail
    go_ret2
    exact ⟨_, rfl, none_ok _ (Keeps.refl _ _)⟩
  by_cases h2 : 1024 < n
  · have hf : R = false := by
      rw [← hR]; cases e : valK xs with
      | false => rfl
      | true => have := valK_size e; omega
    clear hR hn hl hsz
    subst hf
    have h1' : ¬ (n : Int) = 0 := by omega
    have h2' : (1024 : Int) < n := by omega
    clear h1 h2
    go_enter Try.func36, Try.ntmps36
    go_wp2_with fail
    go_ret2
    exact ⟨_, rfl, none_ok _ (Keeps.refl _ _)⟩
  have h1' : ¬ (n : Int) = 0 := by omega
  have h2' : ¬ (1024 : Int) < n := by omega
  have HL : Hid (Small xs) := (by unfold Small; omega : Small xs)
  have H12 : Hid (1 ≤ n ∧ n ≤ 1024) := ⟨by omega, by omega⟩
  have h1b : ((n : Int) == 0) = false := by simpa using h1'
  clear hR hn hl hsz h1 h2
  go_enter Try.func36, Try.ntmps36
  go_wp2_with fail
  go_loop [17] (fun i => ∃ k : Nat, k ≤ n ∧ i = .int .i64 k ∧ Hid (∀ j, j < k → (xs.getD j e0).size ≤ 65535)) (fun i => n - (intOf i).toNat)
  case atStart => exact ⟨0, by omega, rfl, fun j hj => absurd hj (Nat.not_lt_zero _)⟩
  case round =>
    obtain ⟨k, hk, rfl, HT⟩ := hrel
    by_cases h2 : k < n
    · have hka : k < xs.length := by have := HA.out; omega
      obtain ⟨b1, off1, rfl, d1⟩ := hs.at hka
      obtain ⟨x, hx⟩ : ∃ x, x = xs.getD k e0 := ⟨_, rfl⟩
      rw [← hx] at d1
      have hxz : x.size ≤ 9223372036854775807 := by
        have := HZ.out x (by rw [hx]; exact getD_mem_lt _ hka)
        unfold maxLen at this; omega
      have HX : Hid (x = xs.getD k e0) := hx
      clear hx hka
      by_cases hlong : (65535 : Int) < x.size
      · have hv := valK_long (l := xs) (k := k) (by have := HA.out; omega) (by rw [← HX.out]; omega)
        have hRf : R = false := by rw [← HR.out, hv]
        subst hRf
        clear hv
        go_wp2_with fail
        go_ret2
        exact ⟨_, rfl, none_ok _ (Keeps.refl _ _)⟩
      · go_wp2_with fail
        go_round
        case rel =>
          refine ⟨k + 1, by omega, by go_num, fun j hj => ?_⟩
          by_cases e : j = k
          · subst e; rw [← HX.out]; omega
          · exact HT.out j (by omega)
        case measure => simp [intOf] <;> omega
    · have hv : valK xs = rising lts (isT xs) := valK_of (by have := HA.out; have := H12.out; omega) (by have := HA.out; have := H12.out; omega) (fun j hj => HT.out j (by have := HA.out; omega))
      rw [HR.out] at hv
      have HV : Hid (R = rising lts (isT xs)) := hv
      clear hv
      go_wp2_with fail
      refine (clone_any w a n c xs HA.out hs HL.out).mono ?_
      rintro e w1 ⟨v, rfl, o1, m1, d1, rfl, hm1, ho1, hnw1, hkp1⟩
      obtain ⟨g, rfl⟩ : ∃ g, o1 = some ⟨g, 0, none⟩ := by
        rcases ho1.shape with ⟨_, _, e⟩ | ⟨g, cur, e, _⟩
        · have := HA.out; have := H12.out; subst e; simp at this; omega
        · exact ⟨g, e⟩
      go_wp2_with fail
      refine (sort_any w1 g m1 d1 xs hm1.out HL.out ho1).mono ?_
      rintro e w2 ⟨rfl, ho2, hkp2⟩
      have hk2 : Keeps no w w2 := hkp1.then hkp2 (fun i hi => .inr (hnw1 i hi))
      have hsm : Small (isT xs) := by unfold Small; rw [isT_length]; exact HL.out
      have hm2 : m1 = (isT xs).length := by rw [isT_length]; exact hm1.out
      have HM2 : Hid (m1 = (isT xs).length) := hm2
      have hri := rising_any w2 _ m1 d1 (isT xs) hm2 hsm ho2.sl
      rw [← HV.out] at hri
      clear hm2
      cases R
      · go_wp2_with fail
        refine hri.mono ?_
        rintro e w3 ⟨rfl, hk3⟩
        go_wp2_with fail
        go_ret2
        exact ⟨_, rfl, none_ok _ (hk2.trans hk3)⟩
      · go_wp2_with fail
        refine hri.mono ?_
        rintro e w3 ⟨rfl, hk3⟩
        go_wp2_with fail
        go_ret2
        exact ⟨_, rfl, some ⟨g, 0, none⟩, m1, d1, rfl, HM2, ho2.keepsN hk3, hnw1, hk2.trans hk3⟩

theorem valid_any (w : World) (a : Option Addr) (n c : Nat) (xs : List Tx) (hn : n = xs.length) (hl : xs.length ≤ 8796093022000) (hsz : ∀ x ∈ xs, x.size ≤ maxLen) (hs : Sl TE w a c xs) :
    Calls Try.prog 19 #[.slice a n c] w fun e w' => e = .returned (.bool (valK xs)) ∧ Keeps no w w' := by
  have hv := sorted_any w a n c xs hn hl hsz hs
  clear hn hl hsz
  cases e : valK xs <;> rw [e] at hv
  all_goals
    (clear e
     go_enter Try.func19, Try.ntmps19
     go_wp2_with fail
     refine hv.mono ?_
     rintro e w' ⟨v, rfl, o, m, d, rfl, hm, ho, hnw, hk⟩
     go_wp2_with fail
     go_ret
     exact ⟨rfl, hk⟩)

end Go.Proofs.Ytileipnoiocdlaa
/- strings.Clone; lists of wants cloned. -/
namespace Go.Proofs.Ytileipnoiocdlaa
open Go.RowKit Go.Sort Orl
set_option linter.unusedVariables false
set_option linter.unusedSimpArgs false

theorem sclone_any (w : World) (s : Tx) (h : s.size ≤ 281474976710656) :
    Calls Try.prog 42 #[.string s] w fun e w' => e = .returned (.string s) ∧ Keeps no w w' := by
  go_enter Try.func42, Try.ntmps42
  go_wp2_with fail
  refine (Any.stringslite_Clone Try.laysClone s w h).mono ?_
  rintro e w1 ⟨rfl, hb⟩
  go_wp2
  go_ret
  exact ⟨rfl, Keeps.of_below hb⟩
theorem wcl_any (w : World) (a : Option Addr) (n c : Nat) (xs : List Wn) (hn : n = xs.length) (hs : Sl WE w a c xs) (hb : xs.length ≤ 100000) :
    Calls Try.prog 45 #[.slice a n c] w fun e w' => ∃ v, e = .returned v ∧ Gives WE w xs v w' := by
  have HN : Hid (n = xs.length) := hn
  have hb' : Hid (xs.length ≤ 100000) := hb
  match a, hs with
  | none, hs =>
    have h0 : xs = [] := by rcases hs.row with h | ⟨b, off, h, _⟩; exact h; cases h
    have hnil := fun w => Lib.run_eql_slice_nil (P := Try.prog) w 39 50 none n c 0 0 Try.underlying39
    clear hn hb
    go_enter Try.func45, Try.ntmps45
    go_wp2_with fail
    go_ret
    subst h0
    exact ⟨_, rfl, none, 0, 0, rfl, (show 0 = _ by simp), own_nil _, new_none _, Keeps.refl _ _⟩
  | some ad, hs =>
    have hnil := fun w => Lib.run_eql_slice_nil (P := Try.prog) w 39 50 (some ad) n c 0 0 Try.underlying39
    clear hn hb
    go_enter Try.func45, Try.ntmps45
    go_wp2_with (at_builtin; refine wpList_app okW rfl _ _ rfl _ _ _ [] rfl rfl (own_empty okW _) _ _ _ xs rfl HN.out hs.nil (hs.row.keepsN ((Keeps.refl _ _).alloc _)) (by have := hb'.out; simp [WE]; omega) (by have := hb'.out; simp; omega) ?_; intro o' c' w' ho hap)
    go_ret
    have := hap.new (w0 := w) (new_fresh w _ (Nat.le_refl _) _) ((Keeps.refl _ _).alloc _)
    refine ⟨_, rfl, o', _, c', rfl, show _ = _ by simp [HN.out], by simpa using ho, this.1, this.2⟩
end Go.Proofs.Ytileipnoiocdlaa
/- New. -/
namespace Go.Proofs.Ytileipnoiocdlaa
open Go.RowKit Go.Sort Orl
set_option linter.unusedVariables false
set_option linter.unusedSimpArgs false

theorem makeT (w : World) (n : Nat) (h : n ≤ 8796093022000) : ∃ w', (Instr.makeSlice 23 (.int .i64 0) (.int .i64 (n : Int))).run Try.prog w = .ok (.slice (some ⟨w.heap.size, 0, none⟩) 0 n) w' ∧ Own TE w' (some ⟨w.heap.size, 0, none⟩) n [] ∧ Keeps no w w' := by
  obtain ⟨i0, hi, hz0, hz1, hz2⟩ := info_parts info9
  obtain ⟨w', hr, ho, hg⟩ := run_make_own (P := Try.prog) w 0 23 9 i0 _ 1 Try.underlying23 hi hz0 hz1 .i64 .i64 n (by rw [hz2]; omega) (by unfold maxLen; omega) (Nat.zero_le _)
  exact ⟨w', hr, ho, (Keeps.refl _ _).grown hg (fun k hk => by cases hk)⟩
theorem tx_one (w : World) (x : Tx) : Sl TE (w.alloc (.cells #[.string x] 9)) (some ⟨w.heap.size, 0, none⟩) 1 [x] := by
  refine ⟨.inr ⟨w.heap.size, 0, rfl, fun j u hj => ?_⟩, by simp, by simp⟩
  rw [cell_of_blk (blk_new w _)]
  simpa [El.cells, TE] using hj
set_option maxRecDepth 10000 in
theorem copyTexts_any (w : World) (a : Option Addr) (n c : Nat) (xs : List Tx) (hn : n = xs.length) (hl : xs.length ≤ 8796093022000) (hz : ∀ x ∈ xs, x.size ≤ 281474976710656) (hs : Sl TE w a c xs) :
    Calls Try.prog 24 #[.slice a n c] w fun e w' => ∃ v, e = .returned v ∧ Gives TE w xs v w' := by
  have HA : Hid (n = xs.length ∧ ∀ x ∈ xs, x.size ≤ 281474976710656) := ⟨hn, hz⟩
  have hA : (n : Int) ≤ 8796093022000 := by omega
  obtain ⟨w1, hr1, ho1, hk1⟩ := makeT w n (by omega)
  clear hn hl hz
  go_enter Try.func24, Try.ntmps24
  go_wp2_with fail
  go_loopw [3, 11] (fun s3 i wr => ∃ (k : Nat) (v : Value), k ≤ n ∧ i = .int .i64 k ∧ s3 = v ∧ Hid (Gives TE w (xs.take k) v wr)) (fun _ i _ => n - (intOf i).toNat)
  case atStart => exact ⟨0, _, by omega, rfl, rfl, ⟨_, _, _, rfl, (show 0 = _ by simp), by simpa using ho1, new_fresh _ _ (Nat.le_refl _) _, hk1⟩⟩
  case round =>
    obtain ⟨k, v, hk, rfl, rfl, HG⟩ := hrel
    obtain ⟨o, m, d, rfl, hm, ho, hnw, hkp⟩ := HG.out
    by_cases h2 : k < n
    · have hka : k < xs.length := by have := HA.out.1; omega
      have hs' := hs.keepsN hkp
      obtain ⟨b1, off1, rfl, d1⟩ := hs'.at hka
      obtain ⟨x, hx⟩ : ∃ x, x = xs.getD k e0 := ⟨_, rfl⟩
      rw [← hx] at d1
      have HX : Hid (x = xs.getD k e0) := hx
      have HC : Hid (∀ X, Calls Try.prog 42 #[.string x] X fun e w' => e = .returned (.string x) ∧ Keeps no X w') := fun X => sclone_any X x (HA.out.2 x (by rw [hx]; exact getD_mem_lt e0 hka))
      have HLen : Hid ((xs.take k).length ≤ 8796093022000) := by show _ ≤ _; rw [List.length_take]; have := HA.out.1; omega
      clear hx hka hs'
      go_wp2_with fail
      refine (HC.out _).mono ?_
      rintro e w2 ⟨rfl, hk2⟩
      have HK2 : Hid (Own TE w2 o d (xs.take k) ∧ Keeps no w w2) := ⟨ho.keepsN hk2, hkp.trans hk2⟩
      have HRO : Hid (Row TE (w2.alloc (.cells #[.string x] 9)) (some ⟨w2.heap.size, 0, none⟩) [x]) := (tx_one w2 x).row
      clear hk2 HC
      go_wp2_with (at_builtin; refine wpList_app okT rfl _ _ rfl _ _ _ (xs.take k) rfl hm.out (HK2.out.1.keepsN ((Keeps.refl _ _).alloc _)) _ _ _ [x] rfl rfl (fun h => by cases h) HRO.out (by have := HLen.out; simp [TE]; omega) (by have := HLen.out; simp; omega) ?_; intro o1 c1 w3 ho3 hap3)
      go_roundw
      case rel =>
        have k4 := hap3.new (w0 := w) hnw (HK2.out.2.alloc _)
        refine ⟨k + 1, _, by omega, by go_num, rfl, ?_⟩
        show Gives TE w (xs.take (k + 1)) _ _
        rw [take_succ_getD xs k e0 (by have := HA.out.1; omega), ← HX.out]
        exact ⟨o1, _, c1, rfl, (show _ = _ by rw [List.length_append, ← hm.out]; rfl), ho3, k4.1, k4.2⟩
      case measure => simp [intOf] <;> omega
    · go_wp2_with fail
      go_ret
      have he : xs.take k = xs := List.take_of_length_le (by have := HA.out.1; omega)
      rw [he] at hm ho
      exact ⟨_, rfl, o, m, d, rfl, hm, ho, hnw, hkp⟩
theorem mayRead_any (w : World) (a : Option Addr) (n c : Nat) (xs : List Tx) (hn : n = xs.length) (hl : xs.length ≤ 8796093022000) (hsz : ∀ x ∈ xs, x.size ≤ maxLen) (hs : Sl TE w a c xs) :
    Calls Try.prog 23 #[.slice a n c] w fun e w' => e = .returned (.bool (valK xs)) ∧ Keeps no w w' := by
  have hv := valid_any w a n c xs hn hl hsz hs
  clear hn hl hsz hs
  generalize valK xs = B at hv
  go_enter Try.func23, Try.ntmps23
  go_wp2_with fail
  refine hv.mono ?_
  rintro e w' ⟨rfl, hk⟩
  go_wp2_with fail
  go_ret
  exact ⟨rfl, hk⟩
theorem eqlF (cp : Nat) (w : World) : (binOp .eql 32 (.func (.func 8) #[.pointer (some ⟨cp, 0, none⟩)] #[]) .nilFunc).run Try.prog w = .ok (.bool false) w := by kernel_rfl
theorem eqlN (w : World) : (binOp .eql 32 .nilFunc .nilFunc).run Try.prog w = .ok (.bool true) w := by kernel_rfl
def newR (l : List Tx) (P C : Nat) : RS := ⟨l, P, C, 0, [], [], [], [], [], [], 0, []⟩
def argB (P C : Int) : Prop := 1 ≤ P ∧ P ≤ 64 ∧ 0 ≤ C ∧ C ≤ 65535
def NewOk (w : World) (l : List Tx) (P C cp : Nat) (e : Ending) (w' : World) : Prop := ∃ p F, e = .returned (.tuple #[.pointer (some ⟨p, 0, none⟩), .int .i64 0]) ∧ IsRd w' p cp F (newR l P C) ∧ (∀ i, F i → w.heap.size ≤ i) ∧ Keeps no w w'
theorem prt_nil {α : Type} (P : Nat) (key : α → Tx) : ∀ k, prt P key [] k = []
  | 0 => rfl
  | k + 1 => by rw [prt, prt_nil P key k]; simp [ownOf]
theorem newR_idx (l : List Tx) (P C : Nat) : undone (newR l P C) = [] := by
  unfold undone psR newR
  simp only [prt_nil]
  rfl
theorem vers_nil (w : World) : Vers w none 0 [] [] := ⟨(own_nil w).sl, rfl, fun j hj => by simp at hj⟩
theorem isNew {w w2 w3 : World} {l : List Tx} {P C cp : Nat} {o : Option Addr} {n c : Nat} (ho : Own TE w2 o c l) (hw : New w o) (hk : Keeps no w w2) (hn : n = l.length) (h3 : w3 = w2.alloc (.cells (rdC o n c P C (fnC cp) 0 0 none 0 0 none 0 0 none 0 0) 79)) : NewOk w l P C cp (.returned (.tuple #[.pointer (some ⟨w2.heap.size, 0, none⟩), .int .i64 0])) w3 := by
  subst h3 hn
  have k3 : Keeps no w2 (w2.alloc (.cells (rdC o l.length c P C (fnC cp) 0 0 none 0 0 none 0 0 none 0 0) 79)) := (Keeps.refl _ _).alloc _
  have hx := newR_idx l P C
  have ha : askedR (newR l P C) = [] := by unfold askedR; rw [hx]; rfl
  refine ⟨w2.heap.size, fun i => i = w2.heap.size ∨ inO o i, rfl, ⟨.inl rfl, fun i hi => ?_, .inr ⟨rfl, o, c, none, 0, [], none, 0, [], none, 0, [], ?_⟩⟩, fun i hi => ?_, hk.trans k3⟩
  · rcases hi with rfl | hi
    · simp
    · have := ho.lt i hi; have := k3.size; omega
  · refine ⟨?_, (ho.keepsN k3).sl, ?_, own_nil _, vers_nil _, vers_nil _, fun i hi => ⟨.inr hi, fun e => by have := ho.lt i hi; omega⟩, fun i hi => ?_, fun i hi => ?_, fun i hi => ?_, fun i hi => ?_⟩
    · rw [hx]; exact blk_new w2 _
    · rw [hx, ha]
      exact ⟨own_nil _, rfl, rfl, fun j hj => by simp at hj, fun j hj => by simp at hj, fun i j _ hj => by simp at hj⟩
    · rw [hx] at hi
      rcases hi with ⟨x, e, _⟩ | ⟨j, hj, _⟩
      · cases e
      · simp at hj
    · rcases hi with ⟨x, e, _⟩ | ⟨j, hj, _⟩
      · cases e
      · simp [newR] at hj
    · rcases hi with ⟨x, e, _⟩ | ⟨j, hj, _⟩
      · cases e
      · simp [newR] at hj
    · obtain ⟨x, e, _⟩ := hi; cases e
  · rcases hi with rfl | hi
    · exact hk.size
    · exact hw i hi
set_option maxRecDepth 10000 in
theorem rNew_yes (w : World) (a : Option Addr) (n c : Nat) (xs : List Tx) (P C cp : Nat) (hn : n = xs.length) (hl : xs.length ≤ 8796093022000) (hz : ∀ x ∈ xs, x.size ≤ 140737488351232) (hs : Sl TE w a c xs) (h : argB P C) (hv : valK xs = true) :
    Calls Try.prog 7 #[.slice a n c, .int .i64 (P : Nat), .int .i64 (C : Nat), fnC cp] w (NewOk w xs P C cp) := by
  have HM : Hid (Calls Try.prog 23 #[.slice a n c] w fun e w' => e = .returned (.bool true) ∧ Keeps no w w') := by
    have := mayRead_any w a n c xs hn (by omega) (fun x hx => by have := hz x hx; unfold maxLen; omega) hs
    rwa [hv] at this
  have HC : Hid (∀ X, Keeps no w X → Calls Try.prog 24 #[.slice a n c] X fun e w' => ∃ v, e = .returned v ∧ Gives TE X xs v w') := fun X k => copyTexts_any X a n c xs hn hl (fun x hx => by have := hz x hx; omega) (hs.keepsN k)
  obtain ⟨h1, h2, h3, h4⟩ := h
  have h1' : ¬ (P : Int) < 1 := by omega
  have h2' : ¬ (64 : Int) < P := by omega
  have h4' : ¬ (65535 : Int) < C := by omega
  clear hn hl hz hs hv h1 h2 h3 h4
  have hef := eqlF cp
  have HF : Hid (∀ (w2 : World) (o : Option Addr) (m d : Nat) (w3 : World), Own TE w2 o d xs → New w o → Keeps no w w2 → m = xs.length → w3 = w2.alloc (.cells #[.slice o m d, .int .i64 (P : Nat), .int .i64 (C : Nat), .func (.func 8) #[.pointer (some ⟨cp, 0, none⟩)] #[], .int .i64 0, .int .i64 0, .slice none 0 0, .slice none 0 0, .slice none 0 0] 79) → NewOk w xs P C cp (.returned (.tuple #[.pointer (some ⟨w2.heap.size, 0, none⟩), .int .i64 0])) w3) := fun w2 o m d w3 h1 h2 h3 h4 h5 => isNew h1 h2 h3 h4 h5
  unfold fnC
  go_enter Try.func7, Try.ntmps7
  go_wp2_with fail
  refine HM.out.mono ?_
  rintro e w1 ⟨rfl, hk1⟩
  have HK1 : Hid (Keeps no w w1) := hk1
  clear hk1
  go_wp2_with fail
  refine (HC.out w1 HK1.out).mono ?_
  rintro e w2 ⟨v, rfl, o2, n2, c2, rfl, hn2, ho2, hw2, hk2⟩
  have H2 : Hid (Own TE w2 o2 c2 xs ∧ New w o2 ∧ Keeps no w w2 ∧ n2 = xs.length) := ⟨ho2, hw2.of_le HK1.out.size, HK1.out.trans hk2, hn2.out⟩
  clear ho2 hw2 hk2 hn2
  go_wp2_with fail
  go_ret2
  exact HF.out w2 o2 n2 c2 _ H2.out.1 H2.out.2.1 H2.out.2.2.1 H2.out.2.2.2 rfl
set_option maxRecDepth 10000 in
theorem rNew_keys (w : World) (a : Option Addr) (n c : Nat) (xs : List Tx) (P C cp : Nat) (hn : n = xs.length) (hl : xs.length ≤ 8796093022000) (hz : ∀ x ∈ xs, x.size ≤ 140737488351232) (hs : Sl TE w a c xs) (h : argB P C) (hv : valK xs = false) :
    Calls Try.prog 7 #[.slice a n c, .int .i64 (P : Nat), .int .i64 (C : Nat), fnC cp] w fun e w' => e = .returned (.tuple #[.pointer none, .int .i64 40]) ∧ Keeps no w w' := by
  have HM : Hid (Calls Try.prog 23 #[.slice a n c] w fun e w' => e = .returned (.bool false) ∧ Keeps no w w') := by
    have := mayRead_any w a n c xs hn (by omega) (fun x hx => by have := hz x hx; unfold maxLen; omega) hs
    rwa [hv] at this
  obtain ⟨h1, h2, h3, h4⟩ := h
  have h1' : ¬ (P : Int) < 1 := by omega
  have h2' : ¬ (64 : Int) < P := by omega
  have h4' : ¬ (65535 : Int) < C := by omega
  clear hn hl hz hs hv h1 h2 h3 h4
  have hef := eqlF cp
  unfold fnC
  go_enter Try.func7, Try.ntmps7
  go_wp2_with fail
  refine HM.out.mono ?_
  rintro e w1 ⟨rfl, hk1⟩
  go_wp2_with fail
  go_ret2
  exact ⟨rfl, hk1⟩
end Go.Proofs.Ytileipnoiocdlaa

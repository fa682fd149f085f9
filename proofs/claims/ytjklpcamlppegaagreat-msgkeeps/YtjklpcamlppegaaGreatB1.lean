import Derived.Test.YtjklpcamlppegaaGreatKy
import Derived.Test.YtjklpcamlppegaaGreatShelf
namespace Go.Proofs.YtjklpcamlppegaaGreat
open Go.RowKit Go.Sort Orl
set_option linter.unusedVariables false
set_option linter.unusedSimpArgs false

def mkT (l : List UInt8) : Tx := ⟨l.toArray⟩
theorem mkT_data (x : Tx) : mkT x.data.toList = x := by cases x; simp [mkT]
theorem sorted_isT (xs : List Tx) : ((xs.map fun x => x.data.toList).mergeSort fun x y => decide (x ≤ y)).map mkT = isT xs := by
  refine weak_perm swoT triT ?_ (isort_weak swoT e0 xs) ?_
  · unfold Weak
    rw [List.pairwise_map]
    have hp := List.pairwise_mergeSort (le := fun x y : List UInt8 => decide (x ≤ y)) (fun a b c h1 h2 => by
      simp only [decide_eq_true_eq] at *
      exact List.le_trans h1 h2) (fun a b => by
      simp only [Bool.or_eq_true, decide_eq_true_eq]
      exact List.le_total a b) (xs.map fun x => x.data.toList)
    refine List.Pairwise.imp (fun {a b} hab => ?_) hp
    rw [lts_eq]
    simp only [decide_eq_true_eq] at hab
    rw [decide_eq_false_iff_not, List.not_lt]
    simpa [mkT] using hab
  · refine List.Perm.trans ?_ (isort_perm e0 xs).symm
    have h1 := (List.mergeSort_perm (xs.map fun x => x.data.toList) (fun x y => decide (x ≤ y))).map mkT
    rw [List.map_map] at h1
    have : (mkT ∘ fun x : Tx => x.data.toList) = id := by funext x; exact mkT_data x
    rw [this, List.map_id] at h1
    exact h1

theorem cells_T (xs : List Tx) : TE.cells xs = xs.map Value.string := by
  induction xs with
  | nil => rfl
  | cons x r ih => simp [El.cells, TE] at ih ⊢; exact ih

theorem own_holds {w : World} {g c : Nat} {xs : List Tx} (h : Own TE w (some ⟨g, 0, none⟩) c xs) : Holds encStr w g 0 (xs.map fun x => x.data.toList).toArray ∧ g < w.heap.size := by
  rcases h.shape with ⟨e, _⟩ | ⟨g', cur, e, hg, hc, hm, hs, ht⟩
  · cases e
  · cases e
    refine ⟨fun j hj => ⟨?_, frozen_of_blk hg _⟩, lt_of_block hg⟩
    simp at hj
    have hr := h.sl.at hj
    obtain ⟨b, off, e, hcell⟩ := hr
    cases e
    rw [hcell]
    congr 1
    simp [hj, encStr]

theorem putRow_own {w : World} {g c m : Nat} {xs : List Tx} (ys : List (List UInt8)) (os : Array Obj) (h : Own TE w (some ⟨g, 0, none⟩) c xs) (hy : ys.length = xs.length) :
    Own TE (grow (putRow encStr (Sort.ahead w m) g 0 ys.toArray) os) (some ⟨g, 0, none⟩) c (ys.map mkT) ∧ Keeps (inO (some ⟨g, 0, none⟩)) w (grow (putRow encStr (Sort.ahead w m) g 0 ys.toArray) os) := by
  rcases h.shape with ⟨e, _⟩ | ⟨g', cur, e, hg, hc, hm, hs, ht⟩
  · cases e
  · cases e
    have hlt := lt_of_block hg
    have hb : (grow (putRow encStr (Sort.ahead w m) g 0 ys.toArray) os).heap[g]? = some (.cells (putCells encStr 0 ys.toArray cur) 9 (0, 0)) := by
      rw [heap_grow_old _ _ (by simpa using hlt)]
      simp [putRow, mapBlock, Sort.ahead, Array.getElem?_modify, hg, onCells, TE]
    constructor
    · refine own_of_shape okT hb (by simp [hy]; exact hc) hm (by simp [putCells, hs]) ?_
      rw [cells_T]
      apply List.ext_getElem?
      intro i
      have hcs : cur.size = c := by rw [hs]; simp [TE]
      by_cases hi : i < ys.length
      · have hic : i < cur.size := by omega
        rw [List.getElem?_take_of_lt (by simp [TE]; exact hi)]
        simp [putCells, hi, hic, encStr, mkT]
      · rw [List.getElem?_eq_none (by simp [TE]; omega), List.getElem?_eq_none (by simp; omega)]
    · refine ⟨rfl, rfl, rfl, by simp, fun k hk hn => ?_⟩
      rw [heap_grow_old _ _ (by simpa using hk)]
      have hne : g ≠ k := fun e => hn ⟨_, rfl, e⟩
      simp [putRow, mapBlock, Sort.ahead, Array.getElem?_modify, hne]

theorem sort_any (w : World) (g n c : Nat) (xs : List Tx) (hn : n = xs.length) (hl : Small xs) (h : Own TE w (some ⟨g, 0, none⟩) c xs) :
    Calls Tryz.prog 105 #[.slice (some ⟨g, 0, none⟩) n c] w fun e w' => e = .returned (.tuple #[]) ∧ Own TE w' (some ⟨g, 0, none⟩) c (isT xs) ∧ Keeps (inO (some ⟨g, 0, none⟩)) w w' := by
  subst hn
  have hh := own_holds h
  have hcon := Any.slices_Sort_string Tryz.laysSort g 0 c (xs.map fun x => x.data.toList) w hh.1 hh.2 (by rw [List.length_map]; unfold Small at hl; omega)
  rw [List.length_map] at hcon
  change Calls Tryz.prog 105 _ _ _ at hcon
  refine hcon.mono ?_
  rintro e w' ⟨rfl, m, os, rfl⟩
  have := putRow_own (m := m) ((xs.map fun x => x.data.toList).mergeSort fun x y => decide (x ≤ y)) os h (by rw [List.length_mergeSort, List.length_map])
  rw [sorted_isT] at this
  exact ⟨rfl, this⟩

set_option maxRecDepth 10000 in
theorem clone_any (w : World) (a : Option Addr) (n c : Nat) (xs : List Tx) (hn : n = xs.length) (hs : Sl TE w a c xs) (hb : Small xs) :
    Calls Tryz.prog 104 #[.slice a n c] w fun e w' => ∃ v, e = .returned v ∧ Gives TE w xs v w' := by
  have HN : Hid (n = xs.length) := hn
  have hb' : Hid (Small xs) := hb
  match a, hs with
  | none, hs =>
    have h0 : xs = [] := by rcases hs.row with h | ⟨b, off, h, _⟩; exact h; cases h
    have hnil := fun w => Lib.run_eql_slice_nil (P := Tryz.prog) w 25 9 none n c 0 0 Tryz.underlying25
    clear hn hb
    go_enter Tryz.func104, Tryz.ntmps104
    go_wp2_with fail
    go_ret
    subst h0
    exact ⟨_, rfl, none, 0, 0, rfl, (show 0 = _ by simp), own_nil _, new_none _, Keeps.refl _ _⟩
  | some ad, hs =>
    have hnil := fun w => Lib.run_eql_slice_nil (P := Tryz.prog) w 25 9 (some ad) n c 0 0 Tryz.underlying25
    clear hn hb
    go_enter Tryz.func104, Tryz.ntmps104
    go_wp2_with (at_builtin; refine wpList_app okT rfl _ _ rfl _ _ _ [] rfl rfl (own_empty okT _) _ _ _ xs rfl HN.out hs.nil (hs.row.keepsN ((Keeps.refl _ _).alloc _)) (by have := hb'.out; unfold Small at this; simp [TE]; omega) (by have := hb'.out; unfold Small at this; simp; omega) ?_; intro o' c' w' ho hap)
    go_ret
    have := hap.new (w0 := w) (new_fresh w _ (Nat.le_refl _) _) ((Keeps.refl _ _).alloc _)
    refine ⟨_, rfl, o', _, c', rfl, show _ = _ by simp [HN.out], by simpa using ho, this.1, this.2⟩
end Go.Proofs.YtjklpcamlppegaaGreat

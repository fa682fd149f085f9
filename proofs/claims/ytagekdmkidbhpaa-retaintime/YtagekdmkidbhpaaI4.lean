import Derived.Test.YtagekdmkidbhpaaI3
import Derived.Shelf.SlSortCmp.NoneTotal
import Derived.Test.YtagekdmkidbhpaaShelg
/- SortFunc, SortedFunc over marks. -/
namespace Go.Proofs.Ytagekdmkidbhpaa
open Go.RowKit Go.Maps Go.Sort Orl
set_option linter.unusedVariables false
set_option linter.unusedSimpArgs false

def ltM (a b : Mk) : Bool := lts a.1 b.1 || (decide (a.1 = b.1) && decide (a.2 < b.2))
theorem ltM_iff {a b : Mk} : ltM a b = true ↔ lts a.1 b.1 = true ∨ (a.1 = b.1 ∧ a.2 < b.2) := by simp [ltM]
theorem ltM_false {a b : Mk} : ltM a b = false ↔ lts a.1 b.1 = false ∧ (a.1 = b.1 → b.2 ≤ a.2) := by
  simp [ltM]
theorem swoM : SWO ltM where
  irrefl x := by rw [ltM_false]; exact ⟨swoT.irrefl _, fun _ => Nat.le_refl _⟩
  trans x y z h1 h2 := by
    rw [ltM_iff] at *
    rcases h1 with h1 | ⟨e1, h1⟩
    · rcases h2 with h2 | ⟨e2, h2⟩
      · exact .inl (swoT.trans _ _ _ h1 h2)
      · exact .inl (e2 ▸ h1)
    · rcases h2 with h2 | ⟨e2, h2⟩
      · exact .inl (e1 ▸ h2)
      · exact .inr ⟨e1.trans e2, by omega⟩
  ntrans x y z h1 h2 := by
    rw [ltM_false] at *
    refine ⟨swoT.ntrans _ _ _ h1.1 h2.1, fun e => ?_⟩
    have e1 : x.1 = y.1 := by
      have a : lts y.1 x.1 = false := by rw [e]; exact h2.1
      exact triT _ _ h1.1 a
    have e2 : y.1 = z.1 := e1 ▸ e
    exact Nat.le_trans (h2.2 e2) (h1.2 e1)
theorem triM : Tri ltM := by
  intro x y h1 h2
  rw [ltM_false] at h1 h2
  have e := triT _ _ h1.1 h2.1
  exact Prod.ext e (Nat.le_antisymm (h2.2 e.symm) (h1.2 e))
theorem cmpT_zero {x y : Tx} : cmpT x y = 0 ↔ x = y := by
  unfold cmpT
  constructor
  · intro h
    cases h1 : lts x y
    · cases h2 : lts y x
      · exact triT _ _ h1 h2
      · rw [h1, h2] at h; simp at h
    · rw [h1] at h; simp at h
  · rintro rfl
    simp [swoT.irrefl]
theorem ltOfM : ltOf cmpM = ltM := by
  funext x y
  unfold ltOf cmpM
  by_cases h : cmpT x.1 y.1 = 0
  · rw [if_neg (by simp [h])]
    have e := cmpT_zero.1 h
    unfold ltM cmpI
    rw [e, swoT.irrefl]
    rcases Nat.lt_trichotomy x.2 y.2 with h | h | h
    · simp [h]
    · simp [h]
    · simp [show ¬ x.2 < y.2 by omega, h]
  · rw [if_pos h]
    have hne : x.1 ≠ y.1 := fun e => h (cmpT_zero.2 e)
    unfold ltM cmpT
    cases h1 : lts x.1 y.1
    · cases h2 : lts y.1 x.1 <;> simp [hne]
    · simp
theorem weakM_inc {l : List Mk} (hl : Weak ltM l) (hn : l.Nodup) : Inc ltM l := by
  refine List.Pairwise.imp₂ (fun a b hab hne => ?_) hl hn
  show ltM a b = true
  cases e : ltM a b with
  | true => rfl
  | false => exact absurd (triM _ _ e hab) hne

theorem flat_cellsM (l : List Mk) : (flatK ME.enc 2 l.toArray).toList = ME.cells l := by
  apply List.ext_getElem?
  intro t
  have hlen := cells_length okMk l
  have hk2 : ME.k = 2 := rfl
  by_cases ht : t < l.length * 2
  · have h1 : t < (flatK ME.enc 2 l.toArray).toList.length := by simp; exact ht
    rw [List.getElem?_eq_getElem h1]
    have h2 := get_flatK ME.enc 2 l.toArray t (by simpa using ht)
    have hj : t / 2 < l.length := by omega
    have hc := cells_at okMk (e0, 0) l (t / 2) (t % 2) hj (by rw [hk2]; omega)
    rw [hk2, show t / 2 * 2 + t % 2 = t by omega] at hc
    rw [hc]
    have h3 : (flatK ME.enc 2 l.toArray).toList[t] = (flatK ME.enc 2 l.toArray)[t]! := by
      rw [getElem!_pos _ t (by simpa using ht)]; simp
    rw [h3, h2]
    have h4 : l.toArray[t / 2]! = l.getD (t / 2) (e0, 0) := by
      rw [getElem!_pos _ _ (by simpa using hj)]; simp [hj]
    rw [h4]
    have h5 : t % 2 = 0 ∨ t % 2 = 1 := by omega
    rcases h5 with h5 | h5 <;> rw [h5] <;> rfl
  · rw [List.getElem?_eq_none (by simp; omega), List.getElem?_eq_none (by rw [hlen, hk2]; omega)]
theorem ownM_holds {w : World} {g c : Nat} {xs : List Mk} (h : Own ME w (some ⟨g, 0, none⟩) c xs) : HoldsK ME.enc 2 w g 0 xs.toArray ∧ g < w.heap.size := by
  rcases h.shape with ⟨e, _⟩ | ⟨g', cur, e, hg, hc, hm, hs, ht⟩
  · cases e
  · cases e
    refine ⟨fun j hj => ⟨?_, frozen_of_blk hg _⟩, lt_of_block hg⟩
    rcases h.row with e | ⟨b, off, e, hcell⟩
    · subst e; simp at hj
    · cases e
      refine hcell j _ ?_
      rw [← flat_cellsM, List.getElem?_eq_getElem (by simpa using hj)]
      rw [getElem!_pos _ j hj]
      simp
theorem putRowM_own {w : World} {g c m : Nat} {xs : List Mk} (d : Array Mk) (os : Array Obj) (h : Own ME w (some ⟨g, 0, none⟩) c xs) (hy : d.size = xs.length) :
    Own ME (sortWorldK ME.enc 2 w g 0 m d os) (some ⟨g, 0, none⟩) c d.toList ∧ Keeps (inO (some ⟨g, 0, none⟩)) w (sortWorldK ME.enc 2 w g 0 m d os) := by
  unfold sortWorldK putRowK
  rcases h.shape with ⟨e, _⟩ | ⟨g', cur, e, hg, hc, hm, hs, ht⟩
  · cases e
  · cases e
    have hlt := lt_of_block hg
    have hfc := flat_cellsM d.toList
    rw [Array.toArray_toList] at hfc
    have hfs : (flatK ME.enc 2 d).size = d.size * 2 := by simp
    generalize flatK ME.enc 2 d = F at hfc hfs
    have hb : (grow (putRow id (Sort.ahead w m) g 0 F) os).heap[g]? = some (.cells (putCells id 0 F cur) 87 (0, 0)) := by
      rw [heap_grow_old _ _ (by simpa using hlt)]
      simp [putRow, mapBlock, Sort.ahead, Array.getElem?_modify, hg, onCells, ME]
    constructor
    · refine own_of_shape okMk hb (by simp [hy]; exact hc) hm (by simp [putCells, hs]) ?_
      have hcs : cur.size = c * 2 := hs
      have hk2 : ME.k = 2 := rfl
      rw [← hfc, hk2]
      apply List.ext_getElem?
      intro i
      have hdl : d.toList.length = d.size := by simp
      by_cases hi : i < F.size
      · have hic : i < cur.size := by omega
        rw [List.getElem?_take_of_lt (by omega)]
        simp [putCells, hi, hic]
      · rw [List.getElem?_eq_none (by simp; omega), List.getElem?_eq_none (by simp; omega)]
    · refine ⟨rfl, rfl, rfl, by simp, fun k hk hn => ?_⟩
      rw [heap_grow_old _ _ (by simpa using hk)]
      have hne : g ≠ k := fun e => hn ⟨_, rfl, e⟩
      simp [putRow, mapBlock, Sort.ahead, Array.getElem?_modify, hne]
theorem sortM_any (w : World) (o : Option Addr) (n c : Nat) (xs : List Mk) (hn : n = xs.length) (hl : xs.length ≤ 1954687338211) (hk : xs.Nodup) (h : Own ME w o c xs) :
    Calls Try.prog 62 #[.slice o n c, .func (.func 54) #[] #[]] w fun e w' => e = .returned (.tuple #[]) ∧ ∃ ys, ys.Perm xs ∧ Inc ltM ys ∧ Own ME w' o c ys ∧ Keeps (inO o) w w' := by
  subst hn
  rcases h.shape with ⟨rfl, rfl, rfl⟩ | ⟨g, cur, rfl, _⟩
  · have hcon := AnyF.slices_SortFunc_none Try.laysSortF none 0 (.func (.func 54) #[] #[]) w
    change Calls Try.prog 62 _ _ _ at hcon
    refine hcon.mono ?_
    rintro e w' ⟨rfl, rfl⟩
    exact ⟨rfl, [], List.Perm.refl _, List.Pairwise.nil, own_nil _, Keeps.refl _ _⟩
  · have hh := ownM_holds h
    have eg : ∀ args w, (callFunc 54 args).run Try.prog w = .ok (.enter 54 args) w := enters_of Try.func54 (by kernel_rfl) rfl
    have hcon := AnyQ.slices_SortFunc Try.laysSortF 2 Try.isAgg87 Try.sizeOf87 ME.enc (fun _ => rfl) okMk.one cmpM (by rw [ltOfM]; exact swoM) 54 #[] g 0 c xs.toArray w eg (fun _ _ _ _ x y => byKey_any x y _) hh.1 hh.2 (by simp; omega)
    rw [List.size_toArray] at hcon
    change Calls Try.prog 62 _ _ _ at hcon
    refine hcon.mono ?_
    rintro e w' ⟨rfl, d', m, os, hp, hso, rfl⟩
    obtain ⟨hsz, _, hperm⟩ := hp
    have e1 : d'.extract 0 xs.toArray.size = d' := by rw [← hsz]; exact Array.extract_size
    rw [List.size_toArray] at e1
    have e2 : xs.toArray.extract 0 xs.length = xs.toArray := by
      have := Array.extract_size (xs := xs.toArray); rwa [List.size_toArray] at this
    rw [e1, e2] at hperm
    have hw : Weak ltM d'.toList := by
      unfold Weak
      rw [List.pairwise_iff_getElem]
      intro i j hi hj hij
      have hi' : i < d'.size := by simpa using hi
      have hj' : j < d'.size := by simpa using hj
      have := hso i j (Nat.zero_le _) hij (by simp at hsz; omega)
      rw [getElem!_pos d' j hj', getElem!_pos d' i hi', ltOfM] at this
      simpa using this
    have hpm : d'.toList.Perm xs := by simpa using hperm
    have := putRowM_own (m := m) d' os h (by simpa using hsz)
    exact ⟨rfl, d'.toList, hpm, weakM_inc hw (hpm.nodup_iff.2 hk), this.1, this.2⟩
theorem appendSeqM_any (Bm b : Nat) (L : List (Mk × MV)) (hL : L.length ≤ 1954687338211) (w : World) (hm : w.cell? ⟨Bm, 0, none⟩ = some (.map (some b))) (hown : IsMp KM vvV w b L) :
    Calls Try.prog 68 #[.slice none 0 0, .func (.func 63) #[] #[.pointer (some ⟨Bm, 0, none⟩)]] w fun e w' => ∃ v, e = .returned v ∧ ∃ o n c ms, v = .slice o n c ∧ Hid (n = ms.length) ∧ ms.Perm (L.map (·.1)) ∧ Own ME w' o c ms ∧ New w o ∧ Keeps no w w' := by
  refine (callsIn_wide.1 (appendSeqM_in 3 (by omega) Bm b L hL w hm hown)).mono ?_
  rintro e w' ⟨v, ms, rfl, hp, hr, hB⟩
  have hlt := fun k hk => (World.ownsRow.lt hr k hk).1
  obtain ⟨o, c, rfl, hn, hO⟩ := own_val (E := ME) (xs := ms) okMk (ownsRow_base_a hr (Nat.zero_le _))
  exact ⟨_, rfl, o, _, c, ms, rfl, hn, hp, hO, fun k hk => hlt k ((own_blk _ _ _ _).2 hk), Keeps.of_below hB⟩
set_option maxHeartbeats 1000000 in
theorem collectM_any (Bm b : Nat) (L : List (Mk × MV)) (hL : L.length ≤ 1954687338211) (w : World) (hm : w.cell? ⟨Bm, 0, none⟩ = some (.map (some b))) (hown : IsMp KM vvV w b L) :
    Calls Try.prog 61 #[.func (.func 63) #[] #[.pointer (some ⟨Bm, 0, none⟩)]] w fun e w' => ∃ v, e = .returned v ∧ ∃ o n c ms, v = .slice o n c ∧ Hid (n = ms.length) ∧ ms.Perm (L.map (·.1)) ∧ Own ME w' o c ms ∧ New w o ∧ Keeps no w w' := by
  have hq := appendSeqM_any Bm b L hL w hm hown
  clear hL hm hown
  go_enter Try.func61, Try.ntmps61
  go_wp2_with (go_at_call 68; refine hq.mono ?_; rintro e w' ⟨v, rfl, o, n, c, ms, rfl, hn, hp, hO, hN, hK⟩)
  go_ret
  exact ⟨_, rfl, o, n, c, ms, rfl, hn, hp, hO, hN, hK⟩
set_option maxHeartbeats 1000000 in
theorem sortedM_any (Bm b : Nat) (L : List (Mk × MV)) (hL : L.length ≤ 1954687338211) (w : World) (hm : w.cell? ⟨Bm, 0, none⟩ = some (.map (some b))) (hown : IsMp KM vvV w b L) :
    Calls Try.prog 52 #[.func (.func 63) #[] #[.pointer (some ⟨Bm, 0, none⟩)], .func (.func 54) #[] #[]] w fun e w' => ∃ v, e = .returned v ∧ ∃ o n c ms, v = .slice o n c ∧ Hid (n = ms.length) ∧ ms.Perm (L.map (·.1)) ∧ Inc ltM ms ∧ Own ME w' o c ms ∧ New w o ∧ Keeps no w w' := by
  have hq := collectM_any Bm b L hL w hm hown
  have HN : Hid ((L.map (·.1)).Nodup ∧ L.length ≤ 1954687338211) := ⟨keys_nodup hown.nk, hL⟩
  clear hL hm hown
  go_enter Try.func52, Try.ntmps52
  go_wp2_with (first | (go_at_call 61; refine hq.mono ?_; rintro e w1 ⟨v, rfl, o, n, c, ms, rfl, hn, hp, hO, hN, hK⟩; have HH : Hid (n = ms.length ∧ ms.Perm (L.map (·.1)) ∧ New w o ∧ Keeps no w w1) := ⟨hn.out, hp, hN, hK⟩; have hs := sortM_any w1 o n c ms hn.out (by rw [hp.length_eq, List.length_map]; exact HN.out.2) (hp.nodup_iff.2 HN.out.1) hO; clear hn hp hN hK hO hq) | (go_at_call 62; refine hs.mono ?_; rintro e w2 ⟨rfl, ys, hpy, hiy, hOy, hKy⟩; have H2 : Hid (ys.Perm ms ∧ Inc ltM ys ∧ Own ME w2 o c ys ∧ Keeps (inO o) w1 w2) := ⟨hpy, hiy, hOy, hKy⟩; clear hpy hiy hOy hKy hs))
  go_ret
  obtain ⟨hn, hp, hN, hK⟩ := HH.out
  obtain ⟨hpy, hiy, hOy, hKy⟩ := H2.out
  exact ⟨_, rfl, o, n, c, ys, rfl, hn.trans hpy.length_eq.symm, hpy.trans hp, hiy, hOy, hN, hK.then hKy (fun i hi => .inr (hN i hi))⟩
theorem keysM_any (w : World) (mb : Option Nat) : Calls Try.prog 53 #[.map mb] w fun e w' => e = .returned (.func (.func 63) #[] #[.pointer (some ⟨w.heap.size, 0, none⟩)]) ∧ w' = w.alloc (.cells #[.map mb] 73) := by
  go_enter Try.func53, Try.ntmps53
  go_wp2
  go_ret
  exact ⟨rfl, rfl⟩
end Go.Proofs.Ytagekdmkidbhpaa

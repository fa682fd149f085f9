import Derived.Test.YtpfbbfbghldmjaaB5
namespace Go.Proofs.Ytpfbbfbghldmjaa
open Go.RowKit Go.Sort Orl
set_option linter.unusedVariables false
set_option linter.unusedSimpArgs false

def ltp (p q : Pr) : Bool := lts p.1 q.1
theorem swoP : SWO ltp where
  irrefl x := swoT.irrefl _
  trans x y z h1 h2 := swoT.trans _ _ _ h1 h2
  ntrans x y z h1 h2 := swoT.ntrans _ _ _ h1 h2
theorem weakP_inc {l : List Pr} (hl : Weak ltp l) (hn : (kys l).Nodup) : Inc ltp l := by
  have hn' : l.Pairwise (fun a b => a.1 ≠ b.1) := by
    unfold kys List.Nodup at hn
    rwa [List.pairwise_map] at hn
  refine List.Pairwise.imp₂ (fun a b hab hne => ?_) hl hn'
  show lts a.1 b.1 = true
  cases e : lts a.1 b.1 with
  | true => rfl
  | false => exact absurd (triT _ _ e hab) hne
def nrm (l : List Pr) : List Pr := isort ltp p0 l
theorem nrm_perm (l : List Pr) : (nrm l).Perm l := isort_perm p0 l
theorem nrm_length (l : List Pr) : (nrm l).length = l.length := isort_length p0 l
theorem kys_perm {l m : List Pr} (h : l.Perm m) : (kys l).Perm (kys m) := h.map _
theorem nrm_inc {l : List Pr} (hn : (kys l).Nodup) : Inc ltp (nrm l) := weakP_inc (isort_weak swoP p0 l) ((kys_perm (nrm_perm l)).nodup_iff.2 hn)
theorem nrm_unique {l m : List Pr} (hn : (kys l).Nodup) (hp : m.Perm l) (hw : Weak ltp m) : m = nrm l :=
  inc_perm swoP (weakP_inc hw ((kys_perm hp).nodup_iff.2 hn)) (nrm_inc hn) (hp.trans (nrm_perm l).symm)
theorem valK_nodup {l : List Tx} (h : valK l = true) : l.Nodup := by
  unfold valK at h
  simp only [Bool.and_eq_true] at h
  exact (isort_rising swoT triT e0 l).1 h.2
theorem valP_nodup {l : List Pr} (h : valP l = true) : (kys l).Nodup := by
  unfold valP at h
  simp only [Bool.and_eq_true] at h
  exact valK_nodup h.2

theorem flat_cells (l : List Pr) : (flatK PE.enc 2 l.toArray).toList = PE.cells l := by
  apply List.ext_getElem?
  intro t
  have hlen := cells_length okP l
  have hk2 : PE.k = 2 := rfl
  by_cases ht : t < l.length * 2
  · have h1 : t < (flatK PE.enc 2 l.toArray).toList.length := by simp; exact ht
    rw [List.getElem?_eq_getElem h1]
    have h2 := get_flatK PE.enc 2 l.toArray t (by simpa using ht)
    have hj : t / 2 < l.length := by omega
    have hc := cells_at okP p0 l (t / 2) (t % 2) hj (by rw [hk2]; omega)
    rw [hk2, show t / 2 * 2 + t % 2 = t by omega] at hc
    rw [hc]
    have h3 : (flatK PE.enc 2 l.toArray).toList[t] = (flatK PE.enc 2 l.toArray)[t]! := by
      rw [getElem!_pos _ t (by simpa using ht)]; simp
    rw [h3, h2]
    have h4 : l.toArray[t / 2]! = l.getD (t / 2) p0 := by
      rw [getElem!_pos _ _ (by simpa using hj)]; simp [hj]
    rw [h4]
    have h5 : t % 2 = 0 ∨ t % 2 = 1 := by omega
    rcases h5 with h5 | h5 <;> rw [h5] <;> rfl
  · rw [List.getElem?_eq_none (by simp; omega), List.getElem?_eq_none (by rw [hlen, hk2]; omega)]

theorem ownP_holds {w : World} {g c : Nat} {xs : List Pr} (h : Own PE w (some ⟨g, 0, none⟩) c xs) : HoldsK PE.enc 2 w g 0 xs.toArray ∧ g < w.heap.size := by
  rcases h.shape with ⟨e, _⟩ | ⟨g', cur, e, hg, hc, hm, hs, ht⟩
  · cases e
  · cases e
    refine ⟨fun j hj => ⟨?_, frozen_of_blk hg _⟩, lt_of_block hg⟩
    rcases h.row with e | ⟨b, off, e, hcell⟩
    · subst e; simp at hj
    · cases e
      refine hcell j _ ?_
      rw [← flat_cells, List.getElem?_eq_getElem (by simpa using hj)]
      rw [getElem!_pos _ j hj]
      simp

theorem putRowK_own {w : World} {g c m : Nat} {xs : List Pr} (d : Array Pr) (os : Array Obj) (h : Own PE w (some ⟨g, 0, none⟩) c xs) (hy : d.size = xs.length) :
    Own PE (sortWorldK PE.enc 2 w g 0 m d os) (some ⟨g, 0, none⟩) c d.toList ∧ Keeps (inO (some ⟨g, 0, none⟩)) w (sortWorldK PE.enc 2 w g 0 m d os) := by
  unfold sortWorldK putRowK
  rcases h.shape with ⟨e, _⟩ | ⟨g', cur, e, hg, hc, hm, hs, ht⟩
  · cases e
  · cases e
    have hlt := lt_of_block hg
    have hfc := flat_cells d.toList
    rw [Array.toArray_toList] at hfc
    have hfs : (flatK PE.enc 2 d).size = d.size * 2 := by simp
    generalize flatK PE.enc 2 d = F at hfc hfs
    have hb : (grow (putRow id (Sort.ahead w m) g 0 F) os).heap[g]? = some (.cells (putCells id 0 F cur) 34 (0, 0)) := by
      rw [heap_grow_old _ _ (by simpa using hlt)]
      simp [putRow, mapBlock, Sort.ahead, Array.getElem?_modify, hg, onCells, PE]
    constructor
    · refine own_of_shape okP hb (by simp [hy]; exact hc) hm (by simp [putCells, hs]) ?_
      have hcs : cur.size = c * 2 := hs
      have hk2 : PE.k = 2 := rfl
      rw [← hfc, hk2]
      apply List.ext_getElem?
      intro i
      have hdl : d.toList.length = d.size := by simp
      by_cases hi : i < F.size
      · have hic : i < cur.size := by omega
        rw [List.getElem?_take_of_lt (by omega)]
        simp [putCells, hi, hic]
      · rw [List.getElem?_eq_none (by simp; omega), List.getElem?_eq_none (by simp; omega)]
    · refine ⟨rfl, rfl, rfl, by simp, fun k hk hn => ?_⟩
      rw [heap_grow_old _ _ (by simpa using hk)]
      have hne : g ≠ k := fun e => hn ⟨_, rfl, e⟩
      simp [putRow, mapBlock, Sort.ahead, Array.getElem?_modify, hne]

def cmpP (x y : Pr) : Int := cmpT x.1 y.1
theorem ltOf_cmp (x y : Pr) : ltOf cmpP x y = ltp x y := by
  unfold ltOf cmpP cmpT ltp
  cases h : lts x.1 y.1
  · cases lts y.1 x.1 <;> simp
  · simp
theorem ltOf_eq : ltOf cmpP = ltp := by funext x y; exact ltOf_cmp x y

set_option maxHeartbeats 1000000 in
theorem closure39 (x y : Pr) (W : World) : Calls Try.prog 39 #[.agg #[.string x.1, .string x.2], .agg #[.string y.1, .string y.2]] W fun e w' => e = .returned (.int .i64 (cmpP x y)) ∧ ∃ q os', w' = grow (W.drewN q) os' := by
  obtain ⟨x1, x2⟩ := x
  obtain ⟨y1, y2⟩ := y
  have hcon := fun W' => compare_any x1 y1 W'
  unfold cmpP
  simp only
  generalize cmpT x1 y1 = r at hcon ⊢
  go_enter Try.func39, Try.ntmps39
  go_wp2_with (go_at_call 40; refine (hcon _).mono ?_; rintro e w' ⟨rfl, rfl⟩)
  go_ret
  exact ⟨rfl, 0, _, by rw [alloc_eq_grow, alloc_eq_grow, grow_grow]; rfl⟩

theorem sortF_any (w : World) (g n c : Nat) (xs : List Pr) (hn : n = xs.length) (hl : Small xs) (hk : (kys xs).Nodup) (h : Own PE w (some ⟨g, 0, none⟩) c xs) :
    Calls Try.prog 38 #[.slice (some ⟨g, 0, none⟩) n c, .func (.func 39) #[] #[]] w fun e w' => e = .returned (.tuple #[]) ∧ Own PE w' (some ⟨g, 0, none⟩) c (nrm xs) ∧ Keeps (inO (some ⟨g, 0, none⟩)) w w' := by
  subst hn
  have hh := ownP_holds h
  have eg : ∀ args w, (callFunc 39 args).run Try.prog w = .ok (.enter 39 args) w := enters_of Try.func39 (by kernel_rfl) rfl
  have hcon := AnyQ.slices_SortFunc Try.laysSortF 2 Try.isAgg34 Try.sizeOf34 PE.enc (fun _ => rfl) okP.one cmpP (by rw [ltOf_eq]; exact swoP) 39 #[] g 0 c xs.toArray w eg (fun _ _ _ _ x y => closure39 x y _) hh.1 hh.2 (by unfold Small at hl; simp; omega)
  rw [List.size_toArray] at hcon
  change Calls Try.prog 38 _ _ _ at hcon
  refine hcon.mono ?_
  rintro e w' ⟨rfl, d', m, os, hp, hso, rfl⟩
  obtain ⟨hsz, _, hperm⟩ := hp
  have e1 : d'.extract 0 xs.toArray.size = d' := by rw [← hsz]; exact Array.extract_size
  rw [List.size_toArray] at e1
  have e2 : xs.toArray.extract 0 xs.length = xs.toArray := by
    have := Array.extract_size (xs := xs.toArray); rwa [List.size_toArray] at this
  rw [e1, e2] at hperm
  have hw : Weak ltp d'.toList := by
    unfold Weak
    rw [List.pairwise_iff_getElem]
    intro i j hi hj hij
    have hi' : i < d'.size := by simpa using hi
    have hj' : j < d'.size := by simpa using hj
    have := hso i j (Nat.zero_le _) hij (by simp at hsz; omega)
    rw [getElem!_pos d' j hj', getElem!_pos d' i hi', ltOf_eq] at this
    simpa using this
  have he := nrm_unique hk (by simpa using hperm) hw
  have := putRowK_own (m := m) d' os h (by simpa using hsz)
  rw [he] at this
  exact ⟨rfl, this⟩

set_option maxRecDepth 10000 in
theorem cloneP_any (w : World) (a : Option Addr) (n c : Nat) (xs : List Pr) (hn : n = xs.length) (hs : Sl PE w a c xs) (hb : Small xs) :
    Calls Try.prog 37 #[.slice a n c] w fun e w' => ∃ v, e = .returned v ∧ Gives PE w xs v w' := by
  have HN : Hid (n = xs.length) := hn
  have hb' : Hid (Small xs) := hb
  match a, hs with
  | none, hs =>
    have h0 : xs = [] := by rcases hs.row with h | ⟨b, off, h, _⟩; exact h; cases h
    have hnil := fun w => Lib.run_eql_slice_nil (P := Try.prog) w 32 34 none n c 0 0 Try.underlying32
    clear hn hb
    go_enter Try.func37, Try.ntmps37
    go_wp2_with fail
    go_ret
    subst h0
    exact ⟨_, rfl, none, 0, 0, rfl, (show 0 = _ by simp), own_nil _, new_none _, Keeps.refl _ _⟩
  | some ad, hs =>
    have hnil := fun w => Lib.run_eql_slice_nil (P := Try.prog) w 32 34 (some ad) n c 0 0 Try.underlying32
    clear hn hb
    go_enter Try.func37, Try.ntmps37
    go_wp2_with (at_builtin; refine wpList_app okP rfl _ _ rfl _ _ _ [] rfl rfl (own_empty okP _) _ _ _ xs rfl HN.out hs.nil (hs.row.keepsN ((Keeps.refl _ _).alloc _)) (by have := hb'.out; unfold Small at this; simp [PE]; omega) (by have := hb'.out; unfold Small at this; simp; omega) ?_; intro o' c' w' ho hap)
    go_ret
    have := hap.new (w0 := w) (new_fresh w _ (Nat.le_refl _) _) ((Keeps.refl _ _).alloc _)
    refine ⟨_, rfl, o', _, c', rfl, show _ = _ by simp [HN.out], by simpa using ho, this.1, this.2⟩

set_option maxRecDepth 10000 in
theorem norm_any (w : World) (a : Option Addr) (n c : Nat) (xs : List Pr) (hn : n = xs.length) (hl : xs.length ≤ 40000) (hf : FitsP xs) (hs : Sl PE w a c xs) :
    Calls Try.prog 17 #[.slice a n c] w fun e w' => ∃ v, e = .returned (.tuple #[v, .int .i64 (if valP xs then 0 else 40)]) ∧ Gives PE w (if valP xs then nrm xs else []) v w' := by
  have hv := validPairs_any w a n c xs hn hl hf hs
  have HA : Hid (n = xs.length) := hn
  have HL : Hid (xs.length ≤ 40000) := hl
  clear hn hl hf
  cases e : valP xs <;> rw [e] at hv
  · clear e
    go_enter Try.func17, Try.ntmps17
    go_wp2_with fail
    refine hv.mono ?_
    rintro e w' ⟨rfl, hk⟩
    go_wp2_with fail
    go_ret2
    exact ⟨_, rfl, none, 0, 0, rfl, (show 0 = _ by simp), own_nil _, new_none _, hk⟩
  · have hnd := valP_nodup e
    have hsz := valP_size e
    have HS : Hid ((kys xs).Nodup ∧ 1 ≤ xs.length) := ⟨hnd, hsz.1⟩
    clear e hnd hsz
    go_enter Try.func17, Try.ntmps17
    go_wp2_with fail
    refine hv.mono ?_
    rintro e w1 ⟨rfl, hk⟩
    go_wp2_with fail
    refine (cloneP_any w1 a n c xs HA.out (hs.keepsN hk) (by unfold Small; have := HL.out; omega)).mono ?_
    rintro e w2 ⟨v, rfl, o1, m1, d1, rfl, hm1, ho1, hnw1, hkp1⟩
    obtain ⟨g, rfl⟩ : ∃ g, o1 = some ⟨g, 0, none⟩ := by
      rcases ho1.shape with ⟨_, _, e⟩ | ⟨g, cur, e, _⟩
      · have := HS.out.2; rw [e] at this; simp at this
      · exact ⟨g, e⟩
    go_wp2_with fail
    refine (sortF_any w2 g m1 d1 xs hm1.out (by unfold Small; have := HL.out; omega) HS.out.1 ho1).mono ?_
    rintro e w3 ⟨rfl, ho2, hkp2⟩
    have hk2 : Keeps no w1 w3 := hkp1.then hkp2 (fun i hi => .inr (hnw1 i hi))
    go_wp2_with fail
    go_ret2
    exact ⟨_, rfl, some ⟨g, 0, none⟩, m1, d1, rfl, (show m1 = _ by rw [nrm_length]; exact hm1.out), ho2, hnw1.of_le hk.size, hk.trans hk2⟩
end Go.Proofs.Ytpfbbfbghldmjaa

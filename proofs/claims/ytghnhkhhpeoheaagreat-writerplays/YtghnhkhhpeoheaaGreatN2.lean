/- Pairs of a request (ported from stage 4). -/
import Derived.Test.YtghnhkhhpeoheaaGreatN1
import Derived.Test.YtghnhkhhpeoheaaGreatM2
import Derived.Laws.MakeOwn
namespace Go.Proofs.YtghnhkhhpeoheaaGreat
open Go.RowKit Go.Sort Orl
set_option linter.unusedVariables false
set_option linter.unusedSimpArgs false

theorem kys_take (l : List Pr) (k : Nat) (h : k < l.length) : kys (l.take (k + 1)) = kys (l.take k) ++ [(l.getD k p0).1] := by
  rw [take_succ_getD l k p0 h]; simp [kys]

theorem makeT (w : World) (n : Nat) (h : n ≤ 100000) : ∃ w', (Instr.makeSlice 41 (.int .i64 0) (.int .i64 (n : Int))).run Tryz.prog w = .ok (.slice (some ⟨w.heap.size, 0, none⟩) 0 n) w' ∧ Own TE w' (some ⟨w.heap.size, 0, none⟩) n [] ∧ Keeps no w w' := by
  obtain ⟨i0, hi, hz0, hz1, hz2⟩ := info_parts info9
  obtain ⟨w', hr, ho, hg⟩ := run_make_own (P := Tryz.prog) w 0 41 9 i0 _ 1 Tryz.underlying41 hi hz0 hz1 .i64 .i64 n (by rw [hz2]; omega) (by unfold maxLen; omega) (Nat.zero_le _)
  exact ⟨w', hr, ho, (Keeps.refl _ _).grown hg (fun k hk => by cases hk)⟩

theorem own_one (w : World) (x : Tx) : Sl TE (w.alloc (.cells #[.string x] 9)) (some ⟨w.heap.size, 0, none⟩) 1 [x] := by
  refine ⟨.inr ⟨w.heap.size, 0, rfl, fun j u hj => ?_⟩, by simp, by simp⟩
  rw [cell_of_blk (blk_new w _)]
  simpa [El.cells, TE] using hj

theorem own_one2 (w : World) (o : Obj) (x : Tx) : Sl TE ((w.alloc o).alloc (.cells #[.string x] 9)) (some ⟨w.heap.size + 1, 0, none⟩) 1 [x] := by
  have := own_one (w.alloc o) x
  have e : (w.alloc o).heap.size = w.heap.size + 1 := by simp
  rwa [e] at this

set_option maxRecDepth 10000 in
theorem names_any (w : World) (a : Option Addr) (n c : Nat) (xs : List Pr) (hn : n = xs.length) (hl : Small xs) (hs : Sl PE w a c xs) :
    Calls Tryz.prog 27 #[.slice a n c] w fun e w' => ∃ v, e = .returned v ∧ Gives TE w (kys xs) v w' := by
  have HA : Hid (n = xs.length) := hn
  have hA : (n : Int) ≤ 100000 := by unfold Small at hl; omega
  have HL : Hid (xs.length ≤ 100000) := hl
  obtain ⟨w1, hr1, ho1, hk1⟩ := makeT w n (by unfold Small at hl; omega)
  clear hn hl
  go_enter Tryz.func27, Tryz.ntmps27
  go_wp2_with fail
  go_loopw [3, 11] (fun s3 i wr => ∃ (k : Nat) (v : Value), k ≤ n ∧ i = .int .i64 k ∧ s3 = v ∧ Hid (Gives TE w (kys (xs.take k)) v wr)) (fun _ i _ => n - (intOf i).toNat)
  case atStart => exact ⟨0, _, by omega, rfl, rfl, ⟨_, _, _, rfl, (show 0 = _ by simp [kys]), by simpa [kys] using ho1, new_fresh _ _ (Nat.le_refl _) _, hk1⟩⟩
  case round =>
    obtain ⟨k, v, hk, rfl, rfl, HG⟩ := hrel
    obtain ⟨o, m, d, rfl, hm, ho, hnw, hkp⟩ := HG.out
    by_cases h2 : k < n
    · have hka : k < xs.length := by have := HA.out; omega
      have hs' := hs.keepsN hkp
      obtain ⟨b1, off1, rfl, d1, d2⟩ := hs'.atP hka
      obtain ⟨x, hx⟩ : ∃ x, x = (xs.getD k p0).1 := ⟨_, rfl⟩
      obtain ⟨y, hy⟩ : ∃ y, y = (xs.getD k p0).2 := ⟨_, rfl⟩
      rw [← hx] at d1
      rw [← hy] at d2
      have HX : Hid (x = (xs.getD k p0).1) := hx
      have HLen : Hid ((kys (xs.take k)).length ≤ 100000) := by rw [kys_length, List.length_take]; have := HL.out; show _ ≤ _; omega
      clear hx hy hka
      go_wp2_with (at_builtin; refine wpList_app okT rfl _ _ rfl _ _ _ (kys (xs.take k)) rfl hm.out (ho.keepsN (((Keeps.refl _ _).alloc _).alloc _)) _ _ _ [x] rfl rfl (fun h => by cases h) (own_one2 _ _ x).row (by have := HLen.out; simp [TE]; omega) (by have := HLen.out; simp; omega) ?_; intro o1 c1 w3 ho3 hap3)
      go_roundw
      case rel =>
        have k4 := hap3.new (w0 := w) hnw ((hkp.alloc _).alloc _)
        refine ⟨k + 1, _, by omega, by go_num, rfl, ?_⟩
        show Gives TE w (kys (xs.take (k + 1))) _ _
        rw [kys_take xs k (by have := HA.out; omega), ← HX.out]
        exact ⟨o1, _, c1, rfl, (show _ = _ by have := hm.out; simp; omega), ho3, k4.1, k4.2⟩
      case measure => simp [intOf] <;> omega
    · go_wp2_with fail
      go_ret
      have he : xs.take k = xs := List.take_of_length_le (by have := HA.out; omega)
      rw [he] at hm ho
      exact ⟨_, rfl, o, m, d, rfl, hm, ho, hnw, hkp⟩

theorem valP_long {l : List Pr} {k : Nat} (hk : k < l.length) (h : 65535 < (l.getD k p0).2.size) : valP l = false := by
  have : (l.all fun p => decide (p.2.size ≤ 65535)) = false := by
    rw [List.all_eq_false]
    exact ⟨_, getD_mem_lt p0 hk, by simp at h ⊢; exact h⟩
  unfold valP; rw [this]; simp
theorem valP_of {l : List Pr} (h3 : ∀ j, j < l.length → (l.getD j p0).2.size ≤ 65535) : valP l = valK (kys l) := by
  have : (l.all fun p => decide (p.2.size ≤ 65535)) = true := by
    rw [List.all_eq_true]
    intro x hx
    obtain ⟨j, hj, rfl⟩ := List.getElem_of_mem hx
    have := h3 j hj
    simp [hj] at this
    simpa using this
  unfold valP; rw [this]; simp
theorem valP_size {l : List Pr} (h : valP l = true) : 1 ≤ l.length ∧ l.length ≤ 1024 := by
  unfold valP at h
  have := valK_size (by simp at h; exact h.2 : valK (kys l) = true)
  rwa [kys_length] at this

/-- no text of these is too long for a machine -/
def FitsP (l : List Pr) : Prop := ∀ p ∈ l, p.1.size ≤ maxLen ∧ p.2.size ≤ maxLen
theorem FitsP.keys {l : List Pr} (h : FitsP l) : ∀ x ∈ kys l, x.size ≤ maxLen := by
  intro x hx
  simp only [kys, List.mem_map] at hx
  obtain ⟨p, hp, rfl⟩ := hx
  exact (h p hp).1

set_option maxRecDepth 10000 in
theorem validPairs_any (w : World) (a : Option Addr) (n c : Nat) (xs : List Pr) (hn : n = xs.length) (hl : xs.length ≤ 4398046511000) (hf : FitsP xs) (hs : Sl PE w a c xs) :
    Calls Tryz.prog 45 #[.slice a n c] w fun e w' => e = .returned (.bool (valP xs)) ∧ Keeps no w w' := by
  have HA : Hid (n = xs.length) := hn
  have hA : (n : Int) ≤ 4398046511000 := by omega
  have HL0 : Hid (xs.length ≤ 4398046511000) := hl
  have HZ : Hid (FitsP xs) := hf
  obtain ⟨R, hR⟩ : ∃ R, valP xs = R := ⟨_, rfl⟩
  have HR : Hid (valP xs = R) := hR
  rw [hR]
  by_cases h2 : 1024 < n
  · have hf : R = false := by
      rw [← hR]; cases e : valP xs with
      | false => rfl
      | true => have := valP_size e; omega
    have h2' : (1024 : Int) < n := by omega
    clear hR hn hl h2
    subst hf
    go_enter Tryz.func45, Tryz.ntmps45
    go_wp2_with fail
    go_ret
    exact ⟨rfl, Keeps.refl _ _⟩
  have h2' : ¬ (1024 : Int) < n := by omega
  have HL : Hid (xs.length ≤ 40000) := show _ ≤ _ by omega
  clear hR hn hl hf h2
  go_enter Tryz.func45, Tryz.ntmps45
  go_wp2_with fail
  go_loopw [10] (fun i wr => ∃ k : Nat, k ≤ n ∧ i = .int .i64 k ∧ Hid (Keeps no w wr ∧ ∀ j, j < k → (xs.getD j p0).2.size ≤ 65535)) (fun i _ => n - (intOf i).toNat)
  case atStart => exact ⟨0, by omega, rfl, ⟨Keeps.refl _ _, fun j hj => absurd hj (Nat.not_lt_zero _)⟩⟩
  case round =>
    obtain ⟨k, hk, rfl, HT⟩ := hrel
    by_cases h2 : k < n
    · have hka : k < xs.length := by have := HA.out; omega
      obtain ⟨b1, off1, rfl, d1, d2⟩ := (hs.keepsN HT.out.1).atP hka
      obtain ⟨z, hz⟩ : ∃ z, z = (xs.getD k p0).1 := ⟨_, rfl⟩
      obtain ⟨x, hx⟩ : ∃ x, x = (xs.getD k p0).2 := ⟨_, rfl⟩
      rw [← hx] at d2
      rw [← hz] at d1
      have hxz : x.size ≤ 9223372036854775807 := by
        have := (HZ.out (xs.getD k p0) (getD_mem_lt _ hka)).2
        rw [← hx] at this
        unfold maxLen at this; omega
      have HX : Hid (x = (xs.getD k p0).2) := hx
      clear hx hka hz
      by_cases hlong : (65535 : Int) < x.size
      · go_wp2_with fail
        go_ret
        refine ⟨?_, HT.out.1.alloc _⟩
        have := valP_long (l := xs) (k := k) (by have := HA.out; omega) (by rw [← HX.out]; omega)
        rw [← HR.out, this]; rfl
      · go_wp2_with fail
        go_roundw
        case rel =>
          refine ⟨k + 1, by omega, by go_num, ⟨HT.out.1.alloc _, fun j hj => ?_⟩⟩
          by_cases e : j = k
          · subst e; rw [← HX.out]; omega
          · exact HT.out.2 j (by omega)
        case measure => simp [intOf] <;> omega
    · have hv : valP xs = valK (kys xs) := valP_of (fun j hj => HT.out.2 j (by have := HA.out; omega))
      rw [HR.out] at hv
      have HV : Hid (R = valK (kys xs)) := hv
      clear hv
      go_wp2_with fail
      refine (names_any wr a n c xs HA.out (by unfold Small; have := HL.out; omega) (hs.keepsN HT.out.1)).mono ?_
      rintro e w' ⟨v, rfl, o', m', d', rfl, hm', ho', hnw', hkp'⟩
      have hc := valid_any w' o' m' d' (kys xs) hm'.out (by unfold Small; rw [kys_length]; have := HL.out; omega) HZ.out.keys ho'.sl
      rw [← HV.out] at hc
      go_wp2_with fail
      refine hc.mono ?_
      rintro e w2 ⟨rfl, hkp2⟩
      go_wp2_with fail
      go_ret
      exact ⟨rfl, (HT.out.1.trans hkp').trans hkp2⟩
def cmpT (x y : Tx) : Int := if lts x y then -1 else if lts y x then 1 else 0
theorem compare_list : ∀ a b : List UInt8, Lib.compareBytes a b = if decide (a < b) then -1 else if decide (b < a) then 1 else 0
  | [], [] => by simp [Lib.compareBytes]
  | [], b :: bs => by simp [Lib.compareBytes]
  | a :: r, [] => by simp [Lib.compareBytes]
  | a :: r, b :: bs => by
    have ih := compare_list r bs
    unfold Lib.compareBytes
    simp only [List.cons_lt_cons_iff, decide_eq_true_eq] at ih ⊢
    by_cases h1 : a < b
    · simp [h1]
    · by_cases h2 : b < a
      · have : ¬ a = b := fun e => by subst e; exact absurd h2 (by simp)
        simp [h1, h2, this]
      · have e : a = b := by
          have a1 : ¬ a.toNat < b.toNat := fun h => h1 h
          have a2 : ¬ b.toNat < a.toNat := fun h => h2 h
          exact UInt8.toNat_inj.1 (by omega)
        subst e
        simp [ih]
theorem compare_eq (x y : Tx) : Lib.compareBytes x.data.toList y.data.toList = cmpT x y := by
  rw [compare_list, ← lts_eq, ← lts_eq]; rfl
theorem compare_any (x y : Tx) (w : World) : Calls Tryz.prog 49 #[.string x, .string y] w fun e w' => e = .returned (.int .i64 (cmpT x y)) ∧ w' = w := by
  have h := Any.strings_Compare Tryz.laysCompare x y w
  rw [compare_eq] at h
  exact h
theorem weakP_inc {l : List Pr} (hl : Weak ltp l) (hn : (kys l).Nodup) : Inc ltp l := by
  have hn' : l.Pairwise (fun a b => a.1 ≠ b.1) := by
    unfold kys List.Nodup at hn
    rwa [List.pairwise_map] at hn
  refine List.Pairwise.imp₂ (fun a b hab hne => ?_) hl hn'
  show lts a.1 b.1 = true
  cases e : lts a.1 b.1 with
  | true => rfl
  | false => exact absurd (triT _ _ e hab) hne
theorem kys_perm {l m : List Pr} (h : l.Perm m) : (kys l).Perm (kys m) := h.map _
theorem nrm_unique {l m : List Pr} (hn : (kys l).Nodup) (hp : m.Perm l) (hw : Weak ltp m) : m = nrm l :=
  inc_perm swoP (weakP_inc hw ((kys_perm hp).nodup_iff.2 hn)) (nrm_inc hn) (hp.trans (nrm_perm l).symm)
theorem valK_nodup {l : List Tx} (h : valK l = true) : l.Nodup := by
  unfold valK at h
  simp only [Bool.and_eq_true] at h
  exact (isort_rising swoT triT e0 l).1 h.2
theorem valP_nodup {l : List Pr} (h : valP l = true) : (kys l).Nodup := by
  unfold valP at h
  simp only [Bool.and_eq_true] at h
  exact valK_nodup h.2

theorem flat_cells (l : List Pr) : (flatK PE.enc 2 l.toArray).toList = PE.cells l := by
  apply List.ext_getElem?
  intro t
  have hlen := cells_length okP l
  have hk2 : PE.k = 2 := rfl
  by_cases ht : t < l.length * 2
  · have h1 : t < (flatK PE.enc 2 l.toArray).toList.length := by simp; exact ht
    rw [List.getElem?_eq_getElem h1]
    have h2 := get_flatK PE.enc 2 l.toArray t (by simpa using ht)
    have hj : t / 2 < l.length := by omega
    have hc := cells_at okP p0 l (t / 2) (t % 2) hj (by rw [hk2]; omega)
    rw [hk2, show t / 2 * 2 + t % 2 = t by omega] at hc
    rw [hc]
    have h3 : (flatK PE.enc 2 l.toArray).toList[t] = (flatK PE.enc 2 l.toArray)[t]! := by
      rw [getElem!_pos _ t (by simpa using ht)]; simp
    rw [h3, h2]
    have h4 : l.toArray[t / 2]! = l.getD (t / 2) p0 := by
      rw [getElem!_pos _ _ (by simpa using hj)]; simp [hj]
    rw [h4]
    have h5 : t % 2 = 0 ∨ t % 2 = 1 := by omega
    rcases h5 with h5 | h5 <;> rw [h5] <;> rfl
  · rw [List.getElem?_eq_none (by simp; omega), List.getElem?_eq_none (by rw [hlen, hk2]; omega)]

theorem ownP_holds {w : World} {g c : Nat} {xs : List Pr} (h : Own PE w (some ⟨g, 0, none⟩) c xs) : HoldsK PE.enc 2 w g 0 xs.toArray ∧ g < w.heap.size := by
  rcases h.shape with ⟨e, _⟩ | ⟨g', cur, e, hg, hc, hm, hs, ht⟩
  · cases e
  · cases e
    refine ⟨fun j hj => ⟨?_, frozen_of_blk hg _⟩, lt_of_block hg⟩
    rcases h.row with e | ⟨b, off, e, hcell⟩
    · subst e; simp at hj
    · cases e
      refine hcell j _ ?_
      rw [← flat_cells, List.getElem?_eq_getElem (by simpa using hj)]
      rw [getElem!_pos _ j hj]
      simp

theorem putRowK_own {w : World} {g c m : Nat} {xs : List Pr} (d : Array Pr) (os : Array Obj) (h : Own PE w (some ⟨g, 0, none⟩) c xs) (hy : d.size = xs.length) :
    Own PE (sortWorldK PE.enc 2 w g 0 m d os) (some ⟨g, 0, none⟩) c d.toList ∧ Keeps (inO (some ⟨g, 0, none⟩)) w (sortWorldK PE.enc 2 w g 0 m d os) := by
  unfold sortWorldK putRowK
  rcases h.shape with ⟨e, _⟩ | ⟨g', cur, e, hg, hc, hm, hs, ht⟩
  · cases e
  · cases e
    have hlt := lt_of_block hg
    have hfc := flat_cells d.toList
    rw [Array.toArray_toList] at hfc
    have hfs : (flatK PE.enc 2 d).size = d.size * 2 := by simp
    generalize flatK PE.enc 2 d = F at hfc hfs
    have hb : (grow (putRow id (Sort.ahead w m) g 0 F) os).heap[g]? = some (.cells (putCells id 0 F cur) 61 (0, 0)) := by
      rw [heap_grow_old _ _ (by simpa using hlt)]
      simp [putRow, mapBlock, Sort.ahead, Array.getElem?_modify, hg, onCells, PE]
    constructor
    · refine own_of_shape okP hb (by simp [hy]; exact hc) hm (by simp [putCells, hs]) ?_
      have hcs : cur.size = c * 2 := hs
      have hk2 : PE.k = 2 := rfl
      rw [← hfc, hk2]
      apply List.ext_getElem?
      intro i
      have hdl : d.toList.length = d.size := by simp
      by_cases hi : i < F.size
      · have hic : i < cur.size := by omega
        rw [List.getElem?_take_of_lt (by omega)]
        simp [putCells, hi, hic]
      · rw [List.getElem?_eq_none (by simp; omega), List.getElem?_eq_none (by simp; omega)]
    · refine ⟨rfl, rfl, rfl, by simp, fun k hk hn => ?_⟩
      rw [heap_grow_old _ _ (by simpa using hk)]
      have hne : g ≠ k := fun e => hn ⟨_, rfl, e⟩
      simp [putRow, mapBlock, Sort.ahead, Array.getElem?_modify, hne]

def cmpP (x y : Pr) : Int := cmpT x.1 y.1
theorem ltOf_cmp (x y : Pr) : ltOf cmpP x y = ltp x y := by
  unfold ltOf cmpP cmpT ltp
  cases h : lts x.1 y.1
  · cases lts y.1 x.1 <;> simp
  · simp
theorem ltOf_eq : ltOf cmpP = ltp := by funext x y; exact ltOf_cmp x y

set_option maxHeartbeats 1000000 in
theorem closure39 (x y : Pr) (W : World) : Calls Tryz.prog 48 #[.agg #[.string x.1, .string x.2], .agg #[.string y.1, .string y.2]] W fun e w' => e = .returned (.int .i64 (cmpP x y)) ∧ ∃ q os', w' = grow (W.drewN q) os' := by
  obtain ⟨x1, x2⟩ := x
  obtain ⟨y1, y2⟩ := y
  have hcon := fun W' => compare_any x1 y1 W'
  unfold cmpP
  simp only
  generalize cmpT x1 y1 = r at hcon ⊢
  go_enter Tryz.func48, Tryz.ntmps48
  go_wp2_with (go_at_call 49; refine (hcon _).mono ?_; rintro e w' ⟨rfl, rfl⟩)
  go_ret
  exact ⟨rfl, 0, _, by rw [alloc_eq_grow, alloc_eq_grow, grow_grow]; rfl⟩

theorem sortF_any (w : World) (g n c : Nat) (xs : List Pr) (hn : n = xs.length) (hl : Small xs) (hk : (kys xs).Nodup) (h : Own PE w (some ⟨g, 0, none⟩) c xs) :
    Calls Tryz.prog 47 #[.slice (some ⟨g, 0, none⟩) n c, .func (.func 48) #[] #[]] w fun e w' => e = .returned (.tuple #[]) ∧ Own PE w' (some ⟨g, 0, none⟩) c (nrm xs) ∧ Keeps (inO (some ⟨g, 0, none⟩)) w w' := by
  subst hn
  have hh := ownP_holds h
  have eg : ∀ args w, (callFunc 48 args).run Tryz.prog w = .ok (.enter 48 args) w := enters_of Tryz.func48 (by kernel_rfl) rfl
  have hcon := AnyQ.slices_SortFunc Tryz.laysSortF 2 Tryz.isAgg61 Tryz.sizeOf61 PE.enc (fun _ => rfl) okP.one cmpP (by rw [ltOf_eq]; exact swoP) 48 #[] g 0 c xs.toArray w eg (fun _ _ _ _ x y => closure39 x y _) hh.1 hh.2 (by unfold Small at hl; simp; omega)
  rw [List.size_toArray] at hcon
  change Calls Tryz.prog 47 _ _ _ at hcon
  refine hcon.mono ?_
  rintro e w' ⟨rfl, d', m, os, hp, hso, rfl⟩
  obtain ⟨hsz, _, hperm⟩ := hp
  have e1 : d'.extract 0 xs.toArray.size = d' := by rw [← hsz]; exact Array.extract_size
  rw [List.size_toArray] at e1
  have e2 : xs.toArray.extract 0 xs.length = xs.toArray := by
    have := Array.extract_size (xs := xs.toArray); rwa [List.size_toArray] at this
  rw [e1, e2] at hperm
  have hw : Weak ltp d'.toList := by
    unfold Weak
    rw [List.pairwise_iff_getElem]
    intro i j hi hj hij
    have hi' : i < d'.size := by simpa using hi
    have hj' : j < d'.size := by simpa using hj
    have := hso i j (Nat.zero_le _) hij (by simp at hsz; omega)
    rw [getElem!_pos d' j hj', getElem!_pos d' i hi', ltOf_eq] at this
    simpa using this
  have he := nrm_unique hk (by simpa using hperm) hw
  have := putRowK_own (m := m) d' os h (by simpa using hsz)
  rw [he] at this
  exact ⟨rfl, this⟩

set_option maxRecDepth 10000 in
theorem cloneP_any (w : World) (a : Option Addr) (n c : Nat) (xs : List Pr) (hn : n = xs.length) (hs : Sl PE w a c xs) (hb : Small xs) :
    Calls Tryz.prog 46 #[.slice a n c] w fun e w' => ∃ v, e = .returned v ∧ Gives PE w xs v w' := by
  have HN : Hid (n = xs.length) := hn
  have hb' : Hid (Small xs) := hb
  match a, hs with
  | none, hs =>
    have h0 : xs = [] := by rcases hs.row with h | ⟨b, off, h, _⟩; exact h; cases h
    have hnil := fun w => Lib.run_eql_slice_nil (P := Tryz.prog) w 22 61 none n c 0 0 Tryz.underlying22
    clear hn hb
    go_enter Tryz.func46, Tryz.ntmps46
    go_wp2_with fail
    go_ret
    subst h0
    exact ⟨_, rfl, none, 0, 0, rfl, (show 0 = _ by simp), own_nil _, new_none _, Keeps.refl _ _⟩
  | some ad, hs =>
    have hnil := fun w => Lib.run_eql_slice_nil (P := Tryz.prog) w 22 61 (some ad) n c 0 0 Tryz.underlying22
    clear hn hb
    go_enter Tryz.func46, Tryz.ntmps46
    go_wp2_with (at_builtin; refine wpList_app okP rfl _ _ rfl _ _ _ [] rfl rfl (own_empty okP _) _ _ _ xs rfl HN.out hs.nil (hs.row.keepsN ((Keeps.refl _ _).alloc _)) (by have := hb'.out; unfold Small at this; simp [PE]; omega) (by have := hb'.out; unfold Small at this; simp; omega) ?_; intro o' c' w' ho hap)
    go_ret
    have := hap.new (w0 := w) (new_fresh w _ (Nat.le_refl _) _) ((Keeps.refl _ _).alloc _)
    refine ⟨_, rfl, o', _, c', rfl, show _ = _ by simp [HN.out], by simpa using ho, this.1, this.2⟩

set_option maxRecDepth 10000 in
theorem norm_any (w : World) (a : Option Addr) (n c : Nat) (xs : List Pr) (hn : n = xs.length) (hl : xs.length ≤ 4398046511000) (hf : FitsP xs) (hs : Sl PE w a c xs) :
    Calls Tryz.prog 24 #[.slice a n c] w fun e w' => ∃ v, e = .returned (.tuple #[v, .int .i64 (if valP xs then 0 else 40)]) ∧ Gives PE w (if valP xs then nrm xs else []) v w' := by
  have hv := validPairs_any w a n c xs hn hl hf hs
  have HA : Hid (n = xs.length) := hn
  clear hl hf
  cases e : valP xs <;> rw [e] at hv
  · clear e hn
    go_enter Tryz.func24, Tryz.ntmps24
    go_wp2_with fail
    refine hv.mono ?_
    rintro e w' ⟨rfl, hk⟩
    go_wp2_with fail
    go_ret2
    exact ⟨_, rfl, none, 0, 0, rfl, (show 0 = _ by simp), own_nil _, new_none _, hk⟩
  · have hnd := valP_nodup e
    have hsz := valP_size e
    have HS : Hid ((kys xs).Nodup ∧ 1 ≤ xs.length) := ⟨hnd, hsz.1⟩
    have HL : Hid (xs.length ≤ 1024) := hsz.2
    clear e hnd hsz hn
    go_enter Tryz.func24, Tryz.ntmps24
    go_wp2_with fail
    refine hv.mono ?_
    rintro e w1 ⟨rfl, hk⟩
    go_wp2_with fail
    refine (cloneP_any w1 a n c xs HA.out (hs.keepsN hk) (by unfold Small; have := HL.out; omega)).mono ?_
    rintro e w2 ⟨v, rfl, o1, m1, d1, rfl, hm1, ho1, hnw1, hkp1⟩
    obtain ⟨g, rfl⟩ : ∃ g, o1 = some ⟨g, 0, none⟩ := by
      rcases ho1.shape with ⟨_, _, e⟩ | ⟨g, cur, e, _⟩
      · have := HS.out.2; rw [e] at this; simp at this
      · exact ⟨g, e⟩
    go_wp2_with fail
    refine (sortF_any w2 g m1 d1 xs hm1.out (by unfold Small; have := HL.out; omega) HS.out.1 ho1).mono ?_
    rintro e w3 ⟨rfl, ho2, hkp2⟩
    have hk2 : Keeps no w1 w3 := hkp1.then hkp2 (fun i hi => .inr (hnw1 i hi))
    go_wp2_with fail
    go_ret2
    exact ⟨_, rfl, some ⟨g, 0, none⟩, m1, d1, rfl, (show m1 = _ by rw [nrm_length]; exact hm1.out), ho2, hnw1.of_le hk.size, hk.trans hk2⟩
theorem sclone_any (w : World) (s : Tx) (h : s.size ≤ 281474976710656) :
    Calls Tryz.prog 25 #[.string s] w fun e w' => e = .returned (.string s) ∧ Keeps no w w' := by
  go_enter Tryz.func25, Tryz.ntmps25
  go_wp2_with fail
  refine (Any.stringslite_Clone Tryz.laysClone s w h).mono ?_
  rintro e w1 ⟨rfl, hb⟩
  go_wp2
  go_ret
  exact ⟨rfl, Keeps.of_below hb⟩
end Go.Proofs.YtghnhkhhpeoheaaGreat

import Derived.Test.YtdemoghlibnooaaGreatDoorB7
import Derived.Shelf.SlSortCmp.NoneTotal
import Derived.Test.YtdemoghlibnooaaGreatDoorShelg
import Derived.Test.YtdemoghlibnooaaGreatDoorB6
namespace Go.Proofs.YtdemoghlibnooaaGreatDoor
open Go.RowKit Go.Maps Go.Sort Orl
set_option linter.unusedVariables false
set_option linter.unusedSimpArgs false
def ltM (a b : Mk) : Bool := lts a.1 b.1 || (decide (a.1 = b.1) && decide (a.2 < b.2))
theorem ltM_iff {a b : Mk} : ltM a b = true ↔ lts a.1 b.1 = true ∨ (a.1 = b.1 ∧ a.2 < b.2) := by simp [ltM]
theorem ltM_false {a b : Mk} : ltM a b = false ↔ lts a.1 b.1 = false ∧ (a.1 = b.1 → b.2 ≤ a.2) := by
  simp [ltM]
theorem swoM : SWO ltM where
  irrefl x := by rw [ltM_false]; exact ⟨swoT.irrefl _, fun _ => Nat.le_refl _⟩
  trans x y z h1 h2 := by
    rw [ltM_iff] at *
    rcases h1 with h1 | ⟨e1, h1⟩
    · rcases h2 with h2 | ⟨e2, h2⟩
      · exact .inl (swoT.trans _ _ _ h1 h2)
      · exact .inl (e2 ▸ h1)
    · rcases h2 with h2 | ⟨e2, h2⟩
      · exact .inl (e1 ▸ h2)
      · exact .inr ⟨e1.trans e2, by omega⟩
  ntrans x y z h1 h2 := by
    rw [ltM_false] at *
    refine ⟨swoT.ntrans _ _ _ h1.1 h2.1, fun e => ?_⟩
    have e1 : x.1 = y.1 := by
      have a : lts y.1 x.1 = false := by rw [e]; exact h2.1
      exact triT _ _ h1.1 a
    have e2 : y.1 = z.1 := e1 ▸ e
    exact Nat.le_trans (h2.2 e2) (h1.2 e1)
theorem triM : Tri ltM := by
  intro x y h1 h2
  rw [ltM_false] at h1 h2
  have e := triT _ _ h1.1 h2.1
  exact Prod.ext e (Nat.le_antisymm (h2.2 e.symm) (h1.2 e))
theorem cmpT_zero {x y : Tx} : cmpT x y = 0 ↔ x = y := by
  unfold cmpT
  constructor
  · intro h
    cases h1 : lts x y
    · cases h2 : lts y x
      · exact triT _ _ h1 h2
      · rw [h1, h2] at h; simp at h
    · rw [h1] at h; simp at h
  · rintro rfl
    simp [swoT.irrefl]
theorem ltOfM : ltOf cmpM = ltM := by
  funext x y
  unfold ltOf cmpM
  by_cases h : cmpT x.1 y.1 = 0
  · rw [if_neg (by simp [h])]
    have e := cmpT_zero.1 h
    unfold ltM cmpI
    rw [e, swoT.irrefl]
    rcases Nat.lt_trichotomy x.2 y.2 with h | h | h
    · simp [h]
    · simp [h]
    · simp [show ¬ x.2 < y.2 by omega, h]
  · rw [if_pos h]
    have hne : x.1 ≠ y.1 := fun e => h (cmpT_zero.2 e)
    unfold ltM cmpT
    cases h1 : lts x.1 y.1
    · cases h2 : lts y.1 x.1 <;> simp [hne]
    · simp
theorem weakM_inc {l : List Mk} (hl : Weak ltM l) (hn : l.Nodup) : Inc ltM l := by
  refine List.Pairwise.imp₂ (fun a b hab hne => ?_) hl hn
  show ltM a b = true
  cases e : ltM a b with
  | true => rfl
  | false => exact absurd (triM _ _ e hab) hne
theorem flat_cellsM (l : List Mk) : (flatK ME.enc 2 l.toArray).toList = ME.cells l := by
  apply List.ext_getElem?
  intro t
  have hlen := cells_length okMk l
  have hk2 : ME.k = 2 := rfl
  by_cases ht : t < l.length * 2
  · have h1 : t < (flatK ME.enc 2 l.toArray).toList.length := by simp; exact ht
    rw [List.getElem?_eq_getElem h1]
    have h2 := get_flatK ME.enc 2 l.toArray t (by simpa using ht)
    have hj : t / 2 < l.length := by omega
    have hc := cells_at okMk (e0, 0) l (t / 2) (t % 2) hj (by rw [hk2]; omega)
    rw [hk2, show t / 2 * 2 + t % 2 = t by omega] at hc
    rw [hc]
    have h3 : (flatK ME.enc 2 l.toArray).toList[t] = (flatK ME.enc 2 l.toArray)[t]! := by
      rw [getElem!_pos _ t (by simpa using ht)]; simp
    rw [h3, h2]
    have h4 : l.toArray[t / 2]! = l.getD (t / 2) (e0, 0) := by
      rw [getElem!_pos _ _ (by simpa using hj)]; simp [hj]
    rw [h4]
    have h5 : t % 2 = 0 ∨ t % 2 = 1 := by omega
    rcases h5 with h5 | h5 <;> rw [h5] <;> rfl
  · rw [List.getElem?_eq_none (by simp; omega), List.getElem?_eq_none (by rw [hlen, hk2]; omega)]
theorem ownM_holds {w : World} {g c : Nat} {xs : List Mk} (h : Own ME w (some ⟨g, 0, none⟩) c xs) : HoldsK ME.enc 2 w g 0 xs.toArray ∧ g < w.heap.size := by
  rcases h.shape with ⟨e, _⟩ | ⟨g', cur, e, hg, hc, hm, hs, ht⟩
  · cases e
  · cases e
    refine ⟨fun j hj => ⟨?_, frozen_of_blk hg _⟩, lt_of_block hg⟩
    rcases h.row with e | ⟨b, off, e, hcell⟩
    · subst e; simp at hj
    · cases e
      refine hcell j _ ?_
      rw [← flat_cellsM, List.getElem?_eq_getElem (by simpa using hj)]
      rw [getElem!_pos _ j hj]
      simp
theorem putRowM_own {w : World} {g c m : Nat} {xs : List Mk} (d : Array Mk) (os : Array Obj) (h : Own ME w (some ⟨g, 0, none⟩) c xs) (hy : d.size = xs.length) :
    Own ME (sortWorldK ME.enc 2 w g 0 m d os) (some ⟨g, 0, none⟩) c d.toList ∧ Keeps (inO (some ⟨g, 0, none⟩)) w (sortWorldK ME.enc 2 w g 0 m d os) := by
  unfold sortWorldK putRowK
  rcases h.shape with ⟨e, _⟩ | ⟨g', cur, e, hg, hc, hm, hs, ht⟩
  · cases e
  · cases e
    have hlt := lt_of_block hg
    have hfc := flat_cellsM d.toList
    rw [Array.toArray_toList] at hfc
    have hfs : (flatK ME.enc 2 d).size = d.size * 2 := by simp
    generalize flatK ME.enc 2 d = F at hfc hfs
    have hb : (grow (putRow id (Sort.ahead w m) g 0 F) os).heap[g]? = some (.cells (putCells id 0 F cur) 145 (0, 0)) := by
      rw [heap_grow_old _ _ (by simpa using hlt)]
      simp [putRow, mapBlock, Sort.ahead, Array.getElem?_modify, hg, onCells, ME]
    constructor
    · refine own_of_shape okMk hb (by simp [hy]; exact hc) hm (by simp [putCells, hs]) ?_
      have hcs : cur.size = c * 2 := hs
      have hk2 : ME.k = 2 := rfl
      rw [← hfc, hk2]
      apply List.ext_getElem?
      intro i
      have hdl : d.toList.length = d.size := by simp
      by_cases hi : i < F.size
      · have hic : i < cur.size := by omega
        rw [List.getElem?_take_of_lt (by omega)]
        simp [putCells, hi, hic]
      · rw [List.getElem?_eq_none (by simp; omega), List.getElem?_eq_none (by simp; omega)]
    · refine ⟨rfl, rfl, rfl, by simp, fun k hk hn => ?_⟩
      rw [heap_grow_old _ _ (by simpa using hk)]
      have hne : g ≠ k := fun e => hn ⟨_, rfl, e⟩
      simp [putRow, mapBlock, Sort.ahead, Array.getElem?_modify, hne]
theorem sortM_any (w : World) (o : Option Addr) (n c : Nat) (xs : List Mk) (hn : n = xs.length) (hl : xs.length ≤ 1954687338211) (hk : xs.Nodup) (h : Own ME w o c xs) :
    Calls Tryz.prog 116 #[.slice o n c, .func (.func 75) #[] #[]] w fun e w' => e = .returned (.tuple #[]) ∧ ∃ ys, ys.Perm xs ∧ Inc ltM ys ∧ Own ME w' o c ys ∧ Keeps (inO o) w w' := by
  subst hn
  rcases h.shape with ⟨rfl, rfl, rfl⟩ | ⟨g, cur, rfl, _⟩
  · have hcon := AnyF.slices_SortFunc_none Tryz.laysSortF none 0 (.func (.func 75) #[] #[]) w
    change Calls Tryz.prog 116 _ _ _ at hcon
    refine hcon.mono ?_
    rintro e w' ⟨rfl, rfl⟩
    exact ⟨rfl, [], List.Perm.refl _, List.Pairwise.nil, own_nil _, Keeps.refl _ _⟩
  · have hh := ownM_holds h
    have eg : ∀ args w, (callFunc 75 args).run Tryz.prog w = .ok (.enter 75 args) w := enters_of Tryz.func75 (by kernel_rfl) rfl
    have hcon := AnyQ.slices_SortFunc Tryz.laysSortF 2 Tryz.isAgg145 Tryz.sizeOf145 ME.enc (fun _ => rfl) okMk.one cmpM (by rw [ltOfM]; exact swoM) 75 #[] g 0 c xs.toArray w eg (fun _ _ _ _ x y => byKey_any x y _) hh.1 hh.2 (by simp; omega)
    rw [List.size_toArray] at hcon
    change Calls Tryz.prog 116 _ _ _ at hcon
    refine hcon.mono ?_
    rintro e w' ⟨rfl, d', m, os, hp, hso, rfl⟩
    obtain ⟨hsz, _, hperm⟩ := hp
    have e1 : d'.extract 0 xs.toArray.size = d' := by rw [← hsz]; exact Array.extract_size
    rw [List.size_toArray] at e1
    have e2 : xs.toArray.extract 0 xs.length = xs.toArray := by
      have := Array.extract_size (xs := xs.toArray); rwa [List.size_toArray] at this
    rw [e1, e2] at hperm
    have hw : Weak ltM d'.toList := by
      unfold Weak
      rw [List.pairwise_iff_getElem]
      intro i j hi hj hij
      have hi' : i < d'.size := by simpa using hi
      have hj' : j < d'.size := by simpa using hj
      have := hso i j (Nat.zero_le _) hij (by simp at hsz; omega)
      rw [getElem!_pos d' j hj', getElem!_pos d' i hi', ltOfM] at this
      simpa using this
    have hpm : d'.toList.Perm xs := by simpa using hperm
    have := putRowM_own (m := m) d' os h (by simpa using hsz)
    exact ⟨rfl, d'.toList, hpm, weakM_inc hw (hpm.nodup_iff.2 hk), this.1, this.2⟩
theorem appendSeqM_any (Bm b : Nat) (L : List (Mk × MV)) (hL : L.length ≤ 1954687338211) (w : World) (hm : w.cell? ⟨Bm, 0, none⟩ = some (.map (some b))) (hown : IsMp KM vvV w b L) :
    Calls Tryz.prog 169 #[.slice none 0 0, .func (.func 117) #[] #[.pointer (some ⟨Bm, 0, none⟩)]] w fun e w' => ∃ v, e = .returned v ∧ ∃ o n c ms, v = .slice o n c ∧ Hid (n = ms.length) ∧ ms.Perm (L.map (·.1)) ∧ Own ME w' o c ms ∧ New w o ∧ Keeps no w w' := by
  refine (callsIn_wide.1 (appendSeqM_in 3 (by omega) Bm b L hL w hm hown)).mono ?_
  rintro e w' ⟨v, ms, rfl, hp, hr, hB⟩
  have hlt := fun k hk => (World.ownsRow.lt hr k hk).1
  obtain ⟨o, c, rfl, hn, hO⟩ := own_val (E := ME) (xs := ms) okMk (ownsRow_base_a hr (Nat.zero_le _))
  exact ⟨_, rfl, o, _, c, ms, rfl, hn, hp, hO, fun k hk => hlt k ((own_blk _ _ _ _).2 hk), Keeps.of_below hB⟩
set_option maxHeartbeats 1000000 in
theorem collectM_any (Bm b : Nat) (L : List (Mk × MV)) (hL : L.length ≤ 1954687338211) (w : World) (hm : w.cell? ⟨Bm, 0, none⟩ = some (.map (some b))) (hown : IsMp KM vvV w b L) :
    Calls Tryz.prog 115 #[.func (.func 117) #[] #[.pointer (some ⟨Bm, 0, none⟩)]] w fun e w' => ∃ v, e = .returned v ∧ ∃ o n c ms, v = .slice o n c ∧ Hid (n = ms.length) ∧ ms.Perm (L.map (·.1)) ∧ Own ME w' o c ms ∧ New w o ∧ Keeps no w w' := by
  have hq := appendSeqM_any Bm b L hL w hm hown
  clear hL hm hown
  go_enter Tryz.func115, Tryz.ntmps115
  go_wp2_with (go_at_call 169; refine hq.mono ?_; rintro e w' ⟨v, rfl, o, n, c, ms, rfl, hn, hp, hO, hN, hK⟩)
  go_ret
  exact ⟨_, rfl, o, n, c, ms, rfl, hn, hp, hO, hN, hK⟩
set_option maxHeartbeats 1000000 in
theorem sortedM_any (Bm b : Nat) (L : List (Mk × MV)) (hL : L.length ≤ 1954687338211) (w : World) (hm : w.cell? ⟨Bm, 0, none⟩ = some (.map (some b))) (hown : IsMp KM vvV w b L) :
    Calls Tryz.prog 73 #[.func (.func 117) #[] #[.pointer (some ⟨Bm, 0, none⟩)], .func (.func 75) #[] #[]] w fun e w' => ∃ v, e = .returned v ∧ ∃ o n c ms, v = .slice o n c ∧ Hid (n = ms.length) ∧ ms.Perm (L.map (·.1)) ∧ Inc ltM ms ∧ Own ME w' o c ms ∧ New w o ∧ Keeps no w w' := by
  have hq := collectM_any Bm b L hL w hm hown
  have HN : Hid ((L.map (·.1)).Nodup ∧ L.length ≤ 1954687338211) := ⟨keys_nodup hown.nk, hL⟩
  clear hL hm hown
  go_enter Tryz.func73, Tryz.ntmps73
  go_wp2_with (first | (go_at_call 115; refine hq.mono ?_; rintro e w1 ⟨v, rfl, o, n, c, ms, rfl, hn, hp, hO, hN, hK⟩; have HH : Hid (n = ms.length ∧ ms.Perm (L.map (·.1)) ∧ New w o ∧ Keeps no w w1) := ⟨hn.out, hp, hN, hK⟩; have hs := sortM_any w1 o n c ms hn.out (by rw [hp.length_eq, List.length_map]; exact HN.out.2) (hp.nodup_iff.2 HN.out.1) hO; clear hn hp hN hK hO hq) | (go_at_call 116; refine hs.mono ?_; rintro e w2 ⟨rfl, ys, hpy, hiy, hOy, hKy⟩; have H2 : Hid (ys.Perm ms ∧ Inc ltM ys ∧ Own ME w2 o c ys ∧ Keeps (inO o) w1 w2) := ⟨hpy, hiy, hOy, hKy⟩; clear hpy hiy hOy hKy hs))
  go_ret
  obtain ⟨hn, hp, hN, hK⟩ := HH.out
  obtain ⟨hpy, hiy, hOy, hKy⟩ := H2.out
  exact ⟨_, rfl, o, n, c, ys, rfl, hn.trans hpy.length_eq.symm, hpy.trans hp, hiy, hOy, hN, hK.then hKy (fun i hi => .inr (hN i hi))⟩
theorem keysM_any (w : World) (mb : Option Nat) : Calls Tryz.prog 74 #[.map mb] w fun e w' => e = .returned (.func (.func 117) #[] #[.pointer (some ⟨w.heap.size, 0, none⟩)]) ∧ w' = w.alloc (.cells #[.map mb] 90) := by
  go_enter Tryz.func74, Tryz.ntmps74
  go_wp2
  go_ret
  exact ⟨rfl, rfl⟩
end Go.Proofs.YtdemoghlibnooaaGreatDoor
namespace Go.Proofs.YtdemoghlibnooaaGreatDoor
open Go.RowKit Go.Maps Go.Sort Orl
set_option linter.unusedVariables false
set_option linter.unusedSimpArgs false
structure KV where
  m : Mk
  val : Tx
  o : Option Addr
  c : Nat
  keys : List Tx
  stamp : Int
def kv0 : KV := ⟨(e0, 0), e0, none, 0, [], 0⟩
def KE : El KV := ⟨114, 76, 5, 72, fun x => [.string x.m.1, .int .u64 ((x.m.2 : Nat) : Int), .string x.val, .slice x.o x.keys.length x.c, .int .i64 x.stamp]⟩
theorem infoK : (Tryz.prog.info? 114).map (fun i => (i.zero, i.size, i.bytes)) = some (some (.agg #[.string ⟨#[]⟩, .int .u64 0, .string ⟨#[]⟩, .slice none 0 0, .int .i64 0]), 5, 72) := by kernel_rfl
theorem okK : KE.Ok := by
  obtain ⟨i0, hi, hz0, hz1, hz2⟩ := info_parts infoK
  exact ⟨fun _ => rfl, fun x u hu => by simp [KE] at hu; rcases hu with rfl | rfl | rfl | rfl | rfl <;> rfl, by decide, Tryz.underlying76, i0, _, hi, hz0, hz1, hz2, rfl⟩
theorem makeK (w : World) (n : Nat) (h : n ≤ 1954687338211) : ∃ w', (Instr.makeSlice 76 (.int .i64 0) (.int .i64 (n : Int))).run Tryz.prog w = .ok (.slice (some ⟨w.heap.size, 0, none⟩) 0 n) w' ∧ Own KE w' (some ⟨w.heap.size, 0, none⟩) n [] ∧ Keeps no w w' := by
  obtain ⟨i0, hi, hz0, hz1, hz2⟩ := info_parts infoK
  obtain ⟨w', hr, ho, hg⟩ := run_make_own (P := Tryz.prog) w 0 76 114 i0 _ 5 Tryz.underlying76 hi hz0 hz1 .i64 .i64 n (by rw [hz2]; omega) (by unfold maxLen; omega) (Nat.zero_le _)
  exact ⟨w', hr, ho, (Keeps.refl _ _).grown hg (fun k hk => by cases hk)⟩
theorem own_oneK (w : World) (x : KV) : Sl KE (w.alloc (.cells #[.string x.m.1, .int .u64 ((x.m.2 : Nat) : Int), .string x.val, .slice x.o x.keys.length x.c, .int .i64 x.stamp] 114)) (some ⟨w.heap.size, 0, none⟩) 1 [x] := by
  refine ⟨.inr ⟨_, 0, rfl, fun j u hj => ?_⟩, by simp, fun e => by cases e⟩
  rw [Nat.zero_add, cell_of_blk (blk_new w _)]
  simpa [El.cells, KE] using hj
theorem Sl.atM {w : World} {a : Option Addr} {c : Nat} {xs : List Mk} (h : Sl ME w a c xs) {j : Nat} (hj : j < xs.length) : ∃ b off, a = some ⟨b, off, none⟩ ∧ w.cell? ⟨b, off + j * 2, none⟩ = some (.string (xs.getD j (e0, 0)).1) ∧ w.cell? ⟨b, off + j * 2 + 1, none⟩ = some (.int .u64 (((xs.getD j (e0, 0)).2 : Nat) : Int)) := by
  rcases h.row with e | ⟨b, off, rfl, hc⟩
  · subst e; simp at hj
  · refine ⟨b, off, rfl, hc (j * 2) _ ?_, ?_⟩
    · have := cells_at okMk (e0, 0) xs j 0 hj (by decide)
      simpa [ME] using this
    · rw [Nat.add_assoc]
      refine hc (j * 2 + 1) _ ?_
      have := cells_at okMk (e0, 0) xs j 1 hj (by decide)
      simpa [ME] using this
def apartK (a b : KV) : Prop := ∀ i, inO a.o i → ¬ inO b.o i
def IsKs (s : St) (ks : List KV) : Prop := ∀ x ∈ ks, s.V x.m = some ⟨x.val, x.keys, x.stamp⟩
structure Kl (w : World) (ks : List KV) (o : Option Addr) (c : Nat) (w' : World) : Prop where
  own : Own KE w' o c ks
  key : ∀ x ∈ ks, Own TE w' x.o x.c x.keys ∧ New w x.o
  apart : ks.Pairwise apartK
  new : New w o
  keep : Keeps no w w'
theorem tags_ne {α β : Type} {E : El α} {D : El β} {w : World} {o p : Option Addr} {c d : Nat} {xs : List α} {ys : List β} (h : Own E w o c xs) (k : Own D w p d ys) (hne : E.e ≠ D.e) : ∀ i, inO o i → ¬ inO p i := by
  intro i hi hj
  obtain ⟨c1, h1⟩ := h.tag i hi
  obtain ⟨c2, h2⟩ := k.tag i hj
  rw [h1] at h2
  injection h2 with h2
  injection h2 with _ h2 _
  exact hne h2
theorem kt_ne : KE.e ≠ TE.e := by decide
theorem Kl.keeps {w : World} {ks : List KV} {o : Option Addr} {c : Nat} {w' w'' : World} (h : Kl w ks o c w') (hk : Keeps no w' w'') : Kl w ks o c w'' :=
  ⟨h.own.keepsN hk, fun x hx => ⟨(h.key x hx).1.keepsN hk, (h.key x hx).2⟩, h.apart, h.new, h.keep.trans hk⟩
theorem Kl.push {w : World} {ks : List KV} {o : Option Addr} {c : Nat} {w1 w2 w3 : World} (h : Kl w ks o c w1) {x : KV} (hx : Own TE w2 x.o x.c x.keys) (hn : New w1 x.o) (hk : Keeps no w1 w2) {o' : Option Addr} {c' : Nat} (ho : Own KE w3 o' c' (ks ++ [x])) (ha : Ap w2 o o' w3) : Kl w (ks ++ [x]) o' c' w3 := by
  have h2 := h.keeps hk
  have hnw := ha.new h.new h2.keep
  have hkp : ∀ {y : KV}, Own TE w2 y.o y.c y.keys → Own TE w3 y.o y.c y.keys := fun {y} hy => by
    rcases ha with ⟨rfl, ha⟩ | ⟨_, ha⟩
    · exact hy.keeps ha (fun i hi hj => tags_ne h2.own hy kt_ne i hj hi)
    · exact hy.keepsN ha
  refine ⟨ho, fun y hy => ?_, ?_, hnw.1, hnw.2⟩
  · rcases List.mem_append.1 hy with hy | hy
    · exact ⟨hkp (h2.key y hy).1, (h2.key y hy).2⟩
    · simp at hy; subst hy
      exact ⟨hkp hx, hn.of_le h.keep.size⟩
  · rw [List.pairwise_append]
    refine ⟨h.apart, by simp, fun a ha' b hb => ?_⟩
    simp at hb; subst hb
    intro i hi hj
    have := (h.key a ha').1.lt i hi
    have := hn i hj
    omega
set_option maxRecDepth 10000 in
set_option maxHeartbeats 1000000 in
theorem kept_any (w : World) (p : Nat) (T : Nat → Option Ro) (s : St) (N : Nat) (h : IsS w p T s N) (hok : OkV s) (hN : N ≤ 1954687338211) :
    Calls Tryz.prog 33 #[.pointer (some ⟨p, 0, none⟩)] w fun e w' => ∃ v, e = .returned v ∧ ∃ o n c ks, v = .slice o n c ∧ Hid (n = ks.length) ∧ Hid (Kl w ks o c w' ∧ IsKs s ks ∧ Inc ltM (ks.map (·.m)) ∧ ∀ m, s.V m ≠ none → m ∈ ks.map (·.m)) ∧ Hid (ks.length ≤ N) := by
  obtain ⟨y, h⟩ := h
  have HN : Hid (y.V.length ≤ N ∧ N ≤ 1954687338211) := ⟨h.nv, hN⟩
  have c0 := h.c0
  have hlen := fun ty => h.mv.len (t := 90) (e := 150) Tryz.underlying90 ty
  obtain ⟨q, hq⟩ : ∃ q, q = y.V.length := ⟨_, rfl⟩
  rw [← hq] at hlen
  have HQ : Hid (q = y.V.length) := hq
  obtain ⟨w1, hr1, ho1, hk1⟩ := makeK w q (by rw [hq]; have := HN.out; omega)
  have c01 := hk1.cellN c0
  have hks := keysM_any w1 (some y.vm)
  have hk2 : Keeps no w (w1.alloc (.cells #[.map (some y.vm)] 90)) := hk1.alloc _
  have hso := sortedM_any w1.heap.size y.vm y.V (by have := HN.out; omega) (w1.alloc (.cells #[.map (some y.vm)] 90)) (cell_of_blk (blk_new w1 _) 0) (h.mv.keepsN hk2)
  have HS : Hid (SL w p T s N y) := h
  have HO : Hid (OkV s) := hok
  have HK1 : Hid (Own KE w1 (some ⟨w.heap.size, 0, none⟩) q [] ∧ Keeps no w w1) := ⟨ho1, hk1⟩
  clear h hok hN hq ho1 hk1 hk2
  go_enter Tryz.func33, Tryz.ntmps33
  go_wp2_with (first | (go_at_call 74; refine hks.mono ?_; rintro e w' ⟨rfl, rfl⟩) | (go_at_call 73; refine hso.mono ?_; rintro e w2 ⟨v2, rfl, o2, n2, d2, ms, rfl, hn2, hp2, hi2, ho2, hnw2, hkp2⟩; have H2 : Hid (n2 = ms.length ∧ ms.Perm (y.V.map (·.1)) ∧ Inc ltM ms ∧ Own ME w2 o2 d2 ms ∧ Keeps no w1 w2) := ⟨hn2.out, hp2, hi2, ho2, ((Keeps.refl no w1).alloc _).trans hkp2⟩; clear hn2 hp2 hi2 ho2 hnw2 hkp2))
  have h2n : Hid (n2 ≤ 1954687338211) := (show _ ≤ _ by rw [H2.out.1, H2.out.2.1.length_eq, List.length_map]; have := HN.out; omega)
  have h2n' : (n2 : Int) ≤ 1954687338211 := by have := h2n.out; omega
  clear hks hso hr1 hlen c01 c0
  go_loopw [3, 5, 19] (fun s3 _ i wr => ∃ (k : Nat) (v : Value), k ≤ n2 ∧ i = .int .i64 k ∧ s3 = v ∧ Hid (∃ o m d ks, v = .slice o m d ∧ m = ks.length ∧ Kl w ks o d wr ∧ IsKs s ks ∧ ks.map (·.m) = ms.take k ∧ Own ME wr o2 d2 ms)) (fun _ _ i _ => n2 - (intOf i).toNat)
  case atStart => exact ⟨0, _, by omega, rfl, rfl, _, _, _, [], rfl, rfl, ⟨HK1.out.1.keepsN H2.out.2.2.2.2, (fun x hx => by cases hx), List.Pairwise.nil, new_fresh w _ (Nat.le_refl _) _, HK1.out.2.trans H2.out.2.2.2.2⟩, (fun x hx => by cases hx), by simp, H2.out.2.2.2.1⟩
  case round =>
    obtain ⟨k, v, hk, rfl, rfl, HG⟩ := hrel
    obtain ⟨o, m, d, ks, rfl, hm, hkl, hks, hkm, hom⟩ := HG.out
    have HM : Hid (m = ks.length) := hm
    have HKL : Hid (Kl w ks o d wr ∧ IsKs s ks ∧ ks.map (·.m) = ms.take k ∧ Own ME wr o2 d2 ms) := ⟨hkl, hks, hkm, hom⟩
    clear hm hkl hks hkm HG
    by_cases hlt : k < n2
    · have hka : k < ms.length := by have := H2.out.1; omega
      obtain ⟨b1, off1, rfl, d1, d1'⟩ := hom.sl.atM hka
      obtain ⟨mk, hmk⟩ : ∃ mk, mk = ms.getD k (e0, 0) := ⟨_, rfl⟩
      rw [← hmk] at d1 d1'
      have HX : Hid (mk = ms.getD k (e0, 0)) := hmk
      have hin : mk ∈ ms := by rw [hmk]; exact Orl.getD_mem_lt _ hka
      obtain ⟨mv, hmv⟩ : ∃ mv, fnd mk y.V = some mv := mem_keys.1 (H2.out.2.1.mem_iff.1 hin)
      have hsv : s.V mk = some mv.vr := by rw [HS.out.sv, hmv]; rfl
      have HSV : Hid (s.V mk = some mv.vr) := hsv
      have hX := ((Keeps.refl no wr).alloc (.cells #[.string mk.1, .int .u64 ((mk.2 : Nat) : Int)] 145))
      have ht := told_any _ p T s N mk mv.vr (IsS.keepsN (⟨y, HS.out⟩ : IsS w p T s N) (HKL.out.1.keep.trans hX)) hsv (by have := HO.out.len hsv; omega) (by have := HO.out.size hsv; omega)
      obtain ⟨mk1, mk2⟩ := mk
      simp only at d1 d1' ht hX
      have HOM : Hid (Own ME wr (some ⟨b1, off1, none⟩) d2 ms) := hom
      have HB : Hid (ks.length ≤ 1954687338211) := (show _ ≤ _ by
        have : (ks.map (·.m)).length = (ms.take k).length := by rw [HKL.out.2.2.1]
        rw [List.length_map, List.length_take] at this
        have := h2n.out; omega)
      clear hin hsv hmv hka hom hmk hX
      go_wp2_with (first | (go_at_call 76; refine ht.mono ?_; rintro e wt ⟨u, rfl, ot, nt, ct, rfl, hnt, hot, hnwt, hkt⟩; have HT : Hid (nt = mv.vr.keys.length ∧ Own TE wt ot ct mv.vr.keys ∧ New wr ot ∧ Keeps no wr wt) := ⟨hnt.out, hot, hnwt.of_le (by simp), ((Keeps.refl no wr).alloc _).trans hkt⟩; clear hnt hot hnwt hkt ht) | (at_builtin; refine wpList_app okK rfl _ _ rfl _ _ _ ks rfl HM.out ((HKL.out.1.own.keepsN HT.out.2.2.2).keepsN ((Keeps.refl _ _).alloc _)) _ _ _ [⟨(mk1, mk2), mv.vr.val, ot, ct, mv.vr.keys, mv.vr.stamp⟩] rfl rfl (fun h => by cases h) (by have hh := (own_oneK wt ⟨(mk1, mk2), mv.vr.val, ot, ct, mv.vr.keys, mv.vr.stamp⟩).row; rw [← HT.out.1] at hh; exact hh) (by have := HB.out; simp [KE]; omega) (by have := HB.out; simp; omega) ?_; intro o1 c1 w3 ho3 hap3))
      go_roundw
      case rel =>
        have hpush := HKL.out.1.push (x := ⟨(mk1, mk2), mv.vr.val, ot, ct, mv.vr.keys, mv.vr.stamp⟩) (HT.out.2.1.keepsN ((Keeps.refl no wt).alloc _)) HT.out.2.2.1 (HT.out.2.2.2.alloc _) ho3 hap3
        refine ⟨k + 1, _, by omega, by go_num, rfl, o1, _, c1, _, rfl, ?_, hpush, ?_, ?_, ?_⟩
        · rw [List.length_append, ← HM.out]; simp
        · intro x hx
          rcases List.mem_append.1 hx with hx | hx
          · exact HKL.out.2.1 x hx
          · simp at hx; subst hx; exact HSV.out
        · rw [List.map_append, HKL.out.2.2.1, take_succ_getD ms k (e0, 0) (by have := H2.out.1; omega), ← HX.out]; rfl
        · have hh := (HOM.out.keepsN HT.out.2.2.2).keepsN ((Keeps.refl no wt).alloc (.cells #[.string mk1, .int .u64 ((mk2 : Nat) : Int), .string mv.vr.val, .slice ot nt ct, .int .i64 mv.vr.stamp] 114))
          have hok := (HKL.out.1.own.keepsN HT.out.2.2.2).keepsN ((Keeps.refl no wt).alloc (.cells #[.string mk1, .int .u64 ((mk2 : Nat) : Int), .string mv.vr.val, .slice ot nt ct, .int .i64 mv.vr.stamp] 114))
          rcases hap3 with ⟨rfl, ha⟩ | ⟨_, ha⟩
          · exact hh.keeps ha (fun i hi hj => tags_ne hok hh (by decide) i hj hi)
          · exact hh.keepsN ha
      case measure => simp [intOf]; omega
    · go_wp2_with fail
      go_ret
      have hkn : k = n2 := by omega
      have e1 : ms.take k = ms := List.take_of_length_le (by have := H2.out.1; omega)
      obtain ⟨hkl, hks, hkm, hom⟩ := HKL.out
      rw [e1] at hkm
      refine ⟨_, rfl, o, m, d, ks, rfl, HM, ⟨hkl, hks, by rw [hkm]; exact H2.out.2.2.1, fun z hz => ?_⟩, ?_⟩
      · rw [hkm]
        refine H2.out.2.1.mem_iff.2 (mem_keys.2 ?_)
        rw [HS.out.sv] at hz
        cases hf : fnd z y.V with
        | none => rw [hf] at hz; exact absurd rfl hz
        | some v => exact ⟨v, rfl⟩
      · show _ ≤ _
        have : (ks.map (·.m)).length = ms.length := by rw [hkm]
        rw [List.length_map] at this
        have h3 := H2.out.2.1.length_eq
        rw [List.length_map] at h3
        have := HN.out
        omega
end Go.Proofs.YtdemoghlibnooaaGreatDoor
namespace Go.Proofs.YtdemoghlibnooaaGreatDoor
open Go.RowKit Go.Maps Go.Sort Orl
set_option linter.unusedVariables false
set_option linter.unusedSimpArgs false
theorem Sl.atK {w : World} {a : Option Addr} {c : Nat} {xs : List KV} (h : Sl KE w a c xs) {j : Nat} (hj : j < xs.length) : ∃ b off, a = some ⟨b, off, none⟩ ∧ w.cell? ⟨b, off + j * 5, none⟩ = some (.string (xs.getD j kv0).m.1) ∧ w.cell? ⟨b, off + j * 5 + 1, none⟩ = some (.int .u64 (((xs.getD j kv0).m.2 : Nat) : Int)) ∧ w.cell? ⟨b, off + j * 5 + 2, none⟩ = some (.string (xs.getD j kv0).val) ∧ w.cell? ⟨b, off + j * 5 + 3, none⟩ = some (.slice (xs.getD j kv0).o (xs.getD j kv0).keys.length (xs.getD j kv0).c) ∧ w.cell? ⟨b, off + j * 5 + 4, none⟩ = some (.int .i64 (xs.getD j kv0).stamp) := by
  rcases h.row with e | ⟨b, off, rfl, hc⟩
  · subst e; simp at hj
  · refine ⟨b, off, rfl, hc (j * 5) _ ?_, ?_, ?_, ?_, ?_⟩
    · have := cells_at okK kv0 xs j 0 hj (by decide)
      simpa [KE] using this
    · rw [Nat.add_assoc]
      refine hc (j * 5 + 1) _ ?_
      have := cells_at okK kv0 xs j 1 hj (by decide)
      simpa [KE] using this
    · rw [Nat.add_assoc]
      refine hc (j * 5 + 2) _ ?_
      have := cells_at okK kv0 xs j 2 hj (by decide)
      simpa [KE] using this
    · rw [Nat.add_assoc]
      refine hc (j * 5 + 3) _ ?_
      have := cells_at okK kv0 xs j 3 hj (by decide)
      simpa [KE] using this
    · rw [Nat.add_assoc]
      refine hc (j * 5 + 4) _ ?_
      have := cells_at okK kv0 xs j 4 hj (by decide)
      simpa [KE] using this
theorem kq_of {a b : World} (h1 : b.os = a.os) (h2 : b.tape = a.tape) (h3 : b.output = a.output) (h4 : b.heap = a.heap) : Keeps no a b := ⟨h1, h2, h3, by rw [h4]; exact Nat.le_refl _, fun k _ _ => by rw [h4]⟩
end Go.Proofs.YtdemoghlibnooaaGreatDoor

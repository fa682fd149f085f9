import Derived.Deep.RegionHeld3
import Derived.Test.YtdemoghlibnooaaGreatDoorB6
import Derived.Test.YtdemoghlibnooaaGreatDoorShelh
import Derived.Test.YtdemoghlibnooaaGreatDoorB8
import Derived.Lib.QuietBelow
/- Lasts. -/
namespace Go.Proofs.YtdemoghlibnooaaGreatDoor
open Go.RowKit Go.Maps Go.Sort Orl
set_option linter.unusedVariables false
set_option linter.unusedSimpArgs false

def LE : El Mk := ⟨116, 109, 2, 24, fun x => [.string x.1, .int .u64 ((x.2 : Nat) : Int)]⟩
theorem infoLa : (Tryz.prog.info? 116).map (fun i => (i.zero, i.size, i.bytes)) = some (some (.agg #[.string ⟨#[]⟩, .int .u64 0]), 2, 24) := by kernel_rfl
theorem okL : LE.Ok := by
  obtain ⟨i0, hi, hz0, hz1, hz2⟩ := info_parts infoLa
  exact ⟨fun _ => rfl, fun x u hu => by simp [LE] at hu; rcases hu with rfl | rfl <;> rfl, by decide, Tryz.underlying109, i0, _, hi, hz0, hz1, hz2, rfl⟩
theorem own_oneL (w : World) (x : Mk) : Sl LE (w.alloc (.cells #[.string x.1, .int .u64 ((x.2 : Nat) : Int)] 116)) (some ⟨w.heap.size, 0, none⟩) 1 [x] := by
  refine ⟨.inr ⟨_, 0, rfl, fun j u hj => ?_⟩, by simp, fun e => by cases e⟩
  rw [Nat.zero_add, cell_of_blk (blk_new w _)]
  simpa [El.cells, LE] using hj
theorem Sl.atL {w : World} {a : Option Addr} {c : Nat} {xs : List Mk} (h : Sl LE w a c xs) {j : Nat} (hj : j < xs.length) : ∃ b off, a = some ⟨b, off, none⟩ ∧ w.cell? ⟨b, off + j * 2, none⟩ = some (.string (xs.getD j (e0, 0)).1) ∧ w.cell? ⟨b, off + j * 2 + 1, none⟩ = some (.int .u64 (((xs.getD j (e0, 0)).2 : Nat) : Int)) := by
  rcases h.row with e | ⟨b, off, rfl, hc⟩
  · subst e; simp at hj
  · refine ⟨b, off, rfl, hc (j * 2) _ ?_, ?_⟩
    · have := cells_at okL (e0, 0) xs j 0 hj (by decide)
      simpa [LE] using this
    · rw [Nat.add_assoc]
      refine hc (j * 2 + 1) _ ?_
      have := cells_at okL (e0, 0) xs j 1 hj (by decide)
      simpa [LE] using this
theorem tagsL_ne {α β : Type} {E : El α} {D : El β} {w : World} {o p : Option Addr} {c d : Nat} {xs : List α} {ys : List β} (h : Own E w o c xs) (k : Own D w p d ys) (hne : E.e ≠ D.e) : ∀ i, inO o i → ¬ inO p i := by
  intro i hi hj
  obtain ⟨c1, h1⟩ := h.tag i hi
  obtain ⟨c2, h2⟩ := k.tag i hj
  rw [h1] at h2
  injection h2 with h2
  injection h2 with _ h2 _
  exact hne h2
/-- the keys of the lines, sorted -/
theorem keys_sorted {L : List (Tx × Ln)} (hn : Nk L) {ss : List (List UInt8)} (hp : ss.Perm (strKeys (dat KT vvL L))) : ∃ ts : List Tx, ts.map (fun x => encStr x.data.toList) = (ss.mergeSort (fun x y => decide (x ≤ y))).map encStr ∧ ts.Perm (L.map (·.1)) ∧ Inc lts ts := by
  have h1 : (strKeys (dat KT vvL L)).Perm (L.map fun p => p.1.data.toList) := by
    show (List.map (fun p => strOf p.1) ((L.map (ent KT vvL)).foldr DataW.insert [])).Perm _
    refine ((WideShapes.sorted_perm _).map _).trans ?_
    rw [List.map_map]
    exact List.Perm.of_eq rfl
  have h2 := (List.mergeSort_perm ss (fun x y => decide (x ≤ y))).trans (hp.trans h1)
  have hp2 : ((ss.mergeSort (fun x y => decide (x ≤ y))).map mkT).Perm (L.map (·.1)) := by
    refine (h2.map mkT).trans ?_
    rw [List.map_map]
    refine List.Perm.of_eq (List.map_congr_left fun p _ => ?_)
    exact mkT_data p.1
  refine ⟨(ss.mergeSort (fun x y => decide (x ≤ y))).map mkT, ?_, hp2, ?_⟩
  · rw [List.map_map]
    refine List.map_congr_left fun l _ => ?_
    simp only [Function.comp, data_mkT]
  · have hw : Weak lts ((ss.mergeSort (fun x y => decide (x ≤ y))).map mkT) := by
      unfold Weak
      rw [List.pairwise_map]
      have := List.pairwise_mergeSort (le := fun x y : List UInt8 => decide (x ≤ y)) (fun a b c h1 h2 => by
        simp only [decide_eq_true_eq] at *
        exact List.le_trans h1 h2) (fun a b => by
        simp only [Bool.or_eq_true, decide_eq_true_eq]
        exact List.le_total a b) ss
      refine List.Pairwise.imp (fun {a b} h => ?_) this
      rw [lts_eq, data_mkT, data_mkT, decide_eq_false_iff_not, List.not_lt]
      simpa using h
    refine weak_inc triT hw ?_
    refine hp2.nodup_iff.2 ?_
    unfold List.Nodup
    rw [List.pairwise_map]
    exact hn
theorem sortedT_any (w : World) (b : Nat) (L : List (Tx × Ln)) (h : IsMp KT vvL w b L) (hL : L.length ≤ 1954687338211) :
    Calls Tryz.prog 58 #[.func (.func 160) #[] #[.pointer (some ⟨w.heap.size, 0, none⟩)]] (w.alloc (.cells #[.map (some b)] 91)) fun e w' => ∃ o n c ts, e = .returned (.slice o n c) ∧ Hid (n = ts.length ∧ ts.Perm (L.map (·.1)) ∧ Inc lts ts ∧ Own TE w' o c ts ∧ Keeps no w w') := by
  have K2 := callsIn_wide.1 (Tryz.slices_Sorted_keys_58_107 b L.length (dat KT vvL L) rdV w h.own (by rw [dat_size]; unfold maxLen; omega) (by rw [dat_size]; omega))
  refine K2.mono ?_
  rintro e w3 ⟨v, ss, rfl, hS, hrow, hnil, hb⟩
  obtain ⟨ts, h1, h2, h3⟩ := keys_sorted h.nk hS
  have hrow0 : w3.ownsRow 0 TE.e TE.k v ss.length (TE.cells ts) := by
    have e1 : TE.cells ts = (ss.mergeSort (fun x y => decide (x ≤ y))).map encStr := by
      rw [← h1, cells_T]
    rw [e1]
    obtain ⟨r1, r2⟩ := hrow
    refine ⟨r1, ?_⟩
    rcases r2 with r2 | ⟨g, cap, cur, q1, q2, q3⟩
    · exact .inl r2
    · exact .inr ⟨g, cap, cur, q1, Nat.zero_le _, q3⟩
  obtain ⟨o, c', hv, hn, hown⟩ := own_val okT hrow0
  exact ⟨o, _, c', ts, by rw [hv], hn, h2, h3, hown, ((Keeps.refl no w).alloc _).trans (Keeps.of_below hb)⟩
/-- what Lasts tells -/
def IsLs (s : St) (ls : List Mk) : Prop := Inc lts (ls.map (·.1)) ∧ ∀ k i, (k, i) ∈ ls ↔ s.last k = i ∧ i ≠ 0
/-- the first k keys' lasts -/
def lasts (s : St) (ts : List Tx) : List Mk := (ts.filter fun x => decide (s.last x ≠ 0)).map fun x => (x, s.last x)
theorem lasts_snoc (s : St) (l : List Tx) (x : Tx) : lasts s (l ++ [x]) = lasts s l ++ (if s.last x = 0 then [] else [(x, s.last x)]) := by
  unfold lasts
  rw [List.filter_append, List.map_append]
  congr 1
  by_cases h : s.last x = 0 <;> simp [h]
theorem lasts_is {s : St} {ts : List Tx} (hi : Inc lts ts) (hall : ∀ k, s.last k ≠ 0 → k ∈ ts) : IsLs s (lasts s ts) := by
  constructor
  · unfold lasts
    rw [List.map_map]
    have e : ((fun x : Mk => x.1) ∘ fun x => ((x, s.last x) : Mk)) = id := rfl
    rw [e, List.map_id]
    exact List.Pairwise.filter _ hi
  · intro k i
    unfold lasts
    constructor
    · intro h
      obtain ⟨x, hx, e⟩ := List.mem_map.1 h
      injection e with e1 e2
      subst e1 e2
      exact ⟨rfl, by simpa using (List.mem_filter.1 hx).2⟩
    · rintro ⟨rfl, h⟩
      exact List.mem_map.2 ⟨k, List.mem_filter.2 ⟨hall k h, by simpa using h⟩, rfl⟩
theorem lasts_len (s : St) (ts : List Tx) : (lasts s ts).length ≤ ts.length := by
  unfold lasts
  rw [List.length_map]
  exact List.length_filter_le _ _
set_option maxRecDepth 10000 in
theorem lasts_any (w : World) (p : Nat) (T : Nat → Option Ro) (s : St) (N : Nat) (h : IsS w p T s N) (hN : N ≤ 1954687338211) :
    Calls Tryz.prog 55 #[.pointer (some ⟨p, 0, none⟩)] w fun e w' => ∃ v, e = .returned v ∧ ∃ ls, Gives LE w ls v w' ∧ Hid (IsLs s ls) ∧ Hid (ls.length ≤ N) := by
  obtain ⟨y, h⟩ := h
  have c1 := h.c1
  have K1 := fun (W : World) => callsIn_wide.1 (Tryz.maps_Keys_107 (some y.lm) W)
  have hnl := h.nl
  have K2 := sortedT_any w y.lm y.L h.ml (by omega)
  have HS : Hid (SL w p T s N y ∧ N ≤ 1954687338211) := ⟨h, hN⟩
  clear h hN hnl
  go_enter Tryz.func55, Tryz.ntmps55
  go_wp2_with (first | (go_at_call 107; refine (K1 _).mono ?_; rintro e w2 ⟨rfl, rfl⟩) | (go_at_call 58; refine K2.mono ?_; rintro e w3 ⟨o, n, c, ts, rfl, H3⟩))
  clear K1 K2
  have hnb : (n : Int) ≤ 1954687338211 := by
    have h1 := H3.out.1
    have h2 := H3.out.2.1.length_eq
    rw [List.length_map] at h2
    have := HS.out.1.nl
    have := HS.out.2
    omega
  go_loopw [3, 5, 14] (fun s3 _ i wr => ∃ (k : Nat) (v : Value), k ≤ n ∧ i = .int .i64 k ∧ s3 = v ∧ Hid (Gives LE w (lasts s (ts.take k)) v wr ∧ Own TE wr o c ts)) (fun _ _ i _ => n - (intOf i).toNat)
  case atStart => exact ⟨0, _, by omega, rfl, rfl, ⟨none, 0, 0, rfl, (show 0 = _ by simp [lasts]), own_nil _, new_none _, H3.out.2.2.2.2⟩, H3.out.2.2.2.1⟩
  case round =>
    obtain ⟨k, v, hk, rfl, rfl, HG⟩ := hrel
    obtain ⟨⟨lo, m, lc, rfl, hm, hlo, hlnw, hlk⟩, hto⟩ := HG.out
    have HO : Hid (m = (lasts s (ts.take k)).length ∧ Own LE wr lo lc (lasts s (ts.take k)) ∧ New w lo ∧ Keeps no w wr ∧ Own TE wr o c ts) := ⟨hm.out, hlo, hlnw, hlk, hto⟩
    clear hm hlo hlnw hlk hto HG
    by_cases hlt : k < n
    · have hka : k < ts.length := by have := H3.out.1; omega
      have hlt' : (k : Int) < n := by omega
      obtain ⟨b1, off1, e1, d1⟩ := HO.out.2.2.2.2.sl.at hka
      obtain ⟨x, hx⟩ : ∃ x, x = ts.getD k e0 := ⟨_, rfl⟩
      rw [← hx] at d1
      have hin : x ∈ y.L.map (·.1) := H3.out.2.1.mem_iff.1 (by rw [hx]; exact getD_mem_lt _ hka)
      obtain ⟨q, hq, hqx⟩ := List.mem_map.1 hin
      have hline := (HS.out.1.line q hq)
      have hfnd : fnd x y.L = some q.2 := fnd_of_mem HS.out.1.ml.nk (by rw [← hqx]; exact hq)
      have hkx : x.size ≤ maxLen := HS.out.1.ml.ko _ (fnd_mem hfnd)
      have hlk := lookL_some (HS.out.1.ml.keepsN HO.out.2.2.2.1) hkx hfnd
      have hlb : wr.cell? ⟨q.2.p, 0, none⟩ = some (.int .u64 ((q.2.last : Nat) : Int)) := cell_of_blk (HO.out.2.2.2.1.at hline.blk id) 0
      have hc1 := HO.out.2.2.2.1.cellN c1
      have hls : s.last x = q.2.last := by rw [HS.out.1.sl, lastOf, hfnd]
      obtain ⟨P, hP⟩ : ∃ P, P = q.2.p := ⟨_, rfl⟩
      obtain ⟨la, hla⟩ : ∃ la, la = q.2.last := ⟨_, rfl⟩
      rw [← hP] at hlk hlb
      rw [← hla] at hlb
      have HX : Hid (x = ts.getD k e0 ∧ k < ts.length ∧ s.last x = la) := ⟨hx, hka, hls.trans hla.symm⟩
      have HB : Hid ((lasts s (ts.take k)).length ≤ 1954687338211) := (show _ ≤ _ by
        have h1 := lasts_len s (ts.take k)
        rw [List.length_take] at h1
        have := H3.out.1; omega)
      clear hx hka hin hq hqx hline hfnd hkx hls hla hP
      subst e1
      by_cases h0 : la = 0
      · have HZ : Hid (la = 0) := h0
        have h0' : ((la : Nat) : Int) = 0 := by omega
        rw [h0'] at hlb
        clear h0 h0'
        go_wp2_with fail
        go_roundw
        case rel =>
          refine ⟨k + 1, _, by omega, by go_num, rfl, ?_⟩
          rw [take_succ_getD ts k e0 HX.out.2.1, lasts_snoc, ← HX.out.1, if_pos (HX.out.2.2.trans HZ.out), List.append_nil]
          exact ⟨⟨lo, m, lc, rfl, HO.out.1, HO.out.2.1, HO.out.2.2.1, HO.out.2.2.2.1⟩, HO.out.2.2.2.2⟩
        case measure => simp [intOf]; omega
      · have HZ : Hid (¬ la = 0) := h0
        have h0' : ¬ ((la : Nat) : Int) = 0 := by omega
        clear h0
        go_wp2_with (at_builtin; refine wpList_app okL rfl _ _ rfl _ _ _ (lasts s (ts.take k)) rfl HO.out.1 (HO.out.2.1.keepsN ((Keeps.refl _ _).alloc _)) _ _ _ [(x, la)] rfl rfl (fun h => by cases h) (own_oneL _ (x, la)).row (by have := HB.out; simp [LE]; omega) (by have := HB.out; simp; omega) ?_; intro o3 c3 w4 ho3 hap3)
        go_roundw
        case rel =>
          have k4 := hap3.new (w0 := w) HO.out.2.2.1 (HO.out.2.2.2.1.alloc _)
          refine ⟨k + 1, _, by omega, by go_num, rfl, ?_⟩
          rw [take_succ_getD ts k e0 HX.out.2.1, lasts_snoc, ← HX.out.1, if_neg (by rw [HX.out.2.2]; exact HZ.out), HX.out.2.2]
          refine ⟨⟨o3, _, c3, rfl, (show _ = _ by rw [List.length_append, ← HO.out.1]; rfl), ho3, k4.1, k4.2⟩, ?_⟩
          have hh := HO.out.2.2.2.2.keepsN ((Keeps.refl no wr).alloc (.cells #[.string x, .int .u64 ((la : Nat) : Int)] 116))
          have hok := HO.out.2.1.keepsN ((Keeps.refl no wr).alloc (.cells #[.string x, .int .u64 ((la : Nat) : Int)] 116))
          rcases hap3 with ⟨rfl, ha⟩ | ⟨_, ha⟩
          · exact hh.keeps ha (fun i hi hj => tagsL_ne hok hh (by decide) i hj hi)
          · exact hh.keepsN ha
        case measure => simp [intOf]; omega
    · have hlt' : ¬ (k : Int) < n := by omega
      go_wp2_with fail
      go_ret
      have e1 : ts.take k = ts := List.take_of_length_le (by have := H3.out.1; omega)
      rw [e1] at HO
      refine ⟨_, rfl, _, ⟨lo, m, lc, rfl, HO.out.1, HO.out.2.1, HO.out.2.2.1, HO.out.2.2.2.1⟩, lasts_is H3.out.2.2.1 (fun k' hk' => ?_), ?_⟩
      · refine H3.out.2.1.mem_iff.2 ?_
        rw [HS.out.1.sl] at hk'
        unfold lastOf at hk'
        cases hf : fnd k' y.L with
        | none => rw [hf] at hk'; exact absurd rfl hk'
        | some q => exact List.mem_map.2 ⟨_, fnd_mem hf, rfl⟩
      · show _ ≤ _
        have h1 := lasts_len s ts
        have h2 := H3.out.2.1.length_eq
        rw [List.length_map] at h2
        have := HS.out.1.nl
        omega
end Go.Proofs.YtdemoghlibnooaaGreatDoor
/- sameKept, sameLasts. -/
namespace Go.Proofs.YtdemoghlibnooaaGreatDoor
open Go.RowKit Go.Maps Go.Sort Orl
set_option linter.unusedVariables false
set_option linter.unusedSimpArgs false

theorem neqL (x1 y1 : Tx) (x2 y2 : Nat) (w : World) : (binOp .neq 116 (.agg #[.string x1, .int .u64 ((x2 : Nat) : Int)]) (.agg #[.string y1, .int .u64 ((y2 : Nat) : Int)])).run Tryz.prog w = .ok (.bool (!(decide (x1 = y1) && decide (x2 = y2)))) w := by
  have u9 := Tryz.underlying9
  have a9 := Tryz.isAgg9
  have z9 := Tryz.sizeOf9
  have ui := Tryz.underlying43
  have ai := Tryz.isAgg43
  have zi := Tryz.sizeOf43
  have hS : Tryz.prog.underlying 116 = some (.struct (Tryz.prog.fieldsOf 116)) := by kernel_rfl
  have hp : Tryz.prog.stoodInHeld 116 = false := by kernel_rfl
  rw [run_neq_struct, show (10000 : Nat) = 9999 + 1 from rfl, run_equalIn_agg w 9999 116 _ _ hS hp]
  simp only [Program.fieldsOf, Tryz.underlying116]
  go_simp
  by_cases h1 : x1 = y1 <;> by_cases h2 : x2 = y2 <;> simp [h1, h2, toList_inj] <;> omega
theorem two_new (w : World) (x y : Obj) : ((w.alloc x).alloc y).drew.heap[w.heap.size]? = some x ∧ ((w.alloc x).alloc y).drew.heap[w.heap.size + 1]? = some y := by
  refine ⟨blk_alloc (blk_new w x) y, ?_⟩
  have := blk_new (w.alloc x) y
  rw [World.size_alloc] at this
  exact this
/-- the same version, with its stamp where st says so -/
def KvEq (st : Bool) (x y : KV) : Prop := x.m = y.m ∧ x.val = y.val ∧ x.keys = y.keys ∧ (st = true → x.stamp = y.stamp)
def KsEq (st : Bool) (a b : List KV) : Prop := a.length = b.length ∧ ∀ j, j < a.length → KvEq st (a.getD j kv0) (b.getD j kv0)
def OkKs (w : World) (ks : List KV) : Prop := ∀ x ∈ ks, Sl TE w x.o x.c x.keys ∧ x.keys.length ≤ 1048576
theorem OkKs.keepsN {w w' : World} {ks : List KV} (h : OkKs w ks) (hk : Keeps no w w') : OkKs w' ks := fun x hx => ⟨(h x hx).1.keepsN hk, (h x hx).2⟩
end Go.Proofs.YtdemoghlibnooaaGreatDoor
/- Load: what may be. -/
namespace Go.Proofs.YtdemoghlibnooaaGreatDoor
open Go.RowKit Go.Maps Go.Sort Orl
set_option linter.unusedVariables false
set_option linter.unusedSimpArgs false

def ltl (p q : Mk) : Bool := lts p.1 q.1
def ltk (x y : KV) : Bool := ltM x.m y.m
theorem load1_any (x y : Mk) (W : World) : Calls Tryz.prog 202 #[.agg #[.string x.1, .int .u64 ((x.2 : Nat) : Int)], .agg #[.string y.1, .int .u64 ((y.2 : Nat) : Int)]] W fun e w' => e = .returned (.int .i64 (cmpT x.1 y.1)) ∧ Keeps no W w' := by
  obtain ⟨x1, x2⟩ := x
  obtain ⟨y1, y2⟩ := y
  have hcon := fun W' => compare_any x1 y1 W'
  simp only
  generalize cmpT x1 y1 = r at hcon ⊢
  go_enter Tryz.func202, Tryz.ntmps202
  go_wp2_with (go_at_call 119; refine (hcon _).mono ?_; rintro e w' ⟨rfl, rfl⟩)
  go_ret
  exact ⟨rfl, ((Keeps.refl _ _).alloc _).alloc _⟩
theorem keeps_grow (W : World) (q : Nat) (os : Array Obj) : Keeps no W (Sort.grow (W.drewN q) os) := keeps_grownQ W (W.drewN q).drawn os
theorem byKeyK (x y : Mk) (W : World) : Calls Tryz.prog 75 #[.agg #[.string x.1, .int .u64 ((x.2 : Nat) : Int)], .agg #[.string y.1, .int .u64 ((y.2 : Nat) : Int)]] W fun e w' => e = .returned (.int .i64 (cmpM x y)) ∧ Keeps no W w' :=
  (byKey_any x y W).mono fun e w' ⟨h, q, os, hw⟩ => ⟨h, by rw [hw]; exact keeps_grow W q os⟩
theorem sizeMk (a b : Value) : (Tryz.prog.info? 145).map (·.size) = some (#[a, b] : Array Value).size := by
  show _ = some 2
  kernel_rfl
theorem loadMk {w : World} {g : Nat} {a b : Value} (h : w.heap[g]? = some (.cells #[a, b] 145 (0, 0))) : (loadVar 145 ⟨g, 0, none⟩).run Tryz.prog w = .ok (.agg #[a, b]) w := run_loadVar_row _ _ _ _ _ _ _ h Tryz.underlying145 rfl (sizeMk _ _)
theorem markOf_any (k : Tx) (i : Nat) (v : Tx) (o : Option Addr) (n c : Nat) (st : Int) (W : World) : Calls Tryz.prog 205 #[.agg #[.string k, .int .u64 ((i : Nat) : Int), .string v, .slice o n c, .int .i64 st]] W fun e w' => e = .returned (.agg #[.string k, .int .u64 ((i : Nat) : Int)]) ∧ Keeps no W w' := by
  have hb := blk_new (W.alloc (.cells #[.string k, .int .u64 ((i : Nat) : Int), .string v, .slice o n c, .int .i64 st] 114)) (.cells #[.string k, .int .u64 ((i : Nat) : Int)] 145)
  rw [show (W.alloc (.cells #[.string k, .int .u64 ((i : Nat) : Int), .string v, .slice o n c, .int .i64 st] 114)).heap.size = W.heap.size + 1 by simp] at hb
  have HB : Hid (_ = _) := hb
  clear hb
  go_enter Tryz.func205, Tryz.ntmps205
  go_wp2_with fail
  refine bodyPost_ret (results_row1 rfl _ _ (W.heap.size + 1) _ rfl (loadMk HB.out)) rfl ?_
  exact ⟨rfl, ((Keeps.refl _ _).alloc _).alloc _⟩
theorem areKept1_any (xk : Tx) (xi : Nat) (xv : Tx) (xo : Option Addr) (nx xc : Nat) (xst : Int) (yk : Tx) (yi : Nat) (yv : Tx) (yo : Option Addr) (ny yc : Nat) (yst : Int) (W : World) : Calls Tryz.prog 247 #[.agg #[.string xk, .int .u64 ((xi : Nat) : Int), .string xv, .slice xo nx xc, .int .i64 xst], .agg #[.string yk, .int .u64 ((yi : Nat) : Int), .string yv, .slice yo ny yc, .int .i64 yst]] W fun e w' => e = .returned (.int .i64 (cmpM (xk, xi) (yk, yi))) ∧ Keeps no W w' := by
  have h3 := fun X => byKeyK (xk, xi) (yk, yi) X
  generalize cmpM (xk, xi) (yk, yi) = r at h3 ⊢
  simp only at h3
  obtain ⟨B, hB⟩ : ∃ B, B = W.heap.size := ⟨_, rfl⟩
  obtain ⟨w1, hw1⟩ : ∃ w1, w1 = (W.alloc (.cells #[.string xk, .int .u64 ((xi : Nat) : Int), .string xv, .slice xo nx xc, .int .i64 xst] 114)).alloc (.cells #[.string yk, .int .u64 ((yi : Nat) : Int), .string yv, .slice yo ny yc, .int .i64 yst] 114) := ⟨_, rfl⟩
  have hk1 : Keeps no W w1 := by rw [hw1]; exact ((Keeps.refl no W).alloc _).alloc _
  have hb1 : w1.heap[B]? = some (.cells #[.string xk, .int .u64 ((xi : Nat) : Int), .string xv, .slice xo nx xc, .int .i64 xst] 114 (0, 0)) := by rw [hw1, hB]; exact blk_alloc (blk_new W _) _
  have hb2 : w1.heap[B + 1]? = some (.cells #[.string yk, .int .u64 ((yi : Nat) : Int), .string yv, .slice yo ny yc, .int .i64 yst] 114 (0, 0)) := by
    rw [hw1, hB]
    have := blk_new (W.alloc (.cells #[.string xk, .int .u64 ((xi : Nat) : Int), .string xv, .slice xo nx xc, .int .i64 xst] 114)) (.cells #[.string yk, .int .u64 ((yi : Nat) : Int), .string yv, .slice yo ny yc, .int .i64 yst] 114)
    rwa [show (W.alloc (.cells #[.string xk, .int .u64 ((xi : Nat) : Int), .string xv, .slice xo nx xc, .int .i64 xst] 114)).heap.size = W.heap.size + 1 by simp] at this
  have c1 := call_grown (W := w1) (fun X hX => markOf_any xk xi xv xo nx xc xst X)
  have c2 := call_grown (W := w1) (fun X hX => markOf_any yk yi yv yo ny yc yst X)
  have c3 := call_grown (W := w1) (fun X hX => h3 X)
  have z0 := cell_regrown (cell_of_blk hb1 0)
  have z1 := cell_regrown (cell_of_blk hb1 1)
  have z2 := cell_regrown (cell_of_blk hb1 2)
  have z3 := cell_regrown (cell_of_blk hb1 3)
  have z4 := cell_regrown (cell_of_blk hb1 4)
  have y0 := cell_regrown (cell_of_blk hb2 0)
  have y1 := cell_regrown (cell_of_blk hb2 1)
  have y2 := cell_regrown (cell_of_blk hb2 2)
  have y3 := cell_regrown (cell_of_blk hb2 3)
  have y4 := cell_regrown (cell_of_blk hb2 4)
  have HK : Hid (Keeps no W w1) := hk1
  clear hk1 hb1 hb2 h3
  go_enter Tryz.func247, Tryz.ntmps247
  go_upto_region 1 with fail
  rw [← hw1, ← hB]
  clear hw1 hB
  refine wp_region_quiet_below (by kernel_rfl) (by kernel_rfl) ?_
  repeat (go_big_quiet_step (first | (go_at_call_of 205 (Value.agg #[.string xk, .int .u64 ((xi : Nat) : Int), .string xv, .slice xo nx xc, .int .i64 xst]); exact c1 _ _) | (go_at_call_of 205 (Value.agg #[.string yk, .int .u64 ((yi : Nat) : Int), .string yv, .slice yo ny yc, .int .i64 yst]); exact c2 _ _) | (go_at_call 75; exact c3 _ _)))
  refine wpQuiet_nil ?_
  intro _ hw'
  obtain ⟨⟨dq, osq⟩, rfl⟩ := hw'
  have H2 : Hid (Keeps no W (Sort.grow (redrawn w1 dq) osq)) := HK.out.trans (keeps_grownQ ..)
  generalize Sort.grow (redrawn w1 dq) osq = w2 at H2 ⊢
  clear c1 c2 c3 z0 z1 z2 z3 z4 y0 y1 y2 y3 y4
  go_wp2_with fail
  go_ret
  exact ⟨rfl, H2.out⟩
theorem cmpM_iff {x y : Mk} : ltM x y = decide (cmpM x y < 0) := by rw [← ltOfM]; rfl
theorem cmpM_ge {x y : Mk} (h : ltM x y = false) : 0 ≤ cmpM x y := by
  rw [cmpM_iff, decide_eq_false_iff_not] at h
  omega
theorem cmpM_lt {x y : Mk} (h : ltM x y = true) : cmpM x y < 0 := by
  rw [cmpM_iff, decide_eq_true_eq] at h
  exact h
set_option maxRecDepth 10000 in
theorem risingL_any (w : World) (a : Option Addr) (n c : Nat) (xs : List Mk) (hn : n = xs.length) (hl : xs.length ≤ 140737488355328) (hs : Sl LE w a c xs) :
    Calls Tryz.prog 201 #[.slice a n c, .func (.func 202) #[] #[]] w fun e w' => e = .returned (.bool (rising ltl xs)) ∧ Keeps no w w' := by
  have HA : Hid (n = xs.length) := hn
  have hA : (n : Int) ≤ 140737488355328 := by omega
  clear hn hl
  obtain ⟨R, hR⟩ : ∃ R, rising ltl xs = R := ⟨_, rfl⟩
  have HR : Hid (rising ltl xs = R) := hR
  rw [hR]
  clear hR
  have HS : Hid (Sl LE w a c xs) := hs
  clear hs
  go_enter Tryz.func201, Tryz.ntmps201
  go_wp2_with fail
  go_loopw [5] (fun i wr => ∃ k : Nat, k ≤ n ∧ i = .int .i64 ((k : Int) + 1) ∧ Hid (Keeps no w wr) ∧ Hid (∀ j, j < k → j + 1 < xs.length → ltl (xs.getD j (e0, 0)) (xs.getD (j + 1) (e0, 0)) = true)) (fun i _ => n + 1 - (intOf i).toNat)
  case atStart => exact ⟨0, by omega, rfl, Keeps.refl _ _, fun j hj => absurd hj (Nat.not_lt_zero _)⟩
  case round =>
    obtain ⟨k, hk, rfl, HK, HT⟩ := hrel
    by_cases h2 : k + 1 < n
    · have hka : k + 1 < xs.length := by have := HA.out; omega
      obtain ⟨b1, off1, rfl, d1, d1'⟩ := (HS.out.keepsN HK.out).atL (j := k) (by omega)
      obtain ⟨b2, off2, e2, d2, d2'⟩ := (HS.out.keepsN HK.out).atL hka
      cases e2
      obtain ⟨x, hx⟩ : ∃ x, x = xs.getD k (e0, 0) := ⟨_, rfl⟩
      obtain ⟨y, hy⟩ : ∃ y, y = xs.getD (k + 1) (e0, 0) := ⟨_, rfl⟩
      rw [← hx] at d1 d1'
      rw [← hy] at d2 d2'
      have HX : Hid (x = xs.getD k (e0, 0)) := hx
      have HY : Hid (y = xs.getD (k + 1) (e0, 0)) := hy
      clear hx hy hka
      have h3 : (k : Int) + 1 < n := by omega
      have h4 : (k : Int) < n := by omega
      have hwk : IntKind.i64.wrap (k : Int) = (k : Int) := by rw [IntKind.wrap_i64]; omega
      have z1 := cell_regrown d1
      have z1' := cell_regrown d1'
      have z2 := cell_regrown d2
      have z2' := cell_regrown d2'
      have hq := fun W => load1_any x y W
      cases hxy : ltl x y
      · have hge := cmpT_ge hxy
        generalize cmpT x.1 y.1 = C at hq hge
        have cS := call_grown (W := wr) (fun X hX => hq X)
        clear hq
        go_wp2_with fail
        refine wp_region_quiet_below (by kernel_rfl) (by kernel_rfl) ?_
        repeat (go_big_quiet_step (exact cS _ _))
        refine wpQuiet_nil ?_
        intro _ hw'
        obtain ⟨⟨dq, osq⟩, rfl⟩ := hw'
        have K1 : Hid (Keeps no w (Sort.grow (redrawn wr dq) osq)) := HK.out.trans (keeps_grownQ ..)
        generalize Sort.grow (redrawn wr dq) osq = u1 at K1 ⊢
        clear d1 d1' d2 d2' z1 z1' z2 z2' cS
        go_wp2_with fail
        go_ret
        refine ⟨?_, K1.out⟩
        have hf := rising_fail (lt := ltl) (e0, 0) xs k (by have := HA.out; omega) (by rw [← HX.out, ← HY.out]; exact hxy)
        rw [← HR.out, hf]; rfl
      · have hge := cmpT_lt hxy
        rw [hge] at hq
        have cS := call_grown (W := wr) (fun X hX => hq X)
        clear hq hge
        go_wp2_with fail
        refine wp_region_quiet_below (by kernel_rfl) (by kernel_rfl) ?_
        repeat (go_big_quiet_step (exact cS _ _))
        refine wpQuiet_nil ?_
        intro _ hw'
        obtain ⟨⟨dq, osq⟩, rfl⟩ := hw'
        have K1 : Hid (Keeps no w (Sort.grow (redrawn wr dq) osq)) := HK.out.trans (keeps_grownQ ..)
        generalize Sort.grow (redrawn wr dq) osq = u1 at K1 ⊢
        clear d1 d1' d2 d2' z1 z1' z2 z2' cS
        go_wp2_with fail
        go_roundw
        case rel =>
          refine ⟨k + 1, by omega, by go_num, K1, fun j hj hj2 => ?_⟩
          by_cases e : j = k
          · subst e; rw [← HX.out, ← HY.out]; exact hxy
          · exact HT.out j (by omega) hj2
        case measure => simp [intOf]; omega
    · have h3 : ¬ (k : Int) + 1 < n := by omega
      go_wp2_with fail
      go_ret
      refine ⟨?_, HK.out⟩
      have hf := rising_of_all (lt := ltl) (e0, 0) xs (fun i hi => HT.out i (by have := HA.out; omega) hi)
      rw [← HR.out, hf]; rfl

set_option maxRecDepth 10000 in
theorem risingK_any (w : World) (a : Option Addr) (n c : Nat) (xs : List KV) (hn : n = xs.length) (hl : xs.length ≤ 140737488355328) (hs : Sl KE w a c xs) :
    Calls Tryz.prog 246 #[.slice a n c, .func (.func 247) #[] #[]] w fun e w' => e = .returned (.bool (rising ltk xs)) ∧ Keeps no w w' := by
  have HA : Hid (n = xs.length) := hn
  have hA : (n : Int) ≤ 140737488355328 := by omega
  clear hn hl
  obtain ⟨R, hR⟩ : ∃ R, rising ltk xs = R := ⟨_, rfl⟩
  have HR : Hid (rising ltk xs = R) := hR
  rw [hR]
  clear hR
  have HS : Hid (Sl KE w a c xs) := hs
  clear hs
  go_enter Tryz.func246, Tryz.ntmps246
  go_wp2_with fail
  go_loopw [5] (fun i wr => ∃ k : Nat, k ≤ n ∧ i = .int .i64 ((k : Int) + 1) ∧ Hid (Keeps no w wr) ∧ Hid (∀ j, j < k → j + 1 < xs.length → ltk (xs.getD j kv0) (xs.getD (j + 1) kv0) = true)) (fun i _ => n + 1 - (intOf i).toNat)
  case atStart => exact ⟨0, by omega, rfl, Keeps.refl _ _, fun j hj => absurd hj (Nat.not_lt_zero _)⟩
  case round =>
    obtain ⟨k, hk, rfl, HK, HT⟩ := hrel
    by_cases h2 : k + 1 < n
    · have hka : k + 1 < xs.length := by have := HA.out; omega
      obtain ⟨b1, off1, rfl, d1, d12, d13, d14, d1'⟩ := (HS.out.keepsN HK.out).atK (j := k) (by omega)
      obtain ⟨b2, off2, e2, d2, d22, d23, d24, d2'⟩ := (HS.out.keepsN HK.out).atK hka
      cases e2
      obtain ⟨x, hx⟩ : ∃ x, x = xs.getD k kv0 := ⟨_, rfl⟩
      obtain ⟨y, hy⟩ : ∃ y, y = xs.getD (k + 1) kv0 := ⟨_, rfl⟩
      rw [← hx] at d1 d12 d13 d14 d1'
      rw [← hy] at d2 d22 d23 d24 d2'
      have HX : Hid (x = xs.getD k kv0) := hx
      have HY : Hid (y = xs.getD (k + 1) kv0) := hy
      clear hx hy hka
      have h3 : (k : Int) + 1 < n := by omega
      have h4 : (k : Int) < n := by omega
      have hwk : IntKind.i64.wrap (k : Int) = (k : Int) := by rw [IntKind.wrap_i64]; omega
      obtain ⟨⟨xk, xi⟩, xv, xo, xc, xks, xst⟩ := x
      obtain ⟨⟨yk, yi⟩, yv, yo, yc, yks, yst⟩ := y
      obtain ⟨nx, hnx⟩ : ∃ nx, nx = xks.length := ⟨_, rfl⟩
      obtain ⟨ny, hny⟩ : ∃ ny, ny = yks.length := ⟨_, rfl⟩
      simp only at d1 d12 d13 d14 d1' d2 d22 d23 d24 d2'
      rw [← hnx] at d14
      rw [← hny] at d24
      have z1 := cell_regrown d1
      have z12 := cell_regrown d12
      have z13 := cell_regrown d13
      have z14 := cell_regrown d14
      have z1' := cell_regrown d1'
      have z2 := cell_regrown d2
      have z22 := cell_regrown d22
      have z23 := cell_regrown d23
      have z24 := cell_regrown d24
      have z2' := cell_regrown d2'
      clear hnx hny
      have hq := fun W => areKept1_any xk xi xv xo nx xc xst yk yi yv yo ny yc yst W
      cases hxy : ltM (xk, xi) (yk, yi)
      · have hge := cmpM_ge hxy
        generalize cmpM (xk, xi) (yk, yi) = C at hq hge
        have cS := call_grown (W := wr) (fun X hX => hq X)
        clear hq
        go_wp2_with fail
        refine wp_region_quiet_below (by kernel_rfl) (by kernel_rfl) ?_
        repeat (go_big_quiet_step (exact cS _ _))
        refine wpQuiet_nil ?_
        intro _ hw'
        obtain ⟨⟨dq, osq⟩, rfl⟩ := hw'
        have K1 : Hid (Keeps no w (Sort.grow (redrawn wr dq) osq)) := HK.out.trans (keeps_grownQ ..)
        generalize Sort.grow (redrawn wr dq) osq = u1 at K1 ⊢
        clear d1 d12 d13 d14 d1' d2 d22 d23 d24 d2' z1 z12 z13 z14 z1' z2 z22 z23 z24 z2' cS
        go_wp2_with fail
        go_ret
        refine ⟨?_, K1.out⟩
        have hf := rising_fail (lt := ltk) kv0 xs k (by have := HA.out; omega) (by rw [← HX.out, ← HY.out]; exact hxy)
        rw [← HR.out, hf]; rfl
      · have hge := cmpM_lt hxy
        generalize cmpM (xk, xi) (yk, yi) = C at hq hge
        have hge' : ¬ 0 ≤ C := by omega
        have cS := call_grown (W := wr) (fun X hX => hq X)
        clear hq
        go_wp2_with fail
        refine wp_region_quiet_below (by kernel_rfl) (by kernel_rfl) ?_
        repeat (go_big_quiet_step (exact cS _ _))
        refine wpQuiet_nil ?_
        intro _ hw'
        obtain ⟨⟨dq, osq⟩, rfl⟩ := hw'
        have K1 : Hid (Keeps no w (Sort.grow (redrawn wr dq) osq)) := HK.out.trans (keeps_grownQ ..)
        generalize Sort.grow (redrawn wr dq) osq = u1 at K1 ⊢
        clear d1 d12 d13 d14 d1' d2 d22 d23 d24 d2' z1 z12 z13 z14 z1' z2 z22 z23 z24 z2' cS
        go_wp2_with fail
        go_roundw
        case rel =>
          refine ⟨k + 1, by omega, by go_num, K1, fun j hj hj2 => ?_⟩
          by_cases e : j = k
          · subst e; rw [← HX.out, ← HY.out]; exact hxy
          · exact HT.out j (by omega) hj2
        case measure => simp [intOf]; omega
    · have h3 : ¬ (k : Int) + 1 < n := by omega
      go_wp2_with fail
      go_ret
      refine ⟨?_, HK.out⟩
      have hf := rising_of_all (lt := ltk) kv0 xs (fun i hi => HT.out i (by have := HA.out; omega) hi)
      rw [← HR.out, hf]; rfl

theorem swoK : SWO ltk where
  irrefl x := swoM.irrefl _
  trans x y z h1 h2 := swoM.trans _ _ _ h1 h2
  ntrans x y z h1 h2 := swoM.ntrans _ _ _ h1 h2
theorem swoL : SWO ltl where
  irrefl x := swoT.irrefl _
  trans x y z h1 h2 := swoT.trans _ _ _ h1 h2
  ntrans x y z h1 h2 := swoT.ntrans _ _ _ h1 h2
def fitsB (stamp : Int) (old : Bool) : Bool := if old then tickB stamp else decide (stamp = -1)
theorem fits_any (st : Int) (old : Bool) (w : World) : Calls Tryz.prog 203 #[.int .i64 st, .bool old] w fun e w' => e = .returned (.bool (fitsB st old)) ∧ w' = w := by
  cases old with
  | true =>
    have h := fun X => isTick_any X st
    show Calls _ _ _ _ fun e w' => e = .returned (.bool (tickB st)) ∧ w' = w
    generalize tickB st = B at h ⊢
    go_enter Tryz.func203, Tryz.ntmps203
    go_wp2_with fail
    refine (h _).mono ?_
    rintro e w1 ⟨rfl, hw⟩
    subst w1
    go_wp2_with fail
    go_ret
    exact ⟨rfl, rfl⟩
  | false =>
    by_cases h : st = -1
    · have e1 : fitsB st false = true := by simp [fitsB, h]
      rw [e1]
      have h' : (st == -1) = true := by simpa using h
      clear h
      go_enter Tryz.func203, Tryz.ntmps203
      go_wp2_with fail
      go_ret
      exact ⟨rfl, rfl⟩
    · have e1 : fitsB st false = false := by simp [fitsB, h]
      rw [e1]
      have h' : (st == -1) = false := by simpa using h
      clear h
      go_enter Tryz.func203, Tryz.ntmps203
      go_wp2_with fail
      go_ret
      exact ⟨rfl, rfl⟩
end Go.Proofs.YtdemoghlibnooaaGreatDoor
/- areKept. -/
namespace Go.Proofs.YtdemoghlibnooaaGreatDoor
open Go.RowKit Go.Maps Go.Sort Orl
set_option linter.unusedVariables false
set_option linter.unusedSimpArgs false

def okKv (x : KV) : Bool := decide (65536 ≤ x.m.2) && (decide (x.val.size ≤ 65535) && (okKeys x.keys && inn x.keys x.m.1))
def okKept (ks : List KV) : Bool := ks.all okKv && rising ltk ks
structure InK (w : World) (ks : List KV) : Prop where
  key : ∀ x ∈ ks, Sl TE w x.o x.c x.keys ∧ x.keys.length ≤ 8796093021952 ∧ x.m.2 < 18446744073709551616 ∧ x.m.1.size ≤ 140737488355328 ∧ x.val.size ≤ 140737488355328
theorem InK.keepsN {w w' : World} {ks : List KV} (h : InK w ks) (hk : Keeps no w w') : InK w' ks := ⟨fun x hx => ⟨(h.key x hx).1.keepsN hk, (h.key x hx).2⟩⟩
set_option maxRecDepth 10000 in
set_option maxHeartbeats 1000000 in
theorem areKept_any (w : World) (a : Option Addr) (n c : Nat) (ks : List KV) (hn : n = ks.length) (hl : ks.length ≤ 140737488355328) (hs : Sl KE w a c ks) (hi : InK w ks) :
    Calls Tryz.prog 200 #[.slice a n c] w fun e w' => e = .returned (.bool (okKept ks)) ∧ Keeps no w w' := by
  have HA : Hid (n = ks.length) := hn
  have hA : (n : Int) ≤ 140737488355328 := by omega
  have HL : Hid (ks.length ≤ 140737488355328) := hl
  obtain ⟨R, hR⟩ : ∃ R, okKept ks = R := ⟨_, rfl⟩
  have HR : Hid (okKept ks = R) := hR
  have HS : Hid (Sl KE w a c ks ∧ InK w ks) := ⟨hs, hi⟩
  rw [hR]
  clear hR hn hl hi hs
  go_enter Tryz.func200, Tryz.ntmps200
  go_wp2_with fail
  go_loopw [8] (fun i wr => ∃ k : Nat, k ≤ n ∧ i = .int .i64 (k : Int) ∧ Hid (Keeps no w wr) ∧ Hid (∀ j, j < k → okKv (ks.getD j kv0) = true)) (fun i _ => n - (intOf i).toNat)
  case atStart => exact ⟨0, by omega, rfl, Keeps.refl _ _, fun j hj => absurd hj (Nat.not_lt_zero _)⟩
  case round =>
    obtain ⟨k, hk, rfl, HK, HT⟩ := hrel
    by_cases h2 : k < n
    · have hka : k < ks.length := by have := HA.out; omega
      obtain ⟨b1, off1, e1, d0, d1, d2, d3, d4⟩ := (HS.out.1.keepsN HK.out).atK hka
      obtain ⟨x, hx⟩ : ∃ x, x = ks.getD k kv0 := ⟨_, rfl⟩
      have hin := (HS.out.2.keepsN HK.out).key _ (getD_mem_lt kv0 hka)
      rw [← hx] at d0 d1 d2 d3 d4 hin
      have HX : Hid (x = ks.getD k kv0) := hx
      have hfail : okKv x = false → R = false := fun h => by
        rw [← HR.out]
        have h1 : ks.all okKv = false := by
          rw [List.all_eq_false]
          exact ⟨ks.getD k kv0, getD_mem_lt kv0 hka, by rw [← hx, h]; simp⟩
        unfold okKept
        rw [h1]; rfl
      have HF : Hid (okKv x = false → R = false) := hfail
      obtain ⟨⟨xk, xi⟩, xv, xo, xc, xks, xst⟩ := x
      obtain ⟨nk, hnk⟩ : ∃ nk, nk = xks.length := ⟨_, rfl⟩
      simp only at d0 d1 d2 d3 d4 hin
      rw [← hnk] at d3
      have h3 : (k : Int) < n := by omega
      have HW := fun W => isWrite_any W xi hin.2.2.1
      have HKY := fun X (hX : Keeps no wr X) => areKeys_any X xo nk xc xks hnk (by have := hin.2.1; omega) (hin.1.keepsN hX)
      have HAM := fun X (hX : Keeps no wr X) (hinc : Inc lts xks) => among_any X xo nk xc xks xk hnk (by have := hin.2.1; omega) (hin.1.keepsN hX) hinc
      have HWH : Hid (∀ W, Calls Tryz.prog 88 #[.int .u64 ((xi : Nat) : Int)] W fun e w' => e = .returned (.bool (decide (65536 ≤ xi))) ∧ w' = W) := HW
      have HKYH : Hid (∀ X, Keeps no wr X → Calls Tryz.prog 89 #[.slice xo nk xc] X fun e w' => e = .returned (.bool (okKeys xks)) ∧ Keeps no X w') := HKY
      have HAMH : Hid (∀ X, Keeps no wr X → Inc lts xks → Calls Tryz.prog 133 #[.string xk, .slice xo nk xc] X fun e w' => e = .returned (.bool (inn xks xk)) ∧ Keeps no X w') := HAM
      clear hka hx hfail hin hnk HW HKY HAM
      subst e1
      have hkA : Keeps no wr ((wr.alloc (.cells #[.string xk, .int .u64 ((xi : Nat) : Int), .string xv, .slice xo nk xc, .int .i64 xst] 114)).alloc (.cells #[.string xk, .int .u64 ((xi : Nat) : Int), .string xv, .slice xo nk xc] 112)) := ((Keeps.refl no wr).alloc _).alloc _
      have hbV : ((wr.alloc (.cells #[.string xk, .int .u64 ((xi : Nat) : Int), .string xv, .slice xo nk xc, .int .i64 xst] 114)).alloc (.cells #[.string xk, .int .u64 ((xi : Nat) : Int), .string xv, .slice xo nk xc] 112)).heap[wr.heap.size + 1]? = some (.cells #[.string xk, .int .u64 ((xi : Nat) : Int), .string xv, .slice xo nk xc] 112 (0, 0)) := by
        have := blk_new (wr.alloc (.cells #[.string xk, .int .u64 ((xi : Nat) : Int), .string xv, .slice xo nk xc, .int .i64 xst] 114)) (.cells #[.string xk, .int .u64 ((xi : Nat) : Int), .string xv, .slice xo nk xc] 112)
        rwa [show (wr.alloc (.cells #[.string xk, .int .u64 ((xi : Nat) : Int), .string xv, .slice xo nk xc, .int .i64 xst] 114)).heap.size = wr.heap.size + 1 by simp] at this
      have HKA : Hid (Keeps no wr ((wr.alloc (.cells #[.string xk, .int .u64 ((xi : Nat) : Int), .string xv, .slice xo nk xc, .int .i64 xst] 114)).alloc (.cells #[.string xk, .int .u64 ((xi : Nat) : Int), .string xv, .slice xo nk xc] 112))) := hkA
      have HBV : Hid (((wr.alloc (.cells #[.string xk, .int .u64 ((xi : Nat) : Int), .string xv, .slice xo nk xc, .int .i64 xst] 114)).alloc (.cells #[.string xk, .int .u64 ((xi : Nat) : Int), .string xv, .slice xo nk xc] 112)).heap[wr.heap.size + 1]? = some (.cells #[.string xk, .int .u64 ((xi : Nat) : Int), .string xv, .slice xo nk xc] 112 (0, 0))) := hbV
      clear hkA hbV
      cases q1 : decide (65536 ≤ xi) with
      | false =>
        rw [q1] at HWH
        have HE : Hid (R = false) := HF.out (by simp only [okKv, q1, Bool.false_and])
        clear q1
        go_wp2_with fail
        refine (HWH.out _).mono ?_
        rintro e w1 ⟨rfl, hw1⟩
        subst w1
        go_wp2_with fail
        go_ret
        exact ⟨by rw [HE.out]; rfl, HK.out.trans HKA.out⟩
      | true =>
      rw [q1] at HWH
      have Q1 : Hid (decide (65536 ≤ xi) = true) := q1
      clear q1
      by_cases q2 : xv.size ≤ 65535
      · have q2' : ¬ (65535 : Int) < xv.size := by omega
        have q2'' : decide ((65535 : Int) < xv.size) = false := by simpa using q2'
        have Q2 : Hid (xv.size ≤ 65535) := q2
        clear q2
        cases q3 : okKeys xks with
        | false =>
          rw [q3] at HKYH
          have HE : Hid (R = false) := HF.out (by simp only [okKv, q3, Bool.false_and, Bool.and_false])
          clear q3
          go_wp2_with fail
          refine (HWH.out _).mono ?_
          rintro e w1 ⟨rfl, hw1⟩
          subst w1
          go_wp2_with fail
          refine (HKYH.out _ HKA.out).mono ?_
          rintro e w2 ⟨rfl, hk2⟩
          have K2 : Hid (Keeps no w w2) := (HK.out.trans HKA.out).trans hk2
          clear hk2
          go_wp2_with fail
          go_ret
          exact ⟨by rw [HE.out]; rfl, K2.out⟩
        | true =>
        rw [q3] at HKYH
        have Q3 : Hid (okKeys xks = true) := q3
        clear q3
        cases q4 : inn xks xk with
        | false =>
          rw [q4] at HAMH
          have HE : Hid (R = false) := HF.out (by simp only [okKv, q4, Bool.and_false])
          clear q4
          go_wp2_with fail
          refine (HWH.out _).mono ?_
          rintro e w1 ⟨rfl, hw1⟩
          subst w1
          go_wp2_with fail
          refine (HKYH.out _ HKA.out).mono ?_
          rintro e w2 ⟨rfl, hk2⟩
          have K2 : Hid (Keeps no wr w2 ∧ Keeps no w w2) := ⟨HKA.out.trans hk2, (HK.out.trans HKA.out).trans hk2⟩
          have g0 : w2.cell? ⟨wr.heap.size + 1, 0, none⟩ = some (.string xk) := cell_of_blk (hk2.at HBV.out id) 0
          have g3 : w2.cell? ⟨wr.heap.size + 1, 3, none⟩ = some (.slice xo nk xc) := cell_of_blk (hk2.at HBV.out id) 3
          clear hk2
          go_wp2_with fail
          refine (HAMH.out _ K2.out.1 (okKeys_iff.1 Q3.out).2.2).mono ?_
          rintro e w3 ⟨rfl, hk3⟩
          have K3 : Hid (Keeps no w w3) := K2.out.2.trans hk3
          clear hk3
          go_wp2_with fail
          go_ret
          exact ⟨by rw [HE.out]; rfl, K3.out⟩
        | true =>
          rw [q4] at HAMH
          have Q4 : Hid (inn xks xk = true) := q4
          clear q4
          go_wp2_with fail
          refine (HWH.out _).mono ?_
          rintro e w1 ⟨rfl, hw1⟩
          subst w1
          go_wp2_with fail
          refine (HKYH.out _ HKA.out).mono ?_
          rintro e w2 ⟨rfl, hk2⟩
          have K2 : Hid (Keeps no wr w2 ∧ Keeps no w w2) := ⟨HKA.out.trans hk2, (HK.out.trans HKA.out).trans hk2⟩
          have g0 : w2.cell? ⟨wr.heap.size + 1, 0, none⟩ = some (.string xk) := cell_of_blk (hk2.at HBV.out id) 0
          have g3 : w2.cell? ⟨wr.heap.size + 1, 3, none⟩ = some (.slice xo nk xc) := cell_of_blk (hk2.at HBV.out id) 3
          clear hk2
          go_wp2_with fail
          refine (HAMH.out _ K2.out.1 (okKeys_iff.1 Q3.out).2.2).mono ?_
          rintro e w3 ⟨rfl, hk3⟩
          have K3 : Hid (Keeps no w w3) := K2.out.2.trans hk3
          clear hk3 g0 g3
          go_wp2_with fail
          go_roundw
          case rel =>
            refine ⟨k + 1, by omega, by go_num, K3, fun j hj => ?_⟩
            by_cases e : j = k
            · subst e
              rw [← HX.out]
              simp only [okKv, Q1.out, Q3.out, Q4.out, Bool.true_and, Bool.and_true, decide_eq_true_eq]
              exact Q2.out
            · exact HT.out j (by omega)
          case measure => simp [intOf]; omega
      · have q2' : (65535 : Int) < xv.size := by omega
        have q2'' : decide ((65535 : Int) < xv.size) = true := by simpa using q2'
        have HE : Hid (R = false) := HF.out (by simp only [okKv, q2, decide_false, Bool.false_and, Bool.and_false])
        clear q2
        go_wp2_with fail
        refine (HWH.out _).mono ?_
        rintro e w1 ⟨rfl, hw1⟩
        subst w1
        go_wp2_with fail
        go_ret
        exact ⟨by rw [HE.out]; rfl, HK.out.trans HKA.out⟩
    · have h3 : ¬ (k : Int) < n := by omega
      have hall : ks.all okKv = true := by
        rw [List.all_eq_true]
        intro x hx
        obtain ⟨j, hj, rfl⟩ := List.getElem_of_mem hx
        have := HT.out j (by have := HA.out; omega)
        have e : ks.getD j kv0 = ks[j] := by simp [List.getD_eq_getElem?_getD, hj]
        rw [e] at this
        exact this
      have hr := fun X (hX : Keeps no w X) => risingK_any X a n c ks HA.out HL.out (HS.out.1.keepsN hX)
      have e : rising ltk ks = R := by
        rw [← HR.out]
        unfold okKept
        rw [hall]
        simp
      rw [e] at hr
      have HRR : Hid (∀ X, Keeps no w X → Calls Tryz.prog 246 #[.slice a n c, .func (.func 247) #[] #[]] X fun e w' => e = .returned (.bool R) ∧ Keeps no X w') := hr
      clear hr e hall
      go_wp2_with fail
      refine (HRR.out _ HK.out).mono ?_
      rintro e w1 ⟨rfl, hk1⟩
      go_wp2_with fail
      go_ret
      exact ⟨rfl, HK.out.trans hk1⟩
/-! ### slices.Equal -/
set_option maxRecDepth 10000 in
theorem equalT_any (w : World) (oa : Option Addr) (na ca : Nat) (ob : Option Addr) (nb cb : Nat) (sa sb : List Tx) (hna : na = sa.length) (hnb : nb = sb.length) (hla : sa.length ≤ 8796093022000) (hlb : sb.length ≤ 8796093022000) (ha : Sl TE w oa ca sa) (hb : Sl TE w ob cb sb) :
    Calls Tryz.prog 204 #[.slice oa na ca, .slice ob nb cb] w fun e w' => (∃ B : Bool, e = .returned (.bool B) ∧ Hid (B = true ↔ sa = sb)) ∧ Keeps no w w' := by
  have HA : Hid (na = sa.length) := hna
  have HB : Hid (nb = sb.length) := hnb
  have hA : (na : Int) ≤ 8796093022000 := by omega
  have hB : (nb : Int) ≤ 8796093022000 := by omega
  clear hna hnb hla hlb
  by_cases hne : na = nb
  · subst hne
    go_enter Tryz.func204, Tryz.ntmps204
    go_wp2_with fail
    go_loopw [13] (fun i wr => ∃ k m : Nat, k ≤ na ∧ i = .int .i64 k ∧ wr = w.drewN m ∧ Hid (sa.take k = sb.take k)) (fun i _ => na - (intOf i).toNat)
    case atStart => exact ⟨0, 0, by omega, rfl, rfl, show sa.take 0 = sb.take 0 by simp⟩
    case round =>
      obtain ⟨k, m, hk, rfl, rfl, HT⟩ := hrel
      by_cases h2 : k < na
      · have hka : k < sa.length := by have := HA.out; omega
        have hkb : k < sb.length := by have := HB.out; omega
        obtain ⟨b1, off1, rfl, d1⟩ := ha.at hka
        obtain ⟨b2, off2, rfl, d2⟩ := hb.at hkb
        obtain ⟨x, hx⟩ : ∃ x, x = sa.getD k e0 := ⟨_, rfl⟩
        obtain ⟨y, hy⟩ : ∃ y, y = sb.getD k e0 := ⟨_, rfl⟩
        rw [← hx] at d1
        rw [← hy] at d2
        have HX : Hid (x = sa.getD k e0) := hx
        have HY : Hid (y = sb.getD k e0) := hy
        clear hx hy hka hkb
        by_cases hxy : x = y
        · have hxy' : (x.toList == y.toList) = true := by rw [tx_eq]; simpa using hxy
          clear hxy
          go_wp2
          go_quiet (fail)
          go_wp2
          go_roundw
          case rel =>
            refine ⟨k + 1, _, by omega, by go_num, rfl, ?_⟩
            rw [tx_eq, decide_eq_true_eq] at hxy'
            have := HT.out
            show sa.take (k + 1) = sb.take (k + 1)
            rw [take_succ_getD sa k e0 (by have := HA.out; omega), take_succ_getD sb k e0 (by have := HB.out; omega), this, ← HX.out, ← HY.out, hxy']
          case measure => simp [intOf]; omega
        · have hxy' : (x.toList == y.toList) = false := by rw [tx_eq]; simpa using hxy
          go_wp2
          go_quiet (fail)
          go_wp2
          go_ret
          refine ⟨⟨false, rfl, ⟨fun h => (by cases h), fun e => ?_⟩⟩, ((Keeps.refl _ _).drewN _).drewN _⟩
          exact absurd (by rw [HX.out, HY.out, e]) hxy
      · go_wp2
        go_ret
        refine ⟨⟨true, rfl, ⟨fun _ => ?_, fun _ => rfl⟩⟩, (Keeps.refl _ _).drewN _⟩
        have := HT.out
        rwa [List.take_of_length_le (by have := HA.out; omega), List.take_of_length_le (by have := HB.out; omega)] at this
  · have hne' : ¬ ((na : Nat) : Int) = (nb : Nat) := by omega
    go_enter Tryz.func204, Tryz.ntmps204
    go_wp2
    go_ret
    refine ⟨⟨false, rfl, ⟨fun h => (by cases h), fun e => ?_⟩⟩, Keeps.refl _ _⟩
    exact absurd (by rw [HA.out, HB.out, e]) hne
end Go.Proofs.YtdemoghlibnooaaGreatDoor
/- Load, in pure functions. -/
namespace Go.Proofs.YtdemoghlibnooaaGreatDoor
open Go.RowKit Go.Maps Go.Sort Orl
set_option linter.unusedVariables false
set_option linter.unusedSimpArgs false

def KV.vr (x : KV) : Vr := ⟨x.val, x.keys, x.stamp⟩
def loadKs (ks : List KV) : St := ks.foldl (fun s x => s.add x.m x.vr) St.new
def setLast (s : St) (l : Mk) : St := ⟨s.V, fun z => if z = l.1 then l.2 else s.last z⟩
def loadS (ks : List KV) (ls : List Mk) : St := ls.foldl setLast (loadKs ks)
def lastIn (ls : List Mk) (k : Tx) : Nat := (fnd k ls).getD 0
theorem loadKs_snoc (ks : List KV) (x : KV) : loadKs (ks ++ [x]) = (loadKs ks).add x.m x.vr := by simp [loadKs]
theorem loadS_snoc (ks : List KV) (ls : List Mk) (l : Mk) : loadS ks (ls ++ [l]) = setLast (loadS ks ls) l := by simp [loadS]
theorem fold_V (ls : List Mk) : ∀ s : St, (ls.foldl setLast s).V = s.V := by
  induction ls with
  | nil => intro s; rfl
  | cons l r ih => intro s; rw [List.foldl_cons, ih]; rfl
theorem loadS_V (ks : List KV) (ls : List Mk) : (loadS ks ls).V = (loadKs ks).V := fold_V ls _
theorem fold_last : ∀ (ls : List Mk) (s : St) (k : Tx), Nk ls → (ls.foldl setLast s).last k = match fnd k ls with | some i => i | none => s.last k
  | [], s, k, _ => rfl
  | l :: r, s, k, hn => by
    obtain ⟨h1, h2⟩ := List.pairwise_cons.1 hn
    rw [List.foldl_cons, fold_last r _ k h2]
    simp only [fnd]
    by_cases e : l.1 = k
    · rw [if_pos e]
      have hf : fnd k r = none := fnd_none.2 (fun q hq e' => h1 q hq (e.trans e'.symm))
      rw [hf]
      simp [setLast, e]
    · rw [if_neg e]
      cases hf : fnd k r with
      | some i => rfl
      | none => simp [setLast, Ne.symm e]
theorem loadKs_last (ks : List KV) : ∀ k, (loadKs ks).last k = 0 := by
  have : ∀ (ks : List KV) (s : St), (ks.foldl (fun s x => s.add x.m x.vr) s).last = s.last := fun ks => by
    induction ks with
    | nil => intro s; rfl
    | cons x r ih => intro s; rw [List.foldl_cons, ih]; rfl
  intro k
  unfold loadKs
  rw [this]; rfl
theorem loadS_last {ls : List Mk} (hn : Nk ls) (ks : List KV) (k : Tx) : (loadS ks ls).last k = lastIn ls k := by
  unfold loadS
  rw [fold_last ls _ k hn]
  unfold lastIn
  cases fnd k ls with
  | some i => rfl
  | none => exact loadKs_last ks k
theorem foldK_V : ∀ (ks : List KV) (s : St) (m : Mk), (ks.foldl (fun s x => s.add x.m x.vr) s).V m = match (ks.reverse.find? fun x => decide (x.m = m)) with | some x => some x.vr | none => s.V m
  | [], s, m => rfl
  | x :: r, s, m => by
    rw [List.foldl_cons, foldK_V r _ m, List.reverse_cons, List.find?_append]
    cases hf : r.reverse.find? fun x => decide (x.m = m) with
    | some y => simp
    | none =>
      by_cases e : x.m = m
      · simp [St.add, e]
      · simp [St.add, e, Ne.symm e]
theorem loadKs_none {ks : List KV} {m : Mk} (h : ∀ x ∈ ks, x.m ≠ m) : (loadKs ks).V m = none := by
  unfold loadKs
  rw [foldK_V]
  have : (ks.reverse.find? fun x => decide (x.m = m)) = none := by
    rw [List.find?_eq_none]
    intro x hx
    simpa using h x (by simpa using hx)
  rw [this]; rfl
theorem nk_inc {ls : List Mk} (h : Inc ltl ls) : Nk ls := List.Pairwise.imp (fun {a b} hab e => by
  unfold ltl at hab
  rw [e, swoT.irrefl] at hab; cases hab) h
theorem inck_ne {ks : List KV} (h : Inc ltk ks) : ks.Pairwise (fun a b => a.m ≠ b.m) := List.Pairwise.imp (fun {a b} hab e => by
  unfold ltk at hab
  rw [e, swoM.irrefl] at hab; cases hab) h
theorem loadKs_some {ks : List KV} (h : ks.Pairwise (fun a b => a.m ≠ b.m)) {x : KV} (hx : x ∈ ks) : (loadKs ks).V x.m = some x.vr := by
  unfold loadKs
  rw [foldK_V]
  cases hf : ks.reverse.find? fun y => decide (y.m = x.m) with
  | none =>
    rw [List.find?_eq_none] at hf
    exact absurd (decide_eq_true (p := x.m = x.m) rfl) (hf x (by simpa using hx))
  | some y =>
    have h1 := List.find?_some hf
    have h2 := List.mem_of_find?_eq_some hf
    simp at h1 h2
    have e : y = x := by
      by_cases e : y = x
      · exact e
      · exfalso
        obtain ⟨i, hi, rfl⟩ := List.getElem_of_mem h2
        obtain ⟨j, hj, rfl⟩ := List.getElem_of_mem hx
        rw [List.pairwise_iff_getElem] at h
        rcases Nat.lt_trichotomy i j with hij | hij | hij
        · exact h i j hi hj hij h1
        · subst hij; exact e rfl
        · exact h j i hj hi hij h1.symm
    rw [e]
/-- what Load takes -/
def fitsAll (ks : List KV) (ls : List Mk) : Bool := ks.all fun x => fitsB x.stamp (decide (x.m.2 < lastIn ls x.m.1))
def hasAll (ks : List KV) (ls : List Mk) : Bool := ls.all fun l => ((loadKs ks).V l).isSome
def okLoad (ks : List KV) (ls : List Mk) : Bool := (okKept ks && rising ltl ls) && (fitsAll ks ls && hasAll ks ls)
theorem okLoad_ok {ks : List KV} {ls : List Mk} (h : okLoad ks ls = true) (hI : ∀ x ∈ ks, x.m.2 < 18446744073709551616) : Ok (loadS ks ls) := by
  unfold okLoad okKept fitsAll hasAll at h
  simp only [Bool.and_eq_true] at h
  obtain ⟨⟨⟨h1, h2⟩, h3⟩, h4, h5⟩ := h
  have hnk := nk_inc ((rising_iff swoL ls).1 h3)
  have hne := inck_ne ((rising_iff swoK ks).1 h2)
  have hex : ∀ m v, (loadS ks ls).V m = some v → ∃ x ∈ ks, x.m = m ∧ v = x.vr := fun m v hv => by
    rw [loadS_V] at hv
    by_cases hc : ∃ x ∈ ks, x.m = m
    · obtain ⟨x, hx, rfl⟩ := hc
      rw [loadKs_some hne hx] at hv
      injection hv with hv
      exact ⟨x, hx, rfl, hv.symm⟩
    · rw [loadKs_none (fun x hx e => hc ⟨x, hx, e⟩)] at hv
      cases hv
  have hkv : ∀ x ∈ ks, 65536 ≤ x.m.2 ∧ x.val.size ≤ 65535 ∧ okKeys x.keys = true ∧ x.m.1 ∈ x.keys := fun x hx => by
    have := List.all_eq_true.1 h1 x hx
    simp only [okKv, Bool.and_eq_true, decide_eq_true_eq] at this
    exact ⟨this.1, this.2.1, this.2.2.1, (inn_iff _ _).1 this.2.2.2⟩
  refine ⟨⟨fun m v hv => ?_, fun m v hv => ?_⟩, fun m v hv => ?_, fun k hk => ?_⟩
  · obtain ⟨x, hx, rfl, rfl⟩ := hex m v hv
    exact ⟨(hkv x hx).2.2.1, (hkv x hx).2.2.2, (hkv x hx).2.1⟩
  · obtain ⟨x, hx, rfl, rfl⟩ := hex m v hv
    exact ⟨(hkv x hx).1, hI x hx⟩
  · obtain ⟨x, hx, rfl, rfl⟩ := hex m v hv
    rw [loadS_last hnk]
    have hf := List.all_eq_true.1 h4 x hx
    unfold fitsB at hf
    by_cases hl : x.m.2 < lastIn ls x.m.1
    · rw [decide_eq_true hl, if_pos rfl] at hf
      exact ⟨fun _ => tick_iff.1 hf, fun hc => absurd hl hc⟩
    · rw [decide_eq_false hl, if_neg (by simp)] at hf
      exact ⟨fun hc => absurd hc hl, fun _ => (by simpa using hf : x.stamp = -1)⟩
  · rw [loadS_last hnk] at hk ⊢
    rw [loadS_V]
    unfold lastIn at hk ⊢
    cases hf : fnd k ls with
    | none => rw [hf] at hk; exact absurd rfl hk
    | some i =>
      have := List.all_eq_true.1 h5 (k, i) (fnd_mem hf)
      show (loadKs ks).V (k, i) ≠ none
      intro e
      rw [e] at this
      cases this
/-- what a store tells is taken, and makes it anew -/
theorem load_told {s : St} (h : Ok s) {ks : List KV} {ls : List Mk} (hk : IsKs s ks ∧ ∀ m, s.V m ≠ none → m ∈ ks.map (·.m)) (hi : Inc ltM (ks.map (·.m))) (hl : IsLs s ls) : okLoad ks ls = true ∧ (∀ m, (loadS ks ls).V m = s.V m) ∧ ∀ k, (loadS ks ls).last k = s.last k := by
  have hik : Inc ltk ks := by
    have := hi
    unfold Inc at this
    rw [List.pairwise_map] at this
    exact this
  have hil : Inc ltl ls := by
    have := hl.1
    unfold Inc at this
    rw [List.pairwise_map] at this
    exact this
  have hnk := nk_inc hil
  have hne := inck_ne hik
  have hlast : ∀ k, lastIn ls k = s.last k := fun k => by
    unfold lastIn
    cases hf : fnd k ls with
    | some i => exact ((hl.2 k i).1 (fnd_mem hf)).1.symm
    | none =>
      by_cases e : s.last k = 0
      · exact e.symm
      · have := (hl.2 k (s.last k)).2 ⟨rfl, e⟩
        exact absurd rfl (fnd_none.1 hf _ this)
  have hV : ∀ m, (loadS ks ls).V m = s.V m := fun m => by
    rw [loadS_V]
    cases hv : s.V m with
    | none =>
      refine loadKs_none (fun x hx e => ?_)
      have := hk.1 x hx
      rw [e, hv] at this
      cases this
    | some v =>
      obtain ⟨x, hx, rfl⟩ := List.mem_map.1 (hk.2 m (by rw [hv]; simp))
      rw [loadKs_some hne hx, ← hv]
      exact (hk.1 x hx).symm
  refine ⟨?_, hV, fun k => by rw [loadS_last hnk, hlast]⟩
  unfold okLoad okKept fitsAll hasAll
  simp only [Bool.and_eq_true]
  refine ⟨⟨⟨List.all_eq_true.2 fun x hx => ?_, (rising_iff swoK ks).2 hik⟩, (rising_iff swoL ls).2 hil⟩, List.all_eq_true.2 fun x hx => ?_, List.all_eq_true.2 fun l hl' => ?_⟩
  · have hv := hk.1 x hx
    have h1 := h.v.keys _ _ hv
    have h2 := h.v.id _ _ hv
    simp only [okKv, Bool.and_eq_true, decide_eq_true_eq]
    exact ⟨h2.1, h1.2.2, h1.1, (inn_iff _ _).2 h1.2.1⟩
  · have hv := hk.1 x hx
    have h1 := h.st _ _ hv
    rw [hlast]
    unfold fitsB
    by_cases hc : x.m.2 < s.last x.m.1
    · rw [decide_eq_true hc, if_pos rfl]
      exact tick_iff.2 (h1.1 hc)
    · rw [decide_eq_false hc, if_neg (by simp)]
      simpa using h1.2 hc
  · have := (hl.2 l.1 l.2).1 hl'
    have h1 := hV l
    rw [loadS_V] at h1
    rw [h1]
    have h2 := h.la l.1 (by rw [this.1]; exact this.2)
    rw [this.1] at h2
    cases hv : s.V l with
    | none => exact absurd hv h2
    | some v => rfl
end Go.Proofs.YtdemoghlibnooaaGreatDoor

import Derived.Deep.RegionHeld3
import Derived.Test.YtdemoghlibnooaaGreatDoorB6
import Derived.Test.YtdemoghlibnooaaGreatDoorShelh
import Derived.Test.YtdemoghlibnooaaGreatDoorB8
import Derived.Lib.QuietBelow
import Derived.Test.YtdemoghlibnooaaGreatDoorA2
import Derived.Deep.RegionHeldLaw
namespace Go.Proofs.YtdemoghlibnooaaGreatDoor
open Go.RowKit Go.Maps Go.Sort Orl
set_option linter.unusedVariables false
set_option linter.unusedSimpArgs false
def LE : El Mk := ⟨116, 109, 2, 24, fun x => [.string x.1, .int .u64 ((x.2 : Nat) : Int)]⟩
theorem infoLa : (Tryz.prog.info? 116).map (fun i => (i.zero, i.size, i.bytes)) = some (some (.agg #[.string ⟨#[]⟩, .int .u64 0]), 2, 24) := by kernel_rfl
theorem okL : LE.Ok := by
  obtain ⟨i0, hi, hz0, hz1, hz2⟩ := info_parts infoLa
  exact ⟨fun _ => rfl, fun x u hu => by simp [LE] at hu; rcases hu with rfl | rfl <;> rfl, by decide, Tryz.underlying109, i0, _, hi, hz0, hz1, hz2, rfl⟩
theorem own_oneL (w : World) (x : Mk) : Sl LE (w.alloc (.cells #[.string x.1, .int .u64 ((x.2 : Nat) : Int)] 116)) (some ⟨w.heap.size, 0, none⟩) 1 [x] := by
  refine ⟨.inr ⟨_, 0, rfl, fun j u hj => ?_⟩, by simp, fun e => by cases e⟩
  rw [Nat.zero_add, cell_of_blk (blk_new w _)]
  simpa [El.cells, LE] using hj
theorem Sl.atL {w : World} {a : Option Addr} {c : Nat} {xs : List Mk} (h : Sl LE w a c xs) {j : Nat} (hj : j < xs.length) : ∃ b off, a = some ⟨b, off, none⟩ ∧ w.cell? ⟨b, off + j * 2, none⟩ = some (.string (xs.getD j (e0, 0)).1) ∧ w.cell? ⟨b, off + j * 2 + 1, none⟩ = some (.int .u64 (((xs.getD j (e0, 0)).2 : Nat) : Int)) := by
  rcases h.row with e | ⟨b, off, rfl, hc⟩
  · subst e; simp at hj
  · refine ⟨b, off, rfl, hc (j * 2) _ ?_, ?_⟩
    · have := cells_at okL (e0, 0) xs j 0 hj (by decide)
      simpa [LE] using this
    · rw [Nat.add_assoc]
      refine hc (j * 2 + 1) _ ?_
      have := cells_at okL (e0, 0) xs j 1 hj (by decide)
      simpa [LE] using this
theorem tagsL_ne {α β : Type} {E : El α} {D : El β} {w : World} {o p : Option Addr} {c d : Nat} {xs : List α} {ys : List β} (h : Own E w o c xs) (k : Own D w p d ys) (hne : E.e ≠ D.e) : ∀ i, inO o i → ¬ inO p i := by
  intro i hi hj
  obtain ⟨c1, h1⟩ := h.tag i hi
  obtain ⟨c2, h2⟩ := k.tag i hj
  rw [h1] at h2
  injection h2 with h2
  injection h2 with _ h2 _
  exact hne h2
theorem keys_sorted {L : List (Tx × Ln)} (hn : Nk L) {ss : List (List UInt8)} (hp : ss.Perm (strKeys (dat KT vvL L))) : ∃ ts : List Tx, ts.map (fun x => encStr x.data.toList) = (ss.mergeSort (fun x y => decide (x ≤ y))).map encStr ∧ ts.Perm (L.map (·.1)) ∧ Inc lts ts := by
  have h1 : (strKeys (dat KT vvL L)).Perm (L.map fun p => p.1.data.toList) := by
    show (List.map (fun p => strOf p.1) ((L.map (ent KT vvL)).foldr DataW.insert [])).Perm _
    refine ((WideShapes.sorted_perm _).map _).trans ?_
    rw [List.map_map]
    exact List.Perm.of_eq rfl
  have h2 := (List.mergeSort_perm ss (fun x y => decide (x ≤ y))).trans (hp.trans h1)
  have hp2 : ((ss.mergeSort (fun x y => decide (x ≤ y))).map mkT).Perm (L.map (·.1)) := by
    refine (h2.map mkT).trans ?_
    rw [List.map_map]
    refine List.Perm.of_eq (List.map_congr_left fun p _ => ?_)
    exact mkT_data p.1
  refine ⟨(ss.mergeSort (fun x y => decide (x ≤ y))).map mkT, ?_, hp2, ?_⟩
  · rw [List.map_map]
    refine List.map_congr_left fun l _ => ?_
    simp only [Function.comp, data_mkT]
  · have hw : Weak lts ((ss.mergeSort (fun x y => decide (x ≤ y))).map mkT) := by
      unfold Weak
      rw [List.pairwise_map]
      have := List.pairwise_mergeSort (le := fun x y : List UInt8 => decide (x ≤ y)) (fun a b c h1 h2 => by
        simp only [decide_eq_true_eq] at *
        exact List.le_trans h1 h2) (fun a b => by
        simp only [Bool.or_eq_true, decide_eq_true_eq]
        exact List.le_total a b) ss
      refine List.Pairwise.imp (fun {a b} h => ?_) this
      rw [lts_eq, data_mkT, data_mkT, decide_eq_false_iff_not, List.not_lt]
      simpa using h
    refine weak_inc triT hw ?_
    refine hp2.nodup_iff.2 ?_
    unfold List.Nodup
    rw [List.pairwise_map]
    exact hn
theorem sortedT_any (w : World) (b : Nat) (L : List (Tx × Ln)) (h : IsMp KT vvL w b L) (hL : L.length ≤ 1954687338211) :
    Calls Tryz.prog 58 #[.func (.func 160) #[] #[.pointer (some ⟨w.heap.size, 0, none⟩)]] (w.alloc (.cells #[.map (some b)] 91)) fun e w' => ∃ o n c ts, e = .returned (.slice o n c) ∧ Hid (n = ts.length ∧ ts.Perm (L.map (·.1)) ∧ Inc lts ts ∧ Own TE w' o c ts ∧ Keeps no w w') := by
  have K2 := callsIn_wide.1 (Tryz.slices_Sorted_keys_58_107 b L.length (dat KT vvL L) rdV w h.own (by rw [dat_size]; unfold maxLen; omega) (by rw [dat_size]; omega))
  refine K2.mono ?_
  rintro e w3 ⟨v, ss, rfl, hS, hrow, hnil, hb⟩
  obtain ⟨ts, h1, h2, h3⟩ := keys_sorted h.nk hS
  have hrow0 : w3.ownsRow 0 TE.e TE.k v ss.length (TE.cells ts) := by
    have e1 : TE.cells ts = (ss.mergeSort (fun x y => decide (x ≤ y))).map encStr := by
      rw [← h1, cells_T]
    rw [e1]
    obtain ⟨r1, r2⟩ := hrow
    refine ⟨r1, ?_⟩
    rcases r2 with r2 | ⟨g, cap, cur, q1, q2, q3⟩
    · exact .inl r2
    · exact .inr ⟨g, cap, cur, q1, Nat.zero_le _, q3⟩
  obtain ⟨o, c', hv, hn, hown⟩ := own_val okT hrow0
  exact ⟨o, _, c', ts, by rw [hv], hn, h2, h3, hown, ((Keeps.refl no w).alloc _).trans (Keeps.of_below hb)⟩
def IsLs (s : St) (ls : List Mk) : Prop := Inc lts (ls.map (·.1)) ∧ ∀ k i, (k, i) ∈ ls ↔ s.last k = i ∧ i ≠ 0
def lasts (s : St) (ts : List Tx) : List Mk := (ts.filter fun x => decide (s.last x ≠ 0)).map fun x => (x, s.last x)
theorem lasts_snoc (s : St) (l : List Tx) (x : Tx) : lasts s (l ++ [x]) = lasts s l ++ (if s.last x = 0 then [] else [(x, s.last x)]) := by
  unfold lasts
  rw [List.filter_append, List.map_append]
  congr 1
  by_cases h : s.last x = 0 <;> simp [h]
theorem lasts_is {s : St} {ts : List Tx} (hi : Inc lts ts) (hall : ∀ k, s.last k ≠ 0 → k ∈ ts) : IsLs s (lasts s ts) := by
  constructor
  · unfold lasts
    rw [List.map_map]
    have e : ((fun x : Mk => x.1) ∘ fun x => ((x, s.last x) : Mk)) = id := rfl
    rw [e, List.map_id]
    exact List.Pairwise.filter _ hi
  · intro k i
    unfold lasts
    constructor
    · intro h
      obtain ⟨x, hx, e⟩ := List.mem_map.1 h
      injection e with e1 e2
      subst e1 e2
      exact ⟨rfl, by simpa using (List.mem_filter.1 hx).2⟩
    · rintro ⟨rfl, h⟩
      exact List.mem_map.2 ⟨k, List.mem_filter.2 ⟨hall k h, by simpa using h⟩, rfl⟩
theorem lasts_len (s : St) (ts : List Tx) : (lasts s ts).length ≤ ts.length := by
  unfold lasts
  rw [List.length_map]
  exact List.length_filter_le _ _
set_option maxRecDepth 10000 in
theorem lasts_any (w : World) (p : Nat) (T : Nat → Option Ro) (s : St) (N : Nat) (h : IsS w p T s N) (hN : N ≤ 1954687338211) :
    Calls Tryz.prog 55 #[.pointer (some ⟨p, 0, none⟩)] w fun e w' => ∃ v, e = .returned v ∧ ∃ ls, Gives LE w ls v w' ∧ Hid (IsLs s ls) ∧ Hid (ls.length ≤ N) := by
  obtain ⟨y, h⟩ := h
  have c1 := h.c1
  have K1 := fun (W : World) => callsIn_wide.1 (Tryz.maps_Keys_107 (some y.lm) W)
  have hnl := h.nl
  have K2 := sortedT_any w y.lm y.L h.ml (by omega)
  have HS : Hid (SL w p T s N y ∧ N ≤ 1954687338211) := ⟨h, hN⟩
  clear h hN hnl
  go_enter Tryz.func55, Tryz.ntmps55
  go_wp2_with (first | (go_at_call 107; refine (K1 _).mono ?_; rintro e w2 ⟨rfl, rfl⟩) | (go_at_call 58; refine K2.mono ?_; rintro e w3 ⟨o, n, c, ts, rfl, H3⟩))
  clear K1 K2
  have hnb : (n : Int) ≤ 1954687338211 := by
    have h1 := H3.out.1
    have h2 := H3.out.2.1.length_eq
    rw [List.length_map] at h2
    have := HS.out.1.nl
    have := HS.out.2
    omega
  go_loopw [3, 5, 14] (fun s3 _ i wr => ∃ (k : Nat) (v : Value), k ≤ n ∧ i = .int .i64 k ∧ s3 = v ∧ Hid (Gives LE w (lasts s (ts.take k)) v wr ∧ Own TE wr o c ts)) (fun _ _ i _ => n - (intOf i).toNat)
  case atStart => exact ⟨0, _, by omega, rfl, rfl, ⟨none, 0, 0, rfl, (show 0 = _ by simp [lasts]), own_nil _, new_none _, H3.out.2.2.2.2⟩, H3.out.2.2.2.1⟩
  case round =>
    obtain ⟨k, v, hk, rfl, rfl, HG⟩ := hrel
    obtain ⟨⟨lo, m, lc, rfl, hm, hlo, hlnw, hlk⟩, hto⟩ := HG.out
    have HO : Hid (m = (lasts s (ts.take k)).length ∧ Own LE wr lo lc (lasts s (ts.take k)) ∧ New w lo ∧ Keeps no w wr ∧ Own TE wr o c ts) := ⟨hm.out, hlo, hlnw, hlk, hto⟩
    clear hm hlo hlnw hlk hto HG
    by_cases hlt : k < n
    · have hka : k < ts.length := by have := H3.out.1; omega
      have hlt' : (k : Int) < n := by omega
      obtain ⟨b1, off1, e1, d1⟩ := HO.out.2.2.2.2.sl.at hka
      obtain ⟨x, hx⟩ : ∃ x, x = ts.getD k e0 := ⟨_, rfl⟩
      rw [← hx] at d1
      have hin : x ∈ y.L.map (·.1) := H3.out.2.1.mem_iff.1 (by rw [hx]; exact getD_mem_lt _ hka)
      obtain ⟨q, hq, hqx⟩ := List.mem_map.1 hin
      have hline := (HS.out.1.line q hq)
      have hfnd : fnd x y.L = some q.2 := fnd_of_mem HS.out.1.ml.nk (by rw [← hqx]; exact hq)
      have hkx : x.size ≤ maxLen := HS.out.1.ml.ko _ (fnd_mem hfnd)
      have hlk := lookL_some (HS.out.1.ml.keepsN HO.out.2.2.2.1) hkx hfnd
      have hlb : wr.cell? ⟨q.2.p, 0, none⟩ = some (.int .u64 ((q.2.last : Nat) : Int)) := cell_of_blk (HO.out.2.2.2.1.at hline.blk id) 0
      have hc1 := HO.out.2.2.2.1.cellN c1
      have hls : s.last x = q.2.last := by rw [HS.out.1.sl, lastOf, hfnd]
      obtain ⟨P, hP⟩ : ∃ P, P = q.2.p := ⟨_, rfl⟩
      obtain ⟨la, hla⟩ : ∃ la, la = q.2.last := ⟨_, rfl⟩
      rw [← hP] at hlk hlb
      rw [← hla] at hlb
      have HX : Hid (x = ts.getD k e0 ∧ k < ts.length ∧ s.last x = la) := ⟨hx, hka, hls.trans hla.symm⟩
      have HB : Hid ((lasts s (ts.take k)).length ≤ 1954687338211) := (show _ ≤ _ by
        have h1 := lasts_len s (ts.take k)
        rw [List.length_take] at h1
        have := H3.out.1; omega)
      clear hx hka hin hq hqx hline hfnd hkx hls hla hP
      subst e1
      by_cases h0 : la = 0
      · have HZ : Hid (la = 0) := h0
        have h0' : ((la : Nat) : Int) = 0 := by omega
        rw [h0'] at hlb
        clear h0 h0'
        go_wp2_with fail
        go_roundw
        case rel =>
          refine ⟨k + 1, _, by omega, by go_num, rfl, ?_⟩
          rw [take_succ_getD ts k e0 HX.out.2.1, lasts_snoc, ← HX.out.1, if_pos (HX.out.2.2.trans HZ.out), List.append_nil]
          exact ⟨⟨lo, m, lc, rfl, HO.out.1, HO.out.2.1, HO.out.2.2.1, HO.out.2.2.2.1⟩, HO.out.2.2.2.2⟩
        case measure => simp [intOf]; omega
      · have HZ : Hid (¬ la = 0) := h0
        have h0' : ¬ ((la : Nat) : Int) = 0 := by omega
        clear h0
        go_wp2_with (at_builtin; refine wpList_app okL rfl _ _ rfl _ _ _ (lasts s (ts.take k)) rfl HO.out.1 (HO.out.2.1.keepsN ((Keeps.refl _ _).alloc _)) _ _ _ [(x, la)] rfl rfl (fun h => by cases h) (own_oneL _ (x, la)).row (by have := HB.out; simp [LE]; omega) (by have := HB.out; simp; omega) ?_; intro o3 c3 w4 ho3 hap3)
        go_roundw
        case rel =>
          have k4 := hap3.new (w0 := w) HO.out.2.2.1 (HO.out.2.2.2.1.alloc _)
          refine ⟨k + 1, _, by omega, by go_num, rfl, ?_⟩
          rw [take_succ_getD ts k e0 HX.out.2.1, lasts_snoc, ← HX.out.1, if_neg (by rw [HX.out.2.2]; exact HZ.out), HX.out.2.2]
          refine ⟨⟨o3, _, c3, rfl, (show _ = _ by rw [List.length_append, ← HO.out.1]; rfl), ho3, k4.1, k4.2⟩, ?_⟩
          have hh := HO.out.2.2.2.2.keepsN ((Keeps.refl no wr).alloc (.cells #[.string x, .int .u64 ((la : Nat) : Int)] 116))
          have hok := HO.out.2.1.keepsN ((Keeps.refl no wr).alloc (.cells #[.string x, .int .u64 ((la : Nat) : Int)] 116))
          rcases hap3 with ⟨rfl, ha⟩ | ⟨_, ha⟩
          · exact hh.keeps ha (fun i hi hj => tagsL_ne hok hh (by decide) i hj hi)
          · exact hh.keepsN ha
        case measure => simp [intOf]; omega
    · have hlt' : ¬ (k : Int) < n := by omega
      go_wp2_with fail
      go_ret
      have e1 : ts.take k = ts := List.take_of_length_le (by have := H3.out.1; omega)
      rw [e1] at HO
      refine ⟨_, rfl, _, ⟨lo, m, lc, rfl, HO.out.1, HO.out.2.1, HO.out.2.2.1, HO.out.2.2.2.1⟩, lasts_is H3.out.2.2.1 (fun k' hk' => ?_), ?_⟩
      · refine H3.out.2.1.mem_iff.2 ?_
        rw [HS.out.1.sl] at hk'
        unfold lastOf at hk'
        cases hf : fnd k' y.L with
        | none => rw [hf] at hk'; exact absurd rfl hk'
        | some q => exact List.mem_map.2 ⟨_, fnd_mem hf, rfl⟩
      · show _ ≤ _
        have h1 := lasts_len s ts
        have h2 := H3.out.2.1.length_eq
        rw [List.length_map] at h2
        have := HS.out.1.nl
        omega
end Go.Proofs.YtdemoghlibnooaaGreatDoor
namespace Go.Proofs.YtdemoghlibnooaaGreatDoor
open Go.RowKit Go.Maps Go.Sort Orl
set_option linter.unusedVariables false
set_option linter.unusedSimpArgs false
def KvEq (st : Bool) (x y : KV) : Prop := x.m = y.m ∧ x.val = y.val ∧ x.keys = y.keys ∧ (st = true → x.stamp = y.stamp)
def KsEq (st : Bool) (a b : List KV) : Prop := a.length = b.length ∧ ∀ j, j < a.length → KvEq st (a.getD j kv0) (b.getD j kv0)
end Go.Proofs.YtdemoghlibnooaaGreatDoor
namespace Go.Proofs.YtdemoghlibnooaaGreatDoor
open Go.RowKit Go.Maps Go.Sort Orl
set_option linter.unusedVariables false
set_option linter.unusedSimpArgs false
def ltl (p q : Mk) : Bool := lts p.1 q.1
theorem swoL : SWO ltl where
  irrefl x := swoT.irrefl _
  trans x y z h1 h2 := swoT.trans _ _ _ h1 h2
  ntrans x y z h1 h2 := swoT.ntrans _ _ _ h1 h2
end Go.Proofs.YtdemoghlibnooaaGreatDoor
namespace Go.Proofs.YtdemoghlibnooaaGreatDoor
open Go.RowKit Go.Maps Go.Sort Orl
set_option linter.unusedVariables false
set_option linter.unusedSimpArgs false
end Go.Proofs.YtdemoghlibnooaaGreatDoor
namespace Go.Proofs.YtdemoghlibnooaaGreatDoor
open Go.RowKit Go.Maps Go.Sort Orl
set_option linter.unusedVariables false
set_option linter.unusedSimpArgs false
def KV.vr (x : KV) : Vr := ⟨x.val, x.keys, x.stamp⟩
def loadKs (ks : List KV) : St := ks.foldl (fun s x => s.add x.m x.vr) St.new
def setLast (s : St) (l : Mk) : St := ⟨s.V, fun z => if z = l.1 then l.2 else s.last z⟩
def lastIn (ls : List Mk) (k : Tx) : Nat := (fnd k ls).getD 0
theorem nk_inc {ls : List Mk} (h : Inc ltl ls) : Nk ls := List.Pairwise.imp (fun {a b} hab e => by
  unfold ltl at hab
  rw [e, swoT.irrefl] at hab; cases hab) h
end Go.Proofs.YtdemoghlibnooaaGreatDoor
namespace Go.Proofs.YtdemoghlibnooaaGreatDoor
open Pk Orl Go.Sort Go.Maps
set_option linter.unusedVariables false
set_option linter.unusedSimpArgs false
abbrev VT := Mk × Tx × List Tx
def KV.vt (x : KV) : VT := (x.m, x.val, x.keys)
def layL1 (l : Mk) : List Nat := txt (nats l.1) ++ num 8 l.2
def layL (ls : List Mk) : List Nat := ls.flatMap layL1
def layV1 (v : VT) : List Nat := txt (nats v.1.1) ++ (num 8 v.1.2 ++ (txt (nats v.2.1) ++ txts (natss v.2.2)))
def layV (vs : List VT) : List Nat := vs.flatMap layV1
def snHead (g : Nat) : List Nat := num 4 1918987632 ++ (num 1 1 ++ num 8 g)
def snBody (g : Nat) (ls : List Mk) (vs : List VT) : List Nat := snHead g ++ ((num 4 ls.length ++ layL ls) ++ (num 4 vs.length ++ layV vs))
def snap (g : Nat) (ls : List Mk) (vs : List VT) : List Nat := snBody g ls vs ++ num 4 (Crc.sum (snBody g ls vs))
def LimL (l : Mk) : Prop := l.1.size ≤ 65535 ∧ l.2 < 18446744073709551616
def LimV (v : VT) : Prop := v.1.1.size ≤ 65535 ∧ v.1.2 < 18446744073709551616 ∧ v.2.1.size ≤ 65535 ∧ v.2.2.length ≤ 1024 ∧ ∀ s ∈ v.2.2, s.size ≤ 65535
theorem layL1_length (l : Mk) : (layL1 l).length = 12 + l.1.size := by simp [layL1, txt_length, nats_length, num_length]; omega
theorem layL_le (ls : List Mk) : 12 * ls.length ≤ (layL ls).length := by
  induction ls with
  | nil => simp [layL]
  | cons l r ih => simp only [layL, List.flatMap_cons, List.length_append, layL1_length, List.length_cons] at ih ⊢; omega
theorem layL_max (ls : List Mk) (h : ∀ l ∈ ls, l.1.size ≤ 65535) : (layL ls).length ≤ 65547 * ls.length := by
  induction ls with
  | nil => simp [layL]
  | cons l r ih =>
    have := ih (fun x hx => h x (by simp [hx]))
    have h1 := h l (by simp)
    simp only [layL, List.flatMap_cons, List.length_append, layL1_length, List.length_cons] at this ⊢
    omega
theorem layV1_length (v : VT) : (layV1 v).length = 20 + v.1.1.size + v.2.1.size + bodyLen (natss v.2.2) := by simp [layV1, txt_length, nats_length, num_length, txts_length]; omega
theorem layV_le (vs : List VT) : 20 * vs.length ≤ (layV vs).length := by
  induction vs with
  | nil => simp [layV]
  | cons v r ih => simp only [layV, List.flatMap_cons, List.length_append, layV1_length, List.length_cons] at ih ⊢; omega
theorem bodyLen_max : ∀ (ss : List Tx), (∀ s ∈ ss, s.size ≤ 65535) → bodyLen (natss ss) ≤ ss.length * 65539
  | [], _ => by simp [natss, bodyLen]
  | s :: l, h => by
    have ih := bodyLen_max l (fun x hx => h x (List.mem_cons_of_mem _ hx))
    have h0 := h s List.mem_cons_self
    show 4 + (nats s).length + bodyLen (natss l) ≤ _
    rw [nats_length, List.length_cons, Nat.add_mul]; omega
theorem layV1_max {v : VT} (h : LimV v) : (layV1 v).length ≤ 67243026 := by
  obtain ⟨h1, h2, h3, h4, h5⟩ := h
  have := bodyLen_max _ h5
  have h6 : v.2.2.length * 65539 ≤ 1024 * 65539 := Nat.mul_le_mul_right _ h4
  rw [layV1_length]
  omega
theorem layV_max (vs : List VT) (h : ∀ v ∈ vs, LimV v) : (layV vs).length ≤ 67243026 * vs.length := by
  induction vs with
  | nil => simp [layV]
  | cons v r ih =>
    have := ih (fun x hx => h x (by simp [hx]))
    have h1 := layV1_max (h v (by simp))
    simp only [layV, List.flatMap_cons, List.length_append, List.length_cons] at this ⊢
    omega
theorem snHead_length (g : Nat) : (snHead g).length = 13 := by simp [snHead, num_length]
theorem snBody_length (g : Nat) (ls : List Mk) (vs : List VT) : (snBody g ls vs).length = 21 + (layL ls).length + (layV vs).length := by simp [snBody, snHead_length, num_length]; omega
theorem snap_length (g : Nat) (ls : List Mk) (vs : List VT) : (snap g ls vs).length = (snBody g ls vs).length + 4 := by simp [snap, num_length]
theorem layL_lt (ls : List Mk) : ∀ c ∈ layL ls, c < 256 := by
  induction ls with
  | nil => intro c hc; cases hc
  | cons l r ih => simp only [layL, List.flatMap_cons] at ih ⊢; exact app_lt (app_lt (txt_lt l.1) (num_lt _ _)) ih
theorem body_lt : ∀ (ss : List Tx), ∀ c ∈ txtsBody (natss ss), c < 256
  | [] => by intro c hc; cases hc
  | s :: l => by show ∀ c ∈ txt (nats s) ++ txtsBody (natss l), c < 256; exact app_lt (txt_lt s) (body_lt l)
theorem txts_lt (ss : List Tx) : ∀ c ∈ txts (natss ss), c < 256 := app_lt (num_lt _ _) (body_lt ss)
theorem layV1_lt (v : VT) : ∀ c ∈ layV1 v, c < 256 := app_lt (txt_lt _) (app_lt (num_lt _ _) (app_lt (txt_lt _) (txts_lt _)))
theorem layV_lt (vs : List VT) : ∀ c ∈ layV vs, c < 256 := by
  induction vs with
  | nil => intro c hc; cases hc
  | cons v r ih => simp only [layV, List.flatMap_cons] at ih ⊢; exact app_lt (layV1_lt v) ih
theorem snBody_lt (g : Nat) (ls : List Mk) (vs : List VT) : ∀ c ∈ snBody g ls vs, c < 256 :=
  app_lt (app_lt (num_lt _ _) (app_lt (num_lt _ _) (num_lt _ _))) (app_lt (app_lt (num_lt _ _) (layL_lt _)) (app_lt (num_lt _ _) (layV_lt _)))
theorem snap_lt (g : Nat) (ls : List Mk) (vs : List VT) : ∀ c ∈ snap g ls vs, c < 256 := app_lt (snBody_lt _ _ _) (num_lt _ _)
theorem snSum_lt (g : Nat) (ls : List Mk) (vs : List VT) : Crc.sum (snBody g ls vs) < 4294967296 := Crc.update_lt 0 _ (by decide) (snBody_lt _ _ _)
def hd1 (b : List Nat) : Nat × RS := rnum 4 (b, 0)
def hd2 (b : List Nat) : Nat × RS := rnum 1 (hd1 b).2
def hd3 (b : List Nat) : Nat × RS := rnum 8 (hd2 b).2
end Go.Proofs.YtdemoghlibnooaaGreatDoor
namespace Go.Proofs.YtdemoghlibnooaaGreatDoor
open Go.RowKit Go.Maps Go.Sort Orl
set_option linter.unusedVariables false
set_option linter.unusedSimpArgs false
def Ow (w0 w : World) (p : Nat) (s : St) (N : Nat) (P : Nat → Prop) : Prop := ∃ T, Ows w0 w p T s N ∧ ∀ b, P b → T b = none ∧ w0.heap.size ≤ b ∧ b < w.heap.size
section
variable {w0 w w' : World} {p : Nat} {s : St} {N : Nat} {P : Nat → Prop}
theorem Ow.ok (h : Ow w0 w p s N P) : Ok s := by obtain ⟨T, h, _⟩ := h; exact h.ok
theorem Ow.keep (h : Ow w0 w p s N P) : Keeps no w0 w := by obtain ⟨T, h, _⟩ := h; exact h.keep
theorem Ow.go (h : Ow w0 w p s N P) (hk : Keeps no w w') : Ow w0 w' p s N P := by
  obtain ⟨T, h, hP⟩ := h
  exact ⟨T, h.go hk, fun b hb => ⟨(hP b hb).1, (hP b hb).2.1, Nat.lt_of_lt_of_le (hP b hb).2.2 hk.size⟩⟩
theorem ow_new (w : World) : Calls Tryz.prog 8 #[] w fun e w' => ∃ p, e = .returned (.pointer (some ⟨p, 0, none⟩)) ∧ Hid (Ow w w' p St.new 0 no) := by
  refine (own_new w).mono ?_
  rintro e w' ⟨p, he, hT⟩
  obtain ⟨T, h⟩ := hT.out
  exact ⟨p, he, T, h, fun b hb => hb.elim⟩
theorem Ow.kept (h : Ow w0 w p s N P) (hN : N ≤ 1954687338211) :
    Calls Tryz.prog 33 #[.pointer (some ⟨p, 0, none⟩)] w fun e w' => ∃ v, e = .returned v ∧ ∃ o n c ks, v = .slice o n c ∧ Hid (n = ks.length) ∧ Hid (Kl w ks o c w' ∧ IsKs s ks ∧ Inc ltM (ks.map (·.m)) ∧ ∀ m, s.V m ≠ none → m ∈ ks.map (·.m)) ∧ Hid (ks.length ≤ N) := by
  obtain ⟨T, h, _⟩ := h
  exact kept_any w p T s N h.is h.ok.v hN
end
end Go.Proofs.YtdemoghlibnooaaGreatDoor
namespace Go.Proofs.YtdemoghlibnooaaGreatDoor
open Go.RowKit Go.Maps Go.Sort Orl
set_option linter.unusedVariables false
set_option linter.unusedSimpArgs false
def vvI (n : Nat) : Value := .int .u64 ((n : Nat) : Int)
structure SV where
  o : Option Addr
  c : Nat
  keys : List Tx
def vvS (v : SV) : Value := .slice v.o v.keys.length v.c
structure LK (w wr : World) (p M B : Nat) (T : Nat → Option Ro) (ms : List (Tx × Nat)) (Ls : List (Nat × SV)) (ks : List KV) (j q : Nat) : Prop where
  st : IsS wr p T (loadKs (ks.take j)) j
  new : ∀ b, T b ≠ none → w.heap.size ≤ b
  kp : Keeps no w wr
  mm : IsMp KT vvI wr M ms
  tM : T M = none ∧ w.heap.size ≤ M
  ml : IsMp KI vvS wr B Ls
  tB : T B = none ∧ w.heap.size ≤ B ∧ B ≠ M
  ll : Ls.length ≤ q
  lk : ∀ e ∈ Ls, Sl TE wr e.2.o e.2.c e.2.keys ∧ (∀ b, inO e.2.o b → T b = some .ky) ∧ e.2.keys.length ≤ 1024
structure LN (w wr : World) (p M B : Nat) (T : Nat → Option Ro) (ms : List (Tx × Nat)) (Ls : List (Nat × SV)) (ks : List KV) (j : Nat) (Kb : Nat) (xk : Tx) (xi : Nat) (xv : Tx) (xo : Option Addr) (nx xc : Nat) (xst : Int) (xks : List Tx) (sv : SV) : Prop where
  lk : LK w wr p M B T ms Ls ks j (j + 1)
  k : wr.heap[Kb]? = some (.cells #[.string xk, .int .u64 ((xi : Nat) : Int), .string xv, .slice xo nx xc, .int .i64 xst] 114 (0, 0))
  v : wr.heap[Kb + 1]? = some (.cells #[.string xk, .int .u64 ((xi : Nat) : Int), .string xv, .slice xo nx xc] 112 (0, 0))
  tk : T Kb = none
  tv : T (Kb + 1) = none
  f : fnd xi Ls = some sv
  e : sv.keys = xks
end Go.Proofs.YtdemoghlibnooaaGreatDoor
namespace Go.Proofs.YtdemoghlibnooaaGreatDoor
open Go.RowKit Go.Maps Go.Sort Orl
set_option linter.unusedVariables false
set_option linter.unusedSimpArgs false
section
variable {w0 w w' : World} {p : Nat} {s : St} {N : Nat} {p' : Nat} {s' : St} {N' : Nat} {P : Nat → Prop}
end
theorem Ow.lasts {w0 w : World} {p : Nat} {s : St} {N : Nat} {P : Nat → Prop} (h : Ow w0 w p s N P) (hN : N ≤ 1954687338211) :
    Calls Tryz.prog 55 #[.pointer (some ⟨p, 0, none⟩)] w fun e w' => ∃ v, e = .returned v ∧ ∃ ls, Gives LE w ls v w' ∧ Hid (IsLs s ls) ∧ Hid (ls.length ≤ N) := by
  obtain ⟨T, h, _⟩ := h
  exact lasts_any w p T s N h.is hN
end Go.Proofs.YtdemoghlibnooaaGreatDoor
namespace Go.Proofs.YtdemoghlibnooaaGreatDoor
open Pk Orl Go.Sort Go.Maps
set_option linter.unusedVariables false
set_option linter.unusedSimpArgs false
structure Tld (s : St) (ls : List Mk) (ks : List KV) : Prop where
  is : IsKs s ks
  all : ∀ m, s.V m ≠ none → m ∈ ks.map (·.m)
  inc : Inc ltM (ks.map (·.m))
  la : IsLs s ls
def vts (ks : List KV) : List VT := ks.map KV.vt
def SnOf (s : St) (g : Nat) (b : List Nat) : Prop := ∃ ls ks, Tld s ls ks ∧ b = snap g ls (vts ks)
structure Sim (s t : St) : Prop where
  v : ∀ m, (s.V m).map (fun v => (v.val, v.keys)) = (t.V m).map (fun v => (v.val, v.keys))
  l : ∀ k, s.last k = t.last k
theorem Sim.refl (s : St) : Sim s s := ⟨fun _ => rfl, fun _ => rfl⟩
theorem inc_lasts {s : St} {ls : List Mk} (h : IsLs s ls) : Inc ltl ls := by
  have := h.1
  unfold Inc at this ⊢
  rw [List.pairwise_map] at this
  exact this
theorem tld_ls {s t : St} {a b : List Mk} (h : ∀ k, s.last k = t.last k) (ha : IsLs s a) (hb : IsLs t b) : a = b := by
  refine inc_ext swoL (inc_lasts ha) (inc_lasts hb) (fun m => ?_)
  obtain ⟨k, i⟩ := m
  rw [ha.2, hb.2, h]
theorem Sim.none {s t : St} (h : Sim s t) {m : Mk} : s.V m ≠ none ↔ t.V m ≠ none := by
  have := h.v m
  cases h1 : s.V m <;> cases h2 : t.V m <;> rw [h1, h2] at this <;> simp at this ⊢
theorem list_ext_map {α β γ : Type} (f : α → γ) (g : α → β) (P : α → Prop) : ∀ (a b : List α), a.map f = b.map f → (∀ x ∈ a, ∀ y ∈ b, f x = f y → g x = g y) → a.map g = b.map g
  | [], [], _, _ => rfl
  | [], y :: b, h, _ => by simp at h
  | x :: a, [], h, _ => by simp at h
  | x :: a, y :: b, h, hx => by
    simp only [List.map_cons, List.cons.injEq] at h ⊢
    exact ⟨hx x (by simp) y (by simp) h.1, list_ext_map f g P a b h.2 (fun u hu v hv => hx u (by simp [hu]) v (by simp [hv]))⟩
theorem tld_vs {s t : St} (h : Sim s t) {la lb : List Mk} {a b : List KV} (ha : Tld s la a) (hb : Tld t lb b) : vts a = vts b := by
  have e : a.map (·.m) = b.map (·.m) := inc_ext swoM ha.inc hb.inc (fun m => by
    constructor
    · intro hm
      obtain ⟨x, hx, rfl⟩ := List.mem_map.1 hm
      exact hb.all _ (h.none.1 (by rw [ha.is x hx]; simp))
    · intro hm
      obtain ⟨x, hx, rfl⟩ := List.mem_map.1 hm
      exact ha.all _ (h.none.2 (by rw [hb.is x hx]; simp)))
  refine list_ext_map (·.m) KV.vt (fun _ => True) a b e (fun x hx y hy hm => ?_)
  have h1 := h.v x.m
  have h2 := ha.is x hx
  have h3 := hb.is y hy
  rw [h2, hm, h3] at h1
  simp at h1
  unfold KV.vt
  rw [hm, h1.1, h1.2]
theorem SnOf.eq {s t : St} (h : Sim s t) {g : Nat} {a b : List Nat} (ha : SnOf s g a) (hb : SnOf t g b) : a = b := by
  obtain ⟨la, ka, ha, rfl⟩ := ha
  obtain ⟨lb, kb, hb, rfl⟩ := hb
  rw [tld_vs h ha hb, tld_ls h.l ha.la hb.la]
theorem tld_lims {s : St} (hok : Ok s) {ls : List Mk} {ks : List KV} (h : Tld s ls ks) : (∀ l ∈ ls, LimL l) ∧ ∀ v ∈ vts ks, LimV v := by
  constructor
  · intro l hl
    have h1 := (h.la.2 l.1 l.2).1 hl
    have h2 := hok.la l.1 (by rw [h1.1]; exact h1.2)
    refine ⟨?_, by rw [← h1.1]; exact hok.last_lt _⟩
    cases hv : s.V (l.1, s.last l.1) with
    | none => exact absurd hv h2
    | some v => exact (show ((l.1, s.last l.1) : Mk).1.size ≤ 65535 from hok.v.size hv)
  · intro v hv
    obtain ⟨x, hx, rfl⟩ := List.mem_map.1 hv
    have hv := h.is x hx
    have h1 := hok.v.keys _ _ hv
    have h2 := okKeys_iff.1 h1.1
    exact ⟨hok.v.size hv, (hok.v.id _ _ hv).2, h1.2.2, h2.1.2, h2.2.1⟩
theorem ls_le {s : St} (hok : Ok s) {ls : List Mk} {ks : List KV} (h : Tld s ls ks) : ls.length ≤ ks.length := by
  have hn : ls.Nodup := by
    have := nk_inc (inc_lasts h.la)
    exact List.Pairwise.imp (fun {a b} hab e => hab (by rw [e])) this
  have := List.Nodup.length_le_of_subset (l₁ := ls) (l₂ := ks.map (·.m)) hn (fun l hl => by
    have h1 := (h.la.2 l.1 l.2).1 hl
    have h2 := hok.la l.1 (by rw [h1.1]; exact h1.2)
    rw [h1.1] at h2
    exact h.all _ h2)
  simpa using this
theorem rising_map {α β : Type} (f : α → β) (lt : β → β → Bool) : ∀ (l : List α), rising (fun a b => lt (f a) (f b)) l = rising lt (l.map f)
  | [] => rfl
  | [x] => rfl
  | x :: y :: r => by
    have ih := rising_map f lt (y :: r)
    simp only [rising, List.map_cons] at ih ⊢
    rw [ih]
end Go.Proofs.YtdemoghlibnooaaGreatDoor
namespace Go.Proofs.YtdemoghlibnooaaGreatDoor
open Go.RowKit Go.Maps Go.Sort Orl
set_option linter.unusedVariables false
set_option linter.unusedSimpArgs false
structure Kd (s : St) (ks : List KV) (o : Option Addr) (n c : Nat) (w : World) : Prop where
  n : n = ks.length
  own : Own KE w o c ks
  key : ∀ x ∈ ks, Own TE w x.o x.c x.keys
  is : IsKs s ks
  all : ∀ m, s.V m ≠ none → m ∈ ks.map (·.m)
  inc : Inc ltM (ks.map (·.m))
  ok : Ok s
  le : ks.length ≤ 1954687338211
structure Ld (s : St) (ls : List Mk) (o : Option Addr) (n c : Nat) (w : World) : Prop where
  n : n = ls.length
  own : Own LE w o c ls
  is : IsLs s ls
  ok : Ok s
  le : ls.length ≤ 5864062014634
theorem Ow.keptK {w0 w : World} {p : Nat} {s : St} {N : Nat} {P : Nat → Prop} (h : Ow w0 w p s N P) (hN : N ≤ 1954687338211) :
    Calls Tryz.prog 33 #[.pointer (some ⟨p, 0, none⟩)] w fun e w' => ∃ o n c ks, e = .returned (.slice o n c) ∧ Hid (Kd s ks o n c w' ∧ Kl w ks o c w' ∧ Keeps no w w' ∧ ks.length ≤ N) := by
  refine (h.kept hN).mono ?_
  rintro e w' ⟨v, rfl, o, n, c, ks, rfl, hn, hK, hl⟩
  exact ⟨o, n, c, ks, rfl, ⟨hn.out, hK.out.1.own, fun x hx => (hK.out.1.key x hx).1, hK.out.2.1, hK.out.2.2.2, hK.out.2.2.1, h.ok, by have := hl.out; omega⟩, hK.out.1, hK.out.1.keep, hl.out⟩
theorem Ow.lastsK {w0 w : World} {p : Nat} {s : St} {N : Nat} {P : Nat → Prop} (h : Ow w0 w p s N P) (hN : N ≤ 1954687338211) :
    Calls Tryz.prog 55 #[.pointer (some ⟨p, 0, none⟩)] w fun e w' => ∃ o n c ls, e = .returned (.slice o n c) ∧ Hid (Ld s ls o n c w' ∧ New w o ∧ Keeps no w w' ∧ ls.length ≤ N) := by
  refine (h.lasts hN).mono ?_
  rintro e w' ⟨v, rfl, ls, ⟨o, n, c, rfl, hn, ho, hnw, hk⟩, hi, hl⟩
  exact ⟨o, n, c, ls, rfl, ⟨hn.out, ho, hi.out, h.ok, by have := hl.out; omega⟩, hnw, hk, hl.out⟩
end Go.Proofs.YtdemoghlibnooaaGreatDoor

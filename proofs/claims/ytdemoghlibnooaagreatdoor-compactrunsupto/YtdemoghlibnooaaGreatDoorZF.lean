import Derived.Test.YtdemoghlibnooaaGreatDoorZZ
import Derived.Test.YtdemoghlibnooaaGreatDoorZN
import Derived.Test.YtdemoghlibnooaaGreatDoorZS
namespace Go.Proofs.YtdemoghlibnooaaGreatDoor
open Go.RowKit Orl Pk Go.Sort
set_option linter.unusedVariables false
set_option linter.unusedSimpArgs false
theorem opRec_id (x : OV) : (opRec x).id = idn x.i := by unfold opRec; split <;> rfl
theorem opRec_pairs (x : OV) : (opRec x).pairs.length ≤ 6 := by
  unfold opRec
  split
  · simp
  · show (opPrs _ _).length ≤ 6
    rw [opPrs_len]; exact namesTo_len _ 6
theorem opRec_tiny (x : OV) : TinyR (opRec x) := by
  unfold opRec
  split
  · exact ⟨(fun p hp => by cases hp), by simp, fun k hk => by cases hk⟩
  · refine ⟨fun p hp => ?_, namesTo_len _ 6, fun k hk => by have := namesTo_size x.a 6 k hk; omega⟩
    obtain ⟨k, hk, rfl⟩ := List.mem_map.1 hp
    have := namesTo_size _ 6 k hk
    exact ⟨by simp only; omega, cutV_size x.v⟩
theorem NM_inc : Inc lts NM := by
  have h : ∀ a b : Tx, decide (a.data.toList < b.data.toList) = true → lts a b = true := fun a b h => by rw [lts_eq]; exact h
  unfold NM Inc
  refine List.pairwise_cons.2 ⟨fun q hq => h _ _ ?_, List.pairwise_cons.2 ⟨fun q hq => h _ _ ?_, List.pairwise_cons.2 ⟨fun q hq => h _ _ ?_, List.pairwise_cons.2 ⟨fun q hq => h _ _ ?_, List.pairwise_cons.2 ⟨fun q hq => h _ _ ?_, List.pairwise_cons.2 ⟨fun q hq => (by cases hq), List.Pairwise.nil⟩⟩⟩⟩⟩⟩
  · simp at hq; rcases hq with rfl | rfl | rfl | rfl | rfl <;> decide
  · simp at hq; rcases hq with rfl | rfl | rfl | rfl <;> decide
  · simp at hq; rcases hq with rfl | rfl | rfl <;> decide
  · simp at hq; rcases hq with rfl | rfl <;> decide
  · simp at hq; rcases hq with rfl; decide
theorem names_sub (b : Nat) : ∀ k, k ≤ 6 → (namesTo b k).Sublist (NM.take k)
  | 0, _ => by simp [namesTo]
  | k + 1, h => by
    rw [namesTo_succ, take_succ_getD NM k e0 (by simp [NM]; omega)]
    refine List.Sublist.append (names_sub b k (by omega)) ?_
    split
    · exact List.Sublist.refl _
    · exact List.nil_sublist _
theorem names_sub6 (b : Nat) : (namesTo b 6).Sublist NM := by
  have := names_sub b 6 (Nat.le_refl _)
  rwa [List.take_of_length_le (by simp [NM])] at this
theorem names_inc (b : Nat) : Inc lts (namesTo b 6) := List.Pairwise.sublist (names_sub6 b) NM_inc
theorem bit_and {a b k : Nat} (h : bitN (a &&& b) k = true) : bitN a k = true := by
  have e : ∀ n : Nat, bitN n k = n.testBit k := fun n => by
    rw [Nat.testBit_eq_decide_div_mod_eq]
    rfl
  rw [e, Nat.testBit_and] at h
  rw [e]
  simp at h
  exact h.1
theorem names_and (a b : Nat) : ∀ k, ∀ x ∈ namesTo (a &&& b) k, x ∈ namesTo a k
  | 0, x, h => by cases h
  | k + 1, x, h => by
    rw [namesTo_succ] at h ⊢
    rcases List.mem_append.1 h with h | h
    · exact List.mem_append.2 (.inl (names_and a b k x h))
    · refine List.mem_append.2 (.inr ?_)
      by_cases e : bitN (a &&& b) k = true
      · rw [if_pos e] at h
        rw [if_pos (bit_and e)]
        exact h
      · rw [if_neg e] at h; cases h
theorem kys_op (b : Nat) (v : Tx) : kys (opPrs b v) = namesTo b 6 := by simp [kys, opPrs, Function.comp_def]
theorem opRec_may (x : OV) (h : opIs x = true) : may (opRec x) = true := by
  have hi := idn_le x.i
  unfold opIs at h
  simp only [Bool.or_eq_true, Bool.and_eq_true, decide_eq_true_eq] at h
  unfold opRec
  by_cases h2 : x.k = 2
  · rw [if_pos h2]
    unfold may
    simp only [Bool.and_eq_true, decide_eq_true_eq]
    exact ⟨hi.1, by simp⟩
  · rw [if_neg h2]
    obtain ⟨h1, hp⟩ : x.k = 1 ∧ 0 < (opPrs (x.a &&& x.b) x.v).length := by rcases h with h | h; exact absurd h h2; exact h
    rw [opPrs_len] at hp
    obtain ⟨k, hk⟩ := List.exists_mem_of_length_pos hp
    have hk1 := List.length_pos_of_mem (names_and _ _ 6 k hk)
    unfold may
    simp only [Bool.and_eq_true, decide_eq_true_eq, if_true]
    refine ⟨hi.1, ?_, ?_⟩
    · unfold mayK
      simp only [Bool.and_eq_true, decide_eq_true_eq, List.all_eq_true]
      exact ⟨⟨hk1, by have := namesTo_len x.a 6; omega⟩, fun s hs => by have := namesTo_size x.a 6 s hs; omega, (rising_iff swoT _).2 (names_inc x.a)⟩
    · unfold mayP
      simp only [Bool.and_eq_true, decide_eq_true_eq, List.all_eq_true]
      rw [kys_op]
      refine ⟨by rw [opPrs_len]; omega, fun p hp => ?_, (rising_iff swoT _).2 (names_inc _), fun s hs => (inn_iff _ _).2 (names_and _ _ 6 s hs)⟩
      obtain ⟨s, hs, rfl⟩ := List.mem_map.1 hp
      have := cutV_size x.v
      show (cutV x.v).size ≤ _
      omega
theorem cut3_le (v : Tx) : (cutV v).size ≤ v.size := by
  unfold cutV
  rw [ByteArray.size_extract]
  omega
theorem layP_op (v : Tx) : ∀ l : List Tx, (∀ s ∈ l, s.size ≤ 1) → (layP (l.map fun k => (k, cutV v))).length ≤ l.length * (9 + v.size)
  | [], _ => by simp [layP]
  | k :: l, h => by
    have h1 := layP_op v l (fun s hs => h s (by simp [hs]))
    have h2 := h k (by simp)
    have h3 := cut3_le v
    simp only [List.map_cons, layP, List.flatMap_cons, List.length_append, List.length_cons] at h1 ⊢
    have e : (layP1 (k, cutV v)).length = 8 + k.size + (cutV v).size := by
      unfold layP1
      rw [List.length_append, txt_length, txt_length, nats_length, nats_length]
      show 4 + k.size + (4 + (cutV v).size) = _
      omega
    rw [e, Nat.succ_mul]
    omega
theorem keys_op : ∀ l : List Tx, (∀ s ∈ l, s.size ≤ 1) → bodyLen (natss l) ≤ 5 * l.length
  | [], _ => by simp [natss, bodyLen]
  | k :: l, h => by
    have h1 := keys_op l (fun s hs => h s (by simp [hs]))
    have h2 := h k (by simp)
    have e : bodyLen (natss (k :: l)) = 4 + (nats k).length + bodyLen (natss l) := rfl
    rw [e, nats_length, List.length_cons]
    omega
theorem opRec_len (x : OV) : (body (opRec x)).length + 8 ≤ 109 + 6 * x.v.size := by
  unfold opRec body layF
  by_cases h2 : x.k = 2
  · rw [if_pos h2]
    simp [num_length]
    omega
  · rw [if_neg h2]
    simp only [if_true, List.length_append, num_length, txts_length]
    have h1 := layP_op x.v (namesTo (x.a &&& x.b) 6) (fun s hs => namesTo_size _ 6 s hs)
    have h3 := keys_op (namesTo x.a 6) (fun s hs => namesTo_size _ 6 s hs)
    have h4 := namesTo_len (x.a &&& x.b) 6
    have h5 := namesTo_len x.a 6
    have h6 : (namesTo (x.a &&& x.b) 6).length * (9 + x.v.size) ≤ 6 * (9 + x.v.size) := Nat.mul_le_mul_right _ h4
    have h7 : (layP (opPrs (x.a &&& x.b) x.v)).length ≤ (namesTo (x.a &&& x.b) 6).length * (9 + x.v.size) := h1
    omega
theorem opRec_len3 (x : OV) : (body (opRec x)).length ≤ 2000 := by
  have h := opRec_len ⟨x.k, x.i, x.a, x.b, cutV x.v⟩
  have e : opRec ⟨x.k, x.i, x.a, x.b, cutV x.v⟩ = opRec x := by
    have e1 : cutV (cutV x.v) = cutV x.v := by
      have h3 := cutV_size x.v
      have e2 : ∀ y : Tx, y.size ≤ 300 → cutV y = y := fun y hy => by
        unfold cutV
        rw [show (min (y.size : Int) 300).toNat = y.size by omega]
        exact ByteArray.extract_zero_size
      exact e2 _ h3
    unfold opRec opPrs
    simp only [e1]
  rw [e] at h
  have := cutV_size x.v
  simp only at h
  omega
theorem opRec_gd (x : OV) (h : opIs x = true) : Gd (opRec x) := ⟨opRec_may x h, by rw [opRec_id]; exact idn_lt _, by have := opRec_len3 x; omega⟩
def wtO (x : OV) : Nat := 6 + x.v.size
theorem opRec_wt (x : OV) : (opRec x).pairs.length ≤ wtO x := by have := opRec_pairs x; unfold wtO; omega
end Go.Proofs.YtdemoghlibnooaaGreatDoor
namespace Go.Proofs.YtdemoghlibnooaaGreatDoor
open Go.RowKit Go.Maps Go.Sort Orl Pk
set_option linter.unusedVariables false
set_option linter.unusedSimpArgs false
def ov0 : OV := ⟨0, 0, 0, 0, e0⟩
def OE : El OV := ⟨50, 39, 5, 40, fun x => [.int .i64 x.k, .int .u64 ((x.i : Nat) : Int), .int .u8 ((x.a : Nat) : Int), .int .u8 ((x.b : Nat) : Int), .string x.v]⟩
theorem infoO : (Tryz.prog.info? 50).map (fun i => (i.zero, i.size, i.bytes)) = some (some (.agg #[.int .i64 0, .int .u64 0, .int .u8 0, .int .u8 0, .string ⟨#[]⟩]), 5, 40) := by kernel_rfl
theorem okO : OE.Ok := by
  obtain ⟨i0, hi, hz0, hz1, hz2⟩ := info_parts infoO
  exact ⟨fun _ => rfl, fun x u hu => by simp [OE] at hu; rcases hu with rfl | rfl | rfl | rfl | rfl <;> rfl, by decide, Tryz.underlying39, i0, _, hi, hz0, hz1, hz2, rfl⟩
theorem atO {w : World} {a : Option Addr} {c : Nat} {xs : List OV} (h : Sl OE w a c xs) {j : Nat} (hj : j < xs.length) : ∃ b off, a = some ⟨b, off, none⟩ ∧ w.cell? ⟨b, off + j * 5, none⟩ = some (.int .i64 (xs.getD j ov0).k) ∧ w.cell? ⟨b, off + j * 5 + 1, none⟩ = some (.int .u64 (((xs.getD j ov0).i : Nat) : Int)) ∧ w.cell? ⟨b, off + j * 5 + 2, none⟩ = some (.int .u8 (((xs.getD j ov0).a : Nat) : Int)) ∧ w.cell? ⟨b, off + j * 5 + 3, none⟩ = some (.int .u8 (((xs.getD j ov0).b : Nat) : Int)) ∧ w.cell? ⟨b, off + j * 5 + 4, none⟩ = some (.string (xs.getD j ov0).v) := by
  rcases h.row with e | ⟨b, off, rfl, hc⟩
  · subst e; simp at hj
  · have key : ∀ i, i < 5 → w.cell? ⟨b, off + j * 5 + i, none⟩ = (OE.enc (xs.getD j ov0))[i]? := fun i hi => by
      have hx := cells_at okO ov0 xs j i hj hi
      have hlt : i < (OE.enc (xs.getD j ov0)).length := by simpa [OE] using hi
      rw [List.getElem?_eq_getElem hlt] at hx ⊢
      rw [Nat.add_assoc]
      exact hc _ _ hx
    exact ⟨b, off, rfl, key 0 (by omega), key 1 (by omega), key 2 (by omega), key 3 (by omega), key 4 (by omega)⟩
theorem sum_take {α : Type} (f : α → Nat) (d : α) : ∀ (l : List α) (k : Nat), k < l.length → ((l.take (k + 1)).map f).sum = ((l.take k).map f).sum + f (l.getD k d)
  | [], k, h => by simp at h
  | x :: l, 0, h => by simp
  | x :: l, k + 1, h => by
    have := sum_take f d l k (by simpa using h)
    simp only [List.take_succ_cons, List.map_cons, List.sum_cons, List.getD_cons_succ] at this ⊢
    omega
theorem sum_le {α : Type} (f : α → Nat) : ∀ (l : List α) (k : Nat), ((l.take k).map f).sum ≤ (l.map f).sum
  | [], k => by simp
  | x :: l, 0 => by simp
  | x :: l, k + 1 => by
    have := sum_le f l k
    simp only [List.take_succ_cons, List.map_cons, List.sum_cons]
    omega
end Go.Proofs.YtdemoghlibnooaaGreatDoor
namespace Go.Proofs.YtdemoghlibnooaaGreatDoor
open Go.RowKit Go.Maps Go.Sort Orl Pk
set_option linter.unusedVariables false
set_option linter.unusedSimpArgs false
structure FV where
  wh : Int
  o : Option Addr
  n : Nat
  c : Nat
  y : Bool
  b : List UInt8
def fv0 : FV := ⟨0, none, 0, 0, false, []⟩
def LFE : El FV := ⟨66, 60, 3, 40, fun x => [.int .i64 x.wh, .slice x.o x.n x.c, .bool x.y]⟩
theorem infoF15 : (Tryz.prog.info? 66).map (fun i => (i.zero, i.size, i.bytes)) = some (some (.agg #[.int .i64 0, .slice none 0 0, .bool false]), 3, 40) := by kernel_rfl
theorem okF15 : LFE.Ok := by
  obtain ⟨i0, hi, hz0, hz1, hz2⟩ := info_parts infoF15
  exact ⟨fun _ => rfl, fun x u hu => by simp [LFE] at hu; rcases hu with rfl | rfl | rfl <;> rfl, by decide, Tryz.underlying60, i0, _, hi, hz0, hz1, hz2, rfl⟩
theorem atF15 {w : World} {a : Option Addr} {c : Nat} {xs : List FV} (h : Sl LFE w a c xs) {j : Nat} (hj : j < xs.length) : ∃ b off, a = some ⟨b, off, none⟩ ∧ w.cell? ⟨b, off + j * 3, none⟩ = some (.int .i64 (xs.getD j fv0).wh) ∧ w.cell? ⟨b, off + j * 3 + 1, none⟩ = some (.slice (xs.getD j fv0).o (xs.getD j fv0).n (xs.getD j fv0).c) ∧ w.cell? ⟨b, off + j * 3 + 2, none⟩ = some (.bool (xs.getD j fv0).y) := by
  rcases h.row with e | ⟨b, off, rfl, hc⟩
  · subst e; simp at hj
  · have key : ∀ i, i < 3 → w.cell? ⟨b, off + j * 3 + i, none⟩ = (LFE.enc (xs.getD j fv0))[i]? := fun i hi => by
      have hx := cells_at okF15 fv0 xs j i hj hi
      have hlt : i < (LFE.enc (xs.getD j fv0)).length := by simpa [LFE] using hi
      rw [List.getElem?_eq_getElem hlt] at hx ⊢
      rw [Nat.add_assoc]
      exact hc _ _ hx
    exact ⟨b, off, rfl, key 0 (by omega), key 1 (by omega), key 2 (by omega)⟩
def wtF (x : FV) : Nat := x.b.length
structure FVok (w : World) (x : FV) : Prop where
  n : x.n = x.b.length
  s : Sl BU w x.o x.c x.b
theorem run_one {st : St} {g : Nat} {s : Dk.St} {b : List UInt8} {bs : List Nat} (hb : LaidB st g s b) (hs : SnOf st (g + 1) bs) : runF b g s = runF (u8s bs) g s := by
  by_cases h : (begS g s).2 = 0
  · obtain ⟨bn, h1, _, rfl⟩ := hb h
    rw [SnOf.eq (Sim.refl _) h1 hs]
  · unfold runF runS
    simp only [bnd_no h]
theorem rsize_any (w : World) (q r : Nat) (n : Tx) (k : Nat) (h : IsLq w q r n k) : Calls Tryz.prog 37 #[.pointer (some ⟨q, 0, none⟩)] w fun e w' => e = .returned (.int .i64 ((k : Nat) : Int)) ∧ w' = w := by
  have c2 := cell_of_blk h.blk 2
  go_enter Tryz.func37, Tryz.ntmps37
  go_wp2
  go_ret
  exact ⟨rfl, rfl⟩
theorem rname_any (w : World) (q r : Nat) (n : Tx) (k : Nat) (h : IsLq w q r n k) : Calls Tryz.prog 39 #[.pointer (some ⟨q, 0, none⟩)] w fun e w' => e = .returned (.string n) ∧ w' = w := by
  have c1 := cell_of_blk h.blk 1
  go_enter Tryz.func39, Tryz.ntmps39
  go_wp2
  go_ret
  exact ⟨rfl, rfl⟩
theorem drun_arg (w : World) (r u : Nat) (g : Int) (h : g < 0 ∨ 1099511627776 ≤ g) :
    Calls Tryz.prog 36 #[.pointer (some ⟨r, 0, none⟩), .pointer (some ⟨u, 0, none⟩), .int .i64 g] w fun e w' => e = .returned (.tuple #[.pointer none, .int .i64 0, .int .i64 1]) ∧ w' = w := by
  rcases h with h | h
  · go_enter Tryz.func36, Tryz.ntmps36
    go_wp2_with fail
    go_ret3
    exact ⟨rfl, rfl⟩
  · have h0 : ¬ g < 0 := by omega
    have h1 : 1099511627775 < g := by omega
    clear h
    go_enter Tryz.func36, Tryz.ntmps36
    go_wp2_with fail
    go_ret3
    exact ⟨rfl, rfl⟩
theorem kd_len {s : St} {ks ks' : List KV} {o o' : Option Addr} {n n' c c' : Nat} {w w' : World} (h : Kd s ks o n c w) (h' : Kd s ks' o' n' c' w') : n = n' := by
  have a := inc_nodup swoM h.inc
  have b := inc_nodup swoM h'.inc
  have c := nodup_len a (fun m hm => by
    obtain ⟨x, hx, rfl⟩ := List.mem_map.1 hm
    exact h'.all _ (by rw [h.is x hx]; simp))
  have d := nodup_len b (fun m hm => by
    obtain ⟨x, hx, rfl⟩ := List.mem_map.1 hm
    exact h.all _ (by rw [h'.is x hx]; simp))
  rw [List.length_map, List.length_map] at c d
  have := h.n
  have := h'.n
  omega
end Go.Proofs.YtdemoghlibnooaaGreatDoor

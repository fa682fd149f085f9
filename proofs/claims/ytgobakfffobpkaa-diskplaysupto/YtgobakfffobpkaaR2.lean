/- Where a file of the document's stands; a crash; the counting. -/
import Derived.Test.YtgobakfffobpkaaR1
import Derived.Test.YtgobakfffobpkaaT9
namespace Go.Proofs.Ytgobakfffobpkaa
open Go.RowKit Dk
set_option linter.unusedVariables false
set_option linter.unusedSimpArgs false

/-- what 'at' tells -/
inductive AtSpec {β : Type} (n : Nm) (l : List (Nm × β)) : Int → Prop
  | hit (j : Nat) (hj : j < l.length) (hn : l[j].1 = n) : AtSpec n l ((j : Nat) : Int)
  | miss (j : Nat) (hj : j ≤ l.length) (lo : ∀ i (hi : i < l.length), i < j → bytesBefore l[i].1 n = true) (hi : ∀ i (hi : i < l.length), j ≤ i → bytesBefore n l[i].1 = true) : AtSpec n l (-1 - ((j : Nat) : Int))
theorem split_at {β : Type} {l : List β} {j : Nat} (hj : j < l.length) : l = l.take j ++ l[j] :: l.drop (j + 1) := by
  rw [← List.drop_eq_getElem_cons hj, List.take_append_drop]
theorem hit_find {β : Type} {n : Nm} {l : List (Nm × β)} (hl : Inc l) {j : Nat} (hj : j < l.length) (hn : l[j].1 = n) : find n l = some l[j].2 := by
  subst hn
  exact find_of_mem hl (List.getElem_mem hj)
theorem hit_put {β : Type} {n : Nm} {l : List (Nm × β)} (hl : Inc l) {j : Nat} (hj : j < l.length) (hn : l[j].1 = n) (v : β) : put n v l = l.take j ++ (n, v) :: l.drop (j + 1) := by
  have e := split_at hj
  have e2 : l = l.take j ++ (n, l[j].2) :: l.drop (j + 1) := by rw [← hn]; exact e
  have h2 := hl
  rw [e2] at h2
  have := put_mid (v := v) h2
  rw [← e2] at this
  exact this
theorem hit_del {β : Type} {n : Nm} {l : List (Nm × β)} (hl : Inc l) {j : Nat} (hj : j < l.length) (hn : l[j].1 = n) : del n l = l.take j ++ l.drop (j + 1) := by
  have e := split_at hj
  have hp := hl
  rw [e] at hp
  have h1 := List.pairwise_append.1 hp
  have h2 := List.pairwise_cons.1 h1.2.1
  conv => lhs; rw [e]
  unfold del
  rw [List.filter_append, List.filter_cons, if_neg (by simp [hn])]
  rw [List.filter_eq_self.2 (fun q hq => by have := bb_ne (h1.2.2 q hq l[j] List.mem_cons_self); rw [hn] at this; simpa using this)]
  rw [List.filter_eq_self.2 (fun q hq => by have := bb_ne (h2.1 q hq); rw [hn] at this; simpa using fun e => this e.symm)]
theorem miss_find {β : Type} {n : Nm} {l : List (Nm × β)} {j : Nat} (lo : ∀ i (hi : i < l.length), i < j → bytesBefore l[i].1 n = true) (hi : ∀ i (hi : i < l.length), j ≤ i → bytesBefore n l[i].1 = true) : find n l = none := by
  refine find_none.2 fun q hq e => ?_
  obtain ⟨i, hl, rfl⟩ := List.getElem_of_mem hq
  by_cases h : i < j
  · exact bb_ne (lo i hl h) e
  · exact bb_ne (hi i hl (by omega)) e.symm
theorem miss_put {β : Type} {n : Nm} {l : List (Nm × β)} (hl : Inc l) {j : Nat} (hj : j ≤ l.length) (lo : ∀ i (hi : i < l.length), i < j → bytesBefore l[i].1 n = true) (hi : ∀ i (hi : i < l.length), j ≤ i → bytesBefore n l[i].1 = true) (v : β) : put n v l = l.take j ++ (n, v) :: l.drop j := by
  have hf := miss_find lo hi
  have hinc : Inc (l.take j ++ (n, v) :: l.drop j) := by
    have h0 := hl
    rw [← List.take_append_drop j l] at h0
    have h1 := List.pairwise_append.1 h0
    refine List.pairwise_append.2 ⟨h1.1, List.pairwise_cons.2 ⟨fun q hq => ?_, h1.2.1⟩, fun a ha b hb => ?_⟩
    · obtain ⟨i, hil, rfl⟩ := List.getElem_of_mem hq
      rw [List.getElem_drop]
      exact hi (j + i) (by simp at hil; omega) (by omega)
    · rcases List.mem_cons.1 hb with rfl | hb
      · obtain ⟨i, hil, rfl⟩ := List.getElem_of_mem ha
        rw [List.getElem_take]
        simp at hil
        exact lo i (by omega) (by omega)
      · exact h1.2.2 a ha b hb
  refine inc_ext (inc_put hl) hinc fun m => ?_
  by_cases e : m = n
  · subst e
    rw [find_put_same, find_of_mem (v := v) hinc (by simp)]
  · rw [find_put_other e]
    have : ∀ (a b : List (Nm × β)), find m (a ++ (n, v) :: b) = find m (a ++ b) := by
      intro a b
      induction a with
      | nil => have : ¬ (n == m) = true := by simpa using fun e' => e e'.symm
               simp [find, this]
      | cons y r ih => simp only [List.cons_append, find, ih]
    rw [this, List.take_append_drop]

theorem rowF_at {w : World} {a : Option Addr} {fs : List RF} (h : Row FE w a fs) {j : Nat} (hj : j < fs.length) : ∃ b off, a = some ⟨b, off, none⟩ ∧ w.cell? ⟨b, off + j * 3, none⟩ = some (.string (fs.getD j rf0).nm) ∧ w.cell? ⟨b, off + j * 3 + 1, none⟩ = some (.slice (fs.getD j rf0).o (fs.getD j rf0).bs.length (fs.getD j rf0).c) ∧ w.cell? ⟨b, off + j * 3 + 2, none⟩ = some (.int .i64 (((fs.getD j rf0).sy : Nat) : Int)) := by
  rcases h with e | ⟨b, off, rfl, hc⟩
  · rw [e] at hj; simp at hj
  · have h0 := cells_at okF rf0 fs j 0 hj (by decide)
    have h1 := cells_at okF rf0 fs j 1 hj (by decide)
    have h2 := cells_at okF rf0 fs j 2 hj (by decide)
    exact ⟨b, off, rfl, hc (j * 3) _ h0, hc (j * 3 + 1) _ h1, hc (j * 3 + 2) _ h2⟩
theorem ownF_at {w : World} {a : Option Addr} {c : Nat} {fs : List RF} (h : Own FE w a c fs) {j : Nat} (hj : j < fs.length) : ∃ g, a = some ⟨g, 0, none⟩ ∧ w.cell? ⟨g, j * 3, none⟩ = some (.string (fs.getD j rf0).nm) ∧ w.cell? ⟨g, j * 3 + 1, none⟩ = some (.slice (fs.getD j rf0).o (fs.getD j rf0).bs.length (fs.getD j rf0).c) ∧ w.cell? ⟨g, j * 3 + 2, none⟩ = some (.int .i64 (((fs.getD j rf0).sy : Nat) : Int)) ∧ ∀ i, w.frozen? ⟨g, i, none⟩ = false := by
  rcases h.shape with ⟨_, _, e⟩ | ⟨g, cur, rfl, hg, _⟩
  · rw [e] at hj; simp at hj
  · obtain ⟨b, off, e, h0, h1, h2⟩ := rowF_at h.row hj
    cases e
    simp only [Nat.zero_add] at h0 h1 h2
    exact ⟨g, rfl, h0, h1, h2, fun i => frozen_of_blk hg i⟩

set_option maxRecDepth 10000 in
theorem at_any (w : World) (r : Nat) (F : Nat → Prop) (s : St) (n : Tx) (h : IsR w r F s) :
    Calls Try.prog 62 #[.pointer (some ⟨r, 0, none⟩), .string n] w fun e w' => ∃ v, e = .returned (.int .i64 v) ∧ Hid (AtSpec n.data.toList s.fs v) ∧ w' = w := by
  obtain ⟨oF, cF, fs, h⟩ := h
  obtain ⟨N, hN⟩ : ∃ N, N = fs.length := ⟨_, rfl⟩
  have HN : Hid (N = fs.length) := hN
  have c0 : w.cell? ⟨r, 0, none⟩ = some (.slice oF N cF) := by rw [hN]; exact cell_of_blk h.blk 0
  have HD : Hid (RD w r F s oF cF fs) := h
  have hl : s.fs.length = fs.length := by rw [h.eq]; simp
  have HL : Hid (s.fs.length = fs.length) := hl
  have h16 : N ≤ 16 := by have := h.ok.len; omega
  clear hN h hl
  go_enter Try.func62, Try.ntmps62
  go_wp2_with fail
  go_loopw [5] (fun i wr => ∃ k : Nat, k ≤ N ∧ i = .int .i64 k ∧ wr = w ∧ Hid (∀ i (hi : i < s.fs.length), i < k → bytesBefore s.fs[i].1 n.data.toList = true)) (fun i _ => N - (intOf i).toNat)
  case atStart => exact ⟨0, by omega, rfl, rfl, fun i hi h => by omega⟩
  case round =>
    obtain ⟨k, hk, rfl, e, HT⟩ := hrel
    subst wr
    by_cases hlt : k < N
    · have hkf : k < fs.length := by have := HN.out; omega
      have hks : k < s.fs.length := by have := HL.out; omega
      obtain ⟨g, rfl, d0, _, _, _⟩ := ownF_at HD.out.own hkf
      have hnm : s.fs[k].1 = (fs.getD k rf0).nm.data.toList := by
        have e := HD.out.eq
        have e2 : s.fs[k] = (fs.map RF.ent)[k]'(by simpa using hkf) := by congr 1
        rw [e2]
        simp [RF.ent, List.getD_eq_getElem?_getD, hkf]
      obtain ⟨x, hx⟩ : ∃ x, x = (fs.getD k rf0).nm := ⟨_, rfl⟩
      rw [← hx] at d0 hnm
      have HNM : Hid (s.fs[k].1 = x.data.toList) := hnm
      have HKS : Hid (k < s.fs.length) := hks
      clear hx hnm hkf
      by_cases hxy : x = n
      · have hxy' : (x.toList == n.toList) = true := by rw [tx_eq]; simpa using hxy
        have HXY : Hid (x = n) := hxy
        clear hxy
        go_wp2_with fail
        go_ret
        exact ⟨_, rfl, .hit k HKS.out (by rw [HNM.out, HXY.out]), rfl⟩
      · have hxy' : (x.toList == n.toList) = false := by rw [tx_eq]; simpa using hxy
        have HXY : Hid (¬ x = n) := hxy
        clear hxy
        cases hlt2 : Op.bytesLess x.toList n.toList
        · go_wp2_with fail
          go_ret
          refine ⟨_, rfl, .miss k (Nat.le_of_lt HKS.out) HT.out (fun i hi hki => ?_), rfl⟩
          have hb : bytesBefore x.data.toList n.data.toList = false := by rw [← less_bb]; rw [Lib.toList_data, Lib.toList_data] at hlt2; exact hlt2
          have hne : x.data.toList ≠ n.data.toList := fun e => HXY.out (by rw [← mkT_data x, ← mkT_data n, e])
          have h2 := bb_tri hb hne
          rw [← HNM.out] at h2
          by_cases e : i = k
          · subst e; exact h2
          · exact WideShapes.bytes_trans _ _ _ h2 ((List.pairwise_iff_getElem.1 HD.out.ok.inc) k i HKS.out hi (by omega))
        · go_wp2_with fail
          go_roundw
          case rel =>
            refine ⟨k + 1, by omega, by go_num, by trivial, fun i hi h => ?_⟩
            by_cases e : i = k
            · subst e
              rw [HNM.out, ← less_bb]
              rw [Lib.toList_data, Lib.toList_data] at hlt2
              exact hlt2
            · exact HT.out i hi (by omega)
          case measure => simp [intOf]; omega
    · have hkn : k = N := by omega
      subst k
      go_wp2_with fail
      go_ret
      exact ⟨_, rfl, .miss N (by have := HL.out; have := HN.out; omega) HT.out (fun i hi h => by have := HL.out; have := HN.out; omega), rfl⟩
end Go.Proofs.Ytgobakfffobpkaa

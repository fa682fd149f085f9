/- What a read brought, in pure lists: it is formed, of the writes. -/
import Derived.Test.YtodblodbeobgeaaL4
namespace Go.Proofs.Ytodblodbeobgeaa
open Go.RowKit Go.Sort Orl
set_option linter.unusedVariables false
set_option linter.unusedSimpArgs false

theorem ky_lt : ∀ i j : Fin 8, i < j → ((ky i).data.toList < (ky j).data.toList) := by decide
theorem lts_ky {i j : Nat} (hij : i < j) (hj : j < 8) : lts (ky i) (ky j) = true := by
  rw [lts_eq, decide_eq_true_eq]
  exact ky_lt ⟨i, by omega⟩ ⟨j, hj⟩ hij
theorem ky_inj {i j : Nat} (hi : i < 8) (hj : j < 8) (h : ky i = ky j) : i = j := by
  rcases Nat.lt_trichotomy i j with hl | e | hg
  · have := lts_ky hl hj; rw [h, swoT.irrefl] at this; cases this
  · exact e
  · have := lts_ky hg hi; rw [h, swoT.irrefl] at this; cases this
theorem setM_mem {m : Int} {s : Tx} (h : s ∈ setM m) : ∃ i, i < 8 ∧ s = ky i := by
  unfold setM at h
  split at h
  · rcases List.mem_cons.1 h with rfl | h
    · exact ⟨0, by omega, rfl⟩
    · cases h
  · unfold setK at h
    obtain ⟨i, hi, rfl⟩ := List.mem_map.1 h
    have := List.mem_range.1 (List.mem_filter.1 hi).1
    exact ⟨i, this, rfl⟩
theorem setM_inc (m : Int) : Inc lts (setM m) := by
  unfold setM
  split
  · exact List.Pairwise.cons (by simp) List.Pairwise.nil
  · unfold setK Inc
    rw [List.pairwise_map]
    have h1 : ((List.range 8).filter (bitM m)).Pairwise (fun a b => a < b ∧ b < 8) := by
      refine List.Pairwise.sublist List.filter_sublist ?_
      decide
    exact h1.imp fun h => lts_ky h.1 h.2
theorem setM_rising (m : Int) : rising lts (setM m) = true := (rising_iff swoT _).2 (setM_inc m)
theorem keydM (ms : List Int) : Keyd (KM ms) := ⟨fun n => setM_rising _, fun n => by have := (setM_len (ms.getD n 0)).2; unfold KM; omega⟩
theorem setM_nodup (m : Int) : (setM m).Nodup := inc_nodup swoT (setM_inc m)
theorem broV_of (ms : List Int) (read turn : Int) (ps : List Int) (i : Nat) : (broV ms read turn ps i).key = keyR read turn i ∧ OfW (KM ms) VM ms.length (broV ms read turn ps i) := someV_of _ _ _ _ (broV_mem ms read turn ps i)
theorem keyR_inj (read turn : Int) {i j : Nat} (hi : i < (setM read).length) (hj : j < (setM read).length) (h : keyR read turn i = keyR read turn j) : i = j := by
  unfold keyR at h
  generalize rst turn ((setM read).length - 1) = R at h
  have hn := setM_nodup read
  generalize setM read = l at *
  have hp : 0 < l.length := by omega
  have h1 := Nat.mod_lt (i + R) hp
  have h2 := Nat.mod_lt (j + R) hp
  simp only [List.getD_eq_getElem?_getD, List.getElem?_eq_getElem h1, List.getElem?_eq_getElem h2, Option.getD_some] at h
  have e := (List.getElem_inj hn).1 h
  rcases Nat.lt_trichotomy i j with hl | he | hg
  · have : (j + R) % l.length = ((i + R) % l.length + (j - i)) % l.length := by rw [Nat.mod_add_mod]; congr 1; omega
    rw [← e] at this
    have h3 : ∀ a d n : Nat, a < n → 0 < d → d < n → a ≠ (a + d) % n := by
      intro a d n ha hd hdn h
      by_cases hh : a + d < n
      · rw [Nat.mod_eq_of_lt hh] at h; omega
      · rw [Nat.mod_eq_sub_mod (by omega), Nat.mod_eq_of_lt (by omega)] at h; omega
    exact absurd this (h3 _ _ _ h1 (by omega) (by omega))
  · exact he
  · have : (i + R) % l.length = ((j + R) % l.length + (i - j)) % l.length := by rw [Nat.mod_add_mod]; congr 1; omega
    rw [e] at this
    have h3 : ∀ a d n : Nat, a < n → 0 < d → d < n → a ≠ (a + d) % n := by
      intro a d n ha hd hdn h
      by_cases hh : a + d < n
      · rw [Nat.mod_eq_of_lt hh] at h; omega
      · rw [Nat.mod_eq_sub_mod (by omega), Nat.mod_eq_of_lt (by omega)] at h; omega
    exact absurd this (h3 _ _ _ h2 (by omega) (by omega))
theorem bro_getD (ms : List Int) (read turn : Int) (ps : List Int) {i : Nat} (hi : i < (setM read).length) : (broughtV ms read turn ps).getD i v0 = broV ms read turn ps i := by
  unfold broughtV broL
  simp [List.getD_eq_getElem?_getD, hi]
theorem bro_len (ms : List Int) (read turn : Int) (ps : List Int) : (broughtV ms read turn ps).length = (setM read).length := broL_len _ _ _ _ _
theorem bro_of (ms : List Int) (read turn : Int) (ps : List Int) : ∀ v ∈ broughtV ms read turn ps, OfW (KM ms) VM ms.length v := by
  intro v hv
  unfold broughtV broL at hv
  obtain ⟨i, _, rfl⟩ := List.mem_map.1 hv
  exact (broV_of ms read turn ps i).2
theorem bro_formed (ms : List Int) (read turn : Int) (ps : List Int) : Formed (broughtV ms read turn ps) := by
  have hl := setM_len read
  refine formed_of (keydM ms) (by rw [bro_len]; omega) (by rw [bro_len]; omega) ?_ (bro_of ms read turn ps)
  intro j k hj hk
  rw [bro_len] at hj
  rw [bro_getD ms read turn ps hj, bro_getD ms read turn ps (show k < (setM read).length by omega), (broV_of ms read turn ps j).1, (broV_of ms read turn ps k).1]
  intro e
  have := keyR_inj read turn (by omega) hj e
  omega
/-- sizes -/
theorem VM_size (n : Nat) (k : Tx) : (VM n k).size = k.size + 1 := by
  unfold VM
  rw [ByteArray.size_append]; rfl
theorem KM_size (ms : List Int) (n : Nat) : ∀ s ∈ KM ms n, s.size = 1 := fun s h => setM_size _ s h
theorem made_fit {ms : List Int} {n : Nat} {k : Tx} (hn : n < 1000) (hk : k.size ≤ 1000) : FitV (madeV ms n k) := by
  have h := setM_len (ms.getD n 0)
  refine ⟨by show 65536 * (n + 1) < _; omega, by show k.size ≤ _; omega, by show (VM n k).size ≤ _; rw [VM_size]; omega, by show (KM ms n).length ≤ _; unfold KM; omega, fun s hs => by rw [KM_size ms n s hs]; omega⟩
theorem bot_fit {k : Tx} (hk : k.size ≤ 1000) : FitV (botV k) := ⟨by show 0 < _; omega, by show k.size ≤ _; omega, by show e0.size ≤ _; decide, by show ([] : List Tx).length ≤ _; simp, fun s hs => by cases hs⟩
theorem ofW_fit {ms : List Int} {N : Nat} (hN : N ≤ 1000) {v : Ver} (h : OfW (KM ms) VM N v) (hk : v.key.size ≤ 1000) : FitV v := by
  rcases h with h | ⟨n, hn, _, h⟩
  · rw [h]; exact bot_fit hk
  · rw [h]; exact made_fit (by omega) hk
theorem keyR_size (read turn : Int) (i : Nat) : (keyR read turn i).size ≤ 1000 := by
  unfold keyR
  have hl := setM_len read
  have := setM_size read _ (getD_mem_lt e0 (show (i + rst turn ((setM read).length - 1)) % (setM read).length < (setM read).length from Nat.mod_lt _ (by omega)))
  omega
theorem bro_keys (ms : List Int) (read turn : Int) (ps : List Int) : ∀ v ∈ broughtV ms read turn ps, v.key.size ≤ 1000 := by
  intro v hv
  unfold broughtV broL at hv
  obtain ⟨i, _, rfl⟩ := List.mem_map.1 hv
  rw [(broV_of ms read turn ps i).1]
  exact keyR_size _ _ _
theorem bro_fit (ms : List Int) (hm : ms.length ≤ 1000) (read turn : Int) (ps : List Int) : FitL (broughtV ms read turn ps) :=
  ⟨by rw [bro_len]; have := setM_len read; omega, fun v hv => ofW_fit hm (bro_of ms read turn ps v hv) (bro_keys ms read turn ps v hv)⟩
end Go.Proofs.Ytodblodbeobgeaa

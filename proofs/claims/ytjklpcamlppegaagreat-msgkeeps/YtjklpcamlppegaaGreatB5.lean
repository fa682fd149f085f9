import Derived.Test.YtjklpcamlppegaaGreatB4
import Derived.Laws.MakeOwn
namespace Go.Proofs.YtjklpcamlppegaaGreat
open Go.RowKit Go.Sort Orl
set_option linter.unusedVariables false
set_option linter.unusedSimpArgs false

def kys (l : List Pr) : List Tx := l.map Prod.fst
theorem kys_length (l : List Pr) : (kys l).length = l.length := by simp [kys]
theorem kys_take (l : List Pr) (k : Nat) (h : k < l.length) : kys (l.take (k + 1)) = kys (l.take k) ++ [(l.getD k p0).1] := by
  rw [take_succ_getD l k p0 h]; simp [kys]

theorem makeT (w : World) (n : Nat) (h : n ≤ 100000) : ∃ w', (Instr.makeSlice 25 (.int .i64 0) (.int .i64 (n : Int))).run Tryz.prog w = .ok (.slice (some ⟨w.heap.size, 0, none⟩) 0 n) w' ∧ Own TE w' (some ⟨w.heap.size, 0, none⟩) n [] ∧ Keeps no w w' := by
  obtain ⟨i0, hi, hz0, hz1, hz2⟩ := info_parts info9
  obtain ⟨w', hr, ho, hg⟩ := run_make_own (P := Tryz.prog) w 0 25 9 i0 _ 1 Tryz.underlying25 hi hz0 hz1 .i64 .i64 n (by rw [hz2]; omega) (by unfold maxLen; omega) (Nat.zero_le _)
  exact ⟨w', hr, ho, (Keeps.refl _ _).grown hg (fun k hk => by cases hk)⟩

theorem own_one2 (w : World) (o : Obj) (x : Tx) : Sl TE ((w.alloc o).alloc (.cells #[.string x] 9)) (some ⟨w.heap.size + 1, 0, none⟩) 1 [x] := by
  have := own_one (w.alloc o) x
  have e : (w.alloc o).heap.size = w.heap.size + 1 := by simp
  rwa [e] at this

set_option maxRecDepth 10000 in
theorem names_any (w : World) (a : Option Addr) (n c : Nat) (xs : List Pr) (hn : n = xs.length) (hl : Small xs) (hs : Sl PE w a c xs) :
    Calls Tryz.prog 85 #[.slice a n c] w fun e w' => ∃ v, e = .returned v ∧ Gives TE w (kys xs) v w' := by
  have HA : Hid (n = xs.length) := hn
  have hA : (n : Int) ≤ 100000 := by unfold Small at hl; omega
  have HL : Hid (xs.length ≤ 100000) := hl
  obtain ⟨w1, hr1, ho1, hk1⟩ := makeT w n (by unfold Small at hl; omega)
  clear hn hl
  go_enter Tryz.func85, Tryz.ntmps85
  go_wp2_with fail
  go_loopw [3, 11] (fun s3 i wr => ∃ (k : Nat) (v : Value), k ≤ n ∧ i = .int .i64 k ∧ s3 = v ∧ Hid (Gives TE w (kys (xs.take k)) v wr)) (fun _ i _ => n - (intOf i).toNat)
  case atStart => exact ⟨0, _, by omega, rfl, rfl, ⟨_, _, _, rfl, (show 0 = _ by simp [kys]), by simpa [kys] using ho1, new_fresh _ _ (Nat.le_refl _) _, hk1⟩⟩
  case round =>
    obtain ⟨k, v, hk, rfl, rfl, HG⟩ := hrel
    obtain ⟨o, m, d, rfl, hm, ho, hnw, hkp⟩ := HG.out
    by_cases h2 : k < n
    · have hka : k < xs.length := by have := HA.out; omega
      have hs' := hs.keepsN hkp
      obtain ⟨b1, off1, rfl, d1, d2⟩ := hs'.atP hka
      obtain ⟨x, hx⟩ : ∃ x, x = (xs.getD k p0).1 := ⟨_, rfl⟩
      obtain ⟨y, hy⟩ : ∃ y, y = (xs.getD k p0).2 := ⟨_, rfl⟩
      rw [← hx] at d1
      rw [← hy] at d2
      have HX : Hid (x = (xs.getD k p0).1) := hx
      have HLen : Hid ((kys (xs.take k)).length ≤ 100000) := by rw [kys_length, List.length_take]; have := HL.out; show _ ≤ _; omega
      clear hx hy hka
      go_wp2_with (at_builtin; refine wpList_app okT rfl _ _ rfl _ _ _ (kys (xs.take k)) rfl hm.out (ho.keepsN (((Keeps.refl _ _).alloc _).alloc _)) _ _ _ [x] rfl rfl (fun h => by cases h) (own_one2 _ _ x).row (by have := HLen.out; simp [TE]; omega) (by have := HLen.out; simp; omega) ?_; intro o1 c1 w3 ho3 hap3)
      go_roundw
      case rel =>
        have k4 := hap3.new (w0 := w) hnw ((hkp.alloc _).alloc _)
        refine ⟨k + 1, _, by omega, by go_num, rfl, ?_⟩
        show Gives TE w (kys (xs.take (k + 1))) _ _
        rw [kys_take xs k (by have := HA.out; omega), ← HX.out]
        exact ⟨o1, _, c1, rfl, (show _ = _ by have := hm.out; simp; omega), ho3, k4.1, k4.2⟩
      case measure => simp [intOf] <;> omega
    · go_wp2_with fail
      go_ret
      have he : xs.take k = xs := List.take_of_length_le (by have := HA.out; omega)
      rw [he] at hm ho
      exact ⟨_, rfl, o, m, d, rfl, hm, ho, hnw, hkp⟩

/-- may these be the pairs of a request? -/
def valP (l : List Pr) : Bool := (l.all fun p => decide (p.2.size ≤ 65535)) && valK (kys l)
theorem valP_long {l : List Pr} {k : Nat} (hk : k < l.length) (h : 65535 < (l.getD k p0).2.size) : valP l = false := by
  have : (l.all fun p => decide (p.2.size ≤ 65535)) = false := by
    rw [List.all_eq_false]
    exact ⟨_, getD_mem_lt p0 hk, by simp at h ⊢; exact h⟩
  unfold valP; rw [this]; simp
theorem valP_of {l : List Pr} (h3 : ∀ j, j < l.length → (l.getD j p0).2.size ≤ 65535) : valP l = valK (kys l) := by
  have : (l.all fun p => decide (p.2.size ≤ 65535)) = true := by
    rw [List.all_eq_true]
    intro x hx
    obtain ⟨j, hj, rfl⟩ := List.getElem_of_mem hx
    have := h3 j hj
    simp [hj] at this
    simpa using this
  unfold valP; rw [this]; simp
theorem valP_size {l : List Pr} (h : valP l = true) : 1 ≤ l.length ∧ l.length ≤ 1024 := by
  unfold valP at h
  have := valK_size (by simp at h; exact h.2 : valK (kys l) = true)
  rwa [kys_length] at this

/-- no text of these is too long for a machine -/
def FitsP (l : List Pr) : Prop := ∀ p ∈ l, p.1.size ≤ maxLen ∧ p.2.size ≤ maxLen
theorem FitsP.keys {l : List Pr} (h : FitsP l) : ∀ x ∈ kys l, x.size ≤ maxLen := by
  intro x hx
  simp only [kys, List.mem_map] at hx
  obtain ⟨p, hp, rfl⟩ := hx
  exact (h p hp).1

set_option maxRecDepth 10000 in
theorem validPairs_any (w : World) (a : Option Addr) (n c : Nat) (xs : List Pr) (hn : n = xs.length) (hl : xs.length ≤ 40000) (hf : FitsP xs) (hs : Sl PE w a c xs) :
    Calls Tryz.prog 83 #[.slice a n c] w fun e w' => e = .returned (.bool (valP xs)) ∧ Keeps no w w' := by
  have HA : Hid (n = xs.length) := hn
  have hA : (n : Int) ≤ 40000 := by omega
  have HL : Hid (xs.length ≤ 40000) := hl
  have HZ : Hid (FitsP xs) := hf
  obtain ⟨R, hR⟩ : ∃ R, valP xs = R := ⟨_, rfl⟩
  have HR : Hid (valP xs = R) := hR
  rw [hR]
  by_cases h2 : 1024 < n
  · have hf : R = false := by
      rw [← hR]; cases e : valP xs with
      | false => rfl
      | true => have := valP_size e; omega
    have h2' : (1024 : Int) < n := by omega
    clear hR hn hl h2
    subst hf
    go_enter Tryz.func83, Tryz.ntmps83
    go_wp2_with fail
    go_ret
    exact ⟨rfl, Keeps.refl _ _⟩
  have h2' : ¬ (1024 : Int) < n := by omega
  clear hR hn hl hf h2
  go_enter Tryz.func83, Tryz.ntmps83
  go_wp2_with fail
  go_loopw [10] (fun i wr => ∃ k : Nat, k ≤ n ∧ i = .int .i64 k ∧ Hid (Keeps no w wr ∧ ∀ j, j < k → (xs.getD j p0).2.size ≤ 65535)) (fun i _ => n - (intOf i).toNat)
  case atStart => exact ⟨0, by omega, rfl, ⟨Keeps.refl _ _, fun j hj => absurd hj (Nat.not_lt_zero _)⟩⟩
  case round =>
    obtain ⟨k, hk, rfl, HT⟩ := hrel
    by_cases h2 : k < n
    · have hka : k < xs.length := by have := HA.out; omega
      obtain ⟨b1, off1, rfl, d1, d2⟩ := (hs.keepsN HT.out.1).atP hka
      obtain ⟨z, hz⟩ : ∃ z, z = (xs.getD k p0).1 := ⟨_, rfl⟩
      obtain ⟨x, hx⟩ : ∃ x, x = (xs.getD k p0).2 := ⟨_, rfl⟩
      rw [← hx] at d2
      rw [← hz] at d1
      have hxz : x.size ≤ 9223372036854775807 := by
        have := (HZ.out (xs.getD k p0) (getD_mem_lt _ hka)).2
        rw [← hx] at this
        unfold maxLen at this; omega
      have HX : Hid (x = (xs.getD k p0).2) := hx
      clear hx hka hz
      by_cases hlong : (65535 : Int) < x.size
      · go_wp2_with fail
        go_ret
        refine ⟨?_, HT.out.1.alloc _⟩
        have := valP_long (l := xs) (k := k) (by have := HA.out; omega) (by rw [← HX.out]; omega)
        rw [← HR.out, this]; rfl
      · go_wp2_with fail
        go_roundw
        case rel =>
          refine ⟨k + 1, by omega, by go_num, ⟨HT.out.1.alloc _, fun j hj => ?_⟩⟩
          by_cases e : j = k
          · subst e; rw [← HX.out]; omega
          · exact HT.out.2 j (by omega)
        case measure => simp [intOf] <;> omega
    · have hv : valP xs = valK (kys xs) := valP_of (fun j hj => HT.out.2 j (by have := HA.out; omega))
      rw [HR.out] at hv
      have HV : Hid (R = valK (kys xs)) := hv
      clear hv
      go_wp2_with fail
      refine (names_any wr a n c xs HA.out (by unfold Small; have := HL.out; omega) (hs.keepsN HT.out.1)).mono ?_
      rintro e w' ⟨v, rfl, o', m', d', rfl, hm', ho', hnw', hkp'⟩
      have hc := valid_any w' o' m' d' (kys xs) hm'.out (by unfold Small; rw [kys_length]; have := HL.out; omega) HZ.out.keys ho'.sl
      rw [← HV.out] at hc
      go_wp2_with fail
      refine hc.mono ?_
      rintro e w2 ⟨rfl, hkp2⟩
      go_wp2_with fail
      go_ret
      exact ⟨rfl, (HT.out.1.trans hkp').trans hkp2⟩
end Go.Proofs.YtjklpcamlppegaaGreat

/- The program's Size, the rest. -/
import Derived.Test.YtjklpcamlppegaaGreatN5
namespace Go.Proofs.YtjklpcamlppegaaGreat
open Go.RowKit Go.Sort Orl Pk
set_option linter.unusedVariables false
set_option linter.unusedSimpArgs false

theorem layW_snoc (l : List Wn) (k : Nat) (hk : k < l.length) : (layW (l.take (k + 1))).length = (layW (l.take k)).length + (4 + (l.getD k w0').1.size + 8) := by
  rw [take_succ_getD l k w0' hk]
  unfold layW layW1
  rw [List.flatMap_append, List.length_append]
  simp [txt_length, nats_length, num_length]
theorem layW_le (l : List Wn) (h : ∀ p ∈ l, p.1.size ≤ 65535) : ∀ k, k ≤ l.length → (layW (l.take k)).length ≤ k * 65547
  | 0, _ => by simp [layW]
  | k + 1, hk => by
    have := layW_le l h k (by omega)
    have h2 := layW_snoc l k (by omega)
    have h3 := h _ (getD_mem_lt w0' (show k < l.length by omega))
    rw [h2]; omega
set_option maxRecDepth 10000 in
theorem wantsSize_any (w : World) (a : Option Addr) (n c : Nat) (xs : List Wn) (hn : n = xs.length) (h1024 : xs.length ≤ 1024) (ht : ∀ p ∈ xs, p.1.size ≤ 65535) (hs : Sl WE w a c xs) :
    Calls Tryz.prog 26 #[.slice a n c] w fun e w' => e = .returned (.int .i64 ((4 + (layW xs).length : Nat) : Int)) ∧ Keeps no w w' := by
  have HN : Hid (n = xs.length) := hn
  have HT : Hid (∀ p ∈ xs, p.1.size ≤ 65535) := ht
  have hn2 : n ≤ 1024 := by omega
  clear hn ht
  go_enter Tryz.func26, Tryz.ntmps26
  go_wp2_with fail
  go_loopw [3, 8] (fun z i wr => ∃ k y : Nat, k ≤ n ∧ i = .int .i64 k ∧ z = .int .i64 (y : Nat) ∧ Hid (y = 4 + (layW (xs.take k)).length) ∧ y ≤ 140000000 ∧ Keeps no w wr) (fun _ i _ => n - (intOf i).toNat)
  case atStart => exact ⟨0, 4, by omega, rfl, rfl, show _ = _ by simp [layW], by omega, Keeps.refl _ _⟩
  case round =>
    obtain ⟨k, y, hk, rfl, rfl, HY, hy2, hkp⟩ := hrel
    by_cases h2 : k < n
    · have hks : k < xs.length := by have := HN.out; omega
      obtain ⟨b, off, rfl, c1, c2⟩ := (hs.keepsN hkp).atW hks
      have hsz := HT.out _ (getD_mem_lt w0' hks)
      have HS : Hid ((layW (xs.take (k + 1))).length = (layW (xs.take k)).length + (4 + (xs.getD k w0').1.size + 8) ∧ (layW (xs.take (k + 1))).length ≤ 134223872) := by
        refine ⟨layW_snoc xs k hks, ?_⟩
        have := layW_le xs HT.out (k + 1) (by omega)
        have : (k + 1) * 65547 ≤ 1024 * 65547 := Nat.mul_le_mul_right _ (by omega)
        omega
      generalize xs.getD k w0' = s at c1 c2 hsz HS
      obtain ⟨s1, s2⟩ := s
      simp only at c1 c2 hsz HS
      go_wp2_with fail
      refine (textSize_any s1 (by omega) _).mono ?_
      rintro e wq ⟨rfl, hwq⟩
      subst wq
      go_wp2
      go_roundw
      case rel =>
        have h1 := HS.out
        have h2 := HY.out
        exact ⟨k + 1, y + (4 + s1.size + 8), by omega, by go_num, by go_num, (by show _ = _; omega), by omega, hkp.alloc _⟩
      case measure => simp [intOf]; omega
    · have hkn : k = n := by omega
      go_wp2
      go_ret
      have e1 := HY.out
      rw [hkn, HN.out, List.take_length] at e1
      refine ⟨?_, hkp⟩
      show Ending.returned (.int .i64 ((y : Nat) : Int)) = _
      congr 2
      omega

theorem layV_len (v : Ver) : (layV v).length = 4 + v.key.size + 8 + (if v.id = 0 then 0 else 4 + v.val.size + (4 + bodyLen (natss v.keys))) := by
  unfold layV
  rw [List.length_append, List.length_append, txt_length, nats_length, num_length]
  split
  · simp
  · rw [List.length_append, txt_length, nats_length, txts_length]; omega
/-- what a version that may be holds -/
structure OkV (v : Ver) : Prop where
  key : v.key.size ≤ 65535
  val : v.val.size ≤ 65535
  keys : Txs v.keys
theorem mayV_ok {v : Ver} (h : mayV v = true) : OkV v := by
  unfold mayV at h
  split at h
  · simp only [Bool.and_eq_true, decide_eq_true_eq] at h
    obtain ⟨h1, h2, h3⟩ := h
    refine ⟨h1, by rw [h2]; decide, ?_⟩
    rw [len0 h3]
    exact ⟨by simp, fun s hs => by cases hs⟩
  · simp only [Bool.and_eq_true, decide_eq_true_eq] at h
    obtain ⟨h1, h2, h3, h4⟩ := h
    have hw : valK v.keys = true := by unfold wset at h3; simp at h3; exact h3.1
    obtain ⟨a, b, c⟩ := valK_all hw
    exact ⟨inn_size h4 c, h2, a, c⟩
set_option maxRecDepth 10000 in
theorem versionSize_any (w : World) (v : Ver) (key : Tx) (id : Nat) (val : Tx) (o : Option Addr) (n c : Nat) (h : VerOf w ⟨key, id, val, o, n, c⟩ v) (hf : OkV v) :
    Calls Tryz.prog 27 #[.agg #[.string key, .int .u64 (id : Nat), .string val, .slice o n c]] w fun e w' => e = .returned (.int .i64 ((layV v).length : Int)) ∧ Keeps no w w' := by
  obtain ⟨k', i', x', ks⟩ := v
  obtain ⟨h1, h2, h3, h4, h5⟩ := h
  simp only at h1 h2 h3 h4 h5
  subst h1 h2 h3
  have HL : Hid ((layV ⟨key, id, val, ks⟩).length = 4 + key.size + 8 + (if id = 0 then 0 else 4 + val.size + (4 + bodyLen (natss ks)))) := layV_len _
  obtain ⟨f1, f2, f3⟩ := hf
  simp only at f1 f2 f3
  have HN : Hid (n = ks.length) := h4
  have hnl : n ≤ 1024 := by have := f3.1; omega
  generalize hZ : (layV ⟨key, id, val, ks⟩).length = Z at HL
  have hk0 : Keeps no w (w.alloc (.cells #[.string key, .int .u64 (id : Nat), .string val, .slice o n c] 46)) := (Keeps.refl _ _).alloc _
  clear h4 hZ
  go_enter Tryz.func27, Tryz.ntmps27
  go_wp2_with fail
  refine (textSize_any key (by omega) _).mono ?_
  rintro e wq ⟨rfl, hwq⟩
  subst wq
  by_cases hi : id = 0
  · subst hi
    rw [if_pos rfl] at HL
    go_wp2
    go_ret
    refine ⟨?_, hk0⟩
    have := HL.out
    show Ending.returned (.int .i64 _) = _
    congr 2
    omega
  · have hi2 : ((id : Int) == 0) = false := by simp; omega
    have hi3 : ¬ ((id : Int) = 0) := by omega
    rw [if_neg hi] at HL
    have hb := f3.all
    have hK : Hid (∀ w', Keeps no w w' → Calls Tryz.prog 24 #[.slice o n c] w' fun e w'' => e = .returned (.int .i64 ((4 + bodyLen (natss ks) : Nat) : Int)) ∧ w'' = w') := fun w' hk => msgTextsSize_any w' o n c ks HN.out f3 (h5.keepsN hk)
    have hT : Hid (∀ w', Calls Tryz.prog 51 #[.string val] w' fun e w'' => e = .returned (.int .i64 ((4 + val.size : Nat) : Int)) ∧ w'' = w') := fun w' => textSize_any val (by omega) w'
    generalize bodyLen (natss ks) = BL at hb HL hK
    go_wp2_with fail
    go_quiet (first | (go_at_call 51; exact Calls.quiet_of_same (hT.out _)) | (go_at_call 24; exact Calls.quiet_of_same (hK.out _ (hk0.drewN _))))
    go_wp2
    go_ret
    refine ⟨?_, hk0.drewN _⟩
    have := HL.out
    show Ending.returned (.int .i64 _) = _
    congr 2
    omega

/-! ### Size -/
/-- which fields a kind has, with what it lays -/
theorem kinds (m : Msg) (h : mayF m = true) :
    (m.kind = 1 ∧ fId m.kind = true ∧ fKeys m.kind = true ∧ fPairs m.kind = true ∧ fWants m.kind = false ∧ fVers m.kind = false ∧ (valK m.keys = true ∧ valP m.pairs = true) ∧ layF m = num 8 m.id ++ (txts (natss m.keys) ++ (num 4 m.pairs.length ++ layP m.pairs))) ∨
    (plainK m.kind ∧ fId m.kind = true ∧ fKeys m.kind = false ∧ fPairs m.kind = false ∧ fWants m.kind = false ∧ fVers m.kind = false ∧ layF m = num 8 m.id) ∨
    (m.kind = 3 ∧ fId m.kind = false ∧ fKeys m.kind = true ∧ fPairs m.kind = false ∧ fWants m.kind = false ∧ fVers m.kind = false ∧ valK m.keys = true ∧ layF m = txts (natss m.keys)) ∨
    (m.kind = 4 ∧ fId m.kind = false ∧ fKeys m.kind = false ∧ fPairs m.kind = false ∧ fWants m.kind = true ∧ fVers m.kind = false ∧ mayW m.wants = true ∧ layF m = num 4 m.wants.length ++ layW m.wants) ∨
    (m.kind = 7 ∧ fId m.kind = false ∧ fKeys m.kind = false ∧ fPairs m.kind = false ∧ fWants m.kind = false ∧ fVers m.kind = true ∧ (m.vers.length = 1 ∧ mayV (m.vers.getD 0 v0) = true) ∧ layF m = layV (m.vers.getD 0 v0)) := by
  unfold mayF at h
  by_cases h1 : m.kind = 1
  · rw [if_pos h1] at h
    simp only [Bool.and_eq_true] at h
    obtain ⟨_, _, h4, h5⟩ := h
    refine .inl ⟨h1, ?_, ?_, ?_, ?_, ?_, ⟨?_, ?_⟩, ?_⟩
    all_goals first | (rw [h1]; rfl) | (unfold layF; rw [if_pos h1]) | (unfold wset at h4; simp at h4; exact h4.1) | (unfold mayP at h5; simp at h5; exact h5.1)
  rw [if_neg h1] at h
  by_cases h2 : plainK m.kind
  · refine .inr (.inl ⟨h2, ?_⟩)
    have hl : layF m = num 8 m.id := by
      unfold layF
      rw [if_neg h1, if_neg (by unfold plainK at h2; omega), if_neg (by unfold plainK at h2; omega), if_neg (by unfold plainK at h2; omega)]
    rw [hl]
    unfold plainK at h2
    rcases h2 with h2 | h2 | h2 | h2 <;> rw [h2] <;> exact ⟨rfl, rfl, rfl, rfl, rfl, rfl⟩
  rw [if_neg h2] at h
  by_cases h3 : m.kind = 3
  · rw [if_pos h3] at h
    simp only [Bool.and_eq_true] at h
    refine .inr (.inr (.inl ⟨h3, ?_, ?_, ?_, ?_, ?_, h.2.2, ?_⟩))
    all_goals first | (rw [h3]; rfl) | (unfold layF; rw [if_neg h1, if_pos h3])
  rw [if_neg h3] at h
  by_cases h4 : m.kind = 4
  · rw [if_pos h4] at h
    simp only [Bool.and_eq_true] at h
    refine .inr (.inr (.inr (.inl ⟨h4, ?_, ?_, ?_, ?_, ?_, h.2.2, ?_⟩)))
    all_goals first | (rw [h4]; rfl) | (unfold layF; rw [if_neg h1, if_neg h3, if_pos h4])
  rw [if_neg h4] at h
  by_cases h7 : m.kind = 7
  · rw [if_pos h7] at h
    simp only [Bool.and_eq_true, decide_eq_true_eq] at h
    refine .inr (.inr (.inr (.inr ⟨h7, ?_, ?_, ?_, ?_, ?_, h.2.2, ?_⟩)))
    all_goals first | (rw [h7]; rfl) | (unfold layF; rw [if_neg h1, if_neg h3, if_neg h4, if_pos h7])
  rw [if_neg h7] at h
  cases h
end Go.Proofs.YtjklpcamlppegaaGreat

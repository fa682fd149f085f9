/- The law's sorted. -/
import Derived.Test.YtdalheeifgampaaDoorD1
namespace Go.Proofs.YtdalheeifgampaaDoor
open Go.RowKit Go.Sort Orl Pk
set_option linter.unusedVariables false
set_option linter.unusedSimpArgs false

theorem ins_inc {L : List Tx} {x : Tx} {T : Nat} (h : Inc lts L) (hT : T ≤ L.length) (h1 : ∀ j, j < T → lts (L.getD j e0) x = true) (h2 : T < L.length → lts x (L.getD T e0) = true) : Inc lts (L.take T ++ [x] ++ L.drop T) := by
  have e : L = L.take T ++ L.drop T := (List.take_append_drop T L).symm
  have h' := h
  rw [e] at h'
  obtain ⟨hA, hB, hAB⟩ := List.pairwise_append.1 h'
  have hbig : ∀ y ∈ L.drop T, lts x y = true := by
    intro y hy
    by_cases hl : T < L.length
    · have hd : L.drop T = L.getD T e0 :: L.drop (T + 1) := by
        rw [List.drop_eq_getElem_cons hl]; simp [List.getD_eq_getElem?_getD, hl]
      rw [hd] at hB hy
      rcases List.mem_cons.1 hy with rfl | hy
      · exact h2 hl
      · exact swoT.trans _ _ _ (h2 hl) ((List.pairwise_cons.1 hB).1 y hy)
    · rw [List.drop_eq_nil_of_le (by omega)] at hy; cases hy
  have hsm : ∀ y ∈ L.take T, lts y x = true := by
    intro y hy
    obtain ⟨j, hj, rfl⟩ := List.getElem_of_mem hy
    rw [List.length_take] at hj
    have := h1 j (by omega)
    simpa [List.getD_eq_getElem?_getD, show j < L.length by omega] using this
  rw [List.append_assoc]
  refine List.pairwise_append.2 ⟨hA, ?_, ?_⟩
  · exact List.pairwise_cons.2 ⟨hbig, hB⟩
  · intro a ha b hb
    rcases List.mem_cons.1 hb with rfl | hb
    · exact hsm a ha
    · exact hAB a ha b hb
theorem ins_mem {L : List Tx} {x : Tx} {T : Nat} {P : Tx → Prop} (h : ∀ s ∈ L, P s) (hx : P x) : ∀ s ∈ L.take T ++ [x] ++ L.drop T, P s := by
  intro s hs
  rcases List.mem_append.1 hs with hs | hs
  · rcases List.mem_append.1 hs with hs | hs
    · exact h s (List.mem_of_mem_take hs)
    · rw [List.mem_singleton.1 hs]; exact hx
  · exact h s (List.mem_of_mem_drop hs)
/-- keys that may be those of a made record -/
structure Ks (L : List Tx) : Prop where
  inc : Inc lts L
  siz : ∀ s ∈ L, s.size ≤ 300
  few : L.length ≤ 40
theorem Ks.ins {L : List Tx} {x : Tx} {T : Nat} (h : Ks L) (h40 : L.length < 40) (hx : x.size ≤ 300) (hT : T ≤ L.length) (h1 : ∀ j, j < T → lts (L.getD j e0) x = true) (h2 : T < L.length → lts x (L.getD T e0) = true) : Ks (L.take T ++ [x] ++ L.drop T) :=
  ⟨ins_inc h.inc hT h1 h2, ins_mem h.siz hx, by simp only [List.length_append, List.length_take, List.length_drop, List.length_cons, List.length_nil]; omega⟩
theorem own_oneT (w : World) (x : Tx) : Sl TE (w.alloc (.cells #[.string x] 9)) (some ⟨w.heap.size, 0, none⟩) 1 [x] := by
  refine ⟨.inr ⟨_, _, rfl, fun j u hj => ?_⟩, by simp, fun e => by cases e⟩
  rw [cell_of_blk (blk_new w _), Nat.zero_add]
  simpa [El.cells, TE] using hj

/-- sorted keys, of the call's own -/
def Srt (w w' : World) (q : Option Addr) (m d : Nat) (L : List Tx) : Prop := m = L.length ∧ Own TE w' q d L ∧ New w q ∧ Ks L ∧ Keeps no w w'
def SrtIn (w w' : World) (q : Option Addr) (m d : Nat) : Prop := ∃ L, Srt w w' q m d L
def SortTo (w : World) (e : Ending) (w' : World) : Prop := ∃ o m d, e = .returned (.slice o m d) ∧ (m : Int) ≤ 40 ∧ SrtIn w w' o m d

set_option maxRecDepth 10000 in
set_option maxHeartbeats 2000000 in
theorem sorted_any (w : World) (a : Option Addr) (n c : Nat) (xs : List Tx) (hn : n = xs.length) (hnb : (n : Int) ≤ 8796093022000) (hs : Sl TE w a c xs) (hf : ∀ s ∈ xs, s.size ≤ 140737488351232) :
    Calls Tryd.prog 22 #[.slice a n c, .int .i64 40] w (SortTo w) := by
  have HN : Hid (n = xs.length) := hn
  clear hn
  go_enter Tryd.func22, Tryd.ntmps22
  go_wp2_with fail
  go_loopw [5, 6] (fun s i wr => ∃ (q : Option Addr) (m d I : Nat), s = .slice q m d ∧ i = .int .i64 (I : Nat) ∧ I ≤ n ∧ (m : Int) ≤ 40 ∧ SrtIn w wr q m d) (fun _ i _ => n - (intOf i).toNat)
  case atStart => exact ⟨none, 0, 0, 0, rfl, rfl, by omega, by omega, [], ⟨rfl, own_nil _, new_none _, ⟨List.Pairwise.nil, fun s hs => (by cases hs), by simp⟩, Keeps.refl _ _⟩⟩
  case round =>
    rename World => wq
    obtain ⟨q, m, d, I, rfl, rfl, hI, hm, L, hL⟩ := hrel
    have HL : Hid (m = L.length ∧ Own TE wq q d L ∧ New w q ∧ Ks L ∧ Keeps no w wq) := hL
    clear hL
    by_cases hIn : I < n
    · have hIi : (I : Int) < n := by omega
      by_cases hm40 : m < 40
      · have hm40' : (m : Int) < 40 := by omega
        have hks : I < xs.length := by have := HN.out; omega
        have hsz := hf _ (getD_mem_lt e0 hks)
        obtain ⟨b, off, rfl, d1⟩ := (hs.keepsN HL.out.2.2.2.2).at hks
        generalize xs.getD I e0 = s at d1 hsz
        go_upto_if 28 with fail
        go_cut [7] from 29 to 70 (fun v wc => ∃ x : Tx, v = .string x ∧ x.size ≤ 300 ∧ wc = wq)
        case first =>
          by_cases hs3 : 300 < s.size
          · have hs3' : (s.size : Int) > 300 := by omega
            have hs4 : (300 : Int) ≤ s.size := by omega
            clear hs3
            go_wp2_with fail
            go_meet
            case rel => exact ⟨_, rfl, by simp [ByteArray.size_extract]; omega, rfl⟩
          · have hs3' : ¬ (s.size : Int) > 300 := by omega
            clear hs3
            go_wp2_with fail
            go_meet
            case rel => exact ⟨_, rfl, by omega, rfl⟩
        case rest =>
        obtain ⟨x, rfl, hx, rfl⟩ := hcut
        rename World => wq
        clear d1 hsz
        go_wp2_with fail
        go_loop [8] (fun t => ∃ T : Nat, t = .int .i64 (T : Nat) ∧ T ≤ m ∧ Hid (∀ j, j < T → lts (L.getD j e0) x = true)) (fun t => m - (intOf t).toNat)
        case atStart => exact ⟨0, rfl, by omega, fun j hj => absurd hj (Nat.not_lt_zero _)⟩
        case round =>
          obtain ⟨T, rfl, hT, HT⟩ := hrel
          obtain ⟨hcH, hslH⟩ := cutT_h wq q d L m T (T : Nat) rfl HL.out.1 hT HL.out.2.1.sl
          obtain ⟨A, dA, hcL, hslL, hsub⟩ := cutT_l wq q d L m T (T : Nat) rfl HL.out.1 hT HL.out.2.1.sl
          have HSL : Hid (Sl TE wq q d (L.take T) ∧ Sl TE wq A dA (L.drop T) ∧ SubO q A) := ⟨hslH, hslL, hsub⟩
          clear hslH hslL hsub
          by_cases hTm : T < m
          · have hTm' : (T : Int) < m := by omega
            have hTL : T < L.length := by have := HL.out.1; omega
            obtain ⟨b2, off2, rfl, d2⟩ := HL.out.2.1.sl.at hTL
            obtain ⟨y, hy⟩ : ∃ y, y = L.getD T e0 := ⟨_, rfl⟩
            rw [← hy] at d2
            have HY : Hid (y = L.getD T e0) := hy
            clear hy hTL
            cases hyx : Op.bytesLess y.toList x.toList
            · cases heq : (y.toList == x.toList)
              · have HX2 : Hid (T < L.length → lts x (L.getD T e0) = true) := by
                  intro _
                  rw [← HY.out]
                  cases hlt : lts x y
                  · have h3 := triT y x hyx hlt
                    rw [tx_eq, decide_eq_false_iff_not] at heq
                    exact absurd h3 heq
                  · rfl
                have hmT : ((m - T : Nat) : Int) ≤ 40 := by omega
                have hT40 : (T : Int) ≤ 40 := by omega
                have HLN : Hid ((L.take T).length = T ∧ (L.drop T).length = m - T ∧ L.length ≤ 40) := ⟨by rw [List.length_take, ← HL.out.1]; omega, by rw [List.length_drop, ← HL.out.1], HL.out.2.2.2.1.few⟩
                obtain ⟨mT, hmTe⟩ : ∃ k, k = m - T := ⟨_, rfl⟩
                rw [← hmTe] at hcL hmT HLN
                have HMT : Hid (mT = m - T) := hmTe
                clear hmTe
                go_wp2_with (at_builtin; first | (refine wpList_app okT rfl _ _ rfl none 0 0 [] rfl rfl (own_nil wq) _ T _ (L.take T) rfl HLN.out.1.symm HSL.out.1.nil HSL.out.1.row (by have := HLN.out; simp [TE]; omega) (by have := HLN.out; simp; omega) ?_; intro o1 c1 w1 ho1 hap1; have HO1 : Hid (Own TE w1 o1 c1 (L.take T)) := ho1; have HA1 : Hid (New w o1 ∧ Keeps no w w1 ∧ Keeps no wq w1 ∧ New wq o1) := ⟨(hap1.new (new_none w) HL.out.2.2.2.2).1, (hap1.new (new_none w) HL.out.2.2.2.2).2, (hap1.new (new_none wq) (Keeps.refl no wq)).2, (hap1.new (new_none wq) (Keeps.refl no wq)).1⟩; clear ho1 hap1) | (refine wpList_app okT rfl _ _ rfl o1 _ c1 (L.take T) rfl (by first | exact HLN.out.1.symm | (have := HLN.out.1; omega)) (HO1.out.keepsN ((Keeps.refl no w1).alloc _)) _ _ _ [x] rfl rfl (fun h => by cases h) (own_oneT w1 x).row (by have := HLN.out; simp [TE]; omega) (by have := HLN.out; simp; omega) ?_; intro o2 c2 w2 ho2 hap2; have HO2 : Hid (Own TE w2 o2 c2 (L.take T ++ [x])) := ho2; have HA2 : Hid (New w o2 ∧ Keeps no w w2) := hap2.new HA1.out.1 (HA1.out.2.1.alloc _); have HA2q : Hid (Keeps no wq w2) := (hap2.new (w0 := wq) HA1.out.2.2.2 (HA1.out.2.2.1.alloc _)).2; clear ho2 hap2) | (refine wpList_app okT rfl _ _ rfl o2 _ c2 (L.take T ++ [x]) rfl (by rw [List.length_append, HLN.out.1]; first | rfl | (simp; omega)) HO2.out A mT dA (L.drop T) rfl HLN.out.2.1.symm HSL.out.2.1.nil (HSL.out.2.1.keepsN HA2q.out).row (by have := HLN.out; simp [TE]; omega) (by have := HLN.out; simp; omega) ?_; intro o3 c3 w3 ho3 hap3; have HO3 : Hid (Own TE w3 o3 c3 (L.take T ++ [x] ++ L.drop T)) := ho3; have HA3 : Hid (New w o3 ∧ Keeps no w w3) := hap3.new HA2.out.1 HA2.out.2; clear ho3 hap3))
                go_roundw
                case rel =>
                  refine ⟨o3, T + 1 + mT, c3, I + 1, rfl, by go_num, by omega, by have := HMT.out; omega, L.take T ++ [x] ++ L.drop T, ⟨?_, HO3.out, HA3.out.1, HL.out.2.2.2.1.ins (by have := HL.out.1; omega) hx (by have := HL.out.1; omega) HT.out HX2.out, HA3.out.2⟩⟩
                  have := HLN.out
                  simp only [List.length_append, List.length_cons, List.length_nil]; omega
                case measure => simp [intOf]; omega
              · go_wp2_with fail
                go_roundw
                case rel => exact ⟨_, m, d, I + 1, rfl, by go_num, by omega, hm, L, HL.out⟩
                case measure => simp [intOf]; omega
            · go_wp2_with fail
              go_round
              case rel =>
                refine ⟨T + 1, by go_num, by omega, fun j hj => ?_⟩
                by_cases e : j = T
                · subst e; rw [← HY.out]; exact hyx
                · exact HT.out j (by omega)
              case measure => simp [intOf]; omega
          · have hTm' : ¬ (T : Int) < m := by omega
            have HX2 : Hid (T < L.length → lts x (L.getD T e0) = true) := fun h => by have := HL.out.1; omega
            have hmT : ((m - T : Nat) : Int) ≤ 40 := by omega
            have hT40 : (T : Int) ≤ 40 := by omega
            have HLN : Hid ((L.take T).length = T ∧ (L.drop T).length = m - T ∧ L.length ≤ 40) := ⟨by rw [List.length_take, ← HL.out.1]; omega, by rw [List.length_drop, ← HL.out.1], HL.out.2.2.2.1.few⟩
            obtain ⟨mT, hmTe⟩ : ∃ k, k = m - T := ⟨_, rfl⟩
            rw [← hmTe] at hcL hmT HLN
            have HMT : Hid (mT = m - T) := hmTe
            clear hmTe
            go_wp2_with (at_builtin; first | (refine wpList_app okT rfl _ _ rfl none 0 0 [] rfl rfl (own_nil wq) _ T _ (L.take T) rfl HLN.out.1.symm HSL.out.1.nil HSL.out.1.row (by have := HLN.out; simp [TE]; omega) (by have := HLN.out; simp; omega) ?_; intro o1 c1 w1 ho1 hap1; have HO1 : Hid (Own TE w1 o1 c1 (L.take T)) := ho1; have HA1 : Hid (New w o1 ∧ Keeps no w w1 ∧ Keeps no wq w1 ∧ New wq o1) := ⟨(hap1.new (new_none w) HL.out.2.2.2.2).1, (hap1.new (new_none w) HL.out.2.2.2.2).2, (hap1.new (new_none wq) (Keeps.refl no wq)).2, (hap1.new (new_none wq) (Keeps.refl no wq)).1⟩; clear ho1 hap1) | (refine wpList_app okT rfl _ _ rfl o1 _ c1 (L.take T) rfl (by first | exact HLN.out.1.symm | (have := HLN.out.1; omega)) (HO1.out.keepsN ((Keeps.refl no w1).alloc _)) _ _ _ [x] rfl rfl (fun h => by cases h) (own_oneT w1 x).row (by have := HLN.out; simp [TE]; omega) (by have := HLN.out; simp; omega) ?_; intro o2 c2 w2 ho2 hap2; have HO2 : Hid (Own TE w2 o2 c2 (L.take T ++ [x])) := ho2; have HA2 : Hid (New w o2 ∧ Keeps no w w2) := hap2.new HA1.out.1 (HA1.out.2.1.alloc _); have HA2q : Hid (Keeps no wq w2) := (hap2.new (w0 := wq) HA1.out.2.2.2 (HA1.out.2.2.1.alloc _)).2; clear ho2 hap2) | (refine wpList_app okT rfl _ _ rfl o2 _ c2 (L.take T ++ [x]) rfl (by rw [List.length_append, HLN.out.1]; first | rfl | (simp; omega)) HO2.out A mT dA (L.drop T) rfl HLN.out.2.1.symm HSL.out.2.1.nil (HSL.out.2.1.keepsN HA2q.out).row (by have := HLN.out; simp [TE]; omega) (by have := HLN.out; simp; omega) ?_; intro o3 c3 w3 ho3 hap3; have HO3 : Hid (Own TE w3 o3 c3 (L.take T ++ [x] ++ L.drop T)) := ho3; have HA3 : Hid (New w o3 ∧ Keeps no w w3) := hap3.new HA2.out.1 HA2.out.2; clear ho3 hap3))
            go_roundw
            case rel =>
              refine ⟨o3, T + 1 + mT, c3, I + 1, rfl, by go_num, by omega, by have := HMT.out; omega, L.take T ++ [x] ++ L.drop T, ⟨?_, HO3.out, HA3.out.1, HL.out.2.2.2.1.ins (by have := HL.out.1; omega) hx (by have := HL.out.1; omega) HT.out HX2.out, HA3.out.2⟩⟩
              have := HLN.out
              simp only [List.length_append, List.length_cons, List.length_nil]; omega
            case measure => simp [intOf]; omega
      · have hm40' : ¬ (m : Int) < 40 := by omega
        go_wp2_with fail
        go_ret
        exact ⟨q, m, d, rfl, hm, L, HL.out⟩
    · have hIi : ¬ (I : Int) < n := by omega
      go_wp2_with fail
      go_ret
      exact ⟨q, m, d, rfl, hm, L, HL.out⟩
end Go.Proofs.YtdalheeifgampaaDoor

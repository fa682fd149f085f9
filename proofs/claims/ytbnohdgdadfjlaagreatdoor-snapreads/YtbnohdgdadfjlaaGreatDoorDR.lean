import Derived.Test.YtbnohdgdadfjlaaGreatDoorDB
import Derived.Test.YtbnohdgdadfjlaaGreatDoorPc
/- The document's reader. -/
namespace Go.Proofs.YtbnohdgdadfjlaaGreatDoor
open Go.RowKit Go.Sort Orl Pk Go.Maps
set_option linter.unusedVariables false
set_option linter.unusedSimpArgs false

/-- bytes left, spoilt -/
abbrev DS := List Nat × Bool
def dtake (k : Nat) (st : DS) : List Nat × DS := if st.2 = true ∨ st.1.length < k then ([], (st.1, true)) else (st.1.take k, (st.1.drop k, false))
def dnum (k : Nat) (st : DS) : Nat × DS := (val (dtake k st).1, (dtake k st).2)
def dtxt (st : DS) : List Nat × DS := dtake (dnum 4 st).1 (dnum 4 st).2
theorem BSl.any {w w' : World} {o : Option Addr} {c : Nat} (h : BSl w o c []) : BSl w' o c [] := ⟨⟨by simp, by simp, .inl rfl⟩, h.cap, h.nil⟩
theorem BSl.lt {w : World} {o : Option Addr} {c : Nat} {bs : List Nat} (h : BSl w o c bs) (hb : bs ≠ []) : ∀ k, inO o k → k < w.heap.size := by
  rintro k ⟨x, rfl, rfl⟩
  rcases h.row.2.2 with e | ⟨b, off, e, hc⟩
  · exact absurd e hb
  · cases e
    exact World.block_lt_of_cell? w _ (hc 0 (List.length_pos_iff.2 hb))
/-- a reader at a: what is left lies in blocks below m -/
structure DRd (m : Nat) (w : World) (a : Nat) (st : DS) : Prop where
  is : ∃ o c, w.heap[a]? = some (.cells #[.slice o st.1.length c, .bool st.2] 189 (0, 0)) ∧ BSl w o c st.1 ∧ (st.1 ≠ [] → ∀ k, inO o k → k < m)
  le : m ≤ a
  lid : st.1.length ≤ 140737488355328
  byt : ∀ c ∈ st.1, c < 256
theorem DRd.keeps {S : Nat → Prop} {m : Nat} {w w' : World} {a : Nat} {st : DS} (h : DRd m w a st) (hk : Keeps S w w') (hS : ∀ k, k < m ∨ k = a → ¬ S k) : DRd m w' a st := by
  obtain ⟨⟨o, c, h1, h2, h3⟩, h4, h5, h6⟩ := h
  refine ⟨⟨o, c, hk.at h1 (hS a (.inr rfl)), ?_, h3⟩, h4, h5, h6⟩
  by_cases e : st.1 = []
  · rw [e] at h2 ⊢; exact h2.any
  · exact h2.keeps hk (fun k hk' => hS k (.inl (h3 e k hk')))
theorem DRd.go {m : Nat} {w w' : World} {a : Nat} {st : DS} (h : DRd m w a st) (hk : Keeps no w w') : DRd m w' a st := h.keeps hk (fun _ _ => id)
set_option maxRecDepth 10000 in
theorem dTake_any {m : Nat} {w : World} {a : Nat} {st : DS} (h : DRd m w a st) (k : Nat) (hk : k < 4611686018427387904) :
    Calls Tryz.prog 120 #[.pointer (some ⟨a, 0, none⟩), .int .i64 ((k : Nat) : Int)] w fun e w' => ∃ o n c, e = .returned (.slice o n c) ∧ Hid (n = (dtake k st).1.length ∧ BSl w' o c (dtake k st).1 ∧ DRd m w' a (dtake k st).2 ∧ Keeps (fun b => b = a) w w') := by
  have H := h
  obtain ⟨⟨o, c, h1, h2, h3⟩, h4, h5, h6⟩ := h
  obtain ⟨bs, bad⟩ := st
  simp only at h1 h2 h3 h5 h6
  have c0 := cell_of_blk h1 0
  have c1 := cell_of_blk h1 1
  simp only [List.getElem?_toArray, List.getElem?_cons_succ, List.getElem?_cons_zero] at c0 c1
  have f0 := frozen_of_blk h1 0
  have f1 := frozen_of_blk h1 1
  obtain ⟨n, hn⟩ : ∃ n, n = bs.length := ⟨_, rfl⟩
  have hnb : (n : Int) ≤ 140737488355328 := by omega
  rw [← hn] at h1 c0
  have HB : Hid (w.heap[a]? = some (.cells #[.slice o n c, .bool bad] 189 (0, 0)) ∧ BSl w o c bs ∧ (bs ≠ [] → ∀ k, inO o k → k < m) ∧ m ≤ a ∧ bs.length ≤ 140737488355328 ∧ (∀ c ∈ bs, c < 256) ∧ n = bs.length) := ⟨h1, h2, h3, h4, h5, h6, hn⟩
  have hk0 : ¬ (k : Int) < 0 := by omega
  have HBad : Hid (bad = true ∨ bs.length < k → ∃ o' n' c', Ending.returned (.slice none 0 0) = .returned (.slice o' n' c') ∧ Hid (n' = (dtake k (bs, bad)).1.length ∧ BSl (w.setCell ⟨a, 1, none⟩ (.bool true)) o' c' (dtake k (bs, bad)).1 ∧ DRd m (w.setCell ⟨a, 1, none⟩ (.bool true)) a (dtake k (bs, bad)).2 ∧ Keeps (fun b => b = a) w (w.setCell ⟨a, 1, none⟩ (.bool true)))) := fun hc => by
    have e : dtake k (bs, bad) = ([], (bs, true)) := by unfold dtake; rw [if_pos hc]
    rw [e]
    have hk9 : Keeps (fun b => b = a) w (w.setCell ⟨a, 1, none⟩ (.bool true)) := keeps_set _ _ _ _
    refine ⟨none, 0, 0, rfl, rfl, ⟨⟨by simp, by simp, .inl rfl⟩, by simp, fun _ => rfl⟩, ⟨⟨o, c, ?_, ?_, HB.out.2.2.1⟩, HB.out.2.2.2.1, HB.out.2.2.2.2.1, HB.out.2.2.2.2.2.1⟩, hk9⟩
    · have := blk_set HB.out.1 1 (.bool true)
      rw [HB.out.2.2.2.2.2.2] at this
      exact this
    · by_cases eb : bs = []
      · rw [eb]; have := HB.out.2.1; rw [eb] at this; exact this.any
      · exact HB.out.2.1.keeps hk9 (fun b hb e => by have h9 := HB.out.2.2.1 eb b hb; have := HB.out.2.2.2.1; have e : b = a := e; omega)
  by_cases hbad : bad = true
  · have HF := HBad.out (.inl hbad)
    subst hbad
    have HF' : Hid (∃ o' n' c', Ending.returned (.slice none 0 0) = .returned (.slice o' n' c') ∧ Hid (n' = (dtake k (bs, true)).1.length ∧ BSl (w.setCell ⟨a, 1, none⟩ (.bool true)) o' c' (dtake k (bs, true)).1 ∧ DRd m (w.setCell ⟨a, 1, none⟩ (.bool true)) a (dtake k (bs, true)).2 ∧ Keeps (fun b => b = a) w (w.setCell ⟨a, 1, none⟩ (.bool true)))) := HF
    clear HF HBad H h1 h2 h3 h4 h5 h6 hn
    go_enter Tryz.func120, Tryz.ntmps120
    go_wp2_with fail
    go_ret
    exact HF'.out
  · have hbf : bad = false := by simpa using hbad
    subst hbf
    by_cases hlt : n < k
    · have hlt' : (k : Int) > n := by omega
      have HF' : Hid (∃ o' n' c', Ending.returned (.slice none 0 0) = .returned (.slice o' n' c') ∧ Hid (n' = (dtake k (bs, false)).1.length ∧ BSl (w.setCell ⟨a, 1, none⟩ (.bool true)) o' c' (dtake k (bs, false)).1 ∧ DRd m (w.setCell ⟨a, 1, none⟩ (.bool true)) a (dtake k (bs, false)).2 ∧ Keeps (fun b => b = a) w (w.setCell ⟨a, 1, none⟩ (.bool true)))) := HBad.out (.inr (by omega))
      clear HBad H h1 h2 h3 h4 h5 h6 hn
      go_enter Tryz.func120, Tryz.ntmps120
      go_wp2_with fail
      go_ret
      exact HF'.out
    · have hlt' : ¬ (k : Int) > n := by omega
      obtain ⟨A, d, hcutA, hslA, hsubA⟩ := cut_h w o c bs n k k rfl hn (by omega) h2
      obtain ⟨A2, d2, hcutB, hslB, hsubB⟩ := cut_l w o c bs n k k rfl hn (by omega) h2
      have HE : Hid (dtake k (bs, false) = (bs.take k, (bs.drop k, false))) := (show _ = _ by unfold dtake; rw [if_neg (by simp; omega)])
      have HC : Hid (BSl w A d (bs.take k) ∧ BSub o A ∧ BSl w A2 d2 (bs.drop k) ∧ BSub o A2 ∧ k ≤ n) := ⟨hslA, hsubA, hslB, hsubB, by omega⟩
      clear HBad H h1 h2 h3 h4 h5 h6 hn hslA hsubA hslB hsubB hbad
      go_enter Tryz.func120, Tryz.ntmps120
      go_wp2_with fail
      go_ret
      have hk9 : Keeps (fun b => b = a) w (w.setCell ⟨a, 0, none⟩ (.slice A2 (n - k) d2)) := keeps_set _ _ _ _
      have hin : ∀ (B : Option Addr), BSub o B → bs ≠ [] → ∀ b, inO B b → b < m := fun B hB hb b hi => HB.out.2.2.1 hb b (by obtain ⟨x, hx, rfl⟩ := hi; obtain ⟨y, hy, e⟩ := hB x hx; exact ⟨y, hy, e.symm⟩)
      have hkp : ∀ (B : Option Addr) (dd : Nat) (l : List Nat), BSub o B → (bs = [] → l = []) → BSl w B dd l → BSl (w.setCell ⟨a, 0, none⟩ (.slice A2 (n - k) d2)) B dd l := fun B dd l hB hl hs => by
        by_cases eb : bs = []
        · rw [hl eb] at hs ⊢; exact hs.any
        · exact hs.keeps hk9 (fun b hb e => by have h9 := hin B hB eb b hb; have := HB.out.2.2.2.1; have e : b = a := e; omega)
      rw [HE.out]
      refine ⟨A, k, d, rfl, by simp only; rw [List.length_take, ← HB.out.2.2.2.2.2.2]; have := HC.out.2.2.2.2; omega, hkp A d _ HC.out.2.1 (fun e => by rw [e]; simp) HC.out.1, ⟨⟨A2, d2, ?_, hkp A2 d2 _ HC.out.2.2.2.1 (fun e => by rw [e]; simp) HC.out.2.2.1, fun hne => hin A2 HC.out.2.2.2.1 (fun e => hne (by simp [e]))⟩, HB.out.2.2.2.1, by simp only; rw [List.length_drop]; have := HB.out.2.2.2.2.1; omega, fun c hc => HB.out.2.2.2.2.2.1 c (List.mem_of_mem_drop hc)⟩, hk9⟩
      have := blk_set HB.out.1 0 (.slice A2 (n - k) d2)
      simp only [List.length_drop, ← HB.out.2.2.2.2.2.2]
      exact this
theorem dtake_le (k : Nat) (st : DS) : (dtake k st).1.length ≤ k ∧ (dtake k st).2.1.length ≤ st.1.length := by
  unfold dtake
  split
  · simp
  · simp [List.length_take, List.length_drop]; omega
theorem dtake_byt (k : Nat) (st : DS) (h : ∀ c ∈ st.1, c < 256) : ∀ c ∈ (dtake k st).1, c < 256 := by
  unfold dtake
  split
  · simp
  · exact fun c hc => h c (List.mem_of_mem_take hc)
theorem pow8 (k : Nat) (hk : k < 8) : 256 ^ k ≤ 72057594037927936 := by
  have : 256 ^ k ≤ 256 ^ 7 := Nat.pow_le_pow_right (by decide) (by omega)
  exact this
set_option maxRecDepth 10000 in
theorem dNum_any {m : Nat} {w : World} {a : Nat} {st : DS} (h : DRd m w a st) (k : Nat) (hk : k ≤ 8) :
    Calls Tryz.prog 121 #[.pointer (some ⟨a, 0, none⟩), .int .i64 ((k : Nat) : Int)] w fun e w' => ∃ v : Nat, e = .returned (.int .u64 ((v : Nat) : Int)) ∧ Hid (v = (dnum k st).1 ∧ v < 256 ^ k ∧ DRd m w' a (dnum k st).2 ∧ Keeps (fun b => b = a) w w') := by
  have HT := dTake_any h k (by omega)
  have HY : Hid (∀ c ∈ (dtake k st).1, c < 256) := dtake_byt k st h.byt
  have HL : Hid ((dtake k st).1.length ≤ k) := (dtake_le k st).1
  clear h
  go_enter Tryz.func121, Tryz.ntmps121
  go_wp2_with fail
  refine HT.mono ?_
  rintro e w1 ⟨o, n, c, rfl, H1⟩
  clear HT
  obtain ⟨x, hx⟩ : ∃ x, x = (dtake k st).1 := ⟨_, rfl⟩
  have HX : Hid (x = (dtake k st).1) := hx
  rw [← hx] at HY HL
  have hx1 : Hid (n = x.length ∧ BSl w1 o c x) := by rw [hx]; exact ⟨H1.out.1, H1.out.2.1⟩
  clear hx
  have hn8 : (n : Int) ≤ 8 := by have := HL.out; have := hx1.out.1; omega
  go_wp2_with fail
  go_loop [6, 7] (fun v i => ∃ j : Nat, j ≤ n ∧ i = .int .i64 j ∧ v = .int .u64 ((val (x.take j) : Nat) : Int)) (fun _ i => n - (intOf i).toNat)
  case atStart => exact ⟨0, by omega, rfl, by simp [val]⟩
  case round =>
    obtain ⟨j, hj, rfl, rfl⟩ := hrel
    by_cases hlt : j < n
    · have hlt' : (j : Int) < n := by omega
      have hjx : j < x.length := by have := hx1.out.1; omega
      have hvl := val_take_lt x HY.out j (by omega)
      have hp := pow8 j (by omega)
      have hsn := val_snoc x j hjx
      have hc8 := getD_lt x HY.out j hjx
      rcases hx1.out.2.row.2.2 with h0 | ⟨b, off, e1, hc⟩
      · rw [h0] at hjx; simp at hjx
      have hcell := hc j hjx
      obtain ⟨r, hr⟩ : ∃ r, r = val (x.take j) := ⟨_, rfl⟩
      obtain ⟨y, hy⟩ : ∃ y, y = x.getD j 0 := ⟨_, rfl⟩
      rw [← hr] at hvl hsn ⊢
      rw [← hy] at hsn hc8 hcell
      have HOR : Hid (bits .or .u64 ((r : Int) * 256) (IntKind.u64.wrap (y : Int)) = ((r * 256 + y : Nat) : Int)) := (show _ = _ by
        have hw : IntKind.u64.wrap (y : Int) = (y : Int) := by unfold IntKind.wrap; simp [IntKind.signed, IntKind.bits]; omega
        rw [hw]; exact or_num r y (by omega) hc8)
      have hr64 : (r : Int) * 256 % 18446744073709551616 = (r : Int) * 256 := by omega
      have HS : Hid (val (x.take (j + 1)) = r * 256 + y) := hsn
      clear hvl hp hsn hc8 hr hy hc hjx
      subst e1
      go_wp2_with fail
      go_round
      case rel => exact ⟨j + 1, by omega, by go_num, by rw [HS.out, HOR.out]⟩
      case measure => simp [intOf]; omega
    · have hlt' : ¬ (j : Int) < n := by omega
      go_wp2_with fail
      go_ret
      refine ⟨val x, ?_, by rw [HX.out]; rfl, ?_, H1.out.2.2.1, H1.out.2.2.2⟩
      · rw [List.take_of_length_le (by have := hx1.out.1; omega)]; rfl
      · have := val_lt x HY.out
        exact Nat.lt_of_lt_of_le this (Nat.pow_le_pow_right (by decide) HL.out)
set_option maxRecDepth 10000 in
theorem dTxt_any {m : Nat} {w : World} {a : Nat} {st : DS} (h : DRd m w a st) :
    Calls Tryz.prog 122 #[.pointer (some ⟨a, 0, none⟩)] w fun e w' => ∃ t : Tx, e = .returned (.string t) ∧ Hid (t = text (dtxt st).1 ∧ DRd m w' a (dtxt st).2 ∧ Keeps (fun b => b = a) w w') := by
  have HH : Hid (DRd m w a st) := h
  clear h
  go_enter Tryz.func122, Tryz.ntmps122
  go_wp2_with fail
  refine (dNum_any HH.out 4 (by omega)).mono ?_
  rintro e w1 ⟨v, rfl, H1⟩
  have hv : (v : Int) < 4294967296 := by have := H1.out.2.1; omega
  go_wp2_with fail
  refine (dTake_any H1.out.2.2.1 v (by omega)).mono ?_
  rintro e w2 ⟨o, n, c, rfl, H2⟩
  have ht := run_text w2 o (dtake v (dnum 4 st).2).1 n c H2.out.1 H2.out.2.1.row
  have HT : Hid (dtxt st = dtake v (dnum 4 st).2) := (show _ = _ by unfold dtxt; rw [← H1.out.1])
  generalize hT : text (dtake v (dnum 4 st).2).1 = T at ht
  have HT2 : Hid (text (dtake v (dnum 4 st).2).1 = T) := hT
  clear hT
  go_wp2_with fail
  go_ret
  refine ⟨T, rfl, by rw [HT.out]; exact HT2.out.symm, by rw [HT.out]; exact H2.out.2.2.1, H1.out.2.2.2.trans H2.out.2.2.2⟩
end Go.Proofs.YtbnohdgdadfjlaaGreatDoor

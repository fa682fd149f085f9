import Derived.Test.YtdemoghlibnooaaGreatDoorA1
import Derived.Test.YtdemoghlibnooaaGreatDoorCm
import Derived.Test.YtdemoghlibnooaaGreatDoorA0
import Derived.WalkLawsBesides
import Derived.WalkSpells
import Derived.Laws.BitsAllLaws
namespace Go.Proofs.YtdemoghlibnooaaGreatDoor
open Pk Orl Go.Sort
set_option linter.unusedVariables false
set_option linter.unusedSimpArgs false
def rmany {α : Type} (f : RS → α × RS) : Nat → RS → List α × RS
  | 0, st => ([], st)
  | n + 1, st => ((rmany f n st).1 ++ [(f (rmany f n st).2).1], (f (rmany f n st).2).2)
def rkeys (st : RS) : List Tx × RS := ((rtexts 1024 65535 st).1.map text, (rtexts 1024 65535 st).2)
def rend0 (st : RS) : Bool := decide (st.2 = 0 ∧ st.1 = [])
theorem len0 {α : Type} {l : List α} (h : l.length = 0) : l = [] := List.length_eq_zero_iff.1 h
def Byt (st : RS) : Prop := ∀ c ∈ st.1, c < 256
def Stp (st : RS) (x : List Nat) (st' : RS) : Prop := (Byt st → Byt st') ∧ (Byt st → st'.2 = 0 → st.2 = 0 ∧ st.1 = x ++ st'.1)
theorem Stp.refl (st : RS) : Stp st [] st := ⟨id, fun _ h => ⟨h, rfl⟩⟩
theorem Stp.trans {a b c : RS} {x y : List Nat} (h : Stp a x b) (k : Stp b y c) : Stp a (x ++ y) c := by
  refine ⟨fun hb => k.1 (h.1 hb), fun hb he => ?_⟩
  obtain ⟨k1, k2⟩ := k.2 (h.1 hb) he
  obtain ⟨h1, h2⟩ := h.2 hb k1
  exact ⟨h1, by rw [h2, k2, List.append_assoc]⟩
theorem num_val : ∀ (k : Nat) (l : List Nat), l.length = k → (∀ c ∈ l, c < 256) → num k (Pk.val l) = l
  | 0, l, h, _ => by rw [len0 h]; rfl
  | k + 1, l, h, hb => by
    have e : l = l.take k ++ [l.getD k 0] := by
      have := List.take_succ_eq_append_getElem (l := l) (i := k) (by omega)
      rw [List.take_of_length_le (by omega)] at this
      simpa [List.getD_eq_getElem?_getD, show k < l.length by omega] using this
    have hv : Pk.val l = Pk.val (l.take k) * 256 + l.getD k 0 := by
      conv => lhs; rw [e]
      simp [Pk.val]
    have hc : l.getD k 0 < 256 := by
      apply hb
      rw [List.getD_eq_getElem?_getD, List.getElem?_eq_getElem (by omega)]
      exact List.getElem_mem _
    have ih := num_val k (l.take k) (by rw [List.length_take]; omega) (fun c hx => hb c (List.mem_of_mem_take hx))
    rw [num, hv, show (Pk.val (l.take k) * 256 + l.getD k 0) / 256 = Pk.val (l.take k) by omega, show (Pk.val (l.take k) * 256 + l.getD k 0) % 256 = l.getD k 0 by omega, ih]
    exact e.symm
theorem byt_drop {b : List Nat} (h : ∀ c ∈ b, c < 256) (k : Nat) : ∀ c ∈ b.drop k, c < 256 := fun c hc => h c (List.mem_of_mem_drop hc)
theorem byt_take {b : List Nat} (h : ∀ c ∈ b, c < 256) (k : Nat) : ∀ c ∈ b.take k, c < 256 := fun c hc => h c (List.mem_of_mem_take hc)
theorem rnum_stp (k : Nat) (st : RS) : Stp st (num k (rnum k st).1) (rnum k st).2 := by
  obtain ⟨b, e⟩ := st
  unfold rnum
  by_cases he : e = 0
  · subst he
    rw [if_neg (by simp)]
    by_cases hl : b.length < k
    · rw [if_pos hl]
      exact ⟨fun h => h, fun _ h => by simp at h⟩
    · rw [if_neg hl]
      refine ⟨fun h => byt_drop h k, fun h _ => ⟨rfl, ?_⟩⟩
      simp only
      rw [num_val k (b.take k) (by rw [List.length_take]; omega) (byt_take h k), List.take_append_drop]
  · rw [if_pos he]
    exact ⟨fun h => h, fun _ h => absurd h he⟩
theorem ccount_stp (b : List Nat) (most : Int) (hb : ∀ c ∈ b, c < 256) (h : (ccount b most).2.2 = 0) : b = num 4 (ccount b most).1 ++ (ccount b most).2.1 ∧ (ccount b most).1 ≤ most.toNat := by
  unfold ccount at h ⊢
  by_cases h1 : b.length < 4
  · simp [h1] at h
  · rw [if_neg h1] at h ⊢
    by_cases h2 : most.toNat < Pk.val (b.take 4)
    · rw [if_pos h2] at h; simp at h
    · rw [if_neg h2]
      refine ⟨?_, by simp only; omega⟩
      simp only
      rw [num_val 4 (b.take 4) (by rw [List.length_take]; omega) (byt_take hb 4), List.take_append_drop]
theorem ccount_byt (b : List Nat) (most : Int) (hb : ∀ c ∈ b, c < 256) : ∀ c ∈ (ccount b most).2.1, c < 256 := by
  unfold ccount
  repeat' split
  all_goals first | exact hb | exact byt_drop hb 4
theorem rcount_stp (most : Int) (st : RS) : Stp st (num 4 (rcount most st).1) (rcount most st).2 := by
  obtain ⟨b, e⟩ := st
  unfold rcount
  by_cases he : e = 0
  · subst he
    rw [if_neg (by simp)]
    simp only
    by_cases hz : (ccount b most).2.2 = 0
    · rw [if_neg (by simp [hz])]
      exact ⟨fun h => ccount_byt b most h, fun h _ => ⟨rfl, (ccount_stp b most h hz).1⟩⟩
    · rw [if_pos hz]
      exact ⟨fun h => h, fun _ h => absurd h hz⟩
  · rw [if_pos he]
    exact ⟨fun h => h, fun _ h => absurd h he⟩
theorem rcount_le (most : Int) (st : RS) : (rcount most st).1 ≤ most.toNat := by
  obtain ⟨b, e⟩ := st
  unfold rcount
  split
  · exact Nat.zero_le _
  · simp only
    split
    · exact Nat.zero_le _
    · unfold ccount
      repeat' split
      all_goals first | exact Nat.zero_le _ | (simp only; omega)
theorem ctext_stp (b : List Nat) (most : Int) (hb : ∀ c ∈ b, c < 256) (h : (ctext b most).2.2 = 0) : b = txt (ctext b most).1 ++ (ctext b most).2.1 := by
  unfold ctext at h ⊢
  generalize hc : ccount b most = c at h ⊢
  obtain ⟨n, r, e⟩ := c
  simp only at h ⊢
  by_cases he : e = 0
  · subst he
    rw [if_neg (by simp)] at h ⊢
    have := ccount_stp b most hb (by rw [hc])
    rw [hc] at this
    simp only at this
    by_cases hl : r.length < n
    · rw [if_pos hl] at h; simp at h
    · rw [if_neg hl]
      simp only
      unfold txt
      rw [List.length_take, Nat.min_eq_left (by omega), List.append_assoc, List.take_append_drop]
      exact this.1
  · rw [if_pos he] at h; exact absurd h he
theorem ctext_byt (b : List Nat) (most : Int) (hb : ∀ c ∈ b, c < 256) : (∀ c ∈ (ctext b most).2.1, c < 256) ∧ ∀ c ∈ (ctext b most).1, c < 256 := by
  unfold ctext
  have := ccount_byt b most hb
  generalize hc : ccount b most = c at this
  obtain ⟨n, r, e⟩ := c
  simp only at this ⊢
  repeat' split
  all_goals first | exact ⟨hb, by simp⟩ | exact ⟨byt_drop this n, byt_take this n⟩
theorem rtext_stp (most : Int) (st : RS) : Stp st (txt (rtext most st).1) (rtext most st).2 := by
  obtain ⟨b, e⟩ := st
  unfold rtext
  by_cases he : e = 0
  · subst he
    rw [if_neg (by simp)]
    simp only
    by_cases hz : (ctext b most).2.2 = 0
    · rw [if_neg (by simp [hz])]
      exact ⟨fun h => (ctext_byt b most h).1, fun h _ => ⟨rfl, ctext_stp b most h hz⟩⟩
    · rw [if_pos hz]
      exact ⟨fun h => h, fun _ h => absurd h hz⟩
  · rw [if_pos he]
    exact ⟨fun h => h, fun _ h => absurd h he⟩
theorem rtext_byt (most : Int) (st : RS) (h : Byt st) : ∀ c ∈ (rtext most st).1, c < 256 := by
  obtain ⟨b, e⟩ := st
  unfold rtext
  by_cases he : e = 0
  · subst he
    rw [if_neg (by simp)]
    simp only
    by_cases hz : (ctext b most).2.2 = 0
    · rw [if_neg (by simp [hz])]
      exact (ctext_byt b most h).2
    · rw [if_pos hz]
      intro c hc; cases hc
  · rw [if_pos he]
    intro c hc; cases hc
theorem rtext_stp' (most : Int) (st : RS) (hb : Byt st) : Stp st (txt (nats (text (rtext most st).1))) (rtext most st).2 := by
  rw [nats_text _ (rtext_byt most st hb)]
  exact rtext_stp most st
theorem ctextsN_stp (most : Int) : ∀ (n : Nat) (b : List Nat), (∀ c ∈ b, c < 256) → (∀ c ∈ (ctextsN n b most).2.1, c < 256) ∧ (∀ s ∈ (ctextsN n b most).1, ∀ c ∈ s, c < 256) ∧ ((ctextsN n b most).2.2 = 0 → b = txtsBody (ctextsN n b most).1 ++ (ctextsN n b most).2.1 ∧ (ctextsN n b most).1.length = n)
  | 0, b, hb => by simp [ctextsN, txtsBody]; exact hb
  | n + 1, b, hb => by
    unfold ctextsN
    have t1 := ctext_stp b most hb
    have t2 := ctext_byt b most hb
    generalize hc : ctext b most = c at t1 t2
    obtain ⟨s, r, e⟩ := c
    simp only at t1 t2 ⊢
    by_cases he : e = 0
    · subst he
      rw [if_neg (by simp)]
      have ih := ctextsN_stp most n r t2.1
      generalize hd : ctextsN n r most = d at ih
      obtain ⟨l, r', e'⟩ := d
      simp only at ih ⊢
      by_cases he' : e' = 0
      · subst he'
        rw [if_neg (by simp)]
        refine ⟨ih.1, ?_, fun _ => ⟨?_, ?_⟩⟩
        · intro x hx
          rcases List.mem_cons.1 hx with rfl | hx
          · exact t2.2
          · exact ih.2.1 x hx
        · simp only [txtsBody]
          rw [List.append_assoc, ← (ih.2.2 rfl).1]
          exact t1 rfl
        · simp only [List.length_cons]; rw [(ih.2.2 rfl).2]
      · rw [if_pos he']
        exact ⟨hb, (by intro x hx; cases hx), fun h => absurd h he'⟩
    · rw [if_pos he]
      exact ⟨hb, (by intro x hx; cases hx), fun h => absurd h he⟩
theorem ctexts_stp (b : List Nat) (count most : Int) (hb : ∀ c ∈ b, c < 256) : (∀ c ∈ (ctexts b count most).2.1, c < 256) ∧ (∀ s ∈ (ctexts b count most).1, ∀ c ∈ s, c < 256) ∧ ((ctexts b count most).2.2 = 0 → b = txts (ctexts b count most).1 ++ (ctexts b count most).2.1) := by
  unfold ctexts
  have t1 := ccount_stp b count hb
  have t2 := ccount_byt b count hb
  generalize hc : ccount b count = c at t1 t2
  obtain ⟨n, r, e⟩ := c
  simp only at t1 t2 ⊢
  by_cases he : e = 0
  · subst he
    rw [if_neg (by simp)]
    have ih := ctextsN_stp most n r t2
    generalize hd : ctextsN n r most = d at ih
    obtain ⟨l, r', e'⟩ := d
    simp only at ih ⊢
    by_cases he' : e' = 0
    · subst he'
      rw [if_neg (by simp)]
      refine ⟨ih.1, ih.2.1, fun _ => ?_⟩
      obtain ⟨i1, i2⟩ := ih.2.2 rfl
      simp only
      unfold txts
      rw [i2, List.append_assoc, ← i1]
      exact (t1 rfl).1
    · rw [if_pos he']
      exact ⟨hb, (by intro x hx; cases hx), fun h => absurd h he'⟩
  · rw [if_pos he]
    exact ⟨hb, (by intro x hx; cases hx), fun h => absurd h he⟩
theorem rkeys_stp (st : RS) (hB : Byt st) : Stp st (txts (natss (rkeys st).1)) (rkeys st).2 := by
  obtain ⟨b, e⟩ := st
  unfold rkeys rtexts
  by_cases he : e = 0
  · subst he
    rw [if_neg (by simp)]
    simp only
    obtain ⟨c1, c2, c3⟩ := ctexts_stp b 1024 65535 hB
    by_cases hz : (ctexts b 1024 65535).2.2 = 0
    · rw [if_neg (by simp [hz])]
      refine ⟨fun _ => c1, fun h _ => ⟨rfl, ?_⟩⟩
      simp only
      have e : natss ((ctexts b 1024 65535).1.map text) = (ctexts b 1024 65535).1 := by
        unfold natss; rw [List.map_map]
        conv => rhs; rw [← List.map_id (ctexts b 1024 65535).1]
        exact List.map_congr_left (fun x hx => nats_text x (c2 x hx))
      rw [e]; exact c3 hz
    · rw [if_pos hz]
      exact ⟨fun h => h, fun _ h => absurd h hz⟩
  · rw [if_pos he]
    exact ⟨fun h => h, fun _ h => absurd h he⟩
theorem rmany_stp {α : Type} (f : RS → α × RS) (lay1 : α → List Nat) (h : ∀ st, Byt st → Stp st (lay1 (f st).1) (f st).2) : ∀ (n : Nat) (st : RS), Byt st → Stp st ((rmany f n st).1.flatMap lay1) (rmany f n st).2 ∧ (rmany f n st).1.length = n
  | 0, st, _ => by simp [rmany]; exact Stp.refl st
  | n + 1, st, hb => by
    obtain ⟨i1, i2⟩ := rmany_stp f lay1 h n st hb
    have k := h _ (i1.1 hb)
    rw [rmany]
    refine ⟨?_, by simp [i2]⟩
    simp only [List.flatMap_append, List.flatMap_cons, List.flatMap_nil, List.append_nil]
    exact i1.trans k
end Go.Proofs.YtdemoghlibnooaaGreatDoor
namespace Go.Proofs.YtdemoghlibnooaaGreatDoor
open Go.RowKit
open Crc
set_option linter.unusedVariables false
set_option linter.unusedSimpArgs false
theorem ret_u32 {a b : Int} (h : a = b) : Ending.returned (.int .u32 a) = .returned (.int .u32 b) := by rw [h]
theorem and15 (r : Nat) (hr : r < 4294967296) : bits .and .u32 (r : Int) 15 = ((r % 16 : Nat) : Int) := by
  have := u32_and_nat r 15 hr (by decide)
  rw [nat_mask4] at this
  exact this
theorem half_num (x : Nat) (hx : x < 4294967296) : bits .xor .u32 ((x : Int) / 16) (tab.getD (x % 16) 0 : Nat) = (shn 4 x : Nat) := by
  have e1 : (x : Int) / 16 = ((x / 16 : Nat) : Int) := by omega
  have h2 : tab.getD (x % 16) 0 < 4294967296 := by rw [← tab_eq _ (Nat.mod_lt _ (by decide))]; exact shn_lt _ _ (by omega)
  rw [e1, u32_xor_nat _ _ (by omega) h2, half]
def TabIn (w : World) : Prop := ∀ k, k < 16 → w.cell? ⟨2, k, none⟩ = some (.int .u32 (tab.getD k 0 : Nat))
theorem TabIn.keeps {S : Nat → Prop} {w w' : World} (h : TabIn w) (hk : Keeps S w w') (h0 : ¬ S 2) : TabIn w' := fun k hk' => hk.cell (h k hk') h0
theorem TabIn.keepsN {w w' : World} (h : TabIn w) (hk : Keeps no w w') : TabIn w' := h.keeps hk (fun h => h)
theorem byteStep_any (r : Nat) (hr : r < 4294967296) (w : World) (ht : TabIn w) :
    Calls Tryz.prog 240 #[.int .u32 (r : Int)] w fun e w' => e = .returned (.int .u32 (shn 8 r : Nat)) ∧ w' = w := by
  go_enter Tryz.func240, Tryz.ntmps240
  go_wp2
  go_loop [0, 3] (fun x i => ∃ k : Nat, k ≤ 2 ∧ i = .int .i64 k ∧ x = .int .u32 (shn (4 * k) r : Nat)) (fun _ i => 2 - (intOf i).toNat)
  case atStart => exact ⟨0, by omega, rfl, rfl⟩
  case round =>
    obtain ⟨k, hk, rfl, rfl⟩ := hrel
    obtain ⟨x, hx⟩ : ∃ x, x = shn (4 * k) r := ⟨_, rfl⟩
    have hlt := shn_lt (4 * k) r hr
    rw [← hx] at hlt ⊢
    have HX : Hid (x = shn (4 * k) r) := hx
    clear hx
    have hb := and15 x hlt
    have hm : x % 16 < 16 := Nat.mod_lt _ (by decide)
    have hc := ht (x % 16) hm
    have hn := half_num x hlt
    by_cases h2 : k < 2
    · go_wp2
      go_round
      case rel => exact ⟨k + 1, by omega, by go_num, by simp only [List.getD_eq_getElem?_getD] at hn; rw [hn, HX.out, ← shn_add, show 4 + 4 * k = 4 * (k + 1) by omega]⟩
      case measure => simp [intOf]; omega
    · go_wp2
      go_ret
      obtain rfl : k = 2 := by omega
      exact ⟨by rw [HX.out]; rfl, rfl⟩
theorem not_num (s : Nat) (hs : s < 4294967296) : bits .xor .u32 IntKind.u32.max (s : Int) = ((s ^^^ 4294967295 : Nat) : Int) := by
  have := u32_xor_nat 4294967295 s (by decide) hs
  rw [Nat.xor_comm] at this
  exact this
theorem mix_num (r c : Nat) (hr : r < 4294967296) (hc : c < 256) : bits .xor .u32 (r : Int) (c : Int) = ((r ^^^ c : Nat) : Int) :=
  u32_xor_nat r c hr (by omega)
theorem upd_snoc (r : Nat) (bs : List Nat) (k : Nat) (h : k < bs.length) : upd r (bs.take (k + 1)) = shn 8 (upd r (bs.take k) ^^^ bs.getD k 0) := by
  rw [List.take_succ_eq_append_getElem h, upd_append]
  simp [upd, List.getD_eq_getElem?_getD, h]
theorem getD_lt' (bs : List Nat) (hby : ∀ c ∈ bs, c < 256) (k : Nat) (h : k < bs.length) : bs.getD k 0 < 256 := by
  rw [List.getD_eq_getElem?_getD, List.getElem?_eq_getElem h]
  exact hby _ (List.getElem_mem h)
theorem update_any (s : Nat) (a : Option Addr) (n : Nat) (bs : List Nat) (cap : Nat) (hn : n = bs.length) (hs : s < 4294967296) (w : World) (ht : TabIn w) (hr : BRow w a bs) :
    Calls Tryz.prog 189 #[.int .u32 (s : Int), .slice a n cap] w fun e w' => e = .returned (.int .u32 (update s bs : Nat)) ∧ w' = w := by
  obtain ⟨hby, hm, hcell⟩ := hr
  rw [← hn] at hm hcell
  have HN : Hid (n = bs.length) := hn
  clear hn
  go_enter Tryz.func189, Tryz.ntmps189
  go_wp2_with fail
  go_loop [5, 11] (fun r i => ∃ k : Nat, k ≤ n ∧ i = .int .i64 k ∧ r = .int .u32 (upd (s ^^^ 4294967295) (bs.take k) : Nat)) (fun _ i => n - (intOf i).toNat)
  case atStart => exact ⟨0, by omega, rfl, by rw [not_num s hs]; rfl⟩
  case round =>
    obtain ⟨k, hk, rfl, rfl⟩ := hrel
    have hrl := upd_lt (bs.take k) (fun c hc => hby c (List.mem_of_mem_take hc)) (s ^^^ 4294967295) (xor_lt32 _ _ hs (by decide))
    obtain ⟨r, hr⟩ : ∃ r, r = upd (s ^^^ 4294967295) (bs.take k) := ⟨_, rfl⟩
    rw [← hr] at hrl ⊢
    have HR : Hid (r = upd (s ^^^ 4294967295) (bs.take k)) := hr
    clear hr
    by_cases h2 : k < n
    · have hkb : k < bs.length := by have := HN.out; omega
      have hcl := getD_lt' bs hby k hkb
      have hsn := upd_snoc (s ^^^ 4294967295) bs k hkb
      rcases hcell with h0 | ⟨b, off, rfl, hc⟩
      · rw [h0] at hkb; simp at hkb
      obtain ⟨c, hcc⟩ : ∃ c, c = bs.getD k 0 := ⟨_, rfl⟩
      have hck := hc k h2
      rw [← hcc] at hcl hsn hck
      have HS : Hid (upd (s ^^^ 4294967295) (bs.take (k + 1)) = shn 8 (upd (s ^^^ 4294967295) (bs.take k) ^^^ c)) := hsn
      have hmix := mix_num r c hrl hcl
      have hxl := xor_lt32 r c hrl (by omega)
      clear hsn hcc hc hby
      go_wp2_with (go_at_call 240; go_must (refine (byteStep_any _ hxl _ ht).mono ?_); rintro e w' ⟨rfl, rfl⟩)
      go_round
      case rel => exact ⟨k + 1, by omega, by go_num, by rw [HS.out, HR.out]⟩
      case measure => simp [intOf]; omega
    · go_wp2_with fail
      go_ret
      obtain rfl : k = n := by omega
      exact ⟨ret_u32 (by rw [not_num r hrl, HR.out, HN.out, List.take_length]; rfl), rfl⟩
theorem sum_any (a : Option Addr) (n : Nat) (bs : List Nat) (cap : Nat) (hn : n = bs.length) (w : World) (ht : TabIn w) (hr : BRow w a bs) :
    Calls Tryz.prog 150 #[.slice a n cap] w fun e w' => e = .returned (.int .u32 (Crc.sum bs : Nat)) ∧ w' = w := by
  have HN : Hid (n = bs.length) := hn
  clear hn
  go_enter Tryz.func150, Tryz.ntmps150
  go_wp2_with (go_at_call 189; go_must (refine (update_any 0 a n bs cap HN.out (by decide) _ ht hr).mono ?_); rintro e w' ⟨rfl, rfl⟩)
  go_ret
  exact ⟨rfl, rfl⟩
end Go.Proofs.YtdemoghlibnooaaGreatDoor
namespace Go.Proofs.YtdemoghlibnooaaGreatDoor
open Go.RowKit Go.Sort Orl Pk
set_option linter.unusedVariables false
set_option linter.unusedSimpArgs false
section
variable {α : Type} {E : El α}
theorem Own.tag {w : World} {o : Option Addr} {c : Nat} {xs : List α} (h : Own E w o c xs) : ∀ k, inO o k → ∃ cur, w.heap[k]? = some (.cells cur E.e (0, 0)) := by
  rintro k ⟨x, e, rfl⟩
  rcases h.shape with ⟨e', _⟩ | ⟨g, cur, e', hg, _⟩
  · rw [e'] at e; cases e
  · rw [e'] at e; cases e; exact ⟨cur, hg⟩
theorem Own.max {w : World} {o : Option Addr} {c : Nat} {xs : List α} (h : Own E w o c xs) : c ≤ maxLen := by
  rcases h.shape with ⟨_, e, _⟩ | ⟨g, cur, _, _, _, h3, _⟩
  · omega
  · exact h3
end
def inn (xs : List Tx) (s : Tx) : Bool := xs.any fun x => decide (x = s)
theorem inn_iff (xs : List Tx) (s : Tx) : inn xs s = true ↔ s ∈ xs := by
  unfold inn
  simp only [List.any_eq_true, decide_eq_true_eq]
  exact ⟨fun ⟨x, hx, e⟩ => e ▸ hx, fun h => ⟨s, h, rfl⟩⟩
theorem inn_no {xs : List Tx} {s : Tx} (h : s ∉ xs) : inn xs s = false := by
  cases e : inn xs s with
  | false => rfl
  | true => exact absurd ((inn_iff xs s).1 e) h
def Stay (w w' : World) : Prop := ∀ (g : Nat) (cs : Array Value) (t : TypeId) (fr : Nat × Nat), w.heap[g]? = some (Obj.cells cs t fr) → t ≠ 266 → t ≠ 5 → w'.heap[g]? = some (Obj.cells cs t fr)
theorem IsW.stay {w w' : World} {a : Nat} {o : Option Addr} {c L : Nat} {bs : List Nat} {e : Nat} (h : IsW 266 w a o c L bs e) (k : Keeps (footW a o) w w') : Stay w w' := by
  intro g cs t fr hg h1 h2
  refine k.at hg ?_
  rintro (rfl | hi)
  · rw [h.blk] at hg
    cases hg
    exact h1 rfl
  · rcases h.row.shape with ⟨rfl, _⟩ | ⟨g', cur, rfl, hg', _⟩
    · obtain ⟨x, e, _⟩ := hi; cases e
    · obtain ⟨x, e, hx⟩ := hi
      cases e
      simp only at hx
      subst hx
      rw [hg'] at hg
      cases hg
      exact h2 rfl
theorem Stay.trans {a b c : World} (h : Stay a b) (k : Stay b c) : Stay a c := fun g cs t fr hg h1 h2 => k g cs t fr (h g cs t fr hg h1 h2) h1 h2
theorem Stay.of_keeps {a b : World} (h : Keeps no a b) : Stay a b := fun g cs t fr hg _ _ => h.at hg (fun h => h)
theorem take_succ_getD {α : Type} (l : List α) (k : Nat) (d : α) (h : k < l.length) : l.take (k + 1) = l.take k ++ [l.getD k d] := by
  rw [List.take_succ_eq_append_getElem h]; simp [List.getD_eq_getElem?_getD, h]
theorem rowS_of {w : World} {a : Option Addr} {c : Nat} {xs : List Tx} (h : Sl TE w a c xs) : RowS w a xs := by
  by_cases h0 : xs = []
  · exact .inl h0
  · have hl : 0 < xs.length := List.length_pos_iff.2 h0
    obtain ⟨b, off, e, _⟩ := h.at hl
    refine .inr ⟨b, off, e, fun j hj => ?_⟩
    obtain ⟨b2, off2, e2, hc⟩ := h.at hj
    rw [e] at e2; cases e2
    exact hc
def eqA (a : Nat) : Nat → Prop := fun k => k = a
theorem text_size (l : List Nat) : (text l).size = l.length := by simp [text, ByteArray.size]
theorem rtext_len (most : Int) (st : RS) : (rtext most st).1.length ≤ most.toNat := by
  obtain ⟨b, e⟩ := st
  unfold rtext
  by_cases he : e = 0
  · subst he
    rw [if_neg (by simp)]
    simp only
    by_cases hz : (ctext b most).2.2 = 0
    · rw [if_neg (by simp [hz])]
      unfold ctext at hz ⊢
      simp only at hz ⊢
      by_cases h2 : (ccount b most).2.2 = 0
      · rw [if_neg (by simp [h2])] at hz ⊢
        by_cases h3 : (ccount b most).2.1.length < (ccount b most).1
        · rw [if_pos h3] at hz; simp at hz
        · rw [if_neg h3]
          simp only [List.length_take]
          have : (ccount b most).1 ≤ most.toNat := by
            unfold ccount
            repeat' split
            all_goals first | exact Nat.zero_le _ | (simp only; omega)
          omega
      · rw [if_pos h2] at hz; exact absurd hz h2
    · rw [if_pos hz]; simp
  · rw [if_pos he]; simp
theorem cells_T (ss : List Tx) : TE.cells ss = ss.map Value.string := by
  induction ss with
  | nil => rfl
  | cons s l ih => simp only [El.cells, List.flatMap_cons, List.map_cons] at ih ⊢; rw [ih]; rfl
theorem ownT_of {w : World} {o : Option Addr} {c : Nat} {ss : List Tx} (h : OwnsS w o c ss) : Own TE w o c ss := by
  unfold Own OwnsS at *
  rw [cells_T]; exact h
theorem rmany_length {α : Type} (f : RS → α × RS) (n : Nat) (st : RS) : (rmany f n st).1.length = n := by
  induction n with
  | zero => rfl
  | succ n ih => simp [rmany, ih]
theorem own_oneP (w : World) (x y : Tx) : Sl PE (w.alloc (.cells #[.string x, .string y] 85)) (some ⟨w.heap.size, 0, none⟩) 1 [(x, y)] := by
  refine ⟨.inr ⟨_, _, rfl, fun j u hj => ?_⟩, by simp, fun e => by cases e⟩
  rw [cell_of_blk (blk_new w _), Nat.zero_add]
  simpa [El.cells, PE] using hj
theorem results_row2 {fn : Func} {p u : Tmp} {ty : TypeId} (h : fn.results = #[.cell p ty, .tmp u]) (tmps : Array Value) (w : World) (g : Nat) (cs : Array Value)
    (hp : tmps.getD p undef = .pointer (some ⟨g, 0, none⟩)) (hl : (loadVar ty ⟨g, 0, none⟩).run Tryz.prog w = .ok (.agg cs) w) :
    (results fn tmps).run Tryz.prog w = .ok (.tuple #[.agg cs, tmps.getD u undef]) w := by
  rw [results_cell_tmp h, hp]
  simp [asAddr, hl, Result.andThen]
theorem results_row1 {fn : Func} {p : Tmp} {ty : TypeId} (h : fn.results = #[.cell p ty]) (tmps : Array Value) (w : World) (g : Nat) (cs : Array Value)
    (hp : tmps.getD p undef = .pointer (some ⟨g, 0, none⟩)) (hl : (loadVar ty ⟨g, 0, none⟩).run Tryz.prog w = .ok (.agg cs) w) :
    (results fn tmps).run Tryz.prog w = .ok (.agg cs) w := by
  have hp' : tmps[p]?.getD undef = .pointer (some ⟨g, 0, none⟩) := by simpa using hp
  simp [results, h, hp', asAddr, hl]
theorem Keeps.setA {g : Nat} {a w : World} (h : Keeps (eqA g) a w) (i : Nat) (u : Value) : Keeps (eqA g) a (w.setCell ⟨g, i, none⟩ u) := h.setCell (p := ⟨g, i, none⟩) (.inl rfl) u
def SubO (o A : Option Addr) : Prop := ∀ k, inO A k → inO o k
theorem sub_add (ad : Addr) (I k : Nat) (c : Nat) : SubO (some ad) (some (if c = I then ad else ad.add k)) := by
  rintro x ⟨y, e, rfl⟩
  cases e
  refine ⟨ad, rfl, ?_⟩
  split
  · rfl
  · obtain ⟨b, off, sp⟩ := ad
    simp [Addr.add]
    split <;> rfl
theorem ccount_le (b : List Nat) (most : Int) : (ccount b most).1 ≤ most.toNat := by
  unfold ccount
  repeat' split
  all_goals first | exact Nat.zero_le _ | (simp only; omega)
def mkT (l : List UInt8) : Tx := ⟨l.toArray⟩
theorem mkT_data (x : Tx) : mkT x.data.toList = x := by cases x; simp [mkT]
theorem data_mkT (l : List UInt8) : (mkT l).data.toList = l := by simp [mkT]
theorem grown_of {w w' : World} {a : Nat} (h : Keeps (fun i => i = a) w w') : w.grownBy w' (some a) := ⟨h.os, h.tape, h.output, h.size, fun i hi hne => h.block i hi (fun e => hne (by rw [e]))⟩
theorem keeps_of_grown {w w' : World} {a : Nat} (h : w.grownBy w' (some a)) : Keeps (fun i => i = a) w w' := (Keeps.refl _ w).grown h (fun k hk => .inl (by cases hk; rfl))
theorem toList_inj (x y : Tx) : x.toList = y.toList ↔ x = y := by
  rw [Lib.toList_data, Lib.toList_data]
  exact ⟨tx_ext, fun e => by rw [e]⟩
end Go.Proofs.YtdemoghlibnooaaGreatDoor

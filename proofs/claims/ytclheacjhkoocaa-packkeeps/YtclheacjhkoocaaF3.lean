import Derived.Test.YtclheacjhkoocaaF2
namespace Go.Proofs.Ytclheacjhkoocaa
open Go.RowKit
open Pk
set_option linter.unusedVariables false
set_option linter.unusedSimpArgs false

set_option maxRecDepth 10000 in
theorem refValue_any (w : World) (o : Option Addr) (n c : Nat) (bs : List Nat) (K : Nat) (hn : n = bs.length) (hrow : Row w o bs) (h8 : K ≤ 8) (hK : K ≤ bs.length) (hlid : bs.length ≤ 140737488355328) :
    Calls Try.prog 73 #[.slice o n c, .int .i64 (K : Nat)] w fun e w' => e = .returned (.int .u64 (val (bs.take K) : Nat)) ∧ w' = w := by
  obtain ⟨hby, hm, hcell⟩ := hrow
  have HN : Hid (n = bs.length) := hn
  have hnK : K ≤ n := by omega
  have hn5 : n ≤ 140737488355328 := by omega
  clear hn hm hK hlid
  go_enter Try.func73, Try.ntmps73
  go_wp2_with fail
  go_loop [5, 6] (fun r i => ∃ k : Nat, k ≤ K ∧ i = .int .i64 k ∧ r = .int .u64 (val (bs.take k) : Nat)) (fun _ i => K - (intOf i).toNat)
  case atStart => exact ⟨0, by omega, rfl, by simp [val]⟩
  case round =>
    obtain ⟨k, hk, rfl, rfl⟩ := hrel
    by_cases h2 : k < K
    · have hkb : k < bs.length := by have := HN.out; omega
      have hcl := getD_lt bs hby k hkb
      have hsn := val_snoc bs k hkb
      have hvl := val_take_lt bs hby k (by omega)
      have hp : 256 ^ k ≤ 72057594037927936 := by
        have : 256 ^ k ≤ 256 ^ 7 := Nat.pow_le_pow_right (by decide) (by omega)
        simpa using this
      rcases hcell with h0 | ⟨b, off, rfl, hc⟩
      · rw [h0] at hkb; simp at hkb
      obtain ⟨x, hcc⟩ : ∃ x, x = bs.getD k 0 := ⟨_, rfl⟩
      obtain ⟨r, hr⟩ : ∃ r, r = val (bs.take k) := ⟨_, rfl⟩
      have hck := hc k hkb
      rw [← hcc] at hcl hsn hck
      rw [← hr] at hsn hvl ⊢
      have HS : Hid (val (bs.take (k + 1)) = r * 256 + x) := hsn
      have hr7 : r < 72057594037927936 := by omega
      have hor := or_num r x hr7 hcl
      clear hsn hcc hc hby hr hvl hp
      go_wp2_with fail
      go_round
      case rel => exact ⟨k + 1, by omega, by go_num, by rw [HS.out]; go_num⟩
      case measure => simp [intOf]; omega
    · go_wp2_with fail
      go_ret
      obtain rfl : k = K := by omega
      exact ⟨rfl, rfl⟩

theorem refNewReader_any (w : World) (o : Option Addr) (n c : Nat) (bs : List Nat) (hn : n = bs.length) (h : Sl w o c bs) (hlid : bs.length ≤ 140737488355328) :
    Calls Try.prog 33 #[.slice o n c] w fun e w' => ∃ a o' c', e = .returned (.pointer (some ⟨a, 0, none⟩)) ∧ IsR 87 w' a o' c' bs 0 ∧ (∀ k, footW a o' k → w.heap.size ≤ k) ∧ Keeps (fun _ => False) w w' := by
  subst hn
  go_enter Try.func33, Try.ntmps33
  go_wp2_with (at_builtin; go_must (refine wpList_app rfl _ _ rfl none 0 0 [] (by rfl) rfl (owns_nil w) o _ c bs (by rfl) rfl h.nil h.row (by omega) ?_); intro o3 c3 w3 hown3 hfr3 hk3)
  go_ret
  rw [List.nil_append] at hown3
  have hk : Keeps (fun _ => False) w w3 := hk3.mono (fun k ⟨x, h, _⟩ => by cases h)
  have hnew : ∀ k, inO o3 k → w.heap.size ≤ k := by
    intro k hk
    rcases hfr3.in k hk with ⟨x, h, _⟩ | h'
    · cases h
    · exact h'
  have hsl := (hown3.alloc (.cells #[.slice o3 bs.length c3, .int .i64 0] 87)).sl h.row.1 h.row.2.1
  have hlt := hown3.lt
  refine ⟨w3.heap.size, o3, c3, rfl, ⟨?_, ?_, ?_, ?_, hlid, by simp⟩, ?_, hk.alloc _⟩
  · rw [blk_new]; simp
  · simpa using hsl
  · intro hin; have := hlt _ hin; omega
  · intro k hin; have := hlt _ hin; simp; omega
  · rintro k (rfl | hin)
    · exact hk.size
    · exact hnew k hin

set_option maxRecDepth 10000 in
theorem refRNumber_any (w : World) (a : Nat) (o : Option Addr) (c : Nat) (bs : List Nat) (e0 : Nat) (I : Nat) (hI8 : I ≤ 8) (h : IsR 87 w a o c bs e0) :
    Calls Try.prog 70 #[.pointer (some ⟨a, 0, none⟩), .int .i64 (I : Nat)] w fun e w' => e = .returned (.int .u64 ((rnum I (bs, e0)).1 : Nat)) ∧ RStep 87 w a o (rnum I (bs, e0)).2 w' := by
  have c0 : w.cell? ⟨a, 0, none⟩ = some (.slice o bs.length c) := cell_of_blk h.blk 0
  have c1 : w.cell? ⟨a, 1, none⟩ = some (.int .i64 (e0 : Nat)) := cell_of_blk h.blk 1
  have f0 : w.frozen? ⟨a, 0, none⟩ = false := frozen_of_blk h.blk 0
  have f1 : w.frozen? ⟨a, 1, none⟩ = false := frozen_of_blk h.blk 1
  have hlid := h.lid
  by_cases he : e0 = 0
  · subst he
    by_cases hs : bs.length < I
    · go_enter Try.func70, Try.ntmps70
      go_wp2
      go_ret
      obtain ⟨h4, hk4⟩ := h.err 4 (by omega)
      have er : rnum I (bs, 0) = (0, (bs, 4)) := by simp [rnum, hs]
      rw [er]
      exact ⟨rfl, o, c, h4, SubO.refl _, hk4⟩
    · obtain ⟨A', d', hcut', hsl', hsub'⟩ := cut_l w o c bs bs.length I I rfl rfl (by omega) h.sl
      go_enter Try.func70, Try.ntmps70
      go_wp2_with fail
      refine (refValue_any w o _ c bs I rfl h.sl.row hI8 (by omega) hlid).mono ?_
      rintro e w1 ⟨rfl, rfl⟩
      go_wp2
      go_ret
      obtain ⟨hW, hK⟩ := h.put hsl' hsub' (by rw [List.length_drop]; omega) (bs.length - I) (by rw [List.length_drop])
      have er : rnum I (bs, 0) = (val (bs.take I), (bs.drop I, 0)) := by simp [rnum, hs]
      rw [er]
      exact ⟨rfl, A', d', hW, hsub', hK⟩
  · have he' : ¬ ((e0 : Nat) : Int) = 0 := by omega
    go_enter Try.func70, Try.ntmps70
    go_wp2
    go_ret
    have er : rnum I (bs, e0) = (0, (bs, e0)) := by simp [rnum, he]
    rw [er]
    exact ⟨rfl, o, c, h, SubO.refl _, Keeps.refl _ _⟩

theorem refRU64_any (w : World) (a : Nat) (o : Option Addr) (c : Nat) (bs : List Nat) (e0 : Nat) (h : IsR 87 w a o c bs e0) :
    Calls Try.prog 58 #[.pointer (some ⟨a, 0, none⟩)] w fun e w' => e = .returned (.int .u64 ((rnum 8 (bs, e0)).1 : Nat)) ∧ RStep 87 w a o (rnum 8 (bs, e0)).2 w' := by
  go_enter Try.func58, Try.ntmps58
  go_wp2_with fail
  refine (refRNumber_any w a o c bs e0 8 (by omega) h).mono ?_
  rintro e w1 ⟨rfl, hst⟩
  go_wp2
  go_ret
  exact ⟨rfl, hst⟩
theorem refRU32_any (w : World) (a : Nat) (o : Option Addr) (c : Nat) (bs : List Nat) (e0 : Nat) (h : IsR 87 w a o c bs e0) :
    Calls Try.prog 57 #[.pointer (some ⟨a, 0, none⟩)] w fun e w' => e = .returned (.int .u32 ((rnum 4 (bs, e0)).1 : Nat)) ∧ RStep 87 w a o (rnum 4 (bs, e0)).2 w' := by
  have hlt : (rnum 4 (bs, e0)).1 < 4294967296 := rnum_lt 4 bs e0 h.sl.row.1
  go_enter Try.func57, Try.ntmps57
  go_wp2_with fail
  refine (refRNumber_any w a o c bs e0 4 (by omega) h).mono ?_
  rintro e w1 ⟨rfl, hst⟩
  go_wp2
  go_ret
  exact ⟨rfl, hst⟩
theorem refRU8_any (w : World) (a : Nat) (o : Option Addr) (c : Nat) (bs : List Nat) (e0 : Nat) (h : IsR 87 w a o c bs e0) :
    Calls Try.prog 56 #[.pointer (some ⟨a, 0, none⟩)] w fun e w' => e = .returned (.int .u8 ((rnum 1 (bs, e0)).1 : Nat)) ∧ RStep 87 w a o (rnum 1 (bs, e0)).2 w' := by
  have hlt : (rnum 1 (bs, e0)).1 < 256 := rnum_lt 1 bs e0 h.sl.row.1
  go_enter Try.func56, Try.ntmps56
  go_wp2_with fail
  refine (refRNumber_any w a o c bs e0 1 (by omega) h).mono ?_
  rintro e w1 ⟨rfl, hst⟩
  go_wp2
  go_ret
  exact ⟨rfl, hst⟩
theorem refLeft_any (w : World) (a : Nat) (o : Option Addr) (c : Nat) (bs : List Nat) (e0 : Nat) (h : IsR 87 w a o c bs e0) :
    Calls Try.prog 35 #[.pointer (some ⟨a, 0, none⟩)] w fun e w' => e = .returned (.int .i64 (bs.length : Nat)) ∧ w' = w := by
  have c0 : w.cell? ⟨a, 0, none⟩ = some (.slice o bs.length c) := cell_of_blk h.blk 0
  go_enter Try.func35, Try.ntmps35
  go_wp2
  go_ret
  exact ⟨rfl, rfl⟩
theorem refErr_any (w : World) (a : Nat) (o : Option Addr) (c : Nat) (bs : List Nat) (e0 : Nat) (h : IsR 87 w a o c bs e0) :
    Calls Try.prog 36 #[.pointer (some ⟨a, 0, none⟩)] w fun e w' => e = .returned (.int .i64 (e0 : Nat)) ∧ w' = w := by
  have c1 : w.cell? ⟨a, 1, none⟩ = some (.int .i64 (e0 : Nat)) := cell_of_blk h.blk 1
  go_enter Try.func36, Try.ntmps36
  go_wp2
  go_ret
  exact ⟨rfl, rfl⟩
theorem refEnd_any (w : World) (a : Nat) (o : Option Addr) (c : Nat) (bs : List Nat) (e0 : Nat) (h : IsR 87 w a o c bs e0) :
    Calls Try.prog 37 #[.pointer (some ⟨a, 0, none⟩)] w fun e w' => e = .returned (.int .i64 (rend bs e0 : Nat)) ∧ w' = w := by
  have c0 : w.cell? ⟨a, 0, none⟩ = some (.slice o bs.length c) := cell_of_blk h.blk 0
  have c1 : w.cell? ⟨a, 1, none⟩ = some (.int .i64 (e0 : Nat)) := cell_of_blk h.blk 1
  by_cases he : e0 = 0
  · subst he
    by_cases hl : 0 < bs.length
    · go_enter Try.func37, Try.ntmps37
      go_wp2
      go_ret
      rw [rend, if_pos ⟨rfl, hl⟩]
      exact ⟨rfl, rfl⟩
    · go_enter Try.func37, Try.ntmps37
      go_wp2
      go_ret
      rw [rend, if_neg (by omega)]
      exact ⟨rfl, rfl⟩
  · have he' : ¬ ((e0 : Nat) : Int) = 0 := by omega
    go_enter Try.func37, Try.ntmps37
    go_wp2
    go_ret
    rw [rend, if_neg (by omega)]
    exact ⟨rfl, rfl⟩

/-- what count tells -/
def RCntTo (w : World) (bs : List Nat) (most : Int) (e : Ending) (w' : World) : Prop :=
  w' = w ∧
  ((∃ er, Hid (ccount bs most = (0, bs, er)) ∧ 0 < er ∧ er ≤ 5 ∧ e = .returned (.tuple #[.int .i64 0, .int .i64 (er : Nat)])) ∨
   (∃ v, Hid (ccount bs most = (v, bs.drop 4, 0)) ∧ v < 4294967296 ∧ 4 ≤ bs.length ∧ e = .returned (.tuple #[.int .i64 (v : Nat), .int .i64 0])))

set_option maxRecDepth 10000 in
theorem refCount_any (w : World) (o : Option Addr) (n c : Nat) (bs : List Nat) (most : Int) (hn : n = bs.length) (h : Sl w o c bs) (hlid : bs.length ≤ 140737488355328) (hm1 : -9223372036854775808 ≤ most) (hm2 : most ≤ 9223372036854775807) :
    Calls Try.prog 72 #[.slice o n c, .int .i64 most] w (RCntTo w bs most) := by
  subst hn
  by_cases hs : bs.length < 4
  · go_enter Try.func72, Try.ntmps72
    go_wp2
    go_ret2
    exact ⟨rfl, .inl ⟨4, by show _ = _; simp [ccount, hs], by omega, by omega, rfl⟩⟩
  · have hvl : val (bs.take 4) < 4294967296 := val_take_lt bs h.row.1 4 (by omega)
    obtain ⟨v, hv⟩ : ∃ v, v = val (bs.take 4) := ⟨_, rfl⟩
    rw [← hv] at hvl
    have HV : Hid (v = val (bs.take 4)) := hv
    go_enter Try.func72, Try.ntmps72
    go_wp2_with fail
    refine (refValue_any w o _ c bs 4 rfl h.row (by omega) (by omega) hlid).mono ?_
    rw [← hv]
    clear hv
    rintro e w1 ⟨rfl, rfl⟩
    by_cases hl : most.toNat < v
    · have hl1 : max most 0 < (v : Int) := by omega
      go_wp2
      go_ret2
      exact ⟨rfl, .inl ⟨3, by show _ = _; rw [HV.out] at hl; simp [ccount, hs, hl], by omega, by omega, rfl⟩⟩
    · have hl1 : ¬ max most 0 < (v : Int) := by omega
      go_wp2
      go_ret2
      exact ⟨rfl, .inr ⟨v, by show _ = _; rw [HV.out] at hl; simp [ccount, hs, hl, HV.out], hvl, by omega, rfl⟩⟩
end Go.Proofs.Ytclheacjhkoocaa

import Derived.Test.YtgamhblkgojapaaGreatDoorR1
import Derived.OwnWalk
namespace Go.Proofs.YtgamhblkgojapaaGreatDoor
open Go.RowKit
open Pk
set_option linter.unusedVariables false
set_option linter.unusedSimpArgs false

theorem rnum_lt (k : Nat) (bs : List Nat) (e : Nat) (h : ∀ c ∈ bs, c < 256) : (rnum k (bs, e)).1 < 256 ^ k := by
  unfold rnum
  have hp : 0 < 256 ^ k := Nat.pow_pos (by decide)
  split
  · exact hp
  · split
    · exact hp
    · exact val_take_lt bs h k (by simp at *; omega)

theorem rU64_any (w : World) (a : Nat) (o : Option Addr) (c : Nat) (bs : List Nat) (e0 : Nat) (h : IsR 148 w a o c bs e0) :
    Calls Tryz.prog 95 #[.pointer (some ⟨a, 0, none⟩)] w fun e w' => e = .returned (.int .u64 ((rnum 8 (bs, e0)).1 : Nat)) ∧ RStep 148 w a o (rnum 8 (bs, e0)).2 w' := by
  go_enter Tryz.func95, Tryz.ntmps95
  go_wp2_with fail
  refine (number_any w a o c bs e0 8 (by omega) h).mono ?_
  rintro e w1 ⟨rfl, hst⟩
  go_wp2
  go_ret
  exact ⟨rfl, hst⟩
theorem rU32_any (w : World) (a : Nat) (o : Option Addr) (c : Nat) (bs : List Nat) (e0 : Nat) (h : IsR 148 w a o c bs e0) :
    Calls Tryz.prog 93 #[.pointer (some ⟨a, 0, none⟩)] w fun e w' => e = .returned (.int .u32 ((rnum 4 (bs, e0)).1 : Nat)) ∧ RStep 148 w a o (rnum 4 (bs, e0)).2 w' := by
  have hb := rnum_lt 4 bs e0 h.sl.row.1
  go_enter Tryz.func93, Tryz.ntmps93
  go_wp2_with (go_at_call 110; go_must (refine (number_any _ a o c bs e0 4 (by omega) h).mono ?_); rintro e w' ⟨rfl, hr⟩)
  go_ret
  exact ⟨by congr 2, hr⟩
theorem rU8_any (w : World) (a : Nat) (o : Option Addr) (c : Nat) (bs : List Nat) (e0 : Nat) (h : IsR 148 w a o c bs e0) :
    Calls Tryz.prog 94 #[.pointer (some ⟨a, 0, none⟩)] w fun e w' => e = .returned (.int .u8 ((rnum 1 (bs, e0)).1 : Nat)) ∧ RStep 148 w a o (rnum 1 (bs, e0)).2 w' := by
  have hlt : (rnum 1 (bs, e0)).1 < 256 := rnum_lt 1 bs e0 h.sl.row.1
  go_enter Tryz.func94, Tryz.ntmps94
  go_wp2_with fail
  refine (number_any w a o c bs e0 1 (by omega) h).mono ?_
  rintro e w1 ⟨rfl, hst⟩
  go_wp2
  go_ret
  exact ⟨rfl, hst⟩
def rend (bs : List Nat) (e0 : Nat) : Nat := if e0 = 0 ∧ 0 < bs.length then 5 else e0
theorem rEnd_any (w : World) (a : Nat) (o : Option Addr) (c : Nat) (bs : List Nat) (e0 : Nat) (h : IsR 148 w a o c bs e0) :
    Calls Tryz.prog 98 #[.pointer (some ⟨a, 0, none⟩)] w fun e w' => e = .returned (.int .i64 (rend bs e0 : Nat)) ∧ w' = w := by
  have c0 : w.cell? ⟨a, 0, none⟩ = some (.slice o bs.length c) := cell_of_blk h.blk 0
  have c1 : w.cell? ⟨a, 1, none⟩ = some (.int .i64 (e0 : Nat)) := cell_of_blk h.blk 1
  by_cases he : e0 = 0
  · subst he
    by_cases hl : 0 < bs.length
    · go_enter Tryz.func98, Tryz.ntmps98
      go_wp2
      go_ret
      rw [rend, if_pos ⟨rfl, hl⟩]
      exact ⟨rfl, rfl⟩
    · go_enter Tryz.func98, Tryz.ntmps98
      go_wp2
      go_ret
      rw [rend, if_neg (by omega)]
      exact ⟨rfl, rfl⟩
  · have he' : ¬ ((e0 : Nat) : Int) = 0 := by omega
    go_enter Tryz.func98, Tryz.ntmps98
    go_wp2
    go_ret
    rw [rend, if_neg (by omega)]
    exact ⟨rfl, rfl⟩

/-- what cutCount tells -/
def CntTo (w : World) (o : Option Addr) (bs : List Nat) (most : Int) (e : Ending) (w' : World) : Prop :=
  (∃ m, w' = w.drewN m) ∧
  ((∃ er, Hid (ccount bs most = (0, bs, er)) ∧ 0 < er ∧ er ≤ 5 ∧ e = .returned (.tuple #[.int .i64 0, .slice none 0 0, .int .i64 (er : Nat)])) ∨
   (∃ v o' c' n', Hid (ccount bs most = (v, bs.drop 4, 0)) ∧ v < 4294967296 ∧ e = .returned (.tuple #[.int .i64 (v : Nat), .slice o' n' c', .int .i64 0]) ∧ Hid (n' = (bs.drop 4).length) ∧ n' ≤ 140737488355328 ∧ BSl w o' c' (bs.drop 4) ∧ BSub o o'))

set_option maxRecDepth 10000 in
theorem cutCount_any (w : World) (o : Option Addr) (n c : Nat) (bs : List Nat) (most : Int) (hn : n = bs.length) (h : BSl w o c bs) (hlid : bs.length ≤ 140737488355328) (hm1 : -9223372036854775808 ≤ most) (hm2 : most ≤ 9223372036854775807) :
    Calls Tryz.prog 127 #[.slice o n c, .int .i64 most] w (CntTo w o bs most) := by
  subst hn
  by_cases hs : bs.length < 4
  · go_enter Tryz.func127, Tryz.ntmps127
    go_wp2
    go_ret3
    exact ⟨⟨0, rfl⟩, .inl ⟨4, by show _ = _; simp [ccount, hs], by omega, by omega, rfl⟩⟩
  · obtain ⟨A, d, hcut, hsl, hsub⟩ := cut_h w o c bs bs.length 4 4 rfl rfl (by omega) h
    obtain ⟨A', d', hcut', hsl', hsub'⟩ := cut_l w o c bs bs.length 4 4 rfl rfl (by omega) h
    have hvl : val (bs.take 4) < 4294967296 := val_take_lt bs h.row.1 4 (by omega)
    have HSL : Hid (BSl w A d (bs.take 4)) := hsl
    have HSL' : Hid (BSl w A' d' (bs.drop 4)) := hsl'
    have HSUB' : Hid (BSub o A') := hsub'
    clear hsl hsl' hsub hsub'
    obtain ⟨v, hv⟩ : ∃ v, v = val (bs.take 4) := ⟨_, rfl⟩
    rw [← hv] at hvl
    have HV : Hid (v = val (bs.take 4)) := hv
    go_enter Tryz.func127, Tryz.ntmps127
    go_wp2_with fail
    refine (numberAt_any w A 4 d (bs.take 4) (by rw [List.length_take]; omega) HSL.out.row (by rw [List.length_take]; omega)).mono ?_
    rw [← hv]
    clear hv
    rintro e w1 ⟨rfl, rfl⟩
    by_cases hl : most.toNat < v
    · have hl1 : max most 0 < (v : Int) := by omega
      have hl2 : 0 ≤ max most 0 := by omega
      go_wp2
      go_ret3
      exact ⟨⟨0, rfl⟩, .inl ⟨3, by show _ = _; rw [HV.out] at hl; simp [ccount, hs, hl], by omega, by omega, rfl⟩⟩
    · have hl1 : ¬ max most 0 < (v : Int) := by omega
      have hl2 : 0 ≤ max most 0 := by omega
      go_wp2
      go_quiet (fail)
      go_wp2
      go_ret3
      refine ⟨⟨_, rfl⟩, .inr ⟨v, A', d', bs.length - 4, by show _ = _; rw [HV.out] at hl; simp [ccount, hs, hl, HV.out], hvl, rfl, by show _ = _; rw [List.length_drop], by omega, HSL'.out, HSUB'.out⟩⟩
end Go.Proofs.YtgamhblkgojapaaGreatDoor

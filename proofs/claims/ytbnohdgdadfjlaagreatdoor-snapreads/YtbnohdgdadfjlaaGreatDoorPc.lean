import Derived.Test.YtbnohdgdadfjlaaGreatDoorPb
import Derived.Laws.BitsAllLaws
import Derived.OwnWalk
namespace Go.Proofs.YtbnohdgdadfjlaaGreatDoor
open Go.RowKit
open Pk
set_option linter.unusedVariables false
set_option linter.unusedSimpArgs false

theorem getD_lt (bs : List Nat) (hby : ∀ c ∈ bs, c < 256) (k : Nat) (h : k < bs.length) : bs.getD k 0 < 256 := by
  rw [List.getD_eq_getElem?_getD, List.getElem?_eq_getElem h]
  exact hby _ (List.getElem_mem h)
theorem val_snoc (bs : List Nat) (k : Nat) (h : k < bs.length) : val (bs.take (k + 1)) = val (bs.take k) * 256 + bs.getD k 0 := by
  rw [List.take_succ_eq_append_getElem h, val_append]
  simp [List.getD_eq_getElem?_getD, h]
theorem val_take_lt (bs : List Nat) (hby : ∀ c ∈ bs, c < 256) (k : Nat) (hk : k ≤ bs.length) : val (bs.take k) < 256 ^ k := by
  have := val_lt (bs.take k) (fun c hc => hby c (List.mem_of_mem_take hc))
  rwa [List.length_take, Nat.min_eq_left hk] at this

theorem or_num (r x : Nat) (hr : r < 72057594037927936) (hx : x < 256) : bits .or .u64 ((r : Int) * 256) (x : Int) = ((r * 256 + x : Nat) : Int) := by
  have e : ((r : Int) * 256) = ((r * 256 : Nat) : Int) := by omega
  rw [e, u64_or_nat _ _ (by omega) (by omega)]
  have := Nat.two_pow_add_eq_or_of_lt (i := 8) (b := x) (by omega) r
  rw [show r * 256 = 2 ^ 8 * r by omega, ← this]

set_option maxRecDepth 10000 in
theorem numberAt_any (w : World) (o : Option Addr) (n c : Nat) (bs : List Nat) (hn : n = bs.length) (hrow : BRow w o bs) (h8 : bs.length ≤ 8) :
    Calls Tryz.prog 151 #[.slice o n c] w fun e w' => e = .returned (.int .u64 (val bs : Nat)) ∧ w' = w := by
  obtain ⟨hby, hm, hcell⟩ := hrow
  have HN : Hid (n = bs.length) := hn
  have hn8 : n ≤ 8 := by omega
  clear hn h8 hm
  go_enter Tryz.func151, Tryz.ntmps151
  go_wp2_with fail
  go_loop [3, 8] (fun r i => ∃ k : Nat, k ≤ n ∧ i = .int .i64 k ∧ r = .int .u64 (val (bs.take k) : Nat)) (fun _ i => n - (intOf i).toNat)
  case atStart => exact ⟨0, by omega, rfl, by simp [val]⟩
  case round =>
    obtain ⟨k, hk, rfl, rfl⟩ := hrel
    by_cases h2 : k < n
    · have hkb : k < bs.length := by have := HN.out; omega
      have hcl := getD_lt bs hby k hkb
      have hsn := val_snoc bs k hkb
      have hvl := val_take_lt bs hby k (by omega)
      have hp : 256 ^ k ≤ 72057594037927936 := by
        have : 256 ^ k ≤ 256 ^ 7 := Nat.pow_le_pow_right (by decide) (by omega)
        simpa using this
      rcases hcell with h0 | ⟨b, off, rfl, hc⟩
      · rw [h0] at hkb; simp at hkb
      obtain ⟨x, hcc⟩ : ∃ x, x = bs.getD k 0 := ⟨_, rfl⟩
      obtain ⟨r, hr⟩ : ∃ r, r = val (bs.take k) := ⟨_, rfl⟩
      have hck := hc k hkb
      rw [← hcc] at hcl hsn hck
      rw [← hr] at hsn hvl ⊢
      have HS : Hid (val (bs.take (k + 1)) = r * 256 + x) := hsn
      have hr7 : r < 72057594037927936 := by omega
      have hor := or_num r x hr7 hcl
      clear hsn hcc hc hby hr hvl hp
      go_wp2_with fail
      go_round
      case rel => exact ⟨k + 1, by omega, by go_num, by rw [HS.out]; go_num⟩
      case measure => simp [intOf]; omega
    · go_wp2_with fail
      go_ret
      obtain rfl : k = n := by omega
      rw [HN.out, List.take_length]
      exact ⟨rfl, rfl⟩

/-- a slice that is read: its bytes -/
structure BSl (w : World) (o : Option Addr) (c : Nat) (bs : List Nat) : Prop where
  row : BRow w o bs
  cap : bs.length ≤ c
  nil : o = none → c = 0
def BSub (o o' : Option Addr) : Prop := ∀ x, o' = some x → ∃ y, o = some y ∧ x.block = y.block
theorem BSub.refl (o : Option Addr) : BSub o o := fun x hx => ⟨x, hx, rfl⟩
theorem BSub.trans {a b c : Option Addr} (h : BSub a b) (k : BSub b c) : BSub a c := fun x hx => by
  obtain ⟨y, hy, e⟩ := k x hx
  obtain ⟨z, hz, e'⟩ := h y hy
  exact ⟨z, hz, e.trans e'⟩
theorem BSub.in {a b : Option Addr} (h : BSub a b) : ∀ k, inO b k → inO a k := by
  rintro k ⟨x, hx, rfl⟩
  obtain ⟨y, hy, e⟩ := h x hx
  exact ⟨y, hy, e.symm⟩
theorem BSl.keeps {S : Nat → Prop} {w w' : World} {a : Option Addr} {c : Nat} {bs : List Nat} (h : BSl w a c bs) (hk : Keeps S w w') (ha : ∀ k, inO a k → ¬ S k) : BSl w' a c bs :=
  ⟨h.row.keeps hk (fun x hx => ha x.block ⟨x, hx, rfl⟩), h.cap, h.nil⟩
theorem BSl.drewN {w : World} {a : Option Addr} {c : Nat} {bs : List Nat} (h : BSl w a c bs) (m : Nat) : BSl (w.drewN m) a c bs := h.keeps (keeps_drewN (fun _ => False) w m) (fun _ _ h => h)

theorem slB : Tryz.prog.underlying 27 = some (.slice (Tryz.prog.elem 27)) := by kernel_rfl
theorem cut_h (w0 : World) (o : Option Addr) (c : Nat) (bs : List Nat) (n I : Nat) (i : Int) (hi : i = (I : Nat)) (hn : n = bs.length) (hI : I ≤ n) (h : BSl w0 o c bs) :
    ∃ A d, (∀ w, (Instr.slice 27 (.slice o n c) none (some (.int .i64 i)) none).run Tryz.prog w = .ok (.slice A I d) w) ∧ BSl w0 A d (bs.take I) ∧ BSub o A := by
  subst hi hn
  have hcap := h.cap
  match o, h with
  | none, h =>
    obtain rfl : c = 0 := h.nil rfl
    obtain rfl : I = 0 := by omega
    have h0 : bs = [] := List.length_eq_zero_iff.mp (by omega)
    subst h0
    refine ⟨none, 0, fun w => ?_, ⟨h.row.take 0, by simp, fun _ => rfl⟩, BSub.refl _⟩
    rw [run_slice_h w 27 none _ 0 slB .i64 _ (by omega) (by omega)]
    go_simp
  | some ad, h =>
    refine ⟨some ad, c, fun w => ?_, ⟨h.row.take I, by rw [List.length_take]; omega, h.nil⟩, BSub.refl _⟩
    rw [run_slice_h w 27 (some ad) _ c slB .i64 _ (by omega) (by omega)]
    go_simp
theorem cut_l (w0 : World) (o : Option Addr) (c : Nat) (bs : List Nat) (n I : Nat) (i : Int) (hi : i = (I : Nat)) (hn : n = bs.length) (hI : I ≤ n) (h : BSl w0 o c bs) :
    ∃ A d, (∀ w, (Instr.slice 27 (.slice o n c) (some (.int .i64 i)) none none).run Tryz.prog w = .ok (.slice A (n - I) d) w) ∧ BSl w0 A d (bs.drop I) ∧ BSub o A := by
  subst hi hn
  have hcap := h.cap
  match o, h with
  | none, h =>
    obtain rfl : c = 0 := h.nil rfl
    obtain rfl : I = 0 := by omega
    have h0 : bs = [] := List.length_eq_zero_iff.mp (by omega)
    subst h0
    refine ⟨none, 0, fun w => ?_, ⟨h.row.drop 0 (fun _ b off e => by cases e), by simp, fun _ => rfl⟩, BSub.refl _⟩
    rw [run_slice_l w 27 none _ 0 slB .i64 _ (by omega) (by simp)]
    go_simp
  | some ad, h =>
    refine ⟨some (if c = I then ad else ad.add I), c - I, fun w => ?_, ⟨h.row.drop I (fun hlt b off e => ?_), by rw [List.length_drop]; omega, by simp⟩, ?_⟩
    · rw [run_slice_l w 27 (some ad) _ c slB .i64 _ (by omega) (by omega)]
      by_cases h : c = I
      · go_simp
      · go_simp
    · cases e
      rw [if_neg (by omega), addr_add]
    · intro x hx
      refine ⟨ad, rfl, ?_⟩
      cases hx
      split
      · rfl
      · obtain ⟨b, off, sp⟩ := ad
        simp [Addr.add]
        split <;> rfl

/-- a reader (of type t) at block a: what is left, its error -/
structure IsR (t : Nat) (w : World) (a : Nat) (o : Option Addr) (c : Nat) (bs : List Nat) (e : Nat) : Prop where
  blk : w.heap[a]? = some (.cells #[.slice o bs.length c, .int .i64 (e : Nat)] t (0, 0))
  sl : BSl w o c bs
  ap : ¬ inO o a
  live : ∀ k, inO o k → k < w.heap.size
  lid : bs.length ≤ 140737488355328
  er : e ≤ 5
theorem IsR.keeps {S : Nat → Prop} {t : Nat} {w w' : World} {a : Nat} {o : Option Addr} {c : Nat} {bs : List Nat} {e : Nat} (h : IsR t w a o c bs e) (hk : Keeps S w w') (h1 : ∀ k, footW a o k → ¬ S k) : IsR t w' a o c bs e :=
  ⟨hk.at h.blk (h1 a (.inl rfl)), h.sl.keeps hk (fun k hk => h1 k (.inr hk)), h.ap, fun k hh => Nat.lt_of_lt_of_le (h.live k hh) hk.size, h.lid, h.er⟩
theorem IsR.lt {t : Nat} {w : World} {a : Nat} {o : Option Addr} {c : Nat} {bs : List Nat} {e : Nat} (h : IsR t w a o c bs e) : ∀ k, footW a o k → k < w.heap.size := by
  rintro k (rfl | hk)
  · exact lt_of_block h.blk
  · exact h.live k hk
theorem IsR.drewN {t : Nat} {w : World} {a : Nat} {o : Option Addr} {c : Nat} {bs : List Nat} {e : Nat} (h : IsR t w a o c bs e) (m : Nat) : IsR t (w.drewN m) a o c bs e := h.keeps (keeps_drewN (fun _ => False) w m) (fun _ _ h => h)
def RStep (t : Nat) (w : World) (a : Nat) (o : Option Addr) (st : RS) (w' : World) : Prop :=
  ∃ o' c', IsR t w' a o' c' st.1 st.2 ∧ BSub o o' ∧ Keeps (fun k => k = a) w w'

/-- the rest is stored -/
theorem IsR.put {t : Nat} {w : World} {a : Nat} {o o1 : Option Addr} {c c1 : Nat} {bs bs1 : List Nat} {e : Nat} (h : IsR t w a o c bs e) (hs : BSl w o1 c1 bs1) (hsub : BSub o o1) (hlid : bs1.length ≤ 140737488355328) (n1 : Nat) (hn1 : n1 = bs1.length) :
    IsR t (w.setCell ⟨a, 0, none⟩ (.slice o1 n1 c1)) a o1 c1 bs1 e ∧ Keeps (fun k => k = a) w (w.setCell ⟨a, 0, none⟩ (.slice o1 n1 c1)) := by
  subst hn1
  have hap : ¬ inO o1 a := fun hin => h.ap (hsub.in a hin)
  have hkk : Keeps (fun k => k = a) w (w.setCell ⟨a, 0, none⟩ (.slice o1 bs1.length c1)) := keeps_set _ _ _ _
  refine ⟨⟨?_, hs.keeps hkk (fun k hk e => hap (e ▸ hk)), hap, fun k hk => ?_, hlid, h.er⟩, hkk⟩
  · rw [blk_set h.blk]; rfl
  · rw [World.size_setCell]; exact h.live k (hsub.in k hk)
theorem IsR.err {t : Nat} {w : World} {a : Nat} {o : Option Addr} {c : Nat} {bs : List Nat} {e : Nat} (h : IsR t w a o c bs e) (e1 : Nat) (he : e1 ≤ 5) :
    IsR t (w.setCell ⟨a, 1, none⟩ (.int .i64 (e1 : Nat))) a o c bs e1 ∧ Keeps (fun k => k = a) w (w.setCell ⟨a, 1, none⟩ (.int .i64 (e1 : Nat))) := by
  have hkk : Keeps (fun k => k = a) w (w.setCell ⟨a, 1, none⟩ (.int .i64 (e1 : Nat))) := keeps_set _ _ _ _
  refine ⟨⟨?_, h.sl.keeps hkk (fun k hk e => h.ap (e ▸ hk)), h.ap, fun k hk => ?_, h.lid, he⟩, hkk⟩
  · rw [blk_set h.blk]; rfl
  · rw [World.size_setCell]; exact h.live k hk

theorem newReader_any (w : World) (o : Option Addr) (n c : Nat) (bs : List Nat) (hn : n = bs.length) (h : BSl w o c bs) (hlid : bs.length ≤ 140737488355328) :
    Calls Tryz.prog 37 #[.slice o n c] w fun e w' => ∃ a o' c', e = .returned (.pointer (some ⟨a, 0, none⟩)) ∧ IsR 146 w' a o' c' bs 0 ∧ (∀ k, footW a o' k → w.heap.size ≤ k) ∧ Keeps (fun _ => False) w w' := by
  subst hn
  match o, h with
  | none, h =>
    obtain rfl : c = 0 := h.nil rfl
    have h0 : bs = [] := List.length_eq_zero_iff.mp (by have := h.cap; omega)
    subst h0
    go_enter Tryz.func37, Tryz.ntmps37
    go_wp2_with fail
    refine (clone_none w).mono ?_
    rintro e w1 ⟨rfl, rfl⟩
    go_wp2
    go_ret
    refine ⟨w1.heap.size, none, 0, rfl, ⟨blk_new _ _, ⟨⟨by simp, by simp, .inl rfl⟩, by simp, fun _ => rfl⟩, fun ⟨x, h, _⟩ => (by cases h), fun k ⟨x, h, _⟩ => (by cases h), by simp, by simp⟩, ?_, (Keeps.refl _ _).alloc _⟩
    rintro k (rfl | ⟨x, h, _⟩)
    · omega
    · cases h
  | some ad, h =>
    go_enter Tryz.func37, Tryz.ntmps37
    go_wp2_with fail
    refine (clone_some w ad bs _ c rfl h.row hlid).mono ?_
    rintro e w1 ⟨g, c', rfl, hg, hown, hk⟩
    go_wp2
    go_ret
    have hgl := hown.lt g ⟨_, rfl, rfl⟩
    have hsz := hk.size
    refine ⟨w1.heap.size, some ⟨g, 0, none⟩, c', rfl, ⟨blk_new _ _, ⟨(hown.alloc _).row h.row.1 h.row.2.1, hown.cap.1, fun h => (by cases h)⟩, ?_, ?_, hlid, by simp⟩, ?_, hk.alloc _⟩
    · rintro ⟨x, hx, e⟩
      cases hx; simp at e; omega
    · rintro k ⟨x, hx, e⟩
      cases hx; subst e; simp; omega
    · rintro k (rfl | ⟨x, hx, e⟩)
      · omega
      · cases hx; subst e; exact hg

set_option maxRecDepth 10000 in
theorem number_any (w : World) (a : Nat) (o : Option Addr) (c : Nat) (bs : List Nat) (e0 : Nat) (I : Nat) (hI8 : I ≤ 8) (h : IsR 146 w a o c bs e0) :
    Calls Tryz.prog 128 #[.pointer (some ⟨a, 0, none⟩), .int .i64 (I : Nat)] w fun e w' => e = .returned (.int .u64 ((rnum I (bs, e0)).1 : Nat)) ∧ RStep 146 w a o (rnum I (bs, e0)).2 w' := by
  have c0 : w.cell? ⟨a, 0, none⟩ = some (.slice o bs.length c) := cell_of_blk h.blk 0
  have c1 : w.cell? ⟨a, 1, none⟩ = some (.int .i64 (e0 : Nat)) := cell_of_blk h.blk 1
  have f0 : w.frozen? ⟨a, 0, none⟩ = false := frozen_of_blk h.blk 0
  have f1 : w.frozen? ⟨a, 1, none⟩ = false := frozen_of_blk h.blk 1
  have hlid := h.lid
  by_cases he : e0 = 0
  · subst he
    by_cases hs : bs.length < I
    · go_enter Tryz.func128, Tryz.ntmps128
      go_wp2
      go_ret
      obtain ⟨h4, hk4⟩ := h.err 4 (by omega)
      have er : rnum I (bs, 0) = (0, (bs, 4)) := by simp [rnum, hs]
      rw [er]
      exact ⟨rfl, o, c, h4, BSub.refl _, hk4⟩
    · obtain ⟨A, d, hcut, hsl, hsub⟩ := cut_h w o c bs bs.length I I rfl rfl (by omega) h.sl
      obtain ⟨A', d', hcut', hsl', hsub'⟩ := cut_l w o c bs bs.length I I rfl rfl (by omega) h.sl
      have HSL : Hid (BSl w A d (bs.take I)) := hsl
      clear hsl
      go_enter Tryz.func128, Tryz.ntmps128
      go_wp2_with fail
      refine (numberAt_any w A I d (bs.take I) (by rw [List.length_take]; omega) HSL.out.row (by rw [List.length_take]; omega)).mono ?_
      rintro e w1 ⟨rfl, rfl⟩
      go_wp2
      go_ret
      obtain ⟨hW, hK⟩ := h.put hsl' hsub' (by rw [List.length_drop]; omega) (bs.length - I) (by rw [List.length_drop])
      have er : rnum I (bs, 0) = (val (bs.take I), (bs.drop I, 0)) := by simp [rnum, hs]
      rw [er]
      exact ⟨rfl, A', d', hW, hsub', hK⟩
  · have he' : ¬ ((e0 : Nat) : Int) = 0 := by omega
    go_enter Tryz.func128, Tryz.ntmps128
    go_wp2
    go_ret
    have er : rnum I (bs, e0) = (0, (bs, e0)) := by simp [rnum, he]
    rw [er]
    exact ⟨rfl, o, c, h, BSub.refl _, Keeps.refl _ _⟩
end Go.Proofs.YtbnohdgdadfjlaaGreatDoor
namespace Go.Proofs.YtbnohdgdadfjlaaGreatDoor
open Go.RowKit
open Pk
set_option linter.unusedVariables false
set_option linter.unusedSimpArgs false

theorem rnum_lt (k : Nat) (bs : List Nat) (e : Nat) (h : ∀ c ∈ bs, c < 256) : (rnum k (bs, e)).1 < 256 ^ k := by
  unfold rnum
  have hp : 0 < 256 ^ k := Nat.pow_pos (by decide)
  split
  · exact hp
  · split
    · exact hp
    · exact val_take_lt bs h k (by simp at *; omega)

theorem rU64_any (w : World) (a : Nat) (o : Option Addr) (c : Nat) (bs : List Nat) (e0 : Nat) (h : IsR 146 w a o c bs e0) :
    Calls Tryz.prog 80 #[.pointer (some ⟨a, 0, none⟩)] w fun e w' => e = .returned (.int .u64 ((rnum 8 (bs, e0)).1 : Nat)) ∧ RStep 146 w a o (rnum 8 (bs, e0)).2 w' := by
  go_enter Tryz.func80, Tryz.ntmps80
  go_wp2_with fail
  refine (number_any w a o c bs e0 8 (by omega) h).mono ?_
  rintro e w1 ⟨rfl, hst⟩
  go_wp2
  go_ret
  exact ⟨rfl, hst⟩
theorem rU32_any (w : World) (a : Nat) (o : Option Addr) (c : Nat) (bs : List Nat) (e0 : Nat) (h : IsR 146 w a o c bs e0) :
    Calls Tryz.prog 78 #[.pointer (some ⟨a, 0, none⟩)] w fun e w' => e = .returned (.int .u32 ((rnum 4 (bs, e0)).1 : Nat)) ∧ RStep 146 w a o (rnum 4 (bs, e0)).2 w' := by
  have hb := rnum_lt 4 bs e0 h.sl.row.1
  go_enter Tryz.func78, Tryz.ntmps78
  go_wp2_with (go_at_call 128; go_must (refine (number_any _ a o c bs e0 4 (by omega) h).mono ?_); rintro e w' ⟨rfl, hr⟩)
  go_ret
  exact ⟨by congr 2, hr⟩
theorem rU8_any (w : World) (a : Nat) (o : Option Addr) (c : Nat) (bs : List Nat) (e0 : Nat) (h : IsR 146 w a o c bs e0) :
    Calls Tryz.prog 79 #[.pointer (some ⟨a, 0, none⟩)] w fun e w' => e = .returned (.int .u8 ((rnum 1 (bs, e0)).1 : Nat)) ∧ RStep 146 w a o (rnum 1 (bs, e0)).2 w' := by
  have hlt : (rnum 1 (bs, e0)).1 < 256 := rnum_lt 1 bs e0 h.sl.row.1
  go_enter Tryz.func79, Tryz.ntmps79
  go_wp2_with fail
  refine (number_any w a o c bs e0 1 (by omega) h).mono ?_
  rintro e w1 ⟨rfl, hst⟩
  go_wp2
  go_ret
  exact ⟨rfl, hst⟩
def rend (bs : List Nat) (e0 : Nat) : Nat := if e0 = 0 ∧ 0 < bs.length then 5 else e0
theorem rEnd_any (w : World) (a : Nat) (o : Option Addr) (c : Nat) (bs : List Nat) (e0 : Nat) (h : IsR 146 w a o c bs e0) :
    Calls Tryz.prog 41 #[.pointer (some ⟨a, 0, none⟩)] w fun e w' => e = .returned (.int .i64 (rend bs e0 : Nat)) ∧ w' = w := by
  have c0 : w.cell? ⟨a, 0, none⟩ = some (.slice o bs.length c) := cell_of_blk h.blk 0
  have c1 : w.cell? ⟨a, 1, none⟩ = some (.int .i64 (e0 : Nat)) := cell_of_blk h.blk 1
  by_cases he : e0 = 0
  · subst he
    by_cases hl : 0 < bs.length
    · go_enter Tryz.func41, Tryz.ntmps41
      go_wp2
      go_ret
      rw [rend, if_pos ⟨rfl, hl⟩]
      exact ⟨rfl, rfl⟩
    · go_enter Tryz.func41, Tryz.ntmps41
      go_wp2
      go_ret
      rw [rend, if_neg (by omega)]
      exact ⟨rfl, rfl⟩
  · have he' : ¬ ((e0 : Nat) : Int) = 0 := by omega
    go_enter Tryz.func41, Tryz.ntmps41
    go_wp2
    go_ret
    rw [rend, if_neg (by omega)]
    exact ⟨rfl, rfl⟩

/-- what cutCount tells -/
def CntTo (w : World) (o : Option Addr) (bs : List Nat) (most : Int) (e : Ending) (w' : World) : Prop :=
  (∃ m, w' = w.drewN m) ∧
  ((∃ er, Hid (ccount bs most = (0, bs, er)) ∧ 0 < er ∧ er ≤ 5 ∧ e = .returned (.tuple #[.int .i64 0, .slice none 0 0, .int .i64 (er : Nat)])) ∨
   (∃ v o' c' n', Hid (ccount bs most = (v, bs.drop 4, 0)) ∧ v < 4294967296 ∧ e = .returned (.tuple #[.int .i64 (v : Nat), .slice o' n' c', .int .i64 0]) ∧ Hid (n' = (bs.drop 4).length) ∧ n' ≤ 140737488355328 ∧ BSl w o' c' (bs.drop 4) ∧ BSub o o'))

set_option maxRecDepth 10000 in
theorem cutCount_any (w : World) (o : Option Addr) (n c : Nat) (bs : List Nat) (most : Int) (hn : n = bs.length) (h : BSl w o c bs) (hlid : bs.length ≤ 140737488355328) (hm1 : -9223372036854775808 ≤ most) (hm2 : most ≤ 9223372036854775807) :
    Calls Tryz.prog 129 #[.slice o n c, .int .i64 most] w (CntTo w o bs most) := by
  subst hn
  by_cases hs : bs.length < 4
  · go_enter Tryz.func129, Tryz.ntmps129
    go_wp2
    go_ret3
    exact ⟨⟨0, rfl⟩, .inl ⟨4, by show _ = _; simp [ccount, hs], by omega, by omega, rfl⟩⟩
  · obtain ⟨A, d, hcut, hsl, hsub⟩ := cut_h w o c bs bs.length 4 4 rfl rfl (by omega) h
    obtain ⟨A', d', hcut', hsl', hsub'⟩ := cut_l w o c bs bs.length 4 4 rfl rfl (by omega) h
    have hvl : val (bs.take 4) < 4294967296 := val_take_lt bs h.row.1 4 (by omega)
    have HSL : Hid (BSl w A d (bs.take 4)) := hsl
    have HSL' : Hid (BSl w A' d' (bs.drop 4)) := hsl'
    have HSUB' : Hid (BSub o A') := hsub'
    clear hsl hsl' hsub hsub'
    obtain ⟨v, hv⟩ : ∃ v, v = val (bs.take 4) := ⟨_, rfl⟩
    rw [← hv] at hvl
    have HV : Hid (v = val (bs.take 4)) := hv
    go_enter Tryz.func129, Tryz.ntmps129
    go_wp2_with fail
    refine (numberAt_any w A 4 d (bs.take 4) (by rw [List.length_take]; omega) HSL.out.row (by rw [List.length_take]; omega)).mono ?_
    rw [← hv]
    clear hv
    rintro e w1 ⟨rfl, rfl⟩
    by_cases hl : most.toNat < v
    · have hl1 : max most 0 < (v : Int) := by omega
      have hl2 : 0 ≤ max most 0 := by omega
      go_wp2
      go_ret3
      exact ⟨⟨0, rfl⟩, .inl ⟨3, by show _ = _; rw [HV.out] at hl; simp [ccount, hs, hl], by omega, by omega, rfl⟩⟩
    · have hl1 : ¬ max most 0 < (v : Int) := by omega
      have hl2 : 0 ≤ max most 0 := by omega
      go_wp2
      go_quiet (fail)
      go_wp2
      go_ret3
      refine ⟨⟨_, rfl⟩, .inr ⟨v, A', d', bs.length - 4, by show _ = _; rw [HV.out] at hl; simp [ccount, hs, hl, HV.out], hvl, rfl, by show _ = _; rw [List.length_drop], by omega, HSL'.out, HSUB'.out⟩⟩
end Go.Proofs.YtbnohdgdadfjlaaGreatDoor
namespace Go.Proofs.YtbnohdgdadfjlaaGreatDoor
open Go.RowKit
open Pk
set_option linter.unusedVariables false
set_option linter.unusedSimpArgs false

/-- bytes as a text -/
def text (bs : List Nat) : ByteArray := ⟨(bs.map UInt8.ofNat).toArray⟩
theorem nats_text (bs : List Nat) (h : ∀ c ∈ bs, c < 256) : nats (text bs) = bs := by
  unfold nats text
  rw [List.toList_toArray, List.map_map]
  conv => rhs; rw [← List.map_id bs]
  apply List.map_congr_left
  intro c hc
  have := h c hc
  simp [UInt8.toNat_ofNat']
  omega
theorem text_nats (s : ByteArray) : text (nats s) = s := by
  unfold nats text
  rw [List.map_map]
  have : (UInt8.ofNat ∘ UInt8.toNat) = id := by funext x; simp
  rw [this, List.map_id]
theorem foldl_push (ns : List Int) : ∀ (s : ByteArray), ns.foldl (fun r n => r.push (UInt8.ofNat n.toNat)) s = ⟨s.data ++ (ns.map fun n => UInt8.ofNat n.toNat).toArray⟩ := by
  induction ns with
  | nil => intro s; simp
  | cons n ns ih =>
    intro s
    rw [List.foldl_cons, ih]
    simp [ByteArray.push]
theorem run_text (w : World) (a : Option Addr) (bs : List Nat) (n cap : Nat) (hn : n = bs.length) (hr : BRow w a bs) :
    (convert 27 9 (.slice a n cap)).run Tryz.prog w = .ok (.string (text bs)) w := by
  subst hn
  rw [run_convert_bytes_string w 27 9 5 a bs.length cap Tryz.underlying27 Tryz.underlying5 Tryz.underlying9]
  match a, hr with
  | none, hr =>
    obtain rfl : bs = [] := by rcases hr.2.2 with h | ⟨b, off, h, _⟩; exact h; cases h
    simp [Conv.bytesToString, text]
    rfl
  | some ad, hr =>
    have hload := run_loadCells_list (P := Tryz.prog) w ad (vals bs) hr.news
    have e : vals bs = (bs.map fun c => ((c : Nat) : Int)).map (Value.int .u8) := by simp [vals]
    rw [vals_length] at hload
    rw [e] at hload
    rw [run_bytesToString w ad bs.length cap _ hload, foldl_push]
    congr 2
    simp [text]

theorem drew2 (w : World) (m n : Nat) : (w.drewN m).drewN n = w.drewN (m + n) := by simp [World.drewN, Nat.add_assoc]
/-- what cutText tells -/
def CtxTo (w : World) (o : Option Addr) (bs : List Nat) (most : Int) (e : Ending) (w' : World) : Prop :=
  (∃ m, w' = w.drewN m) ∧
  ((∃ er, Hid (ctext bs most = ([], bs, er)) ∧ 0 < er ∧ er ≤ 5 ∧ e = .returned (.tuple #[.slice none 0 0, .slice none 0 0, .int .i64 (er : Nat)])) ∨
   (∃ s r o1 c1 n1 o2 c2 n2, Hid (ctext bs most = (s, r, 0)) ∧ e = .returned (.tuple #[.slice o1 n1 c1, .slice o2 n2 c2, .int .i64 0]) ∧ Hid (n1 = s.length) ∧ Hid (n2 = r.length) ∧ n2 ≤ 140737488355328 ∧ BSl w o1 c1 s ∧ BSl w o2 c2 r ∧ BSub o o1 ∧ BSub o o2))

set_option maxRecDepth 10000 in
theorem cutText_any (w : World) (o : Option Addr) (n c : Nat) (bs : List Nat) (most : Int) (hn : n = bs.length) (h : BSl w o c bs) (hlid : bs.length ≤ 140737488355328) (hm1 : -9223372036854775808 ≤ most) (hm2 : most ≤ 9223372036854775807) :
    Calls Tryz.prog 130 #[.slice o n c, .int .i64 most] w (CtxTo w o bs most) := by
  go_enter Tryz.func130, Tryz.ntmps130
  have HN : Hid (n = bs.length) := hn
  clear hn
  go_wp2_with fail
  refine (cutCount_any w o n c bs most HN.out h hlid hm1 hm2).mono ?_
  rintro e w1 ⟨⟨m, rfl⟩, ⟨er, HE, her, her5, rfl⟩ | ⟨v, o', c', n', HE, hv, rfl, hn', hn5, hsl, hsub⟩⟩
  · have her' : ¬ ((er : Nat) : Int) = 0 := by omega
    go_wp2
    go_ret3
    exact ⟨⟨m, rfl⟩, .inl ⟨er, by show _ = _; simp [ctext, HE.out]; omega, her, her5, rfl⟩⟩
  · by_cases hlt : n' < v
    · go_wp2
      go_ret3
      exact ⟨⟨m, rfl⟩, .inl ⟨4, by show _ = _; have := hn'.out; simp [ctext, HE.out]; simp at this; omega, by omega, by omega, rfl⟩⟩
    · obtain ⟨A, d, hcut, hsl1, hsub1⟩ := cut_h w o' c' (bs.drop 4) n' v v rfl hn'.out (by omega) hsl
      obtain ⟨A', d', hcut', hsl', hsub'⟩ := cut_l w o' c' (bs.drop 4) n' v v rfl hn'.out (by omega) hsl
      go_wp2
      go_quiet (fail)
      go_wp2
      go_ret3
      have := hn'.out
      rw [List.length_drop] at this
      refine ⟨⟨_, drew2 _ _ _⟩, .inr ⟨(bs.drop 4).take v, (bs.drop 4).drop v, A, d, v, A', d', n' - v, ?_, rfl, ?_, ?_, by omega, hsl1, hsl', hsub.trans hsub1, hsub.trans hsub'⟩⟩
      · show _ = _
        unfold ctext
        rw [HE.out]
        simp
        omega
      · show _ = _; rw [List.length_take, List.length_drop]; omega
      · show _ = _; rw [List.length_drop, List.length_drop]; omega

/-- a list of texts of the call's own -/
def OwnsS (w : World) (o : Option Addr) (c : Nat) (ss : List ByteArray) : Prop := w.ownsRow 0 9 1 (.slice o ss.length c) ss.length (ss.map Value.string)
theorem OwnsS.shape {w : World} {o : Option Addr} {c : Nat} {ss : List ByteArray} (h : OwnsS w o c ss) : (o = none ∧ c = 0 ∧ ss = []) ∨ ∃ g cur, o = some ⟨g, 0, none⟩ ∧ w.heap[g]? = some (.cells cur 9 (0, 0)) ∧ ss.length ≤ c ∧ c ≤ maxLen ∧ cur.size = c ∧ cur.toList.take ss.length = ss.map Value.string := by
  rcases h.2 with ⟨e, h0⟩ | ⟨g, cap, cur, e, _, h1, h2, h3, h4, h5⟩
  · injection e with e1 e2 e3
    exact .inl ⟨e1, e3, List.length_eq_zero_iff.mp h0⟩
  · injection e with e1 e2 e3
    subst e3
    exact .inr ⟨g, cur, e1, h1, h2, h3, by simpa using h4, by simpa using h5⟩
theorem OwnsS.cap {w : World} {o : Option Addr} {c : Nat} {ss : List ByteArray} (h : OwnsS w o c ss) : ss.length ≤ c ∧ (o = none → c = 0) := by
  rcases h.shape with ⟨e, h0, h1⟩ | ⟨g, cur, e, _, h1, _⟩
  · subst h1; exact ⟨by simp, fun _ => h0⟩
  · exact ⟨h1, fun h => by rw [e] at h; cases h⟩
theorem OwnsS.keeps {S : Nat → Prop} {w w' : World} {o : Option Addr} {c : Nat} {ss : List ByteArray} (h : OwnsS w o c ss) (hk : Keeps S w w') (hv : ∀ k, inO o k → ¬ S k) : OwnsS w' o c ss :=
  ownsRow_keeps h hk (fun k hh => hv k ((own_blk _ _ _ _).1 hh))
theorem OwnsS.alloc {w : World} {o : Option Addr} {c : Nat} {ss : List ByteArray} (h : OwnsS w o c ss) (x : Obj) : OwnsS (w.alloc x) o c ss := World.ownsRow.alloc h x
theorem ownsS_nil (w : World) : OwnsS w none 0 [] := World.ownsRow_nil w 0 9 1
theorem OwnsS.row {w : World} {o : Option Addr} {c : Nat} {ss : List ByteArray} (h : OwnsS w o c ss) : RowS w o ss := by
  rcases h.shape with ⟨_, _, e⟩ | ⟨g, cur, rfl, hg, hc, hm, hs, ht⟩
  · exact .inl e
  · refine .inr ⟨g, 0, rfl, fun j hj => ?_⟩
    rw [Nat.zero_add, World.ownsRow.cellAt h j (by omega)]
    simp [hj]
theorem OwnsS.lt {w : World} {o : Option Addr} {c : Nat} {ss : List ByteArray} (h : OwnsS w o c ss) : ∀ k, inO o k → k < w.heap.size := by
  rintro k ⟨x, rfl, rfl⟩
  exact (World.ownsRow.lt h x.block rfl).2
theorem ownsS_val {w : World} {v : Value} {n : Nat} {ss : List ByteArray} (h : w.ownsRow 0 9 1 v n (ss.map Value.string)) : ∃ o c, v = .slice o n c ∧ n = ss.length ∧ OwnsS w o c ss := by
  have hn : n = ss.length := by have := h.1; simp at this; omega
  rcases h.2 with ⟨e, h0⟩ | ⟨g, cap, cur, e, _⟩
  · refine ⟨none, 0, by rw [e, h0], hn, ?_⟩
    unfold OwnsS
    rw [← hn, h0]
    rw [e, h0] at h
    exact h
  · refine ⟨_, _, e, hn, ?_⟩
    unfold OwnsS
    rw [← hn, ← e]
    exact h
theorem RowS.news {w : World} {ad : Addr} {ss : List ByteArray} (h : RowS w (some ad) ss) : ∀ j u, (ss.map Value.string)[j]? = some u → w.cell? (ad.add j) = some u := by
  intro j u hj
  have hjl : j < ss.length := by
    have := (List.getElem?_eq_some_iff.mp hj).1
    simpa using this
  rcases h with h | ⟨b, off, h, hc⟩
  · rw [h] at hjl; simp at hjl
  · cases h
    have := hc j hjl
    rw [← addr_add] at this
    have e : u = .string (ss.getD j ⟨#[]⟩) := by
      simp [hjl] at hj
      simp [hjl, hj]
    rw [e]
    exact this
/-- append(l, x...) of texts onto a list of the call's own -/
theorem wpList_appL {w : World} {ops : Array Oper} {rest : List Oper} {o : Oper} {a : Act} {Q : Exit → Act → World → Prop} (hgd : o.guard = none) (s x : Operand)
    (ho : o.op = .call { callee := .builtin .append, args := #[s, x], argTypes := #[47, 47] })
    (oa : Option Addr) (n c : Nat) (ss : List ByteArray) (hs : a.eval s = .slice oa n c) (hn : n = ss.length) (hown : OwnsS w oa c ss)
    (ox : Option Addr) (m d : Nat) (news : List ByteArray) (hx : a.eval x = .slice ox m d) (hm : m = news.length) (hd : ox = none → d = 0) (hrow : RowS w ox news)
    (hb : (n + m) * 16 ≤ 140737488355328)
    (h : ∀ o' c' w', OwnsS w' o' c' (ss ++ news) → Fresh w oa o' → Keeps (inO oa) w w' → wpList Tryz.prog ops Q rest (a.put o.dst (.slice o' (n + m) c')) w') : wpList Tryz.prog ops Q (o :: rest) a w := by
  obtain ⟨i0, hi, hz0, hz1, hz2⟩ := info_parts info9
  subst hn hm
  match ox, hrow, hx with
  | none, hrow, hx =>
    obtain rfl : news = [] := by rcases hrow with h | ⟨b, off, h, _⟩; exact h; cases h
    obtain rfl : d = 0 := hd rfl
    refine wpList_append_own_none hgd s x 47 ho 0 9 i0 1 Tryz.underlying47 hi _ _ _ hs hown hx ?_
    exact h oa c w (by simpa using hown) (.inl rfl) (Keeps.refl _ _)
  | some ad, hrow, hx =>
    refine wpList_append_own_at _ hgd s x 47 ho 0 9 i0 (.string ⟨#[]⟩) 1 16 Tryz.underlying47 hi hz0 hz1 hz2 rfl (by decide) _ ss.length (ss.map Value.string) hs hown ad _ _ (news.map Value.string) hx (by simp) hrow.news (by intro u hu; simp at hu; obtain ⟨c, _, rfl⟩ := hu; rfl) (by unfold maxLen; omega) (by omega) (Nat.zero_le _) ?_
    intro v' w' hown' hg _ hat
    rw [← List.map_append] at hown'
    obtain ⟨o', c', rfl, hlen, hown''⟩ := ownsS_val hown'
    refine h o' c' w' hown'' ?_ ((Keeps.refl _ _).grown hg (fun k hk => .inl ((own_blk _ _ _ _).1 hk)))
    rcases hown''.shape with ⟨e, _⟩ | ⟨g, cur, e, _⟩ <;> rcases hown.shape with ⟨e', _⟩ | ⟨g', cur', e', _⟩ <;> subst e <;> subst e'
    · exact .inl rfl
    · rcases hat with hat | hat <;> cases hat
    · rcases hat with hat | hat
      · cases hat
      · simp [Value.ownBlock] at hat; exact .inr ⟨g, rfl, by omega⟩
    · rcases hat with hat | hat
      · simp [Value.ownBlock] at hat; rw [hat]; exact .inl rfl
      · simp [Value.ownBlock] at hat; exact .inr ⟨g, rfl, by omega⟩

theorem ctextsN_succ (n : Nat) (b : List Nat) (most : Int) : ctextsN (n + 1) b most = match ctext b most with
    | (s, r, e) => if e ≠ 0 then ([], b, e) else
      match ctextsN n r most with
      | (l, r', e') => if e' ≠ 0 then ([], b, e') else (s :: l, r', 0) := rfl
theorem ctextsN_add (most : Int) (m : Nat) : ∀ (k : Nat) (b : List Nat) (ls : List (List Nat)) (r : List Nat), ctextsN k b most = (ls, r, 0) →
    ctextsN (k + m) b most = match ctextsN m r most with | (l', r', e') => if e' ≠ 0 then ([], b, e') else (ls ++ l', r', 0) := by
  intro k
  induction k with
  | zero =>
    intro b ls r h
    simp [ctextsN] at h
    obtain ⟨rfl, rfl⟩ := h
    rw [Nat.zero_add]
    have : ∀ (m : Nat) (b : List Nat), (ctextsN m b most).2.2 ≠ 0 → (ctextsN m b most) = ([], b, (ctextsN m b most).2.2) := by
      intro m b hne
      cases m with
      | zero => simp [ctextsN] at hne
      | succ m =>
        unfold ctextsN at hne ⊢
        generalize ctext b most = q at hne ⊢
        obtain ⟨s, r, e⟩ := q
        dsimp only at hne ⊢
        split
        · rfl
        · rename_i h1
          rw [if_neg h1] at hne
          generalize ctextsN m r most = q' at hne ⊢
          obtain ⟨l, r', e'⟩ := q'
          dsimp only at hne ⊢
          split
          · rfl
          · rename_i h2
            rw [if_neg h2] at hne
            simp at hne
    have h2 := this m b
    generalize ctextsN m b most = q at h2 ⊢
    obtain ⟨l, r', e'⟩ := q
    dsimp only at h2 ⊢
    by_cases he : e' = 0
    · subst he; simp
    · simp [he]; simpa using h2 he
  | succ k ih =>
    intro b ls r h
    rw [show k + 1 + m = (k + m) + 1 by omega]
    rw [ctextsN_succ] at h ⊢
    generalize ctext b most = q at h ⊢
    obtain ⟨s, r1, e1⟩ := q
    dsimp only at h ⊢
    by_cases he : e1 = 0
    · subst he
      simp only [ne_eq, not_true_eq_false, if_false] at h ⊢
      generalize hq : ctextsN k r1 most = q at h
      obtain ⟨l, r2, e2⟩ := q
      dsimp only at h
      by_cases he2 : e2 = 0
      · subst he2
        simp at h
        obtain ⟨rfl, rfl⟩ := h
        rw [ih _ _ _ hq]
        generalize ctextsN m r2 most = q3
        obtain ⟨l', r', e'⟩ := q3
        dsimp only
        by_cases he3 : e' = 0
        · subst he3; simp
        · simp [he3]
      · simp [he2] at h
    · simp [he] at h

theorem ctextsN_snoc (most : Int) (k : Nat) (b : List Nat) (ls : List (List Nat)) (r s r' : List Nat) (h : ctextsN k b most = (ls, r, 0)) (h1 : ctext r most = (s, r', 0)) : ctextsN (k + 1) b most = (ls ++ [s], r', 0) := by
  rw [ctextsN_add most 1 k b ls r h]
  simp [ctextsN, h1]
theorem ctextsN_err (most : Int) (k n : Nat) (hkn : k < n) (b : List Nat) (ls : List (List Nat)) (r : List Nat) (e : Nat) (he : e ≠ 0) (h : ctextsN k b most = (ls, r, 0)) (h1 : ctext r most = ([], r, e)) : ctextsN n b most = ([], b, e) := by
  obtain ⟨m, rfl⟩ : ∃ m, n = k + (m + 1) := ⟨n - k - 1, by omega⟩
  rw [ctextsN_add most (m + 1) k b ls r h]
  simp [ctextsN, h1, he]

/-- what cutTexts tells -/
def TxsTo (w : World) (o : Option Addr) (bs : List Nat) (count most : Int) (e : Ending) (w' : World) : Prop :=
  Keeps (fun _ => False) w w' ∧
  ((∃ er, Hid (ctexts bs count most = ([], bs, er)) ∧ 0 < er ∧ er ≤ 5 ∧ e = .returned (.tuple #[.slice none 0 0, .slice none 0 0, .int .i64 (er : Nat)])) ∨
   (∃ ls r o1 c1 n1 o2 c2 n2, Hid (ctexts bs count most = (ls, r, 0)) ∧ e = .returned (.tuple #[.slice o1 n1 c1, .slice o2 n2 c2, .int .i64 0]) ∧ Hid (n1 = ls.length) ∧ Hid (n2 = r.length) ∧ n1 ≤ 4294967296 ∧ n2 ≤ 140737488355328 ∧ OwnsS w' o1 c1 (ls.map text) ∧ (∀ k, inO o1 k → w.heap.size ≤ k) ∧ BSl w' o2 c2 r ∧ BSub o o2 ∧ Hid (∀ s ∈ ls, ∀ c ∈ s, c < 256)))

set_option maxRecDepth 10000 in
set_option maxHeartbeats 400000 in
theorem cutTexts_any (w : World) (o : Option Addr) (n c : Nat) (bs : List Nat) (count most : Int) (hn : n = bs.length) (h : BSl w o c bs) (hlid : bs.length ≤ 140737488355328) (hlive : ∀ k, inO o k → k < w.heap.size) (hc1 : -9223372036854775808 ≤ count) (hc2 : count ≤ 9223372036854775807) (hm1 : -9223372036854775808 ≤ most) (hm2 : most ≤ 9223372036854775807) :
    Calls Tryz.prog 131 #[.slice o n c, .int .i64 count, .int .i64 most] w (TxsTo w o bs count most) := by
  have HN : Hid (n = bs.length) := hn
  clear hn
  go_enter Tryz.func131, Tryz.ntmps131
  go_wp2_with fail
  refine (cutCount_any w o n c bs count HN.out h hlid hc1 hc2).mono ?_
  rintro e w1 ⟨⟨m, rfl⟩, ⟨er, HE, her, her5, rfl⟩ | ⟨v, o', c', n', HE, hv, rfl, hn', hn5, hsl, hsub⟩⟩
  · have her' : ¬ ((er : Nat) : Int) = 0 := by omega
    go_wp2
    go_ret3
    exact ⟨keeps_drewN _ _ _, .inl ⟨er, by show _ = _; simp [ctexts, HE.out]; omega, her, her5, rfl⟩⟩
  · go_wp2_with fail
    go_loopw [10, 12, 27] (fun r l i wr => ∃ (k : Nat) (ls : List (List Nat)) (rs : List Nat) (oR : Option Addr) (cR nR : Nat) (oL : Option Addr) (cL : Nat), k ≤ v ∧ i = .int .i64 k ∧ r = .slice oR nR cR ∧ l = .slice oL k cL ∧ k = ls.length ∧ nR = rs.length ∧ nR ≤ 140737488355328 ∧ ctextsN k (bs.drop 4) most = (ls, rs, 0) ∧ Keeps (fun _ => False) w wr ∧ BSl wr oR cR rs ∧ BSub o oR ∧ OwnsS wr oL cL (ls.map text) ∧ (∀ x, inO oL x → w.heap.size ≤ x) ∧ (∀ s ∈ ls, ∀ c ∈ s, c < 256)) (fun _ _ i _ => v - (intOf i).toNat)
    case atStart => exact ⟨0, [], bs.drop 4, o', c', n', none, 0, by omega, rfl, rfl, rfl, rfl, hn'.out, hn5, rfl, keeps_drewN _ _ _, hsl.drewN m, hsub, ownsS_nil _, fun x ⟨y, h, _⟩ => (by cases h), fun s hs => (by cases hs)⟩
    case round =>
      obtain ⟨k, ls, rs, oR, cR, nR, oL, cL, hk, rfl, rfl, rfl, hkl, hnr, hnr5, hct, hK, hslr, hsubr, hown, hnew, hby⟩ := hrel
      have HKL : Hid (k = ls.length) := hkl
      have HNR : Hid (nR = rs.length) := hnr
      have HCT : Hid (ctextsN k (bs.drop 4) most = (ls, rs, 0)) := hct
      have HBY : Hid (∀ s ∈ ls, ∀ c ∈ s, c < 256) := hby
      clear hkl hnr hct hby
      by_cases h2 : k < v
      · go_wp2_with fail
        refine (cutText_any wr oR nR cR rs most HNR.out hslr (by have := HNR.out; omega) hm1 hm2).mono ?_
        rintro e w2 ⟨⟨m2, rfl⟩, ⟨er, HE2, her, her5, rfl⟩ | ⟨s, r, o1, c1, n1, o2, c2, n2, HE2, rfl, hn1, hn2, hn25, hsl1, hsl2, hsub1, hsub2⟩⟩
        · have her' : ¬ ((er : Nat) : Int) = 0 := by omega
          go_wp2
          go_ret3
          refine ⟨hK.trans (keeps_drewN _ _ _), .inl ⟨er, ?_, her, her5, rfl⟩⟩
          show _ = _
          unfold ctexts
          rw [HE.out]
          simp [ctextsN_err most k v h2 _ _ _ er (by omega) HCT.out HE2.out]
          omega
        · have hcv : ∀ q, (convert 27 9 (.slice o1 n1 c1)).run Tryz.prog ((wr.drewN m2).drewN q) = .ok (.string (text s)) ((wr.drewN m2).drewN q) := fun q => run_text _ o1 s n1 c1 hn1.out ((hsl1.drewN m2).drewN q).row
          have hcv0 : (convert 27 9 (.slice o1 n1 c1)).run Tryz.prog (wr.drewN m2) = .ok (.string (text s)) (wr.drewN m2) := run_text _ o1 s n1 c1 hn1.out (hsl1.drewN m2).row
          have HB : Hid (∀ c ∈ s, c < 256) := hsl1.row.1
          have hrs : RowS ((wr.drewN m2).alloc (.cells #[.string (text s)] 9)) (some ⟨wr.heap.size, 0, none⟩) [text s] := by
            refine .inr ⟨_, _, rfl, fun j hj => ?_⟩
            show World.cell? _ ⟨(wr.drewN m2).heap.size, 0 + j, none⟩ = _
            rw [cell_of_blk (blk_new (wr.drewN m2) _)]
            match j, hj with
            | 0, _ => rfl
          have hown2 : OwnsS ((wr.drewN m2).alloc (.cells #[.string (text s)] 9)) oL cL (ls.map text) := (hown.keeps (keeps_drewN (fun _ => False) _ m2) (fun _ _ h => h)).alloc _
          go_wp2_with (at_builtin; go_must (refine wpList_appL rfl _ _ rfl oL _ cL (ls.map text) (by rfl) (by rw [List.length_map]; exact HKL.out) hown2 (some ⟨wr.heap.size, 0, none⟩) 1 1 [text s] (by rfl) rfl (by simp) hrs (by omega) ?_); rintro o3 c3 w3 hown3 hfr3 hk3)
          go_roundw
          case rel =>
            have hK3 : Keeps (fun _ => False) w w3 := ((hK.trans (keeps_drewN _ _ m2)).alloc _).then hk3 (fun i hi => .inr (hnew i hi))
            have hk3' : Keeps (fun k => w.heap.size ≤ k ∧ inO oL k) wr w3 := (((keeps_drewN _ wr m2)).alloc _).then hk3 (fun i hi => .inl ⟨hnew i hi, hi⟩)
            refine ⟨k + 1, ls ++ [s], r, o2, c2, n2, o3, c3, by omega, by go_num, rfl, rfl, by rw [List.length_append, ← HKL.out]; rfl, hn2.out, hn25, ctextsN_snoc most k _ ls rs s r HCT.out HE2.out, hK3, ?_, hsubr.trans hsub2, ?_, ?_, ?_⟩
            · refine hsl2.keeps hk3' (fun x hx hh => ?_)
              have := hlive x ((hsubr.trans hsub2).in x hx)
              omega
            · rw [List.map_append]; exact hown3
            · intro x hx
              rcases hfr3.in x hx with h' | h'
              · exact hnew x h'
              · have := hK.size; simp at h'; omega
            · intro s' hs'
              rcases List.mem_append.mp hs' with h' | h'
              · exact HBY.out s' h'
              · simp at h'; rw [h']; exact HB.out
          case measure => simp [intOf]; omega
      · go_wp2
        go_ret3
        obtain rfl : k = v := by omega
        refine ⟨hK, .inr ⟨ls, rs, oL, cL, k, oR, cR, nR, ?_, rfl, HKL.out, HNR.out, by omega, hnr5, hown, hnew, hslr, hsubr, HBY.out⟩⟩
        show _ = _
        unfold ctexts
        rw [HE.out]
        simp [HCT.out]
end Go.Proofs.YtbnohdgdadfjlaaGreatDoor
namespace Go.Proofs.YtbnohdgdadfjlaaGreatDoor
open Go.RowKit
open Pk
set_option linter.unusedVariables false
set_option linter.unusedSimpArgs false

set_option maxRecDepth 10000 in
theorem rCount_any (w : World) (a : Nat) (o : Option Addr) (c : Nat) (bs : List Nat) (e0 : Nat) (most : Int) (hm1 : -9223372036854775808 ≤ most) (hm2 : most ≤ 9223372036854775807) (h : IsR 146 w a o c bs e0) :
    Calls Tryz.prog 81 #[.pointer (some ⟨a, 0, none⟩), .int .i64 most] w fun e w' => e = .returned (.int .i64 ((rcount most (bs, e0)).1 : Nat)) ∧ RStep 146 w a o (rcount most (bs, e0)).2 w' := by
  have c0 : w.cell? ⟨a, 0, none⟩ = some (.slice o bs.length c) := cell_of_blk h.blk 0
  have c1 : w.cell? ⟨a, 1, none⟩ = some (.int .i64 (e0 : Nat)) := cell_of_blk h.blk 1
  have f0 : w.frozen? ⟨a, 0, none⟩ = false := frozen_of_blk h.blk 0
  have f1 : w.frozen? ⟨a, 1, none⟩ = false := frozen_of_blk h.blk 1
  have hlid := h.lid
  by_cases he : e0 = 0
  · subst he
    go_enter Tryz.func81, Tryz.ntmps81
    go_wp2_with fail
    refine (cutCount_any w o _ c bs most rfl h.sl hlid hm1 hm2).mono ?_
    rintro e w1 ⟨⟨m, rfl⟩, ⟨er, HE, her, her5, rfl⟩ | ⟨v, o', c', n', HE, hv, rfl, hn', hn5, hsl, hsub⟩⟩
    · have her' : ¬ ((er : Nat) : Int) = 0 := by omega
      go_wp2
      go_ret
      obtain ⟨h4, hk4⟩ := (h.drewN m).err er her5
      have er : rcount most (bs, 0) = (0, (bs, er)) := by simp [rcount, HE.out]; omega
      rw [er]
      exact ⟨rfl, o, c, h4, BSub.refl _, (keeps_drewN _ _ _).trans hk4⟩
    · go_wp2
      go_ret
      obtain ⟨hW, hK⟩ := (h.drewN m).put (hsl.drewN m) hsub (by have := hn'.out; omega) n' hn'.out
      have er : rcount most (bs, 0) = (v, (bs.drop 4, 0)) := by simp [rcount, HE.out]
      rw [er]
      exact ⟨rfl, o', c', hW, hsub, (keeps_drewN _ _ _).trans hK⟩
  · have he' : ¬ ((e0 : Nat) : Int) = 0 := by omega
    go_enter Tryz.func81, Tryz.ntmps81
    go_wp2
    go_ret
    have er : rcount most (bs, e0) = (0, (bs, e0)) := by simp [rcount, he]
    rw [er]
    exact ⟨rfl, o, c, h, BSub.refl _, Keeps.refl _ _⟩

theorem text_nil : text [] = ⟨#[]⟩ := rfl

set_option maxRecDepth 10000 in
theorem rText_any (w : World) (a : Nat) (o : Option Addr) (c : Nat) (bs : List Nat) (e0 : Nat) (most : Int) (hm1 : -9223372036854775808 ≤ most) (hm2 : most ≤ 9223372036854775807) (h : IsR 146 w a o c bs e0) :
    Calls Tryz.prog 83 #[.pointer (some ⟨a, 0, none⟩), .int .i64 most] w fun e w' => e = .returned (.string (text (rtext most (bs, e0)).1)) ∧ RStep 146 w a o (rtext most (bs, e0)).2 w' := by
  have c0 : w.cell? ⟨a, 0, none⟩ = some (.slice o bs.length c) := cell_of_blk h.blk 0
  have c1 : w.cell? ⟨a, 1, none⟩ = some (.int .i64 (e0 : Nat)) := cell_of_blk h.blk 1
  have f0 : w.frozen? ⟨a, 0, none⟩ = false := frozen_of_blk h.blk 0
  have f1 : w.frozen? ⟨a, 1, none⟩ = false := frozen_of_blk h.blk 1
  have hlid := h.lid
  by_cases he : e0 = 0
  · subst he
    go_enter Tryz.func83, Tryz.ntmps83
    go_wp2_with fail
    refine (cutText_any w o _ c bs most rfl h.sl hlid hm1 hm2).mono ?_
    rintro e w1 ⟨⟨m, rfl⟩, ⟨er, HE, her, her5, rfl⟩ | ⟨s, r, o1, c1, n1, o2, c2, n2, HE, rfl, hn1, hn2, hn25, hsl1, hsl2, hsub1, hsub2⟩⟩
    · have her' : ¬ ((er : Nat) : Int) = 0 := by omega
      go_wp2
      go_ret
      obtain ⟨h4, hk4⟩ := (h.drewN m).err er her5
      have er : rtext most (bs, 0) = ([], (bs, er)) := by simp [rtext, HE.out]; omega
      rw [er]
      exact ⟨rfl, o, c, h4, BSub.refl _, (keeps_drewN _ _ _).trans hk4⟩
    · obtain ⟨hW, hK⟩ := (h.drewN m).put (hsl2.drewN m) hsub2 (by have := hn2.out; omega) n2 hn2.out
      have hcv := run_text _ o1 s n1 c1 hn1.out ((hsl1.drewN m).keeps hK (fun k hk e => h.ap (e ▸ hsub1.in k hk))).row
      go_wp2
      go_ret
      have er : rtext most (bs, 0) = (s, (r, 0)) := by simp [rtext, HE.out]
      rw [er]
      exact ⟨rfl, o2, c2, hW, hsub2, (keeps_drewN _ _ _).trans hK⟩
  · have he' : ¬ ((e0 : Nat) : Int) = 0 := by omega
    go_enter Tryz.func83, Tryz.ntmps83
    go_wp2
    go_ret
    have er : rtext most (bs, e0) = ([], (bs, e0)) := by simp [rtext, he]
    rw [er]
    exact ⟨rfl, o, c, h, BSub.refl _, Keeps.refl _ _⟩

/-- a list of texts told, in new memory -/
def TellsS (w : World) (ls : List (List Nat)) (e : Ending) (w' : World) : Prop :=
  ∃ o1 c1 n1, e = .returned (.slice o1 n1 c1) ∧ Hid (n1 = ls.length) ∧ n1 ≤ 4294967296 ∧ OwnsS w' o1 c1 (ls.map text) ∧ (∀ k, inO o1 k → w.heap.size ≤ k) ∧ Hid (∀ s ∈ ls, ∀ c ∈ s, c < 256)

set_option maxRecDepth 10000 in
theorem rTexts_any (w : World) (a : Nat) (o : Option Addr) (c : Nat) (bs : List Nat) (e0 : Nat) (count most : Int) (hc1 : -9223372036854775808 ≤ count) (hc2 : count ≤ 9223372036854775807) (hm1 : -9223372036854775808 ≤ most) (hm2 : most ≤ 9223372036854775807) (h : IsR 146 w a o c bs e0) :
    Calls Tryz.prog 85 #[.pointer (some ⟨a, 0, none⟩), .int .i64 count, .int .i64 most] w fun e w' => TellsS w (rtexts count most (bs, e0)).1 e w' ∧ RStep 146 w a o (rtexts count most (bs, e0)).2 w' := by
  have c0 : w.cell? ⟨a, 0, none⟩ = some (.slice o bs.length c) := cell_of_blk h.blk 0
  have c1 : w.cell? ⟨a, 1, none⟩ = some (.int .i64 (e0 : Nat)) := cell_of_blk h.blk 1
  have hlid := h.lid
  by_cases he : e0 = 0
  · subst he
    go_enter Tryz.func85, Tryz.ntmps85
    go_wp2_with fail
    refine (cutTexts_any w o _ c bs count most rfl h.sl hlid h.live hc1 hc2 hm1 hm2).mono ?_
    rintro e w1 ⟨hk1, ⟨er, HE, her, her5, rfl⟩ | ⟨ls, r, o1, c1, n1, o2, c2, n2, HE, rfl, hn1, hn2, hn15, hn25, hown, hnew, hsl2, hsub2, HB⟩⟩
    · have her' : ¬ ((er : Nat) : Int) = 0 := by omega
      have h1 := h.keeps hk1 (fun _ _ h => h)
      obtain ⟨h4, hk4⟩ := h1.err er her5
      have f1 : w1.frozen? ⟨a, 1, none⟩ = false := frozen_of_blk h1.blk 1
      have c1 : w1.cell? ⟨a, 1, none⟩ = some (.int .i64 0) := cell_of_blk h1.blk 1
      go_wp2
      go_ret
      have er : rtexts count most (bs, 0) = ([], (bs, er)) := by simp [rtexts, HE.out]; omega
      rw [er]
      exact ⟨⟨none, 0, 0, rfl, rfl, by omega, ownsS_nil _, fun k ⟨x, h, _⟩ => (by cases h), fun s hs => (by cases hs)⟩, o, c, h4, BSub.refl _, (hk1.mono (fun _ h => h.elim)).trans hk4⟩
    · have h1 := h.keeps hk1 (fun _ _ h => h)
      have f0 : w1.frozen? ⟨a, 0, none⟩ = false := frozen_of_blk h1.blk 0
      have c00 : w1.cell? ⟨a, 0, none⟩ = some (.slice o bs.length c) := cell_of_blk h1.blk 0
      obtain ⟨hW, hK⟩ := h1.put hsl2 hsub2 (by have := hn2.out; omega) n2 hn2.out
      go_wp2
      go_ret
      have er : rtexts count most (bs, 0) = (ls, (r, 0)) := by simp [rtexts, HE.out]
      rw [er]
      refine ⟨⟨o1, c1, n1, rfl, hn1, hn15, hown.keeps hK (fun k hk e => ?_), hnew, HB⟩, o2, c2, hW, hsub2, (hk1.mono (fun _ h => h.elim)).trans hK⟩
      have := hnew k hk
      have := lt_of_block h.blk
      omega
  · have he' : ¬ ((e0 : Nat) : Int) = 0 := by omega
    go_enter Tryz.func85, Tryz.ntmps85
    go_wp2
    go_ret
    have er : rtexts count most (bs, e0) = ([], (bs, e0)) := by simp [rtexts, he]
    rw [er]
    exact ⟨⟨none, 0, 0, rfl, rfl, by omega, ownsS_nil _, fun k ⟨x, h, _⟩ => (by cases h), fun s hs => (by cases hs)⟩, o, c, h, BSub.refl _, Keeps.refl _ _⟩
end Go.Proofs.YtbnohdgdadfjlaaGreatDoor

import Derived.Test.YtgamhblkgojapaaGreatDoorW2
import Derived.Laws.BitsAllLaws
namespace Go.Proofs.YtgamhblkgojapaaGreatDoor
open Go.RowKit
open Pk
set_option linter.unusedVariables false
set_option linter.unusedSimpArgs false

theorem getD_lt (bs : List Nat) (hby : ∀ c ∈ bs, c < 256) (k : Nat) (h : k < bs.length) : bs.getD k 0 < 256 := by
  rw [List.getD_eq_getElem?_getD, List.getElem?_eq_getElem h]
  exact hby _ (List.getElem_mem h)
theorem val_snoc (bs : List Nat) (k : Nat) (h : k < bs.length) : val (bs.take (k + 1)) = val (bs.take k) * 256 + bs.getD k 0 := by
  rw [List.take_succ_eq_append_getElem h, val_append]
  simp [List.getD_eq_getElem?_getD, h]
theorem val_take_lt (bs : List Nat) (hby : ∀ c ∈ bs, c < 256) (k : Nat) (hk : k ≤ bs.length) : val (bs.take k) < 256 ^ k := by
  have := val_lt (bs.take k) (fun c hc => hby c (List.mem_of_mem_take hc))
  rwa [List.length_take, Nat.min_eq_left hk] at this

theorem or_num (r x : Nat) (hr : r < 72057594037927936) (hx : x < 256) : bits .or .u64 ((r : Int) * 256) (x : Int) = ((r * 256 + x : Nat) : Int) := by
  have e : ((r : Int) * 256) = ((r * 256 : Nat) : Int) := by omega
  rw [e, u64_or_nat _ _ (by omega) (by omega)]
  have := Nat.two_pow_add_eq_or_of_lt (i := 8) (b := x) (by omega) r
  rw [show r * 256 = 2 ^ 8 * r by omega, ← this]

set_option maxRecDepth 10000 in
theorem numberAt_any (w : World) (o : Option Addr) (n c : Nat) (bs : List Nat) (hn : n = bs.length) (hrow : BRow w o bs) (h8 : bs.length ≤ 8) :
    Calls Tryz.prog 126 #[.slice o n c] w fun e w' => e = .returned (.int .u64 (val bs : Nat)) ∧ w' = w := by
  obtain ⟨hby, hm, hcell⟩ := hrow
  have HN : Hid (n = bs.length) := hn
  have hn8 : n ≤ 8 := by omega
  clear hn h8 hm
  go_enter Tryz.func126, Tryz.ntmps126
  go_wp2_with fail
  go_loop [3, 8] (fun r i => ∃ k : Nat, k ≤ n ∧ i = .int .i64 k ∧ r = .int .u64 (val (bs.take k) : Nat)) (fun _ i => n - (intOf i).toNat)
  case atStart => exact ⟨0, by omega, rfl, by simp [val]⟩
  case round =>
    obtain ⟨k, hk, rfl, rfl⟩ := hrel
    by_cases h2 : k < n
    · have hkb : k < bs.length := by have := HN.out; omega
      have hcl := getD_lt bs hby k hkb
      have hsn := val_snoc bs k hkb
      have hvl := val_take_lt bs hby k (by omega)
      have hp : 256 ^ k ≤ 72057594037927936 := by
        have : 256 ^ k ≤ 256 ^ 7 := Nat.pow_le_pow_right (by decide) (by omega)
        simpa using this
      rcases hcell with h0 | ⟨b, off, rfl, hc⟩
      · rw [h0] at hkb; simp at hkb
      obtain ⟨x, hcc⟩ : ∃ x, x = bs.getD k 0 := ⟨_, rfl⟩
      obtain ⟨r, hr⟩ : ∃ r, r = val (bs.take k) := ⟨_, rfl⟩
      have hck := hc k hkb
      rw [← hcc] at hcl hsn hck
      rw [← hr] at hsn hvl ⊢
      have HS : Hid (val (bs.take (k + 1)) = r * 256 + x) := hsn
      have hr7 : r < 72057594037927936 := by omega
      have hor := or_num r x hr7 hcl
      clear hsn hcc hc hby hr hvl hp
      go_wp2_with fail
      go_round
      case rel => exact ⟨k + 1, by omega, by go_num, by rw [HS.out]; go_num⟩
      case measure => simp [intOf]; omega
    · go_wp2_with fail
      go_ret
      obtain rfl : k = n := by omega
      rw [HN.out, List.take_length]
      exact ⟨rfl, rfl⟩

/-- a slice that is read: its bytes -/
structure BSl (w : World) (o : Option Addr) (c : Nat) (bs : List Nat) : Prop where
  row : BRow w o bs
  cap : bs.length ≤ c
  nil : o = none → c = 0
def BSub (o o' : Option Addr) : Prop := ∀ x, o' = some x → ∃ y, o = some y ∧ x.block = y.block
theorem BSub.refl (o : Option Addr) : BSub o o := fun x hx => ⟨x, hx, rfl⟩
theorem BSub.trans {a b c : Option Addr} (h : BSub a b) (k : BSub b c) : BSub a c := fun x hx => by
  obtain ⟨y, hy, e⟩ := k x hx
  obtain ⟨z, hz, e'⟩ := h y hy
  exact ⟨z, hz, e.trans e'⟩
theorem BSub.in {a b : Option Addr} (h : BSub a b) : ∀ k, inO b k → inO a k := by
  rintro k ⟨x, hx, rfl⟩
  obtain ⟨y, hy, e⟩ := h x hx
  exact ⟨y, hy, e.symm⟩
theorem BSl.keeps {S : Nat → Prop} {w w' : World} {a : Option Addr} {c : Nat} {bs : List Nat} (h : BSl w a c bs) (hk : Keeps S w w') (ha : ∀ k, inO a k → ¬ S k) : BSl w' a c bs :=
  ⟨h.row.keeps hk (fun x hx => ha x.block ⟨x, hx, rfl⟩), h.cap, h.nil⟩
theorem BSl.drewN {w : World} {a : Option Addr} {c : Nat} {bs : List Nat} (h : BSl w a c bs) (m : Nat) : BSl (w.drewN m) a c bs := h.keeps (keeps_drewN (fun _ => False) w m) (fun _ _ h => h)

theorem slB : Tryz.prog.underlying 42 = some (.slice (Tryz.prog.elem 42)) := by kernel_rfl
theorem cut_h (w0 : World) (o : Option Addr) (c : Nat) (bs : List Nat) (n I : Nat) (i : Int) (hi : i = (I : Nat)) (hn : n = bs.length) (hI : I ≤ n) (h : BSl w0 o c bs) :
    ∃ A d, (∀ w, (Instr.slice 42 (.slice o n c) none (some (.int .i64 i)) none).run Tryz.prog w = .ok (.slice A I d) w) ∧ BSl w0 A d (bs.take I) ∧ BSub o A := by
  subst hi hn
  have hcap := h.cap
  match o, h with
  | none, h =>
    obtain rfl : c = 0 := h.nil rfl
    obtain rfl : I = 0 := by omega
    have h0 : bs = [] := List.length_eq_zero_iff.mp (by omega)
    subst h0
    refine ⟨none, 0, fun w => ?_, ⟨h.row.take 0, by simp, fun _ => rfl⟩, BSub.refl _⟩
    rw [run_slice_h w 42 none _ 0 slB .i64 _ (by omega) (by omega)]
    go_simp
  | some ad, h =>
    refine ⟨some ad, c, fun w => ?_, ⟨h.row.take I, by rw [List.length_take]; omega, h.nil⟩, BSub.refl _⟩
    rw [run_slice_h w 42 (some ad) _ c slB .i64 _ (by omega) (by omega)]
    go_simp
theorem cut_l (w0 : World) (o : Option Addr) (c : Nat) (bs : List Nat) (n I : Nat) (i : Int) (hi : i = (I : Nat)) (hn : n = bs.length) (hI : I ≤ n) (h : BSl w0 o c bs) :
    ∃ A d, (∀ w, (Instr.slice 42 (.slice o n c) (some (.int .i64 i)) none none).run Tryz.prog w = .ok (.slice A (n - I) d) w) ∧ BSl w0 A d (bs.drop I) ∧ BSub o A := by
  subst hi hn
  have hcap := h.cap
  match o, h with
  | none, h =>
    obtain rfl : c = 0 := h.nil rfl
    obtain rfl : I = 0 := by omega
    have h0 : bs = [] := List.length_eq_zero_iff.mp (by omega)
    subst h0
    refine ⟨none, 0, fun w => ?_, ⟨h.row.drop 0 (fun _ b off e => by cases e), by simp, fun _ => rfl⟩, BSub.refl _⟩
    rw [run_slice_l w 42 none _ 0 slB .i64 _ (by omega) (by simp)]
    go_simp
  | some ad, h =>
    refine ⟨some (if c = I then ad else ad.add I), c - I, fun w => ?_, ⟨h.row.drop I (fun hlt b off e => ?_), by rw [List.length_drop]; omega, by simp⟩, ?_⟩
    · rw [run_slice_l w 42 (some ad) _ c slB .i64 _ (by omega) (by omega)]
      by_cases h : c = I
      · go_simp
      · go_simp
    · cases e
      rw [if_neg (by omega), addr_add]
    · intro x hx
      refine ⟨ad, rfl, ?_⟩
      cases hx
      split
      · rfl
      · obtain ⟨b, off, sp⟩ := ad
        simp [Addr.add]
        split <;> rfl

/-- a reader (of type t) at block a: what is left, its error -/
structure IsR (t : Nat) (w : World) (a : Nat) (o : Option Addr) (c : Nat) (bs : List Nat) (e : Nat) : Prop where
  blk : w.heap[a]? = some (.cells #[.slice o bs.length c, .int .i64 (e : Nat)] t (0, 0))
  sl : BSl w o c bs
  ap : ¬ inO o a
  live : ∀ k, inO o k → k < w.heap.size
  lid : bs.length ≤ 140737488355328
  er : e ≤ 5
theorem IsR.keeps {S : Nat → Prop} {t : Nat} {w w' : World} {a : Nat} {o : Option Addr} {c : Nat} {bs : List Nat} {e : Nat} (h : IsR t w a o c bs e) (hk : Keeps S w w') (h1 : ∀ k, footW a o k → ¬ S k) : IsR t w' a o c bs e :=
  ⟨hk.at h.blk (h1 a (.inl rfl)), h.sl.keeps hk (fun k hk => h1 k (.inr hk)), h.ap, fun k hh => Nat.lt_of_lt_of_le (h.live k hh) hk.size, h.lid, h.er⟩
theorem IsR.lt {t : Nat} {w : World} {a : Nat} {o : Option Addr} {c : Nat} {bs : List Nat} {e : Nat} (h : IsR t w a o c bs e) : ∀ k, footW a o k → k < w.heap.size := by
  rintro k (rfl | hk)
  · exact lt_of_block h.blk
  · exact h.live k hk
theorem IsR.drewN {t : Nat} {w : World} {a : Nat} {o : Option Addr} {c : Nat} {bs : List Nat} {e : Nat} (h : IsR t w a o c bs e) (m : Nat) : IsR t (w.drewN m) a o c bs e := h.keeps (keeps_drewN (fun _ => False) w m) (fun _ _ h => h)
def RStep (t : Nat) (w : World) (a : Nat) (o : Option Addr) (st : RS) (w' : World) : Prop :=
  ∃ o' c', IsR t w' a o' c' st.1 st.2 ∧ BSub o o' ∧ Keeps (fun k => k = a) w w'

/-- the rest is stored -/
theorem IsR.put {t : Nat} {w : World} {a : Nat} {o o1 : Option Addr} {c c1 : Nat} {bs bs1 : List Nat} {e : Nat} (h : IsR t w a o c bs e) (hs : BSl w o1 c1 bs1) (hsub : BSub o o1) (hlid : bs1.length ≤ 140737488355328) (n1 : Nat) (hn1 : n1 = bs1.length) :
    IsR t (w.setCell ⟨a, 0, none⟩ (.slice o1 n1 c1)) a o1 c1 bs1 e ∧ Keeps (fun k => k = a) w (w.setCell ⟨a, 0, none⟩ (.slice o1 n1 c1)) := by
  subst hn1
  have hap : ¬ inO o1 a := fun hin => h.ap (hsub.in a hin)
  have hkk : Keeps (fun k => k = a) w (w.setCell ⟨a, 0, none⟩ (.slice o1 bs1.length c1)) := keeps_set _ _ _ _
  refine ⟨⟨?_, hs.keeps hkk (fun k hk e => hap (e ▸ hk)), hap, fun k hk => ?_, hlid, h.er⟩, hkk⟩
  · rw [blk_set h.blk]; rfl
  · rw [World.size_setCell]; exact h.live k (hsub.in k hk)
theorem IsR.err {t : Nat} {w : World} {a : Nat} {o : Option Addr} {c : Nat} {bs : List Nat} {e : Nat} (h : IsR t w a o c bs e) (e1 : Nat) (he : e1 ≤ 5) :
    IsR t (w.setCell ⟨a, 1, none⟩ (.int .i64 (e1 : Nat))) a o c bs e1 ∧ Keeps (fun k => k = a) w (w.setCell ⟨a, 1, none⟩ (.int .i64 (e1 : Nat))) := by
  have hkk : Keeps (fun k => k = a) w (w.setCell ⟨a, 1, none⟩ (.int .i64 (e1 : Nat))) := keeps_set _ _ _ _
  refine ⟨⟨?_, h.sl.keeps hkk (fun k hk e => h.ap (e ▸ hk)), h.ap, fun k hk => ?_, h.lid, he⟩, hkk⟩
  · rw [blk_set h.blk]; rfl
  · rw [World.size_setCell]; exact h.live k hk

theorem newReader_any (w : World) (o : Option Addr) (n c : Nat) (bs : List Nat) (hn : n = bs.length) (h : BSl w o c bs) (hlid : bs.length ≤ 140737488355328) :
    Calls Tryz.prog 75 #[.slice o n c] w fun e w' => ∃ a o' c', e = .returned (.pointer (some ⟨a, 0, none⟩)) ∧ IsR 148 w' a o' c' bs 0 ∧ (∀ k, footW a o' k → w.heap.size ≤ k) ∧ Keeps (fun _ => False) w w' := by
  subst hn
  match o, h with
  | none, h =>
    obtain rfl : c = 0 := h.nil rfl
    have h0 : bs = [] := List.length_eq_zero_iff.mp (by have := h.cap; omega)
    subst h0
    go_enter Tryz.func75, Tryz.ntmps75
    go_wp2_with fail
    refine (clone_none w).mono ?_
    rintro e w1 ⟨rfl, rfl⟩
    go_wp2
    go_ret
    refine ⟨w1.heap.size, none, 0, rfl, ⟨blk_new _ _, ⟨⟨by simp, by simp, .inl rfl⟩, by simp, fun _ => rfl⟩, fun ⟨x, h, _⟩ => (by cases h), fun k ⟨x, h, _⟩ => (by cases h), by simp, by simp⟩, ?_, (Keeps.refl _ _).alloc _⟩
    rintro k (rfl | ⟨x, h, _⟩)
    · omega
    · cases h
  | some ad, h =>
    go_enter Tryz.func75, Tryz.ntmps75
    go_wp2_with fail
    refine (clone_some w ad bs _ c rfl h.row hlid).mono ?_
    rintro e w1 ⟨g, c', rfl, hg, hown, hk⟩
    go_wp2
    go_ret
    have hgl := hown.lt g ⟨_, rfl, rfl⟩
    have hsz := hk.size
    refine ⟨w1.heap.size, some ⟨g, 0, none⟩, c', rfl, ⟨blk_new _ _, ⟨(hown.alloc _).row h.row.1 h.row.2.1, hown.cap.1, fun h => (by cases h)⟩, ?_, ?_, hlid, by simp⟩, ?_, hk.alloc _⟩
    · rintro ⟨x, hx, e⟩
      cases hx; simp at e; omega
    · rintro k ⟨x, hx, e⟩
      cases hx; subst e; simp; omega
    · rintro k (rfl | ⟨x, hx, e⟩)
      · omega
      · cases hx; subst e; exact hg

set_option maxRecDepth 10000 in
theorem number_any (w : World) (a : Nat) (o : Option Addr) (c : Nat) (bs : List Nat) (e0 : Nat) (I : Nat) (hI8 : I ≤ 8) (h : IsR 148 w a o c bs e0) :
    Calls Tryz.prog 110 #[.pointer (some ⟨a, 0, none⟩), .int .i64 (I : Nat)] w fun e w' => e = .returned (.int .u64 ((rnum I (bs, e0)).1 : Nat)) ∧ RStep 148 w a o (rnum I (bs, e0)).2 w' := by
  have c0 : w.cell? ⟨a, 0, none⟩ = some (.slice o bs.length c) := cell_of_blk h.blk 0
  have c1 : w.cell? ⟨a, 1, none⟩ = some (.int .i64 (e0 : Nat)) := cell_of_blk h.blk 1
  have f0 : w.frozen? ⟨a, 0, none⟩ = false := frozen_of_blk h.blk 0
  have f1 : w.frozen? ⟨a, 1, none⟩ = false := frozen_of_blk h.blk 1
  have hlid := h.lid
  by_cases he : e0 = 0
  · subst he
    by_cases hs : bs.length < I
    · go_enter Tryz.func110, Tryz.ntmps110
      go_wp2
      go_ret
      obtain ⟨h4, hk4⟩ := h.err 4 (by omega)
      have er : rnum I (bs, 0) = (0, (bs, 4)) := by simp [rnum, hs]
      rw [er]
      exact ⟨rfl, o, c, h4, BSub.refl _, hk4⟩
    · obtain ⟨A, d, hcut, hsl, hsub⟩ := cut_h w o c bs bs.length I I rfl rfl (by omega) h.sl
      obtain ⟨A', d', hcut', hsl', hsub'⟩ := cut_l w o c bs bs.length I I rfl rfl (by omega) h.sl
      have HSL : Hid (BSl w A d (bs.take I)) := hsl
      clear hsl
      go_enter Tryz.func110, Tryz.ntmps110
      go_wp2_with fail
      refine (numberAt_any w A I d (bs.take I) (by rw [List.length_take]; omega) HSL.out.row (by rw [List.length_take]; omega)).mono ?_
      rintro e w1 ⟨rfl, rfl⟩
      go_wp2
      go_ret
      obtain ⟨hW, hK⟩ := h.put hsl' hsub' (by rw [List.length_drop]; omega) (bs.length - I) (by rw [List.length_drop])
      have er : rnum I (bs, 0) = (val (bs.take I), (bs.drop I, 0)) := by simp [rnum, hs]
      rw [er]
      exact ⟨rfl, A', d', hW, hsub', hK⟩
  · have he' : ¬ ((e0 : Nat) : Int) = 0 := by omega
    go_enter Tryz.func110, Tryz.ntmps110
    go_wp2
    go_ret
    have er : rnum I (bs, e0) = (0, (bs, e0)) := by simp [rnum, he]
    rw [er]
    exact ⟨rfl, o, c, h, BSub.refl _, Keeps.refl _ _⟩
end Go.Proofs.YtgamhblkgojapaaGreatDoor

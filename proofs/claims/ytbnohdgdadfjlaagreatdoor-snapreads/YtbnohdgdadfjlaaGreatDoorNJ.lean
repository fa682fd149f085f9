import Derived.Test.YtbnohdgdadfjlaaGreatDoorNI
import Derived.Deep.RegionHeld3
/- alive. -/
namespace Go.Proofs.YtbnohdgdadfjlaaGreatDoor
open Go.RowKit Go.Maps Go.Sort Orl Pk
set_option linter.unusedVariables false
set_option linter.unusedSimpArgs false

def nw (g : Nat) : List OV := [⟨1, 131072, e0, some ⟨g, 0, none⟩, 1, 1, some ⟨g + 1, 0, none⟩, 1, 1, 0⟩, ⟨2, 131072, e0, none, 0, 0, none, 0, 0, 0⟩]
theorem okl_nil (w : World) : OkL w [] [] := ⟨rfl, fun j hj => by simp at hj⟩
theorem getD_app_l {α : Type} (a b : List α) (d : α) {j : Nat} (h : j < a.length) : (a ++ b).getD j d = a.getD j d := by
  simp [List.getD_eq_getElem?_getD, List.getElem?_append_left h]
theorem getD_app_r {α : Type} (a b : List α) (d : α) {j : Nat} (h : a.length ≤ j) : (a ++ b).getD j d = b.getD (j - a.length) d := by
  simp [List.getD_eq_getElem?_getD, List.getElem?_append_right h]
theorem okl_app {w w' : World} {l m : List OV} {L M : List PO} (h : ∀ j, j < l.length → OkOp w' (l.getD j ov0) (L.getD j po0)) (hn : l.length = L.length) (k : OkL w' m M) : OkL w' (l ++ m) (L ++ M) := by
  refine ⟨by simp [hn, k.n], fun j hj => ?_⟩
  by_cases hl : j < l.length
  · rw [getD_app_l _ _ _ hl, getD_app_l _ _ _ (by omega)]
    exact h j hl
  · rw [getD_app_r _ _ _ (by omega), getD_app_r _ _ _ (by omega), hn]
    exact k.op _ (by simp at hj; omega)
theorem OkOp.keeps {S : Nat → Prop} {W W' : World} {o : OV} {x : PO} (h : OkOp W o x) (hk : Keeps S W W') (hS : ∀ k, inO o.ap k ∨ inO o.ak k → ¬ S k) : OkOp W' o x := { h with sp := h.sp.keeps hk (fun k h => hS k (.inl h)), sk := h.sk.keeps hk (fun k h => hS k (.inr h)) }
theorem BSl.of {w : World} {o : Option Addr} {c : Nat} {bs : List Nat} (h : Owns w o c bs) (hb : ∀ c ∈ bs, c < 256) (hl : bs.length ≤ 140737488355328) : BSl w o c bs := ⟨h.row hb (by omega), h.cap.1, h.cap.2⟩
theorem Owns.keepsN {w w' : World} {o : Option Addr} {c : Nat} {bs : List Nat} (h : Owns w o c bs) (hk : Keeps no w w') : Owns w' o c bs := h.keeps hk (fun _ _ => id)
theorem snap1_length : (snap 1 [] []).length = 25 := by simp [snap_length, snBody_length, layL, layV]
theorem snap1_0 : (snap 1 [] []).getD 0 0 = 114 := by decide
theorem snap1_12 : (snap 1 [] []).getD 12 0 = 1 := by decide
theorem rd_ok {w : World} {bs : List Nat} {now : Int} {e : Ending} {w' : World} (h : RdTo w bs now e w') (h1 : tickB now = true) (h2 : sumOk bs = true) (h3 : rdOk now bs = true) : ∃ p, e = .returned (.tuple #[.int .i64 ((rdG bs : Nat) : Int), .pointer (some ⟨p, 0, none⟩), .int .i64 0]) ∧ Hid (Ow w w' p (rdS now bs) (rdVs (bodyO bs)).1.length no) := by
  rcases h with ⟨h, _⟩ | ⟨_, h, _⟩ | ⟨_, _, h, _⟩ | ⟨_, _, _, p, he, ho⟩
  · rw [h1] at h; cases h
  · rw [h2] at h; cases h
  · rw [h3] at h; cases h
  · exact ⟨p, he, ho⟩
theorem rd_arg {w : World} {bs : List Nat} {now : Int} {e : Ending} {w' : World} (h : RdTo w bs now e w') (h1 : tickB now = false) : e = .returned (.tuple #[.int .i64 0, .pointer none, .int .i64 1]) ∧ Keeps no w w' := by
  rcases h with ⟨_, h⟩ | ⟨h, _⟩ | ⟨h, _⟩ | ⟨h, _⟩
  · exact h
  · rw [h1] at h; cases h
  · rw [h1] at h; cases h
  · rw [h1] at h; cases h
theorem rd_sum {w : World} {bs : List Nat} {now : Int} {e : Ending} {w' : World} (h : RdTo w bs now e w') (h1 : tickB now = true) (h2 : sumOk bs = false) : e = .returned (.tuple #[.int .i64 0, .pointer none, .int .i64 90]) ∧ Keeps no w w' := by
  rcases h with ⟨h, _⟩ | ⟨_, _, h⟩ | ⟨_, h, _⟩ | ⟨_, h, _⟩
  · rw [h1] at h; cases h
  · exact h
  · rw [h2] at h; cases h
  · rw [h2] at h; cases h
/-- no more versions are told than there are -/
theorem Ow.ks_le {w0 w : World} {p : Nat} {s : St} {N : Nat} {P : Nat → Prop} (h : Ow w0 w p s N P) {ls : List Mk} {ks : List KV} (hT : Tld s ls ks) : ks.length ≤ N := by
  obtain ⟨T, h, _⟩ := h
  obtain ⟨y, hy⟩ := h.is
  have hnd : (ks.map (·.m)).Nodup := inc_nodup swoM hT.inc
  have := List.Nodup.length_le_of_subset (l₂ := y.V.map (·.1)) hnd (fun m hm => by
    obtain ⟨x, hx, rfl⟩ := List.mem_map.1 hm
    have hv := hT.is x hx
    rw [hy.sv] at hv
    cases hf : fnd x.m y.V with
    | none => rw [hf] at hv; cases hv
    | some v => exact List.mem_map.2 ⟨_, fnd_mem hf, rfl⟩)
  have := hy.nv
  simp at *
  omega
set_option maxRecDepth 10000 in
set_option maxHeartbeats 4000000 in
theorem alive_any (w : World) (ht : TabIn w) : Calls Tryz.prog 8 #[] w fun e w' => e = .returned (.bool true) ∧ Keeps no w w' := by
  have HT : Hid (TabIn w) := ht
  clear ht
  have h1 := made_any w none 0 0 [] [] rfl (own_nil w).sl (okl_nil w) (by simp) (by simp [totP])
  go_enter Tryz.func8, Tryz.ntmps8
  go_wp2_with fail
  refine h1.mono ?_
  rintro e w1 ⟨p1, rfl, H1⟩
  have H1' : Hid (Ow w w1 p1 St.new 0 no) := by
    obtain ⟨N, hN, h⟩ := H1.out
    exact h.more (by simpa [totP] using hN)
  clear h1 H1
  go_wp2_with fail
  refine (example_any w1).mono ?_
  rintro e w2 ⟨eo, ec, l, rfl, H2⟩
  have HR3 : Hid (Row OE (((w2.alloc (.cells #[.string ⟨#[97]⟩, .string ⟨#[51]⟩] 70)).alloc (.cells #[.string ⟨#[97]⟩] 9)).alloc (.cells #[.int .i64 1, .int .u64 131072, .string ⟨#[]⟩, .slice (some ⟨w2.heap.size, 0, none⟩) 1 1, .slice (some ⟨w2.heap.size + 1, 0, none⟩) 1 1, .int .i64 0, .int .i64 2, .int .u64 131072, .string ⟨#[]⟩, .slice none 0 0, .slice none 0 0, .int .i64 0] 55)) (some ⟨w2.heap.size + 1 + 1, 0, none⟩) (nw w2.heap.size) ∧ OkL (((w2.alloc (.cells #[.string ⟨#[97]⟩, .string ⟨#[51]⟩] 70)).alloc (.cells #[.string ⟨#[97]⟩] 9)).alloc (.cells #[.int .i64 1, .int .u64 131072, .string ⟨#[]⟩, .slice (some ⟨w2.heap.size, 0, none⟩) 1 1, .slice (some ⟨w2.heap.size + 1, 0, none⟩) 1 1, .int .i64 0, .int .i64 2, .int .u64 131072, .string ⟨#[]⟩, .slice none 0 0, .slice none 0 0, .int .i64 0] 55)) (nw w2.heap.size) [⟨1, Kw.i2, e0, Kw.P2, [Kw.a], 0⟩, ⟨2, Kw.i2, e0, [], [], 0⟩]) := by
    have k1 := blk_alloc (blk_alloc (blk_new w2 (.cells #[.string ⟨#[97]⟩, .string ⟨#[51]⟩] 70)) (.cells #[.string ⟨#[97]⟩] 9)) (.cells #[.int .i64 1, .int .u64 131072, .string ⟨#[]⟩, .slice (some ⟨w2.heap.size, 0, none⟩) 1 1, .slice (some ⟨w2.heap.size + 1, 0, none⟩) 1 1, .int .i64 0, .int .i64 2, .int .u64 131072, .string ⟨#[]⟩, .slice none 0 0, .slice none 0 0, .int .i64 0] 55)
    have k2 : (((w2.alloc (.cells #[.string ⟨#[97]⟩, .string ⟨#[51]⟩] 70)).alloc (.cells #[.string ⟨#[97]⟩] 9)).alloc (.cells #[.int .i64 1, .int .u64 131072, .string ⟨#[]⟩, .slice (some ⟨w2.heap.size, 0, none⟩) 1 1, .slice (some ⟨w2.heap.size + 1, 0, none⟩) 1 1, .int .i64 0, .int .i64 2, .int .u64 131072, .string ⟨#[]⟩, .slice none 0 0, .slice none 0 0, .int .i64 0] 55)).heap[w2.heap.size + 1]? = some (.cells #[.string ⟨#[97]⟩] 9 (0, 0)) := by
      have h := blk_new (w2.alloc (.cells #[.string ⟨#[97]⟩, .string ⟨#[51]⟩] 70)) (.cells #[.string ⟨#[97]⟩] 9)
      rw [World.size_alloc] at h
      exact blk_alloc h _
    have k3 : (((w2.alloc (.cells #[.string ⟨#[97]⟩, .string ⟨#[51]⟩] 70)).alloc (.cells #[.string ⟨#[97]⟩] 9)).alloc (.cells #[.int .i64 1, .int .u64 131072, .string ⟨#[]⟩, .slice (some ⟨w2.heap.size, 0, none⟩) 1 1, .slice (some ⟨w2.heap.size + 1, 0, none⟩) 1 1, .int .i64 0, .int .i64 2, .int .u64 131072, .string ⟨#[]⟩, .slice none 0 0, .slice none 0 0, .int .i64 0] 55)).heap[w2.heap.size + 1 + 1]? = some (.cells #[.int .i64 1, .int .u64 131072, .string ⟨#[]⟩, .slice (some ⟨w2.heap.size, 0, none⟩) 1 1, .slice (some ⟨w2.heap.size + 1, 0, none⟩) 1 1, .int .i64 0, .int .i64 2, .int .u64 131072, .string ⟨#[]⟩, .slice none 0 0, .slice none 0 0, .int .i64 0] 55 (0, 0)) := by
      have h := blk_new ((w2.alloc (.cells #[.string ⟨#[97]⟩, .string ⟨#[51]⟩] 70)).alloc (.cells #[.string ⟨#[97]⟩] 9)) (.cells #[.int .i64 1, .int .u64 131072, .string ⟨#[]⟩, .slice (some ⟨w2.heap.size, 0, none⟩) 1 1, .slice (some ⟨w2.heap.size + 1, 0, none⟩) 1 1, .int .i64 0, .int .i64 2, .int .u64 131072, .string ⟨#[]⟩, .slice none 0 0, .slice none 0 0, .int .i64 0] 55)
      rw [World.size_alloc, World.size_alloc] at h
      exact h
    refine ⟨(own_lit okO k3 rfl (by simp [nw]) rfl).row, rfl, fun j hj => ?_⟩
    match j with
    | 0 => exact okop_put (i := 131072) (ps := Kw.P2) (keys := [Kw.a]) (by decide) k1 rfl k2 rfl (by decide) (by decide) (by decide) (by decide) rfl rfl
    | 1 => exact okop_com (by decide)
    | j + 2 => have h : j + 2 < 2 := hj; omega
  have HK3 : Hid (Keeps no w2 (((w2.alloc (.cells #[.string ⟨#[97]⟩, .string ⟨#[51]⟩] 70)).alloc (.cells #[.string ⟨#[97]⟩] 9)).alloc (.cells #[.int .i64 1, .int .u64 131072, .string ⟨#[]⟩, .slice (some ⟨w2.heap.size, 0, none⟩) 1 1, .slice (some ⟨w2.heap.size + 1, 0, none⟩) 1 1, .int .i64 0, .int .i64 2, .int .u64 131072, .string ⟨#[]⟩, .slice none 0 0, .slice none 0 0, .int .i64 0] 55))) := (((Keeps.refl no w2).alloc _).alloc _).alloc _
  go_wp2_with (at_builtin; refine wpList_app okO rfl _ _ rfl _ _ _ l rfl H2.out.1.symm (H2.out.2.1.keepsN HK3.out) _ _ _ (nw w2.heap.size) rfl rfl (fun h => by cases h) HR3.out.1 (by rw [H2.out.1]; simp [OE, nw]) (by rw [H2.out.1]; simp [nw]) ?_; intro o4 c4 w4 ho4 hap4)
  have HL4 : Hid (4 = (l ++ (nw w2.heap.size)).length ∧ OkL w4 (l ++ (nw w2.heap.size)) Kw.L4 ∧ Keeps no w1 w4) := by
    have hlt := H2.out.2.1.lt
    have hk4 : Keeps (inO eo) (((w2.alloc (.cells #[.string ⟨#[97]⟩, .string ⟨#[51]⟩] 70)).alloc (.cells #[.string ⟨#[97]⟩] 9)).alloc (.cells #[.int .i64 1, .int .u64 131072, .string ⟨#[]⟩, .slice (some ⟨w2.heap.size, 0, none⟩) 1 1, .slice (some ⟨w2.heap.size + 1, 0, none⟩) 1 1, .int .i64 0, .int .i64 2, .int .u64 131072, .string ⟨#[]⟩, .slice none 0 0, .slice none 0 0, .int .i64 0] 55)) w4 := by
      rcases hap4 with ⟨_, h⟩ | ⟨_, h⟩
      · exact h
      · exact h.of_no
    refine ⟨by rw [List.length_append, H2.out.1]; rfl, okl_app (w := w4) (fun j hj => ?_) (by rw [H2.out.1]; rfl) ⟨rfl, fun j hj => ?_⟩, (hap4.new (w0 := w1) H2.out.2.2.2.2.2 (H2.out.2.2.2.1.trans HK3.out)).2⟩
    · exact ((H2.out.2.2.1.op j hj).keepsN HK3.out).keeps hk4 (H2.out.2.2.2.2.1 _ (getD_mem_lt ov0 hj))
    · refine (HR3.out.2.op j hj).keeps hk4 (fun k hk hc => ?_)
      have h1 := hlt k hc
      match j with
      | 0 => rcases hk with ⟨y, e, hy⟩ | ⟨y, e, hy⟩ <;> cases e <;> simp only at hy <;> omega
      | 1 => rcases hk with ⟨y, e, hy⟩ | ⟨y, e, hy⟩ <;> cases e
      | j + 2 => have h : j + 2 < 2 := hj; omega
  have hm := made_any w4 o4 4 c4 _ Kw.L4 HL4.out.1 ho4.sl HL4.out.2.1 (by have := HL4.out.1; omega) (by decide)
  rw [Kw.run4] at hm
  have HM : Hid (Calls Tryz.prog 9 #[.slice o4 4 c4] w4 fun e w' => ∃ p, e = .returned (.pointer (some ⟨p, 0, none⟩)) ∧ Hid (∃ N, N ≤ totP Kw.L4 ∧ Ow w4 w' p Kw.s4 N no)) := hm
  clear ho4 hap4 hm HR3 HK3
  refine Calls.mono HM.out ?_
  rintro e w5 ⟨p2, rfl, H5⟩
  have H5' : Hid (Ow w4 w5 p2 Kw.s4 3 no) := by
    obtain ⟨N, hN, h⟩ := H5.out
    exact h.more (Nat.le_trans hN (by decide))
  have HK5 : Hid (Keeps no w w5 ∧ Ow w w5 p1 St.new 0 no) := by
    have h1 : Keeps no w1 w5 := HL4.out.2.2.trans H5'.out.keep
    exact ⟨H1'.out.keep.trans h1, H1'.out.go h1⟩
  clear HM H5 HL4 H1' H2
  go_wp2_with fail
  refine (build_any HK5.out.2 (by omega) (HT.out.keepsN HK5.out.1) 1 (by omega) (by omega)).mono ?_
  rintro e w6 ⟨bo, bn, bc, bs, rfl, H6⟩
  have hbs := Kw.sn_new H6.out.sn
  have hbn : bn = 25 := by rw [H6.out.n, hbs, snap1_length]
  have HBS : Hid (bs = snap 1 [] [] ∧ bs.length = 25) := ⟨hbs, by rw [hbs, snap1_length]⟩
  subst hbn
  clear hbs
  have hrow := H6.out.own.row H6.out.byt (by have := H6.out.le; omega)
  have hrow2 := hrow.2.2
  rcases hrow2 with h0 | ⟨bb, boff, ebo, hcl⟩
  · have := HBS.out.2; rw [h0] at this; simp at this
  have d0 := hcl 0 (by rw [HBS.out.2]; omega)
  have d12 := hcl 12 (by rw [HBS.out.2]; omega)
  rw [HBS.out.1, snap1_0] at d0
  rw [HBS.out.1, snap1_12] at d12
  have HRW : Hid (BRow w6 bo bs) := hrow
  clear hrow hcl
  subst ebo
  obtain ⟨A, dA, hcut, hslA, hsubA⟩ := cut_h w6 (some ⟨bb, boff, none⟩) bc bs 25 21 21 rfl HBS.out.2.symm (by omega) (BSl.of H6.out.own H6.out.byt (by have := H6.out.le; omega))
  obtain ⟨Z, hZ⟩ : ∃ Z, Z = Crc.sum (bs.take 21) := ⟨_, rfl⟩
  have HZ : Hid (val (tailO bs) = Z ∧ Crc.sum (bs.take 21) = Z) := by
    have h1 := sumOk_snap (snBody 1 [] []) (snBody_lt _ _ _)
    have h2 : snBody 1 [] [] ++ num 4 (Crc.sum (snBody 1 [] [])) = bs := HBS.out.1.symm
    rw [h2] at h1
    unfold sumOk at h1
    simp only [Bool.and_eq_true, decide_eq_true_eq] at h1
    have h3 : bodyO bs = bs.take 21 := by unfold bodyO; rw [HBS.out.2]
    have h4 : (rnum 4 (tailO bs, 0)).1 = val (tailO bs) := by
      have ht : (tailO bs).length = 4 := by unfold tailO; rw [List.length_drop, HBS.out.2]
      unfold rnum
      rw [if_neg (by simp), if_neg (by simp only; omega)]
      simp only
      rw [List.take_of_length_le (by omega)]
    refine ⟨?_, hZ.symm⟩
    rw [hZ, ← h4, h1.2, h3]
  have HZL : Hid (Z < 4294967296) := (show _ < _ by rw [hZ]; exact Crc.update_lt 0 _ (by decide) (byt_take H6.out.byt 21))
  have HSL : Hid (BSl w6 A dA (bs.take 21) ∧ (bs.take 21).length = 21) := ⟨hslA, by rw [List.length_take, HBS.out.2]; rfl⟩
  have HCL : Hid (∀ X, Keeps no w6 X → X.cell? ⟨bb, boff, none⟩ = some (.int .u8 114) ∧ X.cell? ⟨bb, boff + 12, none⟩ = some (.int .u8 1)) := fun X hX => ⟨hX.cellN d0, hX.cellN d12⟩
  clear hslA hsubA hZ d0 d12
  go_upto_region 6 with fail
  go_region_held3 (fun X => X.cell? ⟨bb, boff, none⟩ = some (.int .u8 114) ∧ X.cell? ⟨bb, boff + 12, none⟩ = some (.int .u8 1)) (first | exact HCL.out _ K2.out.1 | exact HCL.out _ K1.out | exact HCL.out _ (Keeps.refl no w6).drew | exact HCL.out _ (Keeps.refl no w6)) ((first | (go_at_call 27; refine (snapSum_any _ (some ⟨bb, boff, none⟩) bc bs HBS.out.2 (HRW.out.keeps (Keeps.refl no w6).drew (fun _ _ => id))).mono ?_; rw [HZ.out.1]; rintro e x1 ⟨rfl, hk⟩; have K1 : Hid (Keeps no w6 x1) := ((Keeps.refl no w6).drew).trans hk; clear hk) | (go_at_call 11; refine (own_any _ A 21 dA (bs.take 21) HSL.out.2.symm (by rw [HSL.out.2]; omega) (HSL.out.1.keepsN K1.out)).mono ?_; rintro e x2 ⟨oo, on, oc, rfl, hO⟩; have K2 : Hid (Keeps no w6 x2 ∧ on = (bs.take 21).length ∧ Owns x2 oo oc (bs.take 21)) := ⟨K1.out.trans hO.out.2.2.2, hO.out.1, hO.out.2.1⟩; clear hO) | (go_at_call 24; refine (sum_any oo on (bs.take 21) oc K2.out.2.1 _ (HT.out.keepsN ((HK5.out.1.trans H6.out.keep).trans K2.out.1)) (K2.out.2.2.row (byt_take H6.out.byt 21) (by rw [HSL.out.2]; omega))).mono ?_; rw [HZ.out.2]; rintro e x3 ⟨rfl, hx⟩; subst x3)))
  rename _ ∧ _ => hh
  clear hh hcut
  have HKx : Hid (Keeps no w x2 ∧ Ow w4 x2 p2 Kw.s4 3 no) := ⟨(HK5.out.1.trans H6.out.keep).trans K2.out.1, (H5'.out.go H6.out.keep).go K2.out.1⟩
  clear K1 K2 HCL HSL HZ HZL HRW HBS H6 HK5 H5'
  go_wp2_with fail
  refine (build_any HKx.out.2 (by omega) (HT.out.keepsN HKx.out.1) 7 (by omega) (by omega)).mono ?_
  rintro e w7 ⟨fo, fn, fc, fs, rfl, H7⟩
  go_wp2_with fail
  refine (own_any w7 fo fn fc fs H7.out.n (by have := H7.out.le; omega) (BSl.of H7.out.own H7.out.byt (by have := H7.out.le; omega))).mono ?_
  rintro e w8 ⟨go, gn, gc, rfl, H8⟩
  have HLR : Hid (sumOk fs = true ∧ rdOk 9 fs = true ∧ rdG fs = 7 ∧ (∀ m, (rdS 9 fs).V m = Kw.t9.V m) ∧ (∀ k, (rdS 9 fs).last k = Kw.t9.last k) ∧ (rdVs (bodyO fs)).1.length ≤ 3) := by
    have h := laid_read HKx.out.2.ok H7.out.sn (by decide) (now := 9) (by decide) (N := 3) (fun ls ks hT => ?_) (by decide)
    · exact ⟨h.1, h.2.1, h.2.2.1, h.2.2.2.1, h.2.2.2.2.1, h.2.2.2.2.2⟩
    · exact HKx.out.2.ks_le hT
  have HK8 : Hid (Keeps no w w8) := (HKx.out.1.trans H7.out.keep).trans H8.out.2.2.2
  go_wp2_with fail
  refine (read_any w8 go gn gc fs 9 H8.out.1 (BSl.of H8.out.2.1 H7.out.byt (by have := H7.out.le; omega)) (by have := H7.out.le; omega) (HT.out.keepsN HK8.out)).mono ?_
  intro e w9 hR
  obtain ⟨p3, rfl, H9⟩ := rd_ok hR (by decide) HLR.out.1 HLR.out.2.1
  clear hR
  rw [HLR.out.2.2.1]
  have hfn : (fn : Int) ≤ 140737488355328 := by have := H7.out.le; have := H7.out.n; omega
  obtain ⟨m, hm⟩ : ∃ m, m = fn - 1 := ⟨_, rfl⟩
  have hm' : ((fn : Nat) : Int) - 1 = ((m : Nat) : Int) := by have := H7.out.ge; have := H7.out.n; omega
  have HMn : Hid (m ≤ fn ∧ fn = fs.length) := ⟨by omega, H7.out.n⟩
  clear hm
  go_wp2_with fail
  refine (H9.out.keptK (by have := HLR.out.2.2.2.2.2; omega)).mono ?_
  rintro e w10 ⟨ko, kn, kc, ks, rfl, H10⟩
  obtain ⟨k0, k1, k2, hks, g0, g1, g2⟩ := Kw.kept9 (ks := ks) (fun x hx => by rw [← HLR.out.2.2.2.1]; exact H10.out.1.is x hx) H10.out.1.inc (fun m hm => H10.out.1.all m (by rw [HLR.out.2.2.2.1]; exact hm))
  have hkn : kn = 3 := by rw [H10.out.1.n, hks]; rfl
  obtain ⟨kb, koff, eko, q0, q1, q2, q3, q4⟩ := H10.out.1.own.sl.atK (j := 0) (by rw [hks]; simp)
  obtain ⟨kb', koff', eko', r0, r1, r2, r3, r4⟩ := H10.out.1.own.sl.atK (j := 1) (by rw [hks]; simp)
  rw [eko] at eko'
  injection eko' with eko'
  injection eko' with e1 e2 _
  subst e1 e2
  rw [hks] at q2 q4 r4
  have q2' : w10.cell? ⟨kb, koff + 2, none⟩ = some (.string Kw.x) := by rw [← g2]; exact q2
  have q4' : w10.cell? ⟨kb, koff + 4, none⟩ = some (.int .i64 9) := by rw [← g0]; exact q4
  have r4' : w10.cell? ⟨kb, koff + 5 + 4, none⟩ = some (.int .i64 (-1)) := by rw [← g1]; exact r4
  have HQ : Hid (w10.cell? ⟨kb, koff + 2, none⟩ = some (.string Kw.x) ∧ w10.cell? ⟨kb, koff + 4, none⟩ = some (.int .i64 9) ∧ w10.cell? ⟨kb, koff + 5 + 4, none⟩ = some (.int .i64 (-1))) := ⟨q2', q4', r4'⟩
  have HK10 : Hid (Keeps no w w10 ∧ Keeps no w7 w10 ∧ Ow w8 w10 p3 (rdS 9 fs) (rdVs (bodyO fs)).1.length no) := by
    have h1 := H10.out.2.2.1
    exact ⟨(HK8.out.trans H9.out.keep).trans h1, (H8.out.2.2.2.trans H9.out.keep).trans h1, H9.out.go h1⟩
  subst hkn eko
  clear q0 q1 q2 q3 q4 r0 r1 r2 r3 r4 q2' q4' r4' g0 g1 g2 hks H10 H9
  obtain ⟨B, dB, hcutB, hslB, hsubB⟩ := cut_h w10 fo fc fs fn m m rfl HMn.out.2 HMn.out.1 ((BSl.of H7.out.own H7.out.byt (by have := H7.out.le; omega)).keepsN HK10.out.2.1)
  have HSB : Hid (BSl w10 B dB (fs.take m) ∧ (fs.take m).length = m ∧ m ≤ 140737488355328) := ⟨hslB, by rw [List.length_take]; have := HMn.out; omega, by have := HMn.out; omega⟩
  clear hslB hsubB
  go_wp2_with fail
  refine (own_any w10 B m dB (fs.take m) HSB.out.2.1.symm (by rw [HSB.out.2.1]; exact HSB.out.2.2) HSB.out.1).mono ?_
  rintro e w11 ⟨uo, un, uc, rfl, H11⟩
  go_wp2_with fail
  refine (read_any w11 uo un uc (fs.take m) (-1) H11.out.1 (BSl.of H11.out.2.1 (byt_take H7.out.byt m) (by rw [HSB.out.2.1]; exact HSB.out.2.2)) (by rw [HSB.out.2.1]; exact HSB.out.2.2) (HT.out.keepsN (HK10.out.1.trans H11.out.2.2.2))).mono ?_
  intro e w12 hR
  obtain ⟨rfl, hk12⟩ := rd_arg hR (by decide)
  have HK12 : Hid (Keeps no w10 w12) := H11.out.2.2.2.trans hk12
  have z2 := HK12.out.cellN HQ.out.1
  have z4 := HK12.out.cellN HQ.out.2.1
  have z9 := HK12.out.cellN HQ.out.2.2
  have hx1 : Kw.x.toList = [49] := by rw [Lib.toList_data]; rfl
  clear hR hk12 hcutB
  have hL := (HK10.out.2.2.go HK12.out).lastsK (by have := HLR.out.2.2.2.2.2; omega)
  go_wp2_with (go_at_call 16; refine hL.mono ?_; rintro e w13 ⟨lo, ln, lc, ls, rfl, H13⟩; have hln : ln = 2 := (by rw [H13.out.1.n]; exact Kw.lasts9 ⟨H13.out.1.is.1, fun k i => by rw [← HLR.out.2.2.2.2.1]; exact H13.out.1.is.2 k i⟩); subst ln)
  go_ret
  exact ⟨rfl, (HK10.out.1.trans HK12.out).trans H13.out.2.2.1⟩
end Go.Proofs.YtbnohdgdadfjlaaGreatDoor

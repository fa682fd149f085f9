import Derived.Test.YtbnohdgdadfjlaaGreatDoorLBu
import Derived.Deep.RegionHeld3
/- SnapBack: its walk. -/
namespace Go.Proofs.YtbnohdgdadfjlaaGreatDoor
open Go.RowKit Go.Sort Orl Pk Go.Maps
set_option linter.unusedVariables false
set_option linter.unusedSimpArgs false

theorem i64_and40 (n : Int) : bits .and .i64 n 1099511627775 = n % 1099511627776 := by
  have h1 : (BitVec.ofInt 64 1099511627775).toNat = 2 ^ 40 - 1 := by decide
  have key : (BitVec.ofInt 64 n &&& BitVec.ofInt 64 1099511627775).toNat = (n % ((2 ^ 64 : Nat) : Int)).toNat % 2 ^ 40 := by
    rw [BitVec.toNat_and, BitVec.toNat_ofInt, h1, Nat.and_two_pow_sub_one_eq_mod]
  show IntKind.i64.wrap ((BitVec.ofInt 64 n &&& BitVec.ofInt 64 1099511627775).toNat : Nat) = n % 1099511627776
  rw [key, IntKind.wrap_i64]
  omega
theorem Kd.keeps {S : Nat → Prop} {s : St} {ks : List KV} {o : Option Addr} {n c : Nat} {w w' : World} (h : Kd s ks o n c w) (hk : Keeps S w w') (h1 : ∀ b, inO o b → ¬ S b) (h2 : ∀ x ∈ ks, ∀ b, inO x.o b → ¬ S b) : Kd s ks o n c w' :=
  ⟨h.n, h.own.keeps hk h1, fun x hx => (h.key x hx).keeps hk (h2 x hx), h.is, h.all, h.inc, h.ok, h.le⟩
/-- versions told since w0 -/
structure Kn (s : St) (w0 : World) (ks : List KV) (o : Option Addr) (n c : Nat) (w : World) : Prop where
  kd : Kd s ks o n c w
  new : New w0 o
  key : ∀ x ∈ ks, New w0 x.o
theorem Kn.keepsN {s : St} {w0 : World} {ks : List KV} {o : Option Addr} {n c : Nat} {w w' : World} (h : Kn s w0 ks o n c w) (hk : Keeps no w w') : Kn s w0 ks o n c w' := ⟨h.kd.keepsN hk, h.new, h.key⟩
theorem Kn.keeps {S : Nat → Prop} {s : St} {w0 : World} {ks : List KV} {o : Option Addr} {n c : Nat} {w w' : World} (h : Kn s w0 ks o n c w) (hk : Keeps S w w') (hS : ∀ b, S b → b < w0.heap.size) : Kn s w0 ks o n c w' :=
  ⟨h.kd.keeps hk (fun b hb hs => by have := h.new b hb; have := hS b hs; omega) (fun x hx b hb hs => by have := h.key x hx b hb; have := hS b hs; omega), h.new, h.key⟩
theorem Ow.keptN {w0 w : World} {p : Nat} {s : St} {N : Nat} {P : Nat → Prop} (h : Ow w0 w p s N P) (hN : N ≤ 1954687338211) :
    Calls Tryz.prog 14 #[.pointer (some ⟨p, 0, none⟩)] w fun e w' => ∃ o n c ks, e = .returned (.slice o n c) ∧ Hid (Kn s w ks o n c w' ∧ Keeps no w w') := by
  refine (h.keptK hN).mono ?_
  rintro e w' ⟨o, n, c, ks, he, H⟩
  exact ⟨o, n, c, ks, he, ⟨H.out.1, H.out.2.1.new, fun x hx => (H.out.2.1.key x hx).2⟩, H.out.2.2.1⟩
theorem Sim.of_eq {s t : St} (h : ∀ m, s.V m = t.V m) (k : ∀ x, s.last x = t.last x) : Sim s t := ⟨fun m => by rw [h], k⟩
theorem Sim.eq_V {s t u : St} (h : Sim s t) (k : ∀ m, u.V m = s.V m) (l : ∀ x, u.last x = s.last x) : Sim u t := (Sim.of_eq k l).trans h
/-- what may be done to one store, while all else stays -/
theorem keeps_part {w4 w5 w11 wq w' : World} {P : Nat → Prop} (h45 : w4.heap.size ≤ w5.heap.size) (hK0 : Keeps no w4 w11) (hK : Keeps (fun b => w4.heap.size ≤ b ∧ b < w5.heap.size) w11 wq) (hP : ∀ b, w5.heap.size ≤ b → b < w11.heap.size → P b) (hk : Keeps (fun b => ¬ P b) wq w') (h0 : Keeps no w4 w') : Keeps (fun b => w4.heap.size ≤ b ∧ b < w5.heap.size) w11 w' := by
  refine ⟨hk.os.trans hK.os, hk.tape.trans hK.tape, hk.output.trans hK.output, Nat.le_trans hK.size hk.size, fun b hb hn => ?_⟩
  by_cases h4 : b < w4.heap.size
  · rw [h0.block b h4 id, hK0.block b h4 id]
  · have h5 : w5.heap.size ≤ b := by
      by_cases h5 : b < w5.heap.size
      · exact absurd ⟨by omega, h5⟩ hn
      · omega
    rw [hk.block b (Nat.lt_of_lt_of_le hb hK.size) (fun hc => hc (hP b h5 hb)), hK.block b hb hn]
set_option maxRecDepth 10000 in
set_option maxHeartbeats 8000000 in
theorem back_any (w : World) (gen : Int) (g1 : -9223372036854775808 ≤ gen) (g2 : gen ≤ 9223372036854775807) (a : Option Addr) (n c : Nat) (l : List OV) (L : List PO) (hS : Scr w a n c l L) (now0 : Int) (n1 : -9223372036854775808 ≤ now0) (n2 : now0 ≤ 9223372036854775807) (a' : Option Addr) (n' c' : Nat) (l' : List OV) (L' : List PO) (hS' : Scr w a' n' c' l' L') (ht : TabIn w) :
    Calls Tryz.prog 5 #[.int .i64 gen, .slice a n c, .int .i64 now0, .slice a' n' c'] w fun e w' => e = .returned (.bool true) ∧ Keeps no w w' := by
  have HS : Hid (Scr w a n c l L ∧ TabIn w ∧ Scr w a' n' c' l' L') := ⟨hS, ht, hS'⟩
  have hnb' : (n' : Int) ≤ 1048576 := by have := hS'.n; have := hS'.len; omega
  have hand := i64_and40 now0
  obtain ⟨now, hnow⟩ : ∃ now, now = now0 % 1099511627776 := ⟨_, rfl⟩
  rw [← hnow] at hand
  have HTk : Hid (tickB now = true) := (show _ = _ by rw [tick_iff]; omega)
  clear hS ht hS' hnow n1 n2
  go_enter Tryz.func5, Tryz.ntmps5
  go_wp2_with fail
  refine (alive_any w HS.out.2.1).mono ?_
  rintro e w1 ⟨rfl, hk1⟩
  have HK1 : Hid (Keeps no w w1) := hk1
  clear hk1
  go_upto_if 34 with fail
  go_cut [0] from 33 to 37 (fun v wc => ∃ G : Nat, v = .int .i64 ((G : Nat) : Int) ∧ 1 ≤ G ∧ G ≤ 9223372036854775807 ∧ wc = w1)
  case first =>
    by_cases hc : gen < 1
    · have hm : gen.tmod 1000 ≤ 0 ∧ -1000 < gen.tmod 1000 := by
        have h3 := Int.tmod_nonneg 1000 (show 0 ≤ -gen by omega)
        have h4 : (-gen).tmod 1000 = -(gen.tmod 1000) := Int.neg_tmod gen 1000
        have h5 := Int.tmod_lt_of_pos (-gen) (show (0 : Int) < 1000 by omega)
        omega
      obtain ⟨T, hT⟩ : ∃ T, T = gen.tmod 1000 := ⟨_, rfl⟩
      rw [← hT] at hm
      have hT' : gen.tmod 1000 = T := hT.symm
      have hm1 := hm.1
      have hm2 := hm.2
      clear hT hm
      go_wp2_with fail
      go_meet
      case rel => exact ⟨(1 - T).toNat, by congr 1; omega, by omega, by omega, rfl⟩
    · go_wp2_with fail
      go_meet
      case rel => exact ⟨gen.toNat, by congr 1; omega, by omega, by omega, rfl⟩
  case rest =>
  obtain ⟨G, rfl, hG1, hG2, rfl⟩ := hcut
  rename World => w1
  have HG : Hid (1 ≤ G ∧ G ≤ 9223372036854775807 ∧ genOk G = true) := ⟨hG1, hG2, by unfold genOk; rw [decide_eq_true_eq]; exact ⟨hG1, hG2⟩⟩
  clear hG1 hG2 g1 g2
  go_wp2_with fail
  refine (HS.out.1.keepsN HK1.out).made.mono ?_
  rintro e w2 ⟨p, rfl, H2⟩
  go_wp2_with fail
  refine (build_any H2.out (by omega) (HS.out.2.1.keepsN (HK1.out.trans H2.out.keep)) G HG.out.1 HG.out.2.1).mono ?_
  rintro e w3 ⟨bo, bn, bc, bs, rfl, H3⟩
  go_wp2_with fail
  refine (own_any w3 bo bn bc bs H3.out.n (by have := H3.out.le; omega) (BSl.of H3.out.own H3.out.byt (by have := H3.out.le; omega))).mono ?_
  rintro e w4 ⟨co, cn, cc, rfl, H4⟩
  have HK4 : Hid (Keeps no w w4) := ((HK1.out.trans H2.out.keep).trans H3.out.keep).trans H4.out.2.2.2
  have HLR : Hid (sumOk bs = true ∧ rdOk now bs = true ∧ rdG bs = G ∧ (∀ m, (rdS now bs).V m = (restS now (runO L)).V m) ∧ (∀ k, (rdS now bs).last k = (runO L).last k) ∧ (rdVs (bodyO bs)).1.length ≤ 1048576) := laid_read H2.out.ok H3.out.sn HG.out.2.2 HTk.out (fun ls ks hT => H2.out.ks_le hT) (by decide)
  have HSim : Hid (Sim (rdS now bs) (runO L)) := (rest_sim now (runO L)).eq_V HLR.out.2.2.2.1 HLR.out.2.2.2.2.1
  go_wp2_with fail
  refine (read_any w4 co cn cc bs now H4.out.1 (BSl.of H4.out.2.1 H3.out.byt (by have := H3.out.le; omega)) (by have := H3.out.le; omega) (HS.out.2.1.keepsN HK4.out)).mono ?_
  intro e w5 hR
  obtain ⟨px, rfl, h5⟩ := rd_ok hR HTk.out HLR.out.1 HLR.out.2.1
  have H5 : Hid (Ow w4 w5 px (rdS now bs) 1048576 no) := h5.out.more HLR.out.2.2.2.2.2
  rw [HLR.out.2.2.1]
  clear hR h5
  go_wp2_with fail
  refine ((H2.out.go ((H3.out.keep.trans H4.out.2.2.2).trans H5.out.keep)).keptN (by omega)).mono ?_
  rintro e w6 ⟨ko, kn, kc, ks, rfl, H6⟩
  go_wp2_with fail
  refine ((H2.out.go (((H3.out.keep.trans H4.out.2.2.2).trans H5.out.keep).trans H6.out.2)).lastsK (by omega)).mono ?_
  rintro e w7 ⟨lo, ln, lc, ls, rfl, H7⟩
  go_wp2_with fail
  refine ((H5.out.go (H6.out.2.trans H7.out.2.2.1)).keptN (by omega)).mono ?_
  rintro e w8 ⟨xo, xn, xc, xs, rfl, H8⟩
  have HKs : Hid (Kn (runO L) w5 ks ko kn kc w8 ∧ Kn (rdS now bs) w7 xs xo xn xc w8 ∧ Ld (runO L) ls lo ln lc w8 ∧ Keeps no w5 w8) := ⟨(H6.out.1.keepsN H7.out.2.2.1).keepsN H8.out.2, H8.out.1, H7.out.1.keepsN H8.out.2, (H6.out.2.trans H7.out.2.2.1).trans H8.out.2⟩
  have HW57 : Hid (w5.heap.size ≤ w7.heap.size) := (H6.out.2.trans H7.out.2.2.1).size
  clear H6 H7 H8
  go_wp2_with fail
  refine (sameKd false HSim.out.symm (fun h => by cases h) HKs.out.1.kd HKs.out.2.1.kd).mono ?_
  rintro e w9 ⟨rfl, hk9⟩
  have HK9 : Hid (Keeps no w8 w9) := hk9
  clear hk9
  go_wp2_with fail
  refine ((H5.out.go (HKs.out.2.2.2.trans HK9.out)).lastsK (by omega)).mono ?_
  rintro e w10 ⟨mo, mn, mc, ms, rfl, H10⟩
  go_wp2_with fail
  refine (sameLd (fun k => (HLR.out.2.2.2.2.1 k).symm) ((HKs.out.2.2.1.keepsN HK9.out).keepsN H10.out.2.2.1) H10.out.1).mono ?_
  rintro e w11 ⟨rfl, hk11⟩
  have HK11 : Hid (Keeps no w5 w11 ∧ Keeps no w8 w11) := by
    have := (HK9.out.trans H10.out.2.2.1).trans hk11
    exact ⟨HKs.out.2.2.2.trans this, this⟩
  have HX : Hid (Kn (runO L) w5 ks ko kn kc w11 ∧ Kn (rdS now bs) w7 xs xo xn xc w11 ∧ Ow w4 w11 px (rdS now bs) 1048576 no) := ⟨HKs.out.1.keepsN HK11.out.2, HKs.out.2.1.keepsN HK11.out.2, H5.out.go HK11.out.1⟩
  have hxnb : (xn : Int) ≤ 1954687338211 := by have := HX.out.2.1.kd.n; have := HX.out.2.1.kd.le; omega
  clear hk11 H10 HK9 HKs
  go_upto_block 0 with fail
  go_cut [19, 20] from 90 to 132 (fun _ _ wc => Hid (Keeps no w11 wc))
  case first =>
    go_wp2_with fail
    go_loopw [19, 20] (fun i _ wr => ∃ k : Nat, k ≤ xn ∧ i = .int .i64 k ∧ Hid (Keeps no w11 wr)) (fun i _ _ => xn - (intOf i).toNat)
    case atStart => exact ⟨0, by omega, rfl, Keeps.refl _ _⟩
    case round =>
      rename World => wq
      obtain ⟨k, hk, rfl, HQ⟩ := hrel
      by_cases hlt : k < xn
      · have hlt' : (k : Int) < xn := by omega
        have hkx : k < xs.length := by have := HX.out.2.1.kd.n; omega
        obtain ⟨b1, off1, e1, d0, d1, d2, d3, d4⟩ := (HX.out.2.1.kd.keepsN HQ.out).own.sl.atK hkx
        have hin := getD_mem_lt kv0 hkx
        have hv := HX.out.2.1.kd.is _ hin
        generalize xs.getD k kv0 = x at d0 d1 d2 d3 d4 hin hv
        obtain ⟨⟨xk, xi⟩, xv, xo', xc', xks, xst⟩ := x
        simp only at d0 d1 d4 hv
        have hst : xst = if xi < (rdS now bs).last xk then now else -1 := by
          have h1 := hv
          rw [HLR.out.2.2.2.1] at h1
          obtain ⟨u, _, _, _, h2⟩ := rest_some h1
          have h2 : xst = if xi < (runO L).last xk then now else -1 := h2
          rw [h2, HLR.out.2.2.2.2.1]
        have hksz := HX.out.2.2.ok.v.size hv
        obtain ⟨La, hLa⟩ : ∃ La, La = (rdS now bs).last xk := ⟨_, rfl⟩
        rw [← hLa] at hst
        have HLs : Hid (∀ X, Keeps no w11 X → Calls Tryz.prog 18 #[.pointer (some ⟨px, 0, none⟩), .string xk] X fun e w' => e = .returned (.int .u64 ((La : Nat) : Int)) ∧ w' = X) := fun X hX => by rw [hLa]; exact (HX.out.2.2.go hX).last xk hksz
        have HCl : Hid (∀ X, Keeps no wq X → X.cell? ⟨b1, off1 + k * 5, none⟩ = some (.string xk) ∧ X.cell? ⟨b1, off1 + k * 5 + 1, none⟩ = some (.int .u64 ((xi : Nat) : Int))) := fun X hX => ⟨hX.cellN d0, hX.cellN d1⟩
        have HD4 : Hid (∀ X, Keeps no wq X → X.cell? ⟨b1, off1 + k * 5 + 4, none⟩ = some (.int .i64 xst)) := fun X hX => hX.cellN d4
        have HST : Hid (xst = if xi < La then now else -1) := hst
        clear hkx hin hv hksz hLa d0 d1 d2 d3 d4 hst
        subst e1
        go_upto_region 22 with fail
        go_region_held3 (fun X => X.cell? ⟨b1, off1 + k * 5, none⟩ = some (.string xk) ∧ X.cell? ⟨b1, off1 + k * 5 + 1, none⟩ = some (.int .u64 ((xi : Nat) : Int))) (first | exact HCl.out _ (Keeps.refl no _) | exact HCl.out _ ((Keeps.refl no _).drew)) ((first | (go_at_call 18; refine (HLs.out _ (HQ.out.drew)).mono ?_; rintro e y1 ⟨rfl, hy⟩; subst y1)))
        rename _ ∧ _ => hh
        clear hh
        have HQ2 : Hid (Keeps no w11 wq.drew) := HQ.out.drew
        have d4 := HD4.out _ ((Keeps.refl no wq).drew)
        generalize wq.drew = wz at HQ2 d4 ⊢
        by_cases hxl : xi < La
        · have e : xst = now := by rw [HST.out, if_pos hxl]
          rw [e] at d4
          clear e
          go_wp2_with fail
          go_roundw
          case rel => exact ⟨k + 1, by omega, by go_num, HQ2⟩
          case measure => simp [intOf]; omega
        · have e : xst = -1 := by rw [HST.out, if_neg hxl]
          rw [e] at d4
          clear e
          go_wp2_with fail
          go_roundw
          case rel => exact ⟨k + 1, by omega, by go_num, HQ2⟩
          case measure => simp [intOf]; omega
      · have hlt' : ¬ (k : Int) < xn := by omega
        go_wp2_with fail
        go_meet
        case rel => exact HQ
  case rest =>
  rename World => w12
  have HK12 : Hid (Keeps no w11 w12 ∧ Keeps no w5 w12) := ⟨hcut.out, HK11.out.1.trans hcut.out⟩
  clear hcut
  go_wp2_with fail
  refine (build_any (HX.out.2.2.go HK12.out.1) (by omega) (HS.out.2.1.keepsN ((HK4.out.trans H5.out.keep).trans HK12.out.2)) G HG.out.1 HG.out.2.1).mono ?_
  rintro e w13 ⟨do_, dn, dc, dsx, rfl, H13⟩
  have HEQ : Hid (bs = dsx) := SnOf.eq HSim.out.symm H3.out.sn H13.out.sn
  have HB13 : Hid (BRow w13 bo bs ∧ BRow w13 do_ dsx) := ⟨(H3.out.own.keepsN ((H4.out.2.2.2.trans H5.out.keep).trans (HK12.out.2.trans H13.out.keep))).row H3.out.byt (by have := H3.out.le; omega), H13.out.own.row H13.out.byt (by have := H13.out.le; omega)⟩
  go_wp2_with fail
  refine (same_bytes w13 bo bn bc do_ dn dc bs dsx H3.out.n H13.out.n HB13.out.1 HB13.out.2).mono ?_
  rw [decide_eq_true HEQ.out]
  rintro e w14 ⟨rfl, hw14⟩
  subst w14
  have HK13 : Hid (Keeps no w5 w13) := HK12.out.2.trans H13.out.keep
  have HX2 : Hid (Kn (runO L) w5 ks ko kn kc w13 ∧ Kn (rdS now bs) w7 xs xo xn xc w13 ∧ Ow w4 w13 px (rdS now bs) 1048576 (fun b => w5.heap.size ≤ b ∧ b < w13.heap.size)) := by
    have h1 := HK12.out.1.trans H13.out.keep
    refine ⟨HX.out.1.keepsN h1, HX.out.2.1.keepsN h1, (H5.out.grow HK13.out).sub (fun b hb => .inr hb)⟩
  have H45 : Hid (w4.heap.size ≤ w5.heap.size ∧ Keeps no w4 w13) := ⟨H5.out.keep.size, H5.out.keep.trans HK13.out⟩
  clear HX HB13 HEQ
  go_upto_block 2 with fail
  go_cut [23, 24] from 147 to 182 (fun _ _ wc => Hid (Keeps (fun b => w4.heap.size ≤ b ∧ b < w5.heap.size) w13 wc ∧ Keeps no w4 wc))
  case first =>
    go_wp2_with fail
    go_loopw [23, 24] (fun i _ wr => ∃ k : Nat, k ≤ n' ∧ i = .int .i64 k ∧ Hid (∃ N s, N ≤ 1048576 + totP (L'.take k) ∧ Ow w4 wr px s N (fun b => w5.heap.size ≤ b ∧ b < w13.heap.size) ∧ Keeps (fun b => w4.heap.size ≤ b ∧ b < w5.heap.size) w13 wr)) (fun i _ _ => n' - (intOf i).toNat)
    case atStart => exact ⟨0, by omega, rfl, 1048576, _, by omega, HX2.out.2.2, Keeps.refl _ _⟩
    case round =>
      obtain ⟨k, hk, rfl, HQ⟩ := hrel
      by_cases hlt : k < n'
      · have hlt' : (k : Int) < n' := by omega
        have hka : k < l'.length := by have := HS.out.2.2.n; omega
        have hkL : k < L'.length := by have := HS.out.2.2.ok.n; omega
        obtain ⟨N, s, hN, hOw, hKx⟩ := HQ.out
        have hKw : Keeps no w wr := HK4.out.trans hOw.keep
        obtain ⟨b1, off1, e1, hc⟩ := (HS.out.2.2.sl.keepsN hKw).atO hka
        have hop := (HS.out.2.2.ok.op k hka).keepsN hKw
        obtain ⟨x, hx⟩ : ∃ x, x = L'.getD k po0 := ⟨_, rfl⟩
        rw [← hx] at hop
        have htt := totP_take L' k hkL
        have hte := totP_le L' (k + 1)
        have htot := HS.out.2.2.tot
        rw [← hx] at htt
        generalize l'.getD k ov0 = v at hop hc
        obtain ⟨vk, vi, vy, ap, np, cp, ak, nk, ck, vn⟩ := v
        obtain ⟨q1, q2, q3, q4, q5, q6, q7, q8, q9, q10, q11, q12, q13, q14⟩ := hop
        simp only at q1 q2 q3 q4 q5 q6 q9 q10
        subst q1 q2 q3 q4
        have c0 := hc 0 _ rfl (by omega)
        have c1 := hc 1 _ rfl (by omega)
        have c2 := hc 2 _ rfl (by omega)
        have c3 := hc 3 _ rfl (by omega)
        have c4 := hc 4 _ rfl (by omega)
        have c5 := hc 5 _ rfl (by omega)
        simp only [Nat.add_zero] at c0
        have HAX : Hid (x.i < 18446744073709551616 ∧ x.y.size ≤ 140737488351232 ∧ x.ps.length ≤ 1048576 ∧ x.keys.length ≤ 1048576) := ⟨q7, q8, q13, q14⟩
        obtain ⟨P, hP, hPO, hPs⟩ : ∃ P, Ow w4 (wr.alloc (.cells #[.int .i64 x.kd, .int .u64 ((x.i : Nat) : Int), .string x.y, .slice ap np cp, .slice ak nk ck, .int .i64 x.now] 55)) px s N P ∧ P wr.heap.size ∧ ∀ b, w5.heap.size ≤ b → b < w13.heap.size → P b := ⟨_, hOw.grow ((Keeps.refl no wr).alloc _), .inr ⟨Nat.le_refl _, by simp⟩, fun b h1 h2 => .inl ⟨h1, h2⟩⟩
        have HOW : Hid (Ow w4 (wr.alloc (.cells #[.int .i64 x.kd, .int .u64 ((x.i : Nat) : Int), .string x.y, .slice ap np cp, .slice ak nk ck, .int .i64 x.now] 55)) px s N P ∧ N ≤ 2097152) := ⟨hP, by omega⟩
        have HPO : Hid (P wr.heap.size) := hPO
        have HOB : Hid ((wr.alloc (.cells #[.int .i64 x.kd, .int .u64 ((x.i : Nat) : Int), .string x.y, .slice ap np cp, .slice ak nk ck, .int .i64 x.now] 55)).heap[wr.heap.size]? = some (.cells #[.int .i64 x.kd, .int .u64 ((x.i : Nat) : Int), .string x.y, .slice ap np cp, .slice ak nk ck, .int .i64 x.now] 55 (0, 0))) := blk_new wr _
        have HAR : Hid (np = x.ps.length ∧ nk = x.keys.length ∧ Sl PE (wr.alloc (.cells #[.int .i64 x.kd, .int .u64 ((x.i : Nat) : Int), .string x.y, .slice ap np cp, .slice ak nk ck, .int .i64 x.now] 55)) ap cp x.ps ∧ Sl TE (wr.alloc (.cells #[.int .i64 x.kd, .int .u64 ((x.i : Nat) : Int), .string x.y, .slice ap np cp, .slice ak nk ck, .int .i64 x.now] 55)) ak ck x.keys) := ⟨q5, q6, q9.keepsN ((Keeps.refl no wr).alloc _), q10.keepsN ((Keeps.refl no wr).alloc _)⟩
        have HFIN : Hid (∀ (M : Nat) (s' : St) (z : World), M ≤ N + x.ps.length ∧ Ow w4 z px s' M P ∧ Keeps (fun b => ¬ P b) (wr.alloc (.cells #[.int .i64 x.kd, .int .u64 ((x.i : Nat) : Int), .string x.y, .slice ap np cp, .slice ak nk ck, .int .i64 x.now] 55)) z → ∃ k_1 : Nat, k_1 ≤ n' ∧ Value.int .i64 ((k : Int) + 1) = .int .i64 k_1 ∧ Hid (∃ N s, N ≤ 1048576 + totP (L'.take k_1) ∧ Ow w4 z px s N (fun b => w5.heap.size ≤ b ∧ b < w13.heap.size) ∧ Keeps (fun b => w4.heap.size ≤ b ∧ b < w5.heap.size) w13 z)) := fun M s' z hM => ⟨k + 1, by omega, by go_num, M, s', by omega, hM.2.1.sub (fun b hb => hPs b hb.1 hb.2), keeps_part H45.out.1 H45.out.2 (hKx.alloc _) hPs hM.2.2 hM.2.1.keep⟩
        clear hc q5 q6 q7 q8 q9 q10 q11 q12 q13 q14 htt hte htot hx hOw hN HQ hka hkL hP hPO hPs hKx hKw
        subst e1
        obtain ⟨ps, hps⟩ : ∃ ps, ps = x.ps := ⟨_, rfl⟩
        obtain ⟨keys, hkeys⟩ : ∃ keys, keys = x.keys := ⟨_, rfl⟩
        rw [← hps, ← hkeys] at HAR
        have HEQ : Hid (ps = x.ps ∧ keys = x.keys) := ⟨hps, hkeys⟩
        have HBD : Hid ((([] : List Pr).length + ps.length) * PE.nb ≤ 140737488355328 ∧ ([] : List Pr).length + ps.length ≤ 140737488355328 ∧ (([] : List Tx).length + keys.length) * TE.nb ≤ 140737488355328 ∧ ([] : List Tx).length + keys.length ≤ 140737488355328) := by
          have h1 := HAX.out.2.2
          rw [← hps, ← hkeys] at h1
          simp only [PE, TE, List.length_nil]
          exact ⟨by omega, by omega, by omega, by omega⟩
        clear hps hkeys
        go_upto_region 32 with fail
        generalize wr.alloc (.cells #[.int .i64 x.kd, .int .u64 ((x.i : Nat) : Int), .string x.y, .slice ap np cp, .slice ak nk ck, .int .i64 x.now] 55) = W at HOW HOB HAR HFIN ⊢
        generalize wr.heap.size = O at HOB HPO ⊢
        have HSB : Hid (∀ Y : World, Y.heap[O]? = some (.cells #[.int .i64 x.kd, .int .u64 ((x.i : Nat) : Int), .string x.y, .slice ap np cp, .slice ak nk ck, .int .i64 x.now] 55 (0, 0)) → Y.cell? ⟨O, 1, none⟩ = some (.int .u64 ((x.i : Nat) : Int)) ∧ Y.cell? ⟨O, 3, none⟩ = some (.slice ap np cp) ∧ Y.cell? ⟨O, 4, none⟩ = some (.slice ak nk ck) ∧ Y.cell? ⟨O, 5, none⟩ = some (.int .i64 x.now)) := fun Y h2 => ⟨cell_of_blk h2 1, cell_of_blk h2 3, cell_of_blk h2 4, cell_of_blk h2 5⟩
        have HSX : Hid (∀ Y : World, Keeps no W Y → Y.cell? ⟨O, 1, none⟩ = some (.int .u64 ((x.i : Nat) : Int)) ∧ Y.cell? ⟨O, 3, none⟩ = some (.slice ap np cp) ∧ Y.cell? ⟨O, 4, none⟩ = some (.slice ak nk ck) ∧ Y.cell? ⟨O, 5, none⟩ = some (.int .i64 x.now)) := fun Y hY => HSB.out Y (hY.at HOB.out id)
        clear c0 c1 c2 c3 c4 c5
        refine wp_region_held_drew (S := (fun Y => Y.cell? ⟨O, 1, none⟩ = some (.int .u64 ((x.i : Nat) : Int)) ∧ Y.cell? ⟨O, 3, none⟩ = some (.slice ap np cp) ∧ Y.cell? ⟨O, 4, none⟩ = some (.slice ak nk ck) ∧ Y.cell? ⟨O, 5, none⟩ = some (.int .i64 x.now))) (by kernel_rfl) ?_ (fun hHeld => ?_)
        · exact HSX.out _ ((Keeps.refl no _).drew)
        refine wpAnyH_take (i := 0) (v := ?_) (by simp only [List.getElem?_toArray, List.getElem?_cons_succ, List.getElem?_cons_zero]; rfl) (by kernel_rfl) (by kernel_rfl) (by kernel_rfl) (by exact fun _ _ _ h => h) (Or.inl ⟨by rfl, ?_⟩) (by assumption) ?_
        rotate_left
        · (intro _ hSw; (try dsimp only at hSw); go_simp; (try with_reducible rfl))
        try simp only [Act.put, List.setIfInBounds_toArray, List.set_cons_zero, List.set_cons_succ]
        refine wpAnyH_take (i := 1) (v := ?_) (by simp only [List.getElem?_toArray, List.getElem?_cons_succ, List.getElem?_cons_zero]; rfl) (by kernel_rfl) (by kernel_rfl) (by kernel_rfl) (by exact fun _ _ _ h => h) (Or.inl ⟨by rfl, ?_⟩) (by assumption) ?_
        rotate_left
        · (intro _ hSw; (try dsimp only at hSw); go_simp; (try with_reducible rfl))
        try simp only [Act.put, List.setIfInBounds_toArray, List.set_cons_zero, List.set_cons_succ]
        refine wpAnyH_take (i := 2) (v := ?_) (by simp only [List.getElem?_toArray, List.getElem?_cons_succ, List.getElem?_cons_zero]; rfl) (by kernel_rfl) (by kernel_rfl) (by kernel_rfl) (by exact fun _ _ _ h => h) (Or.inl ⟨by rfl, ?_⟩) (by assumption) ?_
        rotate_left
        · (intro _ hSw; (try dsimp only at hSw); go_simp; (try with_reducible rfl))
        try simp only [Act.put, List.setIfInBounds_toArray, List.set_cons_zero, List.set_cons_succ]
        refine wpAnyH_take (i := 4) (v := ?_) (by simp only [List.getElem?_toArray, List.getElem?_cons_succ, List.getElem?_cons_zero]; rfl) (by kernel_rfl) (by kernel_rfl) (by kernel_rfl) (by exact fun _ _ _ h => h) (Or.inl ⟨by rfl, ?_⟩) (by assumption) ?_
        rotate_left
        · (intro _ hSw; (try dsimp only at hSw); go_simp; (try with_reducible rfl))
        try simp only [Act.put, List.setIfInBounds_toArray, List.set_cons_zero, List.set_cons_succ]
        refine wpAnyH_take (i := 5) (v := ?_) (by simp only [List.getElem?_toArray, List.getElem?_cons_succ, List.getElem?_cons_zero]; rfl) (by kernel_rfl) (by kernel_rfl) (by kernel_rfl) (by exact fun _ _ _ h => h) (Or.inl ⟨by rfl, ?_⟩) (by assumption) ?_
        rotate_left
        · (intro _ hSw; (try dsimp only at hSw); go_simp; (try with_reducible rfl))
        try simp only [Act.put, List.setIfInBounds_toArray, List.set_cons_zero, List.set_cons_succ]
        refine wpAnyH_take (i := 8) (v := ?_) (by simp only [List.getElem?_toArray, List.getElem?_cons_succ, List.getElem?_cons_zero]; rfl) (by kernel_rfl) (by kernel_rfl) (by kernel_rfl) (by exact fun _ _ _ h => h) (Or.inl ⟨by rfl, ?_⟩) (by assumption) ?_
        rotate_left
        · (intro _ hSw; (try dsimp only at hSw); go_simp; (try with_reducible rfl))
        try simp only [Act.put, List.setIfInBounds_toArray, List.set_cons_zero, List.set_cons_succ]
        refine wpAnyH_take (i := 9) (v := ?_) (by simp only [List.getElem?_toArray, List.getElem?_cons_succ, List.getElem?_cons_zero]; rfl) (by kernel_rfl) (by kernel_rfl) (by kernel_rfl) (by exact fun _ _ _ h => h) (Or.inl ⟨by rfl, ?_⟩) (by assumption) ?_
        rotate_left
        · (intro _ hSw; (try dsimp only at hSw); go_simp; (try with_reducible rfl))
        try simp only [Act.put, List.setIfInBounds_toArray, List.set_cons_zero, List.set_cons_succ]
        refine wpAnyH_take (i := 11) (v := ?_) (by simp only [List.getElem?_toArray, List.getElem?_cons_succ, List.getElem?_cons_zero]; rfl) (by kernel_rfl) (by kernel_rfl) (by kernel_rfl) (by exact fun _ _ _ h => h) (Or.inl ⟨by rfl, ?_⟩) (by assumption) ?_
        rotate_left
        · (intro _ hSw; (try dsimp only at hSw); go_simp; (try with_reducible rfl))
        try simp only [Act.put, List.setIfInBounds_toArray, List.set_cons_zero, List.set_cons_succ]
        refine wpAnyH_take (i := 12) (v := ?_) (by simp only [List.getElem?_toArray, List.getElem?_cons_succ, List.getElem?_cons_zero]; rfl) (by kernel_rfl) (by kernel_rfl) (by kernel_rfl) (by exact fun _ _ _ h => h) (Or.inl ⟨by rfl, ?_⟩) (by assumption) ?_
        rotate_left
        · (intro _ hSw; (try dsimp only at hSw); go_simp; (try with_reducible rfl))
        try simp only [Act.put, List.setIfInBounds_toArray, List.set_cons_zero, List.set_cons_succ]
        have HC : Hid (Keeps no W W.drew) := (Keeps.refl no _).drew
        generalize W.drew = z0 at HC ⊢
        refine wpAnyH_ready (rs := [3, 7]) (by kernel_rfl) (by simp) ?_
        refine AllReadyH.cons (by simp only [List.getElem?_toArray, List.getElem?_cons_succ, List.getElem?_cons_zero]; rfl) (fun Kq hKq => ?_) (AllReadyH.cons (by simp only [List.getElem?_toArray, List.getElem?_cons_succ, List.getElem?_cons_zero]; rfl) (fun Kq hKq => ?_) AllReadyH.nil)
        · (go_simp; have HB1 : Hid (Own PE (z0.alloc (.cells #[] 70)) (some ⟨z0.heap.size, 0, none⟩) 0 []) := own_empty okP z0; have HC2 : Hid (Keeps no W (z0.alloc (.cells #[] 70)) ∧ Keeps no z0 (z0.alloc (.cells #[] 70)) ∧ W.heap.size ≤ z0.heap.size) := ⟨HC.out.alloc _, (Keeps.refl no _).alloc _, HC.out.size⟩; clear HC; generalize z0.alloc (.cells #[] 70) = z1 at HB1 HC2 ⊢; generalize z0.heap.size = g1 at HB1 HC2 ⊢; have HC : Hid (Keeps no W z1) := HC2.out.1)
          refine hKq.out _ _ ?_ (fun hHeldN => ?_)
          · exact HSX.out _ HC.out
          clear hKq Kq hHeld
          have hHeld := hHeldN
          clear hHeldN
          refine wpAnyH_ready (rs := [6, 7]) (by kernel_rfl) (by simp) ?_
          refine AllReadyH.cons (by simp only [List.getElem?_toArray, List.getElem?_cons_succ, List.getElem?_cons_zero]; rfl) (fun Kq hKq => ?_) (AllReadyH.cons (by simp only [List.getElem?_toArray, List.getElem?_cons_succ, List.getElem?_cons_zero]; rfl) (fun Kq hKq => ?_) AllReadyH.nil)
          · (refine step_appX okP rfl (.tmp 160) (.tmp 162) rfl (some ⟨g1, 0, none⟩) 0 0 [] rfl rfl (HB1.out) ap np cp ps rfl HAR.out.1 HAR.out.2.2.1.nil (HAR.out.2.2.1.keepsN HC.out).row HBD.out.1 HBD.out.2.1 ?_; intro o1 c1 z2 ho1 hap1; have HP : Hid (Own PE z2 o1 c1 ps) := ho1; have HN1 := hap1.new (w0 := W) (new_fresh W g1 HC2.out.2.2 0) HC.out; have HC4 : Hid (New W o1 ∧ Keeps no W z2) := HN1; have HAP1 : Hid (Ap z1 (some ⟨g1, 0, none⟩) o1 z2) := hap1; clear HC hap1 ho1 HN1; have HC : Hid (Keeps no W z2) := HC4.out.2)
            refine hKq.out _ _ ?_ (fun hHeldN => ?_)
            · exact HSX.out _ HC.out
            clear hKq Kq hHeld
            have hHeld := hHeldN
            clear hHeldN
            refine wpAnyH_ready (rs := [7]) (by kernel_rfl) (by simp) ?_
            refine AllReadyH.cons (by simp only [List.getElem?_toArray, List.getElem?_cons_succ, List.getElem?_cons_zero]; rfl) (fun Kq hKq => ?_) AllReadyH.nil
            (go_simp; have HB2 : Hid (Own TE (z2.alloc (.cells #[] 9)) (some ⟨z2.heap.size, 0, none⟩) 0 []) := own_empty okT z2; have HC3 : Hid (Keeps no W (z2.alloc (.cells #[] 9)) ∧ Keeps no z2 (z2.alloc (.cells #[] 9)) ∧ W.heap.size ≤ z2.heap.size) := ⟨HC.out.alloc _, (Keeps.refl no _).alloc _, HC.out.size⟩; clear HC; generalize z2.alloc (.cells #[] 9) = z3 at HB2 HC3 ⊢; generalize z2.heap.size = g2 at HB2 HC3 ⊢; have HC : Hid (Keeps no W z3) := HC3.out.1)
            refine hKq.out _ _ ?_ (fun hHeldN => ?_)
            · exact HSX.out _ HC.out
            clear hKq Kq hHeld
            have hHeld := hHeldN
            clear hHeldN
            refine wpAnyH_ready (rs := [10]) (by kernel_rfl) (by simp) ?_
            refine AllReadyH.cons (by simp only [List.getElem?_toArray, List.getElem?_cons_succ, List.getElem?_cons_zero]; rfl) (fun Kq hKq => ?_) AllReadyH.nil
            (refine step_appX okT rfl (.tmp 164) (.tmp 166) rfl (some ⟨g2, 0, none⟩) 0 0 [] rfl rfl (HB2.out) ak nk ck keys rfl HAR.out.2.1 HAR.out.2.2.2.nil (HAR.out.2.2.2.keepsN HC.out).row HBD.out.2.2.1 HBD.out.2.2.2 ?_; intro o2 c2 z4 ho2 hap2; have HQ : Hid (Own TE z4 o2 c2 keys) := ho2; have HP2 : Hid (Own PE z4 o1 c1 ps) := (by have hp := (HP.out.keepsN HC3.out.2.1); rcases hap2 with ⟨_, ha⟩ | ⟨_, ha⟩; exact hp.keeps ha (fun b hb hc => tags_ne hp (HB2.out) (by decide) b hb hc); exact hp.keepsN ha); have HN2 := hap2.new (w0 := W) (new_fresh W g2 HC3.out.2.2 0) HC.out; have HC5 : Hid (New W o2 ∧ Keeps no W z4) := HN2; clear HC hap2 ho2 HN2 HP; have HP : Hid (Own PE z4 o1 c1 ps) := HP2.out; have HC : Hid (Keeps no W z4) := HC5.out.2)
            refine hKq.out _ _ ?_ (fun hHeldN => ?_)
            · exact HSX.out _ HC.out
            clear hKq Kq hHeld
            have hHeld := hHeldN
            clear hHeldN
            refine wpAnyH_ready (rs := [13]) (by kernel_rfl) (by simp) ?_
            refine AllReadyH.cons (by simp only [List.getElem?_toArray, List.getElem?_cons_succ, List.getElem?_cons_zero]; rfl) (fun Kq hKq => ?_) AllReadyH.nil
            (go_simp; refine ((HOW.out.1.go HC.out).xPut (by have := HOW.out.2; omega) x HAX.out.1 o1 np c1 o2 nk c2 (by rw [← HEQ.out.1]; exact HAR.out.1) (by rw [← HEQ.out.2]; exact HAR.out.2.1) (by rw [← HEQ.out.1]; exact HP.out.sl) (by rw [← HEQ.out.2]; exact HQ.out.sl) HAX.out.2.2.1 HAX.out.2.2.2).mono ?_; rintro e z5 ⟨B5, v5, rfl, h5⟩; obtain ⟨M5, hM5, ho5, hk5⟩ := h5.out; have H5 : Hid (M5 ≤ N + x.ps.length ∧ Ow w4 z5 px (putX s x) M5 P ∧ Keeps (fun b => ¬ P b) W z5 ∧ z5.heap[O]? = some (.cells #[.int .i64 x.kd, .int .u64 ((x.i : Nat) : Int), .string x.y, .slice ap np cp, .slice ak nk ck, .int .i64 x.now] 55 (0, 0))) := ⟨hM5, ho5, HC.out.of_no.trans hk5, (hk5.at (HC.out.at HOB.out id) (fun hn => hn HPO.out))⟩; clear h5 hM5 ho5 hk5)
            refine hKq.out _ _ ?_ (fun hHeldN => ?_)
            · exact HSB.out _ H5.out.2.2.2
            clear hKq Kq hHeld
            have hHeld := hHeldN
            clear hHeldN
            refine wpAnyH_done (by kernel_rfl) ?_ _
            clear hHeld
            have g1 : z5.cell? ⟨O, 1, none⟩ = some (.int .u64 ((x.i : Nat) : Int)) := cell_of_blk H5.out.2.2.2 1
            have g5 : z5.cell? ⟨O, 5, none⟩ = some (.int .i64 x.now) := cell_of_blk H5.out.2.2.2 5
            go_wp2_with fail
            refine (H5.out.2.1.xCommit (by have := HOW.out.2; have := H5.out.1; have := HAX.out.2.2.1; omega) x HAX.out.1).mono ?_
            rintro e z6 ⟨u4, u5, rfl, h6⟩
            have HO6 : Hid (z6.heap[O]? = some (.cells #[.int .i64 x.kd, .int .u64 ((x.i : Nat) : Int), .string x.y, .slice ap np cp, .slice ak nk ck, .int .i64 x.now] 55 (0, 0))) := h6.out.2.at H5.out.2.2.2 (fun hn => hn HPO.out)
            have k1 : z6.cell? ⟨O, 1, none⟩ = some (.int .u64 ((x.i : Nat) : Int)) := cell_of_blk HO6.out 1
            have k2 : z6.cell? ⟨O, 2, none⟩ = some (.string x.y) := cell_of_blk HO6.out 2
            clear g1 g5
            go_wp2_with fail
            refine (h6.out.1.xDrop x HAX.out.1 HAX.out.2.1).mono ?_
            rintro e z7 ⟨u7, rfl, h7⟩
            clear k1 k2
            go_wp2_with fail
            go_roundw
            case rel => exact HFIN.out M5 _ _ ⟨H5.out.1, h7.out.1, (H5.out.2.2.1.trans h6.out.2).trans h7.out.2⟩
            case measure => simp [intOf]; omega
          · (go_simp; have HB2 : Hid (Own TE (z1.alloc (.cells #[] 9)) (some ⟨z1.heap.size, 0, none⟩) 0 []) := own_empty okT z1; have HC3 : Hid (Keeps no W (z1.alloc (.cells #[] 9)) ∧ Keeps no z1 (z1.alloc (.cells #[] 9)) ∧ W.heap.size ≤ z1.heap.size) := ⟨HC.out.alloc _, (Keeps.refl no _).alloc _, HC.out.size⟩; clear HC; generalize z1.alloc (.cells #[] 9) = z2 at HB2 HC3 ⊢; generalize z1.heap.size = g2 at HB2 HC3 ⊢; have HC : Hid (Keeps no W z2) := HC3.out.1)
            refine hKq.out _ _ ?_ (fun hHeldN => ?_)
            · exact HSX.out _ HC.out
            clear hKq Kq hHeld
            have hHeld := hHeldN
            clear hHeldN
            refine wpAnyH_ready (rs := [6]) (by kernel_rfl) (by simp) ?_
            refine AllReadyH.cons (by simp only [List.getElem?_toArray, List.getElem?_cons_succ, List.getElem?_cons_zero]; rfl) (fun Kq hKq => ?_) AllReadyH.nil
            (refine step_appX okP rfl (.tmp 160) (.tmp 162) rfl (some ⟨g1, 0, none⟩) 0 0 [] rfl rfl (HB1.out.keepsN HC3.out.2.1) ap np cp ps rfl HAR.out.1 HAR.out.2.2.1.nil (HAR.out.2.2.1.keepsN HC.out).row HBD.out.1 HBD.out.2.1 ?_; intro o1 c1 z3 ho1 hap1; have HP : Hid (Own PE z3 o1 c1 ps) := ho1; have HN1 := hap1.new (w0 := W) (new_fresh W g1 HC2.out.2.2 0) HC.out; have HC4 : Hid (New W o1 ∧ Keeps no W z3) := HN1; have HAP1 : Hid (Ap z2 (some ⟨g1, 0, none⟩) o1 z3) := hap1; clear HC hap1 ho1 HN1; have HC : Hid (Keeps no W z3) := HC4.out.2)
            refine hKq.out _ _ ?_ (fun hHeldN => ?_)
            · exact HSX.out _ HC.out
            clear hKq Kq hHeld
            have hHeld := hHeldN
            clear hHeldN
            refine wpAnyH_ready (rs := [10]) (by kernel_rfl) (by simp) ?_
            refine AllReadyH.cons (by simp only [List.getElem?_toArray, List.getElem?_cons_succ, List.getElem?_cons_zero]; rfl) (fun Kq hKq => ?_) AllReadyH.nil
            (refine step_appX okT rfl (.tmp 164) (.tmp 166) rfl (some ⟨g2, 0, none⟩) 0 0 [] rfl rfl ((by rcases HAP1.out with ⟨_, ha⟩ | ⟨_, ha⟩; exact HB2.out.keeps ha (fun b hb hc => tags_ne (HB1.out.keepsN HC3.out.2.1) HB2.out (by decide) b hc hb); exact HB2.out.keepsN ha)) ak nk ck keys rfl HAR.out.2.1 HAR.out.2.2.2.nil (HAR.out.2.2.2.keepsN HC.out).row HBD.out.2.2.1 HBD.out.2.2.2 ?_; intro o2 c2 z4 ho2 hap2; have HQ : Hid (Own TE z4 o2 c2 keys) := ho2; have HP2 : Hid (Own PE z4 o1 c1 ps) := (by have hp := (HP.out); rcases hap2 with ⟨_, ha⟩ | ⟨_, ha⟩; exact hp.keeps ha (fun b hb hc => tags_ne hp ((by rcases HAP1.out with ⟨_, ha⟩ | ⟨_, ha⟩; exact HB2.out.keeps ha (fun b hb hc => tags_ne (HB1.out.keepsN HC3.out.2.1) HB2.out (by decide) b hc hb); exact HB2.out.keepsN ha)) (by decide) b hb hc); exact hp.keepsN ha); have HN2 := hap2.new (w0 := W) (new_fresh W g2 HC3.out.2.2 0) HC.out; have HC5 : Hid (New W o2 ∧ Keeps no W z4) := HN2; clear HC hap2 ho2 HN2 HP; have HP : Hid (Own PE z4 o1 c1 ps) := HP2.out; have HC : Hid (Keeps no W z4) := HC5.out.2)
            refine hKq.out _ _ ?_ (fun hHeldN => ?_)
            · exact HSX.out _ HC.out
            clear hKq Kq hHeld
            have hHeld := hHeldN
            clear hHeldN
            refine wpAnyH_ready (rs := [13]) (by kernel_rfl) (by simp) ?_
            refine AllReadyH.cons (by simp only [List.getElem?_toArray, List.getElem?_cons_succ, List.getElem?_cons_zero]; rfl) (fun Kq hKq => ?_) AllReadyH.nil
            (go_simp; refine ((HOW.out.1.go HC.out).xPut (by have := HOW.out.2; omega) x HAX.out.1 o1 np c1 o2 nk c2 (by rw [← HEQ.out.1]; exact HAR.out.1) (by rw [← HEQ.out.2]; exact HAR.out.2.1) (by rw [← HEQ.out.1]; exact HP.out.sl) (by rw [← HEQ.out.2]; exact HQ.out.sl) HAX.out.2.2.1 HAX.out.2.2.2).mono ?_; rintro e z5 ⟨B5, v5, rfl, h5⟩; obtain ⟨M5, hM5, ho5, hk5⟩ := h5.out; have H5 : Hid (M5 ≤ N + x.ps.length ∧ Ow w4 z5 px (putX s x) M5 P ∧ Keeps (fun b => ¬ P b) W z5 ∧ z5.heap[O]? = some (.cells #[.int .i64 x.kd, .int .u64 ((x.i : Nat) : Int), .string x.y, .slice ap np cp, .slice ak nk ck, .int .i64 x.now] 55 (0, 0))) := ⟨hM5, ho5, HC.out.of_no.trans hk5, (hk5.at (HC.out.at HOB.out id) (fun hn => hn HPO.out))⟩; clear h5 hM5 ho5 hk5)
            refine hKq.out _ _ ?_ (fun hHeldN => ?_)
            · exact HSB.out _ H5.out.2.2.2
            clear hKq Kq hHeld
            have hHeld := hHeldN
            clear hHeldN
            refine wpAnyH_done (by kernel_rfl) ?_ _
            clear hHeld
            have g1 : z5.cell? ⟨O, 1, none⟩ = some (.int .u64 ((x.i : Nat) : Int)) := cell_of_blk H5.out.2.2.2 1
            have g5 : z5.cell? ⟨O, 5, none⟩ = some (.int .i64 x.now) := cell_of_blk H5.out.2.2.2 5
            go_wp2_with fail
            refine (H5.out.2.1.xCommit (by have := HOW.out.2; have := H5.out.1; have := HAX.out.2.2.1; omega) x HAX.out.1).mono ?_
            rintro e z6 ⟨u4, u5, rfl, h6⟩
            have HO6 : Hid (z6.heap[O]? = some (.cells #[.int .i64 x.kd, .int .u64 ((x.i : Nat) : Int), .string x.y, .slice ap np cp, .slice ak nk ck, .int .i64 x.now] 55 (0, 0))) := h6.out.2.at H5.out.2.2.2 (fun hn => hn HPO.out)
            have k1 : z6.cell? ⟨O, 1, none⟩ = some (.int .u64 ((x.i : Nat) : Int)) := cell_of_blk HO6.out 1
            have k2 : z6.cell? ⟨O, 2, none⟩ = some (.string x.y) := cell_of_blk HO6.out 2
            clear g1 g5
            go_wp2_with fail
            refine (h6.out.1.xDrop x HAX.out.1 HAX.out.2.1).mono ?_
            rintro e z7 ⟨u7, rfl, h7⟩
            clear k1 k2
            go_wp2_with fail
            go_roundw
            case rel => exact HFIN.out M5 _ _ ⟨H5.out.1, h7.out.1, (H5.out.2.2.1.trans h6.out.2).trans h7.out.2⟩
            case measure => simp [intOf]; omega
        · (go_simp; have HB2 : Hid (Own TE (z0.alloc (.cells #[] 9)) (some ⟨z0.heap.size, 0, none⟩) 0 []) := own_empty okT z0; have HC3 : Hid (Keeps no W (z0.alloc (.cells #[] 9)) ∧ Keeps no z0 (z0.alloc (.cells #[] 9)) ∧ W.heap.size ≤ z0.heap.size) := ⟨HC.out.alloc _, (Keeps.refl no _).alloc _, HC.out.size⟩; clear HC; generalize z0.alloc (.cells #[] 9) = z1 at HB2 HC3 ⊢; generalize z0.heap.size = g2 at HB2 HC3 ⊢; have HC : Hid (Keeps no W z1) := HC3.out.1)
          refine hKq.out _ _ ?_ (fun hHeldN => ?_)
          · exact HSX.out _ HC.out
          clear hKq Kq hHeld
          have hHeld := hHeldN
          clear hHeldN
          refine wpAnyH_ready (rs := [3]) (by kernel_rfl) (by simp) ?_
          refine AllReadyH.cons (by simp only [List.getElem?_toArray, List.getElem?_cons_succ, List.getElem?_cons_zero]; rfl) (fun Kq hKq => ?_) AllReadyH.nil
          (go_simp; have HB1 : Hid (Own PE (z1.alloc (.cells #[] 70)) (some ⟨z1.heap.size, 0, none⟩) 0 []) := own_empty okP z1; have HC2 : Hid (Keeps no W (z1.alloc (.cells #[] 70)) ∧ Keeps no z1 (z1.alloc (.cells #[] 70)) ∧ W.heap.size ≤ z1.heap.size) := ⟨HC.out.alloc _, (Keeps.refl no _).alloc _, HC.out.size⟩; clear HC; generalize z1.alloc (.cells #[] 70) = z2 at HB1 HC2 ⊢; generalize z1.heap.size = g1 at HB1 HC2 ⊢; have HC : Hid (Keeps no W z2) := HC2.out.1)
          refine hKq.out _ _ ?_ (fun hHeldN => ?_)
          · exact HSX.out _ HC.out
          clear hKq Kq hHeld
          have hHeld := hHeldN
          clear hHeldN
          refine wpAnyH_ready (rs := [6]) (by kernel_rfl) (by simp) ?_
          refine AllReadyH.cons (by simp only [List.getElem?_toArray, List.getElem?_cons_succ, List.getElem?_cons_zero]; rfl) (fun Kq hKq => ?_) AllReadyH.nil
          (refine step_appX okP rfl (.tmp 160) (.tmp 162) rfl (some ⟨g1, 0, none⟩) 0 0 [] rfl rfl (HB1.out) ap np cp ps rfl HAR.out.1 HAR.out.2.2.1.nil (HAR.out.2.2.1.keepsN HC.out).row HBD.out.1 HBD.out.2.1 ?_; intro o1 c1 z3 ho1 hap1; have HP : Hid (Own PE z3 o1 c1 ps) := ho1; have HN1 := hap1.new (w0 := W) (new_fresh W g1 HC2.out.2.2 0) HC.out; have HC4 : Hid (New W o1 ∧ Keeps no W z3) := HN1; have HAP1 : Hid (Ap z2 (some ⟨g1, 0, none⟩) o1 z3) := hap1; clear HC hap1 ho1 HN1; have HC : Hid (Keeps no W z3) := HC4.out.2)
          refine hKq.out _ _ ?_ (fun hHeldN => ?_)
          · exact HSX.out _ HC.out
          clear hKq Kq hHeld
          have hHeld := hHeldN
          clear hHeldN
          refine wpAnyH_ready (rs := [10]) (by kernel_rfl) (by simp) ?_
          refine AllReadyH.cons (by simp only [List.getElem?_toArray, List.getElem?_cons_succ, List.getElem?_cons_zero]; rfl) (fun Kq hKq => ?_) AllReadyH.nil
          (refine step_appX okT rfl (.tmp 164) (.tmp 166) rfl (some ⟨g2, 0, none⟩) 0 0 [] rfl rfl ((by rcases HAP1.out with ⟨_, ha⟩ | ⟨_, ha⟩; exact (HB2.out.keepsN HC2.out.2.1).keeps ha (fun b hb hc => tags_ne HB1.out (HB2.out.keepsN HC2.out.2.1) (by decide) b hc hb); exact (HB2.out.keepsN HC2.out.2.1).keepsN ha)) ak nk ck keys rfl HAR.out.2.1 HAR.out.2.2.2.nil (HAR.out.2.2.2.keepsN HC.out).row HBD.out.2.2.1 HBD.out.2.2.2 ?_; intro o2 c2 z4 ho2 hap2; have HQ : Hid (Own TE z4 o2 c2 keys) := ho2; have HP2 : Hid (Own PE z4 o1 c1 ps) := (by have hp := (HP.out); rcases hap2 with ⟨_, ha⟩ | ⟨_, ha⟩; exact hp.keeps ha (fun b hb hc => tags_ne hp ((by rcases HAP1.out with ⟨_, ha⟩ | ⟨_, ha⟩; exact (HB2.out.keepsN HC2.out.2.1).keeps ha (fun b hb hc => tags_ne HB1.out (HB2.out.keepsN HC2.out.2.1) (by decide) b hc hb); exact (HB2.out.keepsN HC2.out.2.1).keepsN ha)) (by decide) b hb hc); exact hp.keepsN ha); have HN2 := hap2.new (w0 := W) (new_fresh W g2 HC3.out.2.2 0) HC.out; have HC5 : Hid (New W o2 ∧ Keeps no W z4) := HN2; clear HC hap2 ho2 HN2 HP; have HP : Hid (Own PE z4 o1 c1 ps) := HP2.out; have HC : Hid (Keeps no W z4) := HC5.out.2)
          refine hKq.out _ _ ?_ (fun hHeldN => ?_)
          · exact HSX.out _ HC.out
          clear hKq Kq hHeld
          have hHeld := hHeldN
          clear hHeldN
          refine wpAnyH_ready (rs := [13]) (by kernel_rfl) (by simp) ?_
          refine AllReadyH.cons (by simp only [List.getElem?_toArray, List.getElem?_cons_succ, List.getElem?_cons_zero]; rfl) (fun Kq hKq => ?_) AllReadyH.nil
          (go_simp; refine ((HOW.out.1.go HC.out).xPut (by have := HOW.out.2; omega) x HAX.out.1 o1 np c1 o2 nk c2 (by rw [← HEQ.out.1]; exact HAR.out.1) (by rw [← HEQ.out.2]; exact HAR.out.2.1) (by rw [← HEQ.out.1]; exact HP.out.sl) (by rw [← HEQ.out.2]; exact HQ.out.sl) HAX.out.2.2.1 HAX.out.2.2.2).mono ?_; rintro e z5 ⟨B5, v5, rfl, h5⟩; obtain ⟨M5, hM5, ho5, hk5⟩ := h5.out; have H5 : Hid (M5 ≤ N + x.ps.length ∧ Ow w4 z5 px (putX s x) M5 P ∧ Keeps (fun b => ¬ P b) W z5 ∧ z5.heap[O]? = some (.cells #[.int .i64 x.kd, .int .u64 ((x.i : Nat) : Int), .string x.y, .slice ap np cp, .slice ak nk ck, .int .i64 x.now] 55 (0, 0))) := ⟨hM5, ho5, HC.out.of_no.trans hk5, (hk5.at (HC.out.at HOB.out id) (fun hn => hn HPO.out))⟩; clear h5 hM5 ho5 hk5)
          refine hKq.out _ _ ?_ (fun hHeldN => ?_)
          · exact HSB.out _ H5.out.2.2.2
          clear hKq Kq hHeld
          have hHeld := hHeldN
          clear hHeldN
          refine wpAnyH_done (by kernel_rfl) ?_ _
          clear hHeld
          have g1 : z5.cell? ⟨O, 1, none⟩ = some (.int .u64 ((x.i : Nat) : Int)) := cell_of_blk H5.out.2.2.2 1
          have g5 : z5.cell? ⟨O, 5, none⟩ = some (.int .i64 x.now) := cell_of_blk H5.out.2.2.2 5
          go_wp2_with fail
          refine (H5.out.2.1.xCommit (by have := HOW.out.2; have := H5.out.1; have := HAX.out.2.2.1; omega) x HAX.out.1).mono ?_
          rintro e z6 ⟨u4, u5, rfl, h6⟩
          have HO6 : Hid (z6.heap[O]? = some (.cells #[.int .i64 x.kd, .int .u64 ((x.i : Nat) : Int), .string x.y, .slice ap np cp, .slice ak nk ck, .int .i64 x.now] 55 (0, 0))) := h6.out.2.at H5.out.2.2.2 (fun hn => hn HPO.out)
          have k1 : z6.cell? ⟨O, 1, none⟩ = some (.int .u64 ((x.i : Nat) : Int)) := cell_of_blk HO6.out 1
          have k2 : z6.cell? ⟨O, 2, none⟩ = some (.string x.y) := cell_of_blk HO6.out 2
          clear g1 g5
          go_wp2_with fail
          refine (h6.out.1.xDrop x HAX.out.1 HAX.out.2.1).mono ?_
          rintro e z7 ⟨u7, rfl, h7⟩
          clear k1 k2
          go_wp2_with fail
          go_roundw
          case rel => exact HFIN.out M5 _ _ ⟨H5.out.1, h7.out.1, (H5.out.2.2.1.trans h6.out.2).trans h7.out.2⟩
          case measure => simp [intOf]; omega
      · have hlt' : ¬ (k : Int) < n' := by omega
        obtain ⟨N, s, hN, hOw, hKx⟩ := HQ.out
        have HE : Hid (Keeps (fun b => w4.heap.size ≤ b ∧ b < w5.heap.size) w13 wr ∧ Keeps no w4 wr) := ⟨hKx, hOw.keep⟩
        clear hN hOw hKx HQ
        go_wp2_with fail
        go_meet
        case rel => exact HE
  case rest =>
  rename World => w15
  have HK15 : Hid (Keeps (fun b => w4.heap.size ≤ b ∧ b < w5.heap.size) w13 w15 ∧ Keeps no w4 w15) := hcut
  clear hcut
  have HSs : Hid (Ow w1 w15 p (runO L) 1048576 no) := by
    have h1 : Keeps no w2 w13 := (H3.out.keep.trans H4.out.2.2.2).trans H45.out.2
    have h2 : w2.heap.size ≤ w4.heap.size := (H3.out.keep.trans H4.out.2.2.2).size
    have h3 := HK13.out.size
    exact (((H2.out.grow h1).sub (Q := fun b => w4.heap.size ≤ b ∧ b < w5.heap.size) (fun b hb => .inr ⟨by omega, by omega⟩)).other HK15.out.1).sub (fun b hb => hb.elim)
  have HY : Hid (Kn (runO L) w5 ks ko kn kc w15 ∧ Kn (rdS now bs) w7 xs xo xn xc w15 ∧ Owns w15 bo bc bs) := ⟨HX2.out.1.keeps HK15.out.1 (fun b hb => hb.2), HX2.out.2.1.keeps HK15.out.1 (fun b hb => Nat.lt_of_lt_of_le hb.2 HW57.out), (H3.out.own.keepsN H4.out.2.2.2).keepsN HK15.out.2⟩
  have HKW : Hid (Keeps no w w15) := HK4.out.trans HK15.out.2
  clear HX2 H45 HK13
  go_wp2_with fail
  refine (build_any HSs.out (by omega) (HS.out.2.1.keepsN HKW.out) G HG.out.1 HG.out.2.1).mono ?_
  rintro e w16 ⟨eo, en, ec, es, rfl, H16⟩
  go_wp2_with fail
  refine (own_any w16 bo bn bc bs H3.out.n (by have := H3.out.le; omega) (BSl.of (HY.out.2.2.keepsN H16.out.keep) H3.out.byt (by have := H3.out.le; omega))).mono ?_
  rintro e w17 ⟨fo, fn, fc, rfl, H17⟩
  have HK17 : Hid (Keeps no w15 w17) := H16.out.keep.trans H17.out.2.2.2
  go_wp2_with fail
  refine (read_any w17 fo fn fc bs now H17.out.1 (BSl.of H17.out.2.1 H3.out.byt (by have := H3.out.le; omega)) (by have := H3.out.le; omega) (HS.out.2.1.keepsN (HKW.out.trans HK17.out))).mono ?_
  intro e w18 hR
  obtain ⟨py, rfl, h18⟩ := rd_ok hR HTk.out HLR.out.1 HLR.out.2.1
  have H18 : Hid (Ow w17 w18 py (rdS now bs) 1048576 no) := h18.out.more HLR.out.2.2.2.2.2
  have HK18 : Hid (Keeps no w15 w18) := HK17.out.trans H18.out.keep
  clear hR h18
  have HEQ2 : Hid (bs = es) := SnOf.eq (Sim.refl _) H3.out.sn H16.out.sn
  have HB18 : Hid (BRow w18 bo bs ∧ BRow w18 eo es) := ⟨(HY.out.2.2.keepsN HK18.out).row H3.out.byt (by have := H3.out.le; omega), (H16.out.own.keepsN (H17.out.2.2.2.trans H18.out.keep)).row H16.out.byt (by have := H16.out.le; omega)⟩
  go_wp2_with fail
  refine (same_bytes w18 bo bn bc eo en ec bs es H3.out.n H16.out.n HB18.out.1 HB18.out.2).mono ?_
  rw [decide_eq_true HEQ2.out]
  rintro e w19 ⟨rfl, hw19⟩
  subst w19
  go_wp2_with fail
  refine ((HSs.out.go HK18.out).keptN (by omega)).mono ?_
  rintro e w20 ⟨go, gn, gc, gs, rfl, H20⟩
  go_wp2_with fail
  refine (sameKd true (Sim.refl _) (fun _ _ => rfl) ((HY.out.1.keepsN HK18.out).keepsN H20.out.2).kd H20.out.1.kd).mono ?_
  rintro e w21 ⟨rfl, hk21⟩
  have HK21 : Hid (Keeps no w18 w21) := H20.out.2.trans hk21
  clear hk21
  go_wp2_with fail
  refine ((H18.out.go HK21.out).keptN (by omega)).mono ?_
  rintro e w22 ⟨ho, hn, hc, hs, rfl, H22⟩
  go_wp2_with fail
  refine (sameKd true (Sim.refl _) (fun _ _ => rfl) (((HY.out.2.1.keepsN HK18.out).keepsN HK21.out).keepsN H22.out.2).kd H22.out.1.kd).mono ?_
  rintro e w23 ⟨rfl, hk23⟩
  go_wp2_with fail
  go_ret
  exact ⟨rfl, (((HKW.out.trans HK18.out).trans HK21.out).trans H22.out.2).trans hk23⟩
end Go.Proofs.YtbnohdgdadfjlaaGreatDoor

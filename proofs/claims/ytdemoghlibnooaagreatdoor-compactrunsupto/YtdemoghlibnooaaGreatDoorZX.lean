import Derived.Test.YtdemoghlibnooaaGreatDoorZF
import Derived.Deep.RegionHeld3
import Derived.Deep.CutBlock
import Derived.Deep.CutRange
namespace Go.Proofs.YtdemoghlibnooaaGreatDoor
open Go.RowKit Go.Maps Go.Sort Orl Pk
set_option linter.unusedVariables false
set_option linter.unusedSimpArgs false
theorem stx_newX {w0 w w' : World} {q : Nat} {s : St} {N : Nat} (h : Sto w.heap.size w' q s N no) (hw : w0.heap.size ≤ w.heap.size) : Stx w0 w' q s N (fun b => w.heap.size ≤ b ∧ b < w'.heap.size) := by
  refine ⟨?_, fun b hb => ⟨Nat.le_trans hw hb.1, hb.2⟩⟩
  obtain ⟨T, hi, ho, hB, hP⟩ := h
  refine ⟨T, hi, ho, fun b hb => Nat.le_trans hw (hB b hb), fun b hb => ⟨?_, hb.1⟩⟩
  rcases Nat.lt_or_ge b w.heap.size with h1 | h1
  · cases hT : T b with
    | none => rfl
    | some r => have := hB b (by rw [hT]; simp); omega
  · exact absurd ⟨h1, hb.1⟩ hb.2
theorem Sto.ks_leX {B : Nat} {w : World} {p : Nat} {s : St} {N : Nat} {P : Nat → Prop} (h : Sto B w p s N P) {ls : List Mk} {ks : List KV} (hT : Tld s ls ks) : ks.length ≤ N := by
  obtain ⟨T, hi, _⟩ := h
  obtain ⟨y, hy⟩ := hi
  have hnd : (ks.map (·.m)).Nodup := inc_nodup swoM hT.inc
  have := List.Nodup.length_le_of_subset (l₂ := y.V.map (·.1)) hnd (fun m hm => by
    obtain ⟨x, hx, rfl⟩ := List.mem_map.1 hm
    have hv := hT.is x hx
    rw [hy.sv] at hv
    cases hf : fnd x.m y.V with
    | none => rw [hf] at hv; cases hv
    | some v => exact List.mem_map.2 ⟨_, fnd_mem hf, rfl⟩)
  have := hy.nv
  simp at *
  omega
theorem Stx.more {w0 W : World} {q : Nat} {s : St} {N M : Nat} {A : Nat → Prop} (h : Stx w0 W q s N A) (hM : N ≤ M) : Stx w0 W q s M A := ⟨h.1.more hM, h.2⟩
theorem Rx.more {B : Nat → Prop} {w : World} {p : Nat} {s : St} {N M : Nat} (h : Rx B w p s N) (hM : N ≤ M) : Rx B w p s M := by
  obtain ⟨oK, nK, cK, oL, nL, cL, ks, ls, h1, h2, h3, h4⟩ := h
  exact ⟨oK, nK, cK, oL, nL, cL, ks, ls, h1, h2, by omega, h4⟩
def Hld (w0 : World) (d r q u : Nat) (M N : Nat) (W : World) : Prop := ∃ F G A B t S, Quad2 w0 W d r q u F G A B t t S S N N ∧ Szl t M ∧ Nice S
theorem Hld.more {w0 : World} {d r q u M N M' N' : Nat} {W : World} (h : Hld w0 d r q u M N W) (hM : M ≤ M') (hN : N ≤ N') : Hld w0 d r q u M' N' W := by
  obtain ⟨F, G, A, B, t, S, h1, h2, h3⟩ := h
  exact ⟨F, G, A, B, t, S, ⟨h1.par, h1.st.more hN, h1.rs.more hN, h1.b0, h1.fa, h1.fb, h1.ga, h1.gb, h1.ab⟩, h2.more hM, h3⟩
theorem Hld.keepsN {w0 : World} {d r q u M N : Nat} {W W' : World} (h : Hld w0 d r q u M N W) (hk : Keeps no W W') : Hld w0 d r q u M N W' := by
  obtain ⟨F, G, A, B, t, S, h1, h2, h3⟩ := h
  exact ⟨F, G, A, B, t, S, h1.keepsN hk, h2, h3⟩
theorem Hld.kept {w0 : World} {d r q u M N : Nat} {W : World} (h : Hld w0 d r q u M N W) : Keeps no w0 W := by
  obtain ⟨F, G, A, B, t, S, h1, _⟩ := h
  exact h1.kept
theorem fit_szl {t : Dk.St} {M : Nat} (h : Szl t M) (n : Dk.Nm) (b : List UInt8) (hb : M + b.length ≤ 140737488355328) : ∀ f, Dk.find n (Dk.tick t).fs = some f → f.bs.length + b.length ≤ 140737488355328 := fun f hf => by
  have := h.tick.find hf
  omega
def PRan (w1 : World) (d r q u : Nat) (F G A B : Nat → Prop) (t : Dk.St) (S : St) (N : Nat) (g2 : Int) (W0 : World) (pl : Option Addr) (gg E : Int) (W : World) : Prop :=
  ((g2 < 0 ∨ 1099511627776 ≤ g2) ∧ pl = none ∧ gg = 0 ∧ E = 1 ∧ Quad2 w1 W d r q u F G A B t t S S N N) ∨
  ∃ (g : Nat) (b : List UInt8) (F' : Nat → Prop) (t' : Dk.St), g2 = (g : Int) ∧ (g : Int) < 1099511627776 ∧ LaidB S g t b ∧ runF b g t = (t', E) ∧ Quad2 w1 W d r q u F' G A B t' t S S N N ∧ W0.heap.size ≤ W.heap.size ∧
    ((E ≠ 0 ∧ pl = none ∧ gg = 0) ∨ (E = 0 ∧ gg = ((g + 1 : Nat) : Int) ∧ ∃ l, pl = some ⟨l, 0, none⟩ ∧ IsL W l d (logN ((g + 1 : Nat) : Int)) 0 ∧ W0.heap.size ≤ l))
def BRan (w1 : World) (d r q u : Nat) (A B : Nat → Prop) (S : St) (N M : Nat) (pl pm : Option Addr) (W : World) : Prop :=
  ∃ F G t, Quad2 w1 W d r q u F G A B t t S S N N ∧ Szl t M ∧ ((pl = none ∧ pm = none) ∨ ∃ l m nm, pl = some ⟨l, 0, none⟩ ∧ pm = some ⟨m, 0, none⟩ ∧ IsL W l d nm 0 ∧ IsLq W m r nm 0)
theorem IsLq.keeps {S : Nat → Prop} {w w' : World} {q p : Nat} {n : Tx} {k : Nat} (h : IsLq w q p n k) (hk : Keeps S w w') (hq : ¬ S q) : IsLq w' q p n k := ⟨hk.at h.blk hq⟩
set_option maxRecDepth 10000 in
set_option maxHeartbeats 4000000 in
theorem runs_any (w : World) (ht : Tabs w) (af : Option Addr) (nf cf : Nat) (xs : List FV) (hn : nf = xs.length) (hs : Sl LFE w af cf xs) (hok : ∀ x ∈ xs, FVok w x) (hb : (xs.map wtF).sum ≤ 1048576) (hn2 : (nf : Int) ≤ 1048576)
    (ao : Option Addr) (mo co : Nat) (ys : List OV) (hno : mo = ys.length) (hso : Sl OE w ao co ys) (hoko : ∀ x ∈ ys, OVok x) (hbo : (ys.map wtO).sum ≤ 1048576) (hno2 : (mo : Int) ≤ 1048576) (gen arm keep full : Int) (hg : i64 gen) (ha : i64 arm) (hk : i64 keep) (hf : i64 full) :
    Calls Tryz.prog 5 #[.slice af nf cf, .slice ao mo co, .int .i64 gen, .int .i64 arm, .int .i64 keep, .int .i64 full] w fun e w' => e = .returned (.bool true) ∧ Keeps no w w' := by
  have HT : Hid (Tabs w) := ht
  have HX : Hid (nf = xs.length ∧ Sl LFE w af cf xs ∧ (∀ x ∈ xs, FVok w x) ∧ (xs.map wtF).sum ≤ 1048576) := ⟨hn, hs, hok, hb⟩
  have HY : Hid (mo = ys.length ∧ Sl OE w ao co ys ∧ (∀ x ∈ ys, OVok x) ∧ (ys.map wtO).sum ≤ 1048576) := ⟨hno, hso, hoko, hbo⟩
  have HI : Hid (i64 gen ∧ i64 arm ∧ i64 keep ∧ i64 full) := ⟨hg, ha, hk, hf⟩
  obtain ⟨G16, hG16, hG0, hG1⟩ : ∃ G : Int, bits .and .i64 gen 65535 = G ∧ 0 ≤ G ∧ G ≤ 65535 := ⟨gen % 65536, i64_and16 gen, by omega, by omega⟩
  have HG16 : Hid (0 ≤ G16 ∧ G16 ≤ 65535) := ⟨hG0, hG1⟩
  clear ht hn hs hok hb hno hso hoko hbo hg ha hk hf hG0 hG1
  go_enter Tryz.func5, Tryz.ntmps5
  go_wp2_with fail
  refine (alive_any w HT.out).mono ?_
  rintro e w1 ⟨rfl, hk1⟩
  have K1 : Hid (Keeps no w w1) := hk1
  have HT1 : Hid (Tabs w1) := HT.out.keepsN hk1
  clear hk1
  go_wp2_with fail
  refine (dn_newZ w1).mono ?_
  rintro e w2 ⟨d, rfl, D2⟩
  go_wp2_with fail
  refine (rnew_any w2).mono ?_
  rintro e w3 ⟨r, rfl, hr3, hk3⟩
  have HR3 : Hid (IsRd w3 r (fun k => w2.heap.size ≤ k ∧ k < w3.heap.size) Dk.new ∧ Keeps no w2 w3) := ⟨hr3, hk3⟩
  clear hr3 hk3
  go_wp2_with fail
  refine (sto_new w3).mono ?_
  rintro e w4 ⟨q, rfl, H4⟩
  go_wp2_with fail
  refine (rx_new w4).mono ?_
  rintro e w5 ⟨u, rfl, H5⟩
  have HH5 : Hid (Hld w1 d r q u 0 0 w5) := by
    have s12 := D2.out.kept.size
    have s23 := HR3.out.2.size
    have s34 := H4.out.2.size
    have s45 := H5.out.2.size
    refine ⟨_, _, _, _, Dk.new, St.new, ⟨⟨((D2.out.beside HR3.out.2).beside H4.out.2).beside H5.out.2, (HR3.out.1.keepsN H4.out.2).keepsN H5.out.2, fun k hk => by have := hk.1; omega, fun k h1 h2 => by have := h1.2; have := h2.1; omega⟩, (stx_newX H4.out.1 (by omega)).keepsN H5.out.2, H5.out.1, fun k hk => ⟨by have := hk.1; omega, hk.2⟩, fun k h1 h2 => by have := h1.2; have := h2.1; omega, fun k h1 h2 => by have := h1.2; have := h2.1; omega, fun k h1 h2 => by have := h1.2; have := h2.1; omega, fun k h1 h2 => by have := h1.2; have := h2.1; omega, fun k h1 h2 => by have := h1.2; have := h2.1; omega⟩, fun x hx => (by cases hx), nice_new⟩
  clear D2 HR3 H4 H5 HT
  go_wp2_with fail
  go_loopw [17] (fun s17 wr => ∃ i : Nat, i ≤ nf ∧ s17 = .int .i64 i ∧ Hid (Hld w1 d r q u ((xs.take i).map wtF).sum 0 wr)) (fun s17 _ => nf - (intOf s17).toNat)
  case atStart => exact ⟨0, by omega, rfl, HH5⟩
  case round =>
    obtain ⟨i, hi, rfl, HHi⟩ := hrel
    rename World => wr
    clear HH5
    by_cases hlt : i < nf
    · as_aux_lemma =>
      have hlt' : (i : Int) < nf := by omega
      have hil : i < xs.length := by have := HX.out.1; omega
      obtain ⟨x, hx⟩ : ∃ x, x = xs.getD i fv0 := ⟨_, rfl⟩
      have hxm : x ∈ xs := by rw [hx, getD_in hil]; exact List.getElem_mem hil
      have HXR : Hid (FVok w x) := HX.out.2.2.1 x hxm
      obtain ⟨M, hM⟩ : ∃ M, M = ((xs.take i).map wtF).sum := ⟨_, rfl⟩
      have HM : Hid (((xs.take (i + 1)).map wtF).sum = M + wtF x ∧ M + wtF x ≤ 1048576) := by
        have h1 := sum_take wtF fv0 xs i hil
        have h2 := sum_le wtF xs (i + 1)
        rw [← hM, ← hx] at h1
        exact ⟨h1, by have := HX.out.2.2.2; omega⟩
      rw [← hM] at HHi
      have HCX : Hid (∀ W, Keeps no w1 W → ∃ b off, af = some ⟨b, off, none⟩ ∧ W.cell? ⟨b, off + i * 3, none⟩ = some (.int .i64 x.wh) ∧ W.cell? ⟨b, off + i * 3 + 1, none⟩ = some (.slice x.o x.n x.c) ∧ W.cell? ⟨b, off + i * 3 + 2, none⟩ = some (.bool x.y)) := fun W hW => by
        have := atF15 (HX.out.2.1.keepsN (K1.out.trans hW)) hil
        rw [← hx] at this
        exact this
      obtain ⟨bf, off, e1, _⟩ := HCX.out w1 (Keeps.refl _ _)
      have HC : Hid (∀ W, Keeps no w1 W → W.cell? ⟨bf, off + i * 3, none⟩ = some (.int .i64 x.wh) ∧ W.cell? ⟨bf, off + i * 3 + 1, none⟩ = some (.slice x.o x.n x.c) ∧ W.cell? ⟨bf, off + i * 3 + 2, none⟩ = some (.bool x.y)) := fun W hW => by
        obtain ⟨b, o, e, h⟩ := HCX.out W hW
        rw [e1] at e
        cases e
        exact h
      obtain ⟨xw, xo, xn, xc, xy, xb⟩ := x
      simp only at HC
      have HXB : Hid (xn = xb.length ∧ Sl BU w xo xc xb ∧ M + xb.length ≤ 1048576) := ⟨HXR.out.n, HXR.out.s, HM.out.2⟩
      have HM1 : Hid (((xs.take (i + 1)).map wtF).sum = M + xb.length) := HM.out.1
      obtain ⟨nm, hnm⟩ : ∃ nm, nm = fname xw G16 := ⟨_, rfl⟩
      have HNM : Hid (nm.size ≤ 32) := by rw [hnm]; exact fname_size xw G16 HG16.out.1 HG16.out.2
      have hfn : Hid (∀ W, Keeps no w1 W → Calls Tryz.prog 26 #[.agg #[.int .i64 xw, .slice xo xn xc, .bool xy], .int .i64 G16] W fun e w' => e = .returned (.string nm) ∧ Keeps no W w') := fun W hW => by
        rw [hnm]; exact fname_any W ((HT1.out.keepsN hW).pow) xw xo xn xc xy G16 HG16.out.1 HG16.out.2
      clear hx hxm hil hM hlt HCX hnm HXR HM HX HY HI
      subst e1
      obtain ⟨F, G, A, B, t, S, hQ, hZ, hNi⟩ := HHi.out
      have HQ : Hid (Quad2 w1 wr d r q u F G A B t t S S 0 0 ∧ Szl t M ∧ Nice S) := ⟨hQ, hZ, hNi⟩
      clear hQ hZ hNi HHi
      obtain ⟨t1, er1, hA1⟩ : ∃ t1 er1, Dk.counted t (Dk.appendOn nm.data.toList xb) = (t1, er1) := ⟨_, _, rfl⟩
      have HZ1 : Hid (Szl t1 (M + xb.length)) := by have := HQ.out.2.1.append nm.data.toList xb; rw [hA1] at this; exact this
      have HA1 : Hid (Dk.counted t (Dk.appendOn nm.data.toList xb) = (t1, er1)) := hA1
      obtain ⟨t2, er2, hA2⟩ : ∃ t2 er2, Dk.counted t1 (Dk.syncOn nm.data.toList) = (t2, er2) := ⟨_, _, rfl⟩
      have HZ2 : Hid (Szl t2 (M + xb.length)) := by have := HZ1.out.sync nm.data.toList; rw [hA2] at this; exact this
      have HA2 : Hid (Dk.counted t1 (Dk.syncOn nm.data.toList) = (t2, er2)) := hA2
      clear hA1 hA2
      obtain ⟨c0, c1, c2⟩ := HC.out wr HQ.out.1.kept
      go_upto_region 12 with fail
      go_region_held3 (fun w' => w'.cell? ⟨bf, off + i * 3, none⟩ = some (.int .i64 xw) ∧ w'.cell? ⟨bf, off + i * 3 + 1, none⟩ = some (.slice xo xn xc) ∧ w'.cell? ⟨bf, off + i * 3 + 2, none⟩ = some (.bool xy)) (first | exact HC.out _ K3.out | exact HC.out _ K2.out | exact HC.out _ KA.out | exact HC.out _ (HQ.out.1.kept.trans (Keeps.refl no wr).drew) | exact HC.out _ HQ.out.1.kept) ((first | (go_at_call 9; refine (dn_append nm oo mm dd xb (HQ.out.1.par.dn.beside KW2.out) HA1.out (by have := HNM.out; unfold maxLen; omega) HO.out.1 HO.out.2.1.sl (fun b hb hf => by have := HQ.out.1.par.dn.is.lt b hf; have := HO.out.2.2.1 b hb; have := KW.out.size; omega) (by have := HXB.out.2.2; omega) (fit_szl HQ.out.2.1 _ _ (by have := HXB.out.2.2; omega))).mono ?_; rintro e u3 ⟨rfl, hd3, hk3⟩; have HQ3 : Hid (Quad2 w1 u3 d r q u (grow F u2 u3) G A B t1 t S S 0 0) := (HQ.out.1.keepsN KW2.out).opd hd3 (fun k hk => hk) hk3; have K3 : Hid (Keeps no w1 u3) := HQ3.out.kept; clear hd3 hk3) | (go_at_call 27; refine (ownb_any _ xo xn xc xb HXB.out.1 (by have := HXB.out.2.2; omega) (HXB.out.2.1.keepsN (K1.out.trans KA.out))).mono ?_; rintro e u2 ⟨oo, mm, dd, rfl, HO⟩; have KW2 : Hid (Keeps no wr u2) := KW.out.trans HO.out.2.2.2; have K2 : Hid (Keeps no w1 u2) := HQ.out.1.kept.trans KW2.out) | (go_at_call 26; refine (hfn.out _ (HQ.out.1.kept.trans (Keeps.refl no wr).drew)).mono ?_; rintro e u1 ⟨rfl, hk⟩; have KW : Hid (Keeps no wr u1) := (Keeps.refl no wr).drew.trans hk; have KA : Hid (Keeps no w1 u1) := HQ.out.1.kept.trans KW.out; clear hk)))
      clear c0 c1 c2 KW KA KW2 K2 HO
      obtain ⟨c0, c1, c2⟩ := HC.out u3 K3.out
      go_upto_region 13 with fail
      go_region_held3 (fun w' => w'.cell? ⟨bf, off + i * 3, none⟩ = some (.int .i64 xw) ∧ w'.cell? ⟨bf, off + i * 3 + 1, none⟩ = some (.slice xo xn xc) ∧ w'.cell? ⟨bf, off + i * 3 + 2, none⟩ = some (.bool xy)) (first | exact HC.out _ K5.out | exact HC.out _ KA.out | exact HC.out _ (K3.out.trans (Keeps.refl no u3).drew) | exact HC.out _ K3.out) ((first | (go_at_call 28; refine (rappend_any _ r G t nm xo xn xc xb (HQ3.out.keepsN KW.out).par.rd HXB.out.1 HXB.out.2.1.nil (fun w' hk' => (HXB.out.2.1.keepsN (K1.out.trans (KA.out.then hk' (fun b hb => .inr (HQ3.out.par.g0 b hb))))).row) (by have := HXB.out.2.2; omega) (fit_szl HQ.out.2.1 _ _ (by have := HXB.out.2.2; omega))).mono ?_; rw [HA1.out]; rintro e u5 ⟨rfl, hd5, hk5⟩; have HQ5 : Hid (Quad2 w1 u5 d r q u (grow F u2 u3) (grow G u4 u5) A B t1 t1 S S 0 0) := (HQ3.out.keepsN KW.out).opr hd5 (fun k hk => hk) hk5; have K5 : Hid (Keeps no w1 u5) := HQ5.out.kept; clear hd5 hk5) | (go_at_call 26; refine (hfn.out _ (K3.out.trans (Keeps.refl no u3).drew)).mono ?_; rintro e u4 ⟨rfl, hk⟩; have KW : Hid (Keeps no u3 u4) := (Keeps.refl no u3).drew.trans hk; have KA : Hid (Keeps no w1 u4) := K3.out.trans KW.out; clear hk)))
      clear c0 c1 c2 KW KA
      have HNi : Hid (Nice S) := HQ.out.2.2
      obtain ⟨F5, hF5⟩ : ∃ F5, F5 = grow F u2 u3 := ⟨_, rfl⟩
      obtain ⟨G5, hG5⟩ : ∃ G5, G5 = grow G u4 u5 := ⟨_, rfl⟩
      rw [← hF5, ← hG5] at HQ5
      clear HQ HQ3 K3 hF5 hG5
      obtain ⟨c0, c1, c2⟩ := HC.out u5 K5.out
      cases xy with
      | false =>
        have HH : Hid (Hld w1 d r q u (M + xb.length) 0 u5) := ⟨_, _, _, _, _, _, HQ5.out, HZ1.out, HNi.out⟩
        clear HQ5
        go_wp2_with fail
        go_roundw
        case rel => exact ⟨i + 1, by omega, by go_num, by rw [HM1.out]; exact HH⟩
        case measure => simp [intOf]; omega
      | true =>
        go_wp2_with fail
        refine (hfn.out _ K5.out).mono ?_
        rintro e u6 ⟨rfl, hk6⟩
        have HQ6 : Hid (Quad2 w1 u6 d r q u F5 G5 A B t1 t1 S S 0 0) := HQ5.out.keepsN hk6
        clear hk6 HQ5 c0 c1 c2
        go_wp2_with fail
        refine (dn_sync nm HQ6.out.par.dn HA2.out (by have := HNM.out; unfold maxLen; omega)).mono ?_
        rintro e u7 ⟨rfl, hd7, hk7⟩
        have HQ7 : Hid (Quad2 w1 u7 d r q u F5 G5 A B t2 t1 S S 0 0) := HQ6.out.opd1 hd7 hk7
        clear hd7 hk7 HQ6
        obtain ⟨c0, c1, c2⟩ := HC.out u7 HQ7.out.kept
        go_wp2_with fail
        refine (hfn.out _ HQ7.out.kept).mono ?_
        rintro e u8 ⟨rfl, hk8⟩
        have HQ8 : Hid (Quad2 w1 u8 d r q u F5 G5 A B t2 t1 S S 0 0) := HQ7.out.keepsN hk8
        clear hk8 HQ7 c0 c1 c2
        go_wp2_with fail
        refine (rsync_any u8 r G5 t1 nm HQ8.out.par.rd).mono ?_
        rw [HA2.out]
        rintro e u9 ⟨rfl, hd9, hk9⟩
        have HH : Hid (Hld w1 d r q u (M + xb.length) 0 u9) := ⟨_, _, _, _, _, _, HQ8.out.opr1 hd9 hk9, HZ2.out, HNi.out⟩
        clear hd9 hk9 HQ8
        go_wp2_with fail
        go_roundw
        case rel => exact ⟨i + 1, by omega, by go_num, by rw [HM1.out]; exact HH⟩
        case measure => simp [intOf]; omega
    have hlt' : ¬ (i : Int) < nf := by omega
    have HH6 : Hid (Hld w1 d r q u 1048576 0 wr) := HHi.out.more (Nat.le_trans (sum_le wtF xs i) HX.out.2.2.2) (Nat.le_refl _)
    clear HHi hlt
    go_wp2_with fail
    go_loopw [18, 19, 20] (fun s18 _ _ wr => ∃ k : Nat, k ≤ mo ∧ s18 = .int .i64 k ∧ Hid (Hld w1 d r q u 1048576 ((ys.take k).map wtO).sum wr)) (fun s18 _ _ _ => mo - (intOf s18).toNat)
    case atStart => exact ⟨0, by omega, rfl, HH6⟩
    case round =>
      obtain ⟨k, hk, rfl, HHk⟩ := hrel
      rename World => wk
      clear HH6
      by_cases h2 : k < mo
      · as_aux_lemma =>
        have h2' : (k : Int) < mo := by omega
        have hkl : k < ys.length := by have := HY.out.1; omega
        obtain ⟨y, hy⟩ : ∃ y, y = ys.getD k ov0 := ⟨_, rfl⟩
        have hym : y ∈ ys := by rw [hy, getD_in hkl]; exact List.getElem_mem hkl
        have hyok : OVok y := HY.out.2.2.1 y hym
        obtain ⟨ut, hut⟩ : ∃ ut, ut = ((ys.take k).map wtO).sum := ⟨_, rfl⟩
        have HST : Hid (((ys.take (k + 1)).map wtO).sum = ut + wtO y ∧ ut + wtO y ≤ 1048576) := by
          have h1 := sum_take wtO ov0 ys k hkl
          have h3 := sum_le wtO ys (k + 1)
          rw [← hy, ← hut] at h1
          exact ⟨h1, by have := HY.out.2.2.2; omega⟩
        rw [← hut] at HHk
        obtain ⟨b2, off2, e2, d0, d1, d2, d3, d4⟩ := atO (HY.out.2.1.keepsN (K1.out.trans HHk.out.kept)) hkl
        rw [← hy] at d0 d1 d2 d3 d4
        have hrec := record_any wk y hyok
        unfold OV.val at hrec
        clear hy hym hkl hyok hut h2 HX HY HI
        subst e2
        go_wp2_with fail
        refine hrec.mono ?_
        rintro e w6 ⟨⟨vk, vi, vop, vnp, vcp, vok, vnk, vck⟩, rfl, HG, K6⟩
        simp only at HG ⊢
        clear hrec d0 d1 d2 d3 d4
        cases hz : opIs y with
        | false =>
          have HR6 : Hid (Hld w1 d r q u 1048576 (ut + wtO y) (w6.alloc (.cells #[.int .i64 vk, .int .u64 (vi : Nat), .slice vop vnp vcp, .slice vok vnk vck] 47))) := (HHk.out.keepsN (K6.out.alloc _)).more (Nat.le_refl _) (Nat.le_add_right _ _)
          clear HHk hz
          go_wp2_with fail
          go_roundw
          case rel =>
            refine ⟨k + 1, by omega, by go_num, ?_⟩
            rw [HST.out.1]
            exact HR6
          case measure => simp [intOf]; omega
        | true =>
          have hgd := opRec_gd y hz
          have hpr := opRec_pairs y
          have hwt := opRec_wt y
          have htiny := opRec_tiny y
          obtain ⟨rc, hr⟩ : ∃ rc, rc = opRec y := ⟨_, rfl⟩
          rw [← hr] at HG hgd hpr hwt htiny
          have HRC : Hid (Gd rc ∧ rc.pairs.length ≤ 6 ∧ rc.pairs.length ≤ wtO y ∧ TinyR rc) := ⟨hgd, hpr, hwt, htiny⟩
          clear hr hgd hpr hwt htiny hz
          obtain ⟨F, G, A, B, t, S, hQ, hZ, hNi⟩ := HHk.out
          have HQ : Hid (Quad2 w1 wk d r q u F G A B t t S S ut ut) := hQ
          have HZN : Hid (Szl t 1048576 ∧ Nice S) := ⟨hZ, hNi⟩
          clear hQ hZ hNi HHk
          obtain ⟨W6, hW6⟩ : ∃ W, W = w6.alloc (.cells #[.int .i64 vk, .int .u64 (vi : Nat), .slice vop vnp vcp, .slice vok vnk vck] 47) := ⟨_, rfl⟩
          have KA : Hid (Keeps no wk W6) := by rw [hW6]; exact K6.out.alloc _
          have BA : Hid (W6.heap[w6.heap.size]? = some (.cells #[.int .i64 vk, .int .u64 (vi : Nat), .slice vop vnp vcp, .slice vok vnk vck] 47 (0, 0))) := by rw [hW6]; exact blk_new w6 _
          have HQa : Hid (Quad2 w1 W6 d r q u F G A B t t S S ut ut) := HQ.out.keepsN KA.out
          have HCa : Hid (IsC W6 ⟨vk, vi, vop, vnp, vcp, vok, vnk, vck⟩ rc) := by rw [hW6]; exact HG.out.isC.keepsN ((Keeps.refl no _).alloc _)
          have HNw : Hid ((∀ b, inO vop b ∨ inO vok b → wk.heap.size ≤ b) ∧ wk.heap.size ≤ w6.heap.size ∧ (∀ b, A b → b < wk.heap.size) ∧ ∀ b, B b → b < wk.heap.size) := ⟨fun b hb => by rcases hb with h | h; exact HG.out.pn b h; exact HG.out.kn b h, K6.out.size, fun b hb => (HQ.out.st.2 b hb).2, fun b hb => (HQ.out.b0 b hb).2⟩
          have htk := take_any HQa.out.st.1 ⟨vk, vi, vop, vnp, vcp, vok, vnk, vck⟩ rc HCa.out HRC.out.1.may HRC.out.1.id HRC.out.2.1 (by have := HST.out.2; omega)
          have HTK : Hid (Calls Tryz.prog 17 #[.pointer (some ⟨q, 0, none⟩), .agg #[.int .i64 vk, .int .u64 (vi : Nat), .slice vop vnp vcp, .slice vok vnk vck]] W6 (TakeTo w1.heap.size W6 q (doRec 0 S rc) (ut + rc.pairs.length) (fun b => b < W6.heap.size ∧ ¬ A b))) := htk
          rw [hW6] at HTK
          clear htk HG HQ
          go_wp2_with fail
          refine Calls.mono HTK.out ?_
          rw [← hW6]
          rintro e w7 ⟨rfl, H7⟩
          clear HTK hW6
          have HQ7 : Hid (Quad2 w1 w7 d r q u F G (grow A W6 w7) B t t (doRec 0 S rc) S (ut + rc.pairs.length) ut ∧ Keeps A W6 w7) := HQa.out.ops H7.out.1 H7.out.2
          have hfar : Hid (∀ b, wk.heap.size ≤ b → ¬ A b) := fun b hb hs => by have := HNw.out.2.2.1 b hs; omega
          have hfarB : Hid (∀ b, wk.heap.size ≤ b → ¬ B b) := fun b hb hs => by have := HNw.out.2.2.2 b hs; omega
          have B7 : Hid (w7.heap[w6.heap.size]? = some (.cells #[.int .i64 vk, .int .u64 (vi : Nat), .slice vop vnp vcp, .slice vok vnk vck] 47 (0, 0))) := HQ7.out.2.at BA.out (hfar.out _ HNw.out.2.1)
          have HC7 : Hid (IsC w7 ⟨vk, vi, vop, vnp, vcp, vok, vnk, vck⟩ rc) := by
            have hc := HCa.out
            exact ⟨hc.k, hc.i, hc.np, hc.nk, hc.prs.keeps HQ7.out.2 (fun b hb => hfar.out b (HNw.out.1 b (.inl hb))), hc.kys.keeps HQ7.out.2 (fun b hb => hfar.out b (HNw.out.1 b (.inr hb))), hc.fit⟩
          have x0 := cell_of_blk B7.out 0
          have x1 := cell_of_blk B7.out 1
          have x2 := cell_of_blk B7.out 2
          have x3 := cell_of_blk B7.out 3
          have ek : vk = rc.kind := HC7.out.k
          have Ei : Hid (vi = rc.id) := HC7.out.i
          clear H7 BA HCa HQa
          by_cases h1 : rc.kind = 1
          · have hput := Rx.put HQ7.out.1.rs rc.id rc.pairs rc.keys vop vnp vcp vok vnk vck HRC.out.1.id HC7.out.np HC7.out.nk HC7.out.prs HC7.out.kys (may_put HRC.out.1.may h1 (by decide)) (fun b hb => hfarB.out b (HNw.out.1 b (.inl hb))) (fun b hb => hfarB.out b (HNw.out.1 b (.inr hb))) (by have := HST.out.2; omega)
            have hd : Hid (doRec 0 S rc = putAll rc.id rc.keys 0 S (miss S rc.id rc.pairs)) := by show _ = _; unfold doRec; rw [if_pos h1]
            rw [← Ei.out] at hput
            rw [h1] at ek
            clear h1
            subst vk
            go_wp2_with fail
            refine hput.mono ?_
            rintro e w8 ⟨⟨bz, rfl⟩, H8⟩
            have HR8 : Hid (Hld w1 d r q u 1048576 (ut + wtO y) w8) := by
              have h8 := HQ7.out.1.opu H8.out.1 H8.out.2
              rw [Ei.out, ← hd.out] at h8
              have hh : Hld w1 d r q u 1048576 (ut + rc.pairs.length) w8 := ⟨_, _, _, _, _, _, h8, HZN.out.1, HZN.out.2.go HRC.out.1.may HRC.out.1.id HRC.out.2.2.2⟩
              exact hh.more (Nat.le_refl _) (by have := HRC.out.2.2.1; omega)
            clear hput H8 HQ7 B7 HC7 x0 x1 x2 x3 hfar hfarB HNw
            go_wp2_with fail
            go_roundw
            case rel =>
              refine ⟨k + 1, by omega, by go_num, ?_⟩
              rw [HST.out.1]
              exact HR8
            case measure => simp [intOf]; omega
          · obtain ⟨hk2, hi2⟩ := may_com HRC.out.1.may h1
            have hcom := Rx.commit HQ7.out.1.rs rc.id hi2 (by have := HST.out.2; omega)
            have hd : Hid (doRec 0 S rc = commitS S rc.id 0) := by show _ = _; unfold doRec; rw [if_neg h1]
            rw [← Ei.out] at hcom
            rw [hk2] at ek
            clear h1 hk2 hi2
            subst vk
            go_wp2_with fail
            refine hcom.mono ?_
            rintro e w8 ⟨⟨bz, rfl⟩, H8⟩
            have HR8 : Hid (Hld w1 d r q u 1048576 (ut + wtO y) w8) := by
              have h8 := HQ7.out.1.opu H8.out.1 H8.out.2
              rw [Ei.out, ← hd.out] at h8
              have hh : Hld w1 d r q u 1048576 (ut + rc.pairs.length) w8 := ⟨_, _, _, _, _, _, ⟨h8.par, h8.st, h8.rs.more (Nat.le_add_right _ _), h8.b0, h8.fa, h8.fb, h8.ga, h8.gb, h8.ab⟩, HZN.out.1, HZN.out.2.go HRC.out.1.may HRC.out.1.id HRC.out.2.2.2⟩
              exact hh.more (Nat.le_refl _) (by have := HRC.out.2.2.1; omega)
            clear hcom H8 HQ7 B7 HC7 x0 x1 x2 x3 hfar hfarB HNw
            go_wp2_with fail
            go_roundw
            case rel =>
              refine ⟨k + 1, by omega, by go_num, ?_⟩
              rw [HST.out.1]
              exact HR8
            case measure => simp [intOf]; omega
      have h2' : ¬ (k : Int) < mo := by omega
      have HH7 : Hid (Hld w1 d r q u 1048576 1048576 wk) := HHk.out.more (Nat.le_refl _) (Nat.le_trans (sum_le wtO ys k) HY.out.2.2.2)
      clear HHk h2
      as_aux_lemma =>
      obtain ⟨F, G, A, B, t, S, hQ, hZ, hNi⟩ := HH7.out
      have HQ : Hid (Quad2 w1 wk d r q u F G A B t t S S 1048576 1048576) := hQ
      have HZ : Hid (Szl t 1048576 ∧ Nice S) := ⟨hZ, hNi⟩
      clear hQ hZ hNi HH7 HX HY
      go_wp2_with fail
      refine (Sto.keptK HQ.out.st.1 (by omega)).mono ?_
      rintro e w5 ⟨o5, n5, ck5, ks5, rfl, HK5⟩
      have HQ5 : Hid (Quad2 w1 w5 d r q u F G A B t t S S 1048576 1048576) := HQ.out.keepsN HK5.out.2.2.1
      have HKd : Hid (Kd S ks5 o5 n5 ck5 w5) := HK5.out.1
      clear HQ HK5
      go_upto_region 27 with fail
      go_cut [139] from 28 (fun sc wr => ∃ c : Bool, sc = .bool c ∧ Hid (Quad2 w1 wr d r q u F G A B t t S S 1048576 1048576) ∧ Hid (c = false → (gen < 0 ∨ 1099511627776 ≤ gen)))
      case first =>
        as_aux_lemma =>
        by_cases ha : 0 ≤ gen
        · by_cases hb : gen < 1099511627776
          · go_wp2_with fail
            go_meet
            case rel => exact ⟨true, rfl, HQ5, fun h => by cases h⟩
          · have HB : Hid (gen < 0 ∨ 1099511627776 ≤ gen) := .inr (by omega)
            go_wp2_with fail
            go_meet
            case rel => exact ⟨false, rfl, HQ5, fun _ => HB.out⟩
        · have HB : Hid (gen < 0 ∨ 1099511627776 ≤ gen) := .inl (by omega)
          go_wp2_with fail
          go_meet
          case rel => exact ⟨false, rfl, HQ5, fun _ => HB.out⟩
      case rest =>
      obtain ⟨c, rfl, HQ5', Hc⟩ := hcut
      rename World => wz
      clear HQ5
      go_upto_if 139 with fail
      go_cut [2] from 28 (fun s2 wr => ∃ g2 : Int, s2 = .int .i64 g2 ∧ Hid (Quad2 w1 wr d r q u F G A B t t S S 1048576 1048576) ∧ Hid ((g2 < 0 ∨ 1099511627776 ≤ g2) ∨ ∃ g : Nat, g2 = (g : Int) ∧ g ≤ 65535))
      case first =>
        as_aux_lemma =>
        cases c with
        | true =>
          go_wp2_with fail
          go_meet
          case rel => exact ⟨G16, rfl, HQ5', .inr ⟨G16.toNat, by have := HG16.out; omega, by have := HG16.out; omega⟩⟩
        | false =>
          have HB : Hid (gen < 0 ∨ 1099511627776 ≤ gen) := Hc.out rfl
          go_wp2_with fail
          go_meet
          case rel => exact ⟨gen, rfl, HQ5', .inl HB.out⟩
      case rest =>
      obtain ⟨g2, rfl, HQ5, HG2⟩ := hcut
      rename World => wy
      clear HQ5'
      clear Hc
      go_wp2_with fail
      refine (dn_full full HQ5.out.par.dn rfl HI.out.2.2.2).mono ?_
      rintro e v1 ⟨rfl, hd1, hk1⟩
      have HQ6 : Hid (Quad2 w1 v1 d r q u F G A B (Dk.full full t) t S S 1048576 1048576) := HQ5.out.opd1 hd1 hk1
      clear hd1 hk1 HQ5
      go_wp2_with fail
      refine (rfull_any v1 r G t HQ6.out.par.rd full HI.out.2.2.2).mono ?_
      rintro e v2 ⟨rfl, hd2, hk2⟩
      have HQ7 : Hid (Quad2 w1 v2 d r q u F G A B (Dk.full full t) (Dk.full full t) S S 1048576 1048576) := HQ6.out.opr1 hd2 hk2
      clear hd2 hk2 HQ6
      go_wp2_with fail
      refine (dn_arm arm keep HQ7.out.par.dn rfl HI.out.2.1 HI.out.2.2.1).mono ?_
      rintro e v3 ⟨rfl, hd3, hk3⟩
      have HQ8 : Hid (Quad2 w1 v3 d r q u F G A B (Dk.arm arm keep (Dk.full full t)) (Dk.full full t) S S 1048576 1048576) := HQ7.out.opd1 hd3 hk3
      clear hd3 hk3 HQ7
      go_wp2_with fail
      refine (rarm_any v3 r G (Dk.full full t) HQ8.out.par.rd arm keep HI.out.2.1 HI.out.2.2.1).mono ?_
      rintro e v4 ⟨rfl, hd4, hk4⟩
      obtain ⟨t9, ht9⟩ : ∃ t9, t9 = Dk.arm arm keep (Dk.full full t) := ⟨_, rfl⟩
      have HQ9 : Hid (Quad2 w1 v4 d r q u F G A B t9 t9 S S 1048576 1048576) := by rw [ht9]; exact HQ8.out.opr1 hd4 hk4
      have HZ9 : Hid (Szl t9 1048576 ∧ Nice S) := ⟨by rw [ht9]; exact HZ.out.1, HZ.out.2⟩
      clear hd4 hk4 HQ8 ht9 HZ
      have HLT : Hid (∀ k, G k → k < v4.heap.size) := HQ9.out.par.rd.lt
      go_upto_region 33 with fail
      go_cut [22, 23, 24] from 28 (fun s22 s23 s24 wr => ∃ (pl : Option Addr) (gg E : Int), s22 = .pointer pl ∧ s23 = .int .i64 gg ∧ s24 = .int .i64 E ∧ Hid (PRan w1 d r q u F G A B t9 S 1048576 g2 v4 pl gg E wr))
      case first =>
        as_aux_lemma =>
        rcases HG2.out with hbad | ⟨g, hg2, hg⟩
        · have hra := run_arg v4 (some ⟨d, 0, none⟩) (some ⟨q, 0, none⟩) g2 (.inr (.inr hbad))
          have HB : Hid (g2 < 0 ∨ 1099511627776 ≤ g2) := hbad
          clear hbad
          go_wp2_with fail
          refine hra.mono ?_
          rintro e x1 ⟨rfl, hw⟩
          subst x1
          clear hra
          go_wp2_with fail
          go_meet
          case rel => exact ⟨none, 0, 1, rfl, rfl, rfl, .inl ⟨HB.out, rfl, rfl, rfl, HQ9.out⟩⟩
        · have hra := run_any HQ9.out.par.dn HT1.out HQ9.out.st.1 (fun b hb => ⟨HQ9.out.par.dn.is.lt b hb, HQ9.out.fa b hb⟩) (by omega) g (by omega)
          rw [← hg2] at hra
          have HG : Hid (g2 = (g : Int) ∧ (g : Int) < 1099511627776) := ⟨hg2, by omega⟩
          clear hg2 hg
          go_wp2_with fail
          refine hra.mono ?_
          rintro e x1 ⟨b, F', t', E, HB, HF', HD', HE⟩
          clear hra
          have HQx : Hid (Quad2 w1 x1 d r q u F' G A B t' t9 S S 1048576 1048576 ∧ v4.heap.size ≤ x1.heap.size) := ⟨HQ9.out.opd HD'.out.1 HF'.out HD'.out.2, HD'.out.2.size⟩
          clear HD' HF'
          rcases HE with ⟨h0, rfl⟩ | ⟨h0, l, rfl, HL⟩
          · have H0 : Hid (E ≠ 0) := h0
            clear h0
            go_wp2_with fail
            go_meet
            case rel => exact ⟨none, 0, E, rfl, rfl, rfl, .inr ⟨g, b, F', t', HG.out.1, HG.out.2, HB.out.1, HB.out.2, HQx.out.1, HQx.out.2, .inl ⟨H0.out, rfl, rfl⟩⟩⟩
          · subst h0
            go_wp2_with fail
            go_meet
            case rel => exact ⟨some ⟨l, 0, none⟩, _, 0, rfl, rfl, rfl, .inr ⟨g, b, F', t', HG.out.1, HG.out.2, HB.out.1, HB.out.2, HQx.out.1, HQx.out.2, .inr ⟨rfl, rfl, l, rfl, HL.out.1, HL.out.2.1⟩⟩⟩
      case rest =>
      obtain ⟨pl, gg, E, rfl, rfl, rfl, HP⟩ := hcut
      rename World => wp
      go_upto_region 34 with fail
      go_cut [25, 26, 27] from 28 (fun s25 s26 s27 wr => ∃ pm : Option Addr, s25 = .pointer pm ∧ s26 = .int .i64 gg ∧ s27 = .int .i64 E ∧ Hid (BRan w1 d r q u A B S 1048576 140737488355328 pl pm wr))
      case first =>
        as_aux_lemma =>
        rcases HP.out with ⟨hbad, e1, e2, e3, hq⟩ | ⟨g, b, F', t', e1, hg, hb, hr, hq, hsz, hcase⟩
        · subst e1 e2 e3
          have hra := drun_arg wp r u g2 hbad
          have HQx : Hid (Quad2 w1 wp d r q u F G A B t9 t9 S S 1048576 1048576) := hq
          clear hbad hq HP HG2
          go_wp2_with fail
          refine hra.mono ?_
          rintro e x1 ⟨rfl, hw⟩
          subst x1
          clear hra
          go_wp2_with fail
          go_meet
          case rel => exact ⟨none, rfl, rfl, rfl, ⟨F, G, t9, HQx.out, HZ9.out.1.more (by omega), .inl ⟨rfl, rfl⟩⟩⟩
        · have hra := dRun_any (w0 := w1) hq.par.rd hq.par.g0 hq.kept hq.rs (fun b hb => ⟨(hq.b0 b hb).1, (hq.b0 b hb).2, fun hG => hq.gb b hG hb⟩) (by omega) HT1.out g hg
          rw [← e1] at hra
          have HQx : Hid (Quad2 w1 wp d r q u F' G A B t' t9 S S 1048576 1048576) := hq
          have HBx : Hid (LaidB S g t9 b ∧ runF b g t9 = (t', E)) := ⟨hb, hr⟩
          have HCa : Hid ((E ≠ 0 ∧ pl = none ∧ gg = 0) ∨ (E = 0 ∧ gg = ((g + 1 : Nat) : Int) ∧ ∃ l, pl = some ⟨l, 0, none⟩ ∧ IsL wp l d (logN ((g + 1 : Nat) : Int)) 0 ∧ v4.heap.size ≤ l)) := hcase
          clear hq hb hr hcase e1 hg hsz HP HG2
          go_wp2_with fail
          refine hra.mono ?_
          rintro e x1 ⟨bs, t2, E2, HB2, HD2, HE2⟩
          clear hra
          have heq : t2 = t' ∧ E2 = E := by
            have h1 := run_one HBx.out.1 HB2.out.1
            rw [HBx.out.2, HB2.out.2] at h1
            injection h1 with h1 h2
            exact ⟨h1.symm, h2.symm⟩
          obtain ⟨rfl, rfl⟩ := heq
          obtain ⟨G', hG', hI', hK'⟩ := HD2.out
          have HQy : Hid (Quad2 w1 x1 d r q u F' G' A B t2 t2 S S 1048576 1048576) := HQx.out.opr hI' hG' hK'
          have HKG : Hid (Keeps G wp x1) := hK'
          have HZy : Hid (Szl t2 140737488355328) := by
            have hlen : (u8s bs).length ≤ 8000000000 := by rw [u8s_length]; exact HZ9.out.2.len HB2.out.1 (fun ls ks hT => HQx.out.st.1.ks_leX hT) (by omega)
            have h1 := (HZ9.out.1.more (show 1048576 ≤ 140737488355328 by omega)).run (Nat.le_trans hlen (by omega)) g
            rw [HB2.out.2] at h1
            exact h1
          clear hG' hI' hK' HD2 HQx
          rcases HE2 with ⟨h0, rfl⟩ | ⟨h0, m, rfl, HLm⟩
          · obtain ⟨epl, egg⟩ : pl = none ∧ gg = 0 := by
              rcases HCa.out with ⟨_, a, b⟩ | ⟨a, _⟩
              · exact ⟨a, b⟩
              · exact absurd a h0
            subst epl egg
            clear h0
            go_wp2_with fail
            go_meet
            case rel => exact ⟨none, rfl, rfl, rfl, ⟨F', G', t2, HQy.out, HZy.out, .inl ⟨rfl, rfl⟩⟩⟩
          · subst h0
            obtain ⟨egg, l, epl, hl, hlv⟩ : gg = ((g + 1 : Nat) : Int) ∧ ∃ l, pl = some ⟨l, 0, none⟩ ∧ IsL wp l d (logN ((g + 1 : Nat) : Int)) 0 ∧ v4.heap.size ≤ l := by
              rcases HCa.out with ⟨a, _⟩ | ⟨_, b⟩
              · exact absurd rfl a
              · exact b
            subst epl egg
            have HLl : Hid (IsL x1 l d (logN ((g + 1 : Nat) : Int)) 0 ∧ IsLq x1 m r (logN ((g + 1 : Nat) : Int)) 0) := ⟨hl.keeps HKG.out (fun hG => by have := HLT.out l hG; omega), HLm.out.1⟩
            clear hl hlv HLm HCa
            go_wp2_with fail
            go_meet
            case rel => exact ⟨some ⟨m, 0, none⟩, rfl, rfl, rfl, ⟨F', G', t2, HQy.out, HZy.out, .inr ⟨l, m, _, rfl, rfl, HLl.out.1, HLl.out.2⟩⟩⟩
      case rest =>
      obtain ⟨pm, rfl, rfl, rfl, HBR⟩ := hcut
      rename World => wb
      clear HP HLT HQ9 HZ9 HG2
      obtain ⟨F1, G1, t1, hq, hz, hcase⟩ := HBR.out
      have HQb : Hid (Quad2 w1 wb d r q u F1 G1 A B t1 t1 S S 1048576 1048576 ∧ Szl t1 140737488355328) := ⟨hq, hz⟩
      have hkd := Sto.keptK hq.st.1 (by omega)
      clear hq hz HBR
      rcases hcase with ⟨rfl, rfl⟩ | ⟨l, m, nm, rfl, rfl, hl, hm⟩
      · as_aux_lemma =>
        go_wp2_with fail
        refine hkd.mono ?_
        rintro e x3 ⟨o6, n6, c6, ks6, rfl, HK6⟩
        obtain rfl : n6 = n5 := kd_len HK6.out.1 HKd.out
        have HQc : Hid (Quad2 w1 x3 d r q u F1 G1 A B t1 t1 S S 1048576 1048576) := HQb.out.1.keepsN HK6.out.2.2.1
        clear hkd HK6
        go_wp2_with fail
        refine (down_anyW x3 d F1 t1 HQc.out.par.dn.is).mono ?_
        rintro e x4 ⟨rfl, hw⟩
        subst x4
        go_wp2_with fail
        refine (rdown_any x3 r G1 t1 HQc.out.par.rd).mono ?_
        rintro e x4 ⟨rfl, hw⟩
        subst x4
        obtain ⟨ob, hob⟩ : ∃ ob, ob = t1.off := ⟨_, rfl⟩
        rw [← hob]
        clear hob
        have hlf := left_any HQc.out.par HQb.out.2 (Nat.le_refl _)
        go_wp2_with fail
        refine hlf.mono ?_
        rintro e x5 ⟨rfl, hk5⟩
        have KF : Hid (Keeps no w x5) := K1.out.trans hk5
        clear hlf hk5
        go_wp2_with fail
        go_ret
        exact ⟨rfl, KF.out⟩
      · as_aux_lemma =>
        have HL : Hid (IsL wb l d nm 0 ∧ IsLq wb m r nm 0) := ⟨hl, hm⟩
        clear hl hm
        go_wp2_with fail
        refine hkd.mono ?_
        rintro e x3 ⟨o6, n6, c6, ks6, rfl, HK6⟩
        obtain rfl : n6 = n5 := kd_len HK6.out.1 HKd.out
        have HQc : Hid (Quad2 w1 x3 d r q u F1 G1 A B t1 t1 S S 1048576 1048576) := HQb.out.1.keepsN HK6.out.2.2.1
        have h1 := LogSize_any x3 l d nm 0 (HL.out.1.keeps HK6.out.2.2.1 id)
        have h2 := rsize_any x3 m r nm 0 (HL.out.2.keeps HK6.out.2.2.1 id)
        have h3 := LogName_any x3 l d nm 0 (HL.out.1.keeps HK6.out.2.2.1 id)
        have h4 := rname_any x3 m r nm 0 (HL.out.2.keeps HK6.out.2.2.1 id)
        have hnm : (nm.toList == nm.toList) = true := by simp
        clear hkd HK6 HL
        go_wp2_with (first | (go_at_call 21; refine h1.mono ?_; rintro e x4 ⟨rfl, hw⟩; subst x4) | (go_at_call 37; refine h2.mono ?_; rintro e x4 ⟨rfl, hw⟩; subst x4) | (go_at_call 38; refine h3.mono ?_; rintro e x4 ⟨rfl, hw⟩; subst x4) | (go_at_call 39; refine h4.mono ?_; rintro e x4 ⟨rfl, hw⟩; subst x4) | fail)
        refine (down_anyW x3 d F1 t1 HQc.out.par.dn.is).mono ?_
        rintro e x4 ⟨rfl, hw⟩
        subst x4
        go_wp2_with fail
        refine (rdown_any x3 r G1 t1 HQc.out.par.rd).mono ?_
        rintro e x4 ⟨rfl, hw⟩
        subst x4
        obtain ⟨ob, hob⟩ : ∃ ob, ob = t1.off := ⟨_, rfl⟩
        rw [← hob]
        clear hob
        have hlf := left_any HQc.out.par HQb.out.2 (Nat.le_refl _)
        go_wp2_with fail
        refine hlf.mono ?_
        rintro e x5 ⟨rfl, hk5⟩
        have KF : Hid (Keeps no w x5) := K1.out.trans hk5
        clear hlf hk5
        go_wp2_with fail
        go_ret
        exact ⟨rfl, KF.out⟩
end Go.Proofs.YtdemoghlibnooaaGreatDoor

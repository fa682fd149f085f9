import Derived.Test.YtdemoghlibnooaaGreatDoorDX
namespace Go.Proofs.YtdemoghlibnooaaGreatDoor
open Go.RowKit Go.Maps Go.Sort Orl
set_option linter.unusedVariables false
set_option linter.unusedSimpArgs false
def Aft (B : Nat → Prop) (w : World) (p : Nat) (ks : List KV) (ls : List Mk) (w' : World) : Prop := (∃ oK nK cK oL nL cL, RO (fun b => B b ∨ w.heap.size ≤ b) w' p oK nK cK oL nL cL ks ls) ∧ Keeps B w w'
theorem Aft.go {B : Nat → Prop} {w : World} {p : Nat} {ks : List KV} {ls : List Mk} {w' w'' : World} (h : Aft B w p ks ls w') (hk : Keeps no w' w'') : Aft B w p ks ls w'' := by
  obtain ⟨⟨oK, nK, cK, oL, nL, cL, h1⟩, h2⟩ := h
  exact ⟨⟨oK, nK, cK, oL, nL, cL, h1.keepsN hk⟩, h2.then hk (fun b hb => hb.elim)⟩
theorem ro_set {B : Nat → Prop} {wk w3 : World} {p : Nat} {oK : Option Addr} {nK cK : Nat} {oL : Option Addr} {nL cL : Nat} {ks : List KV} {ls : List Mk} (h : RO B wk p oK nK cK oL nL cL ks ls) {ks2 : List KV} (hx : ∀ x ∈ ks2, Own TE wk x.o x.c x.keys ∧ ∀ b, inO x.o b → B b) (k3 : Keeps no wk w3) {o3 : Option Addr} {n3 c3 : Nat} (h3 : Own KE w3 o3 c3 ks2) (hn3 : n3 = ks2.length) (n3w : ∀ b, inO o3 b → B b) (hl : ks2.length ≤ 1954687338211) :
    w3.cell? ⟨p, 0, none⟩ = some (.slice oK nK cK) ∧ w3.frozen? ⟨p, 0, none⟩ = false ∧ RO B (w3.setCell ⟨p, 0, none⟩ (.slice o3 n3 c3)) p o3 n3 c3 oL nL cL ks2 ls ∧ Keeps B wk (w3.setCell ⟨p, 0, none⟩ (.slice o3 n3 c3)) := by
  have h1 := h.keepsN k3
  have hks : Keeps (eqA p) w3 (w3.setCell ⟨p, 0, none⟩ (.slice o3 n3 c3)) := (Keeps.refl _ _).setA 0 _
  have hT : ∀ {o : Option Addr} {c : Nat} {ys : List Tx}, Own TE wk o c ys → Own TE (w3.setCell ⟨p, 0, none⟩ (.slice o3 n3 c3)) o c ys := fun hh => (hh.keepsN k3).keeps hks (fun b q1 e => own_ne (hh.keepsN k3) h1.b (by decide) b q1 e)
  refine ⟨cell_of_blk h1.b 0, frozen_of_blk h1.b 0, ⟨by rw [blk_set h1.b 0]; rfl, h3.keeps hks (fun b q1 e => own_ne h3 h1.b (by decide) b q1 e), fun x hx' => hT (hx x hx').1, h1.l.keeps hks (fun b q1 e => own_ne h1.l h1.b (by decide) b q1 e), hn3, h.nl, hl, h.ll, h.bp, n3w, fun x hx' => (hx x hx').2, h.bl⟩, k3.of_no.then hks (fun b hb => .inl (by have : b = p := hb; rw [this]; exact h.bp))⟩
theorem cells5 {w : World} {g : Nat} {a b c d e : Value} {t : TypeId} (h : w.heap[g]? = some (.cells #[a, b, c, d, e] t (0, 0))) : w.cell? ⟨g, 0, none⟩ = some a ∧ w.cell? ⟨g, 1, none⟩ = some b ∧ w.cell? ⟨g, 2, none⟩ = some c ∧ w.cell? ⟨g, 3, none⟩ = some d ∧ w.cell? ⟨g, 4, none⟩ = some e := ⟨cell_of_blk h 0, cell_of_blk h 1, cell_of_blk h 2, cell_of_blk h 3, cell_of_blk h 4⟩
end Go.Proofs.YtdemoghlibnooaaGreatDoor
namespace Go.Proofs.YtdemoghlibnooaaGreatDoor
open Go.RowKit Go.Maps Go.Sort Orl
set_option linter.unusedVariables false
set_option linter.unusedSimpArgs false
theorem rPut_bad (w : World) (r : Value) (i : Nat) (ps : List Pr) (keys : List Tx) (now : Int) (ap : Option Addr) (np cp : Nat) (ak : Option Addr) (nk ck : Nat) (hnp : np = ps.length) (hnk : nk = keys.length) (hlp : ps.length ≤ 8796093021952) (hlk : keys.length ≤ 8796093021952) (hsp : Sl PE w ap cp ps) (hsk : Sl TE w ak ck keys) (hz : ∀ x ∈ keys, x.size ≤ 140737488351232) (hzp : ∀ x ∈ ps, x.2.size ≤ 140737488351232) (hbad : okPut i ps keys now = false) :
    Calls Tryz.prog 32 #[r, .int .u64 ((i : Nat) : Int), .slice ap np cp, .slice ak nk ck, .int .i64 now] w fun e w' => e = .returned (.tuple #[.bool false, .int .i64 1]) ∧ Keeps no w w' := by
  have hm := rMay_any w i ps keys ap np cp ak nk ck hnp hnk hlp hlk hsp hsk hz hzp
  have ht := fun X => rtick_any X now
  rw [okPut_may] at hbad
  generalize mayB i ps keys = B1 at hm hbad
  generalize tickB now = B2 at ht hbad
  clear hnp hnk hlp hlk hsp hsk hz hzp
  cases B1
  · clear ht hbad
    go_enter Tryz.func32, Tryz.ntmps32
    go_wp2_with fail
    refine hm.mono ?_
    rintro e w1 ⟨rfl, hk1⟩
    go_wp2_with fail
    go_ret2
    exact ⟨rfl, hk1⟩
  · have hb : B2 = false := by simpa using hbad
    subst hb
    clear hbad
    go_enter Tryz.func32, Tryz.ntmps32
    go_wp2_with fail
    refine hm.mono ?_
    rintro e w1 ⟨rfl, hk1⟩
    go_wp2_with fail
    refine (ht _).mono ?_
    rintro e w2 ⟨rfl, hw⟩
    subst w2
    go_wp2_with fail
    go_ret2
    exact ⟨rfl, hk1⟩
structure Kq (wr : World) (g : Nat) (xk : Tx) (i : Nat) (xv : Tx) (on : Option Addr) (nk cn : Nat) (keys : List Tx) (st : Int) (wc : World) : Prop where
  blk : wc.heap[g]? = some (.cells #[.string xk, .int .u64 ((i : Nat) : Int), .string xv, .slice on nk cn, .int .i64 st] 114 (0, 0))
  own : Own TE wc on cn keys
  new : wr.heap.size ≤ g
  newo : New wr on
  keep : Keeps no wr wc
theorem kqm_of {wr z : World} {g : Nat} (hz : z.heap[g]? = some (.cells #[.string ⟨#[]⟩, .int .u64 0, .string ⟨#[]⟩, .slice none 0 0, .int .i64 0] 114 (0, 0))) {xk : Tx} {i : Nat} {xv : Tx} {on : Option Addr} {nk cn : Nat} {keys : List Tx} (ho : Own TE z on cn keys) (hn : wr.heap.size ≤ g) (hno : New wr on) (hk : Keeps no wr z) : Kq wr g xk i xv on nk cn keys (-1) (((((z.setCell ⟨g, 0, none⟩ (.string xk)).setCell ⟨g, 1, none⟩ (.int .u64 ((i : Nat) : Int))).setCell ⟨g, 2, none⟩ (.string xv)).setCell ⟨g, 3, none⟩ (.slice on nk cn)).setCell ⟨g, 4, none⟩ (.int .i64 (-1))) := by
  have hs := set5 hz (.string xk) (.int .u64 ((i : Nat) : Int)) (.string xv) (.slice on nk cn) (.int .i64 (-1))
  unfold set5w at hs
  exact ⟨hs.1, ho.keeps hs.2 (fun b hb e => own_ne ho hz (by decide) b hb e), hn, hno, hk.then hs.2 (fun b hb => .inr (by have : b = g := hb; omega))⟩
theorem Kq.stamp {wr wc : World} {g : Nat} {xk : Tx} {i : Nat} {xv : Tx} {on : Option Addr} {nk cn : Nat} {keys : List Tx} {st : Int} (h : Kq wr g xk i xv on nk cn keys st wc) (z : Int) : Kq wr g xk i xv on nk cn keys z (wc.setCell ⟨g, 4, none⟩ (.int .i64 z)) := by
  have hk : Keeps (eqA g) wc (wc.setCell ⟨g, 4, none⟩ (.int .i64 z)) := (Keeps.refl _ _).setA 4 _
  refine ⟨by rw [blk_set h.blk 4]; rfl, h.own.keeps hk (fun b hb e => own_ne h.own h.blk (by decide) b hb e), h.new, h.newo, h.keep.then hk (fun b hb => .inr (by have : b = g := hb; have := h.new; omega))⟩
theorem Kq.go {wr wc wd : World} {g : Nat} {xk : Tx} {i : Nat} {xv : Tx} {on : Option Addr} {nk cn : Nat} {keys : List Tx} {st : Int} (h : Kq wr g xk i xv on nk cn keys st wc) (hk : Keeps no wc wd) : Kq wr g xk i xv on nk cn keys st wd := ⟨hk.at h.blk id, h.own.keepsN hk, h.new, h.newo, h.keep.trans hk⟩
theorem put_set {B : Nat → Prop} {w wk z2 z3 : World} {p : Nat} {oK : Option Addr} {nK cK : Nat} {oL : Option Addr} {nL cL : Nat} {ks : List KV} {ls : List Mk} (h : RO (fun b => B b ∨ w.heap.size ≤ b) wk p oK nK cK oL nL cL ks ls) {o2 : Option Addr} (hn2 : New wk o2) (hk2 : Keeps no wk z2) {R : Nat} {X : KV} (he : insK ks X = ks.take R ++ X :: ks.drop R) {o3 : Option Addr} {c3 n3 : Nat} (ho3 : Own KE z3 o3 c3 (ks.take R ++ [X] ++ ks.drop R)) (hap3 : Ap z2 o2 o3 z3) (hall : ∀ y ∈ insK ks X, Own TE wk y.o y.c y.keys ∧ ∀ b, inO y.o b → B b ∨ w.heap.size ≤ b) (hn3 : n3 = (insK ks X).length) (hl : (insK ks X).length ≤ 1954687338211) (hw : w.heap.size ≤ wk.heap.size) :
    z3.cell? ⟨p, 0, none⟩ = some (.slice oK nK cK) ∧ z3.frozen? ⟨p, 0, none⟩ = false ∧ RO (fun b => B b ∨ w.heap.size ≤ b) (z3.setCell ⟨p, 0, none⟩ (.slice o3 n3 c3)) p o3 n3 c3 oL nL cL (insK ks X) ls ∧ Keeps (fun b => B b ∨ w.heap.size ≤ b) wk (z3.setCell ⟨p, 0, none⟩ (.slice o3 n3 c3)) := by
  have hnw := hap3.new hn2 hk2
  rw [List.append_assoc] at ho3
  exact ro_set h hall hnw.2 (by rw [he]; exact ho3) hn3 (fun b hb => .inr (Nat.le_trans hw (hnw.1 b hb))) hl
structure Pq (B : Nat → Prop) (w : World) (p : Nat) (s : St) (ls : List Mk) (n0 i : Nat) (keys : List Tx) (now : Int) (ps : List Pr) (t : Nat) (wr : World) : Prop where
  ex : ∃ ks, Aft B w p ks ls wr ∧ Rl (putAll i keys now s (miss s i (ps.take t))) ks ls ∧ ks.length = n0 + (miss s i (ps.take t)).length
theorem pq_put {B : Nat → Prop} {w wk z : World} {p : Nat} {s : St} {ls : List Mk} {n0 i : Nat} {keys : List Tx} {now : Int} {ps : List Pr} {t : Nat} {ks1 : List KV} {X : KV} {y : Pr} {oK : Option Addr} {nK cK : Nat} {oL : Option Addr} {nL cL : Nat} (hr : Rl (putAll i keys now s (miss s i (ps.take (t + 1)))) (insK ks1 X) ls) (hl : ks1.length = n0 + (miss s i (ps.take t)).length) (he : miss s i (ps.take (t + 1)) = miss s i (ps.take t) ++ [y]) (hf : RO (fun b => B b ∨ w.heap.size ≤ b) z p oK nK cK oL nL cL (insK ks1 X) ls ∧ Keeps (fun b => B b ∨ w.heap.size ≤ b) wk z) (hk : Keeps B w wk) : Pq B w p s ls n0 i keys now ps (t + 1) z :=
  ⟨⟨insK ks1 X, ⟨⟨oK, nK, cK, oL, nL, cL, hf.1⟩, hk.then hf.2 (fun b hb => hb)⟩, hr, by rw [insK_length, he, List.length_append, hl, List.length_singleton]; omega⟩⟩
set_option maxRecDepth 10000 in
set_option maxHeartbeats 4000000 in
theorem rPut_good (B : Nat → Prop) (w : World) (p : Nat) (oK : Option Addr) (nK cK : Nat) (oL : Option Addr) (nL cL : Nat) (ks : List KV) (ls : List Mk) (h : RO B w p oK nK cK oL nL cL ks ls) (s : St) (hr : Rl s ks ls) (i : Nat) (ps : List Pr) (keys : List Tx) (now : Int) (ap : Option Addr) (np cp : Nat) (ak : Option Addr) (nk ck : Nat) (hnp : np = ps.length) (hnk : nk = keys.length) (hsp : Sl PE w ap cp ps) (hsk : Sl TE w ak ck keys) (hz : ∀ x ∈ keys, x.size ≤ 140737488351232) (hzp : ∀ x ∈ ps, x.2.size ≤ 140737488351232) (hBp : ∀ b, inO ap b → ¬ B b) (hBk : ∀ b, inO ak b → ¬ B b) (hlt : ∀ b, inO ap b ∨ inO ak b → b < w.heap.size) (hok : okPut i ps keys now = true) (hl : ks.length ≤ 1000000000) :
    Calls Tryz.prog 32 #[.pointer (some ⟨p, 0, none⟩), .int .u64 ((i : Nat) : Int), .slice ap np cp, .slice ak nk ck, .int .i64 now] w fun e w' => e = .returned (.tuple #[.bool (decide (0 < (miss s i ps).length)), .int .i64 0]) ∧ Hid (∃ ks', Aft B w p ks' ls w' ∧ Rl (putAll i keys now s (miss s i ps)) ks' ls ∧ ks'.length = ks.length + (miss s i ps).length) := by
  have hfew := pairs_few hok
  obtain ⟨k1, k2, k3, k4⟩ := okPut_iff.1 hok
  have hkl := (okKeys_iff.1 k2).1.2
  have hinc := (okPairs_iff.1 k3).2.2
  have hm := rMay_any w i ps keys ap np cp ak nk ck hnp hnk (by omega) (by omega) hsp hsk hz hzp
  have ht := fun X => rtick_any X now
  rw [show mayB i ps keys = true by unfold mayB; rw [decide_eq_true k1, k2, k3]; rfl] at hm
  rw [k4] at ht
  have HA : Hid (np = ps.length ∧ nk = keys.length ∧ ps.length ≤ 1024 ∧ keys.length ≤ 1024 ∧ Sl PE w ap cp ps ∧ Sl TE w ak ck keys ∧ Inc ltp ps ∧ (∀ b, inO ap b → ¬ B b ∧ b < w.heap.size) ∧ (∀ b, inO ak b → ¬ B b ∧ b < w.heap.size) ∧ ks.length ≤ 1000000000) := ⟨hnp, hnk, hfew, hkl, hsp, hsk, hinc, fun b hb => ⟨hBp b hb, hlt b (.inl hb)⟩, fun b hb => ⟨hBk b hb, hlt b (.inr hb)⟩, hl⟩
  have hA : (np : Int) ≤ 1024 := by omega
  have HR : Hid (RO B w p oK nK cK oL nL cL ks ls ∧ Rl s ks ls) := ⟨h, hr⟩
  have h0 : Hid (Pq B w p s ls ks.length i keys now ps 0 w) := ⟨⟨ks, ⟨⟨oK, nK, cK, oL, nL, cL, h.mono (fun b hb => .inl hb)⟩, Keeps.refl _ _⟩, by simpa [miss, putAll] using hr, by simp [miss]⟩⟩
  obtain ⟨n0, hn0⟩ : ∃ n0, n0 = ks.length := ⟨_, rfl⟩
  rw [← hn0] at h0 ⊢
  have HN0 : Hid (n0 ≤ 1000000000) := (show _ ≤ _ by omega)
  clear hnp hnk hsp hsk hz hzp hBp hBk hlt hok hl hfew k1 k2 k3 k4 hkl hinc h hr hn0
  go_enter Tryz.func32, Tryz.ntmps32
  go_wp2_with fail
  refine hm.mono ?_
  rintro e w1 ⟨rfl, hk1⟩
  clear hm
  go_wp2_with fail
  refine (ht _).mono ?_
  rintro e w2 ⟨rfl, hw⟩
  subst w2
  clear ht
  have H1 : Hid (Pq B w p s ls n0 i keys now ps 0 w1) := by
    obtain ⟨ks', g1, g2, g3⟩ := h0.out.ex
    exact ⟨⟨ks', g1.go hk1, g2, g3⟩⟩
  clear h0 hk1
  go_wp2_with fail
  go_loopw [12, 13, 14, 15, 16, 17] (fun zf z _ _ _ _ wr => ∃ (t : Nat) (F : Bool), t ≤ np ∧ z = .int .i64 t ∧ zf = .bool F ∧ Hid (F = decide (0 < (miss s i (ps.take t)).length) ∧ Pq B w p s ls n0 i keys now ps t wr)) (fun _ z _ _ _ _ _ => np - (intOf z).toNat)
  case atStart => exact ⟨0, false, by omega, rfl, rfl, by simp [miss], H1.out⟩
  case round =>
    obtain ⟨t, F, ht, rfl, rfl, HT⟩ := hrel
    clear H1
    by_cases htl : t < np
    · have htl' : (t : Int) < np := by omega
      have hta : t < ps.length := by have := HA.out.1; omega
      obtain ⟨ks1, ⟨⟨oK, nK, cK, oL, nL, cL, hro⟩, hkp⟩, hrl, hlen⟩ := HT.out.2.ex
      have hroF : Hid (RO (fun b => B b ∨ w.heap.size ≤ b) wr p oK nK cK oL nL cL ks1 ls) := hro
      have HKP : Hid (Keeps B w wr) := hkp
      have HPQ : Hid (Rl (putAll i keys now s (miss s i (ps.take t))) ks1 ls ∧ ks1.length = n0 + (miss s i (ps.take t)).length) := ⟨hrl, hlen⟩
      obtain ⟨g, off, e1, d0, d1⟩ := (HA.out.2.2.2.2.1.keeps hkp (fun b hb => (HA.out.2.2.2.2.2.2.2.1 b hb).1)).atP hta
      have HKR : Hid (∀ X, Keeps no wr X → Sl TE X ak ck keys) := fun X hX => (HA.out.2.2.2.2.2.1.keeps hkp (fun b hb => (HA.out.2.2.2.2.2.2.2.2.1 b hb).1)).keepsN hX
      subst e1
      obtain ⟨x, hx⟩ : ∃ x, x = ps.getD t p0 := ⟨_, rfl⟩
      rw [← hx] at d0 d1
      have HX : Hid (x = ps.getD t p0 ∧ t < ps.length) := ⟨hx, hta⟩
      have hput := hrl.put HA.out.2.2.2.2.2.2.1 hta
      rw [← hx] at hput
      obtain ⟨xk, xv⟩ := x
      simp only at d0 d1 hput
      obtain ⟨T, hT⟩ : ∃ T, there ks1 (xk, i) = T := ⟨_, rfl⟩
      obtain ⟨R, hR⟩ : ∃ R, fpos ks1 (xk, i) = R := ⟨_, rfl⟩
      have hfd := rfind_any wr p oK nK cK oL nL cL ks1 ls hro.rd xk i
      rw [hT, hR] at hfd
      rw [hT] at hput
      have HPUT : Hid ((T = true → miss s i (ps.take (t + 1)) = miss s i (ps.take t)) ∧ (T = false → miss s i (ps.take (t + 1)) = miss s i (ps.take t) ++ [(xk, xv)] ∧ ∀ o c, Rl (putAll i keys now s (miss s i (ps.take (t + 1)))) (insK ks1 ⟨(xk, i), xv, o, c, keys, if i < lastIn ls xk then now else -1⟩) ls)) := hput
      have HRR : Hid (R ≤ ks1.length) := by rw [← hR]; exact fpos_le _ _
      have HPOS : Hid (∀ v o c st, insK ks1 ⟨(xk, i), v, o, c, keys, st⟩ = ks1.take R ++ ⟨(xk, i), v, o, c, keys, st⟩ :: ks1.drop R) := fun v o c st => by rw [← hR]; rfl
      have HLK : ks1.length ≤ 1000001024 := by
        have h1 : (miss s i (ps.take t)).length ≤ (ps.take t).length := List.length_filter_le _ _
        rw [List.length_take] at h1
        have := HN0.out
        have := HA.out.2.2.1
        omega
      have HLK' : Hid (ks1.length ≤ 1000001024) := HLK
      clear hx hta hro hkp hrl hlen hput hT hR HLK
      go_wp2_with fail
      refine hfd.mono ?_
      rintro e w3 ⟨rfl, hk3⟩
      clear hfd
      cases T
      · have HKX : Hid (Keeps no wr w3) := hk3
        replace d0 := hk3.cellN d0
        replace d1 := hk3.cellN d1
        have hroG : Hid (RO (fun b => B b ∨ w.heap.size ≤ b) w3 p oK nK cK oL nL cL ks1 ls) := hroF.out.keepsN hk3
        have HKPG : Hid (Keeps B w w3) := HKP.out.then hk3 (fun b hb => hb.elim)
        have HKRG : Hid (∀ X, Keeps no w3 X → Sl TE X ak ck keys) := fun X hX => HKR.out X (hk3.trans hX)
        clear hk3 hroF HKP HKR HKX
        have HSX : Hid (∀ X, Keeps no w3 X → X.cell? ⟨g, off + t * 2, none⟩ = some (.string xk) ∧ X.cell? ⟨g, off + t * 2 + 1, none⟩ = some (.string xv)) := fun X hX => ⟨hX.cellN d0, hX.cellN d1⟩
        have HKD : Hid (Keeps no w3 w3.drew) := (Keeps.refl no w3).drew
        have HKA : Hid (Keeps no w3 (w3.drew.alloc (.cells #[.string ⟨#[]⟩, .int .u64 0, .string ⟨#[]⟩, .slice none 0 0, .int .i64 0] 114))) := ((Keeps.refl no w3).drew).alloc _
        have HBA : Hid ((w3.drew.alloc (.cells #[.string ⟨#[]⟩, .int .u64 0, .string ⟨#[]⟩, .slice none 0 0, .int .i64 0] 114)).heap[w3.heap.size]? = some (.cells #[.string ⟨#[]⟩, .int .u64 0, .string ⟨#[]⟩, .slice none 0 0, .int .i64 0] 114 (0, 0))) := blk_new w3.drew _
        have HB0D : Hid (w3.drew.heap[p]? = some (.cells #[.slice oK nK cK, .slice oL nL cL] 130 (0, 0))) := HKD.out.at hroG.out.b id
        have HB16 : Hid ((0 + keys.length) * 16 ≤ 140737488355328 ∧ 0 + keys.length ≤ 140737488355328) := (show _ ∧ _ by have := HA.out.2.2.2.1; omega)
        go_upto_region 10 with fail
        go_cut [16] from 46 to 60 (fun s16 wc => ∃ (gk : Nat) (on : Option Addr) (cn : Nat), s16 = .pointer (some ⟨gk, 0, none⟩) ∧ Hid (Kq w3 gk xk i xv on nk cn keys (-1) wc))
        case first =>
          refine wp_region_held_drew (S := (fun X => X.cell? ⟨g, off + t * 2, none⟩ = some (.string xk) ∧ X.cell? ⟨g, off + t * 2 + 1, none⟩ = some (.string xv))) (by kernel_rfl) ?_ (fun hHeld => ?_)
          · first | exact HSX.out _ (Keeps.refl no w3) | exact HSX.out _ HKD.out
          refine wpAnyH_take (i := 0) (v := ?_) (by simp only [List.getElem?_toArray, List.getElem?_cons_succ, List.getElem?_cons_zero]; rfl) (by kernel_rfl) (by kernel_rfl) (by kernel_rfl) (by exact fun _ _ _ h => h) (Or.inl ⟨by rfl, ?_⟩) (by assumption) ?_
          rotate_left
          · (intro _ hSw; (try dsimp only at hSw); go_simp; (try with_reducible rfl))
          try simp only [Act.put, List.setIfInBounds_toArray, List.set_cons_zero, List.set_cons_succ]
          refine wpAnyH_take (i := 1) (v := ?_) (by simp only [List.getElem?_toArray, List.getElem?_cons_succ, List.getElem?_cons_zero]; rfl) (by kernel_rfl) (by kernel_rfl) (by kernel_rfl) (by exact fun _ _ _ h => h) (Or.inl ⟨by rfl, ?_⟩) (by assumption) ?_
          rotate_left
          · (intro _ hSw; (try dsimp only at hSw); go_simp; (try with_reducible rfl))
          try simp only [Act.put, List.setIfInBounds_toArray, List.set_cons_zero, List.set_cons_succ]
          refine wpAnyH_take (i := 2) (v := ?_) (by simp only [List.getElem?_toArray, List.getElem?_cons_succ, List.getElem?_cons_zero]; rfl) (by kernel_rfl) (by kernel_rfl) (by kernel_rfl) (by exact fun _ _ _ h => h) (Or.inl ⟨by rfl, ?_⟩) (by assumption) ?_
          rotate_left
          · (intro _ hSw; (try dsimp only at hSw); go_simp; (try with_reducible rfl))
          try simp only [Act.put, List.setIfInBounds_toArray, List.set_cons_zero, List.set_cons_succ]
          refine wpAnyH_take (i := 3) (v := ?_) (by simp only [List.getElem?_toArray, List.getElem?_cons_succ, List.getElem?_cons_zero]; rfl) (by kernel_rfl) (by kernel_rfl) (by kernel_rfl) (by exact fun _ _ _ h => h) (Or.inl ⟨by rfl, ?_⟩) (by assumption) ?_
          rotate_left
          · (intro _ hSw; (try dsimp only at hSw); go_simp; (try with_reducible rfl))
          try simp only [Act.put, List.setIfInBounds_toArray, List.set_cons_zero, List.set_cons_succ]
          refine wpAnyH_take (i := 4) (v := ?_) (by simp only [List.getElem?_toArray, List.getElem?_cons_succ, List.getElem?_cons_zero]; rfl) (by kernel_rfl) (by kernel_rfl) (by kernel_rfl) (by exact fun _ _ _ h => h) (Or.inl ⟨by rfl, ?_⟩) (by assumption) ?_
          rotate_left
          · (intro _ hSw; (try dsimp only at hSw); go_simp; (try with_reducible rfl))
          try simp only [Act.put, List.setIfInBounds_toArray, List.set_cons_zero, List.set_cons_succ]
          refine wpAnyH_take (i := 5) (v := ?_) (by simp only [List.getElem?_toArray, List.getElem?_cons_succ, List.getElem?_cons_zero]; rfl) (by kernel_rfl) (by kernel_rfl) (by kernel_rfl) (by exact fun _ _ _ h => h) (Or.inl ⟨by rfl, ?_⟩) (by assumption) ?_
          rotate_left
          · (intro _ hSw; (try dsimp only at hSw); go_simp; (try with_reducible rfl))
          try simp only [Act.put, List.setIfInBounds_toArray, List.set_cons_zero, List.set_cons_succ]
          refine wpAnyH_take (i := 6) (v := ?_) (by simp only [List.getElem?_toArray, List.getElem?_cons_succ, List.getElem?_cons_zero]; rfl) (by kernel_rfl) (by kernel_rfl) (by kernel_rfl) (by exact fun _ _ _ h => h) (Or.inl ⟨by rfl, ?_⟩) (by assumption) ?_
          rotate_left
          · (intro _ hSw; (try dsimp only at hSw); go_simp; (try with_reducible rfl))
          try simp only [Act.put, List.setIfInBounds_toArray, List.set_cons_zero, List.set_cons_succ]
          refine wpAnyH_take (i := 7) (v := ?_) (by simp only [List.getElem?_toArray, List.getElem?_cons_succ, List.getElem?_cons_zero]; rfl) (by kernel_rfl) (by kernel_rfl) (by kernel_rfl) (by exact fun _ _ _ h => h) (Or.inl ⟨by rfl, ?_⟩) (by assumption) ?_
          rotate_left
          · (intro _ hSw; (try dsimp only at hSw); go_simp; (try with_reducible rfl))
          try simp only [Act.put, List.setIfInBounds_toArray, List.set_cons_zero, List.set_cons_succ]
          refine wpAnyH_take (i := 8) (v := ?_) (by simp only [List.getElem?_toArray, List.getElem?_cons_succ, List.getElem?_cons_zero]; rfl) (by kernel_rfl) (by kernel_rfl) (by kernel_rfl) (by exact fun _ _ _ h => h) (Or.inl ⟨by rfl, ?_⟩) (by assumption) ?_
          rotate_left
          · (intro _ hSw; (try dsimp only at hSw); go_simp; (try with_reducible rfl))
          try simp only [Act.put, List.setIfInBounds_toArray, List.set_cons_zero, List.set_cons_succ]
          refine wpAnyH_take (i := 9) (v := ?_) (by simp only [List.getElem?_toArray, List.getElem?_cons_succ, List.getElem?_cons_zero]; rfl) (by kernel_rfl) (by kernel_rfl) (by kernel_rfl) (by exact fun _ _ _ h => h) (Or.inl ⟨by rfl, ?_⟩) (by assumption) ?_
          rotate_left
          · (intro _ hSw; (try dsimp only at hSw); go_simp; (try with_reducible rfl))
          try simp only [Act.put, List.setIfInBounds_toArray, List.set_cons_zero, List.set_cons_succ]
          refine wpAnyH_take (i := 10) (v := ?_) (by simp only [List.getElem?_toArray, List.getElem?_cons_succ, List.getElem?_cons_zero]; rfl) (by kernel_rfl) (by kernel_rfl) (by kernel_rfl) (by exact fun _ _ _ h => h) (Or.inl ⟨by rfl, ?_⟩) (by assumption) ?_
          rotate_left
          · (intro _ hSw; (try dsimp only at hSw); go_simp; (try with_reducible rfl))
          try simp only [Act.put, List.setIfInBounds_toArray, List.set_cons_zero, List.set_cons_succ]
          refine wpAnyH_take (i := 11) (v := ?_) (by simp only [List.getElem?_toArray, List.getElem?_cons_succ, List.getElem?_cons_zero]; rfl) (by kernel_rfl) (by kernel_rfl) (by kernel_rfl) (by exact fun _ _ _ h => h) (Or.inl ⟨by rfl, ?_⟩) (by assumption) ?_
          rotate_left
          · (intro _ hSw; (try dsimp only at hSw); go_simp; (try with_reducible rfl))
          try simp only [Act.put, List.setIfInBounds_toArray, List.set_cons_zero, List.set_cons_succ]
          refine wpAnyH_ready (rs := [12, 15]) (by kernel_rfl) (by simp) ?_
          refine AllReadyH.cons (by simp only [List.getElem?_toArray, List.getElem?_cons_succ, List.getElem?_cons_zero]; rfl) (fun Kq hKq => ?_) (AllReadyH.cons (by simp only [List.getElem?_toArray, List.getElem?_cons_succ, List.getElem?_cons_zero]; rfl) (fun Kq hKq => ?_) AllReadyH.nil)
          · (refine step_appW okT rfl (.const (.slice none 0 0)) (.tmp 57) rfl none 0 0 [] rfl rfl (own_nil _) ak nk ck keys rfl HA.out.2.1 HA.out.2.2.2.2.2.1.nil (HKRG.out _ HKD.out).row HB16.out.1 HB16.out.2 ?_; intro on cn z2 hon hapn; have hsx := own_six hon hapn HKD.out (HB0D.out) (HB0D.out); have HZ2 : Hid (Own TE z2 on cn keys ∧ New w3 on ∧ Keeps no w3 z2) := ⟨hsx.1, hsx.2.1, hsx.2.2.1⟩; have HBZ : Hid ((z2.alloc (.cells #[.string ⟨#[]⟩, .int .u64 0, .string ⟨#[]⟩, .slice none 0 0, .int .i64 0] 114)).heap[z2.heap.size]? = some (.cells #[.string ⟨#[]⟩, .int .u64 0, .string ⟨#[]⟩, .slice none 0 0, .int .i64 0] 114 (0, 0))) := blk_new z2 _; have HZ3 : Hid (Own TE (z2.alloc (.cells #[.string ⟨#[]⟩, .int .u64 0, .string ⟨#[]⟩, .slice none 0 0, .int .i64 0] 114)) on cn keys ∧ New w3 on ∧ Keeps no w3 (z2.alloc (.cells #[.string ⟨#[]⟩, .int .u64 0, .string ⟨#[]⟩, .slice none 0 0, .int .i64 0] 114))) := ⟨HZ2.out.1.keepsN ((Keeps.refl no z2).alloc _), HZ2.out.2.1, HZ2.out.2.2.alloc _⟩; have hsz : w3.heap.size ≤ z2.heap.size := HZ2.out.2.2.size; clear hsx hon hapn)
            refine hKq.out _ _ ?_ (fun hHeldN => ?_)
            · first | exact HSX.out _ HKD.out | exact HSX.out _ HZ2.out.2.2 | exact HSX.out _ HZ3.out.2.2 | exact HSX.out _ (HKQ.out.keep)
            clear hKq Kq hHeld
            have hHeld := hHeldN
            clear hHeldN
            refine wpAnyH_take (i := 13) (v := ?_) (by simp only [List.getElem?_toArray, List.getElem?_cons_succ, List.getElem?_cons_zero]; rfl) (by kernel_rfl) (by kernel_rfl) (by kernel_rfl) (by exact fun _ _ _ h => h) (Or.inl ⟨by rfl, ?_⟩) (by assumption) ?_
            rotate_left
            · (intro _ hSw; (try dsimp only at hSw); go_simp; (try with_reducible rfl))
            try simp only [Act.put, List.setIfInBounds_toArray, List.set_cons_zero, List.set_cons_succ]
            refine wpAnyH_take (i := 14) (v := ?_) (by simp only [List.getElem?_toArray, List.getElem?_cons_succ, List.getElem?_cons_zero]; rfl) (by kernel_rfl) (by kernel_rfl) (by kernel_rfl) (by exact fun _ _ _ h => h) (Or.inl ⟨by rfl, ?_⟩) (by assumption) ?_
            rotate_left
            · (intro _ hSw; (try dsimp only at hSw); go_simp; (try with_reducible rfl))
            try simp only [Act.put, List.setIfInBounds_toArray, List.set_cons_zero, List.set_cons_succ]
            refine wpAnyH_ready (rs := [15]) (by kernel_rfl) (by simp) ?_
            refine AllReadyH.cons (by simp only [List.getElem?_toArray, List.getElem?_cons_succ, List.getElem?_cons_zero]; rfl) (fun Kq hKq => ?_) AllReadyH.nil
            go_simp
            refine hKq.out _ _ ?_ (fun hHeldN => ?_)
            · first | exact HSX.out _ HKD.out | exact HSX.out _ HZ2.out.2.2 | exact HSX.out _ HZ3.out.2.2 | exact HSX.out _ (HKQ.out.keep)
            clear hKq Kq hHeld
            have hHeld := hHeldN
            clear hHeldN
            have q0 := cell_of_blk HBZ.out 0
            have q1 := cell_of_blk HBZ.out 1
            have q2 := cell_of_blk HBZ.out 2
            have q3 := cell_of_blk HBZ.out 3
            have q4 := cell_of_blk HBZ.out 4
            have f0 := frozen_of_blk HBZ.out 0
            have f1 := frozen_of_blk HBZ.out 1
            have f2 := frozen_of_blk HBZ.out 2
            have f3 := frozen_of_blk HBZ.out 3
            have f4 := frozen_of_blk HBZ.out 4
            have HKQ : Hid (Kq w3 z2.heap.size xk i xv on nk cn keys (-1) (z2.alloc (.cells #[.string xk, .int .u64 ((i : Nat) : Int), .string xv, .slice on nk cn, .int .i64 (-1)] 114))) := ⟨blk_new z2 _, HZ2.out.1.keepsN ((Keeps.refl no z2).alloc _), hsz, HZ2.out.2.1, HZ2.out.2.2.alloc _⟩
            refine wpAnyH_ready (rs := [16]) (by kernel_rfl) (by simp) ?_
            refine AllReadyH.cons (by simp only [List.getElem?_toArray, List.getElem?_cons_succ, List.getElem?_cons_zero]; rfl) (fun Kq hKq => ?_) AllReadyH.nil
            go_simp
            refine hKq.out _ _ ?_ (fun hHeldN => ?_)
            · first | exact HSX.out _ HKD.out | exact HSX.out _ HZ2.out.2.2 | exact HSX.out _ HZ3.out.2.2 | exact HSX.out _ (HKQ.out.keep)
            clear hKq Kq hHeld
            have hHeld := hHeldN
            clear hHeldN
            refine wpAnyH_done (by kernel_rfl) ?_ _
            clear hHeld
            go_wp2_with fail
            go_meet
            go_light
            exact ⟨z2.heap.size, on, cn, rfl, HKQ.out⟩
          · go_simp
            refine hKq.out _ _ ?_ (fun hHeldN => ?_)
            · first | exact HSX.out _ HKD.out | exact HSX.out _ HKA.out | exact HSX.out _ HZ2.out.2.2 | exact HSX.out _ (HKQ.out.keep)
            clear hKq Kq hHeld
            have hHeld := hHeldN
            clear hHeldN
            refine wpAnyH_ready (rs := [12]) (by kernel_rfl) (by simp) ?_
            refine AllReadyH.cons (by simp only [List.getElem?_toArray, List.getElem?_cons_succ, List.getElem?_cons_zero]; rfl) (fun Kq hKq => ?_) AllReadyH.nil
            (refine step_appW okT rfl (.const (.slice none 0 0)) (.tmp 57) rfl none 0 0 [] rfl rfl (own_nil _) ak nk ck keys rfl HA.out.2.1 HA.out.2.2.2.2.2.1.nil (HKRG.out _ HKA.out).row HB16.out.1 HB16.out.2 ?_; intro on cn z2 hon hapn; have hsx := own_six hon hapn HKA.out (HBA.out) (HBA.out); have HZ2 : Hid (Own TE z2 on cn keys ∧ New w3 on ∧ Keeps no w3 z2) := ⟨hsx.1, hsx.2.1, hsx.2.2.1⟩; have HBZ : Hid (z2.heap[w3.heap.size]? = some (.cells #[.string ⟨#[]⟩, .int .u64 0, .string ⟨#[]⟩, .slice none 0 0, .int .i64 0] 114 (0, 0))) := hsx.2.2.2.1; clear hsx hon hapn)
            refine hKq.out _ _ ?_ (fun hHeldN => ?_)
            · first | exact HSX.out _ HKD.out | exact HSX.out _ HKA.out | exact HSX.out _ HZ2.out.2.2 | exact HSX.out _ (HKQ.out.keep)
            clear hKq Kq hHeld
            have hHeld := hHeldN
            clear hHeldN
            have q0 := cell_of_blk HBZ.out 0
            have q1 := cell_of_blk HBZ.out 1
            have q2 := cell_of_blk HBZ.out 2
            have q3 := cell_of_blk HBZ.out 3
            have q4 := cell_of_blk HBZ.out 4
            have f0 := frozen_of_blk HBZ.out 0
            have f1 := frozen_of_blk HBZ.out 1
            have f2 := frozen_of_blk HBZ.out 2
            have f3 := frozen_of_blk HBZ.out 3
            have f4 := frozen_of_blk HBZ.out 4
            have HKQ : Hid _ := kqm_of (xk := xk) (i := i) (xv := xv) (nk := nk) HBZ.out HZ2.out.1 (Nat.le_refl _) HZ2.out.2.1 HZ2.out.2.2
            refine wpAnyH_take (i := 13) (v := ?_) (by simp only [List.getElem?_toArray, List.getElem?_cons_succ, List.getElem?_cons_zero]; rfl) (by kernel_rfl) (by kernel_rfl) (by kernel_rfl) (by exact fun _ _ _ h => h) (Or.inl ⟨by rfl, ?_⟩) (by assumption) ?_
            rotate_left
            · (intro _ hSw; (try dsimp only at hSw); go_simp; (try with_reducible rfl))
            try simp only [Act.put, List.setIfInBounds_toArray, List.set_cons_zero, List.set_cons_succ]
            refine wpAnyH_take (i := 14) (v := ?_) (by simp only [List.getElem?_toArray, List.getElem?_cons_succ, List.getElem?_cons_zero]; rfl) (by kernel_rfl) (by kernel_rfl) (by kernel_rfl) (by exact fun _ _ _ h => h) (Or.inl ⟨by rfl, ?_⟩) (by assumption) ?_
            rotate_left
            · (intro _ hSw; (try dsimp only at hSw); go_simp; (try with_reducible rfl))
            try simp only [Act.put, List.setIfInBounds_toArray, List.set_cons_zero, List.set_cons_succ]
            refine wpAnyH_ready (rs := [16]) (by kernel_rfl) (by simp) ?_
            refine AllReadyH.cons (by simp only [List.getElem?_toArray, List.getElem?_cons_succ, List.getElem?_cons_zero]; rfl) (fun Kq hKq => ?_) AllReadyH.nil
            go_simp
            refine hKq.out _ _ ?_ (fun hHeldN => ?_)
            · first | exact HSX.out _ HKD.out | exact HSX.out _ HKA.out | exact HSX.out _ HZ2.out.2.2 | exact HSX.out _ (HKQ.out.keep)
            clear hKq Kq hHeld
            have hHeld := hHeldN
            clear hHeldN
            refine wpAnyH_done (by kernel_rfl) ?_ _
            clear hHeld
            go_wp2_with fail
            go_meet
            go_light
            exact ⟨w3.heap.size, on, cn, rfl, HKQ.out⟩
        case rest =>
        obtain ⟨gk, on, cn, rfl, HQ⟩ := hcut
        rename World => wc
        clear HSX HKD HKA HBA HB0D HB16 HKRG
        have HMS : Hid (miss s i (ps.take (t + 1)) = miss s i (ps.take t) ++ [(xk, xv)]) := (HPUT.out.2 (by simp)).1
        have HM1 : Hid (true = decide (0 < (miss s i (ps.take (t + 1))).length)) := by rw [HMS.out]; exact (decide_eq_true (by simp)).symm
        obtain ⟨L, hL⟩ : ∃ L, lastIn ls xk = L := ⟨_, rfl⟩
        have HL : Hid (lastIn ls xk = L) := hL
        have hla := rLast_any wc p oK nK cK oL nL cL ks1 ls (hroG.out.rd.keepsN HQ.out.keep) xk
        rw [hL] at hla
        replace d0 := HQ.out.keep.cellN d0
        clear hL d1
        go_wp2_with fail
        refine hla.mono ?_
        rintro e w4 ⟨rfl, hk4⟩
        have HQ4 : Hid (Kq w3 gk xk i xv on nk cn keys (-1) w4) := HQ.out.go hk4
        clear hla hk4 HQ d0
        by_cases hlt : i < L
        · have hlt' : ((i : Nat) : Int) < ((L : Nat) : Int) := by omega
          obtain ⟨k0, k1, k2, k3, k4⟩ := cells5 HQ4.out.blk
          have kf := frozen_of_blk HQ4.out.blk 4
          have HRLX : Hid (Rl (putAll i keys now s (miss s i (ps.take (t + 1)))) (insK ks1 ⟨(xk, i), xv, on, cn, keys, now⟩) ls) := by
            have h := (HPUT.out.2 (by simp)).2 on cn
            rw [HL.out, if_pos hlt] at h
            exact h
          clear hlt
          go_upto_region 13 with fail
          have HQK : Hid (Kq w3 gk xk i xv on nk cn keys now (w4.setCell ⟨gk, 4, none⟩ (.int .i64 now))) := HQ4.out.stamp now
          generalize w4.setCell ⟨gk, 4, none⟩ (.int .i64 now) = wk at HQK ⊢
          clear k0 k1 k2 k3 k4 kf HQ4
          have HRK : Hid (RO (fun b => B b ∨ w.heap.size ≤ b) wk p oK nK cK oL nL cL ks1 ls ∧ Keeps B w wk) := ⟨hroG.out.keepsN HQK.out.keep, HKPG.out.then HQK.out.keep (fun b hb => hb.elim)⟩
          have b0 := cell_of_blk HRK.out.1.b 0
          have c1 := cutK_h wk oK cK ks1 nK R ((R : Nat) : Int) rfl HRK.out.1.nk (by have := HRR.out; have := HRK.out.1.nk; omega) HRK.out.1.k.sl
          obtain ⟨A, d, c2, c3, _⟩ := cutK_l wk oK cK ks1 nK R ((R : Nat) : Int) rfl HRK.out.1.nk (by have := HRR.out; have := HRK.out.1.nk; omega) HRK.out.1.k.sl
          have hc1 := c1.1
          have HC1 : Hid (Sl KE wk oK cK (ks1.take R) ∧ Sl KE wk A d (ks1.drop R) ∧ R = (ks1.take R).length ∧ nK - R = (ks1.drop R).length) := ⟨c1.2, c3, by rw [List.length_take]; have := HRR.out; omega, by rw [List.length_drop]; have := HRK.out.1.nk; omega⟩
          obtain ⟨k0, k1, k2, k3, k4⟩ := cells5 HQK.out.blk
          have HBD : Hid ((0 + (ks1.take R).length) * 72 ≤ 140737488355328 ∧ 0 + (ks1.take R).length ≤ 140737488355328 ∧ ((ks1.take R).length + 1) * 72 ≤ 140737488355328 ∧ (ks1.take R).length + 1 ≤ 140737488355328 ∧ ((ks1.take R).length + 1 + (ks1.drop R).length) * 72 ≤ 140737488355328 ∧ (ks1.take R).length + 1 + (ks1.drop R).length ≤ 140737488355328) := (show _ ∧ _ by have := HLK'.out; have := HRR.out; have := HC1.out.2.2; rw [List.length_drop, List.length_take]; omega)
          have HNX : Hid (nk = keys.length) := HA.out.2.1
          have HPX : Hid (insK ks1 (⟨(xk, i), xv, on, cn, keys, now⟩ : KV) = ks1.take R ++ (⟨(xk, i), xv, on, cn, keys, now⟩ : KV) :: ks1.drop R) := HPOS.out _ _ _ _
          have HN2 : Hid (R + 1 = (ks1.take R ++ [(⟨(xk, i), xv, on, cn, keys, now⟩ : KV)]).length ∧ R + 1 + (nK - R) = (insK ks1 (⟨(xk, i), xv, on, cn, keys, now⟩ : KV)).length ∧ (insK ks1 (⟨(xk, i), xv, on, cn, keys, now⟩ : KV)).length ≤ 1954687338211) := (show _ ∧ _ ∧ _ by have h1 := HC1.out.2.2.1; have h2 := HLK'.out; have h3 := HRK.out.1.nk; have h4 := HRR.out; rw [insK_length, List.length_append, ← h1, List.length_singleton]; omega)
          have HWK : Hid (w.heap.size ≤ wk.heap.size) := HRK.out.2.size
          have HALL : Hid (∀ y ∈ insK ks1 (⟨(xk, i), xv, on, cn, keys, now⟩ : KV), Own TE wk y.o y.c y.keys ∧ ∀ b, inO y.o b → B b ∨ w.heap.size ≤ b) := fun y hy => by
            rcases insK_mem.1 hy with rfl | hy
            · exact ⟨HQK.out.own, fun b hb => .inr (Nat.le_trans HKPG.out.size (HQK.out.newo b hb))⟩
            · exact ⟨HRK.out.1.key y hy, HRK.out.1.bt y hy⟩
          clear c1 c3
          go_wp2_with (first | (at_builtin; refine wpList_app okK rfl _ _ rfl _ _ _ (ks1.take R ++ [(⟨(xk, i), xv, on, cn, keys, now⟩ : KV)]) rfl HN2.out.1 HO2.out.1 _ _ _ (ks1.drop R) rfl HC1.out.2.2.2 HC1.out.2.1.nil (HC1.out.2.1.keepsN HO2.out.2.2).row (by rw [List.length_append]; exact HBD.out.2.2.2.2.1) (by rw [List.length_append]; exact HBD.out.2.2.2.2.2) ?_; intro o3 c3' z3 ho3 hap3; have HS3 := put_set HRK.out.1 HO2.out.2.1 HO2.out.2.2 HPX.out ho3 hap3 HALL.out HN2.out.2.1 HN2.out.2.2 HWK.out; have b3 := HS3.1; have f3 := HS3.2.1; have HF3 : Hid _ := HS3.2.2; clear HS3 ho3 hap3) | (at_builtin; refine wpList_app okK rfl _ _ rfl _ _ _ (ks1.take R) rfl HC1.out.2.2.1 (HO1.out.1.keepsN ((Keeps.refl _ _).alloc _)) _ _ _ [(⟨(xk, i), xv, on, cn, keys, now⟩ : KV)] rfl rfl (fun h => by cases h) (by have hh := (own_oneK z1 (⟨(xk, i), xv, on, cn, keys, now⟩ : KV)).row; rw [← HNX.out] at hh; exact hh) HBD.out.2.2.1 HBD.out.2.2.2.1 ?_; intro o2 c2' z2 ho2 hap2; have HO2 : Hid (Own KE z2 o2 c2' (ks1.take R ++ [(⟨(xk, i), xv, on, cn, keys, now⟩ : KV)]) ∧ New wk o2 ∧ Keeps no wk z2) := ⟨ho2, (hap2.new HO1.out.2.1 (HO1.out.2.2.alloc _)).1, (hap2.new HO1.out.2.1 (HO1.out.2.2.alloc _)).2⟩; have b2 := HO2.out.2.2.cellN b0; clear ho2 hap2) | (at_builtin; refine wpList_app okK rfl _ _ rfl _ _ _ ([] : List KV) rfl rfl (own_nil _) _ _ _ (ks1.take R) rfl HC1.out.2.2.1 HC1.out.1.nil HC1.out.1.row HBD.out.1 HBD.out.2.1 ?_; intro o1 c1' z1 ho1 hap1; have HO1 : Hid (Own KE z1 o1 c1' (ks1.take R) ∧ New wk o1 ∧ Keeps no wk z1) := ⟨ho1, (hap1.new (new_none wk) (Keeps.refl no wk)).1, (hap1.new (new_none wk) (Keeps.refl no wk)).2⟩; obtain ⟨m0, m1, m2, m3, m4⟩ := cells5 (HO1.out.2.2.at HQK.out.blk id); clear ho1 hap1))
          go_roundw
          case rel => exact ⟨t + 1, true, by omega, by go_num, rfl, HM1.out, pq_put HRLX.out HPQ.out.2 HMS.out HF3.out HRK.out.2⟩
          case measure => simp [intOf]; omega
        · have hlt' : ¬ ((i : Nat) : Int) < ((L : Nat) : Int) := by omega
          have HRLX : Hid (Rl (putAll i keys now s (miss s i (ps.take (t + 1)))) (insK ks1 ⟨(xk, i), xv, on, cn, keys, -1⟩) ls) := by
            have h := (HPUT.out.2 (by simp)).2 on cn
            rw [HL.out, if_neg hlt] at h
            exact h
          clear hlt
          go_upto_region 13 with fail
          have HQK : Hid (Kq w3 gk xk i xv on nk cn keys (-1) w4) := HQ4.out
          generalize w4 = wk at HQK HQ4 ⊢
          clear HQ4
          have HRK : Hid (RO (fun b => B b ∨ w.heap.size ≤ b) wk p oK nK cK oL nL cL ks1 ls ∧ Keeps B w wk) := ⟨hroG.out.keepsN HQK.out.keep, HKPG.out.then HQK.out.keep (fun b hb => hb.elim)⟩
          have b0 := cell_of_blk HRK.out.1.b 0
          have c1 := cutK_h wk oK cK ks1 nK R ((R : Nat) : Int) rfl HRK.out.1.nk (by have := HRR.out; have := HRK.out.1.nk; omega) HRK.out.1.k.sl
          obtain ⟨A, d, c2, c3, _⟩ := cutK_l wk oK cK ks1 nK R ((R : Nat) : Int) rfl HRK.out.1.nk (by have := HRR.out; have := HRK.out.1.nk; omega) HRK.out.1.k.sl
          have hc1 := c1.1
          have HC1 : Hid (Sl KE wk oK cK (ks1.take R) ∧ Sl KE wk A d (ks1.drop R) ∧ R = (ks1.take R).length ∧ nK - R = (ks1.drop R).length) := ⟨c1.2, c3, by rw [List.length_take]; have := HRR.out; omega, by rw [List.length_drop]; have := HRK.out.1.nk; omega⟩
          obtain ⟨k0, k1, k2, k3, k4⟩ := cells5 HQK.out.blk
          have HBD : Hid ((0 + (ks1.take R).length) * 72 ≤ 140737488355328 ∧ 0 + (ks1.take R).length ≤ 140737488355328 ∧ ((ks1.take R).length + 1) * 72 ≤ 140737488355328 ∧ (ks1.take R).length + 1 ≤ 140737488355328 ∧ ((ks1.take R).length + 1 + (ks1.drop R).length) * 72 ≤ 140737488355328 ∧ (ks1.take R).length + 1 + (ks1.drop R).length ≤ 140737488355328) := (show _ ∧ _ by have := HLK'.out; have := HRR.out; have := HC1.out.2.2; rw [List.length_drop, List.length_take]; omega)
          have HNX : Hid (nk = keys.length) := HA.out.2.1
          have HPX : Hid (insK ks1 (⟨(xk, i), xv, on, cn, keys, -1⟩ : KV) = ks1.take R ++ (⟨(xk, i), xv, on, cn, keys, -1⟩ : KV) :: ks1.drop R) := HPOS.out _ _ _ _
          have HN2 : Hid (R + 1 = (ks1.take R ++ [(⟨(xk, i), xv, on, cn, keys, -1⟩ : KV)]).length ∧ R + 1 + (nK - R) = (insK ks1 (⟨(xk, i), xv, on, cn, keys, -1⟩ : KV)).length ∧ (insK ks1 (⟨(xk, i), xv, on, cn, keys, -1⟩ : KV)).length ≤ 1954687338211) := (show _ ∧ _ ∧ _ by have h1 := HC1.out.2.2.1; have h2 := HLK'.out; have h3 := HRK.out.1.nk; have h4 := HRR.out; rw [insK_length, List.length_append, ← h1, List.length_singleton]; omega)
          have HWK : Hid (w.heap.size ≤ wk.heap.size) := HRK.out.2.size
          have HALL : Hid (∀ y ∈ insK ks1 (⟨(xk, i), xv, on, cn, keys, -1⟩ : KV), Own TE wk y.o y.c y.keys ∧ ∀ b, inO y.o b → B b ∨ w.heap.size ≤ b) := fun y hy => by
            rcases insK_mem.1 hy with rfl | hy
            · exact ⟨HQK.out.own, fun b hb => .inr (Nat.le_trans HKPG.out.size (HQK.out.newo b hb))⟩
            · exact ⟨HRK.out.1.key y hy, HRK.out.1.bt y hy⟩
          clear c1 c3
          go_wp2_with (first | (at_builtin; refine wpList_app okK rfl _ _ rfl _ _ _ (ks1.take R ++ [(⟨(xk, i), xv, on, cn, keys, -1⟩ : KV)]) rfl HN2.out.1 HO2.out.1 _ _ _ (ks1.drop R) rfl HC1.out.2.2.2 HC1.out.2.1.nil (HC1.out.2.1.keepsN HO2.out.2.2).row (by rw [List.length_append]; exact HBD.out.2.2.2.2.1) (by rw [List.length_append]; exact HBD.out.2.2.2.2.2) ?_; intro o3 c3' z3 ho3 hap3; have HS3 := put_set HRK.out.1 HO2.out.2.1 HO2.out.2.2 HPX.out ho3 hap3 HALL.out HN2.out.2.1 HN2.out.2.2 HWK.out; have b3 := HS3.1; have f3 := HS3.2.1; have HF3 : Hid _ := HS3.2.2; clear HS3 ho3 hap3) | (at_builtin; refine wpList_app okK rfl _ _ rfl _ _ _ (ks1.take R) rfl HC1.out.2.2.1 (HO1.out.1.keepsN ((Keeps.refl _ _).alloc _)) _ _ _ [(⟨(xk, i), xv, on, cn, keys, -1⟩ : KV)] rfl rfl (fun h => by cases h) (by have hh := (own_oneK z1 (⟨(xk, i), xv, on, cn, keys, -1⟩ : KV)).row; rw [← HNX.out] at hh; exact hh) HBD.out.2.2.1 HBD.out.2.2.2.1 ?_; intro o2 c2' z2 ho2 hap2; have HO2 : Hid (Own KE z2 o2 c2' (ks1.take R ++ [(⟨(xk, i), xv, on, cn, keys, -1⟩ : KV)]) ∧ New wk o2 ∧ Keeps no wk z2) := ⟨ho2, (hap2.new HO1.out.2.1 (HO1.out.2.2.alloc _)).1, (hap2.new HO1.out.2.1 (HO1.out.2.2.alloc _)).2⟩; have b2 := HO2.out.2.2.cellN b0; clear ho2 hap2) | (at_builtin; refine wpList_app okK rfl _ _ rfl _ _ _ ([] : List KV) rfl rfl (own_nil _) _ _ _ (ks1.take R) rfl HC1.out.2.2.1 HC1.out.1.nil HC1.out.1.row HBD.out.1 HBD.out.2.1 ?_; intro o1 c1' z1 ho1 hap1; have HO1 : Hid (Own KE z1 o1 c1' (ks1.take R) ∧ New wk o1 ∧ Keeps no wk z1) := ⟨ho1, (hap1.new (new_none wk) (Keeps.refl no wk)).1, (hap1.new (new_none wk) (Keeps.refl no wk)).2⟩; obtain ⟨m0, m1, m2, m3, m4⟩ := cells5 (HO1.out.2.2.at HQK.out.blk id); clear ho1 hap1))
          go_roundw
          case rel => exact ⟨t + 1, true, by omega, by go_num, rfl, HM1.out, pq_put HRLX.out HPQ.out.2 HMS.out HF3.out HRK.out.2⟩
          case measure => simp [intOf]; omega
      · have HM : Hid (miss s i (ps.take (t + 1)) = miss s i (ps.take t)) := HPUT.out.1 (by simp)
        have HP2 : Hid (Pq B w p s ls n0 i keys now ps t w3) := by
          obtain ⟨ks2, g1, g2, g3⟩ := HT.out.2.ex
          exact ⟨⟨ks2, g1.go hk3, g2, g3⟩⟩
        clear hk3
        go_wp2_with fail
        go_roundw
        case rel => exact ⟨t + 1, F, by omega, by go_num, rfl, by rw [HM.out]; exact HT.out.1, by obtain ⟨ks2, g1, g2, g3⟩ := HP2.out.ex; exact ⟨⟨ks2, g1, by rw [HM.out]; exact g2, by rw [HM.out]; exact g3⟩⟩⟩
        case measure => simp [intOf]; omega
    · have htl' : ¬ (t : Int) < np := by omega
      go_wp2_with fail
      go_ret2
      have e : ps.take t = ps := List.take_of_length_le (by have := HA.out.1; omega)
      have h1 := HT.out.1
      have h2 := HT.out.2.ex
      rw [e] at h1 h2
      exact ⟨by rw [h1]; rfl, h2⟩
end Go.Proofs.YtdemoghlibnooaaGreatDoor
namespace Go.Proofs.YtdemoghlibnooaaGreatDoor
open Go.RowKit Go.Maps Go.Sort Orl
set_option linter.unusedVariables false
set_option linter.unusedSimpArgs false
end Go.Proofs.YtdemoghlibnooaaGreatDoor
namespace Go.Proofs.YtdemoghlibnooaaGreatDoor
open Go.RowKit Go.Maps Go.Sort Orl
set_option linter.unusedVariables false
set_option linter.unusedSimpArgs false
theorem keeps_lt {S S' : Nat → Prop} {w w' : World} (h : Keeps S w w') (hS : ∀ b, b < w.heap.size → S b → S' b) : Keeps S' w w' :=
  ⟨h.os, h.tape, h.output, h.size, fun k hk hn => h.block k hk (fun hc => hn (hS k hk hc))⟩
theorem ro_setL {B : Nat → Prop} {wk w3 : World} {p : Nat} {oK : Option Addr} {nK cK : Nat} {oL : Option Addr} {nL cL : Nat} {ks : List KV} {ls : List Mk} (h : RO B wk p oK nK cK oL nL cL ks ls) {ls2 : List Mk} (k3 : Keeps no wk w3) {o3 : Option Addr} {n3 c3 : Nat} (h3 : Own LE w3 o3 c3 ls2) (hn3 : n3 = ls2.length) (n3w : ∀ b, inO o3 b → B b) (hl : ls2.length ≤ 5864062014634) :
    w3.cell? ⟨p, 1, none⟩ = some (.slice oL nL cL) ∧ w3.frozen? ⟨p, 1, none⟩ = false ∧ RO B (w3.setCell ⟨p, 1, none⟩ (.slice o3 n3 c3)) p oK nK cK o3 n3 c3 ks ls2 ∧ Keeps B wk (w3.setCell ⟨p, 1, none⟩ (.slice o3 n3 c3)) := by
  have h1 := h.keepsN k3
  have hks : Keeps (eqA p) w3 (w3.setCell ⟨p, 1, none⟩ (.slice o3 n3 c3)) := (Keeps.refl _ _).setA 1 _
  have hT : ∀ {o : Option Addr} {c : Nat} {ys : List Tx}, Own TE wk o c ys → Own TE (w3.setCell ⟨p, 1, none⟩ (.slice o3 n3 c3)) o c ys := fun hh => (hh.keepsN k3).keeps hks (fun b q1 e => own_ne (hh.keepsN k3) h1.b (by decide) b q1 e)
  refine ⟨cell_of_blk h1.b 1, frozen_of_blk h1.b 1, ⟨by rw [blk_set h1.b 1]; rfl, h1.k.keeps hks (fun b q1 e => own_ne h1.k h1.b (by decide) b q1 e), fun x hx' => hT (h.key x hx'), h3.keeps hks (fun b q1 e => own_ne h3 h1.b (by decide) b q1 e), h.nk, hn3, h.lk, hl, h.bp, h.bk, h.bt, n3w⟩, k3.of_no.then hks (fun b hb => .inl (by have : b = p := hb; rw [this]; exact h.bp))⟩
theorem cells_setc2 {α : Type} {E : El α} (hE : E.Ok) (r : Nat) (v : Value) (x' : α) (hr : r < E.k) : ∀ (xs : List α) (j : Nat) (d : α), j < xs.length → E.enc x' = (E.enc (xs.getD j d)).set r v → E.cells (xs.set j x') = (E.cells xs).set (j * E.k + r) v
  | [], j, d, h, _ => absurd h (by simp)
  | y :: xs, 0, d, _, he => by
    have he' : E.enc x' = (E.enc y).set r v := he
    simp only [List.set_cons_zero, El.cells, List.flatMap_cons, Nat.zero_mul, Nat.zero_add]
    rw [he', List.set_append_left _ _ (by rw [hE.len]; exact hr)]
  | y :: xs, j + 1, d, h, he => by
    have ih := cells_setc2 hE r v x' hr xs j d (by simpa using h) he
    simp only [El.cells] at ih
    simp only [List.set_cons_succ, El.cells, List.flatMap_cons]
    rw [ih, List.set_append_right _ _ (by rw [hE.len, Nat.succ_mul]; omega), hE.len]
    congr 2
    rw [Nat.succ_mul]; omega
theorem ro_id {B : Nat → Prop} {w : World} {p : Nat} {oK : Option Addr} {nK cK : Nat} {oL : Option Addr} {nL cL : Nat} {ks : List KV} {ls : List Mk} (h : RO B w p oK nK cK oL nL cL ks ls) {R : Nat} (hR : R < ls.length) {k : Tx} (hk : (ls.getD R (e0, 0)).1 = k) (i : Nat) :
    ∃ g, oL = some ⟨g, 0, none⟩ ∧ w.frozen? ⟨g, R * 2 + 1, none⟩ = false ∧ (∃ z, w.cell? ⟨g, R * 2 + 1, none⟩ = some (.int .u64 z)) ∧ w.cell? ⟨g, R * 2, none⟩ = some (.string k) ∧ RO B (w.setCell ⟨g, R * 2 + 1, none⟩ (.int .u64 ((i : Nat) : Int))) p oK nK cK oL nL cL ks (ls.set R (k, i)) ∧ Keeps B w (w.setCell ⟨g, R * 2 + 1, none⟩ (.int .u64 ((i : Nat) : Int))) := by
  obtain ⟨b, off, e, d0, d1⟩ := h.l.sl.atL hR
  rcases h.l.shape with ⟨_, _, e'⟩ | ⟨g, cur, hoL, hg, hc, hm, hs, ht⟩
  · rw [e'] at hR; simp at hR
  · rw [hoL] at e
    injection e with e
    injection e with e1 e2
    subst e1 e2 hoL
    have hks : Keeps (inO (some ⟨g, 0, none⟩)) w (w.setCell ⟨g, R * 2 + 1, none⟩ (.int .u64 ((i : Nat) : Int))) := (Keeps.refl _ _).setCell (.inl ⟨_, rfl, rfl⟩) _
    have hkg : Keeps (eqA g) w (w.setCell ⟨g, R * 2 + 1, none⟩ (.int .u64 ((i : Nat) : Int))) := (Keeps.refl _ _).setA _ _
    rw [Nat.zero_add] at d0 d1
    rw [hk] at d0
    have hown : Own LE (w.setCell ⟨g, R * 2 + 1, none⟩ (.int .u64 ((i : Nat) : Int))) (some ⟨g, 0, none⟩) cL (ls.set R (k, i)) := by
      refine own_of_shape okL (blk_set hg _ _) (by simpa using hc) hm (by simp [hs]) ?_
      have he : LE.enc (k, i) = (LE.enc (ls.getD R (e0, 0))).set 1 (.int .u64 ((i : Nat) : Int)) := by rw [show ls.getD R (e0, 0) = (k, (ls.getD R (e0, 0)).2) by rw [← hk]]; rfl
      rw [cells_setc2 okL 1 _ (k, i) (by decide) ls R (e0, 0) hR he]
      simp only [Array.toList_setIfInBounds, List.length_set]
      rw [List.take_set, ht]
      rfl
    have hne : ∀ {o : Option Addr} {c : Nat} {ys : List Tx}, Own TE w o c ys → Own TE (w.setCell ⟨g, R * 2 + 1, none⟩ (.int .u64 ((i : Nat) : Int))) o c ys := fun hh => hh.keeps hkg (fun b q1 e => own_ne hh hg (by decide) b q1 e)
    have hpg : p ≠ g := fun e => by
      have := h.b
      rw [e, hg] at this
      injection this with this
      injection this with _ this _
      cases this
    refine ⟨g, rfl, frozen_of_blk hg _, ⟨_, d1⟩, d0, ⟨blk_set_ne h.b hpg _, h.k.keeps hkg (fun b q1 e => own_ne h.k hg (by decide) b q1 e), fun x hx => hne (h.key x hx), hown, h.nk, by rw [List.length_set]; exact h.nl, h.lk, by rw [List.length_set]; exact h.ll, h.bp, h.bk, h.bt, h.bl⟩, hkg.mono (fun b hb => by have : b = g := hb; rw [this]; exact h.bl g ⟨_, rfl, rfl⟩)⟩
theorem rpos_le' (ls : List Mk) (k : Tx) : rpos ls k ≤ ls.length := (List.takeWhile_sublist _).length_le
set_option maxRecDepth 10000 in
set_option maxHeartbeats 1000000 in
theorem rraise_any (B : Nat → Prop) (w : World) (p : Nat) (oK : Option Addr) (nK cK : Nat) (oL : Option Addr) (nL cL : Nat) (ks : List KV) (ls : List Mk) (h : RO B w p oK nK cK oL nL cL ks ls) (k : Tx) (i : Nat) (hb : ls.length ≤ 1000000000) :
    Calls Tryz.prog 70 #[.pointer (some ⟨p, 0, none⟩), .string k, .int .u64 ((i : Nat) : Int)] w fun e w' => e = .returned (.tuple #[]) ∧ Hid (Aft B w p ks (raiseL ls k i) w') := by
  have HA : Hid (RO B w p oK nK cK oL nL cL ks ls ∧ ls.length ≤ 1000000000) := ⟨h, hb⟩
  have hA : (nL : Int) ≤ 1000000000 := by have := h.nl; omega
  clear h hb
  go_enter Tryz.func70, Tryz.ntmps70
  go_wp2_with fail
  go_loopw [6] (fun z wr => ∃ t : Nat, t ≤ nL ∧ z = .int .i64 t ∧ wr = w ∧ Hid (∀ j, j < t → lts (ls.getD j (e0, 0)).1 k = true)) (fun z _ => nL - (intOf z).toNat)
  case atStart => exact ⟨0, by omega, rfl, rfl, fun j hj => absurd hj (Nat.not_lt_zero _)⟩
  case round =>
    obtain ⟨t, ht, rfl, hwr, HT⟩ := hrel
    subst hwr
    rename World => w
    have b1 := cell_of_blk HA.out.1.b 1
    by_cases htl : t < nL
    · have htl' : (t : Int) < nL := by omega
      have hta : t < ls.length := by have := HA.out.1.nl; omega
      obtain ⟨g, off, e1, d0, d1⟩ := HA.out.1.l.sl.atL hta
      obtain ⟨x, hx⟩ : ∃ x, x = ls.getD t (e0, 0) := ⟨_, rfl⟩
      rw [← hx] at d0 d1
      have HX : Hid (x = ls.getD t (e0, 0) ∧ t < ls.length) := ⟨hx, hta⟩
      obtain ⟨xk, xi⟩ := x
      simp only at d0 d1
      clear hx hta
      cases hlt : Op.bytesLess xk.toList k.toList
      · have hpos : rpos ls k = t := rpos_of ls t (Nat.le_of_lt HX.out.2) HT.out (fun _ => by rw [← HX.out.1]; exact hlt)
        by_cases hq : xk = k
        · have hk : (ls.getD t (e0, 0)).1 = k := by rw [← HX.out.1]; exact hq
          have HE : Hid (raiseL ls k i = ls.set t (k, i)) := by
            unfold raiseL
            rw [hpos, if_pos ⟨HX.out.2, hk⟩]
            exact rfl
          obtain ⟨g2, eg, hf, ⟨z, hc⟩, _, hro, hkp⟩ := ro_id HA.out.1 HX.out.2 hk i
          subst eg
          injection e1 with e1
          injection e1 with q1 q2
          subst q1 q2
          rw [Nat.zero_add] at d0 d1
          have HF : Hid (RO B (w.setCell ⟨g2, t * 2 + 1, none⟩ (.int .u64 ((i : Nat) : Int))) p oK nK cK (some ⟨g2, 0, none⟩) nL cL ks (ls.set t (k, i)) ∧ Keeps B w (w.setCell ⟨g2, t * 2 + 1, none⟩ (.int .u64 ((i : Nat) : Int)))) := ⟨hro, hkp⟩
          subst hq
          have e2 : (xk.toList == xk.toList) = true := by rw [tx_eq]; simp
          clear hpos hk hro hkp
          go_wp2_with fail
          refine bodyPost_ret (results_none rfl _ _ _) rfl ?_
          exact ⟨rfl, ⟨_, _, _, _, _, _, by rw [HE.out]; exact HF.out.1.mono (fun b hb => .inl hb)⟩, HF.out.2⟩
        · have e2 : (xk.toList == k.toList) = false := by rw [tx_eq]; simpa using hq
          have HE : Hid (raiseL ls k i = ls.take t ++ (k, i) :: ls.drop t) := by
            unfold raiseL
            rw [hpos, if_neg (fun hh => hq (by rw [← hh.2, ← HX.out.1]))]
            show insL ls (k, i) = _
            unfold insL
            rw [hpos]
          subst e1
          clear hpos hq
          clear b1
          have b1 := cell_of_blk HA.out.1.b 1
          have c1 := cutL_h w (some ⟨g, off, none⟩) cL ls nL t ((t : Nat) : Int) rfl HA.out.1.nl ht HA.out.1.l.sl
          obtain ⟨A, d, c2, c3, _⟩ := cutL_l w (some ⟨g, off, none⟩) cL ls nL t ((t : Nat) : Int) rfl HA.out.1.nl ht HA.out.1.l.sl
          have hc1 := c1.1
          have HC1 : Hid (Sl LE w (some ⟨g, off, none⟩) cL (ls.take t) ∧ Sl LE w A d (ls.drop t) ∧ t = (ls.take t).length ∧ nL - t = (ls.drop t).length) := ⟨c1.2, c3, by rw [List.length_take]; have := HA.out.1.nl; omega, by rw [List.length_drop]; have := HA.out.1.nl; omega⟩
          have HBD : Hid ((0 + (ls.take t).length) * 24 ≤ 140737488355328 ∧ 0 + (ls.take t).length ≤ 140737488355328 ∧ ((ls.take t).length + 1) * 24 ≤ 140737488355328 ∧ (ls.take t).length + 1 ≤ 140737488355328 ∧ ((ls.take t).length + 1 + (ls.drop t).length) * 24 ≤ 140737488355328 ∧ (ls.take t).length + 1 + (ls.drop t).length ≤ 140737488355328) := (show _ ∧ _ by have := HA.out.2; have := HA.out.1.nl; rw [List.length_drop, List.length_take]; omega)
          have HN2 : Hid (t + 1 = (ls.take t ++ [((k, i) : Mk)]).length ∧ t + 1 + (nL - t) = (raiseL ls k i).length ∧ (raiseL ls k i).length ≤ 5864062014634) := (show _ ∧ _ ∧ _ by have h1 := HC1.out.2.2.1; have h2 := HA.out.2; have h3 := HA.out.1.nl; rw [HE.out]; simp only [List.length_append, List.length_cons, List.length_nil, List.length_take, List.length_drop]; omega)
          have HR0 : Hid (RO (fun b => B b ∨ w.heap.size ≤ b) w p oK nK cK (some ⟨g, off, none⟩) nL cL ks ls) := HA.out.1.mono (fun b hb => .inl hb)
          clear c1 c3
          go_wp2_with (first | (at_builtin; refine wpList_app okL rfl _ _ rfl _ _ _ (ls.take t ++ [((k, i) : Mk)]) rfl HN2.out.1 HO2.out.1 _ _ _ (ls.drop t) rfl HC1.out.2.2.2 HC1.out.2.1.nil (HC1.out.2.1.keepsN HO2.out.2.2).row (by rw [List.length_append]; exact HBD.out.2.2.2.2.1) (by rw [List.length_append]; exact HBD.out.2.2.2.2.2) ?_; intro o3 c3' z3 ho3 hap3; have hnw := hap3.new HO2.out.2.1 HO2.out.2.2; have HS3 := ro_setL (ls2 := raiseL ls k i) HR0.out hnw.2 (by rw [HE.out]; rw [List.append_assoc] at ho3; exact ho3) HN2.out.2.1 (fun b hb => .inr (hnw.1 b hb)) HN2.out.2.2; have b3 := HS3.1; have f3 := HS3.2.1; have HF3 : Hid _ := HS3.2.2; clear HS3 ho3 hap3 hnw) | (at_builtin; refine wpList_app okL rfl _ _ rfl _ _ _ (ls.take t) rfl HC1.out.2.2.1 (HO1.out.1.keepsN ((Keeps.refl _ _).alloc _)) _ _ _ [((k, i) : Mk)] rfl rfl (fun h => by cases h) (own_oneL z1 ((k, i) : Mk)).row HBD.out.2.2.1 HBD.out.2.2.2.1 ?_; intro o2 c2' z2 ho2 hap2; have HO2 : Hid (Own LE z2 o2 c2' (ls.take t ++ [((k, i) : Mk)]) ∧ New w o2 ∧ Keeps no w z2) := ⟨ho2, (hap2.new HO1.out.2.1 (HO1.out.2.2.alloc _)).1, (hap2.new HO1.out.2.1 (HO1.out.2.2.alloc _)).2⟩; have b2 := HO2.out.2.2.cellN b1; clear ho2 hap2) | (at_builtin; refine wpList_app okL rfl _ _ rfl _ _ _ ([] : List Mk) rfl rfl (own_nil _) _ _ _ (ls.take t) rfl HC1.out.2.2.1 HC1.out.1.nil HC1.out.1.row HBD.out.1 HBD.out.2.1 ?_; intro o1 c1' z1 ho1 hap1; have HO1 : Hid (Own LE z1 o1 c1' (ls.take t) ∧ New w o1 ∧ Keeps no w z1) := ⟨ho1, (hap1.new (new_none w) (Keeps.refl no w)).1, (hap1.new (new_none w) (Keeps.refl no w)).2⟩; clear ho1 hap1))
          refine bodyPost_end (results_none rfl _ _ _) rfl ?_
          exact ⟨rfl, ⟨_, _, _, _, _, _, HF3.out.1⟩, keeps_lt HF3.out.2 (fun b hb hc => hc.elim id (fun h => absurd hb (by omega)))⟩
      · subst e1
        go_wp2_with fail
        go_roundw
        case rel =>
          refine ⟨t + 1, by omega, by go_num, trivial, fun j hj => ?_⟩
          by_cases e : j = t
          · subst e; rw [← HX.out.1]; exact hlt
          · exact HT.out j (by omega)
        case measure => simp [intOf]; omega
    · have htl' : ¬ (t : Int) < nL := by omega
      have hpos : rpos ls k = t := rpos_of ls t (by have := HA.out.1.nl; omega) HT.out (fun hc => absurd hc (by have := HA.out.1.nl; omega))
      have HE : Hid (raiseL ls k i = ls.take t ++ (k, i) :: ls.drop t) := by
        unfold raiseL
        rw [hpos, if_neg (fun hh => absurd hh.1 (by have := HA.out.1.nl; omega))]
        show insL ls (k, i) = _
        unfold insL
        rw [hpos]
      clear hpos b1
      have b1 := cell_of_blk HA.out.1.b 1
      have c1 := cutL_h w oL cL ls nL t ((t : Nat) : Int) rfl HA.out.1.nl ht HA.out.1.l.sl
      obtain ⟨A, d, c2, c3, _⟩ := cutL_l w oL cL ls nL t ((t : Nat) : Int) rfl HA.out.1.nl ht HA.out.1.l.sl
      have hc1 := c1.1
      have HC1 : Hid (Sl LE w oL cL (ls.take t) ∧ Sl LE w A d (ls.drop t) ∧ t = (ls.take t).length ∧ nL - t = (ls.drop t).length) := ⟨c1.2, c3, by rw [List.length_take]; have := HA.out.1.nl; omega, by rw [List.length_drop]; have := HA.out.1.nl; omega⟩
      have HBD : Hid ((0 + (ls.take t).length) * 24 ≤ 140737488355328 ∧ 0 + (ls.take t).length ≤ 140737488355328 ∧ ((ls.take t).length + 1) * 24 ≤ 140737488355328 ∧ (ls.take t).length + 1 ≤ 140737488355328 ∧ ((ls.take t).length + 1 + (ls.drop t).length) * 24 ≤ 140737488355328 ∧ (ls.take t).length + 1 + (ls.drop t).length ≤ 140737488355328) := (show _ ∧ _ by have := HA.out.2; have := HA.out.1.nl; rw [List.length_drop, List.length_take]; omega)
      have HN2 : Hid (t + 1 = (ls.take t ++ [((k, i) : Mk)]).length ∧ t + 1 + (nL - t) = (raiseL ls k i).length ∧ (raiseL ls k i).length ≤ 5864062014634) := (show _ ∧ _ ∧ _ by have h1 := HC1.out.2.2.1; have h2 := HA.out.2; have h3 := HA.out.1.nl; rw [HE.out]; simp only [List.length_append, List.length_cons, List.length_nil, List.length_take, List.length_drop]; omega)
      have HR0 : Hid (RO (fun b => B b ∨ w.heap.size ≤ b) w p oK nK cK oL nL cL ks ls) := HA.out.1.mono (fun b hb => .inl hb)
      clear c1 c3
      go_wp2_with (first | (at_builtin; refine wpList_app okL rfl _ _ rfl _ _ _ (ls.take t ++ [((k, i) : Mk)]) rfl HN2.out.1 HO2.out.1 _ _ _ (ls.drop t) rfl HC1.out.2.2.2 HC1.out.2.1.nil (HC1.out.2.1.keepsN HO2.out.2.2).row (by rw [List.length_append]; exact HBD.out.2.2.2.2.1) (by rw [List.length_append]; exact HBD.out.2.2.2.2.2) ?_; intro o3 c3' z3 ho3 hap3; have hnw := hap3.new HO2.out.2.1 HO2.out.2.2; have HS3 := ro_setL (ls2 := raiseL ls k i) HR0.out hnw.2 (by rw [HE.out]; rw [List.append_assoc] at ho3; exact ho3) HN2.out.2.1 (fun b hb => .inr (hnw.1 b hb)) HN2.out.2.2; have b3 := HS3.1; have f3 := HS3.2.1; have HF3 : Hid _ := HS3.2.2; clear HS3 ho3 hap3 hnw) | (at_builtin; refine wpList_app okL rfl _ _ rfl _ _ _ (ls.take t) rfl HC1.out.2.2.1 (HO1.out.1.keepsN ((Keeps.refl _ _).alloc _)) _ _ _ [((k, i) : Mk)] rfl rfl (fun h => by cases h) (own_oneL z1 ((k, i) : Mk)).row HBD.out.2.2.1 HBD.out.2.2.2.1 ?_; intro o2 c2' z2 ho2 hap2; have HO2 : Hid (Own LE z2 o2 c2' (ls.take t ++ [((k, i) : Mk)]) ∧ New w o2 ∧ Keeps no w z2) := ⟨ho2, (hap2.new HO1.out.2.1 (HO1.out.2.2.alloc _)).1, (hap2.new HO1.out.2.1 (HO1.out.2.2.alloc _)).2⟩; have b2 := HO2.out.2.2.cellN b1; clear ho2 hap2) | (at_builtin; refine wpList_app okL rfl _ _ rfl _ _ _ ([] : List Mk) rfl rfl (own_nil _) _ _ _ (ls.take t) rfl HC1.out.2.2.1 HC1.out.1.nil HC1.out.1.row HBD.out.1 HBD.out.2.1 ?_; intro o1 c1' z1 ho1 hap1; have HO1 : Hid (Own LE z1 o1 c1' (ls.take t) ∧ New w o1 ∧ Keeps no w z1) := ⟨ho1, (hap1.new (new_none w) (Keeps.refl no w)).1, (hap1.new (new_none w) (Keeps.refl no w)).2⟩; clear ho1 hap1))
      refine bodyPost_end (results_none rfl _ _ _) rfl ?_
      exact ⟨rfl, ⟨_, _, _, _, _, _, HF3.out.1⟩, keeps_lt HF3.out.2 (fun b hb hc => hc.elim id (fun h => absurd hb (by omega)))⟩
end Go.Proofs.YtdemoghlibnooaaGreatDoor
namespace Go.Proofs.YtdemoghlibnooaaGreatDoor
open Go.RowKit Go.Maps Go.Sort Orl
set_option linter.unusedVariables false
set_option linter.unusedSimpArgs false
theorem Aft.at {B : Nat → Prop} {w wr : World} {p : Nat} {ks : List KV} {ls : List Mk} {w' : World} (hk : Keeps B w wr) (h : Aft (fun b => B b ∨ w.heap.size ≤ b) wr p ks ls w') : Aft B w p ks ls w' := by
  obtain ⟨⟨oK, nK, cK, oL, nL, cL, h1⟩, h2⟩ := h
  refine ⟨⟨oK, nK, cK, oL, nL, cL, h1.mono (fun b hb => ?_)⟩, hk.then h2 (fun b hb => hb)⟩
  rcases hb with hb | hb
  · exact hb
  · exact .inr (Nat.le_trans hk.size hb)
theorem raiseL_len (ls : List Mk) (k : Tx) (i : Nat) : (raiseL ls k i).length ≤ ls.length + 1 := by
  unfold raiseL
  split
  · rw [List.length_set]; omega
  · unfold insL
    have := rpos_le' ls k
    simp only [List.length_append, List.length_cons, List.length_take, List.length_drop]
    omega
theorem stepL_len (i : Nat) (ls : List Mk) (x : KV) : (stepL i ls x).length ≤ ls.length + 1 := by
  unfold stepL
  split
  · exact raiseL_len _ _ _
  · omega
theorem foldL_len (i : Nat) : ∀ (ks : List KV) (ls : List Mk), (ks.foldl (stepL i) ls).length ≤ ls.length + ks.length
  | [], ls => by simp
  | x :: r, ls => by
    have h1 := foldL_len i r (stepL i ls x)
    have h2 := stepL_len i ls x
    simp only [List.foldl_cons, List.length_cons]
    omega
theorem foldL_succ (i : Nat) (ks : List KV) (ls : List Mk) (t : Nat) (ht : t < ks.length) : (ks.take (t + 1)).foldl (stepL i) ls = stepL i ((ks.take t).foldl (stepL i) ls) (ks.getD t kv0) := by
  rw [take_succ_getD ks t kv0 ht, List.foldl_append]; rfl
theorem ro_stamp {B : Nat → Prop} {w : World} {p : Nat} {oK : Option Addr} {nK cK : Nat} {oL : Option Addr} {nL cL : Nat} {ks : List KV} {ls : List Mk} (h : RO B w p oK nK cK oL nL cL ks ls) {R : Nat} (hR : R < ks.length) (z : Int) {g off : Nat} (ho : oK = some ⟨g, off, none⟩) :
    off = 0 ∧ w.frozen? ⟨g, R * 5 + 4, none⟩ = false ∧ RO B (w.setCell ⟨g, R * 5 + 4, none⟩ (.int .i64 z)) p oK nK cK oL nL cL (ks.set R { ks.getD R kv0 with stamp := z }) ls ∧ Keeps B w (w.setCell ⟨g, R * 5 + 4, none⟩ (.int .i64 z)) := by
  rcases h.k.shape with ⟨_, _, e'⟩ | ⟨g', cur, hoK, hg, hc, hm, hs, ht⟩
  · rw [e'] at hR; simp at hR
  · rw [hoK] at ho
    injection ho with ho
    injection ho with e1 e2
    subst e1 e2 hoK
    have hkg : Keeps (eqA g') w (w.setCell ⟨g', R * 5 + 4, none⟩ (.int .i64 z)) := (Keeps.refl _ _).setA _ _
    have hown : Own KE (w.setCell ⟨g', R * 5 + 4, none⟩ (.int .i64 z)) (some ⟨g', 0, none⟩) cK (ks.set R { ks.getD R kv0 with stamp := z }) := by
      refine own_of_shape okK (blk_set hg _ _) (by simpa using hc) hm (by simp [hs]) ?_
      rw [cells_setc2 okK 4 (.int .i64 z) { ks.getD R kv0 with stamp := z } (by decide) ks R kv0 hR rfl]
      simp only [Array.toList_setIfInBounds, List.length_set]
      rw [List.take_set, ht]
      rfl
    have hne : ∀ {o : Option Addr} {c : Nat} {ys : List Tx}, Own TE w o c ys → Own TE (w.setCell ⟨g', R * 5 + 4, none⟩ (.int .i64 z)) o c ys := fun hh => hh.keeps hkg (fun b q1 e => own_ne hh hg (by decide) b q1 e)
    have hpg : p ≠ g' := fun e => by
      have := h.b
      rw [e, hg] at this
      injection this with this
      injection this with _ this _
      cases this
    have hmem : ∀ x ∈ ks.set R { ks.getD R kv0 with stamp := z }, ∃ y ∈ ks, x.o = y.o ∧ x.c = y.c ∧ x.keys = y.keys := fun x hx => by
      rcases List.mem_or_eq_of_mem_set hx with hx | hx
      · exact ⟨x, hx, rfl, rfl, rfl⟩
      · exact ⟨_, getD_mem_lt kv0 hR, by rw [hx], by rw [hx], by rw [hx]⟩
    refine ⟨rfl, frozen_of_blk hg _, ⟨blk_set_ne h.b hpg _, hown, fun x hx => ?_, h.l.keeps hkg (fun b q1 e => own_ne h.l hg (by decide) b q1 e), by rw [List.length_set]; exact h.nk, h.nl, by rw [List.length_set]; exact h.lk, h.ll, h.bp, h.bk, fun x hx => ?_, h.bl⟩, hkg.mono (fun b hb => by have : b = g' := hb; rw [this]; exact h.bk g' ⟨_, rfl, rfl⟩)⟩
    · obtain ⟨y, hy, q1, q2, q3⟩ := hmem x hx
      rw [q1, q2, q3]; exact hne (h.key y hy)
    · obtain ⟨y, hy, q1, q2, q3⟩ := hmem x hx
      rw [q1]; exact h.bt y hy
def stT (ks : List KV) (f : KV → KV) (t : Nat) : List KV := (ks.take t).map f ++ ks.drop t
theorem stT_len (ks : List KV) (f : KV → KV) (t : Nat) : (stT ks f t).length = ks.length := by
  unfold stT
  simp only [List.length_append, List.length_map, List.length_take, List.length_drop]
  omega
theorem stT_at (ks : List KV) (f : KV → KV) (t : Nat) (ht : t < ks.length) : (stT ks f t).getD t kv0 = ks.getD t kv0 := by
  unfold stT
  rw [getD_app2, List.length_map, List.length_take, Nat.min_eq_left (Nat.le_of_lt ht), if_neg (Nat.lt_irrefl t), Nat.sub_self]
  rw [List.drop_eq_getElem_cons ht]
  simp [List.getD_eq_getElem?_getD, ht]
theorem stT_succ (ks : List KV) (f : KV → KV) (t : Nat) (ht : t < ks.length) : stT ks f (t + 1) = (stT ks f t).set t (f (ks.getD t kv0)) := by
  unfold stT
  have hl : ((ks.take t).map f).length = t := by rw [List.length_map, List.length_take]; omega
  rw [List.set_append_right _ _ (by omega), hl, Nat.sub_self, List.drop_eq_getElem_cons ht, List.set_cons_zero, take_succ_getD ks t kv0 ht, List.map_append, List.append_assoc]
  rfl
theorem stT_same (ks : List KV) (f : KV → KV) (t : Nat) (ht : t < ks.length) (he : f (ks.getD t kv0) = ks.getD t kv0) : stT ks f (t + 1) = stT ks f t := by
  rw [stT_succ ks f t ht, he]
  refine set_same _ _ _ ?_
  have h1 := stT_at ks f t ht
  have hl : t < (stT ks f t).length := by rw [stT_len]; exact ht
  rw [List.getD_eq_getElem?_getD, List.getElem?_eq_getElem hl] at h1
  rw [List.getElem?_eq_getElem hl]
  exact congrArg some h1
set_option maxRecDepth 10000 in
set_option maxHeartbeats 2000000 in
theorem rCommit_good (B : Nat → Prop) (w : World) (p : Nat) (oK : Option Addr) (nK cK : Nat) (oL : Option Addr) (nL cL : Nat) (ks : List KV) (ls : List Mk) (h : RO B w p oK nK cK oL nL cL ks ls) (i : Nat) (now : Int) (hok : (decide (65536 ≤ i) && tickB now) = true) (hb : ls.length + ks.length ≤ 1000000000) :
    Calls Tryz.prog 31 #[.pointer (some ⟨p, 0, none⟩), .int .u64 ((i : Nat) : Int), .int .i64 now] w fun e w' => e = .returned (.tuple #[.int .i64 ((hasC ks i : Nat) : Int), .int .i64 0]) ∧ Hid (Aft B w p (ks.map (stampK (ks.foldl (stepL i) ls) now)) (ks.foldl (stepL i) ls) w') := by
  have h1 := refID_any w i
  have h2 := fun X => rtick_any X now
  simp only [Bool.and_eq_true] at hok
  rw [hok.1] at h1
  rw [hok.2] at h2
  have HB : Hid (ls.length + ks.length ≤ 1000000000 ∧ nK = ks.length) := ⟨hb, h.nk⟩
  have H0 : Hid (Aft B w p ks ls w) := ⟨⟨oK, nK, cK, oL, nL, cL, h.mono (fun b hb => .inl hb)⟩, Keeps.refl _ _⟩
  have hA : (nK : Int) ≤ 1000000000 := by have := h.nk; omega
  clear h hok hb
  go_enter Tryz.func31, Tryz.ntmps31
  go_wp2_with fail
  refine h1.mono ?_
  rintro e w1 ⟨rfl, hw⟩
  subst w1
  go_wp2_with fail
  refine (h2 _).mono ?_
  rintro e w1 ⟨rfl, hw⟩
  subst w1
  clear h1 h2
  go_wp2_with fail
  go_loopw [8, 9, 10] (fun zn z _ wr => ∃ t n : Nat, t ≤ nK ∧ z = .int .i64 t ∧ zn = .int .i64 n ∧ (n : Int) ≤ t ∧ Hid (Aft B w p ks ((ks.take t).foldl (stepL i) ls) wr ∧ n = hasC (ks.take t) i)) (fun _ z _ _ => nK - (intOf z).toNat)
  case atStart => exact ⟨0, 0, by omega, rfl, rfl, by omega, H0.out, rfl⟩
  case round =>
    obtain ⟨t, n, ht, rfl, rfl, hnt, HT⟩ := hrel
    clear H0
    obtain ⟨⟨oK, nK1, cK, oL, nL, cL, hro⟩, hkp⟩ := HT.out.1
    have hnk1 : nK1 = nK := by rw [hro.nk, HB.out.2]
    subst nK1
    have HRO : Hid (RO (fun b => B b ∨ w.heap.size ≤ b) wr p oK nK cK oL nL cL ks ((ks.take t).foldl (stepL i) ls) ∧ Keeps B w wr) := ⟨hro, hkp⟩
    have b0 := cell_of_blk hro.b 0
    by_cases htl : t < nK
    · have htl' : (t : Int) < nK := by omega
      have hta : t < ks.length := by have := HB.out.2; omega
      obtain ⟨g, off, e1, d0, d1, d2, d3, d4⟩ := hro.k.sl.atK hta
      subst e1
      obtain ⟨x, hx⟩ : ∃ x, x = ks.getD t kv0 := ⟨_, rfl⟩
      rw [← hx] at d0 d1 d2 d3 d4
      have HS : Hid (hasC (ks.take (t + 1)) i = n + (if x.m.2 = i then 1 else 0) ∧ (ks.take (t + 1)).foldl (stepL i) ls = stepL i ((ks.take t).foldl (stepL i) ls) x ∧ ((ks.take t).foldl (stepL i) ls).length ≤ 1000000000) := ⟨by rw [hasC_succ ks i t hta, ← hx, ← HT.out.2], by rw [foldL_succ i ks ls t hta, ← hx], by have h1 := foldL_len i (ks.take t) ls; rw [List.length_take] at h1; have := HB.out.1; omega⟩
      obtain ⟨⟨xk, xi⟩, xv, xo, xc, xks, xst⟩ := x
      simp only at d0 d1 d2 d3 d4 HS
      obtain ⟨xn, hxn⟩ : ∃ xn, xn = xks.length := ⟨_, rfl⟩
      rw [← hxn] at d3
      obtain ⟨ls1, hls1⟩ : ∃ ls1, ls1 = (ks.take t).foldl (stepL i) ls := ⟨_, rfl⟩
      rw [← hls1] at HRO HS
      clear hx hta hxn hro hkp hls1 d4
      by_cases hxi : xi = i
      · have hxe : (((xi : Nat) : Int) != ((i : Nat) : Int)) = false := by simp; omega
        have HE : Hid (hasC (ks.take (t + 1)) i = n + 1) := by rw [HS.out.1, if_pos hxi]; exact rfl
        have HXI : Hid (xi = i) := hxi
        clear hxi
        have hla := rLast_any (wr.alloc (.cells #[.string xk, .int .u64 ((xi : Nat) : Int), .string xv, .slice xo xn xc] 112)) p (some ⟨g, off, none⟩) nK cK oL nL cL ks ls1 (HRO.out.1.rd.keepsN ((Keeps.refl no wr).alloc _)) xk
        obtain ⟨L, hL⟩ : ∃ L, lastIn ls1 xk = L := ⟨_, rfl⟩
        have HL : Hid (lastIn ls1 xk = L) := hL
        rw [hL] at hla
        have HVB : Hid ((wr.alloc (.cells #[.string xk, .int .u64 ((xi : Nat) : Int), .string xv, .slice xo xn xc] 112)).heap[wr.heap.size]? = some (.cells #[.string xk, .int .u64 ((xi : Nat) : Int), .string xv, .slice xo xn xc] 112 (0, 0))) := blk_new wr _
        clear hL
        go_wp2_with fail
        refine hla.mono ?_
        rintro e w4 ⟨rfl, hk4⟩
        have HK4 : Hid (Keeps no wr w4) := ((Keeps.refl no wr).alloc _).trans hk4
        obtain ⟨v0, v1, v2, v3⟩ := cells4 (hk4.at HVB.out id)
        clear hla hk4 HVB b0 d0 d1 d2 d3
        by_cases hlt : L < i
        · have hlt' : ((L : Nat) : Int) < ((i : Nat) : Int) := by omega
          have HSL : Hid ((ks.take (t + 1)).foldl (stepL i) ls = raiseL ls1 xk i) := by
            rw [HS.out.2.1]
            unfold stepL
            rw [if_pos ⟨HXI.out, by rw [HL.out]; exact hlt⟩]
            exact rfl
          clear hlt
          go_wp2_with fail
          refine (rraise_any (fun b => B b ∨ w.heap.size ≤ b) w4 p (some ⟨g, off, none⟩) nK cK oL nL cL ks ls1 (HRO.out.1.keepsN HK4.out) xk i HS.out.2.2).mono ?_
          rintro e w5 ⟨rfl, h5⟩
          have H5 : Hid (Aft B w p ks (raiseL ls1 xk i) w5) := Aft.at (HRO.out.2.then HK4.out (fun b hb => hb.elim)) h5.out
          clear h5 v0 v1 v2 v3
          go_wp2_with fail
          go_roundw
          case rel => exact ⟨t + 1, n + 1, by omega, by go_num, by go_num, by omega, by rw [HSL.out]; exact H5.out, HE.out.symm⟩
          case measure => simp [intOf]; omega
        · have hlt' : ¬ ((L : Nat) : Int) < ((i : Nat) : Int) := by omega
          have HSL : Hid ((ks.take (t + 1)).foldl (stepL i) ls = ls1) := by
            rw [HS.out.2.1]
            unfold stepL
            rw [if_neg (fun hh => hlt (by rw [← HL.out]; exact hh.2))]
            exact rfl
          have H5 : Hid (Aft B w p ks ls1 w4) := ⟨⟨_, _, _, _, _, _, HRO.out.1.keepsN HK4.out⟩, HRO.out.2.then HK4.out (fun b hb => hb.elim)⟩
          clear hlt v0 v1 v2 v3
          go_wp2_with fail
          go_roundw
          case rel => exact ⟨t + 1, n + 1, by omega, by go_num, by go_num, by omega, by rw [HSL.out]; exact H5.out, HE.out.symm⟩
          case measure => simp [intOf]; omega
      · have hxe : (((xi : Nat) : Int) != ((i : Nat) : Int)) = true := by simp; omega
        have HE : Hid (hasC (ks.take (t + 1)) i = n) := by rw [HS.out.1, if_neg hxi]; exact rfl
        have HSL : Hid ((ks.take (t + 1)).foldl (stepL i) ls = ls1) := by
          rw [HS.out.2.1]
          unfold stepL
          rw [if_neg (fun hh => hxi hh.1)]
          exact rfl
        have H5 : Hid (Aft B w p ks ls1 (wr.alloc (.cells #[.string xk, .int .u64 ((xi : Nat) : Int), .string xv, .slice xo xn xc] 112))) := ⟨⟨_, _, _, _, _, _, HRO.out.1.keepsN ((Keeps.refl no wr).alloc _)⟩, HRO.out.2.then ((Keeps.refl no wr).alloc _) (fun b hb => hb.elim)⟩
        clear hxi
        go_wp2_with fail
        go_roundw
        case rel => exact ⟨t + 1, n, by omega, by go_num, rfl, by omega, by rw [HSL.out]; exact H5.out, HE.out.symm⟩
        case measure => simp [intOf]; omega
    · have htl' : ¬ (t : Int) < nK := by omega
      have e : ks.take t = ks := List.take_of_length_le (by have := HB.out.2; omega)
      obtain ⟨ls1, hls1⟩ : ∃ ls1, ls1 = ks.foldl (stepL i) ls := ⟨_, rfl⟩
      have HL1 : Hid (ks.foldl (stepL i) ls = ls1 ∧ n = hasC ks i ∧ Aft B w p ks ls1 wr) := by
        have h1 := HT.out
        rw [e, ← hls1] at h1
        exact ⟨hls1.symm, h1.2, h1.1⟩
      clear e hls1 HT HRO hro hkp
      rename World => wx
      go_wp2_with fail
      go_loopw [11] (fun z wr => ∃ q : Nat, q ≤ nK ∧ z = .int .i64 q ∧ Hid (Aft B w p (stT ks (stampK ls1 now) q) ls1 wr)) (fun z _ => nK - (intOf z).toNat)
      case atStart => exact ⟨0, by omega, rfl, HL1.out.2.2⟩
      case round =>
        obtain ⟨q, hq, rfl, HT⟩ := hrel
        clear b0
        obtain ⟨⟨oK, nK1, cK, oL, nL, cL, hro⟩, hkp⟩ := HT.out
        have hnk1 : nK1 = nK := by rw [hro.nk, stT_len, HB.out.2]
        subst nK1
        have HRO : Hid (RO (fun b => B b ∨ w.heap.size ≤ b) wr p oK nK cK oL nL cL (stT ks (stampK ls1 now) q) ls1 ∧ Keeps B w wr) := ⟨hro, hkp⟩
        have b0 := cell_of_blk hro.b 0
        by_cases hql : q < nK
        · have hql' : (q : Int) < nK := by omega
          have hqa : q < ks.length := by have := HB.out.2; omega
          have hqb : q < (stT ks (stampK ls1 now) q).length := by rw [stT_len]; exact hqa
          obtain ⟨g, off, e1, d0, d1, d2, d3, d4⟩ := hro.k.sl.atK hqb
          obtain ⟨hoff, hfz, hro2, hkp2⟩ := ro_stamp hro hqb now e1
          subst e1
          subst hoff
          rw [stT_at _ _ _ hqa] at d0 d1 d2 d3 d4
          obtain ⟨x, hx⟩ : ∃ x, x = ks.getD q kv0 := ⟨_, rfl⟩
          rw [← hx] at d0 d1 d2 d3 d4
          have HX : Hid (x = ks.getD q kv0 ∧ q < ks.length) := ⟨hx, hqa⟩
          obtain ⟨⟨xk, xi⟩, xv, xo, xc, xks, xst⟩ := x
          simp only [Nat.zero_add] at d0 d1 d2 d3 d4
          clear hx hqa hqb hro hkp hro2 hkp2 hfz d2 d3
          obtain ⟨L, hL⟩ : ∃ L, lastIn ls1 xk = L := ⟨_, rfl⟩
          have HL : Hid (lastIn ls1 xk = L) := hL
          have cS := call_grown (W := wr) (f := 69) (args := #[.pointer (some ⟨p, 0, none⟩), .string xk]) (v := .int .u64 ((L : Nat) : Int)) (fun X hX => by rw [← hL]; exact rLast_any X p _ nK cK oL nL cL _ ls1 (HRO.out.1.rd.keepsN hX) xk)
          have y0 := cell_regrown b0
          have z0 := cell_regrown d0
          have z1 := cell_regrown d1
          have z4 := cell_regrown d4
          clear hL
          by_cases hst : xst = -1
          · have hst' : (xst == -1) = true := by simpa using hst
            by_cases hlt : xi < L
            · have hlt' : ((xi : Nat) : Int) < ((L : Nat) : Int) := by omega
              have hld : decide (((xi : Nat) : Int) < ((L : Nat) : Int)) = true := decide_eq_true hlt'
              have HE : Hid (stT ks (stampK ls1 now) (q + 1) = (stT ks (stampK ls1 now) q).set q { (stT ks (stampK ls1 now) q).getD q kv0 with stamp := now }) := by
                rw [stT_succ _ _ _ HX.out.2, stT_at _ _ _ HX.out.2, ← HX.out.1]
                unfold stampK
                rw [if_pos ⟨hst, by show xi < lastIn ls1 xk; rw [HL.out]; exact hlt⟩]
                exact rfl
              clear hst hlt
              go_wp2_with fail
              refine wp_region_quiet_below (by kernel_rfl) (by kernel_rfl) ?_
              repeat (go_big_quiet_step (exact cS _ _))
              refine wpQuiet_nil ?_
              intro _ hw'
              obtain ⟨⟨dq, osq⟩, rfl⟩ := hw'
              have HKq : Hid (Keeps no wr (Sort.grow (redrawn wr dq) osq)) := keeps_grownQ ..
              generalize Sort.grow (redrawn wr dq) osq = w2 at HKq ⊢
              clear cS
              have hqb : q < (stT ks (stampK ls1 now) q).length := by rw [stT_len]; exact HX.out.2
              obtain ⟨_, hfz, hro2, hkp2⟩ := ro_stamp (HRO.out.1.keepsN HKq.out) hqb now rfl
              have c4 := HKq.out.cellN d4
              have c0 := HKq.out.cellN b0
              have HF : Hid (Aft B w p (stT ks (stampK ls1 now) (q + 1)) ls1 (w2.setCell ⟨g, q * 5 + 4, none⟩ (.int .i64 now))) := ⟨⟨_, _, _, _, _, _, by rw [HE.out]; exact hro2⟩, (HRO.out.2.then HKq.out (fun b hb => hb.elim)).then hkp2 (fun b hb => hb)⟩
              clear hro2 hkp2 hqb y0 z0 z1 z4 b0 d0 d1 d4
              go_wp2_with fail
              go_roundw
              case rel => exact ⟨q + 1, by omega, by go_num, HF.out⟩
              case measure => simp [intOf]; omega
            · have hlt' : ¬ ((xi : Nat) : Int) < ((L : Nat) : Int) := by omega
              have hld : decide (((xi : Nat) : Int) < ((L : Nat) : Int)) = false := decide_eq_false hlt'
              have HE : Hid (stT ks (stampK ls1 now) (q + 1) = stT ks (stampK ls1 now) q) := by
                refine stT_same _ _ _ HX.out.2 ?_
                rw [← HX.out.1]
                unfold stampK
                rw [if_neg (fun hh => hlt (by rw [← HL.out]; exact hh.2))]
              clear hst hlt
              go_wp2_with fail
              refine wp_region_quiet_below (by kernel_rfl) (by kernel_rfl) ?_
              repeat (go_big_quiet_step (exact cS _ _))
              refine wpQuiet_nil ?_
              intro _ hw'
              obtain ⟨⟨dq, osq⟩, rfl⟩ := hw'
              have HKq : Hid (Keeps no wr (Sort.grow (redrawn wr dq) osq)) := keeps_grownQ ..
              generalize Sort.grow (redrawn wr dq) osq = w2 at HKq ⊢
              clear cS
              have HF : Hid (Aft B w p (stT ks (stampK ls1 now) (q + 1)) ls1 w2) := by rw [HE.out]; exact HT.out.go HKq.out
              clear y0 z0 z1 z4 b0 d0 d1 d4
              go_wp2_with fail
              go_roundw
              case rel => exact ⟨q + 1, by omega, by go_num, HF.out⟩
              case measure => simp [intOf]; omega
          · have hst' : (xst == -1) = false := by simpa using hst
            have HE : Hid (stT ks (stampK ls1 now) (q + 1) = stT ks (stampK ls1 now) q) := by
              refine stT_same _ _ _ HX.out.2 ?_
              rw [← HX.out.1]
              unfold stampK
              rw [if_neg (fun hh => hst hh.1)]
            clear hst
            go_wp2_with fail
            refine wp_region_quiet_below (by kernel_rfl) (by kernel_rfl) ?_
            repeat (go_big_quiet_step (exact cS _ _))
            refine wpQuiet_nil ?_
            intro _ hw'
            obtain ⟨⟨dq, osq⟩, rfl⟩ := hw'
            have HKq : Hid (Keeps no wr (Sort.grow (redrawn wr dq) osq)) := keeps_grownQ ..
            generalize Sort.grow (redrawn wr dq) osq = w2 at HKq ⊢
            clear cS
            have HF : Hid (Aft B w p (stT ks (stampK ls1 now) (q + 1)) ls1 w2) := by rw [HE.out]; exact HT.out.go HKq.out
            clear y0 z0 z1 z4 b0 d0 d1 d4
            go_wp2_with fail
            go_roundw
            case rel => exact ⟨q + 1, by omega, by go_num, HF.out⟩
            case measure => simp [intOf]; omega
        · have hql' : ¬ (q : Int) < nK := by omega
          have e : stT ks (stampK ls1 now) q = ks.map (stampK ls1 now) := by
            unfold stT
            rw [List.take_of_length_le (by have := HB.out.2; omega), List.drop_eq_nil_of_le (by have := HB.out.2; omega), List.append_nil]
          have HF : Hid (Aft B w p (ks.map (stampK (ks.foldl (stepL i) ls) now)) (ks.foldl (stepL i) ls) wr) := by rw [HL1.out.1, ← e]; exact HT.out
          clear e hro hkp
          go_wp2_with fail
          go_ret2
          exact ⟨by rw [HL1.out.2.1]; rfl, HF.out⟩
end Go.Proofs.YtdemoghlibnooaaGreatDoor

import Derived.Test.YtdemoghlibnooaaGreatDoorZE
import Derived.Deep.RegionHeld3
import Derived.Deep.CutBlock
import Derived.Deep.CutRange
/- CompactWhole. -/
namespace Go.Proofs.YtdemoghlibnooaaGreatDoor
open Go.RowKit Go.Maps Go.Sort Orl Pk
set_option linter.unusedVariables false
set_option linter.unusedSimpArgs false

theorem stx_newN {w0 w w' : World} {q : Nat} {s : St} {N : Nat} (h : Sto w.heap.size w' q s N no) (hw : w0.heap.size ≤ w.heap.size) : Stx w0 w' q s N (fun b => w.heap.size ≤ b ∧ b < w'.heap.size) := by
  refine ⟨?_, fun b hb => ⟨Nat.le_trans hw hb.1, hb.2⟩⟩
  obtain ⟨T, hi, ho, hB, hP⟩ := h
  refine ⟨T, hi, ho, fun b hb => Nat.le_trans hw (hB b hb), fun b hb => ⟨?_, hb.1⟩⟩
  rcases Nat.lt_or_ge b w.heap.size with h1 | h1
  · cases hT : T b with
    | none => rfl
    | some r => have := hB b (by rw [hT]; simp); omega
  · exact absurd ⟨h1, hb.1⟩ hb.2
/-- behind logging and compaction -/
def Join (w0 : World) (p qa q g : Nat) (us vs : Nat) (full : Bool) (W : World) : Prop :=
  ∃ F t Sa Na A N C g' bs' rs', Two w0 W p F t qa Sa Na A q Sa N C ∧ Md g' bs' rs' t ∧ Gen g' bs' rs' Sa us vs ∧ Nice Sa ∧ Low Sa ∧ Na ≤ us ∧ N ≤ us ∧ (g' = g ∨ (g' = g + 1 ∧ full = false))
theorem full_back {t : Dk.St} (h : t.ref = 0) : ({ Dk.full 1 t with ref := 0 } : Dk.St) = t := by
  obtain ⟨a, b, c, d, e⟩ := t
  simp only at h
  subst h
  rfl
def cv2 (i : Nat) : CV := ⟨2, i, none, 0, 0, none, 0, 0⟩
theorem cv2_isC (W : World) {i : Nat} (hi : i < 18446744073709551616) : IsC W (cv2 i) (cmX i) := ⟨rfl, rfl, rfl, rfl, (own_nil _).sl, (own_nil _).sl, ⟨by simp [cmX], (fun s hs => by cases hs), by simp [cmX], (fun s hs => by cases hs), by simp [cmX], by simp [cmX], hi⟩⟩
theorem do_cm {Sa : St} (h : Low Sa) {i : Nat} (hi : 1048579 < i) : doRec 0 Sa (cmX i) = Sa := by
  unfold doRec cmX
  rw [if_neg (show ¬ (2 : Int) = 1 by decide)]
  exact h.com hi
/-- an op of a round logged, and taken in -/
theorem inn_step {w0 : World} {p qa q l g : Nat} {bs : Option (List UInt8)} {us vs : Nat} {F : Nat → Prop} {t : Dk.St} {Sa : St} {Na : Nat} {A : Nat → Prop} {N : Nat} {C : Nat → Prop} {rs : List Rec} {W : World} (h : Inn w0 p qa q l g bs us vs F t Sa Na A N C rs W) (hg : g < 1000) {r : Rec} (hgd : Gd r) (hvs : vs + (enc r).length ≤ 33554432) : ∃ t', apd (logB g) r t = (t', 0) ∧ Lv g bs (rs ++ [r]) t' ∧ (bsOf (logB g) t).length ≤ 33554432 ∧ (rowb rs).length ≤ 33554432 := by
  have hl := h.gen.lb
  obtain ⟨t', a, b⟩ := h.lv.app hg hgd (by omega)
  exact ⟨t', a, b, by rw [h.lv.bs]; omega, by omega⟩
theorem Sto.ks_le {B : Nat} {w : World} {p : Nat} {s : St} {N : Nat} {P : Nat → Prop} (h : Sto B w p s N P) {ls : List Mk} {ks : List KV} (hT : Tld s ls ks) : ks.length ≤ N := by
  obtain ⟨T, hi, _⟩ := h
  obtain ⟨y, hy⟩ := hi
  have hnd : (ks.map (·.m)).Nodup := inc_nodup swoM hT.inc
  have := List.Nodup.length_le_of_subset (l₂ := y.V.map (·.1)) hnd (fun m hm => by
    obtain ⟨x, hx, rfl⟩ := List.mem_map.1 hm
    have hv := hT.is x hx
    rw [hy.sv] at hv
    cases hf : fnd x.m y.V with
    | none => rw [hf] at hv; cases hv
    | some v => exact List.mem_map.2 ⟨_, fnd_mem hf, rfl⟩)
  have := hy.nv
  simp at *
  omega
theorem i64_and31 (n : Int) : bits .and .i64 n 31 = n % 32 := by
  have h1 : (BitVec.ofInt 64 31).toNat = 2 ^ 5 - 1 := by decide
  have key : (BitVec.ofInt 64 n &&& BitVec.ofInt 64 31).toNat = (n % ((2 ^ 64 : Nat) : Int)).toNat % 2 ^ 5 := by
    rw [BitVec.toNat_and, BitVec.toNat_ofInt, h1, Nat.and_two_pow_sub_one_eq_mod]
  show IntKind.i64.wrap ((BitVec.ofInt 64 n &&& BitVec.ofInt 64 31).toNat : Nat) = n % 32
  rw [key, IntKind.wrap_i64]
  omega
/-- what Run makes of an armed disk -/
inductive ArmE (g : Nat) (Sa : St) (us vs : Nat) (t : Dk.St) (E : Int) : Prop
  | ok (bs' : Option (List UInt8)) (he : E = 0) (hj : JV (g + 1) bs' [] t) (h0 : t.off = false) (hr : t.ref = 0) (hc : Cln g t) (hz : Sz t) (hG : Gen (g + 1) bs' [] Sa us 0)
  | off (g' : Nat) (bs' : Option (List UInt8)) (rs' : List Rec) (he : E = 62) (h0 : t.off = true) (hg : g' = g ∨ g' = g + 1) (hm : Md g' bs' rs' t) (hG : Gen g' bs' rs' Sa us vs)
theorem snof_byt {s : St} {g : Nat} {b : List Nat} (h : SnOf s g b) : ∀ c ∈ b, c < 256 := by
  obtain ⟨ls, ks, _, rfl⟩ := h
  exact snap_lt _ _ _
theorem arm_run {g : Nat} {bs : Option (List UInt8)} {rs : List Rec} {t t9 : Dk.St} {Sa : St} {us vs N : Nat} {z k E : Int} {b : List UInt8} (hL : Lv g bs rs t) (hG : Gen g bs rs Sa us vs) (hn : Nice Sa) (hg : g < 1000) (hN : ∀ ls ks, Tld Sa ls ks → ks.length ≤ N) (hU : N ≤ us) (hU2 : us ≤ 2000000) (hb : LaidB Sa g (Dk.arm z k t) b) (hr : runF b g (Dk.arm z k t) = (t9, E)) : ArmE g Sa us vs t9 E := by
  have hj : JV g bs rs (Dk.arm z k t) := hL.jv.of_fs rfl
  have hc : Cln g (Dk.arm z k t) := hL.cln
  have hz : Sz (Dk.arm z k t) := hL.sz
  by_cases hbeg : (begS g (Dk.arm z k t)).2 = 0
  · obtain ⟨bn, hs, h25, rfl⟩ := hb hbeg
    have hlen : (u8s bn).length ≤ 8000000000 := by rw [u8s_length]; exact hn.len hs hN (by omega)
    have hR := run_armed (b := u8s bn) hj hL.on.off hc hL.ref hz hlen
    have hnx := Gen.next hn hs (snof_byt hs) hg hN hU hU2
    rw [hr] at hR
    generalize hp : (t9, E) = R at hR
    cases hR with
    | ok h h0 hr0 hc0 hz0 => injection hp with h1 h2; subst h1 h2; exact .ok _ rfl h h0 hr0 hc0 hz0 hnx
    | off h h0 hr0 hz0 =>
      injection hp with h1 h2
      subst h1 h2
      rcases h with h | h
      · exact .off g bs rs rfl h0 (.inl rfl) ⟨h, hr0, hz0⟩ hG
      · exact .off (g + 1) _ [] rfl h0 (.inr rfl) ⟨h, hr0, hz0⟩ (hnx.more (Nat.le_refl _) (Nat.zero_le _))
  · have o1 : (Dk.tick (Dk.arm z k t)).off = true := by
      cases o : (Dk.tick (Dk.arm z k t)).off with
      | true => rfl
      | false => rw [beg_cln hc o] at hbeg; exact absurd rfl hbeg
    have e : begS g (Dk.arm z k t) = (Dk.tick (Dk.arm z k t), 62) := by unfold begS; rw [o1]; rfl
    have n62 : (62 : Int) ≠ 0 := by decide
    have h2 : runF b g (Dk.arm z k t) = (Dk.tick (Dk.arm z k t), 62) := by unfold runF runS; rw [e, bnd_bad n62, bnd_bad n62, bnd_bad n62]
    rw [h2] at hr
    injection hr with h3 h4
    subst h3 h4
    exact .off g bs rs rfl o1 (.inl rfl) ⟨hj.tick, by rw [tickR]; exact hL.ref, hz.tick⟩ hG
set_option maxRecDepth 10000 in
set_option maxHeartbeats 4000000 in
theorem whole_any (w : World) (ht : Tabs w) (a : Option Addr) (n c : Nat) (xs : List RV) (hn : n = xs.length) (hs : Sl RE w a c xs) (hok : ∀ x ∈ xs, RVok w x) (hb : (xs.map wtR).sum ≤ 1048576) (hn2 : (n : Int) ≤ 1048576) :
    Calls Tryz.prog 4 #[.slice a n c] w fun e w' => e = .returned (.bool true) ∧ Keeps no w w' := by
  have HT : Hid (Tabs w) := ht
  have HX : Hid (n = xs.length ∧ Sl RE w a c xs ∧ (∀ x ∈ xs, RVok w x) ∧ (xs.map wtR).sum ≤ 1048576) := ⟨hn, hs, hok, hb⟩
  clear ht hn hs hok hb
  go_enter Tryz.func4, Tryz.ntmps4
  go_wp2_with fail
  refine (alive_any w HT.out).mono ?_
  rintro e w1 ⟨rfl, hk1⟩
  have K1 : Hid (Keeps no w w1) := hk1
  have HT1 : Hid (Tabs w1) := HT.out.keepsN hk1
  clear hk1
  go_wp2_with fail
  refine (dn_newZ w1).mono ?_
  rintro e w2 ⟨p, rfl, D2⟩
  obtain ⟨F0, hF0⟩ : ∃ F : Nat → Prop, F = (fun k => w1.heap.size ≤ k ∧ k < w2.heap.size) := ⟨_, rfl⟩
  have HF0 : Hid (∀ k, F0 k → w1.heap.size ≤ k ∧ k < w2.heap.size) := fun k hk => by rw [hF0] at hk; exact hk
  rw [← hF0] at D2
  clear hF0
  go_wp2_with fail
  refine (sto_new w2).mono ?_
  rintro e w3 ⟨qa, rfl, H3⟩
  have HR : Hid (Rnd w1 p qa 0 0 w3) := by
    refine ⟨F0, Dk.new, St.new, 0, _, 0, none, [], ⟨D2.out.beside H3.out.2, stx_newN H3.out.1 D2.out.kept.size, fun b hb ha => ?_⟩, lv_new, gen_new, nice_new, low_new, Nat.le_refl _, Nat.le_refl _⟩
    have := (HF0.out b hb).2
    have := ha.1
    omega
  clear H3 D2 HF0 HT
  go_wp2_with fail
  go_loopw [5, 6, 7, 8, 9, 10, 11, 12, 13, 14, 15, 16, 17, 18, 19, 20, 21, 22, 23, 24, 25, 26] (fun s5 _ _ _ _ _ _ _ _ _ _ _ _ _ _ _ _ _ _ _ _ _ wr => ∃ i : Nat, i ≤ 12 ∧ i ≤ n ∧ s5 = .int .i64 i ∧ Hid (Rnd w1 p qa ((xs.take i).map wtR).sum i wr)) (fun s5 _ _ _ _ _ _ _ _ _ _ _ _ _ _ _ _ _ _ _ _ _ _ => 12 - (intOf s5).toNat)
  case atStart => exact ⟨0, by omega, by omega, rfl, HR⟩
  case round =>
    obtain ⟨i, hi12, hin, rfl, HRi⟩ := hrel
    rename World => wq
    clear HR
    by_cases hlt : i < n
    case neg =>
      have hlt' : ¬ (i : Int) < n := by omega
      go_wp2_with fail
      go_ret
      obtain ⟨F, t, Sa, Na, A, g, bs, rs, hO, _⟩ := HRi.out
      exact ⟨rfl, K1.out.trans hO.dn.kept⟩
    by_cases hlt2 : i < 12
    case neg =>
      have hlt' : (i : Int) < n := by omega
      have hlt3 : ¬ (i : Int) < 12 := by omega
      go_wp2_with fail
      go_ret
      obtain ⟨F, t, Sa, Na, A, g, bs, rs, hO, _⟩ := HRi.out
      exact ⟨rfl, K1.out.trans hO.dn.kept⟩
    have hlt' : (i : Int) < n := by omega
    have hlt3 : (i : Int) < 12 := by omega
    have hil : i < xs.length := by have := HX.out.1; omega
    obtain ⟨us, hus⟩ : ∃ us, us = ((xs.take i).map wtR).sum := ⟨_, rfl⟩
    obtain ⟨x, hx⟩ : ∃ x, x = xs.getD i rv0 := ⟨_, rfl⟩
    have hxm : x ∈ xs := by rw [hx, getD_in hil]; exact List.getElem_mem hil
    have HXR : Hid (RVok w x) := HX.out.2.2.1 x hxm
    have HUS : Hid (((xs.take (i + 1)).map wtR).sum = us + wtR x ∧ us + wtR x ≤ 1048576) := by
      have h1 := sum_take wtR rv0 xs i hil
      have h2 := sum_le wtR xs (i + 1)
      rw [← hus, ← hx] at h1
      exact ⟨h1, by have := HX.out.2.2.2; omega⟩
    rw [← hus] at HRi
    have HCX : Hid (∀ W, Keeps no w1 W → ∃ b off, a = some ⟨b, off, none⟩ ∧ W.cell? ⟨b, off + i * 4, none⟩ = some (.slice x.o x.n x.c) ∧ W.cell? ⟨b, off + i * 4 + 1, none⟩ = some (.int .i64 x.arm) ∧ W.cell? ⟨b, off + i * 4 + 2, none⟩ = some (.int .i64 x.keep) ∧ W.cell? ⟨b, off + i * 4 + 3, none⟩ = some (.bool x.full)) := fun W hW => by
      have := atR (HX.out.2.1.keepsN (K1.out.trans hW)) hil
      rw [← hx] at this
      exact this
    obtain ⟨xo, xn, xc, xarm, xkeep, xfull, xops⟩ := x
    simp only at HCX
    have hxn : Hid (xn = xops.length) := HXR.out.n
    have hxb : (xn : Int) ≤ 1048576 := by
      have h1 := HXR.out.wt
      have h2 : xops.length ≤ (xops.map wtO).sum := len_le_sum xops
      have h3 := hxn.out
      unfold wtR at h1
      simp only at h1
      omega
    clear hx hxm hil hus hlt hlt2
    -- Open
    obtain ⟨F, t, Sa, Na, A, g, bs, rs, hO, hLv, hGen, hNi, hLow, hNa, hgi⟩ := HRi.out
    obtain ⟨t', hB, hLv', hNv⟩ := hLv.boot hGen
    have hbt := dn_boot hO.dn HT1.out hLv.sz (by decide) hB
    have HO : Hid (Obs w1 wq p F t qa Sa Na A ∧ Lv g bs rs t' ∧ Gen g bs rs Sa us (19 * us + 17 * i) ∧ Nice Sa ∧ Low Sa ∧ Na ≤ us ∧ (∀ N, NvB t N → N ≤ us)) := ⟨hO, hLv', hGen, hNi, hLow, hNa, hNv⟩
    have hg12 : g < 1000 := by omega
    have Hgi : Hid (g ≤ i) := hgi
    clear hO hLv hB hLv' hGen hNi hLow hNa hNv hgi HRi
    go_wp2_with fail
    refine hbt.mono ?_
    rintro e w4 ⟨q, l, rfl, HL4, HS4, HD4, HK4⟩
    clear hbt
    obtain ⟨N, hIn⟩ := rnd_boot HO.out.1 HO.out.2.1 HO.out.2.2.1 HO.out.2.2.2.1 HO.out.2.2.2.2.1 HO.out.2.2.2.2.2.1 HL4.out HS4.out HO.out.2.2.2.2.2.2 HD4.out HK4.out
    have HIn : Hid (Inn w1 p qa q l g bs us (19 * us + 17 * i) F t' Sa Na A N (fun b => wq.heap.size ≤ b ∧ b < w4.heap.size ∧ b ≠ l) rs w4) := hIn
    clear hIn HL4 HS4 HD4 HK4 HO
    have hhd := holds_any HIn.out.two.st.1 HIn.out.two.ob.all.1 (by have := HIn.out.n; have := HUS.out.2; omega) (by have := HIn.out.na; have := HUS.out.2; omega)
    go_wp2_with (first | (go_at_call 14; refine hhd.mono ?_; rintro e w5 ⟨rfl, hk5⟩) | fail)
    have HI5 : Hid (InnX w1 p qa q l g bs us (19 * us + 17 * i) w5) := ⟨_, _, _, _, _, _, _, _, HIn.out.keepsN hk5⟩
    clear hhd HIn hk5
    -- the ops
    go_loopw [10, 11, 12] (fun s10 _ _ wr => ∃ k : Nat, k ≤ xn ∧ s10 = .int .i64 k ∧ Hid (InnX w1 p qa q l g bs (us + ((xops.take k).map wtO).sum) (19 * (us + ((xops.take k).map wtO).sum) + 17 * i) wr)) (fun s10 _ _ _ => xn - (intOf s10).toNat)
    case atStart => exact ⟨0, by omega, rfl, by show InnX _ _ _ _ _ _ _ _ _ _; simpa using HI5.out⟩
    case round =>
      obtain ⟨k, hk, rfl, HIk⟩ := hrel
      rename World => wk
      clear HI5
      obtain ⟨F, t, Sa, Na, A, N, C, rs, hI⟩ := HIk.out
      have HI : Hid (Inn w1 p qa q l g bs (us + ((xops.take k).map wtO).sum) (19 * (us + ((xops.take k).map wtO).sum) + 17 * i) F t Sa Na A N C rs wk) := hI
      clear HIk hI
      obtain ⟨b1, off1, e1, c0, c1, c2, c3⟩ := HCX.out wk HI.out.two.ob.dn.kept
      subst e1
      clear c1 c2 c3
      by_cases h2 : k < xn
      · as_aux_lemma =>
        have h2' : (k : Int) < xn := by omega
        have hkl : k < xops.length := by have := hxn.out; omega
        obtain ⟨y, hy⟩ : ∃ y, y = xops.getD k ov0 := ⟨_, rfl⟩
        have hym : y ∈ xops := by rw [hy, getD_in hkl]; exact List.getElem_mem hkl
        have hyok : OVok y := HXR.out.ok y hym
        obtain ⟨ut, hut⟩ : ∃ ut, ut = us + ((xops.take k).map wtO).sum := ⟨_, rfl⟩
        have HST : Hid (us + ((xops.take (k + 1)).map wtO).sum = ut + wtO y ∧ ut + wtO y ≤ 1048576) := by
          have h1 := sum_take wtO ov0 xops k hkl
          have h3 := sum_le wtO xops (k + 1)
          rw [← hy] at h1
          have h4 := HUS.out.2
          unfold wtR at h4
          simp only at h4
          exact ⟨by omega, by omega⟩
        obtain ⟨b2, off2, e2, d0, d1, d2, d3, d4⟩ := atO (HXR.out.s.keepsN (K1.out.trans HI.out.two.ob.dn.kept)) hkl
        have e2 : xo = some ⟨b2, off2, none⟩ := e2
        rw [← hy] at d0 d1 d2 d3 d4
        rw [← hut] at HI
        have hrec := record_any wk y hyok
        unfold OV.val at hrec
        clear hy hym hkl hyok hut
        have c0' : wk.cell? ⟨b1, off1 + i * 4, none⟩ = some (.slice (some ⟨b2, off2, none⟩) xn xc) := by rw [c0, e2]
        clear c0 e2
        go_wp2_with fail
        refine hrec.mono ?_
        rintro e w6 ⟨⟨vk, vi, vop, vnp, vcp, vok, vnk, vck⟩, rfl, HG, K6⟩
        simp only at HG ⊢
        clear hrec c0' d0 d1 d2 d3 d4
        cases hz : opIs y with
        | false =>
          have HR6 : Hid (∀ X, Keeps no wk X → InnX w1 p qa q l g bs (ut + wtO y) (19 * (ut + wtO y) + 17 * i) X) := fun X hX => by
            have h := HI.out.keepsN hX
            exact ⟨_, _, _, _, _, _, _, _, h.two, h.lo, h.lv, h.gen.more (by omega) (by omega), h.nice, h.low, Nat.le_trans h.na (by omega), Nat.le_trans h.n (by omega)⟩
          have KA : Hid (Keeps no wk (w6.alloc (.cells #[.int .i64 vk, .int .u64 (vi : Nat), .slice vop vnp vcp, .slice vok vnk vck] 47))) := K6.out.alloc _
          clear HI hz
          go_wp2_with fail
          go_roundw
          case rel =>
            refine ⟨k + 1, by omega, by go_num, ?_⟩
            rw [HST.out.1]
            exact HR6.out _ KA.out
          case measure => simp [intOf]; omega
        | true =>
          have hgd := opRec_gd y hz
          have hpr := opRec_pairs y
          have henc := opRec_enc y
          have hwt := opRec_wt y
          have htiny := opRec_tiny y
          have hidl : (opRec y).id ≤ 1048579 := by rw [opRec_id]; exact (idn_le _).2
          obtain ⟨r, hr⟩ : ∃ r, r = opRec y := ⟨_, rfl⟩
          rw [← hr] at HG hgd hpr henc hwt htiny hidl
          have HRC : Hid (Gd r ∧ r.pairs.length ≤ 6 ∧ (enc r).length ≤ 19 * wtO y ∧ r.pairs.length ≤ wtO y ∧ TinyR r ∧ r.id ≤ 1048579) := ⟨hgd, hpr, henc, hwt, htiny, hidl⟩
          clear hr hgd hpr henc hwt htiny hidl hz
          obtain ⟨W6, hW6⟩ : ∃ W, W = w6.alloc (.cells #[.int .i64 vk, .int .u64 (vi : Nat), .slice vop vnp vcp, .slice vok vnk vck] 47) := ⟨_, rfl⟩
          have KA : Hid (Keeps no wk W6) := by rw [hW6]; exact K6.out.alloc _
          have BA : Hid (W6.heap[w6.heap.size]? = some (.cells #[.int .i64 vk, .int .u64 (vi : Nat), .slice vop vnp vcp, .slice vok vnk vck] 47 (0, 0))) := by rw [hW6]; exact blk_new w6 _
          have HIa : Hid (Inn w1 p qa q l g bs ut (19 * ut + 17 * i) F t Sa Na A N C rs W6) := HI.out.keepsN KA.out
          have HCa : Hid (IsC W6 ⟨vk, vi, vop, vnp, vcp, vok, vnk, vck⟩ r) := by rw [hW6]; exact HG.out.isC.keepsN ((Keeps.refl no _).alloc _)
          have HNw : Hid ((∀ b, inO vop b ∨ inO vok b → wk.heap.size ≤ b) ∧ wk.heap.size ≤ w6.heap.size ∧ l < wk.heap.size ∧ (∀ b, F b → b < wk.heap.size) ∧ ∀ b, C b → b < wk.heap.size) := ⟨fun b hb => by rcases hb with h | h; exact HG.out.pn b h; exact HG.out.kn b h, K6.out.size, HI.out.lo.lt, HI.out.two.ob.dn.is.lt, fun b hb => (HI.out.two.st.2 b hb).2⟩
          obtain ⟨t2, hA, hLv2, hbs, hrb⟩ := inn_step HIa.out hg12 HRC.out.1 (by have := HRC.out.2.2.1; have := HST.out.2; omega)
          have hlg := logged_any HIa.out.two HIa.out.lo HT1.out ⟨vk, vi, vop, vnp, vcp, vok, vnk, vck⟩ r HCa.out (fun b hb => by
              have h1 := HNw.out.1 b hb
              exact ⟨fun hf => by have := HNw.out.2.2.2.1 b hf; omega, fun e => by have := HNw.out.2.2.1; omega⟩) HRC.out.1 HRC.out.2.1 hA (Nat.le_trans (logN_size (by omega) (by omega)) (by omega)) (by omega) (Nat.le_trans hbs (by omega)) (by have := HIa.out.n; have := HST.out.2; omega)
          have HLG : Hid (Calls Tryz.prog 16 #[.pointer (some ⟨l, 0, none⟩), .pointer (some ⟨q, 0, none⟩), .agg #[.int .i64 vk, .int .u64 (vi : Nat), .slice vop vnp vcp, .slice vok vnk vck]] W6 _) := hlg
          rw [hW6] at HLG
          have HL2 : Hid (Lv g bs (rs ++ [r]) t2) := hLv2
          clear hlg hA hLv2 hbs hrb HG
          go_wp2_with fail
          refine Calls.mono HLG.out ?_
          rw [← hW6]
          rintro e w7 ⟨rfl, H7⟩
          clear HLG hW6
          obtain ⟨F7, C7, hL7, hK7⟩ := H7.out
          have H7L : Hid (Lgd w1 w7 p t2 qa Sa Na A q (doRec 0 Sa r) (N + r.pairs.length) l (logN (g : Int)) ((rowb rs).length + (enc r).length) F7 C7 ∧ Keeps (fun b => F b ∨ b = l ∨ C b) W6 w7) := ⟨hL7, hK7⟩
          have hfar : Hid (∀ b, wk.heap.size ≤ b → ¬ (F b ∨ b = l ∨ C b)) := fun b hb hs => by
            have h1 := HNw.out
            rcases hs with h | h | h
            · have := h1.2.2.2.1 b h; omega
            · omega
            · have := h1.2.2.2.2 b h; omega
          have B7 : Hid (w7.heap[w6.heap.size]? = some (.cells #[.int .i64 vk, .int .u64 (vi : Nat), .slice vop vnp vcp, .slice vok vnk vck] 47 (0, 0))) := H7L.out.2.at BA.out (hfar.out _ HNw.out.2.1)
          have HC7 : Hid (IsC w7 ⟨vk, vi, vop, vnp, vcp, vok, vnk, vck⟩ r) := by
            have hc := HCa.out
            exact ⟨hc.k, hc.i, hc.np, hc.nk, hc.prs.keeps H7L.out.2 (fun b hb => hfar.out b (HNw.out.1 b (.inl hb))), hc.kys.keeps H7L.out.2 (fun b hb => hfar.out b (HNw.out.1 b (.inr hb))), hc.fit⟩
          have htk := take_any H7L.out.1.two.ob.all.1 ⟨vk, vi, vop, vnp, vcp, vok, vnk, vck⟩ r HC7.out HRC.out.1.may HRC.out.1.id HRC.out.2.1 (by have := HIa.out.na; have := HST.out.2; omega)
          have HTK : Hid (Calls Tryz.prog 17 #[.pointer (some ⟨qa, 0, none⟩), .agg #[.int .i64 vk, .int .u64 (vi : Nat), .slice vop vnp vcp, .slice vok vnk vck]] w7 (TakeTo w1.heap.size w7 qa (doRec 0 Sa r) (Na + r.pairs.length) (fun b => b < w7.heap.size ∧ ¬ A b))) := htk
          have x0 := cell_of_blk B7.out 0
          have x1 := cell_of_blk B7.out 1
          have x2 := cell_of_blk B7.out 2
          have x3 := cell_of_blk B7.out 3
          clear htk H7 hL7 hK7 BA HCa
          go_wp2_with fail
          refine Calls.mono HTK.out ?_
          rintro e w8 ⟨rfl, H8⟩
          clear HTK x0 x1 x2 x3 B7 HC7 hfar HNw
          have HR8 : Hid (InnX w1 p qa q l g bs (ut + wtO y) (19 * (ut + wtO y) + 17 * i) w8) := by
            obtain ⟨a8, b8⟩ := H7L.out.1.two.alls H8.out.1 H8.out.2
            have h := HIa.out
            have hR := HRC.out
            refine ⟨_, _, _, _, _, _, _, rs ++ [r], a8, ?_, HL2.out, (h.gen.snoc hR.1).more (by omega) (by omega), h.nice.go hR.1.may hR.1.id hR.2.2.2.2.1, h.low.go (fun _ => hR.2.2.2.2.2), by have := h.na; omega, by have := h.n; omega⟩
            have := H7L.out.1.lo.growA b8
            rw [rowb_snoc, List.length_append]
            exact this
          clear H7L H8 HIa HL2 HRC KA
          go_wp2_with fail
          go_roundw
          case rel =>
            refine ⟨k + 1, by omega, by go_num, ?_⟩
            rw [HST.out.1]
            exact HR8.out
          case measure => simp [intOf]; omega
      · have h2' : ¬ (k : Int) < xn := by omega
        have ekn : xops.take k = xops := List.take_of_length_le (by have := hxn.out; omega)
        have HI6 : Hid (Inn w1 p qa q l g bs (us + (xops.map wtO).sum) (19 * (us + (xops.map wtO).sum) + 17 * i) F t Sa Na A N C rs wk) := by
          have := HI.out
          rw [ekn] at this
          exact this
        have HUV : Hid (us + (xops.map wtO).sum ≤ 1048576 ∧ ((xs.take (i + 1)).map wtR).sum = us + (xops.map wtO).sum) := ⟨HUS.out.2, HUS.out.1⟩
        obtain ⟨uz, huz⟩ : ∃ uz, uz = us + (xops.map wtO).sum := ⟨_, rfl⟩
        rw [← huz] at HI6 HUV
        clear HI HUS ekn hxn huz
        as_aux_lemma =>
        have HL6 : Hid (Lv g bs rs t) := HI6.out.lv
        have hE6 : Hid (Dk.tick t = t ∧ Dk.listE t = 0 ∧ Dk.listN t = Dk.names t.fs) := ⟨HL6.out.on.tick, by unfold Dk.listE; rw [HL6.out.on.off]; rfl, by unfold Dk.listN; rw [HL6.out.on.off]; rfl⟩
        have hls := list_any wk p F t HI6.out.two.ob.dn.is
        rw [hE6.out.1, hE6.out.2.1, hE6.out.2.2] at hls
        go_wp2_with fail
        refine hls.mono ?_
        rintro e w7 ⟨o7, c7, m7, rfl, hm7, ho7, hw7, hd7, hk7⟩
        clear hls c0
        obtain ⟨L, hL⟩ : ∃ L, L = Dk.names t.fs := ⟨_, rfl⟩
        rw [← hL] at hm7 ho7
        have HN7 : Hid (m7 = L.length ∧ Own TE w7 o7 c7 (L.map mkT) ∧ New wk o7 ∧ L = Dk.names t.fs ∧ L.length ≤ 16) := ⟨hm7.out, ho7, hw7, hL, by rw [hL]; have := hd7.ok.len; unfold Dk.names; rw [List.length_map]; exact this⟩
        have HI7 : Hid (Inn w1 p qa q l g bs uz (19 * uz + 17 * i) F t Sa Na A N C rs w7) := ⟨HI6.out.two.disk1 (HI6.out.two.ob.dn.same hd7 hk7) hk7, HI6.out.lo.growF (fun k hk => .inl hk) hk7, HI6.out.lv, HI6.out.gen, HI6.out.nice, HI6.out.low, HI6.out.na, HI6.out.n⟩
        have HFw : Hid (∀ b, F b → b < wk.heap.size) := HI6.out.two.ob.dn.is.lt
        clear hm7 ho7 hw7 hd7 hk7 hL HI6
        obtain ⟨b3, off3, e3, c0, c1, c2, c3⟩ := HCX.out w7 HI7.out.two.ob.dn.kept
        injection e3 with e3
        injection e3 with e3a e3b
        subst e3a e3b
        clear c0
        go_upto_if 112 with fail
        go_cut [15, 16, 17, 18, 19, 20, 21, 22] from 37 to 278 (fun _ _ _ _ _ _ _ _ wr => Hid (Join w1 p qa q g uz (19 * uz + 17 * (i + 1)) xfull wr))
        case first =>
          as_aux_lemma =>
          cases xfull with
          | true =>
            clear c1 c2 c3
            have hfu := dn_full 1 HI7.out.two.ob.dn (s' := Dk.full 1 t) rfl (by unfold i64; omega)
            go_wp2_with fail
            refine hfu.mono ?_
            rintro e w8 ⟨rfl, D8, K8⟩
            clear hfu
            have HT8 : Hid (Two w1 w8 p F (Dk.full 1 t) qa Sa Na A q Sa N C ∧ Lo w1 w8 l p (logN (g : Int)) (rowb rs).length F A C) := ⟨HI7.out.two.disk1 D8.out K8.out, HI7.out.lo.growF (fun k hk => .inl hk) K8.out⟩
            have hrun := run_any HT8.out.1.ob.dn HT1.out HT8.out.1.st.1 (fun b hb => ⟨HT8.out.1.ob.dn.is.lt b hb, HT8.out.1.fc b hb⟩) (by have := HI7.out.n; have := HUV.out.1; omega) g (by omega)
            go_wp2_with fail
            refine hrun.mono ?_
            rintro e w9 ⟨bb, F9, t9, E9, HB9, HF9, HD9, HE9⟩
            clear hrun
            have hp : t9 = t ∧ E9 = 60 := by
              have onf : On (Dk.full 1 t) := ⟨HL6.out.on.off, HL6.out.on.calls⟩
              have hcl : Cln g (Dk.full 1 t) := HL6.out.cln
              have hbeg := beg_cln hcl (by rw [onf.tick]; exact onf.off)
              obtain ⟨bs', _, h25, hbb⟩ := HB9.out.1 (by rw [hbeg])
              have hrf := run_full (b := bb) (k := 0) (HL6.out.jv.of_fs (s' := Dk.full 1 t) rfl) onf hcl (by rw [hbb, u8s_length]; omega) rfl
              rw [HB9.out.2] at hrf
              injection hrf with h1 h2
              exact ⟨by rw [h1]; exact full_back HL6.out.ref, h2⟩
            have HT9 : Hid (Two w1 w9 p F9 t qa Sa Na A q Sa N C ∧ Lo w1 w9 l p (logN (g : Int)) (rowb rs).length F9 A C) := by
              have hd := HD9.out
              rw [hp.1] at hd
              exact ⟨HT8.out.1.disk hd.1 HF9.out hd.2, HT8.out.2.growF HF9.out hd.2⟩
            have hE9 := hp.2
            subst hE9
            rcases HE9 with ⟨_, rfl⟩ | ⟨h0, _⟩
            case inr => exact absurd h0 (by decide)
            have HKo : Hid (Own TE w9 o7 c7 (L.map mkT) ∧ ∀ k, inO o7 k → ¬ F9 k) := by
              have e1 : ∀ k, inO o7 k → ¬ F k := fun k hk hf => by have := HFw.out k hf; have := HN7.out.2.2.1 k hk; omega
              have h1 := HN7.out.2.1.keeps K8.out e1
              refine ⟨h1.keeps HD9.out.2 e1, fun k hk hf => ?_⟩
              rcases HF9.out k hf with h2 | h2
              · exact e1 k hk h2
              · have := h1.lt k hk; omega
            have hls := list_any w9 p F9 t HT9.out.1.ob.dn.is
            rw [hE6.out.1, hE6.out.2.1, hE6.out.2.2, ← HN7.out.2.2.2.1] at hls
            clear hp HB9 HF9 HD9 HT8 D8 K8
            go_wp2_with fail
            refine hls.mono ?_
            rintro e w10 ⟨o10, c10, m10, rfl, hm10, ho10, hw10, hd10, hk10⟩
            clear hls
            have HT10 : Hid (Two w1 w10 p F9 t qa Sa Na A q Sa N C ∧ Lo w1 w10 l p (logN (g : Int)) (rowb rs).length F9 A C) := ⟨HT9.out.1.disk1 (HT9.out.1.ob.dn.same hd10 hk10) hk10, HT9.out.2.growF (fun k hk => .inl hk) hk10⟩
            have hsm : Calls Tryz.prog 20 #[.slice o7 m7 c7, .slice o10 m10 c10] w10 fun e w' => e = .returned (.bool true) ∧ Keeps no w10 w' :=
              (sameTexts_any w10 o7 m7 c7 o10 m10 c10 (L.map mkT) (L.map mkT) (by rw [List.length_map]; exact HN7.out.1) (by rw [List.length_map]; exact hm10.out) (by rw [List.length_map]; have := HN7.out.2.2.2.2; omega) (by rw [List.length_map]; have := HN7.out.2.2.2.2; omega) (HKo.out.1.keeps hk10 HKo.out.2).sl ho10.sl).mono (fun e w' ⟨⟨B, hB, hB2⟩, hk⟩ => ⟨by rw [hB, hB2.out.2 rfl], hk⟩)
            clear ho10 hw10 hd10 hk10 HT9 HKo hm10
            go_wp2_with (first | (go_at_call 20; refine hsm.mono ?_; rintro e w11 ⟨rfl, hk11⟩) | fail)
            have HT11 : Hid (Two w1 w11 p F9 t qa Sa Na A q Sa N C ∧ Lo w1 w11 l p (logN (g : Int)) (rowb rs).length F9 A C) := ⟨HT10.out.1.keepsN hk11, HT10.out.2.keepsN hk11⟩
            clear hsm hk11 HT10
            have hcg := cmX_gd (i := 1099511627776) (by omega) (by omega)
            have hce := cmX_enc 1099511627776
            have hgl := HI7.out.gen.lb
            obtain ⟨t12, hA, hLv12⟩ := HL6.out.app hg12 hcg (by have := HUV.out.1; omega)
            have hlg := logged_any HT11.out.1 HT11.out.2 HT1.out (cv2 1099511627776) (cmX 1099511627776) (cv2_isC _ (by omega)) (fun b hb => by rcases hb with ⟨_, h, _⟩ | ⟨_, h, _⟩ <;> cases h) hcg (by simp [cmX]) hA (Nat.le_trans (logN_size (by omega) (by omega)) (by omega)) (by have := HUV.out.1; omega) (by show (bsOf (logB (g : Int)) t).length ≤ _; rw [HL6.out.bs]; have := HUV.out.1; omega) (by have := HI7.out.n; have := HUV.out.1; omega)
            rw [do_cm HI7.out.low (by omega)] at hlg
            have HL12 : Hid (Lv g bs (rs ++ [cmX 1099511627776]) t12) := hLv12
            have HGn : Hid (Gen g bs (rs ++ [cmX 1099511627776]) Sa uz (19 * uz + 17 * (i + 1))) := by
              have := HI7.out.gen.snoc hcg
              rw [do_cm HI7.out.low (by omega), hce] at this
              exact this.more (by simp [cmX]) (by omega)
            unfold cv2 at hlg
            simp only at hlg
            clear hcg hce hgl hA hLv12
            go_wp2_with fail
            refine hlg.mono ?_
            rintro e w12 ⟨rfl, H12⟩
            clear hlg
            have HJ : Hid (Join w1 p qa q g uz (19 * uz + 17 * (i + 1)) true w12) := by
              obtain ⟨F12, C12, h12, _⟩ := H12.out
              exact ⟨F12, t12, Sa, Na, A, _, C12, g, bs, _, h12.two, HL12.out.md, HGn.out, HI7.out.nice, HI7.out.low, HI7.out.na, by have := HI7.out.n; simpa [cmX] using this, .inl rfl⟩
            clear H12 HL12 HGn HI7 HL6 HN7 HT11
            go_wp2_with fail
            go_meet
            case rel => exact HJ
          | false =>
            obtain ⟨z, hz, hz0, hz1⟩ : ∃ z : Int, bits .and .i64 xarm 31 = z ∧ 0 ≤ z ∧ z < 32 := ⟨xarm % 32, i64_and31 xarm, by omega, by omega⟩
            have HZ : Hid (i64 z ∧ i64 xkeep) := ⟨by unfold i64; omega, HXR.out.keep⟩
            clear hz0 hz1 c3
            have HSC : Hid (∀ X, Keeps no w1 X → X.cell? ⟨b1, off1 + i * 4 + 1, none⟩ = some (.int .i64 xarm) ∧ X.cell? ⟨b1, off1 + i * 4 + 2, none⟩ = some (.int .i64 xkeep)) := fun X hX => by
              obtain ⟨b4, off4, e4, _, d1, d2, _⟩ := HCX.out X hX
              injection e4 with e4
              injection e4 with e4a e4b
              subst e4a e4b
              exact ⟨d1, d2⟩
            have HDw : Hid (Dn w1 w7.drew p F t) := HI7.out.two.ob.dn.beside (Keeps.refl no w7).drew
            go_upto_region 32 with fail
            go_region_held3 (fun X => X.cell? ⟨b1, off1 + i * 4 + 1, none⟩ = some (.int .i64 xarm) ∧ X.cell? ⟨b1, off1 + i * 4 + 2, none⟩ = some (.int .i64 xkeep)) (first | exact HSC.out _ HI7.out.two.ob.dn.kept | exact HSC.out _ HDw.out.kept | exact HS8.out) ((go_at_call 10; refine (dn_arm z xkeep HDw.out (s' := Dk.arm z xkeep t) rfl HZ.out.1 HZ.out.2).mono ?_; rintro e w8 ⟨rfl, hD8, hk8⟩; have H8 : Hid (Dn w1 w8 p F (Dk.arm z xkeep t) ∧ Keeps F w7 w8) := ⟨hD8, ((Keeps.refl F w7).drew).trans hk8⟩; have HS8 : Hid (w8.cell? ⟨b1, off1 + i * 4 + 1, none⟩ = some (.int .i64 xarm) ∧ w8.cell? ⟨b1, off1 + i * 4 + 2, none⟩ = some (.int .i64 xkeep)) := HSC.out _ hD8.kept; clear hD8 hk8))
            all_goals (try (rename _ ∧ _ => hh; clear hh))
            clear HS8 c1 c2
            have HT8 : Hid (Two w1 w8 p F (Dk.arm z xkeep t) qa Sa Na A q Sa N C) := HI7.out.two.disk1 H8.out.1 H8.out.2
            have hrun := run_any HT8.out.ob.dn HT1.out HT8.out.st.1 (fun b hb => ⟨HT8.out.ob.dn.is.lt b hb, HT8.out.fc b hb⟩) (by have := HI7.out.n; have := HUV.out.1; omega) g (by omega)
            clear H8 HDw HSC hz
            go_wp2_with fail
            refine hrun.mono ?_
            rintro e w9 ⟨bb, F9, t9, E9, HB9, HF9, HD9, HE9⟩
            clear hrun
            have hae := arm_run HL6.out HI7.out.gen HI7.out.nice hg12 (fun ls ks hT => HI7.out.two.st.1.ks_le hT) HI7.out.n (by have := HUV.out.1; omega) HB9.out.1 HB9.out.2
            have HT9 : Hid (Two w1 w9 p F9 t9 qa Sa Na A q Sa N C) := HT8.out.disk HD9.out.1 HF9.out HD9.out.2
            have HW9 : Hid ((∀ b, A b → b < w8.heap.size) ∧ (∀ b, C b → b < w8.heap.size) ∧ w1.heap.size ≤ w8.heap.size) := ⟨fun b hb => (HT8.out.ob.all.2 b hb).2, fun b hb => (HT8.out.st.2 b hb).2, HT8.out.ob.dn.kept.size⟩
            have hia : i64 (-1) ∧ i64 0 := by unfold i64; omega
            have har := dn_arm (-1) 0 HT9.out.ob.dn (s' := Dk.arm (-1) 0 t9) rfl hia.1 hia.2
            have hdn := down_anyW w9 p F9 t9 HT9.out.ob.dn.is
            clear HT8 HB9 HD9 HF9 hia
            cases hae with
            | ok bs' he hj h0 hr hc hz9 hG =>
              subst he
              rcases HE9 with ⟨h, _⟩ | ⟨_, l2, rfl, HL9⟩
              · exact absurd rfl h
              have HP : Hid (JV (g + 1) bs' [] t9 ∧ t9.off = false ∧ t9.ref = 0 ∧ Cln g t9 ∧ Sz t9 ∧ Gen (g + 1) bs' [] Sa uz 0) := ⟨hj, h0, hr, hc, hz9, hG⟩
              have hsz := LogSize_any w9 l2 p (logN ((g + 1 : Nat) : Int)) 0 HL9.out.1
              clear hj hr hc hz9 hG hdn h0
              go_wp2_with (first | (go_at_call 21; refine hsz.mono ?_; rintro e w10 ⟨rfl, hw⟩; subst w10) | fail)
              refine har.mono ?_
              rintro e w10 ⟨rfl, hD10, hk10⟩
              have HT10 : Hid (Two w1 w10 p F9 (Dk.arm (-1) 0 t9) qa Sa Na A q Sa N C) := HT9.out.disk1 hD10 hk10
              have HL10 : Hid (Lo w1 w10 l2 p (logN ((g + 1 : Nat) : Int)) 0 F9 A C) := ⟨HL9.out.1.keeps hk10 HL9.out.2.2, Nat.le_trans HW9.out.2.2 HL9.out.2.1, HL9.out.2.2, fun ha => by have := HW9.out.1 l2 ha; have := HL9.out.2.1; omega, fun ha => by have := HW9.out.2.1 l2 ha; have := HL9.out.2.1; omega⟩
              have hdn := down_anyW w10 p F9 _ HT10.out.ob.dn.is
              rw [show (Dk.arm (-1) 0 t9).off = false from HP.out.2.1] at hdn
              clear har hsz hD10 hk10 HL9 HW9 HT9
              have hcg := cmX_gd (i := 2199023255552) (by omega) (by omega)
              have hce := cmX_enc 2199023255552
              obtain ⟨t12, hA, j12, on12, r12, z12, _⟩ := app_any (g := g + 1) (c := g) (HP.out.1.of_fs (s' := Dk.arm (-1) 0 t9) rfl) ⟨HP.out.2.1, rfl⟩ HP.out.2.2.1 HP.out.2.2.2.1 HP.out.2.2.2.2.1 (by have := Hgi.out; omega) hcg (by rw [hce]; simp [rowb])
              have hbs : (bsOf (logB ((g + 1 : Nat) : Int)) (Dk.arm (-1) 0 t9)).length ≤ 1000000000 := by
                have := (HP.out.1.of_fs (s' := Dk.arm (-1) 0 t9) rfl).lbs
                rw [this]
                simp [rowb, u8s]
              have hlg := logged_any HT10.out HL10.out HT1.out (cv2 2199023255552) (cmX 2199023255552) (cv2_isC _ (by omega)) (fun b hb => by rcases hb with ⟨_, h, _⟩ | ⟨_, h, _⟩ <;> cases h) hcg (by simp [cmX]) hA (Nat.le_trans (logN_size (by omega) (by omega)) (by omega)) (by omega) hbs (by have := HI7.out.n; have := HUV.out.1; omega)
              rw [do_cm HI7.out.low (by omega)] at hlg
              have HGn : Hid (Gen (g + 1) bs' ([] ++ [cmX 2199023255552]) Sa uz (19 * uz + 17 * (i + 1))) := by
                have := HP.out.2.2.2.2.2.snoc hcg
                rw [do_cm HI7.out.low (by omega), hce] at this
                exact this.more (by simp [cmX]) (by omega)
              have HMd : Hid (Md (g + 1) bs' ([] ++ [cmX 2199023255552]) t12) := ⟨j12, r12, z12⟩
              unfold cv2 at hlg
              simp only at hlg
              clear hcg hce hA j12 on12 r12 z12 hbs
              go_wp2_with (first | (go_at_call 12; refine hdn.mono ?_; rintro e w11 ⟨rfl, hw⟩; subst w11) | fail)
              refine hlg.mono ?_
              rintro e w12 ⟨rfl, H12⟩
              clear hlg hdn
              have HJ : Hid (Join w1 p qa q g uz (19 * uz + 17 * (i + 1)) false w12) := by
                obtain ⟨F12, C12, h12, _⟩ := H12.out
                exact ⟨F12, t12, Sa, Na, A, _, C12, g + 1, bs', _, h12.two, HMd.out, HGn.out, HI7.out.nice, HI7.out.low, HI7.out.na, by have := HI7.out.n; simpa [cmX] using this, .inr ⟨rfl, rfl⟩⟩
              clear H12 HMd HGn HI7 HL6 HN7 HT10 HL10 HP
              go_wp2_with fail
              go_meet
              case rel => exact HJ
            | off g' bs' rs' he h0 hgg hm hG =>
              subst he
              rcases HE9 with ⟨_, rfl⟩ | ⟨h, _⟩
              case inr => exact absurd h (by decide)
              rw [h0] at hdn
              have HJp : Hid (Md g' bs' rs' (Dk.arm (-1) 0 t9) ∧ Gen g' bs' rs' Sa uz (19 * uz + 17 * (i + 1)) ∧ (g' = g ∨ g' = g + 1)) := ⟨⟨hm.jv.of_fs rfl, hm.ref, hm.sz⟩, hG.more (Nat.le_refl _) (by omega), hgg⟩
              clear h0 hgg hm hG
              go_wp2_with (first | (go_at_call 12; refine hdn.mono ?_; rintro e w10 ⟨rfl, hw⟩; subst w10) | fail)
              refine har.mono ?_
              rintro e w10 ⟨rfl, hD10, hk10⟩
              have HJ : Hid (Join w1 p qa q g uz (19 * uz + 17 * (i + 1)) false w10) := by
                have ht := HT9.out.disk1 hD10 hk10
                refine ⟨_, _, Sa, Na, A, _, _, g', bs', rs', ht, HJp.out.1, HJp.out.2.1, HI7.out.nice, HI7.out.low, HI7.out.na, HI7.out.n, ?_⟩
                rcases HJp.out.2.2 with h | h
                · exact .inl h
                · exact .inr ⟨h, rfl⟩
              clear har hdn hD10 hk10 HJp HI7 HL6 HN7 HT9
              go_wp2_with fail
              go_meet
              case rel => exact HJ
        case rest =>
          as_aux_lemma =>
          rename World => wj
          have HJ : Hid (Join w1 p qa q g uz (19 * uz + 17 * (i + 1)) xfull wj) := hcut
          clear hcut HI7 HL6 HN7 hE6 HFw c1 c2 c3
          obtain ⟨F, t, Sa, Na, A, N, C, g2, bs2, rs2, hTw, hMd, hGen, hNi, hLow, hNa, hN, hgg⟩ := HJ.out
          have HP : Hid (Two w1 wj p F t qa Sa Na A q Sa N C ∧ Md g2 bs2 rs2 t ∧ Gen g2 bs2 rs2 Sa uz (19 * uz + 17 * (i + 1)) ∧ Nice Sa ∧ Low Sa ∧ Na ≤ uz ∧ N ≤ uz) := ⟨hTw, hMd, hGen, hNi, hLow, hNa, hN⟩
          have HGG : Hid (g2 = g ∨ (g2 = g + 1 ∧ xfull = false)) := hgg
          clear HJ hTw hMd hGen hNi hLow hNa hN hgg
          have hhd := holds_any HP.out.1.st.1 HP.out.1.ob.all.1 (by have := HP.out.2.2.2.2.2.2; have := HUV.out.1; omega) (by have := HP.out.2.2.2.2.2.1; have := HUV.out.1; omega)
          go_wp2_with fail
          refine hhd.mono ?_
          rintro e w8 ⟨rfl, hk8⟩
          have HO8 : Hid (Obs w1 w8 p F t qa Sa Na A) := HP.out.1.ob.keepsN hk8
          clear hhd hk8
          obtain ⟨b4, off4, e4, _, _, c2, _⟩ := HCX.out w8 HO8.out.dn.kept
          injection e4 with e4
          injection e4 with e4a e4b
          subst e4a e4b
          have hcr := dn_crash xkeep HO8.out.dn (s' := Dk.crash xkeep t) rfl HXR.out.keep
          go_wp2_with fail
          refine hcr.mono ?_
          rintro e w9 ⟨rfl, hD9, hk9⟩
          have HO9 : Hid (Obs w1 w9 p F (Dk.crash xkeep t) qa Sa Na A) := HO8.out.disk1 hD9 hk9
          clear hcr hD9 hk9 c2 HO8
          have hup := dn_up HO9.out.dn (s' := Dk.up (Dk.crash xkeep t)) rfl
          go_wp2_with fail
          refine hup.mono ?_
          rintro e w10 ⟨rfl, hD10, hk10⟩
          have HO10 : Hid (Obs w1 w10 p F (Dk.up (Dk.crash xkeep t)) qa Sa Na A) := HO9.out.disk1 hD10 hk10
          clear hup hD10 hk10 HO9
          obtain ⟨t', hB, hLv', hz, hNv⟩ := HP.out.2.1.boot HP.out.2.2.1 xkeep
          have hbt := dn_boot HO10.out.dn HT1.out hz (by decide) hB
          have HLv : Hid (Lv g2 bs2 rs2 t' ∧ ∀ N, NvB (Dk.up (Dk.crash xkeep t)) N → N ≤ uz) := ⟨hLv', hNv⟩
          clear hB hLv' hz hNv
          go_wp2_with fail
          refine hbt.mono ?_
          rintro e w11 ⟨q2, l2, rfl, HL11, HS11, HD11, HK11⟩
          clear hbt
          obtain ⟨N2, hIn⟩ := rnd_boot (i := i + 1) HO10.out HLv.out.1 HP.out.2.2.1 HP.out.2.2.2.1 HP.out.2.2.2.2.1 HP.out.2.2.2.2.2.1 HL11.out HS11.out HLv.out.2 HD11.out HK11.out
          have HI11 : Hid (Inn w1 p qa q2 l2 g2 bs2 uz (19 * uz + 17 * (i + 1)) F t' Sa Na A N2 (fun b => w10.heap.size ≤ b ∧ b < w11.heap.size ∧ b ≠ l2) rs2 w11) := hIn
          clear hIn HL11 HS11 HD11 HK11 HO10 HLv
          have hhd := holds_any HI11.out.two.st.1 HI11.out.two.ob.all.1 (by have := HI11.out.n; have := HUV.out.1; omega) (by have := HI11.out.na; have := HUV.out.1; omega)
          have HFC : Hid (∀ X, Keeps no w11 X → X.cell? ⟨b1, off1 + i * 4 + 3, none⟩ = some (.bool xfull)) := fun X hX => by
            obtain ⟨b4, off4, e4, _, _, _, d3⟩ := HCX.out X (HI11.out.two.ob.dn.kept.trans hX)
            injection e4 with e4
            injection e4 with e4a e4b
            subst e4a e4b
            exact d3
          have HRn : Hid (∀ X, Keeps no w11 X → g2 ≤ i + 1 → Rnd w1 p qa ((xs.take (i + 1)).map wtR).sum (i + 1) X) := fun X hX hle => by
            have h := HI11.out.keepsN hX
            rw [HUV.out.2]
            exact ⟨_, _, _, _, _, _, _, _, h.two.ob, h.lv, h.gen, h.nice, h.low, h.na, hle⟩
          have Hle : Hid (g2 ≤ i + 1) := by
            have h1 := Hgi.out
            rcases HGG.out with h | h
            · show _ ≤ _; omega
            · show _ ≤ _; omega
          rcases HGG.out with h | ⟨h, hf⟩
          · have hgE : ((g2 : Nat) : Int) = (g : Int) := by rw [h]
            rw [hgE]
            clear h HI11 HP HGG hgE
            go_wp2_with (first | (go_at_call 14; refine hhd.mono ?_; rintro e w12 ⟨rfl, hk12⟩; have c3 := HFC.out _ hk12; have K12 : Hid (Keeps no w11 w12) := hk12; clear hk12) | fail)
            all_goals
              go_roundw
              case rel => exact ⟨i + 1, by omega, by omega, by go_num, HRn.out _ K12.out Hle.out⟩
              case measure => simp [intOf]; omega
          · have hgE : ((g2 : Nat) : Int) = (g : Int) + 1 := by rw [h]; omega
            rw [hgE]
            subst hf
            clear h HI11 HP HGG hgE
            go_wp2_with (first | (go_at_call 14; refine hhd.mono ?_; rintro e w12 ⟨rfl, hk12⟩; have c3 := HFC.out _ hk12; have K12 : Hid (Keeps no w11 w12) := hk12; clear hk12) | fail)
            all_goals
              go_roundw
              case rel => exact ⟨i + 1, by omega, by omega, by go_num, HRn.out _ K12.out Hle.out⟩
              case measure => simp [intOf]; omega
end Go.Proofs.YtdemoghlibnooaaGreatDoor

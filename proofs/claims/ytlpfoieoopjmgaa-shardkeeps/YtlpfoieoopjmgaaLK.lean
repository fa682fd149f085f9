import Derived.Test.YtlpfoieoopjmgaaHK
import Derived.Test.YtlpfoieoopjmgaaM3
namespace Go.Proofs.Ytlpfoieoopjmgaa
open Go.RowKit
set_option linter.unusedVariables false
set_option linter.unusedSimpArgs false

def tSp : Tx := ⟨#[115, 112, 97, 114, 101]⟩
def tRm : Tx := ⟨#[114, 111, 111, 109]⟩
theorem samePK (w : World) (oa : Option Addr) (na ca : Nat) (ob : Option Addr) (nb cb : Nat) (l : List Pr) (hna : na = l.length) (hnb : nb = l.length) (hl : (l.length : Int) ≤ 8796093022208) (ha : Sl PE w oa ca l) (hb : Sl PE w ob cb l) :
    Calls Try.prog 15 #[.slice oa na ca, .slice ob nb cb] w fun e w' => e = .returned (.bool true) ∧ Keeps no w w' := by
  refine (samePQ_yes w oa na ca ob nb cb l hna hnb hl ha hb).mono ?_
  rintro e w' ⟨rfl, m, rfl⟩
  exact ⟨rfl, (Keeps.refl _ _).drewN m⟩
theorem Own.some {α : Type} {E : El α} {w : World} {o : Option Addr} {c : Nat} {xs : List α} (h : Own E w o c xs) (hx : xs ≠ []) : ∃ g, o = some ⟨g, 0, none⟩ ∧ xs.length ≤ c := by
  rcases h.shape with ⟨_, _, e⟩ | ⟨g, cur, e, _, hc, _⟩
  · exact absurd e hx
  · exact ⟨g, e, hc⟩

set_option maxHeartbeats 40000000 in
set_option maxRecDepth 10000 in
theorem shardKeeps_any (w : World) (a : Option Addr) (n c : Nat) (xs : List Tx) (a2 : Option Addr) (n2 c2 : Nat) (ps : List Pr) (z : Int) (hn : n = xs.length) (hn2 : n2 = ps.length) (hfit : (xs.length : Int) * 16 ≤ 140737488351232) (hfit2 : (ps.length : Int) * 32 ≤ 140737488351232) (hsz : ∀ x ∈ xs, x.size ≤ maxLen) (hsz2 : ∀ x ∈ ps, x.1.size ≤ maxLen ∧ x.2.size ≤ maxLen) (hs : Sl TE w a c xs) (hs2 : Sl PE w a2 c2 ps) (hz : -9223372036854775808 ≤ z ∧ z ≤ 9223372036854775807) :
    Calls Try.prog 6 #[.slice a n c, .slice a2 n2 c2, .int .i64 z] w fun e w' => e = .returned (.bool true) ∧ Keeps no w w' := by
  have HF : Hid (n = xs.length ∧ (xs.length : Int) * 16 ≤ 140737488351232 ∧ (∀ x ∈ xs, x.size ≤ maxLen) ∧ Sl TE w a c xs) := ⟨hn, hfit, hsz, hs⟩
  have HF2 : Hid (n2 = ps.length ∧ (ps.length : Int) * 32 ≤ 140737488351232 ∧ (∀ x ∈ ps, x.1.size ≤ maxLen ∧ x.2.size ≤ maxLen) ∧ Sl PE w a2 c2 ps) := ⟨hn2, hfit2, hsz2, hs2⟩
  have hA : (n : Int) ≤ 8796093021952 := by omega
  have hA2 : (n2 : Int) ≤ 4398046510976 := by omega
  have HZ : Hid (-9223372036854775808 ≤ z ∧ z ≤ 9223372036854775807) := hz
  obtain ⟨r, hr⟩ : ∃ r, r = restN z := ⟨_, rfl⟩
  have hr64 : r < 64 := by rw [hr]; exact restN_lt z
  have HR : Hid (r = restN z) := hr
  obtain ⟨P, hP⟩ : ∃ P, P = r + 1 := ⟨_, rfl⟩
  have hPI : (1 + (r : Int)) = (P : Int) := by omega
  have h1 : 0 < P := by omega
  have h2 : P ≤ 64 := by omega
  have HB1 : Hid ((([] : List Tx).length + xs.length) * TE.nb ≤ 140737488355328 ∧ ([] : List Tx).length + xs.length ≤ 140737488355328 ∧ (xs.length + [tSp, tRm].length) * TE.nb ≤ 140737488355328 ∧ xs.length + [tSp, tRm].length ≤ 140737488355328) := ⟨by simp [TE]; omega, by simp; omega, by simp [TE]; omega, by simp; omega⟩
  have HB2 : Hid ((([] : List Pr).length + ps.length) * PE.nb ≤ 140737488355328 ∧ ([] : List Pr).length + ps.length ≤ 140737488355328 ∧ (ps.length + [(tSp, e0), (tRm, e0)].length) * PE.nb ≤ 140737488355328 ∧ ps.length + [(tSp, e0), (tRm, e0)].length ≤ 140737488355328) := ⟨by simp [PE]; omega, by simp; omega, by simp [PE]; omega, by simp; omega⟩
  clear hn hfit hsz hs hn2 hfit2 hsz2 hs2 hz hr hP
  go_enter Try.func6, Try.ntmps6
  go_wp2_with fail
  refine (rest_any z _ HZ.out).mono ?_
  rintro e w' ⟨rfl, hw'⟩
  subst w'
  rw [← HR.out]
  go_wp2_with (at_builtin; first | (refine wpList_app okT rfl _ _ rfl _ _ _ [] rfl rfl (own_nil _) a n c xs rfl HF.out.1 HF.out.2.2.2.nil HF.out.2.2.2.row HB1.out.1 HB1.out.2.1 ?_; intro o1 c1 w1 ho1 hap1) | (refine wpList_app okT rfl _ _ rfl o1 _ c1 xs rfl HF.out.1 ((show Own TE w1 o1 c1 xs by simpa using ho1).keepsN ((Keeps.refl _ _).alloc _)) _ _ _ [tSp, tRm] rfl rfl (fun h => by cases h) (lit_many (E := TE) w1 [tSp, tRm] _ rfl 2 rfl).row HB1.out.2.2.1 HB1.out.2.2.2 ?_; intro o2 c2' w2 ho2 hap2; have HK2 : Hid (Own TE w2 o2 c2' (xs ++ [tSp, tRm]) ∧ New w o2 ∧ Keeps no w w2) := (by have q1 := hap1.new (new_none w) (Keeps.refl no w); have q2 := hap2.new (w0 := w) q1.1 (q1.2.alloc _); exact ⟨ho2, q2.1, q2.2⟩); have HS2 : Hid (Sl PE w2 a2 c2 ps) := HF2.out.2.2.2.keepsN HK2.out.2.2) | (refine wpList_app okP rfl _ _ rfl _ _ _ [] rfl rfl (own_nil _) a2 n2 c2 ps rfl HF2.out.1 HS2.out.nil HS2.out.row HB2.out.1 HB2.out.2.1 ?_; intro o3 c3 w3 ho3 hap3) | (refine wpList_app okP rfl _ _ rfl o3 _ c3 ps rfl HF2.out.1 ((show Own PE w3 o3 c3 ps by simpa using ho3).keepsN ((Keeps.refl _ _).alloc _)) _ _ _ [(tSp, e0), (tRm, e0)] rfl rfl (fun h => by cases h) (lit_many (E := PE) w3 [(tSp, e0), (tRm, e0)] _ rfl 2 rfl).row HB2.out.2.2.1 HB2.out.2.2.2 ?_; intro o4 c4 w4 ho4 hap4; obtain ⟨gK, rfl, hcK⟩ := HK2.out.1.some (by simp); obtain ⟨gP, rfl, hcP⟩ := ho4.some (by simp); have hcK2 : (n : Int) + 2 ≤ c2' := (by have := HF.out.1; simp at hcK; omega); have hcP2 : (n2 : Int) + 2 ≤ c4 := (by have := HF2.out.1; simp at hcP; omega); have HW4 : Hid (Own TE w4 (some ⟨gK, 0, none⟩) c2' (xs ++ [tSp, tRm]) ∧ Own PE w4 (some ⟨gP, 0, none⟩) c4 (ps ++ [(tSp, e0), (tRm, e0)]) ∧ Keeps no w w4 ∧ w.heap.size ≤ gK ∧ w.heap.size ≤ gP) := (by have q3 := hap3.new (new_none w2) (Keeps.refl no w2); have q4 := hap4.new (w0 := w2) q3.1 (q3.2.alloc _); exact ⟨HK2.out.1.keepsN q4.2, ho4, HK2.out.2.2.trans q4.2, HK2.out.2.1 gK ⟨_, rfl, rfl⟩, Nat.le_trans HK2.out.2.2.size (q4.1 gP ⟨_, rfl, rfl⟩)⟩); clear hcK hcP HK2 HS2 ho3 hap3 ho4 hap4 ho1 hap1 ho2 hap2))
  clear hPI hr64 HB1 HB2
  have HC4 : Hid (Sl TE w4 (some ⟨gK, 0, none⟩) c2' xs ∧ Sl PE w4 (some ⟨gP, 0, none⟩) c4 ps) := by
    have e1 := HW4.out.1.sl.row.take okT xs.length
    have e2 := HW4.out.2.1.sl.row.take okP ps.length
    rw [List.take_left] at e1 e2
    exact ⟨⟨e1, by have := HF.out.1; omega, fun h => by cases h⟩, ⟨e2, by have := HF2.out.1; omega, fun h => by cases h⟩⟩
  refine (groupT_yes _ _ n _ xs P HF.out.1 HF.out.2.1 HF.out.2.2.1 HC4.out.1 h1 h2).mono ?_
  rintro e w5 ⟨oa, ma, ca, ga, rfl, H5⟩
  go_wp2_with fail
  refine (groupT_yes _ _ n _ xs P HF.out.1 HF.out.2.1 HF.out.2.2.1 (HC4.out.1.keepsN H5.out.2.kp) h1 h2).mono ?_
  rintro e w6 ⟨ob, mb, cb, gb, rfl, H6⟩
  go_wp2_with fail
  have HK6 : Hid (Keeps no w4 w6) := H5.out.2.kp.trans H6.out.2.kp
  refine (groupP_yes _ _ n2 _ ps P HF2.out.1 HF2.out.2.1 HF2.out.2.2.1 (HC4.out.2.keepsN HK6.out) h1 h2).mono ?_
  rintro e w7 ⟨ox, mx, cx, gx, rfl, H7⟩
  go_wp2_with fail
  have HK7 : Hid (Keeps no w4 w7) := HK6.out.trans H7.out.2.kp
  refine (groupP_yes _ _ n2 _ ps P HF2.out.1 HF2.out.2.1 HF2.out.2.2.1 (HC4.out.2.keepsN HK7.out) h1 h2).mono ?_
  rintro e w8 ⟨oy, my, cy, gy, rfl, H8⟩
  go_wp2_with fail
  refine (known_any _).mono ?_
  rintro e w9 ⟨rfl, hk9⟩
  have HK9 : Hid (Keeps no w4 w9) := HK7.out.trans (H8.out.2.kp.trans hk9)
  have hma : ma ≤ 64 := by have := H5.out.1; have := H5.out.2.len; omega
  have hmx : mx ≤ 64 := by have := H7.out.1; have := H7.out.2.len; omega
  have hmb : mb = ma := by rw [H5.out.1, H6.out.1, (Told.lens H5.out.2 H6.out.2).1]
  have hmy : my = mx := by rw [H7.out.1, H8.out.1, (Told.lens H7.out.2 H8.out.2).1]
  subst mb
  subst my
  have HHA : Hid (Held TE GE idT w4.heap.size P xs oa ca ga w9 ∧ Held TE GE idT w4.heap.size P xs ob cb gb w9 ∧ (∀ i j, i < ga.length → j < gb.length → ∀ k, inO (ga.getD i gs0).o k → ¬ inO (gb.getD j gs0).o k) ∧ ma = ga.length) := ⟨(H5.out.2.held (Nat.le_refl _)).keepsN (H6.out.2.kp.trans (H7.out.2.kp.trans (H8.out.2.kp.trans hk9))), (H6.out.2.held H5.out.2.kp.size).keepsN (H7.out.2.kp.trans (H8.out.2.kp.trans hk9)), fun i j hi hj k g1 g2 => by
    have := (H5.out.2.each i hi).lt k g1
    have := H6.out.2.news j hj k g2
    omega, H5.out.1⟩
  have HHX : Hid (Held PE HE fstP w4.heap.size P ps ox cx gx w9 ∧ Held PE HE fstP w4.heap.size P ps oy cy gy w9 ∧ (∀ i j, i < gx.length → j < gy.length → ∀ k, inO (gx.getD i gs0).o k → ¬ inO (gy.getD j gs0).o k) ∧ mx = gx.length) := ⟨(H7.out.2.held HK6.out.size).keepsN (H8.out.2.kp.trans hk9), (H8.out.2.held HK7.out.size).keepsN hk9, fun i j hi hj k g1 g2 => by
    have := (H7.out.2.each i hi).lt k g1
    have := H8.out.2.news j hj k g2
    omega, H7.out.1⟩
  clear H5 H6 H7 H8 hk9 HK6 HK7
  go_wp2_with fail
  refine (sameK _ _ n _ _ n _ xs HF.out.1 HF.out.1 (by have := HF.out.2.1; omega) (HC4.out.1.keepsN HK9.out) (HF.out.2.2.2.keepsN (HW4.out.2.2.1.trans HK9.out))).mono ?_
  rintro e w10 ⟨rfl, hk10⟩
  have HK10 : Hid (Keeps no w4 w10 ∧ Keeps no w9 w10) := ⟨HK9.out.trans hk10, hk10⟩
  clear hk10
  go_wp2_with fail
  refine (samePK _ _ n2 _ _ n2 _ ps HF2.out.1 HF2.out.1 (by have := HF2.out.2.1; omega) (HC4.out.2.keepsN HK10.out.1) (HF2.out.2.2.2.keepsN (HW4.out.2.2.1.trans HK10.out.1))).mono ?_
  rintro e w11 ⟨rfl, hk11⟩
  have k1 := (HW4.out.1.sl.keepsN (HK10.out.1.trans hk11)).at (j := n) (by have := HF.out.1; simp; omega)
  have k2 := (HW4.out.2.1.sl.keepsN (HK10.out.1.trans hk11)).atP (j := n2) (by have := HF2.out.1; simp; omega)
  have k3 := (HW4.out.2.1.sl.keepsN (HK10.out.1.trans hk11)).atP (j := n2 + 1) (by have := HF2.out.1; simp; omega)
  obtain ⟨_, _, e1, k1⟩ := k1
  cases e1
  obtain ⟨_, _, e2, k2, _⟩ := k2
  cases e2
  obtain ⟨_, _, e3, k3, _⟩ := k3
  cases e3
  rw [Nat.zero_add] at k1 k2 k3
  rw [getD_append, if_neg (by have := HF.out.1; omega), ← HF.out.1, Nat.sub_self] at k1
  rw [getD_append, if_neg (by have := HF2.out.1; omega), ← HF2.out.1, Nat.sub_self] at k2
  rw [getD_append, if_neg (by have := HF2.out.1; omega), ← HF2.out.1, Nat.add_sub_cancel_left] at k3
  have HK11 : Hid (Keeps no w4 w11 ∧ Keeps no w9 w11) := ⟨HK10.out.1.trans hk11, HK10.out.2.trans hk11⟩
  clear hk11 HK10 HK9
  have k1' : w11.cell? ⟨gK, n, none⟩ = some (.string ⟨#[115, 112, 97, 114, 101]⟩) := k1
  have k2' : w11.cell? ⟨gP, n2 * 2, none⟩ = some (.string ⟨#[115, 112, 97, 114, 101]⟩) := k2
  have k3' : w11.cell? ⟨gP, (n2 + 1) * 2, none⟩ = some (.string ⟨#[114, 111, 111, 109]⟩) := k3
  clear k1 k2 k3
  go_wp2_with fail
  obtain ⟨B, hB⟩ : ∃ B, B = w4.heap.size := ⟨_, rfl⟩
  have HFR : Hid (Four w B P xs ps oa ca ga ob cb gb ox cx gx oy cy gy w11 ∧ Own TE w11 (some ⟨gK, 0, none⟩) c2' (xs ++ [tSp, tRm]) ∧ Own PE w11 (some ⟨gP, 0, none⟩) c4 (ps ++ [(tSp, e0), (tRm, e0)])) := ⟨by rw [hB]; exact ⟨HHA.out.1.keepsN HK11.out.2, HHA.out.2.1.keepsN HK11.out.2, HHX.out.1.keepsN HK11.out.2, HHX.out.2.1.keepsN HK11.out.2, HW4.out.2.2.1.trans HK11.out.1, HK11.out.1.size⟩, HW4.out.1.keepsN HK11.out.1, HW4.out.2.1.keepsN HK11.out.1⟩
  have HG : Hid (w.heap.size ≤ gK ∧ gK < B ∧ w.heap.size ≤ gP ∧ gP < B ∧ w.heap.size ≤ B) := ⟨HW4.out.2.2.2.1, by rw [hB]; exact HW4.out.1.lt _ ⟨_, rfl, rfl⟩, HW4.out.2.2.2.2, by rw [hB]; exact HW4.out.2.1.lt _ ⟨_, rfl, rfl⟩, by rw [hB]; exact HW4.out.2.2.1.size⟩
  have HAB : Hid ((∀ i j, i < ga.length → j < gb.length → ∀ k, inO (ga.getD i gs0).o k → ¬ inO (gb.getD j gs0).o k) ∧ (∀ i j, i < gx.length → j < gy.length → ∀ k, inO (gx.getD i gs0).o k → ¬ inO (gy.getD j gs0).o k) ∧ ma = ga.length ∧ mx = gx.length) := ⟨HHA.out.2.2.1, HHX.out.2.2.1, HHA.out.2.2.2, HHX.out.2.2.2⟩
  clear HHA HHX HW4 HK11 HC4 hB k1' k2' k3'
  go_loopw [17] (fun s wr => ∃ (k : Nat) (XK : List Tx), k ≤ n ∧ s = .int .i64 k ∧ Hid (Four w B P xs ps oa ca ga ob cb gb ox cx gx oy cy gy wr ∧ Own TE wr (some ⟨gK, 0, none⟩) c2' XK ∧ Own PE wr (some ⟨gP, 0, none⟩) c4 (ps ++ [(tSp, e0), (tRm, e0)]) ∧ XK.length = n + 2)) (fun s _ => n - (intOf s).toNat)
  case atStart => exact ⟨0, _, by omega, rfl, ⟨HFR.out.1, HFR.out.2.1, HFR.out.2.2, by have := HF.out.1; simp; omega⟩⟩
  case round =>
    clear HFR
    obtain ⟨k, XK, hk, rfl, HI⟩ := hrel
    by_cases hlt : k < n
    · obtain ⟨g, eg, q1, q2, q3, q4⟩ := HI.out.2.1.store okT rfl Value.string (fun _ => rfl) e0 k (by rw [HI.out.2.2.2]; omega) ⟨#[63]⟩
      cases eg
      have HN : Hid (Four w B P xs ps oa ca ga ob cb gb ox cx gx oy cy gy (wr.setCell ⟨gK, k, none⟩ (.string ⟨#[63]⟩)) ∧ Own TE (wr.setCell ⟨gK, k, none⟩ (.string ⟨#[63]⟩)) (some ⟨gK, 0, none⟩) c2' (XK.set k ⟨#[63]⟩) ∧ Own PE (wr.setCell ⟨gK, k, none⟩ (.string ⟨#[63]⟩)) (some ⟨gP, 0, none⟩) c4 (ps ++ [(tSp, e0), (tRm, e0)]) ∧ (XK.set k ⟨#[63]⟩).length = n + 2) := ⟨HI.out.1.under q4 HG.out.2.1 HG.out.1, q3, HI.out.2.2.1.keeps q4 (fun b h1 h2 => tags_ne (by decide) HI.out.2.1 HI.out.2.2.1 b h2 h1), by rw [List.length_set]; exact HI.out.2.2.2⟩
      clear q3 q4 HI
      go_wp2_with fail
      go_roundw
      case rel => exact ⟨k + 1, _, by omega, by go_num, HN⟩
      case measure => simp [intOf] <;> omega
    · go_wp2_with fail
      go_loopw [18] (fun s wr => ∃ (k : Nat) (XP : List Pr), k ≤ n2 ∧ s = .int .i64 k ∧ Hid (Four w B P xs ps oa ca ga ob cb gb ox cx gx oy cy gy wr ∧ Own PE wr (some ⟨gP, 0, none⟩) c4 XP ∧ XP.length = n2 + 2)) (fun s _ => n2 - (intOf s).toNat)
      case atStart => exact ⟨0, _, by omega, rfl, ⟨HI.out.1, HI.out.2.2.1, by have := HF2.out.1; simp; omega⟩⟩
      case round =>
        clear HI hlt hk
        obtain ⟨k, XP, hk, rfl, HI⟩ := hrel
        by_cases hlt : k < n2
        · obtain ⟨g, eg, q1, q1b, q2, q2b, q3, q4⟩ := HI.out.2.1.store2 okP rfl p0 k (by rw [HI.out.2.2]; omega) ((⟨#[63]⟩ : Tx), e0) _ _ _ _ rfl rfl
          cases eg
          have HN : Hid (Four w B P xs ps oa ca ga ob cb gb ox cx gx oy cy gy ((wr.setCell ⟨gP, k * 2, none⟩ (.string ⟨#[63]⟩)).setCell ⟨gP, k * 2 + 1, none⟩ (.string e0)) ∧ Own PE ((wr.setCell ⟨gP, k * 2, none⟩ (.string ⟨#[63]⟩)).setCell ⟨gP, k * 2 + 1, none⟩ (.string e0)) (some ⟨gP, 0, none⟩) c4 (XP.set k (⟨#[63]⟩, e0)) ∧ (XP.set k ((⟨#[63]⟩ : Tx), e0)).length = n2 + 2) := ⟨HI.out.1.under q4 HG.out.2.2.2.1 HG.out.2.2.1, q3, by rw [List.length_set]; exact HI.out.2.2⟩
          clear q3 q4 HI
          go_wp2_with fail
          go_roundw
          case rel => exact ⟨k + 1, _, by omega, by go_num, HN⟩
          case measure => simp [intOf] <;> omega
        · have HI2 : Hid (Four w B P xs ps oa ca ga ob cb gb ox cx gx oy cy gy wr) := HI.out.1
          clear HI
          rename World => wb
          go_wp2_with fail
          clear hlt hk
          refine (groupT_yes _ a n c xs P HF.out.1 HF.out.2.1 HF.out.2.2.1 (HF.out.2.2.2.keepsN HI2.out.kp) h1 h2).mono ?_
          rintro e wc ⟨oc, mc, cc, gc, rfl, HC⟩
          go_wp2_with fail
          refine (groupP_yes _ a2 n2 c2 ps P HF2.out.1 HF2.out.2.1 HF2.out.2.2.1 (HF2.out.2.2.2.keepsN (HI2.out.kp.trans HC.out.2.kp)) h1 h2).mono ?_
          rintro e wd ⟨od, md, cd, gd, rfl, HD⟩
          have hmc : mc = ma := by rw [HC.out.1, HAB.out.2.2.1, (Held.lens HI2.out.a (HC.out.2.held (Nat.le_refl _))).1]
          have hmd : md = mx := by rw [HD.out.1, HAB.out.2.2.2, (Held.lens HI2.out.x (HD.out.2.held (Nat.le_refl _))).1]
          subst mc
          subst md
          have HE4 : Hid (Four w B P xs ps oa ca ga ob cb gb ox cx gx oy cy gy wd) := HI2.out.keepsN (HC.out.2.kp.trans HD.out.2.kp)
          have HZ2 : Hid (Held TE GE idT wb.heap.size P xs oc cc gc wd ∧ Held PE HE fstP wc.heap.size P ps od cd gd wd) := ⟨(HC.out.2.held (Nat.le_refl _)).keepsN HD.out.2.kp, HD.out.2.held (Nat.le_refl _)⟩
          clear HC HD HI2
          go_wp2_with fail
          go_loopw [23] (fun s wr => ∃ (k : Nat), k ≤ ma ∧ s = .int .i64 k ∧ Hid (Keeps no wd wr)) (fun s _ => ma - (intOf s).toNat)
          case atStart => exact ⟨0, by omega, rfl, Keeps.refl _ _⟩
          case round =>
            obtain ⟨k, hk, rfl, HKD⟩ := hrel
            by_cases hlt : k < ma
            · obtain ⟨b1, b2, b3, M, o1, d1, o2, d2, o3, d3, ys, rfl, rfl, rfl, q1, q2, q3, HM⟩ := three (HE4.out.a.keepsN HKD.out) (HE4.out.b.keepsN HKD.out) (HZ2.out.1.keepsN HKD.out) okG rfl rfl k (by rw [← HAB.out.2.2.1]; exact hlt)
              have HQ1 : Hid (∀ q, Calls Try.prog 12 #[.slice o1 M d1, .slice o3 M d3] (wr.drewN q) fun e w' => e = .returned (.bool true) ∧ ∃ t, w' = (wr.drewN q).drewN t) := fun q => sameQ_yes _ _ _ _ _ _ _ ys HM.out.1 HM.out.1 (by have := HM.out.2.1; have := HF.out.2.1; omega) (HM.out.2.2.1.keepsN ((Keeps.refl _ _).drewN _)) (HM.out.2.2.2.2.keepsN ((Keeps.refl _ _).drewN _))
              have HQ2 : Hid (∀ q, Calls Try.prog 12 #[.slice o2 M d2, .slice o3 M d3] (wr.drewN q) fun e w' => e = .returned (.bool true) ∧ ∃ t, w' = (wr.drewN q).drewN t) := fun q => sameQ_yes _ _ _ _ _ _ _ ys HM.out.1 HM.out.1 (by have := HM.out.2.1; have := HF.out.2.1; omega) (HM.out.2.2.2.1.keepsN ((Keeps.refl _ _).drewN _)) (HM.out.2.2.2.2.keepsN ((Keeps.refl _ _).drewN _))
              clear HM
              go_wp2_with fail
              go_quiet (first | (go_at_call_of 12 (Value.slice o1 M d1); exact Calls.quiet_of (HQ1.out _)) | (go_at_call_of 12 (Value.slice o2 M d2); exact Calls.quiet_of (HQ2.out _)))
              go_wp2_with fail
              go_roundw
              case rel => exact ⟨k + 1, by omega, by go_num, HKD.out.drewN _⟩
              case measure => simp [intOf] <;> omega
            · go_wp2_with fail
              clear hlt hk
              go_loopw [24] (fun s wr => ∃ (k : Nat), k ≤ mx ∧ s = .int .i64 k ∧ Hid (Keeps no wd wr)) (fun s _ => mx - (intOf s).toNat)
              case atStart => exact ⟨0, by omega, rfl, HKD⟩
              case round =>
                obtain ⟨k, hk, rfl, HKD⟩ := hrel
                by_cases hlt : k < mx
                · obtain ⟨b1, b2, b3, M, o1, d1, o2, d2, o3, d3, ys, rfl, rfl, rfl, q1, q2, q3, HM⟩ := three (HE4.out.x.keepsN HKD.out) (HE4.out.y.keepsN HKD.out) (HZ2.out.2.keepsN HKD.out) okH rfl rfl k (by rw [← HAB.out.2.2.2]; exact hlt)
                  have HQ1 : Hid (∀ q, Calls Try.prog 15 #[.slice o1 M d1, .slice o3 M d3] (wr.drewN q) fun e w' => e = .returned (.bool true) ∧ ∃ t, w' = (wr.drewN q).drewN t) := fun q => samePQ_yes _ _ _ _ _ _ _ ys HM.out.1 HM.out.1 (by have := HM.out.2.1; have := HF2.out.2.1; omega) (HM.out.2.2.1.keepsN ((Keeps.refl _ _).drewN _)) (HM.out.2.2.2.2.keepsN ((Keeps.refl _ _).drewN _))
                  have HQ2 : Hid (∀ q, Calls Try.prog 15 #[.slice o2 M d2, .slice o3 M d3] (wr.drewN q) fun e w' => e = .returned (.bool true) ∧ ∃ t, w' = (wr.drewN q).drewN t) := fun q => samePQ_yes _ _ _ _ _ _ _ ys HM.out.1 HM.out.1 (by have := HM.out.2.1; have := HF2.out.2.1; omega) (HM.out.2.2.2.1.keepsN ((Keeps.refl _ _).drewN _)) (HM.out.2.2.2.2.keepsN ((Keeps.refl _ _).drewN _))
                  clear HM
                  go_wp2_with fail
                  go_quiet (first | (go_at_call_of 15 (Value.slice o1 M d1); exact Calls.quiet_of (HQ1.out _)) | (go_at_call_of 15 (Value.slice o2 M d2); exact Calls.quiet_of (HQ2.out _)))
                  go_wp2_with fail
                  go_roundw
                  case rel => exact ⟨k + 1, by omega, by go_num, HKD.out.drewN _⟩
                  case measure => simp [intOf] <;> omega
                · have HEE : Hid (Four w B P xs ps oa ca ga ob cb gb ox cx gx oy cy gy wr) := HE4.out.keepsN HKD.out
                  clear HZ2 HE4
                  go_wp2_with fail
                  clear hlt hk HKD
                  go_loopw [25, 27] (fun sl s wr => ∃ (k m1 : Nat) (oL : Option Addr) (cL : Nat), k ≤ ma ∧ s = .int .i64 k ∧ sl = .slice oL m1 cL ∧ Hid (m1 = 2 * k ∧ Four w B P xs ps oa ca ga ob cb gb ox cx gx oy cy gy wr ∧ Own XE wr oL cL (LLf ga gb k) ∧ New w oL)) (fun _ s _ => ma - (intOf s).toNat)
                  case atStart => exact ⟨0, 0, none, 0, by omega, rfl, rfl, ⟨rfl, HEE.out, own_nil _, new_none _⟩⟩
                  case round =>
                    obtain ⟨k, m1, oL, cL, hk, rfl, rfl, HI⟩ := hrel
                    by_cases hlt : k < ma
                    · obtain ⟨b1, N1, rfl, _, q1⟩ := HI.out.2.1.a.part okG rfl rfl k (by rw [← HAB.out.2.2.1]; exact hlt)
                      obtain ⟨b2, N2, rfl, _, q2⟩ := HI.out.2.1.b.part okG rfl rfl k (by rw [← (Held.lens HI.out.2.1.a HI.out.2.1.b).1, ← HAB.out.2.2.1]; exact hlt)
                      obtain ⟨o1, ho1⟩ : ∃ o, o = (ga.getD k gs0).o := ⟨_, rfl⟩
                      obtain ⟨M1, hM1⟩ : ∃ o, o = (ga.getD k gs0).xs.length := ⟨_, rfl⟩
                      obtain ⟨d1, hd1⟩ : ∃ o, o = (ga.getD k gs0).c := ⟨_, rfl⟩
                      obtain ⟨o2, ho2⟩ : ∃ o, o = (gb.getD k gs0).o := ⟨_, rfl⟩
                      obtain ⟨M2, hM2⟩ : ∃ o, o = (gb.getD k gs0).xs.length := ⟨_, rfl⟩
                      obtain ⟨d2, hd2⟩ : ∃ o, o = (gb.getD k gs0).c := ⟨_, rfl⟩
                      rw [← ho1, ← hM1, ← hd1] at q1
                      rw [← ho2, ← hM2, ← hd2] at q2
                      have HLT : Hid (Sl XE (wr.alloc (.cells #[.slice o1 M1 d1, .slice o2 M2 d2] XE.e)) (some ⟨wr.heap.size, 0, none⟩) 2 [lsOf (ga.getD k gs0), lsOf (gb.getD k gs0)]) := lit_two rfl wr _ _ _ (by simp [LS.enc, lsOf, ho1, hM1, hd1, ho2, hM2, hd2])
                      have HB : Hid (((LLf ga gb k).length + [lsOf (ga.getD k gs0), lsOf (gb.getD k gs0)].length) * XE.nb ≤ 140737488355328 ∧ (LLf ga gb k).length + [lsOf (ga.getD k gs0), lsOf (gb.getD k gs0)].length ≤ 140737488355328 ∧ m1 = (LLf ga gb k).length) := by
                        have e := LL_length ga gb k
                        have e2 := HI.out.1
                        exact ⟨by rw [e]; simp [XE]; omega, by rw [e]; simp; omega, by omega⟩
                      clear ho1 hM1 hd1 ho2 hM2 hd2
                      have r1 := cell_al q1 (.cells #[.slice o1 M1 d1, .slice o2 M2 d2] XE.e)
                      have r2 := cell_al q2 (.cells #[.slice o1 M1 d1, .slice o2 M2 d2] XE.e)
                      go_wp2_with fail
                      go_region_law (refine step_app okX rfl (.tmp 252) (.tmp 263) rfl oL m1 cL (LLf ga gb k) ?_ HB.out.2.2 ?_ (some ⟨wr.heap.size, 0, none⟩) 2 2 [lsOf (ga.getD k gs0), lsOf (gb.getD k gs0)] ?_ rfl ?_ ?_ HB.out.1 HB.out.2.1 ?_; rfl; exact HI.out.2.2.1.keepsN ((Keeps.refl _ _).alloc _).drew; rfl; exact HLT.out.nil; exact HLT.out.row.keepsN (Keeps.refl _ _).drew; intro o5 c5 w5 ho5 hap5)
                      all_goals
                        (go_wp2_with fail
                         go_roundw
                         case rel =>
                           have h4 := (HI.out.2.1.keepsN ((Keeps.refl _ _).alloc (.cells #[.slice o1 M1 d1, .slice o2 M2 d2] XE.e)).drew).other (F := XE) (by decide) (by decide) (by decide) (by decide) (HI.out.2.2.1.keepsN ((Keeps.refl _ _).alloc _).drew) HI.out.2.2.2 hap5
                           exact ⟨k + 1, m1 + 2, o5, c5, by omega, by go_num, rfl, ⟨by have := HI.out.1; omega, h4.1, ho5, h4.2⟩⟩
                         case measure => simp [intOf] <;> omega)
                    · have hkm : k = ma := by omega
                      subst k
                      have HL1 : Hid (Four w B P xs ps oa ca ga ob cb gb ox cx gx oy cy gy wr ∧ Own XE wr oL cL (LLf ga gb ma) ∧ m1 = (LLf ga gb ma).length) := ⟨HI.out.2.1, HI.out.2.2.1, by rw [LL_length]; exact HI.out.1⟩
                      clear HI
                      go_wp2_with fail
                      clear hlt hk
                      go_loopw [26, 28] (fun sl s wr => ∃ (k m2 : Nat) (oM : Option Addr) (cM : Nat), k ≤ mx ∧ s = .int .i64 k ∧ sl = .slice oM m2 cM ∧ Hid (m2 = 2 * k ∧ Four w B P xs ps oa ca ga ob cb gb ox cx gx oy cy gy wr ∧ Own YE wr oM cM (LLf gx gy k) ∧ New w oM ∧ Own XE wr oL cL (LLf ga gb ma) ∧ m1 = (LLf ga gb ma).length)) (fun _ s _ => mx - (intOf s).toNat)
                      case atStart => exact ⟨0, 0, none, 0, by omega, rfl, rfl, ⟨rfl, HL1.out.1, own_nil _, new_none _, HL1.out.2.1, HL1.out.2.2⟩⟩
                      case round =>
                        obtain ⟨k, m2, oM, cM, hk, rfl, rfl, HI⟩ := hrel
                        by_cases hlt : k < mx
                        · obtain ⟨b1, N1, rfl, _, q1⟩ := HI.out.2.1.x.part okH rfl rfl k (by rw [← HAB.out.2.2.2]; exact hlt)
                          obtain ⟨b2, N2, rfl, _, q2⟩ := HI.out.2.1.y.part okH rfl rfl k (by rw [← (Held.lens HI.out.2.1.x HI.out.2.1.y).1, ← HAB.out.2.2.2]; exact hlt)
                          obtain ⟨o1, ho1⟩ : ∃ o, o = (gx.getD k gs0).o := ⟨_, rfl⟩
                          obtain ⟨M1, hM1⟩ : ∃ o, o = (gx.getD k gs0).xs.length := ⟨_, rfl⟩
                          obtain ⟨d1, hd1⟩ : ∃ o, o = (gx.getD k gs0).c := ⟨_, rfl⟩
                          obtain ⟨o2, ho2⟩ : ∃ o, o = (gy.getD k gs0).o := ⟨_, rfl⟩
                          obtain ⟨M2, hM2⟩ : ∃ o, o = (gy.getD k gs0).xs.length := ⟨_, rfl⟩
                          obtain ⟨d2, hd2⟩ : ∃ o, o = (gy.getD k gs0).c := ⟨_, rfl⟩
                          rw [← ho1, ← hM1, ← hd1] at q1
                          rw [← ho2, ← hM2, ← hd2] at q2
                          have HLT : Hid (Sl YE (wr.alloc (.cells #[.slice o1 M1 d1, .slice o2 M2 d2] YE.e)) (some ⟨wr.heap.size, 0, none⟩) 2 [lsOf (gx.getD k gs0), lsOf (gy.getD k gs0)]) := lit_two rfl wr _ _ _ (by simp [LS.enc, lsOf, ho1, hM1, hd1, ho2, hM2, hd2])
                          have HB : Hid (((LLf gx gy k).length + [lsOf (gx.getD k gs0), lsOf (gy.getD k gs0)].length) * YE.nb ≤ 140737488355328 ∧ (LLf gx gy k).length + [lsOf (gx.getD k gs0), lsOf (gy.getD k gs0)].length ≤ 140737488355328 ∧ m2 = (LLf gx gy k).length) := by
                            have e := LL_length gx gy k
                            have e2 := HI.out.1
                            exact ⟨by rw [e]; simp [YE]; omega, by rw [e]; simp; omega, by omega⟩
                          clear ho1 hM1 hd1 ho2 hM2 hd2
                          have r1 := cell_al q1 (.cells #[.slice o1 M1 d1, .slice o2 M2 d2] YE.e)
                          have r2 := cell_al q2 (.cells #[.slice o1 M1 d1, .slice o2 M2 d2] YE.e)
                          go_wp2_with fail
                          go_region_law (refine step_app okY rfl (.tmp 271) (.tmp 282) rfl oM m2 cM (LLf gx gy k) ?_ HB.out.2.2 ?_ (some ⟨wr.heap.size, 0, none⟩) 2 2 [lsOf (gx.getD k gs0), lsOf (gy.getD k gs0)] ?_ rfl ?_ ?_ HB.out.1 HB.out.2.1 ?_; rfl; exact HI.out.2.2.1.keepsN ((Keeps.refl _ _).alloc _).drew; rfl; exact HLT.out.nil; exact HLT.out.row.keepsN (Keeps.refl _ _).drew; intro o5 c5 w5 ho5 hap5)
                          all_goals
                            (go_wp2_with fail
                             go_roundw
                             case rel =>
                               have h4 := (HI.out.2.1.keepsN ((Keeps.refl _ _).alloc (.cells #[.slice o1 M1 d1, .slice o2 M2 d2] YE.e)).drew).other (F := YE) (by decide) (by decide) (by decide) (by decide) (HI.out.2.2.1.keepsN ((Keeps.refl _ _).alloc _).drew) HI.out.2.2.2.1 hap5
                               exact ⟨k + 1, m2 + 2, o5, c5, by omega, by go_num, rfl, ⟨by have := HI.out.1; omega, h4.1, ho5, h4.2, (HI.out.2.2.2.2.1.keepsN ((Keeps.refl _ _).alloc _).drew).keeps (S := inO oM) (by rcases hap5 with ⟨_, hk⟩ | ⟨_, hk⟩; exact hk; exact hk.of_no) (fun b h1 h2 => tags_ne (by decide) HI.out.2.2.2.2.1 HI.out.2.2.1 b h1 h2), HI.out.2.2.2.2.2⟩⟩
                             case measure => simp [intOf] <;> omega)
                        · have hkm : k = mx := by omega
                          subst k
                          have HFI : Hid (Own XE wr oL cL (LLf ga gb ma) ∧ Own YE wr oM cM (LLf gx gy mx) ∧ Four w B P xs ps oa ca ga ob cb gb ox cx gx oy cy gy wr ∧ m1 = (LLf ga gb ma).length ∧ m2 = (LLf gx gy mx).length) := ⟨HI.out.2.2.2.2.1, HI.out.2.2.1, HI.out.2.1, HI.out.2.2.2.2.2, by rw [LL_length]; exact HI.out.1⟩
                          have hm1 : m1 ≤ 200 := by have := HFI.out.2.2.2.1; rw [LL_length] at this; omega
                          have hm2 : m2 ≤ 200 := by have := HFI.out.2.2.2.2; rw [LL_length] at this; omega
                          clear HI
                          go_wp2_with fail
                          refine (marked_any B wr oL m1 cL (LLf ga gb ma) oM m2 cM (LLf gx gy mx) HFI.out.2.2.2.1 HFI.out.2.2.2.2 hm1 hm2 ?_ (half_of HFI.out.2.2.1.a HFI.out.2.2.1.b HAB.out.1 HAB.out.2.2.1 HFI.out.1) (half_of HFI.out.2.2.1.x HFI.out.2.2.1.y HAB.out.2.1 HAB.out.2.2.2 HFI.out.2.1) ?_ ?_).mono ?_
                          · exact HFI.out.2.2.1.sz
                          · intro t ht
                            have := LL_fit HFI.out.2.2.1.a HFI.out.2.2.1.b HAB.out.2.2.1 t ht
                            have := HF.out.2.1
                            omega
                          · intro t ht
                            have := LL_fit HFI.out.2.2.1.x HFI.out.2.2.1.y HAB.out.2.2.2 t ht
                            have := HF2.out.2.1
                            omega
                          · rintro e w' ⟨rfl, hk'⟩
                            go_wp2_with fail
                            go_ret
                            exact ⟨rfl, HFI.out.2.2.1.kp.then hk' (fun i hi => .inr (Nat.le_trans HG.out.2.2.2.2 hi))⟩
end Go.Proofs.Ytlpfoieoopjmgaa

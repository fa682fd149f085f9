import Derived.Test.YtjklpcamlppegaaGreatB2
namespace Go.Proofs.YtjklpcamlppegaaGreat
open Go.RowKit Go.Sort Orl
set_option linter.unusedVariables false
set_option linter.unusedSimpArgs false

def cmpT (x y : Tx) : Int := if lts x y then -1 else if lts y x then 1 else 0
theorem compare_list : ∀ a b : List UInt8, Lib.compareBytes a b = if decide (a < b) then -1 else if decide (b < a) then 1 else 0
  | [], [] => by simp [Lib.compareBytes]
  | [], b :: bs => by simp [Lib.compareBytes]
  | a :: r, [] => by simp [Lib.compareBytes]
  | a :: r, b :: bs => by
    have ih := compare_list r bs
    unfold Lib.compareBytes
    simp only [List.cons_lt_cons_iff, decide_eq_true_eq] at ih ⊢
    by_cases h1 : a < b
    · simp [h1]
    · by_cases h2 : b < a
      · have : ¬ a = b := fun e => by subst e; exact absurd h2 (by simp)
        simp [h1, h2, this]
      · have e : a = b := by
          have a1 : ¬ a.toNat < b.toNat := fun h => h1 h
          have a2 : ¬ b.toNat < a.toNat := fun h => h2 h
          exact UInt8.toNat_inj.1 (by omega)
        subst e
        simp [ih]
theorem compare_eq (x y : Tx) : Lib.compareBytes x.data.toList y.data.toList = cmpT x y := by
  rw [compare_list, ← lts_eq, ← lts_eq]; rfl
theorem compare_any (x y : Tx) (w : World) : Calls Tryz.prog 111 #[.string x, .string y] w fun e w' => e = .returned (.int .i64 (cmpT x y)) ∧ w' = w := by
  have h := Any.strings_Compare Tryz.laysCompare x y w
  rw [compare_eq] at h
  exact h
theorem mg_end (f b s : Bool) {la lb : List Tx} (h : la = [] ∨ lb = []) : mg lts f b s la lb = opt f la ++ opt s lb := by
  rcases h with rfl | rfl
  · rw [mg_nil1, opt_nil]; rfl
  · rw [mg_nil2, opt_nil]; simp
theorem opt_len (b : Bool) (l : List Tx) : (opt b l).length ≤ l.length := by cases b <;> simp [opt]
theorem head_cons {l : List Tx} (h : 0 < l.length) : l = l.getD 0 e0 :: l.drop 1 := by
  cases l with
  | nil => simp at h
  | cons x r => simp

theorem kd {w w' : World} (h1 : w'.os = w.os) (h2 : w'.tape = w.tape) (h3 : w'.output = w.output) (h4 : w'.heap = w.heap) : Keeps no w w' := ⟨h1, h2, h3, by rw [h4]; exact Nat.le_refl _, fun _ _ _ => by rw [h4]⟩
theorem Ap.pre {w w1 w' : World} {oa o' : Option Addr} (k : Keeps no w w1) (h : Ap w1 oa o' w') : Ap w oa o' w' := by
  rcases h with ⟨e, h⟩ | ⟨⟨g, e, hg⟩, h⟩
  · exact .inl ⟨e, k.of_no.trans h⟩
  · exact .inr ⟨⟨g, e, Nat.le_trans k.size hg⟩, k.trans h⟩
theorem cut1 (b off na ca : Nat) (h : 0 < na) : ∀ w, (Instr.slice 25 (.slice (some ⟨b, off, none⟩) na ca) (some (.int .i64 1)) none none).run Tryz.prog w = .ok (.slice (if ca = 1 then some ⟨b, off, none⟩ else some ⟨b, off + 1, none⟩) (na - 1) (ca - 1)) w := by
  intro w
  rw [run_slice_l w 25 (some ⟨b, off, none⟩) _ ca slT .i64 _ (by omega) (by omega)]
  by_cases h : ca = 1
  · subst h; go_simp
  · go_simp
/-- where the great loop stands -/
structure MgSt (w0 : World) (f b s : Bool) (tot : List Tx) (N : Nat) (oa : Option Addr) (na ca : Nat) (la : List Tx) (ob : Option Addr) (nb cb : Nat) (lb : List Tx) (oo : Option Addr) (mo co : Nat) (out : List Tx) (wr : World) : Prop where
  hna : na = la.length
  hnb : nb = lb.length
  hmo : mo = out.length
  sa : Sl TE w0 oa ca la
  sb : Sl TE w0 ob cb lb
  own : Own TE wr oo co out
  new : New w0 oo
  kp : Keeps no w0 wr
  eq : out ++ mg lts f b s la lb = tot
  le : out.length + la.length + lb.length ≤ N

theorem MgSt.step {w0 : World} {f b s : Bool} {tot : List Tx} {N : Nat} {oa : Option Addr} {na ca : Nat} {la : List Tx} {ob : Option Addr} {nb cb : Nat} {lb : List Tx} {oo : Option Addr} {mo co : Nat} {out : List Tx} {wr w' : World} (h : MgSt w0 f b s tot N oa na ca la ob nb cb lb oo mo co out wr) (k : Keeps no wr w') : MgSt w0 f b s tot N oa na ca la ob nb cb lb oo mo co out w' :=
  ⟨h.hna, h.hnb, h.hmo, h.sa, h.sb, h.own.keepsN k, h.new, h.kp.trans k, h.eq, h.le⟩
theorem MgSt.first {w0 : World} {f b s : Bool} {tot : List Tx} {N : Nat} {b1 off1 : Nat} {na ca : Nat} {la : List Tx} {ob : Option Addr} {nb cb : Nat} {lb : List Tx} {oo : Option Addr} {mo co : Nat} {out : List Tx} {wr w' : World} (h : MgSt w0 f b s tot N (some ⟨b1, off1, none⟩) na ca la ob nb cb lb oo mo co out wr)
    (h1 : 0 < la.length) (h2 : 0 < lb.length) (hc : lts (la.getD 0 e0) (lb.getD 0 e0) = true) {o' : Option Addr} {n' c' : Nat} (hn : n' = (out ++ opt f (la.take 1)).length) (ho : Own TE w' o' c' (out ++ opt f (la.take 1))) (hap : Ap wr oo o' w') :
    MgSt w0 f b s tot N (if ca = 1 then some ⟨b1, off1, none⟩ else some ⟨b1, off1 + 1, none⟩) (na - 1) (ca - 1) (la.drop 1) ob nb cb lb o' n' c' (out ++ opt f (la.take 1)) w' := by
  have k := hap.new h.new h.kp
  refine ⟨by rw [List.length_drop, ← h.hna], h.hnb, hn, cutT_if 1 h.sa, h.sb, ho, k.1, k.2, ?_, ?_⟩
  · rw [← h.eq]
    have e1 := head_cons h1
    have e2 := head_cons h2
    rw [e1, e2, mg_cons, if_pos hc]
    simp
  · have := h.le
    have := opt_len f (la.take 1)
    simp only [List.length_append, List.length_drop, List.length_take] at *
    omega
theorem MgSt.second {w0 : World} {f b s : Bool} {tot : List Tx} {N : Nat} {oa : Option Addr} {na ca : Nat} {la : List Tx} {b1 off1 nb cb : Nat} {lb : List Tx} {oo : Option Addr} {mo co : Nat} {out : List Tx} {wr w' : World} (h : MgSt w0 f b s tot N oa na ca la (some ⟨b1, off1, none⟩) nb cb lb oo mo co out wr)
    (h1 : 0 < la.length) (h2 : 0 < lb.length) (hc0 : lts (la.getD 0 e0) (lb.getD 0 e0) = false) (hc : lts (lb.getD 0 e0) (la.getD 0 e0) = true) {o' : Option Addr} {n' c' : Nat} (hn : n' = (out ++ opt s (lb.take 1)).length) (ho : Own TE w' o' c' (out ++ opt s (lb.take 1))) (hap : Ap wr oo o' w') :
    MgSt w0 f b s tot N oa na ca la (if cb = 1 then some ⟨b1, off1, none⟩ else some ⟨b1, off1 + 1, none⟩) (nb - 1) (cb - 1) (lb.drop 1) o' n' c' (out ++ opt s (lb.take 1)) w' := by
  have k := hap.new h.new h.kp
  refine ⟨h.hna, by rw [List.length_drop, ← h.hnb], hn, h.sa, cutT_if 1 h.sb, ho, k.1, k.2, ?_, ?_⟩
  · rw [← h.eq]
    have e1 := head_cons h1
    have e2 := head_cons h2
    rw [e1, e2, mg_cons, if_neg (by rw [hc0]; simp), if_pos hc]
    simp
  · have := h.le
    have := opt_len s (lb.take 1)
    simp only [List.length_append, List.length_drop, List.length_take] at *
    omega
theorem MgSt.both {w0 : World} {f b s : Bool} {tot : List Tx} {N : Nat} {b1 off1 : Nat} {na ca : Nat} {la : List Tx} {b2 off2 nb cb : Nat} {lb : List Tx} {oo : Option Addr} {mo co : Nat} {out : List Tx} {wr w' : World} (h : MgSt w0 f b s tot N (some ⟨b1, off1, none⟩) na ca la (some ⟨b2, off2, none⟩) nb cb lb oo mo co out wr)
    (h1 : 0 < la.length) (h2 : 0 < lb.length) (hc0 : lts (la.getD 0 e0) (lb.getD 0 e0) = false) (hc : lts (lb.getD 0 e0) (la.getD 0 e0) = false) {o' : Option Addr} {n' c' : Nat} (hn : n' = (out ++ opt b (la.take 1)).length) (ho : Own TE w' o' c' (out ++ opt b (la.take 1))) (hap : Ap wr oo o' w') :
    MgSt w0 f b s tot N (if ca = 1 then some ⟨b1, off1, none⟩ else some ⟨b1, off1 + 1, none⟩) (na - 1) (ca - 1) (la.drop 1) (if cb = 1 then some ⟨b2, off2, none⟩ else some ⟨b2, off2 + 1, none⟩) (nb - 1) (cb - 1) (lb.drop 1) o' n' c' (out ++ opt b (la.take 1)) w' := by
  have k := hap.new h.new h.kp
  refine ⟨by rw [List.length_drop, ← h.hna], by rw [List.length_drop, ← h.hnb], hn, cutT_if 1 h.sa, cutT_if 1 h.sb, ho, k.1, k.2, ?_, ?_⟩
  · rw [← h.eq]
    have e1 := head_cons h1
    have e2 := head_cons h2
    rw [e1, e2, mg_cons, if_neg (by rw [hc0]; simp), if_neg (by rw [hc]; simp)]
    simp
  · have := h.le
    have := opt_len b (la.take 1)
    simp only [List.length_append, List.length_drop, List.length_take] at *
    omega

def lenOf : Value → Nat
  | .slice _ n _ => n
  | _ => 0
set_option maxHeartbeats 4000000 in
set_option maxRecDepth 10000 in
theorem merge_any (f b s : Bool) (w : World) (oa : Option Addr) (na ca : Nat) (ob : Option Addr) (nb cb : Nat) (sa sb : List Tx) (hna : na = sa.length) (hnb : nb = sb.length) (hla : sa.length ≤ 10000) (hlb : sb.length ≤ 10000) (ha : Sl TE w oa ca sa) (hb : Sl TE w ob cb sb) :
    Calls Tryz.prog 103 #[.slice oa na ca, .slice ob nb cb, .agg #[.bool f, .bool b, .bool s]] w fun e w' => ∃ v, e = .returned (.tuple #[v, .int .i64 (if rising lts sa && rising lts sb then 0 else 40)]) ∧ Gives TE w (if rising lts sa && rising lts sb then mg lts f b s sa sb else []) v w' := by
  have hra := fun w' (hk : Keeps no w w') => rising_any w' oa na ca sa hna (by unfold Small; omega) (ha.keepsN hk)
  have hrb := fun w' (hk : Keeps no w w') => rising_any w' ob nb cb sb hnb (by unfold Small; omega) (hb.keepsN hk)
  have HA : Hid (na = sa.length) := hna
  have HB : Hid (nb = sb.length) := hnb
  have HL : Hid (sa.length ≤ 10000 ∧ sb.length ≤ 10000) := ⟨hla, hlb⟩
  clear hna hnb hla hlb
  cases e : rising lts sa && rising lts sb
  · have hor : rising lts sa = false ∨ (rising lts sa = true ∧ rising lts sb = false) := by
      cases e1 : rising lts sa
      · exact .inl rfl
      · rw [e1] at e; exact .inr ⟨rfl, by simpa using e⟩
    clear e
    rcases hor with e1 | ⟨e1, e2⟩
    · rw [e1] at hra
      clear e1
      go_enter Tryz.func103, Tryz.ntmps103
      go_wp2_with fail
      refine (hra _ ((Keeps.refl _ _).alloc _)).mono ?_
      rintro e w1 ⟨rfl, hk1⟩
      go_wp2_with fail
      go_ret2
      exact ⟨_, rfl, none, 0, 0, rfl, (show 0 = _ by simp), own_nil _, new_none _, ((Keeps.refl _ _).alloc _).trans hk1⟩
    · rw [e1] at hra
      rw [e2] at hrb
      clear e1 e2
      go_enter Tryz.func103, Tryz.ntmps103
      go_wp2_with fail
      refine (hra _ ((Keeps.refl _ _).alloc _)).mono ?_
      rintro e w1 ⟨rfl, hk1⟩
      go_wp2_with fail
      refine (hrb w1 (((Keeps.refl _ _).alloc _).trans hk1)).mono ?_
      rintro e w2 ⟨rfl, hk2⟩
      go_wp2_with fail
      go_ret2
      exact ⟨_, rfl, none, 0, 0, rfl, (show 0 = _ by simp), own_nil _, new_none _, (((Keeps.refl _ _).alloc _).trans hk1).trans hk2⟩
  · have e1 : rising lts sa = true ∧ rising lts sb = true := by simpa using e
    rw [e1.1] at hra
    rw [e1.2] at hrb
    clear e1 e
    go_enter Tryz.func103, Tryz.ntmps103
    go_wp2_with fail
    refine (hra _ ((Keeps.refl _ _).alloc _)).mono ?_
    rintro e w1 ⟨rfl, hk1⟩
    go_wp2_with fail
    refine (hrb w1 (((Keeps.refl _ _).alloc _).trans hk1)).mono ?_
    rintro e w2 ⟨rfl, hk2⟩
    have kk : Keeps no (w.alloc (.cells #[.bool f, .bool b, .bool s] 132)) w2 := hk1.trans hk2
    have kw : Keeps no w w2 := ((Keeps.refl _ _).alloc _).trans kk
    have q0 : w2.cell? ⟨w.heap.size, 0, none⟩ = some (.bool f) := kk.cellN (by rw [cell_of_blk (blk_new w _)]; rfl)
    have q1 : w2.cell? ⟨w.heap.size, 1, none⟩ = some (.bool b) := kk.cellN (by rw [cell_of_blk (blk_new w _)]; rfl)
    have q2 : w2.cell? ⟨w.heap.size, 2, none⟩ = some (.bool s) := kk.cellN (by rw [cell_of_blk (blk_new w _)]; rfl)
    clear hra hrb
    have HK : Hid (Keeps no w w2) := kw
    have HSA := ha.keepsN kw
    have HSB := hb.keepsN kw
    clear kk kw hk1 hk2
    generalize w.heap.size = T at *
    go_wp2_with fail
    go_loopw [0, 1, 8] (fun s0 s1 s8 wr => ∃ (oa : Option Addr) (na ca : Nat) (la : List Tx) (ob : Option Addr) (nb cb : Nat) (lb : List Tx) (oo : Option Addr) (mo co : Nat) (out : List Tx), s0 = .slice oa na ca ∧ s1 = .slice ob nb cb ∧ s8 = .slice oo mo co ∧ Hid (MgSt w2 f b s (mg lts f b s sa sb) 20000 oa na ca la ob nb cb lb oo mo co out wr)) (fun s0 s1 _ _ => lenOf s0 + lenOf s1)
    case atStart => exact ⟨oa, na, ca, sa, ob, nb, cb, sb, none, 0, 0, [], rfl, rfl, rfl, ⟨HA.out, HB.out, rfl, HSA, HSB, own_nil _, new_none _, Keeps.refl _ _, by simp, by have := HL.out; simp; omega⟩⟩
    case round =>
      clear HA HB ha hb HSA HSB
      obtain ⟨oa, na, ca, la, ob, nb, cb, lb, oo, mo, co, out, rfl, rfl, rfl, HM⟩ := hrel
      have r0 := HM.out.kp.cellN q0
      have r1 := HM.out.kp.cellN q1
      have r2 := HM.out.kp.cellN q2
      have Q0 : Hid (w2.cell? ⟨T, 0, none⟩ = some (.bool f) ∧ w2.cell? ⟨T, 1, none⟩ = some (.bool b) ∧ w2.cell? ⟨T, 2, none⟩ = some (.bool s)) := ⟨q0, q1, q2⟩
      clear q0 q1 q2
      by_cases h1 : 0 < na
      · by_cases h2 : 0 < nb
        · have l1 : 0 < la.length := by have := HM.out.hna; omega
          have l2 : 0 < lb.length := by have := HM.out.hnb; omega
          obtain ⟨b1, off1, rfl, d1⟩ := (HM.out.sa.keepsN HM.out.kp).at l1
          obtain ⟨b2, off2, rfl, d2⟩ := (HM.out.sb.keepsN HM.out.kp).at l2
          have hca : (1 : Int) ≤ ca := by have := HM.out.sa.cap; omega
          have hcb : (1 : Int) ≤ cb := by have := HM.out.sb.cap; omega
          have hca2 : (na : Int) ≤ ca := by have := HM.out.sa.cap; have := HM.out.hna; omega
          have hcb2 : (nb : Int) ≤ cb := by have := HM.out.sb.cap; have := HM.out.hnb; omega
          have L1 : Hid (0 < la.length) := l1
          have L2 : Hid (0 < lb.length) := l2
          obtain ⟨x, hx⟩ : ∃ x, x = la.getD 0 e0 := ⟨_, rfl⟩
          obtain ⟨y, hy⟩ : ∃ y, y = lb.getD 0 e0 := ⟨_, rfl⟩
          rw [← hx, Nat.add_zero] at d1
          rw [← hy, Nat.add_zero] at d2
          have HX : Hid (x = la.getD 0 e0) := hx
          have HY : Hid (y = lb.getD 0 e0) := hy
          clear hx hy l1 l2
          have t1 := cutT_h wr _ ca la na 1 1 rfl HM.out.hna h1 (HM.out.sa.keepsN HM.out.kp)
          have t2 := cutT_h wr _ cb lb nb 1 1 rfl HM.out.hnb h2 (HM.out.sb.keepsN HM.out.kp)
          have T1 : Hid (Sl TE wr (some ⟨b1, off1, none⟩) ca (la.take 1) ∧ 1 = (la.take 1).length ∧ Small (la.take 1)) := ⟨t1.2, by have := L1.out; rw [List.length_take]; omega, by unfold Small; rw [List.length_take]; omega⟩
          have T2 : Hid (Sl TE wr (some ⟨b2, off2, none⟩) cb (lb.take 1) ∧ 1 = (lb.take 1).length ∧ Small (lb.take 1)) := ⟨t2.2, by have := L2.out; rw [List.length_take]; omega, by unfold Small; rw [List.length_take]; omega⟩
          have TO : Hid (Small out) := by have := HM.out.le; show out.length ≤ 100000; omega
          clear t1 t2
          have hcmp := compare_any x y
          have hthree : (lts x y = true ∧ cmpT x y = -1) ∨ (lts x y = false ∧ lts y x = true ∧ cmpT x y = 1) ∨ (lts x y = false ∧ lts y x = false ∧ cmpT x y = 0) := by
            unfold cmpT
            cases lts x y
            · cases lts y x <;> simp
            · simp
          rcases hthree with ⟨c1, c2⟩ | ⟨c1, c2, c3⟩ | ⟨c1, c2, c3⟩
          · rw [c2] at hcmp
            have C1 : Hid (lts x y = true) := c1
            clear c1 c2
            go_wp2_with fail
            go_quiet ((go_at_call 111; exact Calls.quiet_of_same (hcmp _)))
            go_wp2_with fail
            go_region_with (go_at_call 112; go_must (refine (taken_any f _ oo mo co out HM.out.hmo (by exact HM.out.own.keepsN (kd rfl rfl rfl rfl)) _ 1 ca (la.take 1) T1.out.2.1 (by exact T1.out.1.keepsN (kd rfl rfl rfl rfl)) TO.out T1.out.2.2).mono ?_); rintro e w' ⟨o', n', c', rfl, hn', ho', hap'⟩)
            all_goals
              have HM' := HM.out.first L1.out L2.out (by rw [← HX.out, ← HY.out]; exact C1.out) hn'.out ho' (Ap.pre (by exact (Keeps.refl _ _).drewN _) hap')
              have HM2 : Hid _ := HM'
              clear HM' HM ho' hap' hn' r0 r1 r2
              go_wp2_with fail
              go_roundw
              case rel => exact ⟨_, _, _, _, _, _, _, _, _, _, _, _, rfl, rfl, rfl, HM2⟩
              case measure => simp [lenOf] <;> omega
          · rw [c3] at hcmp
            have C1 : Hid (lts x y = false ∧ lts y x = true) := ⟨c1, c2⟩
            clear c1 c2 c3
            go_wp2_with fail
            go_quiet ((go_at_call 111; exact Calls.quiet_of_same (hcmp _)))
            go_wp2_with fail
            go_region_with (go_at_call 112; go_must (refine (taken_any s _ oo mo co out HM.out.hmo (by exact HM.out.own.keepsN (kd rfl rfl rfl rfl)) _ 1 cb (lb.take 1) T2.out.2.1 (by exact T2.out.1.keepsN (kd rfl rfl rfl rfl)) TO.out T2.out.2.2).mono ?_); rintro e w' ⟨o', n', c', rfl, hn', ho', hap'⟩)
            all_goals
              have HM' := HM.out.second L1.out L2.out (by rw [← HX.out, ← HY.out]; exact C1.out.1) (by rw [← HX.out, ← HY.out]; exact C1.out.2) hn'.out ho' (Ap.pre (by exact (Keeps.refl _ _).drewN _) hap')
              have HM2 : Hid _ := HM'
              clear HM' HM ho' hap' hn' r0 r1 r2
              go_wp2_with fail
              go_roundw
              case rel => exact ⟨_, _, _, _, _, _, _, _, _, _, _, _, rfl, rfl, rfl, HM2⟩
              case measure => simp [lenOf] <;> omega
          · rw [c3] at hcmp
            have C1 : Hid (lts x y = false ∧ lts y x = false) := ⟨c1, c2⟩
            clear c1 c2 c3
            go_wp2_with fail
            go_quiet ((go_at_call 111; exact Calls.quiet_of_same (hcmp _)))
            go_wp2_with fail
            go_region_with (go_at_call 112; go_must (refine (taken_any b _ oo mo co out HM.out.hmo (by exact HM.out.own.keepsN (kd rfl rfl rfl rfl)) _ 1 ca (la.take 1) T1.out.2.1 (by exact T1.out.1.keepsN (kd rfl rfl rfl rfl)) TO.out T1.out.2.2).mono ?_); rintro e w' ⟨o', n', c', rfl, hn', ho', hap'⟩)
            all_goals
              have HM' := HM.out.both L1.out L2.out (by rw [← HX.out, ← HY.out]; exact C1.out.1) (by rw [← HX.out, ← HY.out]; exact C1.out.2) hn'.out ho' (Ap.pre (by exact (Keeps.refl _ _).drewN _) hap')
              have HM2 : Hid _ := HM'
              clear HM' HM ho' hap' hn' r0 r1 r2
              have u1 := cut1 b1 off1 na ca h1
              have u2 := cut1 b2 off2 nb cb h2
              generalize (if ca = 1 then some (⟨b1, off1, none⟩ : Addr) else some ⟨b1, off1 + 1, none⟩) = A1 at u1 HM2
              generalize (if cb = 1 then some (⟨b2, off2, none⟩ : Addr) else some ⟨b2, off2 + 1, none⟩) = A2 at u2 HM2
              clear d1 d2 T1 T2 HX HY
              generalize (some (⟨b1, off1, none⟩ : Addr)) = B1 at u1 ⊢
              generalize (some (⟨b2, off2, none⟩ : Addr)) = B2 at u2 ⊢
              go_wp2_with fail
              go_quiet (fail)
              go_wp2_with fail
              go_roundw
              case rel => exact ⟨_, _, _, _, _, _, _, _, _, _, _, _, rfl, rfl, rfl, HM2.out.step (by exact kd rfl rfl rfl rfl)⟩
              case measure => simp [lenOf] <;> omega
        · have hend : la = [] ∨ lb = [] := .inr (List.length_eq_zero_iff.1 (by have := HM.out.hnb; omega))
          have HE : Hid (la = [] ∨ lb = []) := hend
          clear hend
          obtain rfl : nb = 0 := by omega
          have HT : Hid (Small out ∧ Small la ∧ Small lb) := by have := HM.out.le; exact ⟨by show _ ≤ _; omega, by show _ ≤ _; omega, by show _ ≤ _; omega⟩
          go_wp2_with fail
          refine (taken_any f _ oo mo co out HM.out.hmo HM.out.own oa na ca la HM.out.hna (HM.out.sa.keepsN HM.out.kp) HT.out.1 HT.out.2.1).mono ?_
          rintro e w3 ⟨o3, n3, c3, rfl, hn3, ho3, hap3⟩
          have k3 := hap3.new HM.out.new HM.out.kp
          have K3 : Hid (New w2 o3 ∧ Keeps no w2 w3) := k3
          have r2' : w3.cell? ⟨T, 2, none⟩ = some (.bool s) := k3.2.cellN Q0.out.2.2
          clear r0 r1 r2 k3
          go_wp2_with fail
          refine (taken_any s _ o3 n3 c3 (out ++ opt f la) hn3.out ho3 ob _ cb lb HM.out.hnb (HM.out.sb.keepsN K3.out.2) (by
            have := HM.out.le; have := opt_len f la
            show _ ≤ _; rw [List.length_append]; omega) HT.out.2.2).mono ?_
          rintro e w4 ⟨o4, n4, c4, rfl, hn4, ho4, hap4⟩
          have k4 := hap4.new K3.out.1 K3.out.2
          go_wp2_with fail
          go_ret2
          have he : mg lts f b s sa sb = out ++ opt f la ++ opt s lb := by
            rw [← HM.out.eq, mg_end f b s HE.out, List.append_assoc]
          refine ⟨_, rfl, o4, n4, c4, rfl, ?_, ?_, k4.1.of_le HK.out.size, HK.out.trans k4.2⟩
          · rw [he]; exact hn4
          · rw [he]; exact ho4
      · have hend : la = [] ∨ lb = [] := .inl (List.length_eq_zero_iff.1 (by have := HM.out.hna; omega))
        have HE : Hid (la = [] ∨ lb = []) := hend
        clear hend
        obtain rfl : na = 0 := by omega
        have HT : Hid (Small out ∧ Small la ∧ Small lb) := by have := HM.out.le; exact ⟨by show _ ≤ _; omega, by show _ ≤ _; omega, by show _ ≤ _; omega⟩
        go_wp2_with fail
        refine (taken_any f _ oo mo co out HM.out.hmo HM.out.own oa _ ca la HM.out.hna (HM.out.sa.keepsN HM.out.kp) HT.out.1 HT.out.2.1).mono ?_
        rintro e w3 ⟨o3, n3, c3, rfl, hn3, ho3, hap3⟩
        have k3 := hap3.new HM.out.new HM.out.kp
        have K3 : Hid (New w2 o3 ∧ Keeps no w2 w3) := k3
        have r2' : w3.cell? ⟨T, 2, none⟩ = some (.bool s) := k3.2.cellN Q0.out.2.2
        clear r0 r1 r2 k3
        go_wp2_with fail
        refine (taken_any s _ o3 n3 c3 (out ++ opt f la) hn3.out ho3 ob _ cb lb HM.out.hnb (HM.out.sb.keepsN K3.out.2) (by
          have := HM.out.le; have := opt_len f la
          show _ ≤ _; rw [List.length_append]; omega) HT.out.2.2).mono ?_
        rintro e w4 ⟨o4, n4, c4, rfl, hn4, ho4, hap4⟩
        have k4 := hap4.new K3.out.1 K3.out.2
        go_wp2_with fail
        go_ret2
        have he : mg lts f b s sa sb = out ++ opt f la ++ opt s lb := by
          rw [← HM.out.eq, mg_end f b s HE.out, List.append_assoc]
        refine ⟨_, rfl, o4, n4, c4, rfl, ?_, ?_, k4.1.of_le HK.out.size, HK.out.trans k4.2⟩
        · rw [he]; exact hn4
        · rw [he]; exact ho4
end Go.Proofs.YtjklpcamlppegaaGreat

import Derived.Test.YtileipnoiocdlaaRB
import Derived.ArgAppend
import Derived.Deep.RegionLaw
import Derived.Deep.RegionHeld3
/- The keys of a write, kept once. -/
namespace Go.Proofs.Ytileipnoiocdlaa
open Go.RowKit Go.Sort Orl
set_option linter.unusedVariables false
set_option linter.unusedSimpArgs false

/-- a list of these keys, among these blocks or new -/
def KeyTo (w : World) (ks : List Tx) (P : Nat → Prop) (e : Ending) (w' : World) : Prop := ∃ o n c, e = .returned (.slice o n c) ∧ n = ks.length ∧ Sl TE w' o c ks ∧ (∀ i, inO o i → P i ∨ (w.heap.size ≤ i ∧ i < w'.heap.size)) ∧ Keeps no w w'
set_option maxRecDepth 10000 in
set_option maxHeartbeats 2000000 in
theorem keysOf_any (w : World) (p : Nat) (co : Option Addr) (cn cc : Nat) (cs : List RV) (came : List Ver) (vo : Option Addr) (vn vc : Nat) (vs : List RV) (first : List Ver) (r : RV) (v : Ver)
    (hcn : cn = came.length) (hvn : vn = first.length) (hc : Vers w co cc cs came) (hv : Vers w vo vc vs first) (hcl : came.length ≤ 1024) (hvl : first.length ≤ 1024) (hcf : FitL came) (hvf : FitL first)
    (c7 : w.cell? ⟨p, 7, none⟩ = some (.slice co cn cc)) (c8 : w.cell? ⟨p, 8, none⟩ = some (.slice vo vn vc)) (hr : VerOf w r v) (hf : FitV v) :
    Calls Try.prog 47 #[.pointer (some ⟨p, 0, none⟩), aggV r] w (KeyTo w v.keys (fun i => KB cs came.length i ∨ KB vs first.length i)) := by
  obtain ⟨x0, x1, x2, xo, xn, xc⟩ := r
  unfold aggV
  simp only
  have HV : Hid (xn = v.keys.length ∧ Sl TE w xo xc v.keys ∧ FitV v) := ⟨hr.n, hr.sl, hf⟩
  have hxn : (xn : Int) ≤ 8796093022000 := by have := hf.len; have e : xn = v.keys.length := hr.n; omega
  have HL : Hid (∀ k, k < 2 → ∃ (lo : Option Addr) (ln lc : Nat) (ls : List RV) (lv : List Ver), (k = 0 ∧ lo = co ∧ ln = cn ∧ lc = cc ∨ k = 1 ∧ lo = vo ∧ ln = vn ∧ lc = vc) ∧ Hid (ln = lv.length ∧ Vers w lo lc ls lv ∧ lv.length ≤ 1024 ∧ FitL lv ∧ ∀ i, KB ls lv.length i → KB cs came.length i ∨ KB vs first.length i)) := by
    intro k hk
    by_cases e : k = 0
    · exact ⟨co, cn, cc, cs, came, .inl ⟨e, rfl, rfl, rfl⟩, hcn, hc, hcl, hcf, fun i hi => .inl hi⟩
    · exact ⟨vo, vn, vc, vs, first, .inr ⟨by omega, rfl, rfl, rfl⟩, hvn, hv, hvl, hvf, fun i hi => .inr hi⟩
  have hp := World.block_lt_of_cell? w _ c7
  simp only at hp
  obtain ⟨B, hB⟩ : ∃ B, B = w.heap.size := ⟨_, rfl⟩
  have H0 : Hid (∀ W, W = w.alloc (.cells #[.string x0, .int .u64 (x1 : Nat), .string x2, .slice xo xn xc] 46) → W.heap[B]? = some (.cells #[.string x0, .int .u64 (x1 : Nat), .string x2, .slice xo xn xc] 46 (0, 0)) ∧ Keeps no w W) := by
    rintro W rfl
    exact ⟨by rw [hB]; exact blk_new w _, (Keeps.refl _ _).alloc _⟩
  have HC : Hid (∀ W, Keeps no w W → W.cell? ⟨p, 7, none⟩ = some (.slice co cn cc) ∧ W.cell? ⟨p, 8, none⟩ = some (.slice vo vn vc)) := fun W k => ⟨k.cellN c7, k.cellN c8⟩
  clear hcn hvn hc hv hcl hvl hcf hvf c7 c8 hr hf
  go_enter Try.func47, Try.ntmps47
  go_upto_region 1 with fail
  have hW := H0.out _ rfl
  rw [← hB]
  generalize w.alloc (.cells #[.string x0, .int .u64 (x1 : Nat), .string x2, .slice xo xn xc] 46) = w1 at hW ⊢
  have H1 : Hid (w1.heap[B]? = some (.cells #[.string x0, .int .u64 (x1 : Nat), .string x2, .slice xo xn xc] 46 (0, 0)) ∧ Keeps no w w1 ∧ B = w.heap.size) := ⟨hW.1, hW.2, hB⟩
  have c7 := (HC.out w1 hW.2).1
  have c8 := (HC.out w1 hW.2).2
  clear hW H0 HC hB
  have HC1 : Hid (∀ W, Keeps no w1 W → W.cell? ⟨p, 7, none⟩ = some (.slice co cn cc) ∧ W.cell? ⟨p, 8, none⟩ = some (.slice vo vn vc)) := fun W k => ⟨k.cellN c7, k.cellN c8⟩
  go_upto_region 2 with fail
  go_region_held3 (fun X => X.cell? ⟨p, 7, none⟩ = some (.slice co cn cc) ∧ X.cell? ⟨p, 8, none⟩ = some (.slice vo vn vc)) (first | exact HC1.out _ ((Keeps.refl _ _).drew) | exact HC1.out _ (((Keeps.refl _ _).alloc _).drew) | exact HC1.out _ (((Keeps.refl _ _).drew).alloc _) | exact HC1.out _ ((Keeps.refl _ _).alloc _) | exact HC1.out _ (Keeps.refl _ _)) ((fail))
  obtain ⟨A, hA⟩ : ∃ A, A = w1.heap.size := ⟨_, rfl⟩
  have H2 : Hid (∀ W, W = (w1.alloc (.cells #[.slice co cn cc, .slice vo vn vc] 40)).drew → W.heap[A]? = some (.cells #[.slice co cn cc, .slice vo vn vc] 40 (0, 0)) ∧ Keeps no w1 W) := by
    rintro W rfl
    exact ⟨by rw [hA]; exact blk_new w1 _, ((Keeps.refl _ _).alloc _).drew⟩
  have h2 := H2.out _ rfl
  rw [← hA]
  generalize (w1.alloc (.cells #[.slice co cn cc, .slice vo vn vc] 40)).drew = w2 at h2 ⊢
  have HA2 : Hid (w2.heap[A]? = some (.cells #[.slice co cn cc, .slice vo vn vc] 40 (0, 0)) ∧ w2.heap[B]? = some (.cells #[.string x0, .int .u64 (x1 : Nat), .string x2, .slice xo xn xc] 46 (0, 0)) ∧ Keeps no w w2) := ⟨h2.1, h2.2.at H1.out.1 (fun h => h), H1.out.2.1.trans h2.2⟩
  clear h2 H2 HC1 c7 c8 hA
  go_wp2_with fail
  go_loopw [7, 8, 20] (fun _ _ s20 wr => ∃ k : Nat, k ≤ 2 ∧ s20 = .int .i64 k ∧ Hid (Keeps no w2 wr)) (fun _ _ s20 _ => 2 - (intOf s20).toNat)
  case atStart => exact ⟨0, by omega, rfl, Keeps.refl _ _⟩
  case round =>
    rename World => wr
    obtain ⟨k, hk, rfl, HK⟩ := hrel
    by_cases hlt : k < 2
    · have hlt' : (k : Int) < 2 := by omega
      obtain ⟨lo, ln, lc, ls, lv, hwhich, HLL⟩ := HL.out k hlt
      have ck : wr.cell? ⟨A, k, none⟩ = some (.slice lo ln lc) := by
        refine HK.out.cellN ?_
        rw [cell_of_blk HA2.out.1]
        rcases hwhich with ⟨e, rfl, rfl, rfl⟩ | ⟨e, rfl, rfl, rfl⟩ <;> subst e <;> rfl
      have kw : Keeps no w wr := HA2.out.2.2.trans HK.out
      have HIX : Hid (Calls Try.prog 61 #[.slice lo ln lc, .func (.func 60) #[] #[.pointer (some ⟨B, 0, none⟩)]] wr fun e w' => e = .returned (.int .i64 (idxV (fun v => decide (v.id = x1)) lv)) ∧ Keeps no wr w') := indexS_any wr lo ln lc ls lv B x1 (HK.out.cellN (by rw [cell_of_blk HA2.out.2.1]; rfl)) HLL.out.1 HLL.out.2.2.1 (HLL.out.2.1.keepsN kw)
      have hcase := idxV_cases (fun v => decide (v.id = x1)) lv
      generalize idxV (fun v => decide (v.id = x1)) lv = I at HIX hcase
      have HKW : Hid (Keeps no w wr) := kw
      clear hwhich kw
      go_wp2_with fail
      refine Calls.mono HIX.out ?_
      rintro e w3 ⟨rfl, hk3⟩
      have HK3 : Hid (Keeps no w2 w3 ∧ Keeps no w w3) := ⟨HK.out.trans hk3, HKW.out.trans hk3⟩
      clear hk3 HIX ck
      rcases hcase with ⟨rfl, _⟩ | ⟨j, hj, rfl, _⟩
      · go_wp2_with fail
        go_quiet (fail)
        go_wp2_with fail
        go_roundw
        case rel => exact ⟨k + 1, by omega, by go_num, HK3.out.1.drewN _⟩
        case measure => simp [intOf]; omega
      · obtain ⟨b, off, eo, d0, d1, d2, d3⟩ := (HLL.out.2.1.sl.keepsN HK3.out.2).atV (j := j) (by rw [HLL.out.2.1.len]; exact hj)
        have hver := (HLL.out.2.1.each j hj).keepsN HK3.out.2
        have hfv := HLL.out.2.2.2.1.at hj
        have hvb : ∀ i, inO (ls.getD j r0).o i → KB cs came.length i ∨ KB vs first.length i := fun i hi => HLL.out.2.2.2.2 i ⟨j, hj, hi⟩
        generalize ls.getD j r0 = y at d0 d1 d2 d3 hver hvb
        generalize lv.getD j v0 = z at hver hfv
        obtain ⟨y0, y1, y2, yo, yn, yc⟩ := y
        simp only at d0 d1 d2 d3 hver hvb
        have HY : Hid (yn = z.keys.length ∧ Sl TE w3 yo yc z.keys ∧ ∀ i, inO yo i → KB cs came.length i ∨ KB vs first.length i) := ⟨hver.n, hver.sl, hvb⟩
        have HEQ : Hid (∀ X, Keeps no w3 X → Calls Try.prog 62 #[.slice yo yn yc, .slice xo xn xc] X fun e w' => (∃ B : Bool, e = .returned (.bool B) ∧ Hid (B = true ↔ z.keys = v.keys)) ∧ Keeps no X w') := fun X hX => equal_any X yo yn yc xo xn xc z.keys v.keys hver.n HV.out.1 hfv.len HV.out.2.2.len (hver.sl.keepsN hX) (HV.out.2.1.keepsN (HK3.out.2.trans hX))
        have hjn : (j : Int) < ln := by have := HLL.out.1; omega
        have hjp : (0 : Int) ≤ (j : Int) := by omega
        have hln : (ln : Int) ≤ 1024 := by have := HLL.out.1; have := HLL.out.2.2.1; omega
        have e3 : w3.cell? ⟨B, 3, none⟩ = some (.slice xo xn xc) := HK3.out.1.cellN (by rw [cell_of_blk HA2.out.2.1]; rfl)
        have HS : Hid (∀ X, Keeps no w3 X → X.cell? ⟨b, off + j * 4 + 3, none⟩ = some (.slice yo yn yc) ∧ X.cell? ⟨B, 3, none⟩ = some (.slice xo xn xc)) := fun X k => ⟨k.cellN d3, k.cellN e3⟩
        clear hver hfv hvb hj
        subst eo
        go_upto_region 6 with fail
        go_region_held3 (fun X => X.cell? ⟨b, off + j * 4 + 3, none⟩ = some (.slice yo yn yc) ∧ X.cell? ⟨B, 3, none⟩ = some (.slice xo xn xc)) (first | exact HS.out _ ((Keeps.refl no w3).drew) | exact HS.out _ (Keeps.refl no w3) | exact HS.out _ K4.out) ((go_at_call 62; refine (HEQ.out _ ((Keeps.refl no w3).drew)).mono ?_; rintro e w4 ⟨⟨bb, rfl, Hbb⟩, hk4⟩; have K4 : Hid (Keeps no w3 w4) := (Keeps.refl no w3).drew.trans hk4; clear hk4))
        cases bb with
        | true =>
          have HE : Hid (KeyTo w v.keys (fun i => KB cs came.length i ∨ KB vs first.length i) (.returned (.slice yo yn yc)) w4) := by
            have e := Hbb.out.1 rfl
            refine ⟨yo, yn, yc, rfl, by rw [HY.out.1, e], ?_, fun i hi => .inl (HY.out.2.2 i hi), HK3.out.2.trans K4.out⟩
            rw [← e]
            exact HY.out.2.1.keepsN K4.out
          have g3 := (HS.out w4 K4.out).1
          clear d0 d1 d2 d3 e3 Hbb
          go_wp2_with fail
          go_ret
          exact HE.out
        | false =>
          clear d0 d1 d2 d3 e3 Hbb
          go_wp2_with fail
          go_roundw
          case rel => exact ⟨k + 1, by omega, by go_num, HK3.out.1.trans K4.out⟩
          case measure => simp [intOf]; omega
    · have hlt' : ¬ (k : Int) < 2 := by omega
      have e3 : wr.cell? ⟨B, 3, none⟩ = some (.slice xo xn xc) := HK.out.cellN (by rw [cell_of_blk HA2.out.2.1]; rfl)
      have kw : Keeps no w wr := HA2.out.2.2.trans HK.out
      have HCT : Hid (Calls Try.prog 24 #[.slice xo xn xc] wr fun e w' => ∃ u, e = .returned u ∧ Gives TE wr v.keys u w') := copyTexts_any wr xo xn xc v.keys HV.out.1 (by have := HV.out.2.2.len; omega) (fun x hx => by have := HV.out.2.2.keys x hx; omega) (HV.out.2.1.keepsN kw)
      have HKW : Hid (Keeps no w wr) := kw
      clear kw
      go_wp2_with fail
      refine Calls.mono HCT.out ?_
      rintro e w4 ⟨u, rfl, o4, n4, c4, rfl, hn4, ho4, hw4, hk4⟩
      have H4 : Hid (n4 = v.keys.length ∧ Own TE w4 o4 c4 v.keys ∧ New w o4 ∧ Keeps no w w4) := ⟨hn4.out, ho4, hw4.of_le HKW.out.size, HKW.out.trans hk4⟩
      clear hn4 ho4 hw4 hk4
      go_wp2_with fail
      go_ret
      exact ⟨o4, n4, c4, rfl, H4.out.1, H4.out.2.1.sl, fun i hi => .inr ⟨H4.out.2.2.1 i hi, H4.out.2.1.lt i hi⟩, H4.out.2.2.2⟩
end Go.Proofs.Ytileipnoiocdlaa
/- A version kept in its place. -/
namespace Go.Proofs.Ytileipnoiocdlaa
open Go.RowKit Go.Sort Orl
set_option linter.unusedVariables false
set_option linter.unusedSimpArgs false

/-- a version in the place of another -/
def kept (came : List Ver) (k : Nat) (v : Ver) : List Ver := came.set k ⟨(came.getD k v0).key, v.id, v.val, v.keys⟩
/-- behind keep -/
structure KeptTo (w : World) (co : Option Addr) (cc : Nat) (cs : List RV) (came : List Ver) (vs : List RV) (fn : Nat) (k : Nat) (v : Ver) (w' : World) (cs' : List RV) : Prop where
  cam : Own VE w' co cc cs'
  vers : Vers w' co cc cs' (kept came k v)
  keys : ∀ i, KB cs' came.length i → KB cs came.length i ∨ KB vs fn i ∨ (w.heap.size ≤ i ∧ i < w'.heap.size)
  kp : Keeps (inO co) w w'
theorem getD_setV {α : Type} (l : List α) (j k : Nat) (x d : α) (hj : j < l.length) : (l.set j x).getD k d = if k = j then x else l.getD k d := getD_setR l j k x d hj
theorem kept_len (came : List Ver) (k : Nat) (v : Ver) : (kept came k v).length = came.length := by simp [kept]
theorem kept_at {came : List Ver} {k : Nat} (hk : k < came.length) (v : Ver) (j : Nat) : (kept came k v).getD j v0 = if j = k then ⟨(came.getD k v0).key, v.id, v.val, v.keys⟩ else came.getD j v0 := by
  unfold kept; exact getD_setV came k j _ v0 hk
set_option maxRecDepth 10000 in
set_option maxHeartbeats 2000000 in
theorem keep_any (w : World) (p k : Nat) (co : Option Addr) (cn cc : Nat) (cs : List RV) (came : List Ver) (vo : Option Addr) (vn vc : Nat) (vs : List RV) (first : List Ver) (r : RV) (v : Ver)
    (hk : k < came.length) (hcn : cn = came.length) (hvn : vn = first.length) (hco : Own VE w co cc cs) (hc : Vers w co cc cs came) (hv : Vers w vo vc vs first) (hcl : came.length ≤ 1024) (hvl : first.length ≤ 1024) (hcf : FitL came) (hvf : FitL first)
    (hcp : ∀ i, inO co i → i ≠ p) (hck : ∀ i, inO co i → ¬ KB cs came.length i) (hcv : ∀ i, inO co i → ¬ VB vo vs first.length i)
    (c7 : w.cell? ⟨p, 7, none⟩ = some (.slice co cn cc)) (c8 : w.cell? ⟨p, 8, none⟩ = some (.slice vo vn vc)) (hr : VerOf w r v) (hf : FitV v) :
    Calls Try.prog 31 #[.pointer (some ⟨p, 0, none⟩), .int .i64 (k : Nat), aggV r] w fun e w' => e = .returned (.tuple #[]) ∧ ∃ cs', KeptTo w co cc cs came vs first.length k v w' cs' := by
  obtain ⟨x0, x1, x2, xo, xn, xc⟩ := r
  have hck' : k < cs.length := by rw [hc.len]; exact hk
  obtain ⟨g, hg, dk, dk1, dk2, dk3⟩ : ∃ g, co = some ⟨g, 0, none⟩ ∧ w.cell? ⟨g, k * 4, none⟩ = some (.string (cs.getD k r0).key) ∧ w.cell? ⟨g, k * 4 + 1, none⟩ = some (.int .u64 ((cs.getD k r0).id : Nat)) ∧ w.cell? ⟨g, k * 4 + 2, none⟩ = some (.string (cs.getD k r0).val) ∧ w.cell? ⟨g, k * 4 + 3, none⟩ = some (.slice (cs.getD k r0).o (cs.getD k r0).n (cs.getD k r0).c) := by
    obtain ⟨b, off, e, d0, d1, d2, d3⟩ := hc.sl.atV hck'
    rcases hco.shape with ⟨e2, _⟩ | ⟨g, cur, e2, _⟩
    · rw [e2] at e; cases e
    · rw [e] at e2; cases e2
      rw [Nat.zero_add] at d0 d1 d2 d3
      exact ⟨b, e, d0, d1, d2, d3⟩
  have hgl : g < w.heap.size := hco.lt g ⟨_, hg, rfl⟩
  have hkey : (cs.getD k r0).key = (came.getD k v0).key := (hc.each k hk).key
  rw [hkey] at dk
  obtain ⟨kk, hkk⟩ : ∃ kk, kk = (came.getD k v0).key := ⟨_, rfl⟩
  rw [← hkk] at dk
  obtain ⟨i1, hi1⟩ : ∃ i1, i1 = (cs.getD k r0).id := ⟨_, rfl⟩
  obtain ⟨i2, hi2⟩ : ∃ i2, i2 = (cs.getD k r0).val := ⟨_, rfl⟩
  obtain ⟨i3, hi3⟩ : ∃ i3, i3 = (cs.getD k r0).o := ⟨_, rfl⟩
  obtain ⟨i4, hi4⟩ : ∃ i4, i4 = (cs.getD k r0).n := ⟨_, rfl⟩
  obtain ⟨i5, hi5⟩ : ∃ i5, i5 = (cs.getD k r0).c := ⟨_, rfl⟩
  rw [← hi1] at dk1
  rw [← hi2] at dk2
  rw [← hi3, ← hi4, ← hi5] at dk3
  have HX : Hid (x1 = v.id ∧ x2 = v.val ∧ x2.size ≤ 281474976710656) := ⟨hr.id, hr.val, by have := hf.val; have e : x2 = v.val := hr.val; rw [e]; omega⟩
  have HKO : Hid (∀ X, Keeps no w X → Calls Try.prog 47 #[.pointer (some ⟨p, 0, none⟩), .agg #[.string x0, .int .u64 (x1 : Nat), .string x2, .slice xo xn xc]] X (KeyTo X v.keys (fun i => KB cs came.length i ∨ KB vs first.length i))) := fun X hX =>
    keysOf_any X p co cn cc cs came vo vn vc vs first ⟨x0, x1, x2, xo, xn, xc⟩ v hcn hvn (hc.keepsN hX) (hv.keepsN hX) hcl hvl hcf hvf (hX.cellN c7) (hX.cellN c8) (hr.keepsN hX) hf
  have HEND : Hid (∀ X yo yn yc, Keeps no w X → yn = v.keys.length → Sl TE X yo yc v.keys → (∀ i, inO yo i → (KB cs came.length i ∨ KB vs first.length i) ∨ (w.heap.size ≤ i ∧ i < X.heap.size)) → (∀ i, X.frozen? ⟨g, i, none⟩ = false) ∧ KeptTo w co cc cs came vs first.length k v (X.setCells g (k * 4) [.string kk, .int .u64 (x1 : Nat), .string x2, .slice yo yn yc]) (cs.set k ⟨kk, x1, x2, yo, yn, yc⟩) ∧ (X.setCells g (k * 4) [.string kk, .int .u64 (x1 : Nat), .string x2, .slice yo yn yc]).cell? ⟨g, k * 4, none⟩ = some (.string kk) ∧ Keeps (fun i => i = g) X (X.setCells g (k * 4) [.string kk, .int .u64 (x1 : Nat), .string x2, .slice yo yn yc])) := by
    intro X yo yn yc hX hyn hys hyb
    obtain ⟨g', e, hfz, ho, hK⟩ := (hco.keepsN hX).storeE okV k hck' ⟨kk, x1, x2, yo, yn, yc⟩
    rw [hg] at e; cases e
    have ho' : Own VE (X.setCells g (k * 4) [.string kk, .int .u64 (x1 : Nat), .string x2, .slice yo yn yc]) co cc (cs.set k ⟨kk, x1, x2, yo, yn, yc⟩) := ho
    have hK' : Keeps (inO co) X (X.setCells g (k * 4) [.string kk, .int .u64 (x1 : Nat), .string x2, .slice yo yn yc]) := hK
    have hsz := hK'.size
    have hyc : ∀ i, inO yo i → ¬ inO co i := fun i hi hj => by
      rcases hyb i hi with (h | h) | h
      · exact hck i hj h
      · exact hcv i hj (.inr h)
      · have := hco.lt i hj; omega
    have hl : (cs.set k (⟨kk, x1, x2, yo, yn, yc⟩ : RV)).length = (kept came k v).length := by rw [List.length_set, kept_len]; exact hc.len
    have hcell : (X.setCells g (k * 4) [.string kk, .int .u64 (x1 : Nat), .string x2, .slice yo yn yc]).cell? ⟨g, k * 4, none⟩ = some (.string kk) := by
      obtain ⟨b, off, e, d0, _⟩ := ho'.sl.atV (j := k) (by rw [List.length_set]; exact hck')
      rcases ho'.shape with ⟨e2, _⟩ | ⟨g2, cur, e2, _⟩
      · rw [e2] at e; cases e
      · rw [e] at e2; cases e2
        rw [hg] at e; cases e
        rw [Nat.zero_add, getD_setV cs k k _ r0 hck', if_pos rfl] at d0
        exact d0
    refine ⟨hfz, ⟨ho', ⟨ho'.sl, hl, fun j hj => ?_⟩, ?_, hX.of_no.trans hK'⟩, hcell, keeps_setCells _ _ _⟩
    · rw [kept_len] at hj
      rw [getD_setV cs k j _ r0 hck', kept_at hk]
      split
      · exact ⟨hkk, HX.out.1, HX.out.2.1, hyn, hys.keeps hK' hyc⟩
      · exact ((hc.each j hj).keepsN hX).keeps hK' (fun i hi hi2 => hck i hi2 ⟨j, hj, hi⟩)
    · rintro i ⟨j, hj, hi⟩
      rw [getD_setV cs k j _ r0 hck'] at hi
      split at hi
      · rcases hyb i hi with (h | h) | h
        · exact .inl h
        · exact .inr (.inl h)
        · exact .inr (.inr ⟨h.1, by omega⟩)
      · exact .inl ⟨j, hj, hi⟩
  have HPG : Hid (p ≠ g ∧ g < w.heap.size) := ⟨fun e => hcp g ⟨_, hg, rfl⟩ e.symm, hgl⟩
  have hkn : (k : Int) < cn := by omega
  have hcnb : (cn : Int) ≤ 1024 := by omega
  have HC : Hid (∀ X, Keeps no w X → X.cell? ⟨p, 7, none⟩ = some (.slice co cn cc) ∧ X.cell? ⟨g, k * 4, none⟩ = some (.string kk) ∧ X.cell? ⟨g, k * 4 + 1, none⟩ = some (.int .u64 (i1 : Nat)) ∧ X.cell? ⟨g, k * 4 + 2, none⟩ = some (.string i2) ∧ X.cell? ⟨g, k * 4 + 3, none⟩ = some (.slice i3 i4 i5)) := fun X hX => ⟨hX.cellN c7, hX.cellN dk, hX.cellN dk1, hX.cellN dk2, hX.cellN dk3⟩
  obtain ⟨B, hB⟩ : ∃ B, B = w.heap.size := ⟨_, rfl⟩
  have H0 : Hid (∀ W, W = w.alloc (.cells #[.string x0, .int .u64 (x1 : Nat), .string x2, .slice xo xn xc] 46) → W.heap[B]? = some (.cells #[.string x0, .int .u64 (x1 : Nat), .string x2, .slice xo xn xc] 46 (0, 0)) ∧ Keeps no w W) := by
    rintro W rfl
    exact ⟨by rw [hB]; exact blk_new w _, (Keeps.refl _ _).alloc _⟩
  clear hk hcn hvn hco hc hv hcl hvl hcf hvf hcp hck hcv c7 c8 hr hf hck' dk dk1 dk2 dk3 hi1 hi2 hi3 hi4 hi5 hkey hkk hgl
  subst hg
  unfold aggV
  simp only
  go_enter Try.func31, Try.ntmps31
  go_upto_region 1 with fail
  have hW := H0.out _ rfl
  rw [← hB]
  generalize w.alloc (.cells #[.string x0, .int .u64 (x1 : Nat), .string x2, .slice xo xn xc] 46) = w1 at hW ⊢
  have H1 : Hid (w1.heap[B]? = some (.cells #[.string x0, .int .u64 (x1 : Nat), .string x2, .slice xo xn xc] 46 (0, 0)) ∧ Keeps no w w1) := hW
  have HBG : Hid (B ≠ g) := by have := HPG.out.2; show B ≠ g; omega
  have HS : Hid (∀ X, Keeps no w1 X → X.cell? ⟨p, 7, none⟩ = some (.slice (some ⟨g, 0, none⟩) cn cc) ∧ X.cell? ⟨g, k * 4, none⟩ = some (.string kk) ∧ X.cell? ⟨B, 0, none⟩ = some (.string x0) ∧ X.cell? ⟨B, 1, none⟩ = some (.int .u64 (x1 : Nat)) ∧ X.cell? ⟨B, 2, none⟩ = some (.string x2) ∧ X.cell? ⟨B, 3, none⟩ = some (.slice xo xn xc)) := fun X hX => by
    have h1 := HC.out X (H1.out.2.trans hX)
    have h2 := hX.at H1.out.1 (fun h => h)
    exact ⟨h1.1, h1.2.1, by rw [cell_of_blk h2]; rfl, by rw [cell_of_blk h2]; rfl, by rw [cell_of_blk h2]; rfl, by rw [cell_of_blk h2]; rfl⟩
  have HSF : Hid (∀ X yo yn yc, (Keeps no w1 X ∧ yn = v.keys.length ∧ Sl TE X yo yc v.keys ∧ ∀ i, inO yo i → (KB cs came.length i ∨ KB vs first.length i) ∨ (w.heap.size ≤ i ∧ i < X.heap.size)) → ∀ Y, Y = X.setCells g (k * 4) [.string kk, .int .u64 (x1 : Nat), .string x2, .slice yo yn yc] → Y.cell? ⟨p, 7, none⟩ = some (.slice (some ⟨g, 0, none⟩) cn cc) ∧ Y.cell? ⟨g, k * 4, none⟩ = some (.string kk) ∧ Y.cell? ⟨B, 0, none⟩ = some (.string x0) ∧ Y.cell? ⟨B, 1, none⟩ = some (.int .u64 (x1 : Nat)) ∧ Y.cell? ⟨B, 2, none⟩ = some (.string x2) ∧ Y.cell? ⟨B, 3, none⟩ = some (.slice xo xn xc)) := by
    rintro X yo yn yc ⟨h1, h2, h3, h4⟩ Y rfl
    obtain ⟨_, _, h5, h6⟩ := HEND.out X yo yn yc (H1.out.2.trans h1) h2 h3 h4
    obtain ⟨s7, _, s0, s1, s2, s3⟩ := HS.out X h1
    exact ⟨h6.cell s7 HPG.out.1, h5, h6.cell s0 HBG.out, h6.cell s1 HBG.out, h6.cell s2 HBG.out, h6.cell s3 HBG.out⟩
  clear hW H0 hB
  go_region_held3 (fun X => X.cell? ⟨p, 7, none⟩ = some (.slice (some ⟨g, 0, none⟩) cn cc) ∧ X.cell? ⟨g, k * 4, none⟩ = some (.string kk) ∧ X.cell? ⟨B, 0, none⟩ = some (.string x0) ∧ X.cell? ⟨B, 1, none⟩ = some (.int .u64 (x1 : Nat)) ∧ X.cell? ⟨B, 2, none⟩ = some (.string x2) ∧ X.cell? ⟨B, 3, none⟩ = some (.slice xo xn xc)) (first | exact HSF.out _ _ _ _ K2.out _ rfl | exact HS.out _ K2.out.1 | exact HS.out _ K1.out | exact HS.out _ ((Keeps.refl no w1).drew) | exact HS.out _ (Keeps.refl no w1)) ((first | (go_at_call 47; refine (HKO.out _ (H1.out.2.trans K1.out)).mono ?_; rintro e u2 ⟨yo, yn, yc, rfl, hyn, hys, hyb, hyk⟩; have K2 : Hid (Keeps no w1 u2 ∧ yn = v.keys.length ∧ Sl TE u2 yo yc v.keys ∧ ∀ i, inO yo i → (KB cs came.length i ∨ KB vs first.length i) ∨ (w.heap.size ≤ i ∧ i < u2.heap.size)) := ⟨K1.out.trans hyk, hyn, hys, fun i hi => (hyb i hi).imp id (fun h => ⟨Nat.le_trans (H1.out.2.trans K1.out).size h.1, h.2⟩)⟩; have hE := (HEND.out u2 yo yn yc (H1.out.2.trans K2.out.1) K2.out.2.1 K2.out.2.2.1 K2.out.2.2.2).1; have g0 := hE (k * 4); have g1 := hE (k * 4 + 1); have g2 := hE (k * 4 + 2); have g3 := hE (k * 4 + 3); obtain ⟨-, b0, b1, b2, b3⟩ := HC.out u2 (H1.out.2.trans K2.out.1); clear hyn hys hyb hyk hE) | (go_at_call 42; refine (sclone_any _ x2 HX.out.2.2).mono ?_; rintro e u1 ⟨rfl, hk'⟩; have K1 : Hid (Keeps no w1 u1) := (Keeps.refl no w1).drew.trans hk'; clear hk')))
  go_end0
  exact ⟨rfl, _, (HEND.out u2 yo yn yc (H1.out.2.trans K2.out.1) K2.out.2.1 K2.out.2.2.1 K2.out.2.2.2).2.1⟩
end Go.Proofs.Ytileipnoiocdlaa
/- A question taken out. -/
namespace Go.Proofs.Ytileipnoiocdlaa
open Go.RowKit Go.Sort Orl
set_option linter.unusedVariables false
set_option linter.unusedSimpArgs false

def z10 : List Value := [.int .i64 0, .int .i64 0, .int .i64 0, .int .u64 0, .int .u64 0, .slice none 0 0, .slice none 0 0, .slice none 0 0, .slice none 0 0, .map none]
theorem lenR (xs : List RZ) : (RE.cells xs).length = xs.length * 10 := cells_length okRE xs
/-- one out: those behind it moved down, the last one's cells zeroed -/
theorem own_down {w : World} {g c k : Nat} {xs : List RZ} (h : Own RE w (some ⟨g, 0, none⟩) c xs) (hk : k < xs.length) :
    Own RE ((w.setCells g (0 + k * 10) (RE.cells (xs.drop (k + 1)))).setCells g (0 + (xs.length - 1) * 10) z10) (some ⟨g, 0, none⟩) c (xs.eraseIdx k) := by
  have hlx := lenR xs
  have hld := lenR (xs.drop (k + 1))
  have hlt := lenR (xs.take k)
  rw [List.length_drop] at hld
  rw [List.length_take, Nat.min_eq_left (by omega)] at hlt
  have hle : (xs.eraseIdx k).length = xs.length - 1 := by rw [List.length_eraseIdx]; simp [hk]
  rcases h.shape with ⟨e, _⟩ | ⟨g', cur, e, hg, h1, h2, h3, h4⟩
  · cases e
  · cases e
    obtain ⟨c1, a1, a2, a3⟩ := blk_setCells (RE.cells (xs.drop (k + 1))) (0 + k * 10) hg
    obtain ⟨c2, b1, b2, b3⟩ := blk_setCells z10 (0 + (xs.length - 1) * 10) a1
    have hz : z10.length = 10 := rfl
    have h3' : cur.size = c * 10 := h3
    have h4' : cur.toList.take (xs.length * 10) = RE.cells xs := h4
    refine own_of_shape okRE b1 (by rw [hle]; omega) h2 (by rw [b2, a2]; exact h3) ?_
    rw [hle]
    show c2.toList.take ((xs.length - 1) * 10) = _
    rw [List.eraseIdx_eq_take_drop_succ, cells_append]
    apply List.ext_getElem?
    intro j
    rw [List.getElem?_take]
    by_cases hj : j < (xs.length - 1) * 10
    · rw [if_pos hj, Array.getElem?_toList, b3, if_neg (by omega), a3]
      by_cases hjk : j < k * 10
      · rw [if_neg (by omega), List.getElem?_append_left (by omega)]
        have e : RE.cells xs = RE.cells (xs.take k) ++ RE.cells (xs.drop k) := by rw [← cells_append, List.take_append_drop]
        have e2 : cur[j]? = (RE.cells xs)[j]? := by
          rw [← h4', List.getElem?_take, if_pos (by omega), Array.getElem?_toList]
        rw [e2, e, List.getElem?_append_left (by omega)]
      · rw [if_pos (by omega), List.getElem?_append_right (by omega), hlt, show j - (0 + k * 10) = j - k * 10 by omega]
    · rw [if_neg hj]
      symm
      apply List.getElem?_eq_none
      rw [List.length_append]; omega
theorem step_appRun {ops : Array Oper} {o : Oper} {a : Act} {w : World} {K : Act → World → Prop} {Q : Exit → Act → World → Prop} {Ep : Prop}
    (hg : o.guard = none) (d x : Operand) (dT sT : TypeId) (hop : o.op = Op.call { callee := Callee.builtin .append, args := #[d, x], argTypes := #[dT, sT] })
    (v u : Value) (hd : a.eval d = v) (hx : a.eval x = u) {v' : Value} {w' : World} (hr : (Builtin.append_ #[dT, sT] o.type #[v, u]).run Try.prog w = .ok v' w') (hK : K (a.put o.dst v') w') :
    if Region.wanted o (yielded ops a.tmps) = true then Oper.wp Try.prog o a w K Q else Ep := by
  have hw : Region.wanted o (yielded ops a.tmps) = true := by simp [Region.wanted, hg]
  rw [if_pos hw]
  unfold Oper.wp execOp
  simp only [hop, resolve, invoke, builtin, Sem.run_bind, Sem.run_pure, Result.andThen_ok, List.map_toArray, List.map_cons, List.map_nil, hd, hx, hr]
  exact hK
theorem slR : Try.prog.underlying 77 = some (.slice (Try.prog.elem 77)) := by kernel_rfl
theorem cutR3 (g off n c k : Nat) (hk : k < n) (hn : n ≤ c) : ∃ v, ∀ X, (Instr.slice 77 (.slice (some ⟨g, off, none⟩) n c) (some (.int .i64 ((k : Nat) : Int))) (some (.int .i64 ((k : Int) + 1))) (some (.int .i64 (n : Int)))).run Try.prog X = .ok v X := by
  refine ⟨.slice (some (if n = k then ⟨g, off, none⟩ else (⟨g, off, none⟩ : Addr).add (k * 10))) 1 (n - k), fun X => ?_⟩
  rw [run_slice_lhm X 77 (some ⟨g, off, none⟩) _ c slR .i64 .i64 .i64 _ _ _ (by omega) (by omega) (by omega) (by omega)]
  have h : ¬ n = k := by omega
  have e : ((k : Int) + 1).toNat - k = 1 := by omega
  go_simp
  try simp [h, e]
theorem cutRh (g off n c I : Nat) (h1 : I ≤ c) : ∀ X, (Instr.slice 77 (.slice (some ⟨g, off, none⟩) n c) none (some (.int .i64 ((I : Nat) : Int))) none).run Try.prog X = .ok (.slice (some ⟨g, off, none⟩) I c) X := by
  intro X
  rw [run_slice_h X 77 (some ⟨g, off, none⟩) _ c slR .i64 _ (by omega) (by omega)]
  go_simp
theorem cutRl (g off n c I : Nat) (hI : I ≤ n) (hn : n ≤ c) : ∃ A : Addr, (I < c → A = ⟨g, off + I * 10, none⟩) ∧ ∀ X, (Instr.slice 77 (.slice (some ⟨g, off, none⟩) n c) (some (.int .i64 ((I : Nat) : Int))) none none).run Try.prog X = .ok (.slice (some A) (n - I) (c - I)) X := by
  refine ⟨if c = I then ⟨g, off, none⟩ else (⟨g, off, none⟩ : Addr).add (I * 10), fun h => ?_, fun X => ?_⟩
  · rw [if_neg (by omega), addr_add]
  · rw [run_slice_l X 77 (some ⟨g, off, none⟩) _ c slR .i64 _ (by omega) (by omega)]
    by_cases h : c = I
    · go_simp
    · go_simp
theorem cutRlh (g off n c I J : Nat) (hI : I ≤ J) (hJ : J ≤ c) (hc : I < c) : ∀ X, (Instr.slice 77 (.slice (some ⟨g, off, none⟩) n c) (some (.int .i64 ((I : Nat) : Int))) (some (.int .i64 ((J : Nat) : Int))) none).run Try.prog X = .ok (.slice (some ⟨g, off + I * 10, none⟩) (J - I) (c - I)) X := by
  intro X
  rw [run_slice_lh X 77 (some ⟨g, off, none⟩) _ c slR .i64 .i64 _ _ (by omega) (by omega) (by omega)]
  have h : ¬ c = I := by omega
  go_simp
  try rw [addr_add]
  try (first | rfl | (congr 1; omega))
theorem clear1 (w : World) (g o c : Nat) (cur : Array Value) (hg : w.heap[g]? = some (.cells cur 84 (0, 0))) (hc : o + 10 ≤ cur.size) :
    (Builtin.clear_ #[77] 0 #[.slice (some ⟨g, o, none⟩) 1 c]).run Try.prog w = .ok (.tuple #[]) (w.setCells g o z10) := by
  obtain ⟨i0, hi, hz0, hz1, hz2⟩ := info_parts infoRE
  have hv : (zeroValue 84).run Try.prog w = .ok (.agg #[.int .i64 0, .int .i64 0, .int .i64 0, .int .u64 0, .int .u64 0, .slice none 0 0, .slice none 0 0, .slice none 0 0, .slice none 0 0, .map none]) w := by simp [zeroValue, typeInfo, hi, hz0]
  have hzc : (Builtin.zeroCells (Value.agg #[.int .i64 0, .int .i64 0, .int .i64 0, .int .u64 0, .int .u64 0, .slice none 0 0, .slice none 0 0, .slice none 0 0, .slice none 0 0, .map none]).cells 1).toList = z10 := by kernel_rfl
  have hst := run_storeCells_cells (P := Try.prog) g o z10 0 w (fun j hj => by rw [cell_of_blk hg]; simp [z10] at hj ⊢; omega) (fun j hj => frozen_of_blk hg _) (by intro u hu; simp [z10] at hu; rcases hu with rfl | rfl | rfl | rfl | rfl <;> rfl)
  simp only [Nat.add_zero] at hst
  simp [Builtin.clear_, run_underlying Try.underlying77, hv, hzc, hst]
set_option maxRecDepth 10000 in
set_option maxHeartbeats 2000000 in
theorem delete_any (w : World) (g n c k : Nat) (xs : List RZ) (h : Own RE w (some ⟨g, 0, none⟩) c xs) (hn : n = xs.length) (hk : k < n) (hnb : n ≤ 64) :
    Calls Try.prog 32 #[.slice (some ⟨g, 0, none⟩) n c, .int .i64 (k : Nat), .int .i64 ((k : Int) + 1)] w fun e w' => e = .returned (.slice (some ⟨g, 0, none⟩) (n - 1) c) ∧ Own RE w' (some ⟨g, 0, none⟩) c (xs.eraseIdx k) ∧ Keeps (fun i => i = g) w w' := by
  obtain ⟨m, hm⟩ : ∃ m, m + 1 = n := ⟨n - 1, by omega⟩
  have hmm : n - 1 = m := by omega
  rw [hmm]
  obtain ⟨cur, hg, hcs, hnc⟩ : ∃ cur, w.heap[g]? = some (.cells cur 84 (0, 0)) ∧ 0 + c * 10 ≤ cur.size ∧ n ≤ c := by
    rcases h.shape with ⟨e, _⟩ | ⟨g', cur, e, hg, h1, h2, h3, h4⟩
    · cases e
    · cases e
      have h3 : cur.size = c * 10 := h3
      exact ⟨cur, hg, by omega, by omega⟩
  obtain ⟨i0, hi, hz0, hz1, hz2⟩ := info_parts infoRE
  obtain ⟨v3, hs3⟩ := cutR3 g 0 n c k hk hnc
  have hsh := cutRh g 0 n c k (by omega)
  obtain ⟨A, hA, hsl⟩ := cutRl g 0 n c (k + 1) (by omega) hnc
  have hsl' : ∀ X, (Instr.slice 77 (.slice (some ⟨g, 0, none⟩) n c) (some (.int .i64 ((k : Int) + 1))) none none).run Try.prog X = .ok (.slice (some A) (n - (k + 1)) (c - (k + 1))) X := hsl
  have hld := lenR (xs.drop (k + 1))
  rw [List.length_drop] at hld
  have hgd : w.drew.heap[g]? = some (.cells cur 84 (0, 0)) := hg
  have hcu := cutRlh g 0 m c m (m + 1) (by omega) (by omega) (by omega)
  have hcu' : ∀ X, (Instr.slice 77 (.slice (some ⟨g, 0, none⟩) m c) (some (.int .i64 ((m : Nat) : Int))) (some (.int .i64 ((n : Nat) : Int))) none).run Try.prog X = .ok (.slice (some ⟨g, 0 + m * 10, none⟩) 1 (c - m)) X := by
    intro X
    have h1 := hcu X
    rw [show m + 1 - m = 1 by omega, hm] at h1
    exact h1
  have hap : (Builtin.append_ #[77, 77] 77 #[.slice (some ⟨g, 0, none⟩) k c, .slice (some A) (n - (k + 1)) (c - (k + 1))]).run Try.prog w.drew = .ok (.slice (some ⟨g, 0, none⟩) m c) (w.drew.setCells g (0 + k * 10) (RE.cells (xs.drop (k + 1)))) := by
    have hr := run_append_room_cells (P := Try.prog) w.drew 77 77 84 i0 Try.underlying77 hi g 0 k c A (n - (k + 1)) (c - (k + 1)) (RE.cells (xs.drop (k + 1))) (by rw [hz1, hld, hn]) (fun j u hj => by
      have hjl := (List.getElem?_eq_some_iff.1 hj).1
      rw [hld] at hjl
      rw [hA (by omega), addr_add]
      have hrow := (h.sl.row.drop okRE (k + 1) (a' := some ⟨g, 0 + (k + 1) * 10, none⟩) (fun _ b o e => by cases e; rfl))
      have := hrow.news j u hj
      rw [addr_add] at this
      exact this) (cells_one okRE _) (by omega) (fun j hj => by
      rw [hld] at hj
      rw [cell_of_blk hgd, hz1]; simp; omega) (fun j hj => frozen_of_blk hgd _)
    rw [hz1, show k + (n - (k + 1)) = m by omega] at hr
    exact hr
  obtain ⟨w1, hw1⟩ : ∃ w1, w1 = w.drew.setCells g (0 + k * 10) (RE.cells (xs.drop (k + 1))) := ⟨_, rfl⟩
  rw [← hw1] at hap
  obtain ⟨cur1, a1, a2, a3⟩ := blk_setCells (RE.cells (xs.drop (k + 1))) (0 + k * 10) hgd
  rw [← hw1] at a1
  have hcl := clear1 w1 g (0 + m * 10) (c - m) cur1 a1 (by rw [a2]; omega)
  have HE : Hid (Own RE (w1.setCells g (0 + m * 10) z10) (some ⟨g, 0, none⟩) c (xs.eraseIdx k) ∧ Keeps (fun i => i = g) w (w1.setCells g (0 + m * 10) z10)) := by
    have h1 := own_down (h.keepsN ((Keeps.refl no w).drew)) (k := k) (by omega)
    rw [show xs.length - 1 = m by omega, ← hw1] at h1
    refine ⟨h1, ?_⟩
    refine keeps_setCells' _ _ ?_ (.inl rfl)
    rw [hw1]
    exact keeps_setCells' _ _ ((Keeps.refl _ w).drew) (.inl rfl)
  have HAP : Hid ((Builtin.append_ #[77, 77] 77 #[.slice (some ⟨g, 0, none⟩) k c, .slice (some A) (n - (k + 1)) (c - (k + 1))]).run Try.prog w.drew = .ok (.slice (some ⟨g, 0, none⟩) m c) w1) := hap
  have hk1 : ((k : Int) == (k : Int) + 1) = false := by simp; omega
  generalize hD : n - (k + 1) = D at *
  generalize hD2 : c - (k + 1) = D2 at *
  generalize hD3 : c - m = D3 at *
  clear h hn hap hw1 a1 a2 a3 hg hgd hcs hz0 hz1 hz2 hi hsl hcu hA hld hD hD2 hD3 hm hmm
  simp only [Nat.zero_add] at hcl HE hcu'
  go_enter Try.func32, Try.ntmps32
  go_upto_region 5 with fail
  go_region_law (refine step_appRun rfl (.tmp 22) (.tmp 25) 77 77 rfl _ _ rfl rfl HAP.out ?_)
  go_wp2_with fail
  go_ret
  exact ⟨rfl, HE.out⟩
end Go.Proofs.Ytileipnoiocdlaa

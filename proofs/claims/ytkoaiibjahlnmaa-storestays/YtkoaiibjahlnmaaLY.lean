import Derived.Test.YtkoaiibjahlnmaaKn
import Derived.Test.YtkoaiibjahlnmaaLR
import Derived.Test.YtkoaiibjahlnmaaYP
import Derived.Deep.RegionHeldLaw
/- StoreStays. -/
namespace Go.Proofs.Ytkoaiibjahlnmaa
open Go.RowKit Go.Maps Go.Sort Orl
set_option linter.unusedVariables false
set_option linter.unusedSimpArgs false

theorem cells4r {w : World} {R : Nat} {a b c d : Value} {t : TypeId} (h : w.heap[R]? = some (.cells #[a, b, c, d] t (0, 0))) : w.cell? ⟨R, 0, none⟩ = some a ∧ w.cell? ⟨R, 1, none⟩ = some b ∧ w.cell? ⟨R, 2, none⟩ = some c ∧ w.cell? ⟨R, 3, none⟩ = some d :=
  ⟨cell_of_blk h 0, cell_of_blk h 1, cell_of_blk h 2, cell_of_blk h 3⟩
/-- all that is held; P: what is not the store's -/
structure YS (w wr : World) (p : Nat) (s : St) (N : Nat) (P : Nat → Prop) (fo : Option Addr) (fn fc : Nat) (fs : List FV) (wo : Option Addr) (wn wc : Nat) (ks : List KV) : Prop where
  ow : Ow w wr p s N P
  fown : Own FE wr fo fc fs
  fP : ∀ b, inO fo b → P b
  fn : fn = fs.length
  fkey : ∀ f ∈ fs, Own TE wr f.o f.c f.keys ∧ ∀ b, inO f.o b → P b
  wown : Own KE wr wo wc ks
  wP : ∀ b, inO wo b → P b
  wn : wn = ks.length
  kl : ks.length ≤ N
theorem YS.keeps {w wr wr' : World} {p : Nat} {s s' : St} {N N' : Nat} {P : Nat → Prop} {fo : Option Addr} {fn fc : Nat} {fs : List FV} {wo : Option Addr} {wn wc : Nat} {ks : List KV} (h : YS w wr p s N P fo fn fc fs wo wn wc ks) (ho : Ow w wr' p s' N' P) (hN : N ≤ N') (hk : Keeps (fun b => ¬ P b) wr wr') : YS w wr' p s' N' P fo fn fc fs wo wn wc ks :=
  ⟨ho, h.fown.keeps hk (fun b hb hc => hc (h.fP b hb)), h.fP, h.fn, fun f hf => ⟨(h.fkey f hf).1.keeps hk (fun b hb hc => hc ((h.fkey f hf).2 b hb)), (h.fkey f hf).2⟩, h.wown.keeps hk (fun b hb hc => hc (h.wP b hb)), h.wP, h.wn, Nat.le_trans h.kl hN⟩
theorem YS.go {w wr wr' : World} {p : Nat} {s : St} {N : Nat} {P : Nat → Prop} {fo : Option Addr} {fn fc : Nat} {fs : List FV} {wo : Option Addr} {wn wc : Nat} {ks : List KV} (h : YS w wr p s N P fo fn fc fs wo wn wc ks) (hk : Keeps no wr wr') : YS w wr' p s N (fun b => P b ∨ (wr.heap.size ≤ b ∧ b < wr'.heap.size)) fo fn fc fs wo wn wc ks :=
  ⟨h.ow.grow hk, h.fown.keepsN hk, fun b hb => .inl (h.fP b hb), h.fn, fun f hf => ⟨(h.fkey f hf).1.keepsN hk, fun b hb => .inl ((h.fkey f hf).2 b hb)⟩, h.wown.keepsN hk, fun b hb => .inl (h.wP b hb), h.wn, h.kl⟩
theorem ft_ne : FE.e ≠ TE.e := by decide
theorem fk_ne : FE.e ≠ KE.e := by decide
/-- one fact more -/
theorem YS.push {w wr wr' : World} {p : Nat} {s : St} {N : Nat} {P : Nat → Prop} {fo : Option Addr} {fn fc : Nat} {fs : List FV} {wo : Option Addr} {wn wc : Nat} {ks : List KV} (h : YS w wr p s N P fo fn fc fs wo wn wc ks) {f : FV} (hf : Own TE wr f.o f.c f.keys) (hfP : ∀ b, inO f.o b → P b) {o' : Option Addr} {c' : Nat} (ho : Own FE wr' o' c' (fs ++ [f])) (ha : Ap wr fo o' wr') : ∃ P', YS w wr' p s N P' o' (fn + 1) c' (fs ++ [f]) wo wn wc ks ∧ (∀ b, P b → P' b) := by
  have hn1 : fn + 1 = (fs ++ [f]).length := by rw [List.length_append, h.fn]; rfl
  have hall : ∀ g ∈ fs ++ [f], Own TE wr g.o g.c g.keys ∧ ∀ b, inO g.o b → P b := fun g hg => by
    rcases List.mem_append.1 hg with hg | hg
    · exact h.fkey g hg
    · simp at hg; subst hg; exact ⟨hf, hfP⟩
  rcases ha with ⟨rfl, ha⟩ | ⟨⟨g, rfl, hg⟩, ha⟩
  · have hk : Keeps P wr wr' := ha.mono h.fP
    exact ⟨P, ⟨h.ow.other hk, ho, h.fP, hn1, fun g hg => ⟨(hall g hg).1.keeps ha (fun b hb hc => tags_ne h.fown (hall g hg).1 ft_ne b hc hb), (hall g hg).2⟩, h.wown.keeps ha (fun b hb hc => tags_ne h.fown h.wown fk_ne b hc hb), h.wP, h.wn, h.kl⟩, fun b hb => hb⟩
  · exact ⟨_, ⟨h.ow.grow ha, ho, fun b hb => .inr (by obtain ⟨x, e, rfl⟩ := hb; cases e; exact ⟨hg, ho.lt _ ⟨_, rfl, rfl⟩⟩), hn1, fun g hg => ⟨(hall g hg).1.keepsN ha, fun b hb => .inl ((hall g hg).2 b hb)⟩, h.wown.keepsN ha, fun b hb => .inl (h.wP b hb), h.wn, h.kl⟩, fun b hb => .inl hb⟩
theorem Ap.own {α β : Type} {E : El α} {D : El β} {w w' : World} {oa o' : Option Addr} (h : Ap w oa o' w') {c d : Nat} {xs : List α} {ys : List β} (hx : Own E w oa c xs) {od : Option Addr} (hy : Own D w od d ys) (hne : E.e ≠ D.e) : Own D w' od d ys := by
  rcases h with ⟨rfl, ha⟩ | ⟨_, ha⟩
  · exact hy.keeps ha (fun b hb hc => tags_ne hx hy hne b hc hb)
  · exact hy.keepsN ha
/-- ahead of a round: k steps done -/
structure YI (w : World) (p : Nat) (k : Nat) (wr : World) (s : St) (N : Nat) (P : Nat → Prop) (fo : Option Addr) (fn fc : Nat) (fs : List FV) (wo : Option Addr) (wn wc : Nat) (ks : List KV) : Prop where
  ys : YS w wr p s N P fo fn fc fs wo wn wc ks
  le : N ≤ 3 * k
  fact : Fc s fs
  all : AllK s ks
  fl : fs.length ≤ 3 * k
/-- behind the step -/
structure YJ (w : World) (p : Nat) (k : Nat) (wr : World) (s s' : St) (N : Nat) (P : Nat → Prop) (fo : Option Addr) (fn fc : Nat) (fs : List FV) (wo : Option Addr) (wn wc : Nat) (ks : List KV) : Prop where
  ys : YS w wr p s' N P fo fn fc fs wo wn wc ks
  le : N ≤ 3 * (k + 1)
  fact : Fc s' fs
  all : AllK s ks
  okS : Ok s
  stp : Stp s s' (k : Int)
  fl : fs.length ≤ 3 * (k + 1)
theorem Sl.atF {w : World} {a : Option Addr} {c : Nat} {xs : List FV} (h : Sl FE w a c xs) {j : Nat} (hj : j < xs.length) : ∃ b off, a = some ⟨b, off, none⟩ ∧ w.cell? ⟨b, off + j * 4, none⟩ = some (.string (xs.getD j fv0).k) ∧ w.cell? ⟨b, off + j * 4 + 1, none⟩ = some (.int .u64 (((xs.getD j fv0).i : Nat) : Int)) ∧ w.cell? ⟨b, off + j * 4 + 2, none⟩ = some (.string (xs.getD j fv0).v) ∧ w.cell? ⟨b, off + j * 4 + 3, none⟩ = some (.slice (xs.getD j fv0).o (xs.getD j fv0).keys.length (xs.getD j fv0).c) := by
  rcases h.row with e | ⟨b, off, rfl, hc⟩
  · subst e; simp at hj
  · refine ⟨b, off, rfl, hc (j * 4) _ ?_, ?_, ?_, ?_⟩
    · have := cells_at okF fv0 xs j 0 hj (by decide)
      simpa [FE] using this
    · rw [Nat.add_assoc]
      refine hc (j * 4 + 1) _ ?_
      have := cells_at okF fv0 xs j 1 hj (by decide)
      simpa [FE] using this
    · rw [Nat.add_assoc]
      refine hc (j * 4 + 2) _ ?_
      have := cells_at okF fv0 xs j 2 hj (by decide)
      simpa [FE] using this
    · rw [Nat.add_assoc]
      refine hc (j * 4 + 3) _ ?_
      have := cells_at okF fv0 xs j 3 hj (by decide)
      simpa [FE] using this
theorem miss_step {s : St} {i : Nat} {rm : Int} {rt : Tx} {ky' : List Tx} {j : Nat} {x : Tx} (hx : x = ky'.getD j e0) (hk : ky' = setM rm) (hj : j < ky'.length) : miss s i ((pk rm rt).take (j + 1)) = miss s i ((pk rm rt).take j) ++ (if (s.V (x, i)).isNone then [(x, shortT rt)] else []) := by
  subst hk
  have hl : j < (pk rm rt).length := by rw [pk_len]; exact hj
  have e : (pk rm rt).getD j p0 = (x, shortT rt) := by
    rw [hx]
    unfold pk
    simp [List.getD_eq_getElem?_getD, hj]
  unfold miss
  rw [take_succ_getD _ _ p0 hl, List.filter_append, e]
  congr 1
  simp only [List.filter_cons, List.filter_nil]
theorem own_oneF (w : World) (x : FV) (n : Nat) (hn : n = x.keys.length) : Sl FE (w.alloc (.cells #[.string x.k, .int .u64 ((x.i : Nat) : Int), .string x.v, .slice x.o n x.c] 52)) (some ⟨w.heap.size, 0, none⟩) 1 [x] := by
  subst hn
  refine ⟨.inr ⟨_, 0, rfl, fun j u hj => ?_⟩, by simp, fun e => by cases e⟩
  rw [Nat.zero_add, cell_of_blk (blk_new w _)]
  simpa [El.cells, FE] using hj
set_option maxRecDepth 10000 in
set_option maxHeartbeats 4000000 in
theorem stays_any (w : World) (a : Option Addr) (n c : Nat) (xs : List RV) (hn : n = xs.length) (hl : xs.length ≤ 140737488355328) (hs : Sl RE w a c xs) (hr : ∀ r ∈ xs, OkR r) :
    Calls Try.prog 4 #[.slice a n c] w fun e w' => e = .returned (.bool true) ∧ Keeps no w w' := by
  have HA : Hid (n = xs.length) := hn
  have hA : (n : Int) ≤ 140737488355328 := by omega
  have HS : Hid (Sl RE w a c xs ∧ ∀ r ∈ xs, OkR r) := ⟨hs, hr⟩
  have hN := ow_new w
  clear hn hl hs hr
  go_enter Try.func4, Try.ntmps4
  go_wp2_with fail
  refine hN.mono ?_
  rintro e w1 ⟨p, rfl, H1⟩
  clear hN
  go_wp2_with fail
  refine (known_any w1).mono ?_
  rintro e w2 ⟨rfl, hk2⟩
  have H2 : Hid (YI w p 0 w2 St.new 0 no none 0 0 [] none 0 0 []) :=
    ⟨⟨H1.out.go hk2, own_nil _, (fun b hb => by obtain ⟨x, e, _⟩ := hb; cases e), rfl, (fun f hf => by cases hf), own_nil _, (fun b hb => by obtain ⟨x, e, _⟩ := hb; cases e), rfl, Nat.le_refl _⟩, Nat.le_refl _, ⟨List.nodup_nil, (fun m => by simp [St.new]), (fun f hf => by cases hf)⟩, ⟨(fun x hx => by cases hx), fun m hm => absurd rfl hm⟩, Nat.le_refl _⟩
  clear hk2 H1
  go_wp2_with fail
  go_loopw [4, 5, 6] (fun s4 s5 i wr => ∃ (k : Nat) (fo : Option Addr) (fn fc : Nat) (wo : Option Addr) (wn wc : Nat), k ≤ n ∧ k ≤ 100 ∧ i = .int .i64 k ∧ s4 = .slice fo fn fc ∧ s5 = .slice wo wn wc ∧ Hid (∃ s N P fs ks, YI w p k wr s N P fo fn fc fs wo wn wc ks)) (fun _ _ i _ => n - (intOf i).toNat)
  case atStart => exact ⟨0, none, 0, 0, none, 0, 0, by omega, by omega, rfl, rfl, rfl, _, _, _, _, _, H2.out⟩
  case round =>
    obtain ⟨k, fo, fn, fc, wo, wn, wc, hk, hk2, rfl, rfl, rfl, HG⟩ := hrel
    clear H2
    by_cases hlt : k < n ∧ k < 100
    · obtain ⟨hlt, hlt2⟩ := hlt
      have h3 : (k : Int) < n := by omega
      have h4 : (k : Int) < 100 := by omega
      have hka : k < xs.length := by have := HA.out; omega
      obtain ⟨s, N, P, fs, ks, hg⟩ := HG.out
      have HGI : Hid (YI w p k wr s N P fo fn fc fs wo wn wc ks) := hg
      obtain ⟨b1, off1, rfl, d1, d2, d3, d4⟩ := (HS.out.1.keepsN hg.ys.ow.keep).atR hka
      obtain ⟨r, hr⟩ : ∃ r, r = xs.getD k rv0 := ⟨_, rfl⟩
      rw [← hr] at d1 d2 d3 d4
      have HR : Hid (OkR r) := (show OkR r by rw [hr]; exact HS.out.2 _ (getD_mem_lt _ hka))
      obtain ⟨rk, rn, rm, rt⟩ := r
      simp only at d1 d2 d3 d4
      clear hka hr HG hg
      obtain ⟨R, hR⟩ : ∃ R, R = wr.heap.size := ⟨_, rfl⟩
      have HRR : Hid (R = wr.heap.size) := hR
      have hkA : Keeps no wr (wr.alloc (.cells #[.int .i64 rk, .int .i64 rn, .int .i64 rm, .string rt] 30)) := (Keeps.refl no wr).alloc _
      have H4 : Hid (∃ P, YI w p k (wr.alloc (.cells #[.int .i64 rk, .int .i64 rn, .int .i64 rm, .string rt] 30)) s N P fo fn fc fs wo wn wc ks ∧ P R ∧ (wr.alloc (.cells #[.int .i64 rk, .int .i64 rn, .int .i64 rm, .string rt] 30)).heap[R]? = some (.cells #[.int .i64 rk, .int .i64 rn, .int .i64 rm, .string rt] 30 (0, 0))) :=
        ⟨_, ⟨HGI.out.ys.go hkA, HGI.out.le, HGI.out.fact, HGI.out.all, HGI.out.fl⟩, .inr ⟨by rw [hR]; exact Nat.le_refl _, by rw [hR]; simp⟩, by rw [hR]; exact blk_new wr _⟩
      clear hR HGI hkA
      go_wp2_with fail
      refine (rest_any rk 2 _ HR.out.kd (by omega)).mono ?_
      rintro e w4 ⟨rfl, hw4⟩
      subst w4
      rw [← HRR.out]
      generalize wr.alloc (.cells #[.int .i64 rk, .int .i64 rn, .int .i64 rm, .string rt] 30) = w4 at H4 ⊢
      have hr3 := rst_le rk 2
      clear d1 d2 d3 d4 HRR
      obtain ⟨P, H4⟩ := H4.out
      have H5 : Hid (YI w p k w4 s N P fo fn fc fs wo wn wc ks ∧ P R ∧ w4.heap[R]? = some (.cells #[.int .i64 rk, .int .i64 rn, .int .i64 rm, .string rt] 30 (0, 0))) := H4
      clear H4
      have hq3 : ((rst rk 2 : Nat) : Int) = 2 ∨ (¬ ((rst rk 2 : Nat) : Int) = 2) := by omega
      generalize ((rst rk 2 : Nat) : Int) = q at hq3 ⊢
      clear hq3 hr3
      go_upto_if 44 with fail
      generalize (q == 2) = bq
      go_cut [4, 8, 9, 10, 11, 12, 13, 14] from 45 to 102 (fun s4 _ _ _ _ _ _ _ wq => ∃ (fo' : Option Addr) (fn' fc' : Nat), s4 = .slice fo' fn' fc' ∧ Hid (∃ s' N' P' fs', YJ w p k wq s s' N' P' fo' fn' fc' fs' wo wn wc ks))
      case first =>
        have hiw := idw_lt rn
        have hid := fun W => id_any rn W HR.out.wr
        obtain ⟨i, hi⟩ : ∃ i, i = idw rn := ⟨_, rfl⟩
        rw [← hi] at hiw hid
        have HI : Hid (i = idw rn) := hi
        have HID : Hid (∀ W, Calls Try.prog 7 #[.int .i64 rn] W fun e w' => e = .returned (.int .u64 ((i : Nat) : Int)) ∧ w' = W) := hid
        clear hi hid
        obtain ⟨d1, d2, d3, d4⟩ := cells4r H5.out.2.2
        cases bq with
        | true =>
          go_wp2_with fail
          refine (HID.out _).mono ?_
          rintro e w5 ⟨rfl, hw5⟩
          subst w5
          go_wp2_with fail
          refine (H5.out.1.ys.ow.commit i (k : Int) (by omega) hiw.1 (tick_iff.2 ⟨by omega, by omega⟩) (by have := H5.out.1.le; omega)).mono ?_
          rintro e w5 ⟨nn, rfl, hc5, h5⟩
          have H6 : Hid (YJ w p k w5 s (commitS s i (k : Int)) N P fo fn fc fs wo wn wc ks) :=
            ⟨H5.out.1.ys.keeps h5.out.1 (Nat.le_refl _) h5.out.2, by have := H5.out.1.le; omega, H5.out.1.fact.commit i _, H5.out.1.all, H5.out.1.ys.ow.ok, stp_commit s i _, by have := H5.out.1.fl; omega⟩
          clear hc5 h5 d1 d2 d3 d4
          go_wp2_with fail
          go_meet
          exact ⟨fo, fn, fc, rfl, _, _, _, _, H6.out⟩
        | false =>
          go_wp2_with fail
          refine (set_any rm _ HR.out.ma).mono ?_
          rintro e w5 ⟨u5, rfl, ko, kn, kc, rfl, hkn, hko, hknw, hk5⟩
          have hL := setM_len rm
          obtain ⟨ky', hky⟩ : ∃ ky', ky' = setM rm := ⟨_, rfl⟩
          have HKY : Hid (ky' = setM rm) := hky
          have hkn3 : (kn : Int) ≤ 3 := by have := hkn.out; omega
          have H6 : Hid (∃ P', YS w w5 p s N P' fo fn fc fs wo wn wc ks ∧ P' R ∧ (∀ b, inO ko b → P' b) ∧ w5.heap[R]? = some (.cells #[.int .i64 rk, .int .i64 rn, .int .i64 rm, .string rt] 30 (0, 0)) ∧ Own TE w5 ko kc ky' ∧ kn = ky'.length) :=
            ⟨_, H5.out.1.ys.go hk5, .inl H5.out.2.1, fun b hb => .inr ⟨hknw b hb, hko.lt b hb⟩, hk5.at H5.out.2.2 id, by rw [hky]; exact hko, by rw [hky]; exact hkn.out⟩
          clear d1 d2 d3 d4 hkn hko hknw hk5 hL hky
          go_wp2_with fail
          go_loopw [4, 9, 10] (fun s4 s9 s10 wq => ∃ (j : Nat) (fo' : Option Addr) (fn' fc' : Nat) (B : Bool), j ≤ kn ∧ s10 = .int .i64 j ∧ s4 = .slice fo' fn' fc' ∧ s9 = .bool B ∧ Hid (∃ P', YS w wq p s N P' fo' fn' fc' (fs ++ (miss s i ((pk rm rt).take j)).map (mkF i ko kc ky')) wo wn wc ks ∧ P' R ∧ (∀ b, inO ko b → P' b) ∧ wq.heap[R]? = some (.cells #[.int .i64 rk, .int .i64 rn, .int .i64 rm, .string rt] 30 (0, 0)) ∧ Own TE wq ko kc ky' ∧ kn = ky'.length ∧ B = decide (0 < (miss s i ((pk rm rt).take j)).length))) (fun _ _ j _ => kn - (intOf j).toNat)
          case atStart =>
            obtain ⟨P', h1, h2, h3, h4, h5, h6⟩ := H6.out
            exact ⟨0, fo, fn, fc, false, by omega, rfl, rfl, rfl, P', by simpa [miss] using h1, h2, h3, h4, h5, h6, by simp [miss]⟩
          case round =>
            obtain ⟨j, fo', fn', fc', B, hj, rfl, rfl, rfl, HJ⟩ := hrel
            rename World => wq
            clear H6
            obtain ⟨P', HJ⟩ := HJ.out
            have H7 : Hid (YS w wq p s N P' fo' fn' fc' (fs ++ (miss s i ((pk rm rt).take j)).map (mkF i ko kc ky')) wo wn wc ks ∧ P' R ∧ (∀ b, inO ko b → P' b) ∧ wq.heap[R]? = some (.cells #[.int .i64 rk, .int .i64 rn, .int .i64 rm, .string rt] 30 (0, 0)) ∧ Own TE wq ko kc ky' ∧ kn = ky'.length ∧ B = decide (0 < (miss s i ((pk rm rt).take j)).length)) := HJ
            clear HJ
            obtain ⟨d1, d2, d3, d4⟩ := cells4r H7.out.2.2.2.1
            by_cases hjk : j < kn
            · have hjk' : (j : Int) < kn := by omega
              have hja : j < ky'.length := by have := H7.out.2.2.2.2.2.1; omega
              obtain ⟨b2, off2, e2, f1⟩ := H7.out.2.2.2.2.1.sl.at hja
              obtain ⟨x, hx⟩ : ∃ x, x = ky'.getD j e0 := ⟨_, rfl⟩
              rw [← hx] at f1
              subst e2
              have HX : Hid (x = ky'.getD j e0 ∧ j < ky'.length ∧ x.size ≤ 65535) := ⟨hx, hja, by
                obtain ⟨t, _, e⟩ := setM_sub rm x (by rw [← HKY.out, hx]; exact getD_mem_lt _ hja)
                rw [e, ky_size]; omega⟩
              have HBY : Hid (∀ X, Keeps no wq X → Calls Try.prog 10 #[.pointer (some ⟨p, 0, none⟩), .string x, .int .u64 ((i : Nat) : Int)] X fun e w' => ∃ a b c o n d, e = .returned (.tuple #[.agg #[.string a, .int .u64 b, .string c, .slice o n d], .int .i64 (byE s (x, i))]) ∧ Keeps no X w') := fun X hX => ((H7.out.1.ow.go hX).byID x i ⟨by have := HX.out.2.2; show x.size ≤ maxLen; unfold maxLen; omega, by omega⟩).mono (fun e w' ⟨a, b, c, o, n, d, h1, h2, _⟩ => ⟨a, b, c, o, n, d, h1, h2.out⟩)
              have HST : Hid (∀ X, Keeps no wq X → X.cell? ⟨b2, off2 + j, none⟩ = some (.string x) ∧ X.cell? ⟨R, 1, none⟩ = some (.int .i64 rn)) := fun X hX => ⟨hX.cellN f1, hX.cellN d2⟩
              obtain ⟨E1, hE1⟩ : ∃ E1, E1 = byE s (x, i) := ⟨_, rfl⟩
              rw [← hE1] at HBY
              have HE1 : Hid (E1 = byE s (x, i)) := hE1
              clear hx hja hE1
              have HZ : Hid (∀ X, Keeps no (wq.alloc (.cells #[.string ⟨#[]⟩, .int .u64 0, .string ⟨#[]⟩, .slice none 0 0] 38)).drew X → X.heap[wq.heap.size]? = some (.cells #[.string ⟨#[]⟩, .int .u64 0, .string ⟨#[]⟩, .slice none 0 0] 38 (0, 0))) := fun X hX => hX.at (blk_new wq _) id
              go_upto_region 17 with fail
              go_cut [11, 12] from 60 to 71 (fun _ s12 X => s12 = .int .i64 E1 ∧ Hid (Keeps no wq X))
              case first =>
                go_region_held3 (fun X => X.cell? ⟨b2, off2 + j, none⟩ = some (.string x) ∧ X.cell? ⟨R, 1, none⟩ = some (.int .i64 rn)) (first | exact HST.out _ (Keeps.refl no _) | exact HST.out _ ((Keeps.refl no _).drew) | exact HST.out _ (((Keeps.refl no _).drew).alloc _) | exact HST.out _ (((Keeps.refl no _).alloc _).drew) | exact HST.out _ KB.out | exact HST.out _ (KB.out.alloc _) | exact HST.out _ ((((KB.out.setCell (.inr (Nat.le_refl _)) _).setCell (.inr (Nat.le_refl _)) _).setCell (.inr (Nat.le_refl _)) _).setCell (.inr (Nat.le_refl _)) _)) ((first | (go_at_call 7; refine (HID.out _).mono ?_; rintro e wI ⟨rfl, hwI⟩; subst wI) | (go_at_call 10; refine (HBY.out _ (by first | exact (Keeps.refl no _).drew | exact ((Keeps.refl no _).alloc _).drew | exact ((Keeps.refl no _).drew).alloc _)).mono ?_; rintro e wB ⟨xa, xb, xc, xo, xn, xd, rfl, hkB⟩; have KB : Hid (Keeps no wq wB) := (by first | exact ((Keeps.refl no wq).drew).trans hkB | exact (((Keeps.refl no wq).alloc _).drew).trans hkB); (try (have hb := HZ.out _ hkB; have q0 := cell_of_blk hb 0; have q1 := cell_of_blk hb 1; have q2 := cell_of_blk hb 2; have q3 := cell_of_blk hb 3; have g0 := frozen_of_blk hb 0; have g1 := frozen_of_blk hb 1; have g2 := frozen_of_blk hb 2; have g3 := frozen_of_blk hb 3; clear hb)); clear hkB)))
                all_goals (rename _ ∧ _ => hh; clear hh)
                all_goals go_wp2_with fail
                all_goals go_meet
                all_goals first
                  | exact ⟨rfl, KB.out.alloc _⟩
                  | exact ⟨rfl, (((KB.out.setCell (.inr (Nat.le_refl _)) _).setCell (.inr (Nat.le_refl _)) _).setCell (.inr (Nat.le_refl _)) _).setCell (.inr (Nat.le_refl _)) _⟩
              case rest =>
              obtain ⟨rfl, HKB⟩ := hcut
              rename World => wB
              obtain ⟨d1, d2, d3, d4⟩ := cells4r (HKB.out.at H7.out.2.2.2.1 id)
              have f1 := HKB.out.cellN f1
              clear HZ HST HBY
              cases hv : s.V (x, i) with
              | some v =>
                have e1 : E1 = 0 := by rw [HE1.out, byE, hv]; rfl
                have HV : Hid (s.V (x, i) = some v) := hv
                clear hv HE1
                subst e1
                go_wp2_with fail
                go_roundw
                case rel =>
                  obtain ⟨h1, h2, h3, h4, h5, h6, h7⟩ := H7.out
                  have e3 : miss s i ((pk rm rt).take (j + 1)) = miss s i ((pk rm rt).take j) := by rw [miss_step HX.out.1 HKY.out HX.out.2.1, HV.out]; simp
                  refine ⟨j + 1, fo', fn', fc', B, by omega, by go_num, rfl, rfl, ?_⟩
                  rw [e3]
                  exact ⟨_, h1.go HKB.out, Or.inl h2, fun b hb => Or.inl (h3 b hb), HKB.out.at h4 id, h5.keepsN HKB.out, h6, h7⟩
                case measure => simp [intOf]; omega
              | none =>
                have e1 : E1 = 110 := by rw [HE1.out, byE, hv]; rfl
                have HV : Hid (s.V (x, i) = none) := hv
                clear hv HE1
                subst e1
                obtain ⟨sv, hsv⟩ : ∃ sv, sv = shortT rt := ⟨_, rfl⟩
                have HSV : Hid (sv = shortT rt) := hsv
                have hsh := fun W => short_any rt W
                rw [← hsv] at hsh
                have HSH : Hid (∀ W, Calls Try.prog 17 #[.string rt] W fun e w' => e = .returned (.string sv) ∧ w' = W) := hsh
                have H8 := H7.out.1.go HKB.out
                obtain ⟨P8, hP8⟩ : ∃ P8, P8 = (fun b => P' b ∨ (wq.heap.size ≤ b ∧ b < wB.heap.size)) := ⟨_, rfl⟩
                rw [← hP8] at H8
                obtain ⟨gs, hgs⟩ : ∃ gs, gs = fs ++ (miss s i ((pk rm rt).take j)).map (mkF i (some ⟨b2, off2, none⟩) kc ky') := ⟨_, rfl⟩
                rw [← hgs] at H8
                have HGS : Hid (gs = fs ++ (miss s i ((pk rm rt).take j)).map (mkF i (some ⟨b2, off2, none⟩) kc ky')) := hgs
                have hgl : gs.length ≤ 1000 := by
                  rw [hgs, List.length_append, List.length_map]
                  have := H5.out.1.fl
                  have := Nat.le_trans (List.length_filter_le (fun p => (s.V (p.1, i)).isNone) ((pk rm rt).take j)) (List.length_take_le' _ _)
                  have := (setM_len rm).2
                  rw [pk_len] at *
                  unfold miss
                  omega
                have hO5 : Own TE wB (some ⟨b2, off2, none⟩) kc ky' := H7.out.2.2.2.2.1.keepsN HKB.out
                have hP2 : ∀ b, inO (some ⟨b2, off2, none⟩) b → P8 b := fun b hb => by rw [hP8]; exact Or.inl (H7.out.2.2.1 b hb)
                have hPR : P8 R := by rw [hP8]; exact Or.inl H7.out.2.1
                have hbR := HKB.out.at H7.out.2.2.2.1 id
                have HM8 : Hid (YS w wB p s N P8 fo' fn' fc' gs wo wn wc ks ∧ Own TE wB (some ⟨b2, off2, none⟩) kc ky' ∧ (∀ b, inO (some ⟨b2, off2, none⟩) b → P8 b) ∧ P8 R ∧ wB.heap[R]? = some (.cells #[.int .i64 rk, .int .i64 rn, .int .i64 rm, .string rt] 30 (0, 0)) ∧ kn = ky'.length) := ⟨H8, hO5, hP2, hPR, hbR, H7.out.2.2.2.2.2.1⟩
                have HBD : Hid ((gs.length + [mkF i (some ⟨b2, off2, none⟩) kc ky' (x, sv)].length) * FE.nb ≤ 140737488355328 ∧ gs.length + [mkF i (some ⟨b2, off2, none⟩) kc ky' (x, sv)].length ≤ 140737488355328) := ⟨by simp [FE]; omega, by simp; omega⟩
                have HO0 : Hid (Own FE (wB.alloc (.cells #[.string x, .int .u64 ((i : Nat) : Int), .string sv, .slice (some ⟨b2, off2, none⟩) kn kc] 52)).drew fo' fc' gs) := (H8.fown.keepsN ((Keeps.refl no wB).alloc _)).keepsN (Keeps.refl no _).drew
                have HR0 : Hid (Row FE (wB.alloc (.cells #[.string x, .int .u64 ((i : Nat) : Int), .string sv, .slice (some ⟨b2, off2, none⟩) kn kc] 52)).drew (some ⟨wB.heap.size, 0, none⟩) [mkF i (some ⟨b2, off2, none⟩) kc ky' (x, sv)]) := (own_oneF wB (mkF i (some ⟨b2, off2, none⟩) kc ky' (x, sv)) kn H7.out.2.2.2.2.2.1).row.keepsN (Keeps.refl no _).drew
                have HST2 : Hid (∀ X, Keeps no wB X → X.cell? ⟨b2, off2 + j, none⟩ = some (.string x) ∧ X.cell? ⟨R, 1, none⟩ = some (.int .i64 rn) ∧ X.cell? ⟨R, 3, none⟩ = some (.string rt)) := fun X hX => ⟨hX.cellN f1, hX.cellN d2, hX.cellN d4⟩
                have HAL : Hid (Keeps no wB (wB.alloc (.cells #[.string x, .int .u64 ((i : Nat) : Int), .string sv, .slice (some ⟨b2, off2, none⟩) kn kc] 52)).drew) := ((Keeps.refl no wB).alloc _).drew
                have HAP : Hid (∀ o3 w3, Ap (wB.alloc (.cells #[.string x, .int .u64 ((i : Nat) : Int), .string sv, .slice (some ⟨b2, off2, none⟩) kn kc] 52)).drew fo' o3 w3 → w3.cell? ⟨b2, off2 + j, none⟩ = some (.string x) ∧ w3.cell? ⟨R, 1, none⟩ = some (.int .i64 rn) ∧ w3.cell? ⟨R, 3, none⟩ = some (.string rt)) := fun o3 w3 hap => by
                  have hn2 : ¬ inO fo' b2 := fun hc => tags_ne HO0.out (hO5.keepsN HAL.out) ft_ne b2 hc ⟨_, rfl, rfl⟩
                  have hnR : ¬ inO fo' R := fun hc => by
                    obtain ⟨cur, hcur⟩ := HO0.out.tag R hc
                    rw [HAL.out.at hbR id] at hcur
                    injection hcur with hcur
                    injection hcur with _ hcur _
                    exact absurd hcur (by decide)
                  have hK := hap.keeps.1
                  exact ⟨hK.cell (HAL.out.cellN f1) hn2, hK.cell (HAL.out.cellN d2) hnR, hK.cell (HAL.out.cellN d4) hnR⟩
                have HAP2 : Hid (∀ o3 w3, Ap (wB.alloc (.cells #[.string x, .int .u64 ((i : Nat) : Int), .string sv, .slice (some ⟨b2, off2, none⟩) kn kc] 52)).drew fo' o3 w3 → w3.heap[R]? = some (.cells #[.int .i64 rk, .int .i64 rn, .int .i64 rm, .string rt] 30 (0, 0)) ∧ Own TE w3 (some ⟨b2, off2, none⟩) kc ky') := fun o3 w3 hap => by
                  have hnR : ¬ inO fo' R := fun hc => by
                    obtain ⟨cur, hcur⟩ := HO0.out.tag R hc
                    rw [HAL.out.at hbR id] at hcur
                    injection hcur with hcur
                    injection hcur with _ hcur _
                    exact absurd hcur (by decide)
                  exact ⟨hap.keeps.1.at (HAL.out.at hbR id) hnR, hap.own HO0.out (hO5.keepsN HAL.out) ft_ne⟩
                have HNf : Hid (fn' = gs.length) := H8.fn
                clear hsv hsh H8 hgs hgl hO5 hP2 hPR hbR d1 d3
                go_upto_region 20 with fail
                go_region_held_law (fun X => X.cell? ⟨b2, off2 + j, none⟩ = some (.string x) ∧ X.cell? ⟨R, 1, none⟩ = some (.int .i64 rn) ∧ X.cell? ⟨R, 3, none⟩ = some (.string rt)) (first | exact HST2.out _ (Keeps.refl no _) | exact HST2.out _ ((Keeps.refl no _).drew) | exact HST2.out _ HAL.out | exact HCS.out) (first
                  | (go_simp; go_at_call 7; refine (HID.out _).mono ?_; rintro e wI ⟨rfl, hwI⟩; subst wI)
                  | (go_simp; go_at_call 17; refine (HSH.out _).mono ?_; rintro e wI ⟨rfl, hwI⟩; subst wI)
                  | (refine step_app1 okF rfl (.tmp 74) (.tmp 87) rfl fo' fn' fc' gs rfl HNf.out HO0.out (some (Addr.mk wB.heap.size 0 none)) 1 1 [mkF i (some ⟨b2, off2, none⟩) kc ky' (x, sv)] rfl rfl (fun e => by cases e) HR0.out HBD.out.1 HBD.out.2 ?_; intro o3 c3 w3 ho3 hap3; have HCS : Hid (w3.cell? ⟨b2, off2 + j, none⟩ = some (.string x) ∧ w3.cell? ⟨R, 1, none⟩ = some (.int .i64 rn) ∧ w3.cell? ⟨R, 3, none⟩ = some (.string rt)) := HAP.out o3 w3 hap3; have H9 : Hid (Own FE w3 o3 c3 (gs ++ [mkF i (some ⟨b2, off2, none⟩) kc ky' (x, sv)]) ∧ Ap (wB.alloc (.cells #[.string x, .int .u64 ((i : Nat) : Int), .string sv, .slice (some ⟨b2, off2, none⟩) kn kc] 52)).drew fo' o3 w3) := ⟨ho3, hap3⟩; clear ho3 hap3))
                all_goals (try (rename _ ∧ _ => hh; clear hh))
                go_wp2_with fail
                go_roundw
                case rel =>
                  obtain ⟨P9, hY, hsub⟩ := (HM8.out.1.go HAL.out).push (f := mkF i (some ⟨b2, off2, none⟩) kc ky' (x, sv)) (HM8.out.2.1.keepsN HAL.out) (fun b hb => Or.inl (HM8.out.2.2.1 b hb)) H9.out.1 H9.out.2
                  have hq := HAP2.out _ _ H9.out.2
                  have e3 : miss s i ((pk rm rt).take (j + 1)) = miss s i ((pk rm rt).take j) ++ [(x, sv)] := by rw [miss_step HX.out.1 HKY.out HX.out.2.1, HV.out, HSV.out]; rfl
                  refine ⟨j + 1, o3, fn' + 1, c3, true, by omega, by go_num, rfl, rfl, ?_⟩
                  rw [e3, List.map_append, ← List.append_assoc, ← HGS.out]
                  exact ⟨P9, hY, hsub _ (Or.inl HM8.out.2.2.2.1), fun b hb => hsub b (Or.inl (HM8.out.2.2.1 b hb)), hq.1, hq.2, HM8.out.2.2.2.2.2, by simp⟩
                case measure => simp [intOf]; omega
            · have hjk' : ¬ (j : Int) < kn := by omega
              have HTK : Hid ((pk rm rt).take j = pk rm rt) := List.take_of_length_le (by rw [pk_len, ← HKY.out]; have := H7.out.2.2.2.2.2.1; omega)
              rw [HTK.out] at H7
              have HL := H7.out.1.ow.lput rk rn rm rt (k : Int) HR.out.wr HR.out.ma (tick_iff.2 ⟨by omega, by omega⟩) (by have := H5.out.1.le; omega)
              rw [← HI.out] at HL
              have HB : Hid (B = decide (0 < (miss s i (pk rm rt)).length)) := H7.out.2.2.2.2.2.2
              have HLH : Hid (Calls Try.prog 9 #[.pointer (some ⟨p, 0, none⟩), .agg #[.int .i64 rk, .int .i64 rn, .int .i64 rm, .string rt], .int .i64 (k : Int)] wq fun e w' => e = .returned (.tuple #[.bool B, .int .i64 0]) ∧ Hid (Ow w w' p (putAll i (setM rm) (k : Int) s (miss s i (pk rm rt))) (N + (miss s i (pk rm rt)).length) P' ∧ Keeps (fun b => ¬ P' b) wq w')) := by rw [HB.out]; exact HL
              clear HL
              go_wp2_with fail
              refine Calls.mono HLH.out ?_
              rintro e w6 ⟨rfl, h6⟩
              have H8 : Hid (YJ w p k w6 s (putAll i (setM rm) (k : Int) s (miss s i (pk rm rt))) (N + (miss s i (pk rm rt)).length) P' fo' fn' fc' (fs ++ (miss s i (pk rm rt)).map (mkF i ko kc ky')) wo wn wc ks) := by
                have hml : (miss s i (pk rm rt)).length ≤ 3 := Nat.le_trans (List.length_filter_le _ _) (by rw [pk_len]; exact (setM_len rm).2)
                have hinc := (okPairs_iff.1 (okPut_iff.1 (pk_ok rn rm rt (now := (k : Int)) (tick_iff.2 ⟨by omega, by omega⟩))).2.2.1).2.2
                refine ⟨H7.out.1.keeps h6.out.1 (by omega) h6.out.2, by have := H5.out.1.le; omega, ?_, H5.out.1.all, H5.out.1.ys.ow.ok, stp_put s i _ _ hinc, by rw [List.length_append, List.length_map]; have := H5.out.1.fl; omega⟩
                rw [HKY.out]
                exact H5.out.1.fact.put i _ _ hinc _ _
              clear h6 HLH
              cases B with
              | true =>
                go_wp2_with fail
                go_meet
                exact ⟨fo', fn', fc', rfl, _, _, _, _, H8.out⟩
              | false =>
                go_wp2_with fail
                go_meet
                exact ⟨fo', fn', fc', rfl, _, _, _, _, H8.out⟩
      case rest =>
      obtain ⟨fo', fn', fc', rfl, HJ⟩ := hcut
      rename World => w6
      obtain ⟨s', N', P', fs', HJ⟩ := HJ.out
      have H6 : Hid (YJ w p k w6 s s' N' P' fo' fn' fc' fs' wo wn wc ks) := HJ
      clear HJ H5
      go_wp2_with fail
      refine (H6.out.ys.ow.kept (by have := H6.out.le; omega)).mono ?_
      rintro e w7 ⟨v7, rfl, lo, ln, lc, ls, rfl, hln, hK, hlN⟩
      have HLN : Hid (ln = ls.length ∧ Kl w6 ls lo lc w7 ∧ AllK s' ls ∧ Inc ltM (ls.map (·.m)) ∧ ls.length ≤ N' ∧ ln = fn') := ⟨hln.out, hK.out.1, ⟨hK.out.2.1, hK.out.2.2.2⟩, hK.out.2.2.1, hlN.out, by
        have e1 := H6.out.fact.len ⟨hK.out.2.1, hK.out.2.2.2⟩ hK.out.2.2.1
        rw [hln.out, e1, ← H6.out.ys.fn]⟩
      have eln : ln = fn' := HLN.out.2.2.2.2.2
      subst eln
      have HST : Hid (Calls Try.prog 19 #[.slice wo wn wc, .slice lo ln lc, .pointer (some ⟨p, 0, none⟩), .int .i64 (k : Int)] w7 fun e w' => e = .returned (.bool true) ∧ Keeps no w7 w') :=
        stamps_any (H6.out.ys.ow.go HLN.out.2.1.keep) wo wn wc ks H6.out.ys.wn (by have := H6.out.ys.kl; have := H6.out.le; omega) (H6.out.ys.wown.keepsN HLN.out.2.1.keep).sl lo ln lc ls HLN.out.1 (by have := HLN.out.2.2.2.2.1; have := H6.out.le; omega) HLN.out.2.1.own.sl (k : Int) (H6.out.stp.sto H6.out.okS H6.out.ys.ow.ok (by omega) H6.out.all HLN.out.2.2.1.is)
      clear hln hK hlN
      go_wp2_with fail
      refine Calls.mono HST.out ?_
      rintro e w8 ⟨rfl, hk8⟩
      have H8 : Hid (∃ P'', YI w p (k + 1) w8 s' N' P'' fo' ln fc' fs' lo ln lc ls) := by
        have hkk := HLN.out.2.1.keep.trans hk8
        have hy := H6.out.ys.go hkk
        refine ⟨_, ⟨⟨hy.ow, hy.fown, hy.fP, hy.fn, hy.fkey, HLN.out.2.1.own.keepsN hk8, fun b hb => Or.inr ⟨HLN.out.2.1.new b hb, Nat.lt_of_lt_of_le (HLN.out.2.1.own.lt b hb) hk8.size⟩, HLN.out.1, HLN.out.2.2.2.2.1⟩, by have := H6.out.le; omega, H6.out.fact, HLN.out.2.2.1, by have := H6.out.fl; omega⟩⟩
      clear hk8 HST HLN H6
      go_wp2_with fail
      go_roundw
      case rel =>
        obtain ⟨P'', H8⟩ := H8.out
        exact ⟨k + 1, fo', ln, fc', lo, ln, lc, by omega, by omega, by go_num, rfl, rfl, _, _, _, _, _, H8⟩
      case measure => simp [intOf]; omega
    · obtain ⟨s, N, P, fs, ks, hg⟩ := HG.out
      have HGI : Hid (YI w p k wr s N P fo fn fc fs wo wn wc ks) := hg
      clear HG hg
      have hfnb : (fn : Int) ≤ 1000 := by have := HGI.out.ys.fn; have := HGI.out.fl; omega
      have hcc : (k : Int) < n ∨ ¬ (k : Int) < n := by omega
      rcases hcc with h3 | h3
      · have h4 : ¬ (k : Int) < 100 := by omega
        go_wp2_with fail
        go_loopw [16] (fun jj wq => ∃ j : Nat, j ≤ fn ∧ jj = .int .i64 j ∧ Hid (Keeps no wr wq)) (fun jj _ => fn - (intOf jj).toNat)
        case atStart => exact ⟨0, by omega, rfl, Keeps.refl _ _⟩
        case round =>
          obtain ⟨j, hj, rfl, HKQ⟩ := hrel
          rename World => wq
          by_cases hjf : j < fn
          · have hjf' : (j : Int) < fn := by omega
            have hja : j < fs.length := by have := HGI.out.ys.fn; omega
            obtain ⟨b2, off2, e2, f0, f1, f2, f3⟩ := (HGI.out.ys.fown.keepsN HKQ.out).sl.atF hja
            obtain ⟨f, hf⟩ : ∃ f, f = fs.getD j fv0 := ⟨_, rfl⟩
            rw [← hf] at f0 f1 f2 f3
            have hfm : f ∈ fs := by rw [hf]; exact getD_mem_lt _ hja
            obtain ⟨v, hv, ev1, ev2⟩ := HGI.out.fact.eq f hfm
            have hkey := (HGI.out.ys.fkey f hfm).1.keepsN HKQ.out
            have hokm := HGI.out.ys.ow.ok
            have hid2 := hokm.v.id _ _ hv
            have hsz2 := hokm.v.size hv
            have hlen2 := hokm.v.len hv
            obtain ⟨fk, fi, fv, fko, fkc, fks⟩ := f
            simp only [FV.m] at f0 f1 f2 f3 hv ev1 ev2 hkey hid2 hsz2
            have HF : Hid (s.V (fk, fi) = some v ∧ v.val = fv ∧ v.keys = fks ∧ Own TE wq fko fkc fks ∧ fks.length ≤ 1024) := ⟨hv, ev1, ev2, hkey, by rw [← ev2]; exact hlen2⟩
            obtain ⟨fkn, hfkn⟩ : ∃ fkn, fkn = fks.length := ⟨_, rfl⟩
            rw [← hfkn] at f3
            have HFN : Hid (fkn = fks.length) := hfkn
            obtain ⟨F, hF⟩ : ∃ F, F = wq.heap.size := ⟨_, rfl⟩
            have HFF : Hid (F = wq.heap.size) := hF
            have hkA : Keeps no wq (wq.alloc (.cells #[.string fk, .int .u64 ((fi : Nat) : Int), .string fv, .slice fko fkn fkc] 52)) := (Keeps.refl no wq).alloc _
            have HA4 : Hid (Keeps no wr (wq.alloc (.cells #[.string fk, .int .u64 ((fi : Nat) : Int), .string fv, .slice fko fkn fkc] 52)) ∧ Keeps no wq (wq.alloc (.cells #[.string fk, .int .u64 ((fi : Nat) : Int), .string fv, .slice fko fkn fkc] 52)) ∧ (wq.alloc (.cells #[.string fk, .int .u64 ((fi : Nat) : Int), .string fv, .slice fko fkn fkc] 52)).heap[F]? = some (.cells #[.string fk, .int .u64 ((fi : Nat) : Int), .string fv, .slice fko fkn fkc] 52 (0, 0))) := ⟨HKQ.out.trans hkA, hkA, by rw [hF]; exact blk_new wq _⟩
            have HBY : Hid (Calls Try.prog 10 #[.pointer (some ⟨p, 0, none⟩), .string fk, .int .u64 ((fi : Nat) : Int)] (wq.alloc (.cells #[.string fk, .int .u64 ((fi : Nat) : Int), .string fv, .slice fko fkn fkc] 52)) fun e w' => ∃ o n d, e = .returned (.tuple #[.agg #[.string fk, .int .u64 ((fi : Nat) : Int), .string fv, .slice o n d], .int .i64 0]) ∧ Hid (Keeps no (wq.alloc (.cells #[.string fk, .int .u64 ((fi : Nat) : Int), .string fv, .slice fko fkn fkc] 52)) w' ∧ Own TE w' o d fks ∧ n = fks.length)) :=
              ((HGI.out.ys.ow.go HA4.out.1).byID fk fi ⟨by show fk.size ≤ maxLen; unfold maxLen; omega, hid2.2⟩).mono (fun e w' ⟨a, b, c, o, n, d, h1, h2, h3⟩ => by
                obtain ⟨g1, g2, g3, g4, g5, _⟩ := h3.out v HF.out.1
                refine ⟨o, n, d, ?_, h2.out, by rw [← HF.out.2.2.1]; exact g5, by rw [← HF.out.2.2.1]; exact g4⟩
                rw [h1, g1, g2, g3, HF.out.2.1, byE, HF.out.1]; rfl)
            clear hja hf hfm hv ev1 ev2 hkey hokm hid2 hsz2 hlen2 hfkn hF hkA
            subst e2
            go_wp2_with fail
            refine Calls.mono HBY.out ?_
            rintro e w5 ⟨vo, vn, vd, rfl, h5⟩
            obtain ⟨w6, hw6⟩ : ∃ w6, w6 = w5.alloc (.cells #[.string fk, .int .u64 ((fi : Nat) : Int), .string fv, .slice vo vn vd] 38) := ⟨_, rfl⟩
            have hk6 : Keeps no w5 w6 := by rw [hw6]; exact (Keeps.refl no w5).alloc _
            have hbV : w6.heap[w5.heap.size]? = some (.cells #[.string fk, .int .u64 ((fi : Nat) : Int), .string fv, .slice vo vn vd] 38 (0, 0)) := by rw [hw6]; exact blk_new w5 _
            have hbF : w6.heap[F]? = some (.cells #[.string fk, .int .u64 ((fi : Nat) : Int), .string fv, .slice fko fkn fkc] 52 (0, 0)) := hk6.at (h5.out.1.at HA4.out.2.2 id) id
            obtain ⟨g0, g1, g2, g3⟩ := cells4r hbV
            obtain ⟨k0, k1, k2, k3⟩ := cells4r hbF
            rw [hw6] at g0 g1 g2 g3 k0 k1 k2 k3
            have HSV : Hid (Calls Try.prog 20 #[.agg #[.string fk, .int .u64 ((fi : Nat) : Int), .string fv, .slice vo vn vd], .agg #[.string fk, .int .u64 ((fi : Nat) : Int), .string fv, .slice fko fkn fkc]] (w5.alloc (.cells #[.string fk, .int .u64 ((fi : Nat) : Int), .string fv, .slice vo vn vd] 38)) fun e w' => e = .returned (.bool true) ∧ Keeps no (w5.alloc (.cells #[.string fk, .int .u64 ((fi : Nat) : Int), .string fv, .slice vo vn vd] 38)) w') := by
              rw [← hw6]
              exact (sameVersion_any w6 ⟨fk, _, fv, vo, vn, vd⟩ ⟨fk, _, fv, fko, fkn, fkc⟩ fks fks h5.out.2.2 HFN.out (by have := HF.out.2.2.2.2; omega) (by have := HF.out.2.2.2.2; omega) (h5.out.2.1.keepsN hk6).sl (HF.out.2.2.2.1.keepsN ((HA4.out.2.1.trans h5.out.1).trans hk6)).sl).mono (fun e w' ⟨⟨B, hB, hB2⟩, hk⟩ => ⟨by rw [hB, hB2.out.2 ⟨rfl, rfl, rfl, rfl⟩], hk⟩)
            have HK6 : Hid (Keeps no wr (w5.alloc (.cells #[.string fk, .int .u64 ((fi : Nat) : Int), .string fv, .slice vo vn vd] 38))) := by rw [← hw6]; exact (HA4.out.1.trans h5.out.1).trans hk6
            rw [← HFF.out]
            clear hw6 hk6 hbV hbF h5 HBY HA4 f0 f1 f2 f3
            go_wp2_with fail
            refine Calls.mono HSV.out ?_
            rintro e w7 ⟨rfl, hk7⟩
            have HK7 : Hid (Keeps no wr w7) := HK6.out.trans hk7
            clear hk7 HK6 HSV g0 g1 g2 g3 k0 k1 k2 k3
            go_wp2_with fail
            go_roundw
            case rel => exact ⟨j + 1, by omega, by go_num, HK7⟩
            case measure => simp [intOf]; omega
          · have hjf' : ¬ (j : Int) < fn := by omega
            go_wp2_with fail
            go_ret
            exact ⟨rfl, HGI.out.ys.ow.keep.trans HKQ.out⟩
      · have h4 : ¬ (k : Int) < n := h3
        go_wp2_with fail
        go_loopw [16] (fun jj wq => ∃ j : Nat, j ≤ fn ∧ jj = .int .i64 j ∧ Hid (Keeps no wr wq)) (fun jj _ => fn - (intOf jj).toNat)
        case atStart => exact ⟨0, by omega, rfl, Keeps.refl _ _⟩
        case round =>
          obtain ⟨j, hj, rfl, HKQ⟩ := hrel
          rename World => wq
          by_cases hjf : j < fn
          · have hjf' : (j : Int) < fn := by omega
            have hja : j < fs.length := by have := HGI.out.ys.fn; omega
            obtain ⟨b2, off2, e2, f0, f1, f2, f3⟩ := (HGI.out.ys.fown.keepsN HKQ.out).sl.atF hja
            obtain ⟨f, hf⟩ : ∃ f, f = fs.getD j fv0 := ⟨_, rfl⟩
            rw [← hf] at f0 f1 f2 f3
            have hfm : f ∈ fs := by rw [hf]; exact getD_mem_lt _ hja
            obtain ⟨v, hv, ev1, ev2⟩ := HGI.out.fact.eq f hfm
            have hkey := (HGI.out.ys.fkey f hfm).1.keepsN HKQ.out
            have hokm := HGI.out.ys.ow.ok
            have hid2 := hokm.v.id _ _ hv
            have hsz2 := hokm.v.size hv
            have hlen2 := hokm.v.len hv
            obtain ⟨fk, fi, fv, fko, fkc, fks⟩ := f
            simp only [FV.m] at f0 f1 f2 f3 hv ev1 ev2 hkey hid2 hsz2
            have HF : Hid (s.V (fk, fi) = some v ∧ v.val = fv ∧ v.keys = fks ∧ Own TE wq fko fkc fks ∧ fks.length ≤ 1024) := ⟨hv, ev1, ev2, hkey, by rw [← ev2]; exact hlen2⟩
            obtain ⟨fkn, hfkn⟩ : ∃ fkn, fkn = fks.length := ⟨_, rfl⟩
            rw [← hfkn] at f3
            have HFN : Hid (fkn = fks.length) := hfkn
            obtain ⟨F, hF⟩ : ∃ F, F = wq.heap.size := ⟨_, rfl⟩
            have HFF : Hid (F = wq.heap.size) := hF
            have hkA : Keeps no wq (wq.alloc (.cells #[.string fk, .int .u64 ((fi : Nat) : Int), .string fv, .slice fko fkn fkc] 52)) := (Keeps.refl no wq).alloc _
            have HA4 : Hid (Keeps no wr (wq.alloc (.cells #[.string fk, .int .u64 ((fi : Nat) : Int), .string fv, .slice fko fkn fkc] 52)) ∧ Keeps no wq (wq.alloc (.cells #[.string fk, .int .u64 ((fi : Nat) : Int), .string fv, .slice fko fkn fkc] 52)) ∧ (wq.alloc (.cells #[.string fk, .int .u64 ((fi : Nat) : Int), .string fv, .slice fko fkn fkc] 52)).heap[F]? = some (.cells #[.string fk, .int .u64 ((fi : Nat) : Int), .string fv, .slice fko fkn fkc] 52 (0, 0))) := ⟨HKQ.out.trans hkA, hkA, by rw [hF]; exact blk_new wq _⟩
            have HBY : Hid (Calls Try.prog 10 #[.pointer (some ⟨p, 0, none⟩), .string fk, .int .u64 ((fi : Nat) : Int)] (wq.alloc (.cells #[.string fk, .int .u64 ((fi : Nat) : Int), .string fv, .slice fko fkn fkc] 52)) fun e w' => ∃ o n d, e = .returned (.tuple #[.agg #[.string fk, .int .u64 ((fi : Nat) : Int), .string fv, .slice o n d], .int .i64 0]) ∧ Hid (Keeps no (wq.alloc (.cells #[.string fk, .int .u64 ((fi : Nat) : Int), .string fv, .slice fko fkn fkc] 52)) w' ∧ Own TE w' o d fks ∧ n = fks.length)) :=
              ((HGI.out.ys.ow.go HA4.out.1).byID fk fi ⟨by show fk.size ≤ maxLen; unfold maxLen; omega, hid2.2⟩).mono (fun e w' ⟨a, b, c, o, n, d, h1, h2, h3⟩ => by
                obtain ⟨g1, g2, g3, g4, g5, _⟩ := h3.out v HF.out.1
                refine ⟨o, n, d, ?_, h2.out, by rw [← HF.out.2.2.1]; exact g5, by rw [← HF.out.2.2.1]; exact g4⟩
                rw [h1, g1, g2, g3, HF.out.2.1, byE, HF.out.1]; rfl)
            clear hja hf hfm hv ev1 ev2 hkey hokm hid2 hsz2 hlen2 hfkn hF hkA
            subst e2
            go_wp2_with fail
            refine Calls.mono HBY.out ?_
            rintro e w5 ⟨vo, vn, vd, rfl, h5⟩
            obtain ⟨w6, hw6⟩ : ∃ w6, w6 = w5.alloc (.cells #[.string fk, .int .u64 ((fi : Nat) : Int), .string fv, .slice vo vn vd] 38) := ⟨_, rfl⟩
            have hk6 : Keeps no w5 w6 := by rw [hw6]; exact (Keeps.refl no w5).alloc _
            have hbV : w6.heap[w5.heap.size]? = some (.cells #[.string fk, .int .u64 ((fi : Nat) : Int), .string fv, .slice vo vn vd] 38 (0, 0)) := by rw [hw6]; exact blk_new w5 _
            have hbF : w6.heap[F]? = some (.cells #[.string fk, .int .u64 ((fi : Nat) : Int), .string fv, .slice fko fkn fkc] 52 (0, 0)) := hk6.at (h5.out.1.at HA4.out.2.2 id) id
            obtain ⟨g0, g1, g2, g3⟩ := cells4r hbV
            obtain ⟨k0, k1, k2, k3⟩ := cells4r hbF
            rw [hw6] at g0 g1 g2 g3 k0 k1 k2 k3
            have HSV : Hid (Calls Try.prog 20 #[.agg #[.string fk, .int .u64 ((fi : Nat) : Int), .string fv, .slice vo vn vd], .agg #[.string fk, .int .u64 ((fi : Nat) : Int), .string fv, .slice fko fkn fkc]] (w5.alloc (.cells #[.string fk, .int .u64 ((fi : Nat) : Int), .string fv, .slice vo vn vd] 38)) fun e w' => e = .returned (.bool true) ∧ Keeps no (w5.alloc (.cells #[.string fk, .int .u64 ((fi : Nat) : Int), .string fv, .slice vo vn vd] 38)) w') := by
              rw [← hw6]
              exact (sameVersion_any w6 ⟨fk, _, fv, vo, vn, vd⟩ ⟨fk, _, fv, fko, fkn, fkc⟩ fks fks h5.out.2.2 HFN.out (by have := HF.out.2.2.2.2; omega) (by have := HF.out.2.2.2.2; omega) (h5.out.2.1.keepsN hk6).sl (HF.out.2.2.2.1.keepsN ((HA4.out.2.1.trans h5.out.1).trans hk6)).sl).mono (fun e w' ⟨⟨B, hB, hB2⟩, hk⟩ => ⟨by rw [hB, hB2.out.2 ⟨rfl, rfl, rfl, rfl⟩], hk⟩)
            have HK6 : Hid (Keeps no wr (w5.alloc (.cells #[.string fk, .int .u64 ((fi : Nat) : Int), .string fv, .slice vo vn vd] 38))) := by rw [← hw6]; exact (HA4.out.1.trans h5.out.1).trans hk6
            rw [← HFF.out]
            clear hw6 hk6 hbV hbF h5 HBY HA4 f0 f1 f2 f3
            go_wp2_with fail
            refine Calls.mono HSV.out ?_
            rintro e w7 ⟨rfl, hk7⟩
            have HK7 : Hid (Keeps no wr w7) := HK6.out.trans hk7
            clear hk7 HK6 HSV g0 g1 g2 g3 k0 k1 k2 k3
            go_wp2_with fail
            go_roundw
            case rel => exact ⟨j + 1, by omega, by go_num, HK7⟩
            case measure => simp [intOf]; omega
          · have hjf' : ¬ (j : Int) < fn := by omega
            go_wp2_with fail
            go_ret
            exact ⟨rfl, HGI.out.ys.ow.keep.trans HKQ.out⟩
end Go.Proofs.Ytkoaiibjahlnmaa

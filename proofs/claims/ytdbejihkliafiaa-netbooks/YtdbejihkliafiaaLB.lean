/- NetBooks. -/
import Derived.Test.YtdbejihkliafiaaK1
import Derived.Deep.CutBlock
import Derived.Deep.CutRange
namespace Go.Proofs.Ytdbejihkliafiaa
open Go.RowKit Go.Sort
set_option linter.unusedVariables false
set_option linter.unusedSimpArgs false

def BSt (w0 w : World) (p : Nat) (o5 : Option Addr) (n5 c5 : Nat) (o6 : Option Addr) (n6 c6 lf K : Nat) : Prop := ∃ rb bk g, n5 = bk.length ∧ n6 = g.length ∧ g.length = bk.length ∧ lf = (ix g bk.length).length ∧ bk.length ≤ K ∧ NWf (stB bk g) bk.length ∧ Bs w0 w p (stB bk g) o5 c5 rb o6 c6 bk g
theorem bst_push {w0 w p o5 c5 rb o6 c6} {bk : List Bk} {g : List Bool} {b : Bk} {s : NS} {n5 n6 lf K : Nat} (h : Bs w0 w p s o5 c5 rb o6 c6 (bk ++ [b]) (g ++ [false])) (hs : s = putS (stB bk g) b.frm b.dst b.bs) (hg : g.length = bk.length) (h5 : n5 = bk.length + 1) (h6 : n6 = bk.length + 1) (hl : lf = (ix g bk.length).length + 1) (hK : bk.length + 1 ≤ K) (hw : NWf s (bk.length + 1)) : BSt w0 w p o5 n5 c5 o6 n6 c6 lf K := by
  have e : s = stB (bk ++ [b]) (g ++ [false]) := by
    rw [hs]
    unfold stB putS
    rw [flB_push bk g b hg]
    simp
  refine ⟨rb, bk ++ [b], g ++ [false], by simp; omega, by simp; omega, by simp; omega, ?_, by simp; omega, ?_, ?_⟩
  · rw [hl, ← flB_len (bk ++ [b]), flB_push bk g b hg, List.length_append, flB_len]; rfl
  · rw [← e]; simpa using hw
  · rw [← e]; exact h
theorem bst_gone {w0 w p o5 c5 rb o6 c6} {bk : List Bk} {g : List Bool} {a k : Nat} {n5 n6 lf K : Nat} (h : Bs w0 w p (delS (stB bk g) k) o5 c5 rb o6 c6 bk (g.set a true)) (hx : (ix g bk.length)[k]? = some a) (hg : g.length = bk.length) (h5 : n5 = bk.length) (h6 : n6 = bk.length) (hl : lf + 1 = (ix g bk.length).length) (hK : bk.length ≤ K) (hw : NWf (stB bk g) bk.length) : BSt w0 w p o5 n5 c5 o6 n6 c6 lf K := by
  have hk : k < (ix g bk.length).length := by
    rcases Nat.lt_or_ge k (ix g bk.length).length with h | h
    · exact h
    · rw [List.getElem?_eq_none h] at hx; cases hx
  have hh : hasS (stB bk g) (k : Int) = true := (has_iff _ _).2 ⟨k, rfl, by show k < (flB bk g).length; rw [flB_len]; exact hk⟩
  have e : delS (stB bk g) k = stB bk (g.set a true) := by
    unfold delS
    rw [if_pos hh]
    unfold stB
    rw [flB_set bk g a k hg hx]
    simp
  refine ⟨rb, bk, g.set a true, h5, by simp; omega, by simp; omega, ?_, hK, ?_, ?_⟩
  · rw [← flB_len, flB_set bk g a k hg hx, len_erase _ _ (by rw [flB_len]; exact hk), flB_len]; omega
  · rw [← e]; exact hw.del k
  · rw [← e]; exact h
theorem stB_has (bk : List Bk) (g : List Bool) (pl : Nat) : hasS (stB bk g) (pl : Int) = true ↔ pl < (ix g bk.length).length := by
  rw [has_iff]
  constructor
  · rintro ⟨k, e, h⟩
    have : pl = k := by omega
    subst this
    rwa [← flB_len bk g]
  · intro h
    exact ⟨pl, rfl, by show pl < (flB bk g).length; rw [flB_len]; exact h⟩
theorem stB_delF {bk : List Bk} {g : List Bool} {pl a : Nat} (h : (ix g bk.length)[pl]? = some a) : delF (stB bk g) (pl : Int) = frB bk a := by
  have hk : pl < (ix g bk.length).length := by
    rcases Nat.lt_or_ge pl (ix g bk.length).length with h2 | h2
    · exact h2
    · rw [List.getElem?_eq_none h2] at h; cases h
  unfold delF
  rw [if_pos ((stB_has bk g pl).2 hk)]
  exact flB_at bk g h
set_option maxRecDepth 20000 in
set_option maxHeartbeats 8000000 in
theorem netBooks_any (w : World) (os : Option Addr) (ns cs : Nat) (sc : List RO) (hns : ns = sc.length) (hls : sc.length ≤ 2513169434916) (hss : Sl OE w os cs sc) (hby : ∀ r ∈ sc, ∃ bs : List UInt8, r.n = bs.length ∧ Sl BE w r.o r.c bs ∧ bs.length ≤ 140737488355328) :
    Calls Try.prog 4 #[.slice os ns cs] w fun e w' => e = .returned (.bool true) ∧ Keeps no w w' := by
  have HSS : Hid (ns = sc.length ∧ Sl OE w os cs sc ∧ ∀ r ∈ sc, ∃ bs : List UInt8, r.n = bs.length ∧ Sl BE w r.o r.c bs ∧ bs.length ≤ 140737488355328) := ⟨hns, hss, hby⟩
  have hnsB : (ns : Int) ≤ 2513169434916 := by omega
  clear hns hls hss hby
  go_enter Try.func4, Try.ntmps4
  go_wp2_with fail
  refine (alive_any w).mono ?_
  rintro e w0 ⟨rfl, hk0⟩
  have HK0 : Hid (Keeps no w w0) := hk0
  clear hk0
  go_wp2_with fail
  refine (new_ok w0 3 2 (by decide)).mono ?_
  rintro e w1 ⟨p, rfl, hx⟩
  have HB0 : Hid (BSt w0 w1 p none 0 0 none 0 0 0 0) := by
    refine ⟨[], [], [], rfl, rfl, rfl, rfl, Nat.le_refl _, newS_wf (by decide) (by decide) (by decide) (by decide), hx.fewer (fun i hi => ?_), own_nil _, rfl, fun j hj => by simp at hj, own_nil _, fun i hi => ?_⟩
    all_goals
      rcases hi with ⟨x, e, _⟩ | ⟨x, e, _⟩ | ⟨j, hj, _⟩
      · cases e
      · cases e
      · simp at hj
  clear hx
  go_wp2_with fail
  go_loopw [5, 6, 7, 8] (fun s5 s6 s7 s8 wr => ∃ (i : Nat) (o5 : Option Addr) (n5 c5 : Nat) (o6 : Option Addr) (n6 c6 lf : Nat), i ≤ ns ∧ s5 = .slice o5 n5 c5 ∧ s6 = .slice o6 n6 c6 ∧ s7 = .int .i64 lf ∧ s8 = .int .i64 i ∧ Hid (BSt w0 wr p o5 n5 c5 o6 n6 c6 lf i)) (fun _ _ _ s8 _ => ns - (intOf s8).toNat)
  case atStart => exact ⟨0, none, 0, 0, none, 0, 0, 0, by omega, rfl, rfl, rfl, rfl, HB0⟩
  case round =>
    rename World => wr
    obtain ⟨i, o5, n5, c5, o6, n6, c6, lf, hi, rfl, rfl, rfl, rfl, HB⟩ := hrel
    clear HB0
    obtain ⟨rb, bk, g, h5, h6, hg, hlf, hK, hwf, hBs⟩ := HB.out
    have HM : Hid (n5 = bk.length ∧ g.length = bk.length ∧ lf = (ix g bk.length).length ∧ bk.length ≤ i ∧ NWf (stB bk g) bk.length) := ⟨h5, hg, hlf, hK, hwf⟩
    have h56 : n6 = n5 := by omega
    subst h56
    have hn5 : (n6 : Int) ≤ i := by omega
    have hlfn : (lf : Int) ≤ n6 := by rw [hlf, h5]; exact Int.ofNat_le.2 (ix_len g _)
    have HBS : Hid (Bs w0 wr p (stB bk g) o5 c5 rb o6 c6 bk g) := hBs
    have hiB : (i : Int) ≤ 2513169434916 := by omega
    clear h5 h6 hg hlf hK hwf hBs HB
    by_cases hlt : i < ns
    · have hlt' : (i : Int) < ns := by omega
      have HKR : Hid (Keeps no w wr) := HK0.out.trans HBS.out.nx.kp
      obtain ⟨b1, off1, ho, AA⟩ := row_at5 (HSS.out.2.1.row.keepsN HKR.out) (j := i) (by rw [← HSS.out.1]; exact hlt)
      obtain ⟨bs, hbn, hbs, hbl⟩ := HSS.out.2.2 _ (by rw [getD_at (by rw [← HSS.out.1]; exact hlt) ro0]; exact List.getElem_mem _ : sc.getD i ro0 ∈ sc)
      subst ho
      generalize sc.getD i ro0 = rr at AA hbn hbs
      obtain ⟨kd, wh, A, B, bo, bn, bc⟩ := rr
      obtain ⟨a0, a1, a2, a3, a4⟩ := AA
      simp only at a0 a1 a2 a3 a4 hbn hbs
      have HOW : Hid (∀ X, Keeps no w X → Calls Try.prog 10 #[.slice bo bn bc] X fun e w' => ∃ v, e = .returned v ∧ Gives BE X bs v w') := fun X hX => own_any X bo bn bc bs hbn (hbs.keepsN hX) hbl
      have HBL : Hid (bs.length ≤ 140737488355328) := hbl
      clear hbn hbs hbl
      obtain ⟨BO, hBO⟩ : ∃ BO, BO = wr.heap.size := ⟨_, rfl⟩
      have HWA : Hid (∀ wa, wa = wr.alloc (.cells #[.int .i64 kd, .int .i64 wh, .int .i64 A, .int .i64 B, .slice bo bn bc] 42) → wa.heap[BO]? = some (.cells #[.int .i64 kd, .int .i64 wh, .int .i64 A, .int .i64 B, .slice bo bn bc] 42 (0, 0)) ∧ Keeps no wr wa) := by
        rintro wa rfl
        exact ⟨by rw [hBO]; exact blk_new wr _, (Keeps.refl _ _).alloc _⟩
      go_upto_region 13 with fail
      have hwa := HWA.out _ rfl
      rw [← hBO]
      generalize wr.alloc (.cells #[.int .i64 kd, .int .i64 wh, .int .i64 A, .int .i64 B, .slice bo bn bc] 42) = wa at hwa ⊢
      have HSA : Hid (Bs w0 wa p (stB bk g) o5 c5 rb o6 c6 bk g) := HBS.out.keepsN hwa.2
      have HBA : Hid (wa.heap[BO]? = some (.cells #[.int .i64 kd, .int .i64 wh, .int .i64 A, .int .i64 B, .slice bo bn bc] 42 (0, 0))) := hwa.1
      have HKA : Hid (Keeps no w wa) := HKR.out.trans hwa.2
      have HNB : Hid (Nx IsN w0 wa p (stB bk g) (fun i => MB o5 o6 rb bk.length i ∨ i = BO)) := (HBS.out.nx.mark hwa.2).fewer (fun i hi => hi.imp (fun h => h) (fun e => by subst e; exact ⟨by rw [hBO]; exact Nat.le_refl _, lt_of_block hwa.1⟩))
      clear hwa HWA hBO HBS HKR a0 a1 a2 a3 a4
      have a0 := cell_of_blk HBA.out 0
      have a2 := cell_of_blk HBA.out 2
      have a3 := cell_of_blk HBA.out 3
      have a4 := cell_of_blk HBA.out 4
      simp only [List.getElem?_toArray, List.getElem?_cons_succ, List.getElem?_cons_zero] at a0 a2 a3 a4
      have handA : bits .and .i64 A 65535 = A % 65536 := i64_and16 A
      obtain ⟨zn, hzn⟩ : ∃ zn : Nat, A % 65536 = (zn : Int) := ⟨(A % 65536).toNat, by omega⟩
      rw [hzn] at handA
      have hzB : (zn : Int) < 65536 := by omega
      clear hzn
      obtain ⟨k1, hk1⟩ : ∃ k1, k1 = decide (0 < lf) := ⟨_, rfl⟩
      have hkN : decide (0 < lf) = k1 := hk1.symm
      have hkI : decide ((0 : Int) < (lf : Int)) = k1 := by rw [hk1]; simp
      have HK1 : Hid (k1 = decide (0 < lf)) := hk1
      clear hk1
      go_upto_if 53 with fail
      go_cut [10] from 54 to 56 (fun t10 wx => ∃ pl : Nat, t10 = .int .i64 pl ∧ wx = wa)
      case first =>
        as_aux_lemma =>
        clear HSA HBA HOW HBL HM HSS
        cases k1 with
        | true =>
          have h0 : 0 < lf := by simpa using HK1.out.symm
          clear hkN hkI HK1
          have h0a : ¬ (lf : Int) = 0 := by omega
          have h0b : ((lf : Int) == 0) = false := by simp; omega
          have htm : (zn : Int).tmod (lf : Int) = ((zn % lf : Nat) : Int) := (Int.ofNat_tmod _ _).symm
          have hml : zn % lf ≤ zn := Nat.mod_le _ _
          generalize zn % lf = J at htm hml
          go_wp2_with fail
          go_meet
          exact ⟨J, rfl, rfl⟩
        | false =>
          go_wp2_with fail
          go_meet
          exact ⟨zn, rfl, rfl⟩
      case rest =>
        obtain ⟨pl, rfl, hwx⟩ := hcut
        subst wc
        clear hkN hkI HK1 handA hzB
        go_wp2_with fail
        go_loopw [11, 12, 13] (fun s11 s12 s13 wr2 => ∃ k : Nat, k ≤ n6 ∧ s11 = .int .i64 (atI g k pl) ∧ s12 = .int .i64 (((ix g k).length : Nat) : Int) ∧ s13 = .int .i64 k ∧ wr2 = wa) (fun _ _ s13 _ => n6 - (intOf s13).toNat)
        case atStart => exact ⟨0, by omega, by rw [atI_zero], rfl, rfl, rfl⟩
        case round =>
          rename World => wr2
          obtain ⟨k, hk, rfl, rfl, rfl, hwr2⟩ := hrel
          subst wr2
          have hkB : (k : Int) ≤ 2513169434916 := by omega
          by_cases hkl : k < n6
          · have hkl' : (k : Int) < n6 := by omega
            obtain ⟨b6, e6, hf6, d6, -, -⟩ := HSA.out.gn.atL (j := k) (by rw [HM.out.2.1, ← HM.out.1]; exact hkl)
            subst e6
            have HST : Hid (atI g (k + 1) pl = (if g.getD k true = false ∧ (ix g k).length = pl then (k : Int) else atI g k pl) ∧ (ix g (k + 1)).length = (ix g k).length + (if g.getD k true = false then 1 else 0)) := ⟨atI_succ g k pl, by rw [ix_succ]; split <;> simp⟩
            have hIL : (((ix g k).length : Nat) : Int) ≤ k := Int.ofNat_le.2 (ix_len g k)
            obtain ⟨gk, hgk⟩ : ∃ gk, gk = g.getD k true := ⟨_, rfl⟩
            rw [← hgk] at d6 HST
            obtain ⟨L, hL⟩ : ∃ L, L = (ix g k).length := ⟨_, rfl⟩
            rw [← hL] at HST hIL
            obtain ⟨AT, hAT⟩ : ∃ AT, AT = atI g k pl := ⟨_, rfl⟩
            rw [← hAT] at HST
            rw [← hL, ← hAT]
            clear hgk hL hAT hf6
            cases gk with
            | true =>
              have e1 : atI g (k + 1) pl = AT := by have h := HST.out.1; simpa using h
              have e2 : (ix g (k + 1)).length = L := by have h := HST.out.2; simpa using h
              have HE : Hid (atI g (k + 1) pl = AT ∧ (ix g (k + 1)).length = L) := ⟨e1, e2⟩
              clear e1 e2 HST
              go_wp2_with fail
              go_roundw
              case rel => exact ⟨k + 1, by omega, by rw [HE.out.1], by rw [HE.out.2], by go_num, by trivial⟩
              case measure => simp [intOf]; omega
            | false =>
              by_cases hLp : L = pl
              · have hb1 : ((L : Int) == (pl : Int)) = true := by rw [hLp]; simp
                have hb2 : (L == pl) = true := by rw [hLp]; simp
                have e1 : atI g (k + 1) pl = k := by have h := HST.out.1; simpa [hLp] using h
                have e2 : (ix g (k + 1)).length = L + 1 := by have h := HST.out.2; simpa using h
                have HE : Hid (atI g (k + 1) pl = k ∧ (ix g (k + 1)).length = L + 1) := ⟨e1, e2⟩
                clear e1 e2 HST hLp
                go_wp2_with fail
                go_roundw
                case rel => exact ⟨k + 1, by omega, by rw [HE.out.1], by rw [HE.out.2]; go_num, by go_num, by trivial⟩
                case measure => simp [intOf]; omega
              · have hb1 : ((L : Int) == (pl : Int)) = false := by simp; omega
                have hb2 : (L == pl) = false := by simp [hLp]
                have e1 : atI g (k + 1) pl = AT := by have h := HST.out.1; simpa [hLp] using h
                have e2 : (ix g (k + 1)).length = L + 1 := by have h := HST.out.2; simpa using h
                have HE : Hid (atI g (k + 1) pl = AT ∧ (ix g (k + 1)).length = L + 1) := ⟨e1, e2⟩
                clear e1 e2 HST hLp
                go_wp2_with fail
                go_roundw
                case rel => exact ⟨k + 1, by omega, by rw [HE.out.1], by rw [HE.out.2]; go_num, by go_num, by trivial⟩
                case measure => simp [intOf]; omega
          · have hkl' : ¬ (k : Int) < n6 := by omega
            have hke : k = n6 := by omega
            subst hke
            have HAT : Hid ((∃ a : Nat, atI g k pl = a ∧ a < k ∧ (ix g bk.length)[pl]? = some a ∧ pl < lf) ∨ (atI g k pl = -1 ∧ ¬ pl < lf)) := by
              have e := HM.out
              rw [e.2.2.1, e.1]
              by_cases h : pl < (ix g bk.length).length
              · obtain ⟨a, h1, h2, h3⟩ := atI_has g bk.length pl h
                exact .inl ⟨a, h2, h3, h1, h⟩
              · exact .inr ⟨atI_no g _ pl h, h⟩
            generalize atI g k pl = AT at HAT ⊢
            generalize (ix g k).length = LL
            go_upto_block 4 with fail
            go_cut [5, 6, 7, 14, 15, 16, 17, 18, 19, 20, 21, 22, 23] from 76 to 237 (fun t5 t6 t7 _ _ _ _ _ _ _ _ _ _ wx => ∃ (o5 : Option Addr) (n5 c5 : Nat) (o6 : Option Addr) (n6 c6 lf : Nat), t5 = .slice o5 n5 c5 ∧ t6 = .slice o6 n6 c6 ∧ t7 = .int .i64 lf ∧ Hid (BSt w0 wx p o5 n5 c5 o6 n6 c6 lf (i + 1)))
            case first =>
              clear HSS
              by_cases q1 : kd = 1
              · subst q1
                have hm1 : bits .and .i64 A 1 = A % 2 := i64_and1 A
                obtain ⟨m1, hm2⟩ : ∃ m1 : Nat, A % 2 = (m1 : Int) := ⟨(A % 2).toNat, by omega⟩
                rw [hm2] at hm1
                have hm3 : (m1 : Int) ≤ 1 := by omega
                have hm4 : (0 : Int) ≤ (m1 : Int) := by omega
                have handB : bits .and .i64 B 65535 = B % 65536 := i64_and16 B
                obtain ⟨zb, hzb⟩ : ∃ zb : Nat, B % 65536 = (zb : Int) := ⟨(B % 65536).toNat, by omega⟩
                rw [hzb] at handB
                have hzB : (zb : Int) < 65536 := by omega
                have htm : (zb : Int).tmod 3 = ((zb % 3 : Nat) : Int) := by
                  have := Int.ofNat_tmod zb 3
                  exact this.symm
                have hJ3 : zb % 3 < 3 := Nat.mod_lt _ (by decide)
                generalize zb % 3 = J at htm hJ3
                have hJb : (J : Int) < 3 := by omega
                obtain ⟨y, hy⟩ : ∃ y, bits .and .i64 A 2 = y := ⟨_, rfl⟩
                obtain ⟨k2, hk2⟩ : ∃ k2, (y == 2) = k2 := ⟨_, rfl⟩
                clear hm2 hzb
                go_upto_if 89 with fail
                go_cut [14, 15, 16] from 90 to 92 (fun t14 t15 _ wx => ∃ FR TO : Int, t14 = .int .i64 FR ∧ t15 = .int .i64 TO ∧ Hid (canS (stB bk g) FR TO = true) ∧ wx = wa)
                case first =>
                  as_aux_lemma =>
                  clear HSA HBA HOW HBL HM
                  have HC1 : Hid (canS (stB bk g) (-1 - (m1 : Int)) (J : Int) = true) := by
                    show _ = _
                    unfold canS nodeS stB
                    simp
                    omega
                  have HC2 : Hid (canS (stB bk g) (J : Int) (-1 - (m1 : Int)) = true) := by
                    show _ = _
                    unfold canS nodeS stB
                    simp
                    omega
                  cases k2 with
                  | true =>
                    go_wp2_with fail
                    go_meet
                    exact ⟨_, _, rfl, rfl, HC2, rfl⟩
                  | false =>
                    go_wp2_with fail
                    go_meet
                    exact ⟨_, _, rfl, rfl, HC1, rfl⟩
                case rest =>
                  obtain ⟨FR, TO, rfl, rfl, HCN, hwx⟩ := hcut
                  subst wc
                  clear hm1 hm3 hm4 handB hzB htm hJ3 hJb hy hk2
                  go_wp2_with fail
                  refine (HOW.out _ HKA.out).mono ?_
                  rintro e wb ⟨v, rfl, ob, nb, cb, rfl, hnb, hob, hwb, hkb⟩
                  have H1 : Hid (Own BE wb ob cb bs ∧ New wa ob ∧ Keeps no wa wb ∧ nb = bs.length) := ⟨hob, hwb, hkb, hnb.out⟩
                  clear hob hwb hkb hnb
                  go_wp2_with fail
                  refine (Nx.send HNB.out HM.out.2.2.2.2 (by have := HM.out.1; omega) H1.out.2.2.1 H1.out.1.sl H1.out.2.2.2 HBL.out H1.out.2.1 FR TO).mono ?_
                  rintro e wd ⟨rfl, hx, hkd⟩
                  have e1 : ((sendN (stB bk g) FR TO : Nat) : Int) = (k : Int) + 1 := by
                    unfold sendN; rw [if_pos HCN.out]; show (((bk.length + 1 : Nat)) : Int) = _; rw [HM.out.1]; omega
                  have e2 : sendE (stB bk g) FR TO = 0 := by unfold sendE; rw [if_pos HCN.out]
                  rw [e1, e2]
                  have HS2 : Hid (sendS (stB bk g) FR TO bs = putS (stB bk g) FR TO bs ∧ NWf (sendS (stB bk g) FR TO bs) (bk.length + 1)) := ⟨by unfold sendS; rw [if_pos HCN.out], HM.out.2.2.2.2.send FR TO HBL.out⟩
                  have HSD : Hid (Bs w0 wd p (sendS (stB bk g) FR TO bs) o5 c5 rb o6 c6 bk g) := (HSA.out.keepsN H1.out.2.2.1).net hx (fun _ h => .inl h) (hkd.mono (fun i hi h => hi (.inl h)))
                  have HKD : Hid (Keeps no w wd) := HK0.out.trans hx.kp
                  have a5 := ((H1.out.2.2.1.at HBA.out (fun h => h)))
                  clear hx e1 e2 H1 a0 a2 a3 a4
                  have HBD : Hid (wd.heap[BO]? = some (.cells #[.int .i64 1, .int .i64 wh, .int .i64 A, .int .i64 B, .slice bo bn bc] 42 (0, 0))) := hkd.at a5 (fun h => h (.inr rfl))
                  clear a5 hkd
                  have a4 := cell_of_blk HBD.out 4
                  simp only [List.getElem?_toArray, List.getElem?_cons_succ, List.getElem?_cons_zero] at a4
                  go_wp2_with fail
                  refine (HOW.out _ HKD.out).mono ?_
                  rintro e we ⟨v, rfl, ob, nb, cb, rfl, hnb, hob, hwb, hkb⟩
                  have H1 : Hid (Own BE we ob cb bs ∧ New wd ob ∧ Keeps no wd we ∧ nb = bs.length) := ⟨hob, hwb, hkb, hnb.out⟩
                  have HSE : Hid (k = rb.length ∧ Own OE we o5 c5 rb ∧ (rb.length + 1) * OE.nb ≤ 140737488355328 ∧ rb.length + 1 ≤ 140737488355328) := by
                    have hl := HSA.out.len
                    have h1 := HM.out.1
                    refine ⟨by omega, HSD.out.book.keepsN hkb, ?_, by omega⟩
                    show (rb.length + 1) * 56 ≤ _
                    omega
                  clear hob hwb hkb hnb a4 HBD
                  obtain ⟨wf, hwf⟩ : ∃ wf, wf = we.alloc (.cells #[.int .i64 0, .int .i64 0, .int .i64 FR, .int .i64 TO, .slice ob nb cb] 42) := ⟨_, rfl⟩
                  have HRW : Hid (Row OE wf (some ⟨we.heap.size, 0, none⟩) [⟨0, 0, FR, TO, ob, nb, cb⟩] ∧ Own OE wf o5 c5 rb ∧ Keeps no wd wf ∧ Own BE wf ob cb bs) := by
                    rw [hwf]
                    exact ⟨lit_row okO we [⟨0, 0, FR, TO, ob, nb, cb⟩] _ (0, 0) rfl, HSE.out.2.1.keepsN ((Keeps.refl _ _).alloc _), H1.out.2.2.1.alloc _, H1.out.1.keepsN ((Keeps.refl _ _).alloc _)⟩
                  go_upto_region 37 with (at_builtin; rw [← hwf]; refine wpList_app okO rfl _ _ rfl o5 k c5 rb rfl HSE.out.1 HRW.out.2.1 (some ⟨we.heap.size, 0, none⟩) 1 1 [⟨0, 0, FR, TO, ob, nb, cb⟩] rfl rfl (fun h => by cases h) HRW.out.1 HSE.out.2.2.1 HSE.out.2.2.2 ?_; intro o7 c7 w7 ho7 ha7)
                  have HS7 : Hid (Bs w0 w7 p (sendS (stB bk g) FR TO bs) o7 c7 (rb ++ [⟨0, 0, FR, TO, ob, nb, cb⟩]) o6 c6 (bk ++ [⟨FR, TO, bs⟩]) g ∧ k = g.length ∧ (g.length + 1) * LE.nb ≤ 140737488355328 ∧ g.length + 1 ≤ 140737488355328) := by
                    refine ⟨HSD.out.push HRW.out.2.2.1 (r := ⟨0, 0, FR, TO, ob, nb, cb⟩) (b := ⟨FR, TO, bs⟩) ⟨rfl, rfl, H1.out.2.2.2, HRW.out.2.2.2⟩ (fun i hi => .inr (H1.out.2.1 i hi)) ho7 ha7, ?_, ?_, ?_⟩
                    all_goals have := HM.out.1; have := HM.out.2.1
                    · omega
                    · show (g.length + 1) * 1 ≤ _; omega
                    · omega
                  clear ho7 ha7 HSE H1 HSD HRW hwf
                  obtain ⟨wg, hwg⟩ : ∃ wg, wg = w7.alloc (.cells #[.bool false] 4) := ⟨_, rfl⟩
                  have HRG : Hid (Row LE wg (some ⟨w7.heap.size, 0, none⟩) [false] ∧ Own LE wg o6 c6 g ∧ Keeps no w7 wg) := by
                    rw [hwg]
                    exact ⟨lit_row okL w7 [false] _ (0, 0) rfl, HS7.out.1.gn.keepsN ((Keeps.refl _ _).alloc _), (Keeps.refl _ _).alloc _⟩
                  go_upto_region 38 with (at_builtin; rw [← hwg]; refine wpList_app okL rfl _ _ rfl o6 k c6 g rfl HS7.out.2.1 HRG.out.2.1 (some ⟨w7.heap.size, 0, none⟩) 1 1 [false] rfl rfl (fun h => by cases h) HRG.out.1 HS7.out.2.2.1 HS7.out.2.2.2 ?_; intro o8 c8 w8 ho8 ha8)
                  have HS8 : Hid (BSt w0 w8 p o7 (k + 1) c7 o8 (k + 1) c8 (lf + 1) (i + 1)) := by
                    have h1 := HM.out.1
                    have h2 := HM.out.2.2.2.1
                    exact bst_push (b := ⟨FR, TO, bs⟩) (HS7.out.1.marks HRG.out.2.2 ho8 ha8) HS2.out.1 HM.out.2.1 (by omega) (by omega) (by rw [HM.out.2.2.1]) (by omega) HS2.out.2
                  clear ho8 ha8 HS7 HRG hwg
                  go_wp2_with fail
                  go_meet
                  exact ⟨o7, k + 1, c7, o8, k + 1, c8, lf + 1, rfl, rfl, by go_num, HS8⟩
              have q1b : (kd == 1) = false := by simpa using q1
              by_cases q2 : kd = 2
              · as_aux_lemma =>
                subst q2
                go_wp2_with fail
                refine (Nx.del HSA.out.nx HM.out.2.2.2.2 (by have := HM.out.1; omega) pl).mono ?_
                rintro e wb ⟨r, rfl, hr, hx, hkb, -⟩
                have HSB0 : Hid (Bs w0 wb p (delS (stB bk g) pl) o5 c5 rb o6 c6 bk g) := HSA.out.net hx (fun _ h => .inl h) hkb
                clear hx hkb a0 a2 a3 a4
                obtain ⟨r0, r1, r2, ro, rn, rc⟩ := r
                unfold aggF
                simp only
                go_upto_region 46 with fail
                obtain ⟨BD, hBD⟩ : ∃ BD, BD = wb.heap.size := ⟨_, rfl⟩
                have hwd : (wb.alloc (.cells #[.int .i64 ((r0 : Nat) : Int), .int .i64 r1, .int .i64 r2, .slice ro rn rc] 33)).heap[BD]? = some (.cells #[.int .i64 ((r0 : Nat) : Int), .int .i64 r1, .int .i64 r2, .slice ro rn rc] 33 (0, 0)) ∧ Keeps no wb (wb.alloc (.cells #[.int .i64 ((r0 : Nat) : Int), .int .i64 r1, .int .i64 r2, .slice ro rn rc] 33)) := ⟨by rw [hBD]; exact blk_new wb _, (Keeps.refl _ _).alloc _⟩
                rw [← hBD]
                generalize wb.alloc (.cells #[.int .i64 ((r0 : Nat) : Int), .int .i64 r1, .int .i64 r2, .slice ro rn rc] 33) = wd at hwd ⊢
                have HSD : Hid (Bs w0 wd p (delS (stB bk g) pl) o5 c5 rb o6 c6 bk g) := HSB0.out.keepsN hwd.2
                have hr2 := hr.keepsN hwd.2
                have hb0 := hwd.1
                clear hr hwd hBD HSB0
                rcases HAT.out with ⟨a, e1, e2, e3, e4⟩ | ⟨e1, e2⟩
                · have e5 : errS (stB bk g) pl = 0 := by unfold errS; rw [if_pos ((stB_has bk g pl).2 (by rw [← HM.out.2.2.1]; exact e4))]
                  rw [e5]
                  subst e1
                  have ha0 : (0 : Int) ≤ (a : Int) := by omega
                  rw [stB_delF e3] at hr2
                  obtain ⟨q0, q1', q2', q3', q4'⟩ := hr2
                  have hra := HSD.out.rows a (by rw [← HM.out.1]; exact e2)
                  obtain ⟨b5, off5, e6, A5⟩ := row_at5 HSD.out.book.row (j := a) (by rw [HSD.out.len, ← HM.out.1]; exact e2)
                  generalize rb.getD a ro0 = ra at hra A5
                  obtain ⟨x0, x1, x2, x3, xo, xn, xc⟩ := ra
                  obtain ⟨y1, y2, y3, y4⟩ := hra
                  simp only [frB] at q0 q1' q2' q3' q4' y1 y2 y3 y4
                  obtain ⟨z0, z1, z2, z3, z4⟩ := A5
                  simp only at z0 z1 z2 z3 z4
                  have HSM : Hid (∀ d os, Calls Try.prog 15 #[.slice ro rn rc, .slice xo xn xc] (Sort.grow (redrawn wd d) os) fun e w'' => e = .returned (.bool true) ∧ ∃ p : Regrown, w'' = Sort.grow (redrawn wd p.d) p.os) := call_grown (fun X hX => (same_yes X ro rn rc xo xn xc _ q3' y3 (q4'.row.keepsN hX) (y4.row.keepsN hX)).mono (fun e w' h => ⟨h.1, by rw [h.2]; exact Keeps.refl _ _⟩))
                  have HO5 : Hid (o5 = some ⟨b5, off5, none⟩) := e6
                  rw [e6]
                  have hfr : x2 = r1 := by rw [y1, q1']
                  have hto : x3 = r2 := by rw [y2, q2']
                  subst q0 hfr hto
                  have d0 := cell_regrown (by rw [cell_of_blk hb0 0]; rfl : wd.cell? ⟨BD, 0, none⟩ = some (.int .i64 ((a + 1 : Nat) : Int)))
                  have d1 := cell_regrown (by rw [cell_of_blk hb0 1]; rfl : wd.cell? ⟨BD, 1, none⟩ = some (.int .i64 x2))
                  have d2 := cell_regrown (by rw [cell_of_blk hb0 2]; rfl : wd.cell? ⟨BD, 2, none⟩ = some (.int .i64 x3))
                  have d3 := cell_regrown (by rw [cell_of_blk hb0 3]; rfl : wd.cell? ⟨BD, 3, none⟩ = some (.slice ro rn rc))
                  have c2' := cell_regrown z2
                  have c3' := cell_regrown z3
                  have c4' := cell_regrown z4
                  have hak : (a : Int) < k := by omega
                  clear hb0 z0 z1 z2 z3 z4 y1 y2 y3 y4 q1' q2' q3' q4'
                  refine wp_region_quiet_below (by kernel_rfl) (by kernel_rfl) ?_
                  repeat (go_big_quiet_step (exact HSM.out _ _))
                  refine wpQuiet_nil ?_
                  intro _ hw'
                  obtain ⟨⟨dq, osq⟩, rfl⟩ := hw'
                  have HSB : Hid (Bs w0 (Sort.grow (redrawn wd dq) osq) p (delS (stB bk g) pl) o5 c5 rb o6 c6 bk g) := HSD.out.keepsN (keeps_grown ..)
                  generalize Sort.grow (redrawn wd dq) osq = wu at HSB ⊢
                  rw [← HO5.out]
                  clear d0 d1 d2 d3 c2' c3' c4' HSM HSD
                  obtain ⟨l2, hl2⟩ : ∃ l2, lf = l2 + 1 := ⟨lf - 1, by omega⟩
                  subst hl2
                  obtain ⟨b6, e6, hf6, d6, ho6, hk6⟩ := HSB.out.gn.atL (j := a) (by rw [HM.out.2.1, ← HM.out.1]; exact e2)
                  subst e6
                  have HFN : Hid (BSt w0 (wu.setCell ⟨b6, a, none⟩ (.bool true)) p o5 k c5 (some ⟨b6, 0, none⟩) k c6 l2 (i + 1)) := by
                    have h1 := HM.out.1
                    have h2 := HM.out.2.2.2.1
                    exact bst_gone (HSB.out.marks (Keeps.refl _ _) ho6 (.inl ⟨rfl, hk6⟩)) e3 HM.out.2.1 h1 h1 HM.out.2.2.1 (by omega) HM.out.2.2.2.2
                  have hf6a := hf6 a
                  clear hf6 ho6 hk6 HSB
                  go_wp2_with fail
                  go_meet
                  exact ⟨o5, k, c5, some ⟨b6, 0, none⟩, k, c6, l2, rfl, rfl, by first | rfl | go_num | (congr 1; omega), HFN⟩
                · have hh : ¬ hasS (stB bk g) pl = true := fun h => e2 (by rw [HM.out.2.2.1]; exact (stB_has bk g pl).1 h)
                  have e5 : errS (stB bk g) pl = 210 := by unfold errS; rw [if_neg hh]
                  rw [e5]
                  subst e1
                  have HSD2 : Hid (Bs w0 wd p (stB bk g) o5 c5 rb o6 c6 bk g) := by
                    have h := HSD.out
                    have e6 : delS (stB bk g) pl = stB bk g := by unfold delS; rw [if_neg hh]
                    rw [e6] at h
                    exact h
                  clear hh HSD hr2 hb0
                  refine wp_region_quiet_below (by kernel_rfl) (by kernel_rfl) ?_
                  repeat (go_big_quiet_step (fail))
                  refine wpQuiet_nil ?_
                  intro _ hw'
                  obtain ⟨⟨dq, osq⟩, rfl⟩ := hw'
                  have HFN : Hid (BSt w0 (Sort.grow (redrawn wd dq) osq) p o5 k c5 o6 k c6 lf (i + 1)) := ⟨rb, bk, g, HM.out.1, by rw [HM.out.2.1]; exact HM.out.1, HM.out.2.1, HM.out.2.2.1, Nat.le_succ_of_le HM.out.2.2.2.1, HM.out.2.2.2.2, HSD2.out.keepsN (keeps_grown ..)⟩
                  generalize Sort.grow (redrawn wd dq) osq = wu at HFN ⊢
                  clear HSD2
                  go_wp2_with fail
                  go_meet
                  exact ⟨o5, k, c5, o6, k, c6, lf, rfl, rfl, rfl, HFN⟩
              have q2b : (kd == 2) = false := by simpa using q2
              by_cases q3 : kd = 3
              · as_aux_lemma =>
                subst q3
                go_wp2_with fail
                refine (Nx.lose HSA.out.nx HM.out.2.2.2.2 (by have := HM.out.1; omega) pl).mono ?_
                rintro e wb ⟨rfl, hx, hkb⟩
                have HSB : Hid (Bs w0 wb p (delS (stB bk g) pl) o5 c5 rb o6 c6 bk g) := HSA.out.net hx (fun _ h => h) hkb
                clear hx hkb a0 a2 a3 a4
                rcases HAT.out with ⟨a, e1, e2, e3, e4⟩ | ⟨e1, e2⟩
                · have e5 : errS (stB bk g) pl = 0 := by unfold errS; rw [if_pos ((stB_has bk g pl).2 (by rw [← HM.out.2.2.1]; exact e4))]
                  rw [e5]
                  subst e1
                  have ha0 : (0 : Int) ≤ (a : Int) := by omega
                  obtain ⟨l2, hl2⟩ : ∃ l2, lf = l2 + 1 := ⟨lf - 1, by omega⟩
                  subst hl2
                  obtain ⟨b6, e6, hf6, d6, ho6, hk6⟩ := HSB.out.gn.atL (j := a) (by rw [HM.out.2.1, ← HM.out.1]; exact e2)
                  subst e6
                  have HFN : Hid (BSt w0 (wb.setCell ⟨b6, a, none⟩ (.bool true)) p o5 k c5 (some ⟨b6, 0, none⟩) k c6 l2 (i + 1)) := by
                    have h1 := HM.out.1
                    have h2 := HM.out.2.2.2.1
                    exact bst_gone (HSB.out.marks (Keeps.refl _ _) ho6 (.inl ⟨rfl, hk6⟩)) e3 HM.out.2.1 h1 h1 HM.out.2.2.1 (by omega) HM.out.2.2.2.2
                  have hf6a := hf6 a
                  have hak : (a : Int) < k := by omega
                  clear hf6 ho6 hk6 HSB
                  go_wp2_with fail
                  go_meet
                  exact ⟨o5, k, c5, some ⟨b6, 0, none⟩, k, c6, l2, rfl, rfl, by first | rfl | go_num | (congr 1; omega), HFN⟩
                · have hh : ¬ hasS (stB bk g) pl = true := fun h => e2 (by rw [HM.out.2.2.1]; exact (stB_has bk g pl).1 h)
                  have e5 : errS (stB bk g) pl = 210 := by unfold errS; rw [if_neg hh]
                  rw [e5]
                  subst e1
                  have HFN : Hid (BSt w0 wb p o5 k c5 o6 k c6 lf (i + 1)) := by
                    have h := HSB.out
                    have e6 : delS (stB bk g) pl = stB bk g := by unfold delS; rw [if_neg hh]
                    rw [e6] at h
                    exact ⟨rb, bk, g, HM.out.1, by rw [HM.out.2.1]; exact HM.out.1, HM.out.2.1, HM.out.2.2.1, Nat.le_succ_of_le HM.out.2.2.2.1, HM.out.2.2.2.2, h⟩
                  clear hh HSB
                  go_wp2_with fail
                  go_meet
                  exact ⟨o5, k, c5, o6, k, c6, lf, rfl, rfl, rfl, HFN⟩
              have q3b : (kd == 3) = false := by simpa using q3
              by_cases q4 : kd = 4
              · subst q4
                go_wp2_with fail
                refine (Nx.twin HSA.out.nx HM.out.2.2.2.2 (by have := HM.out.1; omega) pl).mono ?_
                rintro e wb ⟨rfl, hx, hkb⟩
                have HSB : Hid (Bs w0 wb p (twinS (stB bk g) pl) o5 c5 rb o6 c6 bk g) := HSA.out.net hx (fun _ h => h) hkb
                clear hx hkb a0 a2 a3 a4
                rcases HAT.out with ⟨a, e1, e2, e3, e4⟩ | ⟨e1, e2⟩
                · have hh : hasS (stB bk g) pl = true := (stB_has bk g pl).2 (by rw [← HM.out.2.2.1]; exact e4)
                  have e5 : errS (stB bk g) pl = 0 := by unfold errS; rw [if_pos hh]
                  have e6 : ((twinN (stB bk g) pl : Nat) : Int) = (k : Int) + 1 := by
                    unfold twinN; rw [if_pos hh]; show (((bk.length + 1 : Nat)) : Int) = _; rw [HM.out.1]; omega
                  rw [e5, e6]
                  subst e1
                  have ha0 : (0 : Int) ≤ (a : Int) := by omega
                  have hak : (a : Int) < k := by omega
                  have HTW : Hid (twinS (stB bk g) pl = putS (stB bk g) (bk.getD a bk0).frm (bk.getD a bk0).dst (bk.getD a bk0).bs ∧ NWf (twinS (stB bk g) pl) (bk.length + 1)) := ⟨by unfold twinS; rw [if_pos hh, stB_delF e3]; rfl, HM.out.2.2.2.2.twin pl⟩
                  have hra := HSB.out.rows a (by rw [← HM.out.1]; exact e2)
                  have hla := HSB.out.len
                  obtain ⟨b5, off5, e7, A5⟩ := row_at5 HSB.out.book.row (j := a) (by rw [HSB.out.len, ← HM.out.1]; exact e2)
                  have HMA : Hid (∀ i, inO (rb.getD a ro0).o i → MB o5 o6 rb bk.length i) := fun i hi => .inr (.inr ⟨a, by rw [← HM.out.1]; exact e2, hi⟩)
                  have HRA : Hid (BkOf wb (rb.getD a ro0) (bk.getD a bk0)) := hra
                  generalize rb.getD a ro0 = ra at HRA A5 HMA
                  generalize bk.getD a bk0 = ba at HRA HTW
                  obtain ⟨x0, x1, x2, x3, xo, xn, xc⟩ := ra
                  obtain ⟨z0, z1, z2, z3, z4⟩ := A5
                  simp only at z0 z1 z2 z3 z4
                  have HSE : Hid (k = rb.length ∧ Own OE wb (some ⟨b5, off5, none⟩) c5 rb ∧ (rb.length + 1) * OE.nb ≤ 140737488355328 ∧ rb.length + 1 ≤ 140737488355328) := by
                    have h1 := HM.out.1
                    refine ⟨by omega, by rw [← e7]; exact HSB.out.book, ?_, by omega⟩
                    show (rb.length + 1) * 56 ≤ _
                    omega
                  have HO5 : Hid (o5 = some ⟨b5, off5, none⟩) := e7
                  rw [e7]
                  clear hra hla hh e7
                  obtain ⟨wf, hwf⟩ : ∃ wf, wf = wb.alloc (.cells #[.int .i64 x0, .int .i64 x1, .int .i64 x2, .int .i64 x3, .slice xo xn xc] 42) := ⟨_, rfl⟩
                  have HRW : Hid (Row OE wf (some ⟨wb.heap.size, 0, none⟩) [⟨x0, x1, x2, x3, xo, xn, xc⟩] ∧ Own OE wf (some ⟨b5, off5, none⟩) c5 rb ∧ Keeps no wb wf) := by
                    rw [hwf]
                    exact ⟨lit_row okO wb [⟨x0, x1, x2, x3, xo, xn, xc⟩] _ (0, 0) rfl, HSE.out.2.1.keepsN ((Keeps.refl _ _).alloc _), (Keeps.refl _ _).alloc _⟩
                  go_upto_region 57 with (at_builtin; rw [← hwf]; refine wpList_app okO rfl _ _ rfl (some ⟨b5, off5, none⟩) k c5 rb rfl HSE.out.1 HRW.out.2.1 (some ⟨wb.heap.size, 0, none⟩) 1 1 [⟨x0, x1, x2, x3, xo, xn, xc⟩] rfl rfl (fun h => by cases h) HRW.out.1 HSE.out.2.2.1 HSE.out.2.2.2 ?_; intro o7 c7 w7 ho7 ha7)
                  have HS7 : Hid (Bs w0 w7 p (twinS (stB bk g) pl) o7 c7 (rb ++ [⟨x0, x1, x2, x3, xo, xn, xc⟩]) o6 c6 (bk ++ [ba]) g ∧ k = g.length ∧ (g.length + 1) * LE.nb ≤ 140737488355328 ∧ g.length + 1 ≤ 140737488355328) := by
                    refine ⟨HSB.out.push HRW.out.2.2 (HRA.out.keeps HRW.out.2.2 (fun _ _ h => h)) (fun i hi => .inl (HMA.out i hi)) ho7 (by rw [HO5.out]; exact ha7), ?_, ?_, ?_⟩
                    all_goals have := HM.out.1; have := HM.out.2.1
                    · omega
                    · show (g.length + 1) * 1 ≤ _; omega
                    · omega
                  rw [← HO5.out]
                  clear ho7 ha7 HSE HSB HRW hwf z0 z1 z2 z3 z4
                  obtain ⟨wg, hwg⟩ : ∃ wg, wg = w7.alloc (.cells #[.bool false] 4) := ⟨_, rfl⟩
                  have HRG : Hid (Row LE wg (some ⟨w7.heap.size, 0, none⟩) [false] ∧ Own LE wg o6 c6 g ∧ Keeps no w7 wg) := by
                    rw [hwg]
                    exact ⟨lit_row okL w7 [false] _ (0, 0) rfl, HS7.out.1.gn.keepsN ((Keeps.refl _ _).alloc _), (Keeps.refl _ _).alloc _⟩
                  go_upto_region 58 with (at_builtin; rw [← hwg]; refine wpList_app okL rfl _ _ rfl o6 k c6 g rfl HS7.out.2.1 HRG.out.2.1 (some ⟨w7.heap.size, 0, none⟩) 1 1 [false] rfl rfl (fun h => by cases h) HRG.out.1 HS7.out.2.2.1 HS7.out.2.2.2 ?_; intro o8 c8 w8 ho8 ha8)
                  have HS8 : Hid (BSt w0 w8 p o7 (k + 1) c7 o8 (k + 1) c8 (lf + 1) (i + 1)) := by
                    have h1 := HM.out.1
                    have h2 := HM.out.2.2.2.1
                    exact bst_push (b := ba) (HS7.out.1.marks HRG.out.2.2 ho8 ha8) HTW.out.1 HM.out.2.1 (by omega) (by omega) (by rw [HM.out.2.2.1]) (by omega) HTW.out.2
                  clear ho8 ha8 HS7 HRG hwg
                  go_wp2_with fail
                  go_meet
                  exact ⟨o7, k + 1, c7, o8, k + 1, c8, lf + 1, rfl, rfl, by go_num, HS8⟩
                · have hh : ¬ hasS (stB bk g) pl = true := fun h => e2 (by rw [HM.out.2.2.1]; exact (stB_has bk g pl).1 h)
                  have e5 : errS (stB bk g) pl = 210 := by unfold errS; rw [if_neg hh]
                  have e6 : ((twinN (stB bk g) pl : Nat) : Int) = 0 := by unfold twinN; rw [if_neg hh]; rfl
                  rw [e5, e6]
                  subst e1
                  have HFN : Hid (BSt w0 wb p o5 k c5 o6 k c6 lf (i + 1)) := by
                    have h := HSB.out
                    have e6 : twinS (stB bk g) pl = stB bk g := by unfold twinS; rw [if_neg hh]
                    rw [e6] at h
                    exact ⟨rb, bk, g, HM.out.1, by rw [HM.out.2.1]; exact HM.out.1, HM.out.2.1, HM.out.2.2.1, Nat.le_succ_of_le HM.out.2.2.2.1, HM.out.2.2.2.2, h⟩
                  clear hh HSB
                  go_wp2_with fail
                  go_meet
                  exact ⟨o5, k, c5, o6, k, c6, lf, rfl, rfl, rfl, HFN⟩
              have q4b : (kd == 4) = false := by simpa using q4
              as_aux_lemma =>
              have HB9 : Hid (BSt w0 wa p o5 k c5 o6 k c6 lf (i + 1)) := ⟨rb, bk, g, HM.out.1, by rw [HM.out.2.1]; exact HM.out.1, HM.out.2.1, HM.out.2.2.1, Nat.le_succ_of_le HM.out.2.2.2.1, HM.out.2.2.2.2, HSA.out⟩
              go_wp2_with fail
              go_meet
              exact ⟨o5, k, c5, o6, k, c6, lf, rfl, rfl, rfl, HB9⟩
            case rest =>
              as_aux_lemma =>
              obtain ⟨o5', n5', c5', o6', n6', c6', lf', rfl, rfl, rfl, HBN⟩ := hcut
              clear HSA HBA HOW HBL HM HAT HKA HNB a0 a2 a3 a4
              have HLN : Hid (∃ s M, Nx IsN w0 wc p s M ∧ s.fl.length = lf') := by
                obtain ⟨rb', bk', g', h1, h2, h3, h4, h5, h6, h7⟩ := HBN.out
                exact ⟨_, _, h7.nx, by rw [h4]; exact flB_len bk' g'⟩
              obtain ⟨s9, M9, h9, e9⟩ := HLN.out
              go_wp2_with fail
              refine (Nx.leng h9).mono ?_
              rintro e w9 ⟨rfl, -, hk9⟩
              rw [e9]
              have HB9 : Hid (BSt w0 w9 p o5' n5' c5' o6' n6' c6' lf' (i + 1)) := by
                obtain ⟨rb', bk', g', h1, h2, h3, h4, h5, h6, h7⟩ := HBN.out
                exact ⟨rb', bk', g', h1, h2, h3, h4, h5, h6, h7.keepsN hk9⟩
              clear h9 e9 hk9 HLN HBN
              go_wp2_with fail
              go_roundw
              case rel => exact ⟨i + 1, o5', n5', c5', o6', n6', c6', lf', by omega, rfl, rfl, rfl, by go_num, HB9⟩
              case measure => simp [intOf]; omega
    · have hlt' : ¬ (i : Int) < ns := by omega
      have hie : i = ns := by omega
      subst hie
      as_aux_lemma =>
      have HBF : Hid (Bs w0 wr p ⟨3, 2, bk.length, flF bk g 0⟩ o5 c5 rb o6 c6 bk g) := by rw [flF_zero]; exact HBS.out
      have HWF : Hid (∀ k, NWf ⟨3, 2, bk.length, flF bk g k⟩ bk.length) := fun k => flF_wf HM.out.2.2.2.2 k
      clear HBS
      go_wp2_with fail
      go_loopw [24] (fun s24 wr2 => ∃ k : Nat, k ≤ n6 ∧ s24 = .int .i64 k ∧ Hid (Bs w0 wr2 p ⟨3, 2, bk.length, flF bk g k⟩ o5 c5 rb o6 c6 bk g)) (fun s24 _ => n6 - (intOf s24).toNat)
      case atStart => exact ⟨0, by omega, rfl, HBF⟩
      case round =>
        rename World => wr2
        obtain ⟨k, hk, rfl, HB2⟩ := hrel
        clear HBF
        have hkB : (k : Int) ≤ 2513169434916 := by omega
        by_cases hkl : k < n6
        · have hkl' : (k : Int) < n6 := by omega
          have hkb : k < bk.length := by rw [← HM.out.1]; exact hkl
          obtain ⟨b6, e6, hf6, d6, -, -⟩ := HB2.out.gn.atL (j := k) (by rw [HM.out.2.1]; exact hkb)
          obtain ⟨gk, hgk⟩ : ∃ gk, gk = g.getD k true := ⟨_, rfl⟩
          rw [← hgk] at d6
          have HGK : Hid (gk = g.getD k true) := hgk
          subst e6
          clear hgk hf6
          cases gk with
          | true =>
            have HN : Hid (Bs w0 wr2 p ⟨3, 2, bk.length, flF bk g (k + 1)⟩ o5 c5 rb (some ⟨b6, 0, none⟩) c6 bk g) := by rw [← flF_no bk g k hkb HGK.out.symm]; exact HB2.out
            clear HB2
            go_wp2_with fail
            go_roundw
            case rel => exact ⟨k + 1, by omega, by go_num, HN⟩
            case measure => simp [intOf]; omega
          | false =>
            have HS0 : Hid (hasS ⟨3, 2, bk.length, flF bk g k⟩ 0 = true ∧ delF ⟨3, 2, bk.length, flF bk g k⟩ 0 = frB bk k ∧ delS ⟨3, 2, bk.length, flF bk g k⟩ 0 = ⟨3, 2, bk.length, flF bk g (k + 1)⟩) := flF_del bk g k hkb HGK.out.symm
            go_wp2_with fail
            refine (Nx.del HB2.out.nx (HWF.out k) (by have := HM.out.1; omega) 0).mono ?_
            rintro e wb ⟨r, rfl, hr, hx, hkb2, -⟩
            rw [HS0.out.2.2] at hx
            rw [HS0.out.2.1] at hr
            have e5 : errS ⟨3, 2, bk.length, flF bk g k⟩ 0 = 0 := by unfold errS; rw [if_pos HS0.out.1]
            rw [e5]
            have HSB0 : Hid (Bs w0 wb p ⟨3, 2, bk.length, flF bk g (k + 1)⟩ o5 c5 rb (some ⟨b6, 0, none⟩) c6 bk g) := HB2.out.net hx (fun _ h => .inl h) hkb2
            clear hx hkb2 d6 HB2 HS0
            obtain ⟨r0, r1, r2, ro, rn, rc⟩ := r
            unfold aggF
            simp only
            go_upto_region 66 with fail
            obtain ⟨BD, hBD⟩ : ∃ BD, BD = wb.heap.size := ⟨_, rfl⟩
            have hwd : (wb.alloc (.cells #[.int .i64 ((r0 : Nat) : Int), .int .i64 r1, .int .i64 r2, .slice ro rn rc] 33)).heap[BD]? = some (.cells #[.int .i64 ((r0 : Nat) : Int), .int .i64 r1, .int .i64 r2, .slice ro rn rc] 33 (0, 0)) ∧ Keeps no wb (wb.alloc (.cells #[.int .i64 ((r0 : Nat) : Int), .int .i64 r1, .int .i64 r2, .slice ro rn rc] 33)) := ⟨by rw [hBD]; exact blk_new wb _, (Keeps.refl _ _).alloc _⟩
            rw [← hBD]
            generalize wb.alloc (.cells #[.int .i64 ((r0 : Nat) : Int), .int .i64 r1, .int .i64 r2, .slice ro rn rc] 33) = wd at hwd ⊢
            have HSD : Hid (Bs w0 wd p ⟨3, 2, bk.length, flF bk g (k + 1)⟩ o5 c5 rb (some ⟨b6, 0, none⟩) c6 bk g) := HSB0.out.keepsN hwd.2
            have hr2 := hr.keepsN hwd.2
            have hb0 := hwd.1
            clear hr hwd hBD HSB0
            obtain ⟨q0, q1', q2', q3', q4'⟩ := hr2
            have hra := HSD.out.rows k hkb
            obtain ⟨b5, off5, e6, A5⟩ := row_at5 HSD.out.book.row (j := k) (by rw [HSD.out.len]; exact hkb)
            generalize rb.getD k ro0 = ra at hra A5
            obtain ⟨x0, x1, x2, x3, xo, xn, xc⟩ := ra
            obtain ⟨y1, y2, y3, y4⟩ := hra
            simp only [frB] at q0 q1' q2' q3' q4' y1 y2 y3 y4
            obtain ⟨z0, z1, z2, z3, z4⟩ := A5
            simp only at z0 z1 z2 z3 z4
            have HSM : Hid (∀ d os, Calls Try.prog 15 #[.slice ro rn rc, .slice xo xn xc] (Sort.grow (redrawn wd d) os) fun e w'' => e = .returned (.bool true) ∧ ∃ p : Regrown, w'' = Sort.grow (redrawn wd p.d) p.os) := call_grown (fun X hX => (same_yes X ro rn rc xo xn xc _ q3' y3 (q4'.row.keepsN hX) (y4.row.keepsN hX)).mono (fun e w' h => ⟨h.1, by rw [h.2]; exact Keeps.refl _ _⟩))
            subst e6
            subst q0
            have d0 := cell_regrown (by rw [cell_of_blk hb0 0]; rfl : wd.cell? ⟨BD, 0, none⟩ = some (.int .i64 ((k + 1 : Nat) : Int)))
            have d3 := cell_regrown (by rw [cell_of_blk hb0 3]; rfl : wd.cell? ⟨BD, 3, none⟩ = some (.slice ro rn rc))
            have c4' := cell_regrown z4
            clear hb0 z0 z1 z2 z3 z4 y1 y2 y3 y4 q1' q2' q3' q4'
            refine wp_region_quiet_below (by kernel_rfl) (by kernel_rfl) ?_
            repeat (go_big_quiet_step (exact HSM.out _ _))
            refine wpQuiet_nil ?_
            intro _ hw'
            obtain ⟨⟨dq, osq⟩, rfl⟩ := hw'
            have HN : Hid (Bs w0 (Sort.grow (redrawn wd dq) osq) p ⟨3, 2, bk.length, flF bk g (k + 1)⟩ (some ⟨b5, off5, none⟩) c5 rb (some ⟨b6, 0, none⟩) c6 bk g) := HSD.out.keepsN (keeps_grown ..)
            generalize Sort.grow (redrawn wd dq) osq = wu at HN ⊢
            clear d0 d3 c4' HSM HSD
            go_wp2_with fail
            go_roundw
            case rel => exact ⟨k + 1, by omega, by go_num, HN⟩
            case measure => simp [intOf]; omega
        · have hkl' : ¬ (k : Int) < n6 := by omega
          have hke : k = bk.length := by rw [← HM.out.1]; omega
          have HNX : Hid (∃ M, Nx IsN w0 wr2 p ⟨3, 2, bk.length, []⟩ M) := ⟨_, by have h := HB2.out.nx; rw [hke, flF_end] at h; exact h⟩
          have HW0 : Hid (NWf ⟨3, 2, bk.length, []⟩ bk.length ∧ bk.length ≤ 2600000000000) := ⟨by have h := HWF.out bk.length; rw [flF_end] at h; exact h, by have := HM.out.1; omega⟩
          clear hke HB2 HWF HM
          obtain ⟨M9, h9⟩ := HNX.out
          go_wp2_with fail
          refine (Nx.leng h9).mono ?_
          rintro e w9 ⟨rfl, hx9, hk9⟩
          have e9 : ((([] : List Fr).length : Nat) : Int) = 0 := rfl
          simp only
          rw [e9]
          have H9 : Hid (Nx IsN w0 w9 p ⟨3, 2, bk.length, []⟩ M9) := hx9
          clear h9 hx9 hk9 HNX
          go_wp2_with fail
          refine (Nx.flight H9.out HW0.out.1 HW0.out.2).mono ?_
          rintro e w10 ⟨of, nf, cf, rsf, rfl, hnf, -, -, hkf⟩
          have HK : Hid (Keeps no w w10) := (HK0.out.trans H9.out.kp).trans hkf
          have hnf0 : nf = 0 := hnf
          subst hnf0
          clear hkf hnf H9 HW0
          go_wp2_with fail
          go_ret
          exact ⟨rfl, HK.out⟩
end Go.Proofs.Ytdbejihkliafiaa

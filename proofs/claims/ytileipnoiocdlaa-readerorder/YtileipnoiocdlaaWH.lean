import Derived.Test.YtileipnoiocdlaaWG
/- The law's worlds: fit. -/
namespace Go.Proofs.Ytileipnoiocdlaa
open Go.RowKit Go.Sort Orl
set_option linter.unusedVariables false
set_option linter.unusedSimpArgs false

def fitP (P : Int) : Nat := (P % 64).toNat + 1
def fitF (x : Wr) : Bool := valK x.1
def fitL (ws : List Wr) : List Wr := (ws.filter fitF).take 12
theorem fitP_b (P : Int) : 1 ≤ fitP P ∧ fitP P ≤ 64 := by unfold fitP; omega
theorem fitL_good {ws : List Wr} (h : FitWs ws) : GoodW (fitL ws) := by
  have key : ∀ j, j < (fitL ws).length → (fitL ws).getD j wr0 ∈ ws.filter fitF := fun j hj => List.mem_of_mem_take (getD_mem_lt wr0 hj)
  refine ⟨by unfold fitL; rw [List.length_take]; omega, fun j hj => (List.mem_filter.1 (key j hj)).2, fun j hj => h.done _ (List.mem_filter.1 (key j hj)).1⟩
theorem wd_size (a b : Value) : (Try.prog.info? 59).map (·.size) = some (#[a, b] : Array Value).size := by
  show _ = some 2
  kernel_rfl
theorem Ap.past {w w' : World} {oa o' : Option Addr} {B : Nat} (h : Ap w oa o' w') (hn : ∀ k, inO oa k → B ≤ k) (hB : B ≤ w.heap.size) : (∀ k, inO o' k → B ≤ k) ∧ Keeps (fun k => B ≤ k) w w' := by
  rcases h with ⟨rfl, h⟩ | ⟨⟨g, rfl, hg⟩, h⟩
  · exact ⟨hn, h.mono hn⟩
  · refine ⟨?_, h.of_no⟩
    rintro k ⟨x, e, rfl⟩
    cases e
    exact Nat.le_trans hB hg
theorem WrOf.keepsB {w w' : World} {A : Nat} {u : Int} {so : Option Addr} {sn sc : Nat} {t : TypeId} {r : RWr} {x : Wr} (h : WrOf w r x) (hx : x.1 ≠ []) (hb : w.heap[A]? = some (.cells #[.int .i64 u, .slice so sn sc] t (0, 0))) (k : Keeps (fun i => i = A) w w') : WrOf w' r x := by
  refine ⟨h.n, h.sl.keeps k (fun i hi e => ?_), h.done⟩
  obtain ⟨y, ey, rfl⟩ := hi
  obtain ⟨b, off, e2, hc⟩ := h.sl.at (j := 0) (List.length_pos_iff.2 hx)
  rw [ey] at e2
  cases e2
  simp only at e
  subst e
  rw [cell_of_blk hb] at hc
  match off with
  | 0 => simp at hc
  | 1 => simp at hc
  | n + 2 => simp at hc
def FitTo (w : World) (P : Nat) (ws : List Wr) (e : Ending) (w' : World) : Prop := ∃ o n c rs, e = .returned (aggWd (P : Int) o n c) ∧ n = ws.length ∧ (Own WrE w' o c rs ∧ Wrs w' o c rs ws) ∧ Keeps no w w'
/-- while it is made -/
structure Ft (w w1 wr : World) (A : Nat) (P : Nat) (ws : List Wr) (Pv : Value) (a0 : Option Addr) (n0 c0 : Nat) (i : Nat) (o : Option Addr) (c : Nat) (rs : List RWr) : Prop where
  out : wr.heap[A + 1 + 1]? = some (.cells #[.int .i64 P, .slice o rs.length c] 59 (0, 0))
  res : wr.heap[A + 1]? = some (.cells #[.int .i64 0, .slice none 0 0] 59 (0, 0))
  inb : wr.heap[A]? = some (.cells #[Pv, .slice a0 n0 c0] 59 (0, 0))
  own : Own WrE wr o c rs
  len : rs.length = ((ws.take i).filter fitF).length
  each : ∀ j, j < ((ws.take i).filter fitF).length → WrOf w (rs.getD j rw0) (((ws.take i).filter fitF).getD j wr0)
  le : ((ws.take i).filter fitF).length ≤ 12
  new : ∀ k, inO o k → w1.heap.size ≤ k
  kp : Keeps no w wr
  ge : w1.heap.size ≤ wr.heap.size
set_option maxRecDepth 10000 in
set_option maxHeartbeats 4000000 in
theorem fit_any (w : World) (P : Int) (o : Option Addr) (n c : Nat) (rs : List RWr) (ws : List Wr) (hn : n = ws.length) (hw : Wrs w o c rs ws) (hf : FitWs ws) (hP : -9223372036854775808 ≤ P ∧ P < 9223372036854775808) :
    Calls Try.prog 18 #[aggWd P o n c] w (FitTo w (fitP P) (fitL ws)) := by
  have HW : Hid (Wrs w o c rs ws ∧ FitWs ws ∧ n = ws.length) := ⟨hw, hf, hn⟩
  have hnb : (n : Int) ≤ 4398046511000 := by have := hf.len; omega
  have e1 : IntKind.u64.wrap P = P % 18446744073709551616 := by rw [IntKind.wrap_u64]
  obtain ⟨Q, hQ⟩ : ∃ Q : Int, Q = P % 18446744073709551616 := ⟨_, rfl⟩
  have e2 : Int.tmod Q 64 = P % 64 := by rw [Int.tmod_eq_emod_of_nonneg (by omega), hQ]; omega
  have e3 : IntKind.i64.wrap (P % 64) = P % 64 := by rw [IntKind.wrap_i64]; omega
  have e4 : IntKind.i64.wrap (1 + P % 64) = ((fitP P : Nat) : Int) := by rw [IntKind.wrap_i64]; unfold fitP; omega
  obtain ⟨A, hA⟩ : ∃ A, A = w.heap.size := ⟨_, rfl⟩
  have HA : Hid (w.heap.size = A) := hA.symm
  clear hn hw hf hP
  unfold aggWd
  go_enter Try.func18, Try.ntmps18
  go_upto_region 2 with fail
  have HK : Hid (∀ W, W = ((w.alloc (.cells #[.int .i64 P, .slice o n c] 59)).alloc (.cells #[.int .i64 0, .slice none 0 0] 59)).alloc (.cells #[.int .i64 ((fitP P : Nat) : Int), .slice none 0 0] 59) → Ft w W W A (fitP P) ws (.int .i64 P) o n c 0 none 0 []) := by
    rintro W rfl
    have h := two_blk w (.cells #[.int .i64 P, .slice o n c] 59) (.cells #[.int .i64 0, .slice none 0 0] 59)
    have s : ((w.alloc (.cells #[.int .i64 P, .slice o n c] 59)).alloc (.cells #[.int .i64 0, .slice none 0 0] 59)).heap.size = A + 1 + 1 := by rw [hA]; simp
    rw [← hA] at h
    refine ⟨?_, blk_alloc h.2 _, blk_alloc h.1 _, own_nil _, rfl, (fun j hj => by simp at hj), by simp, (fun k hk => by obtain ⟨x, e, _⟩ := hk; cases e), (((Keeps.refl _ _).alloc _).alloc _).alloc _, Nat.le_refl _⟩
    have h3 := blk_new ((w.alloc (.cells #[.int .i64 P, .slice o n c] 59)).alloc (.cells #[.int .i64 0, .slice none 0 0] 59)) (.cells #[.int .i64 ((fitP P : Nat) : Int), .slice none 0 0] 59)
    rw [s] at h3
    exact h3
  have h2 := HK.out _ rfl
  rw [← hA]
  clear hA HK e1 e2 e3 e4 hQ
  generalize ((w.alloc (.cells #[.int .i64 P, .slice o n c] 59)).alloc (.cells #[.int .i64 0, .slice none 0 0] 59)).alloc (.cells #[.int .i64 ((fitP P : Nat) : Int), .slice none 0 0] 59) = w2 at h2 ⊢
  have HF2 : Hid (Ft w w2 w2 A (fitP P) ws (.int .i64 P) o n c 0 none 0 []) := h2
  clear h2
  generalize hPf : fitP P = Pf at HF2 ⊢
  have HPF : Hid (fitP P = Pf) := hPf
  clear hPf
  generalize P % 18446744073709551616 % 64 = Z1
  generalize P % 18446744073709551616 = Z2
  generalize P % 64 = Z3
  go_wp2_with fail
  go_loopw [4] (fun s4 wr => ∃ (i : Nat), i ≤ n ∧ s4 = .int .i64 (i : Nat) ∧ Hid (∃ oo cc rr, Ft w w2 wr A Pf ws (.int .i64 P) o n c i oo cc rr)) (fun s4 _ => n - (intOf s4).toNat)
  case atStart => exact ⟨0, by omega, rfl, none, 0, [], HF2.out⟩
  case round =>
    rename World => wr
    obtain ⟨i, hi, rfl, HI⟩ := hrel
    obtain ⟨oo, cc, rr, hI⟩ := HI.out
    have HFi : Hid (Ft w w2 wr A Pf ws (.int .i64 P) o n c i oo cc rr) := hI
    have y1 : wr.cell? ⟨A, 1, none⟩ = some (.slice o n c) := by rw [cell_of_blk hI.inb]; rfl
    obtain ⟨m, hm⟩ : ∃ m, m = rr.length := ⟨_, rfl⟩
    have x1 : wr.cell? ⟨A + 1 + 1, 1, none⟩ = some (.slice oo m cc) := by rw [hm, cell_of_blk hI.out]; rfl
    have hml : m = ((ws.take i).filter fitF).length := by rw [hm]; exact hI.len
    have hm12 : (m : Int) ≤ 12 := by have := hI.le; omega
    have HM : Hid (m = rr.length ∧ m = ((ws.take i).filter fitF).length) := ⟨hm, hml⟩
    clear hI HI hm hml
    by_cases hlt : i < n
    · have hlt' : (i : Int) < n := by omega
      by_cases h12 : m < 12
      · have h12' : (m : Int) < 12 := by omega
        have hiw : i < ws.length := by have := HW.out.2.2; omega
        obtain ⟨b, off, ko, kc, rfl, c0w, c1w, hs⟩ := HW.out.1.at hiw
        have c0 := HFi.out.kp.cellN c0w
        have c1 := HFi.out.kp.cellN c1w
        have YC : Hid (w.cell? ⟨b, off + i * 2, none⟩ = some (.slice ko (ws.getD i wr0).1.length kc) ∧ w.cell? ⟨b, off + i * 2 + 1, none⟩ = some (.int .u64 ((ws.getD i wr0).2 : Nat))) := ⟨c0w, c1w⟩
        clear c0w c1w
        have hks : FitT (ws.getD i wr0).1 := HW.out.2.1.keys _ (getD_mem_lt wr0 hiw)
        have HTK : Hid ((ws.take (i + 1)).filter fitF = (ws.take i).filter fitF ++ (if valK (ws.getD i wr0).1 = true then [ws.getD i wr0] else [])) := by
          show _ = _
          rw [take_succ_getD ws i wr0 hiw, List.filter_append]
          congr 1
          generalize ws.getD i wr0 = xx
          by_cases h : valK xx.1 = true
          · simp [List.filter, fitF, h]
          · have h' : valK xx.1 = false := by simpa using h
            simp [List.filter, fitF, h']
        have HSL : Hid (Sl TE w ko kc (ws.getD i wr0).1 ∧ FitT (ws.getD i wr0).1) := ⟨hs, hks⟩
        obtain ⟨xw, hxw⟩ : ∃ xw, xw = ws.getD i wr0 := ⟨_, rfl⟩
        rw [← hxw] at c0 c1 HTK HSL YC
        clear hs hks hxw hiw
        obtain ⟨ks, dn⟩ := xw
        simp only at c0 c1 HTK HSL YC
        obtain ⟨kn, hkn⟩ : ∃ kn, kn = ks.length := ⟨_, rfl⟩
        rw [← hkn] at c0 YC
        have HKN : Hid (kn = ks.length) := hkn
        clear hkn
        have c0a : ∀ o, (wr.alloc o).cell? ⟨b, off + i * 2, none⟩ = some (.slice ko kn kc) := fun o => ((Keeps.refl no wr).alloc o).cellN c0
        have y1a : ∀ o', (wr.alloc o').cell? ⟨A, 1, none⟩ = some (.slice (some ⟨b, off, none⟩) n c) := fun o' => ((Keeps.refl no wr).alloc o').cellN y1
        have P2 : Hid (Own TE (wr.alloc (.cells #[] TE.e)) (some ⟨wr.heap.size, 0, none⟩) 0 [] ∧ (ko = none → kc = 0) ∧ Row TE (wr.alloc (.cells #[] TE.e)) ko ks ∧ (([] : List Tx).length + ks.length) * TE.nb ≤ 140737488355328 ∧ ([] : List Tx).length + ks.length ≤ 140737488355328 ∧ kn = ks.length) := by
          have h2 := HSL.out.2.1
          exact ⟨own0 okT wr, HSL.out.1.nil, ((HSL.out.1.keepsN HFi.out.kp).keepsN ((Keeps.refl _ _).alloc _)).row, by simp [TE]; omega, by simp; omega, HKN.out⟩
        have Q2 : Hid (∀ W ou cu, Own TE W ou cu ks → Ap (wr.alloc (.cells #[] TE.e)) (some ⟨wr.heap.size, 0, none⟩) ou W → Keeps no wr W ∧ Calls Try.prog 19 #[.slice ou kn cu] W fun e w' => e = .returned (.bool (valK ks)) ∧ Keeps no W w') := fun W ou cu ho ha => by
          have h3 := ha.new (w0 := wr) (new_fresh _ _ (Nat.le_refl _) _) ((Keeps.refl _ _).alloc _)
          exact ⟨h3.2, valid_any W ou kn cu ks HKN.out (by have := HSL.out.2.1; omega) (fun x hx => by have := HSL.out.2.2 x hx; unfold maxLen; omega) ho.sl⟩
        go_wp2_with (at_builtin; refine wpList_app okT rfl _ _ rfl (some ⟨wr.heap.size, 0, none⟩) 0 0 [] rfl rfl P2.out.1 ko kn kc ks rfl P2.out.2.2.2.2.2 P2.out.2.1 P2.out.2.2.1 P2.out.2.2.2.1 P2.out.2.2.2.2.1 ?_; intro o4 c4 v4 ho hap; have G4 : Hid _ := Q2.out v4 o4 c4 ho hap; clear ho hap)
        refine G4.out.2.mono ?_
        rintro e w3 ⟨rfl, hk3⟩
        have HK3 : Hid (Keeps no wr w3) := G4.out.1.trans hk3
        have x1b := HK3.out.cellN x1
        have y1b := HK3.out.cellN y1
        have c0b := HK3.out.cellN c0
        have c1b := HK3.out.cellN c1
        have f1b := frozen_of_blk (HK3.out.at HFi.out.out id) 1
        clear hk3 G4 P2 Q2 c0a y1a x1 y1 c0 c1
        cases hv : valK ks with
        | false =>
          rw [hv] at HTK
          have HN : Hid (∃ oo cc rr, Ft w w2 w3 A Pf ws (.int .i64 P) (some ⟨b, off, none⟩) n c (i + 1) oo cc rr) := by
            have h := HFi.out
            have e : (ws.take (i + 1)).filter fitF = (ws.take i).filter fitF := by rw [HTK.out]; simp
            refine ⟨oo, cc, rr, HK3.out.at h.out id, HK3.out.at h.res id, HK3.out.at h.inb id, h.own.keepsN HK3.out, ?_, ?_, ?_, h.new, h.kp.trans HK3.out, Nat.le_trans h.ge HK3.out.size⟩
            · rw [e]; exact h.len
            · rw [e]; exact h.each
            · rw [e]; exact h.le
          clear HTK hv x1b y1b c0b c1b f1b HFi
          go_wp2_with fail
          go_roundw
          case rel => exact ⟨i + 1, by omega, by go_num, HN.out⟩
          case measure => first | (simp [intOf]; done) | (simp [intOf]; omega)
        | true =>
          rw [hv] at HTK
          clear hv
          have HLTA : Hid (A + 1 + 1 < w2.heap.size) := lt_of_block HF2.out.out
          have HRO : Hid (∀ X, Keeps no wr X → ∀ Y, Y = X.alloc (.cells #[.slice ko kn kc, .int .u64 (dn : Nat)] 93) → Row WrE Y (some ⟨X.heap.size, 0, none⟩) [⟨ko, kn, kc, dn⟩]) := by
            rintro X _ Y rfl
            exact (lit_one (E := WrE) X ⟨ko, kn, kc, dn⟩ #[.slice ko kn kc, .int .u64 (dn : Nat)] rfl).row
          go_wp2_with fail
          refine wp_region_held_drew (S := fun X => X.cell? ⟨A, 1, none⟩ = some (.slice (some ⟨b, off, none⟩) n c) ∧ X.cell? ⟨b, off + i * 2, none⟩ = some (.slice ko kn kc) ∧ X.cell? ⟨b, off + i * 2 + 1, none⟩ = some (.int .u64 (dn : Nat))) (by kernel_rfl) ?_ (fun hHeld => ?_)
          · exact ⟨y1b, c0b, c1b⟩
          refine wpAnyH_take (i := 0) (v := ?_) (by simp only [List.getElem?_toArray, List.getElem?_cons_succ, List.getElem?_cons_zero]; rfl) (by kernel_rfl) (by kernel_rfl) (by kernel_rfl) (by exact fun _ _ _ h => h) (Or.inl ⟨by rfl, ?_⟩) (by assumption) ?_
          rotate_left
          · (intro _ hSw; (try dsimp only at hSw); go_simp; (try with_reducible rfl))
          try simp only [Act.put, List.setIfInBounds_toArray, List.set_cons_zero, List.set_cons_succ]
          refine wpAnyH_take (i := 2) (v := ?_) (by simp only [List.getElem?_toArray, List.getElem?_cons_succ, List.getElem?_cons_zero]; rfl) (by kernel_rfl) (by kernel_rfl) (by kernel_rfl) (by exact fun _ _ _ h => h) (Or.inl ⟨by rfl, ?_⟩) (by assumption) ?_
          rotate_left
          · (intro _ hSw; (try dsimp only at hSw); go_simp; (try with_reducible rfl))
          try simp only [Act.put, List.setIfInBounds_toArray, List.set_cons_zero, List.set_cons_succ]
          refine wpAnyH_take (i := 3) (v := ?_) (by simp only [List.getElem?_toArray, List.getElem?_cons_succ, List.getElem?_cons_zero]; rfl) (by kernel_rfl) (by kernel_rfl) (by kernel_rfl) (by exact fun _ _ _ h => h) (Or.inl ⟨by rfl, ?_⟩) (by assumption) ?_
          rotate_left
          · (intro _ hSw; (try dsimp only at hSw); have z1 := hSw.1; have z2 := hSw.2.1; have z3 := hSw.2.2; go_simp; (try with_reducible rfl))
          try simp only [Act.put, List.setIfInBounds_toArray, List.set_cons_zero, List.set_cons_succ]
          refine wpAnyH_take (i := 4) (v := ?_) (by simp only [List.getElem?_toArray, List.getElem?_cons_succ, List.getElem?_cons_zero]; rfl) (by kernel_rfl) (by kernel_rfl) (by kernel_rfl) (by exact fun _ _ _ h => h) (Or.inl ⟨by rfl, ?_⟩) (by assumption) ?_
          rotate_left
          · (intro _ hSw; (try dsimp only at hSw); go_simp; (try with_reducible rfl))
          try simp only [Act.put, List.setIfInBounds_toArray, List.set_cons_zero, List.set_cons_succ]
          refine wpAnyH_take (i := 5) (v := ?_) (by simp only [List.getElem?_toArray, List.getElem?_cons_succ, List.getElem?_cons_zero]; rfl) (by kernel_rfl) (by kernel_rfl) (by kernel_rfl) (by exact fun _ _ _ h => h) (Or.inl ⟨by rfl, ?_⟩) (by assumption) ?_
          rotate_left
          · (intro _ hSw; (try dsimp only at hSw); go_simp; (try with_reducible rfl))
          try simp only [Act.put, List.setIfInBounds_toArray, List.set_cons_zero, List.set_cons_succ]
          refine wpAnyH_take (i := 6) (v := ?_) (by simp only [List.getElem?_toArray, List.getElem?_cons_succ, List.getElem?_cons_zero]; rfl) (by kernel_rfl) (by kernel_rfl) (by kernel_rfl) (by exact fun _ _ _ h => h) (Or.inl ⟨by rfl, ?_⟩) (by assumption) ?_
          rotate_left
          · (intro _ hSw; (try dsimp only at hSw); have z1 := hSw.1; have z2 := hSw.2.1; have z3 := hSw.2.2; go_simp; (try with_reducible rfl))
          try simp only [Act.put, List.setIfInBounds_toArray, List.set_cons_zero, List.set_cons_succ]
          refine wpAnyH_ready (rs := [1, 7]) (by kernel_rfl) (by simp) ?_
          refine (AllReadyH.cons (by simp only [List.getElem?_toArray, List.getElem?_cons_succ, List.getElem?_cons_zero]; rfl) (fun Kq hKq => ?_) (AllReadyH.cons (by simp only [List.getElem?_toArray, List.getElem?_cons_succ, List.getElem?_cons_zero]; rfl) (fun Kq hKq => ?_) AllReadyH.nil))
          · have zz : World.cell? w3.drew ⟨A + 1 + 1, 1, none⟩ = some (.slice oo m cc) := x1b
            go_simp
            refine hKq.out _ _ ?_ (fun hHeldN => ?_)
            · exact hHeld
            clear hKq Kq hHeld
            have hHeld := hHeldN
            clear hHeldN
            clear zz
            refine wpAnyH_ready (rs := [7]) (by kernel_rfl) (by simp) ?_
            refine (AllReadyH.cons (by simp only [List.getElem?_toArray, List.getElem?_cons_succ, List.getElem?_cons_zero]; rfl) (fun Kq hKq => ?_) AllReadyH.nil)
            have hxc : Keeps no w3 ((w3.alloc (.cells #[.slice ko kn kc, .int .u64 (dn : Nat)] 93)).drew) := ((Keeps.refl _ _).alloc _).drew
            have HRX : Hid (Row WrE ((w3.alloc (.cells #[.slice ko kn kc, .int .u64 (dn : Nat)] 93)).drew) (some ⟨w3.heap.size, 0, none⟩) [⟨ko, kn, kc, dn⟩]) := (HRO.out w3 HK3.out _ rfl).keepsN ((Keeps.refl no _).drew)
            go_simp
            generalize w3.heap.size = Z at HRX ⊢
            generalize (w3.alloc (.cells #[.slice ko kn kc, .int .u64 (dn : Nat)] 93)).drew = w4 at hxc HRX ⊢
            refine hKq.out _ _ ?_ (fun hHeldN => ?_)
            · exact ⟨hxc.cellN y1b, hxc.cellN c0b, hxc.cellN c1b⟩
            clear hKq Kq hHeld
            have hHeld := hHeldN
            clear hHeldN
            refine wpAnyH_ready (rs := [8]) (by kernel_rfl) (by simp) ?_
            refine (AllReadyH.cons (by simp only [List.getElem?_toArray, List.getElem?_cons_succ, List.getElem?_cons_zero]; rfl) (fun Kq hKq => ?_) AllReadyH.nil)
            have HA4 : Hid (Keeps no wr w4 ∧ Own WrE w4 oo cc rr) := ⟨HK3.out.trans hxc, HFi.out.own.keepsN (HK3.out.trans hxc)⟩
            refine step_app1 okWr rfl (.tmp 35) (.tmp 41) rfl oo m cc rr rfl HM.out.1 HA4.out.2 (some (Addr.mk Z 0 none)) 1 1 [⟨ko, kn, kc, dn⟩] rfl rfl (fun e => by cases e) HRX.out (by have := HM.out.1; simp [WrE]; omega) (by have := HM.out.1; simp; omega) ?_
            intro o5 c5 w5 ho5 hap5
            have hn5 := hap5.past (B := w2.heap.size) (fun i hi => HFi.out.new i hi) (Nat.le_trans HFi.out.ge HA4.out.1.size)
            have hkw5 : Keeps no w w5 := (HFi.out.kp.trans HA4.out.1).then hn5.2 (fun q hq => .inr (Nat.le_trans HF2.out.kp.size hq))
            have hob := hn5.2.at (HA4.out.1.at HFi.out.out id) (show ¬ w2.heap.size ≤ A + 1 + 1 by have := HLTA.out; omega)
            have hrb := hn5.2.at (HA4.out.1.at HFi.out.res id) (show ¬ w2.heap.size ≤ A + 1 by have := HLTA.out; omega)
            have hib := hn5.2.at (HA4.out.1.at HFi.out.inb id) (show ¬ w2.heap.size ≤ A by have := HLTA.out; omega)
            have HN5 : Hid (Own WrE w5 o5 c5 (rr ++ [⟨ko, kn, kc, dn⟩]) ∧ (∀ k, inO o5 k → w2.heap.size ≤ k) ∧ Keeps no w w5 ∧ w5.heap[A + 1]? = some (.cells #[.int .i64 0, .slice none 0 0] 59 (0, 0)) ∧ w5.heap[A]? = some (.cells #[.int .i64 P, .slice (some ⟨b, off, none⟩) n c] 59 (0, 0)) ∧ w2.heap.size ≤ w5.heap.size) := ⟨ho5, hn5.1, hkw5, hrb, hib, Nat.le_trans (Nat.le_trans HFi.out.ge HA4.out.1.size) hn5.2.size⟩
            have y5 : w5.cell? ⟨A, 1, none⟩ = some (.slice (some ⟨b, off, none⟩) n c) := by rw [cell_of_blk hib]; rfl
            have y6 := hkw5.cellN YC.out.1
            have y7 := hkw5.cellN YC.out.2
            clear ho5 hap5 hn5 hkw5 hrb hib
            refine hKq.out _ _ ?_ (fun hHeldN => ?_)
            · exact ⟨y5, y6, y7⟩
            clear hKq Kq hHeld
            have hHeld := hHeldN
            clear hHeldN
            refine wpAnyH_take (i := 9) (v := ?_) (by simp only [List.getElem?_toArray, List.getElem?_cons_succ, List.getElem?_cons_zero]; rfl) (by kernel_rfl) (by kernel_rfl) (by kernel_rfl) (by exact fun _ _ _ h => h) (Or.inl ⟨by rfl, ?_⟩) (by assumption) ?_
            rotate_left
            · (intro _ hSw; (try dsimp only at hSw); go_simp; (try with_reducible rfl))
            try simp only [Act.put, List.setIfInBounds_toArray, List.set_cons_zero, List.set_cons_succ]
            refine wpAnyH_ready (rs := [10]) (by kernel_rfl) (by simp) ?_
            refine (AllReadyH.cons (by simp only [List.getElem?_toArray, List.getElem?_cons_succ, List.getElem?_cons_zero]; rfl) (fun Kq hKq => ?_) AllReadyH.nil)
            have f5 := frozen_of_blk hob 1
            have x5 := cell_of_blk hob 1
            simp only [List.getElem?_toArray, List.getElem?_cons_succ, List.getElem?_cons_zero] at x5
            go_simp
            have HB5 := blk_set hob 1 (.slice o5 (m + 1) c5)
            have k6 := keeps_one w5 (A + 1 + 1) 1 (.slice o5 (m + 1) c5)
            have HN6 : Hid (∃ oo cc rr, Ft w w2 (w5.setCell ⟨A + 1 + 1, 1, none⟩ (.slice o5 (m + 1) c5)) A Pf ws (.int .i64 P) (some ⟨b, off, none⟩) n c (i + 1) oo cc rr) := by
              have hf := HFi.out
              have hlt2 := HLTA.out
              have own6 := HN5.out.1.keeps k6 (fun q hq e => by have := HN5.out.2.1 q hq; omega)
              have hkw : Keeps no w (w5.setCell ⟨A + 1 + 1, 1, none⟩ (.slice o5 (m + 1) c5)) := HN5.out.2.2.1.then k6 (fun q e => .inr (by have := HA.out; omega))
              have e : (ws.take (i + 1)).filter fitF = (ws.take i).filter fitF ++ [(ks, dn)] := by rw [HTK.out]; simp
              refine ⟨o5, c5, rr ++ [⟨ko, kn, kc, dn⟩], ?_, ?_, ?_, own6, ?_, fun j hj => ?_, ?_, HN5.out.2.1, hkw, by have := k6.size; have := HN5.out.2.2.2.2.2; omega⟩
              · rw [List.length_append, ← HM.out.1]; exact HB5
              · exact blk_set_ne HN5.out.2.2.2.1 (p := ⟨A + 1 + 1, 1, none⟩) (show A + 1 ≠ A + 1 + 1 by omega) _
              · exact blk_set_ne HN5.out.2.2.2.2.1 (p := ⟨A + 1 + 1, 1, none⟩) (show A ≠ A + 1 + 1 by omega) _
              · rw [e, List.length_append, List.length_append, hf.len]; rfl
              · rw [e] at hj ⊢
                have hj2 : j ≤ ((ws.take i).filter fitF).length := by rw [List.length_append] at hj; have : [(ks, dn)].length = 1 := rfl; omega
                rw [getD_snocL rr _ rw0 j (by rw [hf.len]; exact hj2), getD_snocL _ _ wr0 j hj2, hf.len]
                by_cases hjl : j < ((ws.take i).filter fitF).length
                · rw [if_pos hjl, if_pos hjl]; exact hf.each j hjl
                · rw [if_neg hjl, if_neg hjl]; exact ⟨HKN.out, HSL.out.1, rfl⟩
              · rw [e, List.length_append, ← HM.out.2]; have : [(ks, dn)].length = 1 := rfl; omega
            generalize w5.setCell ⟨A + 1 + 1, 1, none⟩ (.slice o5 (m + 1) c5) = w6 at HN6 HB5 k6 ⊢
            have y5c : w6.cell? ⟨A, 1, none⟩ = some (.slice (some ⟨b, off, none⟩) n c) := k6.cell y5 (show ¬ A = A + 1 + 1 by omega)
            have y6c : w6.cell? ⟨b, off + i * 2, none⟩ = some (.slice ko kn kc) := k6.cell y6 (fun e => by have := World.block_lt_of_cell? w _ YC.out.1; have := HA.out; simp only at *; omega)
            have y7c : w6.cell? ⟨b, off + i * 2 + 1, none⟩ = some (.int .u64 (dn : Nat)) := k6.cell y7 (fun e => by have := World.block_lt_of_cell? w _ YC.out.1; have := HA.out; simp only at *; omega)
            clear f5 x5 HB5 k6
            refine hKq.out _ _ ?_ (fun hHeldN => ?_)
            · exact ⟨y5c, y6c, y7c⟩
            clear hKq Kq hHeld
            have hHeld := hHeldN
            clear hHeldN
            refine wpAnyH_done (by kernel_rfl) ?_ _
            clear hHeld y5 y6 y7 y5c y6c y7c
            clear x1b y1b c0b c1b f1b hob
            go_wp2_with fail
            go_roundw
            case rel => exact ⟨i + 1, by omega, by go_num, HN6.out⟩
            case measure => first | (simp [intOf]; done) | (simp [intOf]; omega)
          · have hxc : Keeps no w3 ((w3.alloc (.cells #[.slice ko kn kc, .int .u64 (dn : Nat)] 93)).drew) := ((Keeps.refl _ _).alloc _).drew
            have HRX : Hid (Row WrE ((w3.alloc (.cells #[.slice ko kn kc, .int .u64 (dn : Nat)] 93)).drew) (some ⟨w3.heap.size, 0, none⟩) [⟨ko, kn, kc, dn⟩]) := (HRO.out w3 HK3.out _ rfl).keepsN ((Keeps.refl no _).drew)
            go_simp
            generalize w3.heap.size = Z at HRX ⊢
            generalize (w3.alloc (.cells #[.slice ko kn kc, .int .u64 (dn : Nat)] 93)).drew = w4 at hxc HRX ⊢
            refine hKq.out _ _ ?_ (fun hHeldN => ?_)
            · exact ⟨hxc.cellN y1b, hxc.cellN c0b, hxc.cellN c1b⟩
            clear hKq Kq hHeld
            have hHeld := hHeldN
            clear hHeldN
            refine wpAnyH_ready (rs := [1]) (by kernel_rfl) (by simp) ?_
            refine (AllReadyH.cons (by simp only [List.getElem?_toArray, List.getElem?_cons_succ, List.getElem?_cons_zero]; rfl) (fun Kq hKq => ?_) AllReadyH.nil)
            have zz : World.cell? w4 ⟨A + 1 + 1, 1, none⟩ = some (.slice oo m cc) := hxc.cellN x1b
            go_simp
            refine hKq.out _ _ ?_ (fun hHeldN => ?_)
            · exact hHeld
            clear hKq Kq hHeld
            have hHeld := hHeldN
            clear hHeldN
            clear zz
            refine wpAnyH_ready (rs := [8]) (by kernel_rfl) (by simp) ?_
            refine (AllReadyH.cons (by simp only [List.getElem?_toArray, List.getElem?_cons_succ, List.getElem?_cons_zero]; rfl) (fun Kq hKq => ?_) AllReadyH.nil)
            have HA4 : Hid (Keeps no wr w4 ∧ Own WrE w4 oo cc rr) := ⟨HK3.out.trans hxc, HFi.out.own.keepsN (HK3.out.trans hxc)⟩
            refine step_app1 okWr rfl (.tmp 35) (.tmp 41) rfl oo m cc rr rfl HM.out.1 HA4.out.2 (some (Addr.mk Z 0 none)) 1 1 [⟨ko, kn, kc, dn⟩] rfl rfl (fun e => by cases e) HRX.out (by have := HM.out.1; simp [WrE]; omega) (by have := HM.out.1; simp; omega) ?_
            intro o5 c5 w5 ho5 hap5
            have hn5 := hap5.past (B := w2.heap.size) (fun i hi => HFi.out.new i hi) (Nat.le_trans HFi.out.ge HA4.out.1.size)
            have hkw5 : Keeps no w w5 := (HFi.out.kp.trans HA4.out.1).then hn5.2 (fun q hq => .inr (Nat.le_trans HF2.out.kp.size hq))
            have hob := hn5.2.at (HA4.out.1.at HFi.out.out id) (show ¬ w2.heap.size ≤ A + 1 + 1 by have := HLTA.out; omega)
            have hrb := hn5.2.at (HA4.out.1.at HFi.out.res id) (show ¬ w2.heap.size ≤ A + 1 by have := HLTA.out; omega)
            have hib := hn5.2.at (HA4.out.1.at HFi.out.inb id) (show ¬ w2.heap.size ≤ A by have := HLTA.out; omega)
            have HN5 : Hid (Own WrE w5 o5 c5 (rr ++ [⟨ko, kn, kc, dn⟩]) ∧ (∀ k, inO o5 k → w2.heap.size ≤ k) ∧ Keeps no w w5 ∧ w5.heap[A + 1]? = some (.cells #[.int .i64 0, .slice none 0 0] 59 (0, 0)) ∧ w5.heap[A]? = some (.cells #[.int .i64 P, .slice (some ⟨b, off, none⟩) n c] 59 (0, 0)) ∧ w2.heap.size ≤ w5.heap.size) := ⟨ho5, hn5.1, hkw5, hrb, hib, Nat.le_trans (Nat.le_trans HFi.out.ge HA4.out.1.size) hn5.2.size⟩
            have y5 : w5.cell? ⟨A, 1, none⟩ = some (.slice (some ⟨b, off, none⟩) n c) := by rw [cell_of_blk hib]; rfl
            have y6 := hkw5.cellN YC.out.1
            have y7 := hkw5.cellN YC.out.2
            clear ho5 hap5 hn5 hkw5 hrb hib
            refine hKq.out _ _ ?_ (fun hHeldN => ?_)
            · exact ⟨y5, y6, y7⟩
            clear hKq Kq hHeld
            have hHeld := hHeldN
            clear hHeldN
            refine wpAnyH_take (i := 9) (v := ?_) (by simp only [List.getElem?_toArray, List.getElem?_cons_succ, List.getElem?_cons_zero]; rfl) (by kernel_rfl) (by kernel_rfl) (by kernel_rfl) (by exact fun _ _ _ h => h) (Or.inl ⟨by rfl, ?_⟩) (by assumption) ?_
            rotate_left
            · (intro _ hSw; (try dsimp only at hSw); go_simp; (try with_reducible rfl))
            try simp only [Act.put, List.setIfInBounds_toArray, List.set_cons_zero, List.set_cons_succ]
            refine wpAnyH_ready (rs := [10]) (by kernel_rfl) (by simp) ?_
            refine (AllReadyH.cons (by simp only [List.getElem?_toArray, List.getElem?_cons_succ, List.getElem?_cons_zero]; rfl) (fun Kq hKq => ?_) AllReadyH.nil)
            have f5 := frozen_of_blk hob 1
            have x5 := cell_of_blk hob 1
            simp only [List.getElem?_toArray, List.getElem?_cons_succ, List.getElem?_cons_zero] at x5
            go_simp
            have HB5 := blk_set hob 1 (.slice o5 (m + 1) c5)
            have k6 := keeps_one w5 (A + 1 + 1) 1 (.slice o5 (m + 1) c5)
            have HN6 : Hid (∃ oo cc rr, Ft w w2 (w5.setCell ⟨A + 1 + 1, 1, none⟩ (.slice o5 (m + 1) c5)) A Pf ws (.int .i64 P) (some ⟨b, off, none⟩) n c (i + 1) oo cc rr) := by
              have hf := HFi.out
              have hlt2 := HLTA.out
              have own6 := HN5.out.1.keeps k6 (fun q hq e => by have := HN5.out.2.1 q hq; omega)
              have hkw : Keeps no w (w5.setCell ⟨A + 1 + 1, 1, none⟩ (.slice o5 (m + 1) c5)) := HN5.out.2.2.1.then k6 (fun q e => .inr (by have := HA.out; omega))
              have e : (ws.take (i + 1)).filter fitF = (ws.take i).filter fitF ++ [(ks, dn)] := by rw [HTK.out]; simp
              refine ⟨o5, c5, rr ++ [⟨ko, kn, kc, dn⟩], ?_, ?_, ?_, own6, ?_, fun j hj => ?_, ?_, HN5.out.2.1, hkw, by have := k6.size; have := HN5.out.2.2.2.2.2; omega⟩
              · rw [List.length_append, ← HM.out.1]; exact HB5
              · exact blk_set_ne HN5.out.2.2.2.1 (p := ⟨A + 1 + 1, 1, none⟩) (show A + 1 ≠ A + 1 + 1 by omega) _
              · exact blk_set_ne HN5.out.2.2.2.2.1 (p := ⟨A + 1 + 1, 1, none⟩) (show A ≠ A + 1 + 1 by omega) _
              · rw [e, List.length_append, List.length_append, hf.len]; rfl
              · rw [e] at hj ⊢
                have hj2 : j ≤ ((ws.take i).filter fitF).length := by rw [List.length_append] at hj; have : [(ks, dn)].length = 1 := rfl; omega
                rw [getD_snocL rr _ rw0 j (by rw [hf.len]; exact hj2), getD_snocL _ _ wr0 j hj2, hf.len]
                by_cases hjl : j < ((ws.take i).filter fitF).length
                · rw [if_pos hjl, if_pos hjl]; exact hf.each j hjl
                · rw [if_neg hjl, if_neg hjl]; exact ⟨HKN.out, HSL.out.1, rfl⟩
              · rw [e, List.length_append, ← HM.out.2]; have : [(ks, dn)].length = 1 := rfl; omega
            generalize w5.setCell ⟨A + 1 + 1, 1, none⟩ (.slice o5 (m + 1) c5) = w6 at HN6 HB5 k6 ⊢
            have y5c : w6.cell? ⟨A, 1, none⟩ = some (.slice (some ⟨b, off, none⟩) n c) := k6.cell y5 (show ¬ A = A + 1 + 1 by omega)
            have y6c : w6.cell? ⟨b, off + i * 2, none⟩ = some (.slice ko kn kc) := k6.cell y6 (fun e => by have := World.block_lt_of_cell? w _ YC.out.1; have := HA.out; simp only at *; omega)
            have y7c : w6.cell? ⟨b, off + i * 2 + 1, none⟩ = some (.int .u64 (dn : Nat)) := k6.cell y7 (fun e => by have := World.block_lt_of_cell? w _ YC.out.1; have := HA.out; simp only at *; omega)
            clear f5 x5 HB5 k6
            refine hKq.out _ _ ?_ (fun hHeldN => ?_)
            · exact ⟨y5c, y6c, y7c⟩
            clear hKq Kq hHeld
            have hHeld := hHeldN
            clear hHeldN
            refine wpAnyH_done (by kernel_rfl) ?_ _
            clear hHeld y5 y6 y7 y5c y6c y7c
            clear x1b y1b c0b c1b f1b hob
            go_wp2_with fail
            go_roundw
            case rel => exact ⟨i + 1, by omega, by go_num, HN6.out⟩
            case measure => first | (simp [intOf]; done) | (simp [intOf]; omega)
      · have h12' : ¬ (m : Int) < 12 := by omega
        have HE : Hid (Ft w w2 wr A Pf ws (.int .i64 P) o n c i oo cc rr ∧ (ws.take i).filter fitF = fitL ws) := by
          refine ⟨HFi.out, ?_⟩
          unfold fitL
          have e : ws.filter fitF = (ws.take i).filter fitF ++ (ws.drop i).filter fitF := by rw [← List.filter_append, List.take_append_drop]
          have h1 := HM.out.2
          have h2 := HFi.out.le
          have e2 : ((ws.take i).filter fitF ++ (ws.drop i).filter fitF).take 12 = (ws.take i).filter fitF := by
            rw [List.take_append_of_le_length (by omega)]
            exact List.take_of_length_le (by omega)
          rw [e, e2]
        clear HFi
        have hz0 := HE.out.1.res
        have f0 := frozen_of_blk hz0 0
        have f1 := frozen_of_blk hz0 1
        have z0 := cell_of_blk hz0 0
        have z1 := cell_of_blk hz0 1
        have x0 := cell_of_blk HE.out.1.out 0
        simp only [List.getElem?_toArray, List.getElem?_cons_succ, List.getElem?_cons_zero] at z0 z1 x0
        have HB9 := blk_set (blk_set hz0 0 (.int .i64 (Pf : Nat))) 1 (.slice oo m cc)
        have k9 := (keeps_one wr (A + 1) 0 (.int .i64 (Pf : Nat))).trans (keeps_one (wr.setCell ⟨A + 1, 0, none⟩ (.int .i64 (Pf : Nat))) (A + 1) 1 (.slice oo m cc))
        have HR9 : Hid ((Own WrE ((wr.setCell ⟨A + 1, 0, none⟩ (.int .i64 (Pf : Nat))).setCell ⟨A + 1, 1, none⟩ (.slice oo m cc)) oo cc rr ∧ Wrs ((wr.setCell ⟨A + 1, 0, none⟩ (.int .i64 (Pf : Nat))).setCell ⟨A + 1, 1, none⟩ (.slice oo m cc)) oo cc rr (fitL ws)) ∧ m = (fitL ws).length ∧ Keeps no w ((wr.setCell ⟨A + 1, 0, none⟩ (.int .i64 (Pf : Nat))).setCell ⟨A + 1, 1, none⟩ (.slice oo m cc))) := by
          have hk : Keeps no w _ := HE.out.1.kp.then k9 (fun q e => .inr (by have := HA.out; omega))
          have h1 := HE.out.1
          have h2 := HE.out.2
          have h3 := lt_of_block HF2.out.out
          have ho9 := h1.own.keeps k9 (fun q hq e => by have := h1.new q hq; omega)
          refine ⟨⟨ho9, ho9.sl, by rw [h1.len, h2], fun j hj => ?_⟩, by rw [HM.out.2, h2], hk⟩
          rw [← h2] at hj ⊢
          exact (h1.each j hj).keepsN hk
        clear HE k9
        go_wp2_with fail
        (try simp only [Exit.inBlock, Exit.then])
        refine bodyPost_ret (results_row1 rfl _ _ (A + 1) _ rfl (run_loadVar_row _ _ _ _ _ _ _ HB9 Try.underlying59 rfl (wd_size _ _))) rfl ?_
        rw [HPF.out]
        exact ⟨oo, m, cc, rr, rfl, HR9.out.2.1, HR9.out.1, HR9.out.2.2⟩
    · have hlt' : ¬ (i : Int) < n := by omega
      have hge : n ≤ i := Nat.le_of_not_lt hlt
      have HE : Hid (Ft w w2 wr A Pf ws (.int .i64 P) o n c i oo cc rr ∧ (ws.take i).filter fitF = fitL ws) := by
        refine ⟨HFi.out, ?_⟩
        have h2 := HFi.out.le
        have e : ws.take i = ws := List.take_of_length_le (by have h9 : n = ws.length := HW.out.2.2; rw [← h9]; exact hge)
        rw [e] at h2 ⊢
        unfold fitL
        exact (List.take_of_length_le h2).symm
      clear HFi
      have hz0 := HE.out.1.res
      have f0 := frozen_of_blk hz0 0
      have f1 := frozen_of_blk hz0 1
      have z0 := cell_of_blk hz0 0
      have z1 := cell_of_blk hz0 1
      have x0 := cell_of_blk HE.out.1.out 0
      simp only [List.getElem?_toArray, List.getElem?_cons_succ, List.getElem?_cons_zero] at z0 z1 x0
      have HB9 := blk_set (blk_set hz0 0 (.int .i64 (Pf : Nat))) 1 (.slice oo m cc)
      have k9 := (keeps_one wr (A + 1) 0 (.int .i64 (Pf : Nat))).trans (keeps_one (wr.setCell ⟨A + 1, 0, none⟩ (.int .i64 (Pf : Nat))) (A + 1) 1 (.slice oo m cc))
      have HR9 : Hid ((Own WrE ((wr.setCell ⟨A + 1, 0, none⟩ (.int .i64 (Pf : Nat))).setCell ⟨A + 1, 1, none⟩ (.slice oo m cc)) oo cc rr ∧ Wrs ((wr.setCell ⟨A + 1, 0, none⟩ (.int .i64 (Pf : Nat))).setCell ⟨A + 1, 1, none⟩ (.slice oo m cc)) oo cc rr (fitL ws)) ∧ m = (fitL ws).length ∧ Keeps no w ((wr.setCell ⟨A + 1, 0, none⟩ (.int .i64 (Pf : Nat))).setCell ⟨A + 1, 1, none⟩ (.slice oo m cc))) := by
        have hk : Keeps no w _ := HE.out.1.kp.then k9 (fun q e => .inr (by have := HA.out; omega))
        have h1 := HE.out.1
        have h2 := HE.out.2
        have h3 := lt_of_block HF2.out.out
        have ho9 := h1.own.keeps k9 (fun q hq e => by have := h1.new q hq; omega)
        refine ⟨⟨ho9, ho9.sl, by rw [h1.len, h2], fun j hj => ?_⟩, by rw [HM.out.2, h2], hk⟩
        rw [← h2] at hj ⊢
        exact (h1.each j hj).keepsN hk
      clear HE k9
      go_wp2_with fail
      (try simp only [Exit.inBlock, Exit.then])
      refine bodyPost_ret (results_row1 rfl _ _ (A + 1) _ rfl (run_loadVar_row _ _ _ _ _ _ _ HB9 Try.underlying59 rfl (wd_size _ _))) rfl ?_
      rw [HPF.out]
      exact ⟨oo, m, cc, rr, rfl, HR9.out.2.1, HR9.out.1, HR9.out.2.2⟩
end Go.Proofs.Ytileipnoiocdlaa

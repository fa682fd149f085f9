import Derived.Test.YtileipnoiocdlaaWD
/- The law's worlds: a write's version of a key. -/
namespace Go.Proofs.Ytileipnoiocdlaa
open Go.RowKit Go.Sort Orl
set_option linter.unusedVariables false
set_option linter.unusedSimpArgs false

def tag1 (i : Nat) : Tx := mkL [65 + (i : Int)]
def verP (ws : List Wr) (i : Nat) (k : Tx) : Ver := ⟨k, idP i, k ++ tag1 i, isT (ws.getD i wr0).1⟩
/-- a version told: its keys are new -/
def VerTo (w : World) (v : Ver) (e : Ending) (w' : World) : Prop := ∃ r, e = .returned (aggV r) ∧ VerN w' r v ∧ New w r.o ∧ Keeps no w w'
theorem ver_cell (w : World) (a b c d : Value) : True := trivial
set_option maxRecDepth 10000 in
set_option maxHeartbeats 2000000 in
theorem version_any (w : World) (P : Int) (o : Option Addr) (n c : Nat) (rs : List RWr) (ws : List Wr) (hn : n = ws.length) (hw : Wrs w o c rs ws) (hf : FitWs ws) (i : Nat) (hi : i < ws.length) (hi2 : i ≤ 100) (k : Tx) (hk : k.size ≤ 140737488351232) (hv : valK (ws.getD i wr0).1 = true) :
    Calls Try.prog 39 #[aggWd P o n c, .int .i64 (i : Nat), .string k] w (VerTo w (verP ws i k)) := by
  obtain ⟨b, off, ko, kc, rfl, c0, _, hs⟩ := hw.at hi
  have hil : (i : Int) < n := by omega
  have hib : (i : Int) ≤ 100 := by omega
  have hfk := hf.keys _ (getD_mem_lt wr0 hi)
  have HVP : Hid (verP ws i k = ⟨k, idP i, k ++ tag1 i, isT (ws.getD i wr0).1⟩) := rfl
  generalize (ws.getD i wr0).1 = ks at c0 hs hfk hv HVP
  generalize verP ws i k = vp at HVP ⊢
  obtain ⟨m, hm⟩ : ∃ m, m = ks.length := ⟨_, rfl⟩
  rw [← hm] at c0
  have HM : Hid (m = ks.length) := hm
  obtain ⟨S, hS⟩ : ∃ S, S = tag1 i := ⟨_, rfl⟩
  have hadd : ∀ w, (Op.stringOp .add k S).run Try.prog w = .ok (.string (k ++ S)) w := fun w => run_string_add_sum (P := Try.prog) (w := w) k S (by rw [hS]; have : (tag1 i).size = 1 := rfl; omega)
  have HC : Hid (∀ (W : World) (B : Nat), W.heap[B]? = some (.cells #[.int .u8 (65 + (i : Int))] 5 (0, 0)) → (convert 55 9 (.slice (some ⟨B, 0, none⟩) 1 1)).run Try.prog W = .ok (.string S) W) := fun W B h => by rw [hS]; exact conv1 W B (65 + (i : Int)) h
  have HSS : Hid (S = tag1 i) := hS
  have e4 : IntKind.u8.wrap (65 + (i : Int)) = 65 + (i : Int) := by rw [IntKind.wrap_u8]; omega
  have e5 : IntKind.i64.wrap (65 + (i : Int)) = 65 + (i : Int) := by rw [IntKind.wrap_i64]; omega
  have HID : Hid (∀ W, Calls Try.prog 56 #[.int .i64 (i : Nat)] W fun e w' => e = .returned (.int .u64 (idP i : Nat)) ∧ w' = W) := fun W => id_any W i hi2
  obtain ⟨J, hJ⟩ : ∃ J : Int, J = ((idP i : Nat) : Int) := ⟨_, rfl⟩
  rw [← hJ] at HID
  have HJ : Hid (J = ((idP i : Nat) : Int)) := hJ
  clear hS hJ
  obtain ⟨A, hA⟩ : ∃ A, A = w.heap.size := ⟨_, rfl⟩
  have HK : Hid (∀ W, W = (w.alloc (.cells #[.int .i64 P, .slice (some ⟨b, off, none⟩) n c] 59)).alloc (.cells #[.string ⟨#[]⟩, .int .u64 0, .string ⟨#[]⟩, .slice none 0 0] 46) → (W.heap[A]? = some (.cells #[.int .i64 P, .slice (some ⟨b, off, none⟩) n c] 59 (0, 0)) ∧ W.heap[A + 1]? = some (.cells #[.string ⟨#[]⟩, .int .u64 0, .string ⟨#[]⟩, .slice none 0 0] 46 (0, 0))) ∧ Keeps no w W) := by
    rintro W rfl
    have h := two_blk w (.cells #[.int .i64 P, .slice (some ⟨b, off, none⟩) n c] 59) (.cells #[.string ⟨#[]⟩, .int .u64 0, .string ⟨#[]⟩, .slice none 0 0] 46)
    rw [← hA] at h
    exact ⟨h, ((Keeps.refl _ _).alloc _).alloc _⟩
  have HS : Hid (Sl TE w ko kc ks ∧ w.cell? ⟨b, off + i * 2, none⟩ = some (.slice ko m kc) ∧ FitT ks ∧ valK ks = true) := ⟨hs, c0, hfk, hv⟩
  have HA : Hid (w.heap.size = A) := hA.symm
  clear hn hw hf hi hm hs hfk hv c0 hi2 hk
  unfold aggWd
  go_enter Try.func39, Try.ntmps39
  go_upto_region 1 with fail
  have h1 := HK.out _ rfl
  rw [← hA]
  clear hA
  generalize (w.alloc (.cells #[.int .i64 P, .slice (some ⟨b, off, none⟩) n c] 59)).alloc (.cells #[.string ⟨#[]⟩, .int .u64 0, .string ⟨#[]⟩, .slice none 0 0] 46) = w1 at h1 ⊢
  have HB1 : Hid (w1.heap[A + 1]? = some (.cells #[.string ⟨#[]⟩, .int .u64 0, .string ⟨#[]⟩, .slice none 0 0] 46 (0, 0)) ∧ Keeps no w w1) := ⟨h1.1.2, h1.2⟩
  have c1 : ∀ o, (w1.alloc o).cell? ⟨A, 1, none⟩ = some (.slice (some ⟨b, off, none⟩) n c) := fun o => ((Keeps.refl no w1).alloc o).cellN (by rw [cell_of_blk h1.1.1]; rfl)
  have c2 : ∀ o, (w1.alloc o).cell? ⟨b, off + i * 2, none⟩ = some (.slice ko m kc) := fun o => ((Keeps.refl no w1).alloc o).cellN (h1.2.cellN HS.out.2.1)
  have P2 : Hid (Own TE (w1.alloc (.cells #[] TE.e)) (some ⟨w1.heap.size, 0, none⟩) 0 [] ∧ (ko = none → kc = 0) ∧ Row TE (w1.alloc (.cells #[] TE.e)) ko ks ∧ (([] : List Tx).length + ks.length) * TE.nb ≤ 140737488355328 ∧ ([] : List Tx).length + ks.length ≤ 140737488355328 ∧ m = ks.length) := by
    have h2 := HS.out.2.2.1.1
    exact ⟨own0 okT w1, HS.out.1.nil, ((HS.out.1.keepsN h1.2).keepsN ((Keeps.refl _ _).alloc _)).row, by simp [TE]; omega, by simp; omega, HM.out⟩
  have Q2 : Hid (∀ W ou cu, Own TE W ou cu ks → Ap (w1.alloc (.cells #[] TE.e)) (some ⟨w1.heap.size, 0, none⟩) ou W → Keeps no w1 W ∧ Calls Try.prog 36 #[.slice ou m cu] W fun e w' => ∃ v, e = .returned (.tuple #[v, .int .i64 0]) ∧ Gives TE W (isT ks) v w') := fun W ou cu ho ha => by
    have h3 := ha.new (w0 := w1) (new_fresh _ _ (Nat.le_refl _) _) ((Keeps.refl _ _).alloc _)
    have h := sorted_any W ou m cu ks HM.out (by have := HS.out.2.2.1.1; omega) (fun x hx => by have := HS.out.2.2.1.2 x hx; unfold maxLen; omega) ho.sl
    rw [HS.out.2.2.2, if_pos rfl] at h
    exact ⟨h3.2, h⟩
  clear h1 HK HM
  go_wp2_with (at_builtin; refine wpList_app okT rfl _ _ rfl (some ⟨w1.heap.size, 0, none⟩) 0 0 [] rfl rfl P2.out.1 ko m kc ks rfl P2.out.2.2.2.2.2 P2.out.2.1 P2.out.2.2.1 P2.out.2.2.2.1 P2.out.2.2.2.2.1 ?_; intro o4 c4 v4 ho hap; have G4 : Hid _ := Q2.out v4 o4 c4 ho hap; clear ho hap)
  have K4 : Hid (Keeps no w1 v4) := G4.out.1
  refine G4.out.2.mono ?_
  rintro e w2 ⟨_, rfl, o5, n5, c5, rfl, hn5, ho5, hw5, hk5⟩
  have HG : Hid (n5 = (isT ks).length ∧ Own TE w2 o5 c5 (isT ks) ∧ New w1 o5 ∧ Keeps no w1 w2) := ⟨hn5.out, ho5, hw5.of_le K4.out.size, K4.out.trans hk5⟩
  clear hn5 ho5 hw5 hk5 K4 G4 P2 Q2 c1 c2 HS
  go_upto_region 2 with fail
  have HW2 : Hid (w2.heap[A + 1]? = some (.cells #[.string ⟨#[]⟩, .int .u64 0, .string ⟨#[]⟩, .slice none 0 0] 46 (0, 0))) := HG.out.2.2.2.at HB1.out.1 id
  refine wp_region_held_drew (S := fun _ => True) (by kernel_rfl) ?_ (fun hHeld => ?_)
  · trivial
  refine wpAnyH_take (i := 0) (v := ?_) (by simp only [List.getElem?_toArray, List.getElem?_cons_succ, List.getElem?_cons_zero]; rfl) (by kernel_rfl) (by kernel_rfl) (by kernel_rfl) (by exact fun _ _ _ h => h) (Or.inl ⟨by rfl, ?_⟩) (by assumption) ?_
  rotate_left
  · (intro _ hSw; (try dsimp only at hSw); go_simp; (try with_reducible rfl))
  try simp only [Act.put, List.setIfInBounds_toArray, List.set_cons_zero, List.set_cons_succ]
  refine wpAnyH_take (i := 1) (v := ?_) (by simp only [List.getElem?_toArray, List.getElem?_cons_succ, List.getElem?_cons_zero]; rfl) (by kernel_rfl) (by kernel_rfl) (by kernel_rfl) (by exact fun _ _ _ h => h) (Or.inl ⟨by rfl, ?_⟩) (by assumption) ?_
  rotate_left
  · (intro _ hSw; (try dsimp only at hSw); go_simp; (try with_reducible rfl))
  try simp only [Act.put, List.setIfInBounds_toArray, List.set_cons_zero, List.set_cons_succ]
  refine wpAnyH_take (i := 3) (v := ?_) (by simp only [List.getElem?_toArray, List.getElem?_cons_succ, List.getElem?_cons_zero]; rfl) (by kernel_rfl) (by kernel_rfl) (by kernel_rfl) (by exact fun _ _ _ h => h) (Or.inl ⟨by rfl, ?_⟩) (by assumption) ?_
  rotate_left
  · (intro _ hSw; (try dsimp only at hSw); go_simp; (try with_reducible rfl))
  try simp only [Act.put, List.setIfInBounds_toArray, List.set_cons_zero, List.set_cons_succ]
  refine wpAnyH_take (i := 4) (v := ?_) (by simp only [List.getElem?_toArray, List.getElem?_cons_succ, List.getElem?_cons_zero]; rfl) (by kernel_rfl) (by kernel_rfl) (by kernel_rfl) (by exact fun _ _ _ h => h) (Or.inl ⟨by rfl, ?_⟩) (by assumption) ?_
  rotate_left
  · (intro _ hSw; (try dsimp only at hSw); go_simp; (try with_reducible rfl))
  try simp only [Act.put, List.setIfInBounds_toArray, List.set_cons_zero, List.set_cons_succ]
  refine wpAnyH_take (i := 5) (v := ?_) (by simp only [List.getElem?_toArray, List.getElem?_cons_succ, List.getElem?_cons_zero]; rfl) (by kernel_rfl) (by kernel_rfl) (by kernel_rfl) (by exact fun _ _ _ h => h) (Or.inl ⟨by rfl, ?_⟩) (by assumption) ?_
  rotate_left
  · (intro _ hSw; (try dsimp only at hSw); go_simp; (try with_reducible rfl))
  try simp only [Act.put, List.setIfInBounds_toArray, List.set_cons_zero, List.set_cons_succ]
  refine wpAnyH_take (i := 6) (v := ?_) (by simp only [List.getElem?_toArray, List.getElem?_cons_succ, List.getElem?_cons_zero]; rfl) (by kernel_rfl) (by kernel_rfl) (by kernel_rfl) (by exact fun _ _ _ h => h) (Or.inl ⟨by rfl, ?_⟩) (by assumption) ?_
  rotate_left
  · (intro _ hSw; (try dsimp only at hSw); go_simp; (try with_reducible rfl))
  try simp only [Act.put, List.setIfInBounds_toArray, List.set_cons_zero, List.set_cons_succ]
  refine wpAnyH_take (i := 10) (v := ?_) (by simp only [List.getElem?_toArray, List.getElem?_cons_succ, List.getElem?_cons_zero]; rfl) (by kernel_rfl) (by kernel_rfl) (by kernel_rfl) (by exact fun _ _ _ h => h) (Or.inl ⟨by rfl, ?_⟩) (by assumption) ?_
  rotate_left
  · (intro _ hSw; (try dsimp only at hSw); go_simp; (try with_reducible rfl))
  try simp only [Act.put, List.setIfInBounds_toArray, List.set_cons_zero, List.set_cons_succ]
  refine wpAnyH_ready (rs := [2, 7]) (by kernel_rfl) (by simp) ?_
  refine (AllReadyH.cons (by simp only [List.getElem?_toArray, List.getElem?_cons_succ, List.getElem?_cons_zero]; rfl) (fun Kq hKq => ?_) (AllReadyH.cons (by simp only [List.getElem?_toArray, List.getElem?_cons_succ, List.getElem?_cons_zero]; rfl) (fun Kq hKq => ?_) AllReadyH.nil))
  · go_simp
    refine (HID.out _).mono ?_
    rintro e w' ⟨rfl, hw'⟩
    subst w'
    refine hKq.out _ _ ?_ (fun hHeldN => ?_)
    · trivial
    clear hKq Kq hHeld
    have hHeld := hHeldN
    clear hHeldN
    refine wpAnyH_ready (rs := [7]) (by kernel_rfl) (by simp) ?_
    refine (AllReadyH.cons (by simp only [List.getElem?_toArray, List.getElem?_cons_succ, List.getElem?_cons_zero]; rfl) (fun Kq hKq => ?_) AllReadyH.nil)
    go_simp
    have q0 : ((w2.alloc (.cells #[.int .u8 (65 + (i : Int))] 5)).drew).heap[w2.heap.size]? = some (.cells #[.int .u8 (65 + (i : Int))] 5 (0, 0)) := blk_new w2 (.cells #[.int .u8 (65 + (i : Int))] 5)
    have hxx : Keeps no w2 ((w2.alloc (.cells #[.int .u8 (65 + (i : Int))] 5)).drew) := ((Keeps.refl no w2).alloc (.cells #[.int .u8 (65 + (i : Int))] 5)).drew
    generalize w2.heap.size = BB at q0 ⊢
    generalize (w2.alloc (.cells #[.int .u8 (65 + (i : Int))] 5)).drew = X at q0 hxx ⊢
    refine hKq.out _ _ ?_ (fun hHeldN => ?_)
    · trivial
    clear hKq Kq hHeld
    have hHeld := hHeldN
    clear hHeldN
    refine wpAnyH_ready (rs := [8]) (by kernel_rfl) (by simp) ?_
    refine (AllReadyH.cons (by simp only [List.getElem?_toArray, List.getElem?_cons_succ, List.getElem?_cons_zero]; rfl) (fun Kq hKq => ?_) AllReadyH.nil)
    have cc := HC.out X BB q0
    go_simp
    refine hKq.out _ _ ?_ (fun hHeldN => ?_)
    · trivial
    clear hKq Kq hHeld
    have hHeld := hHeldN
    clear hHeldN
    clear cc
    refine wpAnyH_take (i := 9) (v := ?_) (by simp only [List.getElem?_toArray, List.getElem?_cons_succ, List.getElem?_cons_zero]; rfl) (by kernel_rfl) (by kernel_rfl) (by kernel_rfl) (by exact fun _ _ _ h => h) (Or.inl ⟨by rfl, ?_⟩) (by assumption) ?_
    rotate_left
    · (intro _ hSw; (try dsimp only at hSw); go_simp; (try with_reducible rfl))
    try simp only [Act.put, List.setIfInBounds_toArray, List.set_cons_zero, List.set_cons_succ]
    refine wpAnyH_take (i := 11) (v := ?_) (by simp only [List.getElem?_toArray, List.getElem?_cons_succ, List.getElem?_cons_zero]; rfl) (by kernel_rfl) (by kernel_rfl) (by kernel_rfl) (by exact fun _ _ _ h => h) (Or.inl ⟨by rfl, ?_⟩) (by assumption) ?_
    rotate_left
    · (intro _ hSw; (try dsimp only at hSw); go_simp; (try with_reducible rfl))
    try simp only [Act.put, List.setIfInBounds_toArray, List.set_cons_zero, List.set_cons_succ]
    refine wpAnyH_ready (rs := [12]) (by kernel_rfl) (by simp) ?_
    refine (AllReadyH.cons (by simp only [List.getElem?_toArray, List.getElem?_cons_succ, List.getElem?_cons_zero]; rfl) (fun Kq hKq => ?_) AllReadyH.nil)
    have hz0 := hxx.at HW2.out id
    obtain ⟨x0, x1, x2, x3⟩ := cells4 hz0
    have f0 := frozen_of_blk hz0 0
    have f1 := frozen_of_blk hz0 1
    have f2 := frozen_of_blk hz0 2
    have f3 := frozen_of_blk hz0 3
    have hS4 := set4 (b0 := .string k) (b1 := .int .u64 J) (b2 := .string (k ++ S)) (b3 := .slice o5 n5 c5) hz0
    go_simp
    have hO4 := (HG.out.2.1.keepsN hxx).keeps hS4.2 (fun q hq e => by have h1 := HG.out.2.2.1 q hq; have h2 := lt_of_block HB1.out.1; unfold eqB at e; omega)
    have hK4 := (HB1.out.2.trans (HG.out.2.2.2.trans hxx)).then hS4.2 (fun q e => .inr (by have := HA.out; unfold eqB at e; omega))
    generalize (((X.setCell ⟨A + 1, 0, none⟩ (.string k)).setCell ⟨A + 1, 1, none⟩ (.int .u64 J)).setCell ⟨A + 1, 2, none⟩ (.string (k ++ S))).setCell ⟨A + 1, 3, none⟩ (.slice o5 n5 c5) = w9 at hS4 hO4 hK4 ⊢
    refine hKq.out _ _ ?_ (fun hHeldN => ?_)
    · trivial
    clear hKq Kq hHeld
    have hHeld := hHeldN
    clear hHeldN
    refine wpAnyH_done (by kernel_rfl) ?_ _
    clear x0 x1 x2 x3 f0 f1 f2 f3
    go_wp2_with fail
    (try simp only [Exit.inBlock, Exit.then])
    refine bodyPost_ret (results_row1 rfl _ _ (A + 1) _ rfl (run_loadVar_row _ _ _ _ _ _ _ hS4.1 Try.underlying46 rfl (ver_size _ _ _ _))) rfl ?_
    rw [HVP.out, ← HSS.out]
    rw [HJ.out]
    exact ⟨⟨k, idP i, k ++ S, o5, n5, c5⟩, rfl, ⟨rfl, rfl, rfl, HG.out.1, hO4⟩, fun q hq => Nat.le_trans HB1.out.2.size (HG.out.2.2.1 q hq), hK4⟩
  · go_simp
    have q0 : ((w2.alloc (.cells #[.int .u8 (65 + (i : Int))] 5)).drew).heap[w2.heap.size]? = some (.cells #[.int .u8 (65 + (i : Int))] 5 (0, 0)) := blk_new w2 (.cells #[.int .u8 (65 + (i : Int))] 5)
    have hxx : Keeps no w2 ((w2.alloc (.cells #[.int .u8 (65 + (i : Int))] 5)).drew) := ((Keeps.refl no w2).alloc (.cells #[.int .u8 (65 + (i : Int))] 5)).drew
    generalize w2.heap.size = BB at q0 ⊢
    generalize (w2.alloc (.cells #[.int .u8 (65 + (i : Int))] 5)).drew = X at q0 hxx ⊢
    refine hKq.out _ _ ?_ (fun hHeldN => ?_)
    · trivial
    clear hKq Kq hHeld
    have hHeld := hHeldN
    clear hHeldN
    refine wpAnyH_ready (rs := [2, 8]) (by kernel_rfl) (by simp) ?_
    refine (AllReadyH.cons (by simp only [List.getElem?_toArray, List.getElem?_cons_succ, List.getElem?_cons_zero]; rfl) (fun Kq hKq => ?_) (AllReadyH.cons (by simp only [List.getElem?_toArray, List.getElem?_cons_succ, List.getElem?_cons_zero]; rfl) (fun Kq hKq => ?_) AllReadyH.nil))
    · go_simp
      refine (HID.out _).mono ?_
      rintro e w' ⟨rfl, hw'⟩
      subst w'
      refine hKq.out _ _ ?_ (fun hHeldN => ?_)
      · trivial
      clear hKq Kq hHeld
      have hHeld := hHeldN
      clear hHeldN
      refine wpAnyH_ready (rs := [8]) (by kernel_rfl) (by simp) ?_
      refine (AllReadyH.cons (by simp only [List.getElem?_toArray, List.getElem?_cons_succ, List.getElem?_cons_zero]; rfl) (fun Kq hKq => ?_) AllReadyH.nil)
      have cc := HC.out X BB q0
      go_simp
      refine hKq.out _ _ ?_ (fun hHeldN => ?_)
      · trivial
      clear hKq Kq hHeld
      have hHeld := hHeldN
      clear hHeldN
      clear cc
      refine wpAnyH_take (i := 9) (v := ?_) (by simp only [List.getElem?_toArray, List.getElem?_cons_succ, List.getElem?_cons_zero]; rfl) (by kernel_rfl) (by kernel_rfl) (by kernel_rfl) (by exact fun _ _ _ h => h) (Or.inl ⟨by rfl, ?_⟩) (by assumption) ?_
      rotate_left
      · (intro _ hSw; (try dsimp only at hSw); go_simp; (try with_reducible rfl))
      try simp only [Act.put, List.setIfInBounds_toArray, List.set_cons_zero, List.set_cons_succ]
      refine wpAnyH_take (i := 11) (v := ?_) (by simp only [List.getElem?_toArray, List.getElem?_cons_succ, List.getElem?_cons_zero]; rfl) (by kernel_rfl) (by kernel_rfl) (by kernel_rfl) (by exact fun _ _ _ h => h) (Or.inl ⟨by rfl, ?_⟩) (by assumption) ?_
      rotate_left
      · (intro _ hSw; (try dsimp only at hSw); go_simp; (try with_reducible rfl))
      try simp only [Act.put, List.setIfInBounds_toArray, List.set_cons_zero, List.set_cons_succ]
      refine wpAnyH_ready (rs := [12]) (by kernel_rfl) (by simp) ?_
      refine (AllReadyH.cons (by simp only [List.getElem?_toArray, List.getElem?_cons_succ, List.getElem?_cons_zero]; rfl) (fun Kq hKq => ?_) AllReadyH.nil)
      have hz0 := hxx.at HW2.out id
      obtain ⟨x0, x1, x2, x3⟩ := cells4 hz0
      have f0 := frozen_of_blk hz0 0
      have f1 := frozen_of_blk hz0 1
      have f2 := frozen_of_blk hz0 2
      have f3 := frozen_of_blk hz0 3
      have hS4 := set4 (b0 := .string k) (b1 := .int .u64 J) (b2 := .string (k ++ S)) (b3 := .slice o5 n5 c5) hz0
      go_simp
      have hO4 := (HG.out.2.1.keepsN hxx).keeps hS4.2 (fun q hq e => by have h1 := HG.out.2.2.1 q hq; have h2 := lt_of_block HB1.out.1; unfold eqB at e; omega)
      have hK4 := (HB1.out.2.trans (HG.out.2.2.2.trans hxx)).then hS4.2 (fun q e => .inr (by have := HA.out; unfold eqB at e; omega))
      generalize (((X.setCell ⟨A + 1, 0, none⟩ (.string k)).setCell ⟨A + 1, 1, none⟩ (.int .u64 J)).setCell ⟨A + 1, 2, none⟩ (.string (k ++ S))).setCell ⟨A + 1, 3, none⟩ (.slice o5 n5 c5) = w9 at hS4 hO4 hK4 ⊢
      refine hKq.out _ _ ?_ (fun hHeldN => ?_)
      · trivial
      clear hKq Kq hHeld
      have hHeld := hHeldN
      clear hHeldN
      refine wpAnyH_done (by kernel_rfl) ?_ _
      clear x0 x1 x2 x3 f0 f1 f2 f3
      go_wp2_with fail
      (try simp only [Exit.inBlock, Exit.then])
      refine bodyPost_ret (results_row1 rfl _ _ (A + 1) _ rfl (run_loadVar_row _ _ _ _ _ _ _ hS4.1 Try.underlying46 rfl (ver_size _ _ _ _))) rfl ?_
      rw [HVP.out, ← HSS.out]
      rw [HJ.out]
      exact ⟨⟨k, idP i, k ++ S, o5, n5, c5⟩, rfl, ⟨rfl, rfl, rfl, HG.out.1, hO4⟩, fun q hq => Nat.le_trans HB1.out.2.size (HG.out.2.2.1 q hq), hK4⟩
    · have cc := HC.out X BB q0
      go_simp
      refine hKq.out _ _ ?_ (fun hHeldN => ?_)
      · trivial
      clear hKq Kq hHeld
      have hHeld := hHeldN
      clear hHeldN
      clear cc
      refine wpAnyH_take (i := 9) (v := ?_) (by simp only [List.getElem?_toArray, List.getElem?_cons_succ, List.getElem?_cons_zero]; rfl) (by kernel_rfl) (by kernel_rfl) (by kernel_rfl) (by exact fun _ _ _ h => h) (Or.inl ⟨by rfl, ?_⟩) (by assumption) ?_
      rotate_left
      · (intro _ hSw; (try dsimp only at hSw); go_simp; (try with_reducible rfl))
      try simp only [Act.put, List.setIfInBounds_toArray, List.set_cons_zero, List.set_cons_succ]
      refine wpAnyH_ready (rs := [2]) (by kernel_rfl) (by simp) ?_
      refine (AllReadyH.cons (by simp only [List.getElem?_toArray, List.getElem?_cons_succ, List.getElem?_cons_zero]; rfl) (fun Kq hKq => ?_) AllReadyH.nil)
      go_simp
      refine (HID.out _).mono ?_
      rintro e w' ⟨rfl, hw'⟩
      subst w'
      refine hKq.out _ _ ?_ (fun hHeldN => ?_)
      · trivial
      clear hKq Kq hHeld
      have hHeld := hHeldN
      clear hHeldN
      refine wpAnyH_take (i := 11) (v := ?_) (by simp only [List.getElem?_toArray, List.getElem?_cons_succ, List.getElem?_cons_zero]; rfl) (by kernel_rfl) (by kernel_rfl) (by kernel_rfl) (by exact fun _ _ _ h => h) (Or.inl ⟨by rfl, ?_⟩) (by assumption) ?_
      rotate_left
      · (intro _ hSw; (try dsimp only at hSw); go_simp; (try with_reducible rfl))
      try simp only [Act.put, List.setIfInBounds_toArray, List.set_cons_zero, List.set_cons_succ]
      refine wpAnyH_ready (rs := [12]) (by kernel_rfl) (by simp) ?_
      refine (AllReadyH.cons (by simp only [List.getElem?_toArray, List.getElem?_cons_succ, List.getElem?_cons_zero]; rfl) (fun Kq hKq => ?_) AllReadyH.nil)
      have hz0 := hxx.at HW2.out id
      obtain ⟨x0, x1, x2, x3⟩ := cells4 hz0
      have f0 := frozen_of_blk hz0 0
      have f1 := frozen_of_blk hz0 1
      have f2 := frozen_of_blk hz0 2
      have f3 := frozen_of_blk hz0 3
      have hS4 := set4 (b0 := .string k) (b1 := .int .u64 J) (b2 := .string (k ++ S)) (b3 := .slice o5 n5 c5) hz0
      go_simp
      have hO4 := (HG.out.2.1.keepsN hxx).keeps hS4.2 (fun q hq e => by have h1 := HG.out.2.2.1 q hq; have h2 := lt_of_block HB1.out.1; unfold eqB at e; omega)
      have hK4 := (HB1.out.2.trans (HG.out.2.2.2.trans hxx)).then hS4.2 (fun q e => .inr (by have := HA.out; unfold eqB at e; omega))
      generalize (((X.setCell ⟨A + 1, 0, none⟩ (.string k)).setCell ⟨A + 1, 1, none⟩ (.int .u64 J)).setCell ⟨A + 1, 2, none⟩ (.string (k ++ S))).setCell ⟨A + 1, 3, none⟩ (.slice o5 n5 c5) = w9 at hS4 hO4 hK4 ⊢
      refine hKq.out _ _ ?_ (fun hHeldN => ?_)
      · trivial
      clear hKq Kq hHeld
      have hHeld := hHeldN
      clear hHeldN
      refine wpAnyH_done (by kernel_rfl) ?_ _
      clear x0 x1 x2 x3 f0 f1 f2 f3
      go_wp2_with fail
      (try simp only [Exit.inBlock, Exit.then])
      refine bodyPost_ret (results_row1 rfl _ _ (A + 1) _ rfl (run_loadVar_row _ _ _ _ _ _ _ hS4.1 Try.underlying46 rfl (ver_size _ _ _ _))) rfl ?_
      rw [HVP.out, ← HSS.out]
      rw [HJ.out]
      exact ⟨⟨k, idP i, k ++ S, o5, n5, c5⟩, rfl, ⟨rfl, rfl, rfl, HG.out.1, hO4⟩, fun q hq => Nat.le_trans HB1.out.2.size (HG.out.2.2.1 q hq), hK4⟩
end Go.Proofs.Ytileipnoiocdlaa

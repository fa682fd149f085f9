/- The law's kept. -/
import Derived.Test.YtdalheeifgampaaDoorS2
import Derived.Deep.CutBlock
namespace Go.Proofs.YtdalheeifgampaaDoor
open Go.RowKit Go.Sort Orl Pk
set_option linter.unusedVariables false
set_option linter.unusedSimpArgs false

/-- a block that may be written: so many cells of a kind -/
def Blk (w : World) (g : Nat) (t : TypeId) (n : Nat) : Prop := ∃ cur, w.heap[g]? = some (.cells cur t (0, 0)) ∧ cur.size = n
theorem Blk.cell {w : World} {g : Nat} {t : TypeId} {n : Nat} (h : Blk w g t n) {i : Nat} (hi : i < n) : ∃ v, w.cell? ⟨g, i, none⟩ = some v := by
  obtain ⟨cur, h1, h2⟩ := h
  exact ⟨cur[i]'(by omega), by rw [cell_of_blk h1]; exact Array.getElem?_eq_getElem _⟩
theorem Blk.free {w : World} {g : Nat} {t : TypeId} {n : Nat} (h : Blk w g t n) (i : Nat) : w.frozen? ⟨g, i, none⟩ = false := by
  obtain ⟨cur, h1, h2⟩ := h
  exact frozen_of_blk h1 i
theorem Blk.set {w : World} {g : Nat} {t : TypeId} {n : Nat} (h : Blk w g t n) (i : Nat) (u : Value) : Blk (w.setCell ⟨g, i, none⟩ u) g t n := by
  obtain ⟨cur, h1, h2⟩ := h
  exact ⟨_, blk_set h1 i u, by rw [Array.size_setIfInBounds]; exact h2⟩
theorem Blk.keeps {S : Nat → Prop} {w w' : World} {g : Nat} {t : TypeId} {n : Nat} (h : Blk w g t n) (hk : Keeps S w w') (hg : ¬ S g) : Blk w' g t n := by
  obtain ⟨cur, h1, h2⟩ := h
  exact ⟨cur, hk.at h1 hg, h2⟩
theorem Own.blk {α : Type} {E : El α} {w : World} {o : Option Addr} {c : Nat} {xs : List α} (h : Own E w o c xs) (hne : xs ≠ []) : ∃ g, o = some ⟨g, 0, none⟩ ∧ Blk w g E.e (c * E.k) := by
  rcases h.shape with ⟨_, _, e⟩ | ⟨g, cur, e, hg, _, _, hs, _⟩
  · exact absurd e hne
  · exact ⟨g, e, cur, hg, hs⟩
theorem blk_ne {w : World} {g g' : Nat} {t t' : TypeId} {n n' : Nat} (h : Blk w g t n) (h' : Blk w g' t' n') (hne : t ≠ t') : g ≠ g' := by
  rintro rfl
  obtain ⟨c1, h1, _⟩ := h
  obtain ⟨c2, h2, _⟩ := h'
  rw [h1] at h2
  simp only [Option.some.injEq, Obj.cells.injEq] at h2
  exact hne h2.2.1
theorem row_last {α : Type} {E : El α} (hE : E.Ok) {w : World} {g c : Nat} {xs : List α} {x : α} (d : α) (h : Own E w (some ⟨g, 0, none⟩) c (xs ++ [x])) {n : Nat} (hn : n = xs.length) (i : Nat) (hi : i < E.k) : w.cell? ⟨g, n * E.k + i, none⟩ = (E.enc x)[i]? := by
  subst hn
  have hc := cells_at hE d (xs ++ [x]) xs.length i (by simp) hi
  have hg : (xs ++ [x]).getD xs.length d = x := by simp [List.getD_eq_getElem?_getD]
  rw [hg] at hc
  rcases h.row with e | ⟨b, off, e, hcell⟩
  · simp at e
  · cases e
    have hl : i < (E.enc x).length := by rw [hE.len]; exact hi
    have := hcell (xs.length * E.k + i) _ (by rw [hc]; exact List.getElem?_eq_getElem hl)
    rw [Nat.zero_add] at this
    rw [this]
    exact (List.getElem?_eq_getElem hl).symm
/-- what kept's loops hold -/
structure Kp (w : World) (X gp gk cp ck : Nat) (cs : Array Value) (W : World) : Prop where
  x : W.heap[X]? = some (.cells cs 30 (0, 0))
  p : Blk W gp 33 (cp * 2)
  k : Blk W gk 9 (ck * 1)
  kp : Keeps (fun j => j = gp ∨ j = gk) w W
theorem Kp.setP {w : World} {X gp gk cp ck : Nat} {cs : Array Value} {W : World} (h : Kp w X gp gk cp ck cs W) (i : Nat) (u : Value) : Kp w X gp gk cp ck cs (W.setCell ⟨gp, i, none⟩ u) := by
  have kS : Keeps (eqA gp) W (W.setCell ⟨gp, i, none⟩ u) := (Keeps.refl (eqA gp) W).setA i u
  refine ⟨kS.at h.x (fun e => ?_), h.p.set i u, h.k.keeps kS (fun e => ?_), h.kp.then kS (fun j hj => .inl (.inl hj))⟩
  · exact (blk_ne (t := 30) ⟨cs, h.x, rfl⟩ h.p (by decide)) e
  · exact (blk_ne h.k h.p (by decide)) e
theorem Kp.setK {w : World} {X gp gk cp ck : Nat} {cs : Array Value} {W : World} (h : Kp w X gp gk cp ck cs W) (i : Nat) (u : Value) : Kp w X gp gk cp ck cs (W.setCell ⟨gk, i, none⟩ u) := by
  have kS : Keeps (eqA gk) W (W.setCell ⟨gk, i, none⟩ u) := (Keeps.refl (eqA gk) W).setA i u
  refine ⟨kS.at h.x (fun e => ?_), h.p.keeps kS (fun e => ?_), h.k.set i u, h.kp.then kS (fun j hj => .inl (.inr hj))⟩
  · exact (blk_ne (t := 30) ⟨cs, h.x, rfl⟩ h.k (by decide)) e
  · exact (blk_ne h.p h.k (by decide)) e

set_option maxRecDepth 20000 in
set_option maxHeartbeats 4000000 in
theorem kept_any (w0 w : World) (k : Int) (i : Nat) (op : Option Addr) (np cp : Nat) (ok : Option Addr) (nk ck : Nat) (r : Rec) (hL : Lent w0 w ⟨k, i, op, np, cp, ok, nk, ck⟩ r) (k' : Int) (i' : Nat) (op' : Option Addr) (np' cp' : Nat) (ok' : Option Addr) (nk' ck' : Nat) (h' : IsC w ⟨k', i', op', np', cp', ok', nk', ck'⟩ r) :
    Calls Tryd.prog 19 #[.agg #[.int .i64 k, .int .u64 (i : Nat), .slice op np cp, .slice ok nk ck], .agg #[.int .i64 k', .int .u64 (i' : Nat), .slice op' np' cp', .slice ok' nk' ck']] w fun e w' => e = .returned (.bool true) ∧ Keeps (fun j => inO op j ∨ inO ok j) w w' := by
  have H : Hid (IsC w ⟨k, i, op, np, cp, ok, nk, ck⟩ r) := hL.c
  have H' : Hid (IsC w ⟨k', i', op', np', cp', ok', nk', ck'⟩ r) := h'
  have hpp : np' = np := by have h1 := hL.c.np; have h2 := h'.np; simp only at h1 h2; omega
  have hkk : nk' = nk := by have h1 := hL.c.nk; have h2 := h'.nk; simp only at h1 h2; omega
  subst hpp hkk
  obtain ⟨gp, e1, bp⟩ := hL.ps.blk (by simp)
  obtain ⟨gk, e2, bk⟩ := hL.ks.blk (by simp)
  simp only at e1 e2
  subst e1 e2
  have hnp : (np' : Int) ≤ 4398046511000 := by have := hL.c.fit.plen; have h2 := hL.c.np; simp only at h2; omega
  have hnk : (nk' : Int) ≤ 8796093022000 := by have := hL.c.fit.klen; have h2 := hL.c.nk; simp only at h2; omega
  have hcp : np' + 1 ≤ cp := by have := hL.ps.cap.1; have h2 := hL.c.np; simp only [List.length_append, List.length_cons, List.length_nil] at this h2; omega
  have hck : nk' + 1 ≤ ck := by have := hL.ks.cap.1; have h2 := hL.c.nk; simp only [List.length_append, List.length_cons, List.length_nil] at this h2; omega
  have hcp' : (np' : Int) + 1 ≤ cp := by omega
  have hck' : (nk' : Int) + 1 ≤ ck := by omega
  have sp1 : w.cell? ⟨gp, np' * 2, none⟩ = some (.string spare) := by
    have := row_last okP p0 hL.ps (n := np') hL.c.np 0 (by decide)
    simpa [PE] using this
  have sk1 : w.cell? ⟨gk, nk', none⟩ = some (.string spare) := by
    have := row_last okT e0 hL.ks (n := nk') hL.c.nk 0 (by decide)
    simpa [TE] using this
  have HBP : Hid (Blk w gp 33 (cp * 2) ∧ Blk w gk 9 (ck * 1)) := ⟨bp, bk⟩
  have hcpM : (cp : Int) ≤ 9223372036854775807 := by
    rcases hL.ps.shape with ⟨e, _⟩ | ⟨g, cur, e, _, _, hm, _⟩
    · cases e
    · unfold maxLen at hm; simp only at hm; omega
  have hckM : (ck : Int) ≤ 9223372036854775807 := by
    rcases hL.ks.shape with ⟨e, _⟩ | ⟨g, cur, e, _, _, hm, _⟩
    · cases e
    · unfold maxLen at hm; simp only at hm; omega
  clear hL h' bp bk
  have k0 : Keeps no w ((w.alloc (.cells #[.int .i64 k, .int .u64 (i : Nat), .slice (some ⟨gp, 0, none⟩) np' cp, .slice (some ⟨gk, 0, none⟩) nk' ck] 30)).alloc (.cells #[.int .i64 k', .int .u64 (i' : Nat), .slice op' np' cp', .slice ok' nk' ck'] 30)) := ((Keeps.refl _ _).alloc _).alloc _
  have hX0 : ((w.alloc (.cells #[.int .i64 k, .int .u64 (i : Nat), .slice (some ⟨gp, 0, none⟩) np' cp, .slice (some ⟨gk, 0, none⟩) nk' ck] 30)).alloc (.cells #[.int .i64 k', .int .u64 (i' : Nat), .slice op' np' cp', .slice ok' nk' ck'] 30)).heap[w.heap.size]? = some (.cells #[.int .i64 k, .int .u64 (i : Nat), .slice (some ⟨gp, 0, none⟩) np' cp, .slice (some ⟨gk, 0, none⟩) nk' ck] 30 (0, 0)) := blk_alloc (blk_new w _) _
  have hY0 : ((w.alloc (.cells #[.int .i64 k, .int .u64 (i : Nat), .slice (some ⟨gp, 0, none⟩) np' cp, .slice (some ⟨gk, 0, none⟩) nk' ck] 30)).alloc (.cells #[.int .i64 k', .int .u64 (i' : Nat), .slice op' np' cp', .slice ok' nk' ck'] 30)).heap[w.heap.size + 1]? = some (.cells #[.int .i64 k', .int .u64 (i' : Nat), .slice op' np' cp', .slice ok' nk' ck'] 30 (0, 0)) := by
    have := blk_new (w.alloc (.cells #[.int .i64 k, .int .u64 (i : Nat), .slice (some ⟨gp, 0, none⟩) np' cp, .slice (some ⟨gk, 0, none⟩) nk' ck] 30)) (.cells #[.int .i64 k', .int .u64 (i' : Nat), .slice op' np' cp', .slice ok' nk' ck'] 30)
    rw [show (w.alloc (.cells #[.int .i64 k, .int .u64 (i : Nat), .slice (some ⟨gp, 0, none⟩) np' cp, .slice (some ⟨gk, 0, none⟩) nk' ck] 30)).heap.size = w.heap.size + 1 by simp] at this
    exact this
  go_enter Tryd.func19, Tryd.ntmps19
  go_upto_region 1 with fail
  generalize (w.alloc (.cells #[.int .i64 k, .int .u64 (i : Nat), .slice (some ⟨gp, 0, none⟩) np' cp, .slice (some ⟨gk, 0, none⟩) nk' ck] 30)).alloc (.cells #[.int .i64 k', .int .u64 (i' : Nat), .slice op' np' cp', .slice ok' nk' ck'] 30) = W0 at k0 hX0 hY0 ⊢
  generalize w.heap.size + 1 = Y at hY0 ⊢
  generalize w.heap.size = X at hX0 ⊢
  have HK0 : Hid (Keeps no w W0) := k0
  have HX0 : Hid (W0.heap[X]? = some (.cells #[.int .i64 k, .int .u64 (i : Nat), .slice (some ⟨gp, 0, none⟩) np' cp, .slice (some ⟨gk, 0, none⟩) nk' ck] 30 (0, 0))) := hX0
  obtain ⟨x0, x1, x2, x3⟩ := cells4 hX0
  obtain ⟨y0, y1, y2, y3⟩ := cells4 hY0
  have sp2 := k0.cellN sp1
  have sk2 := k0.cellN sk1
  clear k0 hX0 hY0 sp1 sk1
  have s0 : (0 : Int) ≤ (np' : Int) + 1 := by omega
  have s1 : (0 : Int) ≤ (nk' : Int) + 1 := by omega
  have wa1 : IntKind.i64.wrap ((np' : Int) + 1) = (np' : Int) + 1 := by rw [IntKind.wrap_i64]; omega
  have wa2 : IntKind.i64.wrap ((nk' : Int) + 1) = (nk' : Int) + 1 := by rw [IntKind.wrap_i64]; omega
  have b1 : (np' : Int) < (np' : Int) + 1 := by omega
  have b2 : (nk' : Int) < (nk' : Int) + 1 := by omega
  have b3 : ((np' : Int) + 1).toNat = np' + 1 := by omega
  have b4 : ((nk' : Int) + 1).toNat = nk' + 1 := by omega
  have b5 : (np' : Int) < ((np' + 1 : Nat) : Int) := by omega
  have b6 : (nk' : Int) < ((nk' + 1 : Nat) : Int) := by omega
  have b7 : np' < np' + 1 := by omega
  have b8 : nk' < nk' + 1 := by omega
  have b9 : (0 : Int) ≤ (np' : Int) := by omega
  have b10 : (0 : Int) ≤ (nk' : Int) := by omega
  have hspr : (ByteArray.toList spare == [115, 112, 97, 114, 101]) = true := by rw [Lib.toList_data]; decide
  go_cut [5] from 8 to 41 (fun v wc => v = .bool true ∧ Keeps no W0 wc)
  case first =>
    go_region_held3 (fun w' => w'.cell? ⟨X, 0, none⟩ = some (.int .i64 k) ∧ w'.cell? ⟨X, 1, none⟩ = some (.int .u64 (i : Nat)) ∧ w'.cell? ⟨X, 2, none⟩ = some (.slice (some ⟨gp, 0, none⟩) np' cp) ∧ w'.cell? ⟨X, 3, none⟩ = some (.slice (some ⟨gk, 0, none⟩) nk' ck) ∧ w'.cell? ⟨Y, 0, none⟩ = some (.int .i64 k') ∧ w'.cell? ⟨Y, 1, none⟩ = some (.int .u64 (i' : Nat)) ∧ w'.cell? ⟨Y, 2, none⟩ = some (.slice op' np' cp') ∧ w'.cell? ⟨Y, 3, none⟩ = some (.slice ok' nk' ck') ∧ w'.cell? ⟨gp, np' * 2, none⟩ = some (.string spare) ∧ w'.cell? ⟨gk, nk', none⟩ = some (.string spare)) (go_keep) ((go_at_call 15; refine (sameR_any _ k i _ np' cp _ nk' ck r ((H.out.keepsN HK0.out).keepsN (Keeps.refl no W0).drew) k' i' op' np' cp' ok' nk' ck' r ((H'.out.keepsN HK0.out).keepsN (Keeps.refl no W0).drew)).mono ?_; rintro e w9 ⟨⟨B1, rfl, hB1⟩, hk9⟩; have hB1t : B1 = true := hB1.out.2 rfl; subst hB1t; have HK9 : Hid (Keeps no W0 w9) := (Keeps.refl no W0).drew.trans hk9; have x0' := HK9.out.cellN x0; have x1' := HK9.out.cellN x1; have x2' := HK9.out.cellN x2; have x3' := HK9.out.cellN x3; have y0' := HK9.out.cellN y0; have y1' := HK9.out.cellN y1; have y2' := HK9.out.cellN y2; have y3' := HK9.out.cellN y3; have sp' := HK9.out.cellN sp2; have sk' := HK9.out.cellN sk2; clear hB1 hk9))
    go_wp2_with fail
    go_meet
    case rel => exact ⟨rfl, HK9.out⟩
  case rest =>
  obtain ⟨rfl, hkc⟩ := hcut
  rename World => w1
  have HKP : Hid (Kp w X gp gk cp ck #[.int .i64 k, .int .u64 (i : Nat), .slice (some ⟨gp, 0, none⟩) np' cp, .slice (some ⟨gk, 0, none⟩) nk' ck] w1) :=
    ⟨hkc.at HX0.out (fun h => h), HBP.out.1.keeps (HK0.out.trans hkc) (fun h => h), HBP.out.2.keeps (HK0.out.trans hkc) (fun h => h), (HK0.out.trans hkc).of_no⟩
  clear hkc x0 x1 x2 x3 y0 y1 y2 y3 sp2 sk2 HX0 HK0 HBP hspr b1 b2 b3 b4 b5 b6 b7 b8 b9 b10 s0 s1 wa1 wa2
  go_upto_block 0 with fail
  go_cut [6] from 42 to 53 (fun _ wc => Kp w X gp gk cp ck #[.int .i64 k, .int .u64 (i : Nat), .slice (some ⟨gp, 0, none⟩) np' cp, .slice (some ⟨gk, 0, none⟩) nk' ck] wc)
  case first =>
    go_wp2_with fail
    go_loopw [6] (fun j wr => ∃ q : Nat, j = .int .i64 (q : Nat) ∧ q ≤ np' ∧ Hid (Kp w X gp gk cp ck #[.int .i64 k, .int .u64 (i : Nat), .slice (some ⟨gp, 0, none⟩) np' cp, .slice (some ⟨gk, 0, none⟩) nk' ck] wr)) (fun j _ => np' - (intOf j).toNat)
    case atStart => exact ⟨0, rfl, by omega, HKP⟩
    case round =>
      rename World => wq
      clear HKP
      obtain ⟨q, rfl, hq, HH⟩ := hrel
      obtain ⟨x0, x1, x2, x3⟩ := cells4 HH.out.x
      by_cases hqn : q < np'
      · have hqn' : (q : Int) < np' := by omega
        obtain ⟨v0, d0⟩ := HH.out.p.cell (i := q * 2) (by omega)
        obtain ⟨v1, d1⟩ := HH.out.p.cell (i := q * 2 + 1) (by omega)
        have f0 := HH.out.p.free (q * 2)
        have f1 := HH.out.p.free (q * 2 + 1)
        go_wp2_with fail
        go_roundw
        case rel => exact ⟨q + 1, by go_num, by omega, (HH.out.setP (q * 2) _).setP (q * 2 + 1) _⟩
        case measure => simp [intOf]; omega
      · have hqn' : ¬ (q : Int) < np' := by omega
        go_wp2_with fail
        go_meet
        case rel => exact HH.out
  case rest =>
  rename World => w2
  have HKP2 : Hid (Kp w X gp gk cp ck #[.int .i64 k, .int .u64 (i : Nat), .slice (some ⟨gp, 0, none⟩) np' cp, .slice (some ⟨gk, 0, none⟩) nk' ck] w2) := hcut
  clear HKP
  go_wp2_with fail
  go_loopw [7] (fun j wr => ∃ q : Nat, j = .int .i64 (q : Nat) ∧ q ≤ nk' ∧ Hid (Kp w X gp gk cp ck #[.int .i64 k, .int .u64 (i : Nat), .slice (some ⟨gp, 0, none⟩) np' cp, .slice (some ⟨gk, 0, none⟩) nk' ck] wr)) (fun j _ => nk' - (intOf j).toNat)
  case atStart => exact ⟨0, rfl, by omega, HKP2⟩
  case round =>
    rename World => wq
    clear HKP2 hcut
    obtain ⟨q, rfl, hq, HH⟩ := hrel
    obtain ⟨x0, x1, x2, x3⟩ := cells4 HH.out.x
    by_cases hqn : q < nk'
    · have hqn' : (q : Int) < nk' := by omega
      obtain ⟨v0, d0⟩ := HH.out.k.cell (i := q) (by omega)
      have f0 := HH.out.k.free q
      go_wp2_with fail
      go_roundw
      case rel => exact ⟨q + 1, by go_num, by omega, HH.out.setK q _⟩
      case measure => simp [intOf]; omega
    · have hqn' : ¬ (q : Int) < nk' := by omega
      go_wp2_with fail
      go_ret
      refine ⟨rfl, HH.out.kp.mono ?_⟩
      rintro j (rfl | rfl)
      · exact .inl ⟨_, rfl, rfl⟩
      · exact .inr ⟨_, rfl, rfl⟩
end Go.Proofs.YtdalheeifgampaaDoor

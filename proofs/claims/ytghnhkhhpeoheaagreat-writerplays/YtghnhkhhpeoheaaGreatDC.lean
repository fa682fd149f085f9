/- The document's copyPosts. -/
import Derived.Test.YtghnhkhhpeoheaaGreatDK
import Derived.Test.YtghnhkhhpeoheaaGreatZ2
namespace Go.Proofs.YtghnhkhhpeoheaaGreat
open Go.RowKit Go.Sort Orl
set_option linter.unusedVariables false
set_option linter.unusedSimpArgs false

theorem not_own {w : World} {α : Type} {E : El α} {G : Nat} {cs : Array Value} {t : TypeId} {z : Nat × Nat} (hG : w.heap[G]? = some (.cells cs t z)) (ht : E.e ≠ t) {o : Option Addr} {c : Nat} {xs : List α} (h : Own E w o c xs) : ¬ inO o G := by
  rintro ⟨x, e, hx⟩
  rcases h.shape with ⟨e', _⟩ | ⟨g, cur, e', hg, _⟩
  · rw [e'] at e; cases e
  · rw [e'] at e; cases e
    simp only at hx
    subst hx
    rw [hG] at hg
    injection hg with h1
    injection h1 with _ h2 _
    exact ht h2.symm
theorem own_setB {w : World} {α : Type} {E : El α} {G : Nat} {cs : Array Value} {t : TypeId} {z : Nat × Nat} (hG : w.heap[G]? = some (.cells cs t z)) (ht : E.e ≠ t) {o : Option Addr} {c : Nat} {xs : List α} (h : Own E w o c xs) (j : Nat) (v : Value) : Own E (w.setCell ⟨G, j, none⟩ v) o c xs :=
  h.keeps ((Keeps.refl (fun i => i = G) w).setCell (p := ⟨G, j, none⟩) (.inl rfl) v) (fun i hi e => by subst e; exact not_own hG ht h hi)
def CopyTo (w : World) (n : Nat) (qs : List Qn) (e : Ending) (w' : World) : Prop := ∃ o c rs, e = .returned (.slice o n c) ∧ Tq w' o c rs qs ∧ (∀ i, TB o rs qs.length i → w.heap.size ≤ i) ∧ Keeps no w w'
set_option maxRecDepth 10000 in
set_option maxHeartbeats 2000000 in
theorem copy_any (w : World) (ol : Option Addr) (nl cl : Nat) (rl : List RQ) (qs : List Qn) (hn : nl = qs.length) (hf : FitQs qs) (h : Qs w ol cl rl qs) :
    Calls Tryz.prog 43 #[.slice ol nl cl] w (CopyTo w nl qs) := by
  have HQ : Hid (nl = qs.length ∧ FitQs qs ∧ Qs w ol cl rl qs) := ⟨hn, hf, h⟩
  have hnl : (nl : Int) ≤ 64 := by have := hf.1; omega
  clear hn hf h
  unfold CopyTo
  go_enter Tryz.func43, Tryz.ntmps43
  go_wp2_with fail
  go_loopw [3, 4] (fun s3 s4 wr => ∃ (k : Nat) (o : Option Addr) (c : Nat), k ≤ nl ∧ s4 = .int .i64 k ∧ s3 = .slice o k c ∧ Hid (∃ rs, rs.length = k ∧ Tq wr o c rs (qs.take k) ∧ (∀ i, TB o rs (qs.take k).length i → w.heap.size ≤ i) ∧ Keeps no w wr)) (fun _ s4 _ => nl - (intOf s4).toNat)
  case atStart => exact ⟨0, none, 0, by omega, rfl, rfl, [], rfl, tq_nil w, fun i hi => by rcases hi with ⟨x, e, _⟩ | ⟨j, hj, _⟩; cases e; simp at hj, Keeps.refl _ _⟩
  case round =>
    rename World => wr
    obtain ⟨k, o, c, hk, rfl, rfl, HT⟩ := hrel
    by_cases hlt : k < nl
    · have hlt' : (k : Int) < nl := by omega
      obtain ⟨rs, hrs, ht, hN, hkw⟩ := HT.out
      have HT2 : Hid (rs.length = k ∧ Tq wr o c rs (qs.take k) ∧ (∀ i, TB o rs (qs.take k).length i → w.heap.size ≤ i) ∧ Keeps no w wr) := ⟨hrs, ht, hN, hkw⟩
      have hkq : k < qs.length := by have := HQ.out.1; omega
      obtain ⟨b, off, r, hol, h9, hq⟩ := (HQ.out.2.2.keepsN hkw).at (j := k) hkq
      have hfq := HQ.out.2.1.at hkq
      have HKQ : Hid (qs.take (k + 1) = qs.take k ++ [qs.getD k q0]) := take_succ_getD qs k q0 hkq
      generalize qs.getD k q0 = q at hq hfq HKQ
      obtain ⟨x0, x1, x2, x3, x4, xpo, xpn, xpc, xko, xkn, xkc, xwo, xwc, xvo, xvc⟩ := r
      obtain ⟨z0, z1, z2, z3, z4, z5, z6, z7, z8⟩ := h9
      simp only at z0 z1 z2 z3 z4 z5 z6 z7 z8
      have HQQ : Hid (QOf wr ⟨x0, x1, x2, x3, x4, xpo, xpn, xpc, xko, xkn, xkc, xwo, xwc, xvo, xvc⟩ q ∧ q.pairs.length ≤ 2000 ∧ q.keys.length ≤ 2000) := ⟨hq, hfq.pl, hfq.kl⟩
      have hxp : (xpn : Int) ≤ 2000 := by have h1 : xpn = q.pairs.length := hq.pn; have := hfq.pl; omega
      have hxk : (xkn : Int) ≤ 2000 := by have h1 : xkn = q.keys.length := hq.kn; have := hfq.kl; omega
      clear hrs ht hN hkw hq hfq hkq HT
      subst hol
      obtain ⟨BM, hBM⟩ : ∃ BM, BM = wr.heap.size := ⟨_, rfl⟩
      obtain ⟨wA, hwA⟩ : ∃ wA, wA = wr.alloc (.cells #[.int .i64 x0, .int .i64 x1, .int .i64 x2, .int .u64 (x3 : Nat), .int .u64 (x4 : Nat), .slice xpo xpn xpc, .slice xko xkn xkc, .slice xwo 0 xwc, .slice xvo 0 xvc] 63) := ⟨_, rfl⟩
      have HA : Hid (Keeps no wr wA ∧ wA.heap[BM]? = some (.cells #[.int .i64 x0, .int .i64 x1, .int .i64 x2, .int .u64 (x3 : Nat), .int .u64 (x4 : Nat), .slice xpo xpn xpc, .slice xko xkn xkc, .slice xwo 0 xwc, .slice xvo 0 xvc] 63 (0, 0)) ∧ BM = wr.heap.size) := ⟨by rw [hwA]; exact (Keeps.refl _ _).alloc _, by rw [hwA, hBM]; exact blk_new _ _, hBM⟩
      go_upto_region 6 with fail
      rw [← hwA, ← hBM]
      clear hwA hBM z0 z1 z2 z3 z4 z5 z6 z7 z8
      have y5 : wA.cell? ⟨BM, 5, none⟩ = some (.slice xpo xpn xpc) := by rw [cell_of_blk HA.out.2.1]; rfl
      go_upto_region 7 with (at_builtin; refine wpList_app okP rfl _ _ rfl none 0 0 [] rfl rfl (own_nil _) xpo xpn xpc q.pairs rfl HQQ.out.1.pn HQQ.out.1.ps.nil (HQQ.out.1.ps.keepsN HA.out.1).row (by have := HQQ.out.2.1; simp [PE]; omega) (by have := HQQ.out.2.1; simp; omega) ?_; intro o5 c5 w5 ho5 ha5; have hk5 := (ha5.new (new_none _) (Keeps.refl no wA)); have hb5 := hk5.2.at HA.out.2.1 (fun h => h); have f5 := frozen_of_blk hb5 5; have y5b := cell_of_blk hb5 5; simp only [List.getElem?_toArray, List.getElem?_cons_succ, List.getElem?_cons_zero] at y5b)
      have HB : Hid (Keeps no wr (w5.setCell ⟨BM, 5, none⟩ (.slice o5 xpn c5)) ∧ (w5.setCell ⟨BM, 5, none⟩ (.slice o5 xpn c5)).heap[BM]? = some (.cells #[.int .i64 x0, .int .i64 x1, .int .i64 x2, .int .u64 (x3 : Nat), .int .u64 (x4 : Nat), .slice o5 xpn c5, .slice xko xkn xkc, .slice xwo 0 xwc, .slice xvo 0 xvc] 63 (0, 0)) ∧ Own PE (w5.setCell ⟨BM, 5, none⟩ (.slice o5 xpn c5)) o5 c5 q.pairs ∧ New wr o5) := by
        refine ⟨(HA.out.1.trans hk5.2).setCell (.inr (by show wr.heap.size ≤ BM; rw [HA.out.2.2]; exact Nat.le_refl _)) _, ?_, own_setB hb5 (by decide) (by simpa using ho5) _ _, hk5.1.of_le HA.out.1.size⟩
        have := blk_set hb5 5 (.slice o5 xpn c5)
        simpa using this
      clear ho5 ha5 hk5 hb5 f5 y5b y5
      generalize w5.setCell ⟨BM, 5, none⟩ (.slice o5 xpn c5) = W6 at HB ⊢
      have y6 : W6.cell? ⟨BM, 6, none⟩ = some (.slice xko xkn xkc) := by rw [cell_of_blk HB.out.2.1]; rfl
      go_upto_region 8 with (at_builtin; refine wpList_app okT rfl _ _ rfl none 0 0 [] rfl rfl (own_nil _) xko xkn xkc q.keys rfl HQQ.out.1.kn HQQ.out.1.ks.nil (HQQ.out.1.ks.keepsN HB.out.1).row (by have := HQQ.out.2.2; simp [TE]; omega) (by have := HQQ.out.2.2; simp; omega) ?_; intro o7 c7 w7 ho7 ha7; have hk7 := (ha7.new (new_none _) (Keeps.refl no W6)); have hb7 := hk7.2.at HB.out.2.1 (fun h => h); have f6 := frozen_of_blk hb7 6; have y6b := cell_of_blk hb7 6; simp only [List.getElem?_toArray, List.getElem?_cons_succ, List.getElem?_cons_zero] at y6b)
      have HC : Hid (Keeps no wr (w7.setCell ⟨BM, 6, none⟩ (.slice o7 xkn c7)) ∧ (w7.setCell ⟨BM, 6, none⟩ (.slice o7 xkn c7)).heap[BM]? = some (.cells #[.int .i64 x0, .int .i64 x1, .int .i64 x2, .int .u64 (x3 : Nat), .int .u64 (x4 : Nat), .slice o5 xpn c5, .slice o7 xkn c7, .slice xwo 0 xwc, .slice xvo 0 xvc] 63 (0, 0)) ∧ Own PE (w7.setCell ⟨BM, 6, none⟩ (.slice o7 xkn c7)) o5 c5 q.pairs ∧ New wr o5 ∧ Own TE (w7.setCell ⟨BM, 6, none⟩ (.slice o7 xkn c7)) o7 c7 q.keys ∧ New wr o7) := by
        refine ⟨(HB.out.1.trans hk7.2).setCell (.inr (by show wr.heap.size ≤ BM; rw [HA.out.2.2]; exact Nat.le_refl _)) _, ?_, own_setB hb7 (by decide) (HB.out.2.2.1.keepsN hk7.2) _ _, HB.out.2.2.2, own_setB hb7 (by decide) (by simpa using ho7) _ _, hk7.1.of_le HB.out.1.size⟩
        have := blk_set hb7 6 (.slice o7 xkn c7)
        simpa using this
      clear ho7 ha7 hk7 hb7 f6 y6b y6 HB
      generalize w7.setCell ⟨BM, 6, none⟩ (.slice o7 xkn c7) = W8 at HC ⊢
      have v0 := cell_of_blk HC.out.2.1 0
      have v1 := cell_of_blk HC.out.2.1 1
      have v2 := cell_of_blk HC.out.2.1 2
      have v3 := cell_of_blk HC.out.2.1 3
      have v4 := cell_of_blk HC.out.2.1 4
      have v5 := cell_of_blk HC.out.2.1 5
      have v6 := cell_of_blk HC.out.2.1 6
      have v7 := cell_of_blk HC.out.2.1 7
      have v8 := cell_of_blk HC.out.2.1 8
      simp only [List.getElem?_toArray, List.getElem?_cons_succ, List.getElem?_cons_zero] at v0 v1 v2 v3 v4 v5 v6 v7 v8
      go_wp2_with (at_builtin; refine wpList_app okQ rfl _ _ rfl o k c rs rfl HT2.out.1.symm (HT2.out.2.1.own.keepsN (HC.out.1.alloc _)) _ _ _ [⟨x0, x1, x2, x3, x4, o5, xpn, c5, o7, xkn, c7, xwo, xwc, xvo, xvc⟩] rfl rfl (fun h => by cases h) (lit_one (E := QE) _ ⟨x0, x1, x2, x3, x4, o5, xpn, c5, o7, xkn, c7, xwo, xwc, xvo, xvc⟩ _ rfl).row (by have := HT2.out.1; simp [QE]; omega) (by have := HT2.out.1; simp; omega) ?_; intro o9 c9 w9 ho9 hap9)
      go_roundw
      case rel =>
        obtain ⟨h1, h2, h3, h4⟩ := HT2.out
        have hq := HQQ.out.1
        have := h2.push h3 h4 (HC.out.1.alloc _) (QNw.keeps (S := no) (w := W8) (r := ⟨x0, x1, x2, x3, x4, o5, xpn, c5, o7, xkn, c7, xwo, xwc, xvo, xvc⟩) (q := q) ⟨hq.part, hq.kind, hq.client, hq.req, hq.id, hq.pn, HC.out.2.2.1, hq.kn, HC.out.2.2.2.2.1⟩ ((Keeps.refl no _).alloc _) (fun _ _ => id) (fun _ _ => id)) HC.out.2.2.2.1 HC.out.2.2.2.2.2 ho9 hap9
        refine ⟨k + 1, o9, c9, by omega, by go_num, rfl, rs ++ [⟨x0, x1, x2, x3, x4, o5, xpn, c5, o7, xkn, c7, xwo, xwc, xvo, xvc⟩], by simp [h1], ?_⟩
        rw [HKQ.out]
        exact this
      case measure => simp [intOf]; omega
    · have hkn : k = nl := by omega
      subst hkn
      go_wp2_with fail
      go_ret
      obtain ⟨rs, hrs, ht, hN, hkw⟩ := HT.out
      rw [List.take_of_length_le (by have := HQ.out.1; omega)] at ht hN
      exact ⟨o, c, rs, rfl, ht, hN, hkw⟩
end Go.Proofs.YtghnhkhhpeoheaaGreat

/- The document's disk: Sync, Read, Size, Cut. -/
import Derived.Test.YtgobakfffobpkaaR3
namespace Go.Proofs.Ytgobakfffobpkaa
open Go.RowKit Dk
set_option linter.unusedVariables false
set_option linter.unusedSimpArgs false

theorem getD_set_self {α : Type} (l : List α) (j : Nat) (x d : α) (h : j < l.length) : (l.set j x).getD j d = x := by
  simp [List.getD_eq_getElem?_getD, h]
theorem RD.len {w : World} {r : Nat} {F : Nat → Prop} {s : St} {oF : Option Addr} {cF : Nat} {fs : List RF} (h : RD w r F s oF cF fs) : s.fs.length = fs.length := by rw [h.eq]; simp
theorem RD.at {w : World} {r : Nat} {F : Nat → Prop} {s : St} {oF : Option Addr} {cF : Nat} {fs : List RF} (h : RD w r F s oF cF fs) {j : Nat} (hj : j < s.fs.length) : j < fs.length ∧ s.fs[j] = (fs.getD j rf0).ent := by
  have hjf : j < fs.length := by rw [← h.len]; exact hj
  refine ⟨hjf, ?_⟩
  have e2 : s.fs[j] = (fs.map RF.ent)[j]'(by simpa using hjf) := by congr 1; exact h.eq
  rw [e2]
  simp [List.getD_eq_getElem?_getD, hjf]
theorem apart_getD {fs : List RF} (ha : fs.Pairwise fun f g => ∀ k, inO f.o k → ¬ inO g.o k) {i j : Nat} (hi : i < fs.length) (hj : j < fs.length) (hne : i ≠ j) : ∀ k, inO (fs.getD i rf0).o k → ¬ inO (fs.getD j rf0).o k := by
  have e1 : fs.getD i rf0 = fs[i] := by simp [List.getD_eq_getElem?_getD, hi]
  have e2 : fs.getD j rf0 = fs[j] := by simp [List.getD_eq_getElem?_getD, hj]
  rw [e1, e2]
  rcases Nat.lt_or_gt_of_ne hne with h | h
  · exact (List.pairwise_iff_getElem.1 ha) i j hi hj h
  · exact fun k h1 h2 => (List.pairwise_iff_getElem.1 ha) j i hj hi h k h2 h1
theorem mem_set_getD {fs : List RF} {j : Nat} {f' x : RF} (hx : x ∈ fs.set j f') : x = f' ∨ ∃ i, i < fs.length ∧ i ≠ j ∧ x = fs.getD i rf0 := by
  obtain ⟨i, hi, rfl⟩ := List.getElem_of_mem hx
  rw [List.getElem_set]
  by_cases e : j = i
  · rw [if_pos e]; exact .inl rfl
  · rw [if_neg e]
    simp at hi
    exact .inr ⟨i, hi, fun h => e h.symm, by simp [List.getD_eq_getElem?_getD, hi]⟩
theorem apart_set {fs : List RF} (ha : fs.Pairwise fun f g => ∀ k, inO f.o k → ¬ inO g.o k) {j : Nat} {f' : RF} (hj : j < fs.length) (h1 : ∀ i, i < fs.length → i ≠ j → ∀ k, inO f'.o k → ¬ inO (fs.getD i rf0).o k) : (fs.set j f').Pairwise fun f g => ∀ k, inO f.o k → ¬ inO g.o k := by
  rw [List.pairwise_iff_getElem]
  intro a b hA hB hlt k
  simp at hA hB
  rw [List.getElem_set, List.getElem_set]
  by_cases ea : j = a
  · have eb : ¬ j = b := by omega
    rw [if_pos ea, if_neg eb]
    have := h1 b hB (fun e => eb e.symm) k
    rwa [show fs.getD b rf0 = fs[b] by simp [List.getD_eq_getElem?_getD, hB]] at this
  · rw [if_neg ea]
    by_cases eb : j = b
    · rw [if_pos eb]
      intro h2 h3
      have := h1 a hA (fun e => ea e.symm) k h3
      rw [show fs.getD a rf0 = fs[a] by simp [List.getD_eq_getElem?_getD, hA]] at this
      exact this h2
    · rw [if_neg eb]
      exact (List.pairwise_iff_getElem.1 ha) a b hA hB hlt k
/-- one file turns -/
theorem RD.upd {w w' : World} {r : Nat} {F F' : Nat → Prop} {s : St} {g cF : Nat} {fs : List RF} (h : RD w r F s (some ⟨g, 0, none⟩) cF fs) {j : Nat} (hj : j < fs.length) {f' : RF} (hnm : f'.nm = (fs.getD j rf0).nm) (hO : Own FE w' (some ⟨g, 0, none⟩) cF (fs.set j f')) (hk : Keeps (fun k => k = g ∨ inO (fs.getD j rf0).o k) w w') (hw : Ow w' f'.o f'.c f'.bs) (ho : ∀ k, inO f'.o k → inO (fs.getD j rf0).o k ∨ w.heap.size ≤ k) (hF : ∀ k, F k → F' k) (hF2 : ∀ k, inO f'.o k → F' k) (hl : ∀ k, F' k → k < w'.heap.size) (hok : Ok { s with fs := put f'.nm.data.toList ⟨f'.bs, f'.sy⟩ s.fs }) :
    RD w' r F' { s with fs := put f'.nm.data.toList ⟨f'.bs, f'.sy⟩ s.fs } (some ⟨g, 0, none⟩) cF (fs.set j f') := by
  have hf : fs.getD j rf0 ∈ fs := getD_mem fs j rf0 hj
  have hjs : j < s.fs.length := by rw [h.len]; exact hj
  have hgr : ¬ g = r := fun e => h.o_r (by rw [← e]; exact ⟨_, rfl, rfl⟩)
  have hold : ∀ i, i < fs.length → i ≠ j → Ow w' (fs.getD i rf0).o (fs.getD i rf0).c (fs.getD i rf0).bs := fun i hi hne => (h.each _ (getD_mem fs i rf0 hi)).keeps hk (fun k h1 h2 => by
    rcases h2 with e | e
    · subst e; exact h.f_o (getD_mem fs i rf0 hi) k h1 ⟨_, rfl, rfl⟩
    · exact apart_getD h.apart hi hj hne k h1 e)
  refine ⟨?_, hO, ?_, ?_, apart_set h.apart hj (fun i hi hne k h1 h2 => ?_), hF _ h.fr, fun k hk1 => hF _ (h.fo k hk1), ?_, hl, hok, h.ci, h.ki, h.ri⟩
  · have := hk.at h.blk (fun h1 => by
      rcases h1 with e | e
      · exact hgr e.symm
      · exact h.f_r hf e)
    rw [this]
    simp [rcells]
  · show put f'.nm.data.toList ⟨f'.bs, f'.sy⟩ s.fs = (fs.set j f').map RF.ent
    rw [hit_put h.ok.inc hjs (by rw [(h.at hjs).2, hnm]; rfl), List.map_set, ← h.eq, List.set_eq_take_append_cons_drop, if_pos hjs]
    rfl
  · intro x hx
    rcases mem_set_getD hx with rfl | ⟨i, hi, hne, rfl⟩
    · exact hw
    · exact hold i hi hne
  · rcases ho k h1 with e | e
    · exact apart_getD h.apart hj hi (Ne.symm hne) k e h2
    · have := h.lt k (h.ff _ (getD_mem fs i rf0 hi) k h2); omega
  · intro x hx k hk1
    rcases mem_set_getD hx with rfl | ⟨i, hi, hne, rfl⟩
    · exact hF2 k hk1
    · exact hF _ (h.ff _ (getD_mem fs i rf0 hi) k hk1)

set_option maxRecDepth 100000 in
theorem rsync_any (w : World) (r : Nat) (F : Nat → Prop) (s : St) (n : Tx) (h : IsR w r F s) :
    Calls Try.prog 45 #[.pointer (some ⟨r, 0, none⟩), .string n] w fun e w' => e = .returned (.int .i64 (counted s (syncOn n.data.toList)).2) ∧ IsR w' r F (counted s (syncOn n.data.toList)).1 ∧ Keeps F w w' := by
  obtain ⟨t, ht⟩ : ∃ t, t = tick s := ⟨_, rfl⟩
  rw [counted_cT, ← ht]
  have HT : Hid (t = tick s) := ht
  clear ht
  go_enter Try.func45, Try.ntmps45
  go_wp2_with fail
  refine (rcounted_any w r F s h).mono ?_
  rw [← HT.out]
  rintro e w1 ⟨rfl, h1, HK⟩
  cases ho : t.off with
  | true =>
    go_wp2
    go_ret
    rw [cT_off ho]
    exact ⟨rfl, h1, HK⟩
  | false =>
  go_wp2_with fail
  refine (at_any w1 r F t n h1).mono ?_
  rintro e w2 ⟨v, rfl, hv, hw⟩
  subst w2
  cases hv.out with
  | miss j hj lo hi =>
    have hneg : -1 - ((j : Nat) : Int) < 0 := by omega
    have h16 : j ≤ 16 := by have := h1.ok.len; omega
    go_wp2
    go_ret
    rw [cT_on ho, syncOn, onF_none (miss_find lo hi)]
    exact ⟨rfl, h1, HK⟩
  | hit j hj hn =>
    obtain ⟨oF, cF, fs, hd⟩ := h1
    obtain ⟨hjf, hent⟩ := hd.at hj
    obtain ⟨g, rfl, d0, d1, d2, fz⟩ := ownF_at hd.own hjf
    obtain ⟨N, hN⟩ : ∃ N, N = fs.length := ⟨_, rfl⟩
    have c0 : w1.cell? ⟨r, 0, none⟩ = some (.slice (some ⟨g, 0, none⟩) N cF) := by rw [hN]; exact cell_of_blk hd.blk 0
    have hjN : j < N := by omega
    have h16 : N ≤ 16 := by have := hd.ok.len; have := hd.len; omega
    have z2 := fz (j * 3 + 2)
    have hff := hit_find hd.ok.inc hj hn
    rw [hent] at hff
    have hnm : (fs.getD j rf0).nm.data.toList = n.data.toList := by rw [← hn, hent]; rfl
    obtain ⟨f, hfe⟩ : ∃ f, f = fs.getD j rf0 := ⟨_, rfl⟩
    have hgr : ¬ g = r := fun e => hd.o_r (by rw [← e]; exact ⟨_, rfl, rfl⟩)
    have hrg : ¬ r = g := fun e => hgr e.symm
    have hOw := hd.each _ (getD_mem fs j rf0 hjf)
    have hsO := own_setF hd.own hjf (i := 2) (by omega) (.int .i64 ((f.bs.length : Nat) : Int)) ⟨f.nm, f.o, f.c, f.bs, f.bs.length⟩ (by rw [← hfe]; simp [RF.cells])
    rw [← hfe] at d1 d2 hff hnm hOw
    obtain ⟨nf, hnf⟩ : ∃ nf, nf = f.bs.length := ⟨_, rfl⟩
    rw [← hnf] at d1 hsO
    have hks := keeps_set w1 g (j * 3 + 2) (.int .i64 ((nf : Nat) : Int))
    have hok := syncOn_ok (n := n.data.toList) hd.ok
    have HS : Hid (IsR (w1.setCell ⟨g, j * 3 + 2, none⟩ (.int .i64 ((nf : Nat) : Int))) r F (syncOn n.data.toList t).1 ∧ (syncOn n.data.toList t).2 = 0 ∧ Keeps F w1 (w1.setCell ⟨g, j * 3 + 2, none⟩ (.int .i64 ((nf : Nat) : Int)))) := (show _ from by
      have e : syncOn n.data.toList t = ({ t with fs := put n.data.toList ⟨f.bs, f.bs.length⟩ t.fs }, 0) := by rw [syncOn, onF_some hff]; rfl
      rw [e] at hok ⊢
      refine ⟨⟨some ⟨g, 0, none⟩, cF, fs.set j ⟨f.nm, f.o, f.c, f.bs, nf⟩, ?_⟩, rfl, hks.mono fun i e => by subst e; exact hd.fo _ ⟨_, rfl, rfl⟩⟩
      have hu := hd.upd (F' := F) (f' := ⟨f.nm, f.o, f.c, f.bs, nf⟩) hjf (by rw [hfe]) hsO (hks.mono fun i e => .inl e) (hOw.keeps hks (fun i h1 e => by subst e; exact hd.f_o (getD_mem fs j rf0 hjf) i (by rw [← hfe]; exact h1) ⟨_, rfl, rfl⟩)) (fun k hk => .inl (by rw [← hfe]; exact hk)) (fun k hk => hk) (fun k hk => hd.ff _ (getD_mem fs j rf0 hjf) k (by rw [← hfe]; exact hk)) (fun k hk => Nat.lt_of_lt_of_le (hd.lt k hk) hks.size) (by show Ok { t with fs := put f.nm.data.toList ⟨f.bs, nf⟩ t.fs }; rw [hnm, hnf]; exact hok)
      have e2 : ({ t with fs := put (⟨f.nm, f.o, f.c, f.bs, nf⟩ : RF).nm.data.toList ⟨(⟨f.nm, f.o, f.c, f.bs, nf⟩ : RF).bs, (⟨f.nm, f.o, f.c, f.bs, nf⟩ : RF).sy⟩ t.fs } : St) = { t with fs := put n.data.toList ⟨f.bs, f.bs.length⟩ t.fs } := by show ({ t with fs := put f.nm.data.toList ⟨f.bs, nf⟩ t.fs } : St) = _; rw [hnm, hnf]
      rw [e2] at hu
      exact hu)
    obtain ⟨_, e', _, k1, _, _⟩ := ownF_at hsO (j := j) (by simpa using hjf)
    cases e'
    rw [getD_set_self fs j _ rf0 hjf] at k1
    have k2 : (w1.setCell ⟨g, j * 3 + 2, none⟩ (.int .i64 ((nf : Nat) : Int))).cell? ⟨g, j * 3 + 1, none⟩ = some (.slice f.o nf f.c) := by rw [hnf] at k1 ⊢; exact k1
    clear k1
    clear hd hok hks hsO hOw hnm hff hent d0 fz hnf hfe hN hn hv
    go_wp2_with fail
    go_region_held3 (fun w' => w'.cell? ⟨r, 0, none⟩ = some (.slice (some ⟨g, 0, none⟩) N cF) ∧ w'.cell? ⟨g, j * 3 + 1, none⟩ = some (.slice f.o nf f.c)) (go_keep) (fail)
    go_wp2_with fail
    go_ret
    obtain ⟨q1, q2, q3⟩ := HS.out
    rw [cT_on ho]
    exact ⟨by rw [q2]; rfl, q1.keepsN (Keeps.refl _ _).drew, HK.trans (q3.drew)⟩

set_option maxRecDepth 100000 in
theorem rread_any (w : World) (r : Nat) (F : Nat → Prop) (s : St) (n : Tx) (h : IsR w r F s) (hb : (readB n.data.toList (tick s)).length ≤ 140737488355328) :
    Calls Try.prog 46 #[.pointer (some ⟨r, 0, none⟩), .string n] w fun e w' => ∃ o c m, e = .returned (.tuple #[.slice o m c, .int .i64 (readE n.data.toList (tick s))]) ∧ Hid (m = (readB n.data.toList (tick s)).length) ∧ Own BE w' o c (readB n.data.toList (tick s)) ∧ New w o ∧ IsR w' r F (tick s) ∧ Keeps F w w' := by
  obtain ⟨t, ht⟩ : ∃ t, t = tick s := ⟨_, rfl⟩
  rw [← ht] at hb ⊢
  have HT : Hid (t = tick s) := ht
  clear ht
  go_enter Try.func46, Try.ntmps46
  go_wp2_with fail
  refine (rcounted_any w r F s h).mono ?_
  rw [← HT.out]
  rintro e w1 ⟨rfl, h1, HK⟩
  cases ho : t.off with
  | true =>
    have e1 : readB n.data.toList t = [] := by simp [readB, ho]
    have e2 : readE n.data.toList t = 62 := by simp [readE, ho]
    go_wp2
    go_ret2
    rw [e1, e2]
    exact ⟨_, _, _, rfl, rfl, own_nil _, new_none _, h1, HK⟩
  | false =>
  go_wp2_with fail
  refine (at_any w1 r F t n h1).mono ?_
  rintro e w2 ⟨v, rfl, hv, hw⟩
  subst w2
  cases hv.out with
  | miss j hj lo hi =>
    have hneg : -1 - ((j : Nat) : Int) < 0 := by omega
    have h16 : j ≤ 16 := by have := h1.ok.len; omega
    have hf := miss_find lo hi
    have e1 : readB n.data.toList t = [] := by simp [readB, ho, hf]
    have e2 : readE n.data.toList t = 61 := by simp [readE, ho, hf]
    clear hf
    go_wp2
    go_ret2
    rw [e1, e2]
    exact ⟨_, _, _, rfl, rfl, own_nil _, new_none _, h1, HK⟩
  | hit j hj hn =>
    have h1' := h1
    obtain ⟨oF, cF, fs, hd⟩ := h1
    obtain ⟨hjf, hent⟩ := hd.at hj
    obtain ⟨g, rfl, d0, d1, d2, fz⟩ := ownF_at hd.own hjf
    obtain ⟨N, hN⟩ : ∃ N, N = fs.length := ⟨_, rfl⟩
    have c0 : w1.cell? ⟨r, 0, none⟩ = some (.slice (some ⟨g, 0, none⟩) N cF) := by rw [hN]; exact cell_of_blk hd.blk 0
    have hjN : j < N := by omega
    have h16 : N ≤ 16 := by have := hd.ok.len; have := hd.len; omega
    have hff := hit_find hd.ok.inc hj hn
    rw [hent] at hff
    have hOw := hd.each _ (getD_mem fs j rf0 hjf)
    obtain ⟨f, hfe⟩ : ∃ f, f = fs.getD j rf0 := ⟨_, rfl⟩
    rw [← hfe] at d1 hff hOw
    have e1 : readB n.data.toList t = f.bs := by simp [readB, ho, hff, RF.ent]
    have e2 : readE n.data.toList t = 0 := by simp [readE, ho, hff]
    obtain ⟨nf, hnf⟩ : ∃ nf, nf = f.bs.length := ⟨_, rfl⟩
    rw [← hnf] at d1
    have HNF : Hid (nf = f.bs.length) := hnf
    have HOW : Hid (Ow w1 f.o f.c f.bs) := hOw
    have HB : Hid (f.bs.length ≤ 140737488355328) := (show _ by rw [e1] at hb; exact hb)
    have HI : Hid (IsR w1 r F t) := h1'
    clear hd hOw hff hent d0 d2 fz hnf hfe hN hn hv h1' hb
    go_wp2_with (at_builtin; refine wpList_app okB rfl _ _ rfl none 0 0 [] rfl rfl (own_nil _) _ _ _ f.bs rfl HNF.out HOW.out.nil HOW.out.row (by have := HB.out; simp [BE]; omega) (by have := HB.out; simp; omega) ?_; intro o' c' w' hown hap)
    go_ret2
    have hnew := hap.new (w0 := w1) (new_none w1) (Keeps.refl _ _)
    rw [e1, e2]
    exact ⟨_, _, _, rfl, (show _ = _ by rw [HNF.out]), by simpa using hown, hnew.1.of_le HK.size, HI.out.keepsN hnew.2, HK.trans hnew.2.of_no⟩
theorem rsize_any (w : World) (r : Nat) (F : Nat → Prop) (s : St) (n : Tx) (h : IsR w r F s) (hb : (readB n.data.toList (tick s)).length ≤ 140737488355328) :
    Calls Try.prog 47 #[.pointer (some ⟨r, 0, none⟩), .string n] w fun e w' => e = .returned (.tuple #[.int .i64 (((readB n.data.toList (tick s)).length : Nat) : Int), .int .i64 (readE n.data.toList (tick s))]) ∧ IsR w' r F (tick s) ∧ Keeps F w w' := by
  go_enter Try.func47, Try.ntmps47
  go_wp2_with fail
  refine (rread_any w r F s n h hb).mono ?_
  rintro e w1 ⟨o, c, m, rfl, hm, ho, hn, h1, hk⟩
  go_wp2
  go_ret2
  exact ⟨by rw [hm.out]; rfl, h1, hk⟩

set_option maxRecDepth 100000 in
set_option maxHeartbeats 0 in
theorem rcut_any (w : World) (r : Nat) (F : Nat → Prop) (s : St) (n : Tx) (k : Int) (h : IsR w r F s) (hk : i64 k) :
    Calls Try.prog 48 #[.pointer (some ⟨r, 0, none⟩), .string n, .int .i64 k] w fun e w' => e = .returned (.int .i64 (counted s (cutOn n.data.toList k)).2) ∧ IsR w' r F (counted s (cutOn n.data.toList k)).1 ∧ Keeps F w w' := by
  obtain ⟨t, ht⟩ : ∃ t, t = tick s := ⟨_, rfl⟩
  rw [counted_cT, ← ht]
  have HT : Hid (t = tick s) := ht
  have k1 := hk.1
  have k2 := hk.2
  clear ht hk
  go_enter Try.func48, Try.ntmps48
  go_wp2_with fail
  refine (rcounted_any w r F s h).mono ?_
  rw [← HT.out]
  rintro e w1 ⟨rfl, h1, HK⟩
  cases ho : t.off with
  | true =>
    go_wp2
    go_ret
    rw [cT_off ho]
    exact ⟨rfl, h1, HK⟩
  | false =>
  go_wp2_with fail
  refine (at_any w1 r F t n h1).mono ?_
  rintro e w2 ⟨v, rfl, hv, hw⟩
  subst w2
  cases hv.out with
  | miss j hj lo hi =>
    have hneg : -1 - ((j : Nat) : Int) < 0 := by omega
    have h16 : j ≤ 16 := by have := h1.ok.len; omega
    go_wp2
    go_ret
    rw [cT_on ho, cutOn, onF_none (miss_find lo hi)]
    exact ⟨rfl, h1, HK⟩
  | hit j hj hn =>
    have h1' := h1
    obtain ⟨oF, cF, fs, hd⟩ := h1
    obtain ⟨hjf, hent⟩ := hd.at hj
    obtain ⟨g, rfl, d0, d1, d2, fz⟩ := ownF_at hd.own hjf
    obtain ⟨N, hN⟩ : ∃ N, N = fs.length := ⟨_, rfl⟩
    have c0 : w1.cell? ⟨r, 0, none⟩ = some (.slice (some ⟨g, 0, none⟩) N cF) := by rw [hN]; exact cell_of_blk hd.blk 0
    have hjN : j < N := by omega
    have h16 : N ≤ 16 := by have := hd.ok.len; have := hd.len; omega
    have z1 := fz (j * 3 + 1)
    have z2 := fz (j * 3 + 2)
    have hff := hit_find hd.ok.inc hj hn
    rw [hent] at hff
    have hnm : (fs.getD j rf0).nm.data.toList = n.data.toList := by rw [← hn, hent]; rfl
    have hsy : (fs.getD j rf0).sy ≤ (fs.getD j rf0).bs.length := hd.ok.sy (fs.getD j rf0).ent (by rw [hd.eq]; exact List.mem_map_of_mem (getD_mem fs j rf0 hjf))
    have hgr : ¬ g = r := fun e => hd.o_r (by rw [← e]; exact ⟨_, rfl, rfl⟩)
    have hrg : ¬ r = g := fun e => hgr e.symm
    have hOw := hd.each _ (getD_mem fs j rf0 hjf)
    have hmax : (fs.getD j rf0).c ≤ 9223372036854775807 := by have := hOw.max; unfold maxLen at this; omega
    have hcap := hOw.cap
    have hmem := getD_mem fs j rf0 hjf
    obtain ⟨f, hfe⟩ : ∃ f, f = fs.getD j rf0 := ⟨_, rfl⟩
    rw [← hfe] at d1 d2 hff hnm hOw hsy hmax hcap hmem
    obtain ⟨nf, hnf⟩ : ∃ nf, nf = f.bs.length := ⟨_, rfl⟩
    rw [← hnf] at d1 hsy hcap
    have HFF : Hid (find n.data.toList t.fs = some f.ent.2) := hff
    have HNF : Hid (nf = f.bs.length) := hnf
    have HI : Hid (IsR w1 r F t) := h1'
    by_cases hn1 : k < 0
    · clear hd hOw hff hnm hent d0 fz hnf hfe hN hn hv h1'
      go_wp2_with fail
      go_ret
      rw [cT_on ho, cutOn, onF_some HFF.out, if_pos (.inl hn1)]
      exact ⟨rfl, HI.out, HK⟩
    · by_cases hn2 : (nf : Int) < k
      · clear hd hOw hff hnm hent d0 fz hnf hfe hN hn hv h1'
        go_wp2_with fail
        go_ret
        rw [cT_on ho, cutOn, onF_some HFF.out, if_pos (.inr (by show ((f.bs.length : Nat) : Int) < k; rw [← HNF.out]; exact hn2))]
        exact ⟨rfl, HI.out, HK⟩
      · obtain ⟨q, rfl⟩ : ∃ q : Nat, k = q := ⟨k.toNat, by omega⟩
        have hqn : q ≤ nf := by omega
        have hcut := cut3 f.o nf f.c q (by omega) hOw.nil hmax
        have HMI : Hid (min ((f.sy : Nat) : Int) ((q : Nat) : Int) = ((min f.sy q : Nat) : Int)) := (show _ = _ by omega)
        have hs1 := own_setF hd.own hjf (i := 1) (by omega) (.slice f.o q q) ⟨f.nm, f.o, q, f.bs.take q, f.sy⟩ (by rw [← hfe]; simp [RF.cells, List.length_take, ← hnf, Nat.min_eq_left hqn])
        have hs2 := own_setF hs1 (by simpa using hjf) (i := 2) (by omega) (.int .i64 ((min f.sy q : Nat) : Int)) ⟨f.nm, f.o, q, f.bs.take q, min f.sy q⟩ (by rw [getD_set_self fs j _ rf0 hjf]; simp [RF.cells])
        rw [List.set_set] at hs2
        obtain ⟨W2, hW2⟩ : ∃ W2, W2 = (w1.setCell ⟨g, j * 3 + 1, none⟩ (.slice f.o q q)).setCell ⟨g, j * 3 + 2, none⟩ (.int .i64 ((min f.sy q : Nat) : Int)) := ⟨_, rfl⟩
        rw [← hW2] at hs2
        have hks : Keeps (fun i => i = g) w1 W2 := by rw [hW2]; exact (keeps_set w1 g (j * 3 + 1) _).trans (keeps_set _ g (j * 3 + 2) _)
        have hok := cutOn_ok (n := n.data.toList) (k := (q : Int)) hd.ok
        have HS : Hid (IsR W2 r F (cutOn n.data.toList (q : Int) t).1 ∧ (cutOn n.data.toList (q : Int) t).2 = 0 ∧ Keeps F w1 W2) := (show _ from by
          have e : cutOn n.data.toList (q : Int) t = ({ t with fs := put n.data.toList ⟨f.bs.take q, min f.sy q⟩ t.fs }, 0) := by
            rw [cutOn, onF_some hff, if_neg (by show ¬ (_ ∨ ((f.bs.length : Nat) : Int) < _); rw [← hnf]; omega)]
            simp [RF.ent]
          rw [e] at hok ⊢
          refine ⟨⟨some ⟨g, 0, none⟩, cF, fs.set j ⟨f.nm, f.o, q, f.bs.take q, min f.sy q⟩, ?_⟩, rfl, hks.mono fun i e => by subst e; exact hd.fo _ ⟨_, rfl, rfl⟩⟩
          have hw2 : Ow W2 f.o q (f.bs.take q) := (hOw.keeps hks (fun i h1 e => by subst e; exact hd.f_o hmem i h1 ⟨_, rfl, rfl⟩)).cut (by rw [← hnf]; exact hqn)
          have hu := hd.upd (F' := F) (f' := ⟨f.nm, f.o, q, f.bs.take q, min f.sy q⟩) hjf (by rw [hfe]) hs2 (hks.mono fun i e => .inl e) hw2 (fun k hk => .inl (by rw [← hfe]; exact hk)) (fun k hk => hk) (fun k hk => hd.ff _ hmem k hk) (fun k hk => Nat.lt_of_lt_of_le (hd.lt k hk) hks.size) (by show Ok { t with fs := put f.nm.data.toList ⟨f.bs.take q, min f.sy q⟩ t.fs }; rw [hnm]; exact hok)
          have e2 : ({ t with fs := put (⟨f.nm, f.o, q, f.bs.take q, min f.sy q⟩ : RF).nm.data.toList ⟨(⟨f.nm, f.o, q, f.bs.take q, min f.sy q⟩ : RF).bs, (⟨f.nm, f.o, q, f.bs.take q, min f.sy q⟩ : RF).sy⟩ t.fs } : St) = { t with fs := put n.data.toList ⟨f.bs.take q, min f.sy q⟩ t.fs } := by show ({ t with fs := put f.nm.data.toList ⟨f.bs.take q, min f.sy q⟩ t.fs } : St) = _; rw [hnm]
          rw [e2] at hu
          exact hu)
        obtain ⟨_, e', _, _, u2, uz⟩ := ownF_at hs1 (j := j) (by simpa using hjf)
        cases e'
        rw [getD_set_self fs j _ rf0 hjf] at u2
        have u3 := uz (j * 3 + 2)
        clear hd hok hks hs1 hs2 hOw hnm hff hent d0 fz hnf hfe hN hn hv h1' hmem uz
        go_wp2_with fail
        go_region_with (fail)
        all_goals
          (go_wp2_with fail
           go_region_with (fail))
        all_goals rw [HMI.out]
        all_goals go_wp2_with fail
        all_goals go_ret
        all_goals
          (obtain ⟨q1, q2, q3⟩ := HS.out
           rw [cT_on ho, q2]
           rw [hW2] at q1 q3
           exact ⟨rfl, q1.keepsN ((Keeps.refl _ _).drew.drew), HK.trans (q3.drew.drew)⟩)
end Go.Proofs.Ytgobakfffobpkaa

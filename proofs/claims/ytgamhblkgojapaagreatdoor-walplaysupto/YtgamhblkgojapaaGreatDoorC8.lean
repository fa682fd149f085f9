/- The program's Scan. -/
import Derived.Test.YtgamhblkgojapaaGreatDoorC7
namespace Go.Proofs.YtgamhblkgojapaaGreatDoor
open Go.RowKit Go.Sort Orl Pk
set_option linter.unusedVariables false
set_option linter.unusedSimpArgs false

/-- the blocks of a record's lists -/
def CV.blk (v : CV) (k : Nat) : Prop := inO v.op k ∨ inO v.ok k
theorem Got.lt {w w' : World} {v : CV} {r : Rec} (h : Got w w' v r) : ∀ k, v.blk k → k < w'.heap.size := by
  rintro k (hk | hk)
  · exact h.ps.lt k hk
  · exact h.ks.lt k hk
theorem Got.ge {w w' : World} {v : CV} {r : Rec} (h : Got w w' v r) : ∀ k, v.blk k → w.heap.size ≤ k := by
  rintro k (hk | hk)
  · exact h.pn k hk
  · exact h.kn k hk
/-- records that a call told, one behind the other -/
structure Scn (w w' : World) (o : Option Addr) (c : Nat) (vs : List CV) (rs : List Rec) : Prop where
  own : Own CE w' o c vs
  new : New w o
  len : vs.length = rs.length
  each : ∀ j, j < rs.length → Got w w' (vs.getD j cv0) (rs.getD j c0)
  sep : ∀ i j, i < j → j < rs.length → ∀ x y, (vs.getD i cv0).blk x → (vs.getD j cv0).blk y → x < y
theorem scn_nil (w w' : World) : Scn w w' none 0 [] [] := ⟨own_nil _, new_none _, rfl, fun j hj => by simp at hj, fun i j _ hj => by simp at hj⟩
theorem Scn.keepsN {w w' w'' : World} {o : Option Addr} {c : Nat} {vs : List CV} {rs : List Rec} (h : Scn w w' o c vs rs) (hk : Keeps no w' w'') : Scn w w'' o c vs rs :=
  ⟨h.own.keepsN hk, h.new, h.len, fun j hj => (h.each j hj).keepsN hk, h.sep⟩
theorem getD_snoc {α : Type} (l : List α) (x d : α) (j : Nat) : (l ++ [x]).getD j d = if j < l.length then l.getD j d else if j = l.length then x else d := by
  simp only [List.getD_eq_getElem?_getD]
  by_cases h : j < l.length
  · rw [List.getElem?_append_left h, if_pos h]
  · rw [if_neg h, List.getElem?_append_right (by omega)]
    by_cases h2 : j = l.length
    · subst h2; simp
    · rw [if_neg h2, List.getElem?_eq_none (by simp; omega)]; rfl
/-- a block of records is no block of pairs, nor of texts -/
theorem own_ne {α β : Type} {E : El α} {F : El β} (h : E.e ≠ F.e) {w : World} {o o' : Option Addr} {c c' : Nat} {xs : List α} {ys : List β} (h1 : Own E w o c xs) (h2 : Own F w o' c' ys) : ∀ k, inO o k → ¬ inO o' k := by
  rintro k ⟨x, rfl, rfl⟩ ⟨y, rfl, e⟩
  rcases h1.shape with ⟨e1, _⟩ | ⟨g, cur, e1, hg, _⟩
  · cases e1
  · rcases h2.shape with ⟨e2, _⟩ | ⟨g', cur', e2, hg', _⟩
    · cases e2
    · cases e1; cases e2
      simp only at e
      subst e
      rw [hg] at hg'
      simp only [Option.some.injEq, Obj.cells.injEq] at hg'
      exact h hg'.2.1
/-- one record more -/
theorem Scn.push {w w1 w2 w3 : World} {o o' : Option Addr} {c c' : Nat} {vs : List CV} {rs : List Rec} {v : CV} {r : Rec} (h : Scn w w1 o c vs rs) (hl : w.heap.size ≤ w1.heap.size) (hG : Got w1 w2 v r) (k2 : Keeps no w1 w2) (ho : Own CE w3 o' c' (vs ++ [v])) (hap : Ap w2 o o' w3) : Scn w w3 o' c' (vs ++ [v]) (rs ++ [r]) := by
  have hO2 := h.own.keepsN k2
  have kk : ∀ {α : Type} {E : El α} {oo : Option Addr} {cc : Nat} {l : List α}, CE.e ≠ E.e → Own E w2 oo cc l → Own E w3 oo cc l := by
    intro α E oo cc l hne hO
    rcases hap with ⟨rfl, hh⟩ | ⟨_, hh⟩
    · exact hO.keeps hh (fun j hj hi => own_ne hne hO2 hO j hi hj)
    · exact hO.keepsN hh
  have gg : ∀ {w0 : World} {v : CV} {r : Rec}, Got w0 w2 v r → Got w0 w3 v r := fun h =>
    ⟨h.k, h.i, h.np, h.nk, kk (by decide) h.ps, kk (by decide) h.ks, h.pn, h.kn, h.fit⟩
  have hlen := h.len
  refine ⟨ho, ?_, by simp [hlen], ?_, ?_⟩
  · rcases hap with ⟨rfl, hh⟩ | ⟨⟨g, rfl, hg⟩, hh⟩
    · exact h.new
    · exact new_fresh _ _ (Nat.le_trans hl (Nat.le_trans k2.size hg)) _
  · intro j hj
    rw [getD_snoc, getD_snoc, hlen]
    by_cases hj2 : j < rs.length
    · rw [if_pos hj2, if_pos hj2]
      exact gg ((h.each j hj2).keepsN k2)
    · have : j = rs.length := by simp at hj; omega
      rw [if_neg hj2, if_neg hj2, if_pos this, if_pos this]
      exact gg (hG.of_le hl)
  · intro i j hij hj x y hx hy
    rw [getD_snoc, hlen] at hx hy
    simp at hj
    rw [if_pos (by omega)] at hx
    by_cases hj2 : j < rs.length
    · rw [if_pos hj2] at hy
      exact h.sep i j hij hj2 x y hx hy
    · have : j = rs.length := by omega
      rw [if_neg hj2, if_pos this] at hy
      have h1 := (h.each i (by omega)).lt x hx
      have h2 := hG.ge y hy
      omega
/-- what Scan tells -/
def ScanTo (w : World) (b : List Nat) (e : Ending) (w' : World) : Prop :=
  ∃ (o : Option Addr) (n c t : Nat) (vs : List CV) (rs : List Rec), e = .returned (.tuple #[.slice o n c, .int .i64 (t : Nat)]) ∧ Hid (Scn w w' o c vs rs ∧ n = rs.length ∧ Run b rs t ∧ (parse (b.drop t)).2.2 ≠ 0) ∧ (n : Int) ≤ 137438953472 ∧ (t : Int) ≤ 1099511627776 ∧ Keeps no w w'
theorem own_oneC (w : World) (v : CV) : Sl CE (w.alloc (.cells #[.int .i64 v.k, .int .u64 (v.i : Nat), .slice v.op v.np v.cp, .slice v.ok v.nk v.ck] 41)) (some ⟨w.heap.size, 0, none⟩) 1 [v] := by
  refine ⟨.inr ⟨_, _, rfl, fun j u hj => ?_⟩, by simp, fun e => by cases e⟩
  rw [cell_of_blk (blk_new w _), Nat.zero_add]
  simpa [El.cells, CE] using hj

set_option maxRecDepth 10000 in
set_option maxHeartbeats 1000000 in
theorem Scan_any (w : World) (o : Option Addr) (n c : Nat) (b : List Nat) (hn : n = b.length) (hnb : (n : Int) ≤ 1099511627776) (hs : BSl w o c b) (ht : TabIn w) :
    Calls Tryz.prog 34 #[.slice o n c] w (ScanTo w b) := by
  have HN : Hid (n = b.length) := hn
  clear hn
  go_enter Tryz.func34, Tryz.ntmps34
  go_wp2_with fail
  go_loopw [4, 5] (fun s t wr => ∃ (q : Option Addr) (m d T : Nat) (vs : List CV) (rs : List Rec), s = .slice q m d ∧ t = .int .i64 (T : Nat) ∧ Hid (m = rs.length ∧ Scn w wr q d vs rs ∧ Run b rs T) ∧ T ≤ n ∧ (m : Int) * 8 ≤ T ∧ Hid (Keeps no w wr)) (fun _ t _ => n - (intOf t).toNat)
  case atStart => exact ⟨none, 0, 0, 0, [], [], rfl, rfl, ⟨rfl, scn_nil _ _, Run.nil⟩, by omega, by omega, Keeps.refl _ _⟩
  case round =>
    rename World => wq
    obtain ⟨q, m, d, T, vs, rs, rfl, rfl, HS, hT, hm8, HK⟩ := hrel
    obtain ⟨A, dA, hcut, hslA, _⟩ := cut_l w o c b n T T rfl HN.out hT hs
    have HSA : Hid (BSl wq A dA (b.drop T)) := hslA.keeps HK.out (fun _ _ h => h)
    have HTQ : Hid (TabIn wq) := ht.keepsN HK.out
    have HNT : Hid (n - T = (b.drop T).length) := by show _ = _; rw [List.length_drop, ← HN.out]
    obtain ⟨NT, hNT⟩ : ∃ N, N = n - T := ⟨_, rfl⟩
    rw [← hNT] at hcut HNT
    have hNTb : (NT : Int) ≤ 1099511627776 := by omega
    clear hslA hNT
    go_wp2_with fail
    refine (Parse_any wq A NT dA (b.drop T) HNT.out (by omega) HSA.out HTQ.out).mono ?_
    rintro e w2 ⟨k, i, op, np, cp, ok, nk, ck, M, E, rfl, HP, hM, hE, hk2⟩
    have HK2 : Hid (Keeps no wq w2) := hk2
    clear hk2
    have HG := HP.out.1
    by_cases hE0 : E = 0
    · subst hE0
      have HPE : Hid (parse (b.drop T) = ((parse (b.drop T)).1, M, 0)) := by
        show _ = _
        have h1 := HP.out.2.1; have h2 := HP.out.2.2
        rw [h1]
        conv => rhs; rw [h2]
      have hbk := parse_back (byt_drop hs.row.1 T) HPE.out
      have HBK : Hid (8 ≤ M ∧ M ≤ NT) := by
        have h1 := hbk.2.2.2.1; have h2 := hbk.2.2.2.2.1
        rw [enc_length] at h1
        have := HNT.out
        exact ⟨by omega, by omega⟩
      have hMN : M ≤ NT ∧ 8 ≤ M := ⟨HBK.out.2, HBK.out.1⟩
      clear hbk
      have hTM : T + M ≤ n := by have := HNT.out; rw [List.length_drop, ← HN.out] at this; omega
      have HSC : Hid (Scn w wq q d vs rs ∧ m = rs.length ∧ vs.length = rs.length) := ⟨HS.out.2.1, HS.out.1, HS.out.2.1.len⟩
      have hmb : (m : Int) ≤ 137438953472 := by omega
      have k3 : Keeps no w2 (w2.alloc (.cells #[.int .i64 k, .int .u64 (i : Nat), .slice op np cp, .slice ok nk ck] 41)) := (Keeps.refl _ _).alloc _
      have k4 := k3.alloc (.cells #[.int .i64 k, .int .u64 (i : Nat), .slice op np cp, .slice ok nk ck] 41)
      have HO4 : Hid (Own CE ((w2.alloc (.cells #[.int .i64 k, .int .u64 (i : Nat), .slice op np cp, .slice ok nk ck] 41)).alloc (.cells #[.int .i64 k, .int .u64 (i : Nat), .slice op np cp, .slice ok nk ck] 41)) q d vs) := HSC.out.1.own.keepsN (HK2.out.trans k4)
      have HN1 : Hid (Sl CE ((w2.alloc (.cells #[.int .i64 k, .int .u64 (i : Nat), .slice op np cp, .slice ok nk ck] 41)).alloc (.cells #[.int .i64 k, .int .u64 (i : Nat), .slice op np cp, .slice ok nk ck] 41)) (some ⟨w2.heap.size + 1, 0, none⟩) 1 [⟨k, i, op, np, cp, ok, nk, ck⟩]) := by
        have := own_oneC (w2.alloc (.cells #[.int .i64 k, .int .u64 (i : Nat), .slice op np cp, .slice ok nk ck] 41)) ⟨k, i, op, np, cp, ok, nk, ck⟩
        simp at this
        exact this
      have HK4 : Hid (Keeps no w2 ((w2.alloc (.cells #[.int .i64 k, .int .u64 (i : Nat), .slice op np cp, .slice ok nk ck] 41)).alloc (.cells #[.int .i64 k, .int .u64 (i : Nat), .slice op np cp, .slice ok nk ck] 41))) := k4
      clear k3 k4 HG
      go_wp2_with (at_builtin; go_must (refine wpList_app okC rfl _ _ rfl q m d vs rfl (by rw [HSC.out.2.1, HSC.out.2.2]) HO4.out _ _ _ [⟨k, i, op, np, cp, ok, nk, ck⟩] rfl rfl (fun h => by cases h) HN1.out.row (by have := HSC.out.2; simp [CE]; omega) (by have := HSC.out.2; simp; omega) ?_); intro o' c' w' ho hap)
      go_roundw
      case rel =>
        have hkk := HK2.out.trans HK4.out
        refine ⟨o', m + 1, c', T + M, vs ++ [⟨k, i, op, np, cp, ok, nk, ck⟩], rs ++ [(parse (b.drop T)).1], rfl, by go_num, ⟨by simp [HSC.out.2.1], ?_, Run.snoc HS.out.2.2 HPE.out⟩, hTM, by omega, ?_⟩
        · exact HSC.out.1.push HK.out.size (HP.out.1.keepsN HK4.out) hkk ho hap
        · rcases hap with ⟨_, hh⟩ | ⟨_, hh⟩
          · exact (HK.out.trans hkk).then hh (fun j hj => .inr (HSC.out.1.new j hj))
          · exact (HK.out.trans hkk).trans hh
      case measure => simp [intOf]; omega
    · have hE1 : ((E : Int) == 0) = false := by simp; omega
      have hE2 : ¬ (E : Int) = 0 := by omega
      have HPE : Hid ((parse (b.drop T)).2.2 ≠ 0) := by show _ ≠ _; rw [← HP.out.2.2]; exact hE0
      go_wp2_with fail
      go_ret2
      refine ⟨q, m, d, T, vs, rs, rfl, ⟨?_, HS.out.1, HS.out.2.2, HPE.out⟩, by omega, by omega, ?_⟩
      · exact HS.out.2.1.keepsN (HK2.out.alloc _)
      · exact HK.out.trans (HK2.out.alloc _)
end Go.Proofs.YtgamhblkgojapaaGreatDoor

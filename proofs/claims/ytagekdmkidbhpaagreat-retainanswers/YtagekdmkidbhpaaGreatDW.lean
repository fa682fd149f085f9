import Derived.Test.YtagekdmkidbhpaaGreatC2
import Derived.Test.YtagekdmkidbhpaaGreatQb
import Derived.Test.YtagekdmkidbhpaaGreatKD
import Derived.Deep.RegionHeldLaw
import Derived.Test.YtagekdmkidbhpaaGreatSK
/- The document's lists of keys. -/
namespace Go.Proofs.YtagekdmkidbhpaaGreat
open Go.RowKit Go.Sort Orl
set_option linter.unusedVariables false
set_option linter.unusedSimpArgs false

def KV.vr (x : KV) : Vr := ⟨x.val, x.keys, x.stamp⟩
def setLast (s : St) (l : Mk) : St := ⟨s.V, fun z => if z = l.1 then l.2 else s.last z⟩
def lastIn (ls : List Mk) (k : Tx) : Nat := (Go.Proofs.YtagekdmkidbhpaaGreat.fnd k ls).getD 0
theorem nk_inc {ls : List Mk} (h : Inc ltl ls) : Nk ls := List.Pairwise.imp (fun {a b} hab e => by
  unfold ltl at hab
  rw [e, swoT.irrefl] at hab; cases hab) h


set_option maxRecDepth 10000 in
theorem refRising_any (w : World) (a : Option Addr) (n c : Nat) (xs : List Tx) (hn : n = xs.length) (hl : xs.length ≤ 8796093022000) (hs : Sl TE w a c xs) :
    Calls Tryz.prog 101 #[.slice a n c] w fun e w' => e = .returned (.bool (rising lts xs)) ∧ Keeps no w w' := by
  have HA : Hid (n = xs.length) := hn
  have hA : (n : Int) ≤ 8796093022000 := by omega
  clear hn hl
  obtain ⟨R, hR⟩ : ∃ R, rising lts xs = R := ⟨_, rfl⟩
  have HR : Hid (rising lts xs = R) := hR
  rw [hR]
  clear hR
  go_enter Tryz.func101, Tryz.ntmps101
  go_wp2_with fail
  go_loopw [3] (fun i wr => ∃ k m : Nat, k ≤ n ∧ i = .int .i64 ((k : Int) + 1) ∧ wr = w.drewN m ∧ Hid (∀ j, j < k → j + 1 < xs.length → lts (xs.getD j e0) (xs.getD (j + 1) e0) = true)) (fun i _ => n + 1 - (intOf i).toNat)
  case atStart => exact ⟨0, 0, by omega, rfl, rfl, fun j hj => absurd hj (Nat.not_lt_zero _)⟩
  case round =>
    obtain ⟨k, m, hk, rfl, rfl, HT⟩ := hrel
    by_cases h2 : k + 1 < n
    · have hka : k + 1 < xs.length := by have := HA.out; omega
      obtain ⟨b1, off1, rfl, d1⟩ := hs.at (j := k) (by omega)
      obtain ⟨b2, off2, e2, d2⟩ := hs.at hka
      cases e2
      obtain ⟨x, hx⟩ : ∃ x, x = xs.getD k e0 := ⟨_, rfl⟩
      obtain ⟨y, hy⟩ : ∃ y, y = xs.getD (k + 1) e0 := ⟨_, rfl⟩
      rw [← hx] at d1
      rw [← hy] at d2
      have HX : Hid (x = xs.getD k e0) := hx
      have HY : Hid (y = xs.getD (k + 1) e0) := hy
      clear hx hy hka
      have h3 : (k : Int) + 1 < n := by omega
      cases hxy : Op.bytesLess x.toList y.toList
      · go_wp2
        go_quiet (fail)
        go_wp2
        go_ret
        refine ⟨?_, ((Keeps.refl _ _).drewN _).drewN _⟩
        have hf := rising_fail (lt := lts) e0 xs k (by have := HA.out; omega) (by rw [← HX.out, ← HY.out]; exact hxy)
        rw [← HR.out, hf]; rfl
      · go_wp2
        go_quiet (fail)
        go_wp2
        go_roundw
        case rel =>
          refine ⟨k + 1, _, by omega, by go_num, rfl, fun j hj hj2 => ?_⟩
          by_cases e : j = k
          · subst e; rw [← HX.out, ← HY.out]; exact hxy
          · exact HT.out j (by omega) hj2
        case measure => simp [intOf]; omega
    · have h3 : ¬ (k : Int) + 1 < n := by omega
      go_wp2
      go_ret
      refine ⟨?_, (Keeps.refl _ _).drewN _⟩
      have hf := rising_of_all (lt := lts) e0 xs (fun i hi => HT.out i (by have := HA.out; omega) hi)
      rw [← HR.out, hf]; rfl

theorem refHas_any (w : World) (a : Option Addr) (n c : Nat) (xs : List Tx) (s : Tx) (hn : n = xs.length) (hl : xs.length ≤ 8796093022000) (hs : Sl TE w a c xs) :
    Calls Tryz.prog 85 #[.slice a n c, .string s] w fun e w' => e = .returned (.bool (inn xs s)) ∧ w' = w := by
  have HA : Hid (n = xs.length) := hn
  have hA : (n : Int) ≤ 8796093022000 := by omega
  clear hn hl
  obtain ⟨R, hR⟩ : ∃ R, inn xs s = R := ⟨_, rfl⟩
  have HR : Hid (inn xs s = R) := hR
  rw [hR]
  clear hR
  go_enter Tryz.func85, Tryz.ntmps85
  go_wp2_with fail
  go_loop [5] (fun i => ∃ k : Nat, k ≤ n ∧ i = .int .i64 k ∧ Hid (s ∉ xs.take k)) (fun i => n - (intOf i).toNat)
  case atStart => exact ⟨0, by omega, rfl, show s ∉ xs.take 0 by simp⟩
  case round =>
    obtain ⟨k, hk, rfl, HT⟩ := hrel
    by_cases h2 : k < n
    · have hka : k < xs.length := by have := HA.out; omega
      obtain ⟨b1, off1, rfl, d1⟩ := hs.at hka
      obtain ⟨x, hx⟩ : ∃ x, x = xs.getD k e0 := ⟨_, rfl⟩
      rw [← hx] at d1
      have HX : Hid (x = xs.getD k e0) := hx
      clear hx hka
      by_cases hxy : x = s
      · have hxy' : (x.toList == s.toList) = true := by rw [tx_eq]; simpa using hxy
        go_wp2
        go_ret
        refine ⟨?_, rfl⟩
        have : s ∈ xs := by
          rw [← hxy, HX.out]; exact getD_mem_lt _ (by have := HA.out; omega)
        rw [← HR.out, (inn_iff xs s).2 this]; rfl
      · have hxy' : (x.toList == s.toList) = false := by rw [tx_eq]; simpa using hxy
        go_wp2
        go_round
        case rel =>
          refine ⟨k + 1, by omega, by go_num, ?_⟩
          show s ∉ xs.take (k + 1)
          rw [take_succ_getD xs k e0 (by have := HA.out; omega), ← HX.out]
          have := HT.out
          simp only [List.mem_append, List.mem_singleton, not_or]
          exact ⟨this, fun e => hxy e.symm⟩
        case measure => simp [intOf]; omega
    · go_wp2
      go_ret
      refine ⟨?_, rfl⟩
      have := HT.out
      rw [List.take_of_length_le (by have := HA.out; omega)] at this
      rw [← HR.out, inn_no this]; rfl

theorem refID_any (w : World) (i : Nat) : Calls Tryz.prog 59 #[.int .u64 (i : Nat)] w fun e w' => e = .returned (.bool (decide (65536 ≤ i))) ∧ w' = w := by
  by_cases h : 65536 ≤ i
  · have h' : (65536 : Int) ≤ (i : Int) := by omega
    have e : decide (65536 ≤ i) = true := decide_eq_true h
    rw [e]
    clear e h
    go_enter Tryz.func59, Tryz.ntmps59
    go_wp2
    go_ret
    exact ⟨by simp [h'], rfl⟩
  · have h' : ¬ (65536 : Int) ≤ (i : Int) := by omega
    have e : decide (65536 ≤ i) = false := decide_eq_false h
    rw [e]
    clear e h
    go_enter Tryz.func59, Tryz.ntmps59
    go_wp2
    go_ret
    exact ⟨by simp [h'], rfl⟩
def lenK (l : List Tx) : Bool := decide (1 ≤ l.length ∧ l.length ≤ 1024) && (l.all fun k => decide (k.size ≤ 65535))
theorem lenK_long {l : List Tx} {k : Nat} (hk : k < l.length) (h : 65535 < (l.getD k e0).size) : lenK l = false := by
  have : (l.all fun k => decide (k.size ≤ 65535)) = false := by
    rw [List.all_eq_false]
    exact ⟨_, getD_mem_lt e0 hk, by simp at h ⊢; exact h⟩
  unfold lenK; rw [this, Bool.and_false]
theorem lenK_of {l : List Tx} (h3 : ∀ j, j < l.length → (l.getD j e0).size ≤ 65535) : lenK l = decide (1 ≤ l.length ∧ l.length ≤ 1024) := by
  have : (l.all fun k => decide (k.size ≤ 65535)) = true := by
    rw [List.all_eq_true]
    intro x hx
    obtain ⟨j, hj, rfl⟩ := List.getElem_of_mem hx
    have := h3 j hj
    rw [List.getD_eq_getElem?_getD, List.getElem?_eq_getElem hj] at this
    exact decide_eq_true this
  unfold lenK; rw [this, Bool.and_true]
theorem lenK_size {l : List Tx} (h : lenK l = true) : 1 ≤ l.length ∧ l.length ≤ 1024 := by
  unfold lenK at h; simp at h; exact h.1
theorem lengths_any (w : World) (a : Option Addr) (n c : Nat) (xs : List Tx) (hn : n = xs.length) (hl : xs.length ≤ 8796093022000) (hsz : ∀ x ∈ xs, x.size ≤ 140737488351232) (hs : Sl TE w a c xs) :
    Calls Tryz.prog 100 #[.slice a n c] w fun e w' => e = .returned (.bool (lenK xs)) ∧ w' = w := by
  have HN : Hid (n = xs.length) := hn
  have hnl : n ≤ 8796093022000 := by omega
  clear hn
  obtain ⟨R, hR⟩ : ∃ R, lenK xs = R := ⟨_, rfl⟩
  have HR : Hid (lenK xs = R) := hR
  rw [hR]
  clear hR
  go_enter Tryz.func100, Tryz.ntmps100
  go_wp2_with fail
  go_loop [3] (fun i => ∃ k : Nat, k ≤ n ∧ i = .int .i64 k ∧ Hid (∀ j, j < k → (xs.getD j e0).size ≤ 65535)) (fun i => n - (intOf i).toNat)
  case atStart => exact ⟨0, by omega, rfl, fun j hj => absurd hj (Nat.not_lt_zero _)⟩
  case round =>
    obtain ⟨k, hk, rfl, HT⟩ := hrel
    by_cases h2 : k < n
    · have hka : k < xs.length := by have := HN.out; omega
      obtain ⟨b1, off1, rfl, d1⟩ := hs.at hka
      have hxs := hsz _ (getD_mem_lt e0 hka)
      obtain ⟨x, hx⟩ : ∃ x, x = xs.getD k e0 := ⟨_, rfl⟩
      rw [← hx] at d1 hxs
      have HX : Hid (x = xs.getD k e0) := hx
      clear hx hka
      by_cases hxy : 65535 < x.size
      · have hxy' : (65535 : Int) < (x.size : Int) := by omega
        go_wp2
        go_ret
        refine ⟨?_, rfl⟩
        rw [← HR.out, lenK_long (k := k) (by have := HN.out; omega) (by rw [← HX.out]; exact hxy)]; rfl
      · have hxy' : ¬ (65535 : Int) < (x.size : Int) := by omega
        go_wp2
        go_round
        case rel =>
          refine ⟨k + 1, by omega, by go_num, ?_⟩
          intro j hj
          by_cases e : j = k
          · subst e; rw [← HX.out]; omega
          · exact HT.out j (by omega)
        case measure => simp [intOf]; omega
    · have hkn : k = n := by omega
      have HRR : Hid (R = decide (1 ≤ n ∧ n ≤ 1024)) := by
        show _ = _
        rw [← HR.out, lenK_of (fun j hj => HT.out j (by have := HN.out; omega)), HN.out]
      by_cases g1 : 1 ≤ n
      · have g1' : (1 : Int) ≤ n := by omega
        by_cases g2 : n ≤ 1024
        · have g2' : (n : Int) ≤ 1024 := by omega
          go_wp2
          go_ret
          exact ⟨by rw [HRR.out, decide_eq_true ⟨g1, g2⟩]; simp [g2'], rfl⟩
        · have g2' : ¬ (n : Int) ≤ 1024 := by omega
          go_wp2
          go_ret
          exact ⟨by rw [HRR.out, decide_eq_false (fun h => g2 h.2)]; simp [g2'], rfl⟩
      · have g1' : ¬ (1 : Int) ≤ n := by omega
        go_wp2
        go_ret
        exact ⟨by rw [HRR.out, decide_eq_false (fun h => g1 h.1)]; simp, rfl⟩

theorem whole_lenK (l : List Tx) : okKeys l = (lenK l && rising lts l) := rfl
theorem refWhole_any (w : World) (a : Option Addr) (n c : Nat) (xs : List Tx) (hn : n = xs.length) (hl : xs.length ≤ 8796093022000) (hsz : ∀ x ∈ xs, x.size ≤ 140737488351232) (hs : Sl TE w a c xs) :
    Calls Tryz.prog 84 #[.slice a n c] w fun e w' => e = .returned (.bool (okKeys xs)) ∧ Keeps no w w' := by
  have HN : Hid (n = xs.length) := hn
  clear hn
  obtain ⟨R, hR⟩ : ∃ R, okKeys xs = R := ⟨_, rfl⟩
  have HR : Hid (okKeys xs = R) := hR
  rw [hR]
  clear hR
  go_enter Tryz.func84, Tryz.ntmps84
  go_wp2_with fail
  refine (lengths_any w a n c xs HN.out hl hsz hs).mono ?_
  rintro e wq ⟨rfl, hwq⟩
  subst wq
  by_cases h : lenK xs = true
  · rw [h]
    go_wp2_with fail
    refine (refRising_any w a n c xs HN.out hl hs).mono ?_
    rintro e w2 ⟨rfl, hk2⟩
    go_wp2
    go_ret
    exact ⟨by rw [← HR.out, whole_lenK, h, Bool.true_and]; rfl, hk2⟩
  · have h' : lenK xs = false := by simpa using h
    rw [h']
    go_wp2
    go_ret
    exact ⟨by rw [← HR.out, whole_lenK, h', Bool.false_and]; rfl, Keeps.refl _ _⟩
end Go.Proofs.YtagekdmkidbhpaaGreat
/- The document's store: its small functions. -/
namespace Go.Proofs.YtagekdmkidbhpaaGreat
open Go.RowKit Go.Maps Go.Sort Orl
set_option linter.unusedVariables false
set_option linter.unusedSimpArgs false

theorem rtick_any (w : World) (t : Int) : Calls Tryz.prog 55 #[.int .i64 t] w fun e w' => e = .returned (.bool (tickB t)) ∧ w' = w := by
  by_cases h : 0 ≤ t
  · by_cases h2 : t ≤ 1099511627776
    · have hd : tickB t = true := by simp [tickB, h, h2]
      rw [hd]
      go_enter Tryz.func55, Tryz.ntmps55
      go_wp2
      go_ret
      exact ⟨rfl, rfl⟩
    · have hd : tickB t = false := by simp [tickB]; intro; omega
      rw [hd]
      go_enter Tryz.func55, Tryz.ntmps55
      go_wp2
      go_ret
      exact ⟨rfl, rfl⟩
  · have hd : tickB t = false := by simp [tickB]; omega
    rw [hd]
    go_enter Tryz.func55, Tryz.ntmps55
    go_wp2
    go_ret
    exact ⟨rfl, rfl⟩


theorem rless_any (w : World) (k1 : Tx) (i1 : Nat) (v1 : Tx) (o1 : Option Addr) (n1 c1 : Nat) (k2 : Tx) (i2 : Nat) (v2 : Tx) (o2 : Option Addr) (n2 c2 : Nat) :
    Calls Tryz.prog 86 #[.agg #[.string k1, .int .u64 ((i1 : Nat) : Int), .string v1, .slice o1 n1 c1], .agg #[.string k2, .int .u64 ((i2 : Nat) : Int), .string v2, .slice o2 n2 c2]] w fun e w' => e = .returned (.bool (ltM (k1, i1) (k2, i2))) ∧ Keeps no w w' := by
  have HW : Hid (Keeps no w ((w.alloc (.cells #[.string k1, .int .u64 ((i1 : Nat) : Int), .string v1, .slice o1 n1 c1] 45)).alloc (.cells #[.string k2, .int .u64 ((i2 : Nat) : Int), .string v2, .slice o2 n2 c2] 45))) := ((Keeps.refl no w).alloc _).alloc _
  obtain ⟨R, hR⟩ : ∃ R, ltM (k1, i1) (k2, i2) = R := ⟨_, rfl⟩
  rw [hR]
  have HR : Hid (ltM (k1, i1) (k2, i2) = R) := hR
  clear hR
  cases h1 : Op.bytesLess k1.toList k2.toList
  · have g1 : Hid (lts k1 k2 = false) := h1
    by_cases h2 : k1 = k2
    · have e2 : (k1.toList == k2.toList) = true := by rw [tx_eq]; simpa using h2
      by_cases h3 : i1 < i2
      · have h3' : (i1 : Int) < i2 := by omega
        have HE : Hid (R = true) := by rw [← HR.out]; show _ = _; simp [ltM, h2, h3]
        clear h2 h3
        go_enter Tryz.func86, Tryz.ntmps86
        go_wp2_with fail
        go_ret
        exact ⟨by rw [HE.out]; simp [h3'], HW.out⟩
      · have h3' : ¬ (i1 : Int) < i2 := by omega
        have HE : Hid (R = false) := by rw [← HR.out]; show _ = _; simp [ltM, h2, h3, g1.out, swoT.irrefl]
        clear h2 h3
        go_enter Tryz.func86, Tryz.ntmps86
        go_wp2_with fail
        go_ret
        exact ⟨by rw [HE.out]; simp [h3'], HW.out⟩
    · have e2 : (k1.toList == k2.toList) = false := by rw [tx_eq]; simpa using h2
      have HE : Hid (R = false) := by rw [← HR.out]; show _ = _; simp [ltM, h2, g1.out]
      clear h2
      go_enter Tryz.func86, Tryz.ntmps86
      go_wp2_with fail
      go_ret
      exact ⟨by rw [HE.out]; rfl, HW.out⟩
  · have g1 : Hid (lts k1 k2 = true) := h1
    have HE : Hid (R = true) := by rw [← HR.out]; show _ = _; simp [ltM, g1.out]
    go_enter Tryz.func86, Tryz.ntmps86
    go_wp2_with fail
    go_ret
    exact ⟨by rw [HE.out]; rfl, HW.out⟩
/-- the document's store, as it is read -/
structure RD (w : World) (p : Nat) (oK : Option Addr) (nK cK : Nat) (oL : Option Addr) (nL cL : Nat) (ks : List KV) (ls : List Mk) : Prop where
  b : w.heap[p]? = some (.cells #[.slice oK nK cK, .slice oL nL cL] 107 (0, 0))
  k : Sl KE w oK cK ks
  l : Sl LE w oL cL ls
  nk : nK = ks.length
  nl : nL = ls.length
  lk : ks.length ≤ 1954687338211
  ll : ls.length ≤ 5864062014634
theorem RD.keepsN {w w' : World} {p : Nat} {oK : Option Addr} {nK cK : Nat} {oL : Option Addr} {nL cL : Nat} {ks : List KV} {ls : List Mk} (h : RD w p oK nK cK oL nL cL ks ls) (hk : Keeps no w w') : RD w' p oK nK cK oL nL cL ks ls := ⟨hk.at h.b id, h.k.keepsN hk, h.l.keepsN hk, h.nk, h.nl, h.lk, h.ll⟩
theorem fnd_first {k : Tx} : ∀ (ls : List Mk) (t : Nat), t < ls.length → (∀ q ∈ ls.take t, q.1 ≠ k) → (ls.getD t (e0, 0)).1 = k → fnd k ls = some (ls.getD t (e0, 0)).2
  | [], t, h, _, _ => absurd h (by simp)
  | p :: r, 0, _, _, e => by
    have e' : p.1 = k := e
    simp only [fnd, if_pos e']
    rfl
  | p :: r, t + 1, h, hq, e => by
    have h1 : p.1 ≠ k := hq p (by simp)
    have h2 := fnd_first r t (by simpa using h) (fun q hq' => hq q (by simp [hq'])) e
    simp only [fnd, if_neg h1]
    exact h2
set_option maxRecDepth 10000 in
theorem rLast_any (w : World) (p : Nat) (oK : Option Addr) (nK cK : Nat) (oL : Option Addr) (nL cL : Nat) (ks : List KV) (ls : List Mk) (h : RD w p oK nK cK oL nL cL ks ls) (k : Tx) :
    Calls Tryz.prog 57 #[.pointer (some ⟨p, 0, none⟩), .string k] w fun e w' => e = .returned (.int .u64 ((lastIn ls k : Nat) : Int)) ∧ Keeps no w w' := by
  have HA : Hid (RD w p oK nK cK oL nL cL ks ls) := h
  have hA : (nL : Int) ≤ 5864062014634 := by have := h.nl; have := h.ll; omega
  obtain ⟨R, hR⟩ : ∃ R : Nat, lastIn ls k = R := ⟨_, rfl⟩
  have HR : Hid (lastIn ls k = R) := hR
  rw [hR]
  clear hR h
  go_enter Tryz.func57, Tryz.ntmps57
  go_wp2_with fail
  go_loopw [5] (fun i wr => ∃ t : Nat, t ≤ nL ∧ i = .int .i64 t ∧ Hid (Keeps no w wr) ∧ Hid (∀ q ∈ ls.take t, q.1 ≠ k)) (fun i _ => nL - (intOf i).toNat)
  case atStart => exact ⟨0, by omega, rfl, Keeps.refl _ _, fun q hq => absurd hq (by simp)⟩
  case round =>
    obtain ⟨t, ht, rfl, HK, HT⟩ := hrel
    have b1 := cell_of_blk (HA.out.keepsN HK.out).b 1
    by_cases htl : t < nL
    · have htl' : (t : Int) < nL := by omega
      have hta : t < ls.length := by have := HA.out.nl; omega
      obtain ⟨g, off, e1, d0, d1⟩ := (HA.out.keepsN HK.out).l.atL hta
      subst e1
      obtain ⟨x, hx⟩ : ∃ x, x = ls.getD t (e0, 0) := ⟨_, rfl⟩
      rw [← hx] at d0 d1
      have HX : Hid (x = ls.getD t (e0, 0) ∧ t < ls.length) := ⟨hx, hta⟩
      clear hx hta
      by_cases hxk : x.1 = k
      · have hxe : (x.1.toList == k.toList) = true := by rw [tx_eq]; simpa using hxk
        have HE : Hid (x.2 = R) := by
          rw [← HR.out]
          unfold lastIn
          show _ = _
          rw [fnd_first ls t HX.out.2 HT.out (by rw [← HX.out.1]; exact hxk), ← HX.out.1]
          rfl
        clear hxk
        go_wp2_with fail
        go_ret
        exact ⟨by rw [HE.out]; rfl, HK.out⟩
      · have hxe : (x.1.toList == k.toList) = false := by rw [tx_eq]; simpa using hxk
        have HE : Hid (x.1 ≠ k) := hxk
        clear hxk
        go_wp2_with fail
        go_roundw
        case rel =>
          refine ⟨t + 1, by omega, by go_num, HK.out, ?_⟩
          show ∀ q ∈ ls.take (t + 1), q.1 ≠ k
          rw [take_succ_getD ls t (e0, 0) HX.out.2]
          intro q hq
          rcases List.mem_append.1 hq with hq | hq
          · exact HT.out q hq
          · rw [List.mem_singleton.1 hq, ← HX.out.1]; exact HE.out
        case measure => simp [intOf]; omega
    · have htl' : ¬ (t : Int) < nL := by omega
      have HE : Hid (R = 0) := by
        rw [← HR.out]
        have h1 := HT.out
        rw [List.take_of_length_le (by have := HA.out.nl; omega)] at h1
        unfold lastIn
        show _ = _
        rw [fnd_none.2 h1]; rfl
      go_wp2_with fail
      go_ret
      exact ⟨by rw [HE.out]; rfl, HK.out⟩
/-! ### find -/
def fpos (ks : List KV) (m : Mk) : Nat := (ks.takeWhile fun x => ltM x.m m).length
def there (ks : List KV) (m : Mk) : Bool := decide (fpos ks m < ks.length) && decide ((ks.getD (fpos ks m) kv0).m = m)
theorem fpos_le (ks : List KV) (m : Mk) : fpos ks m ≤ ks.length := (List.takeWhile_sublist _).length_le
theorem fpos_of {m : Mk} : ∀ (ks : List KV) (t : Nat), t ≤ ks.length → (∀ j, j < t → ltM (ks.getD j kv0).m m = true) → (t < ks.length → ltM (ks.getD t kv0).m m = false) → fpos ks m = t
  | [], t, h, _, _ => by simp at h; subst h; rfl
  | x :: r, 0, _, _, h => by
    have h1 : ltM x.m m = false := h (by simp)
    simp [fpos, List.takeWhile_cons, h1]
  | x :: r, t + 1, h, h1, h2 => by
    have h3 : ltM x.m m = true := h1 0 (by omega)
    have := fpos_of r t (by simpa using h) (fun j hj => h1 (j + 1) (by omega)) (fun hl => h2 (by simpa using hl))
    unfold fpos at this ⊢
    rw [List.takeWhile_cons, if_pos h3, List.length_cons, this]
set_option maxRecDepth 10000 in
set_option maxHeartbeats 1000000 in
theorem rfind_any (w : World) (p : Nat) (oK : Option Addr) (nK cK : Nat) (oL : Option Addr) (nL cL : Nat) (ks : List KV) (ls : List Mk) (h : RD w p oK nK cK oL nL cL ks ls) (k : Tx) (i : Nat) :
    Calls Tryz.prog 56 #[.pointer (some ⟨p, 0, none⟩), .string k, .int .u64 ((i : Nat) : Int)] w fun e w' => e = .returned (.tuple #[.int .i64 ((fpos ks (k, i) : Nat) : Int), .bool (there ks (k, i))]) ∧ Keeps no w w' := by
  have HA : Hid (RD w p oK nK cK oL nL cL ks ls) := h
  have hA : (nK : Int) ≤ 1954687338211 := by have := h.nk; have := h.lk; omega
  obtain ⟨R, hR⟩ : ∃ R : Nat, fpos ks (k, i) = R := ⟨_, rfl⟩
  obtain ⟨B, hB⟩ : ∃ B : Bool, there ks (k, i) = B := ⟨_, rfl⟩
  have HR : Hid (fpos ks (k, i) = R ∧ there ks (k, i) = B) := ⟨hR, hB⟩
  rw [hR, hB]
  clear hR hB h
  go_enter Tryz.func56, Tryz.ntmps56
  go_wp2_with fail
  go_loopw [8] (fun z wr => ∃ t : Nat, t ≤ nK ∧ z = .int .i64 t ∧ Hid (Keeps no w wr) ∧ Hid (∀ j, j < t → ltM (ks.getD j kv0).m (k, i) = true)) (fun z _ => nK - (intOf z).toNat)
  case atStart => exact ⟨0, by omega, rfl, Keeps.refl _ _, fun j hj => absurd hj (Nat.not_lt_zero _)⟩
  case round =>
    obtain ⟨t, ht, rfl, HK, HT⟩ := hrel
    have b0 := cell_of_blk (HA.out.keepsN HK.out).b 0
    by_cases htl : t < nK
    · have htl' : (t : Int) < nK := by omega
      have hta : t < ks.length := by have := HA.out.nk; omega
      obtain ⟨g, off, e1, d0, d1, d2, d3, d4⟩ := (HA.out.keepsN HK.out).k.atK hta
      subst e1
      obtain ⟨x, hx⟩ : ∃ x, x = ks.getD t kv0 := ⟨_, rfl⟩
      rw [← hx] at d0 d1 d2 d3 d4
      have HX : Hid (x = ks.getD t kv0 ∧ t < ks.length) := ⟨hx, hta⟩
      obtain ⟨⟨xk, xi⟩, xv, xo, xc, xks, xst⟩ := x
      simp only at d0 d1 d2 d3 d4
      obtain ⟨xn, hxn⟩ : ∃ xn, xn = xks.length := ⟨_, rfl⟩
      rw [← hxn] at d3
      obtain ⟨B1, hB1⟩ : ∃ B1, ltM (xk, xi) (k, i) = B1 := ⟨_, rfl⟩
      have HB1 : Hid (ltM (xk, xi) (k, i) = B1) := hB1
      have HC : Hid (∀ X, Keeps no wr X → X.cell? ⟨p, 0, none⟩ = some (.slice (some ⟨g, off, none⟩) nK cK) ∧ X.cell? ⟨g, off + t * 5, none⟩ = some (.string xk) ∧ X.cell? ⟨g, off + t * 5 + 1, none⟩ = some (.int .u64 ((xi : Nat) : Int))) := fun X hX => ⟨hX.cellN b0, hX.cellN d0, hX.cellN d1⟩
      clear hx hta hxn hB1
      go_wp2_with fail
      refine (rless_any wr xk xi xv xo xn xc k i ⟨#[]⟩ none 0 0).mono ?_
      rintro e w1 ⟨rfl, hk1⟩
      have HK1 : Hid (Keeps no w w1) := HK.out.trans hk1
      rw [HB1.out]
      cases B1
      · clear b0 d0 d1 d2 d3 d4
        obtain ⟨b0, d0, d1⟩ := HC.out _ hk1
        clear HC hk1
        have hpos : fpos ks (k, i) = t := fpos_of ks t (Nat.le_of_lt HX.out.2) HT.out (fun _ => by rw [← HX.out.1]; exact HB1.out)
        have HE : Hid (R = t ∧ B = (decide (xk = k) && decide (xi = i))) := by
          refine ⟨by rw [← HR.out.1, hpos], ?_⟩
          rw [← HR.out.2]
          unfold there
          rw [hpos, decide_eq_true HX.out.2, ← HX.out.1, Bool.true_and]
          show decide ((xk, xi) = (k, i)) = _
          by_cases q1 : xk = k <;> by_cases q2 : xi = i <;> simp [q1, q2]
        clear hpos
        by_cases q1 : xk = k
        · have e1 : (xk.toList == k.toList) = true := by rw [tx_eq]; simpa using q1
          have Q1 : Hid (xk = k) := q1
          clear q1
          by_cases q2 : xi = i
          · have e2 : (((xi : Nat) : Int) == ((i : Nat) : Int)) = true := by simp; omega
            have Q2 : Hid (xi = i) := q2
            clear q2
            go_wp2_with fail
            go_quiet (fail)
            go_wp2_with fail
            go_ret2
            exact ⟨by rw [HE.out.1, HE.out.2, decide_eq_true Q1.out, decide_eq_true Q2.out]; rfl, HK1.out.trans (kq_of rfl rfl rfl rfl)⟩
          · have e2 : (((xi : Nat) : Int) == ((i : Nat) : Int)) = false := by simp; omega
            have Q2 : Hid (¬ xi = i) := q2
            clear q2
            go_wp2_with fail
            go_quiet (fail)
            go_wp2_with fail
            go_ret2
            exact ⟨by rw [HE.out.1, HE.out.2, decide_eq_true Q1.out, decide_eq_false Q2.out]; rfl, HK1.out.trans (kq_of rfl rfl rfl rfl)⟩
        · have e1 : (xk.toList == k.toList) = false := by rw [tx_eq]; simpa using q1
          have Q1 : Hid (¬ xk = k) := q1
          clear q1
          go_wp2_with fail
          go_quiet (fail)
          go_wp2_with fail
          go_ret2
          exact ⟨by rw [HE.out.1, HE.out.2, decide_eq_false Q1.out]; rfl, HK1.out.trans (kq_of rfl rfl rfl rfl)⟩
      · clear HC
        go_wp2_with fail
        go_roundw
        case rel =>
          refine ⟨t + 1, by omega, by go_num, HK1, fun j hj => ?_⟩
          by_cases e : j = t
          · subst e; rw [← HX.out.1]; exact HB1.out
          · exact HT.out j (by omega)
        case measure => simp [intOf]; omega
    · have htl' : ¬ (t : Int) < nK := by omega
      have hte : t = nK := by omega
      have hpos : fpos ks (k, i) = t := fpos_of ks t (by have := HA.out.nk; omega) HT.out (fun hc => absurd hc (by have := HA.out.nk; omega))
      have HE : Hid (R = t ∧ B = false) := by
        refine ⟨by rw [← HR.out.1, hpos], ?_⟩
        rw [← HR.out.2]
        unfold there
        rw [hpos, decide_eq_false (by have := HA.out.nk; omega)]
        rfl
      clear hpos hte
      go_wp2_with fail
      go_quiet (fail)
      go_wp2_with fail
      go_ret2
      exact ⟨by rw [HE.out.1, HE.out.2]; rfl, HK.out.trans (kq_of rfl rfl rfl rfl)⟩
end Go.Proofs.YtagekdmkidbhpaaGreat
/- The document's store: own. -/
namespace Go.Proofs.YtagekdmkidbhpaaGreat
open Go.RowKit Go.Maps Go.Sort Orl
set_option linter.unusedVariables false
set_option linter.unusedSimpArgs false

theorem cells4 {w : World} {g : Nat} {a b c d : Value} {t : TypeId} (h : w.heap[g]? = some (.cells #[a, b, c, d] t (0, 0))) : w.cell? ⟨g, 0, none⟩ = some a ∧ w.cell? ⟨g, 1, none⟩ = some b ∧ w.cell? ⟨g, 2, none⟩ = some c ∧ w.cell? ⟨g, 3, none⟩ = some d := ⟨cell_of_blk h 0, cell_of_blk h 1, cell_of_blk h 2, cell_of_blk h 3⟩
theorem own_ne {α : Type} {E : El α} {w : World} {o : Option Addr} {c : Nat} {xs : List α} (h : Own E w o c xs) {g : Nat} {cur : Array Value} {t : TypeId} {fz : Nat × Nat} (hg : w.heap[g]? = some (.cells cur t fz)) (hne : E.e ≠ t) : ∀ b, inO o b → b ≠ g := by
  rintro b hb rfl
  obtain ⟨cu, hc⟩ := h.tag b hb
  rw [hg] at hc
  injection hc with hc
  injection hc with _ hc _
  exact hne hc.symm
theorem own_six {w w0 w6 : World} {o' : Option Addr} {c' : Nat} {keys : List Tx} {a b : Nat} {oa ob : Obj} (ho : Own TE w6 o' c' ([] ++ keys)) (ha : Ap w0 none o' w6) (hk : Keeps no w w0) (h1 : w0.heap[a]? = some oa) (h2 : w0.heap[b]? = some ob) : Own TE w6 o' c' keys ∧ New w o' ∧ Keeps no w w6 ∧ w6.heap[a]? = some oa ∧ w6.heap[b]? = some ob := by
  have hk6 : Keeps no w0 w6 := by
    rcases ha with ⟨_, hh⟩ | ⟨_, hh⟩
    · exact hh.mono (fun i ⟨x, h, _⟩ => by cases h)
    · exact hh
  refine ⟨ho, (ha.new (new_none w) hk).1, hk.trans hk6, hk6.at h1 id, hk6.at h2 id⟩
theorem own_any (w : World) (k : Tx) (i : Int) (v : Tx) (o : Option Addr) (n c : Nat) (keys : List Tx) (hn : n = keys.length) (hl : keys.length ≤ 8796093021952) (hs : Sl TE w o c keys) :
    Calls Tryz.prog 61 #[.agg #[.string k, .int .u64 i, .string v, .slice o n c]] w fun e w' => ∃ o' c', e = .returned (.agg #[.string k, .int .u64 i, .string v, .slice o' n c']) ∧ Hid (Own TE w' o' c' keys ∧ New w o' ∧ Keeps no w w') := by
  have HA : Hid (n = keys.length ∧ keys.length ≤ 8796093021952 ∧ Sl TE w o c keys) := ⟨hn, hl, hs⟩
  clear hn hl hs
  have HK0 : Hid (Keeps no w ((w.alloc (.cells #[.string k, .int .u64 i, .string v, .slice o n c] 45)).alloc (.cells #[.string ⟨#[]⟩, .int .u64 0, .string ⟨#[]⟩, .slice none 0 0] 45))) := ((Keeps.refl no w).alloc _).alloc _
  have HB0 : Hid (((w.alloc (.cells #[.string k, .int .u64 i, .string v, .slice o n c] 45)).alloc (.cells #[.string ⟨#[]⟩, .int .u64 0, .string ⟨#[]⟩, .slice none 0 0] 45)).heap[w.heap.size]? = some (.cells #[.string k, .int .u64 i, .string v, .slice o n c] 45 (0, 0)) ∧ ((w.alloc (.cells #[.string k, .int .u64 i, .string v, .slice o n c] 45)).alloc (.cells #[.string ⟨#[]⟩, .int .u64 0, .string ⟨#[]⟩, .slice none 0 0] 45)).heap[w.heap.size + 1]? = some (.cells #[.string ⟨#[]⟩, .int .u64 0, .string ⟨#[]⟩, .slice none 0 0] 45 (0, 0))) := by
    refine ⟨blk_alloc (blk_new w _) _, ?_⟩
    have := blk_new (w.alloc (.cells #[.string k, .int .u64 i, .string v, .slice o n c] 45)) (.cells #[.string ⟨#[]⟩, .int .u64 0, .string ⟨#[]⟩, .slice none 0 0] 45)
    rwa [show (w.alloc (.cells #[.string k, .int .u64 i, .string v, .slice o n c] 45)).heap.size = w.heap.size + 1 by simp] at this
  go_enter Tryz.func61, Tryz.ntmps61
  go_wp2_with (at_builtin; refine wpList_app okT rfl _ _ rfl _ _ _ ([] : List Tx) rfl rfl (own_nil _) _ _ _ keys rfl HA.out.1 HA.out.2.2.nil (HA.out.2.2.keepsN HK0.out).row (by have := HA.out.2.1; simp [TE]; omega) (by have := HA.out.2.1; simp; omega) ?_; intro o6 c6 w6 ho6 hap6; have H6 : Hid (Own TE w6 o6 c6 keys ∧ New w o6 ∧ Keeps no w w6 ∧ w6.heap[w.heap.size]? = some (.cells #[.string k, .int .u64 i, .string v, .slice o n c] 45 (0, 0)) ∧ w6.heap[w.heap.size + 1]? = some (.cells #[.string ⟨#[]⟩, .int .u64 0, .string ⟨#[]⟩, .slice none 0 0] 45 (0, 0))) := own_six ho6 hap6 HK0.out HB0.out.1 HB0.out.2; clear ho6 hap6; have q0 := cell_of_blk H6.out.2.2.2.1 0; have q1 := cell_of_blk H6.out.2.2.2.1 1; have q2 := cell_of_blk H6.out.2.2.2.1 2; have q3 := cell_of_blk H6.out.2.2.2.1 3; have r3 := frozen_of_blk H6.out.2.2.2.1 3; have s0 := cell_of_blk H6.out.2.2.2.2 0; have s1 := cell_of_blk H6.out.2.2.2.2 1; have s2 := cell_of_blk H6.out.2.2.2.2 2; have s3 := cell_of_blk H6.out.2.2.2.2 3; have f0 := frozen_of_blk H6.out.2.2.2.2 0; have f1 := frozen_of_blk H6.out.2.2.2.2 1; have f2 := frozen_of_blk H6.out.2.2.2.2 2; have f3 := frozen_of_blk H6.out.2.2.2.2 3)
  obtain ⟨g1, g2, g3, g4, g5⟩ := H6.out
  have n1 : ∀ b, inO o6 b → b ≠ w.heap.size := own_ne g1 g4 (by decide)
  have n2 : ∀ b, inO o6 b → b ≠ w.heap.size + 1 := own_ne g1 g5 (by decide)
  have hb2 : (w6.setCell ⟨w.heap.size, 3, none⟩ (.slice o6 n c6)).heap[w.heap.size + 1]? = some (.cells #[.string ⟨#[]⟩, .int .u64 0, .string ⟨#[]⟩, .slice none 0 0] 45 (0, 0)) := blk_set_ne g5 (by simp) _
  have hs4 := set4 hb2 (.string k) (.int .u64 i) (.string v) (.slice o6 n c6)
  have k1 : Keeps (eqA w.heap.size) w6 (w6.setCell ⟨w.heap.size, 3, none⟩ (.slice o6 n c6)) := (Keeps.refl _ _).setA 3 _
  unfold set4w at hs4
  refine bodyPost_ret (results_row1 rfl _ _ (w.heap.size + 1) _ rfl (loadV hs4.1)) rfl ?_
  refine ⟨o6, c6, rfl, ?_, g2, ?_⟩
  · exact (g1.keeps k1 (fun b hb e => n1 b hb e)).keeps hs4.2 (fun b hb e => n2 b hb e)
  · exact (g3.then k1 (fun b hb => .inr (by have : b = w.heap.size := hb; omega))).then hs4.2 (fun b hb => .inr (by have : b = w.heap.size + 1 := hb; omega))
end Go.Proofs.YtagekdmkidbhpaaGreat
/- The document's store, of the call's own. -/
namespace Go.Proofs.YtagekdmkidbhpaaGreat
open Go.RowKit Go.Maps Go.Sort Orl
set_option linter.unusedVariables false
set_option linter.unusedSimpArgs false

theorem step_appW {α : Type} {E : El α} (hE : E.Ok) {w : World} {ops : Array Oper} {o : Oper} {a : Act} {K : Act → World → Prop} {Q : Exit → Act → World → Prop} {Ep : Prop} (hgd : Region.wanted o (yielded ops a.tmps) = true) (s x : Operand)
    (ho : o.op = .call { callee := .builtin .append, args := #[s, x], argTypes := #[E.t, E.t] })
    (oa : Option Addr) (n c : Nat) (xs : List α) (hs : a.eval s = .slice oa n c) (hn : n = xs.length) (hown : Own E w oa c xs)
    (ox : Option Addr) (m d : Nat) (news : List α) (hx : a.eval x = .slice ox m d) (hm : m = news.length) (hd : ox = none → d = 0) (hrow : Row E w ox news)
    (hb : (xs.length + news.length) * E.nb ≤ 140737488355328) (hb2 : xs.length + news.length ≤ 140737488355328)
    (h : ∀ o' c' w', Own E w' o' c' (xs ++ news) → Ap w oa o' w' → K (a.put o.dst (.slice o' (n + m) c')) w') :
    if Region.wanted o (yielded ops a.tmps) = true then Oper.wp Tryz.prog o a w K Q else Ep := by
  rw [if_pos hgd]
  subst hn hm
  obtain ⟨o', c', w', hr, h1, h2⟩ := run_app hE w o.type oa c xs hown ox d news hd hrow hb hb2
  unfold Oper.wp execOp
  simp only [ho, resolve, invoke, builtin, Sem.run_bind, Sem.run_pure, Result.andThen_ok, List.map_toArray, List.map_cons, List.map_nil, hs, hx, hr]
  exact h o' c' w' h1 h2
/-- the document's store, of the call's own: B its blocks -/
structure RO (B : Nat → Prop) (w : World) (p : Nat) (oK : Option Addr) (nK cK : Nat) (oL : Option Addr) (nL cL : Nat) (ks : List KV) (ls : List Mk) : Prop where
  b : w.heap[p]? = some (.cells #[.slice oK nK cK, .slice oL nL cL] 107 (0, 0))
  k : Own KE w oK cK ks
  key : ∀ x ∈ ks, Own TE w x.o x.c x.keys
  l : Own LE w oL cL ls
  nk : nK = ks.length
  nl : nL = ls.length
  lk : ks.length ≤ 1954687338211
  ll : ls.length ≤ 5864062014634
  bp : B p
  bk : ∀ b, inO oK b → B b
  bt : ∀ x ∈ ks, ∀ b, inO x.o b → B b
  bl : ∀ b, inO oL b → B b
section
variable {B : Nat → Prop} {w w' : World} {p : Nat} {oK : Option Addr} {nK cK : Nat} {oL : Option Addr} {nL cL : Nat} {ks : List KV} {ls : List Mk}
theorem RO.rd (h : RO B w p oK nK cK oL nL cL ks ls) : RD w p oK nK cK oL nL cL ks ls := ⟨h.b, h.k.sl, h.l.sl, h.nk, h.nl, h.lk, h.ll⟩
theorem RO.keeps {S : Nat → Prop} (h : RO B w p oK nK cK oL nL cL ks ls) (hk : Keeps S w w') (hS : ∀ b, B b → ¬ S b) : RO B w' p oK nK cK oL nL cL ks ls :=
  ⟨hk.at h.b (hS _ h.bp), h.k.keeps hk (fun b hb => hS b (h.bk b hb)), fun x hx => (h.key x hx).keeps hk (fun b hb => hS b (h.bt x hx b hb)), h.l.keeps hk (fun b hb => hS b (h.bl b hb)), h.nk, h.nl, h.lk, h.ll, h.bp, h.bk, h.bt, h.bl⟩
theorem RO.keepsN (h : RO B w p oK nK cK oL nL cL ks ls) (hk : Keeps no w w') : RO B w' p oK nK cK oL nL cL ks ls := h.keeps hk (fun _ _ => id)
theorem RO.mono (h : RO B w p oK nK cK oL nL cL ks ls) {B' : Nat → Prop} (hB : ∀ b, B b → B' b) : RO B' w p oK nK cK oL nL cL ks ls :=
  ⟨h.b, h.k, h.key, h.l, h.nk, h.nl, h.lk, h.ll, hB _ h.bp, fun b hb => hB b (h.bk b hb), fun x hx b hb => hB b (h.bt x hx b hb), fun b hb => hB b (h.bl b hb)⟩
end
theorem getD_app2 {α : Type} (l m : List α) (j : Nat) (d : α) : (l ++ m).getD j d = if j < l.length then l.getD j d else m.getD (j - l.length) d := by
  simp only [List.getD_eq_getElem?_getD]
  split
  · rw [List.getElem?_append_left (by assumption)]
  · rw [List.getElem?_append_right (by omega)]
theorem tw_congr (f : Mk → Bool) : ∀ (a b : List KV), a.map (·.m) = b.map (·.m) → (a.takeWhile fun x => f x.m).length = (b.takeWhile fun x => f x.m).length
  | [], [], _ => rfl
  | [], y :: b, h => by simp at h
  | x :: a, [], h => by simp at h
  | x :: a, y :: b, h => by
    simp only [List.map_cons, List.cons.injEq] at h
    rw [List.takeWhile_cons, List.takeWhile_cons, h.1]
    cases f y.m
    · rfl
    · simp [tw_congr f a b h.2]
theorem ksEq_m {a b : List KV} (h : KsEq a b) : a.map (·.m) = b.map (·.m) := by
  refine List.ext_getElem (by simp [h.1]) (fun j h1 h2 => ?_)
  have hj : j < a.length := by simpa using h1
  have hj2 : j < b.length := by simpa using h2
  have := (h.2 j hj).1
  simp only [List.getElem_map]
  simpa [List.getD_eq_getElem?_getD, hj, hj2] using this
theorem there_congr {a b : List KV} (h : KsEq a b) (m : Mk) : there a m = there b m := by
  have h1 : fpos a m = fpos b m := tw_congr (fun z => ltM z m) a b (ksEq_m h)
  unfold there
  rw [h1, h.1]
  by_cases hj : fpos b m < b.length
  · rw [(h.2 _ (by rw [h.1]; exact hj)).1]
  · rw [decide_eq_false hj]; rfl
theorem lt_all {α : Type} {f : α → Bool} {d : α} {ls : List α} {t : Nat} (h : ∀ j, j < t → f (ls.getD j d) = true) (h1 : f (ls.getD t d) = true) : ∀ j, j < t + 1 → f (ls.getD j d) = true := fun j hj => by
  by_cases e : j = t
  · rw [e]; exact h1
  · exact h j (by omega)
theorem lt_lt {α : Type} {f : α → α → Bool} {d : α} {ls : List α} {t : Nat} (h : ∀ j, j + 1 < t → f (ls.getD j d) (ls.getD (j + 1) d) = true) (h1 : t = 0 ∨ f (ls.getD (t - 1) d) (ls.getD t d) = true) : ∀ j, j + 1 < t + 1 → f (ls.getD j d) (ls.getD (j + 1) d) = true := fun j hj => by
  by_cases e : j + 1 = t
  · rcases h1 with h1 | h1
    · omega
    · rw [← e, Nat.add_sub_cancel] at h1; exact h1
  · exact h j (by omega)
end Go.Proofs.YtagekdmkidbhpaaGreat
/- The document's Kept, Lasts. -/
namespace Go.Proofs.YtagekdmkidbhpaaGreat
open Go.RowKit Go.Maps Go.Sort Orl
set_option linter.unusedVariables false
set_option linter.unusedSimpArgs false

theorem rLasts_any (w : World) (p : Nat) (oK : Option Addr) (nK cK : Nat) (oL : Option Addr) (nL cL : Nat) (ks : List KV) (ls : List Mk) (h : RD w p oK nK cK oL nL cL ks ls) :
    Calls Tryz.prog 31 #[.pointer (some ⟨p, 0, none⟩)] w fun e w' => ∃ o n c, e = .returned (.slice o n c) ∧ Hid (n = ls.length ∧ Own LE w' o c ls ∧ New w o ∧ Keeps no w w') := by
  have HA : Hid (RD w p oK nK cK oL nL cL ks ls) := h
  have b1 := cell_of_blk h.b 1
  have HB : Hid (ls.length * 24 ≤ 140737488355328 ∧ ls.length ≤ 140737488355328) := (show _ ∧ _ by have := h.ll; omega)
  clear h
  go_enter Tryz.func31, Tryz.ntmps31
  go_wp2_with (at_builtin; refine wpList_app okL rfl _ _ rfl _ _ _ ([] : List Mk) rfl rfl (own_nil _) _ _ _ ls rfl HA.out.nl HA.out.l.nil HA.out.l.row (by have := HB.out.1; simpa [LE] using this) (by have := HB.out.2; simpa using this) ?_; intro o6 c6 w6 ho6 hap6; have H6 : Hid (Own LE w6 o6 c6 ls ∧ New w o6 ∧ Keeps no w w6) := ⟨ho6, (hap6.new (new_none w) (Keeps.refl no w)).1, (hap6.new (new_none w) (Keeps.refl no w)).2⟩; clear ho6 hap6)
  go_ret
  exact ⟨o6, _, c6, rfl, HA.out.nl, H6.out.1, H6.out.2.1, H6.out.2.2⟩
theorem ksEq_snoc {ks ks' : List KV} {t : Nat} (he : KsEq (ks.take t) ks') {xk : Tx} {xi : Nat} {xv : Tx} {xo : Option Addr} {xc : Nat} {xks : List Tx} {xst : Int} {on : Option Addr} {cn : Nat} (hx : ⟨(xk, xi), xv, xo, xc, xks, xst⟩ = ks.getD t kv0) (ht : t < ks.length) : KsEq (ks.take (t + 1)) (ks' ++ [⟨(xk, xi), xv, on, cn, xks, xst⟩]) := by
  have hlk : ks'.length = t := by rw [← he.1, List.length_take]; omega
  refine ⟨by rw [List.length_append, hlk, List.length_take]; simp; omega, fun j hj => ?_⟩
  rw [List.length_take] at hj
  rw [take_succ_getD ks t kv0 ht, getD_app2, getD_app2, List.length_take, Nat.min_eq_left (Nat.le_of_lt ht), hlk]
  by_cases e : j < t
  · rw [if_pos e, if_pos e]
    exact he.2 j (by rw [List.length_take]; omega)
  · have e' : j = t := by omega
    rw [if_neg e, if_neg e, e', Nat.sub_self, ← hx]
    exact ⟨rfl, rfl, rfl, rfl⟩
structure RK (w : World) (ks : List KV) : Prop where
  key : ∀ x ∈ ks, Sl TE w x.o x.c x.keys ∧ x.keys.length ≤ 8796093021952
theorem RK.keepsN {w w' : World} {ks : List KV} (h : RK w ks) (hk : Keeps no w w') : RK w' ks := ⟨fun x hx => ⟨(h.key x hx).1.keepsN hk, (h.key x hx).2⟩⟩
set_option maxRecDepth 10000 in
set_option maxHeartbeats 1000000 in
theorem rKept_any (w : World) (p : Nat) (oK : Option Addr) (nK cK : Nat) (oL : Option Addr) (nL cL : Nat) (ks : List KV) (ls : List Mk) (h : RD w p oK nK cK oL nL cL ks ls) (hk : RK w ks) :
    Calls Tryz.prog 29 #[.pointer (some ⟨p, 0, none⟩)] w fun e w' => ∃ o n c, e = .returned (.slice o n c) ∧ Hid (∃ ks', n = ks'.length ∧ Kl w ks' o c w' ∧ KsEq ks ks') := by
  have HA : Hid (RD w p oK nK cK oL nL cL ks ls ∧ RK w ks) := ⟨h, hk⟩
  have hA : (nK : Int) ≤ 1954687338211 := by have := h.nk; have := h.lk; omega
  clear h hk
  go_enter Tryz.func29, Tryz.ntmps29
  go_wp2_with fail
  go_loopw [3, 4] (fun z3 z wr => ∃ (t : Nat) (ol : Option Addr) (m cl : Nat) (ks' : List KV), t ≤ nK ∧ z = .int .i64 t ∧ z3 = .slice ol m cl ∧ Hid (m = ks'.length ∧ Kl w ks' ol cl wr ∧ KsEq (ks.take t) ks')) (fun _ z _ => nK - (intOf z).toNat)
  case atStart => exact ⟨0, none, 0, 0, [], by omega, rfl, rfl, rfl, ⟨own_nil _, fun x hx => (by cases hx), List.Pairwise.nil, new_none w, Keeps.refl _ _⟩, rfl, fun j hj => absurd hj (by simp)⟩
  case round =>
    obtain ⟨t, ol, m, cl, ks', ht, rfl, rfl, HT⟩ := hrel
    have b0 := cell_of_blk (HA.out.1.keepsN HT.out.2.1.keep).b 0
    by_cases htl : t < nK
    · have htl' : (t : Int) < nK := by omega
      have hta : t < ks.length := by have := HA.out.1.nk; omega
      obtain ⟨g, off, e1, d0, d1, d2, d3, d4⟩ := (HA.out.1.keepsN HT.out.2.1.keep).k.atK hta
      subst e1
      obtain ⟨x, hx⟩ : ∃ x, x = ks.getD t kv0 := ⟨_, rfl⟩
      rw [← hx] at d0 d1 d2 d3 d4
      have hin := (HA.out.2.keepsN HT.out.2.1.keep).key _ (getD_mem_lt kv0 hta)
      rw [← hx] at hin
      have HX : Hid (x = ks.getD t kv0 ∧ t < ks.length) := ⟨hx, hta⟩
      obtain ⟨⟨xk, xi⟩, xv, xo, xc, xks, xst⟩ := x
      simp only at d0 d1 d2 d3 d4 hin
      obtain ⟨xn, hxn⟩ : ∃ xn, xn = xks.length := ⟨_, rfl⟩
      rw [← hxn] at d3
      have HIN : Hid (xn = xks.length ∧ Sl TE wr xo xc xks ∧ xks.length ≤ 8796093021952) := ⟨hxn, hin.1, hin.2⟩
      have HSX : Hid (∀ X, Keeps no w X → X.cell? ⟨p, 0, none⟩ = some (.slice (some ⟨g, off, none⟩) nK cK) ∧ X.cell? ⟨g, off + t * 5, none⟩ = some (.string xk) ∧ X.cell? ⟨g, off + t * 5 + 1, none⟩ = some (.int .u64 ((xi : Nat) : Int)) ∧ X.cell? ⟨g, off + t * 5 + 2, none⟩ = some (.string xv) ∧ X.cell? ⟨g, off + t * 5 + 3, none⟩ = some (.slice xo xn xc) ∧ X.cell? ⟨g, off + t * 5 + 4, none⟩ = some (.int .i64 xst)) := fun X hX => by
        have q0 := cell_of_blk (HA.out.1.keepsN hX).b 0
        obtain ⟨g', off', e1, f0, f1, f2, f3, f4⟩ := (HA.out.1.keepsN hX).k.atK HX.out.2
        cases e1
        rw [← HX.out.1] at f0 f1 f2 f3 f4
        simp only at f0 f1 f2 f3 f4
        rw [← hxn] at f3
        exact ⟨q0, f0, f1, f2, f3, f4⟩
      have HRN : Hid ((ks'.length + 1) * 72 ≤ 140737488355328 ∧ ks'.length + 1 ≤ 140737488355328) := (show _ ∧ _ by
        have h1 := HT.out.2.2.1
        rw [List.length_take] at h1
        have := HA.out.1.lk
        have := HA.out.1.nk
        omega)
      clear hx hta hin hxn
      go_wp2_with fail
      refine wp_region_held_drew (S := (fun X => X.cell? ⟨p, 0, none⟩ = some (.slice (some ⟨g, off, none⟩) nK cK) ∧ X.cell? ⟨g, off + t * 5, none⟩ = some (.string xk) ∧ X.cell? ⟨g, off + t * 5 + 1, none⟩ = some (.int .u64 ((xi : Nat) : Int)) ∧ X.cell? ⟨g, off + t * 5 + 2, none⟩ = some (.string xv) ∧ X.cell? ⟨g, off + t * 5 + 3, none⟩ = some (.slice xo xn xc) ∧ X.cell? ⟨g, off + t * 5 + 4, none⟩ = some (.int .i64 xst))) (by kernel_rfl) ?_ (fun hHeld => ?_)
      · first | exact HSX.out _ HT.out.2.1.keep | exact HSX.out _ (HT.out.2.1.keep.drew)
      refine wpAnyH_take (i := 0) (v := ?_) (by simp only [List.getElem?_toArray, List.getElem?_cons_succ, List.getElem?_cons_zero]; rfl) (by kernel_rfl) (by kernel_rfl) (by kernel_rfl) (by exact fun _ _ _ h => h) (Or.inl ⟨by rfl, ?_⟩) (by assumption) ?_
      rotate_left
      · (intro _ hSw; (try dsimp only at hSw); go_simp; (try with_reducible rfl))
      try simp only [Act.put, List.setIfInBounds_toArray, List.set_cons_zero, List.set_cons_succ]
      refine wpAnyH_take (i := 1) (v := ?_) (by simp only [List.getElem?_toArray, List.getElem?_cons_succ, List.getElem?_cons_zero]; rfl) (by kernel_rfl) (by kernel_rfl) (by kernel_rfl) (by exact fun _ _ _ h => h) (Or.inl ⟨by rfl, ?_⟩) (by assumption) ?_
      rotate_left
      · (intro _ hSw; (try dsimp only at hSw); go_simp; (try with_reducible rfl))
      try simp only [Act.put, List.setIfInBounds_toArray, List.set_cons_zero, List.set_cons_succ]
      refine wpAnyH_take (i := 2) (v := ?_) (by simp only [List.getElem?_toArray, List.getElem?_cons_succ, List.getElem?_cons_zero]; rfl) (by kernel_rfl) (by kernel_rfl) (by kernel_rfl) (by exact fun _ _ _ h => h) (Or.inl ⟨by rfl, ?_⟩) (by assumption) ?_
      rotate_left
      · (intro _ hSw; (try dsimp only at hSw); go_simp; (try with_reducible rfl))
      try simp only [Act.put, List.setIfInBounds_toArray, List.set_cons_zero, List.set_cons_succ]
      refine wpAnyH_take (i := 3) (v := ?_) (by simp only [List.getElem?_toArray, List.getElem?_cons_succ, List.getElem?_cons_zero]; rfl) (by kernel_rfl) (by kernel_rfl) (by kernel_rfl) (by exact fun _ _ _ h => h) (Or.inl ⟨by rfl, ?_⟩) (by assumption) ?_
      rotate_left
      · (intro _ hSw; (try dsimp only at hSw); go_simp; (try with_reducible rfl))
      try simp only [Act.put, List.setIfInBounds_toArray, List.set_cons_zero, List.set_cons_succ]
      refine wpAnyH_take (i := 4) (v := ?_) (by simp only [List.getElem?_toArray, List.getElem?_cons_succ, List.getElem?_cons_zero]; rfl) (by kernel_rfl) (by kernel_rfl) (by kernel_rfl) (by exact fun _ _ _ h => h) (Or.inl ⟨by rfl, ?_⟩) (by assumption) ?_
      rotate_left
      · (intro _ hSw; (try dsimp only at hSw); go_simp; (try with_reducible rfl))
      try simp only [Act.put, List.setIfInBounds_toArray, List.set_cons_zero, List.set_cons_succ]
      refine wpAnyH_take (i := 5) (v := ?_) (by simp only [List.getElem?_toArray, List.getElem?_cons_succ, List.getElem?_cons_zero]; rfl) (by kernel_rfl) (by kernel_rfl) (by kernel_rfl) (by exact fun _ _ _ h => h) (Or.inl ⟨by rfl, ?_⟩) (by assumption) ?_
      rotate_left
      · (intro _ hSw; (try dsimp only at hSw); go_simp; (try with_reducible rfl))
      try simp only [Act.put, List.setIfInBounds_toArray, List.set_cons_zero, List.set_cons_succ]
      refine wpAnyH_take (i := 6) (v := ?_) (by simp only [List.getElem?_toArray, List.getElem?_cons_succ, List.getElem?_cons_zero]; rfl) (by kernel_rfl) (by kernel_rfl) (by kernel_rfl) (by exact fun _ _ _ h => h) (Or.inl ⟨by rfl, ?_⟩) (by assumption) ?_
      rotate_left
      · (intro _ hSw; (try dsimp only at hSw); go_simp; (try with_reducible rfl))
      try simp only [Act.put, List.setIfInBounds_toArray, List.set_cons_zero, List.set_cons_succ]
      refine wpAnyH_take (i := 7) (v := ?_) (by simp only [List.getElem?_toArray, List.getElem?_cons_succ, List.getElem?_cons_zero]; rfl) (by kernel_rfl) (by kernel_rfl) (by kernel_rfl) (by exact fun _ _ _ h => h) (Or.inl ⟨by rfl, ?_⟩) (by assumption) ?_
      rotate_left
      · (intro _ hSw; (try dsimp only at hSw); go_simp; (try with_reducible rfl))
      try simp only [Act.put, List.setIfInBounds_toArray, List.set_cons_zero, List.set_cons_succ]
      refine wpAnyH_take (i := 8) (v := ?_) (by simp only [List.getElem?_toArray, List.getElem?_cons_succ, List.getElem?_cons_zero]; rfl) (by kernel_rfl) (by kernel_rfl) (by kernel_rfl) (by exact fun _ _ _ h => h) (Or.inl ⟨by rfl, ?_⟩) (by assumption) ?_
      rotate_left
      · (intro _ hSw; (try dsimp only at hSw); go_simp; (try with_reducible rfl))
      try simp only [Act.put, List.setIfInBounds_toArray, List.set_cons_zero, List.set_cons_succ]
      refine wpAnyH_take (i := 10) (v := ?_) (by simp only [List.getElem?_toArray, List.getElem?_cons_succ, List.getElem?_cons_zero]; rfl) (by kernel_rfl) (by kernel_rfl) (by kernel_rfl) (by exact fun _ _ _ h => h) (Or.inl ⟨by rfl, ?_⟩) (by assumption) ?_
      rotate_left
      · (intro _ hSw; (try dsimp only at hSw); go_simp; (try with_reducible rfl))
      try simp only [Act.put, List.setIfInBounds_toArray, List.set_cons_zero, List.set_cons_succ]
      refine wpAnyH_take (i := 11) (v := ?_) (by simp only [List.getElem?_toArray, List.getElem?_cons_succ, List.getElem?_cons_zero]; rfl) (by kernel_rfl) (by kernel_rfl) (by kernel_rfl) (by exact fun _ _ _ h => h) (Or.inl ⟨by rfl, ?_⟩) (by assumption) ?_
      rotate_left
      · (intro _ hSw; (try dsimp only at hSw); go_simp; (try with_reducible rfl))
      try simp only [Act.put, List.setIfInBounds_toArray, List.set_cons_zero, List.set_cons_succ]
      refine wpAnyH_take (i := 12) (v := ?_) (by simp only [List.getElem?_toArray, List.getElem?_cons_succ, List.getElem?_cons_zero]; rfl) (by kernel_rfl) (by kernel_rfl) (by kernel_rfl) (by exact fun _ _ _ h => h) (Or.inl ⟨by rfl, ?_⟩) (by assumption) ?_
      rotate_left
      · (intro _ hSw; (try dsimp only at hSw); go_simp; (try with_reducible rfl))
      try simp only [Act.put, List.setIfInBounds_toArray, List.set_cons_zero, List.set_cons_succ]
      refine wpAnyH_take (i := 13) (v := ?_) (by simp only [List.getElem?_toArray, List.getElem?_cons_succ, List.getElem?_cons_zero]; rfl) (by kernel_rfl) (by kernel_rfl) (by kernel_rfl) (by exact fun _ _ _ h => h) (Or.inl ⟨by rfl, ?_⟩) (by assumption) ?_
      rotate_left
      · (intro _ hSw; (try dsimp only at hSw); go_simp; (try with_reducible rfl))
      try simp only [Act.put, List.setIfInBounds_toArray, List.set_cons_zero, List.set_cons_succ]
      refine wpAnyH_take (i := 14) (v := ?_) (by simp only [List.getElem?_toArray, List.getElem?_cons_succ, List.getElem?_cons_zero]; rfl) (by kernel_rfl) (by kernel_rfl) (by kernel_rfl) (by exact fun _ _ _ h => h) (Or.inl ⟨by rfl, ?_⟩) (by assumption) ?_
      rotate_left
      · (intro _ hSw; (try dsimp only at hSw); go_simp; (try with_reducible rfl))
      try simp only [Act.put, List.setIfInBounds_toArray, List.set_cons_zero, List.set_cons_succ]
      refine wpAnyH_take (i := 15) (v := ?_) (by simp only [List.getElem?_toArray, List.getElem?_cons_succ, List.getElem?_cons_zero]; rfl) (by kernel_rfl) (by kernel_rfl) (by kernel_rfl) (by exact fun _ _ _ h => h) (Or.inl ⟨by rfl, ?_⟩) (by assumption) ?_
      rotate_left
      · (intro _ hSw; (try dsimp only at hSw); go_simp; (try with_reducible rfl))
      try simp only [Act.put, List.setIfInBounds_toArray, List.set_cons_zero, List.set_cons_succ]
      refine wpAnyH_take (i := 16) (v := ?_) (by simp only [List.getElem?_toArray, List.getElem?_cons_succ, List.getElem?_cons_zero]; rfl) (by kernel_rfl) (by kernel_rfl) (by kernel_rfl) (by exact fun _ _ _ h => h) (Or.inl ⟨by rfl, ?_⟩) (by assumption) ?_
      rotate_left
      · (intro _ hSw; (try dsimp only at hSw); go_simp; (try with_reducible rfl))
      try simp only [Act.put, List.setIfInBounds_toArray, List.set_cons_zero, List.set_cons_succ]
      refine wpAnyH_take (i := 17) (v := ?_) (by simp only [List.getElem?_toArray, List.getElem?_cons_succ, List.getElem?_cons_zero]; rfl) (by kernel_rfl) (by kernel_rfl) (by kernel_rfl) (by exact fun _ _ _ h => h) (Or.inl ⟨by rfl, ?_⟩) (by assumption) ?_
      rotate_left
      · (intro _ hSw; (try dsimp only at hSw); go_simp; (try with_reducible rfl))
      try simp only [Act.put, List.setIfInBounds_toArray, List.set_cons_zero, List.set_cons_succ]
      refine wpAnyH_ready (rs := [9]) (by kernel_rfl) (by simp) ?_
      refine AllReadyH.cons (by simp only [List.getElem?_toArray, List.getElem?_cons_succ, List.getElem?_cons_zero]; rfl) (fun Kq hKq => ?_) AllReadyH.nil
      (go_simp; refine (own_any _ xk ((xi : Nat) : Int) xv xo xn xc xks HIN.out.1 HIN.out.2.2 (HIN.out.2.1.keepsN ((Keeps.refl no wr).drew))).mono ?_; rintro e z1 ⟨on, cn, rfl, h1⟩; have Z1 : Hid (Own TE z1 on cn xks ∧ New wr on ∧ Keeps no wr z1) := ⟨h1.out.1, h1.out.2.1.of_le ((Keeps.refl no wr).drew).size, ((Keeps.refl no wr).drew).trans h1.out.2.2⟩; have HK1 : Hid (Keeps no w z1) := HT.out.2.1.keep.trans Z1.out.2.2; have HK2 : Hid (Keeps no w (z1.alloc (.cells #[.string xk, .int .u64 ((xi : Nat) : Int), .string xv, .slice on xn cn, .int .i64 xst] 47))) := HK1.out.alloc _; clear h1)
      refine hKq.out _ _ ?_ (fun hHeldN => ?_)
      · exact HSX.out _ HK1.out
      clear hKq Kq hHeld
      have hHeld := hHeldN
      clear hHeldN
      refine wpAnyH_take (i := 18) (v := ?_) (by simp only [List.getElem?_toArray, List.getElem?_cons_succ, List.getElem?_cons_zero]; rfl) (by kernel_rfl) (by kernel_rfl) (by kernel_rfl) (by exact fun _ _ _ h => h) (Or.inl ⟨by rfl, ?_⟩) (by assumption) ?_
      rotate_left
      · (intro _ hSw; (try dsimp only at hSw); go_simp; (try with_reducible rfl))
      try simp only [Act.put, List.setIfInBounds_toArray, List.set_cons_zero, List.set_cons_succ]
      refine wpAnyH_ready (rs := [19]) (by kernel_rfl) (by simp) ?_
      refine AllReadyH.cons (by simp only [List.getElem?_toArray, List.getElem?_cons_succ, List.getElem?_cons_zero]; rfl) (fun Kq hKq => ?_) AllReadyH.nil
      go_simp
      refine hKq.out _ _ ?_ (fun hHeldN => ?_)
      · exact HSX.out _ HK2.out
      clear hKq Kq hHeld
      have hHeld := hHeldN
      clear hHeldN
      refine wpAnyH_ready (rs := [20]) (by kernel_rfl) (by simp) ?_
      refine AllReadyH.cons (by simp only [List.getElem?_toArray, List.getElem?_cons_succ, List.getElem?_cons_zero]; rfl) (fun Kq hKq => ?_) AllReadyH.nil
      (have HOW : Hid (Own KE (z1.alloc (.cells #[.string xk, .int .u64 ((xi : Nat) : Int), .string xv, .slice on xn cn, .int .i64 xst] 47)) ol cl ks') := HT.out.2.1.own.keepsN (Z1.out.2.2.alloc _); have HRW : Hid (Row KE (z1.alloc (.cells #[.string xk, .int .u64 ((xi : Nat) : Int), .string xv, .slice on xn cn, .int .i64 xst] 47)) (some ⟨z1.heap.size, 0, none⟩) [⟨(xk, xi), xv, on, cn, xks, xst⟩]) := (by have hh := (own_oneK z1 ⟨(xk, xi), xv, on, cn, xks, xst⟩).row; rw [← HIN.out.1] at hh; exact hh); refine step_appW okK rfl (.tmp 14) (.tmp 33) rfl ol m cl ks' rfl HT.out.1 HOW.out (some ⟨z1.heap.size, 0, none⟩) 1 1 [⟨(xk, xi), xv, on, cn, xks, xst⟩] rfl rfl (fun e => by cases e) HRW.out HRN.out.1 HRN.out.2 ?_; intro o2 c2 z2 ho2 hap2; have HP : Hid (Kl w (ks' ++ [⟨(xk, xi), xv, on, cn, xks, xst⟩]) o2 c2 z2) := HT.out.2.1.push (x := ⟨(xk, xi), xv, on, cn, xks, xst⟩) (Z1.out.1.keepsN ((Keeps.refl no z1).alloc _)) Z1.out.2.1 (Z1.out.2.2.alloc _) ho2 hap2; have HK3 : Hid (Keeps no w z2) := HP.out.keep; clear ho2 hap2)
      refine hKq.out _ _ ?_ (fun hHeldN => ?_)
      · exact HSX.out _ HK3.out
      clear hKq Kq hHeld
      have hHeld := hHeldN
      clear hHeldN
      refine wpAnyH_take (i := 21) (v := ?_) (by simp only [List.getElem?_toArray, List.getElem?_cons_succ, List.getElem?_cons_zero]; rfl) (by kernel_rfl) (by kernel_rfl) (by kernel_rfl) (by exact fun _ _ _ h => h) (Or.inl ⟨by rfl, ?_⟩) (by assumption) ?_
      rotate_left
      · (intro _ hSw; (try dsimp only at hSw); go_simp; (try with_reducible rfl))
      try simp only [Act.put, List.setIfInBounds_toArray, List.set_cons_zero, List.set_cons_succ]
      refine wpAnyH_done (by kernel_rfl) ?_ _
      clear hHeld
      go_wp2_with fail
      go_roundw
      case rel => exact ⟨t + 1, o2, _, c2, _, by omega, by go_num, rfl, by rw [HT.out.1]; simp, HP.out, ksEq_snoc HT.out.2.2 HX.out.1 HX.out.2⟩
      case measure => simp [intOf]; omega
    · have htl' : ¬ (t : Int) < nK := by omega
      go_wp2_with fail
      go_ret
      refine ⟨ol, m, cl, rfl, ks', HT.out.1, HT.out.2.1, ?_⟩
      have h := HT.out.2.2
      rw [List.take_of_length_le (by have := HA.out.1.nk; omega)] at h
      exact h
end Go.Proofs.YtagekdmkidbhpaaGreat
/- The document's store in pure lists. -/
namespace Go.Proofs.YtagekdmkidbhpaaGreat
open Go.RowKit Go.Maps Go.Sort Orl
set_option linter.unusedVariables false
set_option linter.unusedSimpArgs false

/-- a store and the document's lists -/
structure Rl (s : St) (ks : List KV) (ls : List Mk) : Prop where
  is : IsKs s ks
  all : ∀ m, s.V m ≠ none → m ∈ ks.map (·.m)
  inc : Inc ltM (ks.map (·.m))
  la : IsLs s ls
theorem nk_isLs {s : St} {ls : List Mk} (h : IsLs s ls) : Nk ls := by
  refine nk_inc ?_
  have := h.1
  unfold Inc at this ⊢
  rw [List.pairwise_map] at this
  exact this
theorem lastIn_is {s : St} {ls : List Mk} (h : IsLs s ls) (k : Tx) : lastIn ls k = s.last k := by
  unfold lastIn
  cases hf : fnd k ls with
  | some i => exact ((h.2 k i).1 (fnd_mem hf)).1.symm
  | none =>
    by_cases e : s.last k = 0
    · exact e.symm
    · have := (h.2 k (s.last k)).2 ⟨rfl, e⟩
      exact absurd rfl (fnd_none.1 hf _ this)
theorem mgetD (ks : List KV) (j : Nat) : (ks.map (·.m)).getD j (e0, 0) = (ks.getD j kv0).m := by
  simp only [List.getD_eq_getElem?_getD, List.getElem?_map]
  cases ks[j]? <;> rfl
/-! ### where a version stands -/
theorem fpos_lt {m : Mk} : ∀ (ks : List KV) (j : Nat), j < fpos ks m → ltM (ks.getD j kv0).m m = true
  | [], j, h => by simp [fpos] at h
  | x :: r, j, h => by
    unfold fpos at h
    rw [List.takeWhile_cons] at h
    cases hx : ltM x.m m with
    | false => rw [hx] at h; simp at h
    | true =>
      rw [hx] at h
      cases j with
      | zero => exact hx
      | succ j => exact fpos_lt r j (by unfold fpos; simpa using h)
theorem fpos_at {m : Mk} : ∀ (ks : List KV), fpos ks m < ks.length → ltM (ks.getD (fpos ks m) kv0).m m = false
  | [], h => by simp [fpos] at h
  | x :: r, h => by
    cases hx : ltM x.m m with
    | false =>
      have e : fpos (x :: r) m = 0 := by unfold fpos; rw [List.takeWhile_cons, hx]; rfl
      rw [e]; exact hx
    | true =>
      have e : fpos (x :: r) m = fpos r m + 1 := by unfold fpos; rw [List.takeWhile_cons, if_pos hx]; rfl
      rw [e] at h ⊢
      exact fpos_at r (by simpa using h)
theorem fpos_ge {m : Mk} {ks : List KV} (hi : Inc ltM (ks.map (·.m))) {j : Nat} (h : fpos ks m ≤ j) (hj : j < ks.length) : ltM (ks.getD j kv0).m m = false := by
  have hat := fpos_at (m := m) ks (by omega)
  by_cases e : j = fpos ks m
  · rw [e]; exact hat
  · have h1 := inc_getD hi (e0, 0) (i := fpos ks m) (j := j) (by omega) (by simpa using hj)
    rw [mgetD, mgetD] at h1
    cases h2 : ltM (ks.getD j kv0).m m with
    | false => rfl
    | true => rw [swoM.trans _ _ _ h1 h2] at hat; cases hat
theorem there_iff {m : Mk} {ks : List KV} (hi : Inc ltM (ks.map (·.m))) : there ks m = true ↔ m ∈ ks.map (·.m) := by
  constructor
  · intro h
    simp only [there, Bool.and_eq_true, decide_eq_true_eq] at h
    exact List.mem_map.2 ⟨_, getD_mem_lt kv0 h.1, h.2⟩
  · intro h
    obtain ⟨x, hx, e⟩ := List.mem_map.1 h
    obtain ⟨j, hj, rfl⟩ := List.getElem_of_mem hx
    have g : ks.getD j kv0 = ks[j] := by simp [List.getD_eq_getElem?_getD, hj]
    have h1 : ¬ j < fpos ks m := fun hc => by
      have := fpos_lt ks j hc
      rw [g, e, swoM.irrefl] at this; cases this
    have hf : fpos ks m < ks.length := by omega
    have hat := fpos_at ks hf
    have hje : j = fpos ks m := by
      rcases Nat.lt_or_ge (fpos ks m) j with hc | hc
      · have h2 := inc_getD hi (e0, 0) (i := fpos ks m) (j := j) hc (by simpa using hj)
        rw [mgetD, mgetD, g, e, hat] at h2
        cases h2
      · omega
    simp only [there, Bool.and_eq_true, decide_eq_true_eq]
    exact ⟨hf, by rw [← hje, g]; exact e⟩
theorem Rl.there {s : St} {ks : List KV} {ls : List Mk} (h : Rl s ks ls) (m : Mk) : there ks m = (s.V m).isSome := by
  cases hv : s.V m with
  | none =>
    cases ht : Go.Proofs.YtagekdmkidbhpaaGreat.there ks m with
    | false => rfl
    | true =>
      obtain ⟨x, hx, rfl⟩ := List.mem_map.1 ((there_iff h.inc).1 ht)
      rw [h.is x hx] at hv; cases hv
  | some v => exact (there_iff h.inc).2 (h.all m (by rw [hv]; simp))
/-! ### one more -/
def insK (ks : List KV) (x : KV) : List KV := ks.take (fpos ks x.m) ++ x :: ks.drop (fpos ks x.m)
theorem insK_mem {ks : List KV} {x y : KV} : y ∈ insK ks x ↔ y = x ∨ y ∈ ks := by
  have h : y ∈ ks ↔ y ∈ ks.take (fpos ks x.m) ∨ y ∈ ks.drop (fpos ks x.m) := by rw [← List.mem_append, List.take_append_drop]
  unfold insK
  rw [List.mem_append, List.mem_cons, h]
  constructor
  · rintro (h | h | h)
    · exact .inr (.inl h)
    · exact .inl h
    · exact .inr (.inr h)
  · rintro (h | h | h)
    · exact .inr (.inl h)
    · exact .inl h
    · exact .inr (.inr h)
theorem insK_length (ks : List KV) (x : KV) : (insK ks x).length = ks.length + 1 := by
  have := fpos_le ks x.m
  simp only [insK, List.length_append, List.length_cons, List.length_take, List.length_drop]
  omega
theorem mem_take_getD {α : Type} {l : List α} {n : Nat} {y : α} (d : α) (h : y ∈ l.take n) : ∃ j, j < n ∧ j < l.length ∧ y = l.getD j d := by
  obtain ⟨j, hj, rfl⟩ := List.getElem_of_mem h
  rw [List.length_take] at hj
  refine ⟨j, by omega, by omega, ?_⟩
  rw [List.getElem_take]
  simp [List.getD_eq_getElem?_getD, show j < l.length by omega]
theorem mem_drop_getD {α : Type} {l : List α} {n : Nat} {y : α} (d : α) (h : y ∈ l.drop n) : ∃ j, n ≤ j ∧ j < l.length ∧ y = l.getD j d := by
  obtain ⟨j, hj, rfl⟩ := List.getElem_of_mem h
  rw [List.length_drop] at hj
  refine ⟨n + j, by omega, by omega, ?_⟩
  rw [List.getElem_drop]
  simp [List.getD_eq_getElem?_getD, show n + j < l.length by omega]
theorem insK_inc {ks : List KV} {x : KV} (hi : Inc ltM (ks.map (·.m))) (hn : x.m ∉ ks.map (·.m)) : Inc ltM ((insK ks x).map (·.m)) := by
  have hd : ∀ y ∈ ks.drop (fpos ks x.m), ltM x.m y.m = true := fun y hy => by
    obtain ⟨j, h1, h2, rfl⟩ := mem_drop_getD kv0 hy
    have h3 := fpos_ge hi h1 h2
    cases h4 : ltM x.m (ks.getD j kv0).m with
    | true => rfl
    | false =>
      have := triM _ _ h3 h4
      exact absurd (List.mem_map.2 ⟨_, getD_mem_lt kv0 h2, this⟩) hn
  have ht : ∀ y ∈ ks.take (fpos ks x.m), ltM y.m x.m = true := fun y hy => by
    obtain ⟨j, h1, h2, rfl⟩ := mem_take_getD kv0 hy
    exact fpos_lt ks j h1
  unfold Inc at hi ⊢
  unfold insK
  rw [List.map_append, List.map_cons, List.pairwise_append]
  refine ⟨hi.sublist ((List.take_sublist _ _).map _), List.pairwise_cons.2 ⟨fun a ha => ?_, hi.sublist ((List.drop_sublist _ _).map _)⟩, fun a ha b hb => ?_⟩
  · obtain ⟨y, hy, rfl⟩ := List.mem_map.1 ha
    exact hd y hy
  · obtain ⟨y, hy, rfl⟩ := List.mem_map.1 ha
    rcases List.mem_cons.1 hb with rfl | hb
    · exact ht y hy
    · obtain ⟨z, hz, rfl⟩ := List.mem_map.1 hb
      exact swoM.trans _ _ _ (ht y hy) (hd z hz)
theorem Rl.add {s : St} {ks : List KV} {ls : List Mk} (h : Rl s ks ls) (x : KV) (hn : s.V x.m = none) : Rl (s.add x.m x.vr) (insK ks x) ls := by
  refine ⟨fun y hy => ?_, fun m hm => ?_, insK_inc h.inc (fun hc => ?_), h.la⟩
  · rcases insK_mem.1 hy with rfl | hy
    · simp [St.add, KV.vr]
    · have h1 := h.is y hy
      have hne : y.m ≠ x.m := fun e => by rw [e, hn] at h1; cases h1
      simp only [St.add, if_neg hne]
      exact h1
  · by_cases e : m = x.m
    · exact List.mem_map.2 ⟨x, insK_mem.2 (.inl rfl), e.symm⟩
    · simp only [St.add, if_neg e] at hm
      obtain ⟨y, hy, rfl⟩ := List.mem_map.1 (h.all m hm)
      exact List.mem_map.2 ⟨y, insK_mem.2 (.inr hy), rfl⟩
  · obtain ⟨y, hy, e⟩ := List.mem_map.1 hc
    have := h.is y hy
    rw [e, hn] at this; cases this
/-! ### one less -/
def delK (ks : List KV) (n : Nat) : List KV := ks.take n ++ ks.drop (n + 1)
theorem split_at {ks : List KV} {n : Nat} (h : n < ks.length) : ks = ks.take n ++ ks.getD n kv0 :: ks.drop (n + 1) := by
  have e : ks.getD n kv0 = ks[n] := by simp [List.getD_eq_getElem?_getD, h]
  rw [e, ← List.drop_eq_getElem_cons h, List.take_append_drop]
theorem Rl.drop {s : St} {ks : List KV} {ls : List Mk} (h : Rl s ks ls) (m : Mk) (hv : s.V m ≠ none) : Rl (dropS s m) (delK ks (fpos ks m)) ls := by
  have ht := (there_iff h.inc).2 (h.all m hv)
  simp only [Go.Proofs.YtagekdmkidbhpaaGreat.there, Bool.and_eq_true, decide_eq_true_eq] at ht
  have hs := split_at ht.1
  have hnd := inc_nodup swoM h.inc
  have hmem : ∀ y, y ∈ delK ks (fpos ks m) ↔ y ∈ ks ∧ y.m ≠ m := fun y => by
    have hp : (ks.take (fpos ks m) ++ ks.getD (fpos ks m) kv0 :: ks.drop (fpos ks m + 1)).map (·.m) = ks.map (·.m) := by rw [← hs]
    rw [← hp, List.map_append, List.map_cons, ht.2, List.nodup_append] at hnd
    obtain ⟨_, h2, h3⟩ := hnd
    obtain ⟨h4, _⟩ := List.nodup_cons.1 h2
    constructor
    · intro hy
      rcases List.mem_append.1 hy with hy | hy
      · refine ⟨List.mem_of_mem_take hy, fun e => ?_⟩
        exact h3 _ (List.mem_map.2 ⟨y, hy, rfl⟩) m (by simp) e
      · exact ⟨List.mem_of_mem_drop hy, fun e => h4 (List.mem_map.2 ⟨y, hy, e⟩)⟩
    · rintro ⟨hy, hne⟩
      rw [hs] at hy
      rcases List.mem_append.1 hy with hy | hy
      · exact List.mem_append.2 (.inl hy)
      · rcases List.mem_cons.1 hy with rfl | hy
        · exact absurd ht.2 hne
        · exact List.mem_append.2 (.inr hy)
  refine ⟨fun y hy => ?_, fun z hz => ?_, ?_, h.la⟩
  · obtain ⟨h1, h2⟩ := (hmem y).1 hy
    simp only [dropS, if_neg h2]
    exact h.is y h1
  · have hne : z ≠ m := fun e => hz (by simp [dropS, e])
    simp only [dropS, if_neg hne] at hz
    obtain ⟨y, hy, rfl⟩ := List.mem_map.1 (h.all z hz)
    exact List.mem_map.2 ⟨y, (hmem y).2 ⟨hy, hne⟩, rfl⟩
  · have hl : (delK ks (fpos ks m)).Sublist ks := by
      conv => rhs; rw [hs]
      unfold delK
      exact List.Sublist.append (List.Sublist.refl _) (List.sublist_cons_self _ _)
    have := h.inc
    unfold Inc at this ⊢
    exact this.sublist (hl.map _)
end Go.Proofs.YtagekdmkidbhpaaGreat
/- The document's Put, Commit, Has, Committed in pure lists. -/
namespace Go.Proofs.YtagekdmkidbhpaaGreat
open Go.RowKit Go.Maps Go.Sort Orl
set_option linter.unusedVariables false
set_option linter.unusedSimpArgs false

theorem set_same {α : Type} : ∀ (l : List α) (n : Nat) (k : α), l[n]? = some k → l.set n k = l
  | [], _, _, h => by simp at h
  | x :: r, 0, k, h => by simp at h; rw [h]; rfl
  | x :: r, n + 1, k, h => by rw [List.set_cons_succ, set_same r n k (by simpa using h)]
theorem len_sub {α : Type} [DecidableEq α] : ∀ (l1 l2 : List α), l1.Nodup → (∀ x ∈ l1, x ∈ l2) → l1.length ≤ l2.length
  | [], _, _, _ => Nat.zero_le _
  | x :: r, l2, hn, hs => by
    obtain ⟨h1, h2⟩ := List.nodup_cons.1 hn
    have hx := hs x (by simp)
    have h3 := len_sub r (l2.erase x) h2 (fun y hy => (List.mem_erase_of_ne (fun e => h1 (by rw [← e]; exact hy))).2 (hs y (by simp [hy])))
    rw [List.length_erase_of_mem hx] at h3
    have h4 : 0 < l2.length := List.length_pos_of_mem hx
    simp only [List.length_cons]; omega
def hasM (ks : List KV) (m : Mk) : Bool := ks.any fun x => decide (x.m = m)
theorem hasM_iff {ks : List KV} {m : Mk} : hasM ks m = true ↔ m ∈ ks.map (·.m) := by
  unfold hasM
  rw [List.any_eq_true, List.mem_map]
  simp only [decide_eq_true_eq]
theorem hasM_cons (x : KV) (r : List KV) (m : Mk) : hasM (x :: r) m = (decide (x.m = m) || hasM r m) := rfl
theorem nodup_getD {α : Type} {l : List α} (h : l.Nodup) (d : α) {i j : Nat} (hi : i < l.length) (hj : j < l.length) (e : l.getD i d = l.getD j d) : i = j := by
  rw [List.getD_eq_getElem?_getD, List.getD_eq_getElem?_getD, List.getElem?_eq_getElem hi, List.getElem?_eq_getElem hj] at e
  have e' : l[i] = l[j] := e
  unfold List.Nodup at h
  rw [List.pairwise_iff_getElem] at h
  rcases Nat.lt_trichotomy i j with hij | hij | hij
  · exact absurd e' (h i j hi hj hij)
  · exact hij
  · exact absurd e'.symm (h j i hj hi hij)
def rpos (ls : List Mk) (k : Tx) : Nat := (ls.takeWhile fun x => lts x.1 k).length
theorem lgetD (ls : List Mk) (j : Nat) : (ls.map (·.1)).getD j e0 = (ls.getD j (e0, 0)).1 := by
  simp only [List.getD_eq_getElem?_getD, List.getElem?_map]
  cases ls[j]? <;> rfl
theorem rpos_le (ks : List Mk) (m : Tx) : rpos ks m ≤ ks.length := (List.takeWhile_sublist _).length_le
theorem rpos_of {m : Tx} : ∀ (ks : List Mk) (t : Nat), t ≤ ks.length → (∀ j, j < t → lts (ks.getD j (e0, 0)).1 m = true) → (t < ks.length → lts (ks.getD t (e0, 0)).1 m = false) → rpos ks m = t
  | [], t, h, _, _ => by simp at h; subst h; rfl
  | x :: r, 0, _, _, h => by
    have h1 : lts x.1 m = false := h (by simp)
    simp [rpos, List.takeWhile_cons, h1]
  | x :: r, t + 1, h, h1, h2 => by
    have h3 : lts x.1 m = true := h1 0 (by omega)
    have := rpos_of r t (by simpa using h) (fun j hj => h1 (j + 1) (by omega)) (fun hl => h2 (by simpa using hl))
    unfold rpos at this ⊢
    rw [List.takeWhile_cons, if_pos h3, List.length_cons, this]
theorem rpos_lt {m : Tx} : ∀ (ks : List Mk) (j : Nat), j < rpos ks m → lts (ks.getD j (e0, 0)).1 m = true
  | [], j, h => by simp [rpos] at h
  | x :: r, j, h => by
    unfold rpos at h
    rw [List.takeWhile_cons] at h
    cases hx : lts x.1 m with
    | false => rw [hx] at h; simp at h
    | true =>
      rw [hx] at h
      cases j with
      | zero => exact hx
      | succ j => exact rpos_lt r j (by unfold rpos; simpa using h)
theorem rpos_at {m : Tx} : ∀ (ks : List Mk), rpos ks m < ks.length → lts (ks.getD (rpos ks m) (e0, 0)).1 m = false
  | [], h => by simp [rpos] at h
  | x :: r, h => by
    cases hx : lts x.1 m with
    | false =>
      have e : rpos (x :: r) m = 0 := by unfold rpos; rw [List.takeWhile_cons, hx]; rfl
      rw [e]; exact hx
    | true =>
      have e : rpos (x :: r) m = rpos r m + 1 := by unfold rpos; rw [List.takeWhile_cons, if_pos hx]; rfl
      rw [e] at h ⊢
      exact rpos_at r (by simpa using h)
theorem rpos_ge {m : Tx} {ks : List Mk} (hi : Inc lts (ks.map (·.1))) {j : Nat} (h : rpos ks m ≤ j) (hj : j < ks.length) : lts (ks.getD j (e0, 0)).1 m = false := by
  have hat := rpos_at (m := m) ks (by omega)
  by_cases e : j = rpos ks m
  · rw [e]; exact hat
  · have h1 := inc_getD hi e0 (i := rpos ks m) (j := j) (by omega) (by simpa using hj)
    rw [lgetD, lgetD] at h1
    cases h2 : lts (ks.getD j (e0, 0)).1 m with
    | false => rfl
    | true => rw [swoT.trans _ _ _ h1 h2] at hat; cases hat
def insL (ks : List Mk) (x : Mk) : List Mk := ks.take (rpos ks x.1) ++ x :: ks.drop (rpos ks x.1)
theorem insL_mem {ks : List Mk} {x y : Mk} : y ∈ insL ks x ↔ y = x ∨ y ∈ ks := by
  have h : y ∈ ks ↔ y ∈ ks.take (rpos ks x.1) ∨ y ∈ ks.drop (rpos ks x.1) := by rw [← List.mem_append, List.take_append_drop]
  unfold insL
  rw [List.mem_append, List.mem_cons, h]
  constructor
  · rintro (h | h | h)
    · exact .inr (.inl h)
    · exact .inl h
    · exact .inr (.inr h)
  · rintro (h | h | h)
    · exact .inr (.inl h)
    · exact .inl h
    · exact .inr (.inr h)
theorem insL_inc {ks : List Mk} {x : Mk} (hi : Inc lts (ks.map (·.1))) (hn : x.1 ∉ ks.map (·.1)) : Inc lts ((insL ks x).map (·.1)) := by
  have hd : ∀ y ∈ ks.drop (rpos ks x.1), lts x.1 y.1 = true := fun y hy => by
    obtain ⟨j, h1, h2, rfl⟩ := mem_drop_getD (e0, 0) hy
    have h3 := rpos_ge hi h1 h2
    cases h4 : lts x.1 (ks.getD j (e0, 0)).1 with
    | true => rfl
    | false =>
      have := triT _ _ h3 h4
      exact absurd (List.mem_map.2 ⟨_, getD_mem_lt (e0, 0) h2, this⟩) hn
  have ht : ∀ y ∈ ks.take (rpos ks x.1), lts y.1 x.1 = true := fun y hy => by
    obtain ⟨j, h1, h2, rfl⟩ := mem_take_getD (e0, 0) hy
    exact rpos_lt ks j h1
  unfold Inc at hi ⊢
  unfold insL
  rw [List.map_append, List.map_cons, List.pairwise_append]
  refine ⟨hi.sublist ((List.take_sublist _ _).map _), List.pairwise_cons.2 ⟨fun a ha => ?_, hi.sublist ((List.drop_sublist _ _).map _)⟩, fun a ha b hb => ?_⟩
  · obtain ⟨y, hy, rfl⟩ := List.mem_map.1 ha
    exact hd y hy
  · obtain ⟨y, hy, rfl⟩ := List.mem_map.1 ha
    rcases List.mem_cons.1 hb with rfl | hb
    · exact ht y hy
    · obtain ⟨z, hz, rfl⟩ := List.mem_map.1 hb
      exact swoT.trans _ _ _ (ht y hy) (hd z hz)
/-- a key's last becomes i -/
def raiseL (ls : List Mk) (k : Tx) (i : Nat) : List Mk := if rpos ls k < ls.length ∧ (ls.getD (rpos ls k) (e0, 0)).1 = k then ls.set (rpos ls k) (k, i) else insL ls (k, i)
theorem raise_is {s : St} {ls : List Mk} (h : IsLs s ls) (k : Tx) (i : Nat) (hi : i ≠ 0) : IsLs (setLast s (k, i)) (raiseL ls k i) := by
  unfold raiseL
  by_cases hc : rpos ls k < ls.length ∧ (ls.getD (rpos ls k) (e0, 0)).1 = k
  · rw [if_pos hc]
    have hnd := inc_nodup swoT h.1
    have hm : (ls.set (rpos ls k) (k, i)).map (·.1) = ls.map (·.1) := by
      rw [List.map_set]
      have : (ls.map (·.1))[rpos ls k]? = some k := by
        rw [List.getElem?_map, List.getElem?_eq_getElem hc.1]
        have := hc.2
        rw [List.getD_eq_getElem?_getD, List.getElem?_eq_getElem hc.1] at this
        exact congrArg some this
      exact set_same _ _ _ this
    refine ⟨by rw [hm]; exact h.1, fun k' j => ?_⟩
    have hmem : (k', j) ∈ ls.set (rpos ls k) (k, i) ↔ (k' = k ∧ j = i) ∨ (k' ≠ k ∧ (k', j) ∈ ls) := by
      constructor
      · intro hx
        obtain ⟨q, hq, e⟩ := List.getElem_of_mem hx
        rw [List.length_set] at hq
        rw [List.getElem_set] at e
        by_cases hqn : rpos ls k = q
        · rw [if_pos hqn] at e
          injection e with e1 e2
          exact .inl ⟨e1.symm, e2.symm⟩
        · rw [if_neg hqn] at e
          refine .inr ⟨fun ek => ?_, by rw [← e]; exact List.getElem_mem hq⟩
          have e3 : (ls.map (·.1)).getD q e0 = (ls.map (·.1)).getD (rpos ls k) e0 := by
            rw [lgetD, lgetD, hc.2]
            rw [List.getD_eq_getElem?_getD, List.getElem?_eq_getElem hq]
            show (ls[q]).1 = k
            rw [e]; exact ek
          exact hqn ((nodup_getD hnd e0 (by simpa using hq) (by simpa using hc.1) e3).symm)
      · rintro (⟨rfl, rfl⟩ | ⟨hne, hx⟩)
        · exact List.mem_set hc.1 _
        · obtain ⟨q, hq, e⟩ := List.getElem_of_mem hx
          have hqn : rpos ls k ≠ q := fun eq => by
            subst eq
            have := hc.2
            rw [List.getD_eq_getElem?_getD, List.getElem?_eq_getElem hq] at this
            have e4 : (ls[rpos ls k]).1 = k := this
            rw [e] at e4
            exact hne e4
          rw [← e]
          exact List.mem_iff_getElem.2 ⟨q, by rw [List.length_set]; exact hq, by rw [List.getElem_set, if_neg hqn]⟩
    rw [hmem, h.2 k' j]
    simp only [setLast]
    by_cases ek : k' = k
    · rw [if_pos ek]
      constructor
      · rintro (⟨_, rfl⟩ | ⟨hne, _⟩)
        · exact ⟨rfl, hi⟩
        · exact absurd ek hne
      · rintro ⟨e, _⟩
        exact .inl ⟨ek, e.symm⟩
    · rw [if_neg ek]
      constructor
      · rintro (⟨e, _⟩ | ⟨_, hx⟩)
        · exact absurd e ek
        · exact hx
      · exact fun hx => .inr ⟨ek, hx⟩
  · rw [if_neg hc]
    have hk : k ∉ ls.map (·.1) := fun hm => by
      obtain ⟨x, hx, e⟩ := List.mem_map.1 hm
      obtain ⟨q, hq, rfl⟩ := List.getElem_of_mem hx
      have g : ls.getD q (e0, 0) = ls[q] := by simp [List.getD_eq_getElem?_getD, hq]
      have h1 : ¬ q < rpos ls k := fun hh => by
        have := rpos_lt ls q hh
        rw [g, e, swoT.irrefl] at this; cases this
      have hf : rpos ls k < ls.length := by omega
      have hat := rpos_at ls hf
      refine hc ⟨hf, ?_⟩
      rcases Nat.lt_or_ge (rpos ls k) q with hh | hh
      · have h2 := inc_getD h.1 e0 (i := rpos ls k) (j := q) hh (by simpa using hq)
        rw [lgetD, lgetD, g, e, hat] at h2
        cases h2
      · have : rpos ls k = q := by omega
        rw [this, g]; exact e
    refine ⟨insL_inc h.1 hk, fun k' j => ?_⟩
    rw [insL_mem, h.2 k' j]
    simp only [setLast]
    by_cases ek : k' = k
    · rw [if_pos ek]
      constructor
      · rintro (e | ⟨e, hj⟩)
        · injection e with _ e2; exact ⟨e2.symm, by rw [e2]; exact hi⟩
        · exact absurd (List.mem_map.2 ⟨(k', j), (h.2 k' j).2 ⟨e, hj⟩, ek⟩) hk
      · rintro ⟨e, _⟩
        exact .inl (by rw [ek, e])
    · rw [if_neg ek]
      constructor
      · rintro (e | hx)
        · injection e with e1 _; exact absurd e1 ek
        · exact hx
      · exact .inr
theorem IsLs.congr {s s' : St} {ls : List Mk} (h : IsLs s ls) (he : ∀ k, s'.last k = s.last k) : IsLs s' ls := ⟨h.1, fun k i => by rw [he]; exact h.2 k i⟩
/-! ### Commit -/
def stepL (i : Nat) (ls : List Mk) (x : KV) : List Mk := if x.m.2 = i ∧ lastIn ls x.m.1 < i then raiseL ls x.m.1 i else ls
def upL (b : Bool) (l i : Nat) : Nat := if (b && decide (l < i)) = true then i else l
theorem upL_t {l i : Nat} (h : l < i) : upL true l i = i := by unfold upL; rw [decide_eq_true h]; rfl
theorem upL_n {b : Bool} {l i : Nat} (h : ¬ l < i) : upL b l i = l := by unfold upL; rw [decide_eq_false h, Bool.and_false]; rfl
theorem upL_f {l i : Nat} : upL false l i = l := rfl
theorem comLs_is (i : Nat) (hi : i ≠ 0) : ∀ (ks : List KV) (s : St) (ls : List Mk), IsLs s ls → IsLs ⟨s.V, fun k => upL (hasM ks (k, i)) (s.last k) i⟩ (ks.foldl (stepL i) ls)
  | [], s, ls, h => h.congr (fun k => rfl)
  | x :: r, s, ls, h => by
    have hx : lastIn ls x.m.1 = s.last x.m.1 := lastIn_is h _
    rw [List.foldl_cons]
    by_cases hc : x.m.2 = i ∧ s.last x.m.1 < i
    · have e : stepL i ls x = raiseL ls x.m.1 i := by unfold stepL; rw [hx, if_pos hc]
      rw [e]
      refine (comLs_is i hi r _ _ (raise_is h x.m.1 i hi)).congr (fun k => ?_)
      show upL (hasM (x :: r) (k, i)) (s.last k) i = upL (hasM r (k, i)) (if k = x.m.1 then i else s.last k) i
      have hxm : x.m = (x.m.1, i) := by rw [← hc.1]
      by_cases ek : k = x.m.1
      · have h1 : decide (x.m = (k, i)) = true := decide_eq_true (by rw [ek]; exact hxm)
        rw [hasM_cons, h1, Bool.true_or, if_pos ek, upL_t (by rw [ek]; exact hc.2), upL_n (Nat.lt_irrefl i)]
      · have h1 : decide (x.m = (k, i)) = false := decide_eq_false (fun e => ek (by rw [e]))
        rw [hasM_cons, h1, Bool.false_or, if_neg ek]
    · have e : stepL i ls x = ls := by unfold stepL; rw [hx, if_neg hc]
      rw [e]
      refine (comLs_is i hi r s ls h).congr (fun k => ?_)
      show upL (hasM (x :: r) (k, i)) (s.last k) i = upL (hasM r (k, i)) (s.last k) i
      by_cases ek : x.m = (k, i)
      · have h1 : ¬ s.last k < i := fun hh => hc (by rw [ek]; exact ⟨rfl, hh⟩)
        rw [upL_n h1, upL_n h1]
      · rw [hasM_cons, decide_eq_false ek, Bool.false_or]
def stampK (ls : List Mk) (now : Int) (x : KV) : KV := if x.stamp = -1 ∧ x.m.2 < lastIn ls x.m.1 then { x with stamp := now } else x
theorem stampK_m (ls : List Mk) (now : Int) (x : KV) : (stampK ls now x).m = x.m := by unfold stampK; split <;> rfl
theorem Rl.com {s : St} {ks : List KV} {ls : List Mk} (h : Rl s ks ls) (hok : Ok s) (i : Nat) (hi : i ≠ 0) (now : Int) : Rl (commitS s i now) (ks.map (stampK (ks.foldl (stepL i) ls) now)) (ks.foldl (stepL i) ls) := by
  have hup : ∀ k, upB s i k = true ↔ hasM ks (k, i) = true ∧ s.last k < i := fun k => by
    rw [upB_iff, hasM_iff]
    refine and_congr_left (fun _ => ⟨h.all _, fun hm => ?_⟩)
    obtain ⟨x, hx, e⟩ := List.mem_map.1 hm
    rw [← e, h.is x hx]; simp
  have hls : IsLs (commitS s i now) (ks.foldl (stepL i) ls) := (comLs_is i hi ks s ls h.la).congr (fun k => by
    rw [com_last]
    by_cases hu : upB s i k = true
    · rw [if_pos hu]
      obtain ⟨q1, q2⟩ := (hup k).1 hu
      show i = upL (hasM ks (k, i)) (s.last k) i
      rw [q1, upL_t q2]
    · rw [if_neg hu]
      show s.last k = upL (hasM ks (k, i)) (s.last k) i
      cases hm : hasM ks (k, i) with
      | false => rfl
      | true => rw [upL_n (fun hl => hu ((hup k).2 ⟨hm, hl⟩))])
  have hm : (ks.map (stampK (ks.foldl (stepL i) ls) now)).map (·.m) = ks.map (·.m) := by
    rw [List.map_map]
    exact List.map_congr_left (fun x _ => stampK_m _ _ x)
  refine ⟨fun y hy => ?_, fun m hm' => ?_, by rw [hm]; exact h.inc, hls⟩
  · obtain ⟨x, hx, rfl⟩ := List.mem_map.1 hy
    have hv := h.is x hx
    rw [stampK_m, com_V]
    have hl : lastIn (ks.foldl (stepL i) ls) x.m.1 = if upB s i x.m.1 = true then i else s.last x.m.1 := by rw [lastIn_is hls, com_last]
    unfold stampK
    rw [hl]
    by_cases hu : upB s i x.m.1 = true
    · rw [if_pos hu]
      by_cases hlt : x.m.2 < i
      · rw [if_pos ⟨hu, hlt⟩, hv]
        by_cases hs : x.stamp = -1
        · rw [if_pos ⟨hs, hlt⟩]
          simp [stamped, hs, Vr.at]
        · rw [if_neg (fun hh => hs hh.1)]
          simp [stamped, hs]
      · rw [if_neg (fun hh => hlt hh.2), if_neg (fun hh => hlt hh.2), hv]
    · rw [if_neg hu, if_neg (fun hh => hu hh.1)]
      by_cases hs : x.stamp = -1 ∧ x.m.2 < s.last x.m.1
      · have := ((hok.st _ _ hv).1 hs.2).1
        simp only at this
        omega
      · rw [if_neg hs, hv]
  · rw [hm]
    exact h.all m ((comD_iff m).1 hm')
/-! ### Has, Committed -/
def hasC (ks : List KV) (i : Nat) : Nat := (ks.filter fun x => decide (x.m.2 = i)).length
def comB (ks : List KV) (ls : List Mk) (i : Nat) : Bool := ks.all fun x => !(decide (x.m.2 = i) && decide (lastIn ls x.m.1 < i))
theorem Rl.comB {s : St} {ks : List KV} {ls : List Mk} (h : Rl s ks ls) (i : Nat) : comB ks ls i = true ↔ ∀ k, s.V (k, i) ≠ none → ¬ s.last k < i := by
  unfold Go.Proofs.YtagekdmkidbhpaaGreat.comB
  rw [List.all_eq_true]
  constructor
  · intro hh k hk hl
    obtain ⟨x, hx, e⟩ := List.mem_map.1 (h.all _ hk)
    have := hh x hx
    rw [lastIn_is h.la, e] at this
    simp [hl] at this
  · intro hh x hx
    rw [lastIn_is h.la]
    cases h1 : decide (x.m.2 = i) with
    | false => rfl
    | true =>
      have h2 : x.m.2 = i := by simpa using h1
      have h3 := hh x.m.1 (by rw [← h2]; show s.V x.m ≠ none; rw [h.is x hx]; simp)
      simp only [Bool.true_and, Bool.not_eq_true', decide_eq_false_iff_not]
      exact h3
/-! ### Put -/
theorem miss_take (s : St) (i : Nat) (ps : List Pr) (t : Nat) (ht : t < ps.length) : miss s i (ps.take (t + 1)) = miss s i (ps.take t) ++ (if (s.V ((ps.getD t p0).1, i)).isNone = true then [ps.getD t p0] else []) := by
  unfold miss
  rw [take_succ_getD ps t p0 ht, List.filter_append]
  congr 1
  by_cases hv : (s.V ((ps.getD t p0).1, i)).isNone = true
  · rw [if_pos hv, List.filter_cons, if_pos hv]; rfl
  · rw [if_neg hv, List.filter_cons, if_neg hv]; rfl
theorem put_at {s : St} {i : Nat} {keys : List Tx} {now : Int} {ps : List Pr} (hr : Inc ltp ps) {t : Nat} (ht : t < ps.length) : (putAll i keys now s (miss s i (ps.take t))).V ((ps.getD t p0).1, i) = s.V ((ps.getD t p0).1, i) := by
  refine putAll_V _ _ _ _ _ _ (fun p hp e => ?_)
  have hp' : p ∈ ps.take t := (List.mem_filter.1 hp).1
  obtain ⟨j, hj, hjl, rfl⟩ := mem_take_getD p0 hp'
  have h1 := inc_getD hr p0 (i := j) (j := t) hj ht
  have h2 : (ps.getD j p0).1 = (ps.getD t p0).1 := (Prod.mk.inj e).1
  unfold ltp at h1
  rw [h2, swoT.irrefl] at h1
  cases h1
/-- a round of Put -/
theorem Rl.put {s : St} {ks : List KV} {ls : List Mk} {i : Nat} {keys : List Tx} {now : Int} {ps : List Pr} {t : Nat} (h : Rl (putAll i keys now s (miss s i (ps.take t))) ks ls) (hr : Inc ltp ps) (ht : t < ps.length) :
    (Go.Proofs.YtagekdmkidbhpaaGreat.there ks ((ps.getD t p0).1, i) = true → miss s i (ps.take (t + 1)) = miss s i (ps.take t)) ∧
    (Go.Proofs.YtagekdmkidbhpaaGreat.there ks ((ps.getD t p0).1, i) = false → miss s i (ps.take (t + 1)) = miss s i (ps.take t) ++ [ps.getD t p0] ∧ ∀ o c, Rl (putAll i keys now s (miss s i (ps.take (t + 1)))) (insK ks ⟨((ps.getD t p0).1, i), (ps.getD t p0).2, o, c, keys, if i < lastIn ls (ps.getD t p0).1 then now else -1⟩) ls) := by
  have e1 := h.there ((ps.getD t p0).1, i)
  rw [put_at hr ht] at e1
  rw [e1]
  refine ⟨fun hs => ?_, fun hs => ?_⟩
  · rw [miss_take s i ps t ht, if_neg (by cases hv : s.V ((ps.getD t p0).1, i) with | none => rw [hv] at hs; cases hs | some v => simp), List.append_nil]
  · have hv : s.V ((ps.getD t p0).1, i) = none := by
      cases hv : s.V ((ps.getD t p0).1, i) with
      | none => rfl
      | some v => rw [hv] at hs; cases hs
    have e2 : miss s i (ps.take (t + 1)) = miss s i (ps.take t) ++ [ps.getD t p0] := by
      rw [miss_take s i ps t ht, if_pos (by rw [hv]; rfl)]
    refine ⟨e2, fun o c => ?_⟩
    rw [e2, putAll_snoc]
    unfold put1
    have h3 := h.add ⟨((ps.getD t p0).1, i), (ps.getD t p0).2, o, c, keys, if i < lastIn ls (ps.getD t p0).1 then now else -1⟩ (by rw [put_at hr ht]; exact hv)
    rw [show stampOf (putAll i keys now s (miss s i (ps.take t))) i now (ps.getD t p0).1 = (if i < lastIn ls (ps.getD t p0).1 then now else -1) by unfold stampOf; rw [lastIn_is h.la]]
    exact h3
/-- pairs of a write are few -/
theorem pairs_few {i : Nat} {ps : List Pr} {keys : List Tx} {now : Int} (h : okPut i ps keys now = true) : ps.length ≤ 1024 := by
  obtain ⟨_, h2, h3, _⟩ := okPut_iff.1 h
  obtain ⟨h4, _, h5⟩ := okPairs_iff.1 h3
  have hk := (okKeys_iff.1 h2).1.2
  have hnd : (ps.map (·.1)).Nodup := by
    have : Inc lts (ps.map (·.1)) := by
      unfold Inc at h5 ⊢
      rw [List.pairwise_map]
      exact h5
    exact inc_nodup swoT this
  have hsub : ∀ k ∈ ps.map (·.1), k ∈ keys := fun k hk' => by
    obtain ⟨p, hp, rfl⟩ := List.mem_map.1 hk'
    exact (h4 p hp).2
  have := len_sub _ _ hnd hsub
  rw [List.length_map] at this
  omega
end Go.Proofs.YtagekdmkidbhpaaGreat
/- The document's store: New, May, Has, Committed. -/
namespace Go.Proofs.YtagekdmkidbhpaaGreat
open Go.RowKit Go.Maps Go.Sort Orl
set_option linter.unusedVariables false
set_option linter.unusedSimpArgs false

theorem rNew_any (w : World) : Calls Tryz.prog 20 #[] w fun e w' => ∃ p, e = .returned (.pointer (some ⟨p, 0, none⟩)) ∧ Hid (RO (fun b => w.heap.size ≤ b) w' p none 0 0 none 0 0 [] [] ∧ Keeps no w w') := by
  go_enter Tryz.func20, Tryz.ntmps20
  go_wp2_with fail
  go_ret
  exact ⟨w.heap.size, rfl, ⟨blk_new w _, own_nil _, fun x hx => (by cases hx), own_nil _, rfl, rfl, by simp, by simp, Nat.le_refl _, fun b ⟨x, e, _⟩ => (by cases e), fun x hx => (by cases hx), fun b ⟨x, e, _⟩ => (by cases e)⟩, (Keeps.refl no w).alloc _⟩
theorem lt_P {P : Nat → Prop} {t : Nat} (h : ∀ j, j < t → P j) (h1 : P t) : ∀ j, j < t + 1 → P j := fun j hj => by
  by_cases e : j = t
  · rw [e]; exact h1
  · exact h j (by omega)
theorem hasC_succ (ks : List KV) (i t : Nat) (ht : t < ks.length) : hasC (ks.take (t + 1)) i = hasC (ks.take t) i + (if (ks.getD t kv0).m.2 = i then 1 else 0) := by
  unfold hasC
  rw [take_succ_getD ks t kv0 ht, List.filter_append, List.length_append]
  congr 1
  generalize ks.getD t kv0 = x
  by_cases h : x.m.2 = i
  · rw [if_pos h]; simp [h]
  · rw [if_neg h]; simp [h]
theorem hasC_le (ks : List KV) (i : Nat) : hasC ks i ≤ ks.length := List.length_filter_le _ _
end Go.Proofs.YtagekdmkidbhpaaGreat
/- The document's May. -/
namespace Go.Proofs.YtagekdmkidbhpaaGreat
open Go.RowKit Go.Maps Go.Sort Orl
set_option linter.unusedVariables false
set_option linter.unusedSimpArgs false

def mayB (i : Nat) (ps : List Pr) (keys : List Tx) : Bool := decide (65536 ≤ i) && (okKeys keys && okPairs ps keys)
theorem okPut_may (i : Nat) (ps : List Pr) (keys : List Tx) (now : Int) : okPut i ps keys now = (mayB i ps keys && tickB now) := by
  unfold okPut mayB
  cases decide (65536 ≤ i) <;> cases okKeys keys <;> cases okPairs ps keys <;> rfl
theorem pairs_f1 {ps : List Pr} {keys : List Tx} {t : Nat} (ht : t < ps.length) (h : 65535 < (ps.getD t p0).2.size ∨ inn keys (ps.getD t p0).1 = false) : okPairs ps keys = false := by
  have h1 : (ps.all fun p => decide (p.2.size ≤ 65535) && inn keys p.1) = false := by
    rw [List.all_eq_false]
    refine ⟨_, getD_mem_lt p0 ht, ?_⟩
    rcases h with h | h
    · rw [decide_eq_false (by omega)]; simp
    · rw [h, Bool.and_false]; simp
  unfold okPairs
  rw [h1]; rfl
theorem pairs_f2 {ps : List Pr} {keys : List Tx} {t : Nat} (ht : t + 1 < ps.length) (h : ltp (ps.getD t p0) (ps.getD (t + 1) p0) = false) : okPairs ps keys = false := by
  unfold okPairs
  rw [rising_fail p0 ps t ht h, Bool.and_false, Bool.and_false]
theorem pairs_ok {ps : List Pr} {keys : List Tx} (h0 : 0 < ps.length) (h1 : ∀ j, j < ps.length → (ps.getD j p0).2.size ≤ 65535 ∧ inn keys (ps.getD j p0).1 = true) (h2 : ∀ j, j + 1 < ps.length → ltp (ps.getD j p0) (ps.getD (j + 1) p0) = true) : okPairs ps keys = true := by
  have h3 : (ps.all fun p => decide (p.2.size ≤ 65535) && inn keys p.1) = true := by
    rw [List.all_eq_true]
    intro x hx
    obtain ⟨j, hj, rfl⟩ := List.getElem_of_mem hx
    have := h1 j hj
    rw [List.getD_eq_getElem?_getD, List.getElem?_eq_getElem hj] at this
    obtain ⟨q1, q2⟩ := this
    have q1' : (ps[j]).2.size ≤ 65535 := q1
    have q2' : inn keys (ps[j]).1 = true := q2
    rw [decide_eq_true q1', q2']; rfl
  unfold okPairs
  rw [h3, decide_eq_true h0, rising_of_all p0 ps h2]; rfl
set_option maxRecDepth 10000 in
set_option maxHeartbeats 1000000 in
theorem rMay_any (w : World) (i : Nat) (ps : List Pr) (keys : List Tx) (ap : Option Addr) (np cp : Nat) (ak : Option Addr) (nk ck : Nat) (hnp : np = ps.length) (hnk : nk = keys.length) (hlp : ps.length ≤ 8796093021952) (hlk : keys.length ≤ 8796093021952) (hsp : Sl PE w ap cp ps) (hsk : Sl TE w ak ck keys) (hz : ∀ x ∈ keys, x.size ≤ 140737488351232) (hzp : ∀ x ∈ ps, x.2.size ≤ 140737488351232) :
    Calls Tryz.prog 54 #[.int .u64 ((i : Nat) : Int), .slice ap np cp, .slice ak nk ck] w fun e w' => e = .returned (.bool (mayB i ps keys)) ∧ Keeps no w w' := by
  have HA : Hid (np = ps.length ∧ nk = keys.length ∧ keys.length ≤ 8796093021952 ∧ Sl PE w ap cp ps ∧ Sl TE w ak ck keys ∧ (∀ x ∈ keys, x.size ≤ 140737488351232) ∧ ∀ x ∈ ps, x.2.size ≤ 140737488351232) := ⟨hnp, hnk, hlk, hsp, hsk, hz, hzp⟩
  have hA : (np : Int) ≤ 8796093021952 := by omega
  obtain ⟨R, hR⟩ : ∃ R, mayB i ps keys = R := ⟨_, rfl⟩
  have HR : Hid ((decide (65536 ≤ i) && (okKeys keys && okPairs ps keys)) = R) := hR
  rw [hR]
  obtain ⟨B1, hB1⟩ : ∃ B, decide (65536 ≤ i) = B := ⟨_, rfl⟩
  have HB1 : Hid (decide (65536 ≤ i) = B1) := hB1
  have c1 := fun X => refID_any X i
  rw [hB1] at c1
  clear hnp hnk hlp hlk hsp hsk hz hzp hR hB1
  go_enter Tryz.func54, Tryz.ntmps54
  go_wp2_with fail
  refine (c1 _).mono ?_
  rintro e w1 ⟨rfl, hw1⟩
  subst w1
  clear c1
  cases B1
  · go_wp2_with fail
    go_ret
    exact ⟨by rw [← HR.out, HB1.out]; rfl, Keeps.refl _ _⟩
  · go_wp2_with fail
    refine (refWhole_any w ak nk ck keys HA.out.2.1 (by have := HA.out.2.2.1; omega) HA.out.2.2.2.2.2.1 HA.out.2.2.2.2.1).mono ?_
    rintro e w1 ⟨rfl, hk1⟩
    have HK1 : Hid (Keeps no w w1) := hk1
    obtain ⟨B2, hB2⟩ : ∃ B, okKeys keys = B := ⟨_, rfl⟩
    have HB2 : Hid (okKeys keys = B2) := hB2
    rw [hB2]
    clear hk1 hB2
    cases B2
    · go_wp2_with fail
      go_ret
      exact ⟨by rw [← HR.out, HB1.out, HB2.out]; rfl, HK1.out⟩
    · have HRR : Hid (R = okPairs ps keys) := by rw [← HR.out, HB1.out, HB2.out]; rfl
      by_cases h0 : np = 0
      · have HE : Hid (R = false) := by
          show _ = _
          rw [HRR.out]
          have := HA.out.1
          unfold okPairs
          rw [decide_eq_false (by omega), Bool.false_and, Bool.and_false]
        subst h0
        go_wp2_with fail
        go_ret
        exact ⟨by rw [HE.out]; rfl, HK1.out⟩
      · have h0' : ¬ (np : Int) < 1 := by omega
        clear h0
        go_wp2_with fail
        go_loopw [7, 8] (fun z _ wr => ∃ t : Nat, t ≤ np ∧ z = .int .i64 t ∧ Hid (Keeps no w wr ∧ (∀ j, j < t → (ps.getD j p0).2.size ≤ 65535 ∧ inn keys (ps.getD j p0).1 = true) ∧ ∀ j, j + 1 < t → ltp (ps.getD j p0) (ps.getD (j + 1) p0) = true)) (fun z _ _ => np - (intOf z).toNat)
        case atStart => exact ⟨0, by omega, rfl, HK1.out, fun j hj => absurd hj (Nat.not_lt_zero _), fun j hj => absurd hj (Nat.not_lt_zero _)⟩
        case round =>
          obtain ⟨t, ht, rfl, HT⟩ := hrel
          by_cases htl : t < np
          · have htl' : (t : Int) < np := by omega
            have hta : t < ps.length := by have := HA.out.1; omega
            obtain ⟨g, off, e1, d0, d1⟩ := (HA.out.2.2.2.1.keepsN HT.out.1).atP hta
            subst e1
            have hsz := HA.out.2.2.2.2.2.2 _ (getD_mem_lt p0 hta)
            obtain ⟨x, hx⟩ : ∃ x, x = ps.getD t p0 := ⟨_, rfl⟩
            rw [← hx] at d0 d1 hsz
            have HX : Hid (x = ps.getD t p0 ∧ t < ps.length) := ⟨hx, hta⟩
            obtain ⟨xk, xv⟩ := x
            simp only at d0 d1 hsz
            have hxb : (xv.size : Int) ≤ 140737488351232 := by omega
            clear hx hta hsz
            go_upto_region 7 with fail
            have HKA : Hid (Keeps no w (wr.alloc (.cells #[.string xk, .string xv] 72)) ∧ (wr.alloc (.cells #[.string xk, .string xv] 72)).heap[wr.heap.size]? = some (.cells #[.string xk, .string xv] 72 (0, 0))) := ⟨HT.out.1.alloc _, blk_new wr _⟩
            generalize wr.alloc (.cells #[.string xk, .string xv] 72) = wa at HKA ⊢
            generalize wr.heap.size = ga at HKA ⊢
            obtain ⟨B3, hB3⟩ : ∃ B, inn keys xk = B := ⟨_, rfl⟩
            have HB0 : Hid (inn keys xk = B3) := hB3
            have cH := call_grown (W := wa) (f := 85) (args := #[.slice ak nk ck, .string xk]) (v := .bool B3) (fun X hX => by rw [← hB3]; exact (refHas_any X ak nk ck keys xk HA.out.2.1 (by have := HA.out.2.2.1; omega) (HA.out.2.2.2.2.1.keepsN (HKA.out.1.trans hX))).mono (fun e w' ⟨h1, h2⟩ => ⟨h1, by rw [h2]; exact Keeps.refl _ _⟩))
            have z0 := cell_regrown (cell_of_blk HKA.out.2 0)
            have z1 := cell_regrown (cell_of_blk HKA.out.2 1)
            clear hB3 d0 d1
            cases B3
            · have HF : Hid (R = false) := by
                show _ = _
                rw [HRR.out]
                exact pairs_f1 HX.out.2 (by rw [← HX.out.1]; exact .inr HB0.out)
              go_wp2_with fail
              refine wp_region_quiet_below (by kernel_rfl) (by kernel_rfl) ?_
              repeat (go_big_quiet_step (exact cH _ _))
              refine wpQuiet_nil ?_
              intro _ hw'
              obtain ⟨⟨dq, osq⟩, rfl⟩ := hw'
              have HK2 : Hid (Keeps no w (Sort.grow (redrawn wa dq) osq)) := HKA.out.1.trans (keeps_grownQ ..)
              generalize Sort.grow (redrawn wa dq) osq = w2 at HK2 ⊢
              clear cH z0 z1
              go_wp2_with fail
              go_ret
              exact ⟨by rw [HF.out]; rfl, HK2.out⟩
            · have HB3 : Hid (inn keys (ps.getD t p0).1 = true) := by rw [← HX.out.1]; exact HB0.out
              by_cases hvl : 65535 < xv.size
              · have hvl' : (65535 : Int) < (xv.size : Int) := by omega
                have hvd : decide ((65535 : Int) < (xv.size : Int)) = true := decide_eq_true hvl'
                have HF : Hid (R = false) := by
                  show _ = _
                  rw [HRR.out]
                  exact pairs_f1 HX.out.2 (by rw [← HX.out.1]; exact .inl hvl)
                clear hvl
                go_wp2_with fail
                refine wp_region_quiet_below (by kernel_rfl) (by kernel_rfl) ?_
                repeat (go_big_quiet_step (exact cH _ _))
                refine wpQuiet_nil ?_
                intro _ hw'
                obtain ⟨⟨dq, osq⟩, rfl⟩ := hw'
                have HK2 : Hid (Keeps no w (Sort.grow (redrawn wa dq) osq)) := HKA.out.1.trans (keeps_grownQ ..)
                generalize Sort.grow (redrawn wa dq) osq = w2 at HK2 ⊢
                clear cH z0 z1
                go_wp2_with fail
                go_ret
                exact ⟨by rw [HF.out]; rfl, HK2.out⟩
              · have hvl' : ¬ (65535 : Int) < (xv.size : Int) := by omega
                have hvd : decide ((65535 : Int) < (xv.size : Int)) = false := decide_eq_false hvl'
                have HSZ : Hid ((ps.getD t p0).2.size ≤ 65535) := by rw [← HX.out.1]; show xv.size ≤ 65535; omega
                clear hvl
                by_cases ht0 : t = 0
                · have htp : decide ((0 : Int) < (t : Int)) = false := decide_eq_false (by omega)
                  have htq : decide (0 < t) = false := decide_eq_false (by omega)
                  have HT0 : Hid (t = 0) := ht0
                  clear ht0
                  go_wp2_with fail
                  refine wp_region_quiet_below (by kernel_rfl) (by kernel_rfl) ?_
                  repeat (go_big_quiet_step (exact cH _ _))
                  refine wpQuiet_nil ?_
                  intro _ hw'
                  obtain ⟨⟨dq, osq⟩, rfl⟩ := hw'
                  have HK2 : Hid (Keeps no w (Sort.grow (redrawn wa dq) osq)) := HKA.out.1.trans (keeps_grownQ ..)
                  generalize Sort.grow (redrawn wa dq) osq = w2 at HK2 ⊢
                  clear cH z0 z1
                  go_wp2_with fail
                  go_roundw
                  case rel => exact ⟨t + 1, by omega, by go_num, HK2.out, lt_P HT.out.2.1 ⟨HSZ.out, HB3.out⟩, lt_lt HT.out.2.2 (.inl HT0.out)⟩
                  case measure => simp [intOf]; omega
                · obtain ⟨q, hq⟩ : ∃ q, t = q + 1 := ⟨t - 1, by omega⟩
                  have hqa : q < ps.length := by have := HX.out.2; omega
                  obtain ⟨g', off', e1, f0, f1⟩ := (HA.out.2.2.2.1.keepsN HKA.out.1).atP hqa
                  cases e1
                  obtain ⟨y, hy⟩ : ∃ y, y = ps.getD q p0 := ⟨_, rfl⟩
                  rw [← hy] at f0 f1
                  obtain ⟨yk, yv⟩ := y
                  simp only at f0 f1
                  have HY : Hid ((yk, yv) = ps.getD q p0 ∧ t = q + 1) := ⟨hy, hq⟩
                  have y0 := cell_regrown f0
                  have htp : decide ((0 : Int) < (t : Int)) = true := decide_eq_true (by omega)
                  have htq : decide (0 < t) = true := decide_eq_true (by omega)
                  have hts : IntKind.i64.wrap ((t : Int) - 1) = ((q : Nat) : Int) := by rw [IntKind.wrap_i64]; omega
                  have hsn : ((q : Nat) : Int) < np := by omega
                  clear hy hq ht0 hqa f0 f1
                  cases hlt : Op.bytesLess yk.toList xk.toList
                  · have HF : Hid (R = false) := by
                      show _ = _
                      rw [HRR.out]
                      refine pairs_f2 (t := q) (by have := HX.out.2; have := HY.out.2; omega) ?_
                      rw [← HY.out.2, ← HY.out.1, ← HX.out.1]
                      exact hlt
                    go_wp2_with fail
                    refine wp_region_quiet_below (by kernel_rfl) (by kernel_rfl) ?_
                    repeat (go_big_quiet_step (exact cH _ _))
                    refine wpQuiet_nil ?_
                    intro _ hw'
                    obtain ⟨⟨dq, osq⟩, rfl⟩ := hw'
                    have HK2 : Hid (Keeps no w (Sort.grow (redrawn wa dq) osq)) := HKA.out.1.trans (keeps_grownQ ..)
                    generalize Sort.grow (redrawn wa dq) osq = w2 at HK2 ⊢
                    clear cH z0 z1
                    go_wp2_with fail
                    go_ret
                    exact ⟨by rw [HF.out]; rfl, HK2.out⟩
                  · have HLT : Hid (ltp (ps.getD (t - 1) p0) (ps.getD t p0) = true) := by
                      rw [← HX.out.1, HY.out.2, Nat.add_sub_cancel, ← HY.out.1]
                      exact hlt
                    go_wp2_with fail
                    refine wp_region_quiet_below (by kernel_rfl) (by kernel_rfl) ?_
                    repeat (go_big_quiet_step (exact cH _ _))
                    refine wpQuiet_nil ?_
                    intro _ hw'
                    obtain ⟨⟨dq, osq⟩, rfl⟩ := hw'
                    have HK2 : Hid (Keeps no w (Sort.grow (redrawn wa dq) osq)) := HKA.out.1.trans (keeps_grownQ ..)
                    generalize Sort.grow (redrawn wa dq) osq = w2 at HK2 ⊢
                    clear cH z0 z1
                    go_wp2_with fail
                    go_roundw
                    case rel => exact ⟨t + 1, by omega, by go_num, HK2.out, lt_P HT.out.2.1 ⟨HSZ.out, HB3.out⟩, lt_lt HT.out.2.2 (.inr HLT.out)⟩
                    case measure => simp [intOf]; omega
          · have htl' : ¬ (t : Int) < np := by omega
            have HF : Hid (R = true) := by
              show _ = _
              rw [HRR.out]
              exact pairs_ok (by have := HA.out.1; omega) (fun j hj => HT.out.2.1 j (by have := HA.out.1; omega)) (fun j hj => HT.out.2.2 j (by have := HA.out.1; omega))
            go_wp2_with fail
            go_ret
            exact ⟨by rw [HF.out]; rfl, HT.out.1⟩
end Go.Proofs.YtagekdmkidbhpaaGreat
/- Lists of versions and of lasts, cut. -/
namespace Go.Proofs.YtagekdmkidbhpaaGreat
open Go.RowKit Go.Sort Orl
set_option linter.unusedVariables false
set_option linter.unusedSimpArgs false

theorem slK : Tryz.prog.underlying 32 = some (.slice (Tryz.prog.elem 32)) := by kernel_rfl
theorem slL : Tryz.prog.underlying 35 = some (.slice (Tryz.prog.elem 35)) := by kernel_rfl
def SubO (o A : Option Addr) : Prop := ∀ k, inO A k → inO o k
theorem sub_add (ad : Addr) (I k : Nat) (c : Nat) : SubO (some ad) (some (if c = I then ad else ad.add k)) := by
  rintro x ⟨y, e, rfl⟩
  cases e
  refine ⟨ad, rfl, ?_⟩
  split
  · rfl
  · obtain ⟨b, off, sp⟩ := ad
    simp [Addr.add]
    split <;> rfl
theorem cutK_h (w0 : World) (o : Option Addr) (c : Nat) (xs : List KV) (n I : Nat) (i : Int) (hi : i = (I : Nat)) (hn : n = xs.length) (hI : I ≤ n) (h : Sl KE w0 o c xs) :
    (∀ w, (Instr.slice 32 (.slice o n c) none (some (.int .i64 i)) none).run Tryz.prog w = .ok (.slice o I c) w) ∧ Sl KE w0 o c (xs.take I) := by
  subst hi hn
  have hcap := h.cap
  refine ⟨?_, ⟨h.row.take okK I, by rw [List.length_take]; omega, h.nil⟩⟩
  match o, h with
  | none, h =>
    obtain rfl : c = 0 := h.nil rfl
    intro w
    rw [run_slice_h w 32 none _ 0 slK .i64 _ (by omega) (by omega)]
    obtain rfl : I = 0 := by omega
    go_simp
  | some ad, h =>
    intro w
    rw [run_slice_h w 32 (some ad) _ c slK .i64 _ (by omega) (by omega)]
    go_simp
theorem cutK_l (w0 : World) (o : Option Addr) (c : Nat) (xs : List KV) (n I : Nat) (i : Int) (hi : i = (I : Nat)) (hn : n = xs.length) (hI : I ≤ n) (h : Sl KE w0 o c xs) :
    ∃ A d, (∀ w, (Instr.slice 32 (.slice o n c) (some (.int .i64 i)) none none).run Tryz.prog w = .ok (.slice A (n - I) d) w) ∧ Sl KE w0 A d (xs.drop I) ∧ SubO o A := by
  subst hi hn
  have hcap := h.cap
  match o, h with
  | none, h =>
    obtain rfl : c = 0 := h.nil rfl
    obtain rfl : I = 0 := by omega
    have h0 : xs = [] := List.length_eq_zero_iff.mp (by omega)
    subst h0
    refine ⟨none, 0, fun w => ?_, ⟨.inl rfl, by simp, fun _ => rfl⟩, fun _ h => h⟩
    rw [run_slice_l w 32 none _ 0 slK .i64 _ (by omega) (by simp)]
    go_simp
  | some ad, h =>
    refine ⟨some (if c = I then ad else ad.add (I * 5)), c - I, fun w => ?_, ⟨h.row.drop okK I (fun hlt b off e => ?_), by rw [List.length_drop]; omega, by simp⟩, sub_add _ _ _ _⟩
    · rw [run_slice_l w 32 (some ad) _ c slK .i64 _ (by omega) (by omega)]
      by_cases h : c = I
      · go_simp
      · go_simp
    · cases e
      rw [if_neg (by omega), addr_add]
      simp [KE]
theorem cutL_h (w0 : World) (o : Option Addr) (c : Nat) (xs : List Mk) (n I : Nat) (i : Int) (hi : i = (I : Nat)) (hn : n = xs.length) (hI : I ≤ n) (h : Sl LE w0 o c xs) :
    (∀ w, (Instr.slice 35 (.slice o n c) none (some (.int .i64 i)) none).run Tryz.prog w = .ok (.slice o I c) w) ∧ Sl LE w0 o c (xs.take I) := by
  subst hi hn
  have hcap := h.cap
  refine ⟨?_, ⟨h.row.take okL I, by rw [List.length_take]; omega, h.nil⟩⟩
  match o, h with
  | none, h =>
    obtain rfl : c = 0 := h.nil rfl
    intro w
    rw [run_slice_h w 35 none _ 0 slL .i64 _ (by omega) (by omega)]
    obtain rfl : I = 0 := by omega
    go_simp
  | some ad, h =>
    intro w
    rw [run_slice_h w 35 (some ad) _ c slL .i64 _ (by omega) (by omega)]
    go_simp
theorem cutL_l (w0 : World) (o : Option Addr) (c : Nat) (xs : List Mk) (n I : Nat) (i : Int) (hi : i = (I : Nat)) (hn : n = xs.length) (hI : I ≤ n) (h : Sl LE w0 o c xs) :
    ∃ A d, (∀ w, (Instr.slice 35 (.slice o n c) (some (.int .i64 i)) none none).run Tryz.prog w = .ok (.slice A (n - I) d) w) ∧ Sl LE w0 A d (xs.drop I) ∧ SubO o A := by
  subst hi hn
  have hcap := h.cap
  match o, h with
  | none, h =>
    obtain rfl : c = 0 := h.nil rfl
    obtain rfl : I = 0 := by omega
    have h0 : xs = [] := List.length_eq_zero_iff.mp (by omega)
    subst h0
    refine ⟨none, 0, fun w => ?_, ⟨.inl rfl, by simp, fun _ => rfl⟩, fun _ h => h⟩
    rw [run_slice_l w 35 none _ 0 slL .i64 _ (by omega) (by simp)]
    go_simp
  | some ad, h =>
    refine ⟨some (if c = I then ad else ad.add (I * 2)), c - I, fun w => ?_, ⟨h.row.drop okL I (fun hlt b off e => ?_), by rw [List.length_drop]; omega, by simp⟩, sub_add _ _ _ _⟩
    · rw [run_slice_l w 35 (some ad) _ c slL .i64 _ (by omega) (by omega)]
      by_cases h : c = I
      · go_simp
      · go_simp
    · cases e
      rw [if_neg (by omega), addr_add]
      simp [LE]
end Go.Proofs.YtagekdmkidbhpaaGreat
/- The document's store, some call later. -/
namespace Go.Proofs.YtagekdmkidbhpaaGreat
open Go.RowKit Go.Maps Go.Sort Orl
set_option linter.unusedVariables false
set_option linter.unusedSimpArgs false

/-- the document's store, some call later -/
def Aft (B : Nat → Prop) (w : World) (p : Nat) (ks : List KV) (ls : List Mk) (w' : World) : Prop := (∃ oK nK cK oL nL cL, RO (fun b => B b ∨ w.heap.size ≤ b) w' p oK nK cK oL nL cL ks ls) ∧ Keeps B w w'
theorem Aft.go {B : Nat → Prop} {w : World} {p : Nat} {ks : List KV} {ls : List Mk} {w' w'' : World} (h : Aft B w p ks ls w') (hk : Keeps no w' w'') : Aft B w p ks ls w'' := by
  obtain ⟨⟨oK, nK, cK, oL, nL, cL, h1⟩, h2⟩ := h
  exact ⟨⟨oK, nK, cK, oL, nL, cL, h1.keepsN hk⟩, h2.then hk (fun b hb => hb.elim)⟩
/-- a list put in the place of the old one -/
theorem ro_set {B : Nat → Prop} {wk w3 : World} {p : Nat} {oK : Option Addr} {nK cK : Nat} {oL : Option Addr} {nL cL : Nat} {ks : List KV} {ls : List Mk} (h : RO B wk p oK nK cK oL nL cL ks ls) {ks2 : List KV} (hx : ∀ x ∈ ks2, Own TE wk x.o x.c x.keys ∧ ∀ b, inO x.o b → B b) (k3 : Keeps no wk w3) {o3 : Option Addr} {n3 c3 : Nat} (h3 : Own KE w3 o3 c3 ks2) (hn3 : n3 = ks2.length) (n3w : ∀ b, inO o3 b → B b) (hl : ks2.length ≤ 1954687338211) :
    w3.cell? ⟨p, 0, none⟩ = some (.slice oK nK cK) ∧ w3.frozen? ⟨p, 0, none⟩ = false ∧ RO B (w3.setCell ⟨p, 0, none⟩ (.slice o3 n3 c3)) p o3 n3 c3 oL nL cL ks2 ls ∧ Keeps B wk (w3.setCell ⟨p, 0, none⟩ (.slice o3 n3 c3)) := by
  have h1 := h.keepsN k3
  have hks : Keeps (eqA p) w3 (w3.setCell ⟨p, 0, none⟩ (.slice o3 n3 c3)) := (Keeps.refl _ _).setA 0 _
  have hT : ∀ {o : Option Addr} {c : Nat} {ys : List Tx}, Own TE wk o c ys → Own TE (w3.setCell ⟨p, 0, none⟩ (.slice o3 n3 c3)) o c ys := fun hh => (hh.keepsN k3).keeps hks (fun b q1 e => own_ne (hh.keepsN k3) h1.b (by decide) b q1 e)
  refine ⟨cell_of_blk h1.b 0, frozen_of_blk h1.b 0, ⟨by rw [blk_set h1.b 0]; rfl, h3.keeps hks (fun b q1 e => own_ne h3 h1.b (by decide) b q1 e), fun x hx' => hT (hx x hx').1, h1.l.keeps hks (fun b q1 e => own_ne h1.l h1.b (by decide) b q1 e), hn3, h.nl, hl, h.ll, h.bp, n3w, fun x hx' => (hx x hx').2, h.bl⟩, k3.of_no.then hks (fun b hb => .inl (by have : b = p := hb; rw [this]; exact h.bp))⟩
theorem cells5 {w : World} {g : Nat} {a b c d e : Value} {t : TypeId} (h : w.heap[g]? = some (.cells #[a, b, c, d, e] t (0, 0))) : w.cell? ⟨g, 0, none⟩ = some a ∧ w.cell? ⟨g, 1, none⟩ = some b ∧ w.cell? ⟨g, 2, none⟩ = some c ∧ w.cell? ⟨g, 3, none⟩ = some d ∧ w.cell? ⟨g, 4, none⟩ = some e := ⟨cell_of_blk h 0, cell_of_blk h 1, cell_of_blk h 2, cell_of_blk h 3, cell_of_blk h 4⟩
end Go.Proofs.YtagekdmkidbhpaaGreat
/- The document's Put. -/
namespace Go.Proofs.YtagekdmkidbhpaaGreat
open Go.RowKit Go.Maps Go.Sort Orl
set_option linter.unusedVariables false
set_option linter.unusedSimpArgs false

theorem rPut_bad (w : World) (r : Value) (i : Nat) (ps : List Pr) (keys : List Tx) (now : Int) (ap : Option Addr) (np cp : Nat) (ak : Option Addr) (nk ck : Nat) (hnp : np = ps.length) (hnk : nk = keys.length) (hlp : ps.length ≤ 8796093021952) (hlk : keys.length ≤ 8796093021952) (hsp : Sl PE w ap cp ps) (hsk : Sl TE w ak ck keys) (hz : ∀ x ∈ keys, x.size ≤ 140737488351232) (hzp : ∀ x ∈ ps, x.2.size ≤ 140737488351232) (hbad : okPut i ps keys now = false) :
    Calls Tryz.prog 24 #[r, .int .u64 ((i : Nat) : Int), .slice ap np cp, .slice ak nk ck, .int .i64 now] w fun e w' => e = .returned (.tuple #[.bool false, .int .i64 1]) ∧ Keeps no w w' := by
  have hm := rMay_any w i ps keys ap np cp ak nk ck hnp hnk hlp hlk hsp hsk hz hzp
  have ht := fun X => rtick_any X now
  rw [okPut_may] at hbad
  generalize mayB i ps keys = B1 at hm hbad
  generalize tickB now = B2 at ht hbad
  clear hnp hnk hlp hlk hsp hsk hz hzp
  cases B1
  · clear ht hbad
    go_enter Tryz.func24, Tryz.ntmps24
    go_wp2_with fail
    refine hm.mono ?_
    rintro e w1 ⟨rfl, hk1⟩
    go_wp2_with fail
    go_ret2
    exact ⟨rfl, hk1⟩
  · have hb : B2 = false := by simpa using hbad
    subst hb
    clear hbad
    go_enter Tryz.func24, Tryz.ntmps24
    go_wp2_with fail
    refine hm.mono ?_
    rintro e w1 ⟨rfl, hk1⟩
    go_wp2_with fail
    refine (ht _).mono ?_
    rintro e w2 ⟨rfl, hw⟩
    subst w2
    go_wp2_with fail
    go_ret2
    exact ⟨rfl, hk1⟩
structure Kq (wr : World) (g : Nat) (xk : Tx) (i : Nat) (xv : Tx) (on : Option Addr) (nk cn : Nat) (keys : List Tx) (st : Int) (wc : World) : Prop where
  blk : wc.heap[g]? = some (.cells #[.string xk, .int .u64 ((i : Nat) : Int), .string xv, .slice on nk cn, .int .i64 st] 47 (0, 0))
  own : Own TE wc on cn keys
  new : wr.heap.size ≤ g
  newo : New wr on
  keep : Keeps no wr wc
theorem kqm_of {wr z : World} {g : Nat} (hz : z.heap[g]? = some (.cells #[.string ⟨#[]⟩, .int .u64 0, .string ⟨#[]⟩, .slice none 0 0, .int .i64 0] 47 (0, 0))) {xk : Tx} {i : Nat} {xv : Tx} {on : Option Addr} {nk cn : Nat} {keys : List Tx} (ho : Own TE z on cn keys) (hn : wr.heap.size ≤ g) (hno : New wr on) (hk : Keeps no wr z) : Kq wr g xk i xv on nk cn keys (-1) (((((z.setCell ⟨g, 0, none⟩ (.string xk)).setCell ⟨g, 1, none⟩ (.int .u64 ((i : Nat) : Int))).setCell ⟨g, 2, none⟩ (.string xv)).setCell ⟨g, 3, none⟩ (.slice on nk cn)).setCell ⟨g, 4, none⟩ (.int .i64 (-1))) := by
  have hs := set5 hz (.string xk) (.int .u64 ((i : Nat) : Int)) (.string xv) (.slice on nk cn) (.int .i64 (-1))
  unfold set5w at hs
  exact ⟨hs.1, ho.keeps hs.2 (fun b hb e => own_ne ho hz (by decide) b hb e), hn, hno, hk.then hs.2 (fun b hb => .inr (by have : b = g := hb; omega))⟩
theorem Kq.stamp {wr wc : World} {g : Nat} {xk : Tx} {i : Nat} {xv : Tx} {on : Option Addr} {nk cn : Nat} {keys : List Tx} {st : Int} (h : Kq wr g xk i xv on nk cn keys st wc) (z : Int) : Kq wr g xk i xv on nk cn keys z (wc.setCell ⟨g, 4, none⟩ (.int .i64 z)) := by
  have hk : Keeps (eqA g) wc (wc.setCell ⟨g, 4, none⟩ (.int .i64 z)) := (Keeps.refl _ _).setA 4 _
  refine ⟨by rw [blk_set h.blk 4]; rfl, h.own.keeps hk (fun b hb e => own_ne h.own h.blk (by decide) b hb e), h.new, h.newo, h.keep.then hk (fun b hb => .inr (by have : b = g := hb; have := h.new; omega))⟩
theorem Kq.go {wr wc wd : World} {g : Nat} {xk : Tx} {i : Nat} {xv : Tx} {on : Option Addr} {nk cn : Nat} {keys : List Tx} {st : Int} (h : Kq wr g xk i xv on nk cn keys st wc) (hk : Keeps no wc wd) : Kq wr g xk i xv on nk cn keys st wd := ⟨hk.at h.blk id, h.own.keepsN hk, h.new, h.newo, h.keep.trans hk⟩
theorem put_set {B : Nat → Prop} {w wk z2 z3 : World} {p : Nat} {oK : Option Addr} {nK cK : Nat} {oL : Option Addr} {nL cL : Nat} {ks : List KV} {ls : List Mk} (h : RO (fun b => B b ∨ w.heap.size ≤ b) wk p oK nK cK oL nL cL ks ls) {o2 : Option Addr} (hn2 : New wk o2) (hk2 : Keeps no wk z2) {R : Nat} {X : KV} (he : insK ks X = ks.take R ++ X :: ks.drop R) {o3 : Option Addr} {c3 n3 : Nat} (ho3 : Own KE z3 o3 c3 (ks.take R ++ [X] ++ ks.drop R)) (hap3 : Ap z2 o2 o3 z3) (hall : ∀ y ∈ insK ks X, Own TE wk y.o y.c y.keys ∧ ∀ b, inO y.o b → B b ∨ w.heap.size ≤ b) (hn3 : n3 = (insK ks X).length) (hl : (insK ks X).length ≤ 1954687338211) (hw : w.heap.size ≤ wk.heap.size) :
    z3.cell? ⟨p, 0, none⟩ = some (.slice oK nK cK) ∧ z3.frozen? ⟨p, 0, none⟩ = false ∧ RO (fun b => B b ∨ w.heap.size ≤ b) (z3.setCell ⟨p, 0, none⟩ (.slice o3 n3 c3)) p o3 n3 c3 oL nL cL (insK ks X) ls ∧ Keeps (fun b => B b ∨ w.heap.size ≤ b) wk (z3.setCell ⟨p, 0, none⟩ (.slice o3 n3 c3)) := by
  have hnw := hap3.new hn2 hk2
  rw [List.append_assoc] at ho3
  exact ro_set h hall hnw.2 (by rw [he]; exact ho3) hn3 (fun b hb => .inr (Nat.le_trans hw (hnw.1 b hb))) hl
structure Pq (B : Nat → Prop) (w : World) (p : Nat) (s : St) (ls : List Mk) (n0 i : Nat) (keys : List Tx) (now : Int) (ps : List Pr) (t : Nat) (wr : World) : Prop where
  ex : ∃ ks, Aft B w p ks ls wr ∧ Rl (putAll i keys now s (miss s i (ps.take t))) ks ls ∧ ks.length = n0 + (miss s i (ps.take t)).length
theorem pq_put {B : Nat → Prop} {w wk z : World} {p : Nat} {s : St} {ls : List Mk} {n0 i : Nat} {keys : List Tx} {now : Int} {ps : List Pr} {t : Nat} {ks1 : List KV} {X : KV} {y : Pr} {oK : Option Addr} {nK cK : Nat} {oL : Option Addr} {nL cL : Nat} (hr : Rl (putAll i keys now s (miss s i (ps.take (t + 1)))) (insK ks1 X) ls) (hl : ks1.length = n0 + (miss s i (ps.take t)).length) (he : miss s i (ps.take (t + 1)) = miss s i (ps.take t) ++ [y]) (hf : RO (fun b => B b ∨ w.heap.size ≤ b) z p oK nK cK oL nL cL (insK ks1 X) ls ∧ Keeps (fun b => B b ∨ w.heap.size ≤ b) wk z) (hk : Keeps B w wk) : Pq B w p s ls n0 i keys now ps (t + 1) z :=
  ⟨⟨insK ks1 X, ⟨⟨oK, nK, cK, oL, nL, cL, hf.1⟩, hk.then hf.2 (fun b hb => hb)⟩, hr, by rw [insK_length, he, List.length_append, hl, List.length_singleton]; omega⟩⟩
set_option maxRecDepth 10000 in
set_option maxHeartbeats 4000000 in
theorem rPut_good (B : Nat → Prop) (w : World) (p : Nat) (oK : Option Addr) (nK cK : Nat) (oL : Option Addr) (nL cL : Nat) (ks : List KV) (ls : List Mk) (h : RO B w p oK nK cK oL nL cL ks ls) (s : St) (hr : Rl s ks ls) (i : Nat) (ps : List Pr) (keys : List Tx) (now : Int) (ap : Option Addr) (np cp : Nat) (ak : Option Addr) (nk ck : Nat) (hnp : np = ps.length) (hnk : nk = keys.length) (hsp : Sl PE w ap cp ps) (hsk : Sl TE w ak ck keys) (hz : ∀ x ∈ keys, x.size ≤ 140737488351232) (hzp : ∀ x ∈ ps, x.2.size ≤ 140737488351232) (hBp : ∀ b, inO ap b → ¬ B b) (hBk : ∀ b, inO ak b → ¬ B b) (hlt : ∀ b, inO ap b ∨ inO ak b → b < w.heap.size) (hok : okPut i ps keys now = true) (hl : ks.length ≤ 1000000000) :
    Calls Tryz.prog 24 #[.pointer (some ⟨p, 0, none⟩), .int .u64 ((i : Nat) : Int), .slice ap np cp, .slice ak nk ck, .int .i64 now] w fun e w' => e = .returned (.tuple #[.bool (decide (0 < (miss s i ps).length)), .int .i64 0]) ∧ Hid (∃ ks', Aft B w p ks' ls w' ∧ Rl (putAll i keys now s (miss s i ps)) ks' ls ∧ ks'.length = ks.length + (miss s i ps).length) := by
  have hfew := pairs_few hok
  obtain ⟨k1, k2, k3, k4⟩ := okPut_iff.1 hok
  have hkl := (okKeys_iff.1 k2).1.2
  have hinc := (okPairs_iff.1 k3).2.2
  have hm := rMay_any w i ps keys ap np cp ak nk ck hnp hnk (by omega) (by omega) hsp hsk hz hzp
  have ht := fun X => rtick_any X now
  rw [show mayB i ps keys = true by unfold mayB; rw [decide_eq_true k1, k2, k3]; rfl] at hm
  rw [k4] at ht
  have HA : Hid (np = ps.length ∧ nk = keys.length ∧ ps.length ≤ 1024 ∧ keys.length ≤ 1024 ∧ Sl PE w ap cp ps ∧ Sl TE w ak ck keys ∧ Inc ltp ps ∧ (∀ b, inO ap b → ¬ B b ∧ b < w.heap.size) ∧ (∀ b, inO ak b → ¬ B b ∧ b < w.heap.size) ∧ ks.length ≤ 1000000000) := ⟨hnp, hnk, hfew, hkl, hsp, hsk, hinc, fun b hb => ⟨hBp b hb, hlt b (.inl hb)⟩, fun b hb => ⟨hBk b hb, hlt b (.inr hb)⟩, hl⟩
  have hA : (np : Int) ≤ 1024 := by omega
  have HR : Hid (RO B w p oK nK cK oL nL cL ks ls ∧ Rl s ks ls) := ⟨h, hr⟩
  have h0 : Hid (Pq B w p s ls ks.length i keys now ps 0 w) := ⟨⟨ks, ⟨⟨oK, nK, cK, oL, nL, cL, h.mono (fun b hb => .inl hb)⟩, Keeps.refl _ _⟩, by simpa [miss, putAll] using hr, by simp [miss]⟩⟩
  obtain ⟨n0, hn0⟩ : ∃ n0, n0 = ks.length := ⟨_, rfl⟩
  rw [← hn0] at h0 ⊢
  have HN0 : Hid (n0 ≤ 1000000000) := (show _ ≤ _ by omega)
  clear hnp hnk hsp hsk hz hzp hBp hBk hlt hok hl hfew k1 k2 k3 k4 hkl hinc h hr hn0
  go_enter Tryz.func24, Tryz.ntmps24
  go_wp2_with fail
  refine hm.mono ?_
  rintro e w1 ⟨rfl, hk1⟩
  clear hm
  go_wp2_with fail
  refine (ht _).mono ?_
  rintro e w2 ⟨rfl, hw⟩
  subst w2
  clear ht
  have H1 : Hid (Pq B w p s ls n0 i keys now ps 0 w1) := by
    obtain ⟨ks', g1, g2, g3⟩ := h0.out.ex
    exact ⟨⟨ks', g1.go hk1, g2, g3⟩⟩
  clear h0 hk1
  go_wp2_with fail
  go_loopw [12, 13, 14, 15, 16, 17] (fun zf z _ _ _ _ wr => ∃ (t : Nat) (F : Bool), t ≤ np ∧ z = .int .i64 t ∧ zf = .bool F ∧ Hid (F = decide (0 < (miss s i (ps.take t)).length) ∧ Pq B w p s ls n0 i keys now ps t wr)) (fun _ z _ _ _ _ _ => np - (intOf z).toNat)
  case atStart => exact ⟨0, false, by omega, rfl, rfl, by simp [miss], H1.out⟩
  case round =>
    obtain ⟨t, F, ht, rfl, rfl, HT⟩ := hrel
    clear H1
    by_cases htl : t < np
    · have htl' : (t : Int) < np := by omega
      have hta : t < ps.length := by have := HA.out.1; omega
      obtain ⟨ks1, ⟨⟨oK, nK, cK, oL, nL, cL, hro⟩, hkp⟩, hrl, hlen⟩ := HT.out.2.ex
      have hroF : Hid (RO (fun b => B b ∨ w.heap.size ≤ b) wr p oK nK cK oL nL cL ks1 ls) := hro
      have HKP : Hid (Keeps B w wr) := hkp
      have HPQ : Hid (Rl (putAll i keys now s (miss s i (ps.take t))) ks1 ls ∧ ks1.length = n0 + (miss s i (ps.take t)).length) := ⟨hrl, hlen⟩
      obtain ⟨g, off, e1, d0, d1⟩ := (HA.out.2.2.2.2.1.keeps hkp (fun b hb => (HA.out.2.2.2.2.2.2.2.1 b hb).1)).atP hta
      have HKR : Hid (∀ X, Keeps no wr X → Sl TE X ak ck keys) := fun X hX => (HA.out.2.2.2.2.2.1.keeps hkp (fun b hb => (HA.out.2.2.2.2.2.2.2.2.1 b hb).1)).keepsN hX
      subst e1
      obtain ⟨x, hx⟩ : ∃ x, x = ps.getD t p0 := ⟨_, rfl⟩
      rw [← hx] at d0 d1
      have HX : Hid (x = ps.getD t p0 ∧ t < ps.length) := ⟨hx, hta⟩
      have hput := hrl.put HA.out.2.2.2.2.2.2.1 hta
      rw [← hx] at hput
      obtain ⟨xk, xv⟩ := x
      simp only at d0 d1 hput
      obtain ⟨T, hT⟩ : ∃ T, there ks1 (xk, i) = T := ⟨_, rfl⟩
      obtain ⟨R, hR⟩ : ∃ R, fpos ks1 (xk, i) = R := ⟨_, rfl⟩
      have hfd := rfind_any wr p oK nK cK oL nL cL ks1 ls hro.rd xk i
      rw [hT, hR] at hfd
      rw [hT] at hput
      have HPUT : Hid ((T = true → miss s i (ps.take (t + 1)) = miss s i (ps.take t)) ∧ (T = false → miss s i (ps.take (t + 1)) = miss s i (ps.take t) ++ [(xk, xv)] ∧ ∀ o c, Rl (putAll i keys now s (miss s i (ps.take (t + 1)))) (insK ks1 ⟨(xk, i), xv, o, c, keys, if i < lastIn ls xk then now else -1⟩) ls)) := hput
      have HRR : Hid (R ≤ ks1.length) := by rw [← hR]; exact fpos_le _ _
      have HPOS : Hid (∀ v o c st, insK ks1 ⟨(xk, i), v, o, c, keys, st⟩ = ks1.take R ++ ⟨(xk, i), v, o, c, keys, st⟩ :: ks1.drop R) := fun v o c st => by rw [← hR]; rfl
      have HLK : ks1.length ≤ 1000001024 := by
        have h1 : (miss s i (ps.take t)).length ≤ (ps.take t).length := List.length_filter_le _ _
        rw [List.length_take] at h1
        have := HN0.out
        have := HA.out.2.2.1
        omega
      have HLK' : Hid (ks1.length ≤ 1000001024) := HLK
      clear hx hta hro hkp hrl hlen hput hT hR HLK
      go_wp2_with fail
      refine hfd.mono ?_
      rintro e w3 ⟨rfl, hk3⟩
      clear hfd
      cases T
      · have HKX : Hid (Keeps no wr w3) := hk3
        replace d0 := hk3.cellN d0
        replace d1 := hk3.cellN d1
        have hroG : Hid (RO (fun b => B b ∨ w.heap.size ≤ b) w3 p oK nK cK oL nL cL ks1 ls) := hroF.out.keepsN hk3
        have HKPG : Hid (Keeps B w w3) := HKP.out.then hk3 (fun b hb => hb.elim)
        have HKRG : Hid (∀ X, Keeps no w3 X → Sl TE X ak ck keys) := fun X hX => HKR.out X (hk3.trans hX)
        clear hk3 hroF HKP HKR HKX
        have HSX : Hid (∀ X, Keeps no w3 X → X.cell? ⟨g, off + t * 2, none⟩ = some (.string xk) ∧ X.cell? ⟨g, off + t * 2 + 1, none⟩ = some (.string xv)) := fun X hX => ⟨hX.cellN d0, hX.cellN d1⟩
        have HKD : Hid (Keeps no w3 w3.drew) := (Keeps.refl no w3).drew
        have HKA : Hid (Keeps no w3 (w3.drew.alloc (.cells #[.string ⟨#[]⟩, .int .u64 0, .string ⟨#[]⟩, .slice none 0 0, .int .i64 0] 47))) := ((Keeps.refl no w3).drew).alloc _
        have HBA : Hid ((w3.drew.alloc (.cells #[.string ⟨#[]⟩, .int .u64 0, .string ⟨#[]⟩, .slice none 0 0, .int .i64 0] 47)).heap[w3.heap.size]? = some (.cells #[.string ⟨#[]⟩, .int .u64 0, .string ⟨#[]⟩, .slice none 0 0, .int .i64 0] 47 (0, 0))) := blk_new w3.drew _
        have HB0D : Hid (w3.drew.heap[p]? = some (.cells #[.slice oK nK cK, .slice oL nL cL] 107 (0, 0))) := HKD.out.at hroG.out.b id
        have HB16 : Hid ((0 + keys.length) * 16 ≤ 140737488355328 ∧ 0 + keys.length ≤ 140737488355328) := (show _ ∧ _ by have := HA.out.2.2.2.1; omega)
        go_upto_region 10 with fail
        go_cut [16] from 46 to 60 (fun s16 wc => ∃ (gk : Nat) (on : Option Addr) (cn : Nat), s16 = .pointer (some ⟨gk, 0, none⟩) ∧ Hid (Kq w3 gk xk i xv on nk cn keys (-1) wc))
        case first =>
          refine wp_region_held_drew (S := (fun X => X.cell? ⟨g, off + t * 2, none⟩ = some (.string xk) ∧ X.cell? ⟨g, off + t * 2 + 1, none⟩ = some (.string xv))) (by kernel_rfl) ?_ (fun hHeld => ?_)
          · first | exact HSX.out _ (Keeps.refl no w3) | exact HSX.out _ HKD.out
          refine wpAnyH_take (i := 0) (v := ?_) (by simp only [List.getElem?_toArray, List.getElem?_cons_succ, List.getElem?_cons_zero]; rfl) (by kernel_rfl) (by kernel_rfl) (by kernel_rfl) (by exact fun _ _ _ h => h) (Or.inl ⟨by rfl, ?_⟩) (by assumption) ?_
          rotate_left
          · (intro _ hSw; (try dsimp only at hSw); go_simp; (try with_reducible rfl))
          try simp only [Act.put, List.setIfInBounds_toArray, List.set_cons_zero, List.set_cons_succ]
          refine wpAnyH_take (i := 1) (v := ?_) (by simp only [List.getElem?_toArray, List.getElem?_cons_succ, List.getElem?_cons_zero]; rfl) (by kernel_rfl) (by kernel_rfl) (by kernel_rfl) (by exact fun _ _ _ h => h) (Or.inl ⟨by rfl, ?_⟩) (by assumption) ?_
          rotate_left
          · (intro _ hSw; (try dsimp only at hSw); go_simp; (try with_reducible rfl))
          try simp only [Act.put, List.setIfInBounds_toArray, List.set_cons_zero, List.set_cons_succ]
          refine wpAnyH_take (i := 2) (v := ?_) (by simp only [List.getElem?_toArray, List.getElem?_cons_succ, List.getElem?_cons_zero]; rfl) (by kernel_rfl) (by kernel_rfl) (by kernel_rfl) (by exact fun _ _ _ h => h) (Or.inl ⟨by rfl, ?_⟩) (by assumption) ?_
          rotate_left
          · (intro _ hSw; (try dsimp only at hSw); go_simp; (try with_reducible rfl))
          try simp only [Act.put, List.setIfInBounds_toArray, List.set_cons_zero, List.set_cons_succ]
          refine wpAnyH_take (i := 3) (v := ?_) (by simp only [List.getElem?_toArray, List.getElem?_cons_succ, List.getElem?_cons_zero]; rfl) (by kernel_rfl) (by kernel_rfl) (by kernel_rfl) (by exact fun _ _ _ h => h) (Or.inl ⟨by rfl, ?_⟩) (by assumption) ?_
          rotate_left
          · (intro _ hSw; (try dsimp only at hSw); go_simp; (try with_reducible rfl))
          try simp only [Act.put, List.setIfInBounds_toArray, List.set_cons_zero, List.set_cons_succ]
          refine wpAnyH_take (i := 4) (v := ?_) (by simp only [List.getElem?_toArray, List.getElem?_cons_succ, List.getElem?_cons_zero]; rfl) (by kernel_rfl) (by kernel_rfl) (by kernel_rfl) (by exact fun _ _ _ h => h) (Or.inl ⟨by rfl, ?_⟩) (by assumption) ?_
          rotate_left
          · (intro _ hSw; (try dsimp only at hSw); go_simp; (try with_reducible rfl))
          try simp only [Act.put, List.setIfInBounds_toArray, List.set_cons_zero, List.set_cons_succ]
          refine wpAnyH_take (i := 5) (v := ?_) (by simp only [List.getElem?_toArray, List.getElem?_cons_succ, List.getElem?_cons_zero]; rfl) (by kernel_rfl) (by kernel_rfl) (by kernel_rfl) (by exact fun _ _ _ h => h) (Or.inl ⟨by rfl, ?_⟩) (by assumption) ?_
          rotate_left
          · (intro _ hSw; (try dsimp only at hSw); go_simp; (try with_reducible rfl))
          try simp only [Act.put, List.setIfInBounds_toArray, List.set_cons_zero, List.set_cons_succ]
          refine wpAnyH_take (i := 6) (v := ?_) (by simp only [List.getElem?_toArray, List.getElem?_cons_succ, List.getElem?_cons_zero]; rfl) (by kernel_rfl) (by kernel_rfl) (by kernel_rfl) (by exact fun _ _ _ h => h) (Or.inl ⟨by rfl, ?_⟩) (by assumption) ?_
          rotate_left
          · (intro _ hSw; (try dsimp only at hSw); go_simp; (try with_reducible rfl))
          try simp only [Act.put, List.setIfInBounds_toArray, List.set_cons_zero, List.set_cons_succ]
          refine wpAnyH_take (i := 7) (v := ?_) (by simp only [List.getElem?_toArray, List.getElem?_cons_succ, List.getElem?_cons_zero]; rfl) (by kernel_rfl) (by kernel_rfl) (by kernel_rfl) (by exact fun _ _ _ h => h) (Or.inl ⟨by rfl, ?_⟩) (by assumption) ?_
          rotate_left
          · (intro _ hSw; (try dsimp only at hSw); go_simp; (try with_reducible rfl))
          try simp only [Act.put, List.setIfInBounds_toArray, List.set_cons_zero, List.set_cons_succ]
          refine wpAnyH_take (i := 8) (v := ?_) (by simp only [List.getElem?_toArray, List.getElem?_cons_succ, List.getElem?_cons_zero]; rfl) (by kernel_rfl) (by kernel_rfl) (by kernel_rfl) (by exact fun _ _ _ h => h) (Or.inl ⟨by rfl, ?_⟩) (by assumption) ?_
          rotate_left
          · (intro _ hSw; (try dsimp only at hSw); go_simp; (try with_reducible rfl))
          try simp only [Act.put, List.setIfInBounds_toArray, List.set_cons_zero, List.set_cons_succ]
          refine wpAnyH_take (i := 9) (v := ?_) (by simp only [List.getElem?_toArray, List.getElem?_cons_succ, List.getElem?_cons_zero]; rfl) (by kernel_rfl) (by kernel_rfl) (by kernel_rfl) (by exact fun _ _ _ h => h) (Or.inl ⟨by rfl, ?_⟩) (by assumption) ?_
          rotate_left
          · (intro _ hSw; (try dsimp only at hSw); go_simp; (try with_reducible rfl))
          try simp only [Act.put, List.setIfInBounds_toArray, List.set_cons_zero, List.set_cons_succ]
          refine wpAnyH_take (i := 10) (v := ?_) (by simp only [List.getElem?_toArray, List.getElem?_cons_succ, List.getElem?_cons_zero]; rfl) (by kernel_rfl) (by kernel_rfl) (by kernel_rfl) (by exact fun _ _ _ h => h) (Or.inl ⟨by rfl, ?_⟩) (by assumption) ?_
          rotate_left
          · (intro _ hSw; (try dsimp only at hSw); go_simp; (try with_reducible rfl))
          try simp only [Act.put, List.setIfInBounds_toArray, List.set_cons_zero, List.set_cons_succ]
          refine wpAnyH_take (i := 11) (v := ?_) (by simp only [List.getElem?_toArray, List.getElem?_cons_succ, List.getElem?_cons_zero]; rfl) (by kernel_rfl) (by kernel_rfl) (by kernel_rfl) (by exact fun _ _ _ h => h) (Or.inl ⟨by rfl, ?_⟩) (by assumption) ?_
          rotate_left
          · (intro _ hSw; (try dsimp only at hSw); go_simp; (try with_reducible rfl))
          try simp only [Act.put, List.setIfInBounds_toArray, List.set_cons_zero, List.set_cons_succ]
          refine wpAnyH_ready (rs := [12, 15]) (by kernel_rfl) (by simp) ?_
          refine AllReadyH.cons (by simp only [List.getElem?_toArray, List.getElem?_cons_succ, List.getElem?_cons_zero]; rfl) (fun Kq hKq => ?_) (AllReadyH.cons (by simp only [List.getElem?_toArray, List.getElem?_cons_succ, List.getElem?_cons_zero]; rfl) (fun Kq hKq => ?_) AllReadyH.nil)
          · (refine step_appW okT rfl (.const (.slice none 0 0)) (.tmp 57) rfl none 0 0 [] rfl rfl (own_nil _) ak nk ck keys rfl HA.out.2.1 HA.out.2.2.2.2.2.1.nil (HKRG.out _ HKD.out).row HB16.out.1 HB16.out.2 ?_; intro on cn z2 hon hapn; have hsx := own_six hon hapn HKD.out (HB0D.out) (HB0D.out); have HZ2 : Hid (Own TE z2 on cn keys ∧ New w3 on ∧ Keeps no w3 z2) := ⟨hsx.1, hsx.2.1, hsx.2.2.1⟩; have HBZ : Hid ((z2.alloc (.cells #[.string ⟨#[]⟩, .int .u64 0, .string ⟨#[]⟩, .slice none 0 0, .int .i64 0] 47)).heap[z2.heap.size]? = some (.cells #[.string ⟨#[]⟩, .int .u64 0, .string ⟨#[]⟩, .slice none 0 0, .int .i64 0] 47 (0, 0))) := blk_new z2 _; have HZ3 : Hid (Own TE (z2.alloc (.cells #[.string ⟨#[]⟩, .int .u64 0, .string ⟨#[]⟩, .slice none 0 0, .int .i64 0] 47)) on cn keys ∧ New w3 on ∧ Keeps no w3 (z2.alloc (.cells #[.string ⟨#[]⟩, .int .u64 0, .string ⟨#[]⟩, .slice none 0 0, .int .i64 0] 47))) := ⟨HZ2.out.1.keepsN ((Keeps.refl no z2).alloc _), HZ2.out.2.1, HZ2.out.2.2.alloc _⟩; have hsz : w3.heap.size ≤ z2.heap.size := HZ2.out.2.2.size; clear hsx hon hapn)
            refine hKq.out _ _ ?_ (fun hHeldN => ?_)
            · first | exact HSX.out _ HKD.out | exact HSX.out _ HZ2.out.2.2 | exact HSX.out _ HZ3.out.2.2 | exact HSX.out _ (HKQ.out.keep)
            clear hKq Kq hHeld
            have hHeld := hHeldN
            clear hHeldN
            refine wpAnyH_take (i := 13) (v := ?_) (by simp only [List.getElem?_toArray, List.getElem?_cons_succ, List.getElem?_cons_zero]; rfl) (by kernel_rfl) (by kernel_rfl) (by kernel_rfl) (by exact fun _ _ _ h => h) (Or.inl ⟨by rfl, ?_⟩) (by assumption) ?_
            rotate_left
            · (intro _ hSw; (try dsimp only at hSw); go_simp; (try with_reducible rfl))
            try simp only [Act.put, List.setIfInBounds_toArray, List.set_cons_zero, List.set_cons_succ]
            refine wpAnyH_take (i := 14) (v := ?_) (by simp only [List.getElem?_toArray, List.getElem?_cons_succ, List.getElem?_cons_zero]; rfl) (by kernel_rfl) (by kernel_rfl) (by kernel_rfl) (by exact fun _ _ _ h => h) (Or.inl ⟨by rfl, ?_⟩) (by assumption) ?_
            rotate_left
            · (intro _ hSw; (try dsimp only at hSw); go_simp; (try with_reducible rfl))
            try simp only [Act.put, List.setIfInBounds_toArray, List.set_cons_zero, List.set_cons_succ]
            refine wpAnyH_ready (rs := [15]) (by kernel_rfl) (by simp) ?_
            refine AllReadyH.cons (by simp only [List.getElem?_toArray, List.getElem?_cons_succ, List.getElem?_cons_zero]; rfl) (fun Kq hKq => ?_) AllReadyH.nil
            go_simp
            refine hKq.out _ _ ?_ (fun hHeldN => ?_)
            · first | exact HSX.out _ HKD.out | exact HSX.out _ HZ2.out.2.2 | exact HSX.out _ HZ3.out.2.2 | exact HSX.out _ (HKQ.out.keep)
            clear hKq Kq hHeld
            have hHeld := hHeldN
            clear hHeldN
            have q0 := cell_of_blk HBZ.out 0
            have q1 := cell_of_blk HBZ.out 1
            have q2 := cell_of_blk HBZ.out 2
            have q3 := cell_of_blk HBZ.out 3
            have q4 := cell_of_blk HBZ.out 4
            have f0 := frozen_of_blk HBZ.out 0
            have f1 := frozen_of_blk HBZ.out 1
            have f2 := frozen_of_blk HBZ.out 2
            have f3 := frozen_of_blk HBZ.out 3
            have f4 := frozen_of_blk HBZ.out 4
            have HKQ : Hid (Kq w3 z2.heap.size xk i xv on nk cn keys (-1) (z2.alloc (.cells #[.string xk, .int .u64 ((i : Nat) : Int), .string xv, .slice on nk cn, .int .i64 (-1)] 47))) := ⟨blk_new z2 _, HZ2.out.1.keepsN ((Keeps.refl no z2).alloc _), hsz, HZ2.out.2.1, HZ2.out.2.2.alloc _⟩
            refine wpAnyH_ready (rs := [16]) (by kernel_rfl) (by simp) ?_
            refine AllReadyH.cons (by simp only [List.getElem?_toArray, List.getElem?_cons_succ, List.getElem?_cons_zero]; rfl) (fun Kq hKq => ?_) AllReadyH.nil
            go_simp
            refine hKq.out _ _ ?_ (fun hHeldN => ?_)
            · first | exact HSX.out _ HKD.out | exact HSX.out _ HZ2.out.2.2 | exact HSX.out _ HZ3.out.2.2 | exact HSX.out _ (HKQ.out.keep)
            clear hKq Kq hHeld
            have hHeld := hHeldN
            clear hHeldN
            refine wpAnyH_done (by kernel_rfl) ?_ _
            clear hHeld
            go_wp2_with fail
            go_meet
            go_light
            exact ⟨z2.heap.size, on, cn, rfl, HKQ.out⟩
          · go_simp
            refine hKq.out _ _ ?_ (fun hHeldN => ?_)
            · first | exact HSX.out _ HKD.out | exact HSX.out _ HKA.out | exact HSX.out _ HZ2.out.2.2 | exact HSX.out _ (HKQ.out.keep)
            clear hKq Kq hHeld
            have hHeld := hHeldN
            clear hHeldN
            refine wpAnyH_ready (rs := [12]) (by kernel_rfl) (by simp) ?_
            refine AllReadyH.cons (by simp only [List.getElem?_toArray, List.getElem?_cons_succ, List.getElem?_cons_zero]; rfl) (fun Kq hKq => ?_) AllReadyH.nil
            (refine step_appW okT rfl (.const (.slice none 0 0)) (.tmp 57) rfl none 0 0 [] rfl rfl (own_nil _) ak nk ck keys rfl HA.out.2.1 HA.out.2.2.2.2.2.1.nil (HKRG.out _ HKA.out).row HB16.out.1 HB16.out.2 ?_; intro on cn z2 hon hapn; have hsx := own_six hon hapn HKA.out (HBA.out) (HBA.out); have HZ2 : Hid (Own TE z2 on cn keys ∧ New w3 on ∧ Keeps no w3 z2) := ⟨hsx.1, hsx.2.1, hsx.2.2.1⟩; have HBZ : Hid (z2.heap[w3.heap.size]? = some (.cells #[.string ⟨#[]⟩, .int .u64 0, .string ⟨#[]⟩, .slice none 0 0, .int .i64 0] 47 (0, 0))) := hsx.2.2.2.1; clear hsx hon hapn)
            refine hKq.out _ _ ?_ (fun hHeldN => ?_)
            · first | exact HSX.out _ HKD.out | exact HSX.out _ HKA.out | exact HSX.out _ HZ2.out.2.2 | exact HSX.out _ (HKQ.out.keep)
            clear hKq Kq hHeld
            have hHeld := hHeldN
            clear hHeldN
            have q0 := cell_of_blk HBZ.out 0
            have q1 := cell_of_blk HBZ.out 1
            have q2 := cell_of_blk HBZ.out 2
            have q3 := cell_of_blk HBZ.out 3
            have q4 := cell_of_blk HBZ.out 4
            have f0 := frozen_of_blk HBZ.out 0
            have f1 := frozen_of_blk HBZ.out 1
            have f2 := frozen_of_blk HBZ.out 2
            have f3 := frozen_of_blk HBZ.out 3
            have f4 := frozen_of_blk HBZ.out 4
            have HKQ : Hid _ := kqm_of (xk := xk) (i := i) (xv := xv) (nk := nk) HBZ.out HZ2.out.1 (Nat.le_refl _) HZ2.out.2.1 HZ2.out.2.2
            refine wpAnyH_take (i := 13) (v := ?_) (by simp only [List.getElem?_toArray, List.getElem?_cons_succ, List.getElem?_cons_zero]; rfl) (by kernel_rfl) (by kernel_rfl) (by kernel_rfl) (by exact fun _ _ _ h => h) (Or.inl ⟨by rfl, ?_⟩) (by assumption) ?_
            rotate_left
            · (intro _ hSw; (try dsimp only at hSw); go_simp; (try with_reducible rfl))
            try simp only [Act.put, List.setIfInBounds_toArray, List.set_cons_zero, List.set_cons_succ]
            refine wpAnyH_take (i := 14) (v := ?_) (by simp only [List.getElem?_toArray, List.getElem?_cons_succ, List.getElem?_cons_zero]; rfl) (by kernel_rfl) (by kernel_rfl) (by kernel_rfl) (by exact fun _ _ _ h => h) (Or.inl ⟨by rfl, ?_⟩) (by assumption) ?_
            rotate_left
            · (intro _ hSw; (try dsimp only at hSw); go_simp; (try with_reducible rfl))
            try simp only [Act.put, List.setIfInBounds_toArray, List.set_cons_zero, List.set_cons_succ]
            refine wpAnyH_ready (rs := [16]) (by kernel_rfl) (by simp) ?_
            refine AllReadyH.cons (by simp only [List.getElem?_toArray, List.getElem?_cons_succ, List.getElem?_cons_zero]; rfl) (fun Kq hKq => ?_) AllReadyH.nil
            go_simp
            refine hKq.out _ _ ?_ (fun hHeldN => ?_)
            · first | exact HSX.out _ HKD.out | exact HSX.out _ HKA.out | exact HSX.out _ HZ2.out.2.2 | exact HSX.out _ (HKQ.out.keep)
            clear hKq Kq hHeld
            have hHeld := hHeldN
            clear hHeldN
            refine wpAnyH_done (by kernel_rfl) ?_ _
            clear hHeld
            go_wp2_with fail
            go_meet
            go_light
            exact ⟨w3.heap.size, on, cn, rfl, HKQ.out⟩
        case rest =>
        obtain ⟨gk, on, cn, rfl, HQ⟩ := hcut
        rename World => wc
        clear HSX HKD HKA HBA HB0D HB16 HKRG
        have HMS : Hid (miss s i (ps.take (t + 1)) = miss s i (ps.take t) ++ [(xk, xv)]) := (HPUT.out.2 (by simp)).1
        have HM1 : Hid (true = decide (0 < (miss s i (ps.take (t + 1))).length)) := by rw [HMS.out]; exact (decide_eq_true (by simp)).symm
        obtain ⟨L, hL⟩ : ∃ L, lastIn ls xk = L := ⟨_, rfl⟩
        have HL : Hid (lastIn ls xk = L) := hL
        have hla := rLast_any wc p oK nK cK oL nL cL ks1 ls (hroG.out.rd.keepsN HQ.out.keep) xk
        rw [hL] at hla
        replace d0 := HQ.out.keep.cellN d0
        clear hL d1
        go_wp2_with fail
        refine hla.mono ?_
        rintro e w4 ⟨rfl, hk4⟩
        have HQ4 : Hid (Kq w3 gk xk i xv on nk cn keys (-1) w4) := HQ.out.go hk4
        clear hla hk4 HQ d0
        by_cases hlt : i < L
        · have hlt' : ((i : Nat) : Int) < ((L : Nat) : Int) := by omega
          obtain ⟨k0, k1, k2, k3, k4⟩ := cells5 HQ4.out.blk
          have kf := frozen_of_blk HQ4.out.blk 4
          have HRLX : Hid (Rl (putAll i keys now s (miss s i (ps.take (t + 1)))) (insK ks1 ⟨(xk, i), xv, on, cn, keys, now⟩) ls) := by
            have h := (HPUT.out.2 (by simp)).2 on cn
            rw [HL.out, if_pos hlt] at h
            exact h
          clear hlt
          go_upto_region 13 with fail
          have HQK : Hid (Kq w3 gk xk i xv on nk cn keys now (w4.setCell ⟨gk, 4, none⟩ (.int .i64 now))) := HQ4.out.stamp now
          generalize w4.setCell ⟨gk, 4, none⟩ (.int .i64 now) = wk at HQK ⊢
          clear k0 k1 k2 k3 k4 kf HQ4
          have HRK : Hid (RO (fun b => B b ∨ w.heap.size ≤ b) wk p oK nK cK oL nL cL ks1 ls ∧ Keeps B w wk) := ⟨hroG.out.keepsN HQK.out.keep, HKPG.out.then HQK.out.keep (fun b hb => hb.elim)⟩
          have b0 := cell_of_blk HRK.out.1.b 0
          have c1 := cutK_h wk oK cK ks1 nK R ((R : Nat) : Int) rfl HRK.out.1.nk (by have := HRR.out; have := HRK.out.1.nk; omega) HRK.out.1.k.sl
          obtain ⟨A, d, c2, c3, _⟩ := cutK_l wk oK cK ks1 nK R ((R : Nat) : Int) rfl HRK.out.1.nk (by have := HRR.out; have := HRK.out.1.nk; omega) HRK.out.1.k.sl
          have hc1 := c1.1
          have HC1 : Hid (Sl KE wk oK cK (ks1.take R) ∧ Sl KE wk A d (ks1.drop R) ∧ R = (ks1.take R).length ∧ nK - R = (ks1.drop R).length) := ⟨c1.2, c3, by rw [List.length_take]; have := HRR.out; omega, by rw [List.length_drop]; have := HRK.out.1.nk; omega⟩
          obtain ⟨k0, k1, k2, k3, k4⟩ := cells5 HQK.out.blk
          have HBD : Hid ((0 + (ks1.take R).length) * 72 ≤ 140737488355328 ∧ 0 + (ks1.take R).length ≤ 140737488355328 ∧ ((ks1.take R).length + 1) * 72 ≤ 140737488355328 ∧ (ks1.take R).length + 1 ≤ 140737488355328 ∧ ((ks1.take R).length + 1 + (ks1.drop R).length) * 72 ≤ 140737488355328 ∧ (ks1.take R).length + 1 + (ks1.drop R).length ≤ 140737488355328) := (show _ ∧ _ by have := HLK'.out; have := HRR.out; have := HC1.out.2.2; rw [List.length_drop, List.length_take]; omega)
          have HNX : Hid (nk = keys.length) := HA.out.2.1
          have HPX : Hid (insK ks1 (⟨(xk, i), xv, on, cn, keys, now⟩ : KV) = ks1.take R ++ (⟨(xk, i), xv, on, cn, keys, now⟩ : KV) :: ks1.drop R) := HPOS.out _ _ _ _
          have HN2 : Hid (R + 1 = (ks1.take R ++ [(⟨(xk, i), xv, on, cn, keys, now⟩ : KV)]).length ∧ R + 1 + (nK - R) = (insK ks1 (⟨(xk, i), xv, on, cn, keys, now⟩ : KV)).length ∧ (insK ks1 (⟨(xk, i), xv, on, cn, keys, now⟩ : KV)).length ≤ 1954687338211) := (show _ ∧ _ ∧ _ by have h1 := HC1.out.2.2.1; have h2 := HLK'.out; have h3 := HRK.out.1.nk; have h4 := HRR.out; rw [insK_length, List.length_append, ← h1, List.length_singleton]; omega)
          have HWK : Hid (w.heap.size ≤ wk.heap.size) := HRK.out.2.size
          have HALL : Hid (∀ y ∈ insK ks1 (⟨(xk, i), xv, on, cn, keys, now⟩ : KV), Own TE wk y.o y.c y.keys ∧ ∀ b, inO y.o b → B b ∨ w.heap.size ≤ b) := fun y hy => by
            rcases insK_mem.1 hy with rfl | hy
            · exact ⟨HQK.out.own, fun b hb => .inr (Nat.le_trans HKPG.out.size (HQK.out.newo b hb))⟩
            · exact ⟨HRK.out.1.key y hy, HRK.out.1.bt y hy⟩
          clear c1 c3
          go_wp2_with (first | (at_builtin; refine wpList_app okK rfl _ _ rfl _ _ _ (ks1.take R ++ [(⟨(xk, i), xv, on, cn, keys, now⟩ : KV)]) rfl HN2.out.1 HO2.out.1 _ _ _ (ks1.drop R) rfl HC1.out.2.2.2 HC1.out.2.1.nil (HC1.out.2.1.keepsN HO2.out.2.2).row (by rw [List.length_append]; exact HBD.out.2.2.2.2.1) (by rw [List.length_append]; exact HBD.out.2.2.2.2.2) ?_; intro o3 c3' z3 ho3 hap3; have HS3 := put_set HRK.out.1 HO2.out.2.1 HO2.out.2.2 HPX.out ho3 hap3 HALL.out HN2.out.2.1 HN2.out.2.2 HWK.out; have b3 := HS3.1; have f3 := HS3.2.1; have HF3 : Hid _ := HS3.2.2; clear HS3 ho3 hap3) | (at_builtin; refine wpList_app okK rfl _ _ rfl _ _ _ (ks1.take R) rfl HC1.out.2.2.1 (HO1.out.1.keepsN ((Keeps.refl _ _).alloc _)) _ _ _ [(⟨(xk, i), xv, on, cn, keys, now⟩ : KV)] rfl rfl (fun h => by cases h) (by have hh := (own_oneK z1 (⟨(xk, i), xv, on, cn, keys, now⟩ : KV)).row; rw [← HNX.out] at hh; exact hh) HBD.out.2.2.1 HBD.out.2.2.2.1 ?_; intro o2 c2' z2 ho2 hap2; have HO2 : Hid (Own KE z2 o2 c2' (ks1.take R ++ [(⟨(xk, i), xv, on, cn, keys, now⟩ : KV)]) ∧ New wk o2 ∧ Keeps no wk z2) := ⟨ho2, (hap2.new HO1.out.2.1 (HO1.out.2.2.alloc _)).1, (hap2.new HO1.out.2.1 (HO1.out.2.2.alloc _)).2⟩; have b2 := HO2.out.2.2.cellN b0; clear ho2 hap2) | (at_builtin; refine wpList_app okK rfl _ _ rfl _ _ _ ([] : List KV) rfl rfl (own_nil _) _ _ _ (ks1.take R) rfl HC1.out.2.2.1 HC1.out.1.nil HC1.out.1.row HBD.out.1 HBD.out.2.1 ?_; intro o1 c1' z1 ho1 hap1; have HO1 : Hid (Own KE z1 o1 c1' (ks1.take R) ∧ New wk o1 ∧ Keeps no wk z1) := ⟨ho1, (hap1.new (new_none wk) (Keeps.refl no wk)).1, (hap1.new (new_none wk) (Keeps.refl no wk)).2⟩; obtain ⟨m0, m1, m2, m3, m4⟩ := cells5 (HO1.out.2.2.at HQK.out.blk id); clear ho1 hap1))
          go_roundw
          case rel => exact ⟨t + 1, true, by omega, by go_num, rfl, HM1.out, pq_put HRLX.out HPQ.out.2 HMS.out HF3.out HRK.out.2⟩
          case measure => simp [intOf]; omega
        · have hlt' : ¬ ((i : Nat) : Int) < ((L : Nat) : Int) := by omega
          have HRLX : Hid (Rl (putAll i keys now s (miss s i (ps.take (t + 1)))) (insK ks1 ⟨(xk, i), xv, on, cn, keys, -1⟩) ls) := by
            have h := (HPUT.out.2 (by simp)).2 on cn
            rw [HL.out, if_neg hlt] at h
            exact h
          clear hlt
          go_upto_region 13 with fail
          have HQK : Hid (Kq w3 gk xk i xv on nk cn keys (-1) w4) := HQ4.out
          generalize w4 = wk at HQK HQ4 ⊢
          clear HQ4
          have HRK : Hid (RO (fun b => B b ∨ w.heap.size ≤ b) wk p oK nK cK oL nL cL ks1 ls ∧ Keeps B w wk) := ⟨hroG.out.keepsN HQK.out.keep, HKPG.out.then HQK.out.keep (fun b hb => hb.elim)⟩
          have b0 := cell_of_blk HRK.out.1.b 0
          have c1 := cutK_h wk oK cK ks1 nK R ((R : Nat) : Int) rfl HRK.out.1.nk (by have := HRR.out; have := HRK.out.1.nk; omega) HRK.out.1.k.sl
          obtain ⟨A, d, c2, c3, _⟩ := cutK_l wk oK cK ks1 nK R ((R : Nat) : Int) rfl HRK.out.1.nk (by have := HRR.out; have := HRK.out.1.nk; omega) HRK.out.1.k.sl
          have hc1 := c1.1
          have HC1 : Hid (Sl KE wk oK cK (ks1.take R) ∧ Sl KE wk A d (ks1.drop R) ∧ R = (ks1.take R).length ∧ nK - R = (ks1.drop R).length) := ⟨c1.2, c3, by rw [List.length_take]; have := HRR.out; omega, by rw [List.length_drop]; have := HRK.out.1.nk; omega⟩
          obtain ⟨k0, k1, k2, k3, k4⟩ := cells5 HQK.out.blk
          have HBD : Hid ((0 + (ks1.take R).length) * 72 ≤ 140737488355328 ∧ 0 + (ks1.take R).length ≤ 140737488355328 ∧ ((ks1.take R).length + 1) * 72 ≤ 140737488355328 ∧ (ks1.take R).length + 1 ≤ 140737488355328 ∧ ((ks1.take R).length + 1 + (ks1.drop R).length) * 72 ≤ 140737488355328 ∧ (ks1.take R).length + 1 + (ks1.drop R).length ≤ 140737488355328) := (show _ ∧ _ by have := HLK'.out; have := HRR.out; have := HC1.out.2.2; rw [List.length_drop, List.length_take]; omega)
          have HNX : Hid (nk = keys.length) := HA.out.2.1
          have HPX : Hid (insK ks1 (⟨(xk, i), xv, on, cn, keys, -1⟩ : KV) = ks1.take R ++ (⟨(xk, i), xv, on, cn, keys, -1⟩ : KV) :: ks1.drop R) := HPOS.out _ _ _ _
          have HN2 : Hid (R + 1 = (ks1.take R ++ [(⟨(xk, i), xv, on, cn, keys, -1⟩ : KV)]).length ∧ R + 1 + (nK - R) = (insK ks1 (⟨(xk, i), xv, on, cn, keys, -1⟩ : KV)).length ∧ (insK ks1 (⟨(xk, i), xv, on, cn, keys, -1⟩ : KV)).length ≤ 1954687338211) := (show _ ∧ _ ∧ _ by have h1 := HC1.out.2.2.1; have h2 := HLK'.out; have h3 := HRK.out.1.nk; have h4 := HRR.out; rw [insK_length, List.length_append, ← h1, List.length_singleton]; omega)
          have HWK : Hid (w.heap.size ≤ wk.heap.size) := HRK.out.2.size
          have HALL : Hid (∀ y ∈ insK ks1 (⟨(xk, i), xv, on, cn, keys, -1⟩ : KV), Own TE wk y.o y.c y.keys ∧ ∀ b, inO y.o b → B b ∨ w.heap.size ≤ b) := fun y hy => by
            rcases insK_mem.1 hy with rfl | hy
            · exact ⟨HQK.out.own, fun b hb => .inr (Nat.le_trans HKPG.out.size (HQK.out.newo b hb))⟩
            · exact ⟨HRK.out.1.key y hy, HRK.out.1.bt y hy⟩
          clear c1 c3
          go_wp2_with (first | (at_builtin; refine wpList_app okK rfl _ _ rfl _ _ _ (ks1.take R ++ [(⟨(xk, i), xv, on, cn, keys, -1⟩ : KV)]) rfl HN2.out.1 HO2.out.1 _ _ _ (ks1.drop R) rfl HC1.out.2.2.2 HC1.out.2.1.nil (HC1.out.2.1.keepsN HO2.out.2.2).row (by rw [List.length_append]; exact HBD.out.2.2.2.2.1) (by rw [List.length_append]; exact HBD.out.2.2.2.2.2) ?_; intro o3 c3' z3 ho3 hap3; have HS3 := put_set HRK.out.1 HO2.out.2.1 HO2.out.2.2 HPX.out ho3 hap3 HALL.out HN2.out.2.1 HN2.out.2.2 HWK.out; have b3 := HS3.1; have f3 := HS3.2.1; have HF3 : Hid _ := HS3.2.2; clear HS3 ho3 hap3) | (at_builtin; refine wpList_app okK rfl _ _ rfl _ _ _ (ks1.take R) rfl HC1.out.2.2.1 (HO1.out.1.keepsN ((Keeps.refl _ _).alloc _)) _ _ _ [(⟨(xk, i), xv, on, cn, keys, -1⟩ : KV)] rfl rfl (fun h => by cases h) (by have hh := (own_oneK z1 (⟨(xk, i), xv, on, cn, keys, -1⟩ : KV)).row; rw [← HNX.out] at hh; exact hh) HBD.out.2.2.1 HBD.out.2.2.2.1 ?_; intro o2 c2' z2 ho2 hap2; have HO2 : Hid (Own KE z2 o2 c2' (ks1.take R ++ [(⟨(xk, i), xv, on, cn, keys, -1⟩ : KV)]) ∧ New wk o2 ∧ Keeps no wk z2) := ⟨ho2, (hap2.new HO1.out.2.1 (HO1.out.2.2.alloc _)).1, (hap2.new HO1.out.2.1 (HO1.out.2.2.alloc _)).2⟩; have b2 := HO2.out.2.2.cellN b0; clear ho2 hap2) | (at_builtin; refine wpList_app okK rfl _ _ rfl _ _ _ ([] : List KV) rfl rfl (own_nil _) _ _ _ (ks1.take R) rfl HC1.out.2.2.1 HC1.out.1.nil HC1.out.1.row HBD.out.1 HBD.out.2.1 ?_; intro o1 c1' z1 ho1 hap1; have HO1 : Hid (Own KE z1 o1 c1' (ks1.take R) ∧ New wk o1 ∧ Keeps no wk z1) := ⟨ho1, (hap1.new (new_none wk) (Keeps.refl no wk)).1, (hap1.new (new_none wk) (Keeps.refl no wk)).2⟩; obtain ⟨m0, m1, m2, m3, m4⟩ := cells5 (HO1.out.2.2.at HQK.out.blk id); clear ho1 hap1))
          go_roundw
          case rel => exact ⟨t + 1, true, by omega, by go_num, rfl, HM1.out, pq_put HRLX.out HPQ.out.2 HMS.out HF3.out HRK.out.2⟩
          case measure => simp [intOf]; omega
      · have HM : Hid (miss s i (ps.take (t + 1)) = miss s i (ps.take t)) := HPUT.out.1 (by simp)
        have HP2 : Hid (Pq B w p s ls n0 i keys now ps t w3) := by
          obtain ⟨ks2, g1, g2, g3⟩ := HT.out.2.ex
          exact ⟨⟨ks2, g1.go hk3, g2, g3⟩⟩
        clear hk3
        go_wp2_with fail
        go_roundw
        case rel => exact ⟨t + 1, F, by omega, by go_num, rfl, by rw [HM.out]; exact HT.out.1, by obtain ⟨ks2, g1, g2, g3⟩ := HP2.out.ex; exact ⟨⟨ks2, g1, by rw [HM.out]; exact g2, by rw [HM.out]; exact g3⟩⟩⟩
        case measure => simp [intOf]; omega
    · have htl' : ¬ (t : Int) < np := by omega
      go_wp2_with fail
      go_ret2
      have e : ps.take t = ps := List.take_of_length_le (by have := HA.out.1; omega)
      have h1 := HT.out.1
      have h2 := HT.out.2.ex
      rw [e] at h1 h2
      exact ⟨by rw [h1]; rfl, h2⟩
end Go.Proofs.YtagekdmkidbhpaaGreat
/- The document's Drop, raise, Commit. -/
namespace Go.Proofs.YtagekdmkidbhpaaGreat
open Go.RowKit Go.Maps Go.Sort Orl
set_option linter.unusedVariables false
set_option linter.unusedSimpArgs false

theorem rDrop_none (w : World) (p : Nat) (oK : Option Addr) (nK cK : Nat) (oL : Option Addr) (nL cL : Nat) (ks : List KV) (ls : List Mk) (h : RD w p oK nK cK oL nL cL ks ls) (k : Tx) (i : Nat) (hth : there ks (k, i) = false) :
    Calls Tryz.prog 62 #[.pointer (some ⟨p, 0, none⟩), .string k, .int .u64 ((i : Nat) : Int)] w fun e w' => e = .returned (.int .i64 110) ∧ Keeps no w w' := by
  have hf := rfind_any w p oK nK cK oL nL cL ks ls h k i
  rw [hth] at hf
  generalize fpos ks (k, i) = R at hf
  clear h hth
  go_enter Tryz.func62, Tryz.ntmps62
  go_wp2_with fail
  refine hf.mono ?_
  rintro e w1 ⟨rfl, hk1⟩
  go_wp2_with fail
  go_ret
  exact ⟨rfl, hk1⟩
theorem rDrop_last (w : World) (p : Nat) (oK : Option Addr) (nK cK : Nat) (oL : Option Addr) (nL cL : Nat) (ks : List KV) (ls : List Mk) (h : RD w p oK nK cK oL nL cL ks ls) (k : Tx) (i : Nat) (hth : there ks (k, i) = true) (hl : ¬ i < lastIn ls k) :
    Calls Tryz.prog 62 #[.pointer (some ⟨p, 0, none⟩), .string k, .int .u64 ((i : Nat) : Int)] w fun e w' => e = .returned (.int .i64 1) ∧ Keeps no w w' := by
  have hf := rfind_any w p oK nK cK oL nL cL ks ls h k i
  rw [hth] at hf
  have HL : Hid (∀ X, Keeps no w X → Calls Tryz.prog 57 #[.pointer (some ⟨p, 0, none⟩), .string k] X fun e w' => e = .returned (.int .u64 ((lastIn ls k : Nat) : Int)) ∧ Keeps no X w') := fun X hX => rLast_any X p oK nK cK oL nL cL ks ls (h.keepsN hX) k
  have hl' : ((lastIn ls k : Nat) : Int) ≤ ((i : Nat) : Int) := by omega
  generalize fpos ks (k, i) = R at hf
  generalize lastIn ls k = L at HL hl'
  clear h hth hl
  go_enter Tryz.func62, Tryz.ntmps62
  go_wp2_with fail
  refine hf.mono ?_
  rintro e w1 ⟨rfl, hk1⟩
  have HK1 : Hid (Keeps no w w1) := hk1
  clear hf hk1
  go_wp2_with fail
  refine (HL.out _ HK1.out).mono ?_
  rintro e w2 ⟨rfl, hk2⟩
  go_wp2_with fail
  go_ret
  exact ⟨rfl, HK1.out.trans hk2⟩
set_option maxRecDepth 10000 in
set_option maxHeartbeats 1000000 in
theorem rDrop_some (B : Nat → Prop) (w : World) (p : Nat) (oK : Option Addr) (nK cK : Nat) (oL : Option Addr) (nL cL : Nat) (ks : List KV) (ls : List Mk) (h : RO B w p oK nK cK oL nL cL ks ls) (k : Tx) (i : Nat) (hth : there ks (k, i) = true) (hl : i < lastIn ls k) (hb : ks.length ≤ 1000000000) :
    Calls Tryz.prog 62 #[.pointer (some ⟨p, 0, none⟩), .string k, .int .u64 ((i : Nat) : Int)] w fun e w' => e = .returned (.int .i64 0) ∧ Hid (Aft B w p (delK ks (fpos ks (k, i))) ls w') := by
  have hf := rfind_any w p oK nK cK oL nL cL ks ls h.rd k i
  rw [hth] at hf
  have HL : Hid (∀ X, Keeps no w X → Calls Tryz.prog 57 #[.pointer (some ⟨p, 0, none⟩), .string k] X fun e w' => e = .returned (.int .u64 ((lastIn ls k : Nat) : Int)) ∧ Keeps no X w') := fun X hX => rLast_any X p oK nK cK oL nL cL ks ls (h.rd.keepsN hX) k
  have hl' : ¬ ((lastIn ls k : Nat) : Int) ≤ ((i : Nat) : Int) := by omega
  simp only [there, Bool.and_eq_true, decide_eq_true_eq] at hth
  have HA : Hid (RO B w p oK nK cK oL nL cL ks ls ∧ ks.length ≤ 1000000000 ∧ fpos ks (k, i) < ks.length) := ⟨h, hb, hth.1⟩
  have hRb : ((fpos ks (k, i) : Nat) : Int) ≤ 1000000000 := by have := hth.1; omega
  generalize fpos ks (k, i) = R at hf HA hRb ⊢
  generalize lastIn ls k = L at HL hl'
  clear h hth hl hb
  go_enter Tryz.func62, Tryz.ntmps62
  go_wp2_with fail
  refine hf.mono ?_
  rintro e w1 ⟨rfl, hk1⟩
  have HK1 : Hid (Keeps no w w1) := hk1
  clear hf hk1
  go_wp2_with fail
  refine (HL.out _ HK1.out).mono ?_
  rintro e wk ⟨rfl, hk2⟩
  have HRK : Hid (RO (fun b => B b ∨ w.heap.size ≤ b) wk p oK nK cK oL nL cL ks ls ∧ Keeps no w wk) := ⟨(HA.out.1.keepsN (HK1.out.trans hk2)).mono (fun b hb => .inl hb), HK1.out.trans hk2⟩
  clear hk2 HK1
  have b0 := cell_of_blk HRK.out.1.b 0
  have c1 := cutK_h wk oK cK ks nK R ((R : Nat) : Int) rfl HRK.out.1.nk (by have := HA.out.2.2; have := HRK.out.1.nk; omega) HRK.out.1.k.sl
  obtain ⟨A, d, c2, c3, _⟩ := cutK_l wk oK cK ks nK (R + 1) (((R : Nat) : Int) + 1) (by omega) HRK.out.1.nk (by have := HA.out.2.2; have := HRK.out.1.nk; omega) HRK.out.1.k.sl
  have hc1 := c1.1
  have HC1 : Hid (Sl KE wk oK cK (ks.take R) ∧ Sl KE wk A d (ks.drop (R + 1)) ∧ R = (ks.take R).length ∧ nK - (R + 1) = (ks.drop (R + 1)).length) := ⟨c1.2, c3, by rw [List.length_take]; have := HA.out.2.2; omega, by rw [List.length_drop]; have := HRK.out.1.nk; omega⟩
  have HBD : Hid ((0 + (ks.take R).length) * 72 ≤ 140737488355328 ∧ 0 + (ks.take R).length ≤ 140737488355328 ∧ ((ks.take R).length + (ks.drop (R + 1)).length) * 72 ≤ 140737488355328 ∧ (ks.take R).length + (ks.drop (R + 1)).length ≤ 140737488355328) := (show _ ∧ _ by have := HA.out.2.1; have := HA.out.2.2; rw [List.length_drop, List.length_take]; omega)
  have HN2 : Hid (R + (nK - (R + 1)) = (delK ks R).length ∧ (delK ks R).length ≤ 1954687338211) := (show _ ∧ _ by have h1 := HA.out.2.1; have h2 := HA.out.2.2; have h3 := HRK.out.1.nk; unfold delK; rw [List.length_append, List.length_take, List.length_drop]; omega)
  have HALL : Hid (∀ y ∈ delK ks R, Own TE wk y.o y.c y.keys ∧ ∀ b, inO y.o b → B b ∨ w.heap.size ≤ b) := fun y hy => by
    have hm : y ∈ ks := by
      rcases List.mem_append.1 hy with hy | hy
      · exact List.mem_of_mem_take hy
      · exact List.mem_of_mem_drop hy
    exact ⟨HRK.out.1.key y hm, HRK.out.1.bt y hm⟩
  clear c1 c3
  go_wp2_with (first | (at_builtin; refine wpList_app okK rfl _ _ rfl _ _ _ (ks.take R) rfl HC1.out.2.2.1 HO1.out.1 _ _ _ (ks.drop (R + 1)) rfl HC1.out.2.2.2 HC1.out.2.1.nil (HC1.out.2.1.keepsN HO1.out.2.2).row HBD.out.2.2.1 HBD.out.2.2.2 ?_; intro o3 c3' z3 ho3 hap3; have hnw := hap3.new HO1.out.2.1 HO1.out.2.2; have HS3 := ro_set (ks2 := delK ks R) HRK.out.1 HALL.out hnw.2 ho3 HN2.out.1 (fun b hb => .inr (Nat.le_trans HRK.out.2.size (hnw.1 b hb))) HN2.out.2; have b3 := HS3.1; have f3 := HS3.2.1; have HF3 : Hid _ := HS3.2.2; clear HS3 ho3 hap3 hnw) | (at_builtin; refine wpList_app okK rfl _ _ rfl _ _ _ ([] : List KV) rfl rfl (own_nil _) _ _ _ (ks.take R) rfl HC1.out.2.2.1 HC1.out.1.nil HC1.out.1.row HBD.out.1 HBD.out.2.1 ?_; intro o1 c1' z1 ho1 hap1; have HO1 : Hid (Own KE z1 o1 c1' (ks.take R) ∧ New wk o1 ∧ Keeps no wk z1) := ⟨ho1, (hap1.new (new_none wk) (Keeps.refl no wk)).1, (hap1.new (new_none wk) (Keeps.refl no wk)).2⟩; have b1 := HO1.out.2.2.cellN b0; clear ho1 hap1))
  go_ret
  exact ⟨rfl, ⟨_, _, _, _, _, _, HF3.out.1⟩, (HRK.out.2.of_no).then HF3.out.2 (fun b hb => hb)⟩
end Go.Proofs.YtagekdmkidbhpaaGreat
/- The document's raise. -/
namespace Go.Proofs.YtagekdmkidbhpaaGreat
open Go.RowKit Go.Maps Go.Sort Orl
set_option linter.unusedVariables false
set_option linter.unusedSimpArgs false

theorem keeps_lt {S S' : Nat → Prop} {w w' : World} (h : Keeps S w w') (hS : ∀ b, b < w.heap.size → S b → S' b) : Keeps S' w w' :=
  ⟨h.os, h.tape, h.output, h.size, fun k hk hn => h.block k hk (fun hc => hn (hS k hk hc))⟩
/-- lasts put in the place of the old ones -/
theorem ro_setL {B : Nat → Prop} {wk w3 : World} {p : Nat} {oK : Option Addr} {nK cK : Nat} {oL : Option Addr} {nL cL : Nat} {ks : List KV} {ls : List Mk} (h : RO B wk p oK nK cK oL nL cL ks ls) {ls2 : List Mk} (k3 : Keeps no wk w3) {o3 : Option Addr} {n3 c3 : Nat} (h3 : Own LE w3 o3 c3 ls2) (hn3 : n3 = ls2.length) (n3w : ∀ b, inO o3 b → B b) (hl : ls2.length ≤ 5864062014634) :
    w3.cell? ⟨p, 1, none⟩ = some (.slice oL nL cL) ∧ w3.frozen? ⟨p, 1, none⟩ = false ∧ RO B (w3.setCell ⟨p, 1, none⟩ (.slice o3 n3 c3)) p oK nK cK o3 n3 c3 ks ls2 ∧ Keeps B wk (w3.setCell ⟨p, 1, none⟩ (.slice o3 n3 c3)) := by
  have h1 := h.keepsN k3
  have hks : Keeps (eqA p) w3 (w3.setCell ⟨p, 1, none⟩ (.slice o3 n3 c3)) := (Keeps.refl _ _).setA 1 _
  have hT : ∀ {o : Option Addr} {c : Nat} {ys : List Tx}, Own TE wk o c ys → Own TE (w3.setCell ⟨p, 1, none⟩ (.slice o3 n3 c3)) o c ys := fun hh => (hh.keepsN k3).keeps hks (fun b q1 e => own_ne (hh.keepsN k3) h1.b (by decide) b q1 e)
  refine ⟨cell_of_blk h1.b 1, frozen_of_blk h1.b 1, ⟨by rw [blk_set h1.b 1]; rfl, h1.k.keeps hks (fun b q1 e => own_ne h1.k h1.b (by decide) b q1 e), fun x hx' => hT (h.key x hx'), h3.keeps hks (fun b q1 e => own_ne h3 h1.b (by decide) b q1 e), h.nk, hn3, h.lk, hl, h.bp, h.bk, h.bt, n3w⟩, k3.of_no.then hks (fun b hb => .inl (by have : b = p := hb; rw [this]; exact h.bp))⟩
/-- one cell of one element written over -/
theorem cells_setc2 {α : Type} {E : El α} (hE : E.Ok) (r : Nat) (v : Value) (x' : α) (hr : r < E.k) : ∀ (xs : List α) (j : Nat) (d : α), j < xs.length → E.enc x' = (E.enc (xs.getD j d)).set r v → E.cells (xs.set j x') = (E.cells xs).set (j * E.k + r) v
  | [], j, d, h, _ => absurd h (by simp)
  | y :: xs, 0, d, _, he => by
    have he' : E.enc x' = (E.enc y).set r v := he
    simp only [List.set_cons_zero, El.cells, List.flatMap_cons, Nat.zero_mul, Nat.zero_add]
    rw [he', List.set_append_left _ _ (by rw [hE.len]; exact hr)]
  | y :: xs, j + 1, d, h, he => by
    have ih := cells_setc2 hE r v x' hr xs j d (by simpa using h) he
    simp only [El.cells] at ih
    simp only [List.set_cons_succ, El.cells, List.flatMap_cons]
    rw [ih, List.set_append_right _ _ (by rw [hE.len, Nat.succ_mul]; omega), hE.len]
    congr 2
    rw [Nat.succ_mul]; omega
/-- a last written over -/
theorem ro_id {B : Nat → Prop} {w : World} {p : Nat} {oK : Option Addr} {nK cK : Nat} {oL : Option Addr} {nL cL : Nat} {ks : List KV} {ls : List Mk} (h : RO B w p oK nK cK oL nL cL ks ls) {R : Nat} (hR : R < ls.length) {k : Tx} (hk : (ls.getD R (e0, 0)).1 = k) (i : Nat) :
    ∃ g, oL = some ⟨g, 0, none⟩ ∧ w.frozen? ⟨g, R * 2 + 1, none⟩ = false ∧ (∃ z, w.cell? ⟨g, R * 2 + 1, none⟩ = some (.int .u64 z)) ∧ w.cell? ⟨g, R * 2, none⟩ = some (.string k) ∧ RO B (w.setCell ⟨g, R * 2 + 1, none⟩ (.int .u64 ((i : Nat) : Int))) p oK nK cK oL nL cL ks (ls.set R (k, i)) ∧ Keeps B w (w.setCell ⟨g, R * 2 + 1, none⟩ (.int .u64 ((i : Nat) : Int))) := by
  obtain ⟨b, off, e, d0, d1⟩ := h.l.sl.atL hR
  rcases h.l.shape with ⟨_, _, e'⟩ | ⟨g, cur, hoL, hg, hc, hm, hs, ht⟩
  · rw [e'] at hR; simp at hR
  · rw [hoL] at e
    injection e with e
    injection e with e1 e2
    subst e1 e2 hoL
    have hks : Keeps (inO (some ⟨g, 0, none⟩)) w (w.setCell ⟨g, R * 2 + 1, none⟩ (.int .u64 ((i : Nat) : Int))) := (Keeps.refl _ _).setCell (.inl ⟨_, rfl, rfl⟩) _
    have hkg : Keeps (eqA g) w (w.setCell ⟨g, R * 2 + 1, none⟩ (.int .u64 ((i : Nat) : Int))) := (Keeps.refl _ _).setA _ _
    rw [Nat.zero_add] at d0 d1
    rw [hk] at d0
    have hown : Own LE (w.setCell ⟨g, R * 2 + 1, none⟩ (.int .u64 ((i : Nat) : Int))) (some ⟨g, 0, none⟩) cL (ls.set R (k, i)) := by
      refine own_of_shape okL (blk_set hg _ _) (by simpa using hc) hm (by simp [hs]) ?_
      have he : LE.enc (k, i) = (LE.enc (ls.getD R (e0, 0))).set 1 (.int .u64 ((i : Nat) : Int)) := by rw [show ls.getD R (e0, 0) = (k, (ls.getD R (e0, 0)).2) by rw [← hk]]; rfl
      rw [cells_setc2 okL 1 _ (k, i) (by decide) ls R (e0, 0) hR he]
      simp only [Array.toList_setIfInBounds, List.length_set]
      rw [List.take_set, ht]
      rfl
    have hne : ∀ {o : Option Addr} {c : Nat} {ys : List Tx}, Own TE w o c ys → Own TE (w.setCell ⟨g, R * 2 + 1, none⟩ (.int .u64 ((i : Nat) : Int))) o c ys := fun hh => hh.keeps hkg (fun b q1 e => own_ne hh hg (by decide) b q1 e)
    have hpg : p ≠ g := fun e => by
      have := h.b
      rw [e, hg] at this
      injection this with this
      injection this with _ this _
      cases this
    refine ⟨g, rfl, frozen_of_blk hg _, ⟨_, d1⟩, d0, ⟨blk_set_ne h.b hpg _, h.k.keeps hkg (fun b q1 e => own_ne h.k hg (by decide) b q1 e), fun x hx => hne (h.key x hx), hown, h.nk, by rw [List.length_set]; exact h.nl, h.lk, by rw [List.length_set]; exact h.ll, h.bp, h.bk, h.bt, h.bl⟩, hkg.mono (fun b hb => by have : b = g := hb; rw [this]; exact h.bl g ⟨_, rfl, rfl⟩)⟩
theorem rpos_le' (ls : List Mk) (k : Tx) : rpos ls k ≤ ls.length := (List.takeWhile_sublist _).length_le
set_option maxRecDepth 10000 in
set_option maxHeartbeats 1000000 in
theorem rraise_any (B : Nat → Prop) (w : World) (p : Nat) (oK : Option Addr) (nK cK : Nat) (oL : Option Addr) (nL cL : Nat) (ks : List KV) (ls : List Mk) (h : RO B w p oK nK cK oL nL cL ks ls) (k : Tx) (i : Nat) (hb : ls.length ≤ 1000000000) :
    Calls Tryz.prog 60 #[.pointer (some ⟨p, 0, none⟩), .string k, .int .u64 ((i : Nat) : Int)] w fun e w' => e = .returned (.tuple #[]) ∧ Hid (Aft B w p ks (raiseL ls k i) w') := by
  have HA : Hid (RO B w p oK nK cK oL nL cL ks ls ∧ ls.length ≤ 1000000000) := ⟨h, hb⟩
  have hA : (nL : Int) ≤ 1000000000 := by have := h.nl; omega
  clear h hb
  go_enter Tryz.func60, Tryz.ntmps60
  go_wp2_with fail
  go_loopw [6] (fun z wr => ∃ t : Nat, t ≤ nL ∧ z = .int .i64 t ∧ wr = w ∧ Hid (∀ j, j < t → lts (ls.getD j (e0, 0)).1 k = true)) (fun z _ => nL - (intOf z).toNat)
  case atStart => exact ⟨0, by omega, rfl, rfl, fun j hj => absurd hj (Nat.not_lt_zero _)⟩
  case round =>
    obtain ⟨t, ht, rfl, hwr, HT⟩ := hrel
    subst hwr
    rename World => w
    have b1 := cell_of_blk HA.out.1.b 1
    by_cases htl : t < nL
    · have htl' : (t : Int) < nL := by omega
      have hta : t < ls.length := by have := HA.out.1.nl; omega
      obtain ⟨g, off, e1, d0, d1⟩ := HA.out.1.l.sl.atL hta
      obtain ⟨x, hx⟩ : ∃ x, x = ls.getD t (e0, 0) := ⟨_, rfl⟩
      rw [← hx] at d0 d1
      have HX : Hid (x = ls.getD t (e0, 0) ∧ t < ls.length) := ⟨hx, hta⟩
      obtain ⟨xk, xi⟩ := x
      simp only at d0 d1
      clear hx hta
      cases hlt : Op.bytesLess xk.toList k.toList
      · have hpos : rpos ls k = t := rpos_of ls t (Nat.le_of_lt HX.out.2) HT.out (fun _ => by rw [← HX.out.1]; exact hlt)
        by_cases hq : xk = k
        · have hk : (ls.getD t (e0, 0)).1 = k := by rw [← HX.out.1]; exact hq
          have HE : Hid (raiseL ls k i = ls.set t (k, i)) := by
            unfold raiseL
            rw [hpos, if_pos ⟨HX.out.2, hk⟩]
            exact rfl
          obtain ⟨g2, eg, hf, ⟨z, hc⟩, _, hro, hkp⟩ := ro_id HA.out.1 HX.out.2 hk i
          subst eg
          injection e1 with e1
          injection e1 with q1 q2
          subst q1 q2
          rw [Nat.zero_add] at d0 d1
          have HF : Hid (RO B (w.setCell ⟨g2, t * 2 + 1, none⟩ (.int .u64 ((i : Nat) : Int))) p oK nK cK (some ⟨g2, 0, none⟩) nL cL ks (ls.set t (k, i)) ∧ Keeps B w (w.setCell ⟨g2, t * 2 + 1, none⟩ (.int .u64 ((i : Nat) : Int)))) := ⟨hro, hkp⟩
          subst hq
          have e2 : (xk.toList == xk.toList) = true := by rw [tx_eq]; simp
          clear hpos hk hro hkp
          go_wp2_with fail
          refine bodyPost_ret (results_none rfl _ _ _) rfl ?_
          exact ⟨rfl, ⟨_, _, _, _, _, _, by rw [HE.out]; exact HF.out.1.mono (fun b hb => .inl hb)⟩, HF.out.2⟩
        · have e2 : (xk.toList == k.toList) = false := by rw [tx_eq]; simpa using hq
          have HE : Hid (raiseL ls k i = ls.take t ++ (k, i) :: ls.drop t) := by
            unfold raiseL
            rw [hpos, if_neg (fun hh => hq (by rw [← hh.2, ← HX.out.1]))]
            show insL ls (k, i) = _
            unfold insL
            rw [hpos]
          subst e1
          clear hpos hq
          clear b1
          have b1 := cell_of_blk HA.out.1.b 1
          have c1 := cutL_h w (some ⟨g, off, none⟩) cL ls nL t ((t : Nat) : Int) rfl HA.out.1.nl ht HA.out.1.l.sl
          obtain ⟨A, d, c2, c3, _⟩ := cutL_l w (some ⟨g, off, none⟩) cL ls nL t ((t : Nat) : Int) rfl HA.out.1.nl ht HA.out.1.l.sl
          have hc1 := c1.1
          have HC1 : Hid (Sl LE w (some ⟨g, off, none⟩) cL (ls.take t) ∧ Sl LE w A d (ls.drop t) ∧ t = (ls.take t).length ∧ nL - t = (ls.drop t).length) := ⟨c1.2, c3, by rw [List.length_take]; have := HA.out.1.nl; omega, by rw [List.length_drop]; have := HA.out.1.nl; omega⟩
          have HBD : Hid ((0 + (ls.take t).length) * 24 ≤ 140737488355328 ∧ 0 + (ls.take t).length ≤ 140737488355328 ∧ ((ls.take t).length + 1) * 24 ≤ 140737488355328 ∧ (ls.take t).length + 1 ≤ 140737488355328 ∧ ((ls.take t).length + 1 + (ls.drop t).length) * 24 ≤ 140737488355328 ∧ (ls.take t).length + 1 + (ls.drop t).length ≤ 140737488355328) := (show _ ∧ _ by have := HA.out.2; have := HA.out.1.nl; rw [List.length_drop, List.length_take]; omega)
          have HN2 : Hid (t + 1 = (ls.take t ++ [((k, i) : Mk)]).length ∧ t + 1 + (nL - t) = (raiseL ls k i).length ∧ (raiseL ls k i).length ≤ 5864062014634) := (show _ ∧ _ ∧ _ by have h1 := HC1.out.2.2.1; have h2 := HA.out.2; have h3 := HA.out.1.nl; rw [HE.out]; simp only [List.length_append, List.length_cons, List.length_nil, List.length_take, List.length_drop]; omega)
          have HR0 : Hid (RO (fun b => B b ∨ w.heap.size ≤ b) w p oK nK cK (some ⟨g, off, none⟩) nL cL ks ls) := HA.out.1.mono (fun b hb => .inl hb)
          clear c1 c3
          go_wp2_with (first | (at_builtin; refine wpList_app okL rfl _ _ rfl _ _ _ (ls.take t ++ [((k, i) : Mk)]) rfl HN2.out.1 HO2.out.1 _ _ _ (ls.drop t) rfl HC1.out.2.2.2 HC1.out.2.1.nil (HC1.out.2.1.keepsN HO2.out.2.2).row (by rw [List.length_append]; exact HBD.out.2.2.2.2.1) (by rw [List.length_append]; exact HBD.out.2.2.2.2.2) ?_; intro o3 c3' z3 ho3 hap3; have hnw := hap3.new HO2.out.2.1 HO2.out.2.2; have HS3 := ro_setL (ls2 := raiseL ls k i) HR0.out hnw.2 (by rw [HE.out]; rw [List.append_assoc] at ho3; exact ho3) HN2.out.2.1 (fun b hb => .inr (hnw.1 b hb)) HN2.out.2.2; have b3 := HS3.1; have f3 := HS3.2.1; have HF3 : Hid _ := HS3.2.2; clear HS3 ho3 hap3 hnw) | (at_builtin; refine wpList_app okL rfl _ _ rfl _ _ _ (ls.take t) rfl HC1.out.2.2.1 (HO1.out.1.keepsN ((Keeps.refl _ _).alloc _)) _ _ _ [((k, i) : Mk)] rfl rfl (fun h => by cases h) (own_oneL z1 ((k, i) : Mk)).row HBD.out.2.2.1 HBD.out.2.2.2.1 ?_; intro o2 c2' z2 ho2 hap2; have HO2 : Hid (Own LE z2 o2 c2' (ls.take t ++ [((k, i) : Mk)]) ∧ New w o2 ∧ Keeps no w z2) := ⟨ho2, (hap2.new HO1.out.2.1 (HO1.out.2.2.alloc _)).1, (hap2.new HO1.out.2.1 (HO1.out.2.2.alloc _)).2⟩; have b2 := HO2.out.2.2.cellN b1; clear ho2 hap2) | (at_builtin; refine wpList_app okL rfl _ _ rfl _ _ _ ([] : List Mk) rfl rfl (own_nil _) _ _ _ (ls.take t) rfl HC1.out.2.2.1 HC1.out.1.nil HC1.out.1.row HBD.out.1 HBD.out.2.1 ?_; intro o1 c1' z1 ho1 hap1; have HO1 : Hid (Own LE z1 o1 c1' (ls.take t) ∧ New w o1 ∧ Keeps no w z1) := ⟨ho1, (hap1.new (new_none w) (Keeps.refl no w)).1, (hap1.new (new_none w) (Keeps.refl no w)).2⟩; clear ho1 hap1))
          refine bodyPost_end (results_none rfl _ _ _) rfl ?_
          exact ⟨rfl, ⟨_, _, _, _, _, _, HF3.out.1⟩, keeps_lt HF3.out.2 (fun b hb hc => hc.elim id (fun h => absurd hb (by omega)))⟩
      · subst e1
        go_wp2_with fail
        go_roundw
        case rel =>
          refine ⟨t + 1, by omega, by go_num, trivial, fun j hj => ?_⟩
          by_cases e : j = t
          · subst e; rw [← HX.out.1]; exact hlt
          · exact HT.out j (by omega)
        case measure => simp [intOf]; omega
    · have htl' : ¬ (t : Int) < nL := by omega
      have hpos : rpos ls k = t := rpos_of ls t (by have := HA.out.1.nl; omega) HT.out (fun hc => absurd hc (by have := HA.out.1.nl; omega))
      have HE : Hid (raiseL ls k i = ls.take t ++ (k, i) :: ls.drop t) := by
        unfold raiseL
        rw [hpos, if_neg (fun hh => absurd hh.1 (by have := HA.out.1.nl; omega))]
        show insL ls (k, i) = _
        unfold insL
        rw [hpos]
      clear hpos b1
      have b1 := cell_of_blk HA.out.1.b 1
      have c1 := cutL_h w oL cL ls nL t ((t : Nat) : Int) rfl HA.out.1.nl ht HA.out.1.l.sl
      obtain ⟨A, d, c2, c3, _⟩ := cutL_l w oL cL ls nL t ((t : Nat) : Int) rfl HA.out.1.nl ht HA.out.1.l.sl
      have hc1 := c1.1
      have HC1 : Hid (Sl LE w oL cL (ls.take t) ∧ Sl LE w A d (ls.drop t) ∧ t = (ls.take t).length ∧ nL - t = (ls.drop t).length) := ⟨c1.2, c3, by rw [List.length_take]; have := HA.out.1.nl; omega, by rw [List.length_drop]; have := HA.out.1.nl; omega⟩
      have HBD : Hid ((0 + (ls.take t).length) * 24 ≤ 140737488355328 ∧ 0 + (ls.take t).length ≤ 140737488355328 ∧ ((ls.take t).length + 1) * 24 ≤ 140737488355328 ∧ (ls.take t).length + 1 ≤ 140737488355328 ∧ ((ls.take t).length + 1 + (ls.drop t).length) * 24 ≤ 140737488355328 ∧ (ls.take t).length + 1 + (ls.drop t).length ≤ 140737488355328) := (show _ ∧ _ by have := HA.out.2; have := HA.out.1.nl; rw [List.length_drop, List.length_take]; omega)
      have HN2 : Hid (t + 1 = (ls.take t ++ [((k, i) : Mk)]).length ∧ t + 1 + (nL - t) = (raiseL ls k i).length ∧ (raiseL ls k i).length ≤ 5864062014634) := (show _ ∧ _ ∧ _ by have h1 := HC1.out.2.2.1; have h2 := HA.out.2; have h3 := HA.out.1.nl; rw [HE.out]; simp only [List.length_append, List.length_cons, List.length_nil, List.length_take, List.length_drop]; omega)
      have HR0 : Hid (RO (fun b => B b ∨ w.heap.size ≤ b) w p oK nK cK oL nL cL ks ls) := HA.out.1.mono (fun b hb => .inl hb)
      clear c1 c3
      go_wp2_with (first | (at_builtin; refine wpList_app okL rfl _ _ rfl _ _ _ (ls.take t ++ [((k, i) : Mk)]) rfl HN2.out.1 HO2.out.1 _ _ _ (ls.drop t) rfl HC1.out.2.2.2 HC1.out.2.1.nil (HC1.out.2.1.keepsN HO2.out.2.2).row (by rw [List.length_append]; exact HBD.out.2.2.2.2.1) (by rw [List.length_append]; exact HBD.out.2.2.2.2.2) ?_; intro o3 c3' z3 ho3 hap3; have hnw := hap3.new HO2.out.2.1 HO2.out.2.2; have HS3 := ro_setL (ls2 := raiseL ls k i) HR0.out hnw.2 (by rw [HE.out]; rw [List.append_assoc] at ho3; exact ho3) HN2.out.2.1 (fun b hb => .inr (hnw.1 b hb)) HN2.out.2.2; have b3 := HS3.1; have f3 := HS3.2.1; have HF3 : Hid _ := HS3.2.2; clear HS3 ho3 hap3 hnw) | (at_builtin; refine wpList_app okL rfl _ _ rfl _ _ _ (ls.take t) rfl HC1.out.2.2.1 (HO1.out.1.keepsN ((Keeps.refl _ _).alloc _)) _ _ _ [((k, i) : Mk)] rfl rfl (fun h => by cases h) (own_oneL z1 ((k, i) : Mk)).row HBD.out.2.2.1 HBD.out.2.2.2.1 ?_; intro o2 c2' z2 ho2 hap2; have HO2 : Hid (Own LE z2 o2 c2' (ls.take t ++ [((k, i) : Mk)]) ∧ New w o2 ∧ Keeps no w z2) := ⟨ho2, (hap2.new HO1.out.2.1 (HO1.out.2.2.alloc _)).1, (hap2.new HO1.out.2.1 (HO1.out.2.2.alloc _)).2⟩; have b2 := HO2.out.2.2.cellN b1; clear ho2 hap2) | (at_builtin; refine wpList_app okL rfl _ _ rfl _ _ _ ([] : List Mk) rfl rfl (own_nil _) _ _ _ (ls.take t) rfl HC1.out.2.2.1 HC1.out.1.nil HC1.out.1.row HBD.out.1 HBD.out.2.1 ?_; intro o1 c1' z1 ho1 hap1; have HO1 : Hid (Own LE z1 o1 c1' (ls.take t) ∧ New w o1 ∧ Keeps no w z1) := ⟨ho1, (hap1.new (new_none w) (Keeps.refl no w)).1, (hap1.new (new_none w) (Keeps.refl no w)).2⟩; clear ho1 hap1))
      refine bodyPost_end (results_none rfl _ _ _) rfl ?_
      exact ⟨rfl, ⟨_, _, _, _, _, _, HF3.out.1⟩, keeps_lt HF3.out.2 (fun b hb hc => hc.elim id (fun h => absurd hb (by omega)))⟩
end Go.Proofs.YtagekdmkidbhpaaGreat
/- The document's Commit. -/
namespace Go.Proofs.YtagekdmkidbhpaaGreat
open Go.RowKit Go.Maps Go.Sort Orl
set_option linter.unusedVariables false
set_option linter.unusedSimpArgs false

theorem Aft.at {B : Nat → Prop} {w wr : World} {p : Nat} {ks : List KV} {ls : List Mk} {w' : World} (hk : Keeps B w wr) (h : Aft (fun b => B b ∨ w.heap.size ≤ b) wr p ks ls w') : Aft B w p ks ls w' := by
  obtain ⟨⟨oK, nK, cK, oL, nL, cL, h1⟩, h2⟩ := h
  refine ⟨⟨oK, nK, cK, oL, nL, cL, h1.mono (fun b hb => ?_)⟩, hk.then h2 (fun b hb => hb)⟩
  rcases hb with hb | hb
  · exact hb
  · exact .inr (Nat.le_trans hk.size hb)
theorem raiseL_len (ls : List Mk) (k : Tx) (i : Nat) : (raiseL ls k i).length ≤ ls.length + 1 := by
  unfold raiseL
  split
  · rw [List.length_set]; omega
  · unfold insL
    have := rpos_le' ls k
    simp only [List.length_append, List.length_cons, List.length_take, List.length_drop]
    omega
theorem stepL_len (i : Nat) (ls : List Mk) (x : KV) : (stepL i ls x).length ≤ ls.length + 1 := by
  unfold stepL
  split
  · exact raiseL_len _ _ _
  · omega
theorem foldL_len (i : Nat) : ∀ (ks : List KV) (ls : List Mk), (ks.foldl (stepL i) ls).length ≤ ls.length + ks.length
  | [], ls => by simp
  | x :: r, ls => by
    have h1 := foldL_len i r (stepL i ls x)
    have h2 := stepL_len i ls x
    simp only [List.foldl_cons, List.length_cons]
    omega
theorem foldL_succ (i : Nat) (ks : List KV) (ls : List Mk) (t : Nat) (ht : t < ks.length) : (ks.take (t + 1)).foldl (stepL i) ls = stepL i ((ks.take t).foldl (stepL i) ls) (ks.getD t kv0) := by
  rw [take_succ_getD ks t kv0 ht, List.foldl_append]; rfl
/-- a stamp written over -/
theorem ro_stamp {B : Nat → Prop} {w : World} {p : Nat} {oK : Option Addr} {nK cK : Nat} {oL : Option Addr} {nL cL : Nat} {ks : List KV} {ls : List Mk} (h : RO B w p oK nK cK oL nL cL ks ls) {R : Nat} (hR : R < ks.length) (z : Int) {g off : Nat} (ho : oK = some ⟨g, off, none⟩) :
    off = 0 ∧ w.frozen? ⟨g, R * 5 + 4, none⟩ = false ∧ RO B (w.setCell ⟨g, R * 5 + 4, none⟩ (.int .i64 z)) p oK nK cK oL nL cL (ks.set R { ks.getD R kv0 with stamp := z }) ls ∧ Keeps B w (w.setCell ⟨g, R * 5 + 4, none⟩ (.int .i64 z)) := by
  rcases h.k.shape with ⟨_, _, e'⟩ | ⟨g', cur, hoK, hg, hc, hm, hs, ht⟩
  · rw [e'] at hR; simp at hR
  · rw [hoK] at ho
    injection ho with ho
    injection ho with e1 e2
    subst e1 e2 hoK
    have hkg : Keeps (eqA g') w (w.setCell ⟨g', R * 5 + 4, none⟩ (.int .i64 z)) := (Keeps.refl _ _).setA _ _
    have hown : Own KE (w.setCell ⟨g', R * 5 + 4, none⟩ (.int .i64 z)) (some ⟨g', 0, none⟩) cK (ks.set R { ks.getD R kv0 with stamp := z }) := by
      refine own_of_shape okK (blk_set hg _ _) (by simpa using hc) hm (by simp [hs]) ?_
      rw [cells_setc2 okK 4 (.int .i64 z) { ks.getD R kv0 with stamp := z } (by decide) ks R kv0 hR rfl]
      simp only [Array.toList_setIfInBounds, List.length_set]
      rw [List.take_set, ht]
      rfl
    have hne : ∀ {o : Option Addr} {c : Nat} {ys : List Tx}, Own TE w o c ys → Own TE (w.setCell ⟨g', R * 5 + 4, none⟩ (.int .i64 z)) o c ys := fun hh => hh.keeps hkg (fun b q1 e => own_ne hh hg (by decide) b q1 e)
    have hpg : p ≠ g' := fun e => by
      have := h.b
      rw [e, hg] at this
      injection this with this
      injection this with _ this _
      cases this
    have hmem : ∀ x ∈ ks.set R { ks.getD R kv0 with stamp := z }, ∃ y ∈ ks, x.o = y.o ∧ x.c = y.c ∧ x.keys = y.keys := fun x hx => by
      rcases List.mem_or_eq_of_mem_set hx with hx | hx
      · exact ⟨x, hx, rfl, rfl, rfl⟩
      · exact ⟨_, getD_mem_lt kv0 hR, by rw [hx], by rw [hx], by rw [hx]⟩
    refine ⟨rfl, frozen_of_blk hg _, ⟨blk_set_ne h.b hpg _, hown, fun x hx => ?_, h.l.keeps hkg (fun b q1 e => own_ne h.l hg (by decide) b q1 e), by rw [List.length_set]; exact h.nk, h.nl, by rw [List.length_set]; exact h.lk, h.ll, h.bp, h.bk, fun x hx => ?_, h.bl⟩, hkg.mono (fun b hb => by have : b = g' := hb; rw [this]; exact h.bk g' ⟨_, rfl, rfl⟩)⟩
    · obtain ⟨y, hy, q1, q2, q3⟩ := hmem x hx
      rw [q1, q2, q3]; exact hne (h.key y hy)
    · obtain ⟨y, hy, q1, q2, q3⟩ := hmem x hx
      rw [q1]; exact h.bt y hy
/-- the first t stamped -/
def stT (ks : List KV) (f : KV → KV) (t : Nat) : List KV := (ks.take t).map f ++ ks.drop t
theorem stT_len (ks : List KV) (f : KV → KV) (t : Nat) : (stT ks f t).length = ks.length := by
  unfold stT
  simp only [List.length_append, List.length_map, List.length_take, List.length_drop]
  omega
theorem stT_at (ks : List KV) (f : KV → KV) (t : Nat) (ht : t < ks.length) : (stT ks f t).getD t kv0 = ks.getD t kv0 := by
  unfold stT
  rw [getD_app2, List.length_map, List.length_take, Nat.min_eq_left (Nat.le_of_lt ht), if_neg (Nat.lt_irrefl t), Nat.sub_self]
  rw [List.drop_eq_getElem_cons ht]
  simp [List.getD_eq_getElem?_getD, ht]
theorem stT_succ (ks : List KV) (f : KV → KV) (t : Nat) (ht : t < ks.length) : stT ks f (t + 1) = (stT ks f t).set t (f (ks.getD t kv0)) := by
  unfold stT
  have hl : ((ks.take t).map f).length = t := by rw [List.length_map, List.length_take]; omega
  rw [List.set_append_right _ _ (by omega), hl, Nat.sub_self, List.drop_eq_getElem_cons ht, List.set_cons_zero, take_succ_getD ks t kv0 ht, List.map_append, List.append_assoc]
  rfl
theorem stT_same (ks : List KV) (f : KV → KV) (t : Nat) (ht : t < ks.length) (he : f (ks.getD t kv0) = ks.getD t kv0) : stT ks f (t + 1) = stT ks f t := by
  rw [stT_succ ks f t ht, he]
  refine set_same _ _ _ ?_
  have h1 := stT_at ks f t ht
  have hl : t < (stT ks f t).length := by rw [stT_len]; exact ht
  rw [List.getD_eq_getElem?_getD, List.getElem?_eq_getElem hl] at h1
  rw [List.getElem?_eq_getElem hl]
  exact congrArg some h1
theorem rCommit_bad (w : World) (r : Value) (i : Nat) (now : Int) (hbad : (decide (65536 ≤ i) && tickB now) = false) :
    Calls Tryz.prog 26 #[r, .int .u64 ((i : Nat) : Int), .int .i64 now] w fun e w' => e = .returned (.tuple #[.int .i64 0, .int .i64 1]) ∧ Keeps no w w' := by
  have h1 := refID_any w i
  have h2 := fun X => rtick_any X now
  generalize decide (65536 ≤ i) = B1 at h1 hbad
  generalize tickB now = B2 at h2 hbad
  cases B1
  · clear h2 hbad
    go_enter Tryz.func26, Tryz.ntmps26
    go_wp2_with fail
    refine h1.mono ?_
    rintro e w1 ⟨rfl, hw⟩
    subst w1
    go_wp2_with fail
    go_ret2
    exact ⟨rfl, Keeps.refl _ _⟩
  · have hb : B2 = false := by simpa using hbad
    subst hb
    clear hbad
    go_enter Tryz.func26, Tryz.ntmps26
    go_wp2_with fail
    refine h1.mono ?_
    rintro e w1 ⟨rfl, hw⟩
    subst w1
    go_wp2_with fail
    refine (h2 _).mono ?_
    rintro e w1 ⟨rfl, hw⟩
    subst w1
    go_wp2_with fail
    go_ret2
    exact ⟨rfl, Keeps.refl _ _⟩
set_option maxRecDepth 10000 in
set_option maxHeartbeats 2000000 in
theorem rCommit_good (B : Nat → Prop) (w : World) (p : Nat) (oK : Option Addr) (nK cK : Nat) (oL : Option Addr) (nL cL : Nat) (ks : List KV) (ls : List Mk) (h : RO B w p oK nK cK oL nL cL ks ls) (i : Nat) (now : Int) (hok : (decide (65536 ≤ i) && tickB now) = true) (hb : ls.length + ks.length ≤ 1000000000) :
    Calls Tryz.prog 26 #[.pointer (some ⟨p, 0, none⟩), .int .u64 ((i : Nat) : Int), .int .i64 now] w fun e w' => e = .returned (.tuple #[.int .i64 ((hasC ks i : Nat) : Int), .int .i64 0]) ∧ Hid (Aft B w p (ks.map (stampK (ks.foldl (stepL i) ls) now)) (ks.foldl (stepL i) ls) w') := by
  have h1 := refID_any w i
  have h2 := fun X => rtick_any X now
  simp only [Bool.and_eq_true] at hok
  rw [hok.1] at h1
  rw [hok.2] at h2
  have HB : Hid (ls.length + ks.length ≤ 1000000000 ∧ nK = ks.length) := ⟨hb, h.nk⟩
  have H0 : Hid (Aft B w p ks ls w) := ⟨⟨oK, nK, cK, oL, nL, cL, h.mono (fun b hb => .inl hb)⟩, Keeps.refl _ _⟩
  have hA : (nK : Int) ≤ 1000000000 := by have := h.nk; omega
  clear h hok hb
  go_enter Tryz.func26, Tryz.ntmps26
  go_wp2_with fail
  refine h1.mono ?_
  rintro e w1 ⟨rfl, hw⟩
  subst w1
  go_wp2_with fail
  refine (h2 _).mono ?_
  rintro e w1 ⟨rfl, hw⟩
  subst w1
  clear h1 h2
  go_wp2_with fail
  go_loopw [8, 9, 10] (fun zn z _ wr => ∃ t n : Nat, t ≤ nK ∧ z = .int .i64 t ∧ zn = .int .i64 n ∧ (n : Int) ≤ t ∧ Hid (Aft B w p ks ((ks.take t).foldl (stepL i) ls) wr ∧ n = hasC (ks.take t) i)) (fun _ z _ _ => nK - (intOf z).toNat)
  case atStart => exact ⟨0, 0, by omega, rfl, rfl, by omega, H0.out, rfl⟩
  case round =>
    obtain ⟨t, n, ht, rfl, rfl, hnt, HT⟩ := hrel
    clear H0
    obtain ⟨⟨oK, nK1, cK, oL, nL, cL, hro⟩, hkp⟩ := HT.out.1
    have hnk1 : nK1 = nK := by rw [hro.nk, HB.out.2]
    subst nK1
    have HRO : Hid (RO (fun b => B b ∨ w.heap.size ≤ b) wr p oK nK cK oL nL cL ks ((ks.take t).foldl (stepL i) ls) ∧ Keeps B w wr) := ⟨hro, hkp⟩
    have b0 := cell_of_blk hro.b 0
    by_cases htl : t < nK
    · have htl' : (t : Int) < nK := by omega
      have hta : t < ks.length := by have := HB.out.2; omega
      obtain ⟨g, off, e1, d0, d1, d2, d3, d4⟩ := hro.k.sl.atK hta
      subst e1
      obtain ⟨x, hx⟩ : ∃ x, x = ks.getD t kv0 := ⟨_, rfl⟩
      rw [← hx] at d0 d1 d2 d3 d4
      have HS : Hid (hasC (ks.take (t + 1)) i = n + (if x.m.2 = i then 1 else 0) ∧ (ks.take (t + 1)).foldl (stepL i) ls = stepL i ((ks.take t).foldl (stepL i) ls) x ∧ ((ks.take t).foldl (stepL i) ls).length ≤ 1000000000) := ⟨by rw [hasC_succ ks i t hta, ← hx, ← HT.out.2], by rw [foldL_succ i ks ls t hta, ← hx], by have h1 := foldL_len i (ks.take t) ls; rw [List.length_take] at h1; have := HB.out.1; omega⟩
      obtain ⟨⟨xk, xi⟩, xv, xo, xc, xks, xst⟩ := x
      simp only at d0 d1 d2 d3 d4 HS
      obtain ⟨xn, hxn⟩ : ∃ xn, xn = xks.length := ⟨_, rfl⟩
      rw [← hxn] at d3
      obtain ⟨ls1, hls1⟩ : ∃ ls1, ls1 = (ks.take t).foldl (stepL i) ls := ⟨_, rfl⟩
      rw [← hls1] at HRO HS
      clear hx hta hxn hro hkp hls1 d4
      by_cases hxi : xi = i
      · have hxe : (((xi : Nat) : Int) != ((i : Nat) : Int)) = false := by simp; omega
        have HE : Hid (hasC (ks.take (t + 1)) i = n + 1) := by rw [HS.out.1, if_pos hxi]; exact rfl
        have HXI : Hid (xi = i) := hxi
        clear hxi
        have hla := rLast_any (wr.alloc (.cells #[.string xk, .int .u64 ((xi : Nat) : Int), .string xv, .slice xo xn xc] 45)) p (some ⟨g, off, none⟩) nK cK oL nL cL ks ls1 (HRO.out.1.rd.keepsN ((Keeps.refl no wr).alloc _)) xk
        obtain ⟨L, hL⟩ : ∃ L, lastIn ls1 xk = L := ⟨_, rfl⟩
        have HL : Hid (lastIn ls1 xk = L) := hL
        rw [hL] at hla
        have HVB : Hid ((wr.alloc (.cells #[.string xk, .int .u64 ((xi : Nat) : Int), .string xv, .slice xo xn xc] 45)).heap[wr.heap.size]? = some (.cells #[.string xk, .int .u64 ((xi : Nat) : Int), .string xv, .slice xo xn xc] 45 (0, 0))) := blk_new wr _
        clear hL
        go_wp2_with fail
        refine hla.mono ?_
        rintro e w4 ⟨rfl, hk4⟩
        have HK4 : Hid (Keeps no wr w4) := ((Keeps.refl no wr).alloc _).trans hk4
        obtain ⟨v0, v1, v2, v3⟩ := cells4 (hk4.at HVB.out id)
        clear hla hk4 HVB b0 d0 d1 d2 d3
        by_cases hlt : L < i
        · have hlt' : ((L : Nat) : Int) < ((i : Nat) : Int) := by omega
          have HSL : Hid ((ks.take (t + 1)).foldl (stepL i) ls = raiseL ls1 xk i) := by
            rw [HS.out.2.1]
            unfold stepL
            rw [if_pos ⟨HXI.out, by rw [HL.out]; exact hlt⟩]
            exact rfl
          clear hlt
          go_wp2_with fail
          refine (rraise_any (fun b => B b ∨ w.heap.size ≤ b) w4 p (some ⟨g, off, none⟩) nK cK oL nL cL ks ls1 (HRO.out.1.keepsN HK4.out) xk i HS.out.2.2).mono ?_
          rintro e w5 ⟨rfl, h5⟩
          have H5 : Hid (Aft B w p ks (raiseL ls1 xk i) w5) := Aft.at (HRO.out.2.then HK4.out (fun b hb => hb.elim)) h5.out
          clear h5 v0 v1 v2 v3
          go_wp2_with fail
          go_roundw
          case rel => exact ⟨t + 1, n + 1, by omega, by go_num, by go_num, by omega, by rw [HSL.out]; exact H5.out, HE.out.symm⟩
          case measure => simp [intOf]; omega
        · have hlt' : ¬ ((L : Nat) : Int) < ((i : Nat) : Int) := by omega
          have HSL : Hid ((ks.take (t + 1)).foldl (stepL i) ls = ls1) := by
            rw [HS.out.2.1]
            unfold stepL
            rw [if_neg (fun hh => hlt (by rw [← HL.out]; exact hh.2))]
            exact rfl
          have H5 : Hid (Aft B w p ks ls1 w4) := ⟨⟨_, _, _, _, _, _, HRO.out.1.keepsN HK4.out⟩, HRO.out.2.then HK4.out (fun b hb => hb.elim)⟩
          clear hlt v0 v1 v2 v3
          go_wp2_with fail
          go_roundw
          case rel => exact ⟨t + 1, n + 1, by omega, by go_num, by go_num, by omega, by rw [HSL.out]; exact H5.out, HE.out.symm⟩
          case measure => simp [intOf]; omega
      · have hxe : (((xi : Nat) : Int) != ((i : Nat) : Int)) = true := by simp; omega
        have HE : Hid (hasC (ks.take (t + 1)) i = n) := by rw [HS.out.1, if_neg hxi]; exact rfl
        have HSL : Hid ((ks.take (t + 1)).foldl (stepL i) ls = ls1) := by
          rw [HS.out.2.1]
          unfold stepL
          rw [if_neg (fun hh => hxi hh.1)]
          exact rfl
        have H5 : Hid (Aft B w p ks ls1 (wr.alloc (.cells #[.string xk, .int .u64 ((xi : Nat) : Int), .string xv, .slice xo xn xc] 45))) := ⟨⟨_, _, _, _, _, _, HRO.out.1.keepsN ((Keeps.refl no wr).alloc _)⟩, HRO.out.2.then ((Keeps.refl no wr).alloc _) (fun b hb => hb.elim)⟩
        clear hxi
        go_wp2_with fail
        go_roundw
        case rel => exact ⟨t + 1, n, by omega, by go_num, rfl, by omega, by rw [HSL.out]; exact H5.out, HE.out.symm⟩
        case measure => simp [intOf]; omega
    · have htl' : ¬ (t : Int) < nK := by omega
      have e : ks.take t = ks := List.take_of_length_le (by have := HB.out.2; omega)
      obtain ⟨ls1, hls1⟩ : ∃ ls1, ls1 = ks.foldl (stepL i) ls := ⟨_, rfl⟩
      have HL1 : Hid (ks.foldl (stepL i) ls = ls1 ∧ n = hasC ks i ∧ Aft B w p ks ls1 wr) := by
        have h1 := HT.out
        rw [e, ← hls1] at h1
        exact ⟨hls1.symm, h1.2, h1.1⟩
      clear e hls1 HT HRO hro hkp
      rename World => wx
      go_wp2_with fail
      go_loopw [11] (fun z wr => ∃ q : Nat, q ≤ nK ∧ z = .int .i64 q ∧ Hid (Aft B w p (stT ks (stampK ls1 now) q) ls1 wr)) (fun z _ => nK - (intOf z).toNat)
      case atStart => exact ⟨0, by omega, rfl, HL1.out.2.2⟩
      case round =>
        obtain ⟨q, hq, rfl, HT⟩ := hrel
        clear b0
        obtain ⟨⟨oK, nK1, cK, oL, nL, cL, hro⟩, hkp⟩ := HT.out
        have hnk1 : nK1 = nK := by rw [hro.nk, stT_len, HB.out.2]
        subst nK1
        have HRO : Hid (RO (fun b => B b ∨ w.heap.size ≤ b) wr p oK nK cK oL nL cL (stT ks (stampK ls1 now) q) ls1 ∧ Keeps B w wr) := ⟨hro, hkp⟩
        have b0 := cell_of_blk hro.b 0
        by_cases hql : q < nK
        · have hql' : (q : Int) < nK := by omega
          have hqa : q < ks.length := by have := HB.out.2; omega
          have hqb : q < (stT ks (stampK ls1 now) q).length := by rw [stT_len]; exact hqa
          obtain ⟨g, off, e1, d0, d1, d2, d3, d4⟩ := hro.k.sl.atK hqb
          obtain ⟨hoff, hfz, hro2, hkp2⟩ := ro_stamp hro hqb now e1
          subst e1
          subst hoff
          rw [stT_at _ _ _ hqa] at d0 d1 d2 d3 d4
          obtain ⟨x, hx⟩ : ∃ x, x = ks.getD q kv0 := ⟨_, rfl⟩
          rw [← hx] at d0 d1 d2 d3 d4
          have HX : Hid (x = ks.getD q kv0 ∧ q < ks.length) := ⟨hx, hqa⟩
          obtain ⟨⟨xk, xi⟩, xv, xo, xc, xks, xst⟩ := x
          simp only [Nat.zero_add] at d0 d1 d2 d3 d4
          clear hx hqa hqb hro hkp hro2 hkp2 hfz d2 d3
          obtain ⟨L, hL⟩ : ∃ L, lastIn ls1 xk = L := ⟨_, rfl⟩
          have HL : Hid (lastIn ls1 xk = L) := hL
          have cS := call_grown (W := wr) (f := 57) (args := #[.pointer (some ⟨p, 0, none⟩), .string xk]) (v := .int .u64 ((L : Nat) : Int)) (fun X hX => by rw [← hL]; exact rLast_any X p _ nK cK oL nL cL _ ls1 (HRO.out.1.rd.keepsN hX) xk)
          have y0 := cell_regrown b0
          have z0 := cell_regrown d0
          have z1 := cell_regrown d1
          have z4 := cell_regrown d4
          clear hL
          by_cases hst : xst = -1
          · have hst' : (xst == -1) = true := by simpa using hst
            by_cases hlt : xi < L
            · have hlt' : ((xi : Nat) : Int) < ((L : Nat) : Int) := by omega
              have hld : decide (((xi : Nat) : Int) < ((L : Nat) : Int)) = true := decide_eq_true hlt'
              have HE : Hid (stT ks (stampK ls1 now) (q + 1) = (stT ks (stampK ls1 now) q).set q { (stT ks (stampK ls1 now) q).getD q kv0 with stamp := now }) := by
                rw [stT_succ _ _ _ HX.out.2, stT_at _ _ _ HX.out.2, ← HX.out.1]
                unfold stampK
                rw [if_pos ⟨hst, by show xi < lastIn ls1 xk; rw [HL.out]; exact hlt⟩]
                exact rfl
              clear hst hlt
              go_wp2_with fail
              refine wp_region_quiet_below (by kernel_rfl) (by kernel_rfl) ?_
              repeat (go_big_quiet_step (exact cS _ _))
              refine wpQuiet_nil ?_
              intro _ hw'
              obtain ⟨⟨dq, osq⟩, rfl⟩ := hw'
              have HKq : Hid (Keeps no wr (Sort.grow (redrawn wr dq) osq)) := keeps_grownQ ..
              generalize Sort.grow (redrawn wr dq) osq = w2 at HKq ⊢
              clear cS
              have hqb : q < (stT ks (stampK ls1 now) q).length := by rw [stT_len]; exact HX.out.2
              obtain ⟨_, hfz, hro2, hkp2⟩ := ro_stamp (HRO.out.1.keepsN HKq.out) hqb now rfl
              have c4 := HKq.out.cellN d4
              have c0 := HKq.out.cellN b0
              have HF : Hid (Aft B w p (stT ks (stampK ls1 now) (q + 1)) ls1 (w2.setCell ⟨g, q * 5 + 4, none⟩ (.int .i64 now))) := ⟨⟨_, _, _, _, _, _, by rw [HE.out]; exact hro2⟩, (HRO.out.2.then HKq.out (fun b hb => hb.elim)).then hkp2 (fun b hb => hb)⟩
              clear hro2 hkp2 hqb y0 z0 z1 z4 b0 d0 d1 d4
              go_wp2_with fail
              go_roundw
              case rel => exact ⟨q + 1, by omega, by go_num, HF.out⟩
              case measure => simp [intOf]; omega
            · have hlt' : ¬ ((xi : Nat) : Int) < ((L : Nat) : Int) := by omega
              have hld : decide (((xi : Nat) : Int) < ((L : Nat) : Int)) = false := decide_eq_false hlt'
              have HE : Hid (stT ks (stampK ls1 now) (q + 1) = stT ks (stampK ls1 now) q) := by
                refine stT_same _ _ _ HX.out.2 ?_
                rw [← HX.out.1]
                unfold stampK
                rw [if_neg (fun hh => hlt (by rw [← HL.out]; exact hh.2))]
              clear hst hlt
              go_wp2_with fail
              refine wp_region_quiet_below (by kernel_rfl) (by kernel_rfl) ?_
              repeat (go_big_quiet_step (exact cS _ _))
              refine wpQuiet_nil ?_
              intro _ hw'
              obtain ⟨⟨dq, osq⟩, rfl⟩ := hw'
              have HKq : Hid (Keeps no wr (Sort.grow (redrawn wr dq) osq)) := keeps_grownQ ..
              generalize Sort.grow (redrawn wr dq) osq = w2 at HKq ⊢
              clear cS
              have HF : Hid (Aft B w p (stT ks (stampK ls1 now) (q + 1)) ls1 w2) := by rw [HE.out]; exact HT.out.go HKq.out
              clear y0 z0 z1 z4 b0 d0 d1 d4
              go_wp2_with fail
              go_roundw
              case rel => exact ⟨q + 1, by omega, by go_num, HF.out⟩
              case measure => simp [intOf]; omega
          · have hst' : (xst == -1) = false := by simpa using hst
            have HE : Hid (stT ks (stampK ls1 now) (q + 1) = stT ks (stampK ls1 now) q) := by
              refine stT_same _ _ _ HX.out.2 ?_
              rw [← HX.out.1]
              unfold stampK
              rw [if_neg (fun hh => hst hh.1)]
            clear hst
            go_wp2_with fail
            refine wp_region_quiet_below (by kernel_rfl) (by kernel_rfl) ?_
            repeat (go_big_quiet_step (exact cS _ _))
            refine wpQuiet_nil ?_
            intro _ hw'
            obtain ⟨⟨dq, osq⟩, rfl⟩ := hw'
            have HKq : Hid (Keeps no wr (Sort.grow (redrawn wr dq) osq)) := keeps_grownQ ..
            generalize Sort.grow (redrawn wr dq) osq = w2 at HKq ⊢
            clear cS
            have HF : Hid (Aft B w p (stT ks (stampK ls1 now) (q + 1)) ls1 w2) := by rw [HE.out]; exact HT.out.go HKq.out
            clear y0 z0 z1 z4 b0 d0 d1 d4
            go_wp2_with fail
            go_roundw
            case rel => exact ⟨q + 1, by omega, by go_num, HF.out⟩
            case measure => simp [intOf]; omega
        · have hql' : ¬ (q : Int) < nK := by omega
          have e : stT ks (stampK ls1 now) q = ks.map (stampK ls1 now) := by
            unfold stT
            rw [List.take_of_length_le (by have := HB.out.2; omega), List.drop_eq_nil_of_le (by have := HB.out.2; omega), List.append_nil]
          have HF : Hid (Aft B w p (ks.map (stampK (ks.foldl (stepL i) ls) now)) (ks.foldl (stepL i) ls) wr) := by rw [HL1.out.1, ← e]; exact HT.out
          clear e hro hkp
          go_wp2_with fail
          go_ret2
          exact ⟨by rw [HL1.out.2.1]; rfl, HF.out⟩
end Go.Proofs.YtagekdmkidbhpaaGreat

import Derived.Test.YtdemoghlibnooaaGreatDoorB3
import Derived.Test.YtdemoghlibnooaaGreatDoorB12
import Derived.Test.YtdemoghlibnooaaGreatDoorBC
namespace Go.Proofs.YtdemoghlibnooaaGreatDoor
open Go.RowKit Go.Sort Orl
set_option linter.unusedVariables false
set_option linter.unusedSimpArgs false
set_option maxRecDepth 10000 in
theorem refRising_any (w : World) (a : Option Addr) (n c : Nat) (xs : List Tx) (hn : n = xs.length) (hl : xs.length ≤ 8796093022000) (hs : Sl TE w a c xs) :
    Calls Tryz.prog 168 #[.slice a n c] w fun e w' => e = .returned (.bool (rising lts xs)) ∧ Keeps no w w' := by
  have HA : Hid (n = xs.length) := hn
  have hA : (n : Int) ≤ 8796093022000 := by omega
  clear hn hl
  obtain ⟨R, hR⟩ : ∃ R, rising lts xs = R := ⟨_, rfl⟩
  have HR : Hid (rising lts xs = R) := hR
  rw [hR]
  clear hR
  go_enter Tryz.func168, Tryz.ntmps168
  go_wp2_with fail
  go_loopw [3] (fun i wr => ∃ k m : Nat, k ≤ n ∧ i = .int .i64 ((k : Int) + 1) ∧ wr = w.drewN m ∧ Hid (∀ j, j < k → j + 1 < xs.length → lts (xs.getD j e0) (xs.getD (j + 1) e0) = true)) (fun i _ => n + 1 - (intOf i).toNat)
  case atStart => exact ⟨0, 0, by omega, rfl, rfl, fun j hj => absurd hj (Nat.not_lt_zero _)⟩
  case round =>
    obtain ⟨k, m, hk, rfl, rfl, HT⟩ := hrel
    by_cases h2 : k + 1 < n
    · have hka : k + 1 < xs.length := by have := HA.out; omega
      obtain ⟨b1, off1, rfl, d1⟩ := hs.at (j := k) (by omega)
      obtain ⟨b2, off2, e2, d2⟩ := hs.at hka
      cases e2
      obtain ⟨x, hx⟩ : ∃ x, x = xs.getD k e0 := ⟨_, rfl⟩
      obtain ⟨y, hy⟩ : ∃ y, y = xs.getD (k + 1) e0 := ⟨_, rfl⟩
      rw [← hx] at d1
      rw [← hy] at d2
      have HX : Hid (x = xs.getD k e0) := hx
      have HY : Hid (y = xs.getD (k + 1) e0) := hy
      clear hx hy hka
      have h3 : (k : Int) + 1 < n := by omega
      cases hxy : Op.bytesLess x.toList y.toList
      · go_wp2
        go_quiet (fail)
        go_wp2
        go_ret
        refine ⟨?_, ((Keeps.refl _ _).drewN _).drewN _⟩
        have hf := rising_fail (lt := lts) e0 xs k (by have := HA.out; omega) (by rw [← HX.out, ← HY.out]; exact hxy)
        rw [← HR.out, hf]; rfl
      · go_wp2
        go_quiet (fail)
        go_wp2
        go_roundw
        case rel =>
          refine ⟨k + 1, _, by omega, by go_num, rfl, fun j hj hj2 => ?_⟩
          by_cases e : j = k
          · subst e; rw [← HX.out, ← HY.out]; exact hxy
          · exact HT.out j (by omega) hj2
        case measure => simp [intOf]; omega
    · have h3 : ¬ (k : Int) + 1 < n := by omega
      go_wp2
      go_ret
      refine ⟨?_, (Keeps.refl _ _).drewN _⟩
      have hf := rising_of_all (lt := lts) e0 xs (fun i hi => HT.out i (by have := HA.out; omega) hi)
      rw [← HR.out, hf]; rfl
theorem refHas_any (w : World) (a : Option Addr) (n c : Nat) (xs : List Tx) (s : Tx) (hn : n = xs.length) (hl : xs.length ≤ 8796093022000) (hs : Sl TE w a c xs) :
    Calls Tryz.prog 113 #[.slice a n c, .string s] w fun e w' => e = .returned (.bool (inn xs s)) ∧ w' = w := by
  have HA : Hid (n = xs.length) := hn
  have hA : (n : Int) ≤ 8796093022000 := by omega
  clear hn hl
  obtain ⟨R, hR⟩ : ∃ R, inn xs s = R := ⟨_, rfl⟩
  have HR : Hid (inn xs s = R) := hR
  rw [hR]
  clear hR
  go_enter Tryz.func113, Tryz.ntmps113
  go_wp2_with fail
  go_loop [5] (fun i => ∃ k : Nat, k ≤ n ∧ i = .int .i64 k ∧ Hid (s ∉ xs.take k)) (fun i => n - (intOf i).toNat)
  case atStart => exact ⟨0, by omega, rfl, show s ∉ xs.take 0 by simp⟩
  case round =>
    obtain ⟨k, hk, rfl, HT⟩ := hrel
    by_cases h2 : k < n
    · have hka : k < xs.length := by have := HA.out; omega
      obtain ⟨b1, off1, rfl, d1⟩ := hs.at hka
      obtain ⟨x, hx⟩ : ∃ x, x = xs.getD k e0 := ⟨_, rfl⟩
      rw [← hx] at d1
      have HX : Hid (x = xs.getD k e0) := hx
      clear hx hka
      by_cases hxy : x = s
      · have hxy' : (x.toList == s.toList) = true := by rw [tx_eq]; simpa using hxy
        go_wp2
        go_ret
        refine ⟨?_, rfl⟩
        have : s ∈ xs := by
          rw [← hxy, HX.out]; exact getD_mem_lt _ (by have := HA.out; omega)
        rw [← HR.out, (inn_iff xs s).2 this]; rfl
      · have hxy' : (x.toList == s.toList) = false := by rw [tx_eq]; simpa using hxy
        go_wp2
        go_round
        case rel =>
          refine ⟨k + 1, by omega, by go_num, ?_⟩
          show s ∉ xs.take (k + 1)
          rw [take_succ_getD xs k e0 (by have := HA.out; omega), ← HX.out]
          have := HT.out
          simp only [List.mem_append, List.mem_singleton, not_or]
          exact ⟨this, fun e => hxy e.symm⟩
        case measure => simp [intOf]; omega
    · go_wp2
      go_ret
      refine ⟨?_, rfl⟩
      have := HT.out
      rw [List.take_of_length_le (by have := HA.out; omega)] at this
      rw [← HR.out, inn_no this]; rfl
theorem refID_any (w : World) (i : Nat) : Calls Tryz.prog 67 #[.int .u64 (i : Nat)] w fun e w' => e = .returned (.bool (decide (65536 ≤ i))) ∧ w' = w := by
  by_cases h : 65536 ≤ i
  · have h' : (65536 : Int) ≤ (i : Int) := by omega
    have e : decide (65536 ≤ i) = true := decide_eq_true h
    rw [e]
    clear e h
    go_enter Tryz.func67, Tryz.ntmps67
    go_wp2
    go_ret
    exact ⟨by simp [h'], rfl⟩
  · have h' : ¬ (65536 : Int) ≤ (i : Int) := by omega
    have e : decide (65536 ≤ i) = false := decide_eq_false h
    rw [e]
    clear e h
    go_enter Tryz.func67, Tryz.ntmps67
    go_wp2
    go_ret
    exact ⟨by simp [h'], rfl⟩
def lenK (l : List Tx) : Bool := decide (1 ≤ l.length ∧ l.length ≤ 1024) && (l.all fun k => decide (k.size ≤ 65535))
theorem lenK_long {l : List Tx} {k : Nat} (hk : k < l.length) (h : 65535 < (l.getD k e0).size) : lenK l = false := by
  have : (l.all fun k => decide (k.size ≤ 65535)) = false := by
    rw [List.all_eq_false]
    exact ⟨_, getD_mem_lt e0 hk, by simp at h ⊢; exact h⟩
  unfold lenK; rw [this, Bool.and_false]
theorem lenK_of {l : List Tx} (h3 : ∀ j, j < l.length → (l.getD j e0).size ≤ 65535) : lenK l = decide (1 ≤ l.length ∧ l.length ≤ 1024) := by
  have : (l.all fun k => decide (k.size ≤ 65535)) = true := by
    rw [List.all_eq_true]
    intro x hx
    obtain ⟨j, hj, rfl⟩ := List.getElem_of_mem hx
    have := h3 j hj
    rw [List.getD_eq_getElem?_getD, List.getElem?_eq_getElem hj] at this
    exact decide_eq_true this
  unfold lenK; rw [this, Bool.and_true]
theorem lengths_any (w : World) (a : Option Addr) (n c : Nat) (xs : List Tx) (hn : n = xs.length) (hl : xs.length ≤ 8796093022000) (hsz : ∀ x ∈ xs, x.size ≤ 140737488351232) (hs : Sl TE w a c xs) :
    Calls Tryz.prog 167 #[.slice a n c] w fun e w' => e = .returned (.bool (lenK xs)) ∧ w' = w := by
  have HN : Hid (n = xs.length) := hn
  have hnl : n ≤ 8796093022000 := by omega
  clear hn
  obtain ⟨R, hR⟩ : ∃ R, lenK xs = R := ⟨_, rfl⟩
  have HR : Hid (lenK xs = R) := hR
  rw [hR]
  clear hR
  go_enter Tryz.func167, Tryz.ntmps167
  go_wp2_with fail
  go_loop [3] (fun i => ∃ k : Nat, k ≤ n ∧ i = .int .i64 k ∧ Hid (∀ j, j < k → (xs.getD j e0).size ≤ 65535)) (fun i => n - (intOf i).toNat)
  case atStart => exact ⟨0, by omega, rfl, fun j hj => absurd hj (Nat.not_lt_zero _)⟩
  case round =>
    obtain ⟨k, hk, rfl, HT⟩ := hrel
    by_cases h2 : k < n
    · have hka : k < xs.length := by have := HN.out; omega
      obtain ⟨b1, off1, rfl, d1⟩ := hs.at hka
      have hxs := hsz _ (getD_mem_lt e0 hka)
      obtain ⟨x, hx⟩ : ∃ x, x = xs.getD k e0 := ⟨_, rfl⟩
      rw [← hx] at d1 hxs
      have HX : Hid (x = xs.getD k e0) := hx
      clear hx hka
      by_cases hxy : 65535 < x.size
      · have hxy' : (65535 : Int) < (x.size : Int) := by omega
        go_wp2
        go_ret
        refine ⟨?_, rfl⟩
        rw [← HR.out, lenK_long (k := k) (by have := HN.out; omega) (by rw [← HX.out]; exact hxy)]; rfl
      · have hxy' : ¬ (65535 : Int) < (x.size : Int) := by omega
        go_wp2
        go_round
        case rel =>
          refine ⟨k + 1, by omega, by go_num, ?_⟩
          intro j hj
          by_cases e : j = k
          · subst e; rw [← HX.out]; omega
          · exact HT.out j (by omega)
        case measure => simp [intOf]; omega
    · have hkn : k = n := by omega
      have HRR : Hid (R = decide (1 ≤ n ∧ n ≤ 1024)) := by
        show _ = _
        rw [← HR.out, lenK_of (fun j hj => HT.out j (by have := HN.out; omega)), HN.out]
      by_cases g1 : 1 ≤ n
      · have g1' : (1 : Int) ≤ n := by omega
        by_cases g2 : n ≤ 1024
        · have g2' : (n : Int) ≤ 1024 := by omega
          go_wp2
          go_ret
          exact ⟨by rw [HRR.out, decide_eq_true ⟨g1, g2⟩]; simp [g2'], rfl⟩
        · have g2' : ¬ (n : Int) ≤ 1024 := by omega
          go_wp2
          go_ret
          exact ⟨by rw [HRR.out, decide_eq_false (fun h => g2 h.2)]; simp [g2'], rfl⟩
      · have g1' : ¬ (1 : Int) ≤ n := by omega
        go_wp2
        go_ret
        exact ⟨by rw [HRR.out, decide_eq_false (fun h => g1 h.1)]; simp, rfl⟩
theorem whole_lenK (l : List Tx) : okKeys l = (lenK l && rising lts l) := rfl
theorem refWhole_any (w : World) (a : Option Addr) (n c : Nat) (xs : List Tx) (hn : n = xs.length) (hl : xs.length ≤ 8796093022000) (hsz : ∀ x ∈ xs, x.size ≤ 140737488351232) (hs : Sl TE w a c xs) :
    Calls Tryz.prog 112 #[.slice a n c] w fun e w' => e = .returned (.bool (okKeys xs)) ∧ Keeps no w w' := by
  have HN : Hid (n = xs.length) := hn
  clear hn
  obtain ⟨R, hR⟩ : ∃ R, okKeys xs = R := ⟨_, rfl⟩
  have HR : Hid (okKeys xs = R) := hR
  rw [hR]
  clear hR
  go_enter Tryz.func112, Tryz.ntmps112
  go_wp2_with fail
  refine (lengths_any w a n c xs HN.out hl hsz hs).mono ?_
  rintro e wq ⟨rfl, hwq⟩
  subst wq
  by_cases h : lenK xs = true
  · rw [h]
    go_wp2_with fail
    refine (refRising_any w a n c xs HN.out hl hs).mono ?_
    rintro e w2 ⟨rfl, hk2⟩
    go_wp2
    go_ret
    exact ⟨by rw [← HR.out, whole_lenK, h, Bool.true_and]; rfl, hk2⟩
  · have h' : lenK xs = false := by simpa using h
    rw [h']
    go_wp2
    go_ret
    exact ⟨by rw [← HR.out, whole_lenK, h', Bool.false_and]; rfl, Keeps.refl _ _⟩
end Go.Proofs.YtdemoghlibnooaaGreatDoor
namespace Go.Proofs.YtdemoghlibnooaaGreatDoor
open Go.RowKit Go.Maps Go.Sort Orl
set_option linter.unusedVariables false
set_option linter.unusedSimpArgs false
theorem rtick_any (w : World) (t : Int) : Calls Tryz.prog 68 #[.int .i64 t] w fun e w' => e = .returned (.bool (tickB t)) ∧ w' = w := by
  by_cases h : 0 ≤ t
  · by_cases h2 : t ≤ 1099511627776
    · have hd : tickB t = true := by simp [tickB, h, h2]
      rw [hd]
      go_enter Tryz.func68, Tryz.ntmps68
      go_wp2
      go_ret
      exact ⟨rfl, rfl⟩
    · have hd : tickB t = false := by simp [tickB]; intro; omega
      rw [hd]
      go_enter Tryz.func68, Tryz.ntmps68
      go_wp2
      go_ret
      exact ⟨rfl, rfl⟩
  · have hd : tickB t = false := by simp [tickB]; omega
    rw [hd]
    go_enter Tryz.func68, Tryz.ntmps68
    go_wp2
    go_ret
    exact ⟨rfl, rfl⟩
theorem rless_any (w : World) (k1 : Tx) (i1 : Nat) (v1 : Tx) (o1 : Option Addr) (n1 c1 : Nat) (k2 : Tx) (i2 : Nat) (v2 : Tx) (o2 : Option Addr) (n2 c2 : Nat) :
    Calls Tryz.prog 114 #[.agg #[.string k1, .int .u64 ((i1 : Nat) : Int), .string v1, .slice o1 n1 c1], .agg #[.string k2, .int .u64 ((i2 : Nat) : Int), .string v2, .slice o2 n2 c2]] w fun e w' => e = .returned (.bool (ltM (k1, i1) (k2, i2))) ∧ Keeps no w w' := by
  have HW : Hid (Keeps no w ((w.alloc (.cells #[.string k1, .int .u64 ((i1 : Nat) : Int), .string v1, .slice o1 n1 c1] 112)).alloc (.cells #[.string k2, .int .u64 ((i2 : Nat) : Int), .string v2, .slice o2 n2 c2] 112))) := ((Keeps.refl no w).alloc _).alloc _
  obtain ⟨R, hR⟩ : ∃ R, ltM (k1, i1) (k2, i2) = R := ⟨_, rfl⟩
  rw [hR]
  have HR : Hid (ltM (k1, i1) (k2, i2) = R) := hR
  clear hR
  cases h1 : Op.bytesLess k1.toList k2.toList
  · have g1 : Hid (lts k1 k2 = false) := h1
    by_cases h2 : k1 = k2
    · have e2 : (k1.toList == k2.toList) = true := by rw [tx_eq]; simpa using h2
      by_cases h3 : i1 < i2
      · have h3' : (i1 : Int) < i2 := by omega
        have HE : Hid (R = true) := by rw [← HR.out]; show _ = _; simp [ltM, h2, h3]
        clear h2 h3
        go_enter Tryz.func114, Tryz.ntmps114
        go_wp2_with fail
        go_ret
        exact ⟨by rw [HE.out]; simp [h3'], HW.out⟩
      · have h3' : ¬ (i1 : Int) < i2 := by omega
        have HE : Hid (R = false) := by rw [← HR.out]; show _ = _; simp [ltM, h2, h3, g1.out, swoT.irrefl]
        clear h2 h3
        go_enter Tryz.func114, Tryz.ntmps114
        go_wp2_with fail
        go_ret
        exact ⟨by rw [HE.out]; simp [h3'], HW.out⟩
    · have e2 : (k1.toList == k2.toList) = false := by rw [tx_eq]; simpa using h2
      have HE : Hid (R = false) := by rw [← HR.out]; show _ = _; simp [ltM, h2, g1.out]
      clear h2
      go_enter Tryz.func114, Tryz.ntmps114
      go_wp2_with fail
      go_ret
      exact ⟨by rw [HE.out]; rfl, HW.out⟩
  · have g1 : Hid (lts k1 k2 = true) := h1
    have HE : Hid (R = true) := by rw [← HR.out]; show _ = _; simp [ltM, g1.out]
    go_enter Tryz.func114, Tryz.ntmps114
    go_wp2_with fail
    go_ret
    exact ⟨by rw [HE.out]; rfl, HW.out⟩
structure RD (w : World) (p : Nat) (oK : Option Addr) (nK cK : Nat) (oL : Option Addr) (nL cL : Nat) (ks : List KV) (ls : List Mk) : Prop where
  b : w.heap[p]? = some (.cells #[.slice oK nK cK, .slice oL nL cL] 130 (0, 0))
  k : Sl KE w oK cK ks
  l : Sl LE w oL cL ls
  nk : nK = ks.length
  nl : nL = ls.length
  lk : ks.length ≤ 1954687338211
  ll : ls.length ≤ 5864062014634
theorem RD.keepsN {w w' : World} {p : Nat} {oK : Option Addr} {nK cK : Nat} {oL : Option Addr} {nL cL : Nat} {ks : List KV} {ls : List Mk} (h : RD w p oK nK cK oL nL cL ks ls) (hk : Keeps no w w') : RD w' p oK nK cK oL nL cL ks ls := ⟨hk.at h.b id, h.k.keepsN hk, h.l.keepsN hk, h.nk, h.nl, h.lk, h.ll⟩
theorem fnd_first {k : Tx} : ∀ (ls : List Mk) (t : Nat), t < ls.length → (∀ q ∈ ls.take t, q.1 ≠ k) → (ls.getD t (e0, 0)).1 = k → fnd k ls = some (ls.getD t (e0, 0)).2
  | [], t, h, _, _ => absurd h (by simp)
  | p :: r, 0, _, _, e => by
    have e' : p.1 = k := e
    simp only [fnd, if_pos e']
    rfl
  | p :: r, t + 1, h, hq, e => by
    have h1 : p.1 ≠ k := hq p (by simp)
    have h2 := fnd_first r t (by simpa using h) (fun q hq' => hq q (by simp [hq'])) e
    simp only [fnd, if_neg h1]
    exact h2
set_option maxRecDepth 10000 in
theorem rLast_any (w : World) (p : Nat) (oK : Option Addr) (nK cK : Nat) (oL : Option Addr) (nL cL : Nat) (ks : List KV) (ls : List Mk) (h : RD w p oK nK cK oL nL cL ks ls) (k : Tx) :
    Calls Tryz.prog 69 #[.pointer (some ⟨p, 0, none⟩), .string k] w fun e w' => e = .returned (.int .u64 ((lastIn ls k : Nat) : Int)) ∧ Keeps no w w' := by
  have HA : Hid (RD w p oK nK cK oL nL cL ks ls) := h
  have hA : (nL : Int) ≤ 5864062014634 := by have := h.nl; have := h.ll; omega
  obtain ⟨R, hR⟩ : ∃ R : Nat, lastIn ls k = R := ⟨_, rfl⟩
  have HR : Hid (lastIn ls k = R) := hR
  rw [hR]
  clear hR h
  go_enter Tryz.func69, Tryz.ntmps69
  go_wp2_with fail
  go_loopw [5] (fun i wr => ∃ t : Nat, t ≤ nL ∧ i = .int .i64 t ∧ Hid (Keeps no w wr) ∧ Hid (∀ q ∈ ls.take t, q.1 ≠ k)) (fun i _ => nL - (intOf i).toNat)
  case atStart => exact ⟨0, by omega, rfl, Keeps.refl _ _, fun q hq => absurd hq (by simp)⟩
  case round =>
    obtain ⟨t, ht, rfl, HK, HT⟩ := hrel
    have b1 := cell_of_blk (HA.out.keepsN HK.out).b 1
    by_cases htl : t < nL
    · have htl' : (t : Int) < nL := by omega
      have hta : t < ls.length := by have := HA.out.nl; omega
      obtain ⟨g, off, e1, d0, d1⟩ := (HA.out.keepsN HK.out).l.atL hta
      subst e1
      obtain ⟨x, hx⟩ : ∃ x, x = ls.getD t (e0, 0) := ⟨_, rfl⟩
      rw [← hx] at d0 d1
      have HX : Hid (x = ls.getD t (e0, 0) ∧ t < ls.length) := ⟨hx, hta⟩
      clear hx hta
      by_cases hxk : x.1 = k
      · have hxe : (x.1.toList == k.toList) = true := by rw [tx_eq]; simpa using hxk
        have HE : Hid (x.2 = R) := by
          rw [← HR.out]
          unfold lastIn
          show _ = _
          rw [fnd_first ls t HX.out.2 HT.out (by rw [← HX.out.1]; exact hxk), ← HX.out.1]
          rfl
        clear hxk
        go_wp2_with fail
        go_ret
        exact ⟨by rw [HE.out]; rfl, HK.out⟩
      · have hxe : (x.1.toList == k.toList) = false := by rw [tx_eq]; simpa using hxk
        have HE : Hid (x.1 ≠ k) := hxk
        clear hxk
        go_wp2_with fail
        go_roundw
        case rel =>
          refine ⟨t + 1, by omega, by go_num, HK.out, ?_⟩
          show ∀ q ∈ ls.take (t + 1), q.1 ≠ k
          rw [take_succ_getD ls t (e0, 0) HX.out.2]
          intro q hq
          rcases List.mem_append.1 hq with hq | hq
          · exact HT.out q hq
          · rw [List.mem_singleton.1 hq, ← HX.out.1]; exact HE.out
        case measure => simp [intOf]; omega
    · have htl' : ¬ (t : Int) < nL := by omega
      have HE : Hid (R = 0) := by
        rw [← HR.out]
        have h1 := HT.out
        rw [List.take_of_length_le (by have := HA.out.nl; omega)] at h1
        unfold lastIn
        show _ = _
        rw [fnd_none.2 h1]; rfl
      go_wp2_with fail
      go_ret
      exact ⟨by rw [HE.out]; rfl, HK.out⟩
def fpos (ks : List KV) (m : Mk) : Nat := (ks.takeWhile fun x => ltM x.m m).length
def there (ks : List KV) (m : Mk) : Bool := decide (fpos ks m < ks.length) && decide ((ks.getD (fpos ks m) kv0).m = m)
theorem fpos_le (ks : List KV) (m : Mk) : fpos ks m ≤ ks.length := (List.takeWhile_sublist _).length_le
theorem fpos_of {m : Mk} : ∀ (ks : List KV) (t : Nat), t ≤ ks.length → (∀ j, j < t → ltM (ks.getD j kv0).m m = true) → (t < ks.length → ltM (ks.getD t kv0).m m = false) → fpos ks m = t
  | [], t, h, _, _ => by simp at h; subst h; rfl
  | x :: r, 0, _, _, h => by
    have h1 : ltM x.m m = false := h (by simp)
    simp [fpos, List.takeWhile_cons, h1]
  | x :: r, t + 1, h, h1, h2 => by
    have h3 : ltM x.m m = true := h1 0 (by omega)
    have := fpos_of r t (by simpa using h) (fun j hj => h1 (j + 1) (by omega)) (fun hl => h2 (by simpa using hl))
    unfold fpos at this ⊢
    rw [List.takeWhile_cons, if_pos h3, List.length_cons, this]
set_option maxRecDepth 10000 in
set_option maxHeartbeats 1000000 in
theorem rfind_any (w : World) (p : Nat) (oK : Option Addr) (nK cK : Nat) (oL : Option Addr) (nL cL : Nat) (ks : List KV) (ls : List Mk) (h : RD w p oK nK cK oL nL cL ks ls) (k : Tx) (i : Nat) :
    Calls Tryz.prog 72 #[.pointer (some ⟨p, 0, none⟩), .string k, .int .u64 ((i : Nat) : Int)] w fun e w' => e = .returned (.tuple #[.int .i64 ((fpos ks (k, i) : Nat) : Int), .bool (there ks (k, i))]) ∧ Keeps no w w' := by
  have HA : Hid (RD w p oK nK cK oL nL cL ks ls) := h
  have hA : (nK : Int) ≤ 1954687338211 := by have := h.nk; have := h.lk; omega
  obtain ⟨R, hR⟩ : ∃ R : Nat, fpos ks (k, i) = R := ⟨_, rfl⟩
  obtain ⟨B, hB⟩ : ∃ B : Bool, there ks (k, i) = B := ⟨_, rfl⟩
  have HR : Hid (fpos ks (k, i) = R ∧ there ks (k, i) = B) := ⟨hR, hB⟩
  rw [hR, hB]
  clear hR hB h
  go_enter Tryz.func72, Tryz.ntmps72
  go_wp2_with fail
  go_loopw [8] (fun z wr => ∃ t : Nat, t ≤ nK ∧ z = .int .i64 t ∧ Hid (Keeps no w wr) ∧ Hid (∀ j, j < t → ltM (ks.getD j kv0).m (k, i) = true)) (fun z _ => nK - (intOf z).toNat)
  case atStart => exact ⟨0, by omega, rfl, Keeps.refl _ _, fun j hj => absurd hj (Nat.not_lt_zero _)⟩
  case round =>
    obtain ⟨t, ht, rfl, HK, HT⟩ := hrel
    have b0 := cell_of_blk (HA.out.keepsN HK.out).b 0
    by_cases htl : t < nK
    · have htl' : (t : Int) < nK := by omega
      have hta : t < ks.length := by have := HA.out.nk; omega
      obtain ⟨g, off, e1, d0, d1, d2, d3, d4⟩ := (HA.out.keepsN HK.out).k.atK hta
      subst e1
      obtain ⟨x, hx⟩ : ∃ x, x = ks.getD t kv0 := ⟨_, rfl⟩
      rw [← hx] at d0 d1 d2 d3 d4
      have HX : Hid (x = ks.getD t kv0 ∧ t < ks.length) := ⟨hx, hta⟩
      obtain ⟨⟨xk, xi⟩, xv, xo, xc, xks, xst⟩ := x
      simp only at d0 d1 d2 d3 d4
      obtain ⟨xn, hxn⟩ : ∃ xn, xn = xks.length := ⟨_, rfl⟩
      rw [← hxn] at d3
      obtain ⟨B1, hB1⟩ : ∃ B1, ltM (xk, xi) (k, i) = B1 := ⟨_, rfl⟩
      have HB1 : Hid (ltM (xk, xi) (k, i) = B1) := hB1
      have HC : Hid (∀ X, Keeps no wr X → X.cell? ⟨p, 0, none⟩ = some (.slice (some ⟨g, off, none⟩) nK cK) ∧ X.cell? ⟨g, off + t * 5, none⟩ = some (.string xk) ∧ X.cell? ⟨g, off + t * 5 + 1, none⟩ = some (.int .u64 ((xi : Nat) : Int))) := fun X hX => ⟨hX.cellN b0, hX.cellN d0, hX.cellN d1⟩
      clear hx hta hxn hB1
      go_wp2_with fail
      refine (rless_any wr xk xi xv xo xn xc k i ⟨#[]⟩ none 0 0).mono ?_
      rintro e w1 ⟨rfl, hk1⟩
      have HK1 : Hid (Keeps no w w1) := HK.out.trans hk1
      rw [HB1.out]
      cases B1
      · clear b0 d0 d1 d2 d3 d4
        obtain ⟨b0, d0, d1⟩ := HC.out _ hk1
        clear HC hk1
        have hpos : fpos ks (k, i) = t := fpos_of ks t (Nat.le_of_lt HX.out.2) HT.out (fun _ => by rw [← HX.out.1]; exact HB1.out)
        have HE : Hid (R = t ∧ B = (decide (xk = k) && decide (xi = i))) := by
          refine ⟨by rw [← HR.out.1, hpos], ?_⟩
          rw [← HR.out.2]
          unfold there
          rw [hpos, decide_eq_true HX.out.2, ← HX.out.1, Bool.true_and]
          show decide ((xk, xi) = (k, i)) = _
          by_cases q1 : xk = k <;> by_cases q2 : xi = i <;> simp [q1, q2]
        clear hpos
        by_cases q1 : xk = k
        · have e1 : (xk.toList == k.toList) = true := by rw [tx_eq]; simpa using q1
          have Q1 : Hid (xk = k) := q1
          clear q1
          by_cases q2 : xi = i
          · have e2 : (((xi : Nat) : Int) == ((i : Nat) : Int)) = true := by simp; omega
            have Q2 : Hid (xi = i) := q2
            clear q2
            go_wp2_with fail
            go_quiet (fail)
            go_wp2_with fail
            go_ret2
            exact ⟨by rw [HE.out.1, HE.out.2, decide_eq_true Q1.out, decide_eq_true Q2.out]; rfl, HK1.out.trans (kq_of rfl rfl rfl rfl)⟩
          · have e2 : (((xi : Nat) : Int) == ((i : Nat) : Int)) = false := by simp; omega
            have Q2 : Hid (¬ xi = i) := q2
            clear q2
            go_wp2_with fail
            go_quiet (fail)
            go_wp2_with fail
            go_ret2
            exact ⟨by rw [HE.out.1, HE.out.2, decide_eq_true Q1.out, decide_eq_false Q2.out]; rfl, HK1.out.trans (kq_of rfl rfl rfl rfl)⟩
        · have e1 : (xk.toList == k.toList) = false := by rw [tx_eq]; simpa using q1
          have Q1 : Hid (¬ xk = k) := q1
          clear q1
          go_wp2_with fail
          go_quiet (fail)
          go_wp2_with fail
          go_ret2
          exact ⟨by rw [HE.out.1, HE.out.2, decide_eq_false Q1.out]; rfl, HK1.out.trans (kq_of rfl rfl rfl rfl)⟩
      · clear HC
        go_wp2_with fail
        go_roundw
        case rel =>
          refine ⟨t + 1, by omega, by go_num, HK1, fun j hj => ?_⟩
          by_cases e : j = t
          · subst e; rw [← HX.out.1]; exact HB1.out
          · exact HT.out j (by omega)
        case measure => simp [intOf]; omega
    · have htl' : ¬ (t : Int) < nK := by omega
      have hte : t = nK := by omega
      have hpos : fpos ks (k, i) = t := fpos_of ks t (by have := HA.out.nk; omega) HT.out (fun hc => absurd hc (by have := HA.out.nk; omega))
      have HE : Hid (R = t ∧ B = false) := by
        refine ⟨by rw [← HR.out.1, hpos], ?_⟩
        rw [← HR.out.2]
        unfold there
        rw [hpos, decide_eq_false (by have := HA.out.nk; omega)]
        rfl
      clear hpos hte
      go_wp2_with fail
      go_quiet (fail)
      go_wp2_with fail
      go_ret2
      exact ⟨by rw [HE.out.1, HE.out.2]; rfl, HK.out.trans (kq_of rfl rfl rfl rfl)⟩
end Go.Proofs.YtdemoghlibnooaaGreatDoor
namespace Go.Proofs.YtdemoghlibnooaaGreatDoor
open Go.RowKit Go.Maps Go.Sort Orl
set_option linter.unusedVariables false
set_option linter.unusedSimpArgs false
theorem cells4 {w : World} {g : Nat} {a b c d : Value} {t : TypeId} (h : w.heap[g]? = some (.cells #[a, b, c, d] t (0, 0))) : w.cell? ⟨g, 0, none⟩ = some a ∧ w.cell? ⟨g, 1, none⟩ = some b ∧ w.cell? ⟨g, 2, none⟩ = some c ∧ w.cell? ⟨g, 3, none⟩ = some d := ⟨cell_of_blk h 0, cell_of_blk h 1, cell_of_blk h 2, cell_of_blk h 3⟩
theorem own_ne {α : Type} {E : El α} {w : World} {o : Option Addr} {c : Nat} {xs : List α} (h : Own E w o c xs) {g : Nat} {cur : Array Value} {t : TypeId} {fz : Nat × Nat} (hg : w.heap[g]? = some (.cells cur t fz)) (hne : E.e ≠ t) : ∀ b, inO o b → b ≠ g := by
  rintro b hb rfl
  obtain ⟨cu, hc⟩ := h.tag b hb
  rw [hg] at hc
  injection hc with hc
  injection hc with _ hc _
  exact hne hc.symm
theorem own_six {w w0 w6 : World} {o' : Option Addr} {c' : Nat} {keys : List Tx} {a b : Nat} {oa ob : Obj} (ho : Own TE w6 o' c' ([] ++ keys)) (ha : Ap w0 none o' w6) (hk : Keeps no w w0) (h1 : w0.heap[a]? = some oa) (h2 : w0.heap[b]? = some ob) : Own TE w6 o' c' keys ∧ New w o' ∧ Keeps no w w6 ∧ w6.heap[a]? = some oa ∧ w6.heap[b]? = some ob := by
  have hk6 : Keeps no w0 w6 := by
    rcases ha with ⟨_, hh⟩ | ⟨_, hh⟩
    · exact hh.mono (fun i ⟨x, h, _⟩ => by cases h)
    · exact hh
  refine ⟨ho, (ha.new (new_none w) hk).1, hk.trans hk6, hk6.at h1 id, hk6.at h2 id⟩
theorem rown_any (w : World) (k : Tx) (i : Int) (v : Tx) (o : Option Addr) (n c : Nat) (keys : List Tx) (hn : n = keys.length) (hl : keys.length ≤ 8796093021952) (hs : Sl TE w o c keys) :
    Calls Tryz.prog 173 #[.agg #[.string k, .int .u64 i, .string v, .slice o n c]] w fun e w' => ∃ o' c', e = .returned (.agg #[.string k, .int .u64 i, .string v, .slice o' n c']) ∧ Hid (Own TE w' o' c' keys ∧ New w o' ∧ Keeps no w w') := by
  have HA : Hid (n = keys.length ∧ keys.length ≤ 8796093021952 ∧ Sl TE w o c keys) := ⟨hn, hl, hs⟩
  clear hn hl hs
  have HK0 : Hid (Keeps no w ((w.alloc (.cells #[.string k, .int .u64 i, .string v, .slice o n c] 112)).alloc (.cells #[.string ⟨#[]⟩, .int .u64 0, .string ⟨#[]⟩, .slice none 0 0] 112))) := ((Keeps.refl no w).alloc _).alloc _
  have HB0 : Hid (((w.alloc (.cells #[.string k, .int .u64 i, .string v, .slice o n c] 112)).alloc (.cells #[.string ⟨#[]⟩, .int .u64 0, .string ⟨#[]⟩, .slice none 0 0] 112)).heap[w.heap.size]? = some (.cells #[.string k, .int .u64 i, .string v, .slice o n c] 112 (0, 0)) ∧ ((w.alloc (.cells #[.string k, .int .u64 i, .string v, .slice o n c] 112)).alloc (.cells #[.string ⟨#[]⟩, .int .u64 0, .string ⟨#[]⟩, .slice none 0 0] 112)).heap[w.heap.size + 1]? = some (.cells #[.string ⟨#[]⟩, .int .u64 0, .string ⟨#[]⟩, .slice none 0 0] 112 (0, 0))) := by
    refine ⟨blk_alloc (blk_new w _) _, ?_⟩
    have := blk_new (w.alloc (.cells #[.string k, .int .u64 i, .string v, .slice o n c] 112)) (.cells #[.string ⟨#[]⟩, .int .u64 0, .string ⟨#[]⟩, .slice none 0 0] 112)
    rwa [show (w.alloc (.cells #[.string k, .int .u64 i, .string v, .slice o n c] 112)).heap.size = w.heap.size + 1 by simp] at this
  go_enter Tryz.func173, Tryz.ntmps173
  go_wp2_with (at_builtin; refine wpList_app okT rfl _ _ rfl _ _ _ ([] : List Tx) rfl rfl (own_nil _) _ _ _ keys rfl HA.out.1 HA.out.2.2.nil (HA.out.2.2.keepsN HK0.out).row (by have := HA.out.2.1; simp [TE]; omega) (by have := HA.out.2.1; simp; omega) ?_; intro o6 c6 w6 ho6 hap6; have H6 : Hid (Own TE w6 o6 c6 keys ∧ New w o6 ∧ Keeps no w w6 ∧ w6.heap[w.heap.size]? = some (.cells #[.string k, .int .u64 i, .string v, .slice o n c] 112 (0, 0)) ∧ w6.heap[w.heap.size + 1]? = some (.cells #[.string ⟨#[]⟩, .int .u64 0, .string ⟨#[]⟩, .slice none 0 0] 112 (0, 0))) := own_six ho6 hap6 HK0.out HB0.out.1 HB0.out.2; clear ho6 hap6; have q0 := cell_of_blk H6.out.2.2.2.1 0; have q1 := cell_of_blk H6.out.2.2.2.1 1; have q2 := cell_of_blk H6.out.2.2.2.1 2; have q3 := cell_of_blk H6.out.2.2.2.1 3; have r3 := frozen_of_blk H6.out.2.2.2.1 3; have s0 := cell_of_blk H6.out.2.2.2.2 0; have s1 := cell_of_blk H6.out.2.2.2.2 1; have s2 := cell_of_blk H6.out.2.2.2.2 2; have s3 := cell_of_blk H6.out.2.2.2.2 3; have f0 := frozen_of_blk H6.out.2.2.2.2 0; have f1 := frozen_of_blk H6.out.2.2.2.2 1; have f2 := frozen_of_blk H6.out.2.2.2.2 2; have f3 := frozen_of_blk H6.out.2.2.2.2 3)
  obtain ⟨g1, g2, g3, g4, g5⟩ := H6.out
  have n1 : ∀ b, inO o6 b → b ≠ w.heap.size := own_ne g1 g4 (by decide)
  have n2 : ∀ b, inO o6 b → b ≠ w.heap.size + 1 := own_ne g1 g5 (by decide)
  have hb2 : (w6.setCell ⟨w.heap.size, 3, none⟩ (.slice o6 n c6)).heap[w.heap.size + 1]? = some (.cells #[.string ⟨#[]⟩, .int .u64 0, .string ⟨#[]⟩, .slice none 0 0] 112 (0, 0)) := blk_set_ne g5 (by simp) _
  have hs4 := set4 hb2 (.string k) (.int .u64 i) (.string v) (.slice o6 n c6)
  have k1 : Keeps (eqA w.heap.size) w6 (w6.setCell ⟨w.heap.size, 3, none⟩ (.slice o6 n c6)) := (Keeps.refl _ _).setA 3 _
  unfold set4w at hs4
  refine bodyPost_ret (results_row1 rfl _ _ (w.heap.size + 1) _ rfl (loadV hs4.1)) rfl ?_
  refine ⟨o6, c6, rfl, ?_, g2, ?_⟩
  · exact (g1.keeps k1 (fun b hb e => n1 b hb e)).keeps hs4.2 (fun b hb e => n2 b hb e)
  · exact (g3.then k1 (fun b hb => .inr (by have : b = w.heap.size := hb; omega))).then hs4.2 (fun b hb => .inr (by have : b = w.heap.size + 1 := hb; omega))
end Go.Proofs.YtdemoghlibnooaaGreatDoor

/- The document's keys (ported from stage 4). -/
import Derived.Test.YtghnhkhhpeoheaaGreatN2
namespace Go.Proofs.YtghnhkhhpeoheaaGreat
open Go.RowKit Go.Sort Orl
set_option linter.unusedVariables false
set_option linter.unusedSimpArgs false

theorem slT_z : Tryz.prog.underlying 41 = some (.slice (Tryz.prog.elem 41)) := by kernel_rfl
theorem slP_z : Tryz.prog.underlying 22 = some (.slice (Tryz.prog.elem 22)) := by kernel_rfl
theorem cutT_h (w0 : World) (o : Option Addr) (c : Nat) (xs : List Tx) (n I : Nat) (i : Int) (hi : i = (I : Nat)) (hn : n = xs.length) (hI : I ≤ n) (h : Sl TE w0 o c xs) :
    (∀ w, (Instr.slice 41 (.slice o n c) none (some (.int .i64 i)) none).run Tryz.prog w = .ok (.slice o I c) w) ∧ Sl TE w0 o c (xs.take I) := by
  subst hi hn
  have hcap := h.cap
  refine ⟨?_, ⟨h.row.take okT I, by rw [List.length_take]; omega, h.nil⟩⟩
  match o, h with
  | none, h =>
    obtain rfl : c = 0 := h.nil rfl
    intro w
    rw [run_slice_h w 41 none _ 0 slT_z .i64 _ (by omega) (by omega)]
    obtain rfl : I = 0 := by omega
    go_simp
  | some ad, h =>
    intro w
    rw [run_slice_h w 41 (some ad) _ c slT_z .i64 _ (by omega) (by omega)]
    go_simp
theorem cutP_h (w0 : World) (o : Option Addr) (c : Nat) (xs : List Pr) (n I : Nat) (i : Int) (hi : i = (I : Nat)) (hn : n = xs.length) (hI : I ≤ n) (h : Sl PE w0 o c xs) :
    (∀ w, (Instr.slice 22 (.slice o n c) none (some (.int .i64 i)) none).run Tryz.prog w = .ok (.slice o I c) w) ∧ Sl PE w0 o c (xs.take I) := by
  subst hi hn
  have hcap := h.cap
  refine ⟨?_, ⟨h.row.take okP I, by rw [List.length_take]; omega, h.nil⟩⟩
  match o, h with
  | none, h =>
    obtain rfl : c = 0 := h.nil rfl
    intro w
    rw [run_slice_h w 22 none _ 0 slP_z .i64 _ (by omega) (by omega)]
    obtain rfl : I = 0 := by omega
    go_simp
  | some ad, h =>
    intro w
    rw [run_slice_h w 22 (some ad) _ c slP_z .i64 _ (by omega) (by omega)]
    go_simp
def SubO (o A : Option Addr) : Prop := ∀ k, inO A k → inO o k
theorem sub_add (ad : Addr) (I k : Nat) (c : Nat) : SubO (some ad) (some (if c = I then ad else ad.add k)) := by
  rintro x ⟨y, e, rfl⟩
  cases e
  refine ⟨ad, rfl, ?_⟩
  split
  · rfl
  · obtain ⟨b, off, sp⟩ := ad
    simp [Addr.add]
    split <;> rfl
theorem cutT_l (w0 : World) (o : Option Addr) (c : Nat) (xs : List Tx) (n I : Nat) (i : Int) (hi : i = (I : Nat)) (hn : n = xs.length) (hI : I ≤ n) (h : Sl TE w0 o c xs) :
    ∃ A d, (∀ w, (Instr.slice 41 (.slice o n c) (some (.int .i64 i)) none none).run Tryz.prog w = .ok (.slice A (n - I) d) w) ∧ Sl TE w0 A d (xs.drop I) ∧ SubO o A := by
  subst hi hn
  have hcap := h.cap
  match o, h with
  | none, h =>
    obtain rfl : c = 0 := h.nil rfl
    obtain rfl : I = 0 := by omega
    have h0 : xs = [] := List.length_eq_zero_iff.mp (by omega)
    subst h0
    refine ⟨none, 0, fun w => ?_, ⟨.inl rfl, by simp, fun _ => rfl⟩, fun _ h => h⟩
    rw [run_slice_l w 41 none _ 0 slT_z .i64 _ (by omega) (by simp)]
    go_simp
  | some ad, h =>
    refine ⟨some (if c = I then ad else ad.add I), c - I, fun w => ?_, ⟨h.row.drop okT I (fun hlt b off e => ?_), by rw [List.length_drop]; omega, by simp⟩, sub_add _ _ _ _⟩
    · rw [run_slice_l w 41 (some ad) _ c slT_z .i64 _ (by omega) (by omega)]
      by_cases h : c = I
      · go_simp
      · go_simp
    · cases e
      rw [if_neg (by omega), addr_add]
      simp [TE]
theorem cutP_l (w0 : World) (o : Option Addr) (c : Nat) (xs : List Pr) (n I : Nat) (i : Int) (hi : i = (I : Nat)) (hn : n = xs.length) (hI : I ≤ n) (h : Sl PE w0 o c xs) :
    ∃ A d, (∀ w, (Instr.slice 22 (.slice o n c) (some (.int .i64 i)) none none).run Tryz.prog w = .ok (.slice A (n - I) d) w) ∧ Sl PE w0 A d (xs.drop I) ∧ SubO o A := by
  subst hi hn
  have hcap := h.cap
  match o, h with
  | none, h =>
    obtain rfl : c = 0 := h.nil rfl
    obtain rfl : I = 0 := by omega
    have h0 : xs = [] := List.length_eq_zero_iff.mp (by omega)
    subst h0
    refine ⟨none, 0, fun w => ?_, ⟨.inl rfl, by simp, fun _ => rfl⟩, fun _ h => h⟩
    rw [run_slice_l w 22 none _ 0 slP_z .i64 _ (by omega) (by simp)]
    go_simp
  | some ad, h =>
    refine ⟨some (if c = I then ad else ad.add (I * 2)), c - I, fun w => ?_, ⟨h.row.drop okP I (fun hlt b off e => ?_), by rw [List.length_drop]; omega, by simp⟩, sub_add _ _ _ _⟩
    · rw [run_slice_l w 22 (some ad) _ c slP_z .i64 _ (by omega) (by omega)]
      by_cases h : c = I
      · go_simp
      · go_simp
    · cases e
      rw [if_neg (by omega), addr_add]
      simp [PE]

theorem gtr_of (x s : Tx) (h : lts s x = true) : Op.bytesLess x.toList s.toList = false ∧ (x.toList == s.toList) = false := by
  refine ⟨asym swoT h, ?_⟩
  rw [tx_eq]
  by_cases e : x = s
  · subst e; rw [swoT.irrefl] at h; cases h
  · simp [e]
theorem gtr_not (x s : Tx) (h : lts s x = false) : (Op.bytesLess x.toList s.toList || x.toList == s.toList) = true := by
  rw [tx_eq]
  show (lts x s || decide (x = s)) = true
  cases e : lts x s
  · simp [triT x s e h]
  · rfl

theorem cutT_if {w : World} {b off c : Nat} {xs : List Tx} (I : Nat) (h : Sl TE w (some ⟨b, off, none⟩) c xs) : Sl TE w (if c = I then some ⟨b, off, none⟩ else some ⟨b, off + I, none⟩) (c - I) (xs.drop I) := by
  have hcap := h.cap
  refine ⟨h.row.drop okT I (fun hlt b off e => ?_), by rw [List.length_drop]; omega, ?_⟩
  · cases e
    rw [if_neg (by omega)]
    simp [TE]
  · split <;> intro e <;> cases e
theorem cutP_if {w : World} {b off c : Nat} {xs : List Pr} (I : Nat) (h : Sl PE w (some ⟨b, off, none⟩) c xs) : Sl PE w (if c = I then some ⟨b, off, none⟩ else some ⟨b, off + I * 2, none⟩) (c - I) (xs.drop I) := by
  have hcap := h.cap
  refine ⟨h.row.drop okP I (fun hlt b off e => ?_), by rw [List.length_drop]; omega, ?_⟩
  · cases e
    rw [if_neg (by omega)]
    simp [PE]
  · split <;> intro e <;> cases e
set_option maxRecDepth 10000 in
theorem put_any (w : World) (a : Option Addr) (n c : Nat) (xs : List Tx) (s : Tx) (hn : n = xs.length) (hl : xs.length ≤ 50000) (hs : Sl TE w a c xs) :
    Calls Tryz.prog 90 #[.slice a n c, .string s] w fun e w' => ∃ v, e = .returned v ∧ Gives TE w (put lts e0 xs s) v w' := by
  have HA : Hid (n = xs.length) := hn
  have hA : (n : Int) ≤ 50000 := by omega
  have HL : Hid (xs.length ≤ 50000) := hl
  clear hn hl
  go_enter Tryz.func90, Tryz.ntmps90
  go_wp2_with fail
  go_loop [5] (fun i => ∃ k : Nat, k ≤ n ∧ i = .int .i64 k ∧ Hid (pos lts e0 xs s xs.length = pos lts e0 xs s k)) (fun i => (intOf i).toNat)
  case atStart => exact ⟨n, by omega, rfl, show _ = _ by rw [← HA.out]⟩
  case round =>
    obtain ⟨k, hk, rfl, HT⟩ := hrel
    by_cases h2 : 0 < k
    · obtain ⟨k, rfl⟩ : ∃ k', k = k' + 1 := ⟨k - 1, by omega⟩
      have hka : k < xs.length := by have := HA.out; omega
      obtain ⟨b1, off1, rfl, d1⟩ := hs.at hka
      obtain ⟨x, hx⟩ : ∃ x, x = xs.getD k e0 := ⟨_, rfl⟩
      rw [← hx] at d1
      have HX : Hid (x = xs.getD k e0) := hx
      clear hx hka
      have h3 : (0 : Int) < (k : Int) + 1 := by omega
      cases hxy : lts s x
      · have hg := gtr_not x s hxy
        obtain ⟨hr1, hs1⟩ := cutT_h w _ c xs n (k + 1) _ rfl HA.out hk hs
        have hs2 := cutT_if (k + 1) hs
        have hkc : (k : Int) + 1 ≤ c := by have := hs.cap; have := HA.out; omega
        have hpos : pos lts e0 xs s xs.length = k + 1 := by
          rw [HT.out, pos, ← HX.out, hxy]; rfl
        have Hp : Hid (pos lts e0 xs s xs.length = k + 1) := hpos
        clear hpos HT
        have hcase : (Op.bytesLess x.toList s.toList = true) ∨ (Op.bytesLess x.toList s.toList = false ∧ (x.toList == s.toList) = true) := by
          cases e : Op.bytesLess x.toList s.toList
          · rw [e] at hg; exact .inr ⟨rfl, by simpa using hg⟩
          · exact .inl rfl
        clear hg hxy
        rcases hcase with hc1 | ⟨hc1, hc2⟩
        all_goals
          (go_wp2_with (at_builtin; first
            | (refine wpList_app okT rfl _ _ rfl _ _ _ [] rfl rfl (own_nil _) _ _ _ (xs.take (k + 1)) rfl (by have := HA.out; rw [List.length_take]; omega) hs1.nil hs1.row (by have := HL.out; simp [TE]; omega) (by have := HL.out; simp; omega) ?_; intro o1 c1 w1 ho1 hap1)
            | (refine wpList_app okT rfl _ _ rfl _ _ _ ([] ++ xs.take (k + 1)) rfl (by have := HA.out; simp; omega) (ho1.keepsN ((Keeps.refl _ _).alloc _)) _ _ _ [s] rfl rfl (own_one _ s).nil (own_one _ s).row (by have := HL.out; simp [TE]; omega) (by have := HL.out; simp; omega) ?_; intro o2 c2 w2 ho2 hap2)
            | (refine wpList_app okT rfl _ _ rfl _ _ _ ([] ++ xs.take (k + 1) ++ [s]) rfl (by have := HA.out; simp; omega) ho2 _ _ _ (xs.drop (k + 1)) rfl (by have := HA.out; rw [List.length_drop]; omega) hs2.nil (by
                have k1 := hap1.new (w0 := w) (new_none _) (Keeps.refl _ _)
                have k2 := hap2.new (w0 := w) k1.1 (k1.2.alloc _)
                exact hs2.row.keepsN k2.2) (by have := HL.out; simp [TE]; omega) (by have := HL.out; simp; omega) ?_; intro o3 c3 w3 ho3 hap3))
           all_goals
             (go_ret
              have k1 := hap1.new (w0 := w) (new_none _) (Keeps.refl _ _)
              have k2 := hap2.new (w0 := w) k1.1 (k1.2.alloc _)
              have k3 := hap3.new (w0 := w) k2.1 k2.2
              have he : put lts e0 xs s = [] ++ xs.take (k + 1) ++ [s] ++ xs.drop (k + 1) := by unfold put; rw [Hp.out]; simp
              rw [he]
              refine ⟨_, rfl, o3, _, c3, rfl, ?_, ho3, k3.1, k3.2⟩
              have := HA.out
              show _ = _
              simp
              omega))
      · obtain ⟨hc1, hc2⟩ := gtr_of x s hxy
        have HXY : Hid (lts s x = true) := hxy
        clear hxy
        go_wp2
        go_round
        case rel =>
          refine ⟨k, by omega, by go_num, ?_⟩
          show pos lts e0 xs s xs.length = pos lts e0 xs s k
          rw [HT.out, pos, ← HX.out, HXY.out]; rfl
        case measure => simp [intOf] <;> omega
    · obtain rfl : k = 0 := by omega
      obtain ⟨hr1, hs1⟩ := cutT_h w _ c xs n 0 0 rfl HA.out (by omega) hs
      obtain ⟨A, d, hr2, hs2, hsub⟩ := cutT_l w _ c xs n 0 0 rfl HA.out (by omega) hs
      have Hp : Hid (pos lts e0 xs s xs.length = 0) := show _ = _ by rw [HT.out, pos]
      clear HT
      go_wp2_with (at_builtin; first
        | (refine wpList_app okT rfl _ _ rfl _ _ _ [] rfl rfl (own_nil _) _ _ _ (xs.take 0) rfl (by simp) hs1.nil hs1.row (by simp [TE]) (by simp) ?_; intro o1 c1 w1 ho1 hap1)
        | (refine wpList_app okT rfl _ _ rfl _ _ _ ([] ++ xs.take 0) rfl (by simp) (ho1.keepsN ((Keeps.refl _ _).alloc _)) _ _ _ [s] rfl rfl (own_one _ s).nil (own_one _ s).row (by simp [TE]) (by simp) ?_; intro o2 c2 w2 ho2 hap2)
        | (refine wpList_app okT rfl _ _ rfl _ _ _ ([] ++ xs.take 0 ++ [s]) rfl (by simp) ho2 _ _ _ (xs.drop 0) rfl (by have := HA.out; simp; omega) hs2.nil (by
            have k1 := hap1.new (w0 := w) (new_none _) (Keeps.refl _ _)
            have k2 := hap2.new (w0 := w) k1.1 (k1.2.alloc _)
            exact hs2.row.keepsN k2.2) (by have := HL.out; simp [TE]; omega) (by have := HL.out; simp; omega) ?_; intro o3 c3 w3 ho3 hap3))
      go_ret
      have k1 := hap1.new (w0 := w) (new_none _) (Keeps.refl _ _)
      have k2 := hap2.new (w0 := w) k1.1 (k1.2.alloc _)
      have k3 := hap3.new (w0 := w) k2.1 k2.2
      have he : put lts e0 xs s = [] ++ xs.take 0 ++ [s] ++ xs.drop 0 := by unfold put; rw [Hp.out]; simp
      rw [he]
      refine ⟨_, rfl, o3, _, c3, rfl, ?_, ho3, k3.1, k3.2⟩
      have := HA.out
      show _ = _
      simp
      omega
set_option maxRecDepth 10000 in
theorem refRising_any (w : World) (a : Option Addr) (n c : Nat) (xs : List Tx) (hn : n = xs.length) (hl : Small xs) (hs : Sl TE w a c xs) :
    Calls Tryz.prog 78 #[.slice a n c] w fun e w' => e = .returned (.bool (rising lts xs)) ∧ Keeps no w w' := by
  have HA : Hid (n = xs.length) := hn
  have hA : (n : Int) ≤ 100000 := by unfold Small at hl; omega
  clear hn hl
  obtain ⟨R, hR⟩ : ∃ R, rising lts xs = R := ⟨_, rfl⟩
  have HR : Hid (rising lts xs = R) := hR
  rw [hR]
  clear hR
  go_enter Tryz.func78, Tryz.ntmps78
  go_wp2_with fail
  go_loopw [3] (fun i wr => ∃ k m : Nat, k ≤ n ∧ i = .int .i64 ((k : Int) + 1) ∧ wr = w.drewN m ∧ Hid (∀ j, j < k → j + 1 < xs.length → lts (xs.getD j e0) (xs.getD (j + 1) e0) = true)) (fun i _ => n + 1 - (intOf i).toNat)
  case atStart => exact ⟨0, 0, by omega, rfl, rfl, fun j hj => absurd hj (Nat.not_lt_zero _)⟩
  case round =>
    obtain ⟨k, m, hk, rfl, rfl, HT⟩ := hrel
    by_cases h2 : k + 1 < n
    · have hka : k + 1 < xs.length := by have := HA.out; omega
      obtain ⟨b1, off1, rfl, d1⟩ := hs.at (j := k) (by omega)
      obtain ⟨b2, off2, e2, d2⟩ := hs.at hka
      cases e2
      obtain ⟨x, hx⟩ : ∃ x, x = xs.getD k e0 := ⟨_, rfl⟩
      obtain ⟨y, hy⟩ : ∃ y, y = xs.getD (k + 1) e0 := ⟨_, rfl⟩
      rw [← hx] at d1
      rw [← hy] at d2
      have HX : Hid (x = xs.getD k e0) := hx
      have HY : Hid (y = xs.getD (k + 1) e0) := hy
      clear hx hy hka
      have h3 : (k : Int) + 1 < n := by omega
      have hle : (Op.bytesLess y.toList x.toList || y.toList == x.toList) = !(lts x y) := by
        rw [tx_eq]
        show (lts y x || decide (y = x)) = !(lts x y)
        cases e1 : lts x y
        · cases e2 : lts y x
          · simp [triT x y e1 e2]
          · simp
        · have := asym swoT e1
          simp [this]
          rintro rfl
          rw [swoT.irrefl] at e1; cases e1
      cases hxy : lts x y <;> rw [hxy] at hle
      · go_wp2
        go_quiet (fail)
        go_wp2
        all_goals
          (go_ret
           refine ⟨?_, ((Keeps.refl _ _).drewN _).drewN _⟩
           have hf := rising_fail (lt := lts) e0 xs k (by have := HA.out; omega) (by rw [← HX.out, ← HY.out]; exact hxy)
           rw [← HR.out, hf]; rfl)
      · have hle1 : Op.bytesLess y.toList x.toList = false := by simp at hle; exact hle.1
        have hle2 : (y.toList == x.toList) = false := by rw [hle1] at hle; simpa using hle
        clear hle
        have HXY : Hid (lts x y = true) := hxy
        clear hxy
        go_wp2
        go_quiet (fail)
        go_wp2
        go_roundw
        case rel =>
          refine ⟨k + 1, _, by omega, by go_num, rfl, fun j hj hj2 => ?_⟩
          by_cases e : j = k
          · subst e; rw [← HX.out, ← HY.out]; exact HXY.out
          · exact HT.out j (by omega) hj2
        case measure => simp [intOf]; omega
    · have h3 : ¬ (k : Int) + 1 < n := by omega
      go_wp2
      go_ret
      refine ⟨?_, (Keeps.refl _ _).drewN _⟩
      have hf := rising_of_all (lt := lts) e0 xs (fun i hi => HT.out i (by have := HA.out; omega) hi)
      rw [← HR.out, hf]; rfl
theorem isT_take (l : List Tx) (k : Nat) (h : k < l.length) : isT (l.take (k + 1)) = put lts e0 (isT (l.take k)) (l.getD k e0) := by
  rw [take_succ_getD l k e0 h]; exact isort_snoc e0 _ _

set_option maxRecDepth 10000 in
theorem order_any (w : World) (a : Option Addr) (n c : Nat) (xs : List Tx) (hn : n = xs.length) (hl : xs.length ≤ 40000) (hs : Sl TE w a c xs) :
    Calls Tryz.prog 79 #[.slice a n c] w fun e w' => ∃ v, e = .returned v ∧ Gives TE w (isT xs) v w' := by
  have HA : Hid (n = xs.length) := hn
  have hA : (n : Int) ≤ 40000 := by omega
  have HL : Hid (xs.length ≤ 40000) := hl
  clear hn hl
  go_enter Tryz.func79, Tryz.ntmps79
  go_wp2_with fail
  go_loopw [3, 4] (fun s3 i wr => ∃ (k : Nat) (v : Value), k ≤ n ∧ i = .int .i64 k ∧ s3 = v ∧ Hid (Gives TE w (isT (xs.take k)) v wr)) (fun _ i _ => n - (intOf i).toNat)
  case atStart => exact ⟨0, _, by omega, rfl, rfl, ⟨none, 0, 0, rfl, (show 0 = _ by simp [isT, isort]), own_nil _, new_none _, Keeps.refl _ _⟩⟩
  case round =>
    obtain ⟨k, v, hk, rfl, rfl, HG⟩ := hrel
    obtain ⟨o, m, d, rfl, hm, ho, hnw, hkp⟩ := HG.out
    by_cases h2 : k < n
    · have hka : k < xs.length := by have := HA.out; omega
      have hs' := hs.keepsN hkp
      obtain ⟨b1, off1, rfl, d1⟩ := hs'.at hka
      obtain ⟨x, hx⟩ : ∃ x, x = xs.getD k e0 := ⟨_, rfl⟩
      rw [← hx] at d1
      have HX : Hid (x = xs.getD k e0) := hx
      clear hx hka
      go_wp2_with fail
      refine (put_any wr o m d (isT (xs.take k)) x hm.out (by rw [isT_length, List.length_take]; have := HL.out; omega) ho.sl).mono ?_
      rintro e w' ⟨v, rfl, o', m', d', rfl, hm', ho', hnw', hkp'⟩
      go_wp2_with fail
      go_roundw
      case rel =>
        refine ⟨k + 1, _, by omega, by go_num, rfl, ?_⟩
        show Gives TE w (isT (xs.take (k + 1))) _ w'
        rw [isT_take xs k (by have := HA.out; omega), ← HX.out]
        exact ⟨o', m', d', rfl, hm', ho', hnw'.of_le hkp.size, hkp.trans hkp'⟩
      case measure => simp [intOf] <;> omega
    · go_wp2_with fail
      go_ret
      refine ⟨_, rfl, o, m, d, rfl, ?_, ?_, hnw, hkp⟩
      · have := hm.out
        rwa [List.take_of_length_le (by have := HA.out; omega)] at this
      · rwa [List.take_of_length_le (by have := HA.out; omega)] at ho

set_option maxRecDepth 10000 in
theorem refValid_any (w : World) (a : Option Addr) (n c : Nat) (xs : List Tx) (hn : n = xs.length) (hl : xs.length ≤ 4398046511000) (hsz : ∀ x ∈ xs, x.size ≤ maxLen) (hs : Sl TE w a c xs) :
    Calls Tryz.prog 63 #[.slice a n c] w fun e w' => e = .returned (.bool (valK xs)) ∧ Keeps no w w' := by
  have HA : Hid (n = xs.length) := hn
  have hA : (n : Int) ≤ 4398046511000 := by omega
  have HZ : Hid (∀ x ∈ xs, x.size ≤ maxLen) := hsz
  obtain ⟨R, hR⟩ : ∃ R, valK xs = R := ⟨_, rfl⟩
  have HR : Hid (valK xs = R) := hR
  rw [hR]
  by_cases h1 : n < 1
  · have hf : R = false := by
      rw [← hR]; cases e : valK xs with
      | false => rfl
      | true => have := valK_size e; omega
    clear hR hn hl hsz
    subst hf
    have h1' : (n : Int) < 1 := by omega
    go_enter Tryz.func63, Tryz.ntmps63
    go_wp2_with fail
    go_ret
    exact ⟨rfl, Keeps.refl _ _⟩
  by_cases h2 : 1024 < n
  · have hf : R = false := by
      rw [← hR]; cases e : valK xs with
      | false => rfl
      | true => have := valK_size e; omega
    clear hR hn hl hsz
    subst hf
    have h1' : ¬ (n : Int) < 1 := by omega
    have h2' : (1024 : Int) < n := by omega
    clear h1 h2
    go_enter Tryz.func63, Tryz.ntmps63
    go_wp2_with fail
    go_ret
    exact ⟨rfl, Keeps.refl _ _⟩
  have h1' : ¬ (n : Int) < 1 := by omega
  have h2' : ¬ (1024 : Int) < n := by omega
  have H12 : Hid (1 ≤ n ∧ n ≤ 1024) := ⟨by omega, by omega⟩
  have HL : Hid (xs.length ≤ 40000) := show _ ≤ _ by omega
  clear hR hn hl hsz h1 h2
  go_enter Tryz.func63, Tryz.ntmps63
  go_wp2_with fail
  go_loop [3] (fun i => ∃ k : Nat, k ≤ n ∧ i = .int .i64 k ∧ Hid (∀ j, j < k → (xs.getD j e0).size ≤ 65535)) (fun i => n - (intOf i).toNat)
  case atStart => exact ⟨0, by omega, rfl, fun j hj => absurd hj (Nat.not_lt_zero _)⟩
  case round =>
    obtain ⟨k, hk, rfl, HT⟩ := hrel
    by_cases h2 : k < n
    · have hka : k < xs.length := by have := HA.out; omega
      obtain ⟨b1, off1, rfl, d1⟩ := hs.at hka
      obtain ⟨x, hx⟩ : ∃ x, x = xs.getD k e0 := ⟨_, rfl⟩
      rw [← hx] at d1
      have hxz : x.size ≤ 9223372036854775807 := by
        have := HZ.out x (by rw [hx]; exact getD_mem_lt _ hka)
        unfold maxLen at this; omega
      have HX : Hid (x = xs.getD k e0) := hx
      clear hx hka
      by_cases hlong : (65535 : Int) < x.size
      · go_wp2_with fail
        go_ret
        refine ⟨?_, Keeps.refl _ _⟩
        have := valK_long (l := xs) (k := k) (by have := HA.out; omega) (by rw [← HX.out]; omega)
        rw [← HR.out, this]; rfl
      · go_wp2_with fail
        go_round
        case rel =>
          refine ⟨k + 1, by omega, by go_num, fun j hj => ?_⟩
          by_cases e : j = k
          · subst e; rw [← HX.out]; omega
          · exact HT.out j (by omega)
        case measure => simp [intOf] <;> omega
    · have hv : valK xs = rising lts (isT xs) := valK_of (by have := HA.out; have := H12.out; omega) (by have := HA.out; have := H12.out; omega) (fun j hj => HT.out j (by have := HA.out; omega))
      have HV : Hid (valK xs = rising lts (isT xs)) := hv
      clear hv
      go_wp2_with fail
      refine (order_any w a n c xs HA.out HL.out hs).mono ?_
      rintro e w' ⟨v, rfl, o', m', d', rfl, hm', ho', hnw', hkp'⟩
      go_wp2_with fail
      refine (refRising_any w' o' m' d' (isT xs) hm'.out (by unfold Small; rw [isT_length]; have := HL.out; omega) ho'.sl).mono ?_
      rintro e w2 ⟨rfl, hkp2⟩
      rw [← HV.out, HR.out]
      go_wp2_with fail
      go_ret
      exact ⟨rfl, hkp'.trans hkp2⟩

set_option maxRecDepth 10000 in
theorem refNames_any (w : World) (a : Option Addr) (n c : Nat) (xs : List Pr) (hn : n = xs.length) (hl : xs.length ≤ 4398046511000) (hs : Sl PE w a c xs) :
    Calls Tryz.prog 31 #[.slice a n c] w fun e w' => ∃ v, e = .returned v ∧ Gives TE w (kys xs) v w' := by
  have HA : Hid (n = xs.length) := hn
  have hA : (n : Int) ≤ 4398046511000 := by omega
  have HL : Hid (xs.length ≤ 4398046511000) := hl
  clear hn hl
  go_enter Tryz.func31, Tryz.ntmps31
  go_wp2_with fail
  go_loopw [3, 4] (fun s3 i wr => ∃ (k : Nat) (v : Value), k ≤ n ∧ i = .int .i64 k ∧ s3 = v ∧ Hid (Gives TE w (kys (xs.take k)) v wr)) (fun _ i _ => n - (intOf i).toNat)
  case atStart => exact ⟨0, _, by omega, rfl, rfl, ⟨none, 0, 0, rfl, (show 0 = _ by simp [kys]), by simpa [kys] using own_nil _, new_none _, Keeps.refl _ _⟩⟩
  case round =>
    obtain ⟨k, v, hk, rfl, rfl, HG⟩ := hrel
    obtain ⟨o, m, d, rfl, hm, ho, hnw, hkp⟩ := HG.out
    by_cases h2 : k < n
    · have hka : k < xs.length := by have := HA.out; omega
      have hs' := hs.keepsN hkp
      obtain ⟨b1, off1, rfl, d1, d2⟩ := hs'.atP hka
      obtain ⟨x, hx⟩ : ∃ x, x = (xs.getD k p0).1 := ⟨_, rfl⟩
      obtain ⟨y, hy⟩ : ∃ y, y = (xs.getD k p0).2 := ⟨_, rfl⟩
      rw [← hx] at d1
      rw [← hy] at d2
      have HX : Hid (x = (xs.getD k p0).1) := hx
      have HLen : Hid ((kys (xs.take k)).length ≤ 4398046511000) := by rw [kys_length, List.length_take]; have := HL.out; show _ ≤ _; omega
      clear hx hy hka
      go_wp2_with (at_builtin; refine wpList_app okT rfl _ _ rfl _ _ _ (kys (xs.take k)) rfl hm.out (ho.keepsN ((Keeps.refl _ _).alloc _)) _ _ _ [x] rfl rfl (own_one _ x).nil (own_one _ x).row (by have := HLen.out; simp [TE]; omega) (by have := HLen.out; simp; omega) ?_; intro o1 c1 w3 ho3 hap3)
      go_roundw
      case rel =>
        have k4 := hap3.new (w0 := w) hnw (hkp.alloc _)
        refine ⟨k + 1, _, by omega, by go_num, rfl, ?_⟩
        show Gives TE w (kys (xs.take (k + 1))) _ _
        rw [kys_take xs k (by have := HA.out; omega), ← HX.out]
        exact ⟨o1, _, c1, rfl, (show _ = _ by have := hm.out; simp; omega), ho3, k4.1, k4.2⟩
      case measure => simp [intOf] <;> omega
    · go_wp2_with fail
      go_ret
      have he : xs.take k = xs := List.take_of_length_le (by have := HA.out; omega)
      rw [he] at hm ho
      exact ⟨_, rfl, o, m, d, rfl, hm, ho, hnw, hkp⟩

set_option maxRecDepth 10000 in
theorem refValidPairs_any (w : World) (a : Option Addr) (n c : Nat) (xs : List Pr) (hn : n = xs.length) (hl : xs.length ≤ 4398046511000) (hf : FitsP xs) (hs : Sl PE w a c xs) :
    Calls Tryz.prog 54 #[.slice a n c] w fun e w' => e = .returned (.bool (valP xs)) ∧ Keeps no w w' := by
  have HA : Hid (n = xs.length) := hn
  have hA : (n : Int) ≤ 4398046511000 := by omega
  have HL : Hid (xs.length ≤ 4398046511000) := hl
  have HZ : Hid (FitsP xs) := hf
  obtain ⟨R, hR⟩ : ∃ R, valP xs = R := ⟨_, rfl⟩
  have HR : Hid (valP xs = R) := hR
  rw [hR]
  clear hR hn hl hf
  go_enter Tryz.func54, Tryz.ntmps54
  go_wp2_with fail
  go_loop [3] (fun i => ∃ k : Nat, k ≤ n ∧ i = .int .i64 k ∧ Hid (∀ j, j < k → (xs.getD j p0).2.size ≤ 65535)) (fun i => n - (intOf i).toNat)
  case atStart => exact ⟨0, by omega, rfl, fun j hj => absurd hj (Nat.not_lt_zero _)⟩
  case round =>
    obtain ⟨k, hk, rfl, HT⟩ := hrel
    by_cases h2 : k < n
    · have hka : k < xs.length := by have := HA.out; omega
      obtain ⟨b1, off1, rfl, d1, d2⟩ := hs.atP hka
      obtain ⟨x, hx⟩ : ∃ x, x = (xs.getD k p0).2 := ⟨_, rfl⟩
      rw [← hx] at d2
      have hxz : x.size ≤ 9223372036854775807 := by
        have := (HZ.out (xs.getD k p0) (getD_mem_lt _ hka)).2
        rw [← hx] at this
        unfold maxLen at this; omega
      have HX : Hid (x = (xs.getD k p0).2) := hx
      clear hx hka d1
      by_cases hlong : (65535 : Int) < x.size
      · go_wp2_with fail
        go_ret
        refine ⟨?_, Keeps.refl _ _⟩
        have := valP_long (l := xs) (k := k) (by have := HA.out; omega) (by rw [← HX.out]; omega)
        rw [← HR.out, this]; rfl
      · go_wp2_with fail
        go_round
        case rel =>
          refine ⟨k + 1, by omega, by go_num, fun j hj => ?_⟩
          by_cases e : j = k
          · subst e; rw [← HX.out]; omega
          · exact HT.out j (by omega)
        case measure => simp [intOf] <;> omega
    · have hv : valP xs = valK (kys xs) := valP_of (fun j hj => HT.out j (by have := HA.out; omega))
      rw [HR.out] at hv
      have HV : Hid (R = valK (kys xs)) := hv
      clear hv
      go_wp2_with fail
      refine (refNames_any w a n c xs HA.out HL.out hs).mono ?_
      rintro e w' ⟨v, rfl, o', m', d', rfl, hm', ho', hnw', hkp'⟩
      have hc := refValid_any w' o' m' d' (kys xs) hm'.out (by rw [kys_length]; exact HL.out) HZ.out.keys ho'.sl
      rw [← HV.out] at hc
      go_wp2_with fail
      refine hc.mono ?_
      rintro e w2 ⟨rfl, hkp2⟩
      go_wp2_with fail
      go_ret
      exact ⟨rfl, hkp'.trans hkp2⟩

theorem kd {w w' : World} (h1 : w'.os = w.os) (h2 : w'.tape = w.tape) (h3 : w'.output = w.output) (h4 : w'.heap = w.heap) : Keeps no w w' := ⟨h1, h2, h3, by rw [h4]; exact Nat.le_refl _, fun _ _ _ => by rw [h4]⟩
theorem own_oneQ (w : World) (x y : Tx) : Sl PE (w.alloc (.cells #[.string x, .string y] 61)) (some ⟨w.heap.size, 0, none⟩) 1 [(x, y)] := by
  refine ⟨.inr ⟨w.heap.size, 0, rfl, fun j u hj => ?_⟩, by simp, by simp⟩
  rw [cell_of_blk (blk_new w _)]
  simpa [El.cells, PE] using hj
theorem nrm_take (l : List Pr) (k : Nat) (h : k < l.length) : nrm (l.take (k + 1)) = put ltp p0 (nrm (l.take k)) (l.getD k p0) := by
  rw [take_succ_getD l k p0 h]; exact isort_snoc p0 _ _

/-- the three appends behind the inner loop -/
theorem put_three {w wq : World} {k m : Nat} {out : List Pr} {p : Pr} (hp : pos ltp p0 out p out.length = k) (hk : k ≤ out.length)
    {o3 : Option Addr} {c3 : Nat} {w3 : World} (ho3 : Own PE w3 o3 c3 ([] ++ out.take k ++ [p] ++ out.drop k)) (hn : New w o3) (hkp : Keeps no w w3) :
    Gives PE w (put ltp p0 out p) (.slice o3 (out.length + 1) c3) w3 := by
  have he : put ltp p0 out p = [] ++ out.take k ++ [p] ++ out.drop k := by unfold put; rw [hp]; simp
  rw [he]
  exact ⟨o3, _, c3, rfl, (show _ = _ by simp; omega), ho3, hn, hkp⟩

set_option maxHeartbeats 4000000 in
set_option maxRecDepth 10000 in
theorem refNorm_any (w : World) (a : Option Addr) (n c : Nat) (xs : List Pr) (hn : n = xs.length) (hl : xs.length ≤ 4398046511000) (hf : FitsP xs) (hs : Sl PE w a c xs) :
    Calls Tryz.prog 29 #[.slice a n c] w fun e w' => ∃ v, e = .returned (.tuple #[v, .int .i64 (if valP xs then 0 else 40)]) ∧ Gives PE w (if valP xs then nrm xs else []) v w' := by
  have hv := refValidPairs_any w a n c xs hn hl hf hs
  have HA : Hid (n = xs.length) := hn
  clear hl hf
  cases e : valP xs <;> rw [e] at hv
  · clear e hn
    go_enter Tryz.func29, Tryz.ntmps29
    go_wp2_with fail
    refine hv.mono ?_
    rintro e w' ⟨rfl, hk⟩
    go_wp2_with fail
    go_ret2
    exact ⟨_, rfl, none, 0, 0, rfl, (show 0 = _ by simp), own_nil _, new_none _, hk⟩
  · have hsz := valP_size e
    have hA : (n : Int) ≤ 40000 := by omega
    have HL : Hid (xs.length ≤ 40000) := show _ ≤ _ by omega
    clear e hsz hn
    go_enter Tryz.func29, Tryz.ntmps29
    go_wp2_with fail
    refine hv.mono ?_
    rintro e w1 ⟨rfl, hk1⟩
    have HK1 : Hid (Keeps no w w1) := hk1
    clear hv hk1
    go_wp2_with fail
    go_loopw [5, 6] (fun s5 i wr => ∃ (k : Nat) (v : Value), k ≤ n ∧ i = .int .i64 k ∧ s5 = v ∧ Hid (Gives PE w (nrm (xs.take k)) v wr)) (fun _ i _ => n - (intOf i).toNat)
    case atStart => exact ⟨0, _, by omega, rfl, rfl, ⟨none, 0, 0, rfl, (show 0 = _ by simp [nrm, isort]), by simpa [nrm, isort] using own_nil _, new_none _, HK1.out⟩⟩
    case round =>
      obtain ⟨k, v, hk, rfl, rfl, HG⟩ := hrel
      obtain ⟨o, m, d, rfl, hm, ho, hnw, hkp⟩ := HG.out
      rename World => wq
      by_cases h2 : k < n
      · have hka : k < xs.length := by have := HA.out; omega
        have hs' := hs.keepsN hkp
        obtain ⟨b1, off1, rfl, d1, d2⟩ := hs'.atP hka
        rcases hx : xs.getD k p0 with ⟨x1, x2⟩
        rw [hx] at d1 d2
        simp only at d1 d2
        have HX : Hid (xs.getD k p0 = (x1, x2)) := hx
        have hmlen : m ≤ 40000 := by
          have := hm.out; rw [nrm_length, List.length_take] at this; have := HL.out; omega
        have hmI : (m : Int) ≤ 40000 := by omega
        have HM : Hid (m = (nrm (xs.take k)).length) := hm
        have HO : Hid (Own PE wq o d (nrm (xs.take k))) := ho
        have HNK : Hid (New w o ∧ Keeps no w wq) := ⟨hnw, hkp⟩
        obtain ⟨out, hout⟩ : ∃ out, nrm (xs.take k) = out := ⟨_, rfl⟩
        rw [hout] at HM HO
        have HOUT : Hid (nrm (xs.take k) = out) := hout
        clear hx hka hm ho hnw hkp hout HG hs'
        go_wp2_with fail
        go_loopw [7] (fun i wr => ∃ j q : Nat, j ≤ m ∧ i = .int .i64 j ∧ wr = wq.drewN q ∧ Hid (pos ltp p0 out (x1, x2) out.length = pos ltp p0 out (x1, x2) j)) (fun i _ => (intOf i).toNat)
        case atStart => exact ⟨m, 0, by omega, rfl, rfl, show _ = _ by rw [← HM.out]⟩
        case round =>
          obtain ⟨j, q, hj, rfl, rfl, HT⟩ := hrel
          by_cases hj0 : 0 < j
          · obtain ⟨j, rfl⟩ : ∃ j', j = j' + 1 := ⟨j - 1, by omega⟩
            have hjo : j < out.length := by have := HM.out; omega
            obtain ⟨b2, off2, rfl, d3, d4⟩ := HO.out.sl.atP hjo
            rcases hy : out.getD j p0 with ⟨y1, y2⟩
            rw [hy] at d3 d4
            simp only at d3 d4
            have HY : Hid (out.getD j p0 = (y1, y2)) := hy
            clear hy hjo
            have h3 : (0 : Int) < (j : Int) + 1 := by omega
            cases hxy : lts x1 y1
            · have hg := gtr_not y1 x1 hxy
              have HP : Hid (pos ltp p0 out (x1, x2) out.length = j + 1) := show _ = _ by
                rw [HT.out, pos, HY.out]
                show (if lts x1 y1 = true then _ else _) = _
                rw [hxy]; rfl
              have S1 : Hid (Sl PE wq (some ⟨b2, off2, none⟩) d (out.take (j + 1))) := ⟨HO.out.row.take okP _, by have := HO.out.cap.1; rw [List.length_take]; omega, fun h => by cases h⟩
              have S2 : Hid (Sl PE wq _ (d - (j + 1)) (out.drop (j + 1))) := cutP_if (j + 1) HO.out.sl
              have hkc : (j : Int) + 1 ≤ d := by have := HO.out.cap.1; have := HM.out; omega
              have hcase : (Op.bytesLess y1.toList x1.toList = true) ∨ (Op.bytesLess y1.toList x1.toList = false ∧ (y1.toList == x1.toList) = true) := by
                cases e : Op.bytesLess y1.toList x1.toList
                · rw [e] at hg; exact .inr ⟨rfl, by simpa using hg⟩
                · exact .inl rfl
              clear hg hxy HT
              rcases hcase with hc1 | ⟨hc1, hc2⟩
              · go_wp2_with fail
                go_quiet (fail)
                go_wp2_with (at_builtin; first
                  | (refine wpList_app okP rfl _ _ rfl _ _ _ [] rfl rfl (own_nil _) _ _ _ (out.take (j + 1)) rfl (by have := HM.out; rw [List.length_take]; omega) S1.out.nil (S1.out.row.keepsN (by exact kd rfl rfl rfl rfl)) (by have := HM.out; simp [PE] <;> omega) (by have := HM.out; simp <;> omega) ?_; intro o1 c1 w1 ho1 hap1; have kk := (hap1.new (w0 := wq) (new_none _) (kd rfl rfl rfl rfl)).2; have q1 := kk.cellN d1; have q2 := kk.cellN d2)
                  | (refine wpList_app okP rfl _ _ rfl _ _ _ ([] ++ out.take (j + 1)) rfl (by have := HM.out; simp <;> omega) (ho1.keepsN ((Keeps.refl _ _).alloc _)) _ _ _ [(x1, x2)] rfl rfl (own_oneQ _ x1 x2).nil (own_oneQ _ x1 x2).row (by have := HM.out; simp [PE] <;> omega) (by have := HM.out; simp <;> omega) ?_; intro o2 c2 w2 ho2 hap2)
                  | (refine wpList_app okP rfl _ _ rfl _ _ _ ([] ++ out.take (j + 1) ++ [(x1, x2)]) rfl (by have := HM.out; simp <;> omega) ho2 _ _ _ (out.drop (j + 1)) rfl (by have := HM.out; rw [List.length_drop]; omega) S2.out.nil (by
                      have k1 := hap1.new (w0 := wq) (new_none _) (kd rfl rfl rfl rfl)
                      have k2 := hap2.new (w0 := wq) k1.1 (k1.2.alloc _)
                      exact S2.out.row.keepsN k2.2) (by have := HM.out; simp [PE] <;> omega) (by have := HM.out; simp <;> omega) ?_; intro o3 c3 w3 ho3 hap3))
                all_goals
                  (go_roundw
                   case rel =>
                     have k1 := hap1.new (w0 := wq) (new_none _) (kd rfl rfl rfl rfl)
                     have k2 := hap2.new (w0 := wq) k1.1 (k1.2.alloc _)
                     have k3 := hap3.new (w0 := wq) k2.1 k2.2
                     refine ⟨k + 1, _, by omega, by go_num, rfl, ?_⟩
                     show Gives PE w (nrm (xs.take (k + 1))) _ _
                     rw [nrm_take xs k (by have := HA.out; omega), HX.out, HOUT.out]
                     have he : put ltp p0 out (x1, x2) = [] ++ out.take (j + 1) ++ [(x1, x2)] ++ out.drop (j + 1) := by unfold put; rw [HP.out]; simp
                     rw [he]
                     exact ⟨o3, _, c3, rfl, (show _ = _ by have := HM.out; simp <;> omega), ho3, k3.1.of_le HNK.out.2.size, HNK.out.2.trans k3.2⟩
                   case measure => simp [intOf] <;> omega)
              · go_wp2_with fail
                go_quiet (fail)
                go_wp2_with (at_builtin; first
                  | (refine wpList_app okP rfl _ _ rfl _ _ _ [] rfl rfl (own_nil _) _ _ _ (out.take (j + 1)) rfl (by have := HM.out; rw [List.length_take]; omega) S1.out.nil (S1.out.row.keepsN (by exact kd rfl rfl rfl rfl)) (by have := HM.out; simp [PE] <;> omega) (by have := HM.out; simp <;> omega) ?_; intro o1 c1 w1 ho1 hap1; have kk := (hap1.new (w0 := wq) (new_none _) (kd rfl rfl rfl rfl)).2; have q1 := kk.cellN d1; have q2 := kk.cellN d2)
                  | (refine wpList_app okP rfl _ _ rfl _ _ _ ([] ++ out.take (j + 1)) rfl (by have := HM.out; simp <;> omega) (ho1.keepsN ((Keeps.refl _ _).alloc _)) _ _ _ [(x1, x2)] rfl rfl (own_oneQ _ x1 x2).nil (own_oneQ _ x1 x2).row (by have := HM.out; simp [PE] <;> omega) (by have := HM.out; simp <;> omega) ?_; intro o2 c2 w2 ho2 hap2)
                  | (refine wpList_app okP rfl _ _ rfl _ _ _ ([] ++ out.take (j + 1) ++ [(x1, x2)]) rfl (by have := HM.out; simp <;> omega) ho2 _ _ _ (out.drop (j + 1)) rfl (by have := HM.out; rw [List.length_drop]; omega) S2.out.nil (by
                      have k1 := hap1.new (w0 := wq) (new_none _) (kd rfl rfl rfl rfl)
                      have k2 := hap2.new (w0 := wq) k1.1 (k1.2.alloc _)
                      exact S2.out.row.keepsN k2.2) (by have := HM.out; simp [PE] <;> omega) (by have := HM.out; simp <;> omega) ?_; intro o3 c3 w3 ho3 hap3))
                all_goals
                  (go_roundw
                   case rel =>
                     have k1 := hap1.new (w0 := wq) (new_none _) (kd rfl rfl rfl rfl)
                     have k2 := hap2.new (w0 := wq) k1.1 (k1.2.alloc _)
                     have k3 := hap3.new (w0 := wq) k2.1 k2.2
                     refine ⟨k + 1, _, by omega, by go_num, rfl, ?_⟩
                     show Gives PE w (nrm (xs.take (k + 1))) _ _
                     rw [nrm_take xs k (by have := HA.out; omega), HX.out, HOUT.out]
                     have he : put ltp p0 out (x1, x2) = [] ++ out.take (j + 1) ++ [(x1, x2)] ++ out.drop (j + 1) := by unfold put; rw [HP.out]; simp
                     rw [he]
                     exact ⟨o3, _, c3, rfl, (show _ = _ by have := HM.out; simp <;> omega), ho3, k3.1.of_le HNK.out.2.size, HNK.out.2.trans k3.2⟩
                   case measure => simp [intOf] <;> omega)
            · obtain ⟨hc1, hc2⟩ := gtr_of y1 x1 hxy
              have HXY : Hid (lts x1 y1 = true) := hxy
              clear hxy
              go_wp2_with fail
              go_quiet (fail)
              go_wp2_with fail
              go_roundw
              case rel =>
                refine ⟨j, _, by omega, by go_num, rfl, ?_⟩
                show pos ltp p0 out (x1, x2) out.length = pos ltp p0 out (x1, x2) j
                rw [HT.out, pos, HY.out]
                show (if lts x1 y1 = true then _ else _) = _
                rw [HXY.out]; rfl
              case measure => simp [intOf] <;> omega
          · obtain rfl : j = 0 := by omega
            have HP : Hid (pos ltp p0 out (x1, x2) out.length = 0) := show _ = _ by rw [HT.out, pos]
            obtain ⟨hr1, hs1⟩ := cutP_h wq _ d out m 0 0 rfl HM.out (by omega) HO.out.sl
            obtain ⟨A, dd, hr2, hs2, hsub⟩ := cutP_l wq _ d out m 0 0 rfl HM.out (by omega) HO.out.sl
            have S1 : Hid (Sl PE wq o d (out.take 0)) := hs1
            have S2 : Hid (Sl PE wq A dd (out.drop 0)) := hs2
            clear HT hs1 hs2
            go_wp2_with fail
            go_quiet (fail)
            have hz : ((0 : Nat) : Int) = 0 := rfl
            simp only [hz]
            clear hz
            go_wp2_with (at_builtin; first
              | (refine wpList_app okP rfl _ _ rfl _ _ _ [] rfl rfl (own_nil _) _ _ _ (out.take 0) rfl (by have := HM.out; rw [List.length_take]; omega) S1.out.nil (S1.out.row.keepsN (by exact kd rfl rfl rfl rfl)) (by have := HM.out; simp [PE] <;> omega) (by have := HM.out; simp <;> omega) ?_; intro o1 c1 w1 ho1 hap1; have kk := (hap1.new (w0 := wq) (new_none _) (kd rfl rfl rfl rfl)).2; have q1 := kk.cellN d1; have q2 := kk.cellN d2)
              | (refine wpList_app okP rfl _ _ rfl _ _ _ ([] ++ out.take 0) rfl (by have := HM.out; simp <;> omega) (ho1.keepsN ((Keeps.refl _ _).alloc _)) _ _ _ [(x1, x2)] rfl rfl (own_oneQ _ x1 x2).nil (own_oneQ _ x1 x2).row (by have := HM.out; simp [PE] <;> omega) (by have := HM.out; simp <;> omega) ?_; intro o2 c2 w2 ho2 hap2)
              | (refine wpList_app okP rfl _ _ rfl _ _ _ ([] ++ out.take 0 ++ [(x1, x2)]) rfl (by have := HM.out; simp <;> omega) ho2 _ _ _ (out.drop 0) rfl (by have := HM.out; rw [List.length_drop]; omega) S2.out.nil (by
                  have k1 := hap1.new (w0 := wq) (new_none _) (kd rfl rfl rfl rfl)
                  have k2 := hap2.new (w0 := wq) k1.1 (k1.2.alloc _)
                  exact S2.out.row.keepsN k2.2) (by have := HM.out; simp [PE] <;> omega) (by have := HM.out; simp <;> omega) ?_; intro o3 c3 w3 ho3 hap3))
            all_goals
              (go_roundw
               case rel =>
                 have k1 := hap1.new (w0 := wq) (new_none _) (kd rfl rfl rfl rfl)
                 have k2 := hap2.new (w0 := wq) k1.1 (k1.2.alloc _)
                 have k3 := hap3.new (w0 := wq) k2.1 k2.2
                 refine ⟨k + 1, _, by omega, by go_num, rfl, ?_⟩
                 show Gives PE w (nrm (xs.take (k + 1))) _ _
                 rw [nrm_take xs k (by have := HA.out; omega), HX.out, HOUT.out]
                 have he : put ltp p0 out (x1, x2) = [] ++ out.take 0 ++ [(x1, x2)] ++ out.drop 0 := by unfold put; rw [HP.out]; simp
                 rw [he]
                 exact ⟨o3, _, c3, rfl, (show _ = _ by have := HM.out; simp <;> omega), ho3, k3.1.of_le HNK.out.2.size, HNK.out.2.trans k3.2⟩
               case measure => simp [intOf] <;> omega)
      · go_wp2_with fail
        go_ret2
        have he : xs.take k = xs := List.take_of_length_le (by have := HA.out; omega)
        rw [he] at hm ho
        exact ⟨_, rfl, o, m, d, rfl, hm, ho, hnw, hkp⟩
end Go.Proofs.YtghnhkhhpeoheaaGreat

import Derived.Test.YtagekdmkidbhpaaC6
/- missing, Put. -/
namespace Go.Proofs.Ytagekdmkidbhpaa
open Go.RowKit Go.Maps Go.Sort Orl
set_option linter.unusedVariables false
set_option linter.unusedSimpArgs false

def miss (s : St) (i : Nat) (ps : List Pr) : List Pr := ps.filter fun p => (s.V (p.1, i)).isNone
def stampOf (s : St) (i : Nat) (now : Int) (k : Tx) : Int := if i < s.last k then now else -1
def put1 (i : Nat) (keys : List Tx) (now : Int) (s : St) (p : Pr) : St := s.add (p.1, i) ⟨p.2, keys, stampOf s i now p.1⟩
def putAll (i : Nat) (keys : List Tx) (now : Int) (s : St) (ps : List Pr) : St := ps.foldl (put1 i keys now) s
theorem putAll_last (i : Nat) (keys : List Tx) (now : Int) : ∀ (ps : List Pr) (s : St), (putAll i keys now s ps).last = s.last
  | [], s => rfl
  | p :: r, s => by
    show (putAll i keys now (put1 i keys now s p) r).last = _
    rw [putAll_last i keys now r]; rfl
theorem putAll_snoc (i : Nat) (keys : List Tx) (now : Int) (s : St) (ps : List Pr) (p : Pr) : putAll i keys now s (ps ++ [p]) = put1 i keys now (putAll i keys now s ps) p := by simp [putAll]
theorem putAll_V (i : Nat) (keys : List Tx) (now : Int) : ∀ (ps : List Pr) (s : St) (m : Mk), (∀ p ∈ ps, (p.1, i) ≠ m) → (putAll i keys now s ps).V m = s.V m
  | [], s, m, _ => rfl
  | p :: r, s, m, h => by
    show (putAll i keys now (put1 i keys now s p) r).V m = _
    rw [putAll_V i keys now r _ m (fun q hq => h q (by simp [hq]))]
    show (if m = (p.1, i) then _ else s.V m) = s.V m
    rw [if_neg (fun e => h p (by simp) e.symm)]
theorem putAll_mem (i : Nat) (keys : List Tx) (now : Int) : ∀ (ps : List Pr) (s : St), ps.Pairwise (fun p q => p.1 ≠ q.1) → ∀ p ∈ ps, (putAll i keys now s ps).V (p.1, i) = some ⟨p.2, keys, stampOf s i now p.1⟩
  | [], s, _, p, hp => by simp at hp
  | q :: r, s, hn, p, hp => by
    obtain ⟨h1, h2⟩ := List.pairwise_cons.1 hn
    show (putAll i keys now (put1 i keys now s q) r).V (p.1, i) = _
    rcases List.mem_cons.1 hp with rfl | hp
    · rw [putAll_V i keys now r _ _ (fun z hz e => h1 z hz (by injection e with e _; exact e.symm))]
      show (if _ = _ then _ else _) = _
      rw [if_pos rfl]
    · rw [putAll_mem i keys now r _ h2 p hp]
      rfl
theorem inc_apart {ps : List Pr} (h : Inc ltp ps) : ps.Pairwise (fun p q => p.1 ≠ q.1) := List.Pairwise.imp (fun {a b} hab e => by
  unfold ltp at hab; rw [e, swoT.irrefl] at hab; cases hab) h
theorem swoP : SWO ltp where
  irrefl x := swoT.irrefl _
  trans x y z h1 h2 := swoT.trans _ _ _ h1 h2
  ntrans x y z h1 h2 := swoT.ntrans _ _ _ h1 h2
theorem okPairs_iff {l : List Pr} {keys : List Tx} : okPairs l keys = true ↔ (∀ p ∈ l, p.2.size ≤ 65535 ∧ p.1 ∈ keys) ∧ 0 < l.length ∧ Inc ltp l := by
  unfold okPairs
  simp only [Bool.and_eq_true, decide_eq_true_eq, List.all_eq_true, rising_iff swoP, inn_iff]

set_option maxRecDepth 10000 in
theorem missing_any (w : World) (p : Nat) (T : Nat → Option Ro) (s : St) (N : Nat) (i : Nat) (a : Option Addr) (n c : Nat) (ps : List Pr) (h : IsS w p T s N) (hn : n = ps.length) (hl : ps.length ≤ 100000) (hs : Sl PE w a c ps) (hk : ∀ q ∈ ps, KM.ok (q.1, i)) :
    Calls Try.prog 29 #[.pointer (some ⟨p, 0, none⟩), .int .u64 ((i : Nat) : Int), .slice a n c] w fun e w' => ∃ v, e = .returned v ∧ Gives PE w (miss s i ps) v w' := by
  have HA : Hid (n = ps.length) := hn
  have hA : (n : Int) ≤ 100000 := by omega
  have HL : Hid (ps.length ≤ 100000) := hl
  have HS : Hid (IsS w p T s N) := h
  have HP : Hid (Sl PE w a c ps) := hs
  have HK : Hid (∀ q ∈ ps, KM.ok (q.1, i)) := hk
  clear hn hl h hs hk
  go_enter Try.func29, Try.ntmps29
  go_wp2_with fail
  go_loopw [7, 12] (fun s3 v wr => ∃ (k : Nat) (u : Value), k ≤ n ∧ v = .int .i64 k ∧ s3 = u ∧ Hid (Gives PE w (miss s i (ps.take k)) u wr)) (fun _ v _ => n - (intOf v).toNat)
  case atStart => exact ⟨0, _, by omega, rfl, rfl, ⟨none, 0, 0, rfl, (show 0 = _ by simp [miss]), own_nil _, new_none _, Keeps.refl _ _⟩⟩
  case round =>
    obtain ⟨k, u, hk, rfl, rfl, HG⟩ := hrel
    obtain ⟨o, m, d, rfl, hm, ho, hnw, hkp⟩ := HG.out
    by_cases h2 : k < n
    · have hka : k < ps.length := by have := HA.out; omega
      obtain ⟨b1, off1, rfl, d1, d2⟩ := (HP.out.keepsN hkp).atP hka
      obtain ⟨x, hx⟩ : ∃ x, x = ps.getD k p0 := ⟨_, rfl⟩
      rw [← hx] at d1 d2
      obtain ⟨x1, x2⟩ := x
      simp only at d1 d2
      have HX : Hid ((x1, x2) = ps.getD k p0 ∧ k < ps.length) := ⟨hx, hka⟩
      have HLen : Hid ((miss s i (ps.take k)).length ≤ 100000) := (show _ ≤ _ by have h1 := List.length_filter_le (fun p => (s.V (p.1, i)).isNone) (ps.take k); have := HL.out; unfold miss; rw [List.length_take] at h1; omega)
      have hkx : KM.ok (x1, i) := by have := HK.out _ (getD_mem_lt p0 hka); rwa [← hx] at this
      have hcall := fun X (hX : Keeps no w X) => has_any X p T s N (x1, i) (HS.out.keepsN hX) hkx
      have ht : miss s i (ps.take (k + 1)) = miss s i (ps.take k) ++ (if (s.V (x1, i)).isNone then [(x1, x2)] else []) := by
        rw [take_succ_getD ps k p0 hka, ← hx]
        unfold miss
        rw [List.filter_append]
        congr 1
        simp only [List.filter_cons, List.filter_nil]
      have HT : Hid (miss s i (ps.take (k + 1)) = miss s i (ps.take k) ++ (if (s.V (x1, i)).isNone then [(x1, x2)] else [])) := ht
      have h3 : (k : Int) < n := by omega
      clear hx hka hkx ht
      cases hv : s.V (x1, i) with
      | none =>
        rw [hv] at hcall HT
        have HC : Hid (∀ X, Keeps no w X → Calls Try.prog 35 #[.pointer (some ⟨p, 0, none⟩), .agg #[.string x1, .int .u64 ((i : Nat) : Int)]] X fun e w' => e = .returned (.bool false) ∧ Keeps no X w') := hcall
        clear hcall hv
        go_wp2_with fail
        refine (HC.out _ (hkp.alloc _)).mono ?_
        rintro e w2 ⟨rfl, hk2⟩
        have HO2 : Hid (Own PE w2 o d (miss s i (ps.take k)) ∧ Keeps no w w2 ∧ w2.heap[wr.heap.size]? = some (.cells #[.string x1, .string x2] 52 (0, 0))) := ⟨(ho.keepsN ((Keeps.refl no wr).alloc _)).keepsN hk2, (hkp.alloc _).trans hk2, hk2.at (blk_new wr _) id⟩
        have q0 := cell_of_blk HO2.out.2.2 0
        have q1 := cell_of_blk HO2.out.2.2 1
        clear hk2
        go_wp2_with (at_builtin; refine wpList_app okP rfl _ _ rfl _ _ _ (miss s i (ps.take k)) rfl hm.out (HO2.out.1.keepsN ((Keeps.refl _ _).alloc _)) _ _ _ [(x1, x2)] rfl rfl (fun h => by cases h) (own_oneP _ x1 x2).row (by have := HLen.out; simp [PE]; omega) (by have := HLen.out; simp; omega) ?_; intro o1 c1 w3 ho3 hap3)
        go_roundw
        case rel =>
          have k4 := hap3.new (w0 := w) hnw (HO2.out.2.1.alloc _)
          refine ⟨k + 1, _, by omega, by go_num, rfl, ?_⟩
          show Gives PE w (miss s i (ps.take (k + 1))) _ _
          rw [HT.out]
          exact ⟨o1, _, c1, rfl, (show _ = _ by have h := hm.out; rw [List.length_append, ← h]; simp), ho3, k4.1, k4.2⟩
        case measure => simp [intOf] <;> omega
      | some vr =>
        rw [hv] at hcall HT
        have HC : Hid (∀ X, Keeps no w X → Calls Try.prog 35 #[.pointer (some ⟨p, 0, none⟩), .agg #[.string x1, .int .u64 ((i : Nat) : Int)]] X fun e w' => e = .returned (.bool true) ∧ Keeps no X w') := hcall
        clear hcall hv
        go_wp2_with fail
        refine (HC.out _ (hkp.alloc _)).mono ?_
        rintro e w2 ⟨rfl, hk2⟩
        have HO2 : Hid (Own PE w2 o d (miss s i (ps.take k)) ∧ Keeps no w w2) := ⟨(ho.keepsN ((Keeps.refl no wr).alloc _)).keepsN hk2, (hkp.alloc _).trans hk2⟩
        clear hk2
        go_wp2_with fail
        go_roundw
        case rel =>
          refine ⟨k + 1, _, by omega, by go_num, rfl, ?_⟩
          show Gives PE w (miss s i (ps.take (k + 1))) _ _
          rw [HT.out]
          refine ⟨o, m, d, rfl, (show _ = _ by have := hm.out; simpa using this), by simpa using HO2.out.1, hnw, HO2.out.2⟩
        case measure => simp [intOf] <;> omega
    · have h3 : ¬ (k : Int) < n := by omega
      go_wp2_with fail
      go_ret
      have he : ps.take k = ps := List.take_of_length_le (by have := HA.out; omega)
      rw [he] at hm ho
      exact ⟨_, rfl, o, m, d, rfl, hm, ho, hnw, hkp⟩

/-- may it be put? -/
def okPut (i : Nat) (ps : List Pr) (keys : List Tx) (now : Int) : Bool := decide (65536 ≤ i) && (okKeys keys && (okPairs ps keys && tickB now))

set_option maxRecDepth 10000 in
theorem put_bad (w : World) (r : Value) (i : Nat) (ps : List Pr) (keys : List Tx) (now : Int) (ap : Option Addr) (np cp : Nat) (ak : Option Addr) (nk ck : Nat) (hi : i < 18446744073709551616) (hnp : np = ps.length) (hnk : nk = keys.length) (hlp : ps.length ≤ 140737488355328) (hlk : keys.length ≤ 140737488355328) (hsp : Sl PE w ap cp ps) (hsk : Sl TE w ak ck keys) (hbad : okPut i ps keys now = false) :
    Calls Try.prog 12 #[r, .int .u64 ((i : Nat) : Int), .slice ap np cp, .slice ak nk ck, .int .i64 now] w fun e w' => e = .returned (.tuple #[.bool false, .int .i64 1]) ∧ Keeps no w w' := by
  have h1 := isWrite_any w i hi
  have h2 := areKeys_any w ak nk ck keys hnk hlk hsk
  unfold okPut at hbad
  cases e1 : decide (65536 ≤ i) with
  | false =>
    rw [e1] at h1
    clear hbad hi hnp hnk hlp hlk hsp hsk h2 e1
    go_enter Try.func12, Try.ntmps12
    go_wp2_with fail
    refine h1.mono ?_
    rintro e w1 ⟨rfl, hw⟩
    subst w1
    go_wp2_with fail
    go_ret2
    exact ⟨rfl, Keeps.refl _ _⟩
  | true =>
  cases e2 : okKeys keys with
  | false =>
    rw [e1] at h1
    rw [e2] at h2
    clear hbad hi hnp hnk hlp hlk hsp hsk e1 e2
    go_enter Try.func12, Try.ntmps12
    go_wp2_with fail
    refine h1.mono ?_
    rintro e w1 ⟨rfl, hw⟩
    subst w1
    go_wp2_with fail
    refine h2.mono ?_
    rintro e w2 ⟨rfl, hk2⟩
    go_wp2_with fail
    go_ret2
    exact ⟨rfl, hk2⟩
  | true =>
  have hinc := (okKeys_iff.1 e2).2.2
  have h3 := fun X (hX : Keeps no w X) => arePairs_any X ap np cp ps hnp hlp (hsp.keepsN hX) ak nk ck keys hnk hlk (hsk.keepsN hX) hinc
  rw [e1] at h1
  rw [e2] at h2
  cases e3 : okPairs ps keys with
  | false =>
    rw [e3] at h3
    clear hbad hi hnp hnk hlp hlk hsp hsk hinc e1 e2 e3
    go_enter Try.func12, Try.ntmps12
    go_wp2_with fail
    refine h1.mono ?_
    rintro e w1 ⟨rfl, hw⟩
    subst w1
    go_wp2_with fail
    refine h2.mono ?_
    rintro e w2 ⟨rfl, hk2⟩
    have h3' := h3 w2 hk2
    clear h3
    go_wp2_with fail
    refine h3'.mono ?_
    rintro e w3 ⟨rfl, hk3⟩
    go_wp2_with fail
    go_ret2
    exact ⟨rfl, hk2.trans hk3⟩
  | true =>
    rw [e3] at h3
    have e4 : tickB now = false := by rw [e1, e2, e3] at hbad; simpa using hbad
    have h4 := fun X => isTick_any X now
    rw [e4] at h4
    clear hbad hi hnp hnk hlp hlk hsp hsk hinc e1 e2 e3 e4
    go_enter Try.func12, Try.ntmps12
    go_wp2_with fail
    refine h1.mono ?_
    rintro e w1 ⟨rfl, hw⟩
    subst w1
    go_wp2_with fail
    refine h2.mono ?_
    rintro e w2 ⟨rfl, hk2⟩
    have h3' := h3 w2 hk2
    clear h3
    go_wp2_with fail
    refine h3'.mono ?_
    rintro e w3 ⟨rfl, hk3⟩
    have h4' := h4 w3
    clear h4
    go_wp2_with fail
    refine h4'.mono ?_
    rintro e w4 ⟨rfl, hw⟩
    subst w4
    go_wp2_with fail
    go_ret2
    exact ⟨rfl, hk2.trans hk3⟩

/-- where Put's loop stands -/
structure PL (W : World) (p : Nat) (T : Nat → Option Ro) (s : St) (N : Nat) (i : Nat) (keys : List Tx) (now : Int) (ms : List Pr) (J : Nat) (wr : World) : Prop where
  is : ∃ Tj, IsS wr p Tj (putAll i keys now s (ms.take J)) (N + J) ∧ ∀ b, b < W.heap.size → Tj b = T b
  kp : Keeps (Mut T) W wr
set_option maxRecDepth 10000 in
set_option maxHeartbeats 2000000 in
theorem put_good (w : World) (p : Nat) (T : Nat → Option Ro) (s : St) (N : Nat) (i : Nat) (ps : List Pr) (keys : List Tx) (now : Int) (ap : Option Addr) (np cp : Nat) (ak : Option Addr) (nk ck : Nat) (h : IsS w p T s N) (hi : i < 18446744073709551616) (hnp : np = ps.length) (hnk : nk = keys.length) (hlp : ps.length ≤ 100000) (hlk : keys.length ≤ 140737488355328) (hsp : Sl PE w ap cp ps) (hsk : Sl TE w ak ck keys) (hok : okPut i ps keys now = true) (hN : N ≤ 900000000) :
    Calls Try.prog 12 #[.pointer (some ⟨p, 0, none⟩), .int .u64 ((i : Nat) : Int), .slice ap np cp, .slice ak nk ck, .int .i64 now] w fun e w' => e = .returned (.tuple #[.bool (decide (0 < (miss s i ps).length)), .int .i64 0]) ∧ ∃ T', IsS w' p T' (putAll i keys now s (miss s i ps)) (N + (miss s i ps).length) ∧ (∀ b, b < w.heap.size → T' b = T b) ∧ Keeps (Mut T) w w' := by
  have h1 := isWrite_any w i hi
  have h2 := areKeys_any w ak nk ck keys hnk hlk hsk
  unfold okPut at hok
  simp only [Bool.and_eq_true] at hok
  obtain ⟨e1, e2, e3, e4⟩ := hok
  have hkk := okKeys_iff.1 e2
  have hpp := okPairs_iff.1 e3
  have h3 := fun X (hX : Keeps no w X) => arePairs_any X ap np cp ps hnp (by omega) (hsp.keepsN hX) ak nk ck keys hnk hlk (hsk.keepsN hX) hkk.2.2
  have h4 := fun X => isTick_any X now
  rw [e1] at h1
  rw [e2] at h2
  rw [e3] at h3
  rw [e4] at h4
  have hks : ∀ q ∈ ps, q.1.size ≤ 65535 := fun q hq => hkk.2.1 _ (hpp.1 q hq).2
  have h5 := fun X (hX : Keeps no w X) => missing_any X p T s N i ap np cp ps (h.keepsN hX) hnp hlp (hsp.keepsN hX) (fun q hq => ⟨by have := hks q hq; show q.1.size ≤ maxLen; unfold maxLen; omega, hi⟩)
  have h6 := fun X (hX : Keeps no w X) => copied_any X ak nk ck keys hnk (by omega) (fun x hx => by have := hkk.2.1 x hx; omega) (hsk.keepsN hX)
  obtain ⟨ms, hms⟩ : ∃ ms, ms = miss s i ps := ⟨_, rfl⟩
  rw [← hms] at h5 ⊢
  have hsub : ∀ q ∈ ms, q ∈ ps ∧ s.V (q.1, i) = none := fun q hq => by
    rw [hms] at hq
    have := List.mem_filter.1 hq
    exact ⟨this.1, by simpa using this.2⟩
  have HM : Hid ((∀ q ∈ ms, q.1 ∈ keys ∧ q.1.size ≤ 65535 ∧ q.2.size ≤ 65535 ∧ s.V (q.1, i) = none) ∧ ms.Pairwise (fun p q => p.1 ≠ q.1) ∧ ms.length ≤ 100000) :=
    ⟨fun q hq => ⟨(hpp.1 q (hsub q hq).1).2, hks q (hsub q hq).1, (hpp.1 q (hsub q hq).1).1, (hsub q hq).2⟩, by rw [hms]; exact List.Pairwise.filter _ (inc_apart hpp.2.2), by rw [hms]; exact Nat.le_trans (List.length_filter_le _ _) hlp⟩
  have HI : Hid (i < 18446744073709551616 ∧ okKeys keys = true ∧ N ≤ 900000000 ∧ IsS w p T s N) := ⟨hi, e2, hN, h⟩
  have H3 : Hid (∀ X, Keeps no w X → Calls Try.prog 27 #[.slice ap np cp, .slice ak nk ck] X fun e w' => e = .returned (.bool true) ∧ Keeps no X w') := h3
  have H4 : Hid (∀ X, Calls Try.prog 28 #[.int .i64 now] X fun e w' => e = .returned (.bool true) ∧ w' = X) := h4
  have H5 : Hid (∀ X, Keeps no w X → Calls Try.prog 29 #[.pointer (some ⟨p, 0, none⟩), .int .u64 ((i : Nat) : Int), .slice ap np cp] X fun e w' => ∃ v, e = .returned v ∧ Gives PE X ms v w') := h5
  have H6 : Hid (∀ X, Keeps no w X → Calls Try.prog 30 #[.slice ak nk ck] X fun e w' => ∃ v, e = .returned v ∧ Gives TE X keys v w') := h6
  clear e1 e2 e3 e4 hkk hpp hms hsub h3 h4 h5 h6 hi hN hnp hnk hlp hlk hsp hsk h hks
  go_enter Try.func12, Try.ntmps12
  go_wp2_with fail
  refine h1.mono ?_
  rintro e w1 ⟨rfl, hw⟩
  subst w1
  go_wp2_with fail
  refine h2.mono ?_
  rintro e w2 ⟨rfl, hk2⟩
  have K2 : Hid (Keeps no w w2) := hk2
  clear hk2 h1 h2
  go_wp2_with fail
  refine (H3.out w2 K2.out).mono ?_
  rintro e w3 ⟨rfl, hk3⟩
  have K3 : Hid (Keeps no w w3) := K2.out.trans hk3
  clear hk3 K2
  go_wp2_with fail
  refine (H4.out w3).mono ?_
  rintro e w4 ⟨rfl, hw⟩
  subst w4
  go_wp2_with fail
  refine (H5.out w3 K3.out).mono ?_
  rintro e w4 ⟨v4, rfl, om, nm, cm, rfl, hnm, hom, hnewm, hk4⟩
  have K4 : Hid (Keeps no w w4 ∧ Own PE w4 om cm ms ∧ New w om ∧ nm = ms.length) := ⟨K3.out.trans hk4, hom, hnewm.of_le K3.out.size, hnm.out⟩
  have hnb : (nm : Int) ≤ 100000 := by have := hnm.out; have := HM.out.2.2; omega
  clear hnm hom hnewm hk4 K3 H3 H4 H5
  by_cases h0 : nm = 0
  · have HE : Hid (ms = []) := List.length_eq_zero_iff.1 (by rw [← K4.out.2.2.2, h0])
    subst h0
    clear hnb
    go_wp2_with fail
    go_ret2
    rw [HE.out]
    exact ⟨rfl, T, HI.out.2.2.2.keepsN K4.out.1, fun b _ => rfl, K4.out.1.of_no⟩
  have h0' : ((nm : Int) == 0) = false := by simp; omega
  have HD : Hid (decide (0 < ms.length) = true) := (show _ = _ by have := K4.out.2.2.2; simp; omega)
  clear h0
  go_wp2_with fail
  refine (H6.out w4 K4.out.1).mono ?_
  rintro e w5 ⟨v5, rfl, oo, no', co, rfl, hno, hoo, hnewo, hk5⟩
  have hext : ∃ T1 : Nat → Option Ro, (∀ b, T b ≠ none → T1 b = T b) ∧ (∀ b, inO oo b → T1 b = some .ky) ∧ (∀ b, T1 b ≠ none → T b ≠ none ∨ inO oo b) := by
    classical
    refine ⟨fun b => if inO oo b then some .ky else T b, fun b hb => ?_, fun b hb => by simp [hb], fun b hb => ?_⟩
    · have : ¬ inO oo b := fun hc => by
        have := hnewo b hc
        have := HI.out.2.2.2.lt b hb
        have := K4.out.1.size
        omega
      simp [this]
    · by_cases hc : inO oo b
      · exact .inr hc
      · simp [hc] at hb; exact .inl hb
  obtain ⟨T1, t1, t2, t3⟩ := hext
  have hnm : ∀ b, inO om b → T1 b = none := fun b hb => by
    cases e : T1 b with
    | none => rfl
    | some r =>
      exfalso
      rcases t3 b (by rw [e]; simp) with hc | hc
      · have := HI.out.2.2.2.lt b hc; have := K4.out.2.2.1 b hb; omega
      · have := hnewo b hc; have := K4.out.2.1.lt b hb; omega
  have H0 : Hid (PL w5 p T1 s N i keys now ms 0 w5) := by
    refine ⟨⟨T1, ?_, fun b _ => rfl⟩, Keeps.refl _ _⟩
    obtain ⟨y, hy⟩ := HI.out.2.2.2
    refine ⟨y, (SL.retag ((hy.keeps (K4.out.1.trans hk5) (fun _ _ => id))) t1 (fun b hb => ?_))⟩
    rcases t3 b hb with hc | hc
    · exact Nat.lt_of_lt_of_le (hy.lt b hc) (K4.out.1.trans hk5).size
    · exact hoo.lt b hc
  have K5 : Hid (Keeps no w w5 ∧ Own PE w5 om cm ms ∧ nm = ms.length ∧ Own TE w5 oo co keys ∧ no' = keys.length ∧ (∀ b, inO om b → T1 b = none) ∧ (∀ b, inO oo b → T1 b = some .ky) ∧ (∀ b, T1 b ≠ none → T b ≠ none ∨ w.heap.size ≤ b) ∧ (∀ b, b < w.heap.size → T1 b = T b)) :=
    ⟨K4.out.1.trans hk5, K4.out.2.1.keepsN hk5, K4.out.2.2.2, hoo, hno.out, hnm, t2, fun b hb => by
      rcases t3 b hb with hc | hc
      · exact .inl hc
      · have := hnewo b hc; have := K4.out.1.size; exact .inr (by omega), fun b hb => by
      by_cases e : T b = none
      · cases e1 : T1 b with
        | none => rw [e]
        | some r =>
          exfalso
          rcases t3 b (by rw [e1]; simp) with hc | hc
          · exact hc e
          · have := hnewo b hc; have := K4.out.1.size; omega
      · exact t1 b e⟩
  clear hno hoo hnewo hk5 t1 t2 t3 hnm K4 H6
  go_wp2_with fail
  go_loopw [15, 16, 47] (fun _ _ v wr => ∃ J : Nat, v = .int .i64 (J : Int) ∧ (J : Int) ≤ nm ∧ Hid (PL w5 p T1 s N i keys now ms J wr)) (fun _ _ v _ => nm - (intOf v).toNat)
  case atStart => exact ⟨0, rfl, by omega, H0⟩
  case round =>
    obtain ⟨J, rfl, hJ, HP⟩ := hrel
    by_cases h2 : J < nm
    · have h3 : (J : Int) < nm := by omega
      have hka : J < ms.length := by have := K5.out.2.2.1; omega
      obtain ⟨Tj, hS, hTj⟩ := HP.out.is
      have hom : Own PE wr om cm ms := K5.out.2.1.keeps HP.out.kp (fun b hb e => e.1 (K5.out.2.2.2.2.2.1 b hb))
      have hoo : Own TE wr oo co keys := K5.out.2.2.2.1.keeps HP.out.kp (fun b hb e => e.2 (K5.out.2.2.2.2.2.2.1 b hb))
      obtain ⟨b1, off1, hob, d1, d2⟩ := hom.sl.atP hka
      obtain ⟨x, hx⟩ : ∃ x, x = ms.getD J p0 := ⟨_, rfl⟩
      rw [← hx] at d1 d2
      obtain ⟨x1, x2⟩ := x
      simp only at d1 d2
      have hmem := HM.out.1 _ (getD_mem_lt p0 hka)
      rw [← hx] at hmem
      simp only at hmem
      have hnone : (putAll i keys now s (ms.take J)).V (x1, i) = none := by
        rw [putAll_V]
        · exact hmem.2.2.2
        · intro q hq e
          have hlt : x1 ≠ q.1 := by
            obtain ⟨j, hj, rfl⟩ := List.getElem_of_mem hq
            simp at hj
            have hap := List.pairwise_iff_getElem.1 HM.out.2.1 j J (by omega) hka (by omega)
            intro e2
            apply hap
            rw [List.getElem_take] at e2
            rw [← e2]
            have : ms.getD J p0 = ms[J] := by simp [List.getD_eq_getElem?_getD, hka]
            rw [← this, ← hx]
          injection e with e _
          exact hlt e.symm
      have HX : Hid ((x1, x2) = ms.getD J p0 ∧ J < ms.length ∧ x1 ∈ keys ∧ x1.size ≤ 65535 ∧ x2.size ≤ 281474976710656 ∧ (putAll i keys now s (ms.take J)).V (x1, i) = none) := ⟨hx, hka, hmem.1, hmem.2.1, by have := hmem.2.2.1; omega, hnone⟩
      have HS : Hid (IsS wr p Tj (putAll i keys now s (ms.take J)) (N + J) ∧ (∀ b, b < w5.heap.size → Tj b = T1 b) ∧ (∀ b, inO oo b → Tj b = some .ky) ∧ Own TE wr oo co keys) := ⟨hS, hTj, fun b hb => by rw [hTj b (K5.out.2.2.2.1.lt b hb)]; exact K5.out.2.2.2.2.2.2.1 b hb, hoo⟩
      have hla := fun X (hX : Keeps no wr X) => last_any X p Tj _ (N + J) x1 (hS.keepsN hX) (by have := hmem.2.1; unfold maxLen; omega)
      rw [putAll_last] at hla
      have HLA : Hid (∀ X, Keeps no wr X → Calls Try.prog 31 #[.pointer (some ⟨p, 0, none⟩), .string x1] X fun e w' => e = .returned (.int .u64 ((s.last x1 : Nat) : Int)) ∧ w' = X) := hla
      have hbb := blk_new wr (.cells #[.string x1, .string x2] 52)
      have HBX : Hid (∀ X, Keeps (Mut Tj) (wr.alloc (.cells #[.string x1, .string x2] 52)) X → X.cell? ⟨wr.heap.size, 0, none⟩ = some (.string x1) ∧ X.cell? ⟨wr.heap.size, 1, none⟩ = some (.string x2)) := fun X hX => by
        have hno : ¬ Mut Tj wr.heap.size := fun e => by have := hS.lt _ e.1; omega
        exact ⟨hX.cell (cell_of_blk hbb 0) hno, hX.cell (cell_of_blk hbb 1) hno⟩
      clear hx hka hmem hnone hS hTj hom hoo hla hbb
      subst hob
      by_cases hlt : i < s.last x1
      · have hlt' : (i : Int) < (s.last x1 : Nat) := by omega
        have HE : Hid (stampOf s i now x1 = now) := (show _ = _ by unfold stampOf; simp [hlt])
        clear hlt
        have HADD : Hid (∀ X, Keeps no wr X → Calls Try.prog 32 #[.pointer (some ⟨p, 0, none⟩), .agg #[.string x1, .int .u64 ((i : Nat) : Int)], .agg #[.string x2, .slice oo no' co, .int .i64 now]] X fun e w' => e = .returned (.tuple #[]) ∧ ∃ T', IsS w' p T' (putAll i keys now s (ms.take (J + 1))) (N + (J + 1)) ∧ (∀ b, b < X.heap.size → T' b = Tj b) ∧ Keeps (Mut Tj) X w') := by
          intro X hX
          obtain ⟨y, hy⟩ := HS.out.1.keepsN hX
          have := add_any X p Tj _ (N + J) y x1 i ⟨x2, oo, co, keys, now⟩ hy ⟨by have := HX.out.2.2.2.1; show x1.size ≤ maxLen; unfold maxLen; omega, HI.out.1⟩ HX.out.2.2.2.2.2 HI.out.2.1 HX.out.2.2.1 (HS.out.2.2.2.sl.keepsN hX) HS.out.2.2.1 (by have := HI.out.2.2.1; have := HM.out.2.2; have := HX.out.2.1; omega)
          simp only [← K5.out.2.2.2.2.1] at this
          refine this.mono ?_
          rintro e w' ⟨he, T', hT, h1, h2⟩
          refine ⟨he, T', ?_, h1, h2⟩
          rw [take_succ_getD ms J p0 HX.out.2.1, ← HX.out.1, putAll_snoc]
          show IsS w' p T' (put1 i keys now (putAll i keys now s (ms.take J)) (x1, x2)) (N + J + 1)
          unfold put1
          have e1 : stampOf (putAll i keys now s (ms.take J)) i now x1 = now := by unfold stampOf; rw [putAll_last]; exact HE.out
          simp only
          rw [e1]
          exact hT
        go_wp2_with fail
        refine (HLA.out _ ((Keeps.refl no wr).alloc _)).mono ?_
        rintro e wl ⟨rfl, hw⟩
        subst wl
        go_wp2_with fail
        go_region_held3 (fun X => X.cell? ⟨wr.heap.size, 0, none⟩ = some (.string x1) ∧ X.cell? ⟨wr.heap.size, 1, none⟩ = some (.string x2)) (first | exact HBX.out _ KA.out.1 | exact HBX.out _ KS.out.of_no | exact HBX.out _ (Keeps.refl _ _) | exact HBX.out _ ((Keeps.refl _ _).drew)) ((first | (go_at_call 32; refine (HADD.out _ (((Keeps.refl no wr).alloc _).trans KS.out)).mono ?_; rintro e wa ⟨rfl, Ta, hIa, hTa, hka⟩; have KA : Hid (Keeps (Mut Tj) (wr.alloc (.cells #[.string x1, .string x2] 52)) wa ∧ IsS wa p Ta (putAll i keys now s (ms.take (J + 1))) (N + (J + 1)) ∧ (∀ b, b < wr.heap.size → Ta b = Tj b)) := ⟨KS.out.of_no.trans hka, hIa, fun b hb => hTa b (Nat.lt_of_lt_of_le hb (((Keeps.refl no wr).alloc _).trans KS.out).size)⟩; clear hIa hTa hka) | (go_at_call 33; refine (sclone_any _ x2 HX.out.2.2.2.2.1).mono ?_; rintro e ws ⟨rfl, hks⟩; have KS : Hid (Keeps no (wr.alloc (.cells #[.string x1, .string x2] 52)) ws) := (Keeps.refl no _).drew.trans hks; clear hks)))
        rename _ ∧ _ => hh
        clear hh
        have HR : Hid (PL w5 p T1 s N i keys now ms (J + 1) wa) := by
          have hsz := HP.out.kp.size
          refine ⟨⟨Ta, KA.out.2.1, fun b hb => (KA.out.2.2 b (by omega)).trans (HS.out.2.1 b hb)⟩, HP.out.kp.then ((Keeps.refl _ wr).alloc _ |>.trans KA.out.1) (fun b hb => ?_)⟩
          by_cases e : b < w5.heap.size
          · left
            unfold Mut at hb ⊢
            rw [← HS.out.2.1 b e]
            exact hb
          · exact .inr (by omega)
        go_wp2_with fail
        go_roundw
        case rel => exact ⟨J + 1, by go_num, by omega, HR⟩
        case measure => simp [intOf] <;> omega
      · have hlt' : ¬ (i : Int) < (s.last x1 : Nat) := by omega
        have HE : Hid (stampOf s i now x1 = (-1)) := (show _ = _ by unfold stampOf; simp [hlt])
        clear hlt
        have HADD : Hid (∀ X, Keeps no wr X → Calls Try.prog 32 #[.pointer (some ⟨p, 0, none⟩), .agg #[.string x1, .int .u64 ((i : Nat) : Int)], .agg #[.string x2, .slice oo no' co, .int .i64 (-1)]] X fun e w' => e = .returned (.tuple #[]) ∧ ∃ T', IsS w' p T' (putAll i keys now s (ms.take (J + 1))) (N + (J + 1)) ∧ (∀ b, b < X.heap.size → T' b = Tj b) ∧ Keeps (Mut Tj) X w') := by
          intro X hX
          obtain ⟨y, hy⟩ := HS.out.1.keepsN hX
          have := add_any X p Tj _ (N + J) y x1 i ⟨x2, oo, co, keys, (-1)⟩ hy ⟨by have := HX.out.2.2.2.1; show x1.size ≤ maxLen; unfold maxLen; omega, HI.out.1⟩ HX.out.2.2.2.2.2 HI.out.2.1 HX.out.2.2.1 (HS.out.2.2.2.sl.keepsN hX) HS.out.2.2.1 (by have := HI.out.2.2.1; have := HM.out.2.2; have := HX.out.2.1; omega)
          simp only [← K5.out.2.2.2.2.1] at this
          refine this.mono ?_
          rintro e w' ⟨he, T', hT, h1, h2⟩
          refine ⟨he, T', ?_, h1, h2⟩
          rw [take_succ_getD ms J p0 HX.out.2.1, ← HX.out.1, putAll_snoc]
          show IsS w' p T' (put1 i keys now (putAll i keys now s (ms.take J)) (x1, x2)) (N + J + 1)
          unfold put1
          have e1 : stampOf (putAll i keys now s (ms.take J)) i now x1 = (-1) := by unfold stampOf; rw [putAll_last]; exact HE.out
          simp only
          rw [e1]
          exact hT
        go_wp2_with fail
        refine (HLA.out _ ((Keeps.refl no wr).alloc _)).mono ?_
        rintro e wl ⟨rfl, hw⟩
        subst wl
        go_wp2_with fail
        go_region_held3 (fun X => X.cell? ⟨wr.heap.size, 0, none⟩ = some (.string x1) ∧ X.cell? ⟨wr.heap.size, 1, none⟩ = some (.string x2)) (first | exact HBX.out _ KA.out.1 | exact HBX.out _ KS.out.of_no | exact HBX.out _ (Keeps.refl _ _) | exact HBX.out _ ((Keeps.refl _ _).drew)) ((first | (go_at_call 32; refine (HADD.out _ (((Keeps.refl no wr).alloc _).trans KS.out)).mono ?_; rintro e wa ⟨rfl, Ta, hIa, hTa, hka⟩; have KA : Hid (Keeps (Mut Tj) (wr.alloc (.cells #[.string x1, .string x2] 52)) wa ∧ IsS wa p Ta (putAll i keys now s (ms.take (J + 1))) (N + (J + 1)) ∧ (∀ b, b < wr.heap.size → Ta b = Tj b)) := ⟨KS.out.of_no.trans hka, hIa, fun b hb => hTa b (Nat.lt_of_lt_of_le hb (((Keeps.refl no wr).alloc _).trans KS.out).size)⟩; clear hIa hTa hka) | (go_at_call 33; refine (sclone_any _ x2 HX.out.2.2.2.2.1).mono ?_; rintro e ws ⟨rfl, hks⟩; have KS : Hid (Keeps no (wr.alloc (.cells #[.string x1, .string x2] 52)) ws) := (Keeps.refl no _).drew.trans hks; clear hks)))
        rename _ ∧ _ => hh
        clear hh
        have HR : Hid (PL w5 p T1 s N i keys now ms (J + 1) wa) := by
          have hsz := HP.out.kp.size
          refine ⟨⟨Ta, KA.out.2.1, fun b hb => (KA.out.2.2 b (by omega)).trans (HS.out.2.1 b hb)⟩, HP.out.kp.then ((Keeps.refl _ wr).alloc _ |>.trans KA.out.1) (fun b hb => ?_)⟩
          by_cases e : b < w5.heap.size
          · left
            unfold Mut at hb ⊢
            rw [← HS.out.2.1 b e]
            exact hb
          · exact .inr (by omega)
        go_wp2_with fail
        go_roundw
        case rel => exact ⟨J + 1, by go_num, by omega, HR⟩
        case measure => simp [intOf] <;> omega
    · have h3 : ¬ (J : Int) < nm := by omega
      have HE : Hid (∃ T', IsS wr p T' (putAll i keys now s ms) (N + ms.length) ∧ (∀ b, b < w.heap.size → T' b = T b) ∧ Keeps (Mut T) w wr) := by
        obtain ⟨Tj, hS, hTj⟩ := HP.out.is
        have e : ms.take J = ms := List.take_of_length_le (by have := K5.out.2.2.1; omega)
        have eJ : J = ms.length := by have := K5.out.2.2.1; omega
        rw [e, eJ] at hS
        have hsz := K5.out.1.size
        refine ⟨Tj, hS, fun b hb => (hTj b (by omega)).trans (K5.out.2.2.2.2.2.2.2.2 b hb), K5.out.1.of_no.then HP.out.kp (fun b hb => ?_)⟩
        by_cases e2 : b < w.heap.size
        · left
          unfold Mut at hb ⊢
          rw [← K5.out.2.2.2.2.2.2.2.2 b e2]
          exact hb
        · exact .inr (by omega)
      go_wp2_with fail
      go_ret2
      rw [HD.out]
      exact ⟨rfl, HE.out⟩
end Go.Proofs.Ytagekdmkidbhpaa

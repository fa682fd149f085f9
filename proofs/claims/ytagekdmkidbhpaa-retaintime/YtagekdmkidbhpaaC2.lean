import Derived.Test.YtagekdmkidbhpaaC1
/- What a write says may be; copies. -/
namespace Go.Proofs.Ytagekdmkidbhpaa
open Go.RowKit Go.Sort Orl
set_option linter.unusedVariables false
set_option linter.unusedSimpArgs false

def ltp (p q : Pr) : Bool := lts p.1 q.1
theorem take_succ_getD {α : Type} (l : List α) (k : Nat) (d : α) (h : k < l.length) : l.take (k + 1) = l.take k ++ [l.getD k d] := by
  rw [List.take_add_one]; simp [h]
theorem arePairs1_any (x y : Pr) (W : World) : Calls Try.prog 45 #[.agg #[.string x.1, .string x.2], .agg #[.string y.1, .string y.2]] W fun e w' => e = .returned (.int .i64 (cmpT x.1 y.1)) ∧ Keeps no W w' := by
  obtain ⟨x1, x2⟩ := x
  obtain ⟨y1, y2⟩ := y
  have hcon := fun W' => compare_any x1 y1 W'
  simp only
  generalize cmpT x1 y1 = r at hcon ⊢
  go_enter Try.func45, Try.ntmps45
  go_wp2_with (go_at_call 42; refine (hcon _).mono ?_; rintro e w' ⟨rfl, rfl⟩)
  go_ret
  exact ⟨rfl, ((Keeps.refl _ _).alloc _).alloc _⟩

set_option maxRecDepth 10000 in
theorem risingP_any (w : World) (a : Option Addr) (n c : Nat) (xs : List Pr) (hn : n = xs.length) (hl : xs.length ≤ 140737488355328) (hs : Sl PE w a c xs) :
    Calls Try.prog 44 #[.slice a n c, .func (.func 45) #[] #[]] w fun e w' => e = .returned (.bool (rising ltp xs)) ∧ Keeps no w w' := by
  have HA : Hid (n = xs.length) := hn
  have hA : (n : Int) ≤ 140737488355328 := by omega
  clear hn hl
  obtain ⟨R, hR⟩ : ∃ R, rising ltp xs = R := ⟨_, rfl⟩
  have HR : Hid (rising ltp xs = R) := hR
  rw [hR]
  clear hR
  have HS : Hid (Sl PE w a c xs) := hs
  clear hs
  go_enter Try.func44, Try.ntmps44
  go_wp2_with fail
  go_loopw [5] (fun i wr => ∃ k : Nat, k ≤ n ∧ i = .int .i64 ((k : Int) + 1) ∧ Hid (Keeps no w wr) ∧ Hid (∀ j, j < k → j + 1 < xs.length → ltp (xs.getD j p0) (xs.getD (j + 1) p0) = true)) (fun i _ => n + 1 - (intOf i).toNat)
  case atStart => exact ⟨0, by omega, rfl, Keeps.refl _ _, fun j hj => absurd hj (Nat.not_lt_zero _)⟩
  case round =>
    obtain ⟨k, hk, rfl, HK, HT⟩ := hrel
    by_cases h2 : k + 1 < n
    · have hka : k + 1 < xs.length := by have := HA.out; omega
      obtain ⟨b1, off1, rfl, d1, d1'⟩ := (HS.out.keepsN HK.out).atP (j := k) (by omega)
      obtain ⟨b2, off2, e2, d2, d2'⟩ := (HS.out.keepsN HK.out).atP hka
      cases e2
      obtain ⟨x, hx⟩ : ∃ x, x = xs.getD k p0 := ⟨_, rfl⟩
      obtain ⟨y, hy⟩ : ∃ y, y = xs.getD (k + 1) p0 := ⟨_, rfl⟩
      rw [← hx] at d1 d1'
      rw [← hy] at d2 d2'
      have HX : Hid (x = xs.getD k p0) := hx
      have HY : Hid (y = xs.getD (k + 1) p0) := hy
      clear hx hy hka
      have h3 : (k : Int) + 1 < n := by omega
      have h4 : (k : Int) < n := by omega
      have hwk : IntKind.i64.wrap (k : Int) = (k : Int) := by rw [IntKind.wrap_i64]; omega
      have z1 := cell_regrown d1
      have z1' := cell_regrown d1'
      have z2 := cell_regrown d2
      have z2' := cell_regrown d2'
      have hq := fun W => arePairs1_any x y W
      cases hxy : ltp x y
      · have hge := cmpT_ge hxy
        generalize cmpT x.1 y.1 = C at hq hge
        have cS := call_grown (W := wr) (fun X hX => hq X)
        clear hq
        go_wp2_with fail
        refine wp_region_quiet_below (by kernel_rfl) (by kernel_rfl) ?_
        repeat (go_big_quiet_step (exact cS _ _))
        refine wpQuiet_nil ?_
        intro _ hw'
        obtain ⟨⟨dq, osq⟩, rfl⟩ := hw'
        have K1 : Hid (Keeps no w (Sort.grow (redrawn wr dq) osq)) := HK.out.trans (keeps_grownQ ..)
        generalize Sort.grow (redrawn wr dq) osq = u1 at K1 ⊢
        clear d1 d1' d2 d2' z1 z1' z2 z2' cS
        go_wp2_with fail
        go_ret
        refine ⟨?_, K1.out⟩
        have hf := rising_fail (lt := ltp) p0 xs k (by have := HA.out; omega) (by rw [← HX.out, ← HY.out]; exact hxy)
        rw [← HR.out, hf]; rfl
      · have hge := cmpT_lt hxy
        rw [hge] at hq
        have cS := call_grown (W := wr) (fun X hX => hq X)
        clear hq hge
        go_wp2_with fail
        refine wp_region_quiet_below (by kernel_rfl) (by kernel_rfl) ?_
        repeat (go_big_quiet_step (exact cS _ _))
        refine wpQuiet_nil ?_
        intro _ hw'
        obtain ⟨⟨dq, osq⟩, rfl⟩ := hw'
        have K1 : Hid (Keeps no w (Sort.grow (redrawn wr dq) osq)) := HK.out.trans (keeps_grownQ ..)
        generalize Sort.grow (redrawn wr dq) osq = u1 at K1 ⊢
        clear d1 d1' d2 d2' z1 z1' z2 z2' cS
        go_wp2_with fail
        go_roundw
        case rel =>
          refine ⟨k + 1, by omega, by go_num, K1, fun j hj hj2 => ?_⟩
          by_cases e : j = k
          · subst e; rw [← HX.out, ← HY.out]; exact hxy
          · exact HT.out j (by omega) hj2
        case measure => simp [intOf]; omega
    · have h3 : ¬ (k : Int) + 1 < n := by omega
      go_wp2_with fail
      go_ret
      refine ⟨?_, HK.out⟩
      have hf := rising_of_all (lt := ltp) p0 xs (fun i hi => HT.out i (by have := HA.out; omega) hi)
      rw [← HR.out, hf]; rfl

/-- all the keys of a write -/
def okKeys (l : List Tx) : Bool := decide (1 ≤ l.length ∧ l.length ≤ 1024) && (l.all fun k => decide (k.size ≤ 65535)) && rising lts l
theorem okKeys_iff {l : List Tx} : okKeys l = true ↔ (1 ≤ l.length ∧ l.length ≤ 1024) ∧ (∀ k ∈ l, k.size ≤ 65535) ∧ Inc lts l := by
  unfold okKeys
  simp only [Bool.and_eq_true, decide_eq_true_eq, List.all_eq_true, rising_iff swoT]
  constructor
  · rintro ⟨⟨h1, h2⟩, h3⟩; exact ⟨h1, h2, h3⟩
  · rintro ⟨h1, h2, h3⟩; exact ⟨⟨h1, h2⟩, h3⟩
set_option maxRecDepth 10000 in
theorem areKeys_any (w : World) (a : Option Addr) (n c : Nat) (xs : List Tx) (hn : n = xs.length) (hl : xs.length ≤ 140737488355328) (hs : Sl TE w a c xs) :
    Calls Try.prog 26 #[.slice a n c] w fun e w' => e = .returned (.bool (okKeys xs)) ∧ Keeps no w w' := by
  have HA : Hid (n = xs.length) := hn
  have hA : (n : Int) ≤ 140737488355328 := by omega
  have HL : Hid (xs.length ≤ 140737488355328) := hl
  obtain ⟨R, hR⟩ : ∃ R, okKeys xs = R := ⟨_, rfl⟩
  have HR : Hid (okKeys xs = R) := hR
  rw [hR]
  clear hR hn hl
  by_cases h0 : n = 0
  · subst h0
    go_enter Try.func26, Try.ntmps26
    go_wp2
    go_ret
    refine ⟨?_, Keeps.refl _ _⟩
    rw [← HR.out]
    have := HA.out
    simp [okKeys, ← this]
  by_cases h1 : 1024 < n
  · have h1' : (1024 : Int) < n := by omega
    have h0' : ((n : Int) == 0) = false := by simp; omega
    go_enter Try.func26, Try.ntmps26
    go_wp2
    go_ret
    refine ⟨?_, Keeps.refl _ _⟩
    rw [← HR.out]
    have := HA.out
    have h2 : ¬ xs.length ≤ 1024 := by omega
    simp [okKeys, h2]
  have h1' : ¬ (1024 : Int) < n := by omega
  have h0' : ((n : Int) == 0) = false := by simp; omega
  have h01 : 0 < n := by omega
  clear h0
  go_enter Try.func26, Try.ntmps26
  go_wp2_with fail
  go_loopw [15] (fun i wr => ∃ k : Nat, k ≤ n ∧ i = .int .i64 (k : Int) ∧ wr = w ∧ Hid (∀ j, j < k → (xs.getD j e0).size ≤ 65535)) (fun i _ => n - (intOf i).toNat)
  case atStart => exact ⟨0, by omega, rfl, rfl, fun j hj => absurd hj (Nat.not_lt_zero _)⟩
  case round =>
    obtain ⟨k, hk, rfl, hw, HT⟩ := hrel
    subst wr
    by_cases h2 : k < n
    · have hka : k < xs.length := by have := HA.out; omega
      obtain ⟨b1, off1, rfl, d1⟩ := hs.at hka
      obtain ⟨x, hx⟩ : ∃ x, x = xs.getD k e0 := ⟨_, rfl⟩
      rw [← hx] at d1
      have HX : Hid (x = xs.getD k e0) := hx
      clear hx hka
      have h3 : (k : Int) < n := by omega
      by_cases hx : x.size ≤ 65535
      · have hx' : ¬ (65535 : Int) < x.size := by omega
        go_wp2_with fail
        go_roundw
        case rel =>
          refine ⟨k + 1, by omega, by go_num, trivial, fun j hj => ?_⟩
          by_cases e : j = k
          · subst e; rw [← HX.out]; exact hx
          · exact HT.out j (by omega)
        case measure => simp [intOf]; omega
      · have hx' : (65535 : Int) < x.size := by omega
        go_wp2_with fail
        go_ret
        refine ⟨?_, Keeps.refl _ _⟩
        rw [← HR.out]
        cases e : okKeys xs with
        | false => rfl
        | true =>
          have := (okKeys_iff.1 e).2.1 _ (getD_mem_lt e0 (show k < xs.length by have := HA.out; omega))
          rw [← HX.out] at this
          exact absurd this hx
    · have h3 : ¬ (k : Int) < n := by omega
      have hr := risingT_any w a n c xs HA.out HL.out hs
      have e : rising lts xs = R := by
        rw [← HR.out]
        unfold okKeys
        have e1 : decide (1 ≤ xs.length ∧ xs.length ≤ 1024) = true := by have := HA.out; simp; omega
        have e2 : (xs.all fun k => decide (k.size ≤ 65535)) = true := by
          rw [List.all_eq_true]
          intro x hx
          obtain ⟨j, hj, rfl⟩ := List.getElem_of_mem hx
          have := HT.out j (by have := HA.out; omega)
          simpa [List.getD_eq_getElem?_getD, hj] using this
        rw [e1, e2]; rfl
      rw [e] at hr
      go_wp2_with fail
      refine hr.mono ?_
      rintro e w1 ⟨rfl, hk1⟩
      go_wp2
      go_ret
      exact ⟨rfl, hk1⟩

/-- what a write of these keys says -/
def okPairs (l : List Pr) (keys : List Tx) : Bool := (l.all fun p => decide (p.2.size ≤ 65535) && inn keys p.1) && (decide (0 < l.length) && rising ltp l)
set_option maxRecDepth 10000 in
theorem arePairs_any (w : World) (a : Option Addr) (n c : Nat) (xs : List Pr) (hn : n = xs.length) (hl : xs.length ≤ 140737488355328) (hs : Sl PE w a c xs) (ak : Option Addr) (nk ck : Nat) (ks : List Tx) (hnk : nk = ks.length) (hlk : ks.length ≤ 140737488355328) (hsk : Sl TE w ak ck ks) (hi : Inc lts ks) :
    Calls Try.prog 27 #[.slice a n c, .slice ak nk ck] w fun e w' => e = .returned (.bool (okPairs xs ks)) ∧ Keeps no w w' := by
  have HA : Hid (n = xs.length) := hn
  have hA : (n : Int) ≤ 140737488355328 := by omega
  have HL : Hid (xs.length ≤ 140737488355328) := hl
  have HM : Hid (∀ X s, Keeps no w X → Calls Try.prog 43 #[.string s, .slice ak nk ck] X fun e w' => e = .returned (.bool (inn ks s)) ∧ Keeps no X w') := fun X s hX => among_any X ak nk ck ks s hnk hlk (hsk.keepsN hX) hi
  obtain ⟨R, hR⟩ : ∃ R, okPairs xs ks = R := ⟨_, rfl⟩
  have HR : Hid (okPairs xs ks = R) := hR
  have HS : Hid (Sl PE w a c xs) := hs
  rw [hR]
  clear hR hn hl hnk hlk hsk hi hs
  go_enter Try.func27, Try.ntmps27
  go_wp2_with fail
  go_loopw [9] (fun i wr => ∃ k : Nat, k ≤ n ∧ i = .int .i64 (k : Int) ∧ Hid (Keeps no w wr) ∧ Hid (∀ j, j < k → (xs.getD j p0).2.size ≤ 65535 ∧ inn ks (xs.getD j p0).1 = true)) (fun i _ => n - (intOf i).toNat)
  case atStart => exact ⟨0, by omega, rfl, Keeps.refl _ _, fun j hj => absurd hj (Nat.not_lt_zero _)⟩
  case round =>
    obtain ⟨k, hk, rfl, HK, HT⟩ := hrel
    by_cases h2 : k < n
    · have hka : k < xs.length := by have := HA.out; omega
      obtain ⟨b1, off1, rfl, d1, d2⟩ := (HS.out.keepsN HK.out).atP hka
      obtain ⟨x, hx⟩ : ∃ x, x = xs.getD k p0 := ⟨_, rfl⟩
      rw [← hx] at d1 d2
      have HX : Hid (x = xs.getD k p0) := hx
      have HKA : Hid (k < xs.length) := hka
      clear hx hka
      obtain ⟨x1, x2⟩ := x
      simp only at d1 d2
      have h3 : (k : Int) < n := by omega
      have hfail : (¬ x2.size ≤ 65535 ∨ inn ks x1 = false) → R = false := fun h => by
        rw [← HR.out]
        have h1 : (xs.all fun p => decide (p.2.size ≤ 65535) && inn ks p.1) = false := by
          rw [List.all_eq_false]
          refine ⟨xs.getD k p0, getD_mem_lt p0 HKA.out, ?_⟩
          rw [← HX.out]
          rcases h with h | h
          · simp [h]
          · simp [h]
        unfold okPairs
        rw [h1]; rfl
      have HF : Hid ((¬ x2.size ≤ 65535 ∨ inn ks x1 = false) → R = false) := hfail
      clear hfail
      by_cases hx : x2.size ≤ 65535
      · have hx' : ¬ (65535 : Int) < x2.size := by omega
        have hc := fun X (hX : Keeps no w X) => HM.out X x1 hX
        cases e : inn ks x1 with
        | true =>
          rw [e] at hc
          have HC : Hid (∀ X, Keeps no w X → Calls Try.prog 43 #[.string x1, .slice ak nk ck] X fun e w' => e = .returned (.bool true) ∧ Keeps no X w') := hc
          clear hc
          have HE : Hid (inn ks x1 = true) := e
          clear e
          go_wp2_with fail
          refine (HC.out _ (HK.out.alloc _)).mono ?_
          rintro e w1 ⟨rfl, hk1⟩
          have HK1 : Hid (Keeps no w w1) := (HK.out.alloc _).trans hk1
          clear hk1
          go_wp2_with fail
          go_roundw
          case rel =>
            refine ⟨k + 1, by omega, by go_num, HK1, fun j hj => ?_⟩
            by_cases e : j = k
            · subst e; rw [← HX.out]; exact ⟨hx, HE.out⟩
            · exact HT.out j (by omega)
          case measure => simp [intOf]; omega
        | false =>
          rw [e] at hc
          have HC : Hid (∀ X, Keeps no w X → Calls Try.prog 43 #[.string x1, .slice ak nk ck] X fun e w' => e = .returned (.bool false) ∧ Keeps no X w') := hc
          clear hc
          have HE : Hid (inn ks x1 = false) := e
          clear e
          go_wp2_with fail
          refine (HC.out _ (HK.out.alloc _)).mono ?_
          rintro e w1 ⟨rfl, hk1⟩
          have HK1 : Hid (Keeps no w w1) := (HK.out.alloc _).trans hk1
          clear hk1
          go_wp2_with fail
          go_ret
          exact ⟨by rw [HF.out (.inr HE.out)]; rfl, HK1.out⟩
      · have hx' : (65535 : Int) < x2.size := by omega
        go_wp2_with fail
        go_ret
        exact ⟨by rw [HF.out (.inl hx)]; rfl, HK.out.alloc _⟩
    · have h3 : ¬ (k : Int) < n := by omega
      have hall : (xs.all fun p => decide (p.2.size ≤ 65535) && inn ks p.1) = true := by
        rw [List.all_eq_true]
        intro x hx
        obtain ⟨j, hj, rfl⟩ := List.getElem_of_mem hx
        have := HT.out j (by have := HA.out; omega)
        have e : xs.getD j p0 = xs[j] := by simp [List.getD_eq_getElem?_getD, hj]
        rw [e] at this
        simp [this.1, this.2]
      by_cases h0 : n = 0
      · have hz : ¬ (0 : Int) < n := by omega
        have HE : Hid (R = false) := (show _ = _ by
          rw [← HR.out]
          have : ¬ 0 < xs.length := by have := HA.out; omega
          simp [okPairs, this])
        go_wp2_with fail
        go_ret
        exact ⟨by rw [HE.out]; rfl, HK.out⟩
      · have hz : (0 : Int) < n := by omega
        have hr := fun X (hX : Keeps no w X) => risingP_any X a n c xs HA.out HL.out (HS.out.keepsN hX)
        have e : rising ltp xs = R := by
          rw [← HR.out]
          unfold okPairs
          have : 0 < xs.length := by have := HA.out; omega
          rw [hall]
          simp [this]
        rw [e] at hr
        have HRR : Hid (∀ X, Keeps no w X → Calls Try.prog 44 #[.slice a n c, .func (.func 45) #[] #[]] X fun e w' => e = .returned (.bool R) ∧ Keeps no X w') := hr
        clear hr e hall
        go_wp2_with fail
        refine (HRR.out _ HK.out).mono ?_
        rintro e w1 ⟨rfl, hk1⟩
        go_wp2_with fail
        go_ret
        exact ⟨rfl, HK.out.trans hk1⟩
theorem clone_any (w : World) (a : Option Addr) (n c : Nat) (xs : List Tx) (hn : n = xs.length) (hs : Sl TE w a c xs) (hb : xs.length ≤ 100000) :
    Calls Try.prog 50 #[.slice a n c] w fun e w' => ∃ v, e = .returned v ∧ Gives TE w xs v w' := by
  have HN : Hid (n = xs.length) := hn
  have hb' : Hid (xs.length ≤ 100000) := hb
  match a, hs with
  | none, hs =>
    have h0 : xs = [] := by rcases hs.row with h | ⟨b, off, h, _⟩; exact h; cases h
    have hnil := fun w => Lib.run_eql_slice_nil (P := Try.prog) w 33 9 none n c 0 0 Try.underlying33
    clear hn hb
    go_enter Try.func50, Try.ntmps50
    go_wp2_with fail
    go_ret
    subst h0
    exact ⟨_, rfl, none, 0, 0, rfl, (show 0 = _ by simp), own_nil _, new_none _, Keeps.refl _ _⟩
  | some ad, hs =>
    have hnil := fun w => Lib.run_eql_slice_nil (P := Try.prog) w 33 9 (some ad) n c 0 0 Try.underlying33
    clear hn hb
    go_enter Try.func50, Try.ntmps50
    go_wp2_with (at_builtin; refine wpList_app okT rfl _ _ rfl _ _ _ [] rfl rfl (own_empty okT _) _ _ _ xs rfl HN.out hs.nil (hs.row.keepsN ((Keeps.refl _ _).alloc _)) (by have := hb'.out; simp [TE]; omega) (by have := hb'.out; simp; omega) ?_; intro o' c' w' ho hap)
    go_ret
    have := hap.new (w0 := w) (new_fresh w _ (Nat.le_refl _) _) ((Keeps.refl _ _).alloc _)
    refine ⟨_, rfl, o', _, c', rfl, show _ = _ by simp [HN.out], by simpa using ho, this.1, this.2⟩
theorem sclone_any (w : World) (s : Tx) (h : s.size ≤ 281474976710656) :
    Calls Try.prog 33 #[.string s] w fun e w' => e = .returned (.string s) ∧ Keeps no w w' := by
  go_enter Try.func33, Try.ntmps33
  go_wp2_with fail
  refine (Any.stringslite_Clone Try.laysClone s w h).mono ?_
  rintro e w1 ⟨rfl, hb⟩
  go_wp2
  go_ret
  exact ⟨rfl, Keeps.of_below hb⟩
end Go.Proofs.Ytagekdmkidbhpaa

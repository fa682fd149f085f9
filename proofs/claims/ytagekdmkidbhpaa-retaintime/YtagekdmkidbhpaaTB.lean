import Derived.Test.YtagekdmkidbhpaaB1
/- RetainTime: the book; at, last. -/
namespace Go.Proofs.Ytagekdmkidbhpaa
open Go.RowKit Go.Maps Go.Sort Orl
set_option linter.unusedVariables false
set_option linter.unusedSimpArgs false

structure BK where
  k : Tx
  i : Nat
  s : Int
  g : Bool
def bk0 : BK := ⟨e0, 0, 0, false⟩
def BE : El BK := ⟨55, 40, 4, 40, fun x => [.string x.k, .int .u64 ((x.i : Nat) : Int), .int .i64 x.s, .bool x.g]⟩
theorem infoB : (Try.prog.info? 55).map (fun i => (i.zero, i.size, i.bytes)) = some (some (.agg #[.string ⟨#[]⟩, .int .u64 0, .int .i64 0, .bool false]), 4, 40) := by kernel_rfl
theorem okB : BE.Ok := by
  obtain ⟨i0, hi, hz0, hz1, hz2⟩ := info_parts infoB
  exact ⟨fun _ => rfl, fun x u hu => by simp [BE] at hu; rcases hu with rfl | rfl | rfl | rfl <;> rfl, by decide, Try.underlying40, i0, _, hi, hz0, hz1, hz2, rfl⟩
theorem own_oneB (w : World) (x : BK) : Sl BE (w.alloc (.cells #[.string x.k, .int .u64 ((x.i : Nat) : Int), .int .i64 x.s, .bool x.g] 55)) (some ⟨w.heap.size, 0, none⟩) 1 [x] := by
  refine ⟨.inr ⟨_, 0, rfl, fun j u hj => ?_⟩, by simp, fun e => by cases e⟩
  rw [Nat.zero_add, cell_of_blk (blk_new w _)]
  simpa [El.cells, BE] using hj
theorem atB {w : World} {a : Option Addr} {c : Nat} {xs : List BK} (h : Sl BE w a c xs) {j : Nat} (hj : j < xs.length) : ∃ b off, a = some ⟨b, off, none⟩ ∧ w.cell? ⟨b, off + j * 4, none⟩ = some (.string (xs.getD j bk0).k) ∧ w.cell? ⟨b, off + j * 4 + 1, none⟩ = some (.int .u64 (((xs.getD j bk0).i : Nat) : Int)) ∧ w.cell? ⟨b, off + j * 4 + 2, none⟩ = some (.int .i64 (xs.getD j bk0).s) ∧ w.cell? ⟨b, off + j * 4 + 3, none⟩ = some (.bool (xs.getD j bk0).g) := by
  rcases h.row with e | ⟨b, off, rfl, hc⟩
  · subst e; simp at hj
  · have key : ∀ i, i < 4 → w.cell? ⟨b, off + j * 4 + i, none⟩ = (BE.enc (xs.getD j bk0))[i]? := fun i hi => by
      have hx := cells_at okB bk0 xs j i hj hi
      have hlt : i < (BE.enc (xs.getD j bk0)).length := by simpa [BE] using hi
      rw [List.getElem?_eq_getElem hlt] at hx ⊢
      rw [Nat.add_assoc]
      exact hc _ _ hx
    exact ⟨b, off, rfl, key 0 (by omega), key 1 (by omega), key 2 (by omega), key 3 (by omega)⟩
def LA : El Mk := ⟨58, 41, 2, 24, fun x => [.string x.1, .int .u64 ((x.2 : Nat) : Int)]⟩
theorem infoLA : (Try.prog.info? 58).map (fun i => (i.zero, i.size, i.bytes)) = some (some (.agg #[.string ⟨#[]⟩, .int .u64 0]), 2, 24) := by kernel_rfl
theorem okLA : LA.Ok := by
  obtain ⟨i0, hi, hz0, hz1, hz2⟩ := info_parts infoLA
  exact ⟨fun _ => rfl, fun x u hu => by simp [LA] at hu; rcases hu with rfl | rfl <;> rfl, by decide, Try.underlying41, i0, _, hi, hz0, hz1, hz2, rfl⟩
theorem own_oneLA (w : World) (x : Mk) : Sl LA (w.alloc (.cells #[.string x.1, .int .u64 ((x.2 : Nat) : Int)] 58)) (some ⟨w.heap.size, 0, none⟩) 1 [x] := by
  refine ⟨.inr ⟨_, 0, rfl, fun j u hj => ?_⟩, by simp, fun e => by cases e⟩
  rw [Nat.zero_add, cell_of_blk (blk_new w _)]
  simpa [El.cells, LA] using hj
theorem atLA {w : World} {a : Option Addr} {c : Nat} {xs : List Mk} (h : Sl LA w a c xs) {j : Nat} (hj : j < xs.length) : ∃ b off, a = some ⟨b, off, none⟩ ∧ w.cell? ⟨b, off + j * 2, none⟩ = some (.string (xs.getD j (e0, 0)).1) ∧ w.cell? ⟨b, off + j * 2 + 1, none⟩ = some (.int .u64 (((xs.getD j (e0, 0)).2 : Nat) : Int)) := by
  rcases h.row with e | ⟨b, off, rfl, hc⟩
  · subst e; simp at hj
  · refine ⟨b, off, rfl, hc (j * 2) _ ?_, ?_⟩
    · have := cells_at okLA (e0, 0) xs j 0 hj (by decide)
      simpa [LA] using this
    · rw [Nat.add_assoc]
      refine hc (j * 2 + 1) _ ?_
      have := cells_at okLA (e0, 0) xs j 1 hj (by decide)
      simpa [LA] using this
/-! ### last, at -/
def lastF : List Mk → Tx → Nat
  | [], _ => 0
  | x :: r, k => if x.1 = k then x.2 else lastF r k
theorem lastF_none {k : Tx} : ∀ {l : List Mk}, (∀ j, j < l.length → (l.getD j (e0, 0)).1 ≠ k) → lastF l k = 0
  | [], _ => rfl
  | x :: r, h => by
    have h0 : x.1 ≠ k := h 0 (by simp)
    simp only [lastF, if_neg h0]
    exact lastF_none fun j hj => h (j + 1) (by simpa using hj)
theorem lastF_some {k : Tx} : ∀ {l : List Mk} {t : Nat}, t < l.length → (∀ j, j < t → (l.getD j (e0, 0)).1 ≠ k) → (l.getD t (e0, 0)).1 = k → lastF l k = (l.getD t (e0, 0)).2
  | [], t, h, _, _ => absurd h (by simp)
  | x :: r, 0, _, _, e => by
    have e' : x.1 = k := e
    simp only [lastF, if_pos e']
    rfl
  | x :: r, t + 1, h, hq, e => by
    have h0 : x.1 ≠ k := hq 0 (by omega)
    simp only [lastF, if_neg h0]
    exact lastF_some (by simpa using h) (fun j hj => hq (j + 1) (by omega)) e
theorem lt_step {P : Nat → Prop} {t : Nat} (h : ∀ j, j < t → P j) (h1 : P t) : ∀ j, j < t + 1 → P j := fun j hj => by
  rcases Nat.lt_or_ge j t with e | e
  · exact h j e
  · have : j = t := by omega
    rw [this]; exact h1
set_option maxRecDepth 10000 in
theorem last12_any (w : World) (o : Option Addr) (n c : Nat) (ls : List Mk) (hn : n = ls.length) (hl : ls.length ≤ 1000000) (hs : Sl LA w o c ls) (k : Tx) :
    Calls Try.prog 15 #[.slice o n c, .string k] w fun e w' => e = .returned (.int .u64 ((lastF ls k : Nat) : Int)) ∧ Keeps no w w' := by
  have HA : Hid (n = ls.length ∧ Sl LA w o c ls) := ⟨hn, hs⟩
  have hnb : (n : Int) ≤ 1000000 := by omega
  obtain ⟨R, hR⟩ : ∃ R, lastF ls k = R := ⟨_, rfl⟩
  have HR : Hid (lastF ls k = R) := hR
  rw [hR]
  clear hn hl hs hR
  go_enter Try.func15, Try.ntmps15
  go_wp2_with fail
  go_loopw [5] (fun i wr => ∃ t : Nat, t ≤ n ∧ i = .int .i64 t ∧ Hid (Keeps no w wr ∧ ∀ j, j < t → (ls.getD j (e0, 0)).1 ≠ k)) (fun i _ => n - (intOf i).toNat)
  case atStart => exact ⟨0, by omega, rfl, Keeps.refl _ _, fun j hj => by omega⟩
  case round =>
    obtain ⟨t, ht, rfl, HG⟩ := hrel
    by_cases hlt : t < n
    · have hlt' : (t : Int) < n := by omega
      have htl : t < ls.length := by rw [← HA.out.1]; exact hlt
      obtain ⟨b, off, rfl, d0, d1⟩ := atLA (HA.out.2.keepsN HG.out.1) htl
      obtain ⟨x, hx⟩ : ∃ x, x = ls.getD t (e0, 0) := ⟨_, rfl⟩
      rw [← hx] at d0 d1
      have HX : Hid (x = ls.getD t (e0, 0)) := hx
      clear hx htl
      obtain ⟨xk, xi⟩ := x
      simp only at d0 d1
      by_cases hk : xk = k
      · subst hk
        have hRx : R = xi := by
          rw [← HR.out, lastF_some (by rw [← HA.out.1]; exact hlt) HG.out.2 (by rw [← HX.out]), ← HX.out]
        subst hRx
        go_wp2_with fail
        go_ret
        exact ⟨rfl, HG.out.1⟩
      · have ht1 : (xk.toList == k.toList) = false := by rw [tx_eq]; exact decide_eq_false hk
        have HK : Hid (xk ≠ k) := hk
        clear hk
        go_wp2_with fail
        go_roundw
        case rel => exact ⟨t + 1, by omega, by go_num, HG.out.1, lt_step HG.out.2 (by rw [← HX.out]; exact HK.out)⟩
        case measure => simp [intOf]; omega
    · have htn : t = n := by omega
      have hR0 : R = 0 := by
        rw [← HR.out]
        exact lastF_none fun j hj => HG.out.2 j (by rw [htn, HA.out.1]; exact hj)
      subst hR0
      go_wp2_with fail
      go_ret
      exact ⟨rfl, HG.out.1⟩
def hitB (x : BK) (k : Tx) (i : Nat) : Bool := decide (x.k = k) && (decide (x.i = i) && !x.g)
def atZ : List BK → Nat → Tx → Nat → Int
  | [], _, _, _ => -1
  | x :: r, j, k, i => if hitB x k i = true then (j : Int) else atZ r (j + 1) k i
theorem atZ_none {k : Tx} {i : Nat} : ∀ {l : List BK} {b : Nat}, (∀ j, j < l.length → hitB (l.getD j bk0) k i = false) → atZ l b k i = -1
  | [], _, _ => rfl
  | x :: r, b, h => by
    have h0 : hitB x k i = false := h 0 (by simp)
    simp only [atZ]
    rw [if_neg (by rw [h0]; simp)]
    exact atZ_none fun j hj => h (j + 1) (by simpa using hj)
theorem atZ_some {k : Tx} {i : Nat} : ∀ {l : List BK} {b t : Nat}, t < l.length → (∀ j, j < t → hitB (l.getD j bk0) k i = false) → hitB (l.getD t bk0) k i = true → atZ l b k i = ((b + t : Nat) : Int)
  | [], b, t, h, _, _ => absurd h (by simp)
  | x :: r, b, 0, _, _, e => by
    have e' : hitB x k i = true := e
    simp only [atZ]
    rw [if_pos e']
    rfl
  | x :: r, b, t + 1, h, hq, e => by
    have h0 : hitB x k i = false := hq 0 (by omega)
    simp only [atZ]
    rw [if_neg (by rw [h0]; simp), atZ_some (by simpa using h) (fun j hj => hq (j + 1) (by omega)) e]
    congr 1
    omega
theorem atZ_neg {l : List BK} {k : Tx} {i : Nat} : atZ l 0 k i < 0 ↔ ∀ x ∈ l, hitB x k i = false := by
  have key : ∀ (l : List BK) (b : Nat), atZ l b k i < 0 ↔ ∀ x ∈ l, hitB x k i = false := fun l => by
    induction l with
    | nil => intro b; simp [atZ]
    | cons x r ih =>
      intro b
      simp only [atZ]
      cases h : hitB x k i with
      | true => simp [h]
      | false => rw [if_neg (by simp), ih (b + 1)]; simp [h]
  exact key l 0
set_option maxRecDepth 10000 in
theorem at12_any (w : World) (o : Option Addr) (n c : Nat) (bs : List BK) (hn : n = bs.length) (hl : bs.length ≤ 1000000) (hs : Sl BE w o c bs) (k : Tx) (i : Nat) :
    Calls Try.prog 14 #[.slice o n c, .string k, .int .u64 ((i : Nat) : Int)] w fun e w' => e = .returned (.int .i64 (atZ bs 0 k i)) ∧ Keeps no w w' := by
  have HA : Hid (n = bs.length ∧ Sl BE w o c bs) := ⟨hn, hs⟩
  have hnb : (n : Int) ≤ 1000000 := by omega
  obtain ⟨R, hR⟩ : ∃ R, atZ bs 0 k i = R := ⟨_, rfl⟩
  have HR : Hid (atZ bs 0 k i = R) := hR
  rw [hR]
  clear hn hl hs hR
  go_enter Try.func14, Try.ntmps14
  go_wp2_with fail
  go_loopw [7] (fun j wr => ∃ t : Nat, t ≤ n ∧ j = .int .i64 t ∧ Hid (Keeps no w wr ∧ ∀ j, j < t → hitB (bs.getD j bk0) k i = false)) (fun j _ => n - (intOf j).toNat)
  case atStart => exact ⟨0, by omega, rfl, Keeps.refl _ _, fun j hj => by omega⟩
  case round =>
    obtain ⟨t, ht, rfl, HG⟩ := hrel
    by_cases hlt : t < n
    · have hlt' : (t : Int) < n := by omega
      have htl : t < bs.length := by rw [← HA.out.1]; exact hlt
      obtain ⟨b, off, rfl, d0, d1, d2, d3⟩ := atB (HA.out.2.keepsN HG.out.1) htl
      obtain ⟨x, hx⟩ : ∃ x, x = bs.getD t bk0 := ⟨_, rfl⟩
      rw [← hx] at d0 d1 d2 d3
      have HX : Hid (x = bs.getD t bk0) := hx
      clear hx htl
      obtain ⟨xk, xi, xs, xg⟩ := x
      simp only at d0 d1 d2 d3
      have HN : Hid (hitB ⟨xk, xi, xs, xg⟩ k i = false → ∀ j, j < t + 1 → hitB (bs.getD j bk0) k i = false) := fun h => lt_step HG.out.2 (by rw [← HX.out]; exact h)
      by_cases hk : xk = k
      · subst hk
        by_cases hi : xi = i
        · subst hi
          cases xg with
          | true =>
            have HF : Hid (hitB ⟨xk, xi, xs, true⟩ xk xi = false) := (show _ = _ by simp [hitB])
            go_wp2_with fail
            go_roundw
            case rel => exact ⟨t + 1, by omega, by go_num, HG.out.1, HN.out HF.out⟩
            case measure => simp [intOf]; omega
          | false =>
            have hRx : R = (t : Int) := by
              rw [← HR.out, atZ_some (by rw [← HA.out.1]; exact hlt) HG.out.2 (by rw [← HX.out]; simp [hitB])]
              simp
            subst hRx
            go_wp2_with fail
            go_ret
            exact ⟨rfl, HG.out.1⟩
        · have h1 : ((xi : Int) == (i : Int)) = false := beq_eq_false_iff_ne.2 (by omega)
          have h2 : (xi == i) = false := beq_eq_false_iff_ne.2 hi
          have HF : Hid (hitB ⟨xk, xi, xs, xg⟩ xk i = false) := (show _ = _ by simp [hitB, hi])
          clear hi
          go_wp2_with fail
          go_roundw
          case rel => exact ⟨t + 1, by omega, by go_num, HG.out.1, HN.out HF.out⟩
          case measure => simp [intOf]; omega
      · have ht1 : (xk.toList == k.toList) = false := by rw [tx_eq]; exact decide_eq_false hk
        have HF : Hid (hitB ⟨xk, xi, xs, xg⟩ k i = false) := (show _ = _ by simp [hitB, hk])
        clear hk
        go_wp2_with fail
        go_roundw
        case rel => exact ⟨t + 1, by omega, by go_num, HG.out.1, HN.out HF.out⟩
        case measure => simp [intOf]; omega
    · have htn : t = n := by omega
      have hR0 : R = -1 := by
        rw [← HR.out]
        exact atZ_none fun j hj => HG.out.2 j (by rw [htn, HA.out.1]; exact hj)
      subst hR0
      go_wp2_with fail
      go_ret
      exact ⟨rfl, HG.out.1⟩
end Go.Proofs.Ytagekdmkidbhpaa

import Derived.Test.YtpfbbfbghldmjaaA1
namespace Go.Proofs.Ytpfbbfbghldmjaa
open Go.RowKit Go.Sort Orl
set_option linter.unusedVariables false
set_option linter.unusedSimpArgs false

theorem sl22 : Try.prog.underlying 22 = some (.slice (Try.prog.elem 22)) := by kernel_rfl
theorem sl32 : Try.prog.underlying 32 = some (.slice (Try.prog.elem 32)) := by kernel_rfl
theorem cutT_h (w0 : World) (o : Option Addr) (c : Nat) (xs : List Tx) (n I : Nat) (i : Int) (hi : i = (I : Nat)) (hn : n = xs.length) (hI : I ≤ n) (h : Sl TE w0 o c xs) :
    (∀ w, (Instr.slice 22 (.slice o n c) none (some (.int .i64 i)) none).run Try.prog w = .ok (.slice o I c) w) ∧ Sl TE w0 o c (xs.take I) := by
  subst hi hn
  have hcap := h.cap
  refine ⟨?_, ⟨h.row.take okT I, by rw [List.length_take]; omega, h.nil⟩⟩
  match o, h with
  | none, h =>
    obtain rfl : c = 0 := h.nil rfl
    intro w
    rw [run_slice_h w 22 none _ 0 sl22 .i64 _ (by omega) (by omega)]
    obtain rfl : I = 0 := by omega
    go_simp
  | some ad, h =>
    intro w
    rw [run_slice_h w 22 (some ad) _ c sl22 .i64 _ (by omega) (by omega)]
    go_simp
theorem cutP_h (w0 : World) (o : Option Addr) (c : Nat) (xs : List Pr) (n I : Nat) (i : Int) (hi : i = (I : Nat)) (hn : n = xs.length) (hI : I ≤ n) (h : Sl PE w0 o c xs) :
    (∀ w, (Instr.slice 32 (.slice o n c) none (some (.int .i64 i)) none).run Try.prog w = .ok (.slice o I c) w) ∧ Sl PE w0 o c (xs.take I) := by
  subst hi hn
  have hcap := h.cap
  refine ⟨?_, ⟨h.row.take okP I, by rw [List.length_take]; omega, h.nil⟩⟩
  match o, h with
  | none, h =>
    obtain rfl : c = 0 := h.nil rfl
    intro w
    rw [run_slice_h w 32 none _ 0 sl32 .i64 _ (by omega) (by omega)]
    obtain rfl : I = 0 := by omega
    go_simp
  | some ad, h =>
    intro w
    rw [run_slice_h w 32 (some ad) _ c sl32 .i64 _ (by omega) (by omega)]
    go_simp
def SubO (o A : Option Addr) : Prop := ∀ k, inO A k → inO o k
theorem sub_add (ad : Addr) (I k : Nat) (c : Nat) : SubO (some ad) (some (if c = I then ad else ad.add k)) := by
  rintro x ⟨y, e, rfl⟩
  cases e
  refine ⟨ad, rfl, ?_⟩
  split
  · rfl
  · obtain ⟨b, off, sp⟩ := ad
    simp [Addr.add]
    split <;> rfl
theorem cutT_l (w0 : World) (o : Option Addr) (c : Nat) (xs : List Tx) (n I : Nat) (i : Int) (hi : i = (I : Nat)) (hn : n = xs.length) (hI : I ≤ n) (h : Sl TE w0 o c xs) :
    ∃ A d, (∀ w, (Instr.slice 22 (.slice o n c) (some (.int .i64 i)) none none).run Try.prog w = .ok (.slice A (n - I) d) w) ∧ Sl TE w0 A d (xs.drop I) ∧ SubO o A := by
  subst hi hn
  have hcap := h.cap
  match o, h with
  | none, h =>
    obtain rfl : c = 0 := h.nil rfl
    obtain rfl : I = 0 := by omega
    have h0 : xs = [] := List.length_eq_zero_iff.mp (by omega)
    subst h0
    refine ⟨none, 0, fun w => ?_, ⟨.inl rfl, by simp, fun _ => rfl⟩, fun _ h => h⟩
    rw [run_slice_l w 22 none _ 0 sl22 .i64 _ (by omega) (by simp)]
    go_simp
  | some ad, h =>
    refine ⟨some (if c = I then ad else ad.add I), c - I, fun w => ?_, ⟨h.row.drop okT I (fun hlt b off e => ?_), by rw [List.length_drop]; omega, by simp⟩, sub_add _ _ _ _⟩
    · rw [run_slice_l w 22 (some ad) _ c sl22 .i64 _ (by omega) (by omega)]
      by_cases h : c = I
      · go_simp
      · go_simp
    · cases e
      rw [if_neg (by omega), addr_add]
      simp [TE]
theorem cutP_l (w0 : World) (o : Option Addr) (c : Nat) (xs : List Pr) (n I : Nat) (i : Int) (hi : i = (I : Nat)) (hn : n = xs.length) (hI : I ≤ n) (h : Sl PE w0 o c xs) :
    ∃ A d, (∀ w, (Instr.slice 32 (.slice o n c) (some (.int .i64 i)) none none).run Try.prog w = .ok (.slice A (n - I) d) w) ∧ Sl PE w0 A d (xs.drop I) ∧ SubO o A := by
  subst hi hn
  have hcap := h.cap
  match o, h with
  | none, h =>
    obtain rfl : c = 0 := h.nil rfl
    obtain rfl : I = 0 := by omega
    have h0 : xs = [] := List.length_eq_zero_iff.mp (by omega)
    subst h0
    refine ⟨none, 0, fun w => ?_, ⟨.inl rfl, by simp, fun _ => rfl⟩, fun _ h => h⟩
    rw [run_slice_l w 32 none _ 0 sl32 .i64 _ (by omega) (by simp)]
    go_simp
  | some ad, h =>
    refine ⟨some (if c = I then ad else ad.add (I * 2)), c - I, fun w => ?_, ⟨h.row.drop okP I (fun hlt b off e => ?_), by rw [List.length_drop]; omega, by simp⟩, sub_add _ _ _ _⟩
    · rw [run_slice_l w 32 (some ad) _ c sl32 .i64 _ (by omega) (by omega)]
      by_cases h : c = I
      · go_simp
      · go_simp
    · cases e
      rw [if_neg (by omega), addr_add]
      simp [PE]

/-! ### taken -/
theorem taken_yes (w : World) (oa : Option Addr) (na ca : Nat) (out : List Tx) (hna : na = out.length) (hown : Own TE w oa ca out) (a : Option Addr) (n c : Nat) (xs : List Tx) (hn : n = xs.length) (hs : Sl TE w a c xs) (hb : Small out) (hb2 : Small xs) :
    Calls Try.prog 47 #[.slice oa na ca, .slice a n c, .bool true] w fun e w' => ∃ o' c', e = .returned (.slice o' (out ++ xs).length c') ∧ Own TE w' o' c' (out ++ xs) ∧ Ap w oa o' w' := by
  have HN : Hid (n = xs.length) := hn
  have HA : Hid (na = out.length) := hna
  unfold Small at hb hb2
  have hb' : Hid (out.length ≤ 100000 ∧ xs.length ≤ 100000) := ⟨hb, hb2⟩
  clear hn hna hb hb2
  go_enter Try.func47, Try.ntmps47
  go_wp2_with (at_builtin; refine wpList_app okT rfl _ _ rfl _ _ _ out rfl HA.out hown _ _ _ xs rfl HN.out hs.nil hs.row (by have := hb'.out; simp [TE]; omega) (by have := hb'.out; omega) ?_; intro o' c' w' ho hap)
  go_ret
  exact ⟨o', c', by simp [HN.out, HA.out], ho, hap⟩
theorem taken_no (w : World) (oa : Option Addr) (na ca : Nat) (v : Value) :
    Calls Try.prog 47 #[.slice oa na ca, v, .bool false] w fun e w' => e = .returned (.slice oa na ca) ∧ w' = w := by
  go_enter Try.func47, Try.ntmps47
  go_wp2
  go_ret
  exact ⟨rfl, rfl⟩
theorem taken_any (t : Bool) (w : World) (oa : Option Addr) (na ca : Nat) (out : List Tx) (hna : na = out.length) (hown : Own TE w oa ca out) (a : Option Addr) (n c : Nat) (xs : List Tx) (hn : n = xs.length) (hs : Sl TE w a c xs) (hb : Small out) (hb2 : Small xs) :
    Calls Try.prog 47 #[.slice oa na ca, .slice a n c, .bool t] w fun e w' => ∃ o' n' c', e = .returned (.slice o' n' c') ∧ Hid (n' = (out ++ opt t xs).length) ∧ Own TE w' o' c' (out ++ opt t xs) ∧ Ap w oa o' w' := by
  cases t
  · refine (taken_no w oa na ca _).mono ?_
    rintro e w' ⟨rfl, rfl⟩
    exact ⟨oa, na, ca, rfl, by show na = _; simpa [opt] using hna, by simpa [opt] using hown, .inl ⟨rfl, Keeps.refl _ _⟩⟩
  · refine (taken_yes w oa na ca out hna hown a n c xs hn hs hb hb2).mono ?_
    rintro e w' ⟨o', c', rfl, ho, hap⟩
    exact ⟨o', _, c', rfl, by show _ = _; simp [opt], by simpa [opt] using ho, hap⟩

/-! ### in -/
def inn (xs : List Tx) (s : Tx) : Bool := xs.any fun x => decide (x = s)
theorem inn_iff (xs : List Tx) (s : Tx) : inn xs s = true ↔ s ∈ xs := by
  unfold inn
  simp only [List.any_eq_true, decide_eq_true_eq]
  exact ⟨fun ⟨x, hx, e⟩ => e ▸ hx, fun h => ⟨s, h, rfl⟩⟩
theorem inn_no {xs : List Tx} {s : Tx} (h : s ∉ xs) : inn xs s = false := by
  cases e : inn xs s with
  | false => rfl
  | true => exact absurd ((inn_iff xs s).1 e) h
set_option maxRecDepth 10000 in
theorem in_any (w : World) (a : Option Addr) (n c : Nat) (xs : List Tx) (s : Tx) (hn : n = xs.length) (hl : Small xs) (hs : Sl TE w a c xs) :
    Calls Try.prog 44 #[.slice a n c, .string s] w fun e w' => e = .returned (.bool (inn xs s)) ∧ w' = w := by
  have HA : Hid (n = xs.length) := hn
  have hA : (n : Int) ≤ 100000 := by unfold Small at hl; omega
  clear hn hl
  obtain ⟨R, hR⟩ : ∃ R, inn xs s = R := ⟨_, rfl⟩
  have HR : Hid (inn xs s = R) := hR
  rw [hR]
  clear hR
  go_enter Try.func44, Try.ntmps44
  go_wp2_with fail
  go_loop [5] (fun i => ∃ k : Nat, k ≤ n ∧ i = .int .i64 k ∧ Hid (s ∉ xs.take k)) (fun i => n - (intOf i).toNat)
  case atStart => exact ⟨0, by omega, rfl, show s ∉ xs.take 0 by simp⟩
  case round =>
    obtain ⟨k, hk, rfl, HT⟩ := hrel
    by_cases h2 : k < n
    · have hka : k < xs.length := by have := HA.out; omega
      obtain ⟨b1, off1, rfl, d1⟩ := hs.at hka
      obtain ⟨x, hx⟩ : ∃ x, x = xs.getD k e0 := ⟨_, rfl⟩
      rw [← hx] at d1
      have HX : Hid (x = xs.getD k e0) := hx
      clear hx hka
      by_cases hxy : x = s
      · have hxy' : (x.toList == s.toList) = true := by rw [tx_eq]; simpa using hxy
        go_wp2
        go_ret
        refine ⟨?_, rfl⟩
        have : s ∈ xs := by
          rw [← hxy, HX.out]; exact getD_mem_lt _ (by have := HA.out; omega)
        rw [← HR.out, (inn_iff xs s).2 this]; rfl
      · have hxy' : (x.toList == s.toList) = false := by rw [tx_eq]; simpa using hxy
        go_wp2
        go_round
        case rel =>
          refine ⟨k + 1, by omega, by go_num, ?_⟩
          show s ∉ xs.take (k + 1)
          rw [take_succ_getD xs k e0 (by have := HA.out; omega), ← HX.out]
          have := HT.out
          simp only [List.mem_append, List.mem_singleton, not_or]
          exact ⟨this, fun e => hxy e.symm⟩
        case measure => simp [intOf]; omega
    · go_wp2
      go_ret
      refine ⟨?_, rfl⟩
      have := HT.out
      rw [List.take_of_length_le (by have := HA.out; omega)] at this
      rw [← HR.out, inn_no this]; rfl
end Go.Proofs.Ytpfbbfbghldmjaa

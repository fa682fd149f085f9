import Derived.Test.YtjklpcamlppegaaGreatA1
namespace Go.Proofs.YtjklpcamlppegaaGreat
open Go.RowKit Go.Sort Orl
set_option linter.unusedVariables false
set_option linter.unusedSimpArgs false

theorem slT : Tryz.prog.underlying 25 = some (.slice (Tryz.prog.elem 25)) := by kernel_rfl
theorem slP : Tryz.prog.underlying 24 = some (.slice (Tryz.prog.elem 24)) := by kernel_rfl
theorem cutT_h (w0 : World) (o : Option Addr) (c : Nat) (xs : List Tx) (n I : Nat) (i : Int) (hi : i = (I : Nat)) (hn : n = xs.length) (hI : I ≤ n) (h : Sl TE w0 o c xs) :
    (∀ w, (Instr.slice 25 (.slice o n c) none (some (.int .i64 i)) none).run Tryz.prog w = .ok (.slice o I c) w) ∧ Sl TE w0 o c (xs.take I) := by
  subst hi hn
  have hcap := h.cap
  refine ⟨?_, ⟨h.row.take okT I, by rw [List.length_take]; omega, h.nil⟩⟩
  match o, h with
  | none, h =>
    obtain rfl : c = 0 := h.nil rfl
    intro w
    rw [run_slice_h w 25 none _ 0 slT .i64 _ (by omega) (by omega)]
    obtain rfl : I = 0 := by omega
    go_simp
  | some ad, h =>
    intro w
    rw [run_slice_h w 25 (some ad) _ c slT .i64 _ (by omega) (by omega)]
    go_simp
theorem cutP_h (w0 : World) (o : Option Addr) (c : Nat) (xs : List Pr) (n I : Nat) (i : Int) (hi : i = (I : Nat)) (hn : n = xs.length) (hI : I ≤ n) (h : Sl PE w0 o c xs) :
    (∀ w, (Instr.slice 24 (.slice o n c) none (some (.int .i64 i)) none).run Tryz.prog w = .ok (.slice o I c) w) ∧ Sl PE w0 o c (xs.take I) := by
  subst hi hn
  have hcap := h.cap
  refine ⟨?_, ⟨h.row.take okP I, by rw [List.length_take]; omega, h.nil⟩⟩
  match o, h with
  | none, h =>
    obtain rfl : c = 0 := h.nil rfl
    intro w
    rw [run_slice_h w 24 none _ 0 slP .i64 _ (by omega) (by omega)]
    obtain rfl : I = 0 := by omega
    go_simp
  | some ad, h =>
    intro w
    rw [run_slice_h w 24 (some ad) _ c slP .i64 _ (by omega) (by omega)]
    go_simp
def SubO (o A : Option Addr) : Prop := ∀ k, inO A k → inO o k
theorem sub_add (ad : Addr) (I k : Nat) (c : Nat) : SubO (some ad) (some (if c = I then ad else ad.add k)) := by
  rintro x ⟨y, e, rfl⟩
  cases e
  refine ⟨ad, rfl, ?_⟩
  split
  · rfl
  · obtain ⟨b, off, sp⟩ := ad
    simp [Addr.add]
    split <;> rfl
theorem cutT_l (w0 : World) (o : Option Addr) (c : Nat) (xs : List Tx) (n I : Nat) (i : Int) (hi : i = (I : Nat)) (hn : n = xs.length) (hI : I ≤ n) (h : Sl TE w0 o c xs) :
    ∃ A d, (∀ w, (Instr.slice 25 (.slice o n c) (some (.int .i64 i)) none none).run Tryz.prog w = .ok (.slice A (n - I) d) w) ∧ Sl TE w0 A d (xs.drop I) ∧ SubO o A := by
  subst hi hn
  have hcap := h.cap
  match o, h with
  | none, h =>
    obtain rfl : c = 0 := h.nil rfl
    obtain rfl : I = 0 := by omega
    have h0 : xs = [] := List.length_eq_zero_iff.mp (by omega)
    subst h0
    refine ⟨none, 0, fun w => ?_, ⟨.inl rfl, by simp, fun _ => rfl⟩, fun _ h => h⟩
    rw [run_slice_l w 25 none _ 0 slT .i64 _ (by omega) (by simp)]
    go_simp
  | some ad, h =>
    refine ⟨some (if c = I then ad else ad.add I), c - I, fun w => ?_, ⟨h.row.drop okT I (fun hlt b off e => ?_), by rw [List.length_drop]; omega, by simp⟩, sub_add _ _ _ _⟩
    · rw [run_slice_l w 25 (some ad) _ c slT .i64 _ (by omega) (by omega)]
      by_cases h : c = I
      · go_simp
      · go_simp
    · cases e
      rw [if_neg (by omega), addr_add]
      simp [TE]
theorem cutP_l (w0 : World) (o : Option Addr) (c : Nat) (xs : List Pr) (n I : Nat) (i : Int) (hi : i = (I : Nat)) (hn : n = xs.length) (hI : I ≤ n) (h : Sl PE w0 o c xs) :
    ∃ A d, (∀ w, (Instr.slice 24 (.slice o n c) (some (.int .i64 i)) none none).run Tryz.prog w = .ok (.slice A (n - I) d) w) ∧ Sl PE w0 A d (xs.drop I) ∧ SubO o A := by
  subst hi hn
  have hcap := h.cap
  match o, h with
  | none, h =>
    obtain rfl : c = 0 := h.nil rfl
    obtain rfl : I = 0 := by omega
    have h0 : xs = [] := List.length_eq_zero_iff.mp (by omega)
    subst h0
    refine ⟨none, 0, fun w => ?_, ⟨.inl rfl, by simp, fun _ => rfl⟩, fun _ h => h⟩
    rw [run_slice_l w 24 none _ 0 slP .i64 _ (by omega) (by simp)]
    go_simp
  | some ad, h =>
    refine ⟨some (if c = I then ad else ad.add (I * 2)), c - I, fun w => ?_, ⟨h.row.drop okP I (fun hlt b off e => ?_), by rw [List.length_drop]; omega, by simp⟩, sub_add _ _ _ _⟩
    · rw [run_slice_l w 24 (some ad) _ c slP .i64 _ (by omega) (by omega)]
      by_cases h : c = I
      · go_simp
      · go_simp
    · cases e
      rw [if_neg (by omega), addr_add]
      simp [PE]

/-! ### taken -/
theorem taken_yes (w : World) (oa : Option Addr) (na ca : Nat) (out : List Tx) (hna : na = out.length) (hown : Own TE w oa ca out) (a : Option Addr) (n c : Nat) (xs : List Tx) (hn : n = xs.length) (hs : Sl TE w a c xs) (hb : Small out) (hb2 : Small xs) :
    Calls Tryz.prog 112 #[.slice oa na ca, .slice a n c, .bool true] w fun e w' => ∃ o' c', e = .returned (.slice o' (out ++ xs).length c') ∧ Own TE w' o' c' (out ++ xs) ∧ Ap w oa o' w' := by
  have HN : Hid (n = xs.length) := hn
  have HA : Hid (na = out.length) := hna
  unfold Small at hb hb2
  have hb' : Hid (out.length ≤ 100000 ∧ xs.length ≤ 100000) := ⟨hb, hb2⟩
  clear hn hna hb hb2
  go_enter Tryz.func112, Tryz.ntmps112
  go_wp2_with (at_builtin; refine wpList_app okT rfl _ _ rfl _ _ _ out rfl HA.out hown _ _ _ xs rfl HN.out hs.nil hs.row (by have := hb'.out; simp [TE]; omega) (by have := hb'.out; omega) ?_; intro o' c' w' ho hap)
  go_ret
  exact ⟨o', c', by simp [HN.out, HA.out], ho, hap⟩
theorem taken_no (w : World) (oa : Option Addr) (na ca : Nat) (v : Value) :
    Calls Tryz.prog 112 #[.slice oa na ca, v, .bool false] w fun e w' => e = .returned (.slice oa na ca) ∧ w' = w := by
  go_enter Tryz.func112, Tryz.ntmps112
  go_wp2
  go_ret
  exact ⟨rfl, rfl⟩
theorem taken_any (t : Bool) (w : World) (oa : Option Addr) (na ca : Nat) (out : List Tx) (hna : na = out.length) (hown : Own TE w oa ca out) (a : Option Addr) (n c : Nat) (xs : List Tx) (hn : n = xs.length) (hs : Sl TE w a c xs) (hb : Small out) (hb2 : Small xs) :
    Calls Tryz.prog 112 #[.slice oa na ca, .slice a n c, .bool t] w fun e w' => ∃ o' n' c', e = .returned (.slice o' n' c') ∧ Hid (n' = (out ++ opt t xs).length) ∧ Own TE w' o' c' (out ++ opt t xs) ∧ Ap w oa o' w' := by
  cases t
  · refine (taken_no w oa na ca _).mono ?_
    rintro e w' ⟨rfl, rfl⟩
    exact ⟨oa, na, ca, rfl, by show na = _; simpa [opt] using hna, by simpa [opt] using hown, .inl ⟨rfl, Keeps.refl _ _⟩⟩
  · refine (taken_yes w oa na ca out hna hown a n c xs hn hs hb hb2).mono ?_
    rintro e w' ⟨o', c', rfl, ho, hap⟩
    exact ⟨o', _, c', rfl, by show _ = _; simp [opt], by simpa [opt] using ho, hap⟩

/-! ### in -/
def inn (xs : List Tx) (s : Tx) : Bool := xs.any fun x => decide (x = s)
theorem inn_iff (xs : List Tx) (s : Tx) : inn xs s = true ↔ s ∈ xs := by
  unfold inn
  simp only [List.any_eq_true, decide_eq_true_eq]
  exact ⟨fun ⟨x, hx, e⟩ => e ▸ hx, fun h => ⟨s, h, rfl⟩⟩
theorem inn_no {xs : List Tx} {s : Tx} (h : s ∉ xs) : inn xs s = false := by
  cases e : inn xs s with
  | false => rfl
  | true => exact absurd ((inn_iff xs s).1 e) h
end Go.Proofs.YtjklpcamlppegaaGreat

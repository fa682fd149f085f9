import Derived.Test.YtbkfalaicocopaaDoorOwn
namespace Go.Proofs.YtbkfalaicocopaaDoor
open Go.RowKit
open Crc
set_option linter.unusedVariables false
theorem rest_any (n : Int) (m : Nat) (w : World) (h1 : -9223372036854775808 ≤ n) (h2 : n ≤ 9223372036854775807) (hm : m ≤ 140737488351232000) :
    Calls Tryd.prog 11 #[.int .i64 n, .int .i64 (m : Nat)] w fun e w' => (∃ r : Nat, r ≤ m ∧ e = .returned (.int .i64 (r : Nat))) ∧ w = w' := by
  go_enter Tryd.func11, Tryd.ntmps11
  go_wp2
  go_ret
  have e1 : IntKind.u64.wrap n = n % 18446744073709551616 := IntKind.wrap_u64 n
  have e2 : (n % 18446744073709551616).tmod ((m : Int) + 1) = (n % 18446744073709551616) % ((m : Int) + 1) := Int.tmod_eq_emod_of_nonneg (by omega)
  have b1 : 0 ≤ (n % 18446744073709551616) % ((m : Int) + 1) := Int.emod_nonneg _ (by omega)
  have b2 : (n % 18446744073709551616) % ((m : Int) + 1) < (m : Int) + 1 := Int.emod_lt_of_pos _ (by omega)
  refine ⟨⟨((n % 18446744073709551616) % ((m : Int) + 1)).toNat, by omega, ?_⟩, rfl⟩
  show Ending.returned (.int .i64 (wrap64 ((IntKind.u64.wrap n).tmod ((m : Int) + 1)))) = _
  rw [e1, e2, IntWalk.wrap64_in _ ⟨by omega, by omega⟩]
  congr 2
  omega

theorem Row.later {w w' : World} {a : Option Addr} {bs : List Nat} (h : Row w a bs) (hb : Below w.heap.size w w') : Row w' a bs := by
  obtain ⟨h1, h2, h3⟩ := h
  refine ⟨h1, h2, ?_⟩
  rcases h3 with h | ⟨b, off, rfl, hc⟩
  · exact .inl h
  · exact .inr ⟨b, off, rfl, fun j hj => cell_later hb (hc j hj)⟩

theorem Row.take {w : World} {a : Option Addr} {bs : List Nat} (h : Row w a bs) (n : Nat) : Row w a (bs.take n) := by
  obtain ⟨h1, h2, h3⟩ := h
  refine ⟨fun c hc => h1 c (List.mem_of_mem_take hc), by rw [List.length_take]; omega, ?_⟩
  rcases h3 with h | ⟨b, off, rfl, hc⟩
  · exact .inl (by rw [h]; simp)
  · refine .inr ⟨b, off, rfl, fun j hj => ?_⟩
    have hj1 : j < n ∧ j < bs.length := by rw [List.length_take] at hj; omega
    have := hc j hj1.2
    simp only [List.getD_eq_getElem?_getD] at this ⊢
    rw [List.getElem?_take_of_lt hj1.1]
    exact this

theorem Row.drop {w : World} {a a' : Option Addr} {bs : List Nat} (h : Row w a bs) (n : Nat) (hadr : n < bs.length → ∀ b off, a = some ⟨b, off, none⟩ → a' = some ⟨b, off + n, none⟩) : Row w a' (bs.drop n) := by
  obtain ⟨h1, h2, h3⟩ := h
  refine ⟨fun c hc => h1 c (List.mem_of_mem_drop hc), by rw [List.length_drop]; omega, ?_⟩
  by_cases hn : n < bs.length
  · rcases h3 with h | ⟨b, off, rfl, hc⟩
    · rw [h] at hn; simp at hn
    · refine .inr ⟨b, off + n, hadr hn b off rfl, fun j hj => ?_⟩
      have hj1 : n + j < bs.length := by rw [List.length_drop] at hj; omega
      have := hc (n + j) hj1
      rw [← Nat.add_assoc] at this
      simp only [List.getD_eq_getElem?_getD] at this ⊢
      rw [List.getElem?_drop]
      exact this
  · exact .inl (List.drop_eq_nil_of_le (by omega))

theorem own_to (w : World) (a : Option Addr) (bs : List Nat) (n cap : Nat) (hn : n = bs.length) (hr : Row w a bs) (hnil : a = none → cap = 0) (hlen : bs.length ≤ 140737488351232) :
    Calls Tryd.prog 12 #[.slice a n cap] w fun e w' => ∃ g c, e = .returned (.slice (some ⟨g, 0, none⟩) n c) ∧ w.heap.size ≤ g ∧ Mine w.heap.size w' g c bs ∧ Below w.heap.size w w' := by
  subst hn
  exact own_any w a bs cap hr hnil hlen

theorem sl25 : Tryd.prog.underlying 25 = some (.slice (Tryd.prog.elem 25)) := by kernel_rfl
theorem cut_lh (ad : Addr) (n cap I J : Nat) (hIJ : I + J ≤ cap) : ∃ A : Addr, (∀ w, (Instr.slice 25 (.slice (some ad) n cap) (some (.int .i64 (I : Nat))) (some (.int .i64 ((I : Int) + (J : Int)))) none).run Tryd.prog w = .ok (.slice (some A) J (cap - I)) w) ∧ (I < cap → A = ad.add I) := by
  refine ⟨if cap = I then ad else ad.add I, fun w => ?_, fun h => by rw [if_neg (by omega)]⟩
  rw [run_slice_lh w 25 (some ad) n cap sl25 .i64 .i64 _ _ (by omega) (by omega) (by omega)]
  have e : ((I : Int) + (J : Int)).toNat - I = J := by omega
  by_cases h : cap = I
  · go_simp
  · go_simp
theorem cut_l (ad : Addr) (n cap I J : Nat) (hIJ : I + J ≤ n) (hn : n ≤ cap) : ∃ A : Addr, (∀ w, (Instr.slice 25 (.slice (some ad) n cap) (some (.int .i64 ((I : Int) + (J : Int)))) none none).run Tryd.prog w = .ok (.slice (some A) (n - (I + J)) (cap - (I + J))) w) ∧ (I + J < cap → A = ad.add (I + J)) := by
  refine ⟨if cap = I + J then ad else ad.add (I + J), fun w => ?_, fun h => by rw [if_neg (by omega)]⟩
  rw [run_slice_l w 25 (some ad) n cap sl25 .i64 _ (by omega) (by omega)]
  have e : ((I : Int) + (J : Int)).toNat = I + J := by omega
  by_cases h : cap = I + J
  · go_simp
  · go_simp

theorem cut_h (ad : Addr) (n cap I : Nat) (hI : I ≤ cap) (w : World) : (Instr.slice 25 (.slice (some ad) n cap) none (some (.int .i64 (I : Nat))) none).run Tryd.prog w = .ok (.slice (some ad) I cap) w := by
  rw [run_slice_h w 25 (some ad) n cap sl25 .i64 _ (by omega) (by omega)]
  go_simp

/-- The three cuts of a slice, nil or not: what they are, and what lies there. -/
theorem cut_h_any (a : Option Addr) (n cap I : Nat) (hI : I ≤ n) (hn : n ≤ cap) (hnil : a = none → cap = 0) :
    ∃ A c, (∀ w, (Instr.slice 25 (.slice a n cap) none (some (.int .i64 (I : Nat))) none).run Tryd.prog w = .ok (.slice A I c) w) ∧ Hid (∀ w bs, bs.length = n → Row w a bs → Row w A (bs.take I)) ∧ (A = none → c = 0) := by
  match a with
  | none =>
    obtain rfl : cap = 0 := hnil rfl
    obtain rfl : n = 0 := by omega
    obtain rfl : I = 0 := by omega
    refine ⟨none, 0, fun w => ?_, fun w bs _ h => h.take 0, fun _ => rfl⟩
    rw [run_slice_h w 25 none 0 0 sl25 .i64 _ (by omega) (by omega)]
    go_simp
  | some ad => exact ⟨some ad, cap, cut_h ad n cap I (by omega), fun w bs _ h => h.take I, by simp⟩

theorem cut_lh_any (a : Option Addr) (n cap I J : Nat) (hIJ : I + J ≤ n) (hn : n ≤ cap) (hnil : a = none → cap = 0) :
    ∃ A c, (∀ w, (Instr.slice 25 (.slice a n cap) (some (.int .i64 (I : Nat))) (some (.int .i64 ((I : Int) + (J : Int)))) none).run Tryd.prog w = .ok (.slice A J c) w) ∧ Hid (∀ w bs, bs.length = n → Row w a bs → Row w A ((bs.drop I).take J)) ∧ (A = none → c = 0) := by
  match a with
  | none =>
    obtain rfl : cap = 0 := hnil rfl
    obtain rfl : n = 0 := by omega
    obtain ⟨rfl, rfl⟩ : I = 0 ∧ J = 0 := by omega
    refine ⟨none, 0, fun w => ?_, fun w bs _ h => h.take 0, fun _ => rfl⟩
    rw [run_slice_lh w 25 none 0 0 sl25 .i64 .i64 _ _ (by omega) (by omega) (by omega)]
    go_simp
  | some ad =>
    obtain ⟨A, h1, h2⟩ := cut_lh ad n cap I J (by omega)
    exact ⟨some A, cap - I, h1, fun w bs hl h => (Row.drop h I (fun hlt b off e => by cases e; rw [h2 (by omega), addr_add])).take J, by simp⟩

theorem cut_l_any (a : Option Addr) (n cap I J : Nat) (hIJ : I + J ≤ n) (hn : n ≤ cap) (hnil : a = none → cap = 0) :
    ∃ A c, (∀ w, (Instr.slice 25 (.slice a n cap) (some (.int .i64 ((I : Int) + (J : Int)))) none none).run Tryd.prog w = .ok (.slice A (n - (I + J)) c) w) ∧ Hid (∀ w bs, bs.length = n → Row w a bs → Row w A (bs.drop (I + J))) ∧ (A = none → c = 0) := by
  match a with
  | none =>
    obtain rfl : cap = 0 := hnil rfl
    obtain rfl : n = 0 := by omega
    obtain ⟨rfl, rfl⟩ : I = 0 ∧ J = 0 := by omega
    refine ⟨none, 0, fun w => ?_, fun w bs _ h => h.drop 0 (fun _ b off e => by cases e), fun _ => rfl⟩
    rw [run_slice_l w 25 none 0 0 sl25 .i64 _ (by omega) (by omega)]
    go_simp
  | some ad =>
    obtain ⟨A, h1, h2⟩ := cut_l ad n cap I J (by omega) hn
    exact ⟨some A, cap - (I + J), h1, fun w bs hl h => Row.drop h (I + J) (fun hlt b off e => by cases e; rw [h2 (by omega), addr_add]), by simp⟩

theorem Mine.later {base g c : Nat} {w w' : World} {bs : List Nat} (h : Mine base w g c bs) (hb : Below w.heap.size w w') : Mine base w' g c bs := by
  obtain ⟨h1, h2⟩ := h
  refine ⟨h1, ?_⟩
  rcases h2 with h | ⟨g', cap', cur, e, hbg, hh, hrest⟩
  · exact .inl h
  · refine .inr ⟨g', cap', cur, e, hbg, ?_, hrest⟩
    have hl : g' < w.heap.size := by
      rcases Nat.lt_or_ge g' w.heap.size with h | h
      · exact h
      · rw [Array.getElem?_eq_none h] at hh; cases hh
    rw [hb.block g' hl]
    exact hh

theorem sum_to (bs : List Nat) (v : Nat) (n : Nat) (hn : n = bs.length) (hv : v = sum bs) (a : Option Addr) (cap : Nat) (w : World) (ht : TabIn w) (hr : Row w a bs) :
    Calls Tryd.prog 10 #[.slice a n cap] w fun e w' => e = .returned (.int .u32 (v : Nat)) ∧ w = w' := by
  subst hn hv
  exact (sum_any a bs cap w ht hr).mono fun _ _ ⟨he, hw⟩ => ⟨he, hw.symm⟩
theorem update_to (s : Nat) (bs : List Nat) (v : Nat) (n : Nat) (hn : n = bs.length) (hv : v = update s bs) (hs : s < 4294967296) (a : Option Addr) (cap : Nat) (w : World) (ht : TabIn w) (hr : Row w a bs) :
    Calls Tryd.prog 9 #[.int .u32 (s : Nat), .slice a n cap] w fun e w' => e = .returned (.int .u32 (v : Nat)) ∧ w = w' := by
  subst hn hv
  exact (update_any s a bs cap hs w ht hr).mono fun _ _ ⟨he, hw⟩ => ⟨he, hw.symm⟩
theorem join_to (a b v : Nat) (n : Int) (hv : join a b n.toNat = v) (ha : a < 4294967296) (hb : b < 4294967296) (hn : n < 9223372036854775808) (hn' : -9223372036854775808 ≤ n) (w : World) (ht : TabIn w) :
    Calls Tryd.prog 8 #[.int .u32 (a : Nat), .int .u32 (b : Nat), .int .i64 n] w fun e w' => e = .returned (.int .u32 (v : Nat)) ∧ w = w' := by
  subst hv
  exact (join_any a b n ha hb hn hn' w ht).mono fun _ _ ⟨he, hw⟩ => ⟨he, hw.symm⟩
theorem hash_to (bs : List Nat) (v : Nat) (hby : ∀ c ∈ bs, c < 256) (hl : bs.length ≤ 9223372036854775807) (hv : v = fnv 14695981039346656037 bs) (w : World) :
    Calls Tryd.prog 14 #[.string (text bs)] w fun e w' => e = .returned (.int .u64 (v : Nat)) ∧ w' = w := by
  subst hv
  have := hash_any (text bs) w (by rw [size_text]; unfold maxLen; omega)
  rw [nats_text bs hby] at this
  exact this
theorem feed_to (h : Nat) (bs : List Nat) (v : Nat) (hh : h < 18446744073709551616) (hby : ∀ c ∈ bs, c < 256) (hl : bs.length ≤ 9223372036854775807) (hv : v = fnv h bs) (w : World) :
    Calls Tryd.prog 13 #[.int .u64 (h : Nat), .string (text bs)] w fun e w' => e = .returned (.int .u64 (v : Nat)) ∧ w' = w := by
  subst hv
  have := feed_any h (text bs) hh w (by rw [size_text]; unfold maxLen; omega)
  rw [nats_text bs hby] at this
  exact this
end Go.Proofs.YtbkfalaicocopaaDoor

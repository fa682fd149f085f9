import Derived.Test.YtagekdmkidbhpaaGreatOf
/- Latest. -/
namespace Go.Proofs.YtagekdmkidbhpaaGreat
open Go.RowKit Go.Maps Go.Sort Orl
set_option linter.unusedVariables false
set_option linter.unusedSimpArgs false
theorem latest_none (w : World) (p : Nat) (T : Nat → Option Ro) (s : St) (N : Nat) (k : Tx) (h : IsS w p T s N) (hk : k.size ≤ maxLen) (hk2 : k.size ≤ 281474976710656) (hl : s.last k < 18446744073709551616) (hv : s.V (k, s.last k) = none) :
    Calls Tryz.prog 18 #[.pointer (some ⟨p, 0, none⟩), .string k] w fun e w' => e = .returned (.agg #[.string k, .int .u64 0, .string ⟨#[]⟩, .slice none 0 0]) ∧ Keeps no w w' := by
  obtain ⟨w0, hw0⟩ : ∃ w0, w0 = w.alloc (.cells #[.string ⟨#[]⟩, .int .u64 0, .string ⟨#[]⟩, .slice none 0 0] 45) := ⟨_, rfl⟩
  have hk0 : Keeps no w w0 := by rw [hw0]; exact (Keeps.refl no w).alloc _
  have h1 := last_any w0 p T s N k (h.keepsN hk0) hk
  have h2 := byID_none w0 p T s N k (s.last k) (h.keepsN hk0) ⟨hk, hl⟩ hv
  have hb : w0.heap[w.heap.size]? = some (.cells #[.string ⟨#[]⟩, .int .u64 0, .string ⟨#[]⟩, .slice none 0 0] 45 (0, 0)) := by rw [hw0]; exact blk_new w _
  have HB : Hid (w0.heap[w.heap.size]? = some (.cells #[.string ⟨#[]⟩, .int .u64 0, .string ⟨#[]⟩, .slice none 0 0] 45 (0, 0))) := hb
  have HK0 : Hid (Keeps no w w0) := hk0
  have HK2 : Hid (k.size ≤ 281474976710656) := hk2
  generalize s.last k = i at h1 h2
  rw [hw0] at h1 h2 HB HK0
  clear h hv hw0 hk0 hb hk hk2 hl
  go_enter Tryz.func18, Tryz.ntmps18
  go_wp2_with fail
  refine h1.mono ?_
  rintro e w1 ⟨rfl, hw⟩
  subst w1
  go_wp2_with fail
  refine h2.mono ?_
  rintro e w2 ⟨rfl, hk2⟩
  have HB2 : Hid (w2.heap[w.heap.size]? = some (.cells #[.string ⟨#[]⟩, .int .u64 0, .string ⟨#[]⟩, .slice none 0 0] 45 (0, 0))) := hk2.at HB.out id
  have HKa : Hid (Keeps no w w2) := HK0.out.trans hk2
  clear hk2 h1 h2 HB HK0
  go_wp2_with fail
  refine (sclone_any _ k HK2.out).mono ?_
  rintro e w3 ⟨rfl, hk3⟩
  have hb := hk3.at (blk_alloc HB2.out _) id
  have HB3 : Hid (w3.heap[w.heap.size]? = some (.cells #[.string ⟨#[]⟩, .int .u64 0, .string ⟨#[]⟩, .slice none 0 0] 45 (0, 0))) := hb
  have HKb : Hid (Keeps no w w3) := (HKa.out.alloc _).trans hk3
  have q0 := cell_of_blk hb 0
  have q1 := cell_of_blk hb 1
  have q2 := cell_of_blk hb 2
  have q3 := cell_of_blk hb 3
  have f0 := frozen_of_blk hb 0
  have f1 := frozen_of_blk hb 1
  have f2 := frozen_of_blk hb 2
  have f3 := frozen_of_blk hb 3
  clear hb hk3 HKa HB2
  go_wp2_with fail
  have hs4 := set4 HB3.out (.string k) (.int .u64 0) (.string ⟨#[]⟩) (.slice none 0 0)
  unfold set4w at hs4
  refine bodyPost_ret (results_row1 rfl _ _ w.heap.size _ rfl (loadV hs4.1)) rfl ?_
  exact ⟨rfl, HKb.out.then hs4.2 (fun b hb => .inr (by have : b = w.heap.size := hb; omega))⟩
set_option maxRecDepth 10000 in
theorem latest_some (w : World) (p : Nat) (T : Nat → Option Ro) (s : St) (N : Nat) (k : Tx) (v : Vr) (h : IsS w p T s N) (hv : s.V (k, s.last k) = some v) (hok : OkV s) :
    Calls Tryz.prog 18 #[.pointer (some ⟨p, 0, none⟩), .string k] w fun e w' => ∃ u, e = .returned u ∧ Tv w u (k, s.last k) v w' := by
  obtain ⟨w0, hw0⟩ : ∃ w0, w0 = w.alloc (.cells #[.string ⟨#[]⟩, .int .u64 0, .string ⟨#[]⟩, .slice none 0 0] 45) := ⟨_, rfl⟩
  have hk0 : Keeps no w w0 := by rw [hw0]; exact (Keeps.refl no w).alloc _
  have hks : k.size ≤ 65535 := hok.size hv
  have h1 := last_any w0 p T s N k (h.keepsN hk0) (by unfold maxLen; omega)
  have h2 := byID_some w0 p T s N k (s.last k) v (h.keepsN hk0) hv hok
  have hb : w0.heap[w.heap.size]? = some (.cells #[.string ⟨#[]⟩, .int .u64 0, .string ⟨#[]⟩, .slice none 0 0] 45 (0, 0)) := by rw [hw0]; exact blk_new w _
  have HB : Hid (w0.heap[w.heap.size]? = some (.cells #[.string ⟨#[]⟩, .int .u64 0, .string ⟨#[]⟩, .slice none 0 0] 45 (0, 0))) := hb
  have HK0 : Hid (Keeps no w w0) := hk0
  generalize s.last k = i at h1 h2 ⊢
  rw [hw0] at h1 h2 HB HK0
  clear h hv hw0 hk0 hb hks hok
  go_enter Tryz.func18, Tryz.ntmps18
  go_wp2_with fail
  refine h1.mono ?_
  rintro e w1 ⟨rfl, hw⟩
  subst w1
  go_wp2_with fail
  refine h2.mono ?_
  rintro e w2 ⟨u, rfl, o, n, c, rfl, hn, ho, hnw, hk2⟩
  have hbb := blk_new w2 (.cells #[.string k, .int .u64 ((i : Nat) : Int), .string v.val, .slice o n c] 45)
  have hb := blk_alloc (hk2.at HB.out id) (.cells #[.string k, .int .u64 ((i : Nat) : Int), .string v.val, .slice o n c] 45)
  have HB2 : Hid (_ = some (Obj.cells #[.string ⟨#[]⟩, .int .u64 0, .string ⟨#[]⟩, .slice none 0 0] 45 (0, 0))) := hb
  have HKa : Hid (Keeps no w w2 ∧ Own TE w2 o c v.keys ∧ New w o ∧ n = v.keys.length) := ⟨HK0.out.trans hk2, ho, hnw.of_le HK0.out.size, hn.out⟩
  have r0 := cell_of_blk hbb 0
  have r1 := cell_of_blk hbb 1
  have r2 := cell_of_blk hbb 2
  have r3 := cell_of_blk hbb 3
  have q0 := cell_of_blk hb 0
  have q1 := cell_of_blk hb 1
  have q2 := cell_of_blk hb 2
  have q3 := cell_of_blk hb 3
  have f0 := frozen_of_blk hb 0
  have f1 := frozen_of_blk hb 1
  have f2 := frozen_of_blk hb 2
  have f3 := frozen_of_blk hb 3
  clear hb hbb hk2 h1 h2 HB HK0 hn ho hnw
  go_wp2_with fail
  have hs4 := set4 HB2.out (.string k) (.int .u64 ((i : Nat) : Int)) (.string v.val) (.slice o n c)
  unfold set4w at hs4
  refine bodyPost_ret (results_row1 rfl _ _ w.heap.size _ rfl (loadV hs4.1)) rfl ?_
  refine ⟨_, rfl, o, n, c, rfl, HKa.out.2.2.2, (HKa.out.2.1.keepsN ((Keeps.refl no w2).alloc _)).keeps hs4.2 (fun b hb e => ?_), HKa.out.2.2.1, (HKa.out.1.alloc _).then hs4.2 (fun b hb => .inr (by have : b = w.heap.size := hb; omega))⟩
  obtain ⟨cur, hcc⟩ := (HKa.out.2.1.keepsN ((Keeps.refl no w2).alloc (.cells #[.string k, .int .u64 ((i : Nat) : Int), .string v.val, .slice o n c] 45))).tag b hb
  have : b = w.heap.size := e
  rw [this, HB2.out] at hcc
  injection hcc with hcc
  injection hcc with _ hcc _
  cases hcc

theorem Ows.latest {w0 w : World} {p : Nat} {T : Nat → Option Ro} {s : St} {N : Nat} (h : Ows w0 w p T s N) (k : Tx) (hk : k.size ≤ 65535) :
    Calls Tryz.prog 18 #[.pointer (some ⟨p, 0, none⟩), .string k] w fun e w' => ∃ c o n d, e = .returned (.agg #[.string k, .int .u64 ((s.last k : Nat) : Int), .string c, .slice o n d]) ∧ Hid (Keeps no w w') ∧ Hid (∀ v, s.V (k, s.last k) = some v → c = v.val ∧ n = v.keys.length ∧ Own TE w' o d v.keys ∧ New w o) ∧ Hid (s.V (k, s.last k) = none → c = ⟨#[]⟩ ∧ o = none ∧ n = 0 ∧ d = 0) := by
  cases hv : s.V (k, s.last k) with
  | none =>
    have h0 : s.last k = 0 := by
      by_cases e : s.last k = 0
      · exact e
      · exact absurd hv (h.ok.la k e)
    refine (latest_none w p T s N k h.is (by unfold maxLen; omega) (by omega) (by omega) hv).mono ?_
    rintro e w' ⟨he, hk⟩
    rw [h0]
    exact ⟨_, _, _, _, he, hk, (fun v hv => by cases hv), fun _ => ⟨rfl, rfl, rfl, rfl⟩⟩
  | some v =>
    refine (latest_some w p T s N k v h.is hv h.ok.v).mono ?_
    rintro e w' ⟨u, he, o, n, c, rfl, hn, ho, hnw, hk⟩
    exact ⟨_, _, _, _, he, hk, (fun z hz => by injection hz with hz; subst hz; exact ⟨rfl, hn.out, ho, hnw⟩), fun hc => by cases hc⟩
section
variable {w0 w w' : World} {p : Nat} {s : St} {N : Nat} {P : Nat → Prop}
theorem Ow.latest (h : Ow w0 w p s N P) (k : Tx) (hk : k.size ≤ 65535) :
    Calls Tryz.prog 18 #[.pointer (some ⟨p, 0, none⟩), .string k] w fun e w' => ∃ c o n d, e = .returned (.agg #[.string k, .int .u64 ((s.last k : Nat) : Int), .string c, .slice o n d]) ∧ Hid (Keeps no w w') ∧ Hid (∀ v, s.V (k, s.last k) = some v → c = v.val ∧ n = v.keys.length ∧ Own TE w' o d v.keys ∧ New w o) ∧ Hid (s.V (k, s.last k) = none → c = ⟨#[]⟩ ∧ o = none ∧ n = 0 ∧ d = 0) := by
  obtain ⟨T, h, _⟩ := h
  exact h.latest k hk
end
end Go.Proofs.YtagekdmkidbhpaaGreat

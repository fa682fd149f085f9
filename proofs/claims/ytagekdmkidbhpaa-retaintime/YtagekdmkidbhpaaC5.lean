import Derived.Test.YtagekdmkidbhpaaC4
/- ByID, Latest, copied. -/
namespace Go.Proofs.Ytagekdmkidbhpaa
open Go.RowKit Go.Maps
set_option linter.unusedVariables false
set_option linter.unusedSimpArgs false

theorem fieldK (a b c d e : Value) (w : World) : (Instr.field 71 (.agg #[a, b, c, d, e]) 0).run Try.prog w = .ok (.agg #[a, b, c, d]) w := by kernel_rfl
theorem byID_none (w : World) (p : Nat) (T : Nat → Option Ro) (s : St) (N : Nat) (k : Tx) (i : Nat) (h : IsS w p T s N) (hm : KM.ok (k, i)) (hv : s.V (k, i) = none) :
    Calls Try.prog 17 #[.pointer (some ⟨p, 0, none⟩), .string k, .int .u64 ((i : Nat) : Int)] w fun e w' => e = .returned (.tuple #[.agg #[.string ⟨#[]⟩, .int .u64 0, .string ⟨#[]⟩, .slice none 0 0], .int .i64 110]) ∧ Keeps no w w' := by
  obtain ⟨w0, hw0⟩ : ∃ w0, w0 = (w.alloc (.cells #[.string ⟨#[]⟩, .int .u64 0, .string ⟨#[]⟩, .slice none 0 0] 60)).alloc (.cells #[.string k, .int .u64 ((i : Nat) : Int)] 87) := ⟨_, rfl⟩
  have hk0 : Keeps no w w0 := by rw [hw0]; exact ((Keeps.refl no w).alloc _).alloc _
  have hc := has_any w0 p T s N (k, i) (h.keepsN hk0) hm
  rw [hv] at hc
  simp only at hc
  have hb : w0.heap[w.heap.size]? = some (.cells #[.string ⟨#[]⟩, .int .u64 0, .string ⟨#[]⟩, .slice none 0 0] 60 (0, 0)) := by rw [hw0]; exact blk_alloc (blk_new w _) _
  have HB : Hid (w0.heap[w.heap.size]? = some (.cells #[.string ⟨#[]⟩, .int .u64 0, .string ⟨#[]⟩, .slice none 0 0] 60 (0, 0))) := hb
  have HK0 : Hid (Keeps no w w0) := hk0
  rw [hw0] at hc HB HK0
  clear h hm hv hw0 hk0 hb
  go_enter Try.func17, Try.ntmps17
  go_wp2_with fail
  refine hc.mono ?_
  rintro e w1 ⟨rfl, hk1⟩
  have hb := hk1.at HB.out id
  have HK1 : Hid (Keeps no w w1) := HK0.out.trans hk1
  have HBB : Hid (w1.heap[w.heap.size]? = some (.cells #[.string ⟨#[]⟩, .int .u64 0, .string ⟨#[]⟩, .slice none 0 0] 60 (0, 0))) := hb
  have q0 := cell_of_blk hb 0
  have q1 := cell_of_blk hb 1
  have q2 := cell_of_blk hb 2
  have q3 := cell_of_blk hb 3
  have f0 := frozen_of_blk hb 0
  have f1 := frozen_of_blk hb 1
  have f2 := frozen_of_blk hb 2
  have f3 := frozen_of_blk hb 3
  clear hb hk1 hc HB HK0
  go_wp2_with fail
  have hs4 := set4 HBB.out (.string ⟨#[]⟩) (.int .u64 0) (.string ⟨#[]⟩) (.slice none 0 0)
  unfold set4w at hs4
  refine bodyPost_ret (results_row2 rfl _ _ w.heap.size _ rfl (loadV hs4.1)) rfl ?_
  exact ⟨rfl, HK1.out.then hs4.2 (fun b hb => .inr (by have : b = w.heap.size := hb; omega))⟩
set_option maxRecDepth 10000 in
theorem byID_some (w : World) (p : Nat) (T : Nat → Option Ro) (s : St) (N : Nat) (k : Tx) (i : Nat) (v : Vr) (h : IsS w p T s N) (hv : s.V (k, i) = some v) (hok : OkV s) :
    Calls Try.prog 17 #[.pointer (some ⟨p, 0, none⟩), .string k, .int .u64 ((i : Nat) : Int)] w fun e w' => ∃ u, e = .returned (.tuple #[u, .int .i64 0]) ∧ Tv w u (k, i) v w' := by
  obtain ⟨w0, hw0⟩ : ∃ w0, w0 = (w.alloc (.cells #[.string ⟨#[]⟩, .int .u64 0, .string ⟨#[]⟩, .slice none 0 0] 60)).alloc (.cells #[.string k, .int .u64 ((i : Nat) : Int)] 87) := ⟨_, rfl⟩
  have hk0 : Keeps no w w0 := by rw [hw0]; exact ((Keeps.refl no w).alloc _).alloc _
  have hm : KM.ok (k, i) := by obtain ⟨y, h⟩ := h; exact h.okM (by rw [hv]; simp)
  have hc := has_any w0 p T s N (k, i) (h.keepsN hk0) hm
  rw [hv] at hc
  simp only at hc
  have hks : k.size ≤ 65535 := hok.size hv
  have hlen : v.keys.length ≤ 1024 := hok.len hv
  have HT : Hid (∀ X, Keeps no w X → Calls Try.prog 36 #[.pointer (some ⟨p, 0, none⟩), .agg #[.string k, .int .u64 ((i : Nat) : Int)]] X fun e w' => ∃ u, e = .returned u ∧ Tk X u (k, i) v w') := fun X hX => told_any X p T s N (k, i) v (h.keepsN hX) hv (by omega) (by show k.size ≤ _; omega)
  have hb : w0.heap[w.heap.size]? = some (.cells #[.string ⟨#[]⟩, .int .u64 0, .string ⟨#[]⟩, .slice none 0 0] 60 (0, 0)) := by rw [hw0]; exact blk_alloc (blk_new w _) _
  have hb' : w0.heap[w.heap.size + 1]? = some (.cells #[.string k, .int .u64 ((i : Nat) : Int)] 87 (0, 0)) := by
    rw [hw0]
    have := blk_new (w.alloc (.cells #[.string ⟨#[]⟩, .int .u64 0, .string ⟨#[]⟩, .slice none 0 0] 60)) (.cells #[.string k, .int .u64 ((i : Nat) : Int)] 87)
    rwa [show (w.alloc (.cells #[.string ⟨#[]⟩, .int .u64 0, .string ⟨#[]⟩, .slice none 0 0] 60)).heap.size = w.heap.size + 1 by simp] at this
  have HB : Hid (w0.heap[w.heap.size]? = some (.cells #[.string ⟨#[]⟩, .int .u64 0, .string ⟨#[]⟩, .slice none 0 0] 60 (0, 0)) ∧ w0.heap[w.heap.size + 1]? = some (.cells #[.string k, .int .u64 ((i : Nat) : Int)] 87 (0, 0))) := ⟨hb, hb'⟩
  have HK0 : Hid (Keeps no w w0) := hk0
  rw [hw0] at hc HB HK0
  clear h hm hv hw0 hk0 hb hb' hok hks hlen
  go_enter Try.func17, Try.ntmps17
  go_wp2_with fail
  refine hc.mono ?_
  rintro e w1 ⟨rfl, hk1⟩
  have hb := hk1.at HB.out.1 id
  have hb' := hk1.at HB.out.2 id
  have HK1 : Hid (Keeps no w w1) := HK0.out.trans hk1
  have HBB : Hid (w1.heap[w.heap.size]? = some (.cells #[.string ⟨#[]⟩, .int .u64 0, .string ⟨#[]⟩, .slice none 0 0] 60 (0, 0))) := hb
  have p0 := cell_of_blk hb' 0
  have p1 := cell_of_blk hb' 1
  clear hb hk1 hc HB HK0 hb'
  go_wp2_with fail
  refine (HT.out _ HK1.out).mono ?_
  rintro e w2 ⟨u, rfl, o, n, c, rfl, hn, ho, hnw, hk2⟩
  have hb := hk2.at HBB.out id
  have HK2 : Hid (Keeps no w w2 ∧ Own TE w2 o c v.keys ∧ New w o ∧ n = v.keys.length) := ⟨HK1.out.trans hk2, ho, hnw.of_le HK1.out.size, hn.out⟩
  have HB2 : Hid (w2.heap[w.heap.size]? = some (.cells #[.string ⟨#[]⟩, .int .u64 0, .string ⟨#[]⟩, .slice none 0 0] 60 (0, 0))) := hb
  have q0 := cell_of_blk hb 0
  have q1 := cell_of_blk hb 1
  have q2 := cell_of_blk hb 2
  have q3 := cell_of_blk hb 3
  have f0 := frozen_of_blk hb 0
  have f1 := frozen_of_blk hb 1
  have f2 := frozen_of_blk hb 2
  have f3 := frozen_of_blk hb 3
  clear hb hk2 hn ho hnw HT HK1 HBB p0 p1
  have hfk := fun w => fieldK (.string k) (.int .u64 ((i : Nat) : Int)) (.string v.val) (.slice o n c) (.int .i64 v.stamp) w
  go_wp2_with fail
  have hs4 := set4 HB2.out (.string k) (.int .u64 ((i : Nat) : Int)) (.string v.val) (.slice o n c)
  unfold set4w at hs4
  refine bodyPost_ret (results_row2 rfl _ _ w.heap.size _ rfl (loadV hs4.1)) rfl ?_
  refine ⟨_, rfl, o, n, c, rfl, HK2.out.2.2.2, HK2.out.2.1.keeps hs4.2 (fun b hb e => ?_), HK2.out.2.2.1, HK2.out.1.then hs4.2 (fun b hb => .inr (by have : b = w.heap.size := hb; omega))⟩
  obtain ⟨cur, hcc⟩ := HK2.out.2.1.tag b hb
  have : b = w.heap.size := e
  rw [this, HB2.out] at hcc
  injection hcc with hcc
  injection hcc with _ hcc _
  cases hcc

theorem makeT (w : World) (n : Nat) (h : n ≤ 100000) : ∃ w', (Instr.makeSlice 33 (.int .i64 0) (.int .i64 (n : Int))).run Try.prog w = .ok (.slice (some ⟨w.heap.size, 0, none⟩) 0 n) w' ∧ Own TE w' (some ⟨w.heap.size, 0, none⟩) n [] ∧ Keeps no w w' := by
  obtain ⟨i0, hi, hz0, hz1, hz2⟩ := info_parts info9
  obtain ⟨w', hr, ho, hg⟩ := run_make_own (P := Try.prog) w 0 33 9 i0 _ 1 Try.underlying33 hi hz0 hz1 .i64 .i64 n (by rw [hz2]; omega) (by unfold maxLen; omega) (Nat.zero_le _)
  exact ⟨w', hr, ho, (Keeps.refl _ _).grown hg (fun k hk => by cases hk)⟩
theorem own_one (w : World) (x : Tx) : Sl TE (w.alloc (.cells #[.string x] 9)) (some ⟨w.heap.size, 0, none⟩) 1 [x] := by
  refine ⟨.inr ⟨_, 0, rfl, fun j u hj => ?_⟩, by simp, fun e => by cases e⟩
  rw [Nat.zero_add, cell_of_blk (blk_new w _)]
  simpa [El.cells, TE] using hj
theorem own_oneP (w : World) (x y : Tx) : Sl PE (w.alloc (.cells #[.string x, .string y] 52)) (some ⟨w.heap.size, 0, none⟩) 1 [(x, y)] := by
  refine ⟨.inr ⟨_, 0, rfl, fun j u hj => ?_⟩, by simp, fun e => by cases e⟩
  rw [Nat.zero_add, cell_of_blk (blk_new w _)]
  simpa [El.cells, PE] using hj
set_option maxRecDepth 10000 in
theorem copied_any (w : World) (a : Option Addr) (n c : Nat) (xs : List Tx) (hn : n = xs.length) (hl : xs.length ≤ 100000) (hz : ∀ x ∈ xs, x.size ≤ 281474976710656) (hs : Sl TE w a c xs) :
    Calls Try.prog 30 #[.slice a n c] w fun e w' => ∃ v, e = .returned v ∧ Gives TE w xs v w' := by
  have HA : Hid (n = xs.length) := hn
  have hA : (n : Int) ≤ 100000 := by omega
  have HL : Hid (xs.length ≤ 100000) := hl
  have HZ : Hid (∀ x ∈ xs, x.size ≤ 281474976710656) := hz
  obtain ⟨w1, hr1, ho1, hk1⟩ := makeT w n (by omega)
  clear hn hl hz
  go_enter Try.func30, Try.ntmps30
  go_wp2_with fail
  go_loopw [3, 11] (fun s3 i wr => ∃ (k : Nat) (v : Value), k ≤ n ∧ i = .int .i64 k ∧ s3 = v ∧ Hid (Gives TE w (xs.take k) v wr)) (fun _ i _ => n - (intOf i).toNat)
  case atStart => exact ⟨0, _, by omega, rfl, rfl, ⟨_, _, _, rfl, (show 0 = _ by simp), by simpa using ho1, new_fresh _ _ (Nat.le_refl _) _, hk1⟩⟩
  case round =>
    obtain ⟨k, v, hk, rfl, rfl, HG⟩ := hrel
    obtain ⟨o, m, d, rfl, hm, ho, hnw, hkp⟩ := HG.out
    by_cases h2 : k < n
    · have hka : k < xs.length := by have := HA.out; omega
      have hs' := hs.keepsN hkp
      obtain ⟨b1, off1, rfl, d1⟩ := hs'.at hka
      obtain ⟨x, hx⟩ : ∃ x, x = xs.getD k e0 := ⟨_, rfl⟩
      rw [← hx] at d1
      have HX : Hid (x = xs.getD k e0) := hx
      have HXZ : Hid (x.size ≤ 281474976710656) := (show _ ≤ _ by rw [hx]; exact HZ.out _ (Orl.getD_mem_lt e0 hka))
      have HLen : Hid ((xs.take k).length ≤ 100000) := (show _ ≤ _ by rw [List.length_take]; have := HL.out; omega)
      clear hx hka
      go_wp2_with fail
      refine (sclone_any _ x HXZ.out).mono ?_
      rintro e w2 ⟨rfl, hk2⟩
      have HO2 : Hid (Own TE w2 o d (xs.take k)) := ho.keepsN hk2
      have HK2 : Hid (Keeps no w w2) := hkp.trans hk2
      clear hk2
      go_wp2_with (at_builtin; refine wpList_app okT rfl _ _ rfl _ _ _ (xs.take k) rfl hm.out (HO2.out.keepsN ((Keeps.refl _ _).alloc _)) _ _ _ [x] rfl rfl (fun h => by cases h) (own_one _ x).row (by have := HLen.out; simp [TE]; omega) (by have := HLen.out; simp; omega) ?_; intro o1 c1 w3 ho3 hap3)
      go_roundw
      case rel =>
        have k4 := hap3.new (w0 := w) hnw (HK2.out.alloc _)
        refine ⟨k + 1, _, by omega, by go_num, rfl, ?_⟩
        show Gives TE w (xs.take (k + 1)) _ _
        rw [take_succ_getD xs k e0 (by have := HA.out; omega), ← HX.out]
        exact ⟨o1, _, c1, rfl, (show _ = _ by have h := hm.out; rw [List.length_append, ← h]; simp), ho3, k4.1, k4.2⟩
      case measure => simp [intOf] <;> omega
    · go_wp2_with fail
      go_ret
      have he : xs.take k = xs := List.take_of_length_le (by have := HA.out; omega)
      rw [he] at hm ho
      exact ⟨_, rfl, o, m, d, rfl, hm, ho, hnw, hkp⟩
end Go.Proofs.Ytagekdmkidbhpaa

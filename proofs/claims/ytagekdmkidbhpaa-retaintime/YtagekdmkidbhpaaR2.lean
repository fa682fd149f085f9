import Derived.Test.YtagekdmkidbhpaaR1
/- slices.DeleteFunc over versions told: the old ones are left. -/
namespace Go.Proofs.Ytagekdmkidbhpaa
open Go.RowKit Go.Maps Go.Sort Orl
set_option linter.unusedVariables false
set_option linter.unusedSimpArgs false

theorem slKo : Try.prog.underlying 68 = some (.slice (Try.prog.elem 68)) := by kernel_rfl
theorem zeroK (w : World) : (zeroValue KE.e).run Try.prog w = .ok (.agg #[.string ⟨#[]⟩, .int .u64 0, .string ⟨#[]⟩, .slice none 0 0, .int .i64 0]) w := Try.zeroValue71 w
theorem first_young : ∀ xs : List KV, ∃ k, k ≤ xs.length ∧ (∀ j, j < k → (xs.getD j kv0).stamp ≠ -1) ∧ (k < xs.length → (xs.getD k kv0).stamp = -1)
  | [] => ⟨0, by simp, fun j hj => by omega, fun h => by simp at h⟩
  | x :: r => by
    by_cases hx : x.stamp = -1
    · exact ⟨0, by simp, fun j hj => by omega, fun _ => by simpa using hx⟩
    · obtain ⟨k, h1, h2, h3⟩ := first_young r
      refine ⟨k + 1, by simpa using h1, fun j hj => ?_, fun h => by simpa using h3 (by simpa using h)⟩
      cases j with
      | zero => simpa using hx
      | succ j => simpa using h2 j (by omega)
theorem oldOf_take {xs : List KV} : ∀ {k : Nat}, k ≤ xs.length → (∀ j, j < k → (xs.getD j kv0).stamp ≠ -1) → oldOf (xs.take k) = xs.take k := by
  intro k hk h
  unfold oldOf
  rw [List.filter_eq_self]
  intro x hx
  obtain ⟨j, hj, rfl⟩ := List.mem_iff_getElem.1 hx
  rw [List.length_take] at hj
  have := h j (by omega)
  rw [getD_at (by omega)] at this
  simpa [isOld] using this
theorem oldOf_snoc (xs : List KV) (j : Nat) (hj : j < xs.length) : oldOf (xs.take (j + 1)) = oldOf (xs.take j) ++ (if (xs.getD j kv0).stamp = -1 then [] else [xs.getD j kv0]) := by
  rw [take_succ_getD xs j kv0 hj]
  unfold oldOf
  rw [List.filter_append]
  congr 1
  by_cases h : (xs.getD j kv0).stamp = -1
  · have hb : isOld (xs.getD j kv0) = false := by unfold isOld; rw [h]; rfl
    rw [if_pos h]
    simp only [List.filter, hb]
  · have hb : isOld (xs.getD j kv0) = true := by unfold isOld; exact decide_eq_true h
    rw [if_neg h]
    simp only [List.filter, hb]
structure Dl (xs : List KV) (i j : Nat) (ys : List KV) : Prop where
  len : ys.length = xs.length
  lt : i < j
  le : j ≤ xs.length
  low : ys.take i = oldOf (xs.take j)
  high : ys.drop j = xs.drop j
theorem dl_start {xs : List KV} {k : Nat} (hk : k < xs.length) (hall : ∀ j, j < k → (xs.getD j kv0).stamp ≠ -1) (hst : (xs.getD k kv0).stamp = -1) : Dl xs k (k + 1) xs :=
  ⟨rfl, by omega, hk, by rw [oldOf_snoc xs k hk, if_pos hst, List.append_nil, oldOf_take (Nat.le_of_lt hk) hall], rfl⟩
theorem drop_getD {α : Type} (l m : List α) (j : Nat) (d : α) (h : l.drop j = m.drop j) : l.getD j d = m.getD j d := by
  have e : ∀ z : List α, z.getD j d = (z.drop j).getD 0 d := fun z => by simp [List.getD]
  rw [e, e, h]
theorem Dl.get {xs : List KV} {i j : Nat} {ys : List KV} (h : Dl xs i j ys) : ys.getD j kv0 = xs.getD j kv0 := drop_getD _ _ _ _ h.high
theorem Dl.skip {xs : List KV} {i j : Nat} {ys : List KV} (h : Dl xs i j ys) (hj : j < xs.length) (hs : (xs.getD j kv0).stamp = -1) : Dl xs i (j + 1) ys :=
  ⟨h.len, by have := h.lt; omega, hj, by rw [oldOf_snoc xs j hj, if_pos hs, List.append_nil, h.low], by rw [← List.drop_drop, ← List.drop_drop, h.high]⟩
theorem Dl.keep {xs : List KV} {i j : Nat} {ys : List KV} (h : Dl xs i j ys) (hj : j < xs.length) (hs : (xs.getD j kv0).stamp ≠ -1) : Dl xs (i + 1) (j + 1) (ys.set i (xs.getD j kv0)) := by
  have hlt := h.lt
  have hlen := h.len
  refine ⟨by simpa using h.len, by omega, hj, ?_, ?_⟩
  · rw [oldOf_snoc xs j hj, if_neg hs, take_succ_getD _ i kv0 (by simp; omega)]
    have e1 : (ys.set i (xs.getD j kv0)).take i = ys.take i := List.take_set_of_le (by omega)
    have e2 : (ys.set i (xs.getD j kv0)).getD i kv0 = xs.getD j kv0 := by simp [List.getD, List.getElem?_set, show i < ys.length by omega]
    rw [e1, e2, h.low]
  · rw [List.drop_set_of_lt (by omega), ← List.drop_drop, ← List.drop_drop, h.high]
theorem Dl.done {xs : List KV} {i : Nat} {ys : List KV} (h : Dl xs i xs.length ys) : ys.take i = oldOf xs := by
  rw [h.low, List.take_length]
set_option maxRecDepth 10000 in
set_option maxHeartbeats 1000000 in
theorem delete_any (w : World) (o : Option Addr) (n c : Nat) (xs : List KV) (hn : n = xs.length) (hl : xs.length ≤ 1954687338211) (ho : Own KE w o c xs) :
    Calls Try.prog 37 #[.slice o n c, .func (.func 39) #[] #[]] w fun e w' => ∃ m, e = .returned (.slice o m c) ∧ Hid (m = (oldOf xs).length ∧ Own KE w' o c (oldOf xs) ∧ Keeps (inO o) w w') := by
  obtain ⟨k, hk, hall, hst⟩ := first_young xs
  by_cases hkn : k = xs.length
  · have hci := index_any w o n c xs hn hl ho.sl k hk hall hst (-1) (fun h => by omega) (fun _ => rfl)
    have e0 : oldOf xs = xs := by
      have := oldOf_take hk hall
      rwa [hkn, List.take_length] at this
    rw [e0]
    have H : Hid (n = xs.length ∧ Own KE w o c xs) := ⟨hn, ho⟩
    clear hn hl ho hk hall hst hkn e0
    go_enter Try.func37, Try.ntmps37
    go_wp2_with (go_at_call 51; refine hci.mono ?_; rintro e w1 ⟨rfl, hk1⟩)
    go_ret
    exact ⟨n, rfl, H.out.1, H.out.2.keepsN hk1, hk1.of_no⟩
  · have hci := index_any w o n c xs hn hl ho.sl k hk hall hst (k : Nat) (fun h => rfl) (fun h => absurd h hkn)
    have hk' : k < xs.length := by omega
    have HD : Hid (Dl xs k (k + 1) xs) := dl_start hk' hall (hst hk')
    obtain ⟨g, rfl⟩ : ∃ g, o = some ⟨g, 0, none⟩ := by
      rcases ho.shape with ⟨_, _, e⟩ | ⟨g, cur, e, _⟩
      · rw [e] at hk'; simp at hk'
      · exact ⟨g, e⟩
    have hcap := ho.cap.1
    have H : Hid (n = xs.length ∧ xs.length ≤ 1954687338211 ∧ Own KE w (some ⟨g, 0, none⟩) c xs) := ⟨hn, hl, ho⟩
    have hnb : (n : Int) ≤ 1954687338211 := by omega
    have hkb : (k : Int) < n := by omega
    have hne : ((k : Int) == -1) = false := beq_eq_false_iff_ne.2 (by omega)
    have hnc : n ≤ c := by omega
    clear hn hl ho hk hall hst hkn hk' hcap
    go_enter Try.func37, Try.ntmps37
    go_wp2_with (go_at_call 51; refine hci.mono ?_; rintro e w1 ⟨rfl, hk1⟩)
    have HK1 : Hid (Keeps no w w1) := hk1
    clear hk1 hci
    go_loopw [5, 6, 7] (fun s5 s6 _ wr => ∃ i j : Nat, j ≤ n ∧ i < j ∧ s5 = .int .i64 i ∧ s6 = .int .i64 j ∧ Hid (∃ ys, Dl xs i j ys ∧ Own KE wr (some ⟨g, 0, none⟩) c ys ∧ Keeps (inO (some ⟨g, 0, none⟩)) w wr)) (fun _ s6 _ _ => n - (intOf s6).toNat)
    case atStart => exact ⟨k, k + 1, by omega, by omega, rfl, by go_num, xs, HD.out, H.out.2.2.keepsN HK1.out, HK1.out.of_no⟩
    case round =>
      obtain ⟨i, j, hj, hij, rfl, rfl, HG⟩ := hrel
      obtain ⟨ys, hdl, hoy, hky⟩ := HG.out
      have HY : Hid (Dl xs i j ys ∧ Own KE wr (some ⟨g, 0, none⟩) c ys ∧ Keeps (inO (some ⟨g, 0, none⟩)) w wr) := ⟨hdl, hoy, hky⟩
      have hln := hdl.len
      clear HG hky
      by_cases hlt : j < n
      · have hjl : j < ys.length := by rw [hln, ← H.out.1]; exact hlt
        obtain ⟨b, off, hbe, d0, d1, d2, d3, d4⟩ := atK hoy.sl hjl
        obtain ⟨b', off', hbe', i0, i1, i2, i3, i4⟩ := atK hoy.sl (show i < ys.length by omega)
        cases hbe
        cases hbe'
        simp only [Nat.zero_add] at d0 d1 d2 d3 d4 i0 i1 i2 i3 i4
        rw [hdl.get] at d0 d1 d2 d3 d4
        obtain ⟨x, hx⟩ : ∃ x, x = xs.getD j kv0 := ⟨_, rfl⟩
        rw [← hx] at d0 d1 d2 d3 d4
        have HX : Hid (x = xs.getD j kv0) := hx
        obtain ⟨W2, hW2⟩ : ∃ W2, W2 = ((wr.alloc (.cells #[.string x.m.1, .int .u64 ((x.m.2 : Nat) : Int), .string x.val, .slice x.o x.keys.length x.c, .int .i64 x.stamp] 71)).alloc (.cells #[.string x.m.1, .int .u64 ((x.m.2 : Nat) : Int), .string x.val, .slice x.o x.keys.length x.c, .int .i64 x.stamp] 71)) := ⟨_, rfl⟩
        have hK2 : Keeps no wr W2 := by rw [hW2]; exact ((Keeps.refl no wr).alloc _).alloc _
        obtain ⟨gg, hge, hfz, hst1, hst2⟩ := (hoy.keepsN hK2).storeE okK i (show i < ys.length by omega) x
        cases hge
        have HST : Hid (Own KE (W2.setCells g (i * 5) [.string x.m.1, .int .u64 ((x.m.2 : Nat) : Int), .string x.val, .slice x.o x.keys.length x.c, .int .i64 x.stamp]) (some ⟨g, 0, none⟩) c (ys.set i x) ∧ Keeps (inO (some ⟨g, 0, none⟩)) W2 (W2.setCells g (i * 5) [.string x.m.1, .int .u64 ((x.m.2 : Nat) : Int), .string x.val, .slice x.o x.keys.length x.c, .int .i64 x.stamp]) ∧ Keeps no wr W2) := ⟨hst1, hst2, hK2⟩
        have j0 := hK2.cellN i0
        have j1 := hK2.cellN i1
        have j2 := hK2.cellN i2
        have j3 := hK2.cellN i3
        have j4 := hK2.cellN i4
        have z0 := hfz (i * 5)
        have z1 := hfz (i * 5 + 1)
        have z2 := hfz (i * 5 + 2)
        have z3 := hfz (i * 5 + 3)
        have z4 := hfz (i * 5 + 4)
        rw [hW2] at j0 j1 j2 j3 j4 z0 z1 z2 z3 z4 HST
        clear hx hjl hdl hoy hln hst1 hst2 hfz hK2 hW2 i0 i1 i2 i3 i4
        obtain ⟨xm, xv, xo, xc, xk, xst⟩ := x
        simp only at d0 d1 d2 d3 d4 j0 j1 j2 j3 j4 z0 z1 z2 z3 z4
        simp only at HST
        generalize xk.length = xn at d3 j0 j1 j2 j3 j4 z0 z1 z2 z3 z4 HST
        generalize (ys.getD i kv0).m = a0 at j0 j1
        generalize (ys.getD i kv0).val = a1 at j2
        generalize (ys.getD i kv0).keys.length = a2 at j3
        generalize (ys.getD i kv0).o = a3 at j3
        generalize (ys.getD i kv0).c = a5 at j3
        generalize (ys.getD i kv0).stamp = a4 at j4
        have hc := fun X => old1_any xm.1 ((xm.2 : Nat) : Int) xv xo xn xc xst X
        by_cases es : xst = -1
        · subst es
          rw [show ((-1 : Int) == -1) = true from rfl] at hc
          go_wp2_with (go_at_call 39; refine (hc _).mono ?_; rintro e w' ⟨rfl, rfl⟩)
          go_roundw
          case rel => exact ⟨i, j + 1, by omega, by omega, rfl, by go_num, ys, HY.out.1.skip (by rw [← H.out.1]; exact hlt) (by rw [← HX.out]), HY.out.2.1.keepsN (((Keeps.refl no wr).alloc _).alloc _), (HY.out.2.2.alloc _).alloc _⟩
          case measure => simp [intOf]; omega
        · have es' : (xst == -1) = false := by simp [es]
          rw [es'] at hc
          have HES : Hid (xst ≠ -1) := es
          clear es es'
          go_wp2_with (go_at_call 39; refine (hc _).mono ?_; rintro e w' ⟨rfl, rfl⟩)
          go_roundw
          case rel =>
            refine ⟨i + 1, j + 1, by omega, by omega, by go_num, by go_num, _, ?_, HST.out.1, (HY.out.2.2.trans HST.out.2.2.of_no).trans HST.out.2.1⟩
            have := HY.out.1.keep (by rw [← H.out.1]; exact hlt) (by rw [← HX.out]; exact HES.out)
            rw [← HX.out] at this
            exact this
          case measure => simp [intOf]; omega
      · have hjn : j = n := by omega
        have hil : i < ys.length := by rw [hln, ← H.out.1]; omega
        obtain ⟨gg, w3, hge, hcl, hoc, hkc⟩ := hoy.clear okK i hil _ zeroK rfl (fun u hu => by simp [Value.cells] at hu; rcases hu with rfl | rfl | rfl | rfl | rfl <;> rfl) 0
        cases hge
        have hsl : ∀ w, (Instr.slice 68 (.slice (some ⟨g, 0, none⟩) n c) (some (.int .i64 (i : Int))) none none).run Try.prog w = .ok (.slice (some ⟨g, i * 5, none⟩) (n - i) (c - i)) w := fun w => by
          rw [run_slice_l w 68 (some ⟨g, 0, none⟩) _ c slKo .i64 _ (by omega) (by omega)]
          have hne' : ¬ c = i := by omega
          go_simp
          try rw [addr_add]
          try simp
        have hsh : ∀ w, (Instr.slice 68 (.slice (some ⟨g, 0, none⟩) n c) none (some (.int .i64 (i : Int))) none).run Try.prog w = .ok (.slice (some ⟨g, 0, none⟩) i c) w := fun w => by
          rw [run_slice_h w 68 (some ⟨g, 0, none⟩) _ c slKo .i64 _ (by omega) (by omega)]
          go_simp
        have hlx : ys.length = n := by rw [hln, ← H.out.1]
        rw [hlx] at hcl
        have hcl' : (Builtin.clear_ #[68] 0 #[.slice (some ⟨g, i * 5, none⟩) (n - i) (c - i)]).run Try.prog wr = .ok (.tuple #[]) w3 := hcl
        have HE : Hid (Own KE w3 (some ⟨g, 0, none⟩) c (oldOf xs) ∧ Keeps (inO (some ⟨g, 0, none⟩)) w w3 ∧ i = (oldOf xs).length) := by
          have hD := HY.out.1
          rw [hjn, H.out.1] at hD
          have e := hD.done
          rw [e] at hoc
          refine ⟨hoc, HY.out.2.2.trans hkc, ?_⟩
          rw [← e, List.length_take]
          omega
        clear hoc hkc hcl hln hlx hdl hoy hil HY
        subst hjn
        go_wp2_with fail
        go_ret
        exact ⟨i, rfl, HE.out.2.2, HE.out.1, HE.out.2.1⟩
end Go.Proofs.Ytagekdmkidbhpaa

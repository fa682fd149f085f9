import Derived.Test.YtagekdmkidbhpaaR3
/- retain: Collect, Next. -/
namespace Go.Proofs.Ytagekdmkidbhpaa
open Go.RowKit Go.Maps Go.Sort Orl
set_option linter.unusedVariables false
set_option linter.unusedSimpArgs false

def cutS (s : St) (D : Mk → Bool) : St := { s with V := fun m => if D m then none else s.V m }
def collS (s : St) (t : Int) : St := cutS s (dueB s t)
def inM (l : List Mk) (m : Mk) : Bool := l.any fun x => decide (x = m)
theorem inM_iff {l : List Mk} {m : Mk} : inM l m = true ↔ m ∈ l := by
  unfold inM
  rw [List.any_eq_true]
  constructor
  · rintro ⟨x, hx, h⟩
    have : x = m := by simpa using h
    rwa [← this]
  · intro h
    exact ⟨m, h, by simp⟩
theorem inM_nil (m : Mk) : inM [] m = false := rfl
theorem cutS_nil (s : St) : cutS s (inM []) = s := by
  cases s
  rfl
theorem cutS_congr {s : St} {D E : Mk → Bool} (h : ∀ m, D m = E m) : cutS s D = cutS s E := by
  have : D = E := funext h
  rw [this]
theorem IsDue.cut {s : St} {t : Int} {ds : List Mk} (h : IsDue s t ds) : cutS s (inM ds) = collS s t := by
  refine cutS_congr fun m => ?_
  have e := h.is m
  rw [← inM_iff] at e
  cases h1 : inM ds m <;> cases h2 : dueB s t m <;> simp_all
theorem IsDue.step {s : St} {t : Int} {ds : List Mk} (h : IsDue s t ds) {k : Nat} (hk : k < ds.length) : dropR (cutS s (inM (ds.take k))) (ds.getD k (e0, 0)) = cutS s (inM (ds.take (k + 1))) := by
  obtain ⟨m, hm⟩ : ∃ m, m = ds.getD k (e0, 0) := ⟨_, rfl⟩
  rw [take_succ_getD ds k (e0, 0) hk, ← hm]
  have hin : m ∈ ds := by rw [hm]; exact getD_mem_lt _ hk
  obtain ⟨v, hv, hs, _⟩ := dueB_iff.1 ((h.is m).1 hin)
  have hnot : inM (ds.take k) m = false := by
    cases e : inM (ds.take k) m with
    | false => rfl
    | true =>
      exfalso
      have h1 := inM_iff.1 e
      obtain ⟨j, hj, hje⟩ := List.mem_iff_getElem.1 h1
      rw [List.length_take] at hj
      have h2 := inc_getD h.inc (e0, 0) (show j < k by omega) hk
      rw [← hm] at h2
      have h3 : ds.getD j (e0, 0) = m := by
        rw [getD_at (show j < ds.length by omega)]
        rw [← hje]
        simp
      rw [h3, swoM.irrefl] at h2
      cases h2
  have hV : (cutS s (inM (ds.take k))).V m = some v := by show (if inM (ds.take k) m then none else s.V m) = _; rw [hnot]; exact hv
  unfold dropR
  rw [hV]
  simp only
  rw [if_neg hs]
  unfold dropS cutS
  congr 1
  funext z
  have ea : inM (ds.take k ++ [m]) z = (inM (ds.take k) z || decide (m = z)) := by simp [inM, List.any_append]
  rw [ea]
  by_cases e : z = m
  · subst e; simp
  · rw [if_neg e]
    have e' : ¬ m = z := fun h => e h.symm
    simp [e']
theorem collect_nil (w : World) (now ret : Int) : Calls Try.prog 9 #[.pointer none, .int .i64 now, .int .i64 ret] w fun e w' => e = .returned (.tuple #[.slice none 0 0, .int .i64 1]) ∧ Keeps no w w' := by
  have h1 := due_nil w now ret
  go_enter Try.func9, Try.ntmps9
  go_wp2_with (go_at_call 7; refine h1.mono ?_; rintro e w' ⟨rfl, hk⟩)
  go_loopw [11, 21] (fun _ i wr => i = .int .i64 0 ∧ wr = w') (fun _ i _ => 0)
  case atStart => exact ⟨rfl, rfl⟩
  case round =>
    obtain ⟨rfl, rfl⟩ := hrel
    go_wp2_with fail
    go_ret2
    exact ⟨rfl, hk⟩
theorem collect_bad (w : World) (p : Nat) (now ret : Int) (hb : (tickB now && retB ret) = false) : Calls Try.prog 9 #[.pointer (some ⟨p, 0, none⟩), .int .i64 now, .int .i64 ret] w fun e w' => e = .returned (.tuple #[.slice none 0 0, .int .i64 1]) ∧ Keeps no w w' := by
  have h1 := due_bad w p now ret hb
  clear hb
  go_enter Try.func9, Try.ntmps9
  go_wp2_with (go_at_call 7; refine h1.mono ?_; rintro e w' ⟨rfl, hk⟩)
  go_loopw [11, 21] (fun _ i wr => i = .int .i64 0 ∧ wr = w') (fun _ i _ => 0)
  case atStart => exact ⟨rfl, rfl⟩
  case round =>
    obtain ⟨rfl, rfl⟩ := hrel
    go_wp2_with fail
    go_ret2
    exact ⟨rfl, hk⟩
section
variable {w0 w w' : World} {p : Nat} {s : St} {N : Nat} {P : Nat → Prop}
set_option maxRecDepth 10000 in
set_option maxHeartbeats 1000000 in
theorem Ow.collect (h : Ow w0 w p s N P) (now ret : Int) (ht : tickB now = true) (hr : retB ret = true) (hN : N ≤ 1954687338211) :
    Calls Try.prog 9 #[.pointer (some ⟨p, 0, none⟩), .int .i64 now, .int .i64 ret] w fun e w' => ∃ v, e = .returned (.tuple #[v, .int .i64 0]) ∧ ∃ o n c ds, v = .slice o n c ∧ Hid (n = ds.length) ∧ Hid (Own WE w' o c ds ∧ New w o ∧ Ow w0 w' p (collS s (now - ret)) N (fun b => P b ∨ inO o b) ∧ Keeps (fun b => ¬ P b) w w') ∧ Hid (IsDue s (now - ret) ds ∧ ds.length ≤ N) := by
  have h1 := h.due now ret ht hr hN
  have HO : Hid (Ow w0 w p s N P ∧ N ≤ 1954687338211) := ⟨h, hN⟩
  clear h ht hr hN
  go_enter Try.func9, Try.ntmps9
  go_wp2_with (go_at_call 7; refine h1.mono ?_; rintro e w1 ⟨v, rfl, o, n, c, ds, rfl, hn, hd, his⟩)
  have hnb : (n : Int) ≤ 1954687338211 := by have := his.out.2; have := HO.out.2; have := hn.out; omega
  obtain ⟨P', hP'⟩ : ∃ P' : Nat → Prop, P' = fun b => P b ∨ (w.heap.size ≤ b ∧ b < w1.heap.size) := ⟨_, rfl⟩
  have hO1 := HO.out.1.grow hd.out.2.2
  rw [← hP'] at hO1
  have H1 : Hid (Ow w0 w1 p s N P' ∧ (∀ b, P b → P' b) ∧ ∀ b, inO o b → P' b) := ⟨hO1, fun b hb => by rw [hP']; exact .inl hb, fun b hb => by rw [hP']; exact .inr ⟨hd.out.2.1 b hb, hd.out.1.lt b hb⟩⟩
  clear h1 hP' hO1
  go_loopw [11, 21] (fun _ i wr => ∃ k : Nat, k ≤ n ∧ i = .int .i64 k ∧ Hid (Ow w0 wr p (cutS s (inM (ds.take k))) N P' ∧ Keeps (fun b => ¬ P' b) w1 wr)) (fun _ i _ => n - (intOf i).toNat)
  case atStart => exact ⟨0, by omega, rfl, by rw [show ds.take 0 = [] from rfl, cutS_nil]; exact H1.out.1, Keeps.refl _ _⟩
  case round =>
    obtain ⟨k, hk, rfl, HG⟩ := hrel
    by_cases hlt : k < n
    · have hkl : k < ds.length := by rw [← hn.out]; exact hlt
      have hod : Own WE wr o c ds := hd.out.1.keeps HG.out.2 (fun b hb hc => hc (H1.out.2.2 b hb))
      obtain ⟨b, off, rfl, d0, d1⟩ := atW hod.sl hkl
      have hstep := his.out.1.step hkl
      obtain ⟨m, hm⟩ : ∃ m, m = ds.getD k (e0, 0) := ⟨_, rfl⟩
      have hin : m ∈ ds := by rw [hm]; exact getD_mem_lt _ hkl
      rw [← hm] at d0 d1 hstep
      obtain ⟨v, hv, h8, h9⟩ := dueB_iff.1 ((his.out.1.is m).1 hin)
      have hok : KM.ok m := ⟨by have := HO.out.1.ok.v.size hv; unfold maxLen; omega, (HO.out.1.ok.v.id m v hv).2⟩
      obtain ⟨mk, mi⟩ := m
      have hdr := (HG.out.1.go ((Keeps.refl no wr).alloc (.cells #[.string mk, .int .u64 ((mi : Nat) : Int)] 37))).drop mk mi hok
      rw [hstep] at hdr
      have HAL : Hid (Keeps no wr (wr.alloc (.cells #[.string mk, .int .u64 ((mi : Nat) : Int)] 37))) := (Keeps.refl no wr).alloc _
      clear hkl hod hstep hm hin hv hok h8 h9 v
      simp only at d0 d1
      generalize dropE (cutS s (inM (ds.take k))) (mk, mi) = de at hdr
      go_wp2_with (go_at_call 23; refine hdr.mono ?_; rintro e w2 ⟨rfl, h2⟩)
      go_roundw
      case rel => exact ⟨k + 1, by omega, by go_num, h2.out.1, HG.out.2.trans (HAL.out.of_no.trans h2.out.2)⟩
      case measure => simp [intOf]; omega
    · have HT : Hid (ds.take k = ds) := List.take_of_length_le (by rw [← hn.out]; omega)
      rw [HT.out] at HG
      go_wp2_with fail
      go_ret2
      refine ⟨_, rfl, o, n, c, ds, rfl, hn, ⟨hd.out.1.keeps HG.out.2 (fun b hb hc => hc (H1.out.2.2 b hb)), hd.out.2.1, ?_, ?_⟩, his⟩
      · have := HG.out.1
        rw [his.out.1.cut] at this
        exact this.sub fun b hb => by
          rcases hb with hb | hb
          · exact H1.out.2.1 b hb
          · exact H1.out.2.2 b hb
      · exact hd.out.2.2.of_no.trans (HG.out.2.mono fun b hb hc => hb (H1.out.2.1 b hc))
end
end Go.Proofs.Ytagekdmkidbhpaa

/- The document's net: Send, Twin. -/
import Derived.Test.YtdbejihkliafiaaD4
namespace Go.Proofs.Ytdbejihkliafiaa
open Go.RowKit Go.Sort
set_option linter.unusedVariables false
set_option linter.unusedSimpArgs false

theorem nto_same {Is : World → Nat → (Nat → Prop) → NS → Prop} {w : World} {p : Nat} {F : Nat → Prop} {s : NS} {v : Value} (h : Is w p F s) : NTo Is w p F v s (.returned v) w := ⟨rfl, F, h, fun i hi => .inl hi, Keeps.refl _ _⟩
set_option maxRecDepth 10000 in
set_option maxHeartbeats 4000000 in
theorem dSend_any (w : World) (p : Nat) (F : Nat → Prop) (s : NS) (K : Nat) (a b : Int) (o : Option Addr) (n c : Nat) (bs : List UInt8) (h : IsD w p F s) (hw : NWf s K) (hK : K ≤ 2600000000000) (hn : n = bs.length) (hl : bs.length ≤ 140737488355328) (hs : Sl BE w o c bs) (ho : bs ≠ [] → ∀ i, inO o i → ¬ F i) :
    Calls Try.prog 28 #[.pointer (some ⟨p, 0, none⟩), .int .i64 a, .int .i64 b, .slice o n c] w (NTo IsD w p F (.tuple #[.int .i64 ((sendN s a b : Nat) : Int), .int .i64 (sendE s a b)]) (sendS s a b bs)) := by
  have hpF : F p := by
    obtain ⟨o', n', c', rs', h'⟩ := h
    exact h'.pF
  have HNA : Hid (Calls Try.prog 36 #[.pointer (some ⟨p, 0, none⟩), .int .i64 a] w fun e w' => e = .returned (.bool (nodeS s a)) ∧ w' = w) := dNode_any w p F s K a h hw
  have HNB : Hid (Calls Try.prog 36 #[.pointer (some ⟨p, 0, none⟩), .int .i64 b] w fun e w' => e = .returned (.bool (nodeS s b)) ∧ w' = w) := dNode_any w p F s K b h hw
  have HPU : Hid (Calls Try.prog 37 #[.pointer (some ⟨p, 0, none⟩), .int .i64 a, .int .i64 b, .slice o n c] w (NTo IsD w p F (.int .i64 (((s.num + 1 : Nat)) : Int)) (putS s a b bs))) := dPut_any w p F s K a b o n c bs h hw hK hn hl (fun X hX => hs.keepsE hX (fun hb i hi e => ho hb i hi (by rw [e]; exact hpF)))
  have HNO : Hid (canS s a b = false → NTo IsD w p F (.tuple #[.int .i64 ((sendN s a b : Nat) : Int), .int .i64 (sendE s a b)]) (sendS s a b bs) (.returned (.tuple #[.int .i64 0, .int .i64 210])) w) := by
    intro hc
    have hc' : ¬ canS s a b = true := by rw [hc]; simp
    unfold sendN sendE sendS
    rw [if_neg hc', if_neg hc', if_neg hc']
    exact nto_same h
  have HYE : Hid (canS s a b = true → ∀ w' G, IsD w' p G (putS s a b bs) → (∀ i, G i → F i ∨ w.heap.size ≤ i) → Keeps F w w' → NTo IsD w p F (.tuple #[.int .i64 ((sendN s a b : Nat) : Int), .int .i64 (sendE s a b)]) (sendS s a b bs) (.returned (.tuple #[.int .i64 (((s.num + 1 : Nat)) : Int), .int .i64 0])) w') := by
    intro hc w' G g1 g2 g3
    unfold sendN sendE sendS
    rw [if_pos hc, if_pos hc, if_pos hc]
    exact ⟨rfl, G, g1, g2, g3⟩
  have HCA : Hid (canS s a b = (nodeS s a && nodeS s b && (decide (a < 0) != decide (b < 0)))) := rfl
  clear h hw hK hn hl hs ho hpF
  generalize nodeS s a = N1 at *
  generalize nodeS s b = N2 at *
  go_enter Try.func28, Try.ntmps28
  go_wp2_with fail
  refine HNA.out.mono ?_
  rintro e w1 ⟨rfl, hw1⟩
  subst w1
  cases N1 with
  | false =>
    have HX : Hid (NTo IsD w p F (.tuple #[.int .i64 ((sendN s a b : Nat) : Int), .int .i64 (sendE s a b)]) (sendS s a b bs) (.returned (.tuple #[.int .i64 0, .int .i64 210])) w) := HNO.out (by rw [HCA.out]; rfl)
    clear HNA HNB HPU HNO HYE HCA
    generalize sendN s a b = x1 at *
    generalize sendE s a b = x2 at *
    go_wp2_with fail
    go_ret2
    exact HX.out
  | true =>
    go_wp2_with fail
    refine HNB.out.mono ?_
    rintro e w1 ⟨rfl, hw1⟩
    subst w1
    cases N2 with
    | false =>
      have HX : Hid (NTo IsD w p F (.tuple #[.int .i64 ((sendN s a b : Nat) : Int), .int .i64 (sendE s a b)]) (sendS s a b bs) (.returned (.tuple #[.int .i64 0, .int .i64 210])) w) := HNO.out (by rw [HCA.out]; rfl)
      clear HNA HNB HPU HNO HYE HCA
      generalize sendN s a b = x1 at *
      generalize sendE s a b = x2 at *
      go_wp2_with fail
      go_ret2
      exact HX.out
    | true =>
      by_cases hc : canS s a b = true
      · have HY : Hid (∀ w' G, IsD w' p G (putS s a b bs) → (∀ i, G i → F i ∨ w.heap.size ≤ i) → Keeps F w w' → NTo IsD w p F (.tuple #[.int .i64 ((sendN s a b : Nat) : Int), .int .i64 (sendE s a b)]) (sendS s a b bs) (.returned (.tuple #[.int .i64 (((s.num + 1 : Nat)) : Int), .int .i64 0])) w') := HYE.out hc
        have hd : (a < 0 ∧ ¬ b < 0) ∨ (¬ a < 0 ∧ b < 0) := by
          have h := HCA.out
          rw [hc] at h
          by_cases h1 : a < 0 <;> by_cases h2 : b < 0 <;> simp [h1, h2] at h ⊢
        clear HNA HNB HNO HYE HCA hc
        generalize sendN s a b = x1 at *
        generalize sendE s a b = x2 at *
        rcases hd with ⟨h1, h2⟩ | ⟨h1, h2⟩
        all_goals
          go_wp2_with fail
          refine HPU.out.mono ?_
          rintro e w2 ⟨rfl, G, g1, g2, g3⟩
          have HZ : Hid (NTo IsD w p F (.tuple #[.int .i64 (x1 : Nat), .int .i64 x2]) (sendS s a b bs) (.returned (.tuple #[.int .i64 (((s.num + 1 : Nat)) : Int), .int .i64 0])) w2) := HY.out w2 G g1 g2 g3
          clear g1 g2 g3 HY HPU
          go_wp2_with fail
          go_ret2
          exact HZ.out
      · have HX : Hid (NTo IsD w p F (.tuple #[.int .i64 ((sendN s a b : Nat) : Int), .int .i64 (sendE s a b)]) (sendS s a b bs) (.returned (.tuple #[.int .i64 0, .int .i64 210])) w) := HNO.out (by simpa using hc)
        have hd : (a < 0 ∧ b < 0) ∨ (¬ a < 0 ∧ ¬ b < 0) := by
          have h := HCA.out
          by_cases h1 : a < 0 <;> by_cases h2 : b < 0 <;> simp [h1, h2] at h ⊢ <;> exact hc h
        clear HNA HNB HPU HNO HYE HCA hc
        generalize sendN s a b = x1 at *
        generalize sendE s a b = x2 at *
        rcases hd with ⟨h1, h2⟩ | ⟨h1, h2⟩
        · go_wp2_with fail
          go_ret2
          exact HX.out
        · have d1 : decide (a < 0) = false := by simp; omega
          have d2 : decide (b < 0) = false := by simp; omega
          have h1' : ¬ a < 0 := by omega
          have h2' : ¬ b < 0 := by omega
          clear h1 h2
          go_wp2_with fail
          go_ret2
          exact HX.out
set_option maxRecDepth 10000 in
set_option maxHeartbeats 4000000 in
theorem dTwin_any (w : World) (p : Nat) (F : Nat → Prop) (s : NS) (K : Nat) (pl : Int) (h : IsD w p F s) (hw : NWf s K) (hK : K ≤ 2600000000000) (hpb : -9223372036854775808 ≤ pl ∧ pl ≤ 9223372036854775807) :
    Calls Try.prog 32 #[.pointer (some ⟨p, 0, none⟩), .int .i64 pl] w (NTo IsD w p F (.tuple #[.int .i64 ((twinN s pl : Nat) : Int), .int .i64 (errS s pl)]) (twinS s pl)) := by
  have hD := h
  obtain ⟨o, n, c, rs, h⟩ := h
  obtain ⟨-, -, -, c3⟩ := h.cells
  have hnb : (n : Int) ≤ 2600000000000 := by have := hw.len; have := hw.num; have := h.n; omega
  have hlt : p < w.heap.size := lt_of_block h.blk
  by_cases hh : hasS s pl = true
  · obtain ⟨k, rfl, hk⟩ := (has_iff s pl).1 hh
    have hkn : (k : Int) < n := by have := h.n; omega
    have hk0 : ¬ (k : Int) < 0 := by omega
    have hk1 : ¬ (n : Int) ≤ k := by omega
    obtain ⟨bL, eL, hfL, A4⟩ := own_at4 okD h.fs.own (j := k) (by rw [h.fs.len]; exact hk)
    subst eL
    have hbl : bL < w.heap.size := World.block_lt_of_cell? w _ A4.c0
    have hr := h.fs.each k hk
    have ed : delF s (k : Int) = s.fl.getD k fr0 := by unfold delF; rw [if_pos hh]; rfl
    have e1 : errS s (k : Int) = 0 := by unfold errS; rw [if_pos hh]
    have e2 : twinN s (k : Int) = s.num + 1 := by unfold twinN; rw [if_pos hh]
    have hfl := hw.delF hh
    have hne := h.ne (by decide) (by decide)
    rw [← ed] at hr
    have e3 : twinS s (k : Int) = putS s (delF s k).frm (delF s k).dst (delF s k).bs := by unfold twinS; rw [if_pos hh]
    rw [e1, e2, e3]
    have HPU : Hid (∀ X, Keeps no w X → Calls Try.prog 37 #[.pointer (some ⟨p, 0, none⟩), .int .i64 (delF s k).frm, .int .i64 (delF s k).dst, .slice (rs.getD k rf0).o (rs.getD k rf0).n (rs.getD k rf0).c] X (NTo IsD X p F (.int .i64 (((s.num + 1 : Nat)) : Int)) (putS s (delF s k).frm (delF s k).dst (delF s k).bs))) := by
      intro X hX
      refine dPut_any X p F s K _ _ _ _ _ (delF s k).bs (hD.keepsN hX) hw hK hr.n hfl.2.1 (fun Y hY => ((hr.bz.keepsN hX).keeps hY (fun i hi e => ?_)).sl)
      exact hne i (.inr ⟨k, hk, hi⟩) e
    have q1 := hr.frm
    have q2 := hr.dst
    generalize delF s k = f at *
    generalize rs.getD k rf0 = r at *
    obtain ⟨r0, r1, r2, ro, rn, rc⟩ := r
    obtain ⟨a0, a1, a2, a3⟩ := A4
    simp only [Nat.zero_add] at a0 a1 a2 a3 q1 q2 HPU
    subst q1 q2
    clear hr hfl hne hD h hw hK hk hh e1 e2 e3 ed hfL hpb
    go_enter Try.func32, Try.ntmps32
    go_wp2_with fail
    refine (HPU.out _ ((Keeps.refl _ _).alloc _)).mono ?_
    rintro e w2 ⟨rfl, G, g1, g2, g3⟩
    have HZ : Hid (NTo IsD w p F (.tuple #[.int .i64 (((s.num + 1 : Nat)) : Int), .int .i64 0]) (putS s f.frm f.dst f.bs) (.returned (.tuple #[.int .i64 (((s.num + 1 : Nat)) : Int), .int .i64 0])) w2) := ⟨rfl, G, g1, fun i hi => (g2 i hi).imp (fun h => h) (fun h => by simp at h; omega), ((Keeps.refl F w).alloc _).trans g3⟩
    clear g1 g2 g3 HPU a0 a1 a2 a3
    go_wp2_with fail
    go_ret2
    exact HZ.out
  · have e1 : errS s pl = 210 := by unfold errS; rw [if_neg hh]
    have e2 : twinN s pl = 0 := by unfold twinN; rw [if_neg hh]
    have e3 : twinS s pl = s := by unfold twinS; rw [if_neg hh]
    have hcs : pl < 0 ∨ (¬ pl < 0 ∧ (n : Int) ≤ pl) := by
      have h1 := h.n
      by_cases h0 : pl < 0
      · exact .inl h0
      · refine .inr ⟨h0, ?_⟩
        rcases (by omega : pl < (n : Int) ∨ (n : Int) ≤ pl) with h2 | h2
        · exact absurd ((has_iff s pl).2 ⟨pl.toNat, by omega, by omega⟩) hh
        · exact h2
    rw [e1, e2, e3]
    have HX : Hid (NTo IsD w p F (.tuple #[.int .i64 ((0 : Nat) : Int), .int .i64 210]) s (.returned (.tuple #[.int .i64 ((0 : Nat) : Int), .int .i64 210])) w) := nto_same hD
    clear hD h hw hK hh e1 e2 e3
    rcases hcs with h0 | ⟨h0, h1⟩
    all_goals
      go_enter Try.func32, Try.ntmps32
      go_wp2_with fail
      go_ret2
      exact HX.out
end Go.Proofs.Ytdbejihkliafiaa

/- lent, kept. -/
import Derived.Test.YtghnhkhhpeoheaaGreatDN
namespace Go.Proofs.YtghnhkhhpeoheaaGreat
open Go.RowKit Go.Sort Orl
set_option linter.unusedVariables false
set_option linter.unusedSimpArgs false

abbrev spT : Tx := ⟨#[115, 112, 97, 114, 101]⟩
theorem own_pre {α : Type} {E : El α} (hE : E.Ok) {w : World} {o : Option Addr} {c : Nat} {xs zs : List α} (h : Own E w o c (xs ++ zs)) : Own E w o c xs := by
  rcases h.shape with ⟨rfl, rfl, e⟩ | ⟨g, cur, rfl, hg, hc, hm, hs, ht⟩
  · have : xs = [] := (List.append_eq_nil_iff.1 e).1
    subst this; exact own_nil w
  · rw [List.length_append] at hc
    refine own_of_shape hE hg (by omega) hm hs ?_
    rw [cells_append, List.length_append, Nat.add_mul] at ht
    have h1 := congrArg (List.take (xs.length * E.k)) ht
    rw [List.take_take, Nat.min_eq_left (by omega), List.take_append_of_le_length (by rw [cells_length hE]; omega), List.take_of_length_le (l := E.cells xs) (by rw [cells_length hE]; omega)] at h1
    exact h1
def LentTo (w : World) (l : List Pr) (n : Nat) (e : Ending) (w' : World) : Prop := ∃ g c, e = .returned (.slice (some ⟨g, 0, none⟩) n c) ∧ Own PE w' (some ⟨g, 0, none⟩) c (l ++ [(spT, e0)]) ∧ w.heap.size ≤ g ∧ Keeps no w w'
set_option maxRecDepth 10000 in
set_option maxHeartbeats 2000000 in
theorem lent_any (w : World) (o : Option Addr) (n c : Nat) (l : List Pr) (hn : n = l.length) (hl : l.length ≤ 4398046511000) (hs : Sl PE w o c l) :
    Calls Tryz.prog 6 #[.slice o n c] w (LentTo w l n) := by
  have HS : Hid (n = l.length ∧ l.length ≤ 4398046511000 ∧ Sl PE w o c l) := ⟨hn, hl, hs⟩
  have hn8 : (n : Int) ≤ 4398046511000 := by omega
  have HB : Hid ((([] : List Pr).length + l.length) * PE.nb ≤ 140737488355328 ∧ ([] : List Pr).length + l.length ≤ 140737488355328 ∧ (l.length + 1) * PE.nb ≤ 140737488355328 ∧ l.length + 1 ≤ 140737488355328) := by
    refine ⟨?_, ?_, ?_, ?_⟩ <;> simp [PE] <;> omega
  clear hn hl hs
  unfold LentTo
  go_enter Tryz.func6, Tryz.ntmps6
  go_upto_region 3 with (at_builtin; first | (refine wpList_app okP rfl _ _ rfl none 0 0 [] rfl rfl (own_nil _) o n c l rfl HS.out.1 HS.out.2.2.nil HS.out.2.2.row HB.out.1 HB.out.2.1 ?_; intro o1 c1 w1 ho1 ha1; have H1 : Hid (Own PE w1 o1 c1 l ∧ New w o1 ∧ Keeps no w w1) := ⟨by simpa using ho1, ha1.new (new_none _) (Keeps.refl no w)⟩; clear ho1 ha1) | (refine wpList_app okP rfl _ _ rfl o1 n c1 l rfl HS.out.1 (H1.out.1.keepsN ((Keeps.refl _ _).alloc _)) _ _ _ [(spT, e0)] rfl rfl (fun h => by cases h) (lit_one (E := PE) w1 (spT, e0) _ rfl).row HB.out.2.2.1 HB.out.2.2.2 ?_; intro o2 c2 w2 ho2 ha2))
  have h5 := ha2.new H1.out.2.1 (H1.out.2.2.alloc _)
  obtain ⟨g, rfl, hgc⟩ : ∃ g, o2 = some ⟨g, 0, none⟩ ∧ n + 1 ≤ c2 := by
    rcases ho2.shape with ⟨_, _, e⟩ | ⟨g, cur, e, _, hc, _⟩
    · exact absurd e (by simp)
    · exact ⟨g, e, by rw [List.length_append] at hc; have := HS.out.1; simp at hc; omega⟩
  have HF : Hid (Own PE w2 (some ⟨g, 0, none⟩) c2 (l ++ [(spT, e0)]) ∧ w.heap.size ≤ g ∧ Keeps no w w2) := ⟨ho2, h5.1 g ⟨_, rfl, rfl⟩, h5.2⟩
  have hc0 : (0 : Int) ≤ (n : Int) := by omega
  have hc1 : (n : Int) ≤ (c2 : Int) := by omega
  clear ho2 ha2 h5 H1 HB HS hgc
  go_wp2_with fail
  go_ret
  exact ⟨g, c2, rfl, HF.out⟩
/-- kept: they are as they were; then they are written over -/
abbrev ovT : Tx := ⟨#[111, 118, 101, 114]⟩
set_option maxRecDepth 10000 in
set_option maxHeartbeats 2000000 in
theorem kept_any (w : World) (g c : Nat) (o : Option Addr) (n cl : Nat) (l : List Pr) (hn : n = l.length) (hl : l.length ≤ 4398046511000) (hm : Own PE w (some ⟨g, 0, none⟩) c (l ++ [(spT, e0)])) (hs : Sl PE w o cl l) :
    Calls Tryz.prog 9 #[.slice (some ⟨g, 0, none⟩) n c, .slice o n cl] w fun e w' => e = .returned (.bool true) ∧ Keeps (fun i => i = g) w w' := by
  have HSP : Hid (Calls Tryz.prog 32 #[.slice (some ⟨g, 0, none⟩) n c, .slice o n cl] w fun e w' => (∃ B : Bool, e = .returned (.bool B) ∧ Hid (B = true ↔ l = l)) ∧ Keeps no w w') := sameP_any w _ n c o n cl l l hn hn hl hl (own_pre okP hm).sl hs
  have hn8 : (n : Int) ≤ 4398046511000 := by omega
  have hgc : n + 1 ≤ c := by have := hm.cap.1; rw [List.length_append] at this; simp at this; omega
  have HM : Hid (∀ X, Keeps no w X → Own PE X (some ⟨g, 0, none⟩) c (l ++ [(spT, e0)])) := fun X hX => hm.keepsN hX
  have HN : Hid (n = l.length) := hn
  clear hn hl hm hs
  go_enter Tryz.func9, Tryz.ntmps9
  go_wp2_with fail
  refine Calls.mono HSP.out ?_
  rintro e w1 ⟨⟨B, rfl, hB⟩, hk1⟩
  have hBt : B = true := by have h := hB.out; simpa using h
  subst hBt
  obtain ⟨b5, off5, e5, d5, _⟩ := (HM.out w1 hk1).sl.atP (j := n) (by have := HN.out; simp; omega)
  injection e5 with e6
  injection e6 with e7 e8 _
  subst e7 e8
  rw [getD_app, if_neg (by have := HN.out; omega)] at d5
  have e9 : n - l.length = 0 := by have := HN.out; omega
  rw [e9, Nat.zero_add] at d5
  have d6 : w1.cell? ⟨g, n * 2, none⟩ = some (.string spT) := d5
  have HI0 : Hid (∃ xs, xs.length = n + 1 ∧ Own PE w1 (some ⟨g, 0, none⟩) c xs ∧ Keeps (fun i => i = g) w w1) := ⟨_, by have := HN.out; simp; omega, HM.out w1 hk1, hk1.of_no⟩
  have hc1 : (n : Int) + 1 ≤ (c : Int) := by omega
  have hc2 : (0 : Int) ≤ (n : Int) + 1 := by omega
  have hc3 : (n : Int) < (n : Int) + 1 := by omega
  clear HSP hB hk1 d5 e9
  go_wp2_with fail
  go_loopw [6] (fun s6 wr => ∃ i : Nat, i ≤ n ∧ s6 = .int .i64 i ∧ Hid (∃ xs, xs.length = n + 1 ∧ Own PE wr (some ⟨g, 0, none⟩) c xs ∧ Keeps (fun i => i = g) w wr)) (fun s6 _ => n - (intOf s6).toNat)
  case atStart => exact ⟨0, by omega, rfl, HI0.out⟩
  case round =>
    clear HI0 d6
    rename World => wr
    obtain ⟨i, hi, rfl, HR⟩ := hrel
    by_cases hlt : i < n
    · have hlt' : (i : Int) < n := by omega
      obtain ⟨xs, hx, hox, hkx⟩ := HR.out
      obtain ⟨g2, e2, hf, ho2, hk2⟩ := hox.storeE okP i (by omega) (ovT, ovT)
      injection e2 with e3
      injection e3 with e4 _ _
      subst e4
      obtain ⟨b5, off5, e5, d5, d6⟩ := hox.sl.atP (j := i) (by omega)
      injection e5 with e6
      injection e6 with e7 e8 _
      subst e7 e8
      rw [Nat.zero_add] at d5 d6
      have f1 := hf (i * 2)
      have f2 := hf (i * 2 + 1)
      have HN2 : Hid (∃ xs, xs.length = n + 1 ∧ Own PE ((wr.setCell ⟨g, i * 2, none⟩ (.string ovT)).setCell ⟨g, i * 2 + 1, none⟩ (.string ovT)) (some ⟨g, 0, none⟩) c xs ∧ Keeps (fun i => i = g) w ((wr.setCell ⟨g, i * 2, none⟩ (.string ovT)).setCell ⟨g, i * 2 + 1, none⟩ (.string ovT))) :=
        ⟨_, by rw [List.length_set]; exact hx, ho2, hkx.trans (hk2.mono (fun j hj => by obtain ⟨x, e, rfl⟩ := hj; cases e; rfl))⟩
      clear hx hox hkx hf ho2 hk2 HR
      go_wp2_with fail
      go_roundw
      case rel => exact ⟨i + 1, by omega, by go_num, HN2.out⟩
      case measure => simp [intOf]; omega
    · have hlt' : ¬ (i : Int) < n := by omega
      obtain ⟨xs, hx, hox, hkx⟩ := HR.out
      have HK : Hid (Keeps (fun i => i = g) w wr) := hkx
      clear hx hox hkx HR
      go_wp2_with fail
      go_ret
      exact ⟨rfl, HK.out⟩
end Go.Proofs.YtghnhkhhpeoheaaGreat

/- What a message answers; the end of a write. -/
import Derived.Test.YtghnhkhhpeoheaaGreatZ5
import Derived.Laws.EntriesVeiled
namespace Go.Proofs.YtghnhkhhpeoheaaGreat
open Go.RowKit Go.Sort Orl
set_option linter.unusedVariables false
set_option linter.unusedSimpArgs false

/-- the message that a partition sent -/
def aggR (k cl : Int) (req id : Nat) (v4 v5 v6 v7 : Option Addr) (n4 n5 n6 n7 c4 c5 c6 c7 : Nat) : Value := .agg #[.int .i64 k, .int .i64 cl, .int .u64 (req : Nat), .int .u64 (id : Nat), .slice v4 n4 c4, .slice v5 n5 c5, .slice v6 n6 c6, .slice v7 n7 c7]
/-- where the first such one stands -/
def idxZ (g : RZ → Bool) (rz : List RZ) : Int := match (List.range rz.length).find? (fun i => g (rz.getD i rz0)) with
  | some i => (i : Int)
  | none => -1
theorem idx_hit {g : RZ → Bool} {rz : List RZ} {k : Nat} (hk : k < rz.length) (h : ∀ j, j < k → g (rz.getD j rz0) = false) (hg : g (rz.getD k rz0) = true) : idxZ g rz = (k : Int) := by
  unfold idxZ
  have : (List.range rz.length).find? (fun i => g (rz.getD i rz0)) = some k := by
    rw [List.find?_range_eq_some]
    exact ⟨hg, List.mem_range.2 hk, fun j hj => by rw [h j hj]; rfl⟩
  rw [this]
theorem idx_none {g : RZ → Bool} {rz : List RZ} (h : ∀ j, j < rz.length → g (rz.getD j rz0) = false) : idxZ g rz = -1 := by
  unfold idxZ
  have : (List.range rz.length).find? (fun i => g (rz.getD i rz0)) = none := by
    rw [List.find?_eq_none]
    intro j hj
    rw [h j (List.mem_range.1 hj)]; simp
  rw [this]
def hitZ (part : Int) (req : Nat) (r : RZ) : Bool := !r.ans && decide (r.q.part = part) && decide (r.q.req = req)
def opnZ (r : RZ) : Bool := !r.ans
set_option maxRecDepth 10000 in
theorem hit1_any (w : World) (r : RZ) (A M : Nat) (part : Int) (req : Nat) (cA : w.cell? ⟨A, 0, none⟩ = some (.int .i64 part)) (cM : w.cell? ⟨M, 2, none⟩ = some (.int .u64 (req : Nat))) :
    Calls Tryz.prog 37 #[aggZ r, .pointer (some ⟨A, 0, none⟩), .pointer (some ⟨M, 0, none⟩)] w fun e w' => e = .returned (.bool (hitZ part req r)) ∧ Keeps no w w' := by
  obtain ⟨⟨x0, x1, x2, x3, x4, xpo, xpn, xpc, xko, xkn, xkc, xwo, xwc, xvo, xvc⟩, bz⟩ := r
  unfold aggZ hitZ
  simp only
  have cA' : ∀ o, (w.alloc o).cell? ⟨A, 0, none⟩ = some (.int .i64 part) := fun o => ((Keeps.refl no w).alloc o).cellN cA
  have cM' : ∀ o, (w.alloc o).cell? ⟨M, 2, none⟩ = some (.int .u64 (req : Nat)) := fun o => ((Keeps.refl no w).alloc o).cellN cM
  clear cA cM
  cases bz with
  | true =>
    go_enter Tryz.func37, Tryz.ntmps37
    go_wp2_with fail
    go_ret
    exact ⟨rfl, (Keeps.refl _ _).alloc _⟩
  | false =>
    by_cases h1 : x0 = part
    · have h1' : (x0 == part) = true := by simpa using h1
      obtain ⟨b, hb⟩ : ∃ b, b = decide (x3 = req) := ⟨_, rfl⟩
      have hb1 : (((x3 : Nat) : Int) == ((req : Nat) : Int)) = b := by rw [hb]; by_cases e : x3 = req <;> simp [e]; omega
      have hb2 : (x3 == req) = b := by rw [hb]; by_cases e : x3 = req <;> simp [e]
      have HE : Hid ((!false && decide (x0 = part) && decide (x3 = req)) = b) := by show _ = _; rw [hb, decide_eq_true h1]; rfl
      rw [HE.out]
      clear hb h1 HE
      go_enter Tryz.func37, Tryz.ntmps37
      go_wp2_with fail
      go_ret
      exact ⟨rfl, (Keeps.refl _ _).alloc _⟩
    · have h1' : (x0 == part) = false := by simpa using h1
      have HE : Hid ((!false && decide (x0 = part) && decide (x3 = req)) = false) := by show _ = _; rw [decide_eq_false h1]; rfl
      rw [HE.out]
      clear h1 HE
      go_enter Tryz.func37, Tryz.ntmps37
      go_wp2_with fail
      go_ret
      exact ⟨rfl, (Keeps.refl _ _).alloc _⟩
theorem opn1_any (w : World) (r : RZ) : Calls Tryz.prog 39 #[aggZ r] w fun e w' => e = .returned (.bool (opnZ r)) ∧ Keeps no w w' := by
  obtain ⟨⟨x0, x1, x2, x3, x4, xpo, xpn, xpc, xko, xkn, xkc, xwo, xwc, xvo, xvc⟩, bz⟩ := r
  unfold aggZ opnZ
  simp only
  go_enter Tryz.func39, Tryz.ntmps39
  go_wp2_with fail
  go_ret
  exact ⟨rfl, (Keeps.refl _ _).alloc _⟩
set_option maxRecDepth 10000 in
set_option maxHeartbeats 1000000 in
theorem indexH_any (w : World) (o : Option Addr) (n c : Nat) (rz : List RZ) (A M : Nat) (part : Int) (req : Nat) (hn : n = rz.length) (hl : rz.length ≤ 64) (hs : Own ZE w o c rz) (cA : w.cell? ⟨A, 0, none⟩ = some (.int .i64 part)) (cM : w.cell? ⟨M, 2, none⟩ = some (.int .u64 (req : Nat))) :
    Calls Tryz.prog 36 #[.slice o n c, .func (.func 37) #[] #[.pointer (some ⟨A, 0, none⟩), .pointer (some ⟨M, 0, none⟩)]] w fun e w' => e = .returned (.int .i64 (idxZ (hitZ part req) rz)) ∧ Keeps no w w' := by
  have H : Hid (n = rz.length ∧ rz.length ≤ 64 ∧ Own ZE w o c rz) := ⟨hn, hl, hs⟩
  have HC : Hid (∀ X, Keeps no w X → ∀ r, Calls Tryz.prog 37 #[aggZ r, .pointer (some ⟨A, 0, none⟩), .pointer (some ⟨M, 0, none⟩)] X fun e w' => e = .returned (.bool ((hitZ part req) r)) ∧ Keeps no X w') := fun X hX r => hit1_any X r A M part req (hX.cellN cA) (hX.cellN cM)
  have hnb : (n : Int) ≤ 64 := by omega
  clear hn hl hs cA cM
  go_enter Tryz.func36, Tryz.ntmps36
  go_wp2_with fail
  go_loopw [5, 8] (fun _ i wr => ∃ j : Nat, j ≤ n ∧ i = .int .i64 j ∧ Hid ((∀ t, t < j → (hitZ part req) (rz.getD t rz0) = false) ∧ Keeps no w wr)) (fun _ i _ => n - (intOf i).toNat)
  case atStart => exact ⟨0, by omega, rfl, fun t ht => by omega, Keeps.refl _ _⟩
  case round =>
    obtain ⟨j, hj, rfl, HJ⟩ := hrel
    by_cases hlt : j < n
    · have hlt' : (j : Int) < n := by omega
      have hjl : j < rz.length := by rw [← H.out.1]; exact hlt
      obtain ⟨b, hob, hfz, a0, a1, a2, a3, a4, a5, a6, a7, a8, a9⟩ := (H.out.2.2.keepsN HJ.out.2).atZ hjl
      simp only [Nat.zero_add] at a0 a1 a2 a3 a4 a5 a6 a7 a8 a9
      subst hob
      obtain ⟨x, hx⟩ : ∃ x, x = rz.getD j rz0 := ⟨_, rfl⟩
      rw [← hx] at a0 a1 a2 a3 a4 a5 a6 a7 a8 a9
      have HX : Hid (x = rz.getD j rz0 ∧ j < rz.length) := ⟨hx, hjl⟩
      have hc := fun X hX => HC.out X hX x
      have HCX : Hid (∀ X, Keeps no w X → Calls Tryz.prog 37 #[aggZ x, .pointer (some ⟨A, 0, none⟩), .pointer (some ⟨M, 0, none⟩)] X fun e w' => e = .returned (.bool ((hitZ part req) x)) ∧ Keeps no X w') := hc
      unfold aggZ at HCX
      clear hc hx hjl hfz
      obtain ⟨bg, hbg⟩ : ∃ bg, bg = (hitZ part req) x := ⟨_, rfl⟩
      rw [← hbg] at HCX
      have HBG : Hid (bg = (hitZ part req) x) := hbg
      clear hbg
      cases bg with
      | true =>
        go_wp2_with (go_at_call 37; refine (HCX.out _ HJ.out.2).mono ?_; rintro e w3 ⟨rfl, hk3⟩; have HK3 : Hid (Keeps no w w3) := HJ.out.2.trans hk3; clear hk3)
        go_ret
        have := idx_hit HX.out.2 HJ.out.1 (by rw [← HX.out.1]; exact HBG.out.symm)
        exact ⟨by rw [this]; rfl, HK3.out⟩
      | false =>
        go_wp2_with (go_at_call 37; refine (HCX.out _ HJ.out.2).mono ?_; rintro e w3 ⟨rfl, hk3⟩; have HK3 : Hid (Keeps no w w3) := HJ.out.2.trans hk3; clear hk3)
        go_roundw
        case rel =>
          refine ⟨j + 1, by omega, by go_num, fun t ht => ?_, HK3.out⟩
          by_cases e : t = j
          · rw [e, ← HX.out.1]; exact HBG.out.symm
          · exact HJ.out.1 t (by omega)
        case measure => simp [intOf]; omega
    · have hlt' : ¬ (j : Int) < n := by omega
      go_wp2_with fail
      go_ret
      have := idx_none (g := (hitZ part req)) (rz := rz) (fun t ht => HJ.out.1 t (by have := H.out.1; omega))
      exact ⟨by rw [this]; rfl, HJ.out.2⟩
set_option maxRecDepth 10000 in
set_option maxHeartbeats 1000000 in
theorem indexO_any (w : World) (o : Option Addr) (n c : Nat) (rz : List RZ) (hn : n = rz.length) (hl : rz.length ≤ 64) (hs : Own ZE w o c rz) :
    Calls Tryz.prog 36 #[.slice o n c, .func (.func 39) #[] #[]] w fun e w' => e = .returned (.int .i64 (idxZ opnZ rz)) ∧ Keeps no w w' := by
  have H : Hid (n = rz.length ∧ rz.length ≤ 64 ∧ Own ZE w o c rz) := ⟨hn, hl, hs⟩
  have HC : Hid (∀ X, Keeps no w X → ∀ r, Calls Tryz.prog 39 #[aggZ r] X fun e w' => e = .returned (.bool (opnZ r)) ∧ Keeps no X w') := fun X hX r => opn1_any X r
  have hnb : (n : Int) ≤ 64 := by omega
  clear hn hl hs 
  go_enter Tryz.func36, Tryz.ntmps36
  go_wp2_with fail
  go_loopw [5, 8] (fun _ i wr => ∃ j : Nat, j ≤ n ∧ i = .int .i64 j ∧ Hid ((∀ t, t < j → opnZ (rz.getD t rz0) = false) ∧ Keeps no w wr)) (fun _ i _ => n - (intOf i).toNat)
  case atStart => exact ⟨0, by omega, rfl, fun t ht => by omega, Keeps.refl _ _⟩
  case round =>
    obtain ⟨j, hj, rfl, HJ⟩ := hrel
    by_cases hlt : j < n
    · have hlt' : (j : Int) < n := by omega
      have hjl : j < rz.length := by rw [← H.out.1]; exact hlt
      obtain ⟨b, hob, hfz, a0, a1, a2, a3, a4, a5, a6, a7, a8, a9⟩ := (H.out.2.2.keepsN HJ.out.2).atZ hjl
      simp only [Nat.zero_add] at a0 a1 a2 a3 a4 a5 a6 a7 a8 a9
      subst hob
      obtain ⟨x, hx⟩ : ∃ x, x = rz.getD j rz0 := ⟨_, rfl⟩
      rw [← hx] at a0 a1 a2 a3 a4 a5 a6 a7 a8 a9
      have HX : Hid (x = rz.getD j rz0 ∧ j < rz.length) := ⟨hx, hjl⟩
      have hc := fun X hX => HC.out X hX x
      have HCX : Hid (∀ X, Keeps no w X → Calls Tryz.prog 39 #[aggZ x] X fun e w' => e = .returned (.bool (opnZ x)) ∧ Keeps no X w') := hc
      unfold aggZ at HCX
      clear hc hx hjl hfz
      obtain ⟨bg, hbg⟩ : ∃ bg, bg = opnZ x := ⟨_, rfl⟩
      rw [← hbg] at HCX
      have HBG : Hid (bg = opnZ x) := hbg
      clear hbg
      cases bg with
      | true =>
        go_wp2_with (go_at_call 39; refine (HCX.out _ HJ.out.2).mono ?_; rintro e w3 ⟨rfl, hk3⟩; have HK3 : Hid (Keeps no w w3) := HJ.out.2.trans hk3; clear hk3)
        go_ret
        have := idx_hit HX.out.2 HJ.out.1 (by rw [← HX.out.1]; exact HBG.out.symm)
        exact ⟨by rw [this]; rfl, HK3.out⟩
      | false =>
        go_wp2_with (go_at_call 39; refine (HCX.out _ HJ.out.2).mono ?_; rintro e w3 ⟨rfl, hk3⟩; have HK3 : Hid (Keeps no w w3) := HJ.out.2.trans hk3; clear hk3)
        go_roundw
        case rel =>
          refine ⟨j + 1, by omega, by go_num, fun t ht => ?_, HK3.out⟩
          by_cases e : t = j
          · rw [e, ← HX.out.1]; exact HBG.out.symm
          · exact HJ.out.1 t (by omega)
        case measure => simp [intOf]; omega
    · have hlt' : ¬ (j : Int) < n := by omega
      go_wp2_with fail
      go_ret
      have := idx_none (g := opnZ) (rz := rz) (fun t ht => HJ.out.1 t (by have := H.out.1; omega))
      exact ⟨by rw [this]; rfl, HJ.out.2⟩
theorem containsO_any (w : World) (o : Option Addr) (n c : Nat) (rz : List RZ) (hn : n = rz.length) (hl : rz.length ≤ 64) (hs : Own ZE w o c rz) :
    Calls Tryz.prog 38 #[.slice o n c, .func (.func 39) #[] #[]] w fun e w' => e = .returned (.bool (decide (0 ≤ idxZ opnZ rz))) ∧ Keeps no w w' := by
  have HX : Hid (Calls Tryz.prog 36 #[.slice o n c, .func (.func 39) #[] #[]] w fun e w' => e = .returned (.int .i64 (idxZ opnZ rz)) ∧ Keeps no w w') := indexO_any w o n c rz hn hl hs
  clear hn hl hs
  generalize idxZ opnZ rz = z at HX
  go_enter Tryz.func38, Tryz.ntmps38
  go_wp2_with fail
  refine HX.out.mono ?_
  rintro e w1 ⟨rfl, hk⟩
  have HK : Hid (Keeps no w w1) := hk
  clear hk
  go_wp2_with fail
  go_ret
  exact ⟨rfl, HK.out⟩
/-- does a message answer this round's questions? -/
def awB (ph : Int) (sid : Nat) (k : Int) (id : Nat) : Bool := (decide (ph = 1) && decide (k = 5) && decide (id = sid)) || (decide (ph = 2) && decide (k = 6) && decide (id = sid))
set_option maxRecDepth 10000 in
set_option maxHeartbeats 1000000 in
theorem awaits_any (w : World) (p sid : Nat) (ph : Int) (k cl : Int) (req id : Nat) (v4 v5 v6 v7 : Option Addr) (n4 n5 n6 n7 c4 c5 c6 c7 : Nat) (h0 : w.cell? ⟨p, 0, none⟩ = some (.int .u64 (sid : Nat))) (h2 : w.cell? ⟨p, 2, none⟩ = some (.int .i64 ph)) (hp : 0 ≤ ph ∧ ph ≤ 3) :
    Calls Tryz.prog 35 #[.pointer (some ⟨p, 0, none⟩), aggR k cl req id v4 v5 v6 v7 n4 n5 n6 n7 c4 c5 c6 c7] w fun e w' => e = .returned (.bool (awB ph sid k id)) ∧ Keeps no w w' := by
  unfold aggR
  obtain ⟨b, hb⟩ : ∃ b, b = decide (id = sid) := ⟨_, rfl⟩
  have hb1 : (((id : Nat) : Int) == ((sid : Nat) : Int)) = b := by rw [hb]; by_cases e : id = sid <;> simp [e]; omega
  have hb2 : (id == sid) = b := by rw [hb]; by_cases e : id = sid <;> simp [e]
  have HB : Hid (b = decide (id = sid)) := hb
  have hlt := World.block_lt_of_cell? w _ h0
  simp only at hlt
  have h0' : ∀ o, (w.alloc o).cell? ⟨p, 0, none⟩ = some (.int .u64 (sid : Nat)) := fun o => ((Keeps.refl no w).alloc o).cellN h0
  clear hb
  have hcs : ph = 0 ∨ ph = 1 ∨ ph = 2 ∨ ph = 3 := by omega
  clear hp
  rcases hcs with rfl | rfl | rfl | rfl
  · go_enter Tryz.func35, Tryz.ntmps35
    go_wp2_with fail
    go_ret
    exact ⟨by unfold awB; simp, (Keeps.refl _ _).alloc _⟩
  · by_cases e5 : k = 5
    · subst e5
      have HE : Hid (awB 1 sid 5 id = b) := by show _ = _; rw [HB.out]; unfold awB; simp
      rw [HE.out]
      clear HE HB
      go_enter Tryz.func35, Tryz.ntmps35
      go_wp2_with fail
      go_quiet (fail)
      go_wp2_with fail
      go_ret
      exact ⟨rfl, ((Keeps.refl _ _).alloc _).drewN _⟩
    · have e5' : (k == 5) = false := by simpa using e5
      have HE : Hid (awB 1 sid k id = false) := by show _ = _; unfold awB; simp [e5]
      rw [HE.out]
      clear HE HB e5
      go_enter Tryz.func35, Tryz.ntmps35
      go_wp2_with fail
      go_quiet (fail)
      go_wp2_with fail
      go_ret
      exact ⟨rfl, ((Keeps.refl _ _).alloc _).drewN _⟩
  · by_cases e5 : k = 6
    · subst e5
      have HE : Hid (awB 2 sid 6 id = b) := by show _ = _; rw [HB.out]; unfold awB; simp
      rw [HE.out]
      clear HE HB
      go_enter Tryz.func35, Tryz.ntmps35
      go_wp2_with fail
      go_quiet (fail)
      go_wp2_with fail
      go_ret
      exact ⟨rfl, ((Keeps.refl _ _).alloc _).drewN _⟩
    · have e5' : (k == 6) = false := by simpa using e5
      have HE : Hid (awB 2 sid k id = false) := by show _ = _; unfold awB; simp [e5]
      rw [HE.out]
      clear HE HB e5
      go_enter Tryz.func35, Tryz.ntmps35
      go_wp2_with fail
      go_quiet (fail)
      go_wp2_with fail
      go_ret
      exact ⟨rfl, ((Keeps.refl _ _).alloc _).drewN _⟩
  · go_enter Tryz.func35, Tryz.ntmps35
    go_wp2_with fail
    go_ret
    exact ⟨by unfold awB; simp, (Keeps.refl _ _).alloc _⟩
/-- the end of a write -/
theorem end_any (w : World) (p id : Nat) (nx : Value) (hnx : nx.oneCell' = true) (ph rs z : Int) (ro : Option Addr) (rn rc : Nat) (hb : w.heap[p]? = some (.cells (wrC id nx ph rs ro rn rc) 72 (0, 0))) :
    Calls Tryz.prog 41 #[.pointer (some ⟨p, 0, none⟩), .int .i64 z] w fun e w' => e = .returned (.tuple #[]) ∧ w'.heap[p]? = some (.cells (wrC id .nilFunc 3 z none 0 0) 72 (0, 0)) ∧ Keeps (fun i => i = p) w w' := by
  have b0 := cell_of_blk hb 0
  have b1 := cell_of_blk hb 1
  have b2 := cell_of_blk hb 2
  have b3 := cell_of_blk hb 3
  have b4 := cell_of_blk hb 4
  have f0 := frozen_of_blk hb 0
  have f1 := frozen_of_blk hb 1
  have f2 := frozen_of_blk hb 2
  have f3 := frozen_of_blk hb 3
  have f4 := frozen_of_blk hb 4
  simp only [wrC, List.getElem?_toArray, List.getElem?_cons_succ, List.getElem?_cons_zero] at b0 b1 b2 b3 b4
  have HE : Hid (∀ W, W = w.setCells p 0 [.int .u64 (id : Nat), .nilFunc, .int .i64 3, .int .i64 z, .slice none 0 0] → W.heap[p]? = some (.cells (wrC id .nilFunc 3 z none 0 0) 72 (0, 0)) ∧ Keeps (fun i => i = p) w W) := by
    rintro W rfl
    exact ⟨blk_whole hb _ rfl, keeps_setCells _ _ _⟩
  clear hb
  go_enter Tryz.func41, Tryz.ntmps41
  go_wp2_with fail
  go_end0
  have := HE.out _ rfl
  exact ⟨rfl, this⟩
theorem wGive_any (w : World) (p cp : Nat) (F : Nat → Prop) (s : WS) (h : IsWr w p cp F s) (hw : WfS s) :
    Calls Tryz.prog 17 #[.pointer (some ⟨p, 0, none⟩)] w fun e w' => e = .returned (.tuple #[]) ∧ IsWr w' p cp F (giveS s) ∧ Keeps F w w' := by
  by_cases he : s.ended = 0
  case neg =>
    have hb : w.heap[p]? = some (.cells (wrC s.id .nilFunc 3 (s.ended : Nat) none 0 0) 72 (0, 0)) := by
      rcases h.2.2 with ⟨_, hb⟩ | ⟨h0, _⟩
      · exact hb
      · exact absurd h0 he
    have c2 : w.cell? ⟨p, 2, none⟩ = some (.int .i64 3) := by rw [cell_of_blk hb]; rfl
    have HZ : Hid (IsWr w p cp F (giveS s)) := by rw [give_end he]; exact h
    clear h hw hb
    go_enter Tryz.func17, Tryz.ntmps17
    go_wp2_with fail
    go_end0
    exact ⟨rfl, HZ.out, Keeps.refl _ _⟩
  case pos =>
  obtain ⟨ro, rn, rc, rz, hl⟩ : ∃ ro rn rc rz, WrL w p cp F s.id (s.round : Nat) ro rn rc rz (qsIn s) (dsIn s) := by
    rcases h.2.2 with ⟨h0, _⟩ | ⟨_, h1⟩
    · exact absurd he h0
    · exact h1
  have c2 : w.cell? ⟨p, 2, none⟩ = some (.int .i64 (s.round : Nat)) := by rw [cell_of_blk hl.blk]; rfl
  have HE : Hid (∀ z : Nat, z = (if s.round = 2 then 4 else 3) → Calls Tryz.prog 41 #[.pointer (some ⟨p, 0, none⟩), .int .i64 (z : Nat)] w fun e w' => e = .returned (.tuple #[]) ∧ IsWr w' p cp F (giveS s) ∧ Keeps F w w') := by
    intro z hz
    refine (end_any w p s.id (fnC cp) rfl (s.round : Nat) 0 (z : Nat) ro rn rc hl.blk).mono ?_
    rintro e w' ⟨rfl, hb, hk⟩
    have hg : giveS s = { s with ended := z } := by unfold giveS; rw [if_pos he, hz]
    refine ⟨rfl, ⟨h.1, fun i hi => Nat.lt_of_lt_of_le (h.2.1 i hi) hk.size, .inl ⟨?_, ?_⟩⟩, hk.mono (fun i e => by rw [e]; exact h.1)⟩
    · rw [hg]; show ¬ z = 0; rw [hz]; split <;> omega
    · rw [hg]; exact hb
  have hrd := hw.round
  have hcs : s.round = 0 ∨ s.round = 1 ∨ s.round = 2 := by omega
  rcases hcs with hr | hr | hr
  · rw [hr] at c2
    have HF : Hid (Calls Tryz.prog 41 #[.pointer (some ⟨p, 0, none⟩), .int .i64 3] w fun e w' => e = .returned (.tuple #[]) ∧ IsWr w' p cp F (giveS s) ∧ Keeps F w w') := HE.out 3 (by rw [hr]; rfl)
    clear h hw hl hr hrd he HE
    go_enter Tryz.func17, Tryz.ntmps17
    go_wp2_with fail
    refine HF.out.mono ?_
    rintro e w' ⟨rfl, h1, h2⟩
    have HG : Hid (IsWr w' p cp F (giveS s) ∧ Keeps F w w') := ⟨h1, h2⟩
    clear h1 h2
    go_wp2_with fail
    go_end0
    exact ⟨rfl, HG.out⟩
  · rw [hr] at c2
    have HF : Hid (Calls Tryz.prog 41 #[.pointer (some ⟨p, 0, none⟩), .int .i64 3] w fun e w' => e = .returned (.tuple #[]) ∧ IsWr w' p cp F (giveS s) ∧ Keeps F w w') := HE.out 3 (by rw [hr]; rfl)
    clear h hw hl hr hrd he HE
    go_enter Tryz.func17, Tryz.ntmps17
    go_wp2_with fail
    refine HF.out.mono ?_
    rintro e w' ⟨rfl, h1, h2⟩
    have HG : Hid (IsWr w' p cp F (giveS s) ∧ Keeps F w w') := ⟨h1, h2⟩
    clear h1 h2
    go_wp2_with fail
    go_end0
    exact ⟨rfl, HG.out⟩
  · rw [hr] at c2
    have HF : Hid (Calls Tryz.prog 41 #[.pointer (some ⟨p, 0, none⟩), .int .i64 4] w fun e w' => e = .returned (.tuple #[]) ∧ IsWr w' p cp F (giveS s) ∧ Keeps F w w') := HE.out 4 (by rw [hr]; rfl)
    clear h hw hl hr hrd he HE
    go_enter Tryz.func17, Tryz.ntmps17
    go_wp2_with fail
    refine HF.out.mono ?_
    rintro e w' ⟨rfl, h1, h2⟩
    have HG : Hid (IsWr w' p cp F (giveS s) ∧ Keeps F w w') := ⟨h1, h2⟩
    clear h1 h2
    go_wp2_with fail
    go_end0
    exact ⟨rfl, HG.out⟩
end Go.Proofs.YtghnhkhhpeoheaaGreat

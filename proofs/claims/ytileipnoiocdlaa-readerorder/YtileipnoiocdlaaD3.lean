import Derived.Test.YtileipnoiocdlaaD2
import Derived.Test.YtileipnoiocdlaaKs
/- The program's places, agree. -/
namespace Go.Proofs.Ytileipnoiocdlaa
open Go.RowKit Go.Sort Orl
set_option linter.unusedVariables false
set_option linter.unusedSimpArgs false

/-- where the first k keys stand -/
structure Pl (vs : List Ver) (k : Nat) (L : List (Tx × Nat)) : Prop where
  at' : ∀ s a, fnd s L = some a → a < k ∧ (vs.getD a v0).key = s
  has : ∀ j, j < k → ¬ fnd (vs.getD j v0).key L = none
  le : L.length ≤ k
  len : L.length = k ↔ ∀ i j, i < j → j < k → ¬ (vs.getD i v0).key = (vs.getD j v0).key
theorem Pl.zero (vs : List Ver) : Pl vs 0 [] := ⟨fun s a h => by simp [fnd] at h, fun j hj => by omega, Nat.le_refl _, ⟨fun _ i j _ h => by omega, fun _ => rfl⟩⟩
theorem Pl.succ {vs : List Ver} {k : Nat} {L : List (Tx × Nat)} (h : Pl vs k L) (hn : Nk L) : Pl vs (k + 1) (Go.Proofs.Ytileipnoiocdlaa.put (vs.getD k v0).key k L) := by
  refine ⟨?_, ?_, ?_, ?_⟩
  · intro s a hs
    rw [fnd_put] at hs
    by_cases e : s = (vs.getD k v0).key
    · rw [if_pos e] at hs; cases hs; exact ⟨by omega, e.symm⟩
    · rw [if_neg e] at hs
      have := h.at' s a hs
      exact ⟨by omega, this.2⟩
  · intro j hj
    rw [fnd_put]
    by_cases e : (vs.getD j v0).key = (vs.getD k v0).key
    · rw [if_pos e]; simp
    · rw [if_neg e]
      by_cases e2 : j = k
      · subst e2; exact absurd rfl e
      · exact h.has j (by omega)
  · have := length_put_le (vs.getD k v0).key k L
    have := h.le
    omega
  · cases hf : fnd (vs.getD k v0).key L with
    | none =>
      rw [length_put_none hf]
      constructor
      · intro hl i j hij hj
        by_cases e : j = k
        · subst e
          intro e2
          have := h.has i hij
          rw [e2] at this
          exact this hf
        · exact h.len.1 (by omega) i j hij (by omega)
      · intro ha
        have := h.len.2 (fun i j hij hj => ha i j hij (by omega))
        omega
    | some a =>
      rw [length_put_some hn hf]
      constructor
      · intro hl; have := h.le; omega
      · intro ha
        have h2 := h.at' _ _ hf
        exact absurd h2.2 (ha a k h2.1 (by omega))
theorem Pl.ind {vs : List Ver} {L : List (Tx × Nat)} (h : Pl vs vs.length L) (hf : Formed vs) {j : Nat} (hj : j < vs.length) : fnd (vs.getD j v0).key L = some j := by
  cases e : fnd (vs.getD j v0).key L with
  | none => exact absurd e (h.has j hj)
  | some a =>
    have := h.at' _ _ e
    rw [hf.keys_inj this.1 hj this.2]
theorem maxLen_ge : 140737488351232 ≤ maxLen := by unfold maxLen; omega
/-- block b is the map that places made -/
def PlTo (w : World) (vs : List Ver) (b : Nat) (w' : World) : Prop := ∃ L, w.heap.size ≤ b ∧ IsMp KT Vi w' b L ∧ Pl vs vs.length L ∧ Keeps no w w'
set_option maxRecDepth 10000 in
set_option maxHeartbeats 1000000 in
theorem places_any (w : World) (o : Option Addr) (n c : Nat) (rs : List RV) (vs : List Ver) (hn : n = vs.length) (hf : FitL vs) (hl : vs.length ≤ 1024) (hv : Vers w o c rs vs) :
    Calls Try.prog 66 #[.slice o n c] w fun e w' => ∃ b, e = .returned (.map (some b)) ∧ PlTo w vs b w' := by
  have HN : Hid (n = vs.length) := hn
  have hA : (n : Int) ≤ 1024 := by omega
  have HF : Hid (FitL vs) := hf
  have HV : Hid (Vers w o c rs vs) := hv
  clear hn hf hv hl
  have hmm := makeTI
  go_enter Try.func66, Try.ntmps66
  go_wp2_with fail
  go_loopw [11] (fun s11 wr => ∃ k : Nat, k ≤ n ∧ s11 = .int .i64 k ∧ Hid (∃ L, IsMp KT Vi wr w.heap.size L ∧ Pl vs k L ∧ Keeps no w wr)) (fun s11 _ => n - (intOf s11).toNat)
  case atStart => exact ⟨0, by omega, rfl, [], isMp_made w, Pl.zero vs, (Keeps.refl _ _).alloc _⟩
  case round =>
    rename World => wr
    obtain ⟨k, hk, rfl, HT⟩ := hrel
    by_cases hlt : k < n
    · have hlt' : (k : Int) < n := by omega
      have hil : k < vs.length := by have := HN.out; omega
      obtain ⟨L, hM, hP, hK⟩ := HT.out
      obtain ⟨b, off, r, hob, d0, d1, d2, d3, hver⟩ := (HV.out.keepsN hK).agg hil
      subst hob
      have HK0 : Hid (r.key = (vs.getD k v0).key ∧ r.key.size ≤ maxLen) := ⟨hver.key, by rw [hver.key]; exact Nat.le_trans (HF.out.at hil).key maxLen_ge⟩
      have HM : Hid (IsMp KT Vi wr w.heap.size L ∧ Pl vs k L ∧ Keeps no w wr ∧ L.length ≤ 1024) := ⟨hM, hP, hK, by have := hP.le; omega⟩
      clear hver hM hP hK HT
      obtain ⟨rk, ri, rv, ro, rn, rc⟩ := r
      simp only at d0 d1 d2 d3 HK0
      obtain ⟨w1, hrun, hM1, hK1, hS1⟩ := updTI (HM.out.1.keepsN ((Keeps.refl no wr).alloc (.cells #[.string rk, .int .u64 (ri : Nat), .string rv, .slice ro rn rc] 46))) (by have := HM.out.2.2.2; unfold maxLen; omega) HK0.out.2 k
      have H1 : Hid (∃ L, IsMp KT Vi w1 w.heap.size L ∧ Pl vs (k + 1) L ∧ Keeps no w w1) := by
        refine ⟨_, hM1, ?_, ?_⟩
        · have := HM.out.2.1.succ HM.out.1.nk
          rwa [← HK0.out.1] at this
        · exact (HM.out.2.2.1.alloc _).then hK1 (fun i hi => .inr (by omega))
      clear hM1 hK1 hS1 HM HK0 HV
      go_wp2_with fail
      go_roundw
      case rel => exact ⟨k + 1, by omega, by go_num, H1⟩
      case measure => simp [intOf]; omega
    · have hlt' : ¬ (k : Int) < n := by omega
      have hkn : k = vs.length := by have := HN.out; omega
      have H1 : Hid (∃ L, IsMp KT Vi wr w.heap.size L ∧ Pl vs vs.length L ∧ Keeps no w wr) := by have := HT.out; rwa [hkn] at this
      clear hkn HT HV HN
      go_wp2_with fail
      go_ret
      obtain ⟨L, h1, h2, h3⟩ := H1.out
      exact ⟨_, rfl, L, Nat.le_refl _, h1, h2, h3⟩
/-- where each name was first -/
structure Fi (vs : List Ver) (k : Nat) (L : List (Nat × Nat)) : Prop where
  at' : ∀ i a, fnd i L = some a → a < k ∧ (vs.getD a v0).id = i
  has : ∀ j, j < k → ¬ fnd (vs.getD j v0).id L = none
  le : L.length ≤ k
  two : ∀ i j, i < j → j < k → (vs.getD i v0).id = (vs.getD j v0).id → (vs.getD i v0).keys = (vs.getD j v0).keys
def Agree (vs : List Ver) : Prop := ∀ i j, i < j → j < vs.length → (vs.getD i v0).id = (vs.getD j v0).id → (vs.getD i v0).keys = (vs.getD j v0).keys
theorem equal_grown {W : World} (oa : Option Addr) (na ca : Nat) (ob : Option Addr) (nb cb : Nat) (sa sb : List Tx) (hna : na = sa.length) (hnb : nb = sb.length) (hla : sa.length ≤ 8796093022000) (hlb : sb.length ≤ 8796093022000) (ha : Sl TE W oa ca sa) (hb : Sl TE W ob cb sb) (d : Nat) (os : Array Obj) :
    Calls Try.prog 62 #[.slice oa na ca, .slice ob nb cb] (Sort.grow (redrawn W d) os) fun e w'' => e = .returned (.bool (decide (sa = sb))) ∧ ∃ p : Regrown, w'' = Sort.grow (redrawn W p.d) p.os :=
  call_grown (fun X hX => (equal_any X oa na ca ob nb cb sa sb hna hnb hla hlb (ha.keepsN hX) (hb.keepsN hX)).mono fun e w' ⟨⟨B, he, hB⟩, hk⟩ => ⟨by rw [he]; congr 2; exact Bool.eq_iff_iff.2 (by rw [hB.out, decide_eq_true_eq]), hk⟩) d os
theorem Fi.zero (vs : List Ver) : Fi vs 0 [] := ⟨fun s a h => by simp [fnd] at h, fun j hj => by omega, Nat.le_refl _, fun i j _ h => by omega⟩
theorem Fi.new {vs : List Ver} {k : Nat} {L : List (Nat × Nat)} (h : Fi vs k L) (hf : fnd (vs.getD k v0).id L = none) : Fi vs (k + 1) (Go.Proofs.Ytileipnoiocdlaa.put (vs.getD k v0).id k L) := by
  refine ⟨?_, ?_, ?_, ?_⟩
  · intro s a hs
    rw [fnd_put] at hs
    by_cases e : s = (vs.getD k v0).id
    · rw [if_pos e] at hs; cases hs; exact ⟨by omega, e.symm⟩
    · rw [if_neg e] at hs
      have := h.at' s a hs
      exact ⟨by omega, this.2⟩
  · intro j hj
    rw [fnd_put]
    by_cases e : (vs.getD j v0).id = (vs.getD k v0).id
    · rw [if_pos e]; simp
    · rw [if_neg e]
      by_cases e2 : j = k
      · subst e2; exact absurd rfl e
      · exact h.has j (by omega)
  · have := length_put_le (vs.getD k v0).id k L
    have := h.le
    omega
  · intro i j hij hj e
    by_cases e2 : j = k
    · subst e2
      have := h.has i hij
      rw [e] at this
      exact absurd hf this
    · exact h.two i j hij (by omega) e
theorem Fi.old {vs : List Ver} {k a : Nat} {L : List (Nat × Nat)} (h : Fi vs k L) (hf : fnd (vs.getD k v0).id L = some a) (he : (vs.getD a v0).keys = (vs.getD k v0).keys) : Fi vs (k + 1) L := by
  have ha := h.at' _ _ hf
  refine ⟨fun s b hs => by have := h.at' s b hs; exact ⟨by omega, this.2⟩, ?_, by have := h.le; omega, ?_⟩
  · intro j hj
    by_cases e2 : j = k
    · subst e2; rw [hf]; simp
    · exact h.has j (by omega)
  · intro i j hij hj e
    by_cases e2 : j = k
    · subst e2
      rw [← he]
      rcases Nat.lt_trichotomy i a with hl | e3 | hg
      · exact h.two i a hl (by omega) (by rw [e, ha.2])
      · rw [e3]
      · exact (h.two a i hg (by omega) (by rw [e, ha.2])).symm
    · exact h.two i j hij (by omega) e
noncomputable def agreeB (vs : List Ver) : Bool := @decide (Agree vs) (Classical.propDecidable _)
theorem agreeB_iff (l : List Ver) : agreeB l = true ↔ Agree l := by unfold agreeB; simp
theorem agreeB_no {l : List Ver} (h : ¬ Agree l) : agreeB l = false := by rw [← Bool.not_eq_true, agreeB_iff]; exact h
set_option maxRecDepth 10000 in
set_option maxHeartbeats 1000000 in
theorem agree_any (w : World) (o : Option Addr) (n c : Nat) (rs : List RV) (vs : List Ver) (hn : n = vs.length) (hf : FitL vs) (hl : vs.length ≤ 1024) (hv : Vers w o c rs vs) :
    Calls Try.prog 75 #[.slice o n c] w fun e w' => e = .returned (.bool (agreeB vs)) ∧ Keeps no w w' := by
  have HN : Hid (n = vs.length) := hn
  have hA : (n : Int) ≤ 1024 := by omega
  have HF : Hid (FitL vs) := hf
  have HV : Hid (Vers w o c rs vs) := hv
  clear hn hf hv hl
  have hmm := makeII
  go_enter Try.func75, Try.ntmps75
  go_wp2_with fail
  go_loopw [13] (fun s13 wr => ∃ k : Nat, k ≤ n ∧ s13 = .int .i64 k ∧ Hid (∃ L, IsMp KI Vi wr w.heap.size L ∧ Fi vs k L ∧ Keeps no w wr)) (fun s13 _ => n - (intOf s13).toNat)
  case atStart => exact ⟨0, by omega, rfl, [], isMp_made w, Fi.zero vs, (Keeps.refl _ _).alloc _⟩
  case round =>
    rename World => wr
    obtain ⟨k, hk, rfl, HT⟩ := hrel
    by_cases hlt : k < n
    · have hlt' : (k : Int) < n := by omega
      have hil : k < vs.length := by have := HN.out; omega
      obtain ⟨L, hM, hP, hK⟩ := HT.out
      obtain ⟨b, off, r, hob, d0, d1, d2, d3, hver⟩ := (HV.out.keepsN hK).agg hil
      subst hob
      have HK0 : Hid (r.id = (vs.getD k v0).id ∧ r.id < 18446744073709551616 ∧ VerOf wr r (vs.getD k v0) ∧ k < vs.length) := ⟨hver.id, by rw [hver.id]; exact (HF.out.at hil).id, hver, hil⟩
      have HM : Hid (IsMp KI Vi wr w.heap.size L ∧ Fi vs k L ∧ Keeps no w wr ∧ L.length ≤ 1024) := ⟨hM, hP, hK, by have := hP.le; omega⟩
      clear hver hM hP hK HT hil
      obtain ⟨rk, ri, rv, ro, rn, rc⟩ := r
      simp only at d0 d1 d2 d3 HK0
      have HAL : Hid (Keeps no wr (wr.alloc (.cells #[.string rk, .int .u64 (ri : Nat), .string rv, .slice ro rn rc] 46))) := (Keeps.refl no wr).alloc _
      cases hf : fnd ri L with
      | none =>
        have hlk := look2IIn (HM.out.1.keepsN HAL.out) HK0.out.2.1 hf
        obtain ⟨w1, hrun, hM1, hK1, hS1⟩ := updII (HM.out.1.keepsN HAL.out) (by have := HM.out.2.2.2; unfold maxLen; omega) HK0.out.2.1 k
        have H1 : Hid (∃ L, IsMp KI Vi w1 w.heap.size L ∧ Fi vs (k + 1) L ∧ Keeps no w w1) := by
          refine ⟨_, hM1, ?_, ?_⟩
          · have := HM.out.2.1.new (by rw [← HK0.out.1]; exact hf)
            rwa [← HK0.out.1] at this
          · exact (HM.out.2.2.1.alloc _).then hK1 (fun i hi => .inr (by omega))
        clear hM1 hK1 hS1 HM HK0 HV hf HAL
        go_wp2_with fail
        go_roundw
        case rel => exact ⟨k + 1, by omega, by go_num, H1⟩
        case measure => simp [intOf]; omega
      | some a =>
        have hlk := look2II (HM.out.1.keepsN HAL.out) HK0.out.2.1 hf
        have HA : Hid (a < k ∧ (vs.getD a v0).id = ri ∧ fnd ri L = some a) := ⟨(HM.out.2.1.at' _ _ hf).1, (HM.out.2.1.at' _ _ hf).2, hf⟩
        have ha' : (a : Int) < n := by have := HA.out.1; omega
        have hal : a < vs.length := by have := HA.out.1; have := HN.out; omega
        obtain ⟨b2, off2, p2, m2, c2, ho2, g0, g1, g2, g3, hn2, hs2⟩ := (HV.out.keepsN (HM.out.2.2.1.trans HAL.out)).at hal
        have hbo : b2 = b ∧ off2 = off := by cases ho2; exact ⟨rfl, rfl⟩
        obtain ⟨rfl, rfl⟩ := hbo
        clear ho2 g0 g1 g2 hf
        have hb0 := blk_new wr (.cells #[.string rk, .int .u64 (ri : Nat), .string rv, .slice ro rn rc] 46)
        have q3 := cell_of_blk hb0 3
        have cS := equal_grown p2 m2 c2 ro rn rc _ _ hn2 HK0.out.2.2.1.n (HF.out.at hal).len (HF.out.at HK0.out.2.2.2).len hs2 (HK0.out.2.2.1.sl.keepsN HAL.out)
        obtain ⟨Bq, hBq⟩ : ∃ B, B = decide ((vs.getD a v0).keys = (vs.getD k v0).keys) := ⟨_, rfl⟩
        have HBq : Hid (Bq = decide ((vs.getD a v0).keys = (vs.getD k v0).keys)) := hBq
        rw [← hBq] at cS
        have HKA : Hid (Keeps no w (wr.alloc (.cells #[.string rk, .int .u64 (ri : Nat), .string rv, .slice ro rn rc] 46)) ∧ wr.heap.size < (wr.alloc (.cells #[.string rk, .int .u64 (ri : Nat), .string rv, .slice ro rn rc] 46)).heap.size ∧ IsMp KI Vi (wr.alloc (.cells #[.string rk, .int .u64 (ri : Nat), .string rv, .slice ro rn rc] 46)) w.heap.size L) := ⟨HM.out.2.2.1.trans HAL.out, lt_of_block hb0, HM.out.1.keepsN HAL.out⟩
        have HQ3 : Hid ((wr.alloc (.cells #[.string rk, .int .u64 (ri : Nat), .string rv, .slice ro rn rc] 46)).cell? ⟨wr.heap.size, 3, none⟩ = some (.slice ro rn rc) ∧ (wr.alloc (.cells #[.string rk, .int .u64 (ri : Nat), .string rv, .slice ro rn rc] 46)).cell? ⟨b2, off2 + a * 4 + 3, none⟩ = some (.slice p2 m2 c2)) := ⟨by rw [q3]; rfl, g3⟩
        have HC : Hid (∀ d os, Calls Try.prog 62 #[.slice p2 m2 c2, .slice ro rn rc] (Sort.grow (redrawn (wr.alloc (.cells #[.string rk, .int .u64 (ri : Nat), .string rv, .slice ro rn rc] 46)) d) os) fun e w'' => e = .returned (.bool Bq) ∧ ∃ p : Regrown, w'' = Sort.grow (redrawn (wr.alloc (.cells #[.string rk, .int .u64 (ri : Nat), .string rv, .slice ro rn rc] 46)) p.d) p.os) := cS
        clear cS q3 hb0 hn2 hs2 hBq g3 hal
        go_wp2_with fail
        clear hlk d0 d1 d2 d3 HAL
        generalize wr.alloc (.cells #[.string rk, .int .u64 (ri : Nat), .string rv, .slice ro rn rc] 46) = W1 at HKA HQ3 HC ⊢
        have z0 := cell_regrown HQ3.out.1
        have z1 := cell_regrown HQ3.out.2
        refine wp_region_quiet_below (by kernel_rfl) (by kernel_rfl) ?_
        repeat (go_big_quiet_step (exact HC.out _ _))
        refine wpQuiet_nil ?_
        intro _ hw'
        obtain ⟨⟨dq, osq⟩, rfl⟩ := hw'
        have K1 : Hid (Keeps no w (Sort.grow (redrawn W1 dq) osq) ∧ IsMp KI Vi (Sort.grow (redrawn W1 dq) osq) w.heap.size L) := ⟨HKA.out.1.trans (keeps_grown ..), HKA.out.2.2.keepsN (keeps_grown ..)⟩
        generalize Sort.grow (redrawn W1 dq) osq = u1 at K1 ⊢
        clear z0 z1 HC HKA HQ3
        cases Bq with
        | true =>
          have H1 : Hid (∃ L, IsMp KI Vi u1 w.heap.size L ∧ Fi vs (k + 1) L ∧ Keeps no w u1) := ⟨L, K1.out.2, HM.out.2.1.old (by rw [← HK0.out.1]; exact HA.out.2.2) (of_decide_eq_true HBq.out.symm), K1.out.1⟩
          clear HM HK0 HBq HV HA
          go_wp2_with fail
          go_roundw
          case rel => exact ⟨k + 1, by omega, by go_num, H1⟩
          case measure => simp [intOf]; omega
        | false =>
          have H1 : Hid (agreeB vs = false) := agreeB_no fun h => of_decide_eq_false HBq.out.symm (h a k HA.out.1 HK0.out.2.2.2 (by rw [HA.out.2.1, HK0.out.1]))
          clear HM HK0 HBq HV HA
          go_wp2_with fail
          go_ret
          exact ⟨by rw [H1.out]; rfl, K1.out.1⟩
    · have hlt' : ¬ (k : Int) < n := by omega
      have hkn : k = vs.length := by have := HN.out; omega
      have H1 : Hid (agreeB vs = true ∧ Keeps no w wr) := by
        obtain ⟨L, h1, h2, h3⟩ := HT.out
        exact ⟨(agreeB_iff vs).2 (fun i j hij hj => h2.two i j hij (by omega)), h3⟩
      clear hkn HT HV HN
      go_wp2_with fail
      go_ret
      exact ⟨by rw [H1.out.1]; rfl, H1.out.2⟩
end Go.Proofs.Ytileipnoiocdlaa
/- The program's Formed. -/
namespace Go.Proofs.Ytileipnoiocdlaa
open Go.RowKit Go.Sort Orl
set_option linter.unusedVariables false
set_option linter.unusedSimpArgs false

theorem formed_eq {vs : List Ver} {L : List (Tx × Nat)} (hp : 0 < vs.length) (hm : vs.length ≤ 1024) (h1 : ∀ j, j < vs.length → oneB (vs.getD j v0) = true) (hL : Pl vs vs.length L) : formedB vs = (decide (L.length = vs.length) && agreeB vs) := by
  rw [Bool.eq_iff_iff, formedB_iff, Bool.and_eq_true, decide_eq_true_eq, agreeB_iff, hL.len]
  constructor
  · intro h
    exact ⟨fun i j hij hj => ((badB_iff _ _).1 (h.two j i hj hij)).1, fun i j hij hj => ((badB_iff _ _).1 (h.two j i hj hij)).2⟩
  · rintro ⟨ha, hb⟩
    exact ⟨hp, hm, h1, fun j k hj hk => (badB_iff _ _).2 ⟨ha k j hk hj, hb k j hk hj⟩⟩
set_option maxRecDepth 10000 in
set_option maxHeartbeats 1000000 in
theorem pFormed_any (w : World) (o : Option Addr) (n c : Nat) (rs : List RV) (vs : List Ver) (hn : n = vs.length) (hf : FitL vs) (hv : Vers w o c rs vs) :
    Calls Try.prog 63 #[.slice o n c] w fun e w' => e = .returned (.bool (formedB vs)) ∧ Keeps no w w' := by
  have HN : Hid (n = vs.length) := hn
  have hA : (n : Int) ≤ 2199023255500 := by have := hf.len; omega
  have HF : Hid (FitL vs) := hf
  have HV : Hid (Vers w o c rs vs) := hv
  clear hn hf hv
  by_cases h1 : n < 1
  · have HB : Hid (formedB vs = false) := formedB_no fun h => by have := h.pos; have := HN.out; omega
    obtain rfl : n = 0 := by omega
    go_enter Try.func63, Try.ntmps63
    go_wp2
    go_ret
    exact ⟨by rw [HB.out]; rfl, Keeps.refl _ _⟩
  by_cases h2 : 1024 < n
  · have HB : Hid (formedB vs = false) := formedB_no fun h => by have := h.most; have := HN.out; omega
    have h0 : ((n : Int) == 0) = false := by simp; omega
    have h1'' : ¬ (n : Int) = 0 := by omega
    have h2'' : (1024 : Int) < n := by omega
    go_enter Try.func63, Try.ntmps63
    go_wp2
    go_ret
    exact ⟨by rw [HB.out]; rfl, Keeps.refl _ _⟩
  have h0 : ((n : Int) == 0) = false := by simp; omega
  have h1'' : ¬ (n : Int) = 0 := by omega
  have h2'' : ¬ (1024 : Int) < n := by omega
  have HNN : Hid (0 < vs.length ∧ vs.length ≤ 1024) := ⟨by have := HN.out; omega, by have := HN.out; omega⟩
  go_enter Try.func63, Try.ntmps63
  go_wp2_with fail
  go_loopw [15] (fun s15 wr => ∃ i : Nat, i ≤ n ∧ s15 = .int .i64 i ∧ Hid (∀ j, j < i → oneB (vs.getD j v0) = true) ∧ Hid (Keeps no w wr)) (fun s15 _ => n - (intOf s15).toNat)
  case atStart => exact ⟨0, by omega, rfl, fun j hj => by omega, Keeps.refl _ _⟩
  case round =>
    rename World => wr
    obtain ⟨i, hi, rfl, HT, HK⟩ := hrel
    by_cases hlt : i < n
    · have hlt' : (i : Int) < n := by omega
      have hil : i < vs.length := by have := HN.out; omega
      obtain ⟨b, off, r, hob, d0, d1, d2, d3, hver⟩ := (HV.out.keepsN HK.out).agg hil
      subst hob
      obtain ⟨rk, ri, rv, ro, rn, rc⟩ := r
      simp only at d0 d1 d2 d3
      have HKA : Hid (Keeps no wr (wr.alloc (.cells #[.string rk, .int .u64 (ri : Nat), .string rv, .slice ro rn rc] 46))) := (Keeps.refl no wr).alloc _
      have HONE : Hid (Calls Try.prog 74 #[.agg #[.string rk, .int .u64 (ri : Nat), .string rv, .slice ro rn rc]] (wr.alloc (.cells #[.string rk, .int .u64 (ri : Nat), .string rv, .slice ro rn rc] 46)) fun e w' => e = .returned (.bool (oneB (vs.getD i v0))) ∧ Keeps no _ w') := mayBe_any _ ⟨rk, ri, rv, ro, rn, rc⟩ (vs.getD i v0) (HF.out.at hil) (hver.keepsN HKA.out)
      have HO : Hid (oneB (vs.getD i v0) = false → formedB vs = false) := fun h => formedB_no fun hf => by rw [hf.one i hil] at h; cases h
      have HS : Hid (oneB (vs.getD i v0) = true → ∀ j, j < i + 1 → oneB (vs.getD j v0) = true) := fun h j hj => by
        by_cases e : j = i
        · subst e; exact h
        · exact HT.out j (by omega)
      clear hver
      generalize oneB (vs.getD i v0) = B at HONE HO HS
      go_wp2_with fail
      refine Calls.mono HONE.out ?_
      rintro e w2 ⟨rfl, hk2⟩
      have HK2 : Hid (Keeps no w w2) := (HK.out.trans HKA.out).trans hk2
      clear hk2 HONE d0 d1 d2 d3
      cases B with
      | false =>
        have HB : Hid (formedB vs = false) := HO.out rfl
        clear HO HS
        go_wp2_with fail
        go_ret
        exact ⟨by rw [HB.out]; rfl, HK2.out⟩
      | true =>
        have HB : Hid (∀ j, j < i + 1 → oneB (vs.getD j v0) = true) := HS.out rfl
        clear HO HS
        go_wp2_with fail
        go_roundw
        case rel => exact ⟨i + 1, by omega, by go_num, HB, HK2⟩
        case measure => simp [intOf]; omega
    · have hlt' : ¬ (i : Int) < n := by omega
      have hin : i = vs.length := by have := HN.out; omega
      have HP := places_any wr o n c rs vs HN.out HF.out HNN.out.2 (HV.out.keepsN HK.out)
      have HPL : Hid (Calls Try.prog 66 #[.slice o n c] wr fun e w' => ∃ b, e = .returned (.map (some b)) ∧ PlTo wr vs b w') := HP
      have H1 : Hid (∀ j, j < vs.length → oneB (vs.getD j v0) = true) := by rw [← hin]; exact HT.out
      clear HP hin HT
      go_wp2_with fail
      refine Calls.mono HPL.out ?_
      rintro e w2 ⟨m, rfl, hm⟩
      obtain ⟨L, hL1, hL2, hL3, hL4⟩ := hm
      have HAG : Hid (Calls Try.prog 75 #[.slice o n c] w2 fun e w' => e = .returned (.bool (agreeB vs)) ∧ Keeps no w2 w') := agree_any w2 o n c rs vs HN.out HF.out HNN.out.2 (HV.out.keepsN (HK.out.trans hL4))
      have HK2 : Hid (Keeps no w w2) := HK.out.trans hL4
      have HE : Hid (formedB vs = (decide (L.length = vs.length) && agreeB vs)) := formed_eq HNN.out.1 HNN.out.2 H1.out hL3
      have hln := fun ty => hL2.len (t := 82) (e := 3) Try.underlying82 ty
      have HLL : Hid (L.length ≤ vs.length) := hL3.le
      clear hL1 hL2 hL3 hL4 HPL H1
      generalize agreeB vs = B at HAG HE
      generalize L.length = l at hln HE HLL
      by_cases he : l = n
      · have HE2 : Hid (formedB vs = B) := by show _ = _; rw [HE.out, decide_eq_true (by rw [he]; exact HN.out)]; rfl
        subst l
        clear HE HLL
        go_wp2_with fail
        refine Calls.mono HAG.out ?_
        rintro e w3 ⟨rfl, hk3⟩
        have HK3 : Hid (Keeps no w w3) := HK2.out.trans hk3
        clear hk3 HAG hln
        go_wp2_with fail
        go_ret
        exact ⟨by rw [HE2.out]; rfl, HK3.out⟩
      · have he1 : ((l : Int) == (n : Int)) = false := by simp; omega
        have he2 : ¬ (l : Int) = (n : Int) := by omega
        have HE2 : Hid (formedB vs = false) := by show _ = _; rw [HE.out, decide_eq_false (by rw [← HN.out]; exact he)]; rfl
        clear HE HLL he
        go_wp2_with fail
        go_ret
        exact ⟨by rw [HE2.out]; rfl, HK2.out⟩
end Go.Proofs.Ytileipnoiocdlaa
/- The document's Cut and Needs. -/
namespace Go.Proofs.Ytileipnoiocdlaa
open Go.RowKit Go.Sort Orl
set_option linter.unusedVariables false
set_option linter.unusedSimpArgs false

/-- no version among the first k is below x though x asks for it -/
def CutTo (l : List Ver) (x : Ver) (k : Nat) : Prop := ∀ j, j < k → ¬ ((l.getD j v0).id < x.id ∧ inn x.keys (l.getD j v0).key = true)
theorem whole_of {l : List Ver} (h : ∀ i, i < l.length → CutTo l (l.getD i v0) l.length) : Whole l := by
  intro x hx y hy hk
  obtain ⟨i, hi, rfl⟩ := List.getElem_of_mem hx
  obtain ⟨j, hj, rfl⟩ := List.getElem_of_mem hy
  have := h i hi j hj
  simp only [List.getD_eq_getElem?_getD, List.getElem?_eq_getElem hi, List.getElem?_eq_getElem hj, Option.getD_some] at this
  rcases Nat.lt_or_ge (l[j]).id (l[i]).id with h1 | h1
  · exact absurd ⟨h1, (inn_iff _ _).2 hk⟩ this
  · exact h1
theorem not_whole {l : List Ver} {i k : Nat} (hi : i < l.length) (hk : k < l.length) (h1 : (l.getD k v0).id < (l.getD i v0).id) (h2 : inn (l.getD i v0).keys (l.getD k v0).key = true) : ¬ Whole l := fun h => by
  have := h _ (getD_mem_lt v0 hi) _ (getD_mem_lt v0 hk) ((inn_iff _ _).1 h2)
  omega
/-- what is wanted of the first i -/
def needsTo (l : List Ver) (i : Nat) : List Wn := (l.take i).filterMap fun y => if y.id < mostV l y then some (y.key, mostV l y) else none
theorem needsTo_succ (l : List Ver) (i : Nat) (hi : i < l.length) : needsTo l (i + 1) = needsTo l i ++ (if (l.getD i v0).id < mostV l (l.getD i v0) then [((l.getD i v0).key, mostV l (l.getD i v0))] else []) := by
  unfold needsTo
  rw [take_succ_getD l i v0 hi, List.filterMap_append]
  congr 1
  rw [List.filterMap_cons]
  split <;> rename_i h <;> split at h <;> simp_all
theorem needsTo_all (l : List Ver) : needsTo l l.length = needsV l := by unfold needsTo needsV; rw [List.take_length]
theorem needsTo_len (l : List Ver) (i : Nat) : (needsTo l i).length ≤ i := by
  unfold needsTo
  refine Nat.le_trans (List.length_filterMap_le _ _) ?_
  rw [List.length_take]; omega
theorem needs_len (l : List Ver) : (needsV l).length ≤ l.length := by rw [← needsTo_all]; exact needsTo_len l l.length
def mostTo (l : List Ver) (y : Ver) (k : Nat) : Nat := (l.take k).foldl (mostS y) y.id
theorem mostTo_succ (l : List Ver) (y : Ver) (k : Nat) (hk : k < l.length) : mostTo l y (k + 1) = mostS y (mostTo l y k) (l.getD k v0) := by
  unfold mostTo; rw [take_succ_getD l k v0 hk, List.foldl_append]; rfl
theorem mostTo_all (l : List Ver) (y : Ver) : mostTo l y l.length = mostV l y := by unfold mostTo mostV; rw [List.take_length]
theorem own_oneW (w : World) (x : Tx) (i : Nat) : Sl WE (w.alloc (.cells #[.string x, .int .u64 (i : Nat)] 50)) (some ⟨w.heap.size, 0, none⟩) 1 [(x, i)] := by
  refine ⟨.inr ⟨_, 0, rfl, fun j u hj => ?_⟩, by simp, fun e => by cases e⟩
  rw [Nat.zero_add, cell_of_blk (blk_new w _)]
  simpa [El.cells, WE] using hj
/-- what Needs tells -/
def NeedTo (w : World) (vs : List Ver) (u : Value) (w' : World) : Prop := (formedB vs = false ∧ u = .tuple #[.slice none 0 0, .int .i64 1] ∧ Keeps no w w') ∨ (formedB vs = true ∧ ∃ o n c, u = .tuple #[.slice o n c, .int .i64 0] ∧ n = (needsV vs).length ∧ Own WE w' o c (needsV vs) ∧ New w o ∧ Keeps no w w')
end Go.Proofs.Ytileipnoiocdlaa

/- The document's New. -/
import Derived.Test.YtghnhkhhpeoheaaGreatDR
namespace Go.Proofs.YtghnhkhhpeoheaaGreat
open Go.RowKit Go.Sort Orl
set_option linter.unusedVariables false
set_option linter.unusedSimpArgs false

def DNewTo (w : World) (l : List Pr) (id : Nat) (P : Int) (nx : Bool) (num : Nat) (e : Ending) (w' : World) : Prop :=
  (¬ (1 ≤ P ∧ P ≤ 64 ∧ 65536 ≤ id ∧ nx = true) → e = .returned (.tuple #[.pointer none, .int .i64 1]) ∧ Keeps no w w') ∧
  ((1 ≤ P ∧ P ≤ 64 ∧ 65536 ≤ id ∧ nx = true) → valP l = false → e = .returned (.tuple #[.pointer none, .int .i64 40]) ∧ Keeps no w w') ∧
  ((1 ≤ P ∧ P ≤ 64 ∧ 65536 ≤ id ∧ nx = true) → valP l = true → ∃ p F, e = .returned (.tuple #[.pointer (some ⟨p, 0, none⟩), .int .i64 0]) ∧ Rd w' p F (startS id l P.toNat) num ∧ (∀ i, F i → w.heap.size ≤ i) ∧ Keeps no w w')
set_option maxRecDepth 10000 in
set_option maxHeartbeats 2000000 in
theorem dNew_any (w : World) (o : Option Addr) (n c : Nat) (l : List Pr) (id : Nat) (P : Int) (nx : Bool) (num : Nat) (hn : n = l.length) (hl : l.length ≤ 4398046511000) (hz : FitsP l) (hs : Sl PE w o c l) (hid : id < 18446744073709551616) (hnum : num < 18446744073709551616) (hP : -9223372036854775808 ≤ P ∧ P ≤ 9223372036854775807) :
    Calls Tryz.prog 8 #[.slice o n c, .int .u64 (id : Nat), .int .i64 P, .bool nx, .int .u64 (num : Nat)] w (DNewTo w l id P nx num) := by
  by_cases hc : 1 ≤ P ∧ P ≤ 64 ∧ 65536 ≤ id ∧ nx = true
  case neg =>
    have HZ : Hid (∀ w', Keeps no w w' → DNewTo w l id P nx num (.returned (.tuple #[.pointer none, .int .i64 1])) w') := fun w' hk => ⟨fun _ => ⟨rfl, hk⟩, fun h => absurd h hc, fun h => absurd h hc⟩
    have hcs : P < 1 ∨ (1 ≤ P ∧ 64 < P) ∨ (1 ≤ P ∧ P ≤ 64 ∧ id < 65536) ∨ (1 ≤ P ∧ P ≤ 64 ∧ 65536 ≤ id ∧ nx = false) := by
      by_cases h1 : P < 1
      · exact .inl h1
      · by_cases h2 : 64 < P
        · exact .inr (.inl ⟨by omega, h2⟩)
        · by_cases h3 : id < 65536
          · exact .inr (.inr (.inl ⟨by omega, by omega, h3⟩))
          · refine .inr (.inr (.inr ⟨by omega, by omega, by omega, ?_⟩))
            cases nx with
            | false => rfl
            | true => exact absurd ⟨by omega, by omega, by omega, rfl⟩ hc
    clear hc hz hs hn hl
    rcases hcs with h1 | ⟨h1, h2⟩ | ⟨h1, h2, h3⟩ | ⟨h1, h2, h3, rfl⟩
    · go_enter Tryz.func8, Tryz.ntmps8
      go_wp2_with fail
      go_ret2
      exact HZ.out _ (Keeps.refl _ _)
    · have h1' : ¬ P < 1 := by omega
      go_enter Tryz.func8, Tryz.ntmps8
      go_wp2_with fail
      go_ret2
      exact HZ.out _ (Keeps.refl _ _)
    · have h1' : ¬ P < 1 := by omega
      have h2' : ¬ 64 < P := by omega
      have h3' : (id : Int) < 65536 := by omega
      go_enter Tryz.func8, Tryz.ntmps8
      go_wp2_with fail
      go_ret2
      exact HZ.out _ (Keeps.refl _ _)
    · have h1' : ¬ P < 1 := by omega
      have h2' : ¬ 64 < P := by omega
      have h3' : ¬ (id : Int) < 65536 := by omega
      go_enter Tryz.func8, Tryz.ntmps8
      go_wp2_with fail
      go_ret2
      exact HZ.out _ (Keeps.refl _ _)
  case pos =>
  have HCC : Hid (1 ≤ P ∧ P ≤ 64 ∧ 65536 ≤ id ∧ nx = true) := hc
  obtain ⟨h1, h2, h3, rfl⟩ := hc
  have h1' : ¬ P < 1 := by omega
  have h2' : ¬ 64 < P := by omega
  have h3' : ¬ (id : Int) < 65536 := by omega
  have HNM : Hid (Calls Tryz.prog 29 #[.slice o n c] w fun e w' => ∃ v, e = .returned (.tuple #[v, .int .i64 (if valP l then 0 else 40)]) ∧ Gives PE w (if valP l then nrm l else []) v w') := refNorm_any w o n c l hn hl hz hs
  cases hv : valP l with
  | false =>
    rw [hv] at HNM
    have HZ : Hid (∀ w', Keeps no w w' → DNewTo w l id P true num (.returned (.tuple #[.pointer none, .int .i64 40])) w') := fun w' hk => ⟨fun h => absurd HCC.out h, fun _ _ => ⟨rfl, hk⟩, fun _ h => by rw [hv] at h; cases h⟩
    clear hv hz hs hn hl h1 h2 h3
    go_enter Tryz.func8, Tryz.ntmps8
    go_wp2_with fail
    refine Calls.mono HNM.out ?_
    rintro e w1 ⟨v, rfl, o1, n1, c1, rfl, hn1, ho1, hw1, hk1⟩
    have HK : Hid (Keeps no w w1) := hk1
    clear hn1 ho1 hw1 hk1
    go_wp2_with fail
    go_ret2
    exact HZ.out _ HK.out
  | true =>
    rw [hv] at HNM
    have hsz := valP_size hv
    obtain ⟨Pn, hPn⟩ : ∃ Pn : Nat, P = (Pn : Nat) := ⟨P.toNat, by omega⟩
    subst hPn
    have HPN : Hid (0 < Pn ∧ Pn ≤ 64 ∧ ((Pn : Nat) : Int).toNat = Pn) := ⟨by omega, by omega, by omega⟩
    have HNL : Hid ((nrm l).length ≤ 1024 ∧ FitsP (nrm l)) := by
      refine ⟨by rw [nrm_length]; exact hsz.2, fun p hp => hz p ?_⟩
      exact (isort_perm p0 l).mem_iff.1 hp
    have HV : Hid (valP l = true) := hv
    clear hv hz hs hn hl h1 h2 h3 hsz
    go_enter Tryz.func8, Tryz.ntmps8
    go_wp2_with fail
    refine Calls.mono HNM.out ?_
    rintro e w1 ⟨v, rfl, o1, n1, c1, rfl, hn1, ho1, hw1, hk1⟩
    have H1 : Hid (n1 = (nrm l).length ∧ Own PE w1 o1 c1 (nrm l) ∧ Keeps no w w1) := ⟨hn1.out, ho1, hk1⟩
    have HGP : Hid (Calls Tryz.prog 30 #[.slice o1 n1 c1, .int .i64 (Pn : Int)] w1 fun e w' => ∃ o m c gs, e = .returned (.tuple #[.slice o m c, .int .i64 0]) ∧ Hid (m = gs.length ∧ RTold PE HR fstP w1 Pn (nrm l) Pn o c gs w')) := refGroupP_yes w1 o1 n1 c1 (nrm l) Pn hn1.out (by have := HNL.out.1; omega) HNL.out.2 ho1.sl HPN.out.1 HPN.out.2.1
    clear hn1 ho1 hw1 hk1 HNM
    go_wp2_with fail
    refine Calls.mono HGP.out ?_
    rintro e w2 ⟨o2, n2, c2, gs, rfl, H2⟩
    have HNS : Hid (Calls Tryz.prog 31 #[.slice o1 n1 c1] w2 fun e w' => ∃ v, e = .returned v ∧ Gives TE w2 (kys (nrm l)) v w') := refNames_any w2 o1 n1 c1 (nrm l) H1.out.1 (by have := HNL.out.1; omega) (H1.out.2.1.keepsN H2.out.2.kp).sl
    clear HGP
    go_wp2_with fail
    refine Calls.mono HNS.out ?_
    rintro e w3 ⟨v, rfl, o3, n3, c3, rfl, hn3, ho3, hw3, hk3⟩
    have HF : Hid (DNewTo w l id (Pn : Nat) true num (.returned (.tuple #[.pointer (some ⟨w3.heap.size, 0, none⟩), .int .i64 0])) (w3.alloc (.cells (rdC id o2 n2 c2 o3 n3 c3 none 0 0 none 0 0 0 0 num) 58))) := by
      refine ⟨fun h => absurd ⟨HCC.out.1, HCC.out.2.1, HCC.out.2.2.1, rfl⟩ h, fun _ h => (by rw [HV.out] at h; cases h), fun _ _ => ⟨w3.heap.size, fun i => i = w3.heap.size ∨ inO o2 i ∨ inO o3 i ∨ ∃ g ∈ gs, inO g.o i, rfl, ?_, ?_, ?_⟩⟩
      · have hal : Keeps no w3 (w3.alloc (.cells (rdC id o2 n2 c2 o3 n3 c3 none 0 0 none 0 0 0 0 num) 58)) := (Keeps.refl _ _).alloc _
        have hka := hk3.trans hal
        have hps : gs.map (fun g => (g.n, g.xs)) = (startS id l Pn).ps := H2.out.2.val
        have hnp : n2 = (startS id l Pn).ps.length := by rw [H2.out.1, ← hps]; simp
        have hnk : n3 = (startS id l Pn).keys.length := hn3.out
        rw [HPN.out.2.2]
        refine ⟨o2, c2, gs, o3, c3, none, 0, [], none, 0, ?_, H2.out.2.own.keepsN hka, hps, fun g hg => (H2.out.2.each g hg).keepsN hka, ho3.keepsN hal, own_nil _, rfl, fun j hj => absurd hj (by simp [askI, startS, newS]), own_nil _, .inl rfl, fun i hi => .inr (.inl hi), fun g hg i hi => .inr (.inr (.inr ⟨g, hg, hi⟩)), fun i hi => .inr (.inr (.inl hi)), fun i hi => (by obtain ⟨x, e, _⟩ := hi; cases e), fun j hj => absurd hj (by simp [askI, startS, newS]), fun i hi => (by obtain ⟨x, e, _⟩ := hi; cases e), ?_⟩
        · rw [← hnp, ← hnk]
          exact blk_new _ _
        · rintro i (rfl | hi | hi | ⟨g, hg, hi⟩)
          · simp
          · exact (H2.out.2.own.keepsN hka).lt i hi
          · exact (ho3.keepsN hal).lt i hi
          · exact ((H2.out.2.each g hg).keepsN hka).lt i hi
      · have s1 := H1.out.2.2.size
        have s2 := H2.out.2.kp.size
        have s3 := hk3.size
        rintro i (rfl | hi | hi | ⟨g, hg, hi⟩)
        · omega
        · have := H2.out.2.new i hi; omega
        · have := hw3 i hi; omega
        · have := H2.out.2.newE g hg i hi; omega
      · exact ((H1.out.2.2.trans H2.out.2.kp).trans hk3).alloc _
    clear hn3 ho3 hw3 hk3 HNS H1 H2
    unfold rdC at HF
    go_wp2_with fail
    go_ret2
    exact HF.out
end Go.Proofs.YtghnhkhhpeoheaaGreat

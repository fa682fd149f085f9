import Derived.Test.YtoijeipoblnliaaGreatDoorYB
/- done, sameStores, clean, cutTo. -/
namespace Go.Proofs.YtoijeipoblnliaaGreatDoor
open Go.RowKit Go.Maps Go.Sort Orl Pk
set_option linter.unusedVariables false
set_option linter.unusedSimpArgs false

section
variable {B : Nat} {w w' : World} {p : Nat} {s : St} {N : Nat} {P : Nat → Prop}
theorem Sto.keepsN (h : Sto B w p s N P) (hk : Keeps no w w') : Sto B w' p s N P := (h.other hk (fun b hb => hb.elim)).sub (fun b hb => .inl hb)
theorem Sto.keptK (h : Sto B w p s N P) (hN : N ≤ 1954687338211) :
    Calls Tryz.prog 27 #[.pointer (some ⟨p, 0, none⟩)] w fun e w' => ∃ o n c ks, e = .returned (.slice o n c) ∧ Hid (Kd s ks o n c w' ∧ Kl w ks o c w' ∧ Keeps no w w' ∧ ks.length ≤ N) := by
  obtain ⟨T, hi, ho, _⟩ := h
  refine (kept_any w p T s N hi ho.v hN).mono ?_
  rintro e w' ⟨v, rfl, o, n, c, ks, rfl, hn, hK, hl⟩
  exact ⟨o, n, c, ks, rfl, ⟨hn.out, hK.out.1.own, fun x hx => (hK.out.1.key x hx).1, hK.out.2.1, hK.out.2.2.2, hK.out.2.2.1, ho, by have := hl.out; omega⟩, hK.out.1, hK.out.1.keep, hl.out⟩
theorem Sto.lastsK (h : Sto B w p s N P) (hN : N ≤ 1954687338211) :
    Calls Tryz.prog 63 #[.pointer (some ⟨p, 0, none⟩)] w fun e w' => ∃ o n c ls, e = .returned (.slice o n c) ∧ Hid (Ld s ls o n c w' ∧ New w o ∧ Keeps no w w' ∧ ls.length ≤ N) := by
  obtain ⟨T, hi, ho, _⟩ := h
  refine (lasts_any w p T s N hi hN).mono ?_
  rintro e w' ⟨v, rfl, ls, ⟨o, n, c, rfl, hn, ho', hnw, hk⟩, his, hl⟩
  exact ⟨o, n, c, ls, rfl, ⟨hn.out, ho', his.out, ho, by have := hl.out; omega⟩, hnw, hk, hl.out⟩
end
set_option maxRecDepth 10000 in
theorem sameStores_any {B B' : Nat} {w : World} {p p' : Nat} {s : St} {N N' : Nat} {P P' : Nat → Prop} (h : Sto B w p s N P) (h' : Sto B' w p' s N' P') (hN : N ≤ 1000000000) (hN' : N' ≤ 1000000000) :
    Calls Tryz.prog 26 #[.pointer (some ⟨p, 0, none⟩), .pointer (some ⟨p', 0, none⟩), .bool true] w fun e w' => e = .returned (.bool true) ∧ Keeps no w w' := by
  have H : Hid (Sto B w p s N P ∧ Sto B' w p' s N' P') := ⟨h, h'⟩
  clear h h'
  go_enter Tryz.func26, Tryz.ntmps26
  go_wp2_with fail
  refine (H.out.1.keptK (by omega)).mono ?_
  rintro e w1 ⟨o1, n1, c1, k1, rfl, H1⟩
  go_wp2_with fail
  refine ((H.out.2.keepsN H1.out.2.2.1).keptK (by omega)).mono ?_
  rintro e w2 ⟨o2, n2, c2, k2, rfl, H2⟩
  go_wp2_with fail
  refine (sameKd true (Sim.refl s) (fun _ _ => rfl) (H1.out.1.keepsN H2.out.2.2.1) H2.out.1).mono ?_
  rintro e w3 ⟨rfl, hk3⟩
  have K3 : Hid (Keeps no w w3) := H1.out.2.2.1.trans (H2.out.2.2.1.trans hk3)
  clear hk3
  go_wp2_with fail
  refine ((H.out.1.keepsN K3.out).lastsK (by omega)).mono ?_
  rintro e w4 ⟨o4, n4, c4, l4, rfl, H4⟩
  go_wp2_with fail
  refine ((H.out.2.keepsN (K3.out.trans H4.out.2.2.1)).lastsK (by omega)).mono ?_
  rintro e w5 ⟨o5, n5, c5, l5, rfl, H5⟩
  go_wp2_with fail
  refine (sameLd (fun _ => rfl) (H4.out.1.keepsN H5.out.2.2.1) H5.out.1).mono ?_
  rintro e w6 ⟨rfl, hk6⟩
  have K6 : Hid (Keeps no w w6) := K3.out.trans (H4.out.2.2.1.trans (H5.out.2.2.1.trans hk6))
  clear hk6
  go_wp2_with fail
  go_ret
  exact ⟨rfl, K6.out⟩

def DoneTo (B : Nat) (w : World) (p : Nat) (s : St) (N : Nat) (P : Nat → Prop) (e : Ending) (w' : World) : Prop := e = .returned (.bool true) ∧ Hid (Sto B w' p s N P ∧ Keeps (fun b => B ≤ b ∧ ¬ P b) w w')
theorem recL_take (l : List RW) (k : Nat) : (recL l).take k = recL (l.take k) := by unfold recL; rw [List.map_take]
set_option maxRecDepth 10000 in
theorem done_any {B : Nat} {w : World} {p : Nat} {s : St} {N : Nat} {P : Nat → Prop} (h : Sto B w p s N P) (o : Option Addr) (n c : Nat) (l : List RW) (hn : n = l.length) (hb : n ≤ 100) (hs : Sl WE w o c l) (hok : ∀ x ∈ l, RWok x) (hP : ∀ b, inO o b → b < B ∨ P b) (now : Int) (ht : tickB now = true) (hN : N ≤ 700000000) :
    Calls Tryz.prog 24 #[.pointer (some ⟨p, 0, none⟩), .slice o n c, .int .i64 now] w (DoneTo B w p (redoS now s (recL l)) (N + 3 * n) P) := by
  have HN : Hid (n = l.length) := hn
  have HS : Hid (Sto B w p s N P ∧ Sl WE w o c l ∧ (∀ x ∈ l, RWok x) ∧ (∀ b, inO o b → b < B ∨ P b) ∧ tickB now = true ∧ N ≤ 700000000) := ⟨h, hs, hok, hP, ht, hN⟩
  have hb' : (n : Int) ≤ 100 := by omega
  clear hn h hs hok hP ht hN hb
  go_enter Tryz.func24, Tryz.ntmps24
  go_wp2_with fail
  go_loopw [7] (fun i wr => ∃ k : Nat, k ≤ n ∧ i = .int .i64 k ∧ Hid (Sto B wr p (redoS now s (recL (l.take k))) (N + 3 * k) P ∧ Keeps (fun b => B ≤ b ∧ ¬ P b) w wr)) (fun i _ => n - (intOf i).toNat)
  case atStart => exact ⟨0, by omega, rfl, ⟨by simpa [redoS, recL] using HS.out.1, Keeps.refl _ _⟩⟩
  case round =>
    obtain ⟨k, hk, rfl, HU⟩ := hrel
    rename World => wq
    by_cases h2 : k < n
    · have h2' : (k : Int) < n := by omega
      have hkl : k < l.length := by have := HN.out; omega
      have hsl : Sl WE wq o c l := HS.out.2.1.keeps HU.out.2 (fun b hb hs => by rcases HS.out.2.2.2.1 b hb with h1 | h1; have := hs.1; omega; exact hs.2 h1)
      obtain ⟨b, off, rfl, d0, d1, d2, d3⟩ := hsl.atW hkl
      obtain ⟨x, hx⟩ : ∃ x, x = l.getD k rw0 := ⟨_, rfl⟩
      rw [← hx] at d0 d1 d2 d3
      have hxm : x ∈ l := by rw [hx, List.getD_eq_getElem?_getD, List.getElem?_eq_getElem hkl]; exact List.getElem_mem hkl
      have hrec := rec_any wq x (HS.out.2.2.1 x hxm)
      have HSn : Hid (redoS now s (recL (l.take (k + 1))) = doRec now (redoS now s (recL (l.take k))) (recS x)) := by
        show _ = _
        rw [← recL_take, ← recL_take, redo_snoc now s (recL l) k (by rw [recL_len]; exact hkl), recL_getD l k hkl, ← hx]
      have hkn : Hid (N + 3 * k ≤ 800000000) := by show _ ≤ _; have := HS.out.2.2.2.2.2; omega
      clear hsl hkl hx hxm
      go_wp2_with fail
      refine hrec.mono ?_
      rintro e w2 ⟨⟨vk, vi, vop, vnp, vcp, vok, vnk, vck⟩, rfl, HG, K2⟩
      simp only at HG ⊢
      clear hrec
      have hS2 := HU.out.1.other (K2.out.alloc (.cells #[.int .i64 vk, .int .u64 (vi : Nat), .slice vop vnp vcp, .slice vok vnk vck] 54)) (fun b hb => hb.elim)
      have hC : Hid (IsC (w2.alloc (.cells #[.int .i64 vk, .int .u64 (vi : Nat), .slice vop vnp vcp, .slice vok vnk vck] 54)) ⟨vk, vi, vop, vnp, vcp, vok, vnk, vck⟩ (recS x)) := HG.out.isC.keepsN ((Keeps.refl no _).alloc _)
      have KA : Hid (Keeps no wq (w2.alloc (.cells #[.int .i64 vk, .int .u64 (vi : Nat), .slice vop vnp vcp, .slice vok vnk vck] 54))) := K2.out.alloc _
      have hS3 : Hid (Sto B (w2.alloc (.cells #[.int .i64 vk, .int .u64 (vi : Nat), .slice vop vnp vcp, .slice vok vnk vck] 54)) p (redoS now s (recL (l.take k))) (N + 3 * k) P) := hS2.sub (fun b hb => .inl hb)
      clear hS2
      have ek : vk = (recS x).kind := HG.out.k
      have ei : vi = (recS x).id := HG.out.i
      have Ei : Hid (vi = (recS x).id) := ei
      have hmay := recS_may x
      have hid := recS_id x
      have hprs := recS_prs x
      have HPr : Hid ((recS x).pairs.length ≤ 3) := hprs
      by_cases h1 : (recS x).kind = 1
      · have hput := Sto.put hS3.out (recS x).id (recS x).pairs (recS x).keys now vop vnp vcp vok vnk vck hid hC.out.np hC.out.nk hC.out.prs hC.out.kys (by omega) (may_put hmay h1 HS.out.2.2.2.2.1) (by have := hkn.out; omega)
        rw [← Ei.out] at hput
        have hd : Hid (doRec now (redoS now s (recL (l.take k))) (recS x) = putAll vi (recS x).keys now (redoS now s (recL (l.take k))) (miss (redoS now s (recL (l.take k))) vi (recS x).pairs)) := by show _ = _; unfold doRec; rw [if_pos h1, Ei.out]
        rw [h1] at ek
        clear h1 ei hmay hid hprs
        subst vk
        go_wp2_with fail
        refine hput.mono ?_
        rintro e w4 ⟨⟨Bz, rfl⟩, H4⟩
        clear hput
        go_wp2_with fail
        go_roundw
        case rel =>
          refine ⟨k + 1, by omega, by go_num, ?_⟩
          rw [HSn.out, hd.out]
          exact ⟨H4.out.1.more (by have := HPr.out; omega), HU.out.2.trans (KA.out.of_no.trans H4.out.2)⟩
        case measure => simp [intOf]; omega
      · obtain ⟨hk2, hi2⟩ := may_com hmay h1
        have hcom := Sto.commit hS3.out (recS x).id now hid hi2 HS.out.2.2.2.2.1 (by have := hkn.out; omega)
        rw [← Ei.out] at hcom
        have hd : Hid (doRec now (redoS now s (recL (l.take k))) (recS x) = commitS (redoS now s (recL (l.take k))) vi now) := by show _ = _; unfold doRec; rw [if_neg h1, Ei.out]
        rw [hk2] at ek
        clear h1 hk2 hi2 ei hmay hid hprs
        subst vk
        go_wp2_with fail
        refine hcom.mono ?_
        rintro e w4 ⟨⟨Bz, rfl⟩, H4⟩
        clear hcom
        go_wp2_with fail
        go_roundw
        case rel =>
          refine ⟨k + 1, by omega, by go_num, ?_⟩
          rw [HSn.out, hd.out]
          exact ⟨H4.out.1.more (by omega), HU.out.2.trans (KA.out.of_no.trans H4.out.2)⟩
        case measure => simp [intOf]; omega
    · have h2' : ¬ (k : Int) < n := by omega
      have e : Hid (l.take k = l) := List.take_of_length_le (by have := HN.out; omega)
      have ek : k = n := by omega
      go_wp2_with fail
      go_ret
      have := HU.out
      rw [e.out, ek] at this
      exact ⟨rfl, this⟩
end Go.Proofs.YtoijeipoblnliaaGreatDoor

import Derived.Test.YtdemoghlibnooaaGreatDoorZC
import Derived.Test.YtdemoghlibnooaaGreatDoorZH
import Derived.Test.YtdemoghlibnooaaGreatDoorZN
/- A record taken in, and logged; alive. -/
namespace Go.Proofs.YtdemoghlibnooaaGreatDoor
open Go.RowKit Go.Maps Go.Sort Orl Pk
set_option linter.unusedVariables false
set_option linter.unusedSimpArgs false

theorem Keeps.lowZ {S : Nat → Prop} {w w' : World} (h : Keeps S w w') : Keeps (fun b => S b ∧ b < w.heap.size) w w' :=
  ⟨h.os, h.tape, h.output, h.size, fun k hk hn => h.block k hk (fun hs => hn ⟨hs, hk⟩)⟩
def TakeTo (B : Nat) (w : World) (q : Nat) (s : St) (N : Nat) (P : Nat → Prop) (e : Ending) (w' : World) : Prop := e = .returned (.tuple #[]) ∧ Hid (Sto B w' q s N P ∧ Keeps (fun b => B ≤ b ∧ ¬ P b) w w')
set_option maxRecDepth 10000 in
theorem take_any {B : Nat} {w : World} {q : Nat} {s : St} {N : Nat} {P : Nat → Prop} (h : Sto B w q s N P) (v : CV) (r : Rec) (hc : IsC w v r) (hm : may r = true) (hi : r.id < 18446744073709551616) (hp : r.pairs.length ≤ 6) (hN : N ≤ 800000000) :
    Calls Tryz.prog 17 #[.pointer (some ⟨q, 0, none⟩), .agg #[.int .i64 v.k, .int .u64 (v.i : Nat), .slice v.op v.np v.cp, .slice v.ok v.nk v.ck]] w (TakeTo B w q (doRec 0 s r) (N + r.pairs.length) P) := by
  obtain ⟨vk, vi, vop, vnp, vcp, vok, vnk, vck⟩ := v
  simp only
  have ek : vk = r.kind := hc.k
  have ei : vi = r.id := hc.i
  have hC : Hid (IsC (w.alloc (.cells #[.int .i64 vk, .int .u64 (vi : Nat), .slice vop vnp vcp, .slice vok vnk vck] 47)) ⟨vk, vi, vop, vnp, vcp, vok, vnk, vck⟩ r) := hc.keepsN ((Keeps.refl no _).alloc _)
  have KA : Hid (Keeps no w (w.alloc (.cells #[.int .i64 vk, .int .u64 (vi : Nat), .slice vop vnp vcp, .slice vok vnk vck] 47))) := (Keeps.refl no _).alloc _
  have hS3 : Hid (Sto B (w.alloc (.cells #[.int .i64 vk, .int .u64 (vi : Nat), .slice vop vnp vcp, .slice vok vnk vck] 47)) q s N P) := (h.other KA.out (fun b hb => hb.elim)).sub (fun b hb => .inl hb)
  have Ei : Hid (vi = r.id) := ei
  have HPr : Hid (r.pairs.length ≤ 6) := hp
  by_cases h1 : r.kind = 1
  · have hput := Sto.put hS3.out r.id r.pairs r.keys 0 vop vnp vcp vok vnk vck hi hC.out.np hC.out.nk hC.out.prs hC.out.kys (by omega) (may_put hm h1 (by decide)) (by omega)
    rw [← Ei.out] at hput
    have hd : Hid (doRec 0 s r = putAll vi r.keys 0 s (miss s vi r.pairs)) := by show _ = _; unfold doRec; rw [if_pos h1, Ei.out]
    rw [h1] at ek
    clear h1 ei hm hi hp h hc
    subst vk
    go_enter Tryz.func17, Tryz.ntmps17
    go_wp2_with fail
    refine hput.mono ?_
    rintro e w4 ⟨⟨Bz, rfl⟩, H4⟩
    clear hput
    go_wp2_with fail
    go_end0
    refine ⟨rfl, ?_, KA.out.of_no.trans H4.out.2⟩
    rw [hd.out]
    exact H4.out.1
  · obtain ⟨hk2, hi2⟩ := may_com hm h1
    have hcom := Sto.commit hS3.out r.id 0 hi hi2 (by decide) (by omega)
    rw [← Ei.out] at hcom
    have hd : Hid (doRec 0 s r = commitS s vi 0) := by show _ = _; unfold doRec; rw [if_neg h1, Ei.out]
    rw [hk2] at ek
    clear h1 hk2 hi2 ei hm hi hp h hc
    subst vk
    go_enter Tryz.func17, Tryz.ntmps17
    go_wp2_with fail
    refine hcom.mono ?_
    rintro e w4 ⟨⟨Bz, rfl⟩, H4⟩
    clear hcom
    go_wp2_with fail
    go_end0
    refine ⟨rfl, ?_, KA.out.of_no.trans H4.out.2⟩
    rw [hd.out]
    exact H4.out.1.more (by omega)
end Go.Proofs.YtdemoghlibnooaaGreatDoor

import Derived.Test.YtdemoghlibnooaaGreatDoorZC
import Derived.Test.YtdemoghlibnooaaGreatDoorZN
import Derived.Test.YtdemoghlibnooaaGreatDoorZR
import Derived.Deep.RegionHeld3
namespace Go.Proofs.YtdemoghlibnooaaGreatDoor
open Go.RowKit Go.Maps Go.Sort Orl Pk
set_option linter.unusedVariables false
set_option linter.unusedSimpArgs false
theorem Keeps.lowZ {S : Nat → Prop} {w w' : World} (h : Keeps S w w') : Keeps (fun b => S b ∧ b < w.heap.size) w w' :=
  ⟨h.os, h.tape, h.output, h.size, fun k hk hn => h.block k hk (fun hs => hn ⟨hs, hk⟩)⟩
def TakeTo (B : Nat) (w : World) (q : Nat) (s : St) (N : Nat) (P : Nat → Prop) (e : Ending) (w' : World) : Prop := e = .returned (.tuple #[]) ∧ Hid (Sto B w' q s N P ∧ Keeps (fun b => B ≤ b ∧ ¬ P b) w w')
set_option maxRecDepth 10000 in
theorem take_any {B : Nat} {w : World} {q : Nat} {s : St} {N : Nat} {P : Nat → Prop} (h : Sto B w q s N P) (v : CV) (r : Rec) (hc : IsC w v r) (hm : may r = true) (hi : r.id < 18446744073709551616) (hp : r.pairs.length ≤ 6) (hN : N ≤ 800000000) :
    Calls Tryz.prog 17 #[.pointer (some ⟨q, 0, none⟩), .agg #[.int .i64 v.k, .int .u64 (v.i : Nat), .slice v.op v.np v.cp, .slice v.ok v.nk v.ck]] w (TakeTo B w q (doRec 0 s r) (N + r.pairs.length) P) := by
  obtain ⟨vk, vi, vop, vnp, vcp, vok, vnk, vck⟩ := v
  simp only
  have ek : vk = r.kind := hc.k
  have ei : vi = r.id := hc.i
  have hC : Hid (IsC (w.alloc (.cells #[.int .i64 vk, .int .u64 (vi : Nat), .slice vop vnp vcp, .slice vok vnk vck] 47)) ⟨vk, vi, vop, vnp, vcp, vok, vnk, vck⟩ r) := hc.keepsN ((Keeps.refl no _).alloc _)
  have KA : Hid (Keeps no w (w.alloc (.cells #[.int .i64 vk, .int .u64 (vi : Nat), .slice vop vnp vcp, .slice vok vnk vck] 47))) := (Keeps.refl no _).alloc _
  have hS3 : Hid (Sto B (w.alloc (.cells #[.int .i64 vk, .int .u64 (vi : Nat), .slice vop vnp vcp, .slice vok vnk vck] 47)) q s N P) := (h.other KA.out (fun b hb => hb.elim)).sub (fun b hb => .inl hb)
  have Ei : Hid (vi = r.id) := ei
  have HPr : Hid (r.pairs.length ≤ 6) := hp
  by_cases h1 : r.kind = 1
  · have hput := Sto.put hS3.out r.id r.pairs r.keys 0 vop vnp vcp vok vnk vck hi hC.out.np hC.out.nk hC.out.prs hC.out.kys (by omega) (may_put hm h1 (by decide)) (by omega)
    rw [← Ei.out] at hput
    have hd : Hid (doRec 0 s r = putAll vi r.keys 0 s (miss s vi r.pairs)) := by show _ = _; unfold doRec; rw [if_pos h1, Ei.out]
    rw [h1] at ek
    clear h1 ei hm hi hp h hc
    subst vk
    go_enter Tryz.func17, Tryz.ntmps17
    go_wp2_with fail
    refine hput.mono ?_
    rintro e w4 ⟨⟨Bz, rfl⟩, H4⟩
    clear hput
    go_wp2_with fail
    go_end0
    refine ⟨rfl, ?_, KA.out.of_no.trans H4.out.2⟩
    rw [hd.out]
    exact H4.out.1
  · obtain ⟨hk2, hi2⟩ := may_com hm h1
    have hcom := Sto.commit hS3.out r.id 0 hi hi2 (by decide) (by omega)
    rw [← Ei.out] at hcom
    have hd : Hid (doRec 0 s r = commitS s vi 0) := by show _ = _; unfold doRec; rw [if_neg h1, Ei.out]
    rw [hk2] at ek
    clear h1 hk2 hi2 ei hm hi hp h hc
    subst vk
    go_enter Tryz.func17, Tryz.ntmps17
    go_wp2_with fail
    refine hcom.mono ?_
    rintro e w4 ⟨⟨Bz, rfl⟩, H4⟩
    clear hcom
    go_wp2_with fail
    go_end0
    refine ⟨rfl, ?_, KA.out.of_no.trans H4.out.2⟩
    rw [hd.out]
    exact H4.out.1.more (by omega)
end Go.Proofs.YtdemoghlibnooaaGreatDoor
namespace Go.Proofs.YtdemoghlibnooaaGreatDoor
open Go.RowKit Go.Maps Go.Sort Orl Pk
set_option linter.unusedVariables false
set_option linter.unusedSimpArgs false
def Stx (w0 W : World) (q : Nat) (s : St) (N : Nat) (A : Nat → Prop) : Prop := Sto w0.heap.size W q s N (fun b => b < W.heap.size ∧ ¬ A b) ∧ ∀ b, A b → w0.heap.size ≤ b ∧ b < W.heap.size
section
variable {w0 W W' : World} {q : Nat} {s : St} {N : Nat} {A : Nat → Prop}
theorem Stx.other (h : Stx w0 W q s N A) {S : Nat → Prop} (hk : Keeps S W W') (hS : ∀ b, S b → b < W.heap.size → ¬ A b) : Stx w0 W' q s N A := by
  refine ⟨(h.1.other hk.lowZ (fun b hb => .inr ⟨hb.2, hS b hb.1 hb.2⟩)).sub (fun b hb => ?_), fun b hb => ⟨(h.2 b hb).1, Nat.lt_of_lt_of_le (h.2 b hb).2 hk.size⟩⟩
  rcases Nat.lt_or_ge b W.heap.size with h1 | h1
  · exact .inl ⟨h1, hb.2⟩
  · exact .inr ⟨h1, hb.1⟩
theorem Stx.keepsN (h : Stx w0 W q s N A) (hk : Keeps no W W') : Stx w0 W' q s N A := h.other hk (fun b hb => hb.elim)
theorem Stx.own (h : Stx w0 W q s N A) {s' : St} {N' : Nat} (h' : Sto w0.heap.size W' q s' N' (fun b => b < W.heap.size ∧ ¬ A b)) (hk : Keeps (fun b => w0.heap.size ≤ b ∧ ¬ (b < W.heap.size ∧ ¬ A b)) W W') : Stx w0 W' q s' N' (grow A W W') ∧ Keeps A W W' := by
  refine ⟨⟨h'.sub (fun b hb => ?_), fun b hb => ?_⟩, hk.lowZ.mono (fun b hb => ?_)⟩
  · rcases Nat.lt_or_ge b W.heap.size with h1 | h1
    · exact ⟨h1, fun ha => hb.2 (.inl ha)⟩
    · exact absurd (.inr ⟨h1, hb.1⟩) hb.2
  · rcases hb with h1 | h1
    · exact ⟨(h.2 b h1).1, Nat.lt_of_lt_of_le (h.2 b h1).2 hk.size⟩
    · exact ⟨Nat.le_trans h.1.le h1.1, h1.2⟩
  · exact Classical.byContradiction fun hn => hb.1.2 ⟨hb.2, hn⟩
end
theorem Dn.aside {w0 w w' : World} {p : Nat} {F S : Nat → Prop} {s : Dk.St} (h : Dn w0 w p F s) (hk : Keeps S w w') (hF : ∀ k, F k → ¬ S k) (hS : ∀ k, S k → w0.heap.size ≤ k) : Dn w0 w' p F s := ⟨h.is.keeps hk hF, h.new, h.kept.then hk (fun i hi => .inr (hS i hi))⟩
section
variable {w0 W W' : World} {p : Nat} {F : Nat → Prop} {t : Dk.St} {qa : Nat} {Sa : St} {Na : Nat} {A : Nat → Prop}
end
section
variable {w0 W W' : World} {p : Nat} {F : Nat → Prop} {t : Dk.St} {qa : Nat} {Sa : St} {Na : Nat} {A : Nat → Prop} {q : Nat} {S : St} {N : Nat} {C : Nat → Prop} {l : Nat} {n : Tx} {k : Nat}
end
end Go.Proofs.YtdemoghlibnooaaGreatDoor
namespace Go.Proofs.YtdemoghlibnooaaGreatDoor
open Go.RowKit Go.Maps Go.Sort Orl Pk
set_option linter.unusedVariables false
set_option linter.unusedSimpArgs false
theorem on_newZ : On Dk.new := ⟨rfl, rfl⟩
theorem dn_newZ (w : World) : Calls Tryz.prog 7 #[] w fun e w' => ∃ p, e = .returned (.pointer (some ⟨p, 0, none⟩)) ∧ Hid (Dn w w' p (fun k => w.heap.size ≤ k ∧ k < w'.heap.size) Dk.new) := by
  refine (new_anyW w).mono ?_
  rintro e w' ⟨p, rfl, hi, hk⟩
  exact ⟨p, rfl, ⟨hi, fun k hk => hk.1, hk⟩⟩
theorem logN1 : logN ((0 + 1 : Nat) : Int) = ⟨#[108, 111, 103, 46, 49]⟩ := by
  unfold logN
  rw [Lib.itoa_nonneg, Lib.decDigits_one (by omega)]
  rfl
theorem run_new (b : List UInt8) : runF b 0 Dk.new = (⟨[(snapB, fl b)], false, 0, -1, 0⟩, 0) := by
  have h1 : begS 0 Dk.new = (Dk.new, 0) := by
    unfold begS
    rw [on_newZ.tick]
    simp [sweepF, Dk.names, Dk.new]
  have a1 := app_on (s := Dk.new) (n := tmpB) (b := b) on_newZ rfl tmp_good (fun _ => by simp [Dk.new])
  have h2 : layS b Dk.new = (⟨[(snapB, fl b)], false, 0, -1, 0⟩, 0) := by
    unfold layS
    rw [a1, bnd_pair]
    show bnd (Dk.counted (lay1 tmpB ⟨bsOf tmpB Dk.new ++ b, syOf tmpB Dk.new⟩ Dk.new) (Dk.syncOn tmpB)) _ = _
    rw [sync_on (on_newZ.lay1 _ _) (find_lay1 _ _ _), bnd_pair]
    show Dk.counted (lay1 tmpB ⟨b, b.length⟩ (lay1 tmpB ⟨b, 0⟩ Dk.new)) (Dk.renameOn tmpB snapB) = _
    rw [((on_newZ.lay1 _ _).lay1 _ _).counted]
    unfold Dk.renameOn Dk.onF
    rw [if_pos snap_good, find_lay1]
    rfl
  unfold runF runS
  rw [h1, bnd_pair, h2, bnd_pair]
  have h3 : sweepF (Dk.names (Dk.tick Dk.new).fs) [logB ((0 : Nat) : Int)] ⟨[(snapB, fl b)], false, 0, -1, 0⟩ = (⟨[(snapB, fl b)], false, 0, -1, 0⟩, 0) := by
    rw [on_newZ.tick]
    simp [sweepF, Dk.names, Dk.new]
  rw [h3, bnd_pair]
  rfl
def txA : Tx := ⟨#[97]⟩
def tx1 : Tx := ⟨#[49]⟩
def SA : St := commitS (putAll 65536 [txA] 0 St.new (miss St.new 65536 [(txA, tx1)])) 65536 0
theorem sa_last : SA.last txA = 65536 := by
  unfold SA
  rw [com_last, if_pos]
  rw [upB_iff]
  refine ⟨?_, ?_⟩
  · have hm : miss St.new 65536 [(txA, tx1)] = [(txA, tx1)] := rfl
    rw [hm]
    show (put1 65536 [txA] 0 St.new (txA, tx1)).V (txA, 65536) ≠ none
    unfold put1 St.add
    simp
  · rw [putAll_last]
    show (0 : Nat) < 65536
    omega
theorem put_okA : okPut 65536 [(txA, tx1)] [txA] 0 = true := by decide
theorem Sto.last {B : Nat} {w : World} {p : Nat} {s : St} {N : Nat} {P : Nat → Prop} (h : Sto B w p s N P) (k : Tx) (hk : k.size ≤ 65535) :
    Calls Tryz.prog 44 #[.pointer (some ⟨p, 0, none⟩), .string k] w fun e w' => e = .returned (.int .u64 ((s.last k : Nat) : Int)) ∧ w' = w := by
  obtain ⟨T, hi, _⟩ := h
  exact last_any w p T s N k hi (by unfold maxLen; omega)
set_option maxRecDepth 10000 in
set_option maxHeartbeats 1000000 in
theorem alive_any (w : World) (ht : Tabs w) : Calls Tryz.prog 6 #[] w fun e w' => e = .returned (.bool true) ∧ Keeps no w w' := by
  have HT : Hid (Tabs w) := ht
  clear ht
  go_enter Tryz.func6, Tryz.ntmps6
  go_wp2_with fail
  refine (dn_newZ w).mono ?_
  rintro e w1 ⟨p, rfl, D1⟩
  obtain ⟨F, hF⟩ : ∃ F : Nat → Prop, F = (fun k => w.heap.size ≤ k ∧ k < w1.heap.size) := ⟨_, rfl⟩
  rw [← hF] at D1
  have HF : Hid (∀ k, F k → w.heap.size ≤ k ∧ k < w1.heap.size) := fun k hk => by rw [hF] at hk; exact hk
  clear hF
  go_wp2_with fail
  refine (sto_new w1).mono ?_
  rintro e w2 ⟨q, rfl, H2⟩
  obtain ⟨W2, hW2⟩ : ∃ W, W = (w2.alloc (.cells #[.string txA, .string tx1] 85)).alloc (.cells #[.string txA] 9) := ⟨_, rfl⟩
  have K2 : Hid (Keeps no w2 W2) := by rw [hW2]; exact ((Keeps.refl no _).alloc _).alloc _
  have hsp : Hid (Sl PE W2 (some ⟨w2.heap.size, 0, none⟩) 1 [(txA, tx1)]) := by rw [hW2]; exact (own_oneP w2 txA tx1).keepsN ((Keeps.refl no _).alloc _)
  have hsk : Hid (Sl TE W2 (some ⟨w2.heap.size + 1, 0, none⟩) 1 [txA]) := by
    have h2 := own_one (w2.alloc (.cells #[.string txA, .string tx1] 85)) txA
    rw [World.size_alloc] at h2
    rw [hW2]; exact h2
  have hput := Sto.put (((H2.out.1.other K2.out (fun b hb => hb.elim)).sub (Q := no) (fun b hb => hb.elim))) 65536 [(txA, tx1)] [txA] 0 (some ⟨w2.heap.size, 0, none⟩) 1 1 (some ⟨w2.heap.size + 1, 0, none⟩) 1 1 (by omega) rfl rfl hsp.out hsk.out (by simp) put_okA (by omega)
  have HPU : Hid (Calls Tryz.prog 42 #[.pointer (some ⟨q, 0, none⟩), .int .u64 ((65536 : Nat) : Int), .slice (some ⟨w2.heap.size, 0, none⟩) 1 1, .slice (some ⟨w2.heap.size + 1, 0, none⟩) 1 1, .int .i64 0] W2 _) := hput
  rw [hW2] at HPU
  clear hput
  go_wp2_with fail
  refine Calls.mono HPU.out ?_
  rw [← hW2]
  rintro e w3 ⟨⟨Bz, rfl⟩, H3⟩
  clear HPU hW2 hsp hsk
  go_wp2_with fail
  refine (Sto.commit H3.out.1 65536 0 (by omega) (by omega) (by decide) (by simp)).mono ?_
  rintro e w4 ⟨⟨nz, rfl⟩, H4⟩
  have H4' : Hid (Sto w1.heap.size w4 q SA 1 no) := H4.out.1
  have K14 : Hid (Keeps no w1 w4) := ((H2.out.2.trans K2.out).then H3.out.2 (fun b hb => .inr hb.1)).then H4.out.2 (fun b hb => .inr hb.1)
  have D4 : Hid (Dn w w4 p F Dk.new) := D1.out.beside K14.out
  have S4 : Hid (Sto w.heap.size w4 q SA 1 F) := by
    obtain ⟨T, hi, ho, hB, hP⟩ := H4'.out
    refine ⟨T, hi, ho, fun b hb => Nat.le_trans D1.out.kept.size (hB b hb), fun b hb => ⟨?_, Nat.lt_of_lt_of_le (HF.out b hb).2 K14.out.size⟩⟩
    cases hT : T b with
    | none => rfl
    | some r => have := hB b (by rw [hT]; simp); have := (HF.out b hb).2; omega
  clear H2 H3 H4 K2 H4'
  have hrun := run_any D4.out HT.out S4.out (fun b hb => hb) (by omega) 0 (by omega)
  go_wp2_with fail
  refine hrun.mono ?_
  rintro e w5 ⟨b, F5, t5, E5, HB, HF5, HD5, HE⟩
  clear hrun
  have hr := HB.out.2
  rw [run_new] at hr
  have hE5 : E5 = 0 := by injection hr with _ h; exact h.symm
  have ht5 : t5 = ⟨[(snapB, fl b)], false, 0, -1, 0⟩ := by injection hr with h _; exact h.symm
  subst hE5 ht5
  rcases HE with ⟨h0, _⟩ | ⟨_, l, rfl, HL⟩
  · exact absurd rfl h0
  have HL1 : Hid (IsL w5 l p ⟨#[108, 111, 103, 46, 49]⟩ 0) := by rw [← logN1]; exact HL.out.1
  have S5 : Hid (Sto w.heap.size w5 q SA 1 (fun b => F b ∨ (w4.heap.size ≤ b ∧ b < w5.heap.size))) := S4.out.other HD5.out.2 (fun b hb => .inr hb)
  have hsz := LogSize_any w5 l p ⟨#[108, 111, 103, 46, 49]⟩ 0 HL1.out
  have hnm := LogName_any w5 l p ⟨#[108, 111, 103, 46, 49]⟩ 0 HL1.out
  have hls := list_any w5 p F5 _ HD5.out.1.is
  have on5 : On (⟨[(snapB, fl b)], false, 0, -1, 0⟩ : Dk.St) := ⟨rfl, rfl⟩
  rw [on5.tick, show Dk.listE (⟨[(snapB, fl b)], false, 0, -1, 0⟩ : Dk.St) = 0 from rfl, show Dk.listN (⟨[(snapB, fl b)], false, 0, -1, 0⟩ : Dk.St) = [snapB] from rfl] at hls
  clear hr HB HL on5
  go_wp2_with (first | (go_at_call 21; refine hsz.mono ?_; rintro e w6 ⟨rfl, hw⟩; subst w6) | (go_at_call 38; refine hnm.mono ?_; rintro e w6 ⟨rfl, hw⟩; subst w6) | fail)
  refine hls.mono ?_
  rintro e w6 ⟨o6, c6, m6, rfl, hm6, ho6, hw6, hd6, hk6⟩
  clear hls hsz hnm
  have hm : m6 = 1 := hm6.out
  subst hm
  obtain ⟨bb, off, rfl, f0⟩ := ho6.sl.at (j := 0) (by simp)
  have f0' : w6.cell? ⟨bb, off, none⟩ = some (.string ⟨#[115, 110, 97, 112]⟩) := f0
  have S6 : Hid (Sto w.heap.size w6 q SA 1 no) := (S5.out.other hk6 (fun b hb => .inr (HF5.out b hb))).sub (fun b hb => hb.elim)
  have hla := Sto.last S6.out txA (by decide)
  rw [sa_last] at hla
  clear f0 ho6 hw6 hd6 hm6
  go_wp2_with (first | (go_at_call 44; refine hla.mono ?_; rintro e w7 ⟨rfl, hw⟩; subst w7) | fail)
  go_ret
  exact ⟨rfl, HD5.out.1.kept.then hk6 (fun b hb => .inr (HD5.out.1.new b hb))⟩
theorem run_arg (w : World) (d q : Option Addr) (g : Int) (h : d = none ∨ q = none ∨ g < 0 ∨ 1099511627776 ≤ g) :
    Calls Tryz.prog 11 #[.pointer d, .pointer q, .int .i64 g] w fun e w' => e = .returned (.tuple #[.pointer none, .int .i64 0, .int .i64 1]) ∧ w' = w := by
  cases d with
  | none =>
    go_enter Tryz.func11, Tryz.ntmps11
    go_wp2
    go_ret3
    exact ⟨rfl, rfl⟩
  | some d =>
    cases q with
    | none =>
      go_enter Tryz.func11, Tryz.ntmps11
      go_wp2
      go_ret3
      exact ⟨rfl, rfl⟩
    | some q =>
      have h : g < 0 ∨ 1099511627776 ≤ g := by
        rcases h with h | h | h
        · cases h
        · cases h
        · exact h
      by_cases h0 : g < 0
      · clear h
        go_enter Tryz.func11, Tryz.ntmps11
        go_wp2
        go_ret3
        exact ⟨rfl, rfl⟩
      · have h1 : 1099511627776 ≤ g := by omega
        clear h
        go_enter Tryz.func11, Tryz.ntmps11
        go_wp2
        go_ret3
        exact ⟨rfl, rfl⟩
theorem i64_and3 (n : Int) : bits .and .i64 n 3 = n % 4 := by
  have h1 : (BitVec.ofInt 64 3).toNat = 2 ^ 2 - 1 := by decide
  have key : (BitVec.ofInt 64 n &&& BitVec.ofInt 64 3).toNat = (n % ((2 ^ 64 : Nat) : Int)).toNat % 2 ^ 2 := by
    rw [BitVec.toNat_and, BitVec.toNat_ofInt, h1, Nat.and_two_pow_sub_one_eq_mod]
  show IntKind.i64.wrap ((BitVec.ofInt 64 n &&& BitVec.ofInt 64 3).toNat : Nat) = n % 4
  rw [key, IntKind.wrap_i64]
  omega
theorem i64_and24 (n : Int) : bits .and .i64 n 16777215 = n % 16777216 := by
  have h1 : (BitVec.ofInt 64 16777215).toNat = 2 ^ 24 - 1 := by decide
  have key : (BitVec.ofInt 64 n &&& BitVec.ofInt 64 16777215).toNat = (n % ((2 ^ 64 : Nat) : Int)).toNat % 2 ^ 24 := by
    rw [BitVec.toNat_and, BitVec.toNat_ofInt, h1, Nat.and_two_pow_sub_one_eq_mod]
  show IntKind.i64.wrap ((BitVec.ofInt 64 n &&& BitVec.ofInt 64 16777215).toNat : Nat) = n % 16777216
  rw [key, IntKind.wrap_i64]
  omega
end Go.Proofs.YtdemoghlibnooaaGreatDoor
namespace Go.Proofs.YtdemoghlibnooaaGreatDoor
open Go.RowKit Go.Maps Go.Sort Orl Pk
set_option linter.unusedVariables false
set_option linter.unusedSimpArgs false
theorem i64_and7 (n : Int) : bits .and .i64 n 7 = n % 8 := by
  have h1 : (BitVec.ofInt 64 7).toNat = 2 ^ 3 - 1 := by decide
  have key : (BitVec.ofInt 64 n &&& BitVec.ofInt 64 7).toNat = (n % ((2 ^ 64 : Nat) : Int)).toNat % 2 ^ 3 := by
    rw [BitVec.toNat_and, BitVec.toNat_ofInt, h1, Nat.and_two_pow_sub_one_eq_mod]
  show IntKind.i64.wrap ((BitVec.ofInt 64 n &&& BitVec.ofInt 64 7).toNat : Nat) = n % 8
  rw [key, IntKind.wrap_i64]
  omega
theorem i64_and31s (n : Int) : bits .and .i64 n 31 = n % 32 := by
  have h1 : (BitVec.ofInt 64 31).toNat = 2 ^ 5 - 1 := by decide
  have key : (BitVec.ofInt 64 n &&& BitVec.ofInt 64 31).toNat = (n % ((2 ^ 64 : Nat) : Int)).toNat % 2 ^ 5 := by
    rw [BitVec.toNat_and, BitVec.toNat_ofInt, h1, Nat.and_two_pow_sub_one_eq_mod]
  show IntKind.i64.wrap ((BitVec.ofInt 64 n &&& BitVec.ofInt 64 31).toNat : Nat) = n % 32
  rw [key, IntKind.wrap_i64]
  omega
theorem i64_and16 (n : Int) : bits .and .i64 n 65535 = n % 65536 := by
  have h1 : (BitVec.ofInt 64 65535).toNat = 2 ^ 16 - 1 := by decide
  have key : (BitVec.ofInt 64 n &&& BitVec.ofInt 64 65535).toNat = (n % ((2 ^ 64 : Nat) : Int)).toNat % 2 ^ 16 := by
    rw [BitVec.toNat_and, BitVec.toNat_ofInt, h1, Nat.and_two_pow_sub_one_eq_mod]
  show IntKind.i64.wrap ((BitVec.ofInt 64 n &&& BitVec.ofInt 64 65535).toNat : Nat) = n % 65536
  rw [key, IntKind.wrap_i64]
  omega
def fname (wh g : Int) : Tx :=
  if wh % 8 = 0 then snapN else if wh % 8 = 1 then tmpN else if wh % 8 = 2 then logN g else if wh % 8 = 3 then logN (g + 1) else if wh % 8 = 4 then logN (g + 2) else mkT [102, UInt8.ofNat (97 + wh % 32).toNat]
theorem fname_size (wh g : Int) (h0 : 0 ≤ g) (h1 : g ≤ 65535) : (fname wh g).size ≤ 32 := by
  unfold fname
  split
  · decide
  · split
    · decide
    · split
      · exact Nat.le_trans (logN_size (by omega) (by omega)) (by omega)
      · split
        · exact Nat.le_trans (logN_size (by omega) (by omega)) (by omega)
        · split
          · exact Nat.le_trans (logN_size (by omega) (by omega)) (by omega)
          · show (mkT [102, _]).size ≤ 32
            simp [mkT, ByteArray.size]
set_option maxRecDepth 10000 in
theorem fname_any (w : World) (ht : PowIn w) (wh : Int) (o : Option Addr) (n c : Nat) (y : Bool) (g : Int) (h0 : 0 ≤ g) (h1 : g ≤ 65535) :
    Calls Tryz.prog 26 #[.agg #[.int .i64 wh, .slice o n c, .bool y], .int .i64 g] w fun e w' => e = .returned (.string (fname wh g)) ∧ Keeps no w w' := by
  have HT : Hid (PowIn w) := ht
  have Hg : Hid (0 ≤ g ∧ g ≤ 65535) := ⟨h0, h1⟩
  have hlg := fun (z : Int) (hz0 : 0 ≤ z) (hz1 : z ≤ 70000) => rlog_any (w.alloc (.cells #[.int .i64 wh, .slice o n c, .bool y] 66)) (HT.out.keepsN ((Keeps.refl no _).alloc _)) z (by omega) (by omega)
  have KA : Hid (Keeps no w (w.alloc (.cells #[.int .i64 wh, .slice o n c, .bool y] 66))) := (Keeps.refl no _).alloc _
  obtain ⟨k, hk, hk0, hk8⟩ : ∃ k : Int, bits .and .i64 wh 7 = k ∧ 0 ≤ k ∧ k < 8 := ⟨wh % 8, i64_and7 wh, by omega, by omega⟩
  have HK : Hid (wh % 8 = k) := by show _ = _; rw [← hk, i64_and7]
  have l2 := hlg g (by omega) (by omega)
  have l3 := hlg (g + 1) (by omega) (by omega)
  have l4 := hlg (g + 2) (by omega) (by omega)
  clear hlg ht
  by_cases h0k : k = 0
  · subst h0k
    have HN : Hid (fname wh g = snapN) := by show _ = _; unfold fname; rw [if_pos HK.out]
    clear l2 l3 l4
    go_enter Tryz.func26, Tryz.ntmps26
    go_wp2_with fail
    go_ret
    rw [HN.out]
    exact ⟨rfl, KA.out⟩
  by_cases h1k : k = 1
  · subst h1k
    have HN : Hid (fname wh g = tmpN) := by show _ = _; unfold fname; rw [if_neg (by rw [HK.out]; decide), if_pos HK.out]
    clear l2 l3 l4 h0k
    go_enter Tryz.func26, Tryz.ntmps26
    go_wp2_with fail
    go_ret
    rw [HN.out]
    exact ⟨rfl, KA.out⟩
  by_cases h2k : k = 2
  · subst h2k
    have HN : Hid (fname wh g = logN g) := by show _ = _; unfold fname; rw [if_neg (by rw [HK.out]; decide), if_neg (by rw [HK.out]; decide), if_pos HK.out]
    clear l3 l4 h0k h1k
    go_enter Tryz.func26, Tryz.ntmps26
    go_wp2_with (first | (go_at_call 61; refine l2.mono ?_; rintro e w2 ⟨rfl, hk2⟩) | fail)
    go_ret
    rw [HN.out]
    exact ⟨rfl, KA.out.trans hk2⟩
  by_cases h3k : k = 3
  · subst h3k
    have HN : Hid (fname wh g = logN (g + 1)) := by show _ = _; unfold fname; rw [if_neg (by rw [HK.out]; decide), if_neg (by rw [HK.out]; decide), if_neg (by rw [HK.out]; decide), if_pos HK.out]
    clear l2 l4 h0k h1k h2k
    go_enter Tryz.func26, Tryz.ntmps26
    go_wp2_with (first | (go_at_call 61; refine l3.mono ?_; rintro e w2 ⟨rfl, hk2⟩) | fail)
    go_ret
    rw [HN.out]
    exact ⟨rfl, KA.out.trans hk2⟩
  by_cases h4k : k = 4
  · subst h4k
    have HN : Hid (fname wh g = logN (g + 2)) := by show _ = _; unfold fname; rw [if_neg (by rw [HK.out]; decide), if_neg (by rw [HK.out]; decide), if_neg (by rw [HK.out]; decide), if_neg (by rw [HK.out]; decide), if_pos HK.out]
    clear l2 l3 h0k h1k h2k h3k
    go_enter Tryz.func26, Tryz.ntmps26
    go_wp2_with (first | (go_at_call 61; refine l4.mono ?_; rintro e w2 ⟨rfl, hk2⟩) | fail)
    go_ret
    rw [HN.out]
    exact ⟨rfl, KA.out.trans hk2⟩
  · obtain ⟨z, hz, hz0, hz1⟩ : ∃ z : Int, bits .and .i64 wh 31 = z ∧ 0 ≤ z ∧ z < 32 := ⟨wh % 32, i64_and31s wh, by omega, by omega⟩
    have HZ : Hid (z = wh % 32) := by show _ = _; rw [← hz, i64_and31s]
    have HN : Hid (fname wh g = mkT [102, UInt8.ofNat (97 + z).toNat]) := by
      show _ = _
      unfold fname
      rw [if_neg (by rw [HK.out]; omega), if_neg (by rw [HK.out]; omega), if_neg (by rw [HK.out]; omega), if_neg (by rw [HK.out]; omega), if_neg (by rw [HK.out]; omega), ← HZ.out]
    have e0 : (k == 0) = false := by simp; omega
    have e1 : (k == 1) = false := by simp; omega
    have e2 : (k == 2) = false := by simp; omega
    have e3 : (k == 3) = false := by simp; omega
    have e4 : (k == 4) = false := by simp; omega
    have hsl := lit_sl (w.alloc (.cells #[.int .i64 wh, .slice o n c, .bool y] 66)) [102, UInt8.ofNat (97 + z).toNat] 2 (0, 0) (by simp)
    have hlit : lit [102, UInt8.ofNat (97 + z).toNat] = #[.int .u8 102, .int .u8 (97 + z)] := by
      have e : (UInt8.ofNat (97 + z).toNat).toNat = (97 + z).toNat := by rw [UInt8.toNat_ofNat']; omega
      simp only [lit, bv, List.map_cons, List.map_nil, e]
      rw [show (((97 + z).toNat : Nat) : Int) = 97 + z by omega]
      rfl
    rw [hlit, World.size_alloc] at hsl
    have hcv := run_textG _ _ [102, UInt8.ofNat (97 + z).toNat] 2 2 rfl hsl.row
    have hw8 : IntKind.u8.wrap (97 + z) = 97 + z := by rw [IntKind.wrap_u8]; omega
    clear l2 l3 l4 h0k h1k h2k h3k h4k hlit hsl
    go_enter Tryz.func26, Tryz.ntmps26
    go_wp2_with fail
    go_ret
    rw [HN.out]
    exact ⟨rfl, KA.out.alloc _⟩
structure Par (w0 W : World) (d r : Nat) (F G : Nat → Prop) (t u : Dk.St) : Prop where
  dn : Dn w0 W d F t
  rd : IsRd W r G u
  g0 : ∀ k, G k → w0.heap.size ≤ k
  fg : ∀ k, F k → ¬ G k
section
variable {w0 W W' : World} {d r : Nat} {F G F' G' : Nat → Prop} {t u t' u' : Dk.St}
theorem Par.keepsN (h : Par w0 W d r F G t u) (hk : Keeps no W W') : Par w0 W' d r F G t u := ⟨h.dn.beside hk, h.rd.keepsN hk, h.g0, h.fg⟩
theorem Par.opd (h : Par w0 W d r F G t u) (hd : Dn w0 W' d F' t') (hF : ∀ k, F' k → F k ∨ (W.heap.size ≤ k ∧ k < W'.heap.size)) (hk : Keeps F W W') : Par w0 W' d r F' G t' u :=
  ⟨hd, h.rd.keeps hk (fun k hg hf => h.fg k hf hg), h.g0, fun k hf hg => by
    rcases hF k hf with h1 | h1
    · exact h.fg k h1 hg
    · have := h.rd.lt k hg; omega⟩
theorem Par.opd1 (h : Par w0 W d r F G t u) (hd : Dn w0 W' d F t') (hk : Keeps F W W') : Par w0 W' d r F G t' u := h.opd hd (fun k hk => .inl hk) hk
theorem Par.opr (h : Par w0 W d r F G t u) (hi : IsRd W' r G' u') (hG : ∀ k, G' k → G k ∨ (W.heap.size ≤ k ∧ k < W'.heap.size)) (hk : Keeps G W W') : Par w0 W' d r F G' t u' :=
  ⟨h.dn.aside hk h.fg h.g0, hi, fun k hg => by
    rcases hG k hg with h1 | h1
    · exact h.g0 k h1
    · exact Nat.le_trans h.dn.kept.size h1.1, fun k hf hg => by
    rcases hG k hg with h1 | h1
    · exact h.fg k hf h1
    · have := h.dn.is.lt k hf; omega⟩
theorem Par.opr1 (h : Par w0 W d r F G t u) (hi : IsRd W' r G u') (hk : Keeps G W W') : Par w0 W' d r F G t u' := h.opr hi (fun k hk => .inl hk) hk
end
def Szl (t : Dk.St) (M : Nat) : Prop := ∀ q ∈ t.fs, q.2.bs.length ≤ M
theorem Szl.more {t : Dk.St} {M M' : Nat} (h : Szl t M) (hM : M ≤ M') : Szl t M' := fun q hq => Nat.le_trans (h q hq) hM
theorem Szl.crash {t : Dk.St} {M : Nat} (h : Szl t M) (k : Int) : Szl (Dk.crash k t) M := by
  unfold Dk.crash
  split
  · exact h
  · intro q hq
    obtain ⟨x, hx, rfl⟩ := List.mem_map.1 hq
    show (x.2.bs.take _).length ≤ M
    rw [List.length_take]
    have := h x hx
    omega
theorem Szl.tick {t : Dk.St} {M : Nat} (h : Szl t M) : Szl (Dk.tick t) M := by
  unfold Dk.tick
  split
  · exact h.crash _
  · split <;> exact h
theorem Szl.put {t u : Dk.St} {M : Nat} (h : Szl t M) {n : Dk.Nm} {f : Dk.Fl} (hf : f.bs.length ≤ M) (e : u.fs = Dk.put n f t.fs) : Szl u M := fun q hq => by
  rw [e] at hq
  rcases Dk.mem_put.1 hq with e | e
  · rw [e]; exact hf
  · exact h q e.1
theorem Szl.find {t : Dk.St} {M : Nat} (h : Szl t M) {n : Dk.Nm} {f : Dk.Fl} (hf : Dk.find n t.fs = some f) : f.bs.length ≤ M := h _ (Dk.find_mem hf)
theorem Szl.append {t : Dk.St} {M : Nat} (h : Szl t M) (n : Dk.Nm) (b : List UInt8) : Szl (Dk.counted t (Dk.appendOn n b)).1 (M + b.length) := by
  have ht := h.tick
  unfold Dk.counted
  split
  · exact ht.more (by omega)
  · unfold Dk.appendOn
    split
    · split
      · split
        · exact ht.more (by omega)
        · split
          · exact (show Szl _ M from ht).more (by omega)
          · exact (ht.more (Nat.le_add_right M b.length)).put (n := n) (f := ⟨b, 0⟩) (by show b.length ≤ _; omega) rfl
      · rename_i f hf
        split
        · exact (show Szl _ M from ht).more (by omega)
        · refine (ht.more (Nat.le_add_right M b.length)).put (n := n) (f := ⟨f.bs ++ b, f.sy⟩) ?_ rfl
          show (f.bs ++ b).length ≤ _
          rw [List.length_append]
          have := ht.find hf
          omega
    · exact ht.more (by omega)
theorem Szl.new {t : Dk.St} {M : Nat} (h : Szl t M) {n : Dk.Nm} {b : List UInt8} (hb : b.length ≤ M) (hf : Dk.find n t.fs = none) : Szl (Dk.counted t (Dk.appendOn n b)).1 M := by
  have ht := h.tick
  unfold Dk.counted
  split
  · exact ht
  · unfold Dk.appendOn
    rw [find_tick hf]
    split
    · dsimp only
      split
      · exact ht
      · split
        · exact ht
        · exact ht.put (n := n) (f := ⟨b, 0⟩) hb rfl
    · exact ht
theorem Szl.onF {t : Dk.St} {M : Nat} (h : Szl t M) (n : Dk.Nm) (g : Dk.Fl → Dk.St × Int) (hg : ∀ f, f.bs.length ≤ M → Szl (g f).1 M) : Szl (Dk.onF n t g).1 M := by
  unfold Dk.onF
  cases hf : Dk.find n t.fs with
  | none => exact h
  | some f => exact hg f (h.find hf)
theorem Szl.counted {t : Dk.St} {M : Nat} (h : Szl t M) (f : Dk.St → Dk.St × Int) (hf : ∀ u, Szl u M → Szl (f u).1 M) : Szl (Dk.counted t f).1 M := by
  unfold Dk.counted
  split
  · exact h.tick
  · exact hf _ h.tick
theorem Szl.sync {t : Dk.St} {M : Nat} (h : Szl t M) (n : Dk.Nm) : Szl (Dk.counted t (Dk.syncOn n)).1 M := h.counted _ fun u hu => hu.onF n _ fun f hf => hu.put (n := n) (f := ⟨f.bs, f.bs.length⟩) hf rfl
theorem Szl.del {t : Dk.St} {M : Nat} (h : Szl t M) (n : Dk.Nm) : Szl (Dk.counted t (Dk.deleteOn n)).1 M := h.counted _ fun u hu => hu.onF n _ fun f hf q hq => hu q (Dk.mem_del.1 hq).1
theorem Szl.rename {t : Dk.St} {M : Nat} (h : Szl t M) (a n : Dk.Nm) : Szl (Dk.counted t (Dk.renameOn a n)).1 M := h.counted _ fun u hu => by
  unfold Dk.renameOn
  split
  · refine hu.onF a _ fun f hf q hq => ?_
    rcases Dk.mem_put.1 hq with e | e
    · rw [e]; exact hf
    · exact hu q (Dk.mem_del.1 e.1).1
  · exact hu
theorem Szl.bnd {x : Dk.St × Int} {M : Nat} (h : Szl x.1 M) (f : Dk.St → Dk.St × Int) (hf : Szl x.1 M → Szl (f x.1).1 M) : Szl (bnd x f).1 M := by
  unfold Proofs.YtdemoghlibnooaaGreatDoor.bnd
  split
  · exact hf h
  · exact h
theorem Szl.sweep (L : List Dk.Nm) {M : Nat} : ∀ (fl : List Dk.Nm) {t : Dk.St}, Szl t M → Szl (sweepF L fl t).1 M
  | [], t, h => h
  | n :: r, t, h => by
    unfold sweepF
    split
    · exact Szl.bnd (h.del n) _ fun h => Szl.sweep L r h
    · exact Szl.sweep L r h
theorem Szl.run {s : Dk.St} {M : Nat} (h : Szl s M) {b : List UInt8} (hb : b.length ≤ M) (g : Nat) : Szl (runF b g s).1 M := by
  unfold runF
  refine Szl.bnd ?_ _ (fun h => h.tick)
  unfold runS
  refine Szl.bnd ?_ _ (fun h => Szl.sweep _ _ h)
  have hb1 : Szl (begS g s).1 M := by
    unfold begS
    split
    · exact h.tick
    · exact Szl.sweep _ _ h.tick
  by_cases hz : (begS g s).2 = 0
  · rw [bnd_ok hz]
    have hf := (beg_zero hz).2
    unfold layS
    refine Szl.bnd ?_ _ (fun h => h.rename _ _)
    exact Szl.bnd (hb1.new hb hf) _ (fun h => h.sync _)
  · rw [bnd_no hz]; exact hb1
end Go.Proofs.YtdemoghlibnooaaGreatDoor

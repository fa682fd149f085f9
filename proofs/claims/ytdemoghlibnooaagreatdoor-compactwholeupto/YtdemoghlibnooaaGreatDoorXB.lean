import Derived.Test.YtdemoghlibnooaaGreatDoorXA
/- boot: redo, Open. -/
namespace Go.Proofs.YtdemoghlibnooaaGreatDoor
open Go.RowKit Go.Maps Go.Sort Orl Pk
set_option linter.unusedVariables false
set_option linter.unusedSimpArgs false

def DoTo (B : Nat) (w : World) (p : Nat) (s : St) (N : Nat) (P : Nat → Prop) (e : Ending) (w' : World) : Prop := e = .returned (.int .i64 0) ∧ Hid (Sto B w' p s N P ∧ Keeps (fun b => B ≤ b ∧ ¬ P b) w w')
set_option maxRecDepth 10000 in
theorem redoOne_any {B : Nat} {w : World} {p : Nat} {s : St} {N : Nat} {P : Nat → Prop} (h : Sto B w p s N P) (v : CV) (r : Rec) (hc : IsC w v r) (hm : may r = true) (now : Int) (ht : tickB now = true) (hN : N ≤ 800000000) :
    Calls Tryz.prog 106 #[.pointer (some ⟨p, 0, none⟩), .agg #[.int .i64 v.k, .int .u64 (v.i : Nat), .slice v.op v.np v.cp, .slice v.ok v.nk v.ck], .int .i64 now] w (DoTo B w p (doRec now s r) (N + r.pairs.length) P) := by
  have HS : Hid (Sto B w p s N P) := h
  have HC : Hid (IsC w v r) := hc
  have hlp : Hid (r.pairs.length ≤ 1024) := by
    obtain ⟨_, hx⟩ := may_parts hm
    rcases hx with ⟨_, hk, hp⟩ | ⟨_, hp, _⟩
    · exact (mayP_all hk hp).1
    · rw [hp]; exact Nat.zero_le _
  have hid : Hid (r.id < 18446744073709551616) := hc.fit.id
  have HM : Hid (may r = true ∧ tickB now = true ∧ N ≤ 800000000) := ⟨hm, ht, hN⟩
  obtain ⟨k, i, op, np, cp, ok, nk, ck⟩ := v
  have e1 : Hid (k = r.kind) := hc.k
  have e2 : Hid (i = r.id) := hc.i
  clear h hc hm ht hN
  by_cases h1 : r.kind = 1
  · have hk1 : k = 1 := e1.out.trans h1
    have hput := fun W (hk : Keeps no w W) => Sto.put (HS.out.other hk (fun b hb => hb.elim)) r.id r.pairs r.keys now op np cp ok nk ck hid.out HC.out.np HC.out.nk (HC.out.prs.keepsN hk) (HC.out.kys.keepsN hk) (by have := hlp.out; omega) (may_put HM.out.1 h1 HM.out.2.1) (by have := HM.out.2.2; omega)
    rw [← e2.out] at hput
    have hd : Hid (doRec now s r = putAll i r.keys now s (miss s i r.pairs)) := by show _ = _; unfold doRec; rw [if_pos h1, e2.out]
    clear h1 e1
    subst k
    go_enter Tryz.func106, Tryz.ntmps106
    go_wp2_with (go_at_call 42; refine (hput _ ((Keeps.refl no w).alloc _)).mono ?_; rintro e w2 ⟨⟨Bz, rfl⟩, H2⟩)
    go_ret
    rw [hd.out]
    exact ⟨rfl, H2.out.1.sub (fun b hb => .inl hb), ((Keeps.refl _ w).alloc _).trans (H2.out.2.mono fun b hb => ⟨hb.1, fun hp => hb.2 (.inl hp)⟩)⟩
  · obtain ⟨h2, hi2⟩ := may_com HM.out.1 h1
    have hk2 : k = 2 := e1.out.trans h2
    have hcom := fun W (hk : Keeps no w W) => Sto.commit (HS.out.other hk (fun b hb => hb.elim)) r.id now hid.out hi2 HM.out.2.1 (by have := HM.out.2.2; omega)
    rw [← e2.out] at hcom
    have hd : Hid (doRec now s r = commitS s i now) := by show _ = _; unfold doRec; rw [if_neg h1, e2.out]
    have hps : Hid (r.pairs.length = 0) := by
      obtain ⟨_, hx⟩ := may_parts HM.out.1
      rcases hx with ⟨hx, _⟩ | ⟨_, hp, _⟩
      · exact absurd hx h1
      · rw [hp]; rfl
    clear h1 h2 hi2 e1
    subst k
    go_enter Tryz.func106, Tryz.ntmps106
    go_wp2_with (go_at_call 43; refine (hcom _ ((Keeps.refl no w).alloc _)).mono ?_; rintro e w2 ⟨⟨Bz, rfl⟩, H2⟩)
    go_ret
    rw [hd.out, hps.out]
    exact ⟨rfl, H2.out.1.sub (fun b hb => .inl hb), ((Keeps.refl _ w).alloc _).trans (H2.out.2.mono fun b hb => ⟨hb.1, fun hp => hb.2 (.inl hp)⟩)⟩

/-- the records' blocks -/
def RsP (o : Option Addr) (vs : List CV) (b : Nat) : Prop := inO o b ∨ ∃ v ∈ vs, inO v.op b ∨ inO v.ok b
theorem getD_memC {l : List CV} {j : Nat} (h : j < l.length) : l.getD j cv0 ∈ l := by
  rw [List.getD_eq_getElem?_getD, List.getElem?_eq_getElem h]; exact List.getElem_mem h
theorem RsIn.keeps {S : Nat → Prop} {w w' : World} {o : Option Addr} {c : Nat} {vs : List CV} {rs : List Rec} (h : RsIn w o c vs rs) (hk : Keeps S w w') (hS : ∀ b, RsP o vs b → ¬ S b) : RsIn w' o c vs rs :=
  ⟨h.sl.keeps hk (fun k hi => hS k (.inl hi)), h.len, fun j hj => (h.each j hj).keeps hk (fun k hi => hS k (.inr ⟨_, getD_memC (by rw [h.len]; exact hj), .inl hi⟩)) (fun k hi => hS k (.inr ⟨_, getD_memC (by rw [h.len]; exact hj), .inr hi⟩))⟩
set_option maxRecDepth 10000 in
theorem redo_any {B : Nat} {w : World} {p : Nat} {s : St} {N : Nat} {P : Nat → Prop} (h : Sto B w p s N P) (o : Option Addr) (n c : Nat) (vs : List CV) (rs : List Rec) (hn : n = rs.length) (hb : (n : Int) ≤ 137438953472) (hr : RsIn w o c vs rs) (hP : ∀ b, RsP o vs b → P b) (hm : ∀ r ∈ rs, may r = true) (now : Int) (ht : tickB now = true) (hN : N + prs rs ≤ 800000000) :
    Calls Tryz.prog 54 #[.pointer (some ⟨p, 0, none⟩), .slice o n c, .int .i64 now] w (DoTo B w p (redoS now s rs) (N + prs rs) P) := by
  have HN : Hid (n = rs.length) := hn
  have HS : Hid (Sto B w p s N P) := h
  have HR : Hid (RsIn w o c vs rs ∧ (∀ b, RsP o vs b → P b) ∧ (∀ r ∈ rs, may r = true) ∧ tickB now = true ∧ N + prs rs ≤ 800000000) := ⟨hr, hP, hm, ht, hN⟩
  clear hn h hr hP hm ht hN
  go_enter Tryz.func54, Tryz.ntmps54
  go_wp2_with fail
  go_loopw [12] (fun i wr => ∃ k : Nat, k ≤ n ∧ i = .int .i64 k ∧ Hid (Sto B wr p (redoS now s (rs.take k)) (N + prs (rs.take k)) P ∧ Keeps (fun b => B ≤ b ∧ ¬ P b) w wr)) (fun i _ => n - (intOf i).toNat)
  case atStart => exact ⟨0, by omega, rfl, ⟨by simpa [redoS, prs] using HS.out, Keeps.refl _ _⟩⟩
  case round =>
    obtain ⟨k, hk, rfl, HU⟩ := hrel
    rename World => wq
    by_cases h2 : k < n
    · have hkl : k < rs.length := by have := HN.out; omega
      have hin : RsIn wq o c vs rs := HR.out.1.keeps HU.out.2 (fun b hb hs => hs.2 (HR.out.2.1 b hb))
      have hkv : k < vs.length := by rw [hin.len]; exact hkl
      obtain ⟨b, off, rfl, d0, d1, d2, d3⟩ := hin.sl.atCE hkv
      obtain ⟨v, hv⟩ : ∃ v, v = vs.getD k cv0 := ⟨_, rfl⟩
      rw [← hv] at d0 d1 d2 d3
      have HC : Hid (IsC wq v (rs.getD k c0)) := by rw [hv]; exact hin.each k hkl
      have hmm : Hid (may (rs.getD k c0) = true) := HR.out.2.2.1 _ (by rw [List.getD_eq_getElem?_getD, List.getElem?_eq_getElem hkl]; exact List.getElem_mem hkl)
      have hNN : Hid (N + prs (rs.take k) ≤ 800000000) := by show _ ≤ _; have := HR.out.2.2.2.2; have := prs_le rs k; omega
      have hone := fun W (hk' : Keeps no wq W) => redoOne_any (HU.out.1.other hk' (fun b hb => hb.elim)) v (rs.getD k c0) (HC.out.keepsN hk') hmm.out now HR.out.2.2.2.1 hNN.out
      have HSn : Hid (redoS now s (rs.take (k + 1)) = doRec now (redoS now s (rs.take k)) (rs.getD k c0) ∧ prs (rs.take (k + 1)) = prs (rs.take k) + (rs.getD k c0).pairs.length) := ⟨redo_snoc now s rs k hkl, prs_take rs k hkl⟩
      obtain ⟨vk, vi, vop, vnp, vcp, vok, vnk, vck⟩ := v
      simp only at d0 d1 d2 d3 hone
      clear hin hkl hkv hv
      go_wp2_with (go_at_call 106; refine (hone _ ((Keeps.refl no wq).alloc _)).mono ?_; rintro e w2 ⟨rfl, H2⟩)
      go_roundw
      case rel =>
        refine ⟨k + 1, by omega, by go_num, ?_⟩
        rw [HSn.out.1, HSn.out.2]
        exact ⟨(by have := H2.out.1.sub (Q := P) (fun b hb => .inl hb); rw [Nat.add_assoc] at this; exact this), HU.out.2.trans (((Keeps.refl _ wq).alloc _).trans (H2.out.2.mono fun b hb => ⟨hb.1, fun hp => hb.2 (.inl hp)⟩))⟩
      case measure => simp [intOf]; omega
    · have e : Hid (rs.take k = rs) := List.take_of_length_le (by have := HN.out; omega)
      go_wp2
      go_ret
      have := HU.out
      rw [e.out] at this
      exact ⟨rfl, this⟩
end Go.Proofs.YtdemoghlibnooaaGreatDoor

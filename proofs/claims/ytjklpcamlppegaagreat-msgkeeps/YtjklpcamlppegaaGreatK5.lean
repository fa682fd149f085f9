/- MsgKeeps: spared. -/
import Derived.Test.YtjklpcamlppegaaGreatK4
import Derived.Deep.QuietTactic
import Derived.BigQuiet
namespace Go.Proofs.YtjklpcamlppegaaGreat
open Go.RowKit Go.Sort Orl Pk
set_option linter.unusedVariables false
set_option linter.unusedSimpArgs false

set_option maxRecDepth 20000 in
set_option maxHeartbeats 4000000 in
theorem spared_any (w : World) (k cl : Int) (q i : Nat) (op : Option Addr) (np cp : Nat) (ok : Option Addr) (nk ck : Nat) (ow : Option Addr) (nw cw : Nat) (ov : Option Addr) (nv cv : Nat) (rs : List RV) (m : Msg) (h : Lent w k cl q i op np cp ok nk ck ow nw cw ov nv cv rs m) :
    Calls Tryz.prog 14 #[.agg #[.int .i64 k, .int .i64 cl, .int .u64 (q : Nat), .int .u64 (i : Nat), .slice op np cp, .slice ok nk ck, .slice ow nw cw, .slice ov nv cv]] w fun e w' => e = .returned (.bool true) ∧ Keeps no w w' := by
  have H : Hid (Lent w k cl q i op np cp ok nk ck ow nw cw ov nv cv rs m) := h
  clear h
  have HEk : Hid (nk = m.keys.length) := H.out.is.nk
  obtain ⟨gk, ek, lk⟩ := ownK_some H.out.ks HEk.out
  have ck_ : w.cell? ⟨gk, nk, none⟩ = some (.string ⟨#[115, 112, 97, 114, 101]⟩) := by
    obtain ⟨b, off, eb, hb⟩ := H.out.ks.sl.at (j := nk) (by rw [HEk.out]; simp)
    rw [ek] at eb
    cases eb
    rw [Nat.zero_add, getD_append, if_neg (by have := HEk.out; omega), ← HEk.out, Nat.sub_self] at hb
    exact hb
  have uk : ∀ w, (Instr.slice 25 (.slice (some ⟨gk, 0, none⟩) nk ck) none (some (.int .i64 ((nk : Int) + 1))) none).run Tryz.prog w = .ok (.slice (some ⟨gk, 0, none⟩) (nk + 1) ck) w := by
    have := cutK25 gk nk (nk + 1) ck lk
    rwa [show (((nk + 1 : Nat)) : Int) = (nk : Int) + 1 by omega] at this
  have HEp : Hid (np = m.pairs.length) := H.out.is.np
  obtain ⟨gp, ep, lp⟩ := ownK_some H.out.ps HEp.out
  have cp_ : w.cell? ⟨gp, np * 2, none⟩ = some (.string ⟨#[115, 112, 97, 114, 101]⟩) := by
    obtain ⟨b, off, eb, hb, _⟩ := H.out.ps.sl.atP (j := np) (by rw [HEp.out]; simp)
    rw [ep] at eb
    cases eb
    rw [Nat.zero_add, getD_append, if_neg (by have := HEp.out; omega), ← HEp.out, Nat.sub_self] at hb
    exact hb
  have up : ∀ w, (Instr.slice 24 (.slice (some ⟨gp, 0, none⟩) np cp) none (some (.int .i64 ((np : Int) + 1))) none).run Tryz.prog w = .ok (.slice (some ⟨gp, 0, none⟩) (np + 1) cp) w := by
    have := cutK24 gp np (np + 1) cp lp
    rwa [show (((np + 1 : Nat)) : Int) = (np : Int) + 1 by omega] at this
  have HEw : Hid (nw = m.wants.length) := H.out.is.nw
  obtain ⟨gw, ew, lw⟩ := ownK_some H.out.ws HEw.out
  have cw_ : w.cell? ⟨gw, nw * 2, none⟩ = some (.string ⟨#[115, 112, 97, 114, 101]⟩) := by
    obtain ⟨b, off, eb, hb, _⟩ := H.out.ws.sl.atW (j := nw) (by rw [HEw.out]; simp)
    rw [ew] at eb
    cases eb
    rw [Nat.zero_add, getD_append, if_neg (by have := HEw.out; omega), ← HEw.out, Nat.sub_self] at hb
    exact hb
  have uw : ∀ w, (Instr.slice 26 (.slice (some ⟨gw, 0, none⟩) nw cw) none (some (.int .i64 ((nw : Int) + 1))) none).run Tryz.prog w = .ok (.slice (some ⟨gw, 0, none⟩) (nw + 1) cw) w := by
    have := cutK26 gw nw (nw + 1) cw lw
    rwa [show (((nw + 1 : Nat)) : Int) = (nw : Int) + 1 by omega] at this
  have HEv : Hid (nv = rs.length) := (H.out.is.nv.trans H.out.is.vrs.len.symm)
  obtain ⟨gv, ev, lv⟩ := ownK_some H.out.vs HEv.out
  have cv_ : w.cell? ⟨gv, nv * 4, none⟩ = some (.string ⟨#[115, 112, 97, 114, 101]⟩) := by
    obtain ⟨b, off, eb, hb, _, _, _⟩ := H.out.vs.sl.atV (j := nv) (by rw [HEv.out]; simp)
    rw [ev] at eb
    cases eb
    rw [Nat.zero_add, getD_append, if_neg (by have := HEv.out; omega), ← HEv.out, Nat.sub_self] at hb
    exact hb
  have uv : ∀ w, (Instr.slice 27 (.slice (some ⟨gv, 0, none⟩) nv cv) none (some (.int .i64 ((nv : Int) + 1))) none).run Tryz.prog w = .ok (.slice (some ⟨gv, 0, none⟩) (nv + 1) cv) w := by
    have := cutK27 gv nv (nv + 1) cv lv
    rwa [show (((nv + 1 : Nat)) : Int) = (nv : Int) + 1 by omega] at this
  subst ek
  subst ep
  subst ew
  subst ev
  have hnk : nk ≤ 8796093022000 := by rw [HEk.out]; exact H.out.is.fit.klen
  have hnp : np ≤ 8796093022000 := by have h1 := H.out.is.fit.plen; have h2 := HEp.out; omega
  have hnw : nw ≤ 8796093022000 := by have h1 := H.out.is.fit.wlen; have h2 := HEw.out; omega
  have hnv : nv ≤ 8796093022000 := by have h1 := H.out.is.fit.vlen; have h2 := H.out.is.nv; omega
  have hself : ((⟨#[115, 112, 97, 114, 101]⟩ : ByteArray).toList == (⟨#[115, 112, 97, 114, 101]⟩ : ByteArray).toList) = true := by simp
  have k0 : Keeps no w (w.alloc (.cells #[.int .i64 k, .int .i64 cl, .int .u64 (q : Nat), .int .u64 (i : Nat), .slice (some ⟨gp, 0, none⟩) np cp, .slice (some ⟨gk, 0, none⟩) nk ck, .slice (some ⟨gw, 0, none⟩) nw cw, .slice (some ⟨gv, 0, none⟩) nv cv] 29)) := (Keeps.refl no w).alloc _
  have hA := blk_new w (.cells #[.int .i64 k, .int .i64 cl, .int .u64 (q : Nat), .int .u64 (i : Nat), .slice (some ⟨gp, 0, none⟩) np cp, .slice (some ⟨gk, 0, none⟩) nk ck, .slice (some ⟨gw, 0, none⟩) nw cw, .slice (some ⟨gv, 0, none⟩) nv cv] 29)
  have ck' := k0.cellN ck_
  have cp' := k0.cellN cp_
  have cw' := k0.cellN cw_
  have cv' := k0.cellN cv_
  obtain ⟨x0, x1, x2, x3, x4, x5, x6, x7⟩ := cells8 hA
  have HVS : Hid (∀ t, t < nv → ∃ gr rn rc, (w.alloc (.cells #[.int .i64 k, .int .i64 cl, .int .u64 (q : Nat), .int .u64 (i : Nat), .slice (some ⟨gp, 0, none⟩) np cp, .slice (some ⟨gk, 0, none⟩) nk ck, .slice (some ⟨gw, 0, none⟩) nw cw, .slice (some ⟨gv, 0, none⟩) nv cv] 29)).cell? ⟨gv, t * 4 + 3, none⟩ = some (.slice (some ⟨gr, 0, none⟩) rn rc) ∧ rn ≤ 8796093022000 ∧ (w.alloc (.cells #[.int .i64 k, .int .i64 cl, .int .u64 (q : Nat), .int .u64 (i : Nat), .slice (some ⟨gp, 0, none⟩) np cp, .slice (some ⟨gk, 0, none⟩) nk ck, .slice (some ⟨gw, 0, none⟩) nw cw, .slice (some ⟨gv, 0, none⟩) nv cv] 29)).cell? ⟨gr, rn, none⟩ = some (.string ⟨#[115, 112, 97, 114, 101]⟩) ∧ rn + 1 ≤ rc) := by
    intro t ht
    have htl : t < rs.length := by rw [← HEv.out]; exact ht
    obtain ⟨b, off, eb, _, _, _, h4⟩ := H.out.vs.sl.atV (j := t) (by simp; omega)
    cases eb
    rw [Nat.zero_add, getD_append, if_pos htl] at h4
    have hv := H.out.is.vrs.each t (by rw [← H.out.is.vrs.len]; exact htl)
    have hf := H.out.is.fit.vers (m.vers.getD t v0) (by rw [List.getD_eq_getElem?_getD, List.getElem?_eq_getElem (by rw [← H.out.is.vrs.len]; exact htl)]; exact List.getElem_mem _)
    obtain ⟨gr, er, lr⟩ := ownK_some (H.out.each t htl) hv.n
    refine ⟨gr, (rs.getD t r0).n, (rs.getD t r0).c, by rw [← er]; exact k0.cellN h4, by rw [hv.n]; exact hf.len, ?_, lr⟩
    obtain ⟨b, off, eb, hb⟩ := (H.out.each t htl).sl.at (j := (rs.getD t r0).n) (by rw [hv.n]; simp)
    rw [er] at eb
    cases eb
    rw [Nat.zero_add, getD_append, if_neg (by have := hv.n; omega), ← hv.n, Nat.sub_self] at hb
    exact k0.cellN hb
  clear ck_ cp_ cw_ cv_
  go_enter Tryz.func14, Tryz.ntmps14
  go_wp2_with fail
  have K0 : Hid (Keeps no w (w.alloc (.cells #[.int .i64 k, .int .i64 cl, .int .u64 (q : Nat), .int .u64 (i : Nat), .slice (some ⟨gp, 0, none⟩) np cp, .slice (some ⟨gk, 0, none⟩) nk ck, .slice (some ⟨gw, 0, none⟩) nw cw, .slice (some ⟨gv, 0, none⟩) nv cv] 29))) := k0
  obtain ⟨A, hAe⟩ : ∃ A, A = w.heap.size := ⟨_, rfl⟩
  rw [← hAe] at x0 x1 x2 x3 x4 x5 x6 x7 hA
  rw [← hAe]
  clear hAe k0 hA
  generalize w.alloc (.cells #[.int .i64 k, .int .i64 cl, .int .u64 (q : Nat), .int .u64 (i : Nat), .slice (some ⟨gp, 0, none⟩) np cp, .slice (some ⟨gk, 0, none⟩) nk ck, .slice (some ⟨gw, 0, none⟩) nw cw, .slice (some ⟨gv, 0, none⟩) nv cv] 29) = W0 at K0 x0 x1 x2 x3 x4 x5 x6 x7 ck' cp' cw' cv' HVS ⊢
  go_loopw [4] (fun s wr => ∃ t : Nat, t ≤ nv ∧ s = .int .i64 t ∧ wr = W0) (fun s _ => nv - (intOf s).toNat)
  case atStart => exact ⟨0, by omega, rfl, rfl⟩
  case round =>
    obtain ⟨t, ht, rfl, ew⟩ := hrel
    subst ew
    by_cases hlt : t < nv
    · have hlI : (t : Int) < nv := by omega
      obtain ⟨gr, rn, rc, d1, hrn, d2, hrc⟩ := HVS.out t hlt
      have ur : ∀ w, (Instr.slice 25 (.slice (some ⟨gr, 0, none⟩) rn rc) none (some (.int .i64 ((rn : Int) + 1))) none).run Tryz.prog w = .ok (.slice (some ⟨gr, 0, none⟩) (rn + 1) rc) w := by
        have := cutK25 gr rn (rn + 1) rc hrc
        rwa [show (((rn + 1 : Nat)) : Int) = (rn : Int) + 1 by omega] at this
      go_wp2_with fail
      go_roundw
      case rel => exact ⟨t + 1, by omega, by go_num, by trivial⟩
      case measure => simp [intOf] <;> omega
    · obtain rfl : t = nv := by omega
      have hlI : ¬ (t : Int) < t := by omega
      go_wp2_with fail
      go_quiet (fail)
      go_wp2_with fail
      go_ret
      exact ⟨rfl, K0.out.drewN _⟩
end Go.Proofs.YtjklpcamlppegaaGreat

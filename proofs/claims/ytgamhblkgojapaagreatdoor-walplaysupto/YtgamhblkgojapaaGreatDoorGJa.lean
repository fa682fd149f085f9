import Derived.Test.YtgamhblkgojapaaGreatDoorGQ
import Derived.Test.YtgamhblkgojapaaGreatDoorGHa
import Derived.Test.YtgamhblkgojapaaGreatDoorEZ
import Derived.Deep.RegionHeld3
import Derived.Test.YtgamhblkgojapaaGreatDoorGV
import Derived.Test.YtgamhblkgojapaaGreatDoorGSm
import Derived.Test.YtgamhblkgojapaaGreatDoorFo
/- How long the files of a disk are at most. -/
namespace Go.Proofs.YtgamhblkgojapaaGreatDoor
open Go.RowKit Pk Dk
set_option linter.unusedVariables false
set_option linter.unusedSimpArgs false

def Siz (M : Nat) (s : St) : Prop := ∀ q ∈ s.fs, q.2.bs.length ≤ M
theorem Siz.mono {M M' : Nat} {s : St} (h : Siz M s) (hm : M ≤ M') : Siz M' s := fun q hq => Nat.le_trans (h q hq) hm
theorem Siz.crash {M : Nat} {k : Int} {s : St} (h : Siz M s) : Siz M (crash k s) := by
  unfold Dk.crash
  split
  · exact h
  · intro q hq
    simp only [mapv, List.mem_map] at hq
    obtain ⟨r, hr, rfl⟩ := hq
    have := h r hr
    simp [crF]; omega
theorem Siz.tick {M : Nat} {s : St} (h : Siz M s) : Siz M (tick s) := by
  unfold Dk.tick
  split
  · exact h.crash
  · split
    · exact h
    · exact h
theorem Siz.put {M : Nat} {s : St} {n : Nm} {f : Fl} (h : Siz M s) (hf : f.bs.length ≤ M) : Siz M { s with fs := put n f s.fs } := by
  intro q hq
  rcases mem_put.1 hq with rfl | ⟨hq, _⟩
  · exact hf
  · exact h q hq
theorem Siz.del {M : Nat} {s : St} {n : Nm} (h : Siz M s) : Siz M { s with fs := del n s.fs } := fun q hq => h q (mem_del.1 hq).1
theorem Siz.find {M : Nat} {s : St} {n : Nm} {f : Fl} (h : Siz M s) (hf : find n s.fs = some f) : f.bs.length ≤ M := h _ (find_mem hf)
theorem Siz.counted {M : Nat} {s : St} {g : St → St × Int} (h : Siz M s) (hg : ∀ t, Siz M t → Siz M (g t).1) : Siz M (counted s g).1 := by
  unfold Dk.counted
  split
  · exact h.tick
  · exact hg _ h.tick
theorem Siz.onF {M : Nat} {t : St} {n : Nm} {g : Fl → St × Int} (h : Siz M t) (hg : ∀ f, Dk.find n t.fs = some f → Siz M (g f).1) : Siz M (onF n t g).1 := by
  unfold Dk.onF
  split
  · exact h
  · rename_i f hf
    exact hg f hf
theorem Siz.app {M : Nat} {t : St} {n : Nm} {b : List UInt8} (h : Siz M t) : Siz (M + b.length) (appendOn n b t).1 := by
  have h' : Siz (M + b.length) t := h.mono (by omega)
  unfold appendOn
  split
  · split
    · split
      · exact h'
      · split
        · exact h'
        · exact h'.put (by simp)
    · rename_i f hf
      split
      · exact h'
      · exact h'.put (by have := h.find hf; simp; omega)
  · exact h'
theorem Siz.readB {M : Nat} {t : St} {n : Nm} (h : Siz M t) : (readB n t).length ≤ M := by
  unfold Dk.readB
  cases t.off with
  | true => simp
  | false =>
    cases hf : Dk.find n t.fs with
    | none => simp
    | some f => simpa using h.find hf

theorem Siz.new (M : Nat) : Siz M Dk.new := fun q hq => by cases hq
theorem Siz.up {M : Nat} {s : St} (h : Siz M s) : Siz M (Dk.up s) := h
theorem Siz.arm {M : Nat} {s : St} (h : Siz M s) (n k : Int) : Siz M (Dk.arm n k s) := h
theorem Siz.full {M : Nat} {s : St} (h : Siz M s) (n : Int) : Siz M (Dk.full n s) := h
theorem Siz.sync {M : Nat} {s : St} (h : Siz M s) (n : Nm) : Siz M (Dk.counted s (syncOn n)).1 :=
  h.counted fun t ht => ht.onF fun f hf => Siz.put (f := ⟨f.bs, f.bs.length⟩) ht (show f.bs.length ≤ M from ht.find hf)
theorem Siz.appc {M : Nat} {s : St} (h : Siz M s) (n : Nm) (b : List UInt8) : Siz (M + b.length) (Dk.counted s (appendOn n b)).1 := by
  unfold Dk.counted
  split
  · exact (h.mono (by omega)).tick
  · exact h.tick.app
theorem Siz.apd {M : Nat} {s : St} (h : Siz M s) (n : Nm) (r : Rec) : Siz (M + 1048584) (YtgamhblkgojapaaGreatDoor.apd n r s).1 := by
  unfold YtgamhblkgojapaaGreatDoor.apd
  by_cases he : encE r = 0
  · have hl : (enc r).length ≤ 1048584 := by have := (encE_zero he).2.1; rw [enc_length]; omega
    have h1 := (h.appc n (u8s (enc r))).mono (M' := M + 1048584) (by rw [u8s_length]; omega)
    rw [if_pos he]
    split
    · exact h1.sync n
    · exact h1
  · rw [if_neg he]; exact h.mono (by omega)
theorem Siz.cut {M : Nat} {s : St} (h : Siz M s) (n : Nm) (k : Int) : Siz M (Dk.counted s (cutOn n k)).1 := by
  refine h.counted fun t ht => ht.onF fun f hf => ?_
  split
  · exact ht
  · exact Siz.put (f := ⟨f.bs.take k.toNat, min f.sy k.toNat⟩) ht (by have := ht.find hf; simp only [List.length_take]; omega)
theorem Siz.opn {M : Nat} {n : Nm} {s s' : St} {E : Int} {k : Nat} {rs : List Rec} (h : Siz M s) (hO : Opn n s s' E k rs) : Siz M s' := by
  cases hO with
  | gone _ => exact h.tick
  | err _ _ => exact h.tick
  | whole _ _ _ => exact h.tick
  | cut _ _ _ _ => exact h.tick.cut n _
  | fail _ _ _ _ => exact h.tick.cut n _
end Go.Proofs.YtgamhblkgojapaaGreatDoor
/- The document's log: Open. -/
namespace Go.Proofs.YtgamhblkgojapaaGreatDoor
open Go.RowKit Pk Dk
set_option linter.unusedVariables false
set_option linter.unusedSimpArgs false

/-- a log of the document's -/
structure IsLr (w : World) (q p : Nat) (n : Tx) (k : Nat) : Prop where
  blk : w.heap[q]? = some (.cells #[.pointer (some ⟨p, 0, none⟩), .string n, .int .i64 (k : Nat)] 77 (0, 0))
theorem IsLr.keeps {S : Nat → Prop} {w w' : World} {q p : Nat} {n : Tx} {k : Nat} (h : IsLr w q p n k) (hk : Keeps S w w') (hq : ¬ S q) : IsLr w' q p n k := ⟨hk.at h.blk hq⟩
def NoLogR (w : World) (p : Nat) (F : Nat → Prop) (s : St) (n : Tx) (e : Ending) (w' : World) : Prop :=
  ∃ (s' : St) (E : Int), e = .returned (.tuple #[.pointer none, .slice none 0 0, .int .i64 E]) ∧ Hid (Opn n.data.toList s s' E 0 []) ∧ E ≠ 0 ∧ Hid (IsRd w' p F s') ∧ Hid (Keeps F w w')
def ALogR (w : World) (p : Nat) (F : Nat → Prop) (s : St) (n : Tx) (e : Ending) (w' : World) : Prop :=
  ∃ (s' : St) (q : Nat) (o : Option Addr) (m c k : Nat) (vs : List CV) (rs : List Rec), e = .returned (.tuple #[.pointer (some ⟨q, 0, none⟩), .slice o m c, .int .i64 0]) ∧ Hid (Opn n.data.toList s s' 0 k rs) ∧ Hid (m = rs.length) ∧ Hid (IsLr w' q p n k ∧ w.heap.size ≤ q) ∧ Hid (Scn w w' o c vs rs) ∧ (k : Int) ≤ 1099511627776 ∧ (m : Int) ≤ 137438953472 ∧ Hid (IsRd w' p F s') ∧ Hid (Keeps F w w')
def OpenToR (w : World) (p : Nat) (F : Nat → Prop) (s : St) (n : Tx) (e : Ending) (w' : World) : Prop := NoLogR w p F s n e w' ∨ ALogR w p F s n e w'

set_option maxRecDepth 10000 in
set_option maxHeartbeats 1000000 in
theorem rOpen_any (w : World) (p : Nat) (F : Nat → Prop) (s : St) (n : Tx) (h : IsRd w p F s) (hb : (readB n.data.toList (tick s)).length ≤ 1099511627776) :
    Calls Tryz.prog 8 #[.pointer (some ⟨p, 0, none⟩), .string n] w (OpenToR w p F s n) := by
  have HLT : Hid (∀ k, F k → k < w.heap.size) := h.lt
  have HD : Hid (IsRd w p F s) := h
  have HB : Hid ((readB n.data.toList (tick s)).length ≤ 1099511627776) := hb
  clear h hb
  go_enter Tryz.func8, Tryz.ntmps8
  go_wp2_with fail
  refine (rread_any w p F s n HD.out (by have := HB.out; omega)).mono ?_
  rintro e w1 ⟨o, c, m, rfl, hm, hown, hnew, hD1, hk1⟩
  have H1 : Hid (Owns w1 o c (nts (readB n.data.toList (tick s)))) := own_U.1 hown
  have HD1 : Hid (IsRd w1 p F (tick s)) := hD1
  have HK1 : Hid (Keeps F w w1) := hk1
  have hmb : (m : Int) ≤ 1099511627776 := by have := HB.out; have := hm.out; omega
  have HNW : Hid (New w o) := hnew
  clear hown hD1 hk1 HD hnew
  obtain ⟨E, hE⟩ : ∃ E, E = readE n.data.toList (tick s) := ⟨_, rfl⟩
  have HE : Hid (E = readE n.data.toList (tick s)) := hE
  rw [← hE]
  clear hE
  by_cases h61 : E = 61
  · subst h61
    go_wp2_with fail
    go_ret3
    exact .inr ⟨tick s, w1.heap.size, none, 0, 0, 0, [], [], rfl, .gone HE.out.symm, rfl, ⟨⟨blk_new w1 _⟩, HK1.out.size⟩, scn_nil _ _, by omega, by omega, HD1.out.keepsN ((Keeps.refl no w1).alloc _), HK1.out.alloc _⟩
  · have h61' : (E == 61) = false := by simpa using h61
    by_cases hE0 : E = 0
    · subst hE0
      go_wp2_with fail
      refine (dScan_any w1 o m c (nts (readB n.data.toList (tick s))) (by rw [nts_length]; exact hm.out) hmb ⟨H1.out.row (nts_lt _) (by rw [nts_length]; have := HB.out; omega), H1.out.cap.1, H1.out.cap.2⟩).mono ?_
      rintro e w2 ⟨ol, nl, cl, t, vs, rs, rfl, HSC, hnl, htl, hk2⟩
      have HS : Hid (Sc (nts (readB n.data.toList (tick s))) rs t) := ⟨HSC.out.2.2.1, HSC.out.2.2.2⟩
      have HC : Hid (Scn w1 w2 ol cl vs rs ∧ nl = rs.length) := ⟨HSC.out.1, HSC.out.2.1⟩
      have HD2 : Hid (IsRd w2 p F (tick s)) := HD1.out.keepsN hk2
      have HK2 : Hid (Keeps F w w2) := HK1.out.then hk2 (fun _ h => h.elim)
      have HK12 : Hid (w1.heap.size ≤ w2.heap.size) := hk2.size
      clear HSC hk2
      by_cases htm : t < m
      · have htm' : (t : Int) < m := by omega
        go_wp2_with fail
        refine (rcut_any w2 p F (tick s) n t HD2.out ⟨by omega, by omega⟩).mono ?_
        rintro e w3 ⟨rfl, hD3, hk3⟩
        have HD3 : Hid (IsRd w3 p F (counted (tick s) (cutOn n.data.toList t)).1) := hD3
        have HK3 : Hid (Keeps F w w3) := HK2.out.trans hk3
        have HK23 : Hid (Keeps F w2 w3) := hk3
        clear hD3 hk3
        obtain ⟨G, hG⟩ : ∃ G, G = (counted (tick s) (cutOn n.data.toList t)).2 := ⟨_, rfl⟩
        have HG : Hid (G = (counted (tick s) (cutOn n.data.toList t)).2) := hG
        rw [← hG]
        clear hG
        by_cases hG0 : G = 0
        · subst hG0
          go_wp2_with fail
          go_ret3
          exact .inr ⟨_, w3.heap.size, ol, nl, cl, t, vs, rs, rfl, .cut HE.out.symm HS.out (by have := hm.out; omega) HG.out.symm, HC.out.2, ⟨⟨blk_new w3 _⟩, HK3.out.size⟩, ((HC.out.1.of_le HK1.out.size).keepsF HK23.out HLT.out).keepsN ((Keeps.refl no w3).alloc _), htl, hnl, HD3.out.keepsN ((Keeps.refl no w3).alloc _), HK3.out.alloc _⟩
        · have hG1 : (G == 0) = false := by simpa using hG0
          go_wp2_with fail
          go_ret3
          exact .inl ⟨_, G, rfl, HG.out ▸ .fail HE.out.symm HS.out (by have := hm.out; omega) (by rw [← HG.out]; exact hG0), hG0, HD3.out, HK3.out⟩
      · have htm' : ¬ (t : Int) < m := by omega
        go_wp2_with fail
        go_ret3
        exact .inr ⟨tick s, w2.heap.size, ol, nl, cl, t, vs, rs, rfl, .whole HE.out.symm HS.out (by have := hm.out; omega), HC.out.2, ⟨⟨blk_new w2 _⟩, HK2.out.size⟩, (HC.out.1.of_le HK1.out.size).keepsN ((Keeps.refl no w2).alloc _), htl, hnl, HD2.out.keepsN ((Keeps.refl no w2).alloc _), HK2.out.alloc _⟩
    · have hE1 : (E == 0) = false := by simpa using hE0
      have hE2 : (E != 0) = true := by simpa using hE0
      have hE3 : (E != 61) = true := by simpa using h61
      go_wp2_with fail
      go_ret3
      exact .inl ⟨tick s, E, rfl, HE.out ▸ .err (by rw [← HE.out]; exact h61) (by rw [← HE.out]; exact hE0), hE0, HD1.out, HK1.out⟩
end Go.Proofs.YtgamhblkgojapaaGreatDoor
/- The document's log: Append, Size, Name. -/
namespace Go.Proofs.YtgamhblkgojapaaGreatDoor
open Go.RowKit Pk Dk
set_option linter.unusedVariables false
set_option linter.unusedSimpArgs false

theorem IsRd.wide {w : World} {r : Nat} {F F' : Nat → Prop} {s : St} (h : IsRd w r F s) (hF : ∀ k, F k → F' k) (hl : ∀ k, F' k → k < w.heap.size) : IsRd w r F' s := by
  obtain ⟨oF, cF, fs, h⟩ := h
  exact ⟨oF, cF, fs, h.wide hF hl⟩
theorem IsLr.cells {w : World} {q p : Nat} {n : Tx} {k : Nat} (h : IsLr w q p n k) : w.cell? ⟨q, 0, none⟩ = some (.pointer (some ⟨p, 0, none⟩)) ∧ w.cell? ⟨q, 1, none⟩ = some (.string n) ∧ w.cell? ⟨q, 2, none⟩ = some (.int .i64 (k : Nat)) ∧ w.frozen? ⟨q, 2, none⟩ = false := ⟨cell_of_blk h.blk 0, cell_of_blk h.blk 1, cell_of_blk h.blk 2, frozen_of_blk h.blk 2⟩
theorem IsLr.grown {w : World} {q p : Nat} {n : Tx} {k : Nat} (h : IsLr w q p n k) (m : Nat) : IsLr (w.setCell ⟨q, 2, none⟩ (.int .i64 ((k : Int) + m))) q p n (k + m) := ⟨by rw [blk_set h.blk]; rfl⟩
def LogAppToR (w : World) (q p : Nat) (F : Nat → Prop) (s : St) (n : Tx) (k : Nat) (r : Rec) (e : Ending) (w' : World) : Prop :=
  e = .returned (.int .i64 (apd n.data.toList r s).2) ∧ Hid (IsRd w' p (grow F w w') (apd n.data.toList r s).1) ∧ Hid (IsLr w' q p n (if (apd n.data.toList r s).2 = 0 then k + (enc r).length else k)) ∧ Hid (Keeps (fun x => F x ∨ x = q) w w')

set_option maxRecDepth 10000 in
set_option maxHeartbeats 1000000 in
theorem rLogAppend_any (w : World) (q p : Nat) (F : Nat → Prop) (s : St) (n : Tx) (k : Nat) (v : CV) (r : Rec) (h : IsRd w p F s) (hL : IsLr w q p n k) (hq : ¬ F q) (hn : n.size ≤ maxLen) (hk : (k : Int) ≤ 140737488355328) (hc : IsC w v r)
    (hfit : encE r = 0 → ∀ f, find n.data.toList (tick s).fs = some f → f.bs.length + (enc r).length ≤ 140737488355328) :
    Calls Tryz.prog 12 #[.pointer (some ⟨q, 0, none⟩), .agg #[.int .i64 v.k, .int .u64 (v.i : Nat), .slice v.op v.np v.cp, .slice v.ok v.nk v.ck]] w (LogAppToR w q p F s n k r) := by
  have HD : Hid (IsRd w p F s) := h
  have HL : Hid (IsLr w q p n k) := hL
  have HN : Hid (n.size ≤ maxLen) := hn
  have HFT : Hid (encE r = 0 → ∀ f, find n.data.toList (tick s).fs = some f → f.bs.length + (enc r).length ≤ 140737488355328) := hfit
  have HC : Hid (IsC w v r) := hc
  have hk0 : Keeps no w (w.alloc (.cells #[.int .i64 v.k, .int .u64 (v.i : Nat), .slice v.op v.np v.cp, .slice v.ok v.nk v.ck] 41)) := (Keeps.refl _ _).alloc _
  obtain ⟨x0, x1, x2, x3⟩ := cells4 (blk_new w (.cells #[.int .i64 v.k, .int .u64 (v.i : Nat), .slice v.op v.np v.cp, .slice v.ok v.nk v.ck] 41))
  have HK0 : Hid (Keeps no w (w.alloc (.cells #[.int .i64 v.k, .int .u64 (v.i : Nat), .slice v.op v.np v.cp, .slice v.ok v.nk v.ck] 41))) := hk0
  clear h hL hn hfit hc hk0
  go_enter Tryz.func12, Tryz.ntmps12
  go_wp2_with fail
  refine (dBuild_any _ v.k v.i v.op v.np v.cp v.ok v.nk v.ck r (HC.out.keepsN HK0.out)).mono ?_
  rintro e w1 ⟨o, m, c, rfl, hm, hown, hnew, hk1⟩
  have HK1 : Hid (Keeps no w w1) := HK0.out.trans hk1
  have HNW : Hid (New w o) := hnew.of_le HK0.out.size
  have HO : Hid (Owns w1 o c (encB r)) := hown
  clear x0 x1 x2 x3 hown hnew hk1 HK0 HC
  by_cases hE : encE r = 0
  · obtain ⟨hmay, hlen, hbb⟩ := encE_zero hE
    have HE : Hid (encE r = 0 ∧ may r = true ∧ (body r).length ≤ 1048576) := ⟨hE, hmay, hlen⟩
    rw [hE]
    rw [hbb] at hm HO
    have hmb : (m : Int) ≤ 1048584 := by have := hm.out; rw [enc_length] at this; omega
    clear hE hmay hlen hbb
    have HB : Hid (Sl BU w1 o c (u8s (enc r))) := (own_u8 (enc_byt r) HO.out).sl
    have HML : Hid (m = (u8s (enc r)).length) := by show _ = _; rw [u8s_length]; exact hm.out
    have HL1 : Hid (IsLr w1 q p n k) := HL.out.keeps HK1.out (fun h => h)
    have HCE : Hid (∀ w', Keeps F w1 w' → w'.cell? ⟨q, 0, none⟩ = some (.pointer (some ⟨p, 0, none⟩)) ∧ w'.cell? ⟨q, 1, none⟩ = some (.string n)) := fun w' hk' => ⟨(HL1.out.keeps hk' hq).cells.1, (HL1.out.keeps hk' hq).cells.2.1⟩
    have HOF : Hid (∀ j, inO o j → ¬ F j) := fun j hj hf => by have := HNW.out j hj; have := HD.out.lt j hf; omega
    have HFU : Hid (∀ f, find n.data.toList (tick s).fs = some f → f.bs.length + (u8s (enc r)).length ≤ 140737488355328) := by rw [u8s_length]; exact HFT.out HE.out.1
    go_wp2_with fail
    go_region_held3 (fun w' => w'.cell? ⟨q, 0, none⟩ = some (.pointer (some ⟨p, 0, none⟩)) ∧ w'.cell? ⟨q, 1, none⟩ = some (.string n)) (first | exact HCE.out _ HK2.out | exact HCE.out _ ((Keeps.refl F w1).drew) | exact HCE.out _ (Keeps.refl F w1)) ((go_at_call 24; refine (rappend_any w1.drew p F s n o m c (u8s (enc r)) ((HD.out.keepsN HK1.out).keepsN (Keeps.refl no w1).drew) HML.out HB.out.nil (fun w' hk' => (HB.out.keepsN (Keeps.refl no w1).drew).row.keeps hk' HOF.out) (by have := HML.out; omega) HFU.out).mono ?_; rintro e w2 ⟨rfl, hD2, hk2⟩; have HK2 : Hid (Keeps F w1 w2) := (Keeps.refl F w1).drew.trans hk2; have HD2 : Hid (IsRd w2 p (grow F w1 w2) (counted s (appendOn n.data.toList (u8s (enc r)))).1) := hD2; clear hD2 hk2))
    rename _ ∧ _ => hh
    clear hh
    have HL2 : Hid (IsLr w2 q p n k) := HL1.out.keeps HK2.out hq
    have HKW2 : Hid (Keeps (fun x => F x ∨ x = q) w w2) := (HK1.out.of_no).trans (HK2.out.mono (fun i h => .inl h))
    have HQ : Hid (q < w1.heap.size) := lt_of_block HL1.out.blk
    have HS1 : Hid (w.heap.size ≤ w1.heap.size ∧ w1.heap.size ≤ w2.heap.size) := ⟨HK1.out.size, HK2.out.size⟩
    have HWD : Hid (∀ w', w2.heap.size ≤ w'.heap.size → ∀ (t : St), IsRd w' p (grow F w1 w2) t → IsRd w' p (grow F w w') t) := by
      intro w' hs t hd
      refine hd.wide (fun j hj => ?_) (fun j hj => ?_)
      · rcases hj with a | a
        · exact .inl a
        · exact .inr (by have := HS1.out; omega)
      · rcases hj with a | a
        · have := HD.out.lt j a; have := HS1.out; omega
        · exact a.2
    obtain ⟨G, hG⟩ : ∃ G, G = (counted s (appendOn n.data.toList (u8s (enc r)))).2 := ⟨_, rfl⟩
    have HG : Hid (G = (counted s (appendOn n.data.toList (u8s (enc r)))).2) := hG
    rw [← hG]
    clear hG
    by_cases hG0 : G = 0
    · subst hG0
      have HA : Hid (apd n.data.toList r s = counted (counted s (appendOn n.data.toList (u8s (enc r)))).1 (syncOn n.data.toList)) := apd_two HE.out.1 HG.out.symm
      have hq2 : ¬ grow F w1 w2 q := fun hg => by rcases hg with a | a; exact hq a; have := HQ.out; omega
      have HCE2 : Hid (∀ w', Keeps (grow F w1 w2) w2 w' → w'.cell? ⟨q, 0, none⟩ = some (.pointer (some ⟨p, 0, none⟩)) ∧ w'.cell? ⟨q, 1, none⟩ = some (.string n)) := fun w' hk' => ⟨(HL2.out.keeps hk' hq2).cells.1, (HL2.out.keeps hk' hq2).cells.2.1⟩
      generalize counted s (appendOn n.data.toList (u8s (enc r))) = S1 at HA HD2 HG
      go_wp2_with fail
      go_region_held3 (fun w' => w'.cell? ⟨q, 0, none⟩ = some (.pointer (some ⟨p, 0, none⟩)) ∧ w'.cell? ⟨q, 1, none⟩ = some (.string n)) (first | exact HCE2.out _ HK3.out | exact HCE2.out _ ((Keeps.refl (grow F w1 w2) w2).drew) | exact HCE2.out _ (Keeps.refl (grow F w1 w2) w2)) ((go_at_call 43; refine (rsync_any w2.drew p (grow F w1 w2) S1.1 n (HD2.out.keepsN (Keeps.refl no w2).drew)).mono ?_; rintro e w3 ⟨rfl, hD3, hk3⟩; have HK3 : Hid (Keeps (grow F w1 w2) w2 w3) := (Keeps.refl (grow F w1 w2) w2).drew.trans hk3; have HD3 : Hid (IsRd w3 p (grow F w1 w2) (counted S1.1 (syncOn n.data.toList)).1) := hD3; clear hD3 hk3))
      rename _ ∧ _ => hh
      clear hh
      have HL3 : Hid (IsLr w3 q p n k) := HL2.out.keeps HK3.out hq2
      have HKW3 : Hid (Keeps (fun x => F x ∨ x = q) w w3) := HKW2.out.then HK3.out (fun j hj => by
        rcases hj with a | a
        · exact .inl (.inl a)
        · exact .inr (by have := HS1.out; omega))
      rw [← HA.out] at HD3
      have HA2 : Hid ((counted S1.1 (syncOn n.data.toList)).2 = (apd n.data.toList r s).2) := by show _ = _; rw [HA.out]
      rw [HA2.out]
      have HS3 : Hid (w2.heap.size ≤ w3.heap.size) := HK3.out.size
      obtain ⟨E, hE⟩ : ∃ E, E = (apd n.data.toList r s).2 := ⟨_, rfl⟩
      have HEE : Hid (E = (apd n.data.toList r s).2) := hE
      rw [← hE]
      clear hE HA2 HA
      by_cases hE0 : E = 0
      · subst hE0
        obtain ⟨_, _, c2, c3⟩ := HL3.out.cells
        have hkm : (k : Int) + m ≤ 140737489403912 := by omega
        go_wp2_with fail
        go_ret
        refine ⟨by rw [← HEE.out]; rfl, HWD.out _ (by rw [World.size_setCell]; exact HS3.out) _ (HD3.out.keeps ((Keeps.refl (fun x => x = q) w3).setCell (p := ⟨q, 2, none⟩) (.inl rfl) _) (fun j hj e => hq2 (e ▸ hj))), ?_, HKW3.out.setCell (p := ⟨q, 2, none⟩) (.inl (.inr rfl)) _⟩
        rw [← HEE.out, if_pos rfl, ← hm.out]
        exact HL3.out.grown m
      · have hE1 : (E == 0) = false := by simpa using hE0
        go_wp2_with fail
        go_ret
        refine ⟨by rw [← HEE.out]; rfl, HWD.out _ HS3.out _ HD3.out, ?_, HKW3.out⟩
        rw [← HEE.out, if_neg hE0]
        exact HL3.out
    · have hG1 : (G == 0) = false := by simpa using hG0
      have HA : Hid (apd n.data.toList r s = counted s (appendOn n.data.toList (u8s (enc r)))) := apd_one HE.out.1 (by rw [← HG.out]; exact hG0)
      go_wp2_with fail
      go_ret
      refine ⟨by rw [HA.out, ← HG.out]; rfl, by rw [HA.out]; exact HWD.out _ (Nat.le_refl _) _ HD2.out, ?_, HKW2.out⟩
      rw [HA.out, ← HG.out, if_neg hG0]
      exact HL2.out
  · have HA : Hid (apd n.data.toList r s = (s, ((encE r : Nat) : Int))) := apd_bad hE
    obtain ⟨E, hE2⟩ : ∃ E, E = encE r := ⟨_, rfl⟩
    have HEE : Hid (E = encE r) := hE2
    rw [← hE2] at hE ⊢
    have hE1 : ((E : Int) == 0) = false := by simp; omega
    have hE3 : ¬ (E : Int) = 0 := by omega
    clear hE2
    go_wp2_with fail
    go_ret
    refine ⟨by rw [HA.out, ← HEE.out]; rfl, ?_, ?_, HK1.out.of_no⟩
    · rw [HA.out]
      exact (HD.out.keepsN HK1.out).wide (fun j hj => .inl hj) (fun j hj => by
        rcases hj with a | a
        · have := HD.out.lt j a; have := HK1.out.size; omega
        · exact a.2)
    · rw [HA.out, ← HEE.out, if_neg (by simpa using hE3)]
      exact HL.out.keeps HK1.out (fun h => h)

theorem rLogSize_any (w : World) (q p : Nat) (n : Tx) (k : Nat) (h : IsLr w q p n k) : Calls Tryz.prog 14 #[.pointer (some ⟨q, 0, none⟩)] w fun e w' => e = .returned (.int .i64 (k : Nat)) ∧ w' = w := by
  have c2 : w.cell? ⟨q, 2, none⟩ = some (.int .i64 (k : Nat)) := cell_of_blk h.blk 2
  go_enter Tryz.func14, Tryz.ntmps14
  go_wp2
  go_ret
  exact ⟨rfl, rfl⟩
theorem rLogName_any (w : World) (q p : Nat) (n : Tx) (k : Nat) (h : IsLr w q p n k) : Calls Tryz.prog 16 #[.pointer (some ⟨q, 0, none⟩)] w fun e w' => e = .returned (.string n) ∧ w' = w := by
  have c1 : w.cell? ⟨q, 1, none⟩ = some (.string n) := cell_of_blk h.blk 1
  go_enter Tryz.func16, Tryz.ntmps16
  go_wp2
  go_ret
  exact ⟨rfl, rfl⟩
end Go.Proofs.YtgamhblkgojapaaGreatDoor
/- WalPlays: the program's disk and the document's, a log of each. -/
namespace Go.Proofs.YtgamhblkgojapaaGreatDoor
open Go.RowKit Pk Dk
set_option linter.unusedVariables false
set_option linter.unusedSimpArgs false

structure Pl (w0 w : World) (p r : Nat) (F G : Nat → Prop) (s t : St) : Prop where
  a : IsD w p F s
  b : IsRd w r G t
  ap : ∀ k, F k → ¬ G k
  fn : ∀ k, F k → w0.heap.size ≤ k
  gn : ∀ k, G k → w0.heap.size ≤ k
  kp : Keeps no w0 w
variable {w0 w w' : World} {p r : Nat} {F G : Nat → Prop} {s s' t t' : St}
theorem Pl.beside (h : Pl w0 w p r F G s t) (hk : Keeps no w w') : Pl w0 w' p r F G s t :=
  ⟨h.a.keepsN hk, h.b.keepsN hk, h.ap, h.fn, h.gn, h.kp.trans hk⟩
theorem Pl.sameA (h : Pl w0 w p r F G s t) (hi : IsD w' p F s') (hk : Keeps F w w') : Pl w0 w' p r F G s' t :=
  ⟨hi, h.b.keeps hk (fun k h1 h2 => h.ap k h2 h1), h.ap, h.fn, h.gn, h.kp.then hk (fun k h1 => .inr (h.fn k h1))⟩
theorem Pl.sameB (h : Pl w0 w p r F G s t) (hi : IsRd w' r G t') (hk : Keeps G w w') : Pl w0 w' p r F G s t' :=
  ⟨h.a.keeps hk (fun k h1 h2 => h.ap k h1 h2), hi, h.ap, h.fn, h.gn, h.kp.then hk (fun k h1 => .inr (h.gn k h1))⟩
theorem Pl.growA (h : Pl w0 w p r F G s t) {q : Nat} (hi : IsD w' p (grow F w w') s') (hk : Keeps (fun x => F x ∨ x = q) w w') (hq : ¬ G q) (hq0 : w0.heap.size ≤ q) : Pl w0 w' p r (grow F w w') G s' t := by
  refine ⟨hi, h.b.keeps hk (fun k h1 h2 => ?_), fun k h1 h2 => ?_, fun k h1 => ?_, h.gn, h.kp.then hk (fun k h1 => ?_)⟩
  · rcases h2 with h2 | h2
    · exact h.ap k h2 h1
    · subst h2; exact hq h1
  · rcases h1 with h1 | h1
    · exact h.ap k h1 h2
    · have := h.b.lt k h2; omega
  · rcases h1 with h1 | h1
    · exact h.fn k h1
    · have := h.kp.size; omega
  · rcases h1 with h1 | h1
    · exact .inr (h.fn k h1)
    · subst h1; exact .inr hq0
theorem Pl.growB (h : Pl w0 w p r F G s t) {q : Nat} (hi : IsRd w' r (grow G w w') t') (hk : Keeps (fun x => G x ∨ x = q) w w') (hq : ¬ F q) (hq0 : w0.heap.size ≤ q) : Pl w0 w' p r F (grow G w w') s t' := by
  refine ⟨h.a.keeps hk (fun k h1 h2 => ?_), hi, fun k h1 h2 => ?_, h.fn, fun k h1 => ?_, h.kp.then hk (fun k h1 => ?_)⟩
  · rcases h2 with h2 | h2
    · exact h.ap k h1 h2
    · subst h2; exact hq h1
  · rcases h2 with h2 | h2
    · exact h.ap k h1 h2
    · have := h.a.lt k h1; omega
  · rcases h1 with h1 | h1
    · exact h.gn k h1
    · have := h.kp.size; omega
  · rcases h1 with h1 | h1
    · exact .inr (h.gn k h1)
    · subst h1; exact .inr hq0
/-- both logs -/
structure Lg (w0 w : World) (p r : Nat) (F G : Nat → Prop) (n : Tx) (q u k l : Nat) : Prop where
  a : IsL w q p n k
  b : IsLr w u r n l
  qf : ¬ F q
  qg : ¬ G q
  uf : ¬ F u
  ug : ¬ G u
  q0 : w0.heap.size ≤ q
  u0 : w0.heap.size ≤ u
theorem Lg.qu {n : Tx} {q u k l : Nat} (h : Lg w0 w p r F G n q u k l) : q ≠ u := by
  intro e
  subst e
  have h1 := h.a.blk
  have h2 := h.b.blk
  rw [h1] at h2
  injection h2 with h2
  injection h2 with _ h2 _
  exact absurd h2 (by decide)
theorem Lg.ql {n : Tx} {q u k l : Nat} (h : Lg w0 w p r F G n q u k l) : q < w.heap.size := lt_of_block h.a.blk
theorem Lg.ul {n : Tx} {q u k l : Nat} (h : Lg w0 w p r F G n q u k l) : u < w.heap.size := lt_of_block h.b.blk
theorem Lg.beside {n : Tx} {q u k l : Nat} (h : Lg w0 w p r F G n q u k l) (hk : Keeps no w w') : Lg w0 w' p r F G n q u k l :=
  ⟨h.a.keeps hk (fun h => h), h.b.keeps hk (fun h => h), h.qf, h.qg, h.uf, h.ug, h.q0, h.u0⟩
theorem Lg.sameA {n : Tx} {q u k l : Nat} (h : Lg w0 w p r F G n q u k l) (hk : Keeps F w w') : Lg w0 w' p r F G n q u k l :=
  ⟨h.a.keeps hk h.qf, h.b.keeps hk h.uf, h.qf, h.qg, h.uf, h.ug, h.q0, h.u0⟩
theorem Lg.sameB {n : Tx} {q u k l : Nat} (h : Lg w0 w p r F G n q u k l) (hk : Keeps G w w') : Lg w0 w' p r F G n q u k l :=
  ⟨h.a.keeps hk h.qg, h.b.keeps hk h.ug, h.qf, h.qg, h.uf, h.ug, h.q0, h.u0⟩
/-- the program's log appended to -/
theorem Lg.growA {n : Tx} {q u k l k' : Nat} (h : Lg w0 w p r F G n q u k l) (ha : IsL w' q p n k') (hk : Keeps (fun x => F x ∨ x = q) w w') : Lg w0 w' p r (grow F w w') G n q u k' l :=
  ⟨ha, h.b.keeps hk (fun h1 => by rcases h1 with h1 | h1; exact h.uf h1; exact h.qu h1.symm), grow_no h.qf h.ql, h.qg, grow_no h.uf h.ul, h.ug, h.q0, h.u0⟩
theorem Lg.growB {n : Tx} {q u k l l' : Nat} (h : Lg w0 w p r F G n q u k l) (hb : IsLr w' u r n l') (hk : Keeps (fun x => G x ∨ x = u) w w') : Lg w0 w' p r F (grow G w w') n q u k l' :=
  ⟨h.a.keeps hk (fun h1 => by rcases h1 with h1 | h1; exact h.qg h1; exact h.qu h1), hb, h.qf, grow_no h.qg h.ql, h.uf, grow_no h.ug h.ul, h.q0, h.u0⟩
theorem Lg.growA' {n : Tx} {q u k l : Nat} (h : Lg w0 w p r F G n q u k l) (hk : Keeps F w w') : Lg w0 w' p r (grow F w w') G n q u k l :=
  ⟨h.a.keeps hk h.qf, h.b.keeps hk h.uf, grow_no h.qf h.ql, h.qg, grow_no h.uf h.ul, h.ug, h.q0, h.u0⟩
theorem Lg.growB' {n : Tx} {q u k l : Nat} (h : Lg w0 w p r F G n q u k l) (hk : Keeps G w w') : Lg w0 w' p r F (grow G w w') n q u k l :=
  ⟨h.a.keeps hk h.qg, h.b.keeps hk h.ug, h.qf, grow_no h.qg h.ql, h.uf, grow_no h.ug h.ul, h.q0, h.u0⟩
/-- no log, or both -/
def LgO (w0 w : World) (p r : Nat) (F G : Nat → Prop) (n : Tx) (M : Nat) : Option (Nat × Nat × Nat) → Prop
  | none => True
  | some (q, u, k) => Lg w0 w p r F G n q u k k ∧ k ≤ M
def lP : Option (Nat × Nat × Nat) → Value
  | none => .pointer none
  | some (q, _, _) => .pointer (some ⟨q, 0, none⟩)
def lR : Option (Nat × Nat × Nat) → Value
  | none => .pointer none
  | some (_, u, _) => .pointer (some ⟨u, 0, none⟩)
theorem LgO.of {n : Tx} {M M' : Nat} {F' G' : Nat → Prop} {L : Option (Nat × Nat × Nat)} (h : LgO w0 w p r F G n M L) (hM : M ≤ M') (hs : ∀ q u k, Lg w0 w p r F G n q u k k → Lg w0 w' p r F' G' n q u k k) : LgO w0 w' p r F' G' n M' L := by
  cases L with
  | none => trivial
  | some x => obtain ⟨q, u, k⟩ := x; exact ⟨hs _ _ _ h.1, Nat.le_trans h.2 hM⟩
/-- what both calls of Open tell is one -/
theorem fit_siz {n : Nm} {s : St} {M m B : Nat} (h : Siz M s) (hB : M + m ≤ B) : ∀ f, find n (tick s).fs = some f → f.bs.length + m ≤ B := fun f hf => by have := h.tick.find hf; omega
theorem read_siz {n : Nm} {s : St} {M : Nat} (h : Siz M s) : (readB n (tick s)).length ≤ M := h.tick.readB
end Go.Proofs.YtgamhblkgojapaaGreatDoor
/- WalPlays: a call of a script; the files of both disks. -/
namespace Go.Proofs.YtgamhblkgojapaaGreatDoor
open Go.RowKit Pk Dk
set_option linter.unusedVariables false
set_option linter.unusedSimpArgs false

def OkOB (w : World) (v : OV) : Prop := ∃ r bs, OkO w v r bs ∧ bs.length ≤ 1048576
theorem Sl.atO {w : World} {a : Option Addr} {c : Nat} {xs : List OV} (h : Sl OE w a c xs) {j : Nat} (hj : j < xs.length) : ∃ b off, a = some ⟨b, off, none⟩ ∧ ∀ i u, (OE.enc (xs.getD j ov0))[i]? = some u → i < 9 → w.cell? ⟨b, off + j * 9 + i, none⟩ = some u := by
  rcases h.row with e | ⟨b, off, rfl, hc⟩
  · subst e; simp at hj
  · refine ⟨b, off, rfl, fun i u hu hi => ?_⟩
    rw [Nat.add_assoc]
    refine hc (j * 9 + i) _ ?_
    have := cells_at okO ov0 xs j i hj hi
    rw [show OE.k = 9 from rfl] at this
    rw [this, hu]
theorem cells9 {w : World} {g : Nat} {z0 z1 z2 z3 z4 z5 z6 z7 z8 : Value} {t : TypeId} (h : w.heap[g]? = some (.cells #[z0, z1, z2, z3, z4, z5, z6, z7, z8] t (0, 0))) : w.cell? ⟨g, 0, none⟩ = some z0 ∧ w.cell? ⟨g, 1, none⟩ = some z1 ∧ w.cell? ⟨g, 2, none⟩ = some z2 ∧ w.cell? ⟨g, 3, none⟩ = some z3 ∧ w.cell? ⟨g, 4, none⟩ = some z4 ∧ w.cell? ⟨g, 5, none⟩ = some z5 ∧ w.cell? ⟨g, 6, none⟩ = some z6 ∧ w.cell? ⟨g, 7, none⟩ = some z7 ∧ w.cell? ⟨g, 8, none⟩ = some z8 := ⟨cell_of_blk h 0, cell_of_blk h 1, cell_of_blk h 2, cell_of_blk h 3, cell_of_blk h 4, cell_of_blk h 5, cell_of_blk h 6, cell_of_blk h 7, cell_of_blk h 8⟩


theorem listN_le {s : St} (h : Ok s) : (listN s).length ≤ 16 := by
  unfold listN
  split
  · simp
  · unfold names; rw [List.length_map]; exact h.len
theorem name_max {t : St} (h : Ok t) {x : Tx} (hx : x ∈ (listN t).map mkT) : x.size ≤ maxLen := by
  obtain ⟨n, hn, rfl⟩ := List.mem_map.1 hx
  unfold listN at hn
  split at hn
  · cases hn
  · simp only [names, List.mem_map] at hn
    obtain ⟨q, hq, rfl⟩ := hn
    have := h.nm q hq
    simp only [good, Bool.and_eq_true, decide_eq_true_eq] at this
    show (mkT q.1).data.size ≤ maxLen
    simp only [mkT, List.size_toArray]
    unfold maxLen
    omega

/-- what the loop of files holds -/
structure Fi (w0 w : World) (p r : Nat) (F G : Nat → Prop) (s : St) (M : Nat) (o : Option Addr) (c : Nat) (ns : List Tx) : Prop where
  pl : Pl w0 w p r F G s s
  sz : Siz M s
  own : Own TE w o c ns
  nf : ∀ k, inO o k → ¬ F k ∧ ¬ G k
  nm : ∀ x ∈ ns, x.size ≤ maxLen

set_option maxRecDepth 10000 in
set_option maxHeartbeats 1000000 in
theorem files_any (w0 w : World) (p r : Nat) (F G : Nat → Prop) (s : St) (M : Nat) (h : Pl w0 w p r F G s s) (hS : Siz M s) (hM : M ≤ 1099511627776) :
    Calls Tryz.prog 29 #[.pointer (some ⟨p, 0, none⟩), .pointer (some ⟨r, 0, none⟩)] w fun e w' => e = .returned (.bool true) ∧ Keeps no w0 w' := by
  have HP : Hid (Pl w0 w p r F G s s) := h
  have HS : Hid (Siz M s ∧ M ≤ 1099511627776) := ⟨hS, hM⟩
  clear h hS hM
  go_enter Tryz.func29, Tryz.ntmps29
  go_wp2_with fail
  refine (list_any w p F s HP.out.a).mono ?_
  rintro e w4 ⟨o4, c4, m4, rfl, hm4, ho4, hn4, h4, hk4⟩
  have HP4 : Hid (Pl w0 w4 p r F G (tick s) s) := HP.out.sameA h4 hk4
  have HO4 : Hid (Own TE w4 o4 c4 ((listN (tick s)).map mkT) ∧ New w o4) := ⟨ho4, hn4⟩
  have HZ4 : Hid (w.heap.size ≤ w4.heap.size) := hk4.size
  clear h4 hk4 ho4 hn4
  go_wp2_with fail
  refine (rlist_any w4 r G s HP4.out.b).mono ?_
  rintro e w5 ⟨o5, c5, m5, rfl, hm5, ho5, hn5, h5, hk5⟩
  have HP5 : Hid (Pl w0 w5 p r F G (tick s) (tick s)) := HP4.out.sameB h5 hk5
  have HO5 : Hid (Own TE w5 o4 c4 ((listN (tick s)).map mkT)) := HO4.out.1.keeps hk5 (fun k h1 h2 => by have := HO4.out.2 k h1; have := HP.out.b.lt k h2; omega)
  have HF : Hid (Fi w0 w5 p r F G (tick s) M o4 c4 ((listN (tick s)).map mkT)) := ⟨HP5.out, HS.out.1.tick, HO5.out, fun k h1 => ⟨fun h2 => by have := HO4.out.2 k h1; have := HP.out.a.lt k h2; omega, fun h2 => by have := HO4.out.2 k h1; have := HP.out.b.lt k h2; omega⟩, fun x hx => name_max HP5.out.b.ok hx⟩
  have HL : Hid (((listN (tick s)).map mkT).length ≤ 16) := (show ((listN (tick s)).map mkT).length ≤ 16 by rw [List.length_map]; exact listN_le HP5.out.b.ok)
  have HO6 : Hid (Own TE w5 o5 c5 ((listN (tick s)).map mkT)) := ho5
  obtain ⟨ns, hns⟩ : ∃ ns, ns = (listN (tick s)).map mkT := ⟨_, rfl⟩
  have HM4 : Hid (m4 = ns.length) := (show m4 = ns.length by rw [hm4.out, hns, List.length_map])
  have HM5 : Hid (m5 = ns.length) := (show m5 = ns.length by rw [hm5.out, hns, List.length_map])
  rw [← hns] at HF HL HO6
  clear h5 hk5 ho5 hn5 HO4 HO5 HP HP4 HP5 hm4 hm5 hns
  go_wp2_with fail
  refine (sameTexts_any w5 o4 m4 c4 o5 m5 c5 ns ns HM4.out HM5.out (by have := HL.out; omega) (by have := HL.out; omega) HF.out.own.sl HO6.out.sl).mono ?_
  rintro e w6 ⟨⟨b6, rfl, hb6⟩, hk6⟩
  obtain rfl : b6 = true := hb6.out.2 rfl
  have HF6 : Hid (Fi w0 w6 p r F G (tick s) M o4 c4 ns) := ⟨HF.out.pl.beside hk6, HF.out.sz, HF.out.own.keepsN hk6, HF.out.nf, HF.out.nm⟩
  have hm16 : (m4 : Int) ≤ 16 := by have := HL.out; have := HM4.out; omega
  clear hb6 hk6 HF HO6
  go_wp2_with fail
  go_loopw [9] (fun i wr => ∃ (j : Nat) (z : St), i = .int .i64 (j : Nat) ∧ (j : Int) ≤ m4 ∧ Hid (Fi w0 wr p r F G z M o4 c4 ns)) (fun i _ => m4 - (intOf i).toNat)
  case atStart => exact ⟨0, _, rfl, by omega, HF6⟩
  case round =>
    rename World => wq
    obtain ⟨j, z, rfl, hj, HF⟩ := hrel
    clear HF6
    by_cases hjl : (j : Int) < m4
    · have hjn : j < ns.length := by have := HM4.out; omega
      obtain ⟨b, off, hb, d1⟩ := HF.out.own.sl.at hjn
      obtain ⟨nm, hnm⟩ : ∃ nm, nm = ns.getD j e0 := ⟨_, rfl⟩
      rw [← hnm] at d1
      have HNM : Hid (nm.size ≤ maxLen) := (show nm.size ≤ maxLen by rw [hnm]; exact HF.out.nm _ (Orl.getD_mem_lt e0 hjn))
      have HOB : Hid (o4 = some ⟨b, off, none⟩) := hb
      clear hnm hjn
      subst hb
      go_wp2_with fail
      refine (dread_any wq p F z nm HF.out.pl.a HNM.out (by have := read_siz (n := nm.data.toList) HF.out.sz; have := HS.out.2; omega)).mono ?_
      rintro e w7 ⟨o7, c7, m7, rfl, hm7, ho7, hn7, h7, hk7⟩
      have HP7 : Hid (Pl w0 w7 p r F G (tick z) z) := HF.out.pl.sameA h7 hk7
      have d7 := hk7.cell d1 (fun h => (HF.out.nf b ⟨_, rfl, rfl⟩).1 h)
      have HO7 : Hid (Own BU w7 o7 c7 (readB nm.data.toList (tick z)) ∧ New wq o7) := ⟨ho7, hn7⟩
      have HT7 : Hid (Own TE w7 (some ⟨b, off, none⟩) c4 ns) := HF.out.own.keeps hk7 (fun k h1 h2 => (HF.out.nf k h1).1 h2)
      clear h7 hk7 ho7 hn7 d1
      go_wp2_with fail
      refine (rread_any w7 r G z nm HP7.out.b (by have := read_siz (n := nm.data.toList) HF.out.sz; have := HS.out.2; omega)).mono ?_
      rintro e w8 ⟨o8, c8, m8, rfl, hm8, ho8, hn8, h8, hk8⟩
      have HP8 : Hid (Pl w0 w8 p r F G (tick z) (tick z)) := HP7.out.sameB h8 hk8
      have HO8 : Hid (Own BU w8 o7 c7 (readB nm.data.toList (tick z))) := HO7.out.1.keeps hk8 (fun k h1 h2 => by have := HO7.out.2 k h1; have := HF.out.pl.b.lt k h2; omega)
      have HT8 : Hid (Own TE w8 (some ⟨b, off, none⟩) c4 ns) := HT7.out.keeps hk8 (fun k h1 h2 => (HF.out.nf k h1).2 h2)
      have HO9 : Hid (Own BU w8 o8 c8 (readB nm.data.toList (tick z))) := ho8
      have HF8 : Hid (Fi w0 w8 p r F G (tick z) M (some ⟨b, off, none⟩) c4 ns) := ⟨HP8.out, HF.out.sz.tick, HT8.out, HF.out.nf, HF.out.nm⟩
      clear h8 hk8 ho8 hn8 d7
      go_wp2_with fail
      refine (sameG_any w8 o7 m7 c7 o8 m8 c8 _ _ hm7.out hm8.out HO8.out.row HO9.out.row).mono ?_
      rintro e w9 ⟨rfl, hw9⟩
      subst w9
      rw [decide_eq_true rfl]
      clear HP7 HO7 HT7 HP8 HO8 HT8 HO9 HF
      go_wp2_with fail
      go_roundw
      case rel => exact ⟨j + 1, _, by go_num, by omega, HF8⟩
      case measure => simp [intOf]; omega
    · go_wp2_with fail
      go_ret
      exact ⟨rfl, HF.out.pl.kp⟩
end Go.Proofs.YtgamhblkgojapaaGreatDoor

import Derived.Test.YtoijeipoblnliaaGreatDoorXC
import Derived.Test.YtoijeipoblnliaaGreatDoorG3
/- Opens of a disk of the law's own; known. -/
namespace Go.Proofs.YtoijeipoblnliaaGreatDoor
open Go.RowKit Go.Maps Go.Sort Orl Pk
set_option linter.unusedVariables false
set_option linter.unusedSimpArgs false

set_option maxRecDepth 10000 in
theorem byID_some (w : World) (p : Nat) (T : Nat → Option Ro) (s : St) (N : Nat) (k : Tx) (i : Nat) (v : Vr) (h : IsS w p T s N) (hv : s.V (k, i) = some v) (hok : OkV s) :
    Calls Tryz.prog 41 #[.pointer (some ⟨p, 0, none⟩), .string k, .int .u64 ((i : Nat) : Int)] w fun e w' => ∃ u, e = .returned (.tuple #[u, .int .i64 0]) ∧ Tv w u (k, i) v w' := by
  obtain ⟨w0, hw0⟩ : ∃ w0, w0 = (w.alloc (.cells #[.string ⟨#[]⟩, .int .u64 0, .string ⟨#[]⟩, .slice none 0 0] 82)).alloc (.cells #[.string k, .int .u64 ((i : Nat) : Int)] 130) := ⟨_, rfl⟩
  have hk0 : Keeps no w w0 := by rw [hw0]; exact ((Keeps.refl no w).alloc _).alloc _
  have hm : KM.ok (k, i) := by obtain ⟨y, h⟩ := h; exact h.okM (by rw [hv]; simp)
  have hc := has_any w0 p T s N (k, i) (h.keepsN hk0) hm
  rw [hv] at hc
  simp only at hc
  have hks : k.size ≤ 65535 := hok.size hv
  have hlen : v.keys.length ≤ 1024 := hok.len hv
  have HT : Hid (∀ X, Keeps no w X → Calls Tryz.prog 67 #[.pointer (some ⟨p, 0, none⟩), .agg #[.string k, .int .u64 ((i : Nat) : Int)]] X fun e w' => ∃ u, e = .returned u ∧ Tk X u (k, i) v w') := fun X hX => told_any X p T s N (k, i) v (h.keepsN hX) hv (by omega) (by show k.size ≤ _; omega)
  have hb : w0.heap[w.heap.size]? = some (.cells #[.string ⟨#[]⟩, .int .u64 0, .string ⟨#[]⟩, .slice none 0 0] 82 (0, 0)) := by rw [hw0]; exact blk_alloc (blk_new w _) _
  have hb' : w0.heap[w.heap.size + 1]? = some (.cells #[.string k, .int .u64 ((i : Nat) : Int)] 130 (0, 0)) := by
    rw [hw0]
    have := blk_new (w.alloc (.cells #[.string ⟨#[]⟩, .int .u64 0, .string ⟨#[]⟩, .slice none 0 0] 82)) (.cells #[.string k, .int .u64 ((i : Nat) : Int)] 130)
    rwa [show (w.alloc (.cells #[.string ⟨#[]⟩, .int .u64 0, .string ⟨#[]⟩, .slice none 0 0] 82)).heap.size = w.heap.size + 1 by simp] at this
  have HB : Hid (w0.heap[w.heap.size]? = some (.cells #[.string ⟨#[]⟩, .int .u64 0, .string ⟨#[]⟩, .slice none 0 0] 82 (0, 0)) ∧ w0.heap[w.heap.size + 1]? = some (.cells #[.string k, .int .u64 ((i : Nat) : Int)] 130 (0, 0))) := ⟨hb, hb'⟩
  have HK0 : Hid (Keeps no w w0) := hk0
  rw [hw0] at hc HB HK0
  clear h hm hv hw0 hk0 hb hb' hok hks hlen
  go_enter Tryz.func41, Tryz.ntmps41
  go_wp2_with fail
  refine hc.mono ?_
  rintro e w1 ⟨rfl, hk1⟩
  have hb := hk1.at HB.out.1 id
  have hb' := hk1.at HB.out.2 id
  have HK1 : Hid (Keeps no w w1) := HK0.out.trans hk1
  have HBB : Hid (w1.heap[w.heap.size]? = some (.cells #[.string ⟨#[]⟩, .int .u64 0, .string ⟨#[]⟩, .slice none 0 0] 82 (0, 0))) := hb
  have p0 := cell_of_blk hb' 0
  have p1 := cell_of_blk hb' 1
  clear hb hk1 hc HB HK0 hb'
  go_wp2_with fail
  refine (HT.out _ HK1.out).mono ?_
  rintro e w2 ⟨u, rfl, o, n, c, rfl, hn, ho, hnw, hk2⟩
  have hb := hk2.at HBB.out id
  have HK2 : Hid (Keeps no w w2 ∧ Own TE w2 o c v.keys ∧ New w o ∧ n = v.keys.length) := ⟨HK1.out.trans hk2, ho, hnw.of_le HK1.out.size, hn.out⟩
  have HB2 : Hid (w2.heap[w.heap.size]? = some (.cells #[.string ⟨#[]⟩, .int .u64 0, .string ⟨#[]⟩, .slice none 0 0] 82 (0, 0))) := hb
  have q0 := cell_of_blk hb 0
  have q1 := cell_of_blk hb 1
  have q2 := cell_of_blk hb 2
  have q3 := cell_of_blk hb 3
  have f0 := frozen_of_blk hb 0
  have f1 := frozen_of_blk hb 1
  have f2 := frozen_of_blk hb 2
  have f3 := frozen_of_blk hb 3
  clear hb hk2 hn ho hnw HT HK1 HBB p0 p1
  have hfk := fun w => fieldK (.string k) (.int .u64 ((i : Nat) : Int)) (.string v.val) (.slice o n c) (.int .i64 v.stamp) w
  go_wp2_with fail
  have hs4 := set4 HB2.out (.string k) (.int .u64 ((i : Nat) : Int)) (.string v.val) (.slice o n c)
  unfold set4w at hs4
  refine bodyPost_ret (results_row2 rfl _ _ w.heap.size _ rfl (loadV hs4.1)) rfl ?_
  refine ⟨_, rfl, o, n, c, rfl, HK2.out.2.2.2, HK2.out.2.1.keeps hs4.2 (fun b hb e => ?_), HK2.out.2.2.1, HK2.out.1.then hs4.2 (fun b hb => .inr (by have : b = w.heap.size := hb; omega))⟩
  obtain ⟨cur, hcc⟩ := HK2.out.2.1.tag b hb
  have : b = w.heap.size := e
  rw [this, HB2.out] at hcc
  injection hcc with hcc
  injection hcc with _ hcc _
  cases hcc

theorem Tabs.no {w0 w : World} {p : Nat} {F : Nat → Prop} {s : Dk.St} (h : Dn w0 w p F s) (ht : Tabs w0) : ¬ F 2 ∧ ¬ F 0 :=
  ⟨h.no0 ht.crc, fun h0 => by have := h.new 0 h0; have := ht.pow.lt; omega⟩
theorem Dn.tabs {w0 w : World} {p : Nat} {F : Nat → Prop} {s : Dk.St} (h : Dn w0 w p F s) (ht : Tabs w0) : Tabs w := ht.keepsN h.kept
def DBootTo (w0 w : World) (p : Nat) (F : Nat → Prop) (s' : Dk.St) (g : Nat) (st : St) (k : Nat) (e : Ending) (w' : World) : Prop :=
  ∃ q l, e = .returned (.tuple #[.pointer (some ⟨q, 0, none⟩), .pointer (some ⟨l, 0, none⟩), .int .i64 (g : Nat), .int .i64 0]) ∧ Hid (IsL w' l p (logN g) k ∧ w.heap.size ≤ l ∧ ¬ F l) ∧ Hid (∃ N, N ≤ 420000000 ∧ Sto w.heap.size w' q st N (fun b => b = l)) ∧ Hid (Dn w0 w' p F s') ∧ Hid (Keeps F w w')
theorem dn_boot {w0 w : World} {p : Nat} {F : Nat → Prop} {s s' : Dk.St} {g : Nat} {st : St} {k : Nat} {now : Int} (h : Dn w0 w p F s) (ht : Tabs w0) (hz : Sz s) (hnow : tickB now = true) (hB : Boot now s s' 0 g st k) :
    Calls Tryz.prog 19 #[.pointer (some ⟨p, 0, none⟩), .int .i64 now] w (DBootTo w0 w p F s' g st k) := by
  refine (boot_any w p F s h.is now hnow (h.tabs ht) (Tabs.no h ht).1 (Tabs.no h ht).2 hz).mono ?_
  rintro e w' (⟨s2, E, rfl, hB2, hE, hi⟩ | ⟨s2, g2, st2, k2, q, l, rfl, hB2, hL, hS, hi⟩)
  · exact absurd (hB.one hB2.out).2.1.symm hE
  · obtain ⟨rfl, _, rfl, rfl, rfl⟩ := hB.one hB2.out
    exact ⟨q, l, rfl, ⟨hL.out.1, hL.out.2, fun hF => by have := h.is.lt l hF; have := hL.out.2; omega⟩, hS, h.same hi.out.1 hi.out.2, hi.out.2⟩
theorem dn_boot_no {w0 w : World} {p : Nat} {F : Nat → Prop} {s s' : Dk.St} {E : Int} {now : Int} (h : Dn w0 w p F s) (ht : Tabs w0) (hz : Sz s) (hnow : tickB now = true) (hB : Boot now s s' E 0 St.new 0) (hE : E ≠ 0) :
    Calls Tryz.prog 19 #[.pointer (some ⟨p, 0, none⟩), .int .i64 now] w fun e w' => e = .returned (.tuple #[.pointer none, .pointer none, .int .i64 0, .int .i64 E]) ∧ Hid (Dn w0 w' p F s') ∧ Hid (Keeps F w w') := by
  refine (boot_any w p F s h.is now hnow (h.tabs ht) (Tabs.no h ht).1 (Tabs.no h ht).2 hz).mono ?_
  rintro e w' (⟨s2, E2, rfl, hB2, hE2, hi⟩ | ⟨s2, g2, st2, k2, q, l, rfl, hB2, hL, hS, hi⟩)
  · obtain ⟨rfl, rfl, _⟩ := hB.one hB2.out
    exact ⟨rfl, h.same hi.out.1 hi.out.2, hi.out.2⟩
  · exact absurd (hB.one hB2.out).2.1 hE
theorem dn_newB (w : World) : Calls Tryz.prog 34 #[] w fun e w' => ∃ p, e = .returned (.pointer (some ⟨p, 0, none⟩)) ∧ Hid (Dn w w' p (fun k => w.heap.size ≤ k ∧ k < w'.heap.size) Dk.new) := by
  refine (new_anyW w).mono ?_
  rintro e w' ⟨p, rfl, hi, hk⟩
  exact ⟨p, rfl, ⟨hi, fun k hk => hk.1, hk⟩⟩

/-! ### an empty disk, a disk with one record -/
theorem on_new : On Dk.new := ⟨rfl, rfl⟩
theorem boot_new (now : Int) : Boot now Dk.new Dk.new 0 0 St.new 0 := by
  have ht : Dk.tick Dk.new = Dk.new := on_new.tick
  have hs : hasSnap Dk.new = false := rfl
  have hd : baseD Dk.new = Dk.new := by unfold baseD; rw [hs]; rfl
  have hg : baseG Dk.new = 0 := by unfold baseG; rw [hs]; rfl
  have hsw : swept Dk.new = (Dk.new, 0) := by unfold swept; rw [hd]; rfl
  have := Boot.ok (now := now) (s := Dk.new) (s' := Dk.new) (k := 0) (rs := []) (by rw [ht]; rfl) (by rw [ht]; unfold baseE; rw [hs]; rfl) (by rw [ht, hsw]) (by rw [ht, hsw]; exact opn_gone on_new rfl)
  rw [ht, hg] at this
  have hS : baseS now Dk.new = St.new := by unfold baseS; rw [hs]; rfl
  rw [hS] at this
  exact this
theorem sz_new : Sz Dk.new := fun q hq => by cases hq
def txA : Tx := ⟨#[97]⟩
def txX : Tx := ⟨#[120]⟩
def r1 : Rec := ⟨1, 65536, [(txA, txX)], [txA]⟩
theorem r1_may : may r1 = true := by
  unfold may mayK mayP r1
  simp [rising, kys, inn, show txA.size = 1 from rfl, show txX.size = 1 from rfl]
theorem r1_body : (body r1).length = 32 := by
  unfold body layF r1
  simp [num_length, layP, layP1, txt_length, txts_length, natss, bodyLen, nats_length, show txA.size = 1 from rfl, show txX.size = 1 from rfl]
theorem r1_gd : Gd r1 := ⟨r1_may, by decide, by rw [r1_body]; omega⟩
def S1 : Dk.St := lay1 (logB 0) (fl (u8s (enc r1))) Dk.new
theorem on_S1 : On S1 := on_new.lay1 _ _
theorem inc_S1 : Dk.Inc S1.fs := Dk.inc_put (by simp [Dk.new, Dk.Inc])
theorem log0_good : Dk.good (logB 0) = true := log_good (by omega) (by omega)
theorem apd_S1 : apd (logB 0) r1 Dk.new = (S1, 0) := by
  have := apd_on (s := Dk.new) (n := logB 0) (r := r1) (by simp [Dk.new, Dk.Inc]) on_new rfl log0_good (fun _ => by simp [Dk.new]) r1_gd.encE
  rw [show bsOf (logB 0) Dk.new = [] from rfl, List.nil_append] at this
  exact this
theorem rowb_one (r : Rec) : rowb [r] = enc r := by simp [rowb]
theorem boot_S1 (now : Int) : Boot now S1 S1 0 0 (redoS now St.new [r1]) (enc r1).length := by
  have ht : Dk.tick S1 = S1 := on_S1.tick
  have hf : Dk.find snapB S1.fs = none := by unfold S1; rw [find_lay1_ne (log_ne 0).symm]; rfl
  have hs : hasSnap S1 = false := by unfold hasSnap; rw [hf]; rfl
  have hd : baseD S1 = S1 := by unfold baseD; rw [hs]; rfl
  have hg : baseG S1 = 0 := by unfold baseG; rw [hs]; rfl
  have hn : Dk.names S1.fs = [logB 0] := rfl
  have hsw : swept S1 = (S1, 0) := by
    unfold swept
    rw [hd, hg, hn]
    unfold sweepS
    rw [if_pos (show logB 0 = snapB ∨ logB 0 = logB ((0 : Nat) : Int) from Or.inr rfl)]
    rfl
  have ho : Opn (logB 0) S1 S1 0 (rowb [r1]).length [r1] := opn_whole on_S1 (find_lay1 _ _ _) (fun r hr => by simp at hr; subst hr; exact r1_gd) (by show nts (u8s (enc r1)) = _; rw [nts_u8s (enc_byt r1), rowb_one])
  have := Boot.ok (now := now) (s := S1) (s' := S1) (k := (rowb [r1]).length) (rs := [r1]) (by rw [ht]; rfl) (by rw [ht]; unfold baseE; rw [hs]; rfl) (by rw [ht, hsw]) (by rw [ht, hsw, hg]; exact ho)
  rw [ht, hg, rowb_one] at this
  have hS : baseS now S1 = St.new := by unfold baseS; rw [hs]; rfl
  rw [hS] at this
  exact this
theorem enc_r1_len : (enc r1).length = 40 := by rw [enc_length, r1_body]
theorem sz_S1 : Sz S1 := by
  intro q hq
  have : q = (logB 0, fl (u8s (enc r1))) := by
    have h : S1.fs = [(logB 0, fl (u8s (enc r1)))] := rfl
    rw [h] at hq; simpa using hq
  subst this
  show (u8s (enc r1)).length ≤ szB (logB 0)
  rw [u8s_length, enc_r1_len, szB_log]; omega
theorem redo_r1 (now : Int) : (redoS now St.new [r1]).V (txA, 65536) = some ⟨txX, [txA], -1⟩ := by
  unfold redoS
  simp only [List.foldl_cons, List.foldl_nil]
  unfold doRec
  rw [if_pos (show r1.kind = 1 from rfl)]
  show (putAll 65536 [txA] now St.new (miss St.new 65536 [(txA, txX)])).V _ = _
  have hm : miss St.new 65536 [(txA, txX)] = [(txA, txX)] := rfl
  rw [hm]
  show (put1 65536 [txA] now St.new (txA, txX)).V (txA, 65536) = _
  unfold put1 St.add
  simp [stampOf, St.new]
theorem logN0 : logN 0 = ⟨#[108, 111, 103, 46, 48]⟩ := by
  unfold logN
  rw [show (0 : Int) = ((0 : Nat) : Int) from rfl, Lib.itoa_nonneg, Lib.decDigits_one (by omega)]
  rfl
theorem logN12 : logN 12 = ⟨#[108, 111, 103, 46, 49, 50]⟩ := by
  unfold logN
  rw [show (12 : Int) = ((12 : Nat) : Int) from rfl, Lib.itoa_nonneg, Lib.decDigits_two (by omega) (by omega)]
  rfl
end Go.Proofs.YtoijeipoblnliaaGreatDoor

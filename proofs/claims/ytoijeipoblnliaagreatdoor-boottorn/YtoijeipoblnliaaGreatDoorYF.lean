import Derived.Test.YtoijeipoblnliaaGreatDoorYE
import Derived.Test.YtoijeipoblnliaaGreatDoorYD
import Derived.Test.YtoijeipoblnliaaGreatDoorBE
/- laid. -/
namespace Go.Proofs.YtoijeipoblnliaaGreatDoor
open Go.RowKit Go.Maps Go.Sort Orl Pk
set_option linter.unusedVariables false
set_option linter.unusedSimpArgs false

theorem Sto.fence {B B0 : Nat} {w : World} {q : Nat} {s : St} {N : Nat} {F : Nat → Prop} (h : Sto B w q s N no) (h0 : B0 ≤ B) (hF : ∀ b, F b → b < B) : Sto B0 w q s N F := by
  have hle := h.le
  obtain ⟨T, hi, ho, hB, _⟩ := h
  refine ⟨T, hi, ho, fun b hb => Nat.le_trans h0 (hB b hb), fun b hb => ⟨?_, Nat.lt_of_lt_of_le (hF b hb) hle⟩⟩
  cases hT : T b with
  | none => rfl
  | some r => have := hB b (by rw [hT]; simp); have := hF b hb; omega
theorem Sto.ow {w0 w : World} {p : Nat} {s : St} {N : Nat} (h : Sto w0.heap.size w p s N no) (hk : Keeps no w0 w) : Ow w0 w p s N no := by
  obtain ⟨T, hi, ho, hB, _⟩ := h
  exact ⟨T, ⟨hi, ho, hB, hk⟩, fun b hb => hb.elim⟩
theorem Ow.ks_leW {w0 w : World} {p : Nat} {s : St} {N : Nat} {P : Nat → Prop} (h : Ow w0 w p s N P) {ls : List Mk} {ks : List KV} (hT : Tld s ls ks) : ks.length ≤ N := by
  obtain ⟨T, h, _⟩ := h
  obtain ⟨y, hy⟩ := h.is
  have hnd : (ks.map (·.m)).Nodup := inc_nodup swoM hT.inc
  have := List.Nodup.length_le_of_subset (l₂ := y.V.map (·.1)) hnd (fun m hm => by
    obtain ⟨x, hx, rfl⟩ := List.mem_map.1 hm
    have hv := hT.is x hx
    rw [hy.sv] at hv
    cases hf : fnd x.m y.V with
    | none => rw [hf] at hv; cases hv
    | some v => exact List.mem_map.2 ⟨_, fnd_mem hf, rfl⟩)
  have := hy.nv
  simp at *
  omega
/-- a snapshot of few versions is not long -/
theorem sn_len {s : St} (hok : Ok s) {g : Nat} {b : List Nat} (h : SnOf s g b) (hN : ∀ ls ks, Tld s ls ks → ks.length ≤ 90) : b.length ≤ 8000000000 := by
  obtain ⟨ls, ks, hT, rfl⟩ := h
  have hl := tld_lims hok hT
  have h1 := ls_le hok hT
  have h2 := hN ls ks hT
  have := layL_max ls (fun l h => (hl.1 l h).1)
  have := layV_max (vts ks) hl.2
  have e : (vts ks).length = ks.length := by simp [vts]
  rw [snap_length, snBody_length]
  omega
/-- the disk, the box of the argument, the store, in one world -/
structure LI (w W : World) (v : WV) (p q : Nat) (F L : Nat → Prop) (S : Dk.St) (st : St) (N : Nat) : Prop where
  dn : Dn w W p F S
  bx : W.heap[w.heap.size]? = some (.cells #[.int .i64 v.gen, .slice v.so v.sn v.sc, .slice v.lo v.ln v.lc, .int .i64 v.tail, .int .i64 v.oth] 27 (0, 0))
  nb : ¬ F w.heap.size
  nl : ¬ L w.heap.size
  st : Sto w.heap.size W q st N (fun b => F b ∨ L b)
section
variable {w W W' : World} {v : WV} {p q : Nat} {F L : Nat → Prop} {S S' : Dk.St} {st : St} {N : Nat}
theorem LI.beside (h : LI w W v p q F L S st N) (hk : Keeps no W W') : LI w W' v p q F L S st N :=
  ⟨h.dn.beside hk, hk.at h.bx id, h.nb, h.nl, h.st.keepsN hk⟩
theorem LI.same (h : LI w W v p q F L S st N) (hd : Dn w W' p F S') (hk : Keeps F W W') : LI w W' v p q F L S' st N :=
  ⟨hd, hk.at h.bx h.nb, h.nb, h.nl, (h.st.other hk (fun b hb => .inr (.inl hb))).sub (fun b hb => .inl hb)⟩
theorem LI.bxlt (h : LI w W v p q F L S st N) : w.heap.size < W.heap.size := lt_of_block h.bx
theorem LI.disk (h : LI w W v p q F L S st N) (hd : Dn w W' p (grow F W W') S') (hk : Keeps (fun b => F b ∨ L b) W W') : LI w W' v p q (grow F W W') L S' st N :=
  ⟨hd, hk.at h.bx (fun e => by rcases e with e | e; exact h.nb e; exact h.nl e), fun e => by rcases e with e | e; exact h.nb e; have := h.bxlt; omega, h.nl, (h.st.other hk (fun b hb => .inr hb)).sub (fun b hb => by rcases hb with (h1 | h1) | h1; exact .inl (.inl h1); exact .inr h1; exact .inl (.inr h1))⟩
theorem LI.fresh (h : LI w W v p q F L S st N) (hd : Dn w W' p F S') (hk : Keeps F W W') {l : Nat} (hl : W.heap.size ≤ l) (hl' : l < W'.heap.size) : LI w W' v p q F (fun b => b = l) S' st N :=
  ⟨hd, hk.at h.bx h.nb, h.nb, fun e => by have := h.bxlt; have : w.heap.size = l := e; omega, (h.st.other hk (fun b hb => .inr (.inl hb))).sub (fun b hb => by rcases hb with h1 | h1; exact .inl (.inl h1); subst h1; exact .inr ⟨hl, hl'⟩)⟩
end
theorem i64_nat {g : Int} (h0 : 0 ≤ g) : ∃ n : Nat, g = n := ⟨g.toNat, by omega⟩

def vTn (a b : Nat) : CV := ⟨1, 1073741824, some ⟨a, 0, none⟩, 1, 1, some ⟨b, 0, none⟩, 1, 1⟩
theorem torn_isC (w : World) : IsC ((w.alloc (.cells #[.string txTorn, .string txTorn] 80)).alloc (.cells #[.string txTorn] 9)) (vTn w.heap.size (w.heap.size + 1)) torn := by
  have hs : (w.alloc (.cells #[.string txTorn, .string txTorn] 80)).heap.size = w.heap.size + 1 := World.size_alloc ..
  have h2 := own_one (w.alloc (.cells #[.string txTorn, .string txTorn] 80)) txTorn
  rw [hs] at h2
  refine ⟨rfl, rfl, rfl, rfl, (own_oneP w txTorn txTorn).keepsN ((Keeps.refl no _).alloc _), h2, ⟨by decide, fun s hs => ?_, by decide, fun p hp => ?_, by decide, by decide, by decide⟩⟩
  · simp [torn] at hs; subst hs; decide
  · simp [torn] at hp; subst hp; exact ⟨by decide, by decide⟩
def oths : Array Value := #[.string ⟨#[115, 110, 97, 112, 46, 116, 109, 112]⟩, .string ⟨#[108, 111, 103, 46, 57, 57, 57]⟩, .string ⟨#[120]⟩, .string ⟨#[108, 111, 103, 46]⟩, .string ⟨#[115, 110, 97, 112, 50]⟩, .string ⟨#[108, 111, 103, 46, 49, 46, 116, 109, 112]⟩, .string ⟨#[83, 110, 97, 112]⟩, .string ⟨#[97]⟩]
theorem oth_at (k : Nat) (h : k < ([.string ⟨#[115, 110, 97, 112, 46, 116, 109, 112]⟩, .string ⟨#[108, 111, 103, 46, 57, 57, 57]⟩, .string ⟨#[120]⟩, .string ⟨#[108, 111, 103, 46]⟩, .string ⟨#[115, 110, 97, 112, 50]⟩, .string ⟨#[108, 111, 103, 46, 49, 46, 116, 109, 112]⟩, .string ⟨#[83, 110, 97, 112]⟩, .string ⟨#[97]⟩] : List Value).length) : ([.string ⟨#[115, 110, 97, 112, 46, 116, 109, 112]⟩, .string ⟨#[108, 111, 103, 46, 57, 57, 57]⟩, .string ⟨#[120]⟩, .string ⟨#[108, 111, 103, 46]⟩, .string ⟨#[115, 110, 97, 112, 50]⟩, .string ⟨#[108, 111, 103, 46, 49, 46, 116, 109, 112]⟩, .string ⟨#[83, 110, 97, 112]⟩, .string ⟨#[97]⟩] : List Value)[k]'h = .string (othN k) := by
  simp only [List.length_cons, List.length_nil] at h
  rcases k with _ | _ | _ | _ | _ | _ | _ | _ | k
  all_goals first | rfl | omega
theorem oth_size (k : Nat) (h : k < 8) : (othN k).size ≤ maxLen := by
  rcases k with _ | _ | _ | _ | _ | _ | _ | _ | k
  all_goals first | decide | omega
def tornK (tail : Int) : Nat := rst tail 48
def LaidW (w : World) (g : Nat) (rs : List Rec) (k oth : Nat) (now : Int) (e : Ending) (w' : World) : Prop :=
  ∃ p q, e = .returned (.tuple #[.pointer (some ⟨p, 0, none⟩), .pointer (some ⟨q, 0, none⟩), .bool true]) ∧ Hid (∃ F bs N, Dn w w' p F (otS (tnS bs g rs k) oth) ∧ BsOk now g bs ∧ (∀ b, bs = some b → b.length ≤ 8000000000) ∧ Sto w.heap.size w' q (redoS now (bst now bs) rs) N F ∧ N ≤ 500000000)

set_option maxRecDepth 10000 in
set_option maxHeartbeats 4000000 in
theorem laid_any (w : World) (ht : Tabs w) (v : WV) (sl ll : List RW) (g oth : Nat) (h : WIn w v sl ll) (hg : v.gen = (g : Nat)) (hs30 : sl.length ≤ 30) (hl30 : ll.length ≤ 30) (ho : v.oth = (oth : Nat)) (ho8 : oth ≤ 8) (now : Int) (hnow : tickB now = true) :
    Calls Tryz.prog 13 #[v.val, .int .i64 now] w (LaidW w g (recL ll) (tornK v.tail) oth now) := by
  obtain ⟨vg, so, sn, sc, lo, ln, lc, ta, vo⟩ := v
  have H : Hid (WIn w ⟨vg, so, sn, sc, lo, ln, lc, ta, vo⟩ sl ll ∧ Tabs w ∧ tickB now = true ∧ sl.length ≤ 30 ∧ ll.length ≤ 30 ∧ oth ≤ 8) := ⟨h, ht, hnow, hs30, hl30, ho8⟩
  have hg2 : (g : Int) ≤ 9223372036854775807 := by have := h.gen.2; simp only at this hg; omega
  simp only at hg ho
  subst hg ho
  unfold WV.val
  simp only
  clear h ht hnow hs30 hl30
  obtain ⟨BX, hBX⟩ : ∃ BX, BX = w.heap.size := ⟨_, rfl⟩
  go_enter Tryz.func13, Tryz.ntmps13
  go_wp2_with fail
  refine (dn_newB _).mono ?_
  rintro e w1 ⟨p, rfl, D1'⟩
  have D1 : Hid (Dn w w1 p (fun k => w.heap.size + 1 ≤ k ∧ k < w1.heap.size) Dk.new ∧ w1.heap[w.heap.size]? = some (.cells #[.int .i64 ((g : Nat) : Int), .slice so sn sc, .slice lo ln lc, .int .i64 ta, .int .i64 ((oth : Nat) : Int)] 27 (0, 0))) := by
    have := D1'.out
    rw [World.size_alloc] at this
    exact ⟨⟨this.is, fun k hk => by have := this.new k hk; rw [World.size_alloc] at this; omega, ((Keeps.refl no w).alloc _).trans this.kept⟩, this.kept.at (blk_new w _) id⟩
  clear D1'
  obtain ⟨F, hF⟩ : ∃ F : Nat → Prop, F = (fun k => w.heap.size + 1 ≤ k ∧ k < w1.heap.size) := ⟨_, rfl⟩
  rw [← hF] at D1
  go_wp2_with fail
  refine (sto_new w1).mono ?_
  rintro e w2 ⟨q0, rfl, H2⟩
  have L2 : Hid (LI w w2 ⟨(g : Nat), so, sn, sc, lo, ln, lc, ta, (oth : Nat)⟩ p q0 F no Dk.new St.new 0) := by
    refine ⟨D1.out.1.beside H2.out.2, H2.out.2.at D1.out.2 id, fun e => by rw [hF] at e; have := e.1; omega, fun e => e, ?_⟩
    refine (H2.out.1.fence (F := F) D1.out.1.kept.size (fun b hb => by rw [hF] at hb; exact hb.2)).sub (fun b hb => ?_)
    rcases hb with h1 | h1
    · exact h1
    · exact h1.elim
  clear H2 D1 hF
  have b0 := cell_of_blk L2.out.bx 0
  obtain ⟨bz, hbz⟩ : ∃ bz : Bool, decide (0 < g) = bz := ⟨_, rfl⟩
  go_upto_if 33 with fail
  have HBZ : Hid (decide (0 < g) = bz) := hbz
  clear hbz hBX
  go_cut [8, 9, 10, 11, 12, 13, 14] from 34 to 78 (fun t8 _ _ _ _ _ _ U => ∃ (q : Nat) (bs : Option (List UInt8)) (F : Nat → Prop) (N : Nat), t8 = .pointer (some ⟨q, 0, none⟩) ∧ Hid (LI w U ⟨(g : Nat), so, sn, sc, lo, ln, lc, ta, (oth : Nat)⟩ p q F no (snS bs) (bst now bs) N ∧ BsOk now g bs ∧ (∀ b, bs = some b → b.length ≤ 8000000000) ∧ N ≤ 400000000))
  case first =>
    by_cases hg0 : g = 0
    · have hb1 : bz = false := by rw [← HBZ.out]; simp [hg0]
      have hz : Hid (BsOk now g none) := hg0
      clear HBZ hg0
      subst hb1
      go_wp2_with fail
      go_meet
      case rel => exact ⟨q0, none, F, 0, rfl, L2.out, hz.out, fun b hb => (by cases hb), by omega⟩
    · have hb1 : bz = true := by rw [← HBZ.out, decide_eq_true_eq]; omega
      have hg1 : Hid (1 ≤ g ∧ g ≤ 9223372036854775807) := ⟨by omega, by omega⟩
      clear HBZ hg0
      subst hb1
      have b1 := cell_of_blk L2.out.bx 1
      go_wp2_with fail
      refine (sto_new w2).mono ?_
      rintro e w3 ⟨q1, rfl, H3⟩
      have c0 := H3.out.2.cellN b0
      have c1 := H3.out.2.cellN b1
      have K23 : Hid (Keeps no w2 w3) := H3.out.2
      have hdn := done_any H3.out.1 so sn sc sl H.out.1.sn (by have := H.out.1.sn; have := H.out.2.2.2.1; simp only at *; omega) (H.out.1.s.keepsN (L2.out.dn.kept.trans K23.out)) H.out.1.sok (fun b hb => .inl (by have := H.out.1.slt b hb; have := L2.out.dn.kept.size; omega)) 3 (by decide) (by omega)
      go_wp2_with fail
      refine hdn.mono ?_
      rintro e w4 ⟨rfl, H4⟩
      clear hdn
      obtain ⟨SB, hSB⟩ : ∃ SB, SB = redoS 3 St.new (recL sl) := ⟨_, rfl⟩
      rw [← hSB] at H4
      clear hSB
      have K24 : Hid (Keeps no w2 w4) := K23.out.then H4.out.2 (fun b hb => .inr hb.1)
      have c0' := K24.out.cellN b0
      have hOw : Hid (Ow w2 w4 q1 SB (0 + 3 * sn) no) := H4.out.1.ow K24.out
      have hsn : Hid (0 + 3 * sn ≤ 90) := by show _ ≤ _; have := H.out.1.sn; have := H.out.2.2.2.1; simp only at *; omega
      have hT4 : Hid (Tabs w4) := H.out.2.1.keepsN (L2.out.dn.kept.trans K24.out)
      go_wp2_with fail
      refine (build_any hOw.out (by have := hsn.out; omega) hT4.out.crc g hg1.out.1 hg1.out.2).mono ?_
      rintro e w5 ⟨o5, n5, c5, bs, rfl, H5⟩
      have hks : Hid (∀ ls ks, Tld SB ls ks → ks.length ≤ 90) := fun ls ks hT => Nat.le_trans (hOw.out.ks_leW hT) hsn.out
      have hrd : Hid (sumOk bs = true ∧ rdOk now bs = true ∧ rdG bs = g ∧ (rdVs (bodyO bs)).1.length ≤ 90) := by
        have := laid_read hOw.out.ok H5.out.sn (by unfold genOk; simpa using hg1.out) H.out.2.2.1 hks.out (by omega)
        exact ⟨this.1, this.2.1, this.2.2.1, this.2.2.2.2.2⟩
      have hln : Hid (bs.length ≤ 8000000000) := sn_len hOw.out.ok H5.out.sn hks.out
      have hT5 : Hid (Tabs w5) := hT4.out.keepsN H5.out.keep
      have hread := read_any w5 o5 n5 c5 bs now H5.out.n ⟨H5.out.own.row H5.out.byt (by have := hln.out; omega), H5.out.own.cap.1, H5.out.own.cap.2⟩ (by have := hln.out; omega) hT5.out.crc
      go_wp2_with fail
      refine hread.mono ?_
      rintro e w6 h6
      clear hread
      rcases h6 with ⟨h1, _⟩ | ⟨_, h1, _⟩ | ⟨_, _, h1, _⟩ | ⟨_, _, _, q2, rfl, hO6⟩
      · rw [H.out.2.2.1] at h1; cases h1
      · rw [hrd.out.1] at h1; cases h1
      · rw [hrd.out.2.1] at h1; cases h1
      have K6 : Hid (Keeps no w2 w6 ∧ Keeps no w5 w6) := ⟨K24.out.trans (H5.out.keep.trans hO6.keep), hO6.keep⟩
      have hS6 : Hid (Sto w.heap.size w6 q2 (rdS now bs) 90 F) := by
        have hle := (L2.out.dn.kept.trans (K24.out.trans H5.out.keep)).size
        exact ((Sto.of hO6).more hrd.out.2.2.2).fence hle (fun b hb => by have := L2.out.dn.is.lt b hb; have := K24.out.size; have := H5.out.keep.size; omega)
      have L6 : Hid (LI w w6 ⟨(g : Nat), so, sn, sc, lo, ln, lc, ta, (oth : Nat)⟩ p q2 F no Dk.new (rdS now bs) 90) := by
        have a := L2.out.beside K6.out.1
        exact ⟨a.dn, a.bx, a.nb, a.nl, hS6.out.sub (fun b hb => by rcases hb with h1 | h1; exact h1; exact h1.elim)⟩
      have hgg : ((rdG bs : Nat) : Int) = (g : Int) := by rw [hrd.out.2.2.1]
      rw [hgg]
      clear hgg hO6
      have hown : Hid (Own BU w6 o5 c5 (u8s bs) ∧ n5 = (u8s bs).length ∧ ∀ b, inO o5 b → ¬ F b) := by
        refine ⟨(own_u8 H5.out.byt H5.out.own).keepsN K6.out.2, by rw [u8s_length]; exact H5.out.n, fun b hb hf => ?_⟩
        have := H5.out.new b hb
        have := L2.out.dn.is.lt b hf
        have := K24.out.size
        omega
      have hbl : Hid ((u8s bs).length ≤ 8000000000) := by show _ ≤ _; rw [u8s_length]; exact hln.out
      have hap := app_sync (s := Dk.new) (n := snapB) (b := u8s bs) on_new rfl (by simp [Dk.new, Dk.Inc]) snap_good (fun _ => by simp [Dk.new])
      have hA := dn_append snapN o5 n5 c5 (u8s bs) L6.out.dn hap.1 (by decide) hown.out.2.1 hown.out.1.sl hown.out.2.2 (by have := hbl.out; omega) (fun f hf => by cases hf)
      have HAP : Hid (Dk.counted (lay1 snapB ⟨bsOf snapB Dk.new ++ u8s bs, syOf snapB Dk.new⟩ Dk.new) (Dk.syncOn snapB) = (lay1 snapB (fl (bsOf snapB Dk.new ++ u8s bs)) Dk.new, 0)) := hap.2
      clear hap
      go_wp2_with fail
      refine hA.mono ?_
      rintro e w7 ⟨rfl, hd7, hk7⟩
      clear hA
      have L7 : Hid (LI w w7 ⟨(g : Nat), so, sn, sc, lo, ln, lc, ta, (oth : Nat)⟩ p q2 (grow F w6 w7) no _ (rdS now bs) 90) := L6.out.disk hd7 (hk7.mono fun b hb => .inl hb)
      clear hd7 hk7
      have hSy := dn_sync snapN L7.out.dn HAP.out (by decide)
      go_wp2_with fail
      refine hSy.mono ?_
      rintro e w8 ⟨rfl, hd8, hk8⟩
      clear hSy
      have L8 : Hid (LI w w8 ⟨(g : Nat), so, sn, sc, lo, ln, lc, ta, (oth : Nat)⟩ p q2 (grow F w6 w7) no (snS (some (u8s bs))) (bst now (some (u8s bs))) 90) := by
        have a := L7.out.same hd8 hk8
        have e1 : bst now (some (u8s bs)) = rdS now bs := by show rdS now (nts (u8s bs)) = _; rw [nts_u8s H5.out.byt]
        rw [e1]
        exact a
      have hOK : Hid (BsOk now g (some (u8s bs))) := by
        show snOk now (nts (u8s bs)) = true ∧ rdG (nts (u8s bs)) = g
        rw [nts_u8s H5.out.byt]
        exact ⟨by unfold snOk; rw [hrd.out.1, hrd.out.2.1]; rfl, hrd.out.2.2.1⟩
      clear hd8 hk8
      go_wp2_with fail
      go_meet
      case rel => exact ⟨q2, some (u8s bs), grow F w6 w7, 90, rfl, L8.out, hOK.out, fun b hb => by cases hb; exact hbl.out, by omega⟩
  case rest =>
  obtain ⟨q, bs, F, N, rfl, HL⟩ := hcut
  rename World => wu
  have hT := fun W (hk : Keeps no w W) => H.out.2.1.keepsN hk
  have b0 := cell_of_blk HL.out.1.bx 0
  have hz : Hid (∀ b, bs = some b → b.length ≤ 8000000000) := HL.out.2.2.1
  clear L2 HBZ
  have hlg := log_any wu (hT _ HL.out.1.dn.kept).pow (g : Int) (by omega) hg2
  go_wp2_with fail
  refine hlg.mono ?_
  rintro e w3 ⟨rfl, hk3⟩
  clear hlg
  have L3 : Hid (LI w w3 ⟨(g : Nat), so, sn, sc, lo, ln, lc, ta, (oth : Nat)⟩ p q F no (lgS bs g []) (bst now bs) N) := HL.out.1.beside hk3
  clear hk3
  have hop := dn_open (rs := []) (logN g) L3.out.dn H.out.2.1.crc (opn_gone (lgS_lz hz.out g [] (by simp [rb_nil])).on (snS_log bs g)) (Nat.le_trans (logN_size (by omega) hg2) (by decide)) (by have := readB_le (logB g) (lgS bs g []); rw [(lgS_bs bs g []).1] at this; exact Nat.le_trans this (by simp [rb_nil]))
  go_wp2_with fail
  refine hop.mono ?_
  rintro e w4 ⟨l, o4, m4, c4, vs4, rfl, hm4, HL4, hS4, D4, K4⟩
  clear hop hS4 hm4
  have L4 : Hid (LI w w4 ⟨(g : Nat), so, sn, sc, lo, ln, lc, ta, (oth : Nat)⟩ p q F (fun b => b = l) (lgS bs g []) (bst now bs) N) := L3.out.fresh D4.out K4.out HL4.out.2.1 (lt_of_block HL4.out.1.blk)
  have hq4 : Hid (w.heap.size ≤ l ∧ ¬ F l) := ⟨by have := L3.out.dn.kept.size; have := HL4.out.2.1; omega, HL4.out.2.2⟩
  have hlL : Hid (IsL w4 l p (logN g) 0) := HL4.out.1
  clear D4 K4 HL4 L3 b0
  go_wp2_with fail
  have hl30 : (ln : Int) ≤ 30 := by have := H.out.1.ln; have := H.out.2.2.2.2.1; simp only at *; omega
  have hrb : Hid (∀ k, (rb (recL (ll.take k))).length ≤ 93240) := fun k => by
    rw [rb_len]
    have := recL_row (ll.take k)
    rw [List.length_take] at this
    have := H.out.2.2.2.2.1
    omega
  go_loopw [18] (fun i wr => ∃ (k : Nat) (Fk : Nat → Prop), k ≤ ln ∧ i = .int .i64 k ∧ Hid (LI w wr ⟨(g : Nat), so, sn, sc, lo, ln, lc, ta, (oth : Nat)⟩ p q Fk (fun b => b = l) (lgS bs g (recL (ll.take k))) (bst now bs) N ∧ IsL wr l p (logN g) (rowb (recL (ll.take k))).length ∧ ¬ Fk l)) (fun i _ => ln - (intOf i).toNat)
  case atStart => exact ⟨0, F, by omega, rfl, L4.out, hlL.out, hq4.out.2⟩
  case round =>
    obtain ⟨k, Fk, hk, rfl, HU⟩ := hrel
    rename World => wq
    have e2 := cell_of_blk HU.out.1.bx 2
    by_cases hlt : k < ln
    · have hlt' : (k : Int) < ln := by omega
      have hkl : k < ll.length := by have := H.out.1.ln; simp only at this; omega
      have hsl : Sl WE wq lo lc ll := H.out.1.l.keepsN HU.out.1.dn.kept
      obtain ⟨b, off, rfl, d0, d1, d2, d3⟩ := hsl.atW hkl
      obtain ⟨x, hx⟩ : ∃ x, x = ll.getD k rw0 := ⟨_, rfl⟩
      rw [← hx] at d0 d1 d2 d3
      have hxm : x ∈ ll := by rw [hx, List.getD_eq_getElem?_getD, List.getElem?_eq_getElem hkl]; exact List.getElem_mem hkl
      have hrec := rec_any wq x (H.out.1.lok x hxm)
      have hsn : Hid (recL (ll.take (k + 1)) = recL (ll.take k) ++ [recS x]) := by
        show _ = _
        rw [← recL_take, ← recL_take, take_succ_getD (recL ll) k c0 (by rw [recL_len]; exact hkl), recL_getD ll k hkl, ← hx]
      clear hsl hkl hx hxm
      go_wp2_with fail
      refine hrec.mono ?_
      rintro e w5 ⟨⟨vk, vi, vop, vnp, vcp, vok, vnk, vck⟩, rfl, HG, K5⟩
      clear hrec
      have L5 : Hid (LI w w5 ⟨(g : Nat), so, sn, sc, some ⟨b, off, none⟩, ln, lc, ta, (oth : Nat)⟩ p q Fk (fun b => b = l) (lgS bs g (recL (ll.take k))) (bst now bs) N) := HU.out.1.beside K5.out
      have hlog := dn_log (k' := (rowb (recL (ll.take (k + 1)))).length) (logN g) ⟨vk, vi, vop, vnp, vcp, vok, vnk, vck⟩ L5.out.dn H.out.2.1.crc (HU.out.2.1.keeps K5.out (fun h => h)) HU.out.2.2 hq4.out.1 HG.out.isC (lgS_apd hz.out hg2 (by have := hrb.out k; omega) (recS_gd x)) (by rw [if_pos rfl, hsn.out, rowb_snoc, List.length_append]) (Nat.le_trans (logN_size (by omega) hg2) (by decide)) (by have := hrb.out k; rw [rb_len] at this; omega) (fun _ => fit_of (by show (bsOf (logB g) _).length + _ ≤ _; rw [(lgS_bs bs g _).1, enc_length]; have := hrb.out k; have := recS_body x; omega))
      simp only at hlog ⊢
      rw [← hsn.out] at hlog
      go_wp2_with fail
      refine hlog.mono ?_
      rintro e w6 ⟨rfl, D6, HL6, K6⟩
      clear hlog
      have hll : Hid (l < w5.heap.size) := lt_of_block (HU.out.2.1.keeps K5.out (fun h => h)).blk
      have L6 : Hid (LI w w6 ⟨(g : Nat), so, sn, sc, some ⟨b, off, none⟩, ln, lc, ta, (oth : Nat)⟩ p q (grow Fk w5 w6) (fun b => b = l) (lgS bs g (recL (ll.take (k + 1)))) (bst now bs) N) := L5.out.disk D6.out K6.out
      go_wp2_with fail
      go_roundw
      case rel => exact ⟨k + 1, grow Fk w5 w6, by omega, by go_num, L6.out, HL6.out, grow_no HU.out.2.2 hll.out⟩
      case measure => simp [intOf] <;> omega
    · have hlt' : ¬ (k : Int) < ln := by omega
      have e : Hid (ll.take k = ll) := List.take_of_length_le (by have := H.out.1.ln; simp only at this; omega)
      have HV : Hid (LI w wq ⟨(g : Nat), so, sn, sc, lo, ln, lc, ta, (oth : Nat)⟩ p q Fk (fun b => b = l) (lgS bs g (recL ll)) (bst now bs) N) := by have := HU.out.1; rw [e.out] at this; exact this
      have hrb' : Hid ((rb (recL ll)).length ≤ 93240) := by have := hrb.out k; rw [e.out] at this; exact this
      clear HU e hrb hlL hq4 L4
      go_wp2_with fail
      have hC := torn_isC wq
      have hbu := build_v _ _ torn hC (hT _ ((HV.out.dn.kept.alloc _).alloc _)).crc
      unfold BuildD at hbu
      rw [torn_gd.encE, torn_gd.encB, torn_len] at hbu
      refine hbu.mono ?_
      rintro e w7 ⟨o7, n7, c7, rfl, hn7, ho7, hnw7, hk7⟩
      have K7 : Hid (Keeps no wq w7) := (((Keeps.refl no wq).alloc _).alloc _).trans hk7.out
      have L7 : Hid (LI w w7 ⟨(g : Nat), so, sn, sc, lo, ln, lc, ta, (oth : Nat)⟩ p q Fk (fun b => b = l) (lgS bs g (recL ll)) (bst now bs) N) := HV.out.beside K7.out
      have hO7 : Hid (Own BU w7 o7 c7 (u8s (enc torn)) ∧ ∀ b, inO o7 b → ¬ Fk b) := by
        refine ⟨own_u8 (enc_byt torn) ho7.out, fun b hb hf => ?_⟩
        have := hnw7.out b hb
        rw [World.size_alloc, World.size_alloc] at this
        have := HV.out.dn.is.lt b hf
        omega
      have en7 : n7 = 49 := hn7.out
      subst en7
      clear hbu hC hn7 ho7 hnw7 hk7 HV
      obtain ⟨tk, htk⟩ : ∃ tk, tk = rst ta 48 := ⟨_, rfl⟩
      have hr := fun W => rest_any ta 48 W H.out.1.tail (by omega)
      rw [← htk] at hr
      change ∀ W, Calls Tryz.prog 17 #[.int .i64 ta, .int .i64 48] W _ at hr
      have htk48 : tk ≤ 48 := by rw [htk]; exact rst_le ta 48
      have HTK : Hid (tk = tornK ta) := htk
      have hcut := cutO o7 49 c7 tk (by have := hO7.out.1.cap.1; rw [u8s_length, torn_len] at this; omega) hO7.out.1.cap.2
      have htk' : (tk : Int) ≤ 48 := by omega
      have hlg := fun X (hX : Keeps no w7 X) => log_any X ((hT _ L7.out.dn.kept).pow.keepsN hX) (g : Int) (by omega) hg2
      have hap := fun X (hX : Keeps no w7 X) => dn_append (logN g) o7 tk c7 ((u8s (enc torn)).take tk) (L7.out.dn.beside hX) (lgS_torn hz.out hg2 (by have := hrb'.out; omega) tk) (Nat.le_trans (logN_size (by omega) hg2) (by decide)) (by rw [List.length_take, u8s_length, torn_len]; omega) (by have a := (hO7.out.1.keepsN hX).sl; exact ⟨a.row.take okU tk, by rw [List.length_take]; have := a.cap; omega, a.nil⟩) hO7.out.2 (by rw [List.length_take, u8s_length, torn_len]; omega) (fit_of (by show (bsOf (logB g) _).length + _ ≤ _; rw [(lgS_bs bs g _).1, List.length_take, u8s_length, torn_len]; have := hrb'.out; omega))
      have HAP : Hid (∀ X, Keeps no w7 X → Calls Tryz.prog 18 #[.pointer (some ⟨p, 0, none⟩), .string (logN g), .slice o7 tk c7] X fun e w' => e = .returned (.int .i64 0) ∧ Dn w w' p (grow Fk X w') (tnS bs g (recL ll) tk) ∧ Keeps Fk X w') := hap
      have HLG : Hid (∀ X, Keeps no w7 X → Calls Tryz.prog 10 #[.int .i64 ((g : Nat) : Int)] X fun e w' => e = .returned (.string (logN g)) ∧ Keeps no X w') := hlg
      have HSX : Hid (∀ X, Keeps Fk w7 X → X.cell? ⟨w.heap.size, 0, none⟩ = some (.int .i64 ((g : Nat) : Int)) ∧ X.cell? ⟨w.heap.size, 3, none⟩ = some (.int .i64 ta)) := fun X hX => ⟨hX.cell (cell_of_blk L7.out.bx 0) L7.out.nb, hX.cell (cell_of_blk L7.out.bx 3) L7.out.nb⟩
      clear htk hap hlg
      generalize hLN : logN g = LN at *
      go_upto_region 24 with fail
      go_cut [140] from 118 to 139 (fun v140 U => v140 = .bool false ∧ ∃ F', Hid (LI w U ⟨(g : Nat), so, sn, sc, lo, ln, lc, ta, (oth : Nat)⟩ p q F' (fun b => b = l) (tnS bs g (recL ll) tk) (bst now bs) N))
      case first =>
        refine wp_region_held_drew (S := (fun X => X.cell? ⟨w.heap.size, 0, none⟩ = some (.int .i64 ((g : Nat) : Int)) ∧ X.cell? ⟨w.heap.size, 3, none⟩ = some (.int .i64 ta))) (by kernel_rfl) ?_ (fun hHeld => ?_)
        · exact HSX.out _ ((Keeps.refl _ _).drew)
        refine wpAnyH_take (i := 0) (v := ?_) (by simp only [List.getElem?_toArray, List.getElem?_cons_succ, List.getElem?_cons_zero]; rfl) (by kernel_rfl) (by kernel_rfl) (by kernel_rfl) (by exact fun _ _ _ h => h) (Or.inl ⟨by rfl, ?_⟩) (by assumption) ?_
        rotate_left
        · (intro _ hSw; (try dsimp only at hSw); go_simp; (try with_reducible rfl))
        try simp only [Act.put, List.setIfInBounds_toArray, List.set_cons_zero, List.set_cons_succ]
        refine wpAnyH_take (i := 1) (v := ?_) (by simp only [List.getElem?_toArray, List.getElem?_cons_succ, List.getElem?_cons_zero]; rfl) (by kernel_rfl) (by kernel_rfl) (by kernel_rfl) (by exact fun _ _ _ h => h) (Or.inl ⟨by rfl, ?_⟩) (by assumption) ?_
        rotate_left
        · (intro _ hSw; (try dsimp only at hSw); go_simp; (try with_reducible rfl))
        try simp only [Act.put, List.setIfInBounds_toArray, List.set_cons_zero, List.set_cons_succ]
        refine wpAnyH_take (i := 2) (v := ?_) (by simp only [List.getElem?_toArray, List.getElem?_cons_succ, List.getElem?_cons_zero]; rfl) (by kernel_rfl) (by kernel_rfl) (by kernel_rfl) (by exact fun _ _ _ h => h) (Or.inl ⟨by rfl, ?_⟩) (by assumption) ?_
        rotate_left
        · (intro _ hSw; (try dsimp only at hSw); go_simp; (try with_reducible rfl))
        try simp only [Act.put, List.setIfInBounds_toArray, List.set_cons_zero, List.set_cons_succ]
        refine wpAnyH_take (i := 3) (v := ?_) (by simp only [List.getElem?_toArray, List.getElem?_cons_succ, List.getElem?_cons_zero]; rfl) (by kernel_rfl) (by kernel_rfl) (by kernel_rfl) (by exact fun _ _ _ h => h) (Or.inl ⟨by rfl, ?_⟩) (by assumption) ?_
        rotate_left
        · (intro _ hSw; (try dsimp only at hSw); go_simp; (try with_reducible rfl))
        try simp only [Act.put, List.setIfInBounds_toArray, List.set_cons_zero, List.set_cons_succ]
        refine wpAnyH_take (i := 4) (v := ?_) (by simp only [List.getElem?_toArray, List.getElem?_cons_succ, List.getElem?_cons_zero]; rfl) (by kernel_rfl) (by kernel_rfl) (by kernel_rfl) (by exact fun _ _ _ h => h) (Or.inl ⟨by rfl, ?_⟩) (by assumption) ?_
        rotate_left
        · (intro _ hSw; (try dsimp only at hSw); go_simp; (try with_reducible rfl))
        try simp only [Act.put, List.setIfInBounds_toArray, List.set_cons_zero, List.set_cons_succ]
        refine wpAnyH_take (i := 5) (v := ?_) (by simp only [List.getElem?_toArray, List.getElem?_cons_succ, List.getElem?_cons_zero]; rfl) (by kernel_rfl) (by kernel_rfl) (by kernel_rfl) (by exact fun _ _ _ h => h) (Or.inl ⟨by rfl, ?_⟩) (by assumption) ?_
        rotate_left
        · (intro _ hSw; (try dsimp only at hSw); go_simp; (try with_reducible rfl))
        try simp only [Act.put, List.setIfInBounds_toArray, List.set_cons_zero, List.set_cons_succ]
        refine wpAnyH_take (i := 6) (v := ?_) (by simp only [List.getElem?_toArray, List.getElem?_cons_succ, List.getElem?_cons_zero]; rfl) (by kernel_rfl) (by kernel_rfl) (by kernel_rfl) (by exact fun _ _ _ h => h) (Or.inl ⟨by rfl, ?_⟩) (by assumption) ?_
        rotate_left
        · (intro _ hSw; (try dsimp only at hSw); go_simp; (try with_reducible rfl))
        try simp only [Act.put, List.setIfInBounds_toArray, List.set_cons_zero, List.set_cons_succ]
        refine wpAnyH_take (i := 7) (v := ?_) (by simp only [List.getElem?_toArray, List.getElem?_cons_succ, List.getElem?_cons_zero]; rfl) (by kernel_rfl) (by kernel_rfl) (by kernel_rfl) (by exact fun _ _ _ h => h) (Or.inl ⟨by rfl, ?_⟩) (by assumption) ?_
        rotate_left
        · (intro _ hSw; (try dsimp only at hSw); go_simp; (try with_reducible rfl))
        try simp only [Act.put, List.setIfInBounds_toArray, List.set_cons_zero, List.set_cons_succ]
        refine wpAnyH_take (i := 8) (v := ?_) (by simp only [List.getElem?_toArray, List.getElem?_cons_succ, List.getElem?_cons_zero]; rfl) (by kernel_rfl) (by kernel_rfl) (by kernel_rfl) (by exact fun _ _ _ h => h) (Or.inl ⟨by rfl, ?_⟩) (by assumption) ?_
        rotate_left
        · (intro _ hSw; (try dsimp only at hSw); go_simp; (try with_reducible rfl))
        try simp only [Act.put, List.setIfInBounds_toArray, List.set_cons_zero, List.set_cons_succ]
        refine wpAnyH_take (i := 9) (v := ?_) (by simp only [List.getElem?_toArray, List.getElem?_cons_succ, List.getElem?_cons_zero]; rfl) (by kernel_rfl) (by kernel_rfl) (by kernel_rfl) (by exact fun _ _ _ h => h) (Or.inl ⟨by rfl, ?_⟩) (by assumption) ?_
        rotate_left
        · (intro _ hSw; (try dsimp only at hSw); go_simp; (try with_reducible rfl))
        try simp only [Act.put, List.setIfInBounds_toArray, List.set_cons_zero, List.set_cons_succ]
        refine wpAnyH_take (i := 10) (v := ?_) (by simp only [List.getElem?_toArray, List.getElem?_cons_succ, List.getElem?_cons_zero]; rfl) (by kernel_rfl) (by kernel_rfl) (by kernel_rfl) (by exact fun _ _ _ h => h) (Or.inl ⟨by rfl, ?_⟩) (by assumption) ?_
        rotate_left
        · (intro _ hSw; (try dsimp only at hSw); go_simp; (try with_reducible rfl))
        try simp only [Act.put, List.setIfInBounds_toArray, List.set_cons_zero, List.set_cons_succ]
        refine wpAnyH_take (i := 12) (v := ?_) (by simp only [List.getElem?_toArray, List.getElem?_cons_succ, List.getElem?_cons_zero]; rfl) (by kernel_rfl) (by kernel_rfl) (by kernel_rfl) (by exact fun _ _ _ h => h) (Or.inl ⟨by rfl, ?_⟩) (by assumption) ?_
        rotate_left
        · (intro _ hSw; (try dsimp only at hSw); go_simp; (try with_reducible rfl))
        try simp only [Act.put, List.setIfInBounds_toArray, List.set_cons_zero, List.set_cons_succ]
        refine wpAnyH_take (i := 13) (v := ?_) (by simp only [List.getElem?_toArray, List.getElem?_cons_succ, List.getElem?_cons_zero]; rfl) (by kernel_rfl) (by kernel_rfl) (by kernel_rfl) (by exact fun _ _ _ h => h) (Or.inl ⟨by rfl, ?_⟩) (by assumption) ?_
        rotate_left
        · (intro _ hSw; (try dsimp only at hSw); go_simp; (try with_reducible rfl))
        try simp only [Act.put, List.setIfInBounds_toArray, List.set_cons_zero, List.set_cons_succ]
        refine wpAnyH_take (i := 14) (v := ?_) (by simp only [List.getElem?_toArray, List.getElem?_cons_succ, List.getElem?_cons_zero]; rfl) (by kernel_rfl) (by kernel_rfl) (by kernel_rfl) (by exact fun _ _ _ h => h) (Or.inl ⟨by rfl, ?_⟩) (by assumption) ?_
        rotate_left
        · (intro _ hSw; (try dsimp only at hSw); go_simp; (try with_reducible rfl))
        try simp only [Act.put, List.setIfInBounds_toArray, List.set_cons_zero, List.set_cons_succ]
        refine wpAnyH_take (i := 15) (v := ?_) (by simp only [List.getElem?_toArray, List.getElem?_cons_succ, List.getElem?_cons_zero]; rfl) (by kernel_rfl) (by kernel_rfl) (by kernel_rfl) (by exact fun _ _ _ h => h) (Or.inl ⟨by rfl, ?_⟩) (by assumption) ?_
        rotate_left
        · (intro _ hSw; (try dsimp only at hSw); go_simp; (try with_reducible rfl))
        try simp only [Act.put, List.setIfInBounds_toArray, List.set_cons_zero, List.set_cons_succ]
        refine wpAnyH_take (i := 16) (v := ?_) (by simp only [List.getElem?_toArray, List.getElem?_cons_succ, List.getElem?_cons_zero]; rfl) (by kernel_rfl) (by kernel_rfl) (by kernel_rfl) (by exact fun _ _ _ h => h) (Or.inl ⟨by rfl, ?_⟩) (by assumption) ?_
        rotate_left
        · (intro _ hSw; (try dsimp only at hSw); go_simp; (try with_reducible rfl))
        try simp only [Act.put, List.setIfInBounds_toArray, List.set_cons_zero, List.set_cons_succ]
        refine wpAnyH_take (i := 17) (v := ?_) (by simp only [List.getElem?_toArray, List.getElem?_cons_succ, List.getElem?_cons_zero]; rfl) (by kernel_rfl) (by kernel_rfl) (by kernel_rfl) (by exact fun _ _ _ h => h) (Or.inl ⟨by rfl, ?_⟩) (by assumption) ?_
        rotate_left
        · (intro _ hSw; (try dsimp only at hSw); go_simp; (try with_reducible rfl))
        try simp only [Act.put, List.setIfInBounds_toArray, List.set_cons_zero, List.set_cons_succ]
        have HC : Hid (Keeps no w7 w7.drew) := (Keeps.refl no _).drew
        generalize w7.drew = z0 at HC ⊢
        refine wpAnyH_ready (rs := [11]) (by kernel_rfl) (by simp) ?_
        refine AllReadyH.cons (by simp only [List.getElem?_toArray, List.getElem?_cons_succ, List.getElem?_cons_zero]; rfl) (fun Kq hKq => ?_) AllReadyH.nil
        (go_simp; refine (HLG.out _ HC.out).mono ?_; rintro e w8 ⟨rfl, hk8⟩; have K8 : Hid (Keeps no w7 w8) := HC.out.trans hk8; clear hk8)
        refine hKq.out _ _ ?_ (fun hHeldN => ?_)
        · exact HSX.out _ K8.out.of_no
        clear hKq Kq hHeld
        have hHeld := hHeldN
        clear hHeldN
        refine wpAnyH_ready (rs := [18]) (by kernel_rfl) (by simp) ?_
        refine AllReadyH.cons (by simp only [List.getElem?_toArray, List.getElem?_cons_succ, List.getElem?_cons_zero]; rfl) (fun Kq hKq => ?_) AllReadyH.nil
        (go_simp; refine (hr _).mono ?_; rintro e w1x ⟨rfl, hw1x⟩; subst w1x)
        refine hKq.out _ _ ?_ (fun hHeldN => ?_)
        · exact HSX.out _ K8.out.of_no
        clear hKq Kq hHeld
        have hHeld := hHeldN
        clear hHeldN
        refine wpAnyH_take (i := 19) (v := ?_) (by simp only [List.getElem?_toArray, List.getElem?_cons_succ, List.getElem?_cons_zero]; rfl) (by kernel_rfl) (by kernel_rfl) (by kernel_rfl) (by exact fun _ _ _ h => h) (Or.inl ⟨by rfl, ?_⟩) (by assumption) ?_
        rotate_left
        · (intro _ hSw; (try dsimp only at hSw); go_simp; (try with_reducible rfl))
        try simp only [Act.put, List.setIfInBounds_toArray, List.set_cons_zero, List.set_cons_succ]
        refine wpAnyH_ready (rs := [20]) (by kernel_rfl) (by simp) ?_
        refine AllReadyH.cons (by simp only [List.getElem?_toArray, List.getElem?_cons_succ, List.getElem?_cons_zero]; rfl) (fun Kq hKq => ?_) AllReadyH.nil
        (go_simp; refine (HAP.out _ K8.out).mono ?_; rintro e w9 ⟨rfl, hd9, hk9⟩; have L9 : Hid (LI w w9 ⟨(g : Nat), so, sn, sc, lo, ln, lc, ta, (oth : Nat)⟩ p q (grow Fk w8 w9) (fun b => b = l) (tnS bs g (recL ll) tk) (bst now bs) N) := (L7.out.beside K8.out).disk hd9 (hk9.mono fun b hb => .inl hb); have K9 : Hid (Keeps Fk w7 w9) := K8.out.of_no.trans hk9; clear hd9 hk9)
        refine hKq.out _ _ ?_ (fun hHeldN => ?_)
        · exact HSX.out _ K9.out
        clear hKq Kq hHeld
        have hHeld := hHeldN
        clear hHeldN
        refine wpAnyH_take (i := 21) (v := ?_) (by simp only [List.getElem?_toArray, List.getElem?_cons_succ, List.getElem?_cons_zero]; rfl) (by kernel_rfl) (by kernel_rfl) (by kernel_rfl) (by exact fun _ _ _ h => h) (Or.inl ⟨by rfl, ?_⟩) (by assumption) ?_
        rotate_left
        · (intro _ hSw; (try dsimp only at hSw); go_simp; (try with_reducible rfl))
        try simp only [Act.put, List.setIfInBounds_toArray, List.set_cons_zero, List.set_cons_succ]
        refine wpAnyH_take (i := 22) (v := ?_) (by simp only [List.getElem?_toArray, List.getElem?_cons_succ, List.getElem?_cons_zero]; rfl) (by kernel_rfl) (by kernel_rfl) (by kernel_rfl) (by exact fun _ _ _ h => h) (Or.inl ⟨by rfl, ?_⟩) (by assumption) ?_
        rotate_left
        · (intro _ hSw; (try dsimp only at hSw); go_simp; (try with_reducible rfl))
        try simp only [Act.put, List.setIfInBounds_toArray, List.set_cons_zero, List.set_cons_succ]
        refine wpAnyH_done (by kernel_rfl) ?_ _
        clear hHeld
        go_wp2_with fail
        go_meet
        case rel => exact ⟨rfl, _, L9⟩
      case rest =>
      obtain ⟨rfl, F9, L9⟩ := hcut
      rename World => wz
      have hLz : Hid (∀ i, i ≤ 8 → Lz (2 + i) (otS (tnS bs g (recL ll) tk) i)) := fun i hi => otS_lz (tnS_lz hz.out g (recL ll) (by have := hrb'.out; omega) tk) i hi
      clear HAP HLG HSX hO7 L7 K7 hr htk'
      go_wp2_with fail
      go_loopw [21] (fun i wr => ∃ (k : Nat) (Fk : Nat → Prop), k ≤ oth ∧ i = .int .i64 k ∧ Hid (LI w wr ⟨(g : Nat), so, sn, sc, lo, ln, lc, ta, (oth : Nat)⟩ p q Fk (fun b => b = l) (otS (tnS bs g (recL ll) tk) k) (bst now bs) N)) (fun i _ => oth - (intOf i).toNat)
      case atStart => exact ⟨0, F9, by omega, rfl, L9.out⟩
      case round =>
        obtain ⟨k, Fk, hk, rfl, HU⟩ := hrel
        rename World => wq
        have e4 := cell_of_blk HU.out.bx 4
        by_cases hlt : k < oth
        · have hlt' : (k : Int) < oth := by omega
          have hlt8 : (k : Int) < 8 := by have := H.out.2.2.2.2.2; omega
          have hk8 : k < 8 := by omega
          have hz8 := hLz.out k (by omega)
          have hap := app_sync (s := (otS (tnS bs g (recL ll) tk) k)) (n := othB k) (b := [1, 2]) hz8.on hz8.ref hz8.inc (oth_good k hk8) (hz8.room (by omega) _)
          obtain ⟨W, hW⟩ : ∃ W, W = (wq.alloc (.cells oths 9)).alloc (.cells (lit [1, 2]) 5) := ⟨_, rfl⟩
          have KW : Hid (Keeps no wq W) := by rw [hW]; exact ((Keeps.refl no wq).alloc _).alloc _
          have hsl : Sl BU W (some ⟨wq.heap.size + 1, 0, none⟩) 2 [1, 2] := by
            have := lit_sl (wq.alloc (.cells oths 9)) [1, 2] 2 (0, 0) (by simp)
            rw [World.size_alloc] at this
            rw [hW]; exact this
          have hbs := hz8.bs (oth_snap k hk8)
          have hA := dn_append (othN k) (some ⟨wq.heap.size + 1, 0, none⟩) 2 2 [1, 2] (HU.out.dn.beside KW.out) hap.1 (oth_size k hk8) rfl hsl (fun b hb hf => by have := HU.out.dn.is.lt b hf; obtain ⟨x, hx, rfl⟩ := hb; cases hx; simp only at this; omega) (by simp) (fit_of (by show (bsOf (othB k) _).length + _ ≤ _; simp only [List.length_cons, List.length_nil]; omega))
          have HAP : Hid (Calls Tryz.prog 18 _ W _) := hA
          have HSY : Hid (Dk.counted (lay1 (othB k) ⟨bsOf (othB k) (otS (tnS bs g (recL ll) tk) k) ++ [1, 2], syOf (othB k) (otS (tnS bs g (recL ll) tk) k)⟩ (otS (tnS bs g (recL ll) tk) k)) (Dk.syncOn (othB k)) = (otS (tnS bs g (recL ll) tk) (k + 1), 0)) := hap.2
          have LW : Hid (LI w W ⟨(g : Nat), so, sn, sc, lo, ln, lc, ta, (oth : Nat)⟩ p q Fk (fun b => b = l) (otS (tnS bs g (recL ll) tk) k) (bst now bs) N) := HU.out.beside KW.out
          clear hA hap hbs hsl hz8
          go_wp2_with fail
          simp only [oth_at]
          rw [hW] at HAP
          refine Calls.mono HAP.out ?_
          rintro e w8 ⟨rfl, hd8, hk8'⟩
          rw [← hW] at hd8 hk8'
          clear hW HAP
          have L8 : Hid (LI w w8 ⟨(g : Nat), so, sn, sc, lo, ln, lc, ta, (oth : Nat)⟩ p q (grow Fk W w8) (fun b => b = l) _ (bst now bs) N) := LW.out.disk hd8 (hk8'.mono fun b hb => .inl hb)
          clear hd8 hk8'
          have hSy := dn_sync (othN k) L8.out.dn HSY.out (oth_size k hk8)
          go_wp2_with fail
          refine hSy.mono ?_
          rintro e w9 ⟨rfl, hd9, hk9⟩
          clear hSy
          have L9' : Hid (LI w w9 ⟨(g : Nat), so, sn, sc, lo, ln, lc, ta, (oth : Nat)⟩ p q (grow Fk W w8) (fun b => b = l) (otS (tnS bs g (recL ll) tk) (k + 1)) (bst now bs) N) := L8.out.same hd9 hk9
          go_wp2_with fail
          go_roundw
          case rel => exact ⟨k + 1, _, by omega, by go_num, L9'.out⟩
          case measure => simp [intOf] <;> omega
        · have hlt' : ¬ (k : Int) < oth := by omega
          have ek : k = oth := by omega
          subst ek
          have e2 := cell_of_blk HU.out.bx 2
          have hdn := done_any HU.out.st lo ln lc ll H.out.1.ln (by have := H.out.1.ln; have := H.out.2.2.2.2.1; simp only at *; omega) (H.out.1.l.keepsN HU.out.dn.kept) H.out.1.lok (fun b hb => .inl (H.out.1.llt b hb)) now H.out.2.2.1 (by have := HL.out.2.2.2; omega)
          go_wp2_with fail
          refine hdn.mono ?_
          rintro e w8 ⟨rfl, H8⟩
          clear hdn
          have HF : Hid (∃ F bs N, Dn w w8 p F (otS (tnS bs g (recL ll) tk) k) ∧ BsOk now g bs ∧ (∀ b, bs = some b → b.length ≤ 8000000000) ∧ Sto w.heap.size w8 q (redoS now (bst now bs) (recL ll)) N F ∧ N ≤ 500000000) := by
            refine ⟨Fk, bs, N + 3 * ln, ⟨HU.out.dn.is.keeps H8.out.2 (fun b hb hn => hn.2 (.inl hb)), HU.out.dn.new, HU.out.dn.kept.then H8.out.2 (fun b hb => .inr hb.1)⟩, HL.out.2.1, hz.out, H8.out.1.sub (fun b hb => .inl hb), ?_⟩
            have := HL.out.2.2.2
            omega
          rw [HTK.out] at HF
          go_wp2_with fail
          go_ret3
          exact ⟨p, q, rfl, HF.out⟩
end Go.Proofs.YtoijeipoblnliaaGreatDoor

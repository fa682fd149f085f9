import Derived.Test.YtdemoghlibnooaaGreatDoorZT
/- A disk, what was logged ever, a store and its log, side by side. -/
namespace Go.Proofs.YtdemoghlibnooaaGreatDoor
open Go.RowKit Go.Maps Go.Sort Orl Pk
set_option linter.unusedVariables false
set_option linter.unusedSimpArgs false

/-- a store whose blocks are among A -/
def Stx (w0 W : World) (q : Nat) (s : St) (N : Nat) (A : Nat → Prop) : Prop := Sto w0.heap.size W q s N (fun b => b < W.heap.size ∧ ¬ A b) ∧ ∀ b, A b → w0.heap.size ≤ b ∧ b < W.heap.size
section
variable {w0 W W' : World} {q : Nat} {s : St} {N : Nat} {A : Nat → Prop}
/-- something else happens -/
theorem Stx.other (h : Stx w0 W q s N A) {S : Nat → Prop} (hk : Keeps S W W') (hS : ∀ b, S b → b < W.heap.size → ¬ A b) : Stx w0 W' q s N A := by
  refine ⟨(h.1.other hk.lowZ (fun b hb => .inr ⟨hb.2, hS b hb.1 hb.2⟩)).sub (fun b hb => ?_), fun b hb => ⟨(h.2 b hb).1, Nat.lt_of_lt_of_le (h.2 b hb).2 hk.size⟩⟩
  rcases Nat.lt_or_ge b W.heap.size with h1 | h1
  · exact .inl ⟨h1, hb.2⟩
  · exact .inr ⟨h1, hb.1⟩
theorem Stx.keepsN (h : Stx w0 W q s N A) (hk : Keeps no W W') : Stx w0 W' q s N A := h.other hk (fun b hb => hb.elim)
/-- a call of its own -/
theorem Stx.own (h : Stx w0 W q s N A) {s' : St} {N' : Nat} (h' : Sto w0.heap.size W' q s' N' (fun b => b < W.heap.size ∧ ¬ A b)) (hk : Keeps (fun b => w0.heap.size ≤ b ∧ ¬ (b < W.heap.size ∧ ¬ A b)) W W') : Stx w0 W' q s' N' (grow A W W') ∧ Keeps A W W' := by
  refine ⟨⟨h'.sub (fun b hb => ?_), fun b hb => ?_⟩, hk.lowZ.mono (fun b hb => ?_)⟩
  · rcases Nat.lt_or_ge b W.heap.size with h1 | h1
    · exact ⟨h1, fun ha => hb.2 (.inl ha)⟩
    · exact absurd (.inr ⟨h1, hb.1⟩) hb.2
  · rcases hb with h1 | h1
    · exact ⟨(h.2 b h1).1, Nat.lt_of_lt_of_le (h.2 b h1).2 hk.size⟩
    · exact ⟨Nat.le_trans h.1.le h1.1, h1.2⟩
  · exact Classical.byContradiction fun hn => hb.1.2 ⟨hb.2, hn⟩
end
/-- a store that was made between two worlds -/
theorem stx_new {w0 w w' : World} {q l : Nat} {s : St} {N : Nat} (h : Sto w.heap.size w' q s N (fun b => b = l)) (hw : w0.heap.size ≤ w.heap.size) : Stx w0 w' q s N (fun b => w.heap.size ≤ b ∧ b < w'.heap.size ∧ b ≠ l) := by
  refine ⟨?_, fun b hb => ⟨Nat.le_trans hw hb.1, hb.2.1⟩⟩
  obtain ⟨T, hi, ho, hB, hP⟩ := h
  refine ⟨T, hi, ho, fun b hb => Nat.le_trans hw (hB b hb), fun b hb => ⟨?_, hb.1⟩⟩
  rcases Nat.lt_or_ge b w.heap.size with h1 | h1
  · cases hT : T b with
    | none => rfl
    | some r => have := hB b (by rw [hT]; simp); omega
  · by_cases e : b = l
    · exact (hP b e).1
    · exact absurd ⟨h1, hb.1, e⟩ hb.2
theorem Dn.aside {w0 w w' : World} {p : Nat} {F S : Nat → Prop} {s : Dk.St} (h : Dn w0 w p F s) (hk : Keeps S w w') (hF : ∀ k, F k → ¬ S k) (hS : ∀ k, S k → w0.heap.size ≤ k) : Dn w0 w' p F s := ⟨h.is.keeps hk hF, h.new, h.kept.then hk (fun i hi => .inr (hS i hi))⟩
/-- the disk, and all that was logged -/
structure Obs (w0 W : World) (p : Nat) (F : Nat → Prop) (t : Dk.St) (qa : Nat) (Sa : St) (Na : Nat) (A : Nat → Prop) : Prop where
  dn : Dn w0 W p F t
  all : Stx w0 W qa Sa Na A
  fa : ∀ b, F b → ¬ A b
section
variable {w0 W W' : World} {p : Nat} {F : Nat → Prop} {t : Dk.St} {qa : Nat} {Sa : St} {Na : Nat} {A : Nat → Prop}
theorem Obs.keepsN (h : Obs w0 W p F t qa Sa Na A) (hk : Keeps no W W') : Obs w0 W' p F t qa Sa Na A := ⟨h.dn.beside hk, h.all.keepsN hk, h.fa⟩
/-- a call of the disk -/
theorem Obs.disk (h : Obs w0 W p F t qa Sa Na A) {F' : Nat → Prop} {t' : Dk.St} (hd : Dn w0 W' p F' t') (hF : ∀ k, F' k → F k ∨ (W.heap.size ≤ k ∧ k < W'.heap.size)) (hk : Keeps F W W') : Obs w0 W' p F' t' qa Sa Na A :=
  ⟨hd, h.all.other hk (fun b hb _ => h.fa b hb), fun b hb ha => by
    rcases hF b hb with h1 | h1
    · exact h.fa b h1 ha
    · have := (h.all.2 b ha).2; omega⟩
theorem Obs.disk1 (h : Obs w0 W p F t qa Sa Na A) {t' : Dk.St} (hd : Dn w0 W' p F t') (hk : Keeps F W W') : Obs w0 W' p F t' qa Sa Na A := h.disk hd (fun k hk => .inl hk) hk
end
/-- and a store, with its log -/
structure Two (w0 W : World) (p : Nat) (F : Nat → Prop) (t : Dk.St) (qa : Nat) (Sa : St) (Na : Nat) (A : Nat → Prop) (q : Nat) (S : St) (N : Nat) (C : Nat → Prop) : Prop where
  ob : Obs w0 W p F t qa Sa Na A
  st : Stx w0 W q S N C
  fc : ∀ b, F b → ¬ C b
  ac : ∀ b, A b → ¬ C b
/-- a log's block lies apart -/
structure Lo (w0 W : World) (l p : Nat) (n : Tx) (k : Nat) (F A C : Nat → Prop) : Prop where
  lg : IsL W l p n k
  ge : w0.heap.size ≤ l
  f : ¬ F l
  a : ¬ A l
  c : ¬ C l
section
variable {w0 W W' : World} {p : Nat} {F : Nat → Prop} {t : Dk.St} {qa : Nat} {Sa : St} {Na : Nat} {A : Nat → Prop} {q : Nat} {S : St} {N : Nat} {C : Nat → Prop} {l : Nat} {n : Tx} {k : Nat}
theorem Lo.lt (h : Lo w0 W l p n k F A C) : l < W.heap.size := lt_of_block h.lg.blk
theorem Lo.keepsN (h : Lo w0 W l p n k F A C) (hk : Keeps no W W') : Lo w0 W' l p n k F A C := ⟨h.lg.keeps hk (fun h => h), h.ge, h.f, h.a, h.c⟩
theorem Lo.growF (h : Lo w0 W l p n k F A C) {F' : Nat → Prop} (hF : ∀ k, F' k → F k ∨ (W.heap.size ≤ k ∧ k < W'.heap.size)) (hk : Keeps F W W') : Lo w0 W' l p n k F' A C :=
  ⟨h.lg.keeps hk h.f, h.ge, fun hf => by rcases hF l hf with h1 | h1; exact h.f h1; have := h.lt; omega, h.a, h.c⟩
theorem Lo.growA (h : Lo w0 W l p n k F A C) (hk : Keeps A W W') : Lo w0 W' l p n k F (grow A W W') C := ⟨h.lg.keeps hk h.a, h.ge, h.f, fun ha => by rcases ha with h1 | h1; exact h.a h1; have := h.lt; omega, h.c⟩
theorem Lo.growC (h : Lo w0 W l p n k F A C) (hk : Keeps C W W') : Lo w0 W' l p n k F A (grow C W W') := ⟨h.lg.keeps hk h.c, h.ge, h.f, h.a, fun hc => by rcases hc with h1 | h1; exact h.c h1; have := h.lt; omega⟩
theorem Two.keepsN (h : Two w0 W p F t qa Sa Na A q S N C) (hk : Keeps no W W') : Two w0 W' p F t qa Sa Na A q S N C := ⟨h.ob.keepsN hk, h.st.keepsN hk, h.fc, h.ac⟩
theorem Two.disk (h : Two w0 W p F t qa Sa Na A q S N C) {F' : Nat → Prop} {t' : Dk.St} (hd : Dn w0 W' p F' t') (hF : ∀ k, F' k → F k ∨ (W.heap.size ≤ k ∧ k < W'.heap.size)) (hk : Keeps F W W') : Two w0 W' p F' t' qa Sa Na A q S N C :=
  ⟨h.ob.disk hd hF hk, h.st.other hk (fun b hb _ => h.fc b hb), fun b hb hc => by
    rcases hF b hb with h1 | h1
    · exact h.fc b h1 hc
    · have := (h.st.2 b hc).2; omega, h.ac⟩
theorem Two.disk1 (h : Two w0 W p F t qa Sa Na A q S N C) {t' : Dk.St} (hd : Dn w0 W' p F t') (hk : Keeps F W W') : Two w0 W' p F t' qa Sa Na A q S N C := h.disk hd (fun k hk => .inl hk) hk
/-- the log's call: the disk's blocks and the log's -/
theorem Two.log (h : Two w0 W p F t qa Sa Na A q S N C) (hl : Lo w0 W l p n k F A C) {t' : Dk.St} {k' : Nat} (hd : Dn w0 W' p (grow F W W') t') (hL : IsL W' l p n k') (hk : Keeps (fun x => F x ∨ x = l) W W') : Two w0 W' p (grow F W W') t' qa Sa Na A q S N C ∧ Lo w0 W' l p n k' (grow F W W') A C := by
  refine ⟨⟨⟨hd, h.ob.all.other hk (fun b hb _ => ?_), fun b hb ha => ?_⟩, h.st.other hk (fun b hb _ => ?_), fun b hb hc => ?_, h.ac⟩, ⟨hL, hl.ge, fun hf => ?_, hl.a, hl.c⟩⟩
  · rcases hb with h1 | h1
    · exact h.ob.fa b h1
    · rw [h1]; exact hl.a
  · rcases hb with h1 | h1
    · exact h.ob.fa b h1 ha
    · have := (h.ob.all.2 b ha).2; omega
  · rcases hb with h1 | h1
    · exact h.fc b h1
    · rw [h1]; exact hl.c
  · rcases hb with h1 | h1
    · exact h.fc b h1 hc
    · have := (h.st.2 b hc).2; omega
  · rcases hf with h1 | h1
    · exact hl.f h1
    · have := hl.lt; omega
/-- the store's call -/
theorem Two.sto (h : Two w0 W p F t qa Sa Na A q S N C) {S' : St} {N' : Nat} (h' : Sto w0.heap.size W' q S' N' (fun b => b < W.heap.size ∧ ¬ C b)) (hk : Keeps (fun b => w0.heap.size ≤ b ∧ ¬ (b < W.heap.size ∧ ¬ C b)) W W') : Two w0 W' p F t qa Sa Na A q S' N' (grow C W W') ∧ Keeps C W W' := by
  obtain ⟨a, b⟩ := h.st.own h' hk
  refine ⟨⟨⟨h.ob.dn.aside b h.fc (fun x hx => (h.st.2 x hx).1), h.ob.all.other b (fun x hx _ ha => h.ac x ha hx), h.ob.fa⟩, a, fun x hx hc => ?_, fun x hx hc => ?_⟩, b⟩
  · rcases hc with h1 | h1
    · exact h.fc x hx h1
    · have := h.ob.dn.is.lt x hx; omega
  · rcases hc with h1 | h1
    · exact h.ac x hx h1
    · have := (h.ob.all.2 x hx).2; omega
/-- the other store's call -/
theorem Two.alls (h : Two w0 W p F t qa Sa Na A q S N C) {S' : St} {N' : Nat} (h' : Sto w0.heap.size W' qa S' N' (fun b => b < W.heap.size ∧ ¬ A b)) (hk : Keeps (fun b => w0.heap.size ≤ b ∧ ¬ (b < W.heap.size ∧ ¬ A b)) W W') : Two w0 W' p F t qa S' N' (grow A W W') q S N C ∧ Keeps A W W' := by
  obtain ⟨a, b⟩ := h.ob.all.own h' hk
  refine ⟨⟨⟨h.ob.dn.aside b h.ob.fa (fun x hx => (h.ob.all.2 x hx).1), a, fun x hx hc => ?_⟩, h.st.other b (fun x hx _ hc => h.ac x hx hc), h.fc, fun x hx hc => ?_⟩, b⟩
  · rcases hc with h1 | h1
    · exact h.ob.fa x hx h1
    · have := h.ob.dn.is.lt x hx; omega
  · rcases hx with h1 | h1
    · exact h.ac x h1 hc
    · have := (h.st.2 x hc).2; omega
end
/-- what 'logged' leaves -/
structure Lgd (w0 w' : World) (p : Nat) (t' : Dk.St) (qa : Nat) (Sa : St) (Na : Nat) (A : Nat → Prop) (q : Nat) (S' : St) (N' : Nat) (l : Nat) (n : Tx) (k' : Nat) (F' C' : Nat → Prop) : Prop where
  two : Two w0 w' p F' t' qa Sa Na A q S' N' C'
  lo : Lo w0 w' l p n k' F' A C'
set_option maxRecDepth 10000 in
theorem logged_any {w0 W : World} {p : Nat} {F : Nat → Prop} {t t' : Dk.St} {qa : Nat} {Sa : St} {Na : Nat} {A : Nat → Prop} {q : Nat} {S : St} {N : Nat} {C : Nat → Prop} {l : Nat} {n : Tx} {k : Nat} (h : Two w0 W p F t qa Sa Na A q S N C) (hl : Lo w0 W l p n k F A C) (ht : Tabs w0) (v : CV) (r : Rec) (hc : IsC W v r) (hv : ∀ b, inO v.op b ∨ inO v.ok b → ¬ F b ∧ b ≠ l) (hg : Gd r) (hp : r.pairs.length ≤ 6) (hA : apd n.data.toList r t = (t', 0)) (hn : n.size ≤ 30) (hk : k ≤ 1000000000) (hz : (bsOf n.data.toList t).length ≤ 1000000000) (hN : N ≤ 800000000) :
    Calls Tryz.prog 16 #[.pointer (some ⟨l, 0, none⟩), .pointer (some ⟨q, 0, none⟩), .agg #[.int .i64 v.k, .int .u64 (v.i : Nat), .slice v.op v.np v.cp, .slice v.ok v.nk v.ck]] W fun e w' => e = .returned (.bool true) ∧ Hid (∃ F' C', Lgd w0 w' p t' qa Sa Na A q (doRec 0 S r) (N + r.pairs.length) l n (k + (enc r).length) F' C' ∧ Keeps (fun b => F b ∨ b = l ∨ C b) W w') := by
  obtain ⟨vk, vi, vop, vnp, vcp, vok, vnk, vck⟩ := v
  simp only at hv ⊢
  obtain ⟨W1, hW1⟩ : ∃ W1, W1 = W.alloc (.cells #[.int .i64 vk, .int .u64 (vi : Nat), .slice vop vnp vcp, .slice vok vnk vck] 47) := ⟨_, rfl⟩
  have K1 : Hid (Keeps no W W1) := by rw [hW1]; exact (Keeps.refl no _).alloc _
  have B1 : Hid (W1.heap[W.heap.size]? = some (.cells #[.int .i64 vk, .int .u64 (vi : Nat), .slice vop vnp vcp, .slice vok vnk vck] 47 (0, 0))) := by rw [hW1]; exact blk_new W _
  have H1 : Hid (Two w0 W1 p F t qa Sa Na A q S N C ∧ Lo w0 W1 l p n k F A C ∧ IsC W1 ⟨vk, vi, vop, vnp, vcp, vok, vnk, vck⟩ r) := ⟨h.keepsN K1.out, hl.keepsN K1.out, hc.keepsN K1.out⟩
  have hap := dn_log n ⟨vk, vi, vop, vnp, vcp, vok, vnk, vck⟩ H1.out.1.ob.dn ht.crc H1.out.2.1.lg H1.out.2.1.f H1.out.2.1.ge H1.out.2.2 hA (if_pos rfl) (by unfold maxLen; omega) (by omega) (fun _ f hf => by
    have h1 := fit_of (n := n.data.toList) (s := t) (m := (enc r).length) (B := 140737488355328) (by have := hg.enc_len; omega) f hf
    exact h1)
  have HAP : Hid (Calls Tryz.prog 57 #[.pointer (some ⟨l, 0, none⟩), .agg #[.int .i64 vk, .int .u64 (vi : Nat), .slice vop vnp vcp, .slice vok vnk vck]] W1 (DLogTo w0 W1 l p F t' 0 n (k + (enc r).length))) := hap
  have HV : Hid ((∀ b, inO vop b ∨ inO vok b → ¬ F b ∧ b ≠ l) ∧ Gd r ∧ r.pairs.length ≤ 6 ∧ N ≤ 800000000 ∧ W.heap.size ≤ W1.heap.size ∧ F W.heap.size = False) := ⟨hv, hg, hp, hN, K1.out.size, eq_false (fun hf => by have := h.ob.dn.is.lt _ hf; omega)⟩
  have hlW : Hid (l ≠ W.heap.size) := fun e => by have := hl.lt; omega
  clear hap h hl hc hv hg hp hA hk hz hN hn
  have x0 := cell_of_blk B1.out 0
  have x1 := cell_of_blk B1.out 1
  have x2 := cell_of_blk B1.out 2
  have x3 := cell_of_blk B1.out 3
  go_enter Tryz.func16, Tryz.ntmps16
  go_wp2_with fail
  rw [← hW1]
  refine Calls.mono HAP.out ?_
  rintro e w2 ⟨rfl, D2, L2, K2⟩
  clear HAP hW1 x0 x1 x2 x3
  have H2 : Hid (Two w0 w2 p (grow F W1 w2) t' qa Sa Na A q S N C ∧ Lo w0 w2 l p n (k + (enc r).length) (grow F W1 w2) A C) := H1.out.1.log H1.out.2.1 D2.out L2.out K2.out
  have hne : Hid (¬ (F W.heap.size ∨ W.heap.size = l)) := fun hx => by
    rcases hx with hx | hx
    · rw [HV.out.2.2.2.2.2] at hx; exact hx
    · exact hlW.out hx.symm
  have B2 : Hid (w2.heap[W.heap.size]? = some (.cells #[.int .i64 vk, .int .u64 (vi : Nat), .slice vop vnp vcp, .slice vok vnk vck] 47 (0, 0))) := K2.out.at B1.out hne.out
  have C2 : Hid (IsC w2 ⟨vk, vi, vop, vnp, vcp, vok, vnk, vck⟩ r) := by
    have hc := H1.out.2.2
    refine ⟨hc.k, hc.i, hc.np, hc.nk, hc.prs.keeps K2.out (fun b hb hs => ?_), hc.kys.keeps K2.out (fun b hb hs => ?_), hc.fit⟩
    · have := HV.out.1 b (.inl hb)
      rcases hs with h1 | h1
      · exact this.1 h1
      · exact this.2 h1
    · have := HV.out.1 b (.inr hb)
      rcases hs with h1 | h1
      · exact this.1 h1
      · exact this.2 h1
  have hS2 : Hid (Keeps (fun b => F b ∨ b = l ∨ C b) W w2) := K1.out.of_no.trans (K2.out.mono (fun b hb => by rcases hb with h1 | h1; exact .inl h1; exact .inr (.inl h1)))
  have htk := take_any H2.out.1.st.1 ⟨vk, vi, vop, vnp, vcp, vok, vnk, vck⟩ r C2.out HV.out.2.1.may HV.out.2.1.id HV.out.2.2.1 HV.out.2.2.2.1
  have HTK : Hid (Calls Tryz.prog 17 #[.pointer (some ⟨q, 0, none⟩), .agg #[.int .i64 vk, .int .u64 (vi : Nat), .slice vop vnp vcp, .slice vok vnk vck]] w2 (TakeTo w0.heap.size w2 q (doRec 0 S r) (N + r.pairs.length) (fun b => b < w2.heap.size ∧ ¬ C b))) := htk
  have x0 := cell_of_blk B2.out 0
  have x1 := cell_of_blk B2.out 1
  have x2 := cell_of_blk B2.out 2
  have x3 := cell_of_blk B2.out 3
  clear htk H1 D2 L2 K2 B1 K1
  go_wp2_with fail
  refine Calls.mono HTK.out ?_
  rintro e w3 ⟨rfl, H3⟩
  clear HTK x0 x1 x2 x3
  go_wp2_with fail
  go_ret
  obtain ⟨a, b⟩ := H2.out.1.sto H3.out.1 H3.out.2
  exact ⟨rfl, _, _, ⟨a, H2.out.2.growC b⟩, hS2.out.trans (b.mono (fun b hb => .inr (.inr hb)))⟩
end Go.Proofs.YtdemoghlibnooaaGreatDoor

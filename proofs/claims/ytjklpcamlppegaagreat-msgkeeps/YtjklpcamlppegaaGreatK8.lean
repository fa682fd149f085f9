import Derived.Test.YtjklpcamlppegaaGreatK3
import Derived.Test.YtjklpcamlppegaaGreatK5
/- MsgKeeps: what its loops hold: lists told and their copies. -/
namespace Go.Proofs.YtjklpcamlppegaaGreat
open Go.RowKit Go.Sort Orl Pk
set_option linter.unusedVariables false
set_option linter.unusedSimpArgs false

def Far (o o' : Option Addr) : Prop := ∀ k, inO o k → ¬ inO o' k
theorem Far.symm {o o' : Option Addr} (h : Far o o') : Far o' o := fun k h1 h2 => h k h2 h1
theorem far_nil (o : Option Addr) : Far none o := fun k ⟨x, e, _⟩ => by cases e
theorem far_lt {o o' : Option Addr} {v : Nat} (h : ∀ k, inO o k → k < v) (h' : ∀ k, inO o' k → v ≤ k) : Far o o' := fun k h1 h2 => by have := h k h1; have := h' k h2; omega
theorem apK_keeps {W w' : World} {oa o' : Option Addr} (h : Ap W oa o' w') : Keeps (inO oa) W w' := by
  rcases h with ⟨_, hk⟩ | ⟨_, hk⟩
  · exact hk
  · exact hk.of_no
theorem apK_far {W w' : World} {oa o' p : Option Addr} (h : Ap W oa o' w') (hf : Far oa p) (hp : ∀ k, inO p k → k < W.heap.size) : Far o' p := by
  rcases h with ⟨rfl, _⟩ | ⟨⟨g, rfl, hg⟩, _⟩
  · exact hf
  · exact (far_lt hp (fun k hk => by obtain ⟨x, e, rfl⟩ := hk; cases e; exact hg)).symm
/-- lists, each by itself -/
structure Els {α : Type} (E : El α) (w0 : World) (L : List (LS α)) (wr : World) : Prop where
  each : ∀ s ∈ L, Own E wr s.o s.c s.xs
  new : ∀ s ∈ L, New w0 s.o
  far : L.Pairwise (fun x y => Far x.o y.o)
variable {α : Type} {E : El α} {X : El (LS α)}
theorem els_nil (w0 wr : World) : Els E w0 [] wr := ⟨fun s hs => (by cases hs), fun s hs => (by cases hs), List.Pairwise.nil⟩
theorem Els.keeps {w0 : World} {L : List (LS α)} {wr w' : World} (h : Els E w0 L wr) {S : Nat → Prop} (k : Keeps S wr w') (hS : ∀ s ∈ L, ∀ j, inO s.o j → ¬ S j) : Els E w0 L w' := ⟨fun s hs => (h.each s hs).keeps k (hS s hs), h.new, h.far⟩
theorem Els.keepsN {w0 : World} {L : List (LS α)} {wr w' : World} (h : Els E w0 L wr) (k : Keeps no wr w') : Els E w0 L w' := h.keeps k (fun _ _ _ _ h => h)
theorem Els.append {w0 : World} {L S : List (LS α)} {wr : World} (h : Els E w0 L wr) (h' : Els E w0 S wr) (hf : ∀ x ∈ L, ∀ y ∈ S, Far x.o y.o) : Els E w0 (L ++ S) wr :=
  ⟨fun s hs => by rcases List.mem_append.1 hs with h1 | h1; exact h.each s h1; exact h'.each s h1,
   fun s hs => by rcases List.mem_append.1 hs with h1 | h1; exact h.new s h1; exact h'.new s h1,
   List.pairwise_append.2 ⟨h.far, h'.far, hf⟩⟩
theorem Els.one {w0 : World} {s : LS α} {wr : World} (h : Own E wr s.o s.c s.xs) (hn : New w0 s.o) : Els E w0 [s] wr :=
  ⟨fun t ht => by rw [List.mem_singleton.1 ht]; exact h, fun t ht => by rw [List.mem_singleton.1 ht]; exact hn, List.pairwise_singleton _ _⟩
theorem Els.half {w0 : World} {L : List (LS α)} {wr : World} (h : Els E w0 L wr) {o : Option Addr} {c : Nat} (ho : Own X wr o c L) : Half1 E X w0.heap.size o c L (fun j => (L.getD j ls0).xs) wr := by
  have hm : ∀ j, j < L.length → L.getD j ls0 ∈ L := fun j hj => by rw [List.getD_eq_getElem?_getD, List.getElem?_eq_getElem hj]; exact List.getElem_mem _
  refine ⟨ho, fun j hj k hk => h.new _ (hm j hj) k hk, fun j hj => h.each _ (hm j hj), fun j hj => rfl, ?_⟩
  intro i j hi hj hij
  have e1 : L.getD i ls0 = L[i] := by simp [List.getD_eq_getElem?_getD, hi]
  have e2 : L.getD j ls0 = L[j] := by simp [List.getD_eq_getElem?_getD, hj]
  rw [e1, e2]
  rcases Nat.lt_or_gt_of_ne hij with h1 | h1
  · exact List.pairwise_iff_getElem.1 h.far i j hi hj h1
  · exact fun k h2 h3 => List.pairwise_iff_getElem.1 h.far j i hj hi h1 k h3 h2
/-- lists told, and copies of them -/
structure Duo {α : Type} (E : El α) (X : El (LS α)) (w0 : World) (o : Option Addr) (c : Nat) (L : List (LS α)) (o' : Option Addr) (c' : Nat) (L' : List (LS α)) (wr : World) : Prop where
  own : Own X wr o c L
  own' : Own X wr o' c' L'
  new : New w0 o
  new' : New w0 o'
  far : Far o o'
  els : Els E w0 L wr
  cps : ∀ s ∈ L', Own E wr s.o s.c s.xs
  eq : L'.map LS.xs = L.map LS.xs
theorem duo_nil (w0 wr : World) : Duo E X w0 none 0 [] none 0 [] wr := ⟨own_nil _, own_nil _, new_none _, new_none _, far_nil _, els_nil _ _, fun s hs => (by cases hs), rfl⟩
theorem Duo.keeps {w0 : World} {o : Option Addr} {c : Nat} {L : List (LS α)} {o' : Option Addr} {c' : Nat} {L' : List (LS α)} {wr w' : World} (h : Duo E X w0 o c L o' c' L' wr) {S : Nat → Prop} (k : Keeps S wr w') (hS : ∀ j, S j → ∃ t, t ≠ E.e ∧ t ≠ X.e ∧ Tg t wr j) : Duo E X w0 o c L o' c' L' w' := by
  have hE : ∀ {p : Option Addr} {d : Nat} {ys : List α}, Own E wr p d ys → ∀ j, inO p j → ¬ S j := fun hp j h1 h2 => by
    obtain ⟨t, a, _, g⟩ := hS j h2; exact a (g.ne (hp.tag j h1))
  have hX : ∀ {p : Option Addr} {d : Nat} {ys : List (LS α)}, Own X wr p d ys → ∀ j, inO p j → ¬ S j := fun hp j h1 h2 => by
    obtain ⟨t, _, a, g⟩ := hS j h2; exact a (g.ne (hp.tag j h1))
  exact ⟨h.own.keeps k (hX h.own), h.own'.keeps k (hX h.own'), h.new, h.new', h.far, h.els.keeps k (fun s hs => hE (h.els.each s hs)), fun s hs => (h.cps s hs).keeps k (hE (h.cps s hs)), h.eq⟩
theorem Duo.keepsN {w0 : World} {o : Option Addr} {c : Nat} {L : List (LS α)} {o' : Option Addr} {c' : Nat} {L' : List (LS α)} {wr w' : World} (h : Duo E X w0 o c L o' c' L' wr) (k : Keeps no wr w') : Duo E X w0 o c L o' c' L' w' := h.keeps k (fun _ h => h.elim)
/-- more lists told, more copies -/
theorem Duo.push (K : Kind E X) {w0 : World} {o : Option Addr} {c : Nat} {L : List (LS α)} {o' : Option Addr} {c' : Nat} {L' : List (LS α)} {V Va V1 V2 V3 : World} (h : Duo E X w0 o c L o' c' L' V) (kp : Keeps no w0 V)
    (kz : Keeps no V Va) {o1 : Option Addr} {c1 : Nat} {S S' : List (LS α)} (hap : Ap Va o o1 V1) (ho1 : Own X V1 o1 c1 (L ++ S)) (eS : Els E w0 S V) (fS : ∀ x ∈ L, ∀ y ∈ S, Far x.o y.o)
    (k2 : Keeps no V1 V2) (cS : ∀ s ∈ S', Own E V2 s.o s.c s.xs) {o2 : Option Addr} {c2 : Nat} (hap2 : Ap V2 o' o2 V3) (ho2 : Own X V3 o2 c2 (L' ++ S')) (he : S'.map LS.xs = S.map LS.xs) :
    Duo E X w0 o1 c1 (L ++ S) o2 c2 (L' ++ S') V3 ∧ Keeps no w0 V3 ∧ Keeps (fun k => inO o k ∨ inO o' k) V V3 := by
  have K1 : Keeps (inO o) V V1 := kz.of_no.trans (apK_keeps hap)
  have N1 := Ap.new (w0 := w0) hap h.new (kp.trans kz)
  have w1 : Own X V1 o' c' L' := h.own'.keeps K1 h.far.symm
  have e1 : Els E w0 (L ++ S) V1 := (h.els.append eS fS).keeps K1 (fun s hs => by
    rcases List.mem_append.1 hs with h1 | h1
    · exact tags_ne K.ne (h.els.each s h1) h.own
    · exact tags_ne K.ne (eS.each s h1) h.own)
  have c1' : ∀ s ∈ L', Own E V1 s.o s.c s.xs := fun s hs => (h.cps s hs).keeps K1 (tags_ne K.ne (h.cps s hs) h.own)
  have w2 := w1.keepsN k2
  have e2 := e1.keepsN k2
  have c2' : ∀ s ∈ L', Own E V2 s.o s.c s.xs := fun s hs => (c1' s hs).keepsN k2
  have t2 := ho1.keepsN k2
  have K3 : Keeps (inO o') V2 V3 := apK_keeps hap2
  have N3 := Ap.new (w0 := w0) hap2 h.new' (N1.2.trans k2)
  have f1 : Far o1 o' := apK_far hap h.far (fun k hk => Nat.lt_of_lt_of_le (h.own'.lt k hk) kz.size)
  have f3 : Far o2 o1 := apK_far hap2 f1.symm t2.lt
  refine ⟨⟨t2.keeps K3 f1, ho2, N1.1, N3.1, f3.symm, e2.keeps K3 (fun s hs => tags_ne K.ne (e2.each s hs) w2), fun s hs => ?_, ?_⟩, N3.2, ?_⟩
  · rcases List.mem_append.1 hs with h1 | h1
    · exact (c2' s h1).keeps K3 (tags_ne K.ne (c2' s h1) w2)
    · exact (cS s h1).keeps K3 (tags_ne K.ne (cS s h1) w2)
  · rw [List.map_append, List.map_append, h.eq, he]
  · exact ((K1.mono (fun k hk => .inl hk)).trans k2.of_no).trans (K3.mono (fun k hk => .inr hk))
/-- all that the turns hold -/
structure Tn (w0 : World) (oK : Option Addr) (cK : Nat) (L : List (LS Nat)) (oW : Option Addr) (cW : Nat) (L' : List (LS Nat)) (oT : Option Addr) (cT : Nat) (Y : List (LS Tx)) (oU : Option Addr) (cU : Nat) (Y' : List (LS Tx)) (wr : World) : Prop where
  kp : Keeps no w0 wr
  b : Duo BB ZE w0 oK cK L oW cW L' wr
  t : Duo TE XE w0 oT cT Y oU cU Y' wr
  bL : ∀ s ∈ L, (∀ c ∈ s.xs, c < 256) ∧ s.xs.length ≤ 1048580
  bY : ∀ s ∈ Y, s.xs.length ≤ 8796093022000
variable {w0 : World} {oK : Option Addr} {cK : Nat} {L : List (LS Nat)} {oW : Option Addr} {cW : Nat} {L' : List (LS Nat)} {oT : Option Addr} {cT : Nat} {Y : List (LS Tx)} {oU : Option Addr} {cU : Nat} {Y' : List (LS Tx)} {wr w' : World}
theorem tn_nil (w0 : World) : Tn w0 none 0 [] none 0 [] none 0 [] none 0 [] w0 := ⟨Keeps.refl _ _, duo_nil _ _, duo_nil _ _, fun s hs => (by cases hs), fun s hs => (by cases hs)⟩
theorem Tn.keepsN (h : Tn w0 oK cK L oW cW L' oT cT Y oU cU Y' wr) (k : Keeps no wr w') : Tn w0 oK cK L oW cW L' oT cT Y oU cU Y' w' := ⟨h.kp.trans k, h.b.keepsN k, h.t.keepsN k, h.bL, h.bY⟩
theorem Tn.bytes {V Va V1 V2 V3 : World} (h : Tn w0 oK cK L oW cW L' oT cT Y oU cU Y' V) (kz : Keeps no V Va) {o1 : Option Addr} {c1 : Nat} {S S' : List (LS Nat)} (hap : Ap Va oK o1 V1) (ho1 : Own ZE V1 o1 c1 (L ++ S)) (eS : Els BB w0 S V) (fS : ∀ x ∈ L, ∀ y ∈ S, Far x.o y.o)
    (k2 : Keeps no V1 V2) (cS : ∀ s ∈ S', Own BB V2 s.o s.c s.xs) {o2 : Option Addr} {c2 : Nat} (hap2 : Ap V2 oW o2 V3) (ho2 : Own ZE V3 o2 c2 (L' ++ S')) (he : S'.map LS.xs = S.map LS.xs) (hb : ∀ s ∈ S, (∀ c ∈ s.xs, c < 256) ∧ s.xs.length ≤ 1048580) :
    Tn w0 o1 c1 (L ++ S) o2 c2 (L' ++ S') oT cT Y oU cU Y' V3 ∧ Keeps (fun k => inO oK k ∨ inO oW k) V V3 := by
  obtain ⟨h1, h2, h3⟩ := h.b.push kindZ h.kp kz hap ho1 eS fS k2 cS hap2 ho2 he
  refine ⟨⟨h2, h1, h.t.keeps h3 (fun j hj => ⟨38, by decide, by decide, ?_⟩), fun s hs => ?_, h.bY⟩, h3⟩
  · rcases hj with hj | hj
    · exact h.b.own.tag j hj
    · exact h.b.own'.tag j hj
  · rcases List.mem_append.1 hs with h4 | h4
    · exact h.bL s h4
    · exact hb s h4
theorem Tn.texts {V Va V1 V2 V3 : World} (h : Tn w0 oK cK L oW cW L' oT cT Y oU cU Y' V) (kz : Keeps no V Va) {o1 : Option Addr} {c1 : Nat} {S S' : List (LS Tx)} (hap : Ap Va oT o1 V1) (ho1 : Own XE V1 o1 c1 (Y ++ S)) (eS : Els TE w0 S V) (fS : ∀ x ∈ Y, ∀ y ∈ S, Far x.o y.o)
    (k2 : Keeps no V1 V2) (cS : ∀ s ∈ S', Own TE V2 s.o s.c s.xs) {o2 : Option Addr} {c2 : Nat} (hap2 : Ap V2 oU o2 V3) (ho2 : Own XE V3 o2 c2 (Y' ++ S')) (he : S'.map LS.xs = S.map LS.xs) (hb : ∀ s ∈ S, s.xs.length ≤ 8796093022000) :
    Tn w0 oK cK L oW cW L' o1 c1 (Y ++ S) o2 c2 (Y' ++ S') V3 ∧ Keeps (fun k => inO oT k ∨ inO oU k) V V3 := by
  obtain ⟨h1, h2, h3⟩ := h.t.push kindT h.kp kz hap ho1 eS fS k2 cS hap2 ho2 he
  refine ⟨⟨h2, h.b.keeps h3 (fun j hj => ⟨25, by decide, by decide, ?_⟩), h1, h.bL, fun s hs => ?_⟩, h3⟩
  · rcases hj with hj | hj
    · exact h.t.own.tag j hj
    · exact h.t.own'.tag j hj
  · rcases List.mem_append.1 hs with h4 | h4
    · exact h.bY s h4
    · exact hb s h4
theorem encB_byt' (m : Msg) : ∀ c ∈ encB m, c < 256 := by
  unfold encB
  split
  · exact app_lt (num_lt _ _) (body_byt m)
  · intro c hc; cases hc
theorem encB_len' (m : Msg) : (encB m).length ≤ 1048580 := by
  unfold encB
  split
  · rename_i h
    rw [enc_length]
    unfold encE at h
    split at h
    · split at h
      · omega
      · cases h
    · cases h
  · simp
end Go.Proofs.YtjklpcamlppegaaGreat
/- MsgKeeps: the blocks of the messages; a message that was decoded, and its lists. -/
namespace Go.Proofs.YtjklpcamlppegaaGreat
open Go.RowKit Go.Sort Orl Pk
set_option linter.unusedVariables false
set_option linter.unusedSimpArgs false

structure Bs (w : World) (A O I : Nat) (cs cs1 cs2 : Array Value) (wr : World) : Prop where
  kp : Keeps no w wr
  a : wr.heap[A]? = some (.cells cs 29 (0, 0))
  o : wr.heap[O]? = some (.cells cs1 29 (0, 0))
  i : wr.heap[I]? = some (.cells cs2 29 (0, 0))
theorem Bs.keepsN {w : World} {A O I : Nat} {cs cs1 cs2 : Array Value} {wr w' : World} (h : Bs w A O I cs cs1 cs2 wr) (k : Keeps no wr w') : Bs w A O I cs cs1 cs2 w' := ⟨h.kp.trans k, k.at h.a (fun h => h), k.at h.o (fun h => h), k.at h.i (fun h => h)⟩
/-- a message that was decoded: all its blocks lie from v on; its lists' blocks lie below u -/
structure Yg (v u Xb : Nat) (cs : Array Value) (ok : Option Addr) (nk ck : Nat) (ov : Option Addr) (nv cv : Nat) (rs : List RV) (D : Msg) (wr : World) : Prop where
  blk : wr.heap[Xb]? = some (.cells cs 29 (0, 0))
  xb : v ≤ Xb
  nk : nk = D.keys.length
  ks : Own TE wr ok ck D.keys
  kn : ∀ j, inO ok j → v ≤ j ∧ j < u
  kf : D.keys.length ≤ 8796093022000
  nv : nv = rs.length
  vs : Sl VE wr ov cv rs
  vn : ∀ j, inO ov j → v ≤ j
  es : ∀ j, j < rs.length → Own TE wr (rs.getD j r0).o (rs.getD j r0).c (D.vers.getD j v0).keys ∧ (∀ i, inO (rs.getD j r0).o i → v ≤ i ∧ i < u) ∧ (rs.getD j r0).n = (D.vers.getD j v0).keys.length ∧ (D.vers.getD j v0).keys.length ≤ 8796093022000
  one : ok = none ∨ rs = []
  few : rs.length ≤ 1
variable {v u Xb : Nat} {cs : Array Value} {ok : Option Addr} {nk ck : Nat} {ov : Option Addr} {nv cv : Nat} {rs : List RV} {D : Msg} {wr w' : World}
theorem Yg.keeps (h : Yg v u Xb cs ok nk ck ov nv cv rs D wr) {S : Nat → Prop} (k : Keeps S wr w') (hS : ∀ j, S j → j < v) : Yg v u Xb cs ok nk ck ov nv cv rs D w' := by
  refine ⟨k.at h.blk (fun hj => by have := hS _ hj; have := h.xb; omega), h.xb, h.nk, h.ks.keeps k (fun j h1 h2 => by have := (h.kn j h1).1; have := hS j h2; omega), h.kn, h.kf, h.nv, h.vs.keeps k (fun j h1 h2 => by have := h.vn j h1; have := hS j h2; omega), h.vn, fun j hj => ?_, h.one, h.few⟩
  obtain ⟨e1, e2, e3, e4⟩ := h.es j hj
  exact ⟨e1.keeps k (fun i h1 h2 => by have := (e2 i h1).1; have := hS i h2; omega), e2, e3, e4⟩
theorem Yg.keepsN (h : Yg v u Xb cs ok nk ck ov nv cv rs D wr) (k : Keeps no wr w') : Yg v u Xb cs ok nk ck ov nv cv rs D w' := h.keeps k (fun _ h => h.elim)
theorem yg_of {w w' : World} {k cl : Int} {q i : Nat} {op : Option Addr} {np cp : Nat} {ok : Option Addr} {nk ck : Nat} {ow : Option Addr} {nw cw : Nat} {ov : Option Addr} {nv cv : Nat} {rs : List RV} {D : Msg} (hM : IsM w' k cl q i op np cp ok nk ck ow nw cw ov nv cv rs D) (hF : Fresh8 w w' op ok nk ck ow ov nv rs D) (hk : Keeps no w w') (cs : Array Value) :
    Yg w.heap.size w'.heap.size w'.heap.size cs ok nk ck ov nv cv rs D (w'.alloc (.cells cs 29)) := by
  have ka : Keeps no w' (w'.alloc (.cells cs 29)) := (Keeps.refl no w').alloc _
  refine ⟨blk_new w' _, hk.size, hM.nk, hF.ks.keepsN ka, fun j hj => ⟨hF.nk j hj, hF.ks.lt j hj⟩, hM.fit.klen, hM.nv.trans hM.vrs.len.symm, hM.vrs.sl.keepsN ka, hF.nv, fun j hj => ?_, hF.one, hF.few⟩
  obtain ⟨e1, e2⟩ := hF.vs j hj
  have hjl : j < D.vers.length := by rw [← hM.vrs.len]; exact hj
  have hf := hM.fit.vers (D.vers.getD j v0) (by rw [List.getD_eq_getElem?_getD, List.getElem?_eq_getElem hjl]; exact List.getElem_mem _)
  exact ⟨e1.keepsN ka, fun i hi => ⟨e2 i hi, e1.lt i hi⟩, (hM.vrs.each j hjl).n, hf.len⟩
/-- the list of the keys; those of the versions -/
def kl (ok : Option Addr) (ck : Nat) (D : Msg) : LS Tx := ⟨ok, ck, D.keys⟩
def vl1 (rs : List RV) (D : Msg) (j : Nat) : LS Tx := ⟨(rs.getD j r0).o, (rs.getD j r0).c, (D.vers.getD j v0).keys⟩
def vl (rs : List RV) (D : Msg) (n : Nat) : List (LS Tx) := (List.range n).map (vl1 rs D)
theorem vl_len (rs : List RV) (D : Msg) (n : Nat) : (vl rs D n).length = n := by simp [vl]
theorem vl_succ (rs : List RV) (D : Msg) (n : Nat) : vl rs D (n + 1) = vl rs D n ++ [vl1 rs D n] := by simp [vl, List.range_succ]
theorem vl_mem {rs : List RV} {D : Msg} {n : Nat} {s : LS Tx} (h : s ∈ vl rs D n) : ∃ j, j < n ∧ s = vl1 rs D j := by
  obtain ⟨j, hj, e⟩ := List.mem_map.1 h
  exact ⟨j, List.mem_range.1 hj, e.symm⟩
theorem vl_pair (rs : List RV) (D : Msg) {n : Nat} (h : n ≤ 1) (R : LS Tx → LS Tx → Prop) : (vl rs D n).Pairwise R := by
  have : n = 0 ∨ n = 1 := by omega
  rcases this with rfl | rfl
  · exact List.Pairwise.nil
  · exact List.pairwise_singleton _ _
/-- all four kinds of lists of two decoded messages -/
def zs (ok : Option Addr) (ck : Nat) (D : Msg) (rs : List RV) (ok' : Option Addr) (ck' : Nat) (D' : Msg) (rs' : List RV) : List (LS Tx) := [kl ok ck D, kl ok' ck' D'] ++ vl rs D rs.length ++ vl rs' D' rs'.length
theorem Yg.mem (h : Yg v u Xb cs ok nk ck ov nv cv rs D wr) {s : LS Tx} (hs : s = kl ok ck D ∨ s ∈ vl rs D rs.length) : Own TE wr s.o s.c s.xs ∧ (∀ j, inO s.o j → v ≤ j ∧ j < u) ∧ s.xs.length ≤ 8796093022000 := by
  rcases hs with rfl | hs
  · exact ⟨h.ks, h.kn, h.kf⟩
  · obtain ⟨j, hj, rfl⟩ := vl_mem hs
    obtain ⟨e1, e2, _, e4⟩ := h.es j hj
    exact ⟨e1, e2, e4⟩
theorem Yg.kv (h : Yg v u Xb cs ok nk ck ov nv cv rs D wr) {s : LS Tx} (hs : s ∈ vl rs D rs.length) : Far (kl ok ck D).o s.o := by
  rcases h.one with e | e
  · show Far ok s.o
    rw [e]; exact far_nil _
  · rw [e] at hs
    cases hs
theorem zs_els {v' u' Xb' : Nat} {cs' : Array Value} {ok' : Option Addr} {nk' ck' : Nat} {ov' : Option Addr} {nv' cv' : Nat} {rs' : List RV} {D' : Msg} {w0 : World}
    (h : Yg v u Xb cs ok nk ck ov nv cv rs D wr) (h' : Yg v' u' Xb' cs' ok' nk' ck' ov' nv' cv' rs' D' wr) (huv : u ≤ v') (h0 : w0.heap.size ≤ v) (hv : v ≤ v') : Els TE w0 (zs ok ck D rs ok' ck' D' rs') wr ∧ (∀ s ∈ zs ok ck D rs ok' ck' D' rs', (∀ j, inO s.o j → v ≤ j) ∧ s.xs.length ≤ 8796093022000) := by
  have hx : ∀ s ∈ zs ok ck D rs ok' ck' D' rs', (s = kl ok ck D ∨ s ∈ vl rs D rs.length) ∨ (s = kl ok' ck' D' ∨ s ∈ vl rs' D' rs'.length) := by
    intro s hs
    unfold zs at hs
    simp only [List.mem_append, List.mem_cons, List.not_mem_nil, or_false] at hs
    rcases hs with ((e | e) | e) | e
    · exact .inl (.inl e)
    · exact .inr (.inl e)
    · exact .inl (.inr e)
    · exact .inr (.inr e)
  have hxy : ∀ {s t : LS Tx}, (s = kl ok ck D ∨ s ∈ vl rs D rs.length) → (t = kl ok' ck' D' ∨ t ∈ vl rs' D' rs'.length) → Far s.o t.o := fun hs ht => far_lt (v := v') (fun j hj => by have := ((h.mem hs).2.1 j hj).2; omega) (fun j hj => ((h'.mem ht).2.1 j hj).1)
  refine ⟨⟨fun s hs => ?_, fun s hs j hj => ?_, ?_⟩, fun s hs => ?_⟩
  · rcases hx s hs with e | e
    · exact (h.mem e).1
    · exact (h'.mem e).1
  · rcases hx s hs with e | e
    · have := ((h.mem e).2.1 j hj).1; omega
    · have := ((h'.mem e).2.1 j hj).1; omega
  · unfold zs
    rw [List.pairwise_append, List.pairwise_append]
    refine ⟨⟨?_, vl_pair _ _ h.few _, ?_⟩, vl_pair _ _ h'.few _, ?_⟩
    · rw [List.pairwise_pair]
      exact hxy (.inl rfl) (.inl rfl)
    · intro a ha b hb
      simp only [List.mem_cons, List.not_mem_nil, or_false] at ha
      rcases ha with rfl | rfl
      · exact h.kv hb
      · exact (hxy (.inr hb) (.inl rfl)).symm
    · intro a ha b hb
      simp only [List.mem_append, List.mem_cons, List.not_mem_nil, or_false] at ha
      rcases ha with (rfl | rfl) | ha
      · exact hxy (.inl rfl) (.inr hb)
      · exact h'.kv hb
      · exact hxy (.inr ha) (.inr hb)
  · rcases hx s hs with e | e
    · exact ⟨fun j hj => ((h.mem e).2.1 j hj).1, (h.mem e).2.2⟩
    · exact ⟨fun j hj => by have := ((h'.mem e).2.1 j hj).1; omega, (h'.mem e).2.2⟩
theorem zs_len (h : Yg v u Xb cs ok nk ck ov nv cv rs D wr) {rs' : List RV} (hf' : rs'.length ≤ 1) (ok' : Option Addr) (ck' : Nat) (D' : Msg) : (zs ok ck D rs ok' ck' D' rs').length ≤ 4 := by
  have := h.few
  unfold zs
  simp only [List.length_append, vl_len, List.length_cons, List.length_nil]
  omega
theorem Yg.ver (h : Yg v u Xb cs ok nk ck ov nv cv rs D wr) {j : Nat} (hj : j < nv) : ∃ b off rn, ov = some ⟨b, off, none⟩ ∧ wr.cell? ⟨b, off + j * 4 + 3, none⟩ = some (.slice (vl1 rs D j).o rn (vl1 rs D j).c) ∧ Hid (rn = (vl1 rs D j).xs.length) := by
  have hj' : j < rs.length := by rw [← h.nv]; exact hj
  obtain ⟨b, off, e, _, _, _, h4⟩ := h.vs.atV hj'
  exact ⟨b, off, _, e, h4, (h.es j hj').2.2.1⟩
theorem two_row {α : Type} {X : El (LS α)} (hX : X.enc = LS.enc) (w : World) (x y : LS α) (cs : Array Value) (hc : cs.toList = x.enc ++ y.enc) : Sl X (w.alloc (.cells cs X.e)) (some ⟨w.heap.size, 0, none⟩) 2 [x, y] :=
  ⟨.inr ⟨w.heap.size, 0, rfl, fun j u hj => by
    rw [cell_of_blk (blk_new w _), Nat.zero_add, ← Array.getElem?_toList, hc]
    simpa [El.cells, hX] using hj⟩, by simp, by simp⟩
theorem two_own {α : Type} {X : El (LS α)} (hO : X.Ok) (hk : X.k = 1) (hX : X.enc = LS.enc) (w : World) (x y : LS α) (cs : Array Value) (hc : cs.toList = x.enc ++ y.enc) : Own X (w.alloc (.cells cs X.e)) (some ⟨w.heap.size, 0, none⟩) 2 [x, y] := by
  have hs : cs.size = 2 := by have := congrArg List.length hc; simpa [LS.enc] using this
  refine own_of_shape hO (blk_new w _) (Nat.le_refl _) (by unfold maxLen; omega) (by rw [hk, hs]) ?_
  rw [hc, hk]
  simp [El.cells, hX, LS.enc]
/-- a byte of one's own bytes -/
theorem Own.byte {w : World} {g c : Nat} {bs : List Nat} (h : Own BB w (some ⟨g, 0, none⟩) c bs) (j : Nat) (hj : j < bs.length) : w.cell? ⟨g, j, none⟩ = some (.int .u8 (bs.getD j 0 : Nat)) := by
  obtain ⟨b, off, e, h1⟩ := h.sl.one okBB rfl 0 hj _ rfl
  cases e
  rwa [Nat.zero_add] at h1
end Go.Proofs.YtjklpcamlppegaaGreat

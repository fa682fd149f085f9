import Derived.Test.YtileipnoiocdlaaWF
/- The law's worlds: what partitions answer. -/
namespace Go.Proofs.Ytileipnoiocdlaa
open Go.RowKit Go.Sort Orl
set_option linter.unusedVariables false
set_option linter.unusedSimpArgs false

theorem step_app1 {α : Type} {E : El α} (hE : E.Ok) {w : World} {ops : Array Oper} {o : Oper} {a : Act} {K : Act → World → Prop} {Q : Exit → Act → World → Prop} {Ep : Prop} (hgd : o.guard = none) (s x : Operand)
    (ho : o.op = .call { callee := .builtin .append, args := #[s, x], argTypes := #[E.t, E.t] })
    (oa : Option Addr) (n c : Nat) (xs : List α) (hs : a.eval s = .slice oa n c) (hn : n = xs.length) (hown : Own E w oa c xs)
    (ox : Option Addr) (m d : Nat) (news : List α) (hx : a.eval x = .slice ox m d) (hm : m = news.length) (hd : ox = none → d = 0) (hrow : Row E w ox news)
    (hb : (xs.length + news.length) * E.nb ≤ 140737488355328) (hb2 : xs.length + news.length ≤ 140737488355328)
    (h : ∀ o' c' w', Own E w' o' c' (xs ++ news) → Ap w oa o' w' → K (a.put o.dst (.slice o' (n + m) c')) w') :
    if Region.wanted o (yielded ops a.tmps) = true then Oper.wp Try.prog o a w K Q else Ep := by
  have hw : Region.wanted o (yielded ops a.tmps) = true := by simp [Region.wanted, hgd]
  rw [if_pos hw]
  subst hn hm
  obtain ⟨o', c', w', hr, h1, h2⟩ := run_app hE w o.type oa c xs hown ox d news hd hrow hb hb2
  unfold Oper.wp execOp
  simp only [ho, resolve, invoke, builtin, Sem.run_bind, Sem.run_pure, Result.andThen_ok, List.map_toArray, List.map_cons, List.map_nil, hs, hx, hr]
  exact h o' c' w' h1 h2
structure RM where
  req : Nat
  B : Nat
def rm0 : RM := ⟨0, 0⟩
def ME : El RM := ⟨42, 64, 8, 128, fun r => [.int .i64 7, .int .i64 3, .int .u64 (r.req : Nat), .int .u64 0, .slice none 0 0, .slice none 0 0, .slice none 0 0, .slice (some ⟨r.B, 0, none⟩) 1 1]⟩
theorem infoM : (Try.prog.info? 42).map (fun i => (i.zero, i.size, i.bytes)) = some (some (.agg #[.int .i64 0, .int .i64 0, .int .u64 0, .int .u64 0, .slice none 0 0, .slice none 0 0, .slice none 0 0, .slice none 0 0]), 8, 128) := by kernel_rfl
theorem okM : ME.Ok := by
  obtain ⟨i0, hi, hz0, hz1, hz2⟩ := info_parts infoM
  exact ⟨fun _ => rfl, fun x u hu => by simp [ME] at hu; rcases hu with rfl | rfl | rfl | rfl | rfl | rfl | rfl | rfl <;> rfl, by decide, Try.underlying64, i0, _, hi, hz0, hz1, hz2, rfl⟩
/-- an answer's version -/
structure MsgAt (w : World) (Z : Nat → Prop) (B : Nat) (v : Ver) : Prop where
  ex : ∃ rv, Sl VE w (some ⟨B, 0, none⟩) 1 [rv] ∧ VerOf w rv v ∧ (∀ i, (i = B ∨ inO rv.o i) → Z i ∧ i < w.heap.size)
theorem MsgAt.keeps {S : Nat → Prop} {w w' : World} {Z : Nat → Prop} {B : Nat} {v : Ver} (h : MsgAt w Z B v) (k : Keeps S w w') (hs : ∀ i, Z i → i < w.heap.size → ¬ S i) : MsgAt w' Z B v := by
  obtain ⟨rv, h1, h2, h3⟩ := h.ex
  exact ⟨rv, h1.keeps k (fun i hi => by obtain ⟨x, e, rfl⟩ := hi; cases e; exact hs _ (h3 B (.inl rfl)).1 (h3 B (.inl rfl)).2), h2.keeps k (fun i hi => hs i (h3 i (.inr hi)).1 (h3 i (.inr hi)).2), fun i hi => ⟨(h3 i hi).1, Nat.lt_of_lt_of_le (h3 i hi).2 k.size⟩⟩
theorem MsgAt.keepsN {w w' : World} {Z : Nat → Prop} {B : Nat} {v : Ver} (h : MsgAt w Z B v) (k : Keeps no w w') : MsgAt w' Z B v := h.keeps k (fun _ _ _ h => h)
theorem MsgAt.mono {w : World} {Z Y : Nat → Prop} {B : Nat} {v : Ver} (h : MsgAt w Z B v) (hy : ∀ i, Z i → i < w.heap.size → Y i) : MsgAt w Y B v := by
  obtain ⟨rv, h1, h2, h3⟩ := h.ex
  exact ⟨rv, h1, h2, fun i hi => ⟨hy i (h3 i hi).1 (h3 i hi).2, (h3 i hi).2⟩⟩
structure Msgs (w : World) (Z : Nat → Prop) (o : Option Addr) (c : Nat) (rs : List RM) (vs : List Ver) (req : Nat) : Prop where
  own : Own ME w o c rs
  len : rs.length = vs.length
  each : ∀ j, j < vs.length → (rs.getD j rm0).req = req ∧ MsgAt w (fun i => Z i ∧ ¬ inO o i) (rs.getD j rm0).B (vs.getD j v0)
  blk : ∀ i, inO o i → Z i
theorem Msgs.keepsN {w w' : World} {Z : Nat → Prop} {o : Option Addr} {c : Nat} {rs : List RM} {vs : List Ver} {req : Nat} (h : Msgs w Z o c rs vs req) (k : Keeps no w w') : Msgs w' Z o c rs vs req := ⟨h.own.keepsN k, h.len, fun j hj => ⟨(h.each j hj).1, (h.each j hj).2.keepsN k⟩, h.blk⟩
theorem msgs_nil (w : World) (Z : Nat → Prop) (req : Nat) : Msgs w Z none 0 [] [] req := ⟨own_nil w, rfl, fun j hj => by simp at hj, fun i hi => by obtain ⟨x, e, _⟩ := hi; cases e⟩
theorem getD_snocL {α : Type} (l : List α) (x d : α) (j : Nat) (h : j ≤ l.length) : (l ++ [x]).getD j d = if j < l.length then l.getD j d else x := by
  rw [getD_app]
  split
  · rfl
  · have e : j - l.length = 0 := by omega
    rw [e]; rfl
/-- one more -/
theorem Msgs.push {w0 w w2 w' : World} {o o' : Option Addr} {c c' : Nat} {rs : List RM} {vs : List Ver} {req : Nat} {r : RM} {v : Ver} (h : Msgs w (fun i => w0.heap.size ≤ i) o c rs vs req) (hk0 : Keeps no w0 w) (k : Keeps no w w2) (hr : r.req = req) (hm : MsgAt w2 (fun i => w.heap.size ≤ i) r.B v) (ho : Own ME w' o' c' (rs ++ [r])) (ha : Ap w2 o o' w') :
    Msgs w' (fun i => w0.heap.size ≤ i) o' c' (rs ++ [r]) (vs ++ [v]) req ∧ Keeps no w0 w' := by
  have hn := ha.new (w0 := w0) (fun i hi => h.blk i hi) (hk0.trans k)
  have hm1 : MsgAt w2 (fun i => w0.heap.size ≤ i ∧ ¬ inO o i) r.B v := hm.mono (fun i h1 _ => ⟨Nat.le_trans hk0.size h1, fun h2 => by have := h.own.lt i h2; omega⟩)
  have key : ∀ {B : Nat} {u : Ver}, MsgAt w2 (fun i => w0.heap.size ≤ i ∧ ¬ inO o i) B u → MsgAt w' (fun i => w0.heap.size ≤ i ∧ ¬ inO o' i) B u := by
    intro B u hu
    rcases ha with ⟨rfl, k1⟩ | ⟨⟨g, rfl, hg⟩, k1⟩
    · exact hu.keeps k1 (fun i h1 _ => h1.2)
    · exact (hu.mono (fun i h1 h2 => ⟨h1.1, by rintro ⟨x, e, rfl⟩; cases e; simp only at h2; omega⟩)).keepsN k1
  refine ⟨⟨ho, by rw [List.length_append, List.length_append, h.len]; rfl, fun j hj => ?_, hn.1⟩, hn.2⟩
  have hj' : j ≤ vs.length := by rw [List.length_append] at hj; have : [v].length = 1 := rfl; omega
  rw [getD_snocL rs r rm0 j (by rw [h.len]; exact hj'), getD_snocL vs v v0 j hj', h.len]
  by_cases e : j < vs.length
  · rw [if_pos e, if_pos e]
    exact ⟨(h.each j e).1, key ((h.each j e).2.keepsN k)⟩
  · rw [if_neg e, if_neg e]
    exact ⟨hr, key hm1⟩
def wantV (P : Nat) (ws : List Wr) (gone : Nat) (x : Wn) : Ver := if gone + 1 ≤ x.2 / 65536 ∧ x.2 / 65536 ≤ ws.length ∧ hasB ws (x.2 / 65536 - 1) x.1 = true then verP ws (x.2 / 65536 - 1) x.1 else botV' x.1
/-- the answers to a question -/
def askV (P : Nat) (ws : List Wr) (gone : Nat) (q : Qn) : List Ver := q.keys.map (fun k => latP P ws k ws.length) ++ q.wants.map (wantV P ws gone)
def AskTo (w : World) (req : Nat) (vs : List Ver) (e : Ending) (w' : World) : Prop := ∃ o n c rs, e = .returned (.slice o n c) ∧ n = vs.length ∧ Msgs w' (fun i => w.heap.size ≤ i) o c rs vs req ∧ Keeps no w w'
structure FitA (q : Qn) : Prop where
  kl : q.keys.length ≤ 2000
  wl : q.wants.length ≤ 2000
  kz : ∀ k ∈ q.keys, k.size ≤ 65535
  wz : ∀ x ∈ q.wants, x.1.size ≤ 65535 ∧ x.2 < 18446744073709551616
theorem ans_msg {w w1 w2 : World} {r : RV} {v : Ver} {B : Nat} (hv : VerN w1 r v) (hn : New w r.o) (hk : Keeps no w w1) (hs : Sl VE w2 (some ⟨B, 0, none⟩) 1 [r]) (hB : w1.heap.size ≤ B) (hk2 : Keeps no w1 w2) : MsgAt w2 (fun i => w.heap.size ≤ i) B v :=
  ⟨r, hs, hv.of.keepsN hk2, by
    rintro i (rfl | hi)
    · exact ⟨Nat.le_trans hk.size hB, hs.lt okV (by simp) _ ⟨_, rfl, rfl⟩⟩
    · exact ⟨hn i hi, (hv.own.keepsN hk2).lt i hi⟩⟩
/-- what stays while a question is answered -/
structure AskB (w w1 : World) (A : Nat) (P : Nat) (o : Option Addr) (n c : Nat) (r : RQ) : Prop where
  a : w1.heap[A]? = some (.cells #[.int .i64 P, .slice o n c] 59 (0, 0))
  q : w1.heap[A + 1]? = some (.cells #[.int .i64 r.part, .int .i64 r.kind, .int .i64 r.client, .int .u64 (r.req : Nat), .int .u64 0, .slice none 0 0, .slice r.ko r.kn r.kc, .slice r.wo r.wn r.wc, .slice none 0 0] 44 (0, 0))
  kp : Keeps no w w1
theorem AskB.keepsN {w w1 w2 : World} {A : Nat} {P : Nat} {o : Option Addr} {n c : Nat} {r : RQ} (h : AskB w w1 A P o n c r) (k : Keeps no w1 w2) : AskB w w2 A P o n c r := ⟨k.at h.a id, k.at h.q id, h.kp.trans k⟩
/-- a round of the first loop begins -/
structure Ld1 (w : World) (A : Nat) (P : Nat) (o : Option Addr) (n c : Nat) (q : RQ) (b off j : Nat) (k : Tx) : Prop where
  z0 : w.cell? ⟨A, 0, none⟩ = some (.int .i64 P)
  z1 : w.cell? ⟨A, 1, none⟩ = some (.slice o n c)
  z3 : w.cell? ⟨A + 1, 3, none⟩ = some (.int .u64 (q.req : Nat))
  z6 : w.cell? ⟨A + 1, 6, none⟩ = some (.slice (some ⟨b, off, none⟩) q.kn q.kc)
  zk : w.cell? ⟨b, off + j, none⟩ = some (.string k)
theorem Ld1.keepsN {w w' : World} {A : Nat} {P : Nat} {o : Option Addr} {n c : Nat} {q : RQ} {b off j : Nat} {k : Tx} (h : Ld1 w A P o n c q b off j k) (hk : Keeps no w w') : Ld1 w' A P o n c q b off j k := ⟨hk.cellN h.z0, hk.cellN h.z1, hk.cellN h.z3, hk.cellN h.z6, hk.cellN h.zk⟩
set_option maxRecDepth 10000 in
set_option maxHeartbeats 2000000 in
theorem asked_any (w : World) (P : Nat) (o : Option Addr) (n c : Nat) (rs : List RWr) (ws : List Wr) (hn : n = ws.length) (hw : Wrs w o c rs ws) (hf : GoodW ws) (h1 : 1 ≤ P) (h2 : P ≤ 64) (r : RQ) (q : Qn) (hq : QOf w r q) (hfq : FitA q) (gone : Nat) (hg : gone ≤ 100) :
    Calls Try.prog 20 #[aggWd (P : Int) o n c, aggQ r, .int .i64 (gone : Nat)] w (AskTo w q.req (askV P ws gone q)) := by
  obtain ⟨x0, x1, x2, x3, xko, xkn, xkc, xwo, xwn, xwc⟩ := r
  obtain ⟨q1, q2, q3, q4, q5, q6, q7, q8⟩ := hq
  simp only at q1 q2 q3 q4 q5 q6 q7 q8
  subst q4
  have HW : Hid (Wrs w o c rs ws ∧ GoodW ws ∧ n = ws.length ∧ (1 ≤ P ∧ P ≤ 64)) := ⟨hw, hf, hn, h1, h2⟩
  have HQ : Hid ((xkn = q.keys.length ∧ Sl TE w xko xkc q.keys) ∧ (xwn = q.wants.length ∧ Sl WE w xwo xwc q.wants) ∧ FitA q) := ⟨⟨q5, q6⟩, ⟨q7, q8⟩, hfq⟩
  have HAV : Hid (askV P ws gone q = q.keys.map (fun k => latP P ws k ws.length) ++ q.wants.map (wantV P ws gone)) := rfl
  generalize askV P ws gone q = vsA at HAV ⊢
  have hkn : (xkn : Int) ≤ 2000 := by have := hfq.kl; omega
  have hwn : (xwn : Int) ≤ 2000 := by have := hfq.wl; omega
  have hg' : (gone : Int) ≤ 100 := by omega
  have hn12 : (n : Int) ≤ 12 := by have := hf.len; omega
  obtain ⟨A, hA⟩ : ∃ A, A = w.heap.size := ⟨_, rfl⟩
  have HA : Hid (w.heap.size = A) := hA.symm
  have HK : Hid (∀ W, W = (w.alloc (.cells #[.int .i64 P, .slice o n c] 59)).alloc (.cells #[.int .i64 x0, .int .i64 x1, .int .i64 x2, .int .u64 (q.req : Nat), .int .u64 0, .slice none 0 0, .slice xko xkn xkc, .slice xwo xwn xwc, .slice none 0 0] 44) → AskB w W A P o n c ⟨x0, x1, x2, q.req, xko, xkn, xkc, xwo, xwn, xwc⟩) := by
    rintro W rfl
    have h := two_blk w (.cells #[.int .i64 P, .slice o n c] 59) (.cells #[.int .i64 x0, .int .i64 x1, .int .i64 x2, .int .u64 (q.req : Nat), .int .u64 0, .slice none 0 0, .slice xko xkn xkc, .slice xwo xwn xwc, .slice none 0 0] 44)
    rw [← hA] at h
    exact ⟨h.1, h.2, ((Keeps.refl _ _).alloc _).alloc _⟩
  clear hn hw hf h1 h2 hfq q1 q2 q3 q5 q6 q7 q8 hg
  unfold aggWd aggQ
  simp only
  go_enter Try.func20, Try.ntmps20
  go_upto_region 1 with fail
  have h1 := HK.out _ rfl
  rw [← hA]
  clear hA
  generalize (w.alloc (.cells #[.int .i64 P, .slice o n c] 59)).alloc (.cells #[.int .i64 x0, .int .i64 x1, .int .i64 x2, .int .u64 (q.req : Nat), .int .u64 0, .slice none 0 0, .slice xko xkn xkc, .slice xwo xwn xwc, .slice none 0 0] 44) = w1 at h1 ⊢
  have HB1 : Hid (AskB w w1 A P o n c ⟨x0, x1, x2, q.req, xko, xkn, xkc, xwo, xwn, xwc⟩) := h1
  clear h1 HK
  go_wp2_with fail
  go_loopw [7, 8] (fun s7 s8 wr => ∃ (j : Nat) (oo : Option Addr) (m cc : Nat), j ≤ xkn ∧ s8 = .int .i64 (j : Nat) ∧ s7 = .slice oo m cc ∧ Hid (∃ rms, m = j ∧ Msgs wr (fun i => w1.heap.size ≤ i) oo cc rms ((q.keys.take j).map (fun k => latP P ws k ws.length)) q.req ∧ Keeps no w1 wr)) (fun _ s8 _ => xkn - (intOf s8).toNat)
  case atStart => exact ⟨0, none, 0, 0, by omega, rfl, rfl, [], rfl, msgs_nil _ _ _, Keeps.refl _ _⟩
  case round =>
    rename World => wr
    obtain ⟨j, oo, m, cc, hj, rfl, rfl, HI⟩ := hrel
    by_cases hlt : j < xkn
    · have hlt' : (j : Int) < xkn := by omega
      obtain ⟨rms, hm, hms, hk1⟩ := HI.out
      have hjk : j < q.keys.length := by rw [← HQ.out.1.1]; exact hlt
      have hBr := HB1.out.keepsN hk1
      have hsl := HQ.out.1.2.keepsN HB1.out.kp
      obtain ⟨b, off, rfl, d1⟩ := hsl.at hjk
      have hkz := HQ.out.2.2.kz _ (getD_mem_lt e0 hjk)
      have HTK : Hid ((q.keys.take (j + 1)).map (fun k => latP P ws k ws.length) = (q.keys.take j).map (fun k => latP P ws k ws.length) ++ [latP P ws (q.keys.getD j e0) ws.length]) := by show _ = _; rw [take_succ_getD q.keys j e0 hjk, List.map_append]; rfl
      generalize q.keys.getD j e0 = k at d1 hkz HTK
      have HLD : Hid (∀ X, Keeps no w1 X → Ld1 X A P o n c ⟨x0, x1, x2, q.req, some ⟨b, off, none⟩, xkn, xkc, xwo, xwn, xwc⟩ b off j k) := fun X hX => Ld1.keepsN ⟨by rw [cell_of_blk HB1.out.a]; rfl, by rw [cell_of_blk HB1.out.a]; rfl, by rw [cell_of_blk HB1.out.q]; rfl, by rw [cell_of_blk HB1.out.q]; rfl, d1⟩ hX
      have y6 : wr.cell? ⟨A + 1, 6, none⟩ = some (.slice (some ⟨b, off, none⟩) xkn xkc) := (HLD.out wr hk1).z6
      have HLT : Hid (∀ X, Keeps no wr X → Calls Try.prog 37 #[.agg #[.int .i64 P, .slice o n c], .string k] X (VerTo X (latP P ws k ws.length))) := fun X hX => latest_any X P o n c rs ws HW.out.2.2.1 (HW.out.1.keepsN (hBr.kp.trans hX)) HW.out.2.1 HW.out.2.2.2.1 HW.out.2.2.2.2 k (by omega)
      have HMS : Hid (m = rms.length ∧ m = j ∧ Msgs wr (fun i => w1.heap.size ≤ i) oo cc rms ((q.keys.take j).map (fun k => latP P ws k ws.length)) q.req ∧ Keeps no w wr ∧ Keeps no w1 wr) := ⟨by rw [hms.len, List.length_map, List.length_take, hm]; omega, hm, hms, hBr.kp, hk1⟩
      have HL2 : Hid (m ≤ 2000) := show m ≤ 2000 by omega
      generalize latP P ws k ws.length = vP at HLT HTK
      clear hms hk1 hBr hsl d1 hkz HI hm hjk
      go_wp2_with fail
      refine wp_region_held_drew (S := fun X => Ld1 X A P o n c ⟨x0, x1, x2, q.req, some ⟨b, off, none⟩, xkn, xkc, xwo, xwn, xwc⟩ b off j k) (by kernel_rfl) ?_ (fun hHeld => ?_)
      · exact HLD.out _ (HMS.out.2.2.2.2.drew)
      refine wpAnyH_take (i := 0) (v := ?_) (by simp only [List.getElem?_toArray, List.getElem?_cons_succ, List.getElem?_cons_zero]; rfl) (by kernel_rfl) (by kernel_rfl) (by kernel_rfl) (by exact fun _ _ _ h => h) (Or.inl ⟨by rfl, ?_⟩) (by assumption) ?_
      rotate_left
      · (intro _ hSw; (try dsimp only at hSw); go_simp; (try with_reducible rfl))
      try simp only [Act.put, List.setIfInBounds_toArray, List.set_cons_zero, List.set_cons_succ]
      refine wpAnyH_take (i := 1) (v := ?_) (by simp only [List.getElem?_toArray, List.getElem?_cons_succ, List.getElem?_cons_zero]; rfl) (by kernel_rfl) (by kernel_rfl) (by kernel_rfl) (by exact fun _ _ _ h => h) (Or.inl ⟨by rfl, ?_⟩) (by assumption) ?_
      rotate_left
      · (intro _ hSw; (try dsimp only at hSw); go_simp; (try with_reducible rfl))
      try simp only [Act.put, List.setIfInBounds_toArray, List.set_cons_zero, List.set_cons_succ]
      refine wpAnyH_take (i := 2) (v := ?_) (by simp only [List.getElem?_toArray, List.getElem?_cons_succ, List.getElem?_cons_zero]; rfl) (by kernel_rfl) (by kernel_rfl) (by kernel_rfl) (by exact fun _ _ _ h => h) (Or.inl ⟨by rfl, ?_⟩) (by assumption) ?_
      rotate_left
      · (intro _ hSw; (try dsimp only at hSw); go_simp; (try with_reducible rfl))
      try simp only [Act.put, List.setIfInBounds_toArray, List.set_cons_zero, List.set_cons_succ]
      refine wpAnyH_take (i := 3) (v := ?_) (by simp only [List.getElem?_toArray, List.getElem?_cons_succ, List.getElem?_cons_zero]; rfl) (by kernel_rfl) (by kernel_rfl) (by kernel_rfl) (by exact fun _ _ _ h => h) (Or.inl ⟨by rfl, ?_⟩) (by assumption) ?_
      rotate_left
      · (intro _ hSw; (try dsimp only at hSw); have y3 := hSw.z3; go_simp; (try with_reducible rfl))
      try simp only [Act.put, List.setIfInBounds_toArray, List.set_cons_zero, List.set_cons_succ]
      refine wpAnyH_take (i := 4) (v := ?_) (by simp only [List.getElem?_toArray, List.getElem?_cons_succ, List.getElem?_cons_zero]; rfl) (by kernel_rfl) (by kernel_rfl) (by kernel_rfl) (by exact fun _ _ _ h => h) (Or.inl ⟨by rfl, ?_⟩) (by assumption) ?_
      rotate_left
      · (intro _ hSw; (try dsimp only at hSw); have y0 := hSw.z0; have y1 := hSw.z1; go_simp; (try with_reducible rfl))
      try simp only [Act.put, List.setIfInBounds_toArray, List.set_cons_zero, List.set_cons_succ]
      refine wpAnyH_take (i := 5) (v := ?_) (by simp only [List.getElem?_toArray, List.getElem?_cons_succ, List.getElem?_cons_zero]; rfl) (by kernel_rfl) (by kernel_rfl) (by kernel_rfl) (by exact fun _ _ _ h => h) (Or.inl ⟨by rfl, ?_⟩) (by assumption) ?_
      rotate_left
      · (intro _ hSw; (try dsimp only at hSw); go_simp; (try with_reducible rfl))
      try simp only [Act.put, List.setIfInBounds_toArray, List.set_cons_zero, List.set_cons_succ]
      refine wpAnyH_take (i := 6) (v := ?_) (by simp only [List.getElem?_toArray, List.getElem?_cons_succ, List.getElem?_cons_zero]; rfl) (by kernel_rfl) (by kernel_rfl) (by kernel_rfl) (by exact fun _ _ _ h => h) (Or.inl ⟨by rfl, ?_⟩) (by assumption) ?_
      rotate_left
      · (intro _ hSw; (try dsimp only at hSw); go_simp; (try with_reducible rfl))
      try simp only [Act.put, List.setIfInBounds_toArray, List.set_cons_zero, List.set_cons_succ]
      refine wpAnyH_take (i := 7) (v := ?_) (by simp only [List.getElem?_toArray, List.getElem?_cons_succ, List.getElem?_cons_zero]; rfl) (by kernel_rfl) (by kernel_rfl) (by kernel_rfl) (by exact fun _ _ _ h => h) (Or.inl ⟨by rfl, ?_⟩) (by assumption) ?_
      rotate_left
      · (intro _ hSw; (try dsimp only at hSw); have y6 := hSw.z6; go_simp; (try with_reducible rfl))
      try simp only [Act.put, List.setIfInBounds_toArray, List.set_cons_zero, List.set_cons_succ]
      refine wpAnyH_take (i := 8) (v := ?_) (by simp only [List.getElem?_toArray, List.getElem?_cons_succ, List.getElem?_cons_zero]; rfl) (by kernel_rfl) (by kernel_rfl) (by kernel_rfl) (by exact fun _ _ _ h => h) (Or.inl ⟨by rfl, ?_⟩) (by assumption) ?_
      rotate_left
      · (intro _ hSw; (try dsimp only at hSw); go_simp; (try with_reducible rfl))
      try simp only [Act.put, List.setIfInBounds_toArray, List.set_cons_zero, List.set_cons_succ]
      refine wpAnyH_take (i := 9) (v := ?_) (by simp only [List.getElem?_toArray, List.getElem?_cons_succ, List.getElem?_cons_zero]; rfl) (by kernel_rfl) (by kernel_rfl) (by kernel_rfl) (by exact fun _ _ _ h => h) (Or.inl ⟨by rfl, ?_⟩) (by assumption) ?_
      rotate_left
      · (intro _ hSw; (try dsimp only at hSw); go_simp; (try with_reducible rfl))
      try simp only [Act.put, List.setIfInBounds_toArray, List.set_cons_zero, List.set_cons_succ]
      refine wpAnyH_take (i := 10) (v := ?_) (by simp only [List.getElem?_toArray, List.getElem?_cons_succ, List.getElem?_cons_zero]; rfl) (by kernel_rfl) (by kernel_rfl) (by kernel_rfl) (by exact fun _ _ _ h => h) (Or.inl ⟨by rfl, ?_⟩) (by assumption) ?_
      rotate_left
      · (intro _ hSw; (try dsimp only at hSw); have yk := hSw.zk; go_simp; (try with_reducible rfl))
      try simp only [Act.put, List.setIfInBounds_toArray, List.set_cons_zero, List.set_cons_succ]
      refine wpAnyH_ready (rs := [11]) (by kernel_rfl) (by simp) ?_
      refine (AllReadyH.cons (by simp only [List.getElem?_toArray, List.getElem?_cons_succ, List.getElem?_cons_zero]; rfl) (fun Kq hKq => ?_) AllReadyH.nil)
      go_simp
      refine Calls.mono (HLT.out _ ((Keeps.refl no wr).drew)) ?_
      rintro e za ⟨⟨rk, ri, rv, ro, rn, rc⟩, rfl, hv, hnw, hka⟩
      have HKA : Hid (Keeps no wr za) := ((Keeps.refl no wr).drew).trans hka
      have HVA : Hid (VerN za ⟨rk, ri, rv, ro, rn, rc⟩ vP ∧ New wr ro) := ⟨hv, hnw⟩
      clear hv hnw hka
      refine hKq.out _ _ ?_ (fun hHeldN => ?_)
      · exact HLD.out _ (HMS.out.2.2.2.2.trans HKA.out)
      clear hKq Kq hHeld
      have hHeld := hHeldN
      clear hHeldN
      refine wpAnyH_ready (rs := [12]) (by kernel_rfl) (by simp) ?_
      refine (AllReadyH.cons (by simp only [List.getElem?_toArray, List.getElem?_cons_succ, List.getElem?_cons_zero]; rfl) (fun Kq hKq => ?_) AllReadyH.nil)
      have HAN : Hid (Calls Try.prog 14 #[.int .u64 (q.req : Nat), aggV ⟨rk, ri, rv, ro, rn, rc⟩] za _) := answer_any za q.req ⟨rk, ri, rv, ro, rn, rc⟩
      go_simp
      refine Calls.mono HAN.out ?_
      rintro e zb ⟨B, rfl, hbs, hBl, hkb⟩
      have HKB : Hid (Keeps no wr zb ∧ MsgAt zb (fun i => wr.heap.size ≤ i) B vP) := ⟨HKA.out.trans hkb, ans_msg HVA.out.1 HVA.out.2 HKA.out hbs hBl hkb⟩
      clear hbs hBl hkb HVA HAN HKA
      refine hKq.out _ _ ?_ (fun hHeldN => ?_)
      · exact HLD.out _ (HMS.out.2.2.2.2.trans HKB.out.1)
      clear hKq Kq hHeld
      have hHeld := hHeldN
      clear hHeldN
      refine wpAnyH_ready (rs := [13]) (by kernel_rfl) (by simp) ?_
      refine (AllReadyH.cons (by simp only [List.getElem?_toArray, List.getElem?_cons_succ, List.getElem?_cons_zero]; rfl) (fun Kq hKq => ?_) AllReadyH.nil)
      unfold aggC
      go_simp
      have HZC : Hid (Keeps no wr (zb.alloc (.cells #[.int .i64 7, .int .i64 3, .int .u64 (q.req : Nat), .int .u64 0, .slice none 0 0, .slice none 0 0, .slice none 0 0, .slice (some ⟨B, 0, none⟩) 1 1] 42)) ∧ MsgAt (zb.alloc (.cells #[.int .i64 7, .int .i64 3, .int .u64 (q.req : Nat), .int .u64 0, .slice none 0 0, .slice none 0 0, .slice none 0 0, .slice (some ⟨B, 0, none⟩) 1 1] 42)) (fun i => wr.heap.size ≤ i) B vP ∧ Row ME (zb.alloc (.cells #[.int .i64 7, .int .i64 3, .int .u64 (q.req : Nat), .int .u64 0, .slice none 0 0, .slice none 0 0, .slice none 0 0, .slice (some ⟨B, 0, none⟩) 1 1] 42)) (some ⟨zb.heap.size, 0, none⟩) [⟨q.req, B⟩]) := ⟨HKB.out.1.alloc _, HKB.out.2.keepsN ((Keeps.refl no zb).alloc _), (lit_one (E := ME) zb ⟨q.req, B⟩ #[.int .i64 7, .int .i64 3, .int .u64 (q.req : Nat), .int .u64 0, .slice none 0 0, .slice none 0 0, .slice none 0 0, .slice (some ⟨B, 0, none⟩) 1 1] rfl).row⟩
      generalize zb.heap.size = Z at HZC ⊢
      generalize zb.alloc (.cells #[.int .i64 7, .int .i64 3, .int .u64 (q.req : Nat), .int .u64 0, .slice none 0 0, .slice none 0 0, .slice none 0 0, .slice (some ⟨B, 0, none⟩) 1 1] 42) = zc at HZC ⊢
      refine hKq.out _ _ ?_ (fun hHeldN => ?_)
      · exact HLD.out _ (HMS.out.2.2.2.2.trans HZC.out.1)
      clear hKq Kq hHeld
      have hHeld := hHeldN
      clear hHeldN
      refine wpAnyH_ready (rs := [14]) (by kernel_rfl) (by simp) ?_
      refine (AllReadyH.cons (by simp only [List.getElem?_toArray, List.getElem?_cons_succ, List.getElem?_cons_zero]; rfl) (fun Kq hKq => ?_) AllReadyH.nil)
      refine step_app1 okM rfl (.tmp 21) (.tmp 34) rfl oo m cc rms rfl HMS.out.1 (HMS.out.2.2.1.own.keepsN HZC.out.1) (some (Addr.mk Z 0 none)) 1 1 [⟨q.req, B⟩] rfl rfl (fun e => by cases e) HZC.out.2.2 (by have := HMS.out.1; have := HL2.out; simp [ME]; omega) (by have := HMS.out.1; have := HL2.out; simp; omega) ?_
      intro o5 c5 w5 ho5 hap5
      have HP : Hid _ := HMS.out.2.2.1.push HMS.out.2.2.2.2 HZC.out.1 rfl HZC.out.2.1 ho5 hap5
      clear ho5 hap5
      refine hKq.out _ _ ?_ (fun hHeldN => ?_)
      · exact HLD.out _ HP.out.2
      clear hKq Kq hHeld
      have hHeld := hHeldN
      clear hHeldN
      refine wpAnyH_take (i := 15) (v := ?_) (by simp only [List.getElem?_toArray, List.getElem?_cons_succ, List.getElem?_cons_zero]; rfl) (by kernel_rfl) (by kernel_rfl) (by kernel_rfl) (by exact fun _ _ _ h => h) (Or.inl ⟨by rfl, ?_⟩) (by assumption) ?_
      rotate_left
      · (intro _ hSw; (try dsimp only at hSw); go_simp; (try with_reducible rfl))
      try simp only [Act.put, List.setIfInBounds_toArray, List.set_cons_zero, List.set_cons_succ]
      refine wpAnyH_done (by kernel_rfl) ?_ _
      clear hHeld
      go_wp2_with fail
      go_roundw
      case rel =>
        refine ⟨j + 1, o5, m + 1, c5, by omega, by go_num, rfl, rms ++ [⟨q.req, B⟩], by rw [HMS.out.2.1], ?_, HP.out.2⟩
        rw [HTK.out]
        exact HP.out.1
      case measure => first | (simp [intOf]; done) | (simp [intOf]; omega)
    · have hlt' : ¬ (j : Int) < xkn := by omega
      have HI1 : Hid (∃ rms, m = xkn ∧ Msgs wr (fun i => w1.heap.size ≤ i) oo cc rms (q.keys.map (fun k => latP P ws k ws.length) ++ (q.wants.take 0).map (wantV P ws gone)) q.req ∧ Keeps no w1 wr) := by
        obtain ⟨rms, hm, hms, hk1⟩ := HI.out
        have e : q.keys.take j = q.keys := List.take_of_length_le (by have := HQ.out.1.1; omega)
        rw [e] at hms
        exact ⟨rms, by omega, by simpa using hms, hk1⟩
      have y6 : wr.cell? ⟨A + 1, 6, none⟩ = some (.slice xko xkn xkc) := by obtain ⟨rms, hm, hms, hk1⟩ := HI.out; rw [cell_of_blk (HB1.out.keepsN hk1).q]; rfl
      clear HI
      go_wp2_with fail
      clear y6
      go_loopw [7, 9] (fun s7 s9 wr => ∃ (j : Nat) (oo : Option Addr) (m cc : Nat), j ≤ xwn ∧ s9 = .int .i64 (j : Nat) ∧ s7 = .slice oo m cc ∧ Hid (∃ rms, m = xkn + j ∧ Msgs wr (fun i => w1.heap.size ≤ i) oo cc rms (q.keys.map (fun k => latP P ws k ws.length) ++ (q.wants.take j).map (wantV P ws gone)) q.req ∧ Keeps no w1 wr)) (fun _ s9 _ => xwn - (intOf s9).toNat)
      case atStart => exact ⟨0, oo, m, cc, by omega, rfl, rfl, by obtain ⟨rms, h1, h2, h3⟩ := HI1.out; exact ⟨rms, by omega, h2, h3⟩⟩
      case round =>
        clear HI1
        rename World => wr
        obtain ⟨j, oo, m, cc, hj, rfl, rfl, HI⟩ := hrel
        by_cases hlt : j < xwn
        · have hlt' : (j : Int) < xwn := by omega
          obtain ⟨rms, hm, hms, hk1⟩ := HI.out
          have hjk : j < q.wants.length := by rw [← HQ.out.2.1.1]; exact hlt
          have hBr := HB1.out.keepsN hk1
          obtain ⟨b, off, rfl, d0, d1⟩ := (HQ.out.2.1.2.keepsN hBr.kp).atW hjk
          have hxz := HQ.out.2.2.wz _ (getD_mem_lt w0' hjk)
          have HTK : Hid ((q.wants.take (j + 1)).map (wantV P ws gone) = (q.wants.take j).map (wantV P ws gone) ++ [wantV P ws gone (q.wants.getD j w0')]) := by show _ = _; rw [take_succ_getD q.wants j w0' hjk, List.map_append]; rfl
          generalize q.wants.getD j w0' = x at d0 d1 hxz HTK
          obtain ⟨xk, xi⟩ := x
          simp only at d0 d1 hxz
          have y7 : wr.cell? ⟨A + 1, 7, none⟩ = some (.slice (some ⟨b, off, none⟩) xwn xwc) := by rw [cell_of_blk hBr.q]; rfl
          obtain ⟨D, hD⟩ : ∃ D, D = xi / 65536 := ⟨_, rfl⟩
          have hDe : (xi : Int) / 2 ^ 16 = (D : Int) := by rw [hD]; omega
          have hDb : (D : Int) < 281474976710656 := by have := hxz.2; omega
          have hw1 : IntKind.i64.wrap ((D : Int) - 1) = (D : Int) - 1 := by rw [IntKind.wrap_i64]; omega
          have HWV : Hid (wantV P ws gone (xk, xi) = if gone + 1 ≤ D ∧ D ≤ ws.length ∧ hasB ws (D - 1) xk = true then verP ws (D - 1) xk else botV' xk) := by show _ = _; unfold wantV; simp only; rw [← hD]
          have HXZ : Hid (xk.size ≤ 65535) := hxz.1
          have HMS : Hid (m = rms.length ∧ m = xkn + j ∧ Msgs wr (fun i => w1.heap.size ≤ i) oo cc rms (q.keys.map (fun k => latP P ws k ws.length) ++ (q.wants.take j).map (wantV P ws gone)) q.req ∧ Keeps no w1 wr) := ⟨by rw [hms.len, List.length_append, List.length_map, List.length_map, List.length_take, hm, HQ.out.1.1]; omega, hm, hms, hk1⟩
          have HL2 : Hid (m ≤ 4000) := show m ≤ 4000 by omega
          generalize wantV P ws gone (xk, xi) = vP at HTK HWV
          obtain ⟨B, hB⟩ : ∃ B, B = wr.heap.size := ⟨_, rfl⟩
          have HBB : Hid (wr.heap.size = B) := hB.symm
          have HK2 : Hid (∀ W, W = (wr.alloc (.cells #[.string xk, .int .u64 (xi : Nat)] 50)).alloc (.cells #[.string xk, .int .u64 0, .string ⟨#[]⟩, .slice none 0 0] 46) → (W.heap[B]? = some (.cells #[.string xk, .int .u64 (xi : Nat)] 50 (0, 0)) ∧ W.heap[B + 1]? = some (.cells #[.string xk, .int .u64 0, .string ⟨#[]⟩, .slice none 0 0] 46 (0, 0))) ∧ Keeps no wr W) := by
            rintro W rfl
            have h := two_blk wr (.cells #[.string xk, .int .u64 (xi : Nat)] 50) (.cells #[.string xk, .int .u64 0, .string ⟨#[]⟩, .slice none 0 0] 46)
            rw [← hB] at h
            exact ⟨h, ((Keeps.refl _ _).alloc _).alloc _⟩
          clear hms hk1 hBr hxz HI hm hjk hD
          go_upto_region 11 with fail
          have h2 := HK2.out _ rfl
          rw [← hB]
          clear hB d0 d1 y7
          generalize (wr.alloc (.cells #[.string xk, .int .u64 (xi : Nat)] 50)).alloc (.cells #[.string xk, .int .u64 0, .string ⟨#[]⟩, .slice none 0 0] 46) = w2 at h2 ⊢
          have HB2 : Hid (w2.heap[B + 1]? = some (.cells #[.string xk, .int .u64 0, .string ⟨#[]⟩, .slice none 0 0] 46 (0, 0)) ∧ Keeps no wr w2) := ⟨h2.1.2, h2.2⟩
          have u0 := cell_of_blk h2.1.1 0
          have u1 := cell_of_blk h2.1.1 1
          simp only [List.getElem?_toArray, List.getElem?_cons_succ, List.getElem?_cons_zero] at u0 u1
          have hBA := HB1.out.keepsN (HMS.out.2.2.2.trans h2.2)
          have y0 := cell_of_blk hBA.a 0
          have y1 := cell_of_blk hBA.a 1
          simp only [List.getElem?_toArray, List.getElem?_cons_succ, List.getElem?_cons_zero] at y0 y1
          have HHB : Hid (D - 1 < ws.length → 1 ≤ D → Calls Try.prog 38 #[.agg #[.int .i64 P, .slice o n c], .int .i64 ((D : Int) - 1), .string xk] w2 fun e w' => e = .returned (.bool (hasB ws (D - 1) xk)) ∧ Keeps no w2 w') := fun h4 h5 => by
            have h := has_any w2 P o n c rs ws HW.out.2.2.1 (HW.out.1.keepsN hBA.kp) HW.out.2.1.fit (D - 1) h4 xk
            rw [show (((D - 1 : Nat)) : Int) = (D : Int) - 1 by omega] at h
            exact h
          have HVR : Hid (∀ X, Keeps no w2 X → D - 1 < ws.length → 1 ≤ D → Calls Try.prog 39 #[.agg #[.int .i64 P, .slice o n c], .int .i64 ((D : Int) - 1), .string xk] X (VerTo X (verP ws (D - 1) xk))) := fun X hX h4 h5 => by
            have h := version_any X P o n c rs ws HW.out.2.2.1 (HW.out.1.keepsN (hBA.kp.trans hX)) HW.out.2.1.fit (D - 1) h4 (by have := HW.out.2.1.len; omega) xk (by have := HXZ.out; omega) (HW.out.2.1.val _ h4)
            rw [show (((D - 1 : Nat)) : Int) = (D : Int) - 1 by omega] at h
            exact h
          have HNL : Hid (n = ws.length) := HW.out.2.2.1
          clear h2 HK2 hBA
          go_upto_region 12 with fail
          obtain ⟨N, hN⟩ : ∃ N : Int, N = (xi : Int) / 65536 - 1 := ⟨_, rfl⟩
          rw [← hN]
          have HN : Hid (N = (D : Int) - 1) := by show _ = _; rw [hN]; have : (xi : Int) / 2 ^ 16 = (xi : Int) / 65536 := rfl; omega
          rw [← HN.out] at HHB HVR
          have HDB : Hid ((D : Int) < 281474976710656) := hDb
          clear hN hDe hDb hw1 u1
          by_cases hc1 : gone + 1 ≤ D
          · have hc1a : (gone : Int) ≤ N := by rw [HN.out]; omega
            by_cases hc2 : D ≤ n
            · have hc2a : N < (n : Int) := by rw [HN.out]; omega
              have hD0 : (0 : Int) ≤ N := by rw [HN.out]; omega
              have HHC : Hid (Calls Try.prog 38 #[.agg #[.int .i64 P, .slice o n c], .int .i64 N, .string xk] w2 fun e w' => e = .returned (.bool (hasB ws (D - 1) xk)) ∧ Keeps no w2 w') := HHB.out (by rw [← HNL.out]; omega) (by omega)
              have HVC : Hid (∀ X, Keeps no w2 X → Calls Try.prog 39 #[.agg #[.int .i64 P, .slice o n c], .int .i64 N, .string xk] X (VerTo X (verP ws (D - 1) xk))) := fun X hX => HVR.out X hX (by rw [← HNL.out]; omega) (by omega)
              have HVE0 : Hid (vP = if hasB ws (D - 1) xk = true then verP ws (D - 1) xk else botV' xk) := by
                show _ = _
                rw [HWV.out, ← HNL.out]
                by_cases hh : hasB ws (D - 1) xk = true
                · rw [if_pos ⟨hc1, hc2, hh⟩, if_pos hh]
                · rw [if_neg (fun e => hh e.2.2), if_neg hh]
              clear hc1 hc2 HHB HVR HWV
              generalize hasB ws (D - 1) xk = hB at HHC HVE0
              generalize verP ws (D - 1) xk = vX at HVC HVE0
              go_wp2_with fail
              refine HHC.out.mono ?_
              rintro e w3 ⟨rfl, hk3⟩
              have HK3 : Hid (Keeps no w2 w3) := hk3
              have u0b := hk3.cellN u0
              have y0b := hk3.cellN y0
              have y1b := hk3.cellN y1
              clear hk3 HHC u0 y0 y1
              cases hB with
              | false =>
                have HVE : Hid (vP = botV' xk) := HVE0.out
                clear HVE0 HVC u0b y0b y1b
                have HVB : Hid (w3.heap[B + 1]? = some (.cells #[.string xk, .int .u64 0, .string ⟨#[]⟩, .slice none 0 0] 46 (0, 0)) ∧ VerN w3 ⟨xk, 0, e0, none, 0, 0⟩ vP ∧ New wr none ∧ Keeps no wr w3) := ⟨HK3.out.at HB2.out.1 id, by rw [HVE.out]; exact ⟨rfl, rfl, rfl, rfl, own_nil _⟩, new_none _, HB2.out.2.trans HK3.out⟩
                have v0 := cell_of_blk HVB.out.1 0
                have v1 := cell_of_blk HVB.out.1 1
                have v2 := cell_of_blk HVB.out.1 2
                have v3 := cell_of_blk HVB.out.1 3
                simp only [List.getElem?_toArray, List.getElem?_cons_succ, List.getElem?_cons_zero] at v0 v1 v2 v3
                have y3 : World.cell? w3 ⟨A + 1, 3, none⟩ = some (.int .u64 (q.req : Nat)) := by rw [cell_of_blk (HB1.out.keepsN (HMS.out.2.2.2.trans HVB.out.2.2.2)).q]; rfl
                have HAN : Hid (Calls Try.prog 14 #[.int .u64 (q.req : Nat), .agg #[.string xk, .int .u64 0, .string ⟨#[]⟩, .slice none 0 0]] w3 fun e w' => ∃ B, e = .returned (aggC 7 3 q.req 0 none none none (some ⟨B, 0, none⟩) 0 0 0 1 0 0 0 1) ∧ Sl VE w' (some ⟨B, 0, none⟩) 1 [⟨xk, 0, e0, none, 0, 0⟩] ∧ w3.heap.size ≤ B ∧ Keeps no w3 w') := answer_any w3 q.req ⟨xk, 0, e0, none, 0, 0⟩
                go_wp2_with fail
                refine HAN.out.mono ?_
                rintro e zb ⟨B5, rfl, hbs, hBl, hkb⟩
                have HKB : Hid (Keeps no wr zb ∧ MsgAt zb (fun i => wr.heap.size ≤ i) B5 vP) := ⟨HVB.out.2.2.2.trans hkb, ans_msg HVB.out.2.1 HVB.out.2.2.1 HVB.out.2.2.2 hbs hBl hkb⟩
                clear hbs hBl hkb HAN HVB v0 v1 v2 v3 y3
                unfold aggC
                have HZC : Hid (Keeps no wr (zb.alloc (.cells #[.int .i64 7, .int .i64 3, .int .u64 (q.req : Nat), .int .u64 0, .slice none 0 0, .slice none 0 0, .slice none 0 0, .slice (some ⟨B5, 0, none⟩) 1 1] 42)) ∧ MsgAt (zb.alloc (.cells #[.int .i64 7, .int .i64 3, .int .u64 (q.req : Nat), .int .u64 0, .slice none 0 0, .slice none 0 0, .slice none 0 0, .slice (some ⟨B5, 0, none⟩) 1 1] 42)) (fun i => wr.heap.size ≤ i) B5 vP ∧ Row ME (zb.alloc (.cells #[.int .i64 7, .int .i64 3, .int .u64 (q.req : Nat), .int .u64 0, .slice none 0 0, .slice none 0 0, .slice none 0 0, .slice (some ⟨B5, 0, none⟩) 1 1] 42)) (some ⟨zb.heap.size, 0, none⟩) [⟨q.req, B5⟩]) := ⟨HKB.out.1.alloc _, HKB.out.2.keepsN ((Keeps.refl no zb).alloc _), (lit_one (E := ME) zb ⟨q.req, B5⟩ #[.int .i64 7, .int .i64 3, .int .u64 (q.req : Nat), .int .u64 0, .slice none 0 0, .slice none 0 0, .slice none 0 0, .slice (some ⟨B5, 0, none⟩) 1 1] rfl).row⟩
                go_wp2_with (at_builtin; refine wpList_app okM rfl _ _ rfl oo m cc rms rfl HMS.out.1 (HMS.out.2.2.1.own.keepsN HZC.out.1) (some ⟨zb.heap.size, 0, none⟩) 1 1 [⟨q.req, B5⟩] rfl rfl (fun e => by cases e) HZC.out.2.2 (by have := HMS.out.1; have := HL2.out; simp [ME]; omega) (by have := HMS.out.1; have := HL2.out; simp; omega) ?_; intro o5 c5 w5 ho5 hap5; have HP : Hid _ := HMS.out.2.2.1.push HMS.out.2.2.2 HZC.out.1 rfl HZC.out.2.1 ho5 hap5; clear ho5 hap5)
                go_roundw
                case rel =>
                  refine ⟨j + 1, o5, m + 1, c5, by omega, by go_num, rfl, rms ++ [⟨q.req, B5⟩], by have := HMS.out.2.1; omega, ?_, HP.out.2⟩
                  rw [HTK.out, ← List.append_assoc]
                  exact HP.out.1
                case measure => first | (simp [intOf]; done) | (simp [intOf]; omega)
              | true =>
                have HVE : Hid (vP = vX) := HVE0.out
                clear HVE0
                go_wp2_with fail
                refine (HVC.out _ HK3.out).mono ?_
                rintro e w4 ⟨⟨rk, ri, rv, ro, rn, rc⟩, rfl, hv, hnw, hk4⟩
                have hz0 := (HK3.out.trans hk4).at HB2.out.1 id
                obtain ⟨x0, x1, x2, x3⟩ := cells4 hz0
                have f0 := frozen_of_blk hz0 0
                have f1 := frozen_of_blk hz0 1
                have f2 := frozen_of_blk hz0 2
                have f3 := frozen_of_blk hz0 3
                have HS4 : Hid _ := set4 (b0 := .string rk) (b1 := .int .u64 (ri : Nat)) (b2 := .string rv) (b3 := .slice ro rn rc) hz0
                have HV4 : Hid _ := And.intro hv (And.intro hnw hk4)
                clear hv hnw hk4 hz0
                unfold aggV
                go_upto_region 14 with fail
                have HVB0 := And.intro HS4.out.1 (And.intro (HV4.out.1.keeps HS4.out.2 (fun q hq e => by have h1 := HV4.out.2.1 q hq; have h2 := lt_of_block (HK3.out.at HB2.out.1 id); unfold eqB at e; omega)) (((HB2.out.2.trans HK3.out).trans HV4.out.2.2).then HS4.out.2 (fun q e => .inr (by have := HBB.out; unfold eqB at e; omega))))
                have HNW : Hid (New wr ro) := HV4.out.2.1.of_le (HB2.out.2.trans HK3.out).size
                clear HS4 HV4 x0 x1 x2 x3 f0 f1 f2 f3
                generalize (((w4.setCell ⟨B + 1, 0, none⟩ (.string rk)).setCell ⟨B + 1, 1, none⟩ (.int .u64 (ri : Nat))).setCell ⟨B + 1, 2, none⟩ (.string rv)).setCell ⟨B + 1, 3, none⟩ (.slice ro rn rc) = w6 at HVB0 ⊢
                have HVB : Hid (w6.heap[B + 1]? = some (.cells #[.string rk, .int .u64 (ri : Nat), .string rv, .slice ro rn rc] 46 (0, 0)) ∧ VerN w6 ⟨rk, ri, rv, ro, rn, rc⟩ vP ∧ New wr ro ∧ Keeps no wr w6) := ⟨HVB0.1, by rw [HVE.out]; exact HVB0.2.1, HNW.out, HVB0.2.2⟩
                clear HVB0 HNW u0b y0b y1b HVC
                have v0 := cell_of_blk HVB.out.1 0
                have v1 := cell_of_blk HVB.out.1 1
                have v2 := cell_of_blk HVB.out.1 2
                have v3 := cell_of_blk HVB.out.1 3
                simp only [List.getElem?_toArray, List.getElem?_cons_succ, List.getElem?_cons_zero] at v0 v1 v2 v3
                have y3 : World.cell? w6 ⟨A + 1, 3, none⟩ = some (.int .u64 (q.req : Nat)) := by rw [cell_of_blk (HB1.out.keepsN (HMS.out.2.2.2.trans HVB.out.2.2.2)).q]; rfl
                have HAN : Hid (Calls Try.prog 14 #[.int .u64 (q.req : Nat), .agg #[.string rk, .int .u64 (ri : Nat), .string rv, .slice ro rn rc]] w6 fun e w' => ∃ B, e = .returned (aggC 7 3 q.req 0 none none none (some ⟨B, 0, none⟩) 0 0 0 1 0 0 0 1) ∧ Sl VE w' (some ⟨B, 0, none⟩) 1 [⟨rk, ri, rv, ro, rn, rc⟩] ∧ w6.heap.size ≤ B ∧ Keeps no w6 w') := answer_any w6 q.req ⟨rk, ri, rv, ro, rn, rc⟩
                go_wp2_with fail
                refine HAN.out.mono ?_
                rintro e zb ⟨B5, rfl, hbs, hBl, hkb⟩
                have HKB : Hid (Keeps no wr zb ∧ MsgAt zb (fun i => wr.heap.size ≤ i) B5 vP) := ⟨HVB.out.2.2.2.trans hkb, ans_msg HVB.out.2.1 HVB.out.2.2.1 HVB.out.2.2.2 hbs hBl hkb⟩
                clear hbs hBl hkb HAN HVB v0 v1 v2 v3 y3
                unfold aggC
                have HZC : Hid (Keeps no wr (zb.alloc (.cells #[.int .i64 7, .int .i64 3, .int .u64 (q.req : Nat), .int .u64 0, .slice none 0 0, .slice none 0 0, .slice none 0 0, .slice (some ⟨B5, 0, none⟩) 1 1] 42)) ∧ MsgAt (zb.alloc (.cells #[.int .i64 7, .int .i64 3, .int .u64 (q.req : Nat), .int .u64 0, .slice none 0 0, .slice none 0 0, .slice none 0 0, .slice (some ⟨B5, 0, none⟩) 1 1] 42)) (fun i => wr.heap.size ≤ i) B5 vP ∧ Row ME (zb.alloc (.cells #[.int .i64 7, .int .i64 3, .int .u64 (q.req : Nat), .int .u64 0, .slice none 0 0, .slice none 0 0, .slice none 0 0, .slice (some ⟨B5, 0, none⟩) 1 1] 42)) (some ⟨zb.heap.size, 0, none⟩) [⟨q.req, B5⟩]) := ⟨HKB.out.1.alloc _, HKB.out.2.keepsN ((Keeps.refl no zb).alloc _), (lit_one (E := ME) zb ⟨q.req, B5⟩ #[.int .i64 7, .int .i64 3, .int .u64 (q.req : Nat), .int .u64 0, .slice none 0 0, .slice none 0 0, .slice none 0 0, .slice (some ⟨B5, 0, none⟩) 1 1] rfl).row⟩
                go_wp2_with (at_builtin; refine wpList_app okM rfl _ _ rfl oo m cc rms rfl HMS.out.1 (HMS.out.2.2.1.own.keepsN HZC.out.1) (some ⟨zb.heap.size, 0, none⟩) 1 1 [⟨q.req, B5⟩] rfl rfl (fun e => by cases e) HZC.out.2.2 (by have := HMS.out.1; have := HL2.out; simp [ME]; omega) (by have := HMS.out.1; have := HL2.out; simp; omega) ?_; intro o5 c5 w5 ho5 hap5; have HP : Hid _ := HMS.out.2.2.1.push HMS.out.2.2.2 HZC.out.1 rfl HZC.out.2.1 ho5 hap5; clear ho5 hap5)
                go_roundw
                case rel =>
                  refine ⟨j + 1, o5, m + 1, c5, by omega, by go_num, rfl, rms ++ [⟨q.req, B5⟩], by have := HMS.out.2.1; omega, ?_, HP.out.2⟩
                  rw [HTK.out, ← List.append_assoc]
                  exact HP.out.1
                case measure => first | (simp [intOf]; done) | (simp [intOf]; omega)
            · have hc2a : ¬ N < (n : Int) := by rw [HN.out]; omega
              have HVE : Hid (vP = botV' xk) := by show _ = _; rw [HWV.out, if_neg (fun e => hc2 (by rw [HNL.out]; exact e.2.1))]
              clear hc1 hc2 HHB HVR HWV
              have HVB : Hid (w2.heap[B + 1]? = some (.cells #[.string xk, .int .u64 0, .string ⟨#[]⟩, .slice none 0 0] 46 (0, 0)) ∧ VerN w2 ⟨xk, 0, e0, none, 0, 0⟩ vP ∧ New wr none ∧ Keeps no wr w2) := ⟨(Keeps.refl no w2).at HB2.out.1 id, by rw [HVE.out]; exact ⟨rfl, rfl, rfl, rfl, own_nil _⟩, new_none _, HB2.out.2.trans (Keeps.refl no w2)⟩
              have v0 := cell_of_blk HVB.out.1 0
              have v1 := cell_of_blk HVB.out.1 1
              have v2 := cell_of_blk HVB.out.1 2
              have v3 := cell_of_blk HVB.out.1 3
              simp only [List.getElem?_toArray, List.getElem?_cons_succ, List.getElem?_cons_zero] at v0 v1 v2 v3
              have y3 : World.cell? w2 ⟨A + 1, 3, none⟩ = some (.int .u64 (q.req : Nat)) := by rw [cell_of_blk (HB1.out.keepsN (HMS.out.2.2.2.trans HVB.out.2.2.2)).q]; rfl
              have HAN : Hid (Calls Try.prog 14 #[.int .u64 (q.req : Nat), .agg #[.string xk, .int .u64 0, .string ⟨#[]⟩, .slice none 0 0]] w2 fun e w' => ∃ B, e = .returned (aggC 7 3 q.req 0 none none none (some ⟨B, 0, none⟩) 0 0 0 1 0 0 0 1) ∧ Sl VE w' (some ⟨B, 0, none⟩) 1 [⟨xk, 0, e0, none, 0, 0⟩] ∧ w2.heap.size ≤ B ∧ Keeps no w2 w') := answer_any w2 q.req ⟨xk, 0, e0, none, 0, 0⟩
              go_wp2_with fail
              refine HAN.out.mono ?_
              rintro e zb ⟨B5, rfl, hbs, hBl, hkb⟩
              have HKB : Hid (Keeps no wr zb ∧ MsgAt zb (fun i => wr.heap.size ≤ i) B5 vP) := ⟨HVB.out.2.2.2.trans hkb, ans_msg HVB.out.2.1 HVB.out.2.2.1 HVB.out.2.2.2 hbs hBl hkb⟩
              clear hbs hBl hkb HAN HVB v0 v1 v2 v3 y3
              unfold aggC
              have HZC : Hid (Keeps no wr (zb.alloc (.cells #[.int .i64 7, .int .i64 3, .int .u64 (q.req : Nat), .int .u64 0, .slice none 0 0, .slice none 0 0, .slice none 0 0, .slice (some ⟨B5, 0, none⟩) 1 1] 42)) ∧ MsgAt (zb.alloc (.cells #[.int .i64 7, .int .i64 3, .int .u64 (q.req : Nat), .int .u64 0, .slice none 0 0, .slice none 0 0, .slice none 0 0, .slice (some ⟨B5, 0, none⟩) 1 1] 42)) (fun i => wr.heap.size ≤ i) B5 vP ∧ Row ME (zb.alloc (.cells #[.int .i64 7, .int .i64 3, .int .u64 (q.req : Nat), .int .u64 0, .slice none 0 0, .slice none 0 0, .slice none 0 0, .slice (some ⟨B5, 0, none⟩) 1 1] 42)) (some ⟨zb.heap.size, 0, none⟩) [⟨q.req, B5⟩]) := ⟨HKB.out.1.alloc _, HKB.out.2.keepsN ((Keeps.refl no zb).alloc _), (lit_one (E := ME) zb ⟨q.req, B5⟩ #[.int .i64 7, .int .i64 3, .int .u64 (q.req : Nat), .int .u64 0, .slice none 0 0, .slice none 0 0, .slice none 0 0, .slice (some ⟨B5, 0, none⟩) 1 1] rfl).row⟩
              go_wp2_with (at_builtin; refine wpList_app okM rfl _ _ rfl oo m cc rms rfl HMS.out.1 (HMS.out.2.2.1.own.keepsN HZC.out.1) (some ⟨zb.heap.size, 0, none⟩) 1 1 [⟨q.req, B5⟩] rfl rfl (fun e => by cases e) HZC.out.2.2 (by have := HMS.out.1; have := HL2.out; simp [ME]; omega) (by have := HMS.out.1; have := HL2.out; simp; omega) ?_; intro o5 c5 w5 ho5 hap5; have HP : Hid _ := HMS.out.2.2.1.push HMS.out.2.2.2 HZC.out.1 rfl HZC.out.2.1 ho5 hap5; clear ho5 hap5)
              go_roundw
              case rel =>
                refine ⟨j + 1, o5, m + 1, c5, by omega, by go_num, rfl, rms ++ [⟨q.req, B5⟩], by have := HMS.out.2.1; omega, ?_, HP.out.2⟩
                rw [HTK.out, ← List.append_assoc]
                exact HP.out.1
              case measure => first | (simp [intOf]; done) | (simp [intOf]; omega)
          · have hc1a : ¬ (gone : Int) ≤ N := by rw [HN.out]; omega
            have HVE : Hid (vP = botV' xk) := by show _ = _; rw [HWV.out, if_neg (fun e => hc1 e.1)]
            clear hc1 HHB HVR HWV
            have HVB : Hid (w2.heap[B + 1]? = some (.cells #[.string xk, .int .u64 0, .string ⟨#[]⟩, .slice none 0 0] 46 (0, 0)) ∧ VerN w2 ⟨xk, 0, e0, none, 0, 0⟩ vP ∧ New wr none ∧ Keeps no wr w2) := ⟨(Keeps.refl no w2).at HB2.out.1 id, by rw [HVE.out]; exact ⟨rfl, rfl, rfl, rfl, own_nil _⟩, new_none _, HB2.out.2.trans (Keeps.refl no w2)⟩
            have v0 := cell_of_blk HVB.out.1 0
            have v1 := cell_of_blk HVB.out.1 1
            have v2 := cell_of_blk HVB.out.1 2
            have v3 := cell_of_blk HVB.out.1 3
            simp only [List.getElem?_toArray, List.getElem?_cons_succ, List.getElem?_cons_zero] at v0 v1 v2 v3
            have y3 : World.cell? w2 ⟨A + 1, 3, none⟩ = some (.int .u64 (q.req : Nat)) := by rw [cell_of_blk (HB1.out.keepsN (HMS.out.2.2.2.trans HVB.out.2.2.2)).q]; rfl
            have HAN : Hid (Calls Try.prog 14 #[.int .u64 (q.req : Nat), .agg #[.string xk, .int .u64 0, .string ⟨#[]⟩, .slice none 0 0]] w2 fun e w' => ∃ B, e = .returned (aggC 7 3 q.req 0 none none none (some ⟨B, 0, none⟩) 0 0 0 1 0 0 0 1) ∧ Sl VE w' (some ⟨B, 0, none⟩) 1 [⟨xk, 0, e0, none, 0, 0⟩] ∧ w2.heap.size ≤ B ∧ Keeps no w2 w') := answer_any w2 q.req ⟨xk, 0, e0, none, 0, 0⟩
            go_wp2_with fail
            refine HAN.out.mono ?_
            rintro e zb ⟨B5, rfl, hbs, hBl, hkb⟩
            have HKB : Hid (Keeps no wr zb ∧ MsgAt zb (fun i => wr.heap.size ≤ i) B5 vP) := ⟨HVB.out.2.2.2.trans hkb, ans_msg HVB.out.2.1 HVB.out.2.2.1 HVB.out.2.2.2 hbs hBl hkb⟩
            clear hbs hBl hkb HAN HVB v0 v1 v2 v3 y3
            unfold aggC
            have HZC : Hid (Keeps no wr (zb.alloc (.cells #[.int .i64 7, .int .i64 3, .int .u64 (q.req : Nat), .int .u64 0, .slice none 0 0, .slice none 0 0, .slice none 0 0, .slice (some ⟨B5, 0, none⟩) 1 1] 42)) ∧ MsgAt (zb.alloc (.cells #[.int .i64 7, .int .i64 3, .int .u64 (q.req : Nat), .int .u64 0, .slice none 0 0, .slice none 0 0, .slice none 0 0, .slice (some ⟨B5, 0, none⟩) 1 1] 42)) (fun i => wr.heap.size ≤ i) B5 vP ∧ Row ME (zb.alloc (.cells #[.int .i64 7, .int .i64 3, .int .u64 (q.req : Nat), .int .u64 0, .slice none 0 0, .slice none 0 0, .slice none 0 0, .slice (some ⟨B5, 0, none⟩) 1 1] 42)) (some ⟨zb.heap.size, 0, none⟩) [⟨q.req, B5⟩]) := ⟨HKB.out.1.alloc _, HKB.out.2.keepsN ((Keeps.refl no zb).alloc _), (lit_one (E := ME) zb ⟨q.req, B5⟩ #[.int .i64 7, .int .i64 3, .int .u64 (q.req : Nat), .int .u64 0, .slice none 0 0, .slice none 0 0, .slice none 0 0, .slice (some ⟨B5, 0, none⟩) 1 1] rfl).row⟩
            go_wp2_with (at_builtin; refine wpList_app okM rfl _ _ rfl oo m cc rms rfl HMS.out.1 (HMS.out.2.2.1.own.keepsN HZC.out.1) (some ⟨zb.heap.size, 0, none⟩) 1 1 [⟨q.req, B5⟩] rfl rfl (fun e => by cases e) HZC.out.2.2 (by have := HMS.out.1; have := HL2.out; simp [ME]; omega) (by have := HMS.out.1; have := HL2.out; simp; omega) ?_; intro o5 c5 w5 ho5 hap5; have HP : Hid _ := HMS.out.2.2.1.push HMS.out.2.2.2 HZC.out.1 rfl HZC.out.2.1 ho5 hap5; clear ho5 hap5)
            go_roundw
            case rel =>
              refine ⟨j + 1, o5, m + 1, c5, by omega, by go_num, rfl, rms ++ [⟨q.req, B5⟩], by have := HMS.out.2.1; omega, ?_, HP.out.2⟩
              rw [HTK.out, ← List.append_assoc]
              exact HP.out.1
            case measure => first | (simp [intOf]; done) | (simp [intOf]; omega)
        · have hlt' : ¬ (j : Int) < xwn := by omega
          have y7 : wr.cell? ⟨A + 1, 7, none⟩ = some (.slice xwo xwn xwc) := by obtain ⟨rms, hm, hms, hk1⟩ := HI.out; rw [cell_of_blk (HB1.out.keepsN hk1).q]; rfl
          have HE : Hid (∃ rms, m = vsA.length ∧ Msgs wr (fun i => w.heap.size ≤ i) oo cc rms vsA q.req ∧ Keeps no w wr) := by
            obtain ⟨rms, hm, hms, hk1⟩ := HI.out
            have e : q.wants.take j = q.wants := List.take_of_length_le (by have := HQ.out.2.1.1; omega)
            rw [e] at hms
            rw [HAV.out]
            have hB := HB1.out.kp
            refine ⟨rms, ?_, ⟨hms.own, hms.len, fun a ha => ⟨(hms.each a ha).1, (hms.each a ha).2.mono (fun i h1 _ => ⟨Nat.le_trans hB.size h1.1, h1.2⟩)⟩, fun i hi => Nat.le_trans hB.size (hms.blk i hi)⟩, hB.trans hk1⟩
            rw [List.length_append, List.length_map, List.length_map]
            have := HQ.out.1.1
            have := HQ.out.2.1.1
            omega
          clear HI
          go_wp2_with fail
          go_ret
          obtain ⟨rms, h1, h2, h3⟩ := HE.out
          exact ⟨oo, m, cc, rms, rfl, h1, h2, h3⟩
end Go.Proofs.Ytileipnoiocdlaa

/- The document's read. -/
import Derived.Test.YtdalheeifgampabDoorE6b
import Derived.Deep.RegionWith
import Derived.Deep.CutBlock
namespace Go.Proofs.YtdalheeifgampabDoor
open Go.RowKit Go.Sort Orl Pk
set_option linter.unusedVariables false
set_option linter.unusedSimpArgs false

theorem Own.asideE {α β : Type} {E : El α} {F : El β} (hne : E.e ≠ F.e) {w w' : World} {oa o' o : Option Addr} {ca c : Nat} {xs : List α} {ys : List β} (h : Own F w o c ys) (hO : Own E w oa ca xs) (hap : Ap w oa o' w') : Own F w' o c ys := by
  rcases hap with ⟨rfl, hh⟩ | ⟨_, hh⟩
  · exact h.keeps hh (fun j hj hi => own_ne hne hO h j hi hj)
  · exact h.keepsN hh
theorem own_oneTE (w : World) (x : Tx) : Sl TE (w.alloc (.cells #[.string x] 9)) (some ⟨w.heap.size, 0, none⟩) 1 [x] := by
  refine ⟨.inr ⟨_, _, rfl, fun j u hj => ?_⟩, by simp, fun e => by cases e⟩
  rw [cell_of_blk (blk_new w _), Nat.zero_add]
  simpa [El.cells, TE] using hj
/-- what read holds while it reads: the result B, the record C -/
structure DrS (w : World) (B C : Nat) (cs : Array Value) (wr : World) : Prop where
  kp : Keeps no w wr
  b : wr.heap[B]? = some (.cells #[.int .i64 0, .int .u64 0, .slice none 0 0, .slice none 0 0] 30 (0, 0))
  c : wr.heap[C]? = some (.cells cs 30 (0, 0))
  lt : B = w.heap.size ∧ C = B + 1
theorem DrS.keepsN {w : World} {B C : Nat} {cs : Array Value} {wr w' : World} (h : DrS w B C cs wr) (k : Keeps no wr w') : DrS w B C cs w' :=
  ⟨h.kp.trans k, k.at h.b id, k.at h.c id, h.lt⟩
theorem DrS.set {w : World} {B C : Nat} {cs : Array Value} {wr : World} (h : DrS w B C cs wr) (i : Nat) (v : Value) : DrS w B C (cs.setIfInBounds i v) (wr.setCell ⟨C, i, none⟩ v) ∧ Keeps (eqA C) wr (wr.setCell ⟨C, i, none⟩ v) := by
  have hl := h.lt
  have kS : Keeps (eqA C) wr (wr.setCell ⟨C, i, none⟩ v) := (Keeps.refl (eqA C) wr).setA i v
  exact ⟨⟨h.kp.then kS (fun j hj => .inr (by unfold eqA at hj; omega)), kS.at h.b (by unfold eqA; omega), blk_set h.c i v, h.lt⟩, kS⟩
theorem DrS.ap {w : World} {B C : Nat} {cs : Array Value} {wr w' : World} (h : DrS w B C cs wr) {o o' : Option Addr} (hn : ∀ j, inO o j → C < j) (hap : Ap wr o o' w') : DrS w B C cs w' ∧ ∀ j, inO o' j → C < j := by
  have hl := h.lt
  have hcl := lt_of_block h.c
  rcases hap with ⟨rfl, hh⟩ | ⟨⟨g, rfl, hg⟩, hh⟩
  · exact ⟨⟨h.kp.then hh (fun j hj => .inr (by have := hn j hj; omega)), hh.at h.b (fun hi => by have := hn _ hi; omega), hh.at h.c (fun hi => by have := hn _ hi; omega), h.lt⟩, hn⟩
  · refine ⟨h.keepsN hh, ?_⟩
    rintro j ⟨x, e, rfl⟩
    cases e
    show C < g
    omega
theorem lots_ge {α : Type} {f : Nat → α × Nat} (h : ∀ a, a + 4 ≤ (f a).2) (a : Nat) : ∀ n, a + 4 * n ≤ (lots f a n).2
  | 0 => by simp [lots]
  | n + 1 => by
    have := lots_ge h a n
    have := h (lots f a n).2
    rw [lots]; simp only; omega
theorem lots_mem {α : Type} {f : Nat → α × Nat} (P : α → Prop) (h : ∀ a, P (f a).1) (a : Nat) : ∀ n, ∀ x ∈ (lots f a n).1, P x
  | 0, x, hx => by simp [lots] at hx
  | n + 1, x, hx => by
    simp only [lots, List.mem_append, List.mem_singleton] at hx
    rcases hx with hx | rfl
    · exact lots_mem P h a n x hx
    · exact h _
theorem pair1_ge {b : List Nat} (hb : ∀ c ∈ b, c < 256) (a : Nat) : a + 4 ≤ (pair1 b a).2 ∧ (pair1 b a).2 ≤ a + 8589934600 := by
  have h1 := (pieceP_byt hb a).2.2
  have h2 := (pieceP_byt hb (pieceP b a).2).2.2
  unfold pair1; simp only; omega
theorem key1_ge {b : List Nat} (hb : ∀ c ∈ b, c < 256) (a : Nat) : a + 4 ≤ (key1 b a).2 ∧ (key1 b a).2 ≤ a + 4294967300 := (pieceP_byt hb a).2.2
theorem pair1_size {b : List Nat} (hb : ∀ c ∈ b, c < 256) (hl : b.length ≤ 1048576) (a : Nat) : (pair1 b a).1.1.size ≤ 1048576 ∧ (pair1 b a).1.2.size ≤ 1048576 := by
  have h1 := (pieceP_byt hb a).2.1
  have h2 := (pieceP_byt hb (pieceP b a).2).2.1
  unfold pair1; simp only [text_size]; omega
theorem key1_size {b : List Nat} (hb : ∀ c ∈ b, c < 256) (hl : b.length ≤ 1048576) (a : Nat) : (key1 b a).1.size ≤ 1048576 := by
  have h1 := (pieceP_byt hb a).2.1
  unfold key1; simp only [text_size]; omega
/-- what the document's read tells -/
def DReadTo (w : World) (p : List Nat) (e : Ending) (w' : World) : Prop :=
  ∃ (k : Int) (i : Nat) (op : Option Addr) (np cp : Nat) (ok : Option Addr) (nk ck : Nat), e = .returned (.tuple #[.agg #[.int .i64 k, .int .u64 (i : Nat), .slice op np cp, .slice ok nk ck], .bool (rok p)]) ∧ Hid (Got w w' ⟨k, i, op, np, cp, ok, nk, ck⟩ (if rok p then (rrec p).1 else c0)) ∧ Keeps no w w'
theorem dread_no {w w' : World} {p : List Nat} (h : rok p = false) (hk : Keeps no w w') : DReadTo w p (.returned (.tuple #[.agg #[.int .i64 0, .int .u64 0, .slice none 0 0, .slice none 0 0], .bool false])) w' := by
  refine ⟨0, 0, none, 0, 0, none, 0, 0, by rw [h]; rfl, ?_, hk⟩
  rw [h]
  exact got0 _ _
/-- the record that was read -/
structure Rd (w : World) (B C : Nat) (p : List Nat) (v : CV) (r : Rec) (W : World) : Prop where
  s : DrS w B C #[.int .i64 v.k, .int .u64 (v.i : Nat), .slice v.op v.np v.cp, .slice v.ok v.nk v.ck] W
  g : Got w W v r
  l : Len p r
  n : ∀ j, v.blk j → C < j
/-- what the first loop of read holds: q pairs, up to A -/
structure L1 (w : World) (B C : Nat) (p : List Nat) (K I q A : Nat) (oo : Option Addr) (mo co : Nat) (W : World) : Prop where
  s : DrS w B C #[.int .i64 (K : Nat), .int .u64 (I : Nat), .slice oo mo co, .slice none 0 0] W
  o : Own PE W oo co (lots (pair1 p) 13 q).1
  n : ∀ j, inO oo j → C < j
  a : A = (lots (pair1 p) 13 q).2
  m : mo = q
/-- what the second loop of read holds: q keys, up to A2 -/
structure L2 (w : World) (B C : Nat) (p : List Nat) (K I q A : Nat) (oo : Option Addr) (mo co : Nat) (q2 A2 : Nat) (ok : Option Addr) (mk ck : Nat) (W : World) : Prop where
  s : DrS w B C #[.int .i64 (K : Nat), .int .u64 (I : Nat), .slice oo mo co, .slice ok mk ck] W
  o : Own PE W oo co (lots (pair1 p) 13 q).1
  n : ∀ j, inO oo j → C < j
  o2 : Own TE W ok ck (lots (key1 p) (A + 4) q2).1
  n2 : ∀ j, inO ok j → C < j
  a2 : A2 = (lots (key1 p) (A + 4) q2).2
  m2 : mk = q2
theorem Rd.keepsN {w : World} {B C : Nat} {p : List Nat} {v : CV} {r : Rec} {W W' : World} (h : Rd w B C p v r W) (k : Keeps no W W') : Rd w B C p v r W' := ⟨h.s.keepsN k, h.g.keepsN k, h.l, h.n⟩
theorem rd_of {w : World} {B C : Nat} {p : List Nat} (hb : ∀ c ∈ p, c < 256) (hp : p.length ≤ 1048576) {K I q A : Nat} {oo : Option Addr} {mo co : Nat} {q2 A2 : Nat} {ok : Option Addr} {mk ck : Nat} {W : World} (h : L2 w B C p K I q A oo mo co q2 A2 ok mk ck W) (hA : A = (lots (pair1 p) 13 q).2) (hm : mo = q) (hk : K = 1) (hK : K = getP p 0 1) (hI : I = getP p 1 8)
    (e1 : Ends p (pair1 p) 13 (getP p 9 4) q) (e2 : Ends p (key1 p) (A + 4) (getP p A 4) q2) (hq : q ≤ 1048577) (hq2 : q2 ≤ 1048577) : Rd w B C p ⟨K, I, oo, mo, co, ok, mk, ck⟩ ⟨K, I, (lots (pair1 p) 13 q).1, (lots (key1 p) (A + 4) q2).1⟩ W := by
  have hl := h.s.lt
  have hI8 := getP_lt hb 1 8
  refine ⟨h.s, ⟨rfl, rfl, by simp only [lots_length]; exact hm, by simp only [lots_length]; exact h.m2, h.o, h.o2, fun j hj => by have := h.n j hj; omega, fun j hj => by have := h.n2 j hj; omega, ?_⟩, ?_, fun j hj => hj.elim (h.n j) (h.n2 j)⟩
  · refine ⟨by simp only [lots_length]; omega, fun s hs => ?_, by simp only [lots_length]; omega, fun s hs => ?_, by simp only; omega, by simp only; omega, by simp only; omega⟩
    · have := lots_mem (fun x : Tx => x.size ≤ 1048576) (key1_size hb hp) (A + 4) q2 s hs
      omega
    · have := lots_mem (fun x : Pr => x.1.size ≤ 1048576 ∧ x.2.size ≤ 1048576) (pair1_size hb hp) 13 q s hs
      omega
  · refine ⟨by simp only; omega, hI, fun _ => ⟨q, q2, e1, ?_, rfl, ?_⟩, fun h => absurd (by omega) h⟩
    · rw [← hA]; exact e2
    · simp only; rw [hA]
theorem rd_two {w : World} {B C : Nat} {p : List Nat} (hb : ∀ c ∈ p, c < 256) {K I : Nat} {W : World} (h : DrS w B C #[.int .i64 (K : Nat), .int .u64 (I : Nat), .slice none 0 0, .slice none 0 0] W) (hk : K ≠ 1) (hK : K = getP p 0 1) (hI : I = getP p 1 8) : Rd w B C p ⟨K, I, none, 0, 0, none, 0, 0⟩ ⟨K, I, [], []⟩ W := by
  have hK1 := getP_lt hb 0 1
  have hI8 := getP_lt hb 1 8
  refine ⟨h, ⟨rfl, rfl, rfl, rfl, own_nil _, own_nil _, new_none _, new_none _, ⟨by simp, fun s hs => (by cases hs), by simp, fun s hs => (by cases hs), by simp only; omega, by simp only; omega, by simp only; omega⟩⟩, ?_, fun j hj => by rcases hj with ⟨x, e, _⟩ | ⟨x, e, _⟩ <;> cases e⟩
  exact ⟨by simp only; omega, hI, fun h => absurd (by omega) hk, fun _ => ⟨rfl, rfl⟩⟩

set_option maxRecDepth 10000 in
set_option maxHeartbeats 4000000 in
theorem dRead_any (w : World) (o : Option Addr) (n c : Nat) (p : List Nat) (hn : n = p.length) (hnb : (n : Int) ≤ 1048576) (hs : BSl w o c p) :
    Calls Tryd.prog 19 #[.slice o n c] w (DReadTo w p) := by
  have HN : Hid (n = p.length) := hn
  have HBY : Hid (∀ c ∈ p, c < 256) := hs.row.1
  have HNB : Hid (p.length ≤ 1048576) := by show _ ≤ _; omega
  have kB : Keeps no w (w.alloc (.cells #[.int .i64 0, .int .u64 0, .slice none 0 0, .slice none 0 0] 30)) := (Keeps.refl _ _).alloc _
  have HKB : Hid (Keeps no w (w.alloc (.cells #[.int .i64 0, .int .u64 0, .slice none 0 0, .slice none 0 0] 30))) := kB
  have HS : Hid (∀ w', Keeps no w w' → BSl w' o c p) := fun w' hk => hs.keeps hk (fun _ _ h => h)
  clear hn hs kB
  go_enter Tryd.func19, Tryd.ntmps19
  go_wp2_with fail
  refine (dGet_any _ o n c p 0 1 HN.out (HS.out _ HKB.out).row (by omega) (by omega) (by omega)).mono ?_
  rintro e w1 ⟨rfl, hw1⟩
  subst w1
  have hk1 := getP_lt HBY.out 0 1
  obtain ⟨K, hK⟩ : ∃ K, K = getP p 0 1 := ⟨_, rfl⟩
  rw [← hK] at hk1 ⊢
  have hKb : (K : Int) ≤ 255 := by omega
  have HKP : Hid (K = getP p 0 1) := hK
  clear hk1 hK
  go_wp2_with fail
  refine (dGet_any _ o n c p 1 8 HN.out (HS.out _ HKB.out).row (by omega) (by omega) (by omega)).mono ?_
  rintro e w1 ⟨rfl, hw1⟩
  subst w1
  have hk2 := getP_lt HBY.out 1 8
  obtain ⟨I, hI⟩ : ∃ I, I = getP p 1 8 := ⟨_, rfl⟩
  have HKI : Hid (K = getP p 0 1 ∧ I = getP p 1 8) := ⟨HKP.out, hI⟩
  rw [← hI] at hk2 ⊢
  have HIb : Hid (I < 18446744073709551616) := by show _ < _; omega
  clear hk2 hI HKP
  have HD0 : Hid (DrS w w.heap.size (w.heap.size + 1) #[.int .i64 (K : Nat), .int .u64 (I : Nat), .slice none 0 0, .slice none 0 0] ((w.alloc (.cells #[.int .i64 0, .int .u64 0, .slice none 0 0, .slice none 0 0] 30)).alloc (.cells #[.int .i64 (K : Nat), .int .u64 (I : Nat), .slice none 0 0, .slice none 0 0] 30))) := by
    refine ⟨HKB.out.alloc _, blk_alloc (blk_new w _) _, ?_, rfl, rfl⟩
    have := blk_new (w.alloc (.cells #[.int .i64 0, .int .u64 0, .slice none 0 0, .slice none 0 0] 30)) (.cells #[.int .i64 (K : Nat), .int .u64 (I : Nat), .slice none 0 0, .slice none 0 0] 30)
    simpa using this
  obtain ⟨x0, x1, x2, x3⟩ := cells4 HD0.out.c
  go_upto_if 20 with fail
  obtain ⟨B, hB⟩ : ∃ B, B = w.heap.size := ⟨_, rfl⟩
  obtain ⟨C, hC⟩ : ∃ C, C = B + 1 := ⟨_, rfl⟩
  rw [← hB, ← hC] at HD0 x0 x1 x2 x3
  rw [← hB, ← hC]
  generalize (w.alloc (.cells #[.int .i64 0, .int .u64 0, .slice none 0 0, .slice none 0 0] 30)).alloc (.cells #[.int .i64 (K : Nat), .int .u64 (I : Nat), .slice none 0 0, .slice none 0 0] 30) = W0 at HD0 x0 x1 x2 x3 ⊢
  have HCB : Hid (B = w.heap.size ∧ C = B + 1) := ⟨hB, hC⟩
  clear hB hC HKB
  go_cut [5, 6, 7, 8, 9, 10, 11] from 12 to 83 (fun _ _ _ _ _ _ _ wc => ∃ k i op np cp ok nk ck r, Hid (Rd w B C p ⟨k, i, op, np, cp, ok, nk, ck⟩ r wc))
  case first =>
    by_cases h1 : K = 1
    · have h1b : ((K : Int) == 1) = true := by simp; omega
      have h1c : (K : Int) = 1 := by omega
      have HK1 : Hid (K = 1) := h1
      clear h1
      clear x1 x2 x3
      go_wp2_with fail
      refine (dGet_any W0 o n c p 9 4 HN.out (HS.out _ HD0.out.kp).row (by omega) (by omega) (by omega)).mono ?_
      rintro e w1 ⟨rfl, hw1⟩
      subst w1
      have HNL : Hid (getP p 9 4 < 4294967296) := getP_lt HBY.out 9 4
      obtain ⟨N, hN⟩ : ∃ N, N = getP p 9 4 := ⟨_, rfl⟩
      rw [← hN] at HNL ⊢
      have hNI : (N : Int) ≤ 4294967295 := by have := HNL.out; omega
      have HNP : Hid (N = getP p 9 4) := hN
      clear hN HNL x0
      have HL0 : Hid (L1 w B C p K I 0 13 none 0 0 W0) := ⟨HD0.out, own_nil _, (fun j hj => by obtain ⟨x, e, _⟩ := hj; cases e), rfl, rfl⟩
      go_upto_block 0 with fail
      go_cut [5, 7, 8] from 24 to 54 (fun a _ _ wc => ∃ (q A : Nat) (oo : Option Addr) (mo co : Nat), a = .int .i64 (A : Nat) ∧ (q : Int) ≤ 1048577 ∧ (A : Int) ≤ 17179869184 ∧ Hid (L1 w B C p K I q A oo mo co wc ∧ Ends p (pair1 p) 13 (getP p 9 4) q))
      case first =>
        go_wp2_with fail
        go_loopw [5, 7] (fun a i wr => ∃ (q A : Nat) (oo : Option Addr) (mo co : Nat), a = .int .i64 (A : Nat) ∧ i = .int .i64 (q : Nat) ∧ q ≤ N ∧ (q : Int) ≤ 1048577 ∧ (A : Int) ≤ 17179869184 ∧ Hid (L1 w B C p K I q A oo mo co wr)) (fun _ i _ => N - (intOf i).toNat)
        case atStart => exact ⟨0, 13, none, 0, 0, rfl, rfl, by omega, by omega, by omega, HL0⟩
        case round =>
          rename World => wq
          clear HL0
          obtain ⟨q, A, oo, mo, co, rfl, rfl, hq, hqI, hAI, HL⟩ := hrel
          by_cases hqN : q < N
          · have hqN' : (q : Int) < N := by omega
            have hqNb : decide ((q : Int) < N) = true := decide_eq_true hqN'
            by_cases hAn : A < n
            · have hAn' : (A : Int) < n := by omega
              have hAnb : decide ((A : Int) < n) = true := decide_eq_true hAn'
              have HQA : Hid (q + 13 ≤ A) := by
                show _ ≤ _
                have := lots_ge (f := pair1 p) (fun a => (pair1_ge HBY.out a).1) 13 q
                rw [← HL.out.a] at this; omega
              have hqI2 : (q : Int) + 1 ≤ 1048577 := by have := HQA.out; omega
              have hPI := pair1_ge HBY.out A
              have HST : Hid (lots (pair1 p) 13 (q + 1) = ((lots (pair1 p) 13 q).1 ++ [(pair1 p A).1], (pair1 p A).2)) := by show _ = _; rw [lots, ← HL.out.a]
              have HPU : Hid ((pair1 p A).2 ≤ A + 8589934600) := hPI.2
              have HP1 : Hid ((pieceP p A).2 ≤ A + 4294967300) := (pieceP_byt HBY.out A).2.2.2
              clear hPI
              have kA : Keeps no wq (wq.alloc (.cells #[.string e0, .string e0] 71)) := (Keeps.refl _ _).alloc _
              have HKA : Hid (Keeps no wq (wq.alloc (.cells #[.string e0, .string e0] 71))) := kA
              clear kA
              go_wp2_with fail
              refine (dPiece_any _ o n c p A HN.out (HS.out _ (HL.out.s.kp.trans HKA.out)) (by omega) (by omega)).mono ?_
              rintro e w1 ⟨s1, t1, rfl, hp1, hw1⟩
              subst w1
              have ht1 : (t1 : Int) ≤ 22000000000 := by have := HP1.out; have := hp1.out.2; omega
              go_wp2_with fail
              have HW1 : Hid (Keeps no wq (wq.alloc (.cells #[.string s1, .string e0] 71))) := (Keeps.refl _ _).alloc _
              refine (dPiece_any _ o n c p t1 HN.out (HS.out _ (HL.out.s.kp.trans HW1.out)) (by omega) (by omega)).mono ?_
              rintro e w1 ⟨s2, t2, rfl, hp2, hw1⟩
              subst w1
              have HPR : Hid ((pair1 p A) = ((s1, s2), t2)) := by
                show _ = _
                unfold pair1
                rw [← hp1.out.2, ← hp2.out.1, ← hp2.out.2, ← hp1.out.1]
              have ht2 : (t2 : Int) ≤ 17179869184 := by have := HPU.out; rw [HPR.out] at this; simp only at this; omega
              have HW2 : Hid (Keeps no wq (wq.alloc (.cells #[.string s1, .string s2] 71))) := (Keeps.refl _ _).alloc _
              have hCP : C < wq.heap.size := lt_of_block HL.out.s.c
              have hne1 : ¬ C = wq.heap.size := by omega
              have hne2 : ¬ wq.heap.size = C := by omega
              clear hCP
              obtain ⟨x0, x1, x2, x3⟩ := cells4 HL.out.s.c
              obtain ⟨y0, y1, y2, y3⟩ := cells4 (HL.out.s.keepsN HW1.out).c
              obtain ⟨v0, v1, v2, v3⟩ := cells4 (HL.out.s.keepsN HW2.out).c
              have HN1 : Hid (Sl PE ((wq.alloc (.cells #[.string s1, .string s2] 71)).alloc (.cells #[.string s1, .string s2] 71)) (some ⟨wq.heap.size + 1, 0, none⟩) 1 [(s1, s2)]) := by
                have := own_oneP (wq.alloc (.cells #[.string s1, .string s2] 71)) s1 s2
                simp at this
                exact this
              have HML : Hid (mo = (lots (pair1 p) 13 q).1.length ∧ mo ≤ 1048577) := ⟨by rw [lots_length]; exact HL.out.m, by have := HL.out.m; omega⟩
              have hmoI : (mo : Int) ≤ 1048577 := by have := HML.out; omega
              go_wp2_with (at_builtin; go_must (refine wpList_app okP rfl _ _ rfl oo mo co (lots (pair1 p) 13 q).1 rfl HML.out.1 (HL.out.o.keepsN (HW2.out.alloc _)) _ 1 1 [(s1, s2)] rfl rfl (fun h => by cases h) HN1.out.row (by have := HML.out; simp [PE]; omega) (by have := HML.out; simp; omega) ?_); intro o' c' w' ho hap; have HAP : Hid _ := (HL.out.s.keepsN (HW2.out.alloc (.cells #[.string s1, .string s2] 71))).ap HL.out.n hap; have HO' : Hid (Own PE w' o' c' ((lots (pair1 p) 13 q).1 ++ [(s1, s2)])) := ho; obtain ⟨z0, z1, z2, z3⟩ := cells4 HAP.out.1.c; have fz := frozen_of_blk HAP.out.1.c 2; clear ho hap x0 x1 x2 x3 y0 y1 y2 y3 v0 v1 v2 v3)
              have HSS : Hid _ := HAP.out.1.set 2 (.slice o' (mo + 1) c')
              go_roundw
              case rel =>
                refine ⟨q + 1, t2, o', mo + 1, c', rfl, by go_num, by omega, by omega, by omega, ⟨HSS.out.1, ?_, HAP.out.2, ?_, by have := HL.out.m; omega⟩⟩
                · rw [HST.out, HPR.out]
                  exact HO'.out.keeps HSS.out.2 (fun j hj e => by have := HAP.out.2 j hj; unfold eqA at e; omega)
                · rw [HST.out, HPR.out]
              case measure => simp [intOf]; omega
            · have hAn' : ¬ (A : Int) < n := by omega
              have hAnb : decide ((A : Int) < n) = false := decide_eq_false hAn'
              go_wp2_with fail
              go_meet
              case rel => exact ⟨q, A, oo, mo, co, rfl, hqI, hAI, HL.out, by rw [← HNP.out]; exact hq, .inr (by rw [← HL.out.a, ← HN.out]; omega)⟩
          · have hqN' : ¬ (q : Int) < N := by omega
            have hqNb : decide ((q : Int) < N) = false := decide_eq_false hqN'
            go_wp2_with fail
            go_meet
            case rel => exact ⟨q, A, oo, mo, co, rfl, hqI, hAI, HL.out, by rw [← HNP.out]; exact hq, .inl (by rw [← HNP.out]; omega)⟩
      case rest =>
      obtain ⟨q, A, oo, mo, co, rfl, hqI, hAI, HLE⟩ := hcut
      rename World => w2
      clear HL0 HNP hNI
      go_wp2_with fail
      refine (dGet_any w2 o n c p A 4 HN.out (HS.out _ HLE.out.1.s.kp).row (by omega) (by omega) (by omega)).mono ?_
      rintro e w1 ⟨rfl, hw1⟩
      subst w1
      have HNL : Hid (getP p A 4 < 4294967296) := getP_lt HBY.out A 4
      obtain ⟨N2, hN2⟩ : ∃ N, N = getP p A 4 := ⟨_, rfl⟩
      rw [← hN2] at HNL ⊢
      have hNI : (N2 : Int) ≤ 4294967295 := by have := HNL.out; omega
      have HNP : Hid (N2 = getP p A 4) := hN2
      clear hN2 HNL
      have HL0 : Hid (L2 w B C p K I q A oo mo co 0 (A + 4) none 0 0 w2) := ⟨HLE.out.1.s, HLE.out.1.o, HLE.out.1.n, own_nil _, (fun j hj => by obtain ⟨x, e, _⟩ := hj; cases e), rfl, rfl⟩
      go_upto_block 2 with fail
      go_cut [5, 10, 11] from 61 to 83 (fun _ _ _ wc => ∃ (q2 A2 : Nat) (ok : Option Addr) (mk ck : Nat), (q2 : Int) ≤ 1048577 ∧ Hid (L2 w B C p K I q A oo mo co q2 A2 ok mk ck wc ∧ Ends p (key1 p) (A + 4) (getP p A 4) q2))
      case first =>
        go_wp2_with fail
        go_loopw [5, 10] (fun a i wr => ∃ (q2 A2 : Nat) (ok : Option Addr) (mk ck : Nat), a = .int .i64 (A2 : Nat) ∧ i = .int .i64 (q2 : Nat) ∧ q2 ≤ N2 ∧ (q2 : Int) ≤ 1048577 ∧ (A2 : Int) ≤ 34359738368 ∧ Hid (L2 w B C p K I q A oo mo co q2 A2 ok mk ck wr)) (fun _ i _ => N2 - (intOf i).toNat)
        case atStart => exact ⟨0, A + 4, none, 0, 0, by go_num, rfl, by omega, by omega, by omega, HL0⟩
        case round =>
          rename World => wq
          clear HL0
          obtain ⟨q2, A2, ok, mk, ck, rfl, rfl, hq, hqI2, hAI2, HL⟩ := hrel
          by_cases hqN : q2 < N2
          · have hqN' : (q2 : Int) < N2 := by omega
            have hqNb : decide ((q2 : Int) < N2) = true := decide_eq_true hqN'
            by_cases hAn : A2 < n
            · have hAn' : (A2 : Int) < n := by omega
              have hAnb : decide ((A2 : Int) < n) = true := decide_eq_true hAn'
              have HQA : Hid (q2 ≤ A2) := by
                show _ ≤ _
                have := lots_ge (f := key1 p) (fun a => (key1_ge HBY.out a).1) (A + 4) q2
                rw [← HL.out.a2] at this; omega
              have hqI3 : (q2 : Int) + 1 ≤ 1048577 := by have := HQA.out; omega
              have HST : Hid (lots (key1 p) (A + 4) (q2 + 1) = ((lots (key1 p) (A + 4) q2).1 ++ [(key1 p A2).1], (key1 p A2).2)) := by show _ = _; rw [lots, ← HL.out.a2]
              have HPU : Hid ((pieceP p A2).2 ≤ A2 + 4294967300) := (pieceP_byt HBY.out A2).2.2.2
              go_wp2_with fail
              refine (dPiece_any wq o n c p A2 HN.out (HS.out _ HL.out.s.kp) (by omega) (by omega)).mono ?_
              rintro e w1 ⟨s1, t1, rfl, hp1, hw1⟩
              subst w1
              have HPR : Hid ((key1 p A2) = (s1, t1)) := by
                show _ = _
                unfold key1
                rw [← hp1.out.2, ← hp1.out.1]
              have ht1 : (t1 : Int) ≤ 34359738368 := by have := HPU.out; have := hp1.out.2; omega
              obtain ⟨x0, x1, x2, x3⟩ := cells4 HL.out.s.c
              have HML : Hid (mk = (lots (key1 p) (A + 4) q2).1.length ∧ mk ≤ 1048577) := ⟨by rw [lots_length]; exact HL.out.m2, by have := HL.out.m2; omega⟩
              have hmoI : (mk : Int) ≤ 1048577 := by have := HML.out; omega
              have HWA : Hid (Keeps no wq (wq.alloc (.cells #[.string s1] 9))) := (Keeps.refl _ _).alloc _
              go_wp2_with (at_builtin; go_must (refine wpList_app okT rfl _ _ rfl ok mk ck (lots (key1 p) (A + 4) q2).1 rfl HML.out.1 (HL.out.o2.keepsN HWA.out) _ 1 1 [s1] rfl rfl (fun h => by cases h) (own_oneTE _ s1).row (by have := HML.out; simp [TE]; omega) (by have := HML.out; simp; omega) ?_); intro o' c' w' ho hap; have HAP : Hid _ := (HL.out.s.keepsN HWA.out).ap HL.out.n2 hap; have HOP : Hid (Own PE w' oo co (lots (pair1 p) 13 q).1) := (HL.out.o.keepsN HWA.out).asideE (by decide) (HL.out.o2.keepsN HWA.out) hap; have HO' : Hid (Own TE w' o' c' ((lots (key1 p) (A + 4) q2).1 ++ [s1])) := ho; obtain ⟨z0, z1, z2, z3⟩ := cells4 HAP.out.1.c; have fz := frozen_of_blk HAP.out.1.c 3; clear ho hap x0 x1 x2 x3)
              have HSS : Hid _ := HAP.out.1.set 3 (.slice o' (mk + 1) c')
              go_roundw
              case rel =>
                refine ⟨q2 + 1, t1, o', mk + 1, c', rfl, by go_num, by omega, by omega, by omega, ⟨HSS.out.1, ?_, HL.out.n, ?_, HAP.out.2, ?_, by have := HL.out.m2; omega⟩⟩
                · exact HOP.out.keeps HSS.out.2 (fun j hj e => by have := HL.out.n j hj; unfold eqA at e; omega)
                · rw [HST.out, HPR.out]
                  exact HO'.out.keeps HSS.out.2 (fun j hj e => by have := HAP.out.2 j hj; unfold eqA at e; omega)
                · rw [HST.out, HPR.out]
              case measure => simp [intOf]; omega
            · have hAn' : ¬ (A2 : Int) < n := by omega
              have hAnb : decide ((A2 : Int) < n) = false := decide_eq_false hAn'
              go_wp2_with fail
              go_meet
              case rel => exact ⟨q2, A2, ok, mk, ck, hqI2, HL.out, by rw [← HNP.out]; exact hq, .inr (by rw [← HL.out.a2, ← HN.out]; omega)⟩
          · have hqN' : ¬ (q2 : Int) < N2 := by omega
            have hqNb : decide ((q2 : Int) < N2) = false := decide_eq_false hqN'
            go_wp2_with fail
            go_meet
            case rel => exact ⟨q2, A2, ok, mk, ck, hqI2, HL.out, by rw [← HNP.out]; exact hq, .inl (by rw [← HNP.out]; omega)⟩
      case rest =>
      obtain ⟨q2, A2, ok, mk, ck, hqI2, HL2⟩ := hcut
      rename World => w3
      go_wp2_with fail
      go_meet
      case rel => exact ⟨K, I, oo, mo, co, ok, mk, ck, _, rd_of HBY.out HNB.out HL2.out.1 HLE.out.1.a HLE.out.1.m HK1.out HKI.out.1 HKI.out.2 HLE.out.2 HL2.out.2 (by omega) (by omega)⟩
    · have h1b : ((K : Int) == 1) = false := by simp; omega
      have h1c : ¬ (K : Int) = 1 := by omega
      go_wp2_with fail
      go_meet
      case rel => exact ⟨K, I, none, 0, 0, none, 0, 0, _, rd_two HBY.out HD0.out h1 HKI.out.1 HKI.out.2⟩
  case rest =>
  obtain ⟨k, i, op, np, cp, ok, nk, ck, r, HR⟩ := hcut
  rename World => W
  clear x0 x1 x2 x3 HD0 HKI
  obtain ⟨x0, x1, x2, x3⟩ := cells4 HR.out.s.c
  have HOK : Hid ((rok p = true ↔ may r = true ∧ body r = p) ∧ (rok p = true → (rrec p).1 = r)) := len_rok HBY.out HR.out.l HR.out.g.fit.id
  go_wp2_with fail
  refine (rMay_any W k i op np cp ok nk ck r HR.out.g.isC).mono ?_
  rintro e w5 ⟨rfl, hk5⟩
  have HR5 : Hid (Rd w B C p ⟨k, i, op, np, cp, ok, nk, ck⟩ r w5) := HR.out.keepsN hk5
  clear hk5 x0 x1 x2 x3
  obtain ⟨x0, x1, x2, x3⟩ := cells4 HR5.out.s.c
  obtain ⟨y0, y1, y2, y3⟩ := cells4 HR5.out.s.b
  have f0 := frozen_of_blk HR5.out.s.b 0
  have f1 := frozen_of_blk HR5.out.s.b 1
  have f2 := frozen_of_blk HR5.out.s.b 2
  have f3 := frozen_of_blk HR5.out.s.b 3
  cases hmy : may r
  · have HNO : Hid (rok p = false) := by
      show _ = _
      cases h : rok p
      · rfl
      · have := (HOK.out.1.1 h).1; rw [hmy] at this; cases this
    go_wp2_with fail
    (try simp only [Exit.inBlock, Exit.then])
    have hs4 := set4n (g := B) (by have := HCB.out; omega) HR5.out.s.kp HR5.out.s.b (.int .i64 0) (.int .u64 0) (.slice none 0 0) (.slice none 0 0)
    refine bodyPost_ret (results_row2 rfl _ _ B _ rfl (loadR hs4.1)) rfl ?_
    exact dread_no HNO.out hs4.2
  · have HMY : Hid (may r = true) := hmy
    clear hmy
    obtain ⟨TA, hTA⟩ : ∃ T, T = text (body r) := ⟨_, rfl⟩
    obtain ⟨TB, hTB⟩ : ∃ T, T = text p := ⟨_, rfl⟩
    have HT : Hid (TA = text (body r) ∧ TB = text p) := ⟨hTA, hTB⟩
    have HCV : Hid (∀ w', Keeps no w w' → (convert 22 9 (.slice o n c)).run Tryd.prog w' = .ok (.string TB) w') := fun w' hk => by rw [hTB]; exact run_text w' o p n c HN.out (HS.out w' hk).row
    have hcv0 := HCV.out _ HR5.out.s.kp.drew
    have HBB : Hid (∀ x ∈ body r, x < 256) := body_byt r
    by_cases heq : body r = p
    · have hte : (TA.toList == TB.toList) = true := by rw [hTA, hTB, heq]; simp
      have HYES : Hid (rok p = true ∧ (rrec p).1 = r) := ⟨HOK.out.1.2 ⟨HMY.out, heq⟩, HOK.out.2 (HOK.out.1.2 ⟨HMY.out, heq⟩)⟩
      clear hTA hTB heq
      go_wp2_with fail
      go_region_with ((go_at_call 38; refine (dPayload_any _ k i op np cp ok nk ck r (HR5.out.g.isC.keepsN (Keeps.refl no w5).drew) HMY.out).mono ?_; rintro e w6 ⟨oo, nn, cc, rfl, hnn, hown, hnew, hk6⟩; have HK6 : Hid (Keeps no w5 w6) := (Keeps.refl no w5).drew.trans hk6; have hcv6 := HCV.out _ (HR5.out.s.kp.trans HK6.out); have hcw6 : (convert 22 9 (.slice oo nn cc)).run Tryd.prog w6 = .ok (.string TA) w6 := (by rw [HT.out.1]; exact run_text w6 oo (body r) nn cc hnn.out (hown.row HBB.out (owns_len hown))); obtain ⟨x0, x1, x2, x3⟩ := cells4 (HK6.out.at HR5.out.s.c (fun h => h)); clear hown hnew hk6))
      all_goals
        have HR6 : Hid (Rd w B C p ⟨k, i, op, np, cp, ok, nk, ck⟩ r w6) := HR5.out.keepsN HK6.out
        clear y0 y1 y2 y3 f0 f1 f2 f3
        obtain ⟨x0, x1, x2, x3⟩ := cells4 HR6.out.s.c
        obtain ⟨y0, y1, y2, y3⟩ := cells4 HR6.out.s.b
        have f0 := frozen_of_blk HR6.out.s.b 0
        have f1 := frozen_of_blk HR6.out.s.b 1
        have f2 := frozen_of_blk HR6.out.s.b 2
        have f3 := frozen_of_blk HR6.out.s.b 3
        go_wp2_with fail
        (try simp only [Exit.inBlock, Exit.then])
        have hs4 := set4n (g := B) (by have := HCB.out; omega) HR6.out.s.kp HR6.out.s.b (.int .i64 k) (.int .u64 (i : Nat)) (.slice op np cp) (.slice ok nk ck)
        have hs4' := set4 HR6.out.s.b (.int .i64 k) (.int .u64 (i : Nat)) (.slice op np cp) (.slice ok nk ck)
        refine bodyPost_ret (results_row2 rfl _ _ B _ rfl (loadR hs4.1)) rfl ?_
        have hCB := HCB.out
        refine ⟨k, i, op, np, cp, ok, nk, ck, by rw [HYES.out.1]; rfl, ?_, hs4.2⟩
        rw [HYES.out.1, if_pos rfl, HYES.out.2]
        exact ⟨HR6.out.g.k, HR6.out.g.i, HR6.out.g.np, HR6.out.g.nk, HR6.out.g.ps.keeps hs4'.2 (fun j hj e => by have := HR6.out.n j (.inl hj); unfold eqA at e; omega), HR6.out.g.ks.keeps hs4'.2 (fun j hj e => by have := HR6.out.n j (.inr hj); unfold eqA at e; omega), HR6.out.g.pn, HR6.out.g.kn, HR6.out.g.fit⟩
    · have hte : (TA.toList == TB.toList) = false := by
        rw [tx_eq, hTA, hTB]
        exact decide_eq_false (fun e => heq (by rw [← nats_text (body r) HBB.out, ← nats_text p HBY.out, e]))
      have HNO : Hid (rok p = false) := by
        show _ = _
        cases h : rok p
        · rfl
        · exact absurd (HOK.out.1.1 h).2 heq
      clear hTA hTB heq
      go_wp2_with fail
      go_region_with ((go_at_call 38; refine (dPayload_any _ k i op np cp ok nk ck r (HR5.out.g.isC.keepsN (Keeps.refl no w5).drew) HMY.out).mono ?_; rintro e w6 ⟨oo, nn, cc, rfl, hnn, hown, hnew, hk6⟩; have HK6 : Hid (Keeps no w5 w6) := (Keeps.refl no w5).drew.trans hk6; have hcv6 := HCV.out _ (HR5.out.s.kp.trans HK6.out); have hcw6 : (convert 22 9 (.slice oo nn cc)).run Tryd.prog w6 = .ok (.string TA) w6 := (by rw [HT.out.1]; exact run_text w6 oo (body r) nn cc hnn.out (hown.row HBB.out (owns_len hown))); obtain ⟨x0, x1, x2, x3⟩ := cells4 (HK6.out.at HR5.out.s.c (fun h => h)); clear hown hnew hk6))
      all_goals
        have HR6 : Hid (Rd w B C p ⟨k, i, op, np, cp, ok, nk, ck⟩ r w6) := HR5.out.keepsN HK6.out
        clear y0 y1 y2 y3 f0 f1 f2 f3
        obtain ⟨y0, y1, y2, y3⟩ := cells4 HR6.out.s.b
        have f0 := frozen_of_blk HR6.out.s.b 0
        have f1 := frozen_of_blk HR6.out.s.b 1
        have f2 := frozen_of_blk HR6.out.s.b 2
        have f3 := frozen_of_blk HR6.out.s.b 3
        go_wp2_with fail
        (try simp only [Exit.inBlock, Exit.then])
        have hs4 := set4n (g := B) (by have := HCB.out; omega) HR6.out.s.kp HR6.out.s.b (.int .i64 0) (.int .u64 0) (.slice none 0 0) (.slice none 0 0)
        refine bodyPost_ret (results_row2 rfl _ _ B _ rfl (loadR hs4.1)) rfl ?_
        exact dread_no HNO.out hs4.2
end Go.Proofs.YtdalheeifgampabDoor

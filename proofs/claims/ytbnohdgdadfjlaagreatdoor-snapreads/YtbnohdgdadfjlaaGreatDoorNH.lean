import Derived.Test.YtbnohdgdadfjlaaGreatDoorBC
import Derived.Test.YtbnohdgdadfjlaaGreatDoorNG
import Derived.Test.YtbnohdgdadfjlaaGreatDoorBE
import Derived.Deep.RegionHeldLaw
/- Scripts, and the stores that they make. -/
namespace Go.Proofs.YtbnohdgdadfjlaaGreatDoor
open Go.RowKit Go.Maps Go.Sort Orl Pk
set_option linter.unusedVariables false
set_option linter.unusedSimpArgs false

theorem step_appX {α : Type} {E : El α} (hE : E.Ok) {w : World} {ops : Array Oper} {o : Oper} {a : Act} {K : Act → World → Prop} {Q : Exit → Act → World → Prop} {Ep : Prop} (hgd : Region.wanted o (yielded ops a.tmps) = true) (s x : Operand)
    (ho : o.op = .call { callee := .builtin .append, args := #[s, x], argTypes := #[E.t, E.t] })
    (oa : Option Addr) (n c : Nat) (xs : List α) (hs : a.eval s = .slice oa n c) (hn : n = xs.length) (hown : Own E w oa c xs)
    (ox : Option Addr) (m d : Nat) (news : List α) (hx : a.eval x = .slice ox m d) (hm : m = news.length) (hd : ox = none → d = 0) (hrow : Row E w ox news)
    (hb : (xs.length + news.length) * E.nb ≤ 140737488355328) (hb2 : xs.length + news.length ≤ 140737488355328)
    (h : ∀ o' c' w', Own E w' o' c' (xs ++ news) → Ap w oa o' w' → K (a.put o.dst (.slice o' (n + m) c')) w') :
    if Region.wanted o (yielded ops a.tmps) = true then Oper.wp Tryz.prog o a w K Q else Ep := by
  rw [if_pos hgd]
  subst hn hm
  obtain ⟨o', c', w', hr, h1, h2⟩ := run_app hE w o.type oa c xs hown ox d news hd hrow hb hb2
  unfold Oper.wp execOp
  simp only [ho, resolve, invoke, builtin, Sem.run_bind, Sem.run_pure, Result.andThen_ok, List.map_toArray, List.map_cons, List.map_nil, hs, hx, hr]
  exact h o' c' w' h1 h2
theorem pairs_fewX {i : Nat} {ps : List Pr} {keys : List Tx} {now : Int} (h : okPut i ps keys now = true) : ps.length ≤ 1024 := by
  obtain ⟨_, h2, h3, _⟩ := okPut_iff.1 h
  obtain ⟨h4, _, h5⟩ := okPairs_iff.1 h3
  have hk := (okKeys_iff.1 h2).1.2
  have hnd : (ps.map (·.1)).Nodup := by
    have : Inc lts (ps.map (·.1)) := by
      unfold Inc at h5 ⊢
      rw [List.pairwise_map]
      exact h5
    exact inc_nodup swoT this
  have hsub : ∀ k ∈ ps.map (·.1), k ∈ keys := fun k hk' => by
    obtain ⟨p, hp, rfl⟩ := List.mem_map.1 hk'
    exact (h4 p hp).2
  have := List.Nodup.length_le_of_subset hnd (fun k hk => hsub k hk)
  rw [List.length_map] at this
  omega
structure OV where
  kd : Int
  i : Nat
  y : Tx
  ap : Option Addr
  np : Nat
  cp : Nat
  ak : Option Addr
  nk : Nat
  ck : Nat
  now : Int
def ov0 : OV := ⟨0, 0, e0, none, 0, 0, none, 0, 0, 0⟩
def OE : El OV := ⟨55, 22, 6, 88, fun x => [.int .i64 x.kd, .int .u64 ((x.i : Nat) : Int), .string x.y, .slice x.ap x.np x.cp, .slice x.ak x.nk x.ck, .int .i64 x.now]⟩
theorem infoO : (Tryz.prog.info? 55).map (fun i => (i.zero, i.size, i.bytes)) = some (some (.agg #[.int .i64 0, .int .u64 0, .string ⟨#[]⟩, .slice none 0 0, .slice none 0 0, .int .i64 0]), 6, 88) := by kernel_rfl
theorem okO : OE.Ok := by
  obtain ⟨i0, hi, hz0, hz1, hz2⟩ := info_parts infoO
  exact ⟨fun _ => rfl, fun x u hu => by simp [OE] at hu; rcases hu with rfl | rfl | rfl | rfl | rfl | rfl <;> rfl, by decide, Tryz.underlying22, i0, _, hi, hz0, hz1, hz2, rfl⟩
theorem Sl.atO {w : World} {a : Option Addr} {c : Nat} {xs : List OV} (h : Sl OE w a c xs) {j : Nat} (hj : j < xs.length) : ∃ b off, a = some ⟨b, off, none⟩ ∧ ∀ k u, (OE.enc (xs.getD j ov0))[k]? = some u → k < 6 → w.cell? ⟨b, off + j * 6 + k, none⟩ = some u := by
  rcases h.row with e | ⟨b, off, rfl, hc⟩
  · subst e; simp at hj
  · refine ⟨b, off, rfl, fun k u hu hk => ?_⟩
    rw [Nat.add_assoc]
    refine hc (j * 6 + k) _ ?_
    have := cells_at okO ov0 xs j k hj hk
    rw [← hu]
    exact this
/-- a call in pure data -/
structure PO where
  kd : Int
  i : Nat
  y : Tx
  ps : List Pr
  keys : List Tx
  now : Int
def po0 : PO := ⟨0, 0, e0, [], [], 0⟩
structure OkOp (W : World) (o : OV) (x : PO) : Prop where
  kd : o.kd = x.kd
  ei : o.i = x.i
  ey : o.y = x.y
  en : o.now = x.now
  np : o.np = x.ps.length
  nk : o.nk = x.keys.length
  i : x.i < 18446744073709551616
  y : x.y.size ≤ 140737488351232
  sp : Sl PE W o.ap o.cp x.ps
  sk : Sl TE W o.ak o.ck x.keys
  zp : ∀ z ∈ x.ps, z.2.size ≤ 140737488351232
  zk : ∀ z ∈ x.keys, z.size ≤ 140737488351232
  lp : x.ps.length ≤ 1048576
  lk : x.keys.length ≤ 1048576
theorem OkOp.keepsN {W W' : World} {o : OV} {x : PO} (h : OkOp W o x) (hk : Keeps no W W') : OkOp W' o x := { h with sp := h.sp.keepsN hk, sk := h.sk.keepsN hk }
structure OkL (W : World) (l : List OV) (L : List PO) : Prop where
  n : l.length = L.length
  op : ∀ j, j < l.length → OkOp W (l.getD j ov0) (L.getD j po0)
theorem OkL.keepsN {W W' : World} {l : List OV} {L : List PO} (h : OkL W l L) (hk : Keeps no W W') : OkL W' l L := ⟨h.n, fun j hj => (h.op j hj).keepsN hk⟩
def putX (s : St) (x : PO) : St := if okPut x.i x.ps x.keys x.now = true then putAll x.i x.keys x.now s (miss s x.i x.ps) else s
def comX (s : St) (x : PO) : St := if (decide (65536 ≤ x.i) && tickB x.now) = true then commitS s x.i x.now else s
def stepO (s : St) (x : PO) : St := if x.kd = 1 then putX s x else if x.kd = 2 then comX s x else if x.kd = 3 then dropR s (x.y, x.i) else s
def runO (L : List PO) : St := L.foldl stepO St.new
theorem runO_snoc (L : List PO) (k : Nat) (h : k < L.length) : runO (L.take (k + 1)) = stepO (runO (L.take k)) (L.getD k po0) := by
  rw [take_succ_getD L k po0 h]; simp [runO]
def totP : List PO → Nat
  | [] => 0
  | o :: r => o.ps.length + totP r
theorem totP_app : ∀ (a b : List PO), totP (a ++ b) = totP a + totP b
  | [], b => by simp [totP]
  | o :: a, b => by have := totP_app a b; simp only [List.cons_append, totP]; omega
theorem totP_take (L : List PO) (t : Nat) (ht : t < L.length) : totP (L.take (t + 1)) = totP (L.take t) + (L.getD t po0).ps.length := by
  rw [take_succ_getD L t po0 ht, totP_app]
  simp [totP]
theorem totP_le (L : List PO) (t : Nat) : totP (L.take t) ≤ totP L := by
  have h : totP L = totP (L.take t) + totP (L.drop t) := by rw [← totP_app, List.take_append_drop]
  omega
section
variable {w0 w w' : World} {p : Nat} {s : St} {N : Nat} {P : Nat → Prop}
theorem Ow.xPut (h : Ow w0 w p s N P) (hN : N ≤ 800000000) (x : PO) (hi : x.i < 18446744073709551616) (o : Option Addr) (n c : Nat) (o2 : Option Addr) (n2 c2 : Nat) (hn : n = x.ps.length) (hn2 : n2 = x.keys.length) (hsp : Sl PE w o c x.ps) (hsk : Sl TE w o2 c2 x.keys) (lp : x.ps.length ≤ 1048576) (lk : x.keys.length ≤ 1048576) :
    Calls Tryz.prog 19 #[.pointer (some ⟨p, 0, none⟩), .int .u64 ((x.i : Nat) : Int), .slice o n c, .slice o2 n2 c2, .int .i64 x.now] w fun e w' => ∃ (B : Bool) (z : Int), e = .returned (.tuple #[.bool B, .int .i64 z]) ∧ Hid (∃ M, M ≤ N + x.ps.length ∧ Ow w0 w' p (putX s x) M P ∧ Keeps (fun b => ¬ P b) w w') := by
  cases hok : okPut x.i x.ps x.keys x.now with
  | true =>
    have hf := pairs_fewX hok
    refine (h.put x.i x.ps x.keys x.now o n c o2 n2 c2 hi hn hn2 hsp hsk (by omega) hok (by omega)).mono ?_
    rintro e w' ⟨he, hT⟩
    have e1 : putX s x = putAll x.i x.keys x.now s (miss s x.i x.ps) := by unfold putX; rw [if_pos hok]
    rw [e1]
    have hm : (miss s x.i x.ps).length ≤ x.ps.length := List.length_filter_le _ _
    exact ⟨_, _, he, N + (miss s x.i x.ps).length, by omega, hT.out.1, hT.out.2⟩
  | false =>
    refine (put_bad w _ x.i x.ps x.keys x.now o n c o2 n2 c2 hi hn hn2 (by omega) (by omega) hsp hsk hok).mono ?_
    rintro e w' ⟨he, hk⟩
    have e1 : putX s x = s := by unfold putX; rw [if_neg (by rw [hok]; simp)]
    rw [e1]
    exact ⟨_, _, he, N, by omega, h.go hk, hk.of_no⟩
theorem Ow.xCommit (h : Ow w0 w p s N P) (hN : N ≤ 800000000) (x : PO) (hi : x.i < 18446744073709551616) :
    Calls Tryz.prog 20 #[.pointer (some ⟨p, 0, none⟩), .int .u64 ((x.i : Nat) : Int), .int .i64 x.now] w fun e w' => ∃ (n z : Int), e = .returned (.tuple #[.int .i64 n, .int .i64 z]) ∧ Hid (Ow w0 w' p (comX s x) N P ∧ Keeps (fun b => ¬ P b) w w') := by
  cases hok : (decide (65536 ≤ x.i) && tickB x.now) with
  | true =>
    have hok2 := hok
    simp only [Bool.and_eq_true, decide_eq_true_eq] at hok2
    refine (h.commit x.i x.now hi hok2.1 hok2.2 (by omega)).mono ?_
    rintro e w' ⟨n, he, _, hT⟩
    have e1 : comX s x = commitS s x.i x.now := by unfold comX; rw [if_pos hok]
    rw [e1]
    exact ⟨_, _, he, hT.out⟩
  | false =>
    refine (commit_bad w _ x.i x.now hi hok).mono ?_
    rintro e w' ⟨he, hk⟩
    have e1 : comX s x = s := by unfold comX; rw [if_neg (by rw [hok]; simp)]
    rw [e1, hk]
    exact ⟨_, _, he, h, Keeps.refl _ _⟩
theorem Ow.xDrop (h : Ow w0 w p s N P) (x : PO) (hi : x.i < 18446744073709551616) (hy : x.y.size ≤ 140737488351232) :
    Calls Tryz.prog 21 #[.pointer (some ⟨p, 0, none⟩), .string x.y, .int .u64 ((x.i : Nat) : Int)] w fun e w' => ∃ z : Int, e = .returned (.int .i64 z) ∧ Hid (Ow w0 w' p (dropR s (x.y, x.i)) N P ∧ Keeps (fun b => ¬ P b) w w') := by
  refine (h.drop x.y x.i ⟨by show x.y.size ≤ maxLen; unfold maxLen; omega, hi⟩).mono ?_
  rintro e w' ⟨he, hT⟩
  exact ⟨_, he, hT⟩
end
set_option maxRecDepth 10000 in
set_option maxHeartbeats 4000000 in
theorem made_any (w : World) (a : Option Addr) (n c : Nat) (l : List OV) (L : List PO) (hn : n = l.length) (hs : Sl OE w a c l) (hok : OkL w l L) (hl : l.length ≤ 1048576) (ht : totP L ≤ 700000000) :
    Calls Tryz.prog 9 #[.slice a n c] w fun e w' => ∃ p, e = .returned (.pointer (some ⟨p, 0, none⟩)) ∧ Hid (∃ N, N ≤ totP L ∧ Ow w w' p (runO L) N no) := by
  have HA : Hid (n = l.length ∧ Sl OE w a c l ∧ OkL w l L ∧ l.length ≤ 1048576 ∧ totP L ≤ 700000000) := ⟨hn, hs, hok, hl, ht⟩
  have hnb : (n : Int) ≤ 1048576 := by omega
  clear hn hs hok hl ht
  go_enter Tryz.func9, Tryz.ntmps9
  go_wp2_with fail
  refine (ow_new w).mono ?_
  rintro e w1 ⟨p, rfl, H1⟩
  go_wp2_with fail
  go_loopw [4, 5] (fun i _ wr => ∃ k : Nat, k ≤ n ∧ i = .int .i64 k ∧ Hid (∃ N, N ≤ totP (L.take k) ∧ Ow w wr p (runO (L.take k)) N no)) (fun i _ _ => n - (intOf i).toNat)
  case atStart => exact ⟨0, by omega, rfl, 0, Nat.zero_le _, H1.out⟩
  case round =>
    obtain ⟨k, hk, rfl, HG⟩ := hrel
    clear H1
    by_cases hlt : k < n
    · have hlt' : (k : Int) < n := by omega
      have hka : k < l.length := by have := HA.out.1; omega
      have hkL : k < L.length := by have := HA.out.2.2.1.n; omega
      obtain ⟨N, hN, hOw⟩ := HG.out
      obtain ⟨s, hs⟩ : ∃ s, s = runO (L.take k) := ⟨_, rfl⟩
      rw [← hs] at hOw
      obtain ⟨b1, off1, e1, hc⟩ := (HA.out.2.1.keepsN hOw.keep).atO hka
      have hop := (HA.out.2.2.1.op k hka).keepsN hOw.keep
      obtain ⟨x, hx⟩ : ∃ x, x = L.getD k po0 := ⟨_, rfl⟩
      rw [← hx] at hop
      have hst := runO_snoc L k hkL
      have htt := totP_take L k hkL
      have hte := totP_le L (k + 1)
      rw [← hx, ← hs] at hst
      rw [← hx] at htt
      generalize l.getD k ov0 = v at hop hc
      obtain ⟨vk, vi, vy, ap, np, cp, ak, nk, ck, vn⟩ := v
      obtain ⟨q1, q2, q3, q4, q5, q6, q7, q8, q9, q10, q11, q12, q13, q14⟩ := hop
      simp only at q1 q2 q3 q4 q5 q6 q9 q10
      subst q1 q2 q3 q4
      have c0 := hc 0 _ rfl (by omega)
      have c1 := hc 1 _ rfl (by omega)
      have c2 := hc 2 _ rfl (by omega)
      have c3 := hc 3 _ rfl (by omega)
      have c4 := hc 4 _ rfl (by omega)
      have c5 := hc 5 _ rfl (by omega)
      simp only [Nat.add_zero] at c0
      have HAX : Hid (x.i < 18446744073709551616 ∧ x.y.size ≤ 140737488351232 ∧ x.ps.length ≤ 1048576 ∧ x.keys.length ≤ 1048576) := ⟨q7, q8, q13, q14⟩
      have HFIN : Hid (∀ (M : Nat) (z : World), M ≤ N + x.ps.length ∧ Ow w z p (stepO s x) M no → ∃ k_1 : Nat, k_1 ≤ n ∧ Value.int .i64 ((k : Int) + 1) = .int .i64 k_1 ∧ Hid (∃ N, N ≤ totP (L.take k_1) ∧ Ow w z p (runO (L.take k_1)) N no)) := fun M z hM => ⟨k + 1, by omega, by go_num, M, by omega, by rw [hst]; exact hM.2⟩
      obtain ⟨O, hO⟩ : ∃ O, O = wr.heap.size := ⟨_, rfl⟩
      obtain ⟨P, hP, hPO⟩ : ∃ P, Ow w (wr.alloc (.cells #[.int .i64 x.kd, .int .u64 ((x.i : Nat) : Int), .string x.y, .slice ap np cp, .slice ak nk ck, .int .i64 x.now] 55)) p s N P ∧ P wr.heap.size := ⟨_, hOw.grow ((Keeps.refl no wr).alloc _), .inr ⟨Nat.le_refl _, by simp⟩⟩
      have HOW : Hid (Ow w (wr.alloc (.cells #[.int .i64 x.kd, .int .u64 ((x.i : Nat) : Int), .string x.y, .slice ap np cp, .slice ak nk ck, .int .i64 x.now] 55)) p s N P ∧ N ≤ 700000000) := ⟨hP, by have := HA.out.2.2.2.2; omega⟩
      have HPO : Hid (P wr.heap.size) := hPO
      have HOB : Hid ((wr.alloc (.cells #[.int .i64 x.kd, .int .u64 ((x.i : Nat) : Int), .string x.y, .slice ap np cp, .slice ak nk ck, .int .i64 x.now] 55)).heap[wr.heap.size]? = some (.cells #[.int .i64 x.kd, .int .u64 ((x.i : Nat) : Int), .string x.y, .slice ap np cp, .slice ak nk ck, .int .i64 x.now] 55 (0, 0))) := blk_new wr _
      have HAR : Hid (np = x.ps.length ∧ nk = x.keys.length ∧ Sl PE (wr.alloc (.cells #[.int .i64 x.kd, .int .u64 ((x.i : Nat) : Int), .string x.y, .slice ap np cp, .slice ak nk ck, .int .i64 x.now] 55)) ap cp x.ps ∧ Sl TE (wr.alloc (.cells #[.int .i64 x.kd, .int .u64 ((x.i : Nat) : Int), .string x.y, .slice ap np cp, .slice ak nk ck, .int .i64 x.now] 55)) ak ck x.keys) := ⟨q5, q6, q9.keepsN ((Keeps.refl no wr).alloc _), q10.keepsN ((Keeps.refl no wr).alloc _)⟩
      clear hc q5 q6 q7 q8 q9 q10 q11 q12 q13 q14 hst htt hte hx hs hOw hN HG hka hkL hP hPO
      subst e1
      go_upto_block 2 with fail
      generalize wr.alloc (.cells #[.int .i64 x.kd, .int .u64 ((x.i : Nat) : Int), .string x.y, .slice ap np cp, .slice ak nk ck, .int .i64 x.now] 55) = W at HOW HOB HAR ⊢
      generalize wr.heap.size = O at HOB HPO ⊢
      have HSB : Hid (∀ Y : World, Y.heap[O]? = some (.cells #[.int .i64 x.kd, .int .u64 ((x.i : Nat) : Int), .string x.y, .slice ap np cp, .slice ak nk ck, .int .i64 x.now] 55 (0, 0)) → Y.cell? ⟨O, 1, none⟩ = some (.int .u64 ((x.i : Nat) : Int)) ∧ Y.cell? ⟨O, 3, none⟩ = some (.slice ap np cp) ∧ Y.cell? ⟨O, 4, none⟩ = some (.slice ak nk ck) ∧ Y.cell? ⟨O, 5, none⟩ = some (.int .i64 x.now)) := fun Y h2 => ⟨cell_of_blk h2 1, cell_of_blk h2 3, cell_of_blk h2 4, cell_of_blk h2 5⟩
      have HSX : Hid (∀ Y : World, Keeps no W Y → Y.cell? ⟨O, 1, none⟩ = some (.int .u64 ((x.i : Nat) : Int)) ∧ Y.cell? ⟨O, 3, none⟩ = some (.slice ap np cp) ∧ Y.cell? ⟨O, 4, none⟩ = some (.slice ak nk ck) ∧ Y.cell? ⟨O, 5, none⟩ = some (.int .i64 x.now)) := fun Y hY => HSB.out Y (hY.at HOB.out id)
      have f1 : W.cell? ⟨O, 1, none⟩ = some (.int .u64 ((x.i : Nat) : Int)) := cell_of_blk HOB.out 1
      have f2 : W.cell? ⟨O, 2, none⟩ = some (.string x.y) := cell_of_blk HOB.out 2
      have f5 : W.cell? ⟨O, 5, none⟩ = some (.int .i64 x.now) := cell_of_blk HOB.out 5
      clear c0 c1 c2 c3 c4 c5
      by_cases hk1 : x.kd = 1
      · have hk1' : (x.kd == 1) = true := by simpa using hk1
        have HKD : Hid (x.kd = 1) := hk1
        obtain ⟨ps, hps⟩ : ∃ ps, ps = x.ps := ⟨_, rfl⟩
        obtain ⟨keys, hkeys⟩ : ∃ keys, keys = x.keys := ⟨_, rfl⟩
        rw [← hps, ← hkeys] at HAR
        have HEQ : Hid (ps = x.ps ∧ keys = x.keys) := ⟨hps, hkeys⟩
        have HBD : Hid ((([] : List Pr).length + ps.length) * PE.nb ≤ 140737488355328 ∧ ([] : List Pr).length + ps.length ≤ 140737488355328 ∧ (([] : List Tx).length + keys.length) * TE.nb ≤ 140737488355328 ∧ ([] : List Tx).length + keys.length ≤ 140737488355328) := by
          have h1 := HAX.out.2.2
          rw [← hps, ← hkeys] at h1
          simp only [PE, TE, List.length_nil]
          exact ⟨by omega, by omega, by omega, by omega⟩
        clear hk1 hps hkeys f1 f2 f5
        go_upto_region 8 with fail
        refine wp_region_held_drew (S := (fun Y => Y.cell? ⟨O, 1, none⟩ = some (.int .u64 ((x.i : Nat) : Int)) ∧ Y.cell? ⟨O, 3, none⟩ = some (.slice ap np cp) ∧ Y.cell? ⟨O, 4, none⟩ = some (.slice ak nk ck) ∧ Y.cell? ⟨O, 5, none⟩ = some (.int .i64 x.now))) (by kernel_rfl) ?_ (fun hHeld => ?_)
        · exact HSX.out _ ((Keeps.refl no _).drew)
        refine wpAnyH_take (i := 0) (v := ?_) (by simp only [List.getElem?_toArray, List.getElem?_cons_succ, List.getElem?_cons_zero]; rfl) (by kernel_rfl) (by kernel_rfl) (by kernel_rfl) (by exact fun _ _ _ h => h) (Or.inl ⟨by rfl, ?_⟩) (by assumption) ?_
        rotate_left
        · (intro _ hSw; (try dsimp only at hSw); go_simp; (try with_reducible rfl))
        try simp only [Act.put, List.setIfInBounds_toArray, List.set_cons_zero, List.set_cons_succ]
        refine wpAnyH_take (i := 1) (v := ?_) (by simp only [List.getElem?_toArray, List.getElem?_cons_succ, List.getElem?_cons_zero]; rfl) (by kernel_rfl) (by kernel_rfl) (by kernel_rfl) (by exact fun _ _ _ h => h) (Or.inl ⟨by rfl, ?_⟩) (by assumption) ?_
        rotate_left
        · (intro _ hSw; (try dsimp only at hSw); go_simp; (try with_reducible rfl))
        try simp only [Act.put, List.setIfInBounds_toArray, List.set_cons_zero, List.set_cons_succ]
        refine wpAnyH_take (i := 2) (v := ?_) (by simp only [List.getElem?_toArray, List.getElem?_cons_succ, List.getElem?_cons_zero]; rfl) (by kernel_rfl) (by kernel_rfl) (by kernel_rfl) (by exact fun _ _ _ h => h) (Or.inl ⟨by rfl, ?_⟩) (by assumption) ?_
        rotate_left
        · (intro _ hSw; (try dsimp only at hSw); go_simp; (try with_reducible rfl))
        try simp only [Act.put, List.setIfInBounds_toArray, List.set_cons_zero, List.set_cons_succ]
        refine wpAnyH_take (i := 4) (v := ?_) (by simp only [List.getElem?_toArray, List.getElem?_cons_succ, List.getElem?_cons_zero]; rfl) (by kernel_rfl) (by kernel_rfl) (by kernel_rfl) (by exact fun _ _ _ h => h) (Or.inl ⟨by rfl, ?_⟩) (by assumption) ?_
        rotate_left
        · (intro _ hSw; (try dsimp only at hSw); go_simp; (try with_reducible rfl))
        try simp only [Act.put, List.setIfInBounds_toArray, List.set_cons_zero, List.set_cons_succ]
        refine wpAnyH_take (i := 5) (v := ?_) (by simp only [List.getElem?_toArray, List.getElem?_cons_succ, List.getElem?_cons_zero]; rfl) (by kernel_rfl) (by kernel_rfl) (by kernel_rfl) (by exact fun _ _ _ h => h) (Or.inl ⟨by rfl, ?_⟩) (by assumption) ?_
        rotate_left
        · (intro _ hSw; (try dsimp only at hSw); go_simp; (try with_reducible rfl))
        try simp only [Act.put, List.setIfInBounds_toArray, List.set_cons_zero, List.set_cons_succ]
        refine wpAnyH_take (i := 8) (v := ?_) (by simp only [List.getElem?_toArray, List.getElem?_cons_succ, List.getElem?_cons_zero]; rfl) (by kernel_rfl) (by kernel_rfl) (by kernel_rfl) (by exact fun _ _ _ h => h) (Or.inl ⟨by rfl, ?_⟩) (by assumption) ?_
        rotate_left
        · (intro _ hSw; (try dsimp only at hSw); go_simp; (try with_reducible rfl))
        try simp only [Act.put, List.setIfInBounds_toArray, List.set_cons_zero, List.set_cons_succ]
        refine wpAnyH_take (i := 9) (v := ?_) (by simp only [List.getElem?_toArray, List.getElem?_cons_succ, List.getElem?_cons_zero]; rfl) (by kernel_rfl) (by kernel_rfl) (by kernel_rfl) (by exact fun _ _ _ h => h) (Or.inl ⟨by rfl, ?_⟩) (by assumption) ?_
        rotate_left
        · (intro _ hSw; (try dsimp only at hSw); go_simp; (try with_reducible rfl))
        try simp only [Act.put, List.setIfInBounds_toArray, List.set_cons_zero, List.set_cons_succ]
        refine wpAnyH_take (i := 11) (v := ?_) (by simp only [List.getElem?_toArray, List.getElem?_cons_succ, List.getElem?_cons_zero]; rfl) (by kernel_rfl) (by kernel_rfl) (by kernel_rfl) (by exact fun _ _ _ h => h) (Or.inl ⟨by rfl, ?_⟩) (by assumption) ?_
        rotate_left
        · (intro _ hSw; (try dsimp only at hSw); go_simp; (try with_reducible rfl))
        try simp only [Act.put, List.setIfInBounds_toArray, List.set_cons_zero, List.set_cons_succ]
        refine wpAnyH_take (i := 12) (v := ?_) (by simp only [List.getElem?_toArray, List.getElem?_cons_succ, List.getElem?_cons_zero]; rfl) (by kernel_rfl) (by kernel_rfl) (by kernel_rfl) (by exact fun _ _ _ h => h) (Or.inl ⟨by rfl, ?_⟩) (by assumption) ?_
        rotate_left
        · (intro _ hSw; (try dsimp only at hSw); go_simp; (try with_reducible rfl))
        try simp only [Act.put, List.setIfInBounds_toArray, List.set_cons_zero, List.set_cons_succ]
        have HC : Hid (Keeps no W W.drew) := (Keeps.refl no _).drew
        generalize W.drew = z0 at HC ⊢
        refine wpAnyH_ready (rs := [3, 7]) (by kernel_rfl) (by simp) ?_
        refine AllReadyH.cons (by simp only [List.getElem?_toArray, List.getElem?_cons_succ, List.getElem?_cons_zero]; rfl) (fun Kq hKq => ?_) (AllReadyH.cons (by simp only [List.getElem?_toArray, List.getElem?_cons_succ, List.getElem?_cons_zero]; rfl) (fun Kq hKq => ?_) AllReadyH.nil)
        · (go_simp; have HB1 : Hid (Own PE (z0.alloc (.cells #[] 70)) (some ⟨z0.heap.size, 0, none⟩) 0 []) := own_empty okP z0; have HC2 : Hid (Keeps no W (z0.alloc (.cells #[] 70)) ∧ Keeps no z0 (z0.alloc (.cells #[] 70)) ∧ W.heap.size ≤ z0.heap.size) := ⟨HC.out.alloc _, (Keeps.refl no _).alloc _, HC.out.size⟩; clear HC; generalize z0.alloc (.cells #[] 70) = z1 at HB1 HC2 ⊢; generalize z0.heap.size = g1 at HB1 HC2 ⊢; have HC : Hid (Keeps no W z1) := HC2.out.1)
          refine hKq.out _ _ ?_ (fun hHeldN => ?_)
          · exact HSX.out _ HC.out
          clear hKq Kq hHeld
          have hHeld := hHeldN
          clear hHeldN
          refine wpAnyH_ready (rs := [6, 7]) (by kernel_rfl) (by simp) ?_
          refine AllReadyH.cons (by simp only [List.getElem?_toArray, List.getElem?_cons_succ, List.getElem?_cons_zero]; rfl) (fun Kq hKq => ?_) (AllReadyH.cons (by simp only [List.getElem?_toArray, List.getElem?_cons_succ, List.getElem?_cons_zero]; rfl) (fun Kq hKq => ?_) AllReadyH.nil)
          · (refine step_appX okP rfl (.tmp 28) (.tmp 30) rfl (some ⟨g1, 0, none⟩) 0 0 [] rfl rfl (HB1.out) ap np cp ps rfl HAR.out.1 HAR.out.2.2.1.nil (HAR.out.2.2.1.keepsN HC.out).row HBD.out.1 HBD.out.2.1 ?_; intro o1 c1 z2 ho1 hap1; have HP : Hid (Own PE z2 o1 c1 ps) := ho1; have HN1 := hap1.new (w0 := W) (new_fresh W g1 HC2.out.2.2 0) HC.out; have HC4 : Hid (New W o1 ∧ Keeps no W z2) := HN1; have HAP1 : Hid (Ap z1 (some ⟨g1, 0, none⟩) o1 z2) := hap1; clear HC hap1 ho1 HN1; have HC : Hid (Keeps no W z2) := HC4.out.2)
            refine hKq.out _ _ ?_ (fun hHeldN => ?_)
            · exact HSX.out _ HC.out
            clear hKq Kq hHeld
            have hHeld := hHeldN
            clear hHeldN
            refine wpAnyH_ready (rs := [7]) (by kernel_rfl) (by simp) ?_
            refine AllReadyH.cons (by simp only [List.getElem?_toArray, List.getElem?_cons_succ, List.getElem?_cons_zero]; rfl) (fun Kq hKq => ?_) AllReadyH.nil
            (go_simp; have HB2 : Hid (Own TE (z2.alloc (.cells #[] 9)) (some ⟨z2.heap.size, 0, none⟩) 0 []) := own_empty okT z2; have HC3 : Hid (Keeps no W (z2.alloc (.cells #[] 9)) ∧ Keeps no z2 (z2.alloc (.cells #[] 9)) ∧ W.heap.size ≤ z2.heap.size) := ⟨HC.out.alloc _, (Keeps.refl no _).alloc _, HC.out.size⟩; clear HC; generalize z2.alloc (.cells #[] 9) = z3 at HB2 HC3 ⊢; generalize z2.heap.size = g2 at HB2 HC3 ⊢; have HC : Hid (Keeps no W z3) := HC3.out.1)
            refine hKq.out _ _ ?_ (fun hHeldN => ?_)
            · exact HSX.out _ HC.out
            clear hKq Kq hHeld
            have hHeld := hHeldN
            clear hHeldN
            refine wpAnyH_ready (rs := [10]) (by kernel_rfl) (by simp) ?_
            refine AllReadyH.cons (by simp only [List.getElem?_toArray, List.getElem?_cons_succ, List.getElem?_cons_zero]; rfl) (fun Kq hKq => ?_) AllReadyH.nil
            (refine step_appX okT rfl (.tmp 32) (.tmp 34) rfl (some ⟨g2, 0, none⟩) 0 0 [] rfl rfl (HB2.out) ak nk ck keys rfl HAR.out.2.1 HAR.out.2.2.2.nil (HAR.out.2.2.2.keepsN HC.out).row HBD.out.2.2.1 HBD.out.2.2.2 ?_; intro o2 c2 z4 ho2 hap2; have HQ : Hid (Own TE z4 o2 c2 keys) := ho2; have HP2 : Hid (Own PE z4 o1 c1 ps) := (by have hp := (HP.out.keepsN HC3.out.2.1); rcases hap2 with ⟨_, ha⟩ | ⟨_, ha⟩; exact hp.keeps ha (fun b hb hc => tags_ne hp (HB2.out) (by decide) b hb hc); exact hp.keepsN ha); have HN2 := hap2.new (w0 := W) (new_fresh W g2 HC3.out.2.2 0) HC.out; have HC5 : Hid (New W o2 ∧ Keeps no W z4) := HN2; clear HC hap2 ho2 HN2 HP; have HP : Hid (Own PE z4 o1 c1 ps) := HP2.out; have HC : Hid (Keeps no W z4) := HC5.out.2)
            refine hKq.out _ _ ?_ (fun hHeldN => ?_)
            · exact HSX.out _ HC.out
            clear hKq Kq hHeld
            have hHeld := hHeldN
            clear hHeldN
            refine wpAnyH_ready (rs := [13]) (by kernel_rfl) (by simp) ?_
            refine AllReadyH.cons (by simp only [List.getElem?_toArray, List.getElem?_cons_succ, List.getElem?_cons_zero]; rfl) (fun Kq hKq => ?_) AllReadyH.nil
            (go_simp; refine ((HOW.out.1.go HC.out).xPut (by have := HOW.out.2; omega) x HAX.out.1 o1 np c1 o2 nk c2 (by rw [← HEQ.out.1]; exact HAR.out.1) (by rw [← HEQ.out.2]; exact HAR.out.2.1) (by rw [← HEQ.out.1]; exact HP.out.sl) (by rw [← HEQ.out.2]; exact HQ.out.sl) HAX.out.2.2.1 HAX.out.2.2.2).mono ?_; rintro e z5 ⟨B5, v5, rfl, h5⟩; obtain ⟨M5, hM5, ho5, hk5⟩ := h5.out; have H5 : Hid (M5 ≤ N + x.ps.length ∧ Ow w z5 p (putX s x) M5 no ∧ z5.heap[O]? = some (.cells #[.int .i64 x.kd, .int .u64 ((x.i : Nat) : Int), .string x.y, .slice ap np cp, .slice ak nk ck, .int .i64 x.now] 55 (0, 0))) := ⟨hM5, ho5.sub (fun b hb => hb.elim), (hk5.at (HC.out.at HOB.out id) (fun hn => hn HPO.out))⟩; clear h5 hM5 ho5 hk5)
            refine hKq.out _ _ ?_ (fun hHeldN => ?_)
            · exact HSB.out _ H5.out.2.2
            clear hKq Kq hHeld
            have hHeld := hHeldN
            clear hHeldN
            refine wpAnyH_done (by kernel_rfl) ?_ _
            clear hHeld
            go_wp2_with fail
            go_roundw
            case rel => exact HFIN.out M5 _ (by have e1 : stepO s x = putX s x := if_pos HKD.out; rw [e1]; exact ⟨H5.out.1, H5.out.2.1⟩)
            case measure => simp [intOf]; omega
          · (go_simp; have HB2 : Hid (Own TE (z1.alloc (.cells #[] 9)) (some ⟨z1.heap.size, 0, none⟩) 0 []) := own_empty okT z1; have HC3 : Hid (Keeps no W (z1.alloc (.cells #[] 9)) ∧ Keeps no z1 (z1.alloc (.cells #[] 9)) ∧ W.heap.size ≤ z1.heap.size) := ⟨HC.out.alloc _, (Keeps.refl no _).alloc _, HC.out.size⟩; clear HC; generalize z1.alloc (.cells #[] 9) = z2 at HB2 HC3 ⊢; generalize z1.heap.size = g2 at HB2 HC3 ⊢; have HC : Hid (Keeps no W z2) := HC3.out.1)
            refine hKq.out _ _ ?_ (fun hHeldN => ?_)
            · exact HSX.out _ HC.out
            clear hKq Kq hHeld
            have hHeld := hHeldN
            clear hHeldN
            refine wpAnyH_ready (rs := [6]) (by kernel_rfl) (by simp) ?_
            refine AllReadyH.cons (by simp only [List.getElem?_toArray, List.getElem?_cons_succ, List.getElem?_cons_zero]; rfl) (fun Kq hKq => ?_) AllReadyH.nil
            (refine step_appX okP rfl (.tmp 28) (.tmp 30) rfl (some ⟨g1, 0, none⟩) 0 0 [] rfl rfl (HB1.out.keepsN HC3.out.2.1) ap np cp ps rfl HAR.out.1 HAR.out.2.2.1.nil (HAR.out.2.2.1.keepsN HC.out).row HBD.out.1 HBD.out.2.1 ?_; intro o1 c1 z3 ho1 hap1; have HP : Hid (Own PE z3 o1 c1 ps) := ho1; have HN1 := hap1.new (w0 := W) (new_fresh W g1 HC2.out.2.2 0) HC.out; have HC4 : Hid (New W o1 ∧ Keeps no W z3) := HN1; have HAP1 : Hid (Ap z2 (some ⟨g1, 0, none⟩) o1 z3) := hap1; clear HC hap1 ho1 HN1; have HC : Hid (Keeps no W z3) := HC4.out.2)
            refine hKq.out _ _ ?_ (fun hHeldN => ?_)
            · exact HSX.out _ HC.out
            clear hKq Kq hHeld
            have hHeld := hHeldN
            clear hHeldN
            refine wpAnyH_ready (rs := [10]) (by kernel_rfl) (by simp) ?_
            refine AllReadyH.cons (by simp only [List.getElem?_toArray, List.getElem?_cons_succ, List.getElem?_cons_zero]; rfl) (fun Kq hKq => ?_) AllReadyH.nil
            (refine step_appX okT rfl (.tmp 32) (.tmp 34) rfl (some ⟨g2, 0, none⟩) 0 0 [] rfl rfl ((by rcases HAP1.out with ⟨_, ha⟩ | ⟨_, ha⟩; exact HB2.out.keeps ha (fun b hb hc => tags_ne (HB1.out.keepsN HC3.out.2.1) HB2.out (by decide) b hc hb); exact HB2.out.keepsN ha)) ak nk ck keys rfl HAR.out.2.1 HAR.out.2.2.2.nil (HAR.out.2.2.2.keepsN HC.out).row HBD.out.2.2.1 HBD.out.2.2.2 ?_; intro o2 c2 z4 ho2 hap2; have HQ : Hid (Own TE z4 o2 c2 keys) := ho2; have HP2 : Hid (Own PE z4 o1 c1 ps) := (by have hp := (HP.out); rcases hap2 with ⟨_, ha⟩ | ⟨_, ha⟩; exact hp.keeps ha (fun b hb hc => tags_ne hp ((by rcases HAP1.out with ⟨_, ha⟩ | ⟨_, ha⟩; exact HB2.out.keeps ha (fun b hb hc => tags_ne (HB1.out.keepsN HC3.out.2.1) HB2.out (by decide) b hc hb); exact HB2.out.keepsN ha)) (by decide) b hb hc); exact hp.keepsN ha); have HN2 := hap2.new (w0 := W) (new_fresh W g2 HC3.out.2.2 0) HC.out; have HC5 : Hid (New W o2 ∧ Keeps no W z4) := HN2; clear HC hap2 ho2 HN2 HP; have HP : Hid (Own PE z4 o1 c1 ps) := HP2.out; have HC : Hid (Keeps no W z4) := HC5.out.2)
            refine hKq.out _ _ ?_ (fun hHeldN => ?_)
            · exact HSX.out _ HC.out
            clear hKq Kq hHeld
            have hHeld := hHeldN
            clear hHeldN
            refine wpAnyH_ready (rs := [13]) (by kernel_rfl) (by simp) ?_
            refine AllReadyH.cons (by simp only [List.getElem?_toArray, List.getElem?_cons_succ, List.getElem?_cons_zero]; rfl) (fun Kq hKq => ?_) AllReadyH.nil
            (go_simp; refine ((HOW.out.1.go HC.out).xPut (by have := HOW.out.2; omega) x HAX.out.1 o1 np c1 o2 nk c2 (by rw [← HEQ.out.1]; exact HAR.out.1) (by rw [← HEQ.out.2]; exact HAR.out.2.1) (by rw [← HEQ.out.1]; exact HP.out.sl) (by rw [← HEQ.out.2]; exact HQ.out.sl) HAX.out.2.2.1 HAX.out.2.2.2).mono ?_; rintro e z5 ⟨B5, v5, rfl, h5⟩; obtain ⟨M5, hM5, ho5, hk5⟩ := h5.out; have H5 : Hid (M5 ≤ N + x.ps.length ∧ Ow w z5 p (putX s x) M5 no ∧ z5.heap[O]? = some (.cells #[.int .i64 x.kd, .int .u64 ((x.i : Nat) : Int), .string x.y, .slice ap np cp, .slice ak nk ck, .int .i64 x.now] 55 (0, 0))) := ⟨hM5, ho5.sub (fun b hb => hb.elim), (hk5.at (HC.out.at HOB.out id) (fun hn => hn HPO.out))⟩; clear h5 hM5 ho5 hk5)
            refine hKq.out _ _ ?_ (fun hHeldN => ?_)
            · exact HSB.out _ H5.out.2.2
            clear hKq Kq hHeld
            have hHeld := hHeldN
            clear hHeldN
            refine wpAnyH_done (by kernel_rfl) ?_ _
            clear hHeld
            go_wp2_with fail
            go_roundw
            case rel => exact HFIN.out M5 _ (by have e1 : stepO s x = putX s x := if_pos HKD.out; rw [e1]; exact ⟨H5.out.1, H5.out.2.1⟩)
            case measure => simp [intOf]; omega
        · (go_simp; have HB2 : Hid (Own TE (z0.alloc (.cells #[] 9)) (some ⟨z0.heap.size, 0, none⟩) 0 []) := own_empty okT z0; have HC3 : Hid (Keeps no W (z0.alloc (.cells #[] 9)) ∧ Keeps no z0 (z0.alloc (.cells #[] 9)) ∧ W.heap.size ≤ z0.heap.size) := ⟨HC.out.alloc _, (Keeps.refl no _).alloc _, HC.out.size⟩; clear HC; generalize z0.alloc (.cells #[] 9) = z1 at HB2 HC3 ⊢; generalize z0.heap.size = g2 at HB2 HC3 ⊢; have HC : Hid (Keeps no W z1) := HC3.out.1)
          refine hKq.out _ _ ?_ (fun hHeldN => ?_)
          · exact HSX.out _ HC.out
          clear hKq Kq hHeld
          have hHeld := hHeldN
          clear hHeldN
          refine wpAnyH_ready (rs := [3]) (by kernel_rfl) (by simp) ?_
          refine AllReadyH.cons (by simp only [List.getElem?_toArray, List.getElem?_cons_succ, List.getElem?_cons_zero]; rfl) (fun Kq hKq => ?_) AllReadyH.nil
          (go_simp; have HB1 : Hid (Own PE (z1.alloc (.cells #[] 70)) (some ⟨z1.heap.size, 0, none⟩) 0 []) := own_empty okP z1; have HC2 : Hid (Keeps no W (z1.alloc (.cells #[] 70)) ∧ Keeps no z1 (z1.alloc (.cells #[] 70)) ∧ W.heap.size ≤ z1.heap.size) := ⟨HC.out.alloc _, (Keeps.refl no _).alloc _, HC.out.size⟩; clear HC; generalize z1.alloc (.cells #[] 70) = z2 at HB1 HC2 ⊢; generalize z1.heap.size = g1 at HB1 HC2 ⊢; have HC : Hid (Keeps no W z2) := HC2.out.1)
          refine hKq.out _ _ ?_ (fun hHeldN => ?_)
          · exact HSX.out _ HC.out
          clear hKq Kq hHeld
          have hHeld := hHeldN
          clear hHeldN
          refine wpAnyH_ready (rs := [6]) (by kernel_rfl) (by simp) ?_
          refine AllReadyH.cons (by simp only [List.getElem?_toArray, List.getElem?_cons_succ, List.getElem?_cons_zero]; rfl) (fun Kq hKq => ?_) AllReadyH.nil
          (refine step_appX okP rfl (.tmp 28) (.tmp 30) rfl (some ⟨g1, 0, none⟩) 0 0 [] rfl rfl (HB1.out) ap np cp ps rfl HAR.out.1 HAR.out.2.2.1.nil (HAR.out.2.2.1.keepsN HC.out).row HBD.out.1 HBD.out.2.1 ?_; intro o1 c1 z3 ho1 hap1; have HP : Hid (Own PE z3 o1 c1 ps) := ho1; have HN1 := hap1.new (w0 := W) (new_fresh W g1 HC2.out.2.2 0) HC.out; have HC4 : Hid (New W o1 ∧ Keeps no W z3) := HN1; have HAP1 : Hid (Ap z2 (some ⟨g1, 0, none⟩) o1 z3) := hap1; clear HC hap1 ho1 HN1; have HC : Hid (Keeps no W z3) := HC4.out.2)
          refine hKq.out _ _ ?_ (fun hHeldN => ?_)
          · exact HSX.out _ HC.out
          clear hKq Kq hHeld
          have hHeld := hHeldN
          clear hHeldN
          refine wpAnyH_ready (rs := [10]) (by kernel_rfl) (by simp) ?_
          refine AllReadyH.cons (by simp only [List.getElem?_toArray, List.getElem?_cons_succ, List.getElem?_cons_zero]; rfl) (fun Kq hKq => ?_) AllReadyH.nil
          (refine step_appX okT rfl (.tmp 32) (.tmp 34) rfl (some ⟨g2, 0, none⟩) 0 0 [] rfl rfl ((by rcases HAP1.out with ⟨_, ha⟩ | ⟨_, ha⟩; exact (HB2.out.keepsN HC2.out.2.1).keeps ha (fun b hb hc => tags_ne HB1.out (HB2.out.keepsN HC2.out.2.1) (by decide) b hc hb); exact (HB2.out.keepsN HC2.out.2.1).keepsN ha)) ak nk ck keys rfl HAR.out.2.1 HAR.out.2.2.2.nil (HAR.out.2.2.2.keepsN HC.out).row HBD.out.2.2.1 HBD.out.2.2.2 ?_; intro o2 c2 z4 ho2 hap2; have HQ : Hid (Own TE z4 o2 c2 keys) := ho2; have HP2 : Hid (Own PE z4 o1 c1 ps) := (by have hp := (HP.out); rcases hap2 with ⟨_, ha⟩ | ⟨_, ha⟩; exact hp.keeps ha (fun b hb hc => tags_ne hp ((by rcases HAP1.out with ⟨_, ha⟩ | ⟨_, ha⟩; exact (HB2.out.keepsN HC2.out.2.1).keeps ha (fun b hb hc => tags_ne HB1.out (HB2.out.keepsN HC2.out.2.1) (by decide) b hc hb); exact (HB2.out.keepsN HC2.out.2.1).keepsN ha)) (by decide) b hb hc); exact hp.keepsN ha); have HN2 := hap2.new (w0 := W) (new_fresh W g2 HC3.out.2.2 0) HC.out; have HC5 : Hid (New W o2 ∧ Keeps no W z4) := HN2; clear HC hap2 ho2 HN2 HP; have HP : Hid (Own PE z4 o1 c1 ps) := HP2.out; have HC : Hid (Keeps no W z4) := HC5.out.2)
          refine hKq.out _ _ ?_ (fun hHeldN => ?_)
          · exact HSX.out _ HC.out
          clear hKq Kq hHeld
          have hHeld := hHeldN
          clear hHeldN
          refine wpAnyH_ready (rs := [13]) (by kernel_rfl) (by simp) ?_
          refine AllReadyH.cons (by simp only [List.getElem?_toArray, List.getElem?_cons_succ, List.getElem?_cons_zero]; rfl) (fun Kq hKq => ?_) AllReadyH.nil
          (go_simp; refine ((HOW.out.1.go HC.out).xPut (by have := HOW.out.2; omega) x HAX.out.1 o1 np c1 o2 nk c2 (by rw [← HEQ.out.1]; exact HAR.out.1) (by rw [← HEQ.out.2]; exact HAR.out.2.1) (by rw [← HEQ.out.1]; exact HP.out.sl) (by rw [← HEQ.out.2]; exact HQ.out.sl) HAX.out.2.2.1 HAX.out.2.2.2).mono ?_; rintro e z5 ⟨B5, v5, rfl, h5⟩; obtain ⟨M5, hM5, ho5, hk5⟩ := h5.out; have H5 : Hid (M5 ≤ N + x.ps.length ∧ Ow w z5 p (putX s x) M5 no ∧ z5.heap[O]? = some (.cells #[.int .i64 x.kd, .int .u64 ((x.i : Nat) : Int), .string x.y, .slice ap np cp, .slice ak nk ck, .int .i64 x.now] 55 (0, 0))) := ⟨hM5, ho5.sub (fun b hb => hb.elim), (hk5.at (HC.out.at HOB.out id) (fun hn => hn HPO.out))⟩; clear h5 hM5 ho5 hk5)
          refine hKq.out _ _ ?_ (fun hHeldN => ?_)
          · exact HSB.out _ H5.out.2.2
          clear hKq Kq hHeld
          have hHeld := hHeldN
          clear hHeldN
          refine wpAnyH_done (by kernel_rfl) ?_ _
          clear hHeld
          go_wp2_with fail
          go_roundw
          case rel => exact HFIN.out M5 _ (by have e1 : stepO s x = putX s x := if_pos HKD.out; rw [e1]; exact ⟨H5.out.1, H5.out.2.1⟩)
          case measure => simp [intOf]; omega
      · have hk1' : (x.kd == 1) = false := by simpa using hk1
        have HK1 : Hid (¬ x.kd = 1) := hk1
        clear hk1
        by_cases hk2 : x.kd = 2
        · have hk2' : (x.kd == 2) = true := by simpa using hk2
          have HK2 : Hid (stepO s x = comX s x) := (show _ = _ by unfold stepO; rw [if_neg HK1.out, if_pos hk2])
          clear hk2
          go_wp2_with fail
          refine (HOW.out.1.xCommit (by have := HOW.out.2; omega) x HAX.out.1).mono ?_
          rintro e z5 ⟨v4, v5, rfl, h5⟩
          go_wp2_with fail
          go_roundw
          case rel => exact HFIN.out N _ ⟨by omega, by rw [HK2.out]; exact h5.out.1.sub (fun b hb => hb.elim)⟩
          case measure => simp [intOf]; omega
        · have hk2' : (x.kd == 2) = false := by simpa using hk2
          have HK2 : Hid (¬ x.kd = 2) := hk2
          clear hk2
          by_cases hk3 : x.kd = 3
          · have hk3' : (x.kd == 3) = true := by simpa using hk3
            have HK3 : Hid (stepO s x = dropR s (x.y, x.i)) := (show _ = _ by unfold stepO; rw [if_neg HK1.out, if_neg HK2.out, if_pos hk3])
            clear hk3
            go_wp2_with fail
            refine (HOW.out.1.xDrop x HAX.out.1 HAX.out.2.1).mono ?_
            rintro e z5 ⟨v5, rfl, h5⟩
            go_wp2_with fail
            go_roundw
            case rel => exact HFIN.out N _ ⟨by omega, by rw [HK3.out]; exact h5.out.1.sub (fun b hb => hb.elim)⟩
            case measure => simp [intOf]; omega
          · have hk3' : (x.kd == 3) = false := by simpa using hk3
            have HK3 : Hid (stepO s x = s) := (show _ = _ by unfold stepO; rw [if_neg HK1.out, if_neg HK2.out, if_neg hk3])
            clear hk3
            go_wp2_with fail
            go_roundw
            case rel => exact HFIN.out N _ ⟨by omega, by rw [HK3.out]; exact HOW.out.1.sub (fun b hb => hb.elim)⟩
            case measure => simp [intOf]; omega
    · have hlt' : ¬ (k : Int) < n := by omega
      have e1 : L.take k = L := List.take_of_length_le (by have := HA.out.1; have := HA.out.2.2.1.n; omega)
      rw [e1] at HG
      go_wp2_with fail
      go_ret
      exact ⟨p, rfl, HG⟩
end Go.Proofs.YtbnohdgdadfjlaaGreatDoor

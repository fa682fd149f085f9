import Derived.Test.YtagekdmkidbhpaaGreatKP
import Derived.Test.YtagekdmkidbhpaaGreatLt
/- RetainKeeps. -/
namespace Go.Proofs.YtagekdmkidbhpaaGreat
open Go.RowKit Go.Maps Go.Sort Orl
set_option linter.unusedVariables false
set_option linter.unusedSimpArgs false

theorem and15k (b : Nat) (hb : b < 256) : bits .and .u8 (b : Int) 15 = ((b % 16 : Nat) : Int) := by
  have := u8_and_nat b 15 hb (by decide)
  rw [show b &&& 15 = b % 16 from Nat.and_two_pow_sub_one_eq_mod _ 4] at this
  exact this
theorem and31k (b : Nat) (hb : b < 256) : bits .and .u8 (b : Int) 31 = ((b % 32 : Nat) : Int) := by
  have := u8_and_nat b 31 hb (by decide)
  rw [show b &&& 31 = b % 32 from Nat.and_two_pow_sub_one_eq_mod _ 5] at this
  exact this
theorem fieldV1 (a b c d : Value) (w : World) : (Instr.field 45 (.agg #[a, b, c, d]) 1).run Tryz.prog w = .ok b w := by kernel_rfl
/-- all that the loops read -/
structure Kh (w : World) (p : Nat) (s : St) (t : Int) (o1 : Option Addr) (n1 c1 : Nat) (ks : List KV) (o2 : Option Addr) (n2 c2 : Nat) (ls : List Mk) (o3 : Option Addr) (n3 c3 : Nat) (ds : List Mk) (o4 : Option Addr) (n4 c4 : Nat) (rs : List KV) : Prop where
  ok : Ok s
  ksp : KsP s ks
  du : ds = dsOf t ks
  lk : IsLs s ls
  re : KsEq rs (rsOf t ks)
  n1 : n1 = ks.length
  n2 : n2 = ls.length
  n3 : n3 = ds.length
  n4 : n4 = rs.length
  m1 : Sl KE w o1 c1 ks
  k1 : OkKs w ks
  m2 : Sl LE w o2 c2 ls
  m3 : Sl WE w o3 c3 ds
  m4 : Sl KE w o4 c4 rs
  k4 : OkKs w rs
theorem Kh.keepsN {w w' : World} {p : Nat} {s : St} {t : Int} {o1 : Option Addr} {n1 c1 : Nat} {ks : List KV} {o2 : Option Addr} {n2 c2 : Nat} {ls : List Mk} {o3 : Option Addr} {n3 c3 : Nat} {ds : List Mk} {o4 : Option Addr} {n4 c4 : Nat} {rs : List KV} (h : Kh w p s t o1 n1 c1 ks o2 n2 c2 ls o3 n3 c3 ds o4 n4 c4 rs) (hk : Keeps no w w') : Kh w' p s t o1 n1 c1 ks o2 n2 c2 ls o3 n3 c3 ds o4 n4 c4 rs :=
  { h with m1 := h.m1.keepsN hk, k1 := h.k1.keepsN hk, m2 := h.m2.keepsN hk, m3 := h.m3.keepsN hk, m4 := h.m4.keepsN hk, k4 := h.k4.keepsN hk }
set_option maxRecDepth 10000 in
set_option maxHeartbeats 4000000 in
theorem keeps_any (w : World) (o : Option Addr) (n c : Nat) (xs : List OV) (hn : n = xs.length) (hl : xs.length ≤ 1048576) (hs : Sl OE w o c xs) (hok : ∀ x ∈ xs, OkO x) (more keep : Nat) (hm : more < 256) (hk : keep < 256) :
    Calls Tryz.prog 4 #[.slice o n c, .int .u8 ((more : Nat) : Int), .int .u8 ((keep : Nat) : Int)] w fun e w' => e = .returned (.bool true) ∧ Keeps no w w' := by
  have hal := alive_any w
  have HA : Hid (n = xs.length ∧ xs.length ≤ 7036874417766 ∧ Sl OE w o c xs ∧ ∀ x ∈ xs, OkO x) := ⟨hn, by omega, hs, hok⟩
  have hnb : (n : Int) ≤ 1048576 := by omega
  have h15 := and15k keep hk
  have h31 := and31k more hm
  obtain ⟨hold, hh⟩ : ∃ hold : Int, hold = ((keep % 16 : Nat) : Int) := ⟨_, rfl⟩
  obtain ⟨mo, hmo⟩ : ∃ mo : Int, mo = ((more % 32 : Nat) : Int) := ⟨_, rfl⟩
  rw [← hh] at h15
  rw [← hmo] at h31
  have hh0 : 0 ≤ hold := by omega
  have hh1 : hold ≤ 15 := by omega
  have hm0 : 0 ≤ mo := by omega
  have hm1 : mo ≤ 31 := by omega
  clear hn hl hs hok hh hmo hm hk
  go_enter Tryz.func4, Tryz.ntmps4
  go_wp2_with (go_at_call 6; refine hal.mono ?_; rintro e w1 ⟨rfl, hk1⟩)
  refine (built_any w1 o n c xs HA.out.1 HA.out.2.1 (HA.out.2.2.1.keepsN hk1) HA.out.2.2.2).mono ?_
  rintro e w2 ⟨p, now, rfl, hw0, hw1, ha⟩
  obtain ⟨s, hs⟩ : ∃ s, s = (runS (xs.take n)).1 := ⟨_, rfl⟩
  have H2 : Hid (Ow w1 w2 p s 384 no ∧ Supp s ∧ Keeps no w w1) := ⟨by rw [hs]; exact ha.out.ow, by rw [hs]; exact ha.out.su, hk1⟩
  clear hal hk1 ha hs HA
  go_wp2_with fail
  refine (H2.out.1.keptK (by omega)).mono ?_
  rintro e w3 ⟨o1, n1, c1, ks, rfl, h3⟩
  go_wp2_with fail
  refine ((H2.out.1.go h3.out.2.2.1).lastsK (by omega)).mono ?_
  rintro e w4 ⟨o2, n2, c2, ls, rfl, h4⟩
  have K4 : Hid (Keeps no w2 w4) := h3.out.2.2.1.trans h4.out.2.2.1
  go_wp2_with fail
  have htk : tickB (now + mo) = true := tick_iff.2 ⟨by omega, by omega⟩
  have hrt : retB hold = true := by simp [retB]; omega
  have HT : Hid (tickB (now + mo) = true ∧ retB hold = true) := ⟨htk, hrt⟩
  clear htk hrt
  refine ((H2.out.1.go K4.out).due (now + mo) hold HT.out.1 HT.out.2 (by omega)).mono ?_
  rintro e w5 ⟨v5, rfl, o3, n3, c3, ds, rfl, hn3, h5, hi5⟩
  have K5 : Hid (Keeps no w2 w5) := K4.out.trans h5.out.2.2
  go_wp2_with fail
  refine ((H2.out.1.go K5.out).next hold HT.out.2 (by omega)).mono ?_
  rintro e w6 ⟨z6, is6, rfl, hk6, hx6⟩
  have K6 : Hid (Keeps no w2 w6) := K5.out.trans hk6.out
  have HND : Hid (decide (0 < ds.length) = (is6 && decide (z6 ≤ now + mo))) := by
    obtain ⟨L, hz, hi⟩ := hx6.out
    exact next_due hi hi5.out.1 hz
  have K36 : Hid (Keeps no w3 w6 ∧ Keeps no w5 w6) := ⟨h4.out.2.2.1.trans (h5.out.2.2.trans hk6.out), hk6.out⟩
  have hkk := (H2.out.1.go K6.out).keptK (by omega)
  have HN3 : Hid (n3 = ds.length ∧ ds.length ≤ 384 ∧ n1 = ks.length ∧ ks.length ≤ 384 ∧ n2 = ls.length ∧ ls.length ≤ 384) := ⟨hn3.out, hi5.out.2, h3.out.1.n, h3.out.2.2.2, h4.out.1.n, h4.out.2.2.2⟩
  have hn3b : (n3 : Int) ≤ 384 := by have := HN3.out; omega
  have hn1b : (n1 : Int) ≤ 384 := by have := HN3.out; omega
  have hn2b : (n2 : Int) ≤ 384 := by have := HN3.out; omega
  clear hk6 hx6 hn3
  go_upto_region 12 with fail
  go_cut [86] from 62 to 85 (fun s86 X => s86 = .bool false ∧ Hid (Keeps no w6 X))
  case first =>
    have hcase : (is6 = true ∧ z6 ≤ now + mo ∧ 0 < n3) ∨ (is6 = true ∧ ¬ z6 ≤ now + mo ∧ n3 = 0) ∨ (is6 = false ∧ n3 = 0) := by
      have h1 := HND.out
      have h2 := HN3.out.1
      cases is6 with
      | true =>
        by_cases hz : z6 ≤ now + mo
        · left
          simp [hz] at h1
          exact ⟨rfl, hz, by omega⟩
        · right; left
          simp [hz] at h1
          exact ⟨rfl, hz, by rw [h2, h1]; rfl⟩
      | false =>
        right; right
        simp at h1
        exact ⟨rfl, by rw [h2, h1]; rfl⟩
    have HKK : Hid (∀ P : Prop, P → P) := fun _ h => h
    rcases hcase with ⟨rfl, hz, hn0⟩ | ⟨rfl, hz, rfl⟩ | ⟨rfl, rfl⟩
    all_goals (go_wp2_with fail)
    all_goals (refine hkk.mono ?_; rintro e w7 ⟨o7, n7, c7, k7, rfl, h7⟩)
    all_goals (have hsk := sameKd (s := s) (t := s) (fun m => rfl) h7.out.1 (h3.out.1.keepsN (K36.out.1.trans h7.out.2.2.1)))
    all_goals (go_wp2_with fail)
    all_goals (refine hsk.mono ?_; rintro e w8 ⟨rfl, hk8⟩)
    all_goals (have HK8 : Hid (Keeps no w6 w8) := h7.out.2.2.1.trans hk8)
    all_goals (clear hsk h7 hk8)
    all_goals (go_wp2_with fail)
    all_goals go_meet
    all_goals first | exact ⟨rfl, HK8⟩ | exact ⟨by rw [decide_eq_false (by omega)], HK8⟩
  case rest =>
  obtain ⟨rfl, HK8⟩ := hcut
  rename World => w8
  have h28 := K6.out.trans HK8.out
  obtain ⟨P, hP⟩ : ∃ P : Nat → Prop, P = fun b => no b ∨ (w2.heap.size ≤ b ∧ b < w8.heap.size) := ⟨_, rfl⟩
  have hO8 := H2.out.1.grow h28
  rw [← hP] at hO8
  have inP : ∀ b, w2.heap.size ≤ b → b < w8.heap.size → P b := fun b h1 h2 => by rw [hP]; exact .inr ⟨h1, h2⟩
  have M1 : Hid (Own KE w8 o1 c1 ks ∧ (∀ x ∈ ks, Own TE w8 x.o x.c x.keys) ∧ Own LE w8 o2 c2 ls ∧ Own WE w8 o3 c3 ds) := ⟨h3.out.1.own.keepsN (K36.out.1.trans HK8.out), fun x hx => (h3.out.1.key x hx).keepsN (K36.out.1.trans HK8.out), h4.out.1.own.keepsN ((h5.out.2.2.trans K36.out.2).trans HK8.out), h5.out.1.keepsN (K36.out.2.trans HK8.out)⟩
  have M2 : Hid ((∀ b, inO o1 b → P b) ∧ (∀ x ∈ ks, ∀ b, inO x.o b → P b) ∧ (∀ b, inO o2 b → P b) ∧ ∀ b, inO o3 b → P b) :=
    ⟨fun b hb => inP b (h3.out.2.1.new b hb) (M1.out.1.lt b hb), fun x hx b hb => inP b ((h3.out.2.1.key x hx).2 b hb) ((M1.out.2.1 x hx).lt b hb), fun b hb => inP b (Nat.le_trans h3.out.2.2.1.size (h4.out.2.1 b hb)) (M1.out.2.2.1.lt b hb), fun b hb => inP b (Nat.le_trans K4.out.size (h5.out.2.1 b hb)) (M1.out.2.2.2.lt b hb)⟩
  have HP : Hid (KsP s ks ∧ IsLs s ls ∧ ds = dsOf (now + mo - hold) ks ∧ Ok s) := ⟨h3.out.1.ksP, h4.out.1.is, hi5.out.1.same (dsOf_is h3.out.1.ksP _), H2.out.1.ok⟩
  have H8 : Hid (Ow w1 w8 p s 384 P) := hO8
  clear hkk hO8 inP hP h28 h3 h4 h5 hi5 K36
  go_wp2_with fail
  refine (H8.out.collect (now + mo) hold HT.out.1 HT.out.2 (by omega)).mono ?_
  rintro e w9 ⟨v9, rfl, o5, n5, c5, d5, rfl, hn5, h9, hi9⟩
  have hd5 : d5 = ds := by rw [HP.out.2.2.1]; exact hi9.out.1.same (dsOf_is HP.out.1 _)
  subst d5
  have H9 : Hid (Ow w1 w9 p (collS s (now + mo - hold)) 384 (fun b => P b ∨ inO o5 b) ∧ Own WE w9 o5 c5 ds ∧ n5 = ds.length) := ⟨h9.out.2.2.1, h9.out.1, hn5.out⟩
  have K89 : Hid (Keeps (fun b => ¬ P b) w8 w9) := h9.out.2.2.2
  have M9 : Hid (Own KE w9 o1 c1 ks ∧ (∀ x ∈ ks, Own TE w9 x.o x.c x.keys) ∧ Own LE w9 o2 c2 ls ∧ Own WE w9 o3 c3 ds) :=
    ⟨M1.out.1.keeps K89.out (fun b hb hc => hc (M2.out.1 b hb)), fun x hx => (M1.out.2.1 x hx).keeps K89.out (fun b hb hc => hc (M2.out.2.1 x hx b hb)), M1.out.2.2.1.keeps K89.out (fun b hb hc => hc (M2.out.2.2.1 b hb)), M1.out.2.2.2.keeps K89.out (fun b hb hc => hc (M2.out.2.2.2 b hb))⟩
  clear hn5 h9 hi9 M1 M2 H8 K89
  go_wp2_with fail
  refine (H9.out.1.keptK (by omega)).mono ?_
  rintro e w10 ⟨o4, n4, c4, rs, rfl, h10⟩
  have hsw := sameW_any w10 o5 n5 c5 o3 n3 c3 ds H9.out.2.2 HN3.out.1 (by have := HN3.out; omega) (H9.out.2.1.sl.keepsN h10.out.2.2.1) (M9.out.2.2.2.sl.keepsN h10.out.2.2.1)
  have hre : KsEq rs (rsOf (now + mo - hold) ks) := h10.out.1.ksP.same (rsOf_is HP.out.1 _)
  have hlen : n4 + n3 = n1 := by
    have e1 := hre.1
    have e2 := ds_rs (now + mo - hold) ks
    rw [← HP.out.2.2.1] at e2
    have e3 := h10.out.1.n
    have := HN3.out
    omega
  have HKH : Hid (Kh w10 p s (now + mo - hold) o1 n1 c1 ks o2 n2 c2 ls o3 n3 c3 ds o4 n4 c4 rs) :=
    ⟨HP.out.2.2.2, HP.out.1, HP.out.2.2.1, HP.out.2.1, hre, HN3.out.2.2.1, HN3.out.2.2.2.2.1, HN3.out.1, h10.out.1.n, M9.out.1.sl.keepsN h10.out.2.2.1, fun x hx => ⟨(M9.out.2.1 x hx).sl.keepsN h10.out.2.2.1, by have := HP.out.2.2.2.v.len (HP.out.1.is x hx); simp only at this; omega⟩, M9.out.2.2.1.sl.keepsN h10.out.2.2.1, M9.out.2.2.2.sl.keepsN h10.out.2.2.1, h10.out.1.own.sl, h10.out.1.okKs⟩
  have H10 : Hid (Ow w1 w10 p (collS s (now + mo - hold)) 384 no ∧ Ld s ls o2 n2 c2 w10) := ⟨(H9.out.1.go h10.out.2.2.1).sub (fun b hb => hb.elim), HN3.out.2.2.2.2.1, M9.out.2.2.1.keepsN h10.out.2.2.1, HP.out.2.1, HP.out.2.2.2, by have := HN3.out; omega⟩
  have hn4b : (n4 : Int) ≤ 384 := by have := HN3.out; omega
  have hlen' : (n4 : Int) + n3 = n1 := by omega
  clear h10 hre M9
  go_wp2_with (go_at_call 15; refine hsw.mono ?_; rintro e w11 ⟨rfl, hk11⟩)
  refine ((H10.out.1.go hk11).lastsK (by omega)).mono ?_
  rintro e w12 ⟨o6, n6, c6, l6, rfl, h12⟩
  have K12 : Hid (Keeps no w10 w12) := hk11.trans h12.out.2.2.1
  have hsl := sameLd (s := collS s (now + mo - hold)) (t := s) (fun k => rfl) h12.out.1 (H10.out.2.keepsN K12.out)
  clear hsw hk11 h12
  go_upto_block 18 with (go_at_call 11; refine hsl.mono ?_; rintro e w13 ⟨rfl, hk13⟩)
  obtain ⟨t, ht⟩ : ∃ t : Int, t = now + mo - hold := ⟨_, rfl⟩
  rw [← ht] at HKH H10
  have HTT : Hid (t = now + mo - hold) := ht
  have HE : Hid (Kh w13 p s t o1 n1 c1 ks o2 n2 c2 ls o3 n3 c3 ds o4 n4 c4 rs ∧ Ow w1 w13 p (collS s t) 384 no) := ⟨HKH.out.keepsN (K12.out.trans hk13), H10.out.1.go (K12.out.trans hk13)⟩
  obtain ⟨nw, hnw⟩ : ∃ nw : Int, nw = now + mo := ⟨_, rfl⟩
  have HNW : Hid (nw = now + mo ∧ 0 ≤ nw ∧ nw ≤ 8000000) := ⟨hnw, by omega, by omega⟩
  rw [← hnw]
  have hnw0 : 0 ≤ nw := by omega
  have hnw1 : nw ≤ 8000000 := by omega
  clear hsl hk13 hlen hlen' HKH H10 H9 HN3 HP HND K12 ht hnw hw0 hw1 h31 h15
  go_wp2_with fail
  go_loopw [20, 21, 22, 23] (fun s20 s21 s22 _ wr => ∃ (i q r : Nat), i ≤ n1 ∧ s22 = .int .i64 i ∧ s20 = .int .i64 q ∧ s21 = .int .i64 r ∧ Hid (q = (dsOf t (ks.take i)).length ∧ r = (rsOf t (ks.take i)).length ∧ Keeps no w13 wr)) (fun _ _ s22 _ _ => n1 - (intOf s22).toNat)
  case atStart => exact ⟨0, 0, 0, by omega, rfl, rfl, rfl, by simp [dsOf], by simp [rsOf], Keeps.refl _ _⟩
  case round =>
    obtain ⟨i, q, r, hi, rfl, rfl, rfl, HG⟩ := hrel
    by_cases hlt : i < n1
    · have hlt' : (i : Int) < n1 := by omega
      have hil : i < ks.length := by rw [← HE.out.1.n1]; exact hlt
      obtain ⟨b1, f1, rfl, d0, d1, d2, d3, d4⟩ := atK (HE.out.1.m1.keepsN HG.out.2.2) hil
      have hxm := getD_mem_lt kv0 hil
      have hxk := HE.out.1.ksp.is _ hxm
      have hxo := HE.out.1.k1 _ hxm
      obtain ⟨x, hx⟩ : ∃ x, x = ks.getD i kv0 := ⟨_, rfl⟩
      rw [← hx] at d0 d1 d2 d3 d4 hxm hxk hxo
      have hold' := HE.out.1.ok.old hxk
      have hsz := HE.out.1.ok.v.size hxk
      simp only at hold'
      obtain ⟨W1, hW1⟩ : ∃ W1, W1 = wr.alloc (.cells #[.string x.m.1, .int .u64 ((x.m.2 : Nat) : Int), .string x.val, .slice x.o x.keys.length x.c] 45) := ⟨_, rfl⟩
      have hk1 : Keeps no wr W1 := by rw [hW1]; exact (Keeps.refl no wr).alloc _
      have hbk : W1.heap[wr.heap.size]? = some (.cells #[.string x.m.1, .int .u64 ((x.m.2 : Nat) : Int), .string x.val, .slice x.o x.keys.length x.c] 45 (0, 0)) := by rw [hW1]; exact blk_new wr _
      obtain ⟨B, hB⟩ : ∃ B, wr.heap.size = B := ⟨_, rfl⟩
      rw [hB] at hbk
      have HX : Hid (x = ks.getD i kv0 ∧ x ∈ ks ∧ s.V x.m = some ⟨x.val, x.keys, x.stamp⟩ ∧ (x.stamp ≠ -1 ↔ x.m.2 < s.last x.m.1) ∧ x.m.1.size ≤ 65535 ∧ Keeps no w13 W1 ∧ W1.heap[B]? = some (.cells #[.string x.m.1, .int .u64 ((x.m.2 : Nat) : Int), .string x.val, .slice x.o x.keys.length x.c] 45 (0, 0)) ∧ i < ks.length) := ⟨hx, hxm, hxk, hold', hsz, HG.out.2.2.trans hk1, hbk, hil⟩
      have HS1 : Hid (s.V x.m = some ⟨x.val, x.keys, x.stamp⟩ → (x.stamp ≠ -1 → 0 ≤ x.stamp ∧ x.stamp ≤ 1099511627776)) := fun _ hs => (HE.out.1.ok.st _ _ hxk).1 (hold'.1 hs)
      have HXO : Hid (Sl TE w13 x.o x.c x.keys ∧ x.keys.length ≤ 1048576) := hxo
      clear hx hxm hxk hxo hold' hsz hk1 hbk hil
      obtain ⟨⟨xk, xi⟩, xv, xo, xc, xks, xst⟩ := x
      simp only at d0 d1 d2 d3 d4 hW1 HX HS1 HXO
      obtain ⟨xn, hxn⟩ : ∃ xn, xks.length = xn := ⟨_, rfl⟩
      rw [hxn] at d3 hW1 HX
      have HXN : Hid (xks.length = xn) := hxn
      clear hxn
      go_upto_region 24 with fail
      rw [← hW1]
      clear hW1 hB d0 d1 d2 d3 d4
      obtain ⟨b1', f1', hbe, d0, d1, d2, d3, d4⟩ := atK (HE.out.1.m1.keepsN HX.out.2.2.2.2.2.1) HX.out.2.2.2.2.2.2.2
      cases hbe
      rw [← HX.out.1] at d4
      have HC : Hid (∀ X, Keeps no W1 X → X.cell? ⟨b1, f1 + i * 5 + 4, none⟩ = some (.int .i64 xst) ∧ X.cell? ⟨B, 0, none⟩ = some (.string xk) ∧ X.cell? ⟨B, 1, none⟩ = some (.int .u64 ((xi : Nat) : Int)) ∧ X.cell? ⟨B, 2, none⟩ = some (.string xv) ∧ X.cell? ⟨B, 3, none⟩ = some (.slice xo xn xc)) := fun X hX => ⟨hX.cellN d4, hX.cellN (cell_of_blk HX.out.2.2.2.2.2.2.1 0), hX.cellN (cell_of_blk HX.out.2.2.2.2.2.2.1 1), hX.cellN (cell_of_blk HX.out.2.2.2.2.2.2.1 2), hX.cellN (cell_of_blk HX.out.2.2.2.2.2.2.1 3)⟩
      have HLa : Hid (∀ X, Keeps no W1 X → ∀ d os, Calls Tryz.prog 16 #[.pointer (some ⟨p, 0, none⟩), .string xk] (Sort.grow (redrawn X d) os) fun e w'' => e = .returned (.int .u64 ((s.last xk : Nat) : Int)) ∧ ∃ p : Regrown, w'' = Sort.grow (redrawn X p.d) p.os) := fun X hX => call_grown (fun Y hY => ((HE.out.2.go ((HX.out.2.2.2.2.2.1.trans hX).trans hY)).last xk HX.out.2.2.2.2.1).mono fun e w' ⟨h1, h2⟩ => ⟨h1, by rw [h2]; exact Keeps.refl _ _⟩)
      clear d0 d1 d2 d3 d4
      cases hdu : duK t ⟨(xk, xi), xv, xo, xc, xks, xst⟩ with
      | true =>
        have hat := ds_at HX.out.2.2.2.2.2.2.2 (t := t) (by rw [← HX.out.1]; exact hdu)
        rw [← HX.out.1, ← HE.out.1.du] at hat
        have hq3 : q < ds.length := by rw [HG.out.1]; exact hat.1
        obtain ⟨b3, f3, rfl, g0, g1⟩ := atW (HE.out.1.m3.keepsN HX.out.2.2.2.2.2.1) hq3
        rw [HG.out.1, hat.2.1] at g0 g1
        rw [← HG.out.1] at g0 g1
        have x0 := cell_regrown g0
        have x1 := cell_regrown g1
        have hqn : (q : Int) < n3 := by have := HE.out.1.n3; omega
        have hst : xst ≠ -1 ∧ xst ≤ t := by simpa [duK] using hdu
        have hsl : xi < s.last xk := HX.out.2.2.2.1.1 hst.1
        have hsr := HS1.out HX.out.2.2.1 hst.1
        have hs0 : 0 ≤ xst := hsr.1
        have hs1 : xst ≤ 1099511627776 := hsr.2
        have hc1 : decide ((s.last xk : Int) ≤ xi) = false := decide_eq_false (by omega)
        have hc1n : decide (s.last xk ≤ xi) = false := decide_eq_false (by omega)
        have hc2 : ¬ nw - xst < hold := by have := HTT.out; have := HNW.out.1; omega
        have hc2d : decide (nw - xst < hold) = false := decide_eq_false hc2
        have HS2 : Hid (dsOf t (ks.take (i + 1)) = dsOf t (ks.take i) ++ [(xk, xi)] ∧ rsOf t (ks.take (i + 1)) = rsOf t (ks.take i)) := hat.2.2
        obtain ⟨_, y0, y1, _, _⟩ := HC.out W1 (Keeps.refl _ _)
        have y0 := cell_regrown y0
        have y1 := cell_regrown y1
        clear hat hq3 g0 g1 hst hsl hsr
        refine wp_region_quiet_below (by kernel_rfl) (by kernel_rfl) ?_
        repeat (go_big_quiet_step (fail))
        refine wpQuiet_nil ?_
        intro _ hw'
        obtain ⟨⟨dq, osq⟩, rfl⟩ := hw'
        have HK2 : Hid (Keeps no W1 (Sort.grow (redrawn W1 dq) osq)) := keeps_grownQ ..
        generalize Sort.grow (redrawn W1 dq) osq = W2 at HK2 ⊢
        clear x0 x1 y0 y1
        go_upto_region 25 with fail
        obtain ⟨z4, y0, y1, _, _⟩ := HC.out W2 HK2.out
        have z4 := cell_regrown z4
        have y0 := cell_regrown y0
        have y1 := cell_regrown y1
        have cLa := HLa.out W2 HK2.out
        refine wp_region_quiet_below (by kernel_rfl) (by kernel_rfl) ?_
        repeat (go_big_quiet_step (exact cLa _ _))
        refine wpQuiet_nil ?_
        intro _ hw'
        obtain ⟨⟨dq2, osq2⟩, rfl⟩ := hw'
        have HK3 : Hid (Keeps no W1 (Sort.grow (redrawn W2 dq2) osq2)) := HK2.out.trans (keeps_grownQ ..)
        generalize Sort.grow (redrawn W2 dq2) osq2 = W3 at HK3 ⊢
        clear z4 y0 y1 cLa
        go_wp2_with fail
        go_roundw
        case rel =>
          refine ⟨i + 1, q + 1, r, by omega, by go_num, by go_num, rfl, ?_, ?_, HX.out.2.2.2.2.2.1.trans HK3.out⟩
          · rw [HS2.out.1, List.length_append, HG.out.1]; rfl
          · rw [HS2.out.2]; exact HG.out.2.1
        case measure => simp [intOf]; omega
      | false =>
        have hat := rs_at HX.out.2.2.2.2.2.2.2 (t := t) (by rw [← HX.out.1]; exact hdu)
        rw [← HX.out.1] at hat
        have hnd := not_ds HE.out.1.ksp HX.out.2.1 hdu
        rw [← HE.out.1.du] at hnd
        have HS2 : Hid (rsOf t (ks.take (i + 1)) = rsOf t (ks.take i) ++ [⟨(xk, xi), xv, xo, xc, xks, xst⟩] ∧ dsOf t (ks.take (i + 1)) = dsOf t (ks.take i)) := hat.2.2
        have hrl : r < rs.length := by rw [HE.out.1.re.1, HG.out.2.1]; exact hat.1
        have hrx := HE.out.1.re.2 r hrl
        rw [HG.out.2.1, hat.2.1, ← HG.out.2.1] at hrx
        have hst : ¬ (xst ≠ -1 ∧ xst ≤ t) := by simpa [duK] using hdu
        have HND : Hid ((xk, xi) ∉ ds) := hnd
        have HRX : Hid (r < rs.length ∧ KvEq (rs.getD r kv0) ⟨(xk, xi), xv, xo, xc, xks, xst⟩ ∧ ¬ (xst ≠ -1 ∧ xst ≤ t)) := ⟨hrl, hrx, hst⟩
        clear hat hnd hrl hrx hst hdu
        go_cut [155] from 132 to 154 (fun s155 X => s155 = .bool false ∧ Hid (Keeps no W1 X))
        case first =>
          obtain ⟨_, y0, y1, _, _⟩ := HC.out W1 (Keeps.refl _ _)
          have y0 := cell_regrown y0
          have y1 := cell_regrown y1
          by_cases hq : q < n3
          · have hqn : (q : Int) < n3 := by omega
            have hq3 : q < ds.length := by rw [← HE.out.1.n3]; exact hq
            obtain ⟨b3, f3, rfl, g0, g1⟩ := atW (HE.out.1.m3.keepsN HX.out.2.2.2.2.2.1) hq3
            have hdm := getD_mem_lt (e0, 0) hq3
            generalize ds.getD q (e0, 0) = dd at g0 g1 hdm
            obtain ⟨dk, di⟩ := dd
            simp only at g0 g1
            have x0 := cell_regrown g0
            have x1 := cell_regrown g1
            clear g0 g1 hq3
            by_cases hkk : dk = xk
            · subst hkk
              have hii : di ≠ xi := fun e => HND.out (by rw [← e]; exact hdm)
              have hi1 : ((di : Int) == (xi : Int)) = false := beq_eq_false_iff_ne.2 (by omega)
              have hi2 : (di == xi) = false := beq_eq_false_iff_ne.2 hii
              have hi3 : decide (di = xi) = false := decide_eq_false hii
              clear hdm
              refine wp_region_quiet_below (by kernel_rfl) (by kernel_rfl) ?_
              repeat (go_big_quiet_step (fail))
              refine wpQuiet_nil ?_
              intro _ hw'
              obtain ⟨⟨dq, osq⟩, rfl⟩ := hw'
              have HK2 : Hid (Keeps no W1 (Sort.grow (redrawn W1 dq) osq)) := keeps_grownQ ..
              generalize Sort.grow (redrawn W1 dq) osq = W2 at HK2 ⊢
              go_wp2_with fail
              go_meet
              exact ⟨rfl, HK2⟩
            · have ht1 : (dk.toList == xk.toList) = false := by rw [tx_eq]; exact decide_eq_false hkk
              have ht2 : ¬ dk.toList = xk.toList := fun e => hkk ((toListI _ _).1 e)
              have ht3 : decide (dk.toList = xk.toList) = false := decide_eq_false ht2
              clear hdm
              refine wp_region_quiet_below (by kernel_rfl) (by kernel_rfl) ?_
              repeat (go_big_quiet_step (fail))
              refine wpQuiet_nil ?_
              intro _ hw'
              obtain ⟨⟨dq, osq⟩, rfl⟩ := hw'
              have HK2 : Hid (Keeps no W1 (Sort.grow (redrawn W1 dq) osq)) := keeps_grownQ ..
              generalize Sort.grow (redrawn W1 dq) osq = W2 at HK2 ⊢
              go_wp2_with fail
              go_meet
              exact ⟨rfl, HK2⟩
          · have hqn : ¬ (q : Int) < n3 := by omega
            have hqd : decide ((q : Int) < n3) = false := decide_eq_false hqn
            have hqe : decide (q < n3) = false := decide_eq_false hq
            refine wp_region_quiet_below (by kernel_rfl) (by kernel_rfl) ?_
            repeat (go_big_quiet_step (fail))
            refine wpQuiet_nil ?_
            intro _ hw'
            obtain ⟨⟨dq, osq⟩, rfl⟩ := hw'
            have HK2 : Hid (Keeps no W1 (Sort.grow (redrawn W1 dq) osq)) := keeps_grownQ ..
            generalize Sort.grow (redrawn W1 dq) osq = W2 at HK2 ⊢
            go_wp2_with fail
            go_meet
            exact ⟨rfl, HK2⟩
        case rest =>
        obtain ⟨rfl, HK2⟩ := hcut
        rename World => W2
        go_upto_region 28 with fail
        have hk2 := HX.out.2.2.2.2.2.1.trans HK2.out
        obtain ⟨b4, f4, rfl, r0, r1, r2, r3, r4⟩ := atK (HE.out.1.m4.keepsN hk2) HRX.out.1
        have hxo2 := HE.out.1.k4 _ (getD_mem_lt kv0 HRX.out.1)
        have hkv := HRX.out.2.1
        generalize rs.getD r kv0 = y at r0 r1 r2 r3 r4 hxo2 hkv
        obtain ⟨⟨yk, yi⟩, yv, yo, yc, yks, yst⟩ := y
        obtain ⟨q1, q2, q3, q4⟩ := hkv
        simp only at q1 q2 q3 q4 r0 r1 r2 r3 r4 hxo2
        injection q1 with q1 q1'
        subst q1 q1' q2 q3 q4
        rw [HXN.out] at r3
        have cS := call_grown (W := W2) (f := 17) (args := #[.agg #[.string yk, .int .u64 ((yi : Nat) : Int), .string yv, .slice yo xn yc], .agg #[.string yk, .int .u64 ((yi : Nat) : Int), .string yv, .slice xo xn xc]]) (v := .bool true) (fun X hX => (sameVersion_any X ⟨yk, _, yv, yo, xn, yc⟩ ⟨yk, _, yv, xo, xn, xc⟩ yks yks HXN.out.symm HXN.out.symm (by have := hxo2.2; omega) (by have := hxo2.2; omega) (hxo2.1.keepsN (hk2.trans hX)) (HXO.out.1.keepsN (hk2.trans hX))).mono (fun e w' ⟨⟨B, hB, hB2⟩, hk⟩ => ⟨by rw [hB, hB2.out.2 ⟨rfl, rfl, rfl, rfl⟩], hk⟩))
        obtain ⟨z4, y0, y1, y2, y3⟩ := HC.out W2 HK2.out
        have z4 := cell_regrown z4
        have y0 := cell_regrown y0
        have y1 := cell_regrown y1
        have y2 := cell_regrown y2
        have y3 := cell_regrown y3
        have x0 := cell_regrown r0
        have x1 := cell_regrown r1
        have x2 := cell_regrown r2
        have x3 := cell_regrown r3
        have x4 := cell_regrown r4
        have hrn : (r : Int) < n4 := by have := HRX.out.1; have := HE.out.1.n4; omega
        have hrn2 : decide ((n4 : Int) ≤ r) = false := decide_eq_false (by omega)
        have hrn3 : decide (n4 ≤ r) = false := decide_eq_false (by omega)
        clear r0 r1 r2 r3 r4 hxo2
        refine wp_region_quiet_below (by kernel_rfl) (by kernel_rfl) ?_
        repeat (go_big_quiet_step (exact cS _ _))
        refine wpQuiet_nil ?_
        intro _ hw'
        obtain ⟨⟨dq, osq⟩, rfl⟩ := hw'
        have HK3 : Hid (Keeps no W1 (Sort.grow (redrawn W2 dq) osq)) := HK2.out.trans (keeps_grownQ ..)
        generalize Sort.grow (redrawn W2 dq) osq = W3 at HK3 ⊢
        clear x0 x1 x2 x3 x4 z4 y0 y1 y2 y3 cS hk2
        go_upto_region 30 with fail
        go_cut [220] from 203 to 219 (fun s220 X => s220 = .bool false ∧ Hid (Keeps no W1 X))
        case first =>
          obtain ⟨z4, y0, y1, _, _⟩ := HC.out W3 HK3.out
          have z4 := cell_regrown z4
          have y0 := cell_regrown y0
          have y1 := cell_regrown y1
          have cLa := HLa.out W3 HK3.out
          by_cases hs : yst = -1
          · have hlo : ¬ yi < s.last yk := fun h => (HX.out.2.2.2.1.2 h) hs
            have hc1 : decide ((yi : Int) < (s.last yk : Int)) = false := decide_eq_false (by omega)
            have hc2 : decide (yi < s.last yk) = false := decide_eq_false hlo
            clear hs
            refine wp_region_quiet_below (by kernel_rfl) (by kernel_rfl) ?_
            repeat (go_big_quiet_step (exact cLa _ _))
            refine wpQuiet_nil ?_
            intro _ hw'
            obtain ⟨⟨dq, osq⟩, rfl⟩ := hw'
            have HK4 : Hid (Keeps no W1 (Sort.grow (redrawn W3 dq) osq)) := HK3.out.trans (keeps_grownQ ..)
            generalize Sort.grow (redrawn W3 dq) osq = W4 at HK4 ⊢
            go_wp2_with fail
            go_meet
            exact ⟨rfl, HK4⟩
          · have hlo : yi < s.last yk := HX.out.2.2.2.1.1 hs
            have hsr := HS1.out HX.out.2.2.1 hs
            have hs0 : 0 ≤ yst := hsr.1
            have hs1 : yst ≤ 1099511627776 := hsr.2
            have hc1 : decide ((yi : Int) < (s.last yk : Int)) = true := decide_eq_true (by omega)
            have hc2 : decide (yi < s.last yk) = true := decide_eq_true hlo
            have hgt : t < yst := by
              have := HRX.out.2.2
              rcases Int.lt_or_le t yst with h | h
              · exact h
              · exact absurd ⟨hs, h⟩ this
            have hc3 : ¬ hold ≤ nw - yst := by have := HTT.out; have := HNW.out.1; omega
            have hc4 : decide (hold ≤ nw - yst) = false := decide_eq_false hc3
            clear hs hsr hgt
            refine wp_region_quiet_below (by kernel_rfl) (by kernel_rfl) ?_
            repeat (go_big_quiet_step (exact cLa _ _))
            refine wpQuiet_nil ?_
            intro _ hw'
            obtain ⟨⟨dq, osq⟩, rfl⟩ := hw'
            have HK4 : Hid (Keeps no W1 (Sort.grow (redrawn W3 dq) osq)) := HK3.out.trans (keeps_grownQ ..)
            generalize Sort.grow (redrawn W3 dq) osq = W4 at HK4 ⊢
            go_wp2_with fail
            go_meet
            first | exact ⟨rfl, HK4⟩ | exact ⟨by rw [hc4], HK4⟩
        case rest =>
        obtain ⟨rfl, HK4⟩ := hcut
        rename World => W4
        go_wp2_with fail
        go_roundw
        case rel =>
          refine ⟨i + 1, q, r + 1, by omega, by go_num, rfl, by go_num, ?_, ?_, HX.out.2.2.2.2.2.1.trans HK4.out⟩
          · rw [HS2.out.2]; exact HG.out.1
          · rw [HS2.out.1, List.length_append, HG.out.2.1]; rfl
        case measure => simp [intOf]; omega
    · have hin : i = n1 := by omega
      have HQ : Hid (q = n3 ∧ Keeps no w13 wr) := by
        have h1 := HG.out.1
        rw [List.take_of_length_le (by rw [← HE.out.1.n1]; omega), ← HE.out.1.du, ← HE.out.1.n3] at h1
        exact ⟨h1, HG.out.2.2⟩
      have hlt' : ¬ (i : Int) < n1 := by omega
      have hqn : (q : Int) = n3 := by have := HQ.out.1; omega
      clear hin hqn hlt'
      go_wp2_with fail
      go_loopw [24] (fun s24 wq => ∃ j : Nat, j ≤ n2 ∧ s24 = .int .i64 j ∧ Hid (Keeps no w13 wq)) (fun s24 _ => n2 - (intOf s24).toNat)
      case atStart => exact ⟨0, by omega, rfl, HQ.out.2⟩
      case round =>
        obtain ⟨j, hj, rfl, HJ⟩ := hrel
        rename World => wq
        by_cases hlj : j < n2
        · have hlj' : (j : Int) < n2 := by omega
          have hjl : j < ls.length := by rw [← HE.out.1.n2]; exact hlj
          obtain ⟨b2, f2, rfl, d0, d1⟩ := (HE.out.1.m2.keepsN HJ.out).atL hjl
          have hm := getD_mem_lt (e0, 0) hjl
          generalize ls.getD j (e0, 0) = l at d0 d1 hm
          obtain ⟨lk, li⟩ := l
          simp only at d0 d1
          obtain ⟨hla, hl0⟩ := (HE.out.1.lk.2 lk li).1 hm
          have hsz : lk.size ≤ 65535 := by
            have h1 := HE.out.1.ok.la lk (by rw [hla]; exact hl0)
            cases hv : s.V (lk, s.last lk) with
            | none => exact absurd hv h1
            | some v => exact HE.out.1.ok.v.size hv
          have HLt : Hid (∀ X, Keeps no wq X → Calls Tryz.prog 18 #[.pointer (some ⟨p, 0, none⟩), .string lk] X fun e w' => ∃ c o n d, e = .returned (.agg #[.string lk, .int .u64 ((li : Nat) : Int), .string c, .slice o n d]) ∧ Keeps no X w') := fun X hX => ((HE.out.2.go (HJ.out.trans hX)).latest lk hsz).mono fun e w' ⟨c, o, n, d, h1, h2, _⟩ => ⟨c, o, n, d, by rw [h1]; show Ending.returned (.agg #[_, .int .u64 ((s.last lk : Nat) : Int), _, _]) = _; rw [hla], h2.out⟩
          have HST : Hid (∀ X, Keeps no wq X → X.cell? ⟨b2, f2 + j * 2, none⟩ = some (.string lk) ∧ X.cell? ⟨b2, f2 + j * 2 + 1, none⟩ = some (.int .u64 ((li : Nat) : Int))) := fun X hX => ⟨hX.cellN d0, hX.cellN d1⟩
          have hfd := fieldV1
          clear d0 d1 hm hla hl0 hsz hjl
          go_upto_region 36 with fail
          go_region_held3 (fun X => X.cell? ⟨b2, f2 + j * 2, none⟩ = some (.string lk) ∧ X.cell? ⟨b2, f2 + j * 2 + 1, none⟩ = some (.int .u64 ((li : Nat) : Int))) (first | exact HST.out _ HKZ.out | exact HST.out _ ((Keeps.refl no _).drew) | exact HST.out _ (Keeps.refl no _)) ((go_at_call 18; refine (HLt.out _ ((Keeps.refl no wq).drew)).mono ?_; rintro e wz ⟨c9, o9, n9, d9, rfl, hk9⟩; have HKZ : Hid (Keeps no wq wz) := (Keeps.refl no wq).drew.trans hk9; have hcz := HST.out _ HKZ.out; obtain ⟨hcz0, hcz1⟩ := hcz; clear hk9))
          all_goals (try (rename _ ∧ _ => hh; clear hh))
          go_wp2_with fail
          go_roundw
          case rel => exact ⟨j + 1, by omega, by go_num, HJ.out.trans HKZ.out⟩
          case measure => simp [intOf]; omega
        · have hlj' : ¬ (j : Int) < n2 := by omega
          have hD := (HE.out.2.go HJ.out).due nw hold (by have := HNW.out.1; rw [this]; exact HT.out.1) HT.out.2 (by omega)
          rw [show nw - hold = t by have := HNW.out.1; have := HTT.out; omega] at hD
          go_wp2_with fail
          refine hD.mono ?_
          rintro e w15 ⟨v15, rfl, o7, n7, c7, d7, rfl, hn7, h7, hi7⟩
          have e7 : d7 = [] := hi7.out.1.same due_none
          subst e7
          have en7 : n7 = 0 := hn7.out
          subst en7
          have HF : Hid (Keeps no w w15) := (H2.out.2.2.trans HE.out.2.keep).trans (HJ.out.trans h7.out.2.2)
          have hqn : ((q : Int) == (n3 : Int)) = true := by have := HQ.out.1; simp [this]
          clear hD hn7 h7 hi7
          go_wp2_with fail
          go_ret
          exact ⟨rfl, HF.out⟩
end Go.Proofs.YtagekdmkidbhpaaGreat

/- RecordTold: its walk. -/
import Derived.Test.YtdalheeifgampaaDoorD5
import Derived.Test.YtdalheeifgampaaDoorS1
import Derived.Test.YtdalheeifgampaaDoorBm
import Derived.Deep.CutBlock
namespace Go.Proofs.YtdalheeifgampaaDoor
open Go.RowKit Go.Sort Orl Pk
set_option linter.unusedVariables false
set_option linter.unusedSimpArgs false

theorem vals_set (bs : List Nat) (j v : Nat) : (vals bs).set j (.int .u8 (v : Nat)) = vals (bs.set j v) := by
  unfold vals
  rw [List.map_set]
theorem Owns.set {w : World} {g c : Nat} {bs : List Nat} (h : Owns w (some ⟨g, 0, none⟩) c bs) (j v : Nat) : Owns (w.setCell ⟨g, j, none⟩ (.int .u8 (v : Nat))) (some ⟨g, 0, none⟩) c (bs.set j v) := by
  have := (World.ownsRow.stored h j (.int .u8 (v : Nat))).1
  rw [vals_set] at this
  unfold Owns
  rw [List.length_set]
  exact this
theorem Owns.cellAt {w : World} {g c : Nat} {bs : List Nat} (h : Owns w (some ⟨g, 0, none⟩) c bs) (j : Nat) (hj : j < bs.length) : w.cell? ⟨g, j, none⟩ = some (.int .u8 (bs.getD j 0 : Nat)) := by
  rw [World.ownsRow.cellAt h j (by omega)]
  simp [vals, hj]
theorem Owns.free {w : World} {g c : Nat} {bs : List Nat} (h : Owns w (some ⟨g, 0, none⟩) c bs) (j : Nat) : w.frozen? ⟨g, j, none⟩ = false := World.ownsRow.frozenAt h j
/-- two slices of bytes of the law's own -/
structure Tw (w : World) (gb cb gc cc : Nat) (bs cs : List Nat) (W : World) : Prop where
  b : Owns W (some ⟨gb, 0, none⟩) cb bs
  c : Owns W (some ⟨gc, 0, none⟩) cc cs
  ne : gb ≠ gc
  nb : w.heap.size ≤ gb
  nc : w.heap.size ≤ gc
  kp : Keeps no w W
  bb : ∀ x ∈ bs, x < 256
  bc : ∀ x ∈ cs, x < 256
theorem Tw.keepsN {w : World} {gb cb gc cc : Nat} {bs cs : List Nat} {W W' : World} (h : Tw w gb cb gc cc bs cs W) (k : Keeps no W W') : Tw w gb cb gc cc bs cs W' :=
  ⟨h.b.keeps k (fun _ _ h => h), h.c.keeps k (fun _ _ h => h), h.ne, h.nb, h.nc, h.kp.trans k, h.bb, h.bc⟩
theorem Tw.setB {w : World} {gb cb gc cc : Nat} {bs cs : List Nat} {W : World} (h : Tw w gb cb gc cc bs cs W) (j v : Nat) (hv : v < 256) : Tw w gb cb gc cc (bs.set j v) cs (W.setCell ⟨gb, j, none⟩ (.int .u8 (v : Nat))).drew := by
  have kS : Keeps (eqA gb) W (W.setCell ⟨gb, j, none⟩ (.int .u8 (v : Nat))).drew := ((Keeps.refl (eqA gb) W).setA j _).drew
  refine ⟨(h.b.set j v).keeps (Keeps.refl no _).drew (fun _ _ h => h), h.c.keeps kS (fun k hk e => ?_), h.ne, h.nb, h.nc, h.kp.then kS (fun k hk => .inr (by unfold eqA at hk; rw [hk]; exact h.nb)), set_lt _ _ _ h.bb hv, h.bc⟩
  obtain ⟨x, ex, rfl⟩ := hk
  cases ex
  exact h.ne e.symm
theorem Tw.setC {w : World} {gb cb gc cc : Nat} {bs cs : List Nat} {W : World} (h : Tw w gb cb gc cc bs cs W) (j v : Nat) (hv : v < 256) : Tw w gb cb gc cc bs (cs.set j v) (W.setCell ⟨gc, j, none⟩ (.int .u8 (v : Nat))).drew := by
  have kS : Keeps (eqA gc) W (W.setCell ⟨gc, j, none⟩ (.int .u8 (v : Nat))).drew := ((Keeps.refl (eqA gc) W).setA j _).drew
  refine ⟨h.b.keeps kS (fun k hk e => ?_), (h.c.set j v).keeps (Keeps.refl no _).drew (fun _ _ h => h), h.ne, h.nb, h.nc, h.kp.then kS (fun k hk => .inr (by unfold eqA at hk; rw [hk]; exact h.nc)), h.bb, set_lt _ _ _ h.bc hv⟩
  obtain ⟨x, ex, rfl⟩ := hk
  cases ex
  exact h.ne e
/-- the bytes of the checksum, so many of them turned -/
def Tn (S mask : Nat) (k : Nat) (ss : List Nat) : Prop := ss.length = 4 ∧ (∀ c ∈ ss, c < 256) ∧ (∀ j, j < k → ss.getD j 0 = (num 4 S).getD j 0 ^^^ (mask / 2 ^ (8 * j) % 256)) ∧ ∀ j, k ≤ j → ss.getD j 0 = (num 4 S).getD j 0
theorem Tn.next {S mask k : Nat} {ss : List Nat} (h : Tn S mask k ss) (hk : k < 4) : Tn S mask (k + 1) (ss.set k (ss.getD k 0 ^^^ (mask / 2 ^ (8 * k) % 256))) := by
  obtain ⟨h1, h2, h3, h4⟩ := h
  have hlt : ss.getD k 0 < 256 := getD_lt' ss h2 k (by omega)
  refine ⟨by rw [List.length_set]; exact h1, set_lt _ _ _ h2 (Nat.xor_lt_two_pow (n := 8) hlt (Nat.mod_lt _ (by decide))), ?_, ?_⟩
  · intro j hj
    by_cases e : j = k
    · subst e
      rw [← h4 j (Nat.le_refl _)]
      simp [List.getD_eq_getElem?_getD, show j < ss.length by omega]
    · rw [← h3 j (by omega)]
      simp [List.getD_eq_getElem?_getD, List.getElem?_set_ne (fun h => e h.symm)]
  · intro j hj
    rw [← h4 j (by omega)]
    simp [List.getD_eq_getElem?_getD, List.getElem?_set_ne (show k ≠ j by omega)]
theorem Tn.other {S mask : Nat} {ss : List Nat} (h : Tn S mask 4 ss) (hm : mask ≠ 0) (hm2 : mask < 4294967296) (hS : S < 4294967296) : Pk.val ss ≠ S := by
  intro e
  obtain ⟨h1, h2, h3, _⟩ := h
  have hn := num_val 4 ss h1 h2
  rw [e] at hn
  have key : ∀ j, j < 4 → mask / 2 ^ (8 * j) % 256 = 0 := by
    intro j hj
    have h4 := h3 j hj
    rw [hn] at h4
    have h5 := congrArg (fun x => ss.getD j 0 ^^^ x) h4
    simp only [Nat.xor_self, ← Nat.xor_assoc, Nat.zero_xor] at h5
    exact h5.symm
  have k0 := key 0 (by decide)
  have k1 := key 1 (by decide)
  have k2 := key 2 (by decide)
  have k3 := key 3 (by decide)
  simp at k0 k1 k2 k3
  omega
theorem set_mid (a b c : List Nat) (j v : Nat) (hj : j < b.length) : (a ++ (b ++ c)).set (a.length + j) v = a ++ (b.set j v ++ c) := by
  rw [List.set_append_right _ _ (Nat.le_add_right _ _), Nat.add_sub_cancel_left, List.set_append_left _ _ hj]
theorem getD_mid (a b c : List Nat) (j : Nat) (hj : j < b.length) : (a ++ (b ++ c)).getD (a.length + j) 0 = b.getD j 0 := by
  simp only [List.getD_eq_getElem?_getD]
  rw [List.getElem?_append_right (by omega), Nat.add_sub_cancel_left, List.getElem?_append_left hj]
theorem got_c0 {w w' : World} {k : Int} {i : Nat} {op : Option Addr} {np cp : Nat} {ok : Option Addr} {nk ck : Nat} (h : Got w w' ⟨k, i, op, np, cp, ok, nk, ck⟩ c0) : IsC w' ⟨k, i, op, np, cp, ok, nk, ck⟩ c0 := h.isC
/-- the payload, so many bits of it turned -/
structure Fl (p : List Nat) (A mask k : Nat) (cs : List Nat) : Prop where
  len : cs.length = p.length
  byt : ∀ c ∈ cs, c < 256
  upd : Crc.upd 4294967295 cs = Crc.upd 4294967295 p ^^^ Crc.shn (8 * p.length - A) (mask % 2 ^ (min k (8 * p.length - A)))
  no : mask % 2 ^ (min k (8 * p.length - A)) = 0 → cs = p
theorem Fl.skip {p : List Nat} {A mask k : Nat} {cs : List Nat} (h : Fl p A mask k cs) (hb : ¬ mask / 2 ^ k % 2 = 1 ∨ 8 * p.length ≤ A + k) : Fl p A mask (k + 1) cs ∧ mask % 2 ^ (min (k + 1) (8 * p.length - A)) = mask % 2 ^ (min k (8 * p.length - A)) := by
  have e : mask % 2 ^ (min (k + 1) (8 * p.length - A)) = mask % 2 ^ (min k (8 * p.length - A)) := by
    by_cases hl : 8 * p.length ≤ A + k
    · rw [Nat.min_eq_right (by omega), Nat.min_eq_right (by omega)]
    · rw [Nat.min_eq_left (by omega), Nat.min_eq_left (by omega)]
      exact low_no mask k (by rcases hb with h | h; exact h; exact absurd h hl)
  refine ⟨⟨h.len, h.byt, by rw [e]; exact h.upd, by rw [e]; exact h.no⟩, e⟩
theorem Fl.turn {p : List Nat} {A mask k : Nat} {cs : List Nat} (h : Fl p A mask k cs) (hb : mask / 2 ^ k % 2 = 1) (hl : A + k < 8 * p.length) (hk : k < 32) : Fl p A mask (k + 1) (cs.set ((A + k) / 8) (cs.getD ((A + k) / 8) 0 ^^^ 2 ^ ((A + k) % 8))) ∧ mask % 2 ^ (min (k + 1) (8 * p.length - A)) ≠ 0 := by
  have e1 : min k (8 * p.length - A) = k := Nat.min_eq_left (by omega)
  have e2 : min (k + 1) (8 * p.length - A) = k + 1 := Nat.min_eq_left (by omega)
  have hu := h.upd
  rw [e1] at hu
  have hz : mask % 2 ^ (min (k + 1) (8 * p.length - A)) ≠ 0 := by rw [e2]; exact low_yes mask k hb
  refine ⟨⟨by rw [List.length_set]; exact h.len, set_lt _ _ _ h.byt (xor8_lt _ _ (getD_lt' cs h.byt _ (by have := h.len; omega)) (Nat.mod_lt _ (by decide))), ?_, fun h => absurd h hz⟩, hz⟩
  rw [e2]
  exact flip_yes p cs A k mask _ h.len hl hk hb rfl hu
theorem Fl.told {r : Rec} {A mask : Nat} {cs : List Nat} (h : Fl (body r) A mask 32 cs) (hm : may r = true) (hi : r.id < 18446744073709551616) (hl : (body r).length ≤ 1048576) :
    parse (num 4 (body r).length ++ (num 4 (Crc.sum (body r)) ++ cs)) = if mask % 2 ^ (min 32 (8 * (body r).length - A)) = 0 then (r, (enc r).length, 0) else (c0, 0, 90) := by
  by_cases hz : mask % 2 ^ (min 32 (8 * (body r).length - A)) = 0
  · rw [if_pos hz, h.no hz]
    have := parse_enc r hm hi hl (sum_body r) []
    rw [List.append_nil] at this
    exact this
  · rw [if_neg hz]
    refine parse_turned r hm hi hl cs h.len (fun e => hz ?_)
    refine (sums_part (body r) cs _ _ ?_ h.upd).1 e
    have : mask % 2 ^ (min 32 (8 * (body r).length - A)) < 2 ^ (min 32 (8 * (body r).length - A)) := Nat.mod_lt _ (Nat.two_pow_pos _)
    have h2 : 2 ^ (min 32 (8 * (body r).length - A)) ≤ 2 ^ 32 := Nat.pow_le_pow_right (by decide) (Nat.min_le_left _ _)
    omega
theorem body_len9 (r : Rec) : 9 ≤ (body r).length := by unfold body; rw [List.length_append, List.length_append, num_length, num_length]; omega
def TwA (w : World) (gb cb gc cc : Nat) (r : Rec) (m q : Nat) (W : World) : Prop := ∃ ss, Tn (Crc.sum (body r)) m q ss ∧ Tw w gb cb gc cc (enc r) (num 4 (body r).length ++ (ss ++ body r)) W
def TwB (w : World) (gb cb gc cc : Nat) (r : Rec) (ss : List Nat) (A m q : Nat) (W : World) : Prop := ∃ cs, Fl (body r) A m q cs ∧ Tw w gb cb gc cc (num 4 (body r).length ++ (num 4 (Crc.sum (body r)) ++ cs)) (num 4 (body r).length ++ (ss ++ body r)) W
theorem tn0 (S m : Nat) : Tn S m 0 (num 4 S) := ⟨num_length _ _, num_lt _ _, fun j hj => absurd hj (Nat.not_lt_zero _), fun j _ => rfl⟩
theorem fl0 (p : List Nat) (hp : ∀ c ∈ p, c < 256) (A m : Nat) : Fl p A m 0 p := ⟨rfl, hp, by simp [Nat.mod_one, Crc.shn_zero], fun _ => rfl⟩
theorem isC0 (w : World) : IsC w ⟨0, 0, none, 0, 0, none, 0, 0⟩ c0 := (got0 w w).isC
theorem Owns.bsl {w : World} {o : Option Addr} {c : Nat} {bs : List Nat} (h : Owns w o c bs) (hb : ∀ x ∈ bs, x < 256) (hl : bs.length ≤ 9223372036854775807) : BSl w o c bs := ⟨h.row hb hl, h.cap.1, h.cap.2⟩

set_option maxRecDepth 20000 in
set_option maxHeartbeats 4000000 in
theorem recordTold_any (w : World) (cmt : Bool) (id : Nat) (oK : Option Addr) (nK cK sm : Nat) (val : Tx) (xs : List Tx) (hP : IsPl w id oK nK cK sm val xs) (at_ : Int) (mask : Nat) (h1 : -9223372036854775808 ≤ at_) (h2 : at_ ≤ 9223372036854775807) (hmk : mask < 4294967296) (ht : TabIn w) :
    Calls Tryd.prog 4 #[.agg #[.bool cmt, .int .u64 (id : Nat), .slice oK nK cK, .int .u64 (sm : Nat), .string val], .int .i64 at_, .int .u32 (mask : Nat)] w fun e w' => e = .returned (.bool true) ∧ Keeps no w w' := by
  have HP : Hid (IsPl w id oK nK cK sm val xs) := hP
  clear hP
  have hk0 : Keeps no w (w.alloc (.cells #[.bool cmt, .int .u64 (id : Nat), .slice oK nK cK, .int .u64 (sm : Nat), .string val] 25)) := (Keeps.refl _ _).alloc _
  go_enter Tryd.func4, Tryd.ntmps4
  go_wp2_with fail
  refine (alive_any _ (ht.keepsN hk0)).mono ?_
  rintro e w1 ⟨rfl, hk1⟩
  have hb1 := hk1.at (blk_new w _) (fun h => h)
  obtain ⟨x0, x1, x2, x3, x4⟩ := cells5 hb1
  have HK1 : Hid (Keeps no w w1) := hk0.trans hk1
  clear hb1 hk0 hk1
  go_wp2_with fail
  refine (made_of (HP.out.keepsN HK1.out)).mono ?_
  rintro e w2 ⟨k, i, op, np, cp, ok, nk, ck, r, rfl, HG, hk2⟩
  have HK2 : Hid (Keeps no w w2) := HK1.out.trans hk2
  clear x0 x1 x2 x3 x4 hk2 HK1 HP
  go_wp2_with fail
  refine (Build_any w2 k i op np cp ok nk ck r HG.out.1.isC (ht.keepsN HK2.out)).mono ?_
  rintro e w3 ⟨o, n, c, rfl, hn, hown, hnew, hk3⟩
  obtain ⟨he, hbb⟩ := encE_ok HG.out.2.1 (by have := HG.out.2.2; omega)
  rw [hbb] at hn hown
  rw [he]
  have HR : Hid (may r = true ∧ r.id < 18446744073709551616 ∧ (body r).length ≤ 1048576) := ⟨HG.out.2.1, HG.out.1.fit.id, by have := HG.out.2.2; omega⟩
  obtain ⟨P, hPP⟩ : ∃ P, P = (body r).length := ⟨_, rfl⟩
  have HPP : Hid (P = (body r).length ∧ n = P + 8) := ⟨hPP, by rw [hn.out, enc_length, hPP]⟩
  have hP9 : 9 ≤ P ∧ P ≤ 100000 := ⟨by rw [hPP]; exact body_len9 r, by rw [hPP]; exact HG.out.2.2⟩
  have hnP : (n : Int) - 8 = (P : Int) := by have := HPP.out.2; omega
  have hn17 : ¬ (n : Int) < 17 := by omega
  have hnb : (n : Int) ≤ 100008 := by omega
  obtain ⟨gb, rfl⟩ : ∃ g, o = some ⟨g, 0, none⟩ := by
    rcases hown.shape with ⟨_, _, e⟩ | ⟨g, _, e, _⟩
    · have := enc_length r; rw [e] at this; simp at this
    · exact ⟨g, e⟩
  have HO3 : Hid (Owns w3 (some ⟨gb, 0, none⟩) c (enc r) ∧ w.heap.size ≤ gb ∧ Keeps no w w3) := ⟨hown, Nat.le_trans HK2.out.size (hnew gb ⟨_, rfl, rfl⟩), HK2.out.trans hk3⟩
  have HEN : Hid (n = (enc r).length) := hn
  clear hn hown hnew hk3 he hbb hPP HG HK2
  go_upto_if 38 with fail
  go_cut [2] from 37 to 38 (fun v wc => ∃ m : Nat, v = .int .u32 (m : Nat) ∧ m ≠ 0 ∧ m < 4294967296 ∧ wc = w3)
  case first =>
    by_cases hz : mask = 0
    · subst hz
      go_wp2_with fail
      go_meet
      case rel => exact ⟨1, rfl, by decide, by decide, rfl⟩
    · have hz1 : ((mask : Int) == 0) = false := by simp; omega
      have hz2 : ¬ (mask : Int) = 0 := by omega
      go_wp2_with fail
      go_meet
      case rel => exact ⟨mask, rfl, hz, hmk, rfl⟩
  case rest =>
  obtain ⟨m, rfl, hm0, hm32, rfl⟩ := hcut
  rename World => w3
  have HM0 : Hid (m ≠ 0) := hm0
  clear hm0
  go_wp2_with fail
  refine (own_any w3 _ n c (enc r) HEN.out (by omega) (HO3.out.1.bsl (enc_byt r) (by have := HEN.out; omega))).mono ?_
  rintro e w4 ⟨oc, nc, cc, rfl, hnc, hownc, hnewc, hk4⟩
  have hncn : nc = n := by rw [hnc.out, HEN.out]
  subst nc
  obtain ⟨gc, rfl⟩ : ∃ g, oc = some ⟨g, 0, none⟩ := by
    rcases hownc.shape with ⟨_, _, e⟩ | ⟨g, _, e, _⟩
    · have := enc_length r; rw [e] at this; simp at this
    · exact ⟨g, e⟩
  have HA0 : Hid (TwA w gb c gc cc r m 0 w4) := by
    have h3 := HO3.out
    have hgb := h3.1.lt gb ⟨_, rfl, rfl⟩
    have hgc := hnewc gc ⟨_, rfl, rfl⟩
    exact ⟨num 4 (Crc.sum (body r)), tn0 _ _, ⟨h3.1.keeps hk4 (fun _ _ h => h), hownc, by omega, h3.2.1, Nat.le_trans h3.2.2.size hgc, h3.2.2.trans hk4, enc_byt r, enc_byt r⟩⟩
  clear hownc hnewc hk4 HO3
  go_upto_block 0 with fail
  go_cut [10] from 41 to 59 (fun _ wc => TwA w gb c gc cc r m 4 wc)
  case first =>
    go_wp2_with fail
    go_loopw [10] (fun j wr => ∃ q : Nat, j = .int .i64 (q : Nat) ∧ q ≤ 4 ∧ TwA w gb c gc cc r m q wr) (fun j _ => 4 - (intOf j).toNat)
    case atStart => exact ⟨0, rfl, by omega, HA0.out⟩
    case round =>
      rename World => wq
      obtain ⟨q, rfl, hq, ss, hT, hW⟩ := hrel
      have HT : Hid (Tn (Crc.sum (body r)) m q ss ∧ Tw w gb c gc cc (enc r) (num 4 (body r).length ++ (ss ++ body r)) wq) := ⟨hT, hW⟩
      clear hT hW
      by_cases hq4 : q < 4
      · have hq4' : (q : Int) < 4 := by omega
        obtain ⟨x, hx⟩ : ∃ x, x = ss.getD q 0 := ⟨_, rfl⟩
        have hql : q < ss.length := by rw [HT.out.1.1]; exact hq4
        have hx256 : x < 256 := by rw [hx]; exact getD_lt' ss HT.out.1.2.1 q hql
        have hcell := HT.out.2.c.cellAt (4 + q) (by simp only [List.length_append, num_length]; omega)
        have hgm := getD_mid (num 4 (body r).length) ss (body r) q hql
        rw [num_length] at hgm
        rw [hgm, ← hx] at hcell
        have hfree := HT.out.2.c.free (4 + q)
        have HX : Hid (x = ss.getD q 0) := hx
        have hxor : bits .xor .u8 (x : Int) (((m : Int) / 2 ^ (8 * q)) % 256) = ((x ^^^ (m / 2 ^ (8 * q) % 256) : Nat) : Int) := by
          have := u8_xor_nat x (m / 2 ^ (8 * q) % 256) hx256 (Nat.mod_lt _ (by decide))
          rw [← this]
          congr 1
        clear hx hgm hql
        go_wp2_with fail
        go_region
        go_wp2_with fail
        go_roundw
        case rel =>
          have hql : q < ss.length := by rw [HT.out.1.1]; exact hq4
          have e := set_mid (num 4 (body r).length) ss (body r) q (x ^^^ m / 2 ^ (8 * q) % 256) hql
          rw [num_length] at e
          have hs := HT.out.2.setC (4 + q) (x ^^^ m / 2 ^ (8 * q) % 256) (Nat.xor_lt_two_pow (n := 8) hx256 (Nat.mod_lt _ (by decide)))
          rw [e] at hs
          refine ⟨q + 1, by go_num, by omega, ss.set q (x ^^^ m / 2 ^ (8 * q) % 256), ?_, hs⟩
          rw [HX.out]
          exact HT.out.1.next hq4
        case measure => simp [intOf]; omega
      · have hq4' : ¬ (q : Int) < 4 := by omega
        have hqe : q = 4 := by omega
        go_wp2_with fail
        go_meet
        case rel => subst hqe; exact ⟨ss, HT.out.1, HT.out.2⟩
  case rest =>
  obtain ⟨ss, hT, hW⟩ := hcut
  rename World => w5
  have HT : Hid (Tn (Crc.sum (body r)) m 4 ss ∧ Tw w gb c gc cc (enc r) (num 4 (body r).length ++ (ss ++ body r)) w5) := ⟨hT, hW⟩
  clear hT hW HA0
  have HSS : Hid (ss.length = 4) := HT.out.1.1
  have HOTH : Hid (parse (num 4 (body r).length ++ (ss ++ body r)) = (c0, 0, 90)) := parse_other r HR.out.2.2 ss HT.out.1.1 (HT.out.1.other HM0.out hm32 (sum_body r))
  go_upto_if 65 with fail
  go_cut [12] from 64 to 68 (fun v wc => ∃ A : Nat, v = .int .i64 (A : Nat) ∧ A < 8 * P ∧ wc = w5)
  case first =>
    by_cases hat : 0 ≤ at_
    · have hat' : at_ ≥ 0 := hat
      obtain ⟨A, hA, hA2⟩ : ∃ A : Nat, at_ % (8 * (P : Int)) = (A : Int) ∧ A < 8 * P := ⟨(at_ % (8 * (P : Int))).toNat, by have := Int.emod_nonneg at_ (show (8 * (P : Int)) ≠ 0 by omega); omega, by have h3 := Int.emod_nonneg at_ (show (8 * (P : Int)) ≠ 0 by omega); have h4 := Int.emod_lt_of_pos at_ (show (0 : Int) < 8 * (P : Int) by omega); omega⟩
      have hA' : Int.tmod at_ (8 * (P : Int)) = (A : Int) := by rw [Int.tmod_eq_emod_of_nonneg hat]; exact hA
      have h8P : ¬ (8 * (P : Int)) = 0 := by omega
      go_wp2_with fail
      go_meet
      case rel => exact ⟨A, rfl, hA2, rfl⟩
    · have hat' : ¬ at_ ≥ 0 := hat
      go_wp2_with fail
      go_meet
      case rel => exact ⟨0, rfl, by omega, rfl⟩
  case rest =>
  obtain ⟨A, rfl, hA8, rfl⟩ := hcut
  rename World => w5
  have HA8 : Hid (A < 8 * (body r).length) := by show A < _; rw [← HPP.out.1]; exact hA8
  have HB0 : Hid (TwB w gb c gc cc r ss A m 0 w5) := ⟨body r, fl0 _ (body_byt r) A m, HT.out.2⟩
  clear h1 h2
  go_upto_block 2 with fail
  go_cut [13, 14, 15] from 69 to 102 (fun v _ _ wc => ∃ b : Bool, v = .bool b ∧ Hid (b = decide (m % 2 ^ (min 32 (8 * (body r).length - A)) ≠ 0)) ∧ TwB w gb c gc cc r ss A m 32 wc)
  case first =>
    go_wp2_with fail
    go_loopw [13, 14] (fun v j wr => ∃ b q, v = .bool b ∧ j = .int .i64 ((q : Nat) : Int) ∧ q ≤ 32 ∧ Hid (b = decide (m % 2 ^ (min q (8 * (body r).length - A)) ≠ 0)) ∧ TwB w gb c gc cc r ss A m q wr) (fun _ j _ => 32 - (intOf j).toNat)
    case atStart => exact ⟨false, 0, rfl, rfl, by omega, by show _ = _; simp [Nat.mod_one], HB0.out⟩
    case round =>
      rename World => wq
      clear HB0
      obtain ⟨b, q, rfl, rfl, hq, HBB, cs, hF, hW⟩ := hrel
      have HF : Hid (Fl (body r) A m q cs ∧ Tw w gb c gc cc (num 4 (body r).length ++ (num 4 (Crc.sum (body r)) ++ cs)) (num 4 (body r).length ++ (ss ++ body r)) wq) := ⟨hF, hW⟩
      clear hF hW
      by_cases hq32 : q < 32
      · have hq32' : (q : Int) < 32 := by omega
        by_cases hbit : m / 2 ^ q % 2 = 1
        · have hb : bits .and .u32 ((m : Int) / 2 ^ q) 1 = 1 := by
            have e : (m : Int) / 2 ^ q = ((m / 2 ^ q : Nat) : Int) := by simp
            rw [e, and1 _ (Nat.lt_of_le_of_lt (Nat.div_le_self _ _) hm32), hbit]; rfl
          by_cases hlt : A + q < 8 * P
          · have hlt' : (A : Int) + q < 8 * (P : Int) := by omega
            have hj : (A + q) / 8 < (body r).length := by have := HPP.out.1; omega
            have hjc : (A + q) / 8 < cs.length := by rw [HF.out.1.len]; exact hj
            have hcell := HF.out.2.b.cellAt (8 + (A + q) / 8) (by simp only [List.length_append, num_length]; omega)
            have hgm : (num 4 (body r).length ++ (num 4 (Crc.sum (body r)) ++ cs)).getD (8 + (A + q) / 8) 0 = cs.getD ((A + q) / 8) 0 := by
              have := getD_mid (num 4 (body r).length ++ num 4 (Crc.sum (body r))) cs [] ((A + q) / 8) hjc
              rw [List.append_nil, List.length_append, num_length, num_length, List.append_assoc] at this
              exact this
            rw [hgm] at hcell
            have hfree := HF.out.2.b.free (8 + (A + q) / 8)
            obtain ⟨x, hx⟩ : ∃ x, x = cs.getD ((A + q) / 8) 0 := ⟨_, rfl⟩
            have hx256 : x < 256 := by rw [hx]; exact getD_lt' cs HF.out.1.byt _ hjc
            rw [← hx] at hcell
            have HX : Hid (x = cs.getD ((A + q) / 8) 0) := hx
            have HJ : Hid ((A + q) / 8 < cs.length) := hjc
            have i1 : (0 : Int) ≤ ((A : Int) + q) / 8 := by omega
            have i2 : 8 + ((A : Int) + q) / 8 < (n : Int) := by omega
            have i3 : (0 : Int) ≤ 8 + ((A : Int) + q) / 8 := by omega
            have hxv : bits BinOp.xor IntKind.u8 (x : Int) ((2 : Int) ^ ((A + q) % 8) % 256) = ((x ^^^ 2 ^ ((A + q) % 8) : Nat) : Int) := by
              have ht8 : (A + q) % 8 < 8 := Nat.mod_lt _ (by decide)
              have e2 : (2 : Nat) ^ ((A + q) % 8) < 256 := Nat.pow_lt_pow_right (n := 8) (by decide) ht8
              have e : (2 : Int) ^ ((A + q) % 8) % 256 = ((2 ^ ((A + q) % 8) : Nat) : Int) := by
                rw [show (2 : Int) ^ ((A + q) % 8) = ((2 ^ ((A + q) % 8) : Nat) : Int) by simp]
                exact Int.emod_eq_of_lt (Int.natCast_nonneg _) (by exact_mod_cast e2)
              rw [e]
              exact xor8 x _ hx256 ht8
            clear hx hgm hjc hj
            go_wp2_with fail
            go_region
            go_wp2_with fail
            go_roundw
            case rel =>
              have htn := HF.out.1.turn hbit (by rw [← HPP.out.1]; exact hlt) hq32
              have e := set_mid (num 4 (body r).length ++ num 4 (Crc.sum (body r))) cs [] ((A + q) / 8) (x ^^^ 2 ^ ((A + q) % 8)) HJ.out
              rw [List.append_nil, List.append_nil, List.length_append, num_length, num_length, List.append_assoc, List.append_assoc] at e
              have hs := HF.out.2.setB (8 + (A + q) / 8) (x ^^^ 2 ^ ((A + q) % 8)) (xor8_lt x _ hx256 (Nat.mod_lt _ (by decide)))
              rw [show 8 + (A + q) / 8 = 4 + 4 + (A + q) / 8 by omega, e, show 4 + 4 + (A + q) / 8 = 8 + (A + q) / 8 by omega] at hs
              rw [← HX.out] at htn
              exact ⟨true, q + 1, rfl, by go_num, by omega, by show _ = _; simp [htn.2], _, htn.1, hs⟩
            case measure => simp [intOf]; omega
          · have hlt' : ¬ (A : Int) + q < 8 * (P : Int) := by omega
            have hsk := HF.out.1.skip (.inr (by rw [← HPP.out.1]; omega))
            go_wp2_with fail
            go_roundw
            case rel => exact ⟨b, q + 1, rfl, by go_num, by omega, by show _ = _; rw [hsk.2]; exact HBB.out, cs, hsk.1, HF.out.2⟩
            case measure => simp [intOf]; omega
        · have hb : bits .and .u32 ((m : Int) / 2 ^ q) 1 = 0 := by
            have e : (m : Int) / 2 ^ q = ((m / 2 ^ q : Nat) : Int) := by simp
            rw [e, and1 _ (Nat.lt_of_le_of_lt (Nat.div_le_self _ _) hm32), show m / 2 ^ q % 2 = 0 by omega]; rfl
          have hsk := HF.out.1.skip (.inl hbit)
          go_wp2_with fail
          go_roundw
          case rel => exact ⟨b, q + 1, rfl, by go_num, by omega, by show _ = _; rw [hsk.2]; exact HBB.out, cs, hsk.1, HF.out.2⟩
          case measure => simp [intOf]; omega
      · have hq32' : ¬ (q : Int) < 32 := by omega
        have hqe : q = 32 := by omega
        go_wp2_with fail
        go_meet
        case rel => subst hqe; exact ⟨b, rfl, HBB, cs, HF.out.1, HF.out.2⟩
  case rest =>
  obtain ⟨b, rfl, HBB, cs, hF, hW⟩ := hcut
  rename World => w6
  clear HB0 HT
  have HTW : Hid (Tw w gb c gc cc (num 4 (body r).length ++ (num 4 (Crc.sum (body r)) ++ cs)) (num 4 (body r).length ++ (ss ++ body r)) w6) := hW
  have HFT : Hid (parse (num 4 (body r).length ++ (num 4 (Crc.sum (body r)) ++ cs)) = if m % 2 ^ (min 32 (8 * (body r).length - A)) = 0 then (r, (enc r).length, 0) else (c0, 0, 90)) := hF.told HR.out.1 HR.out.2.1 HR.out.2.2
  have HLB : Hid (n = (num 4 (body r).length ++ (num 4 (Crc.sum (body r)) ++ cs)).length) := by show _ = _; rw [HPP.out.2, HPP.out.1]; simp only [List.length_append, num_length, hF.len]; omega
  have HLC : Hid (n = (num 4 (body r).length ++ (ss ++ body r)).length) := by
    show _ = _
    rw [HPP.out.2, HPP.out.1]; simp only [List.length_append, num_length, HSS.out]; omega
  generalize num 4 (body r).length ++ (num 4 (Crc.sum (body r)) ++ cs) = BB at HTW HFT HLB
  generalize num 4 (body r).length ++ (ss ++ body r) = CC at HTW HOTH HLC
  clear hF hW
  go_wp2_with fail
  refine (Parse_any w6 _ n c BB HLB.out (by omega) (HTW.out.b.bsl HTW.out.bb (by have := HLB.out; omega)) (ht.keepsN HTW.out.kp)).mono ?_
  rintro e w7 ⟨k1, i1, op1, np1, cp1, ok1, nk1, ck1, M1, E1, rfl, HP1, hM1, hE1, hk7⟩
  have k8 : Keeps no w6 (w7.alloc (.cells #[.int .i64 k1, .int .u64 (i1 : Nat), .slice op1 np1 cp1, .slice ok1 nk1 ck1] 30)) := hk7.alloc _
  have HK7 : Hid (Keeps no w6 w7) := hk7
  have HK8 : Hid (Keeps no w6 (w7.alloc (.cells #[.int .i64 k1, .int .u64 (i1 : Nat), .slice op1 np1 cp1, .slice ok1 nk1 ck1] 30))) := k8
  clear hk7 k8
  go_wp2_with fail
  refine (Parse_any _ _ n cc CC HLC.out (by omega) ((HTW.out.c.bsl HTW.out.bc (by have := HLC.out; omega)).keeps HK8.out (fun _ _ h => h)) (ht.keepsN (HTW.out.kp.trans HK8.out))).mono ?_
  rintro e w9 ⟨k2, i2, op2, np2, cp2, ok2, nk2, ck2, M2, E2, rfl, HP2, hM2, hE2, hk9⟩
  have hP2 := HP2.out
  rw [HOTH.out] at hP2
  obtain ⟨hG2, rfl, rfl⟩ := hP2
  have HG2 : Hid (IsC w9 ⟨k2, i2, op2, np2, cp2, ok2, nk2, ck2⟩ c0) := hG2.isC
  have hb7 := hk9.at (blk_new w7 (.cells #[.int .i64 k1, .int .u64 (i1 : Nat), .slice op1 np1 cp1, .slice ok1 nk1 ck1] 30)) (fun h => h)
  have HB7 : Hid (w9.heap[w7.heap.size]? = some (.cells #[.int .i64 k1, .int .u64 (i1 : Nat), .slice op1 np1 cp1, .slice ok1 nk1 ck1] 30 (0, 0))) := hb7
  have HK9 : Hid (Keeps no w9 (w9.alloc (.cells #[.int .i64 k2, .int .u64 (i2 : Nat), .slice op2 np2 cp2, .slice ok2 nk2 ck2] 30))) := (Keeps.refl _ _).alloc _
  have HKW : Hid (Keeps no w w9) := (HTW.out.kp.trans HK8.out).trans hk9
  have HG1 : Hid (IsC w9 ⟨k1, i1, op1, np1, cp1, ok1, nk1, ck1⟩ (parse BB).1) := (HP1.out.1.isC.keepsN ((Keeps.refl _ _).alloc _)).keepsN hk9
  clear hG2 HP2 hb7 hk9 hM2 hE2
  go_wp2_with fail
  refine (sameR_any _ k2 i2 op2 np2 cp2 ok2 nk2 ck2 c0 (HG2.out.keepsN HK9.out) 0 0 none 0 0 none 0 0 c0 (isC0 _)).mono ?_
  rintro e w10 ⟨⟨B1, rfl, hB1⟩, hk10⟩
  obtain rfl : B1 = true := hB1.out.2 rfl
  clear hB1
  have HKX : Hid (Keeps no w9 w10) := HK9.out.trans hk10
  have hb10 := HKX.out.at HB7.out (fun h => h)
  obtain ⟨y0, y1, y2, y3⟩ := cells4 hb10
  clear hb10 hk10
  cases b
  · have hz : m % 2 ^ (min 32 (8 * (body r).length - A)) = 0 := by have := HBB.out; simpa using this.symm
    have hP1 := HP1.out
    rw [HFT.out, if_pos hz] at hP1
    obtain ⟨_, _, rfl⟩ := hP1
    go_wp2_with fail
    go_ret
    exact ⟨rfl, HKW.out.trans HKX.out⟩
  · have hz : ¬ m % 2 ^ (min 32 (8 * (body r).length - A)) = 0 := by have := HBB.out; simpa using this.symm
    have hP1 := HP1.out
    rw [HFT.out, if_neg hz] at hP1
    obtain ⟨_, rfl, rfl⟩ := hP1
    have HG1' : Hid (IsC w9 ⟨k1, i1, op1, np1, cp1, ok1, nk1, ck1⟩ c0) := by have := HG1.out; rw [HFT.out, if_neg hz] at this; exact this
    clear HG1 hz
    go_wp2_with fail
    refine (sameR_any _ k1 i1 op1 np1 cp1 ok1 nk1 ck1 c0 (HG1'.out.keepsN HKX.out) 0 0 none 0 0 none 0 0 c0 (isC0 _)).mono ?_
    rintro e w11 ⟨⟨B2, rfl, hB2⟩, hk11⟩
    obtain rfl : B2 = true := hB2.out.2 rfl
    go_wp2_with fail
    go_ret
    exact ⟨rfl, (HKW.out.trans HKX.out).trans hk11⟩
end Go.Proofs.YtdalheeifgampaaDoor

/- The document's payload, length, Build. -/
import Derived.Test.YtdalheeifgampabDoorE2
import Derived.Deep.CutBlock
namespace Go.Proofs.YtdalheeifgampabDoor
open Go.RowKit Go.Sort Orl Pk
set_option linter.unusedVariables false
set_option linter.unusedSimpArgs false

theorem layP_le {B : Nat} : ∀ (P : List Pr), (∀ p ∈ P, p.1.size + p.2.size ≤ B) → (layP P).length ≤ P.length * (8 + B)
  | [], _ => by simp [layP]
  | p :: P, h => by
    have ih := layP_le P (fun q hq => h q (List.mem_cons_of_mem _ hq))
    have h0 := h p List.mem_cons_self
    show (layP1 p ++ layP P).length ≤ _
    rw [List.length_append, List.length_cons, Nat.add_mul]
    unfold layP1
    rw [List.length_append, txt_length, txt_length, nats_length, nats_length]
    omega
theorem layP_snoc (l : List Pr) (k : Nat) (hk : k < l.length) : layP (l.take (k + 1)) = layP (l.take k) ++ (txt (nats (l.getD k p0).1) ++ txt (nats (l.getD k p0).2)) := by
  rw [take_succ_getD l k p0 hk]; simp [layP, layP1]
/-- bounds of a record's parts -/
theorem pairs_big {r : Rec} (h1 : mayK r.keys = true) (h2 : mayP r.pairs r.keys = true) (q : Nat) : (layP (r.pairs.take q)).length ≤ 134223872 := by
  obtain ⟨p1, _, p3⟩ := mayP_all h1 h2
  have h := layP_le (B := 131070) (r.pairs.take q) (fun p hp => by have := p3 p (List.mem_of_mem_take hp); omega)
  have hl : (r.pairs.take q).length ≤ 1024 := by rw [List.length_take]; omega
  have : (r.pairs.take q).length * (8 + 131070) ≤ 1024 * (8 + 131070) := Nat.mul_le_mul_right _ hl
  omega
theorem keys_big {r : Rec} (h1 : mayK r.keys = true) (q : Nat) : (txtsBody (natss (r.keys.take q))).length ≤ 67111936 := by
  obtain ⟨p1, _, p3, _⟩ := mayK_all h1
  rw [txtsBody_length]
  exact Txs.all ⟨by rw [List.length_take]; omega, fun s hs => p3 s (List.mem_of_mem_take hs)⟩
/-- bytes of the call's own, so far -/
structure Hs (w0 : World) (o : Option Addr) (n c : Nat) (X : List Nat) (W : World) : Prop where
  own : Owns W o c X
  n : n = X.length
  new : New w0 o
  kp : Keeps no w0 W
theorem Hs.app {w0 : World} {o : Option Addr} {n c : Nat} {X : List Nat} {W W' : World} (h : Hs w0 o n c X W) {Y : List Nat} {o' : Option Addr} {n' c' : Nat} (hn : n' = Y.length) (ho : Owns W' o' c' Y) (hf : Fresh W o o') (hk : Keeps (inO o) W W') : Hs w0 o' n' c' Y W' :=
  ⟨ho, hn, (hf.new hk h.new h.kp).1, (hf.new hk h.new h.kp).2⟩
def px (r : Rec) : List Nat := num 1 1 ++ (num 8 r.id ++ num 4 r.pairs.length)
theorem px_length (r : Rec) : (px r).length = 13 := by unfold px; simp only [List.length_append, num_length]
theorem body_1 {r : Rec} (h : r.kind = 1) : body r = px r ++ layP r.pairs ++ num 4 r.keys.length ++ txtsBody (natss r.keys) := by
  unfold body layF px txts
  rw [if_pos h, h]
  simp [natss, List.append_assoc]
theorem body_2 {r : Rec} (h : r.kind = 2) : body r = num 1 2 ++ num 8 r.id := by
  unfold body layF
  rw [if_neg (by rw [h]; decide), h]
  simp

set_option maxRecDepth 20000 in
set_option maxHeartbeats 2000000 in
theorem dPayload_any (w : World) (k : Int) (i : Nat) (op : Option Addr) (np cp : Nat) (ok : Option Addr) (nk ck : Nat) (r : Rec) (h : IsC w ⟨k, i, op, np, cp, ok, nk, ck⟩ r) (hm : may r = true) :
    Calls Tryd.prog 38 #[.agg #[.int .i64 k, .int .u64 (i : Nat), .slice op np cp, .slice ok nk ck]] w (OwnTo w (body r)) := by
  have H : Hid (IsC w ⟨k, i, op, np, cp, ok, nk, ck⟩ r) := h
  have hi : i < 18446744073709551616 := by have := h.fit.id; rw [← h.i] at this; exact this
  have HI : Hid (i = r.id) := h.i
  have hp := (may_parts hm).2
  have HKD : Hid (k = r.kind) := h.k
  have k0 : Keeps no w (w.alloc (.cells #[.int .i64 k, .int .u64 (i : Nat), .slice op np cp, .slice ok nk ck] 30)) := (Keeps.refl _ _).alloc _
  have HK0 : Hid (Keeps no w (w.alloc (.cells #[.int .i64 k, .int .u64 (i : Nat), .slice op np cp, .slice ok nk ck] 30))) := k0
  have hb0 := blk_new w (.cells #[.int .i64 k, .int .u64 (i : Nat), .slice op np cp, .slice ok nk ck] 30)
  clear h hm k0
  rcases hp with ⟨hk, hK, hP⟩ | ⟨hk, hps, hks⟩
  · rw [← HKD.out] at hk
    subst hk
    obtain ⟨q1, q2, q3, _⟩ := mayK_all hK
    obtain ⟨p1, p2, p3⟩ := mayP_all hK hP
    have HNP : Hid (np = r.pairs.length) := H.out.np
    have HNK : Hid (nk = r.keys.length) := H.out.nk
    have hnp : (np : Int) ≤ 1024 := by have := HNP.out; omega
    have hnk : (nk : Int) ≤ 1024 := by have := HNK.out; omega
    have HPX : Hid ((∀ p ∈ r.pairs, p.1.size ≤ 65535 ∧ p.2.size ≤ 65535) ∧ (∀ s ∈ r.keys, s.size ≤ 65535)) := ⟨p3, q3⟩
    have HBP : Hid (∀ q, (layP (r.pairs.take q)).length ≤ 134223872) := pairs_big hK hP
    have HBK : Hid (∀ q, (txtsBody (natss (r.keys.take q))).length ≤ 67111936) := keys_big hK
    clear hK hP q1 q2 q3 p1 p2 p3
    have HL0 : Hid (Hs (w.alloc (.cells #[.int .i64 1, .int .u64 (i : Nat), .slice op np cp, .slice ok nk ck] 30)) (some ⟨w.heap.size + 1, 0, none⟩) 1 1 (num 1 1) ((w.alloc (.cells #[.int .i64 1, .int .u64 (i : Nat), .slice op np cp, .slice ok nk ck] 30)).alloc (.cells #[.int .u8 1] 5))) := by
      have e1 : (w.alloc (.cells #[.int .i64 1, .int .u64 (i : Nat), .slice op np cp, .slice ok nk ck] 30)).heap.size = w.heap.size + 1 := by simp
      have := owns_lit (w.alloc (.cells #[.int .i64 1, .int .u64 (i : Nat), .slice op np cp, .slice ok nk ck] 30)) (num 1 1) (by simp [num_length])
      rw [e1] at this
      exact ⟨this, rfl, new_fresh _ _ (by rw [e1]; exact Nat.le_refl _) _, (Keeps.refl _ _).alloc _⟩
    have HB0 : Hid ((w.alloc (.cells #[.int .i64 1, .int .u64 (i : Nat), .slice op np cp, .slice ok nk ck] 30)).heap[w.heap.size]? = some (.cells #[.int .i64 1, .int .u64 (i : Nat), .slice op np cp, .slice ok nk ck] 30 (0, 0))) := hb0
    clear hb0
    go_enter Tryd.func38, Tryd.ntmps38
    go_wp2_with fail
    refine (dNumber_any _ _ 1 1 (num 1 1) i 8 HL0.out.n HL0.out.own (by omega) hi (by omega)).mono ?_
    rintro e w2 ⟨o2, c2, n2, rfl, hn2, hown2, hfr2, hk2⟩
    generalize hW0 : w.alloc (.cells #[.int .i64 1, .int .u64 (i : Nat), .slice op np cp, .slice ok nk ck] 30) = W0 at HK0 HL0 HB0
    have H2 : Hid (Hs W0 o2 n2 c2 (num 1 1 ++ num 8 i) w2) := by
      have h3 := HL0.out
      subst hW0
      exact h3.app hn2.out hown2 hfr2 hk2
    clear hown2 hfr2 hk2 HL0 hW0
    obtain ⟨A, hA⟩ : ∃ A, A = w.heap.size := ⟨_, rfl⟩
    rw [← hA] at HB0 ⊢
    clear hA
    obtain ⟨x0, x1, x2, x3⟩ := cells4 (H2.out.kp.at HB0.out (fun h => h))
    have hn2b : (n2 : Int) ≤ 9 := by have := H2.out.n; simp only [List.length_append, num_length] at this; omega
    go_wp2_with fail
    refine (dNumber_any w2 o2 n2 c2 _ np 4 H2.out.n H2.out.own (by omega) (by omega) (by omega)).mono ?_
    rintro e w3 ⟨o3, c3, n3, rfl, hn3, hown3, hfr3, hk3⟩
    have H3 : Hid (Hs W0 o3 n3 c3 (px r ++ layP (r.pairs.take 0)) w3) := by
      have := H2.out.app hn3.out hown3 hfr3 hk3
      have e : num 1 1 ++ num 8 i ++ num 4 np = px r ++ layP (r.pairs.take 0) := by unfold px; rw [← HI.out, ← HNP.out]; simp [layP]
      rw [e] at this
      exact this
    clear hown3 hfr3 hk3 x0 x1 x2 x3 H2 hn2 hn2b hn3
    go_upto_block 0 with fail
    go_cut [3, 4] from 23 to 45 (fun s _ wc => ∃ oo nn cc, s = .slice oo nn cc ∧ Hid (Hs W0 oo nn cc (px r ++ layP r.pairs) wc))
    case first =>
      go_wp2_with fail
      go_loopw [3, 4] (fun s j wr => ∃ oo nn cc q, s = .slice oo nn cc ∧ j = .int .i64 ((q : Nat) : Int) ∧ q ≤ np ∧ Hid (Hs W0 oo nn cc (px r ++ layP (r.pairs.take q)) wr)) (fun _ j _ => np - (intOf j).toNat)
      case atStart => exact ⟨o3, n3, c3, 0, rfl, rfl, by omega, H3⟩
      case round =>
        rename World => wq
        clear H3
        obtain ⟨oo, nn, cc, q, rfl, rfl, hq, HH⟩ := hrel
        obtain ⟨x0, x1, x2, x3⟩ := cells4 (HH.out.kp.at HB0.out (fun h => h))
        by_cases hqn : q < np
        · have hqn' : (q : Int) < np := by omega
          have hqs : q < r.pairs.length := by have := HNP.out; omega
          obtain ⟨b, off, e1, d1, d2⟩ := (H.out.prs.keepsN (HK0.out.trans HH.out.kp)).atP hqs
          simp only at e1
          have hsz := HPX.out.1 _ (getD_mem_lt p0 hqs)
          have HSN : Hid (layP (r.pairs.take (q + 1)) = layP (r.pairs.take q) ++ (txt (nats (r.pairs.getD q p0).1) ++ txt (nats (r.pairs.getD q p0).2))) := layP_snoc _ _ hqs
          have HSL : Hid (∀ W, Keeps no W0 W → Sl PE W (some ⟨b, off, none⟩) cp r.pairs) := by
            intro W hW
            have := H.out.prs.keepsN (HK0.out.trans hW)
            simp only at this
            rw [e1] at this
            exact this
          subst e1
          generalize hgp : r.pairs.getD q p0 = s at d1 d2 hsz HSN
          have HGP : Hid (r.pairs.getD q p0 = s ∧ q < r.pairs.length) := ⟨hgp, hqs⟩
          obtain ⟨s1, s2⟩ := s
          simp only at d1 d2 hsz HSN
          have hnnb : (nn : Int) ≤ 134223885 := by have := HH.out.n; rw [List.length_append, px_length] at this; have := HBP.out q; omega
          clear hgp hqs
          go_wp2_with fail
          refine (dText_any wq oo nn cc _ s1 HH.out.n HH.out.own (by omega) hsz.1).mono ?_
          rintro e w4 ⟨o4, c4, n4, rfl, hn4, hown4, hfr4, hk4⟩
          have H4 : Hid (Hs W0 o4 n4 c4 (px r ++ layP (r.pairs.take q) ++ txt (nats s1)) w4) := HH.out.app hn4.out hown4 hfr4 hk4
          have hn4b : (n4 : Int) ≤ 134289424 := by have := hn4.out; rw [List.length_append, ← HH.out.n, txt_length, nats_length] at this; omega
          clear hown4 hfr4 hk4 x0 x1 x2 x3 d1 d2
          obtain ⟨x0, x1, x2, x3⟩ := cells4 (H4.out.kp.at HB0.out (fun h => h))
          obtain ⟨b', off', e2, d1, d2⟩ := (HSL.out w4 H4.out.kp).atP HGP.out.2
          cases e2
          rw [HGP.out.1] at d1 d2
          simp only at d1 d2
          go_wp2_with fail
          refine (dText_any w4 o4 n4 c4 _ s2 H4.out.n H4.out.own (by omega) hsz.2).mono ?_
          rintro e w5 ⟨o5, c5, n5, rfl, hn5, hown5, hfr5, hk5⟩
          have H5 : Hid (Hs W0 o5 n5 c5 (px r ++ layP (r.pairs.take (q + 1))) w5) := by
            have := H4.out.app hn5.out hown5 hfr5 hk5
            rw [HSN.out, ← List.append_assoc, ← List.append_assoc]
            exact this
          go_wp2_with fail
          go_roundw
          case rel => exact ⟨o5, n5, c5, q + 1, rfl, by go_num, by omega, H5⟩
          case measure => simp [intOf]; omega
        · have hqn' : ¬ (q : Int) < np := by omega
          have hqe : r.pairs.take q = r.pairs := List.take_of_length_le (by have := HNP.out; omega)
          go_wp2_with fail
          go_meet
          case rel => exact ⟨oo, nn, cc, rfl, by have := HH.out; rw [hqe] at this; exact this⟩
    case rest =>
    obtain ⟨oo, nn, cc, rfl, HH⟩ := hcut
    rename World => w4
    clear H3
    obtain ⟨x0, x1, x2, x3⟩ := cells4 (HH.out.kp.at HB0.out (fun h => h))
    have hnnb : (nn : Int) ≤ 134223885 := by have := HH.out.n; rw [List.length_append, px_length] at this; have h5 := HBP.out r.pairs.length; rw [List.take_length] at h5; omega
    go_wp2_with fail
    refine (dNumber_any w4 oo nn cc _ nk 4 HH.out.n HH.out.own (by omega) (by omega) (by omega)).mono ?_
    rintro e w5 ⟨o5, c5, n5, rfl, hn5, hown5, hfr5, hk5⟩
    have H5 : Hid (Hs W0 o5 n5 c5 (px r ++ layP r.pairs ++ num 4 r.keys.length ++ txtsBody (natss (r.keys.take 0))) w5) := by
      have := HH.out.app hn5.out hown5 hfr5 hk5
      rw [HNK.out] at this
      show Hs _ _ _ _ _ _
      simpa [natss, txtsBody] using this
    clear hown5 hfr5 hk5 x0 x1 x2 x3 hn5
    go_wp2_with fail
    go_loopw [3, 5] (fun s j wr => ∃ oo nn cc q, s = .slice oo nn cc ∧ j = .int .i64 ((q : Nat) : Int) ∧ q ≤ nk ∧ Hid (Hs W0 oo nn cc (px r ++ layP r.pairs ++ num 4 r.keys.length ++ txtsBody (natss (r.keys.take q))) wr)) (fun _ j _ => nk - (intOf j).toNat)
    case atStart => exact ⟨o5, n5, c5, 0, rfl, rfl, by omega, H5⟩
    case round =>
      rename World => wq
      clear H5 HH
      obtain ⟨oo, nn, cc, q, rfl, rfl, hq, HH⟩ := hrel
      obtain ⟨x0, x1, x2, x3⟩ := cells4 (HH.out.kp.at HB0.out (fun h => h))
      by_cases hqn : q < nk
      · have hqn' : (q : Int) < nk := by omega
        have hqs : q < r.keys.length := by have := HNK.out; omega
        obtain ⟨b, off, e1, d1⟩ := (H.out.kys.keepsN (HK0.out.trans HH.out.kp)).at hqs
        simp only at e1
        subst e1
        have hsz := HPX.out.2 _ (getD_mem_lt e0 hqs)
        have HSN : Hid (txtsBody (natss (r.keys.take (q + 1))) = txtsBody (natss (r.keys.take q)) ++ txt (nats (r.keys.getD q e0))) := txtsBody_snoc _ _ hqs
        generalize r.keys.getD q e0 = s1 at d1 hsz HSN
        have hnnb : (nn : Int) ≤ 201335825 := by have := HH.out.n; rw [List.length_append, List.length_append, List.length_append, px_length, num_length] at this; have h5 := HBP.out r.pairs.length; rw [List.take_length] at h5; have := HBK.out q; omega
        go_wp2_with fail
        refine (dText_any wq oo nn cc _ s1 HH.out.n HH.out.own (by omega) hsz).mono ?_
        rintro e w6 ⟨o6, c6, n6, rfl, hn6, hown6, hfr6, hk6⟩
        have H6 : Hid (Hs W0 o6 n6 c6 (px r ++ layP r.pairs ++ num 4 r.keys.length ++ txtsBody (natss (r.keys.take (q + 1)))) w6) := by
          have := HH.out.app hn6.out hown6 hfr6 hk6
          rw [HSN.out, ← List.append_assoc]
          exact this
        go_wp2_with fail
        go_roundw
        case rel => exact ⟨o6, n6, c6, q + 1, rfl, by go_num, by omega, H6⟩
        case measure => simp [intOf]; omega
      · have hqn' : ¬ (q : Int) < nk := by omega
        have hqe : r.keys.take q = r.keys := List.take_of_length_le (by have := HNK.out; omega)
        go_wp2_with fail
        go_ret
        have h7 := HH.out
        rw [hqe, ← body_1 HKD.out.symm] at h7
        exact ⟨oo, nn, cc, rfl, h7.n, h7.own, h7.new.of_le HK0.out.size, HK0.out.trans h7.kp⟩
  · rw [← HKD.out] at hk
    subst hk
    have HL0 : Hid (Hs (w.alloc (.cells #[.int .i64 2, .int .u64 (i : Nat), .slice op np cp, .slice ok nk ck] 30)) (some ⟨w.heap.size + 1, 0, none⟩) 1 1 (num 1 2) ((w.alloc (.cells #[.int .i64 2, .int .u64 (i : Nat), .slice op np cp, .slice ok nk ck] 30)).alloc (.cells #[.int .u8 2] 5))) := by
      have e1 : (w.alloc (.cells #[.int .i64 2, .int .u64 (i : Nat), .slice op np cp, .slice ok nk ck] 30)).heap.size = w.heap.size + 1 := by simp
      have := owns_lit (w.alloc (.cells #[.int .i64 2, .int .u64 (i : Nat), .slice op np cp, .slice ok nk ck] 30)) (num 1 2) (by simp [num_length])
      rw [e1] at this
      exact ⟨this, rfl, new_fresh _ _ (by rw [e1]; exact Nat.le_refl _) _, (Keeps.refl _ _).alloc _⟩
    have HB0 : Hid ((w.alloc (.cells #[.int .i64 2, .int .u64 (i : Nat), .slice op np cp, .slice ok nk ck] 30)).heap[w.heap.size]? = some (.cells #[.int .i64 2, .int .u64 (i : Nat), .slice op np cp, .slice ok nk ck] 30 (0, 0))) := hb0
    clear hb0
    go_enter Tryd.func38, Tryd.ntmps38
    go_wp2_with fail
    refine (dNumber_any _ _ 1 1 (num 1 2) i 8 HL0.out.n HL0.out.own (by omega) hi (by omega)).mono ?_
    rintro e w2 ⟨o2, c2, n2, rfl, hn2, hown2, hfr2, hk2⟩
    have H2 := HL0.out.app hn2.out hown2 hfr2 hk2
    obtain ⟨x0, x1, x2, x3⟩ := cells4 (H2.kp.at HB0.out (fun h => h))
    have HH2 : Hid (Hs _ o2 n2 c2 (num 1 2 ++ num 8 i) w2) := H2
    clear hown2 hfr2 hk2 H2 HL0 hn2
    go_wp2_with fail
    go_ret
    have h7 := HH2.out
    have eb : num 1 2 ++ num 8 i = body r := by rw [HI.out, body_2 HKD.out.symm]
    rw [eb] at h7
    exact ⟨o2, n2, c2, rfl, h7.n, h7.own, h7.new.of_le HK0.out.size, HK0.out.trans h7.kp⟩
end Go.Proofs.YtdalheeifgampabDoor

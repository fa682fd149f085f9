/- MsgFits: answers of a prepare, the second question of a first; no program. Then: answer. -/
import Derived.Test.YtjklpcamlppegaaS3
import Derived.Laws.Bits128
import Derived.Deep.RegionHeldLaw
namespace Go.Proofs.Ytjklpcamlppegaa
open Go.RowKit Go.Sort Orl Pk
set_option linter.unusedVariables false
set_option linter.unusedSimpArgs false

def ans (m : Msg) (p : Pr) (c : Int) (r : Nat) : Msg := ⟨7, c, r, 0, [], [], [], [⟨p.1, m.id, p.2, m.keys⟩]⟩
def ask2 (m : Msg) (r i : Nat) : Msg := ⟨4, m.client, r, 0, [], [], m.keys.map (fun k => (k, i)), []⟩
theorem layP_mem {p : Pr} : ∀ {l : List Pr}, p ∈ l → (layP1 p).length ≤ (layP l).length
  | [], h => by cases h
  | x :: l, h => by
    unfold layP
    rw [List.flatMap_cons, List.length_append]
    rcases List.mem_cons.1 h with rfl | h
    · omega
    · have := layP_mem h
      unfold layP at this
      omega
theorem prep_parts {m : Msg} (hm : may m = true) (hk : m.kind = 1) : isId m.id = true ∧ wset m.keys = true ∧ mayP m.pairs m.keys = true := by
  unfold may mayF at hm
  rw [if_pos hk] at hm
  simp only [Bool.and_eq_true] at hm
  exact ⟨hm.2.2.1, hm.2.2.2.1, hm.2.2.2.2⟩
theorem ans_fits {m : Msg} (hm : may m = true) (hk : m.kind = 1) {p : Pr} (hp : p ∈ m.pairs) {c : Int} (hc : 0 ≤ c ∧ c ≤ 15) {r : Nat} (hr : 1 ≤ r) :
    may (ans m p c r) = true ∧ (body (ans m p c r)).length ≤ (body m).length := by
  obtain ⟨h1, h2, h3⟩ := prep_parts hm hk
  have hid : 65536 ≤ m.id := by unfold isId at h1; simpa using h1
  have hv : mayV ⟨p.1, m.id, p.2, m.keys⟩ = true := by
    unfold mayV
    simp only
    rw [if_neg (by omega), h1, h2]
    unfold mayP sub at h3
    simp only [Bool.and_eq_true, List.all_eq_true] at h3
    have hx := h3.2.2 p.1 (List.mem_map.2 ⟨p, hp, rfl⟩)
    have hy := (valP_all h3.1).2.2 p hp
    rw [hx]
    simp [hy.2]
  refine ⟨?_, ?_⟩
  · unfold may topOk mayF none4 ans
    simp [hc.1, hc.2, hr, hv, plainK]
  · rw [body_len, body_len]
    have hl := layP_mem hp
    unfold layF ans
    rw [if_pos hk]
    simp only
    rw [if_neg (by decide), if_neg (by decide), if_neg (by decide), if_pos (by decide)]
    unfold layV
    simp only [List.getD_cons_zero]
    rw [if_neg (by omega)]
    unfold layP1 at hl
    simp only [List.length_append, num_length] at hl ⊢
    omega
theorem layW_len (i : Nat) : ∀ ks : List Tx, (layW (ks.map fun k => (k, i))).length = bodyLen (natss ks) + 8 * ks.length
  | [] => rfl
  | k :: ks => by
    have := layW_len i ks
    unfold layW at this ⊢
    rw [List.map_cons, List.flatMap_cons, List.length_append, this]
    unfold layW1
    simp only [natss, List.map_cons, bodyLen, List.length_append, num_length, txt_length, List.length_cons]
    omega
theorem late_parts {m : Msg} (hm : may m = true) (hk : m.kind = 3) : valK m.keys = true := by
  unfold may mayF at hm
  rw [hk] at hm
  rw [if_neg (by decide), if_neg (by decide), if_pos (by decide)] at hm
  simp only [Bool.and_eq_true] at hm
  exact hm.2.2.2
theorem ask2_fits {m : Msg} (hm : may m = true) (hk : m.kind = 3) {r i : Nat} (hr : 1 ≤ r) (hi : 65536 ≤ i) :
    may (ask2 m r i) = true ∧ (body (ask2 m r i)).length = (body m).length + 8 * m.keys.length ∧ m.keys.length ≤ 1024 := by
  have hv := late_parts hm hk
  have ht : 0 ≤ m.client ∧ m.client ≤ 15 := by unfold may topOk at hm; simp at hm; exact ⟨hm.1.1, hm.1.2.1⟩
  have hw : mayW (m.keys.map fun k => (k, i)) = true := by
    unfold mayW
    simp only [Bool.and_eq_true, List.all_eq_true]
    refine ⟨fun x hx => ?_, ?_⟩
    · obtain ⟨k, _, rfl⟩ := List.mem_map.1 hx
      simp [isId, hi]
    · have : wks (m.keys.map fun k => (k, i)) = m.keys := by
        unfold wks
        rw [List.map_map]
        conv => rhs; rw [← List.map_id m.keys]
        rfl
      rw [this]; exact hv
  refine ⟨?_, ?_, (valK_all hv).1⟩
  · unfold may topOk mayF none4 ask2
    simp [ht.1, ht.2, hr, hw, plainK]
  · rw [body_len, body_len]
    unfold layF ask2
    rw [hk]
    simp only
    rw [if_neg (by decide), if_neg (by decide), if_pos (by decide), if_neg (by decide), if_pos (by decide)]
    rw [List.length_append, num_length, layW_len, txts_length]
    omega
theorem i64_and15 (n : Int) : bits .and .i64 n 15 = n % 16 := by
  have h127 : (BitVec.ofInt 64 15).toNat = 2 ^ 4 - 1 := by decide
  have key : (BitVec.ofInt 64 n &&& BitVec.ofInt 64 15).toNat = (n % ((2 ^ 64 : Nat) : Int)).toNat % 2 ^ 4 := by
    rw [BitVec.toNat_and, BitVec.toNat_ofInt, h127, Nat.and_two_pow_sub_one_eq_mod]
  show IntKind.i64.wrap ((BitVec.ofInt 64 n &&& BitVec.ofInt 64 15).toNat : Nat) = n % 16
  rw [key, IntKind.wrap_i64]
  omega
/-- append as one step of a region that draws -/
theorem step_appI {α : Type} {E : El α} (hE : E.Ok) {w : World} {ops : Array Oper} {o : Oper} {a : Act} {K : Act → World → Prop} {Q : Exit → Act → World → Prop} {Ep : Prop} (hgd : o.guard = none) (s x : Operand)
    (ho : o.op = .call { callee := .builtin .append, args := #[s, x], argTypes := #[E.t, E.t] })
    (oa : Option Addr) (n c : Nat) (xs : List α) (hs : a.eval s = .slice oa n c) (hn : n = xs.length) (hown : Own E w oa c xs)
    (ox : Option Addr) (m d : Nat) (news : List α) (hx : a.eval x = .slice ox m d) (hm : m = news.length) (hd : ox = none → d = 0) (hrow : Row E w ox news)
    (hb : (xs.length + news.length) * E.nb ≤ 140737488355328) (hb2 : xs.length + news.length ≤ 140737488355328)
    (h : ∀ o' c' w', Own E w' o' c' (xs ++ news) → Ap w oa o' w' → K (a.put o.dst (.slice o' (n + m) c')) w') :
    if Region.wanted o (yielded ops a.tmps) = true then Oper.wp Try.prog o a w K Q else Ep := by
  have hw : Region.wanted o (yielded ops a.tmps) = true := by simp [Region.wanted, hgd]
  rw [if_pos hw]
  subst hn hm
  obtain ⟨o', c', w', hr, h1, h2⟩ := run_app hE w o.type oa c xs hown ox d news hd hrow hb hb2
  unfold Oper.wp execOp
  simp only [ho, resolve, invoke, builtin, Sem.run_bind, Sem.run_pure, Result.andThen_ok, List.map_toArray, List.map_cons, List.map_nil, hs, hx, hr]
  exact h o' c' w' h1 h2

/-- the answer in memory -/
theorem ans_is {w W : World} {k cl : Int} {q i : Nat} {op : Option Addr} {np cp : Nat} {ok : Option Addr} {nk ck : Nat} {ow : Option Addr} {nw cw : Nat} {ov : Option Addr} {nv cv : Nat} {rs : List RV} {m : Msg}
    (h : IsM w k cl q i op np cp ok nk ck ow nw cw ov nv cv rs m) {t : Nat} {p1 p2 : Tx} (hp : p1 = (m.pairs.getD t p0).1 ∧ p2 = (m.pairs.getD t p0).2) (hnk : nk = m.keys.length) (ht : t < m.pairs.length) {client : Int} {R G : Nat} (hR : R < 18446744073709551616) {o5 : Option Addr} {c5 : Nat}
    (hG : W.heap[G]? = some (.cells #[.string p1, .int .u64 (i : Nat), .string p2, .slice o5 nk c5] 59 (0, 0))) (hs : Sl TE W o5 c5 m.keys) :
    IsM W 7 (client % 16) R 0 none 0 0 none 0 0 none 0 0 (some ⟨G, 0, none⟩) 1 1 [⟨p1, i, p2, o5, nk, c5⟩] (ans m (m.pairs.getD t p0) (client % 16) R) := by
  have hmem : m.pairs.getD t p0 ∈ m.pairs := by rw [List.getD_eq_getElem?_getD, List.getElem?_eq_getElem ht]; exact List.getElem_mem _
  have hps := h.fit.pairs _ hmem
  refine ⟨rfl, rfl, rfl, rfl, rfl, rfl, rfl, rfl, own_nil_sl _, own_nil_sl _, own_nil_sl _, ⟨own_oneV hG, rfl, fun j hj => ?_⟩, ?_, ?_⟩
  · obtain rfl : j = 0 := by simpa [ans] using hj
    exact ⟨hp.1, h.i, hp.2, hnk, hs⟩
  · refine ⟨by show (-9223372036854775808 : Int) ≤ 7; decide, by show (7 : Int) ≤ _; decide, by show (-9223372036854775808 : Int) ≤ client % 16; omega, by show client % 16 ≤ (9223372036854775807 : Int); omega, hR, by show (0 : Nat) < _; decide, fun p hp => by simp [ans] at hp, fun v hv => ?_⟩
    obtain rfl : v = _ := by simpa [ans] using hv
    exact h.rng.id
  · refine ⟨by simp [ans], fun p hp => by simp [ans] at hp, by simp [ans], fun p hp => by simp [ans] at hp, by simp [ans], fun p hp => by simp [ans] at hp, by simp [ans], fun v hv => ?_⟩
    obtain rfl : v = _ := by simpa [ans] using hv
    exact ⟨hps.1, hps.2, h.fit.klen, h.fit.keys⟩
theorem ap_none {W w' : World} {o' : Option Addr} (h : Ap W none o' w') : Keeps no W w' := by
  rcases h with ⟨_, hh⟩ | ⟨_, hh⟩
  · exact hh.mono (fun i hi => by obtain ⟨x, e, _⟩ := hi; cases e)
  · exact hh
theorem ap_noneN {W w' : World} {o' : Option Addr} (h : Ap W none o' w') : New W o' := by
  rcases h with ⟨rfl, _⟩ | ⟨⟨g, rfl, hg⟩, _⟩
  · exact new_none _
  · intro j hj
    obtain ⟨x, e, rfl⟩ := hj
    cases e
    exact hg
set_option maxRecDepth 20000 in
set_option maxHeartbeats 4000000 in
theorem answer_any (w : World) (k cl : Int) (q i : Nat) (op : Option Addr) (np cp : Nat) (ok : Option Addr) (nk ck : Nat) (ow : Option Addr) (nw cw : Nat) (ov : Option Addr) (nv cv : Nat) (rs : List RV) (m : Msg)
    (h : IsM w k cl q i op np cp ok nk ck ow nw cw ov nv cv rs m) (t : Nat) (ht : t < np) (hks : Txs m.keys) (client : Int) (req R : Nat) (hR : R = max req 1) (hRb : R < 18446744073709551616) :
    Calls Try.prog 13 #[.agg #[.int .i64 k, .int .i64 cl, .int .u64 (q : Nat), .int .u64 (i : Nat), .slice op np cp, .slice ok nk ck, .slice ow nw cw, .slice ov nv cv], .int .i64 (t : Nat), .int .i64 client, .int .u64 (req : Nat)] w
      fun e w' => (∃ G rv, e = .returned (.agg #[.int .i64 7, .int .i64 (client % 16), .int .u64 (R : Nat), .int .u64 0, .slice none 0 0, .slice none 0 0, .slice none 0 0, .slice (some ⟨G, 0, none⟩) 1 1]) ∧ Hid (IsM w' 7 (client % 16) R 0 none 0 0 none 0 0 none 0 0 (some ⟨G, 0, none⟩) 1 1 [rv] (ans m (m.pairs.getD t p0) (client % 16) R))) ∧ Keeps no w w' := by
  have H : Hid (IsM w k cl q i op np cp ok nk ck ow nw cw ov nv cv rs m) := h
  have hmx : max (req : Int) 1 = (R : Int) := by rw [hR]; omega
  have hnp : np ≤ 4398046511000 := by rw [h.np]; exact h.fit.plen
  have hnk : Hid (nk = m.keys.length) := h.nk
  have hnkb : nk ≤ 1024 := by rw [h.nk]; exact hks.1
  obtain ⟨b, off, rfl, c1, c2⟩ := h.prs.atP (j := t) (by rw [← h.np]; exact ht)
  obtain ⟨p1, hp1⟩ : ∃ p, p = (m.pairs.getD t p0).1 := ⟨_, rfl⟩
  obtain ⟨p2, hp2⟩ : ∃ p, p = (m.pairs.getD t p0).2 := ⟨_, rfl⟩
  rw [← hp1] at c1
  rw [← hp2] at c2
  have HP : Hid (p1 = (m.pairs.getD t p0).1 ∧ p2 = (m.pairs.getD t p0).2) := ⟨hp1, hp2⟩
  clear h hp1 hp2
  have hand := i64_and15 client
  have HKS : Hid (Txs m.keys) := hks
  have HTL : Hid (t < m.pairs.length) := by show _ < _; rw [← H.out.np]; exact ht
  have HB1 : Hid ((([] : List Tx).length + m.keys.length) * TE.nb ≤ 140737488355328 ∧ ([] : List Tx).length + m.keys.length ≤ 140737488355328) := ⟨by have := hks.1; simp [TE]; omega, by have := hks.1; simp; omega⟩
  clear hks
  go_enter Try.func13, Try.ntmps13
  go_wp2_with fail
  have kW : Keeps no w ((w.alloc (.cells #[.int .i64 k, .int .i64 cl, .int .u64 (q : Nat), .int .u64 (i : Nat), .slice (some ⟨b, off, none⟩) np cp, .slice ok nk ck, .slice ow nw cw, .slice ov nv cv] 29)).alloc (.cells #[.int .i64 0, .int .i64 0, .int .u64 0, .int .u64 0, .slice none 0 0, .slice none 0 0, .slice none 0 0, .slice none 0 0] 29)) := ((Keeps.refl no w).alloc _).alloc _
  have hA := blk_alloc (blk_new w (.cells #[.int .i64 k, .int .i64 cl, .int .u64 (q : Nat), .int .u64 (i : Nat), .slice (some ⟨b, off, none⟩) np cp, .slice ok nk ck, .slice ow nw cw, .slice ov nv cv] 29)) (.cells #[.int .i64 0, .int .i64 0, .int .u64 0, .int .u64 0, .slice none 0 0, .slice none 0 0, .slice none 0 0, .slice none 0 0] 29)
  have hB := blk_new (w.alloc (.cells #[.int .i64 k, .int .i64 cl, .int .u64 (q : Nat), .int .u64 (i : Nat), .slice (some ⟨b, off, none⟩) np cp, .slice ok nk ck, .slice ow nw cw, .slice ov nv cv] 29)) (.cells #[.int .i64 0, .int .i64 0, .int .u64 0, .int .u64 0, .slice none 0 0, .slice none 0 0, .slice none 0 0, .slice none 0 0] 29)
  have hBe : (w.alloc (.cells #[.int .i64 k, .int .i64 cl, .int .u64 (q : Nat), .int .u64 (i : Nat), .slice (some ⟨b, off, none⟩) np cp, .slice ok nk ck, .slice ow nw cw, .slice ov nv cv] 29)).heap.size = w.heap.size + 1 := by simp
  rw [hBe] at hB
  generalize ((w.alloc (.cells #[.int .i64 k, .int .i64 cl, .int .u64 (q : Nat), .int .u64 (i : Nat), .slice (some ⟨b, off, none⟩) np cp, .slice ok nk ck, .slice ow nw cw, .slice ov nv cv] 29)).alloc (.cells #[.int .i64 0, .int .i64 0, .int .u64 0, .int .u64 0, .slice none 0 0, .slice none 0 0, .slice none 0 0, .slice none 0 0] 29)) = W at kW hA hB ⊢
  obtain ⟨A, hAe⟩ : ∃ A, A = w.heap.size := ⟨_, rfl⟩
  obtain ⟨B, hBE⟩ : ∃ B, B = w.heap.size + 1 := ⟨_, rfl⟩
  have HAB : Hid (A = w.heap.size ∧ B = w.heap.size + 1) := ⟨hAe, hBE⟩
  rw [← hAe] at hA
  rw [← hBE] at hB
  rw [← hBE, ← hAe]
  clear hAe hBE hBe
  have KW : Hid (Keeps no w W) := kW
  have HA : Hid (_ = _) := hA
  have HB : Hid (W.heap[B]? = some (.cells #[.int .i64 0, .int .i64 0, .int .u64 0, .int .u64 0, .slice none 0 0, .slice none 0 0, .slice none 0 0, .slice none 0 0] 29 (0, 0))) := hB
  have d1 := kW.cellN c1
  have d2 := kW.cellN c2
  obtain ⟨x0, x1, x2, x3, x4, x5, x6, x7⟩ := cells8 hA
  have HBl : Hid (B < W.heap.size) := lt_of_block hB
  have n1 : ¬ A = W.heap.size := by have := lt_of_block hA; omega
  have n2 : ¬ W.heap.size = A := by omega
  have n3 : ¬ b = W.heap.size := by have := World.block_lt_of_cell? W _ d1; simp at this; omega
  have n4 : ¬ W.heap.size = b := by omega
  clear hA hB kW c1 c2
  go_region_held_law (fun w' => w'.cell? ⟨A, 3, none⟩ = some (.int .u64 (i : Nat)) ∧ w'.cell? ⟨A, 4, none⟩ = some (.slice (some ⟨b, off, none⟩) np cp) ∧ w'.cell? ⟨A, 5, none⟩ = some (.slice ok nk ck) ∧ w'.cell? ⟨b, off + t * 2, none⟩ = some (.string p1) ∧ w'.cell? ⟨b, off + t * 2 + 1, none⟩ = some (.string p2)) (go_keep)
    ((refine step_appI okT rfl (.const (.slice none 0 0)) (.tmp 25) rfl none 0 0 [] rfl rfl (own_nil _) ok nk ck m.keys rfl hnk.out H.out.kys.nil ?_ HB1.out.1 HB1.out.2 ?_; (first | exact H.out.kys.row.keepsN (KW.out.trans (Keeps.refl no W).drew) | exact H.out.kys.row.keepsN (KW.out.trans ((Keeps.refl no W).drew.alloc _))); intro o5 c5 w5 ho5 hap5; have K5 : Hid (Keeps no W w5) := (by first | exact (Keeps.refl no W).drew.trans (ap_none hap5) | exact ((Keeps.refl no W).drew.alloc _).trans (ap_none hap5)); have HO5 : Hid (Own TE w5 o5 c5 m.keys) := ho5; have HN5 : Hid (New W o5) := (ap_noneN hap5).of_le (by simp); obtain ⟨x0, x1, x2, x3, x4, x5, x6, x7⟩ := cells8 (K5.out.at HA.out (fun h => h)); have d1 := K5.out.cellN d1; have d2 := K5.out.cellN d2; (try (have hV5 : w5.heap[W.heap.size]? = some (.cells #[.string ⟨#[]⟩, .int .u64 0, .string ⟨#[]⟩, .slice none 0 0] 59 (0, 0)) := (ap_none hap5).at (blk_new W.drew _) (fun h => h); obtain ⟨y0, y1, y2, y3⟩ := cells4 hV5; have f0 := frozen_of_blk hV5 0; have f1 := frozen_of_blk hV5 1; have f2 := frozen_of_blk hV5 2; have f3 := frozen_of_blk hV5 3; have HV5 : Hid (_ = _) := hV5; have HN6 : Hid (∀ j, inO o5 j → W.heap.size + 1 ≤ j) := (fun j hj => by have := ap_noneN hap5 j hj; simpa using this)))))
  · have hV6 := blk_new w5 (.cells #[.string p1, .int .u64 (i : Nat), .string p2, .slice o5 nk c5] 59)
    have K6 : Keeps no W (w5.alloc (.cells #[.string p1, .int .u64 (i : Nat), .string p2, .slice o5 nk c5] 59)) := K5.out.alloc _
    have HO6 := HO5.out.keepsN ((Keeps.refl no w5).alloc (.cells #[.string p1, .int .u64 (i : Nat), .string p2, .slice o5 nk c5] 59))
    obtain ⟨V, hVe⟩ : ∃ V, V = w5.heap.size := ⟨_, rfl⟩
    rw [← hVe] at hV6 ⊢
    clear hVe ho5 hap5
    generalize w5.alloc (.cells #[.string p1, .int .u64 (i : Nat), .string p2, .slice o5 nk c5] 59) = W6 at hV6 K6 HO6 ⊢
    have hB6 := K6.at HB.out (fun h => h)
    have HV6 : Hid (_ = _) := hV6
    have HK6 : Hid (Keeps no W W6) := K6
    obtain ⟨u0, u1, u2, u3⟩ := cells4 hV6
    have hB7 := blk_alloc hB6 (.cells #[.string p1, .int .u64 (i : Nat), .string p2, .slice o5 nk c5] 59)
    have HB7 : Hid (_ = _) := hB7
    obtain ⟨z0, z1, z2, z3, z4, z5, z6, z7⟩ := cells8 hB7
    have g0 := frozen_of_blk hB7 0
    have g1 := frozen_of_blk hB7 1
    have g2 := frozen_of_blk hB7 2
    have g3 := frozen_of_blk hB7 3
    have g4 := frozen_of_blk hB7 4
    have g5 := frozen_of_blk hB7 5
    have g6 := frozen_of_blk hB7 6
    have g7 := frozen_of_blk hB7 7
    have HBW : Hid (B < W6.heap.size) := lt_of_block hB6
    clear hB6 hB7 hV6 K6
    go_wp2_with fail
    (try simp only [Exit.inBlock, Exit.then])
    rw [← hR]
    have hs8 := set8 HB7.out (.int .i64 7) (.int .i64 (client % 16)) (.int .u64 (R : Nat)) (.int .u64 0) (.slice none 0 0) (.slice none 0 0) (.slice none 0 0) (.slice (some ⟨W6.heap.size, 0, none⟩) 1 1)
    unfold set8w at hs8
    refine bodyPost_ret (results_row1 rfl _ _ B _ rfl (loadM hs8.1)) rfl ?_
    have hgo : ∀ j, inO o5 j → ¬ eqA B j := fun j hj e => by have h1 := HN5.out j hj; have h2 := HBl.out; unfold eqA at e; omega
    exact ⟨⟨W6.heap.size, ⟨p1, i, p2, o5, nk, c5⟩, rfl, ans_is H.out HP.out hnk.out HTL.out hRb (hs8.2.at (blk_new W6 _) (by unfold eqA; have := HBW.out; omega)) (((HO6.keepsN ((Keeps.refl no _).alloc _)).keeps hs8.2 hgo).sl)⟩, ((KW.out.trans HK6.out).alloc _).then hs8.2 (fun j hj => .inr (by unfold eqA at hj; have := HAB.out.2; omega))⟩
  · have hs4 := set4 HV5.out (.string p1) (.int .u64 (i : Nat)) (.string p2) (.slice o5 nk c5)
    have hV6 := hs4.1
    have K6 := K5.out.then hs4.2 (fun j hj => .inr (by unfold eqA at hj; omega))
    have HO6 := HO5.out.keeps hs4.2 (fun j hj e => by have := HN6.out j hj; unfold eqA at e; omega)
    clear hs4 HV5 hV5 ho5 hap5 y0 y1 y2 y3 f0 f1 f2 f3
    obtain ⟨V, hVe⟩ : ∃ V, V = W.heap.size := ⟨_, rfl⟩
    rw [← hVe] at hV6 K6 HO6 ⊢
    clear hVe
    generalize ((((w5.setCell ⟨V, 0, none⟩ (.string p1)).setCell ⟨V, 1, none⟩ (.int .u64 (i : Nat))).setCell ⟨V, 2, none⟩ (.string p2)).setCell ⟨V, 3, none⟩ (.slice o5 nk c5)) = W6 at hV6 K6 HO6 ⊢
    have hB6 := K6.at HB.out (fun h => h)
    have HV6 : Hid (_ = _) := hV6
    have HK6 : Hid (Keeps no W W6) := K6
    obtain ⟨u0, u1, u2, u3⟩ := cells4 hV6
    have hB7 := blk_alloc hB6 (.cells #[.string p1, .int .u64 (i : Nat), .string p2, .slice o5 nk c5] 59)
    have HB7 : Hid (_ = _) := hB7
    obtain ⟨z0, z1, z2, z3, z4, z5, z6, z7⟩ := cells8 hB7
    have g0 := frozen_of_blk hB7 0
    have g1 := frozen_of_blk hB7 1
    have g2 := frozen_of_blk hB7 2
    have g3 := frozen_of_blk hB7 3
    have g4 := frozen_of_blk hB7 4
    have g5 := frozen_of_blk hB7 5
    have g6 := frozen_of_blk hB7 6
    have g7 := frozen_of_blk hB7 7
    have HBW : Hid (B < W6.heap.size) := lt_of_block hB6
    clear hB6 hB7 hV6 K6
    go_wp2_with fail
    (try simp only [Exit.inBlock, Exit.then])
    rw [← hR]
    have hs8 := set8 HB7.out (.int .i64 7) (.int .i64 (client % 16)) (.int .u64 (R : Nat)) (.int .u64 0) (.slice none 0 0) (.slice none 0 0) (.slice none 0 0) (.slice (some ⟨W6.heap.size, 0, none⟩) 1 1)
    unfold set8w at hs8
    refine bodyPost_ret (results_row1 rfl _ _ B _ rfl (loadM hs8.1)) rfl ?_
    have hgo : ∀ j, inO o5 j → ¬ eqA B j := fun j hj e => by have h1 := HN5.out j hj; have h2 := HBl.out; unfold eqA at e; omega
    exact ⟨⟨W6.heap.size, ⟨p1, i, p2, o5, nk, c5⟩, rfl, ans_is H.out HP.out hnk.out HTL.out hRb (hs8.2.at (blk_new W6 _) (by unfold eqA; have := HBW.out; omega)) (((HO6.keepsN ((Keeps.refl no _).alloc _)).keeps hs8.2 hgo).sl)⟩, ((KW.out.trans HK6.out).alloc _).then hs8.2 (fun j hj => .inr (by unfold eqA at hj; have := HAB.out.2; omega))⟩
end Go.Proofs.Ytjklpcamlppegaa

import Derived.Test.YtpfbbfbghldmjaaD1
namespace Go.Proofs.Ytpfbbfbghldmjaa
open Go.RowKit Go.Sort Orl
set_option linter.unusedVariables false
set_option linter.unusedSimpArgs false

theorem two_inc {w : World} {sa sb l : List Tx} (ha : Inc lts sa) (hb : Inc lts sb) {e : Ending} {w' : World} (h : Two w sa sb l e w') : ∃ v, e = .returned (.tuple #[v, .int .i64 0]) ∧ Gives TE w l v w' := by
  unfold Two at h
  rw [(rising_iff swoT sa).2 ha, (rising_iff swoT sb).2 hb] at h
  exact h
theorem union_inc (w : World) (oa : Option Addr) (na ca : Nat) (ob : Option Addr) (nb cb : Nat) (sa sb : List Tx) (hna : na = sa.length) (hnb : nb = sb.length) (hla : sa.length ≤ 10000) (hlb : sb.length ≤ 10000) (ha : Sl TE w oa ca sa) (hb : Sl TE w ob cb sb) (ia : Inc lts sa) (ib : Inc lts sb) :
    Calls Try.prog 10 #[.slice oa na ca, .slice ob nb cb] w fun e w' => ∃ v, e = .returned (.tuple #[v, .int .i64 0]) ∧ Gives TE w (mg lts true true true sa sb) v w' :=
  (union_any w oa na ca ob nb cb sa sb hna hnb hla hlb ha hb).mono fun _ _ h => two_inc ia ib h
theorem common_inc (w : World) (oa : Option Addr) (na ca : Nat) (ob : Option Addr) (nb cb : Nat) (sa sb : List Tx) (hna : na = sa.length) (hnb : nb = sb.length) (hla : sa.length ≤ 10000) (hlb : sb.length ≤ 10000) (ha : Sl TE w oa ca sa) (hb : Sl TE w ob cb sb) (ia : Inc lts sa) (ib : Inc lts sb) :
    Calls Try.prog 12 #[.slice oa na ca, .slice ob nb cb] w fun e w' => ∃ v, e = .returned (.tuple #[v, .int .i64 0]) ∧ Gives TE w (mg lts false true false sa sb) v w' :=
  (common_any w oa na ca ob nb cb sa sb hna hnb hla hlb ha hb).mono fun _ _ h => two_inc ia ib h
theorem minus_inc (w : World) (oa : Option Addr) (na ca : Nat) (ob : Option Addr) (nb cb : Nat) (sa sb : List Tx) (hna : na = sa.length) (hnb : nb = sb.length) (hla : sa.length ≤ 10000) (hlb : sb.length ≤ 10000) (ha : Sl TE w oa ca sa) (hb : Sl TE w ob cb sb) (ia : Inc lts sa) (ib : Inc lts sb) :
    Calls Try.prog 13 #[.slice oa na ca, .slice ob nb cb] w fun e w' => ∃ v, e = .returned (.tuple #[v, .int .i64 0]) ∧ Gives TE w (mg lts true false false sa sb) v w' :=
  (minus_any w oa na ca ob nb cb sa sb hna hnb hla hlb ha hb).mono fun _ _ h => two_inc ia ib h
theorem rising_inc (w : World) (a : Option Addr) (n c : Nat) (xs : List Tx) (hn : n = xs.length) (hl : Small xs) (hs : Sl TE w a c xs) (hi : Inc lts xs) :
    Calls Try.prog 15 #[.slice a n c] w fun e w' => e = .returned (.bool true) ∧ Keeps no w w' := by
  have := rising_any w a n c xs hn hl hs
  rwa [(rising_iff swoT xs).2 hi] at this
theorem has_inc (w : World) (a : Option Addr) (n c : Nat) (xs : List Tx) (s : Tx) (hn : n = xs.length) (hl : Small xs) (hs : Sl TE w a c xs) (hi : Inc lts xs) :
    Calls Try.prog 16 #[.slice a n c, .string s] w fun e w' => e = .returned (.bool (inn xs s)) ∧ Keeps no w w' := by
  have := has_any w a n c xs s hn hl hs
  rwa [(rising_iff swoT xs).2 hi, Bool.true_and] at this

section
variable {a b : List Tx} (ha : Inc lts a) (hb : Inc lts b)
theorem mg_comm_u (ha : Inc lts a) (hb : Inc lts b) : mg lts true true true b a = mg lts true true true a b := by
  refine inc_ext swoT (mg_inc swoT triT _ _ _ b a hb ha) (mg_inc swoT triT _ _ _ a b ha hb) fun z => ?_
  rw [mg_mem swoT triT _ _ _ z b a hb ha, mg_mem swoT triT _ _ _ z a b ha hb]
  by_cases h1 : z ∈ a <;> by_cases h2 : z ∈ b <;> simp [h1, h2]
theorem mg_comm_c (ha : Inc lts a) (hb : Inc lts b) : mg lts false true false b a = mg lts false true false a b := by
  refine inc_ext swoT (mg_inc swoT triT _ _ _ b a hb ha) (mg_inc swoT triT _ _ _ a b ha hb) fun z => ?_
  rw [mg_mem swoT triT _ _ _ z b a hb ha, mg_mem swoT triT _ _ _ z a b ha hb]
  by_cases h1 : z ∈ a <;> by_cases h2 : z ∈ b <;> simp [h1, h2]
theorem mg_whole (ha : Inc lts a) (hb : Inc lts b) : mg lts true true true (mg lts true false false a b) (mg lts false true false a b) = a := by
  have hm := mg_inc swoT triT true false false a b ha hb
  have hc := mg_inc swoT triT false true false a b ha hb
  refine inc_ext swoT (mg_inc swoT triT _ _ _ _ _ hm hc) ha fun z => ?_
  rw [mg_mem swoT triT _ _ _ z _ _ hm hc, mg_mem swoT triT _ _ _ z a b ha hb, mg_mem swoT triT _ _ _ z a b ha hb]
  by_cases h1 : z ∈ a <;> by_cases h2 : z ∈ b <;> simp [h1, h2]
theorem mg_none (ha : Inc lts a) (hb : Inc lts b) : mg lts false true false (mg lts true false false a b) b = [] := by
  have hm := mg_inc swoT triT true false false a b ha hb
  refine inc_ext swoT (mg_inc swoT triT _ _ _ _ _ hm hb) List.Pairwise.nil fun z => ?_
  rw [mg_mem swoT triT _ _ _ z _ _ hm hb, mg_mem swoT triT _ _ _ z a b ha hb]
  by_cases h1 : z ∈ a <;> by_cases h2 : z ∈ b <;> simp [h1, h2]
theorem inn_mg (f b' s : Bool) (ha : Inc lts a) (hb : Inc lts b) (z : Tx) : inn (mg lts f b' s a b) z = ((f && inn a z && !inn b z) || (b' && inn a z && inn b z) || (s && !inn a z && inn b z)) := by
  have h := mg_mem swoT triT f b' s z a b ha hb
  rw [← inn_iff, ← inn_iff, ← inn_iff] at h
  revert h
  cases inn (mg lts f b' s a b) z <;> cases inn a z <;> cases inn b z <;> cases f <;> cases b' <;> cases s <;> simp
end

set_option maxHeartbeats 8000000 in
set_option maxRecDepth 10000 in
theorem keysSets_any (w : World) (op : Option Addr) (np cp : Nat) (oq : Option Addr) (nq cq : Nat) (sp sq : List Tx) (key : Tx) (hnp : np = sp.length) (hnq : nq = sq.length) (hnp2 : np ≤ 140737488355328) (hnq2 : nq ≤ 140737488355328) (hp : Sl TE w op cp sp) (hq : Sl TE w oq cq sq) :
    Calls Try.prog 3 #[.slice op np cp, .slice oq nq cq, .string key] w fun e w' => e = .returned (.bool true) ∧ Keeps no w w' := by
  have HP : Hid (np = sp.length ∧ np ≤ 140737488355328) := ⟨hnp, hnp2⟩
  have HQ : Hid (nq = sq.length ∧ nq ≤ 140737488355328) := ⟨hnq, hnq2⟩
  clear hnp hnq hnp2 hnq2
  obtain ⟨A, hA⟩ : ∃ A, onc (sp.take 300) = A := ⟨_, rfl⟩
  obtain ⟨B, hB⟩ : ∃ B, onc (sq.take 300) = B := ⟨_, rfl⟩
  have iA : Inc lts A := by rw [← hA]; exact onc_inc _
  have iB : Inc lts B := by rw [← hB]; exact onc_inc _
  have lA : A.length ≤ 300 := by rw [← hA]; have := onc_len (sp.take 300); rw [List.length_take] at this; omega
  have lB : B.length ≤ 300 := by rw [← hB]; have := onc_len (sq.take 300); rw [List.length_take] at this; omega
  obtain ⟨U, hU⟩ : ∃ U, mg lts true true true A B = U := ⟨_, rfl⟩
  obtain ⟨C, hC⟩ : ∃ C, mg lts false true false A B = C := ⟨_, rfl⟩
  obtain ⟨M, hM⟩ : ∃ M, mg lts true false false A B = M := ⟨_, rfl⟩
  have iU : Inc lts U := by rw [← hU]; exact mg_inc swoT triT _ _ _ A B iA iB
  have iC : Inc lts C := by rw [← hC]; exact mg_inc swoT triT _ _ _ A B iA iB
  have iM : Inc lts M := by rw [← hM]; exact mg_inc swoT triT _ _ _ A B iA iB
  have lU : U.length ≤ 600 := by rw [← hU]; have := mg_length_le (lt := lts) true true true A B; omega
  have lC : C.length ≤ 600 := by rw [← hC]; have := mg_length_le (lt := lts) false true false A B; omega
  have lM : M.length ≤ 600 := by rw [← hM]; have := mg_length_le (lt := lts) true false false A B; omega
  have sums := mg_len lts A B
  rw [hU, hC, hM] at sums
  have SUMS : Hid (U.length + C.length = A.length + B.length ∧ M.length + C.length = A.length) := sums
  have E1 : Hid (mg lts true true true B A = U) := (mg_comm_u iA iB).trans hU
  have E2 : Hid (mg lts false true false B A = C) := (mg_comm_c iA iB).trans hC
  have E3 : Hid (mg lts true true true M C = A) := by rw [← hM, ← hC]; exact mg_whole iA iB
  have E4 : Hid (mg lts false true false M B = []) := by rw [← hM]; exact mg_none iA iB
  have EU : Hid (∀ z, inn U z = (inn A z || inn B z)) := fun z => by
    rw [← hU, inn_mg _ _ _ iA iB]; cases inn A z <;> cases inn B z <;> rfl
  have EC : Hid (∀ z, inn C z = (inn A z && inn B z)) := fun z => by
    rw [← hC, inn_mg _ _ _ iA iB]; cases inn A z <;> cases inn B z <;> rfl
  have EM : Hid (∀ z, inn M z = (inn A z && !inn B z)) := fun z => by
    rw [← hM, inn_mg _ _ _ iA iB]; cases inn A z <;> cases inn B z <;> rfl
  have HA : Hid (onc (sp.take 300) = A) := hA
  have HB : Hid (onc (sq.take 300) = B) := hB
  have HU : Hid (mg lts true true true A B = U) := hU
  have HC : Hid (mg lts false true false A B = C) := hC
  have HM : Hid (mg lts true false false A B = M) := hM
  have IN : Hid (Inc lts A ∧ Inc lts B ∧ Inc lts U ∧ Inc lts C ∧ Inc lts M) := ⟨iA, iB, iU, iC, iM⟩
  have LN : Hid (A.length ≤ 300 ∧ B.length ≤ 300 ∧ U.length ≤ 600 ∧ C.length ≤ 600 ∧ M.length ≤ 600) := ⟨lA, lB, lU, lC, lM⟩
  have SM : Hid (Small A ∧ Small B ∧ Small U ∧ Small C ∧ Small M) := ⟨by show _ ≤ _; omega, by show _ ≤ _; omega, by show _ ≤ _; omega, by show _ ≤ _; omega, by show _ ≤ _; omega⟩
  clear hA hB hU hC hM iA iB iU iC iM lA lB lU lC lM sums
  go_enter Try.func3, Try.ntmps3
  go_wp2_with fail
  refine (alive_any w).mono ?_
  rintro e w1 ⟨rfl, k1⟩
  have K1 : Hid (Keeps no w w1) := k1
  clear k1
  have h2 := once_any w1 op np cp sp HP.out.1 HP.out.2 (hp.keepsN K1.out)
  rw [HA.out] at h2
  go_wp2_with fail
  refine h2.mono ?_
  rintro e w2 ⟨v, rfl, oA, nA, cA, rfl, hnA, hoA, _, k2⟩
  have K2 : Hid (Keeps no w w2) := K1.out.trans k2
  have h3 := once_any w2 oq nq cq sq HQ.out.1 HQ.out.2 (hq.keepsN K2.out)
  rw [HB.out] at h3
  clear k2 h2
  go_wp2_with fail
  refine h3.mono ?_
  rintro e w3 ⟨v, rfl, oB, nB, cB, rfl, hnB, hoB, _, k3⟩
  have K3 : Hid (Keeps no w w3) := K2.out.trans k3
  have OA3 : Hid (Own TE w3 oA cA A) := hoA.keepsN k3
  have OB3 : Hid (Own TE w3 oB cB B) := hoB
  clear k3 h3 hoA hoB
  go_wp2_with fail
  refine (own_any w3 oA nA cA A hnA.out OA3.out.sl SM.out.1).mono ?_
  rintro e w4 ⟨v, rfl, oa1, na1, ca1, rfl, hna1, hoa1, _, k4⟩
  have K4 : Hid (Keeps no w w4) := K3.out.trans k4
  have OA4 : Hid (Own TE w4 oA cA A) := OA3.out.keepsN k4
  clear OA3
  have OB4 : Hid (Own TE w4 oB cB B) := OB3.out.keepsN k4
  clear OB3
  have Oa14 : Hid (Own TE w4 oa1 ca1 A) := hoa1
  clear k4 hoa1
  go_wp2_with fail
  refine (own_any w4 oB nB cB B hnB.out OB4.out.sl SM.out.2.1).mono ?_
  rintro e w5 ⟨v, rfl, ob1, nb1, cb1, rfl, hnb1, hob1, _, k5⟩
  have K5 : Hid (Keeps no w w5) := K4.out.trans k5
  have OA5 : Hid (Own TE w5 oA cA A) := OA4.out.keepsN k5
  clear OA4
  have OB5 : Hid (Own TE w5 oB cB B) := OB4.out.keepsN k5
  clear OB4
  have Oa15 : Hid (Own TE w5 oa1 ca1 A) := Oa14.out.keepsN k5
  clear Oa14
  have Ob15 : Hid (Own TE w5 ob1 cb1 B) := hob1
  clear k5 hob1
  have h6 := union_inc w5 oa1 na1 ca1 ob1 nb1 cb1 A B hna1.out hnb1.out (by have := LN.out; omega) (by have := LN.out; omega) Oa15.out.sl Ob15.out.sl IN.out.1 IN.out.2.1
  rw [HU.out] at h6
  go_wp2_with fail
  refine h6.mono ?_
  rintro e w6 ⟨v, rfl, oU, nU, cU, rfl, hnU, hoU, _, k6⟩
  clear Oa15
  clear Ob15
  have K6 : Hid (Keeps no w w6) := K5.out.trans k6
  have OA6 : Hid (Own TE w6 oA cA A) := OA5.out.keepsN k6
  clear OA5
  have OB6 : Hid (Own TE w6 oB cB B) := OB5.out.keepsN k6
  clear OB5
  have OU6 : Hid (Own TE w6 oU cU U) := hoU
  clear k6 hoU h6
  go_wp2_with fail
  refine (own_any w6 oB nB cB B hnB.out OB6.out.sl SM.out.2.1).mono ?_
  rintro e w7 ⟨v, rfl, ob2, nb2, cb2, rfl, hnb2, hob2, _, k7⟩
  have K7 : Hid (Keeps no w w7) := K6.out.trans k7
  have OA7 : Hid (Own TE w7 oA cA A) := OA6.out.keepsN k7
  clear OA6
  have OB7 : Hid (Own TE w7 oB cB B) := OB6.out.keepsN k7
  clear OB6
  have OU7 : Hid (Own TE w7 oU cU U) := OU6.out.keepsN k7
  clear OU6
  have Ob27 : Hid (Own TE w7 ob2 cb2 B) := hob2
  clear k7 hob2
  go_wp2_with fail
  refine (own_any w7 oA nA cA A hnA.out OA7.out.sl SM.out.1).mono ?_
  rintro e w8 ⟨v, rfl, oa2, na2, ca2, rfl, hna2, hoa2, _, k8⟩
  have K8 : Hid (Keeps no w w8) := K7.out.trans k8
  have OA8 : Hid (Own TE w8 oA cA A) := OA7.out.keepsN k8
  clear OA7
  have OB8 : Hid (Own TE w8 oB cB B) := OB7.out.keepsN k8
  clear OB7
  have OU8 : Hid (Own TE w8 oU cU U) := OU7.out.keepsN k8
  clear OU7
  have Ob28 : Hid (Own TE w8 ob2 cb2 B) := Ob27.out.keepsN k8
  clear Ob27
  have Oa28 : Hid (Own TE w8 oa2 ca2 A) := hoa2
  clear k8 hoa2
  have h9 := union_inc w8 ob2 nb2 cb2 oa2 na2 ca2 B A hnb2.out hna2.out (by have := LN.out; omega) (by have := LN.out; omega) Ob28.out.sl Oa28.out.sl IN.out.2.1 IN.out.1
  rw [E1.out] at h9
  go_wp2_with fail
  refine h9.mono ?_
  rintro e w9 ⟨v, rfl, oV, nV, cV, rfl, hnV, hoV, _, k9⟩
  clear Ob28
  clear Oa28
  have K9 : Hid (Keeps no w w9) := K8.out.trans k9
  have OA9 : Hid (Own TE w9 oA cA A) := OA8.out.keepsN k9
  clear OA8
  have OB9 : Hid (Own TE w9 oB cB B) := OB8.out.keepsN k9
  clear OB8
  have OU9 : Hid (Own TE w9 oU cU U) := OU8.out.keepsN k9
  clear OU8
  have OV9 : Hid (Own TE w9 oV cV U) := hoV
  clear k9 hoV h9
  go_wp2_with fail
  refine (own_any w9 oA nA cA A hnA.out OA9.out.sl SM.out.1).mono ?_
  rintro e w10 ⟨v, rfl, oa3, na3, ca3, rfl, hna3, hoa3, _, k10⟩
  have K10 : Hid (Keeps no w w10) := K9.out.trans k10
  have OA10 : Hid (Own TE w10 oA cA A) := OA9.out.keepsN k10
  clear OA9
  have OB10 : Hid (Own TE w10 oB cB B) := OB9.out.keepsN k10
  clear OB9
  have OU10 : Hid (Own TE w10 oU cU U) := OU9.out.keepsN k10
  clear OU9
  have OV10 : Hid (Own TE w10 oV cV U) := OV9.out.keepsN k10
  clear OV9
  have Oa310 : Hid (Own TE w10 oa3 ca3 A) := hoa3
  clear k10 hoa3
  go_wp2_with fail
  refine (own_any w10 oB nB cB B hnB.out OB10.out.sl SM.out.2.1).mono ?_
  rintro e w11 ⟨v, rfl, ob3, nb3, cb3, rfl, hnb3, hob3, _, k11⟩
  have K11 : Hid (Keeps no w w11) := K10.out.trans k11
  have OA11 : Hid (Own TE w11 oA cA A) := OA10.out.keepsN k11
  clear OA10
  have OB11 : Hid (Own TE w11 oB cB B) := OB10.out.keepsN k11
  clear OB10
  have OU11 : Hid (Own TE w11 oU cU U) := OU10.out.keepsN k11
  clear OU10
  have OV11 : Hid (Own TE w11 oV cV U) := OV10.out.keepsN k11
  clear OV10
  have Oa311 : Hid (Own TE w11 oa3 ca3 A) := Oa310.out.keepsN k11
  clear Oa310
  have Ob311 : Hid (Own TE w11 ob3 cb3 B) := hob3
  clear k11 hob3
  have h12 := common_inc w11 oa3 na3 ca3 ob3 nb3 cb3 A B hna3.out hnb3.out (by have := LN.out; omega) (by have := LN.out; omega) Oa311.out.sl Ob311.out.sl IN.out.1 IN.out.2.1
  rw [HC.out] at h12
  go_wp2_with fail
  refine h12.mono ?_
  rintro e w12 ⟨v, rfl, oC, nC, cC, rfl, hnC, hoC, _, k12⟩
  clear Oa311
  clear Ob311
  have K12 : Hid (Keeps no w w12) := K11.out.trans k12
  have OA12 : Hid (Own TE w12 oA cA A) := OA11.out.keepsN k12
  clear OA11
  have OB12 : Hid (Own TE w12 oB cB B) := OB11.out.keepsN k12
  clear OB11
  have OU12 : Hid (Own TE w12 oU cU U) := OU11.out.keepsN k12
  clear OU11
  have OV12 : Hid (Own TE w12 oV cV U) := OV11.out.keepsN k12
  clear OV11
  have OC12 : Hid (Own TE w12 oC cC C) := hoC
  clear k12 hoC h12
  go_wp2_with fail
  refine (own_any w12 oB nB cB B hnB.out OB12.out.sl SM.out.2.1).mono ?_
  rintro e w13 ⟨v, rfl, ob4, nb4, cb4, rfl, hnb4, hob4, _, k13⟩
  have K13 : Hid (Keeps no w w13) := K12.out.trans k13
  have OA13 : Hid (Own TE w13 oA cA A) := OA12.out.keepsN k13
  clear OA12
  have OB13 : Hid (Own TE w13 oB cB B) := OB12.out.keepsN k13
  clear OB12
  have OU13 : Hid (Own TE w13 oU cU U) := OU12.out.keepsN k13
  clear OU12
  have OV13 : Hid (Own TE w13 oV cV U) := OV12.out.keepsN k13
  clear OV12
  have OC13 : Hid (Own TE w13 oC cC C) := OC12.out.keepsN k13
  clear OC12
  have Ob413 : Hid (Own TE w13 ob4 cb4 B) := hob4
  clear k13 hob4
  go_wp2_with fail
  refine (own_any w13 oA nA cA A hnA.out OA13.out.sl SM.out.1).mono ?_
  rintro e w14 ⟨v, rfl, oa4, na4, ca4, rfl, hna4, hoa4, _, k14⟩
  have K14 : Hid (Keeps no w w14) := K13.out.trans k14
  have OA14 : Hid (Own TE w14 oA cA A) := OA13.out.keepsN k14
  clear OA13
  have OB14 : Hid (Own TE w14 oB cB B) := OB13.out.keepsN k14
  clear OB13
  have OU14 : Hid (Own TE w14 oU cU U) := OU13.out.keepsN k14
  clear OU13
  have OV14 : Hid (Own TE w14 oV cV U) := OV13.out.keepsN k14
  clear OV13
  have OC14 : Hid (Own TE w14 oC cC C) := OC13.out.keepsN k14
  clear OC13
  have Ob414 : Hid (Own TE w14 ob4 cb4 B) := Ob413.out.keepsN k14
  clear Ob413
  have Oa414 : Hid (Own TE w14 oa4 ca4 A) := hoa4
  clear k14 hoa4
  have h15 := common_inc w14 ob4 nb4 cb4 oa4 na4 ca4 B A hnb4.out hna4.out (by have := LN.out; omega) (by have := LN.out; omega) Ob414.out.sl Oa414.out.sl IN.out.2.1 IN.out.1
  rw [E2.out] at h15
  go_wp2_with fail
  refine h15.mono ?_
  rintro e w15 ⟨v, rfl, oD, nD, cD, rfl, hnD, hoD, _, k15⟩
  clear Ob414
  clear Oa414
  have K15 : Hid (Keeps no w w15) := K14.out.trans k15
  have OA15 : Hid (Own TE w15 oA cA A) := OA14.out.keepsN k15
  clear OA14
  have OB15 : Hid (Own TE w15 oB cB B) := OB14.out.keepsN k15
  clear OB14
  have OU15 : Hid (Own TE w15 oU cU U) := OU14.out.keepsN k15
  clear OU14
  have OV15 : Hid (Own TE w15 oV cV U) := OV14.out.keepsN k15
  clear OV14
  have OC15 : Hid (Own TE w15 oC cC C) := OC14.out.keepsN k15
  clear OC14
  have OD15 : Hid (Own TE w15 oD cD C) := hoD
  clear k15 hoD h15
  go_wp2_with fail
  refine (own_any w15 oA nA cA A hnA.out OA15.out.sl SM.out.1).mono ?_
  rintro e w16 ⟨v, rfl, oa5, na5, ca5, rfl, hna5, hoa5, _, k16⟩
  have K16 : Hid (Keeps no w w16) := K15.out.trans k16
  have OA16 : Hid (Own TE w16 oA cA A) := OA15.out.keepsN k16
  clear OA15
  have OB16 : Hid (Own TE w16 oB cB B) := OB15.out.keepsN k16
  clear OB15
  have OU16 : Hid (Own TE w16 oU cU U) := OU15.out.keepsN k16
  clear OU15
  have OV16 : Hid (Own TE w16 oV cV U) := OV15.out.keepsN k16
  clear OV15
  have OC16 : Hid (Own TE w16 oC cC C) := OC15.out.keepsN k16
  clear OC15
  have OD16 : Hid (Own TE w16 oD cD C) := OD15.out.keepsN k16
  clear OD15
  have Oa516 : Hid (Own TE w16 oa5 ca5 A) := hoa5
  clear k16 hoa5
  go_wp2_with fail
  refine (own_any w16 oB nB cB B hnB.out OB16.out.sl SM.out.2.1).mono ?_
  rintro e w17 ⟨v, rfl, ob5, nb5, cb5, rfl, hnb5, hob5, _, k17⟩
  have K17 : Hid (Keeps no w w17) := K16.out.trans k17
  have OA17 : Hid (Own TE w17 oA cA A) := OA16.out.keepsN k17
  clear OA16
  have OB17 : Hid (Own TE w17 oB cB B) := OB16.out.keepsN k17
  clear OB16
  have OU17 : Hid (Own TE w17 oU cU U) := OU16.out.keepsN k17
  clear OU16
  have OV17 : Hid (Own TE w17 oV cV U) := OV16.out.keepsN k17
  clear OV16
  have OC17 : Hid (Own TE w17 oC cC C) := OC16.out.keepsN k17
  clear OC16
  have OD17 : Hid (Own TE w17 oD cD C) := OD16.out.keepsN k17
  clear OD16
  have Oa517 : Hid (Own TE w17 oa5 ca5 A) := Oa516.out.keepsN k17
  clear Oa516
  have Ob517 : Hid (Own TE w17 ob5 cb5 B) := hob5
  clear k17 hob5
  have h18 := minus_inc w17 oa5 na5 ca5 ob5 nb5 cb5 A B hna5.out hnb5.out (by have := LN.out; omega) (by have := LN.out; omega) Oa517.out.sl Ob517.out.sl IN.out.1 IN.out.2.1
  rw [HM.out] at h18
  go_wp2_with fail
  refine h18.mono ?_
  rintro e w18 ⟨v, rfl, oM, nM, cM, rfl, hnM, hoM, _, k18⟩
  clear Oa517
  clear Ob517
  have K18 : Hid (Keeps no w w18) := K17.out.trans k18
  have OA18 : Hid (Own TE w18 oA cA A) := OA17.out.keepsN k18
  clear OA17
  have OB18 : Hid (Own TE w18 oB cB B) := OB17.out.keepsN k18
  clear OB17
  have OU18 : Hid (Own TE w18 oU cU U) := OU17.out.keepsN k18
  clear OU17
  have OV18 : Hid (Own TE w18 oV cV U) := OV17.out.keepsN k18
  clear OV17
  have OC18 : Hid (Own TE w18 oC cC C) := OC17.out.keepsN k18
  clear OC17
  have OD18 : Hid (Own TE w18 oD cD C) := OD17.out.keepsN k18
  clear OD17
  have OM18 : Hid (Own TE w18 oM cM M) := hoM
  clear k18 hoM h18
  go_wp2_with fail
  refine (own_any w18 oM nM cM M hnM.out OM18.out.sl SM.out.2.2.2.2).mono ?_
  rintro e w19 ⟨v, rfl, om6, nm6, cm6, rfl, hnm6, hom6, _, k19⟩
  have K19 : Hid (Keeps no w w19) := K18.out.trans k19
  have OA19 : Hid (Own TE w19 oA cA A) := OA18.out.keepsN k19
  clear OA18
  have OB19 : Hid (Own TE w19 oB cB B) := OB18.out.keepsN k19
  clear OB18
  have OU19 : Hid (Own TE w19 oU cU U) := OU18.out.keepsN k19
  clear OU18
  have OV19 : Hid (Own TE w19 oV cV U) := OV18.out.keepsN k19
  clear OV18
  have OC19 : Hid (Own TE w19 oC cC C) := OC18.out.keepsN k19
  clear OC18
  have OD19 : Hid (Own TE w19 oD cD C) := OD18.out.keepsN k19
  clear OD18
  have OM19 : Hid (Own TE w19 oM cM M) := OM18.out.keepsN k19
  clear OM18
  have Om619 : Hid (Own TE w19 om6 cm6 M) := hom6
  clear k19 hom6
  go_wp2_with fail
  refine (own_any w19 oC nC cC C hnC.out OC19.out.sl SM.out.2.2.2.1).mono ?_
  rintro e w20 ⟨v, rfl, oc6, nc6, cc6, rfl, hnc6, hoc6, _, k20⟩
  have K20 : Hid (Keeps no w w20) := K19.out.trans k20
  have OA20 : Hid (Own TE w20 oA cA A) := OA19.out.keepsN k20
  clear OA19
  have OB20 : Hid (Own TE w20 oB cB B) := OB19.out.keepsN k20
  clear OB19
  have OU20 : Hid (Own TE w20 oU cU U) := OU19.out.keepsN k20
  clear OU19
  have OV20 : Hid (Own TE w20 oV cV U) := OV19.out.keepsN k20
  clear OV19
  have OC20 : Hid (Own TE w20 oC cC C) := OC19.out.keepsN k20
  clear OC19
  have OD20 : Hid (Own TE w20 oD cD C) := OD19.out.keepsN k20
  clear OD19
  have OM20 : Hid (Own TE w20 oM cM M) := OM19.out.keepsN k20
  clear OM19
  have Om620 : Hid (Own TE w20 om6 cm6 M) := Om619.out.keepsN k20
  clear Om619
  have Oc620 : Hid (Own TE w20 oc6 cc6 C) := hoc6
  clear k20 hoc6
  have h21 := union_inc w20 om6 nm6 cm6 oc6 nc6 cc6 M C hnm6.out hnc6.out (by have := LN.out; omega) (by have := LN.out; omega) Om620.out.sl Oc620.out.sl IN.out.2.2.2.2 IN.out.2.2.2.1
  rw [E3.out] at h21
  go_wp2_with fail
  refine h21.mono ?_
  rintro e w21 ⟨v, rfl, oW, nW, cW, rfl, hnW, hoW, _, k21⟩
  clear Om620
  clear Oc620
  have K21 : Hid (Keeps no w w21) := K20.out.trans k21
  have OA21 : Hid (Own TE w21 oA cA A) := OA20.out.keepsN k21
  clear OA20
  have OB21 : Hid (Own TE w21 oB cB B) := OB20.out.keepsN k21
  clear OB20
  have OU21 : Hid (Own TE w21 oU cU U) := OU20.out.keepsN k21
  clear OU20
  have OV21 : Hid (Own TE w21 oV cV U) := OV20.out.keepsN k21
  clear OV20
  have OC21 : Hid (Own TE w21 oC cC C) := OC20.out.keepsN k21
  clear OC20
  have OD21 : Hid (Own TE w21 oD cD C) := OD20.out.keepsN k21
  clear OD20
  have OM21 : Hid (Own TE w21 oM cM M) := OM20.out.keepsN k21
  clear OM20
  have OW21 : Hid (Own TE w21 oW cW A) := hoW
  clear k21 hoW h21
  go_wp2_with fail
  refine (own_any w21 oM nM cM M hnM.out OM21.out.sl SM.out.2.2.2.2).mono ?_
  rintro e w22 ⟨v, rfl, om7, nm7, cm7, rfl, hnm7, hom7, _, k22⟩
  have K22 : Hid (Keeps no w w22) := K21.out.trans k22
  have OA22 : Hid (Own TE w22 oA cA A) := OA21.out.keepsN k22
  clear OA21
  have OB22 : Hid (Own TE w22 oB cB B) := OB21.out.keepsN k22
  clear OB21
  have OU22 : Hid (Own TE w22 oU cU U) := OU21.out.keepsN k22
  clear OU21
  have OV22 : Hid (Own TE w22 oV cV U) := OV21.out.keepsN k22
  clear OV21
  have OC22 : Hid (Own TE w22 oC cC C) := OC21.out.keepsN k22
  clear OC21
  have OD22 : Hid (Own TE w22 oD cD C) := OD21.out.keepsN k22
  clear OD21
  have OM22 : Hid (Own TE w22 oM cM M) := OM21.out.keepsN k22
  clear OM21
  have OW22 : Hid (Own TE w22 oW cW A) := OW21.out.keepsN k22
  clear OW21
  have Om722 : Hid (Own TE w22 om7 cm7 M) := hom7
  clear k22 hom7
  go_wp2_with fail
  refine (own_any w22 oB nB cB B hnB.out OB22.out.sl SM.out.2.1).mono ?_
  rintro e w23 ⟨v, rfl, ob7, nb7, cb7, rfl, hnb7, hob7, _, k23⟩
  have K23 : Hid (Keeps no w w23) := K22.out.trans k23
  have OA23 : Hid (Own TE w23 oA cA A) := OA22.out.keepsN k23
  clear OA22
  have OB23 : Hid (Own TE w23 oB cB B) := OB22.out.keepsN k23
  clear OB22
  have OU23 : Hid (Own TE w23 oU cU U) := OU22.out.keepsN k23
  clear OU22
  have OV23 : Hid (Own TE w23 oV cV U) := OV22.out.keepsN k23
  clear OV22
  have OC23 : Hid (Own TE w23 oC cC C) := OC22.out.keepsN k23
  clear OC22
  have OD23 : Hid (Own TE w23 oD cD C) := OD22.out.keepsN k23
  clear OD22
  have OM23 : Hid (Own TE w23 oM cM M) := OM22.out.keepsN k23
  clear OM22
  have OW23 : Hid (Own TE w23 oW cW A) := OW22.out.keepsN k23
  clear OW22
  have Om723 : Hid (Own TE w23 om7 cm7 M) := Om722.out.keepsN k23
  clear Om722
  have Ob723 : Hid (Own TE w23 ob7 cb7 B) := hob7
  clear k23 hob7
  have h24 := common_inc w23 om7 nm7 cm7 ob7 nb7 cb7 M B hnm7.out hnb7.out (by have := LN.out; omega) (by have := LN.out; omega) Om723.out.sl Ob723.out.sl IN.out.2.2.2.2 IN.out.2.1
  rw [E4.out] at h24
  go_wp2_with fail
  refine h24.mono ?_
  rintro e w24 ⟨v, rfl, oZ, nZ, cZ, rfl, hnZ, hoZ, _, k24⟩
  clear Om723
  clear Ob723
  have K24 : Hid (Keeps no w w24) := K23.out.trans k24
  have OA24 : Hid (Own TE w24 oA cA A) := OA23.out.keepsN k24
  clear OA23
  have OB24 : Hid (Own TE w24 oB cB B) := OB23.out.keepsN k24
  clear OB23
  have OU24 : Hid (Own TE w24 oU cU U) := OU23.out.keepsN k24
  clear OU23
  have OV24 : Hid (Own TE w24 oV cV U) := OV23.out.keepsN k24
  clear OV23
  have OC24 : Hid (Own TE w24 oC cC C) := OC23.out.keepsN k24
  clear OC23
  have OD24 : Hid (Own TE w24 oD cD C) := OD23.out.keepsN k24
  clear OD23
  have OM24 : Hid (Own TE w24 oM cM M) := OM23.out.keepsN k24
  clear OM23
  have OW24 : Hid (Own TE w24 oW cW A) := OW23.out.keepsN k24
  clear OW23
  have OZ24 : Hid (Own TE w24 oZ cZ []) := hoZ
  clear k24 hoZ h24
  obtain rfl : nZ = 0 := hnZ.out
  clear OZ24
  go_wp2_with fail
  refine (same_yes w24 oU nU cU oV nV cV U hnU.out hnV.out SM.out.2.2.1 OU24.out.sl OV24.out.sl).mono ?_
  rintro e w25 ⟨rfl, k25⟩
  have K25 : Hid (Keeps no w w25) := K24.out.trans k25
  have OA25 : Hid (Own TE w25 oA cA A) := OA24.out.keepsN k25
  clear OA24
  have OB25 : Hid (Own TE w25 oB cB B) := OB24.out.keepsN k25
  clear OB24
  have OU25 : Hid (Own TE w25 oU cU U) := OU24.out.keepsN k25
  clear OU24
  have OV25 : Hid (Own TE w25 oV cV U) := OV24.out.keepsN k25
  clear OV24
  have OC25 : Hid (Own TE w25 oC cC C) := OC24.out.keepsN k25
  clear OC24
  have OD25 : Hid (Own TE w25 oD cD C) := OD24.out.keepsN k25
  clear OD24
  have OM25 : Hid (Own TE w25 oM cM M) := OM24.out.keepsN k25
  clear OM24
  have OW25 : Hid (Own TE w25 oW cW A) := OW24.out.keepsN k25
  clear OW24
  clear k25
  go_wp2_with fail
  refine (same_yes w25 oC nC cC oD nD cD C hnC.out hnD.out SM.out.2.2.2.1 OC25.out.sl OD25.out.sl).mono ?_
  rintro e w26 ⟨rfl, k26⟩
  have K26 : Hid (Keeps no w w26) := K25.out.trans k26
  have OA26 : Hid (Own TE w26 oA cA A) := OA25.out.keepsN k26
  clear OA25
  have OB26 : Hid (Own TE w26 oB cB B) := OB25.out.keepsN k26
  clear OB25
  have OU26 : Hid (Own TE w26 oU cU U) := OU25.out.keepsN k26
  clear OU25
  have OV26 : Hid (Own TE w26 oV cV U) := OV25.out.keepsN k26
  clear OV25
  have OC26 : Hid (Own TE w26 oC cC C) := OC25.out.keepsN k26
  clear OC25
  have OD26 : Hid (Own TE w26 oD cD C) := OD25.out.keepsN k26
  clear OD25
  have OM26 : Hid (Own TE w26 oM cM M) := OM25.out.keepsN k26
  clear OM25
  have OW26 : Hid (Own TE w26 oW cW A) := OW25.out.keepsN k26
  clear OW25
  clear k26
  go_wp2_with fail
  refine (same_yes w26 oW nW cW oA nA cA A hnW.out hnA.out SM.out.1 OW26.out.sl OA26.out.sl).mono ?_
  rintro e w27 ⟨rfl, k27⟩
  have K27 : Hid (Keeps no w w27) := K26.out.trans k27
  have OA27 : Hid (Own TE w27 oA cA A) := OA26.out.keepsN k27
  clear OA26
  have OB27 : Hid (Own TE w27 oB cB B) := OB26.out.keepsN k27
  clear OB26
  have OU27 : Hid (Own TE w27 oU cU U) := OU26.out.keepsN k27
  clear OU26
  have OV27 : Hid (Own TE w27 oV cV U) := OV26.out.keepsN k27
  clear OV26
  have OC27 : Hid (Own TE w27 oC cC C) := OC26.out.keepsN k27
  clear OC26
  have OD27 : Hid (Own TE w27 oD cD C) := OD26.out.keepsN k27
  clear OD26
  have OM27 : Hid (Own TE w27 oM cM M) := OM26.out.keepsN k27
  clear OM26
  have OW27 : Hid (Own TE w27 oW cW A) := OW26.out.keepsN k27
  clear OW26
  clear k27
  clear OV27
  clear OD27
  clear OW27
  go_wp2_with fail
  refine (own_any w27 oU nU cU U hnU.out OU27.out.sl SM.out.2.2.1).mono ?_
  rintro e w28 ⟨v, rfl, ou8, nu8, cu8, rfl, hnu8, hou8, _, k28⟩
  have K28 : Hid (Keeps no w w28) := K27.out.trans k28
  have OA28 : Hid (Own TE w28 oA cA A) := OA27.out.keepsN k28
  clear OA27
  have OB28 : Hid (Own TE w28 oB cB B) := OB27.out.keepsN k28
  clear OB27
  have OU28 : Hid (Own TE w28 oU cU U) := OU27.out.keepsN k28
  clear OU27
  have OC28 : Hid (Own TE w28 oC cC C) := OC27.out.keepsN k28
  clear OC27
  have OM28 : Hid (Own TE w28 oM cM M) := OM27.out.keepsN k28
  clear OM27
  have Ou828 : Hid (Own TE w28 ou8 cu8 U) := hou8
  clear k28 hou8
  go_wp2_with fail
  refine (rising_inc w28 ou8 nu8 cu8 U hnu8.out SM.out.2.2.1 Ou828.out.sl IN.out.2.2.1).mono ?_
  rintro e w29 ⟨rfl, k29⟩
  clear Ou828
  have K29 : Hid (Keeps no w w29) := K28.out.trans k29
  have OA29 : Hid (Own TE w29 oA cA A) := OA28.out.keepsN k29
  clear OA28
  have OB29 : Hid (Own TE w29 oB cB B) := OB28.out.keepsN k29
  clear OB28
  have OU29 : Hid (Own TE w29 oU cU U) := OU28.out.keepsN k29
  clear OU28
  have OC29 : Hid (Own TE w29 oC cC C) := OC28.out.keepsN k29
  clear OC28
  have OM29 : Hid (Own TE w29 oM cM M) := OM28.out.keepsN k29
  clear OM28
  clear k29
  go_wp2_with fail
  refine (own_any w29 oC nC cC C hnC.out OC29.out.sl SM.out.2.2.2.1).mono ?_
  rintro e w30 ⟨v, rfl, oc8, nc8, cc8, rfl, hnc8, hoc8, _, k30⟩
  have K30 : Hid (Keeps no w w30) := K29.out.trans k30
  have OA30 : Hid (Own TE w30 oA cA A) := OA29.out.keepsN k30
  clear OA29
  have OB30 : Hid (Own TE w30 oB cB B) := OB29.out.keepsN k30
  clear OB29
  have OU30 : Hid (Own TE w30 oU cU U) := OU29.out.keepsN k30
  clear OU29
  have OC30 : Hid (Own TE w30 oC cC C) := OC29.out.keepsN k30
  clear OC29
  have OM30 : Hid (Own TE w30 oM cM M) := OM29.out.keepsN k30
  clear OM29
  have Oc830 : Hid (Own TE w30 oc8 cc8 C) := hoc8
  clear k30 hoc8
  go_wp2_with fail
  refine (rising_inc w30 oc8 nc8 cc8 C hnc8.out SM.out.2.2.2.1 Oc830.out.sl IN.out.2.2.2.1).mono ?_
  rintro e w31 ⟨rfl, k31⟩
  clear Oc830
  have K31 : Hid (Keeps no w w31) := K30.out.trans k31
  have OA31 : Hid (Own TE w31 oA cA A) := OA30.out.keepsN k31
  clear OA30
  have OB31 : Hid (Own TE w31 oB cB B) := OB30.out.keepsN k31
  clear OB30
  have OU31 : Hid (Own TE w31 oU cU U) := OU30.out.keepsN k31
  clear OU30
  have OC31 : Hid (Own TE w31 oC cC C) := OC30.out.keepsN k31
  clear OC30
  have OM31 : Hid (Own TE w31 oM cM M) := OM30.out.keepsN k31
  clear OM30
  clear k31
  go_wp2_with fail
  refine (own_any w31 oM nM cM M hnM.out OM31.out.sl SM.out.2.2.2.2).mono ?_
  rintro e w32 ⟨v, rfl, om8, nm8, cm8, rfl, hnm8, hom8, _, k32⟩
  have K32 : Hid (Keeps no w w32) := K31.out.trans k32
  have OA32 : Hid (Own TE w32 oA cA A) := OA31.out.keepsN k32
  clear OA31
  have OB32 : Hid (Own TE w32 oB cB B) := OB31.out.keepsN k32
  clear OB31
  have OU32 : Hid (Own TE w32 oU cU U) := OU31.out.keepsN k32
  clear OU31
  have OC32 : Hid (Own TE w32 oC cC C) := OC31.out.keepsN k32
  clear OC31
  have OM32 : Hid (Own TE w32 oM cM M) := OM31.out.keepsN k32
  clear OM31
  have Om832 : Hid (Own TE w32 om8 cm8 M) := hom8
  clear k32 hom8
  go_wp2_with fail
  refine (rising_inc w32 om8 nm8 cm8 M hnm8.out SM.out.2.2.2.2 Om832.out.sl IN.out.2.2.2.2).mono ?_
  rintro e w33 ⟨rfl, k33⟩
  clear Om832
  have K33 : Hid (Keeps no w w33) := K32.out.trans k33
  have OA33 : Hid (Own TE w33 oA cA A) := OA32.out.keepsN k33
  clear OA32
  have OB33 : Hid (Own TE w33 oB cB B) := OB32.out.keepsN k33
  clear OB32
  have OU33 : Hid (Own TE w33 oU cU U) := OU32.out.keepsN k33
  clear OU32
  have OC33 : Hid (Own TE w33 oC cC C) := OC32.out.keepsN k33
  clear OC32
  have OM33 : Hid (Own TE w33 oM cM M) := OM32.out.keepsN k33
  clear OM32
  clear k33
  go_wp2_with fail
  refine (own_any w33 oA nA cA A hnA.out OA33.out.sl SM.out.1).mono ?_
  rintro e w34 ⟨v, rfl, ot, nt, ct, rfl, hnt, hot, hwt, k34⟩
  have HT : Hid (New w33 ot ∧ Keeps no w33 w34) := ⟨hwt, k34⟩
  have OB34 : Hid (Own TE w34 oB cB B) := OB33.out.keepsN k34
  have OT : Hid (Own TE w34 ot ct A) := hot
  clear hot hwt k34
  go_wp2_with (at_builtin; first
    | (refine wpList_app okT rfl _ _ rfl _ _ _ A rfl hnt.out OT.out _ _ _ B rfl hnB.out OB34.out.sl.nil OB34.out.row (by have := LN.out; simp [TE]; omega) (by have := LN.out; omega) ?_; intro o1 c1 x1 ho1 hap1)
    | (refine wpList_app okT rfl _ _ rfl _ _ _ (A ++ B) rfl (by have := hnt.out; have := hnB.out; simp; omega) (ho1.keepsN ((Keeps.refl _ _).alloc _)) _ _ _ [key] rfl rfl (own_one _ key).nil (own_one _ key).row (by have := LN.out; simp [TE]; omega) (by have := LN.out; simp; omega) ?_; intro o2 c2 x2 ho2 hap2))
  have kk1 := hap1.new (w0 := w33) HT.out.1 HT.out.2
  have kk2 := hap2.new (w0 := w33) kk1.1 (kk1.2.alloc _)
  have KX : Hid (Keeps no w x2) := K33.out.trans kk2.2
  have PA : Hid (Own TE x2 oA cA A) := OA33.out.keepsN kk2.2
  have PB : Hid (Own TE x2 oB cB B) := OB33.out.keepsN kk2.2
  have PU : Hid (Own TE x2 oU cU U) := OU33.out.keepsN kk2.2
  have PC : Hid (Own TE x2 oC cC C) := OC33.out.keepsN kk2.2
  have PM : Hid (Own TE x2 oM cM M) := OM33.out.keepsN kk2.2
  have PT : Hid (Own TE x2 o2 c2 (A ++ B ++ [key])) := ho2
  clear OA33 OB33 OU33 OC33 OM33 OB34 OT HT hap1 hap2 ho1 ho2 kk1 kk2
  have NN : Hid (nt + nB + 1 = (A ++ B ++ [key]).length) := by have := hnt.out; have := hnB.out; show _ = _; simp; omega
  obtain ⟨N, hN⟩ : ∃ N, nt + nB + 1 = N := ⟨_, rfl⟩
  have hN2 : (N : Int) ≤ 1000 := by have := hnt.out; have := hnB.out; have := LN.out; omega
  rw [hN] at NN
  simp only [hN]
  clear hN
  have b1 : (nA : Int) ≤ 300 := by have := hnA.out; have := LN.out; omega
  have b2 : (nB : Int) ≤ 300 := by have := hnB.out; have := LN.out; omega
  have b3 : (nC : Int) ≤ 600 := by have := hnC.out; have := LN.out; omega
  have q1 : (nA : Int) + nB - nC = nU := by have := hnA.out; have := hnB.out; have := hnC.out; have := hnU.out; have := SUMS.out; omega
  have q2 : (nA : Int) - nC = nM := by have := hnA.out; have := hnM.out; have := hnC.out; have := SUMS.out; omega
  go_wp2_with fail
  go_loopw [25] (fun i wr => ∃ k : Nat, k ≤ N ∧ i = .int .i64 k ∧ Hid (Keeps no x2 wr)) (fun i _ => N - (intOf i).toNat)
  case atStart => exact ⟨0, by omega, rfl, Keeps.refl _ _⟩
  case round =>
    obtain ⟨k, hk, rfl, HK⟩ := hrel
    by_cases hlt : k < N
    · obtain ⟨bt, offt, rfl, d1⟩ := (PT.out.sl.keepsN HK.out).at (j := k) (by have := NN.out; omega)
      obtain ⟨t, ht⟩ : ∃ t, t = (A ++ B ++ [key]).getD k e0 := ⟨_, rfl⟩
      rw [← ht] at d1
      clear ht
      have z1 := fun wz (hz : Keeps no wr wz) => has_inc wz oA nA cA A t hnA.out SM.out.1 (PA.out.sl.keepsN (HK.out.trans hz)) IN.out.1
      have z2 := fun wz (hz : Keeps no wr wz) => has_inc wz oB nB cB B t hnB.out SM.out.2.1 (PB.out.sl.keepsN (HK.out.trans hz)) IN.out.2.1
      have z3 := fun wz (hz : Keeps no wr wz) => has_inc wz oU nU cU U t hnU.out SM.out.2.2.1 (PU.out.sl.keepsN (HK.out.trans hz)) IN.out.2.2.1
      have z4 := fun wz (hz : Keeps no wr wz) => has_inc wz oC nC cC C t hnC.out SM.out.2.2.2.1 (PC.out.sl.keepsN (HK.out.trans hz)) IN.out.2.2.2.1
      have z5 := fun wz (hz : Keeps no wr wz) => has_inc wz oM nM cM M t hnM.out SM.out.2.2.2.2 (PM.out.sl.keepsN (HK.out.trans hz)) IN.out.2.2.2.2
      rw [EU.out] at z3
      rw [EC.out] at z4
      rw [EM.out] at z5
      generalize inn A t = X at z1 z3 z4 z5
      generalize inn B t = Y at z2 z3 z4 z5
      cases X <;> cases Y
      all_goals
        (simp only [Bool.or_false, Bool.or_true, Bool.false_or, Bool.true_or, Bool.and_false, Bool.and_true, Bool.false_and, Bool.true_and, Bool.not_false, Bool.not_true, Bool.or_self, Bool.and_self] at z3 z4 z5
         go_wp2_with fail
         refine (z1 wr (Keeps.refl _ _)).mono ?_
         rintro e y1 ⟨rfl, j1⟩
         have d2 := j1.cellN d1
         have J1 : Hid (Keeps no wr y1) := j1
         clear j1
         go_wp2_with fail
         refine (z2 y1 J1.out).mono ?_
         rintro e y2 ⟨rfl, j2⟩
         have d3 := j2.cellN d2
         have J2 : Hid (Keeps no wr y2) := J1.out.trans j2
         clear j2
         go_wp2_with fail
         refine (z3 y2 J2.out).mono ?_
         rintro e y3 ⟨rfl, j3⟩
         have d4 := j3.cellN d3
         have J3 : Hid (Keeps no wr y3) := J2.out.trans j3
         clear j3
         go_wp2_with fail
         refine (z4 y3 J3.out).mono ?_
         rintro e y4 ⟨rfl, j4⟩
         have d5 := j4.cellN d4
         have J4 : Hid (Keeps no wr y4) := J3.out.trans j4
         clear j4
         go_wp2_with fail
         refine (z5 y4 J4.out).mono ?_
         rintro e y5 ⟨rfl, j5⟩
         have J5 : Hid (Keeps no wr y5) := J4.out.trans j5
         clear j5
         go_wp2_with fail
         go_roundw
         case rel => exact ⟨k + 1, by omega, by go_num, HK.out.trans J5.out⟩
         case measure => simp [intOf] <;> omega)
    · go_wp2_with fail
      go_ret
      exact ⟨rfl, KX.out.trans HK.out⟩
end Go.Proofs.Ytpfbbfbghldmjaa

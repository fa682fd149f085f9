import Derived.Test.YtdemoghlibnooaaGreatDoorZZ
import Derived.Test.YtdemoghlibnooaaGreatDoorZN
/- CompactWhole in pure functions: what the files say, round by round. -/
namespace Go.Proofs.YtdemoghlibnooaaGreatDoor
open Go.RowKit Orl Pk Go.Sort
set_option linter.unusedVariables false
set_option linter.unusedSimpArgs false

/-- the files of generation g say Sa; U: versions at most, V: bytes of the log at most -/
structure Gen (g : Nat) (bs : Option (List UInt8)) (rs : List Rec) (Sa : St) (U V : Nat) : Prop where
  bok : BsOk 0 g bs
  gds : Gds rs
  st : redoS 0 (bst 0 bs) rs = Sa
  nv : nvo bs + prs rs ≤ U
  lb : (rowb rs).length ≤ V
theorem gen_new : Gen 0 none [] St.new 0 0 := ⟨rfl, gds_nil, rfl, by simp [nvo, prs], by simp [rowb]⟩
theorem Gen.more {g : Nat} {bs : Option (List UInt8)} {rs : List Rec} {Sa : St} {U V U' V' : Nat} (h : Gen g bs rs Sa U V) (hU : U ≤ U') (hV : V ≤ V') : Gen g bs rs Sa U' V' := ⟨h.bok, h.gds, h.st, Nat.le_trans h.nv hU, Nat.le_trans h.lb hV⟩
theorem Gen.snoc {g : Nat} {bs : Option (List UInt8)} {rs : List Rec} {Sa : St} {U V : Nat} (h : Gen g bs rs Sa U V) {r : Rec} (hr : Gd r) : Gen g bs (rs ++ [r]) (doRec 0 Sa r) (U + r.pairs.length) (V + (enc r).length) := by
  refine ⟨h.bok, h.gds.snoc hr, ?_, ?_, ?_⟩
  · rw [redo_app, h.st]; rfl
  · rw [prs_app]; have := h.nv; simp only [prs]; omega
  · rw [rowb_snoc, List.length_append]; have := h.lb; omega
theorem Gen.next {g : Nat} {Sa : St} {U N : Nat} (hn : Nice Sa) {b : List Nat} (hb : SnOf Sa (g + 1) b) (hby : ∀ c ∈ b, c < 256) (hg : g < 1000) (hN : ∀ ls ks, Tld Sa ls ks → ks.length ≤ N) (hU : N ≤ U) (hU2 : U ≤ 2000000) : Gen (g + 1) (some (u8s b)) [] Sa U 0 := by
  obtain ⟨h1, h2, h3, h4⟩ := hn.read hb (by unfold genOk; rw [decide_eq_true_eq]; omega) hN (by omega)
  have e : nts (u8s b) = b := nts_u8s hby
  refine ⟨⟨by rw [e]; exact h1, by rw [e]; exact h2⟩, gds_nil, ?_, ?_, by simp [rowb]⟩
  · show rdS 0 (nts (u8s b)) = Sa
    rw [e]; exact h3
  · show (rdVs (bodyO (nts (u8s b)))).1.length + prs [] ≤ U
    rw [e]; simp only [prs]; omega
/-- the disk has them, and nothing else -/
structure Lv (g : Nat) (bs : Option (List UInt8)) (rs : List Rec) (t : Dk.St) : Prop where
  jv : JV g bs rs t
  on : On t
  ref : t.ref = 0
  cln : Cln g t
  sz : Sz t
theorem lv_new : Lv 0 none [] Dk.new := ⟨⟨by simp [Dk.new, Dk.Inc], rfl, .inl ⟨rfl, rfl⟩⟩, on_new, rfl, (fun q hq => by cases hq), sz_new⟩
theorem app_any {g c : Nat} {bs : Option (List UInt8)} {rs : List Rec} {t : Dk.St} (hj : JV g bs rs t) (ho : On t) (hr : t.ref = 0) (hc : Cln c t) (hz : Sz t) (hg : g < 1000) {r : Rec} (hgd : Gd r) (hl : (rowb rs).length + (enc r).length ≤ 33554432) :
    ∃ t', apd (logB g) r t = (t', 0) ∧ JV g bs (rs ++ [r]) t' ∧ On t' ∧ t'.ref = 0 ∧ Sz t' ∧ t'.fs = Dk.put (logB g) (fl (bsOf (logB g) t ++ u8s (enc r))) t.fs := by
  refine ⟨_, apd_on hj.inc ho hr (log_good (by omega) (by omega)) (fun _ => by have := cln_len hj.inc hc; omega) hgd.encE, hj.app r, ho.lay1 _ _, hr, ?_, rfl⟩
  refine hz.putZ (n := logB g) (f := fl (bsOf (logB g) t ++ u8s (enc r))) ?_ rfl
  show (bsOf (logB g) t ++ u8s (enc r)).length ≤ _
  rw [szB_log, hj.lbs, List.length_append, u8s_length, u8s_length]
  exact hl
theorem Lv.app {g : Nat} {bs : Option (List UInt8)} {rs : List Rec} {t : Dk.St} (h : Lv g bs rs t) (hg : g < 1000) {r : Rec} (hgd : Gd r) (hl : (rowb rs).length + (enc r).length ≤ 33554432) : ∃ t', apd (logB g) r t = (t', 0) ∧ Lv g bs (rs ++ [r]) t' := by
  obtain ⟨t', h1, h2, h3, h4, h5, h6⟩ := app_any h.jv h.on h.ref h.cln h.sz hg hgd hl
  refine ⟨t', h1, h2, h3, h4, fun q hq => ?_, h5⟩
  rw [h6] at hq
  rcases Dk.mem_put.1 hq with e | e
  · rw [e]; exact .inr rfl
  · exact h.cln q e.1
theorem Lv.bs {g : Nat} {bs : Option (List UInt8)} {rs : List Rec} {t : Dk.St} (h : Lv g bs rs t) : (bsOf (logB g) t).length = (rowb rs).length := by rw [h.jv.lbs, u8s_length]
/-- behind compaction, the power on or off -/
structure Md (g : Nat) (bs : Option (List UInt8)) (rs : List Rec) (t : Dk.St) : Prop where
  jv : JV g bs rs t
  ref : t.ref = 0
  sz : Sz t
theorem Lv.md {g : Nat} {bs : Option (List UInt8)} {rs : List Rec} {t : Dk.St} (h : Lv g bs rs t) : Md g bs rs t := ⟨h.jv, h.ref, h.sz⟩
theorem crash_ref (k : Int) (t : Dk.St) : (Dk.crash k t).ref = t.ref := by unfold Dk.crash; split <;> rfl
/-- opened again behind a crash -/
theorem Md.boot {g : Nat} {bs : Option (List UInt8)} {rs : List Rec} {t : Dk.St} {Sa : St} {U V : Nat} (h : Md g bs rs t) (hG : Gen g bs rs Sa U V) (k : Int) : ∃ t', Boot 0 (Dk.up (Dk.crash k t)) t' 0 g Sa (rowb rs).length ∧ Lv g bs rs t' ∧ Sz (Dk.up (Dk.crash k t)) ∧ ∀ N, NvB (Dk.up (Dk.crash k t)) N → N ≤ U := by
  have hj : JV g bs rs (Dk.up (Dk.crash k t)) := (h.jv.crash k).of_fs rfl
  have hz : Sz (Dk.up (Dk.crash k t)) := h.sz.crash k
  have ho : On (Dk.up (Dk.crash k t)) := ⟨rfl, rfl⟩
  obtain ⟨t', hb⟩ := jv_boot hj ho hG.bok hG.gds
  refine ⟨t', by have := hb.boot; rw [hG.st] at this; exact this, ⟨hb.jv, hb.on, by rw [hb.ref]; show (Dk.crash k t).ref = 0; rw [crash_ref]; exact h.ref, hb.cln, fun q hq => hz q (hb.sub q hq)⟩, hz, fun N hN => Nat.le_trans (hb.nv N hN) hG.nv⟩
theorem Lv.boot {g : Nat} {bs : Option (List UInt8)} {rs : List Rec} {t : Dk.St} {Sa : St} {U V : Nat} (h : Lv g bs rs t) (hG : Gen g bs rs Sa U V) : ∃ t', Boot 0 t t' 0 g Sa (rowb rs).length ∧ Lv g bs rs t' ∧ ∀ N, NvB t N → N ≤ U := by
  obtain ⟨t', hb⟩ := jv_boot h.jv h.on hG.bok hG.gds
  exact ⟨t', by have := hb.boot; rw [hG.st] at this; exact this, ⟨hb.jv, hb.on, by rw [hb.ref]; exact h.ref, hb.cln, fun q hq => h.sz q (hb.sub q hq)⟩, fun N hN => Nat.le_trans (hb.nv N hN) hG.nv⟩
/-- an op's record -/
theorem opRec_kind (x : OV) : (opRec x).kind = if x.k = 2 then 2 else 1 := by unfold opRec; split <;> rfl
theorem opRec_id (x : OV) : (opRec x).id = idn x.i := by unfold opRec; split <;> rfl
theorem opRec_pairs (x : OV) : (opRec x).pairs.length ≤ 6 := by
  unfold opRec
  split
  · simp
  · show (opPrs _ _).length ≤ 6
    rw [opPrs_len]; exact namesTo_len _ 6
theorem opRec_tiny (x : OV) : TinyR (opRec x) := by
  unfold opRec
  split
  · exact ⟨(fun p hp => by cases hp), by simp, fun k hk => by cases hk⟩
  · refine ⟨fun p hp => ?_, namesTo_len _ 6, fun k hk => by have := namesTo_size x.a 6 k hk; omega⟩
    obtain ⟨k, hk, rfl⟩ := List.mem_map.1 hp
    have := namesTo_size _ 6 k hk
    exact ⟨by simp only; omega, cut3_size x.v⟩
theorem NM_inc : Inc lts NM := by
  have h : ∀ a b : Tx, decide (a.data.toList < b.data.toList) = true → lts a b = true := fun a b h => by rw [lts_eq]; exact h
  unfold NM Inc
  refine List.pairwise_cons.2 ⟨fun q hq => h _ _ ?_, List.pairwise_cons.2 ⟨fun q hq => h _ _ ?_, List.pairwise_cons.2 ⟨fun q hq => h _ _ ?_, List.pairwise_cons.2 ⟨fun q hq => h _ _ ?_, List.pairwise_cons.2 ⟨fun q hq => h _ _ ?_, List.pairwise_cons.2 ⟨fun q hq => (by cases hq), List.Pairwise.nil⟩⟩⟩⟩⟩⟩
  · simp at hq; rcases hq with rfl | rfl | rfl | rfl | rfl <;> decide
  · simp at hq; rcases hq with rfl | rfl | rfl | rfl <;> decide
  · simp at hq; rcases hq with rfl | rfl | rfl <;> decide
  · simp at hq; rcases hq with rfl | rfl <;> decide
  · simp at hq; rcases hq with rfl; decide
theorem names_sub (b : Nat) : ∀ k, k ≤ 6 → (namesTo b k).Sublist (NM.take k)
  | 0, _ => by simp [namesTo]
  | k + 1, h => by
    rw [namesTo_succ, take_succ_getD NM k e0 (by simp [NM]; omega)]
    refine List.Sublist.append (names_sub b k (by omega)) ?_
    split
    · exact List.Sublist.refl _
    · exact List.nil_sublist _
theorem names_sub6 (b : Nat) : (namesTo b 6).Sublist NM := by
  have := names_sub b 6 (Nat.le_refl _)
  rwa [List.take_of_length_le (by simp [NM])] at this
theorem names_inc (b : Nat) : Inc lts (namesTo b 6) := List.Pairwise.sublist (names_sub6 b) NM_inc
theorem names_mem {b : Nat} {x : Tx} (h : x ∈ namesTo b 6) : x ∈ NM := (names_sub6 b).subset h
theorem NM_size {x : Tx} (h : x ∈ NM) : x.size ≤ 1 := by
  simp [NM] at h
  rcases h with rfl | rfl | rfl | rfl | rfl | rfl <;> decide
theorem bit_and {a b k : Nat} (h : bitN (a &&& b) k = true) : bitN a k = true := by
  have e : ∀ n : Nat, bitN n k = n.testBit k := fun n => by
    rw [Nat.testBit_eq_decide_div_mod_eq]
    rfl
  rw [e, Nat.testBit_and] at h
  rw [e]
  simp at h
  exact h.1
theorem names_and (a b : Nat) : ∀ k, ∀ x ∈ namesTo (a &&& b) k, x ∈ namesTo a k
  | 0, x, h => by cases h
  | k + 1, x, h => by
    rw [namesTo_succ] at h ⊢
    rcases List.mem_append.1 h with h | h
    · exact List.mem_append.2 (.inl (names_and a b k x h))
    · refine List.mem_append.2 (.inr ?_)
      by_cases e : bitN (a &&& b) k = true
      · rw [if_pos e] at h
        rw [if_pos (bit_and e)]
        exact h
      · rw [if_neg e] at h; cases h
theorem kys_op (b : Nat) (v : Tx) : kys (opPrs b v) = namesTo b 6 := by simp [kys, opPrs, Function.comp_def]
theorem opRec_may (x : OV) (h : opIs x = true) : may (opRec x) = true := by
  have hi := idn_le x.i
  unfold opIs at h
  simp only [Bool.or_eq_true, Bool.and_eq_true, decide_eq_true_eq] at h
  unfold opRec
  by_cases h2 : x.k = 2
  · rw [if_pos h2]
    unfold may
    simp only [Bool.and_eq_true, decide_eq_true_eq]
    exact ⟨hi.1, by simp⟩
  · rw [if_neg h2]
    obtain ⟨h1, hp⟩ : x.k = 1 ∧ 0 < (opPrs (x.a &&& x.b) x.v).length := by rcases h with h | h; exact absurd h h2; exact h
    rw [opPrs_len] at hp
    obtain ⟨k, hk⟩ := List.exists_mem_of_length_pos hp
    have hk1 := List.length_pos_of_mem (names_and _ _ 6 k hk)
    unfold may
    simp only [Bool.and_eq_true, decide_eq_true_eq, if_true]
    refine ⟨hi.1, ?_, ?_⟩
    · unfold mayK
      simp only [Bool.and_eq_true, decide_eq_true_eq, List.all_eq_true]
      exact ⟨⟨hk1, by have := namesTo_len x.a 6; omega⟩, fun s hs => by have := namesTo_size x.a 6 s hs; omega, (rising_iff swoT _).2 (names_inc x.a)⟩
    · unfold mayP
      simp only [Bool.and_eq_true, decide_eq_true_eq, List.all_eq_true]
      rw [kys_op]
      refine ⟨by rw [opPrs_len]; omega, fun p hp => ?_, (rising_iff swoT _).2 (names_inc _), fun s hs => (inn_iff _ _).2 (names_and _ _ 6 s hs)⟩
      obtain ⟨s, hs, rfl⟩ := List.mem_map.1 hp
      have := cut3_size x.v
      show (cut3 x.v).size ≤ _
      omega
theorem cut3_le (v : Tx) : (cut3 v).size ≤ v.size := by
  unfold cut3
  rw [ByteArray.size_extract]
  omega
theorem layP_op (v : Tx) : ∀ l : List Tx, (∀ s ∈ l, s.size ≤ 1) → (layP (l.map fun k => (k, cut3 v))).length ≤ l.length * (9 + v.size)
  | [], _ => by simp [layP]
  | k :: l, h => by
    have h1 := layP_op v l (fun s hs => h s (by simp [hs]))
    have h2 := h k (by simp)
    have h3 := cut3_le v
    simp only [List.map_cons, layP, List.flatMap_cons, List.length_append, List.length_cons] at h1 ⊢
    have e : (layP1 (k, cut3 v)).length = 8 + k.size + (cut3 v).size := by
      unfold layP1
      rw [List.length_append, txt_length, txt_length, nats_length, nats_length]
      show 4 + k.size + (4 + (cut3 v).size) = _
      omega
    rw [e, Nat.succ_mul]
    omega
theorem keys_op : ∀ l : List Tx, (∀ s ∈ l, s.size ≤ 1) → bodyLen (natss l) ≤ 5 * l.length
  | [], _ => by simp [natss, bodyLen]
  | k :: l, h => by
    have h1 := keys_op l (fun s hs => h s (by simp [hs]))
    have h2 := h k (by simp)
    have e : bodyLen (natss (k :: l)) = 4 + (nats k).length + bodyLen (natss l) := rfl
    rw [e, nats_length, List.length_cons]
    omega
theorem opRec_len (x : OV) : (body (opRec x)).length + 8 ≤ 109 + 6 * x.v.size := by
  unfold opRec body layF
  by_cases h2 : x.k = 2
  · rw [if_pos h2]
    simp [num_length]
    omega
  · rw [if_neg h2]
    simp only [if_true, List.length_append, num_length, txts_length]
    have h1 := layP_op x.v (namesTo (x.a &&& x.b) 6) (fun s hs => namesTo_size _ 6 s hs)
    have h3 := keys_op (namesTo x.a 6) (fun s hs => namesTo_size _ 6 s hs)
    have h4 := namesTo_len (x.a &&& x.b) 6
    have h5 := namesTo_len x.a 6
    have h6 : (namesTo (x.a &&& x.b) 6).length * (9 + x.v.size) ≤ 6 * (9 + x.v.size) := Nat.mul_le_mul_right _ h4
    have h7 : (layP (opPrs (x.a &&& x.b) x.v)).length ≤ (namesTo (x.a &&& x.b) 6).length * (9 + x.v.size) := h1
    omega
/-- the size of a record's values is cut: it fits a record -/
theorem opRec_len3 (x : OV) : (body (opRec x)).length ≤ 2000 := by
  have h := opRec_len ⟨x.k, x.i, x.a, x.b, cut3 x.v⟩
  have e : opRec ⟨x.k, x.i, x.a, x.b, cut3 x.v⟩ = opRec x := by
    have e1 : cut3 (cut3 x.v) = cut3 x.v := by
      have h3 := cut3_size x.v
      have e2 : ∀ y : Tx, y.size ≤ 300 → cut3 y = y := fun y hy => by
        unfold cut3
        rw [show (min (y.size : Int) 300).toNat = y.size by omega]
        exact ByteArray.extract_zero_size
      exact e2 _ h3
    unfold opRec opPrs
    simp only [e1]
  rw [e] at h
  have := cut3_size x.v
  simp only at h
  omega
theorem opRec_gd (x : OV) (h : opIs x = true) : Gd (opRec x) := ⟨opRec_may x h, by rw [opRec_id]; exact idn_lt _, by have := opRec_len3 x; omega⟩
/-- what an op weighs -/
def wtO (x : OV) : Nat := 6 + x.v.size
theorem opRec_enc (x : OV) : (enc (opRec x)).length ≤ 19 * wtO x := by
  rw [enc_length]
  have := opRec_len x
  unfold wtO
  omega
theorem opRec_wt (x : OV) : (opRec x).pairs.length ≤ wtO x := by have := opRec_pairs x; unfold wtO; omega
/-- commits that nobody's write has -/
def cmX (i : Nat) : Rec := ⟨2, i, [], []⟩
theorem cmX_gd {i : Nat} (h : 65536 ≤ i) (h2 : i < 18446744073709551616) : Gd (cmX i) := by
  refine ⟨?_, h2, ?_⟩
  · unfold may cmX
    simp only [Bool.and_eq_true, decide_eq_true_eq]
    exact ⟨h, by simp⟩
  · unfold body layF cmX
    simp [num_length]
theorem cmX_enc (i : Nat) : (enc (cmX i)).length = 17 := by
  rw [enc_length]
  unfold body layF cmX
  simp [num_length]
end Go.Proofs.YtdemoghlibnooaaGreatDoor

import Derived.Test.YtagekdmkidbhpaaI4
/- Kept. -/
namespace Go.Proofs.Ytagekdmkidbhpaa
open Go.RowKit Go.Maps Go.Sort Orl
set_option linter.unusedVariables false
set_option linter.unusedSimpArgs false

/-- a version told, in memory -/
structure KV where
  m : Mk
  val : Tx
  o : Option Addr
  c : Nat
  keys : List Tx
  stamp : Int
def kv0 : KV := ⟨(e0, 0), e0, none, 0, [], 0⟩
def KE : El KV := ⟨71, 68, 5, 72, fun x => [.string x.m.1, .int .u64 ((x.m.2 : Nat) : Int), .string x.val, .slice x.o x.keys.length x.c, .int .i64 x.stamp]⟩
theorem infoK : (Try.prog.info? 71).map (fun i => (i.zero, i.size, i.bytes)) = some (some (.agg #[.string ⟨#[]⟩, .int .u64 0, .string ⟨#[]⟩, .slice none 0 0, .int .i64 0]), 5, 72) := by kernel_rfl
theorem okK : KE.Ok := by
  obtain ⟨i0, hi, hz0, hz1, hz2⟩ := info_parts infoK
  exact ⟨fun _ => rfl, fun x u hu => by simp [KE] at hu; rcases hu with rfl | rfl | rfl | rfl | rfl <;> rfl, by decide, Try.underlying68, i0, _, hi, hz0, hz1, hz2, rfl⟩
theorem makeK (w : World) (n : Nat) (h : n ≤ 1954687338211) : ∃ w', (Instr.makeSlice 68 (.int .i64 0) (.int .i64 (n : Int))).run Try.prog w = .ok (.slice (some ⟨w.heap.size, 0, none⟩) 0 n) w' ∧ Own KE w' (some ⟨w.heap.size, 0, none⟩) n [] ∧ Keeps no w w' := by
  obtain ⟨i0, hi, hz0, hz1, hz2⟩ := info_parts infoK
  obtain ⟨w', hr, ho, hg⟩ := run_make_own (P := Try.prog) w 0 68 71 i0 _ 5 Try.underlying68 hi hz0 hz1 .i64 .i64 n (by rw [hz2]; omega) (by unfold maxLen; omega) (Nat.zero_le _)
  exact ⟨w', hr, ho, (Keeps.refl _ _).grown hg (fun k hk => by cases hk)⟩
theorem own_oneK (w : World) (x : KV) : Sl KE (w.alloc (.cells #[.string x.m.1, .int .u64 ((x.m.2 : Nat) : Int), .string x.val, .slice x.o x.keys.length x.c, .int .i64 x.stamp] 71)) (some ⟨w.heap.size, 0, none⟩) 1 [x] := by
  refine ⟨.inr ⟨_, 0, rfl, fun j u hj => ?_⟩, by simp, fun e => by cases e⟩
  rw [Nat.zero_add, cell_of_blk (blk_new w _)]
  simpa [El.cells, KE] using hj
theorem Sl.atM {w : World} {a : Option Addr} {c : Nat} {xs : List Mk} (h : Sl ME w a c xs) {j : Nat} (hj : j < xs.length) : ∃ b off, a = some ⟨b, off, none⟩ ∧ w.cell? ⟨b, off + j * 2, none⟩ = some (.string (xs.getD j (e0, 0)).1) ∧ w.cell? ⟨b, off + j * 2 + 1, none⟩ = some (.int .u64 (((xs.getD j (e0, 0)).2 : Nat) : Int)) := by
  rcases h.row with e | ⟨b, off, rfl, hc⟩
  · subst e; simp at hj
  · refine ⟨b, off, rfl, hc (j * 2) _ ?_, ?_⟩
    · have := cells_at okMk (e0, 0) xs j 0 hj (by decide)
      simpa [ME] using this
    · rw [Nat.add_assoc]
      refine hc (j * 2 + 1) _ ?_
      have := cells_at okMk (e0, 0) xs j 1 hj (by decide)
      simpa [ME] using this
def apartK (a b : KV) : Prop := ∀ i, inO a.o i → ¬ inO b.o i
/-- what of a store is told -/
def IsKs (s : St) (ks : List KV) : Prop := ∀ x ∈ ks, s.V x.m = some ⟨x.val, x.keys, x.stamp⟩
/-- a list of versions told: new, each by itself -/
structure Kl (w : World) (ks : List KV) (o : Option Addr) (c : Nat) (w' : World) : Prop where
  own : Own KE w' o c ks
  key : ∀ x ∈ ks, Own TE w' x.o x.c x.keys ∧ New w x.o
  apart : ks.Pairwise apartK
  new : New w o
  keep : Keeps no w w'
theorem tags_ne {α β : Type} {E : El α} {D : El β} {w : World} {o p : Option Addr} {c d : Nat} {xs : List α} {ys : List β} (h : Own E w o c xs) (k : Own D w p d ys) (hne : E.e ≠ D.e) : ∀ i, inO o i → ¬ inO p i := by
  intro i hi hj
  obtain ⟨c1, h1⟩ := h.tag i hi
  obtain ⟨c2, h2⟩ := k.tag i hj
  rw [h1] at h2
  injection h2 with h2
  injection h2 with _ h2 _
  exact hne h2
theorem kt_ne : KE.e ≠ TE.e := by decide
theorem Kl.keeps {w : World} {ks : List KV} {o : Option Addr} {c : Nat} {w' w'' : World} (h : Kl w ks o c w') (hk : Keeps no w' w'') : Kl w ks o c w'' :=
  ⟨h.own.keepsN hk, fun x hx => ⟨(h.key x hx).1.keepsN hk, (h.key x hx).2⟩, h.apart, h.new, h.keep.trans hk⟩
/-- one more -/
theorem Kl.push {w : World} {ks : List KV} {o : Option Addr} {c : Nat} {w1 w2 w3 : World} (h : Kl w ks o c w1) {x : KV} (hx : Own TE w2 x.o x.c x.keys) (hn : New w1 x.o) (hk : Keeps no w1 w2) {o' : Option Addr} {c' : Nat} (ho : Own KE w3 o' c' (ks ++ [x])) (ha : Ap w2 o o' w3) : Kl w (ks ++ [x]) o' c' w3 := by
  have h2 := h.keeps hk
  have hnw := ha.new h.new h2.keep
  have hkp : ∀ {y : KV}, Own TE w2 y.o y.c y.keys → Own TE w3 y.o y.c y.keys := fun {y} hy => by
    rcases ha with ⟨rfl, ha⟩ | ⟨_, ha⟩
    · exact hy.keeps ha (fun i hi hj => tags_ne h2.own hy kt_ne i hj hi)
    · exact hy.keepsN ha
  refine ⟨ho, fun y hy => ?_, ?_, hnw.1, hnw.2⟩
  · rcases List.mem_append.1 hy with hy | hy
    · exact ⟨hkp (h2.key y hy).1, (h2.key y hy).2⟩
    · simp at hy; subst hy
      exact ⟨hkp hx, hn.of_le h.keep.size⟩
  · rw [List.pairwise_append]
    refine ⟨h.apart, by simp, fun a ha' b hb => ?_⟩
    simp at hb; subst hb
    intro i hi hj
    have := (h.key a ha').1.lt i hi
    have := hn i hj
    omega
set_option maxRecDepth 10000 in
set_option maxHeartbeats 1000000 in
theorem kept_any (w : World) (p : Nat) (T : Nat → Option Ro) (s : St) (N : Nat) (h : IsS w p T s N) (hok : OkV s) (hN : N ≤ 1954687338211) :
    Calls Try.prog 38 #[.pointer (some ⟨p, 0, none⟩)] w fun e w' => ∃ v, e = .returned v ∧ ∃ o n c ks, v = .slice o n c ∧ Hid (n = ks.length) ∧ Hid (Kl w ks o c w' ∧ IsKs s ks ∧ Inc ltM (ks.map (·.m)) ∧ ∀ m, s.V m ≠ none → m ∈ ks.map (·.m)) ∧ Hid (ks.length ≤ N) := by
  obtain ⟨y, h⟩ := h
  have HN : Hid (y.V.length ≤ N ∧ N ≤ 1954687338211) := ⟨h.nv, hN⟩
  have c0 := h.c0
  have hlen := fun ty => h.mv.len (t := 73) (e := 90) Try.underlying73 ty
  obtain ⟨q, hq⟩ : ∃ q, q = y.V.length := ⟨_, rfl⟩
  rw [← hq] at hlen
  have HQ : Hid (q = y.V.length) := hq
  obtain ⟨w1, hr1, ho1, hk1⟩ := makeK w q (by rw [hq]; have := HN.out; omega)
  have c01 := hk1.cellN c0
  have hks := keysM_any w1 (some y.vm)
  have hk2 : Keeps no w (w1.alloc (.cells #[.map (some y.vm)] 73)) := hk1.alloc _
  have hso := sortedM_any w1.heap.size y.vm y.V (by have := HN.out; omega) (w1.alloc (.cells #[.map (some y.vm)] 73)) (cell_of_blk (blk_new w1 _) 0) (h.mv.keepsN hk2)
  have HS : Hid (SL w p T s N y) := h
  have HO : Hid (OkV s) := hok
  have HK1 : Hid (Own KE w1 (some ⟨w.heap.size, 0, none⟩) q [] ∧ Keeps no w w1) := ⟨ho1, hk1⟩
  clear h hok hN hq ho1 hk1 hk2
  go_enter Try.func38, Try.ntmps38
  go_wp2_with (first | (go_at_call 53; refine hks.mono ?_; rintro e w' ⟨rfl, rfl⟩) | (go_at_call 52; refine hso.mono ?_; rintro e w2 ⟨v2, rfl, o2, n2, d2, ms, rfl, hn2, hp2, hi2, ho2, hnw2, hkp2⟩; have H2 : Hid (n2 = ms.length ∧ ms.Perm (y.V.map (·.1)) ∧ Inc ltM ms ∧ Own ME w2 o2 d2 ms ∧ Keeps no w1 w2) := ⟨hn2.out, hp2, hi2, ho2, ((Keeps.refl no w1).alloc _).trans hkp2⟩; clear hn2 hp2 hi2 ho2 hnw2 hkp2))
  have h2n : Hid (n2 ≤ 1954687338211) := (show _ ≤ _ by rw [H2.out.1, H2.out.2.1.length_eq, List.length_map]; have := HN.out; omega)
  have h2n' : (n2 : Int) ≤ 1954687338211 := by have := h2n.out; omega
  clear hks hso hr1 hlen c01 c0
  go_loopw [3, 5, 19] (fun s3 _ i wr => ∃ (k : Nat) (v : Value), k ≤ n2 ∧ i = .int .i64 k ∧ s3 = v ∧ Hid (∃ o m d ks, v = .slice o m d ∧ m = ks.length ∧ Kl w ks o d wr ∧ IsKs s ks ∧ ks.map (·.m) = ms.take k ∧ Own ME wr o2 d2 ms)) (fun _ _ i _ => n2 - (intOf i).toNat)
  case atStart => exact ⟨0, _, by omega, rfl, rfl, _, _, _, [], rfl, rfl, ⟨HK1.out.1.keepsN H2.out.2.2.2.2, (fun x hx => by cases hx), List.Pairwise.nil, new_fresh w _ (Nat.le_refl _) _, HK1.out.2.trans H2.out.2.2.2.2⟩, (fun x hx => by cases hx), by simp, H2.out.2.2.2.1⟩
  case round =>
    obtain ⟨k, v, hk, rfl, rfl, HG⟩ := hrel
    obtain ⟨o, m, d, ks, rfl, hm, hkl, hks, hkm, hom⟩ := HG.out
    have HM : Hid (m = ks.length) := hm
    have HKL : Hid (Kl w ks o d wr ∧ IsKs s ks ∧ ks.map (·.m) = ms.take k ∧ Own ME wr o2 d2 ms) := ⟨hkl, hks, hkm, hom⟩
    clear hm hkl hks hkm HG
    by_cases hlt : k < n2
    · have hka : k < ms.length := by have := H2.out.1; omega
      obtain ⟨b1, off1, rfl, d1, d1'⟩ := hom.sl.atM hka
      obtain ⟨mk, hmk⟩ : ∃ mk, mk = ms.getD k (e0, 0) := ⟨_, rfl⟩
      rw [← hmk] at d1 d1'
      have HX : Hid (mk = ms.getD k (e0, 0)) := hmk
      have hin : mk ∈ ms := by rw [hmk]; exact Orl.getD_mem_lt _ hka
      obtain ⟨mv, hmv⟩ : ∃ mv, fnd mk y.V = some mv := mem_keys.1 (H2.out.2.1.mem_iff.1 hin)
      have hsv : s.V mk = some mv.vr := by rw [HS.out.sv, hmv]; rfl
      have HSV : Hid (s.V mk = some mv.vr) := hsv
      have hX := ((Keeps.refl no wr).alloc (.cells #[.string mk.1, .int .u64 ((mk.2 : Nat) : Int)] 87))
      have ht := told_any _ p T s N mk mv.vr (IsS.keepsN (⟨y, HS.out⟩ : IsS w p T s N) (HKL.out.1.keep.trans hX)) hsv (by have := HO.out.len hsv; omega) (by have := HO.out.size hsv; omega)
      obtain ⟨mk1, mk2⟩ := mk
      simp only at d1 d1' ht hX
      have HOM : Hid (Own ME wr (some ⟨b1, off1, none⟩) d2 ms) := hom
      have HB : Hid (ks.length ≤ 1954687338211) := (show _ ≤ _ by
        have : (ks.map (·.m)).length = (ms.take k).length := by rw [HKL.out.2.2.1]
        rw [List.length_map, List.length_take] at this
        have := h2n.out; omega)
      clear hin hsv hmv hka hom hmk hX
      go_wp2_with (first | (go_at_call 36; refine ht.mono ?_; rintro e wt ⟨u, rfl, ot, nt, ct, rfl, hnt, hot, hnwt, hkt⟩; have HT : Hid (nt = mv.vr.keys.length ∧ Own TE wt ot ct mv.vr.keys ∧ New wr ot ∧ Keeps no wr wt) := ⟨hnt.out, hot, hnwt.of_le (by simp), ((Keeps.refl no wr).alloc _).trans hkt⟩; clear hnt hot hnwt hkt ht) | (at_builtin; refine wpList_app okK rfl _ _ rfl _ _ _ ks rfl HM.out ((HKL.out.1.own.keepsN HT.out.2.2.2).keepsN ((Keeps.refl _ _).alloc _)) _ _ _ [⟨(mk1, mk2), mv.vr.val, ot, ct, mv.vr.keys, mv.vr.stamp⟩] rfl rfl (fun h => by cases h) (by have hh := (own_oneK wt ⟨(mk1, mk2), mv.vr.val, ot, ct, mv.vr.keys, mv.vr.stamp⟩).row; rw [← HT.out.1] at hh; exact hh) (by have := HB.out; simp [KE]; omega) (by have := HB.out; simp; omega) ?_; intro o1 c1 w3 ho3 hap3))
      go_roundw
      case rel =>
        have hpush := HKL.out.1.push (x := ⟨(mk1, mk2), mv.vr.val, ot, ct, mv.vr.keys, mv.vr.stamp⟩) (HT.out.2.1.keepsN ((Keeps.refl no wt).alloc _)) HT.out.2.2.1 (HT.out.2.2.2.alloc _) ho3 hap3
        refine ⟨k + 1, _, by omega, by go_num, rfl, o1, _, c1, _, rfl, ?_, hpush, ?_, ?_, ?_⟩
        · rw [List.length_append, ← HM.out]; simp
        · intro x hx
          rcases List.mem_append.1 hx with hx | hx
          · exact HKL.out.2.1 x hx
          · simp at hx; subst hx; exact HSV.out
        · rw [List.map_append, HKL.out.2.2.1, take_succ_getD ms k (e0, 0) (by have := H2.out.1; omega), ← HX.out]; rfl
        · have hh := (HOM.out.keepsN HT.out.2.2.2).keepsN ((Keeps.refl no wt).alloc (.cells #[.string mk1, .int .u64 ((mk2 : Nat) : Int), .string mv.vr.val, .slice ot nt ct, .int .i64 mv.vr.stamp] 71))
          have hok := (HKL.out.1.own.keepsN HT.out.2.2.2).keepsN ((Keeps.refl no wt).alloc (.cells #[.string mk1, .int .u64 ((mk2 : Nat) : Int), .string mv.vr.val, .slice ot nt ct, .int .i64 mv.vr.stamp] 71))
          rcases hap3 with ⟨rfl, ha⟩ | ⟨_, ha⟩
          · exact hh.keeps ha (fun i hi hj => tags_ne hok hh (by decide) i hj hi)
          · exact hh.keepsN ha
      case measure => simp [intOf]; omega
    · go_wp2_with fail
      go_ret
      have hkn : k = n2 := by omega
      have e1 : ms.take k = ms := List.take_of_length_le (by have := H2.out.1; omega)
      obtain ⟨hkl, hks, hkm, hom⟩ := HKL.out
      rw [e1] at hkm
      refine ⟨_, rfl, o, m, d, ks, rfl, HM, ⟨hkl, hks, by rw [hkm]; exact H2.out.2.2.1, fun z hz => ?_⟩, ?_⟩
      · rw [hkm]
        refine H2.out.2.1.mem_iff.2 (mem_keys.2 ?_)
        rw [HS.out.sv] at hz
        cases hf : fnd z y.V with
        | none => rw [hf] at hz; exact absurd rfl hz
        | some v => exact ⟨v, rfl⟩
      · show _ ≤ _
        have : (ks.map (·.m)).length = ms.length := by rw [hkm]
        rw [List.length_map] at this
        have h3 := H2.out.2.1.length_eq
        rw [List.length_map] at h3
        have := HN.out
        omega
end Go.Proofs.Ytagekdmkidbhpaa
